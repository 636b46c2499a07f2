import PyProof.Rows.All
import Wide.All
import OpenK.AllK
import Wide.FinOn
import PySem.Challenge.RW_modulewood_k02_nets_refused
import Lean
import PyProof.EqAt
import PyProof.EqKinds
import PyProof.TupleCall
import PyProof.StationsW
import PyProof.RangeIter
import PyProof.FactsTree
import PyProof.ExcClass2
import PyProof.ExcArgsOwn
import KE.KIsAll
import PyProof.NeKinds
import PyProof.WalkInts
import PyProof.Rows.CallKwBuiltin
set_option Elab.async false
set_option linter.all false
set_option maxRecDepth 100000
namespace L2
theorem ex5 {α β : Sort _} {p q r : α → β → Prop} {C : Prop} (h : ∃ a b, p a b ∧ q a b ∧ r a b) (k : ∀ a b, p a b → q a b → r a b → C) : C := h.elim fun a h => h.elim fun b h => k a b h.1 h.2.1 h.2.2
open PySem PySem.Spec PyProof.Rows
/-- a tuple with no dict of its own -/
noncomputable def TupN (h : Heap) (a : Addr) (items : Array Value) : Prop := ∃ n, h.get? a = some { cls := .type "tuple", data := .seq items n }
theorem TupN.is {h : Heap} {a : Addr} {items : Array Value} (x : TupN h a items) : IsTup h a items := let ⟨n, e⟩ := x; ⟨_, e, rfl, n, rfl⟩
theorem TupN.new (h : Heap) (items : Array Value) : TupN (h.push { cls := .type "tuple", data := .seq items }) h.objs.size items := ⟨_, Heap.get?_push_size _ rfl⟩
/-- a key: an int or a str -/
noncomputable abbrev Key := Sum Int Str
noncomputable def keyIs : Key → Value → Bool
  | .inl k, v => Value.isInt k v
  | .inr x, v => Value.isStrOf x v
noncomputable def keyH (w : World) : Key → Int
  | .inl k => hashInt k
  | .inr x => hashStr w x
theorem keyIs_shape : ∀ {k : Key} {v : Value}, keyIs k v = true → (∃ i t, k = Sum.inl i ∧ v = Value.int i t) ∨ (∃ x t, k = Sum.inr x ∧ v = Value.str x t)
  | .inl i, v, h => by
    obtain ⟨t, e⟩ := Value.isInt_shape (k := i) (v := v) h
    exact .inl ⟨i, t, rfl, e⟩
  | .inr x, v, h => by
    obtain ⟨t, e⟩ := Value.isStrOf_shape (x := x) (v := v) h
    exact .inr ⟨x, t, rfl, e⟩
theorem keyIs_int (i : Int) (t : Tok) : keyIs (.inl i) (.int i t) = true := by simp [keyIs, Value.isInt]
theorem keyIs_str (x : Str) (t : Tok) : keyIs (.inr x) (.str x t) = true := by simp [keyIs, Value.isStrOf]
theorem key_ll (a b : Int) : decide ((Sum.inl a : Key) = Sum.inl b) = (a == b) := by
  by_cases e : a = b
  · subst e; simp
  · have h : ¬ (Sum.inl a : Key) = Sum.inl b := fun q => e (Sum.inl.inj q)
    rw [decide_eq_false h]
    exact (beq_eq_false_iff_ne.mpr e).symm
theorem key_rr (a b : Str) : decide ((Sum.inr a : Key) = Sum.inr b) = decide (a = b) := by
  by_cases e : a = b
  · subst e; simp
  · have h : ¬ (Sum.inr a : Key) = Sum.inr b := fun q => e (Sum.inr.inj q)
    rw [decide_eq_false h, decide_eq_false e]
theorem key_lr (a : Int) (b : Str) : decide ((Sum.inl a : Key) = Sum.inr b) = false := decide_eq_false (fun q => nomatch q)
theorem key_rl (a : Str) (b : Int) : decide ((Sum.inr a : Key) = Sum.inl b) = false := decide_eq_false (fun q => nomatch q)
noncomputable def mixKind (prog : Program) (w : World) : PySem.KeyKind prog w Key where
  is := keyIs
  hash := keyH w
  inj := fun v a b ha hb => by
    rcases keyIs_shape ha with ⟨i, t, rfl, rfl⟩ | ⟨x, t, rfl, rfl⟩
    · rcases keyIs_shape hb with ⟨j, u, rfl, e⟩ | ⟨y, u, rfl, e⟩
      · injection e with e1 _; rw [e1]
      · exact nomatch e
    · rcases keyIs_shape hb with ⟨j, u, rfl, e⟩ | ⟨y, u, rfl, e⟩
      · exact nomatch e
      · injection e with e1 _; rw [e1]
  byValue := fun k v h => by
    rcases keyIs_shape h with ⟨i, t, rfl, rfl⟩ | ⟨x, t, rfl, rfl⟩ <;> rfl
  pyHash := fun hv h => by
    rcases keyIs_shape hv with ⟨i, t, rfl, rfl⟩ | ⟨x, t, rfl, rfl⟩
    · exact wpAny_pyHash_int h
    · exact wpAny_pyHash_str h
  eqBool := fun hu hv h => by
    rcases keyIs_shape hu with ⟨i, t, rfl, rfl⟩ | ⟨x, t, rfl, rfl⟩
    · rcases keyIs_shape hv with ⟨j, u, rfl, rfl⟩ | ⟨y, u, rfl, rfl⟩
      · rw [key_ll] at h; exact wpAny_eqBool_int h
      · rw [key_lr] at h; exact SeqAt.EqAt.int_str i t y u _ _ _ _ h
    · rcases keyIs_shape hv with ⟨j, u, rfl, rfl⟩ | ⟨y, u, rfl, rfl⟩
      · rw [key_rl] at h; exact SeqAt.EqAt.str_int x t j u _ _ _ _ h
      · rw [key_rr] at h; exact wpAny_eqBool_str h
  «strs» := fun k x t v h => by
    rcases keyIs_shape h with ⟨i, u, rfl, e⟩ | ⟨y, u, rfl, e⟩
    · exact nomatch e
    · injection e with e1 _
      subst e1
      cases v <;> rfl
theorem mixKind_int (prog : Program) (w : World) (i : Int) (t : Tok) : (mixKind prog w).is (.inl i) (.int i t) = true := keyIs_int i t
theorem mixKind_str (prog : Program) (w : World) (x : Str) (t : Tok) : (mixKind prog w).is (.inr x) (.str x t) = true := keyIs_str x t
end L2
namespace L2
open PySem PySem.Spec PyProof.Rows
/-- a value, without the heap -/
inductive V where
  | non | bl (b : Bool) | int (i : Int) | str (x : Str) | byt (b : Array UInt8) | flt (b : UInt64) | ref (a : Addr) | ty (n : String)
  deriving DecidableEq
noncomputable def RelV : V → Value → Prop
  | .non, u => u = Value.none
  | .bl b, u => u = Value.bool b
  | .int i, u => ∃ t, u = Value.int i t
  | .str x, u => ∃ t, u = Value.str x t
  | .byt b, u => ∃ t, u = Value.bytes b t
  | .flt b, u => ∃ t, u = Value.float b t
  | .ref a, u => u = Value.ref a
  | .ty n, u => u = Value.type n
noncomputable abbrev Vals : List V → List Value → Prop := Paired RelV
theorem Vals.length {xs : List V} {us : List Value} (r : Vals xs us) : xs.length = us.length := Paired.length r
theorem Vals.get : ∀ {xs : List V} {us : List Value} {i : Nat} {x : V}, Vals xs us → xs[i]? = some x → ∃ u, us[i]? = some u ∧ RelV x u
  | _, _, _, _, .nil, e => by simp at e
  | _, _, 0, _, .cons r _, e => by simp at e; subst e; exact ⟨_, rfl, r⟩
  | _, _, i + 1, x, .cons _ t, e => by
    obtain ⟨u, h1, h2⟩ := Vals.get (i := i) (x := x) t (by simpa using e)
    exact ⟨u, by simpa using h1, h2⟩
theorem Vals.append : ∀ {xs ys : List V} {us ws : List Value}, Vals xs us → Vals ys ws → Vals (xs ++ ys) (us ++ ws)
  | _, _, _, _, .nil, s => s
  | _, _, _, _, .cons r t, s => .cons r (Vals.append t s)
theorem Vals.take : ∀ {xs : List V} {us : List Value} (n : Nat), Vals xs us → Vals (xs.take n) (us.take n)
  | _, _, 0, _ => .nil
  | _, _, _ + 1, .nil => .nil
  | _, _, n + 1, .cons r t => .cons r (Vals.take n t)
theorem Vals.drop : ∀ {xs : List V} {us : List Value} (n : Nat), Vals xs us → Vals (xs.drop n) (us.drop n)
  | _, _, 0, r => r
  | _, _, _ + 1, .nil => .nil
  | _, _, n + 1, .cons _ t => Vals.drop n t
noncomputable def RelO : Option V → Option Value → Prop
  | some v, some u => RelV v u
  | none, none => True
  | _, _ => False
noncomputable def KV {κ : Type} : List (κ × V) → List (κ × Value) → Prop := Paired fun (p : κ × V) (q : κ × Value) => p.1 = q.1 ∧ RelV p.2 q.2
/-- a key of a dict (00_mix): an int or a text -/
noncomputable def kV : Key → V
  | .inl i => .int i
  | .inr x => .str x
/-- what stands at a tracked address -/
inductive HO where
  /-- a list -/
  | lst (xs : List V)
  /-- a tuple (never changes) -/
  | tup (xs : List V)
  /-- a dict whose keys are ints and texts; one whose keys are tuples of ints and texts (the empty one is both) -/
  | dK (kvs : List (Key × V)) | dT (kvs : List (List Key × V))
  /-- a set of ints: its members, its size -/
  | set (S : Int → Bool) (n : Nat)
  /-- an instance of the class at C, its dict at dx, its attributes -/
  | ins (C dx : Addr) (fs : List (Str × V))
  /-- the dict of the instance at x -/
  | own (x : Addr)
  /-- the dict of an exception -/
  | xd (fs : List (Str × V))
  /-- a bound method, f of x -/
  | met (f x : Addr)
  /-- a range object lo, lo + 1, .. below hi -/
  | rng (lo hi : Int)
  /-- a thing that is known to the object (the script; a dict while a loop walks it): read, never written while it is so -/
  | frz (o : Obj) (u : HO)
  /-- a code object's table -/
  | tbl (ps : Array Value)
  /-- any other thing, by what is true of its one object (a def of one's own: SetO a S n := HO.ext fun h => ..) -/
  | ext (φ : Heap → Prop)
noncomputable abbrev Hp := Addr → Option HO
noncomputable def upd (H : Hp) (a : Addr) (o : HO) : Hp := fun b => if b = a then some o else H b
theorem upd_same {H : Hp} {a : Addr} {o : HO} : upd H a o a = some o := by unfold upd; rw [if_pos rfl]
theorem upd_ne {H : Hp} {a b : Addr} {o : HO} (h : b ≠ a) : upd H a o b = H b := by unfold upd; rw [if_neg h]
/-- two objects of different content stand apart -/
theorem ne_of {H : Hp} {a b : Addr} {o u : HO} (h : H a = some o) (h' : H b = some u) (d : o ≠ u) : a ≠ b := by
  intro e; subst e; rw [h] at h'; exact d (Option.some.inj h')
theorem ne_of_none {H : Hp} {a b : Addr} {o : HO} (h : H a = some o) (h' : H b = none) : a ≠ b := by
  intro e; subst e; rw [h] at h'; cases h'
section
variable (P : Program) (w : World)
noncomputable def ObjOk (H : Hp) (h : Heap) (a : Addr) : HO → Prop
  | .lst xs => xs.length ≤ sizeLine ∧ ∃ (its : List Value) (n : Nat), Vals xs its ∧ h.get? a = some { cls := .type "list", data := .seq its.toArray n }
  | .tup xs => xs.length ≤ sizeLine ∧ ∃ its : List Value, Vals xs its ∧ TupN h a its.toArray
  | .dK kvs => kvs.length ≤ sizeLine ∧ (a == sysModules) = false ∧ ∃ vs, KV kvs vs ∧ h.DictOf (mixKind P w) a vs
  | .dT kvs => kvs.length ≤ sizeLine ∧ (a == sysModules) = false ∧ ∃ xs : List (List Key × Addr × Value),
      Paired (fun (p : List Key × V) (q : List Key × Addr × Value) => p.1 = q.1 ∧ H q.2.1 = some (.tup (p.1.map kV)) ∧ RelV p.2 q.2.2) kvs xs ∧
      ∃ o es ep, h.get? a = some o ∧ o.ExactDict ∧ o.data = .dict es ep ∧ es.toList = xs.map (entryOfKey (tupleKind (mixKind P w))) ∧ (xs.map (·.1)).Nodup
  | .set S n => h.SetOf (intKind P w) a S n
  | .ins C dx fs => H dx = some (.own a) ∧ fs.length ≤ 1000 ∧ dx ≠ a ∧ h.get? a = some (PySem.W.instObj C dx) ∧
      ∃ mA, h.Ns1 dx mA ∧ (∀ f, RelO (fs.lookup f) (mA f)) ∧ PySem.Within mA (fs.map (·.1))
  | .own _ => ∃ o, h.get? a = some o
  | .xd fs => ∃ mA, h.Ns1 a mA ∧ ∀ f, RelO (fs.lookup f) (mA f)
  | .rng lo hi => ∃ t u v, h.get? a = some { cls := .type "range", data := .fields #[.int lo t, .int hi u, .int 1 v] }
  | .frz o u => h.get? a = some o ∧ ObjOk H h a u
  | .tbl ps => h.get? a = some { cls := .none, data := .fields ps }
  | .met f x => h.get? a = some (PySem.W.methodObj (.ref f) (.ref x))
  | .ext φ => φ h ∧ (∃ o, h.get? a = some o) ∧ ∀ h1 h2 : Heap, φ h1 → (∀ o, h1.get? a = some o → h2.get? a = some o) → φ h2
/-- the abstract heap is held -/
noncomputable def HOk (H : Hp) (h : Heap) : Prop := ∀ a o, H a = some o → ObjOk P w H h a o
end
section
variable {P : Program} {w : World} {H H' : Hp} {h h' : Heap} {a : Addr} {o : HO}
theorem ObjOk.lt (x : ObjOk P w H h a o) : a < h.objs.size := by
  cases o with
  | lst xs => obtain ⟨_, _, _, _, e⟩ := x; exact Heap.lt_size e
  | tup xs => obtain ⟨_, _, _, p⟩ := x; exact p.is.lt
  | dK kvs => obtain ⟨_, _, _, _, o, _, _, e, _⟩ := x; exact Heap.lt_size e
  | dT kvs => obtain ⟨_, _, _, _, o, _, _, e, _⟩ := x; exact Heap.lt_size e
  | set S n => obtain ⟨o, _, _, _, e, _⟩ := x; exact Heap.lt_size e
  | ins C dx fs => obtain ⟨_, _, _, e, _⟩ := x; exact Heap.lt_size e
  | own y => obtain ⟨_, e⟩ := x; exact Heap.lt_size e
  | xd fs => obtain ⟨_, ⟨_, _, _, e, _⟩, _⟩ := x; exact Heap.lt_size e
  | rng lo hi => obtain ⟨_, _, _, e⟩ := x; exact Heap.lt_size e
  | frz ob u => obtain ⟨e, _⟩ := x; exact Heap.lt_size e
  | tbl ps => exact Heap.lt_size (show h.get? a = some _ from x)
  | met f y => exact Heap.lt_size (show h.get? a = some _ from x)
  | ext φ => obtain ⟨_, ⟨_, e⟩, _⟩ := x; exact Heap.lt_size e
theorem Paired.mapP {α β : Type} {F G : α → β → Prop} : ∀ {l₁ : List α} {l₂ : List β}, Paired F l₁ l₂ → (∀ a b, F a b → G a b) → Paired G l₁ l₂
  | _, _, .nil, _ => .nil
  | _, _, .cons r t, f => .cons (f _ _ r) (Paired.mapP t f)
/-- what an object's description leans on: its own object, its own dict, the tuples -/
theorem ObjOk.stay (x : ObjOk P w H h a o) (k : ∀ b u, (b = a ∨ H b = some (.own a)) → h.get? b = some u → h'.get? b = some u)
    (ho : ∀ b, H b = some (.own a) → H' b = some (.own a)) (ht : ∀ b xs, H b = some (.tup xs) → H' b = some (.tup xs)) : ObjOk P w H' h' a o := by
  induction o with
  | lst xs => obtain ⟨z, its, n, r, e⟩ := x; exact ⟨z, its, n, r, k _ _ (.inl rfl) e⟩
  | tup xs => obtain ⟨z, its, r, n, e⟩ := x; exact ⟨z, its, r, n, k _ _ (.inl rfl) e⟩
  | dK kvs => obtain ⟨z, y, vs, r, ob, es, ep, e, c⟩ := x; exact ⟨z, y, vs, r, ob, es, ep, k _ _ (.inl rfl) e, c⟩
  | dT kvs =>
    obtain ⟨z, y, xs, r, ob, es, ep, e, c⟩ := x
    exact ⟨z, y, xs, Paired.mapP r fun p q z => ⟨z.1, ht _ _ z.2.1, z.2.2⟩, ob, es, ep, k _ _ (.inl rfl) e, c⟩
  | set S n => obtain ⟨ob, es, ep, t, e, c⟩ := x; exact ⟨ob, es, ep, t, k _ _ (.inl rfl) e, c⟩
  | ins C dx fs =>
    obtain ⟨d, z, ne, e, mA, ⟨od, es, ep, e2, c⟩, r⟩ := x
    exact ⟨ho _ d, z, ne, k _ _ (.inl rfl) e, mA, ⟨od, es, ep, k _ _ (.inr d) e2, c⟩, r⟩
  | own y => obtain ⟨ob, e⟩ := x; exact ⟨ob, k _ _ (.inl rfl) e⟩
  | xd fs => obtain ⟨mA, ⟨od, es, ep, e, c⟩, r⟩ := x; exact ⟨mA, ⟨od, es, ep, k _ _ (.inl rfl) e, c⟩, r⟩
  | rng lo hi => obtain ⟨t, u, v, e⟩ := x; exact ⟨t, u, v, k _ _ (.inl rfl) e⟩
  | frz ob u ih => obtain ⟨e, q⟩ := x; exact ⟨k _ _ (.inl rfl) e, ih q⟩
  | tbl ps =>
    have e : h.get? a = some { cls := .none, data := .fields ps } := x
    show h'.get? a = some { cls := .none, data := .fields ps }
    exact k a _ (.inl rfl) e
  | met f y =>
    have e : h.get? a = some (PySem.W.methodObj (.ref f) (.ref y)) := x
    show h'.get? a = some (PySem.W.methodObj (.ref f) (.ref y))
    exact k a _ (.inl rfl) e
  | ext φ => obtain ⟨p, ⟨o, e⟩, st⟩ := x; exact ⟨st _ _ p fun o q => k _ _ (.inl rfl) q, ⟨o, k _ _ (.inl rfl) e⟩, st⟩
theorem HOk.lt (x : HOk P w H h) (e : H a = some o) : a < h.objs.size := (x a o e).lt
theorem HOk.fresh (x : HOk P w H h) (e : h.objs.size ≤ a) : H a = none := by
  cases q : H a with
  | none => rfl
  | some u => exact absurd (Nat.lt_of_lt_of_le (x.lt q) e) (Nat.lt_irrefl _)
/-- every object of the heap is kept -/
theorem HOk.kept (x : HOk P w H h) (k : ∀ b u, h.get? b = some u → h'.get? b = some u) : HOk P w H h' := fun a o e =>
  (x a o e).stay (fun b u _ q => k b u q) (fun _ q => q) fun _ _ q => q
/-- a new object is laid and tracked -/
theorem HOk.laid (x : HOk P w H h) (k : ∀ b u, h.get? b = some u → h'.get? b = some u) (hp : h.objs.size ≤ a) (new : ObjOk P w (upd H a o) h' a o) : HOk P w (upd H a o) h' := fun b u e => by
  have hn := x.fresh hp
  by_cases hb : b = a
  · subst hb; rw [upd_same] at e; cases e; exact new
  · rw [upd_ne hb] at e
    exact (x b u e).stay (fun c v _ q => k c v q) (fun c q => by rw [upd_ne (ne_of_none q hn)]; exact q) fun c xs q => by rw [upd_ne (ne_of_none q hn)]; exact q
end
/-- what may be read as u: it is u, or a known u -/
noncomputable def Rd (H : Hp) (a : Addr) (u : HO) : Prop := H a = some u ∨ ∃ o, H a = some (.frz o u)
theorem Rd.ok {P : Program} {w : World} {H : Hp} {h : Heap} {a : Addr} {u : HO} (r : Rd H a u) (x : HOk P w H h) : ObjOk P w H h a u := by
  rcases r with r | ⟨o, r⟩
  · exact x a u r
  · obtain ⟨_, q⟩ := x a _ r
    exact q
/-- what may be written -/
noncomputable def Mut : Option HO → Prop
  | some (.lst _) => True
  | some (.dK _) => True
  | some (.dT _) => True
  | some (.set _ _) => True
  | some (.ins _ _ _) => True
  | some (.ext _) => True
  | _ => False
section
variable {P : Program} {w : World} {H : Hp} {h h' : Heap} {x e : Addr} {o' : HO}
/-- the object at e is changed: x itself, or the dict of the instance x -/
theorem HOk.write (ok : HOk P w H h) (mu : Mut (H x)) (he : e = x ∨ H e = some (.own x)) (k : ∀ b u, b ≠ e → h.get? b = some u → h'.get? b = some u) (heo : ∃ u, h'.get? e = some u)
    (new : ObjOk P w (upd H x o') h' x o') : HOk P w (upd H x o') h' := fun b u q => by
  have nown : ∀ c y, H c = some (.own y) → c ≠ x := fun c y r z => by subst z; rw [r] at mu; exact mu
  have ntup : ∀ c xs, H c = some (.tup xs) → c ≠ x := fun c xs r z => by subst z; rw [r] at mu; exact mu
  by_cases hb : b = x
  · subst hb; rw [upd_same] at q; cases q; exact new
  · rw [upd_ne hb] at q
    by_cases hbe : b = e
    · have q' : H b = some (.own x) := by
        rcases he with z | z
        · exact absurd (hbe.trans z) hb
        · rw [hbe]; exact z
      rw [q] at q'; cases q'
      obtain ⟨v, hv⟩ := heo
      exact ⟨v, by rw [hbe]; exact hv⟩
    · refine (ok b u q).stay (fun c v hc r => k c v ?_ r) (fun c r => by rw [upd_ne (nown c b r)]; exact r) fun c xs r => by rw [upd_ne (ntup c xs r)]; exact r
      rcases hc with rfl | hc
      · exact hbe
      · rintro rfl
        rcases he with z | z
        · exact nown c b hc z
        · rw [hc] at z; cases z; exact hb rfl
end
structure Un (fs ex : List Addr) (H H' : Hp) (h h' : Heap) : Prop where
  keep : ∀ b o, h.get? b = some o → H b = none → b ∉ fs → b ∉ ex → h'.get? b = some o
  slot : ∀ b o, h.get? b = some o → H b = none → b ∈ fs → b ∉ ex → ∃ sl, h'.get? b = some { o with slots := sl }
  free : ∀ b o, h.get? b = some o → H b = none → b ∉ ex → H' b = none
  there : ∀ b o, h.get? b = some o → b ∉ ex → ∃ o', h'.get? b = some o'
  tups : ∀ b xs, H b = some (.tup xs) → H' b = some (.tup xs)
  frzs : ∀ b o u, H b = some (.frz o u) → H' b = some (.frz o u)
  tbls : ∀ b ps, H b = some (.tbl ps) → ∃ more, H' b = some (.tbl (ps ++ more))
section
variable {fs fs' ex ex' : List Addr} {H H1 H2 : Hp} {h h1 h2 h' : Heap} {a x e : Addr} {o : HO}
theorem Un.any (u : Un fs ex H H1 h h1) {b : Addr} {ob : Obj} (q : h.get? b = some ob) (n : H b = none) (hx : b ∉ ex) : ∃ sl, h1.get? b = some { ob with slots := sl } := by
  by_cases hb : b ∈ fs
  · exact u.slot b ob q n hb hx
  · exact ⟨ob.slots, u.keep b ob q n hb hx⟩
theorem Un.kept (k : ∀ b u, h.get? b = some u → h'.get? b = some u) : Un fs ex H H h h' :=
  ⟨fun b ob q _ _ _ => k b ob q, fun b ob q _ _ _ => ⟨ob.slots, k b ob q⟩, fun _ _ _ n _ => n, fun b ob q _ => ⟨ob, k b ob q⟩, fun _ _ q => q, fun _ _ _ q => q, fun _ ps q => ⟨#[], by rw [q]; simp⟩⟩
theorem Un.refl : Un fs ex H H h h := Un.kept fun _ _ q => q
theorem Un.laid (k : ∀ b u, h.get? b = some u → h'.get? b = some u) (hp : h.objs.size ≤ a) (hn : H a = none) : Un fs ex H (upd H a o) h h' where
  keep := fun b u q _ _ _ => k b u q
  slot := fun b u q _ _ _ => ⟨u.slots, k b u q⟩
  free := fun b u q n _ => by rw [upd_ne (Nat.ne_of_lt (Nat.lt_of_lt_of_le (Heap.lt_size q) hp))]; exact n
  there := fun b u q _ => ⟨u, k b u q⟩
  tups := fun b xs q => by rw [upd_ne (ne_of_none q hn)]; exact q
  frzs := fun b u xs q => by rw [upd_ne (ne_of_none q hn)]; exact q
  tbls := fun b ps q => ⟨#[], by rw [upd_ne (ne_of_none q hn), q]; simp⟩
theorem Un.write (mu : Mut (H x)) (he : e = x ∨ H e = some (.own x)) (k : ∀ b u, b ≠ e → h.get? b = some u → h'.get? b = some u) (heo : ∃ u, h'.get? e = some u) : Un fs ex H (upd H x o) h h' := by
  have hx : ∀ b, H b = none → b ≠ x := fun b n z => by subst z; rw [n] at mu; exact mu
  have hb : ∀ b, H b = none → b ≠ e := fun b n z => by
    subst z
    rcases he with r | r
    · exact hx b n r
    · rw [n] at r; cases r
  have hm : ∀ b u, H b = some u → ¬ Mut (some u) → b ≠ x := fun b u q nm z => by subst z; rw [q] at mu; exact nm mu
  refine ⟨fun b u q n _ _ => k b u (hb b n) q, fun b u q n _ _ => ⟨u.slots, k b u (hb b n) q⟩, fun b u q n _ => by rw [upd_ne (hx b n)]; exact n, fun b u q _ => ?_,
    fun b xs q => by rw [upd_ne (hm b _ q fun z => z)]; exact q, fun b u xs q => by rw [upd_ne (hm b _ q fun z => z)]; exact q, fun b ps q => ⟨#[], by rw [upd_ne (hm b _ q fun z => z), q]; simp⟩⟩
  by_cases hbe : b = e
  · subst hbe; exact heo
  · exact ⟨u, k b u hbe q⟩
end
noncomputable def trk (h : Heap) (H : Hp) : List Addr := (List.range h.objs.size).filter fun a => (H a).isSome
noncomputable def hidT (h : Heap) (H : Hp) : Heap := PySem.W.hideAll h (trk h H)
theorem hidT_size (h : Heap) (H : Hp) : (hidT h H).objs.size = h.objs.size := PySem.W.hideAll_size _ _
theorem hidT_get {h : Heap} {H : Hp} {b : Addr} {o : Obj} (e : h.get? b = some o) (n : H b = none) : (hidT h H).get? b = some o :=
  PySem.W.hideAll_get _ e fun hm => by
    have q : (H b).isSome = true := (List.mem_filter.mp hm).2
    rw [n] at q; simp at q
theorem of_hidT {h : Heap} {H : Hp} {b : Addr} {o : Obj} (e : (hidT h H).get? b = some o) : h.get? b = some o ∧ H b = none := by
  have e' : h.get? b = some o := PySem.W.of_hideAll (trk h H) e
  refine ⟨e', ?_⟩
  cases q : H b with
  | none => rfl
  | some x =>
    have hm : b ∈ trk h H := List.mem_filter.mpr ⟨List.mem_range.mpr (Heap.lt_size e'), by simp [q]⟩
    have z : (hidT h H).get? b = none := PySem.W.hideAll_none (trk h H) hm
    rw [z] at e; cases e
end L2
namespace L2
open PySem PySem.Spec PyProof.Rows
/-- the module's facts, over the base: the heap at the law's entry without what is tracked there -/
structure Mod (K : PySem.W.Frag) (mg : Str → Option Value) (base : Heap) : Prop where
  kin : K.In base
  glob : base.Ns mainGlobals mg
  blt : ∃ mb, base.Ns builtinsNs mb ∧ ∀ x : Str, x ≠ "__name__" → mb x = bootBuiltins x
  nolimit : base.NoLimit
/-- the context: a def's body (or a comprehension's block) running. base: fixed through the whole law; s₀, H₀: the entry; outer: the frames whose slots others may change (a def's callers); stack: all frames that run;
   ex: iterators that were made ahead of the entry and are walked here (a comprehension's); fn: the names whose cells were made at the entry (a def: all; a comprehension's block: its own); calm: not within an except suite; pn: pins that every state bears; xe: what is wanted of an exception that leaves the code -/
structure Cx where
  prog : Program
  w : World
  K : PySem.W.Frag
  mg : Str → Option Value
  base : Heap
  A : Around
  N : List Str
  s₀ : Shared
  H₀ : Hp
  env : Env
  outer : List Env
  stack : List Env
  ex : List Addr
  fn : Str → Bool
  calm : Bool
  pn : List (Addr × Obj)
  xe : Value → Shared → Prop
/-- the callers' frames -/
noncomputable def frs (l : List Env) : List Addr := l.filterMap (·.frame)
noncomputable abbrev Cx.fs (X : Cx) : List Addr := frs X.outer
noncomputable def Vis (sc : Scope) (x : Str) : Prop := sc.names.lookup x = some .local ∨ sc.names.lookup x = some .cell ∨ sc.names.lookup x = some .free
noncomputable def Loc (sc : Scope) (x : Str) : Prop := sc.names.lookup x = some .local ∨ sc.names.lookup x = some .cell
noncomputable def Look (env : Env) (h : Heap) (m : Str → Option Value) (x : Str) (u : Value) : Prop :=
  (env.kindOf x = some .local ∧ m x = some u) ∨ ((env.kindOf x = some .cell ∨ env.kindOf x = some .free) ∧ ∃ c, env.cells.lookup x = some c ∧ h.IsCell c (some u))
structure Cx.Ok (X : Cx) : Prop where
  mod : Mod X.K X.mg X.base
  kind : X.env.scope.kind = .function
  glob : X.env.globals = mainGlobals
  blt : X.env.builtins = builtinsNs
  above : X.s₀.heap.objs.size ≤ X.env.locals
  inj : ∀ x y c, X.env.cells.lookup x = some c → X.env.cells.lookup y = some c → x = y
  has : ∀ x, (X.env.kindOf x = some .cell ∨ X.env.kindOf x = some .free) → ∃ c, X.env.cells.lookup x = some c
  cab : ∀ x c, X.fn x = true → X.env.cells.lookup x = some c → X.s₀.heap.objs.size ≤ c
  hd : X.calm = true → X.A.handled = none
  frames : X.A.frames = some X.stack
  stk : X.stack = X.outer ∨ (X.stack = X.env :: X.outer ∧ X.env.frame = some X.env.locals)
  exf : ∀ b ∈ X.ex, b ≠ X.env.locals ∧ ∀ x c, X.env.cells.lookup x = some c → c ≠ b
  bs : ∀ b o, X.base.get? b = some o → X.s₀.heap.get? b = some o ∧ X.H₀ b = none
  bsz : X.base.objs.size ≤ X.s₀.heap.objs.size
  noex : ∀ b o, X.base.get? b = some o → b ∉ X.ex
  exfs : ∀ b ∈ X.ex, b ∉ X.fs
  funs : X.s₀.heap.FunFrames X.base X.outer
  frf : ∀ b ∈ X.fs, X.H₀ b = none
structure Inv (X : Cx) (pins : List (Addr × Obj)) (σ : List (Option V)) (H : Hp) (s : Shared) : Prop where
  ok : X.Ok
  os : s.os = X.s₀.os
  bare : AllBare s.gens
  base : Un X.fs X.ex X.H₀ H X.s₀.heap s.heap
  loc : ∃ m, s.heap.Ns X.env.locals m ∧ ∀ (i : Nat) (x : Str) (v : V), X.N[i]? = some x → σ[i]? = some (some v) → Vis X.env.scope x → ∃ u, RelV v u ∧ Look X.env s.heap m x u
  cell : ∀ x c, X.env.cells.lookup x = some c → ∃ v, s.heap.IsCell c v
  free : H X.env.locals = none
  freeC : ∀ x c, X.env.cells.lookup x = some c → H c = none
  pin : ∀ p ∈ X.pn ++ pins, s.heap.get? p.1 = some p.2 ∧ H p.1 = none ∧ p.1 ≠ X.env.locals ∧ p.1 ∉ X.fs ∧ ∀ v, p.2.data ≠ .cell v
  hok : HOk X.prog X.w H s.heap
  len : σ.length = X.N.length
section
variable {X : Cx} {pins : List (Addr × Obj)} {σ : List (Option V)} {H H' : Hp} {s : Shared} {h' : Heap}
theorem Cx.Ok.nofr (ok : X.Ok) {b : Addr} {o : Obj} (e : X.base.get? b = some o) : b ∉ X.fs := fun hb => by
  have := (ok.funs.mem hb).1
  rw [e] at this; cases this
theorem Inv.bs (I : Inv X pins σ H s) : ∀ b o, X.base.get? b = some o → s.heap.get? b = some o ∧ H b = none := fun b o e =>
  ⟨I.base.keep b o (I.ok.bs b o e).1 (I.ok.bs b o e).2 (I.ok.nofr e) (I.ok.noex b o e), I.base.free b o (I.ok.bs b o e).1 (I.ok.bs b o e).2 (I.ok.noex b o e)⟩
theorem Inv.bk (I : Inv X pins σ H s) : ∀ b o, X.base.get? b = some o → s.heap.get? b = some o := fun b o e => (I.bs b o e).1
theorem Inv.mod (I : Inv X pins σ H s) : Mod X.K X.mg X.base := I.ok.mod
theorem Inv.kIn (I : Inv X pins σ H s) : X.K.In s.heap := I.ok.mod.kin.keeps I.bk
theorem Inv.lt (I : Inv X pins σ H s) : X.env.locals < s.heap.objs.size := let ⟨_, hn, _⟩ := I.loc; hn.lt
theorem Inv.sz (I : Inv X pins σ H s) : X.s₀.heap.objs.size ≤ s.heap.objs.size := Nat.le_trans I.ok.above (Nat.le_of_lt I.lt)
theorem Inv.nofs (I : Inv X pins σ H s) {a : Addr} (h : s.heap.objs.size ≤ a) : a ∉ X.fs := fun hb => by
  obtain ⟨_, o, ho, _⟩ := I.ok.funs.mem hb
  exact absurd (Nat.lt_of_lt_of_le (Heap.lt_size ho) (Nat.le_trans I.sz h)) (Nat.lt_irrefl _)
theorem Inv.cne (I : Inv X pins σ H s) : ∀ x c, X.env.cells.lookup x = some c → c ≠ X.env.locals := fun x c e z => by
  obtain ⟨v, o, ho, hd⟩ := I.cell x c e
  obtain ⟨m, ⟨o', es, ep, ho', hd', _⟩, _⟩ := I.loc
  rw [z, ho'] at ho; cases ho; rw [hd'] at hd; cases hd
theorem Inv.funs (I : Inv X pins σ H s) : s.heap.FunFrames X.base X.outer := by
  have all : ∀ (l : List Env), (∀ b ∈ frs l, b ∈ X.fs) → X.s₀.heap.FunFrames X.base l → s.heap.FunFrames X.base l := by
    intro l
    induction l with
    | nil => intro _ _; trivial
    | cons env r ih =>
      intro hs hl
      obtain ⟨hk, ⟨L, o, hf, hn, ho, hd⟩, hr⟩ := hl
      have hL : L ∈ X.fs := hs L (by unfold frs; rw [List.filterMap_cons, hf]; exact List.mem_cons_self)
      obtain ⟨sl, e⟩ := I.base.slot L o ho (I.ok.frf L hL) hL fun z => I.ok.exfs L z hL
      exact ⟨hk, ⟨L, _, hf, hn, e, hd⟩, ih (fun b hb => hs b (by unfold frs; rw [List.filterMap_cons, hf]; exact List.mem_cons_of_mem _ hb)) hr⟩
  exact all X.outer (fun _ hb => hb) I.ok.funs
/-- the frames that run, for a call -/
theorem Inv.stack (I : Inv X pins σ H s) : s.heap.FunFrames X.base X.stack := by
  rcases I.ok.stk with e | ⟨e, hf⟩
  · rw [e]; exact I.funs
  · rw [e]
    obtain ⟨m, hn, _⟩ := I.loc
    refine .cons (by rw [I.ok.kind]; decide) hf hn ?_ I.funs
    exact Heap.get?_none_of_le (Nat.le_trans I.ok.bsz I.ok.above)
theorem Inv.stkSub (I : Inv X pins σ H s) : ∀ b ∈ frs X.stack, b ∈ X.env.locals :: X.fs := fun b hb => by
  rcases I.ok.stk with e | ⟨e, hf⟩
  · rw [e] at hb; exact List.mem_cons_of_mem _ hb
  · rw [e] at hb
    unfold frs at hb
    rw [List.filterMap_cons, hf] at hb
    exact hb
theorem Inv.stkFree (I : Inv X pins σ H s) : ∀ b ∈ frs X.stack, H b = none := fun b hb => by
  rcases List.mem_cons.mp (I.stkSub b hb) with e | hb
  · rw [e]; exact I.free
  · obtain ⟨_, o, ho, _⟩ := I.ok.funs.mem hb
    exact I.base.free b o ho (I.ok.frf b hb) fun z => I.ok.exfs b z hb
/-- THE STEP: the untracked objects but the frame and the records at ch are kept (the callers' frames up to slots), the frame's map is kept, the new abstract heap is held -/
theorem Inv.step {g' : Array GenState} {t' : Nat} {d' : Drawn} {ch : List Addr} (I : Inv X pins σ H s)
    (hch : ∀ b ∈ ch, (b ∈ X.ex ∨ X.s₀.heap.objs.size ≤ b) ∧ b ≠ X.env.locals ∧ (∀ x c, X.env.cells.lookup x = some c → c ≠ b) ∧ ∀ p ∈ X.pn ++ pins, p.1 ≠ b)
    (keep : ∀ b o, b ≠ X.env.locals → b ∉ X.fs → b ∉ ch → s.heap.get? b = some o → H b = none → h'.get? b = some o)
    (slot : ∀ b o, b ≠ X.env.locals → b ∈ X.fs → b ∉ ch → s.heap.get? b = some o → H b = none → ∃ sl, h'.get? b = some { o with slots := sl }) (free : ∀ b o, b ∉ ch → s.heap.get? b = some o → H b = none → H' b = none)
    (there : ∀ b o, b ∉ ch → s.heap.get? b = some o → ∃ o', h'.get? b = some o')
    (tups : ∀ b xs, H b = some (.tup xs) → H' b = some (.tup xs)) (frzs : ∀ b o u, H b = some (.frz o u) → H' b = some (.frz o u)) (tbls : ∀ b ps, H b = some (.tbl ps) → ∃ more, H' b = some (.tbl (ps ++ more)))
    (ns : ∀ m, s.heap.Ns X.env.locals m → h'.Ns X.env.locals m) (hok : HOk X.prog X.w H' h') (hg : AllBare g') :
    Inv X pins σ H' { s with heap := h', gens := g', drawn := d', toks := t' } := by
  have neL : ∀ b o, X.s₀.heap.get? b = some o → b ≠ X.env.locals := fun b o e => Nat.ne_of_lt (Nat.lt_of_lt_of_le (Heap.lt_size e) I.ok.above)
  have neC : ∀ b o, X.s₀.heap.get? b = some o → b ∉ X.ex → b ∉ ch := fun b o e hx hb => by
    rcases (hch b hb).1 with z | z
    · exact hx z
    · exact absurd (Nat.lt_of_lt_of_le (Heap.lt_size e) z) (Nat.lt_irrefl _)
  have cellK : ∀ x c, X.env.cells.lookup x = some c → ∀ v, s.heap.IsCell c v → h'.IsCell c v := fun x c e v ⟨o, ho, hd⟩ => by
    have nch : c ∉ ch := fun z => (hch c z).2.2.1 x c e rfl
    by_cases hc : c ∈ X.fs
    · obtain ⟨sl, q⟩ := slot c o (I.cne x c e) hc nch ho (I.freeC x c e)
      exact ⟨_, q, hd⟩
    · exact ⟨o, keep c o (I.cne x c e) hc nch ho (I.freeC x c e), hd⟩
  refine ⟨I.ok, I.os, hg, ⟨fun b o e n hb hx => ?_, fun b o e n hb hx => ?_, fun b o e n hx => ?_, fun b o e hx => ?_, fun b xs e => tups b xs (I.base.tups b xs e), fun b o xs e => frzs b o xs (I.base.frzs b o xs e), fun b ps e => ?_⟩, ?_, fun x c e => ?_, ?_, fun x c e => ?_, fun p hp => ?_, hok, I.len⟩
  · exact keep b o (neL b o e) hb (neC b o e hx) (I.base.keep b o e n hb hx) (I.base.free b o e n hx)
  · obtain ⟨sl, e1⟩ := I.base.slot b o e n hb hx
    obtain ⟨sl', e2⟩ := slot b _ (neL b o e) hb (neC b o e hx) e1 (I.base.free b o e n hx)
    exact ⟨sl', e2⟩
  · obtain ⟨o', e1⟩ := I.base.there b o e hx
    exact free b o' (neC b o e hx) e1 (I.base.free b o e n hx)
  · obtain ⟨o', e1⟩ := I.base.there b o e hx
    exact there b o' (neC b o e hx) e1
  · obtain ⟨m1, e1⟩ := I.base.tbls b ps e
    obtain ⟨m2, e2⟩ := tbls b _ e1
    exact ⟨m1 ++ m2, by rw [e2, Array.append_assoc]⟩
  · obtain ⟨m, hn, hl⟩ := I.loc
    refine ⟨m, ns m hn, fun i x v e1 e2 e3 => ?_⟩
    obtain ⟨u, r, l⟩ := hl i x v e1 e2 e3
    refine ⟨u, r, ?_⟩
    rcases l with l | ⟨k, c, e, z⟩
    · exact .inl l
    · exact .inr ⟨k, c, e, cellK x c e _ z⟩
  · obtain ⟨v, z⟩ := I.cell x c e
    exact ⟨v, cellK x c e v z⟩
  · obtain ⟨m, ⟨o, _, _, ho, _⟩, _⟩ := I.loc
    exact free _ o (fun z => (hch _ z).2.1 rfl) ho I.free
  · obtain ⟨v, o, ho, hd⟩ := I.cell x c e
    exact free c o (fun z => (hch c z).2.2.1 x c e rfl) ho (I.freeC x c e)
  · obtain ⟨e, n, ne, nf, d⟩ := I.pin p hp
    have nch : p.1 ∉ ch := fun z => (hch p.1 z).2.2.2 p hp rfl
    exact ⟨keep p.1 p.2 ne nf nch e n, free p.1 p.2 nch e n, ne, nf, d⟩
/-- .. where the frame's own object is kept too -/
theorem Inv.un {t' : Nat} (I : Inv X pins σ H s) (u : Un X.fs [] H H' s.heap h') (hok : HOk X.prog X.w H' h') : Inv X pins σ H' { s with heap := h', toks := t' } := by
  obtain ⟨m, ⟨o, es, ep, ho, r⟩, _⟩ := id I.loc
  obtain ⟨sl, hL⟩ := u.any ho I.free (by simp)
  exact I.step (g' := s.gens) (d' := s.drawn) (ch := []) (fun _ z => nomatch z) (fun b o _ hb _ e n => u.keep b o e n hb (by simp)) (fun b o _ hb _ e n => u.slot b o e n hb (by simp)) (fun b o _ e n => u.free b o e n (by simp)) (fun b o _ e => u.there b o e (by simp)) u.tups u.frzs u.tbls (fun m' hm => by
    obtain ⟨o', es', ep', ho', r'⟩ := hm
    rw [ho] at ho'; cases ho'
    exact ⟨_, es', ep', hL, r'⟩) hok I.bare
/-- behind a call (or a comprehension's block): the slots of this frame may have changed too, the records at ch may have turned -/
theorem Inv.call {g' : Array GenState} {t' : Nat} {d' : Drawn} {ch : List Addr} (I : Inv X pins σ H s) (u : Un (frs X.stack) ch H H' s.heap h') (hok : HOk X.prog X.w H' h') (hg : AllBare g')
    (hch : ∀ b ∈ ch, (b ∈ X.ex ∨ X.s₀.heap.objs.size ≤ b) ∧ b ≠ X.env.locals ∧ (∀ x c, X.env.cells.lookup x = some c → c ≠ b) ∧ ∀ p ∈ X.pn ++ pins, p.1 ≠ b) :
    Inv X pins σ H' { s with heap := h', gens := g', drawn := d', toks := t' } := by
  obtain ⟨m, ⟨o, es, ep, ho, r⟩, _⟩ := id I.loc
  obtain ⟨sl, hL⟩ := u.any ho I.free fun z => (hch _ z).2.1 rfl
  exact I.step (ch := ch) hch (fun b o hL hb hc e n => u.keep b o e n (fun z => (List.mem_cons.mp (I.stkSub b z)).elim hL hb) hc) (fun b o _ _ hc e n => u.any e n hc) (fun b o hc e n => u.free b o e n hc) (fun b o hc e => u.there b o e hc) u.tups u.frzs u.tbls (fun m' hm => by
    obtain ⟨o', es', ep', ho', r'⟩ := hm
    rw [ho] at ho'; cases ho'
    exact ⟨_, es', ep', hL, r'⟩) hok hg
/-- an untracked record of ours (an iterator) has turned -/
theorem Inv.turned {t' : Nat} {it : Addr} (I : Inv X pins σ H s) (k : ∀ b o, b ≠ it → s.heap.get? b = some o → h'.get? b = some o) (hn : H it = none) (hL : it ≠ X.env.locals)
    (h1 : it ∈ X.ex ∨ X.s₀.heap.objs.size ≤ it) (h2 : ∀ x c, X.env.cells.lookup x = some c → c ≠ it) (h3 : ∀ p ∈ X.pn ++ pins, p.1 ≠ it) : Inv X pins σ H { s with heap := h', toks := t' } := by
  have nit : ∀ b u, H b = some u → b ≠ it := fun b u e z => by rw [z, hn] at e; cases e
  refine I.step (g' := s.gens) (d' := s.drawn) (ch := [it]) (fun b hb => ?_) (fun b o _ _ hc e _ => k b o (fun z => hc (by simp [z])) e) (fun b o _ _ hc e _ => ⟨o.slots, k b o (fun z => hc (by simp [z])) e⟩) (fun _ _ _ _ n => n)
    (fun b o hc e => ⟨o, k b o (fun z => hc (by simp [z])) e⟩) (fun _ _ e => e) (fun _ _ _ e => e) (fun b ps e => ⟨#[], by rw [e]; simp⟩) (fun m hm => ?_) (fun b u e => ?_) I.bare
  · have e : b = it := by simpa using hb
    subst e
    exact ⟨h1, hL, h2, h3⟩
  · obtain ⟨o, es, ep, ho, r⟩ := hm
    exact ⟨o, es, ep, k _ o (Ne.symm hL) ho, r⟩
  · refine (I.hok b u e).stay (fun c v hc q => k c v ?_ q) (fun _ q => q) fun _ _ q => q
    rcases hc with z | z
    · rw [z]; exact nit b u e
    · exact nit c _ z
theorem Inv.tok (I : Inv X pins σ H s) (t : Nat) : Inv X pins σ H { s with toks := t } := I.un (h' := s.heap) (t' := t) Un.refl I.hok
/-- all objects kept -/
theorem Inv.kept {t' : Nat} (I : Inv X pins σ H s) (k : ∀ b u, s.heap.get? b = some u → h'.get? b = some u) : Inv X pins σ H { s with heap := h', toks := t' } := I.un (Un.kept k) (I.hok.kept k)
/-- a new object laid and tracked -/
theorem Inv.laid {a : Addr} {o : HO} {t' : Nat} (I : Inv X pins σ H s) (k : ∀ b u, s.heap.get? b = some u → h'.get? b = some u) (hp : s.heap.objs.size ≤ a) (new : ObjOk X.prog X.w (upd H a o) h' a o) :
    Inv X pins σ (upd H a o) { s with heap := h', toks := t' } := I.un (Un.laid k hp (I.hok.fresh hp)) (I.hok.laid k hp new)
/-- an object written -/
theorem Inv.write {x e : Addr} {o : HO} {t' : Nat} (I : Inv X pins σ H s) (mu : Mut (H x)) (he : e = x ∨ H e = some (.own x)) (k : ∀ b u, b ≠ e → s.heap.get? b = some u → h'.get? b = some u) (heo : ∃ u, h'.get? e = some u)
    (new : ObjOk X.prog X.w (upd H x o) h' x o) : Inv X pins σ (upd H x o) { s with heap := h', toks := t' } := I.un (Un.write mu he k heo) (I.hok.write mu he k heo new)
theorem Inv.pins_of {pins' : List (Addr × Obj)} (I : Inv X pins σ H s) (h : ∀ p ∈ pins', s.heap.get? p.1 = some p.2 ∧ H p.1 = none ∧ p.1 ≠ X.env.locals ∧ p.1 ∉ X.fs ∧ ∀ v, p.2.data ≠ .cell v) : Inv X pins' σ H s :=
  ⟨I.ok, I.os, I.bare, I.base, I.loc, I.cell, I.free, I.freeC, fun p hp => (List.mem_append.mp hp).elim (fun z => I.pin p (List.mem_append_left _ z)) (h p), I.hok, I.len⟩
theorem nodup_ix {N : List Str} (hN : N.Nodup) {i j : Nat} {x : Str} (a : N[i]? = some x) (b : N[j]? = some x) : i = j := by
  obtain ⟨h1, e1⟩ := List.getElem?_eq_some_iff.mp a
  obtain ⟨h2, e2⟩ := List.getElem?_eq_some_iff.mp b
  exact (List.getElem_inj hN).mp (e1.trans e2.symm)
/-- a name is stored; what changed -/
theorem store_ok2 {M : Model} {A : Around} {E : Value → Shared → Prop} {i : Nat} {x : Str} {v : V} {u : Value} {Q : Unit → Shared → Prop} (I : Inv X pins σ H s) (hN : X.N.Nodup) (hi : X.N[i]? = some x) (hx : Loc X.env.scope x) (r : RelV v u)
    (h : ∀ s', Inv X pins (σ.set i (some v)) H s' → (∃ a, Heap.SameBut a s.heap s'.heap ∧ (a = X.env.locals ∨ X.env.cells.lookup x = some a)) → Q () s') (hf : X.fn x = true ∨ X.env.scope.names.lookup x = some .local := by first | exact .inl rfl | exact .inr rfl | assumption) : wpAny M A (storeName X.env x u) Q E s := by
  obtain ⟨m, hn, hl⟩ := id I.loc
  have hcls : (X.env.scope.kind == .class || (X.env.scope.kind == .module && X.env.locals != X.env.globals)) = false := by rw [I.ok.kind]; rfl
  have hiσ : i < σ.length := by rw [I.len]; exact (List.getElem?_eq_some_iff.mp hi).1
  have cne := I.cne
  have tracked : ∀ {a : Addr} {h' : Heap}, (∃ o, s.heap.get? a = some o ∧ H a = none) → Heap.SameBut a s.heap h' → HOk X.prog X.w H h' := fun {a h'} ha hs b ob e => by
    obtain ⟨_, _, hfree⟩ := ha
    refine (I.hok b ob e).stay (fun c w' hc q => (hs.2 c ?_).trans q) (fun _ q => q) fun _ _ q => q
    rintro rfl
    rcases hc with rfl | hc
    · rw [hfree] at e; cases e
    · rw [hfree] at hc; cases hc
  rcases hx with hk | hk
  · refine wpAny_storeName_local hk hn (fun h' hn' hs => ?_) hcls
    obtain ⟨oL, _, _, hoL, _⟩ := id hn
    refine h _ ⟨I.ok, I.os, I.bare, ⟨fun b o e n hb hx => ?_, fun b o e n hb hx => ?_, I.base.free, fun b o e hx => ?_, I.base.tups, I.base.frzs, I.base.tbls⟩, ⟨_, hn', fun j y v' e1 e2 e3 => ?_⟩, fun y c e => ?_, I.free, I.freeC, fun p hp => ?_, tracked ⟨oL, hoL, I.free⟩ hs, by simpa using I.len⟩ ⟨_, hs, .inl rfl⟩
    · exact (hs.2 b (Nat.ne_of_lt (Nat.lt_of_lt_of_le (Heap.lt_size e) I.ok.above))).trans (I.base.keep b o e n hb hx)
    · obtain ⟨sl, e1⟩ := I.base.slot b o e n hb hx
      exact ⟨sl, (hs.2 b (Nat.ne_of_lt (Nat.lt_of_lt_of_le (Heap.lt_size e) I.ok.above))).trans e1⟩
    · obtain ⟨o', e1⟩ := I.base.there b o e hx
      exact ⟨o', (hs.2 b (Nat.ne_of_lt (Nat.lt_of_lt_of_le (Heap.lt_size e) I.ok.above))).trans e1⟩
    · by_cases hj : j = i
      · subst hj
        rw [hi] at e1; cases e1
        rw [List.getElem?_set_self hiσ] at e2
        cases e2
        exact ⟨u, r, .inl ⟨hk, by simp⟩⟩
      · rw [List.getElem?_set_ne (Ne.symm hj)] at e2
        obtain ⟨u', r', q⟩ := hl j y v' e1 e2 e3
        refine ⟨u', r', ?_⟩
        rcases q with ⟨k, e⟩ | ⟨k, c, e, z⟩
        · refine .inl ⟨k, ?_⟩
          have : y ≠ x := fun e => hj (nodup_ix hN e1 (e ▸ hi))
          simp [this, e]
        · exact .inr ⟨k, c, e, z.sameBut hs (cne y c e)⟩
    · obtain ⟨w', z⟩ := I.cell y c e
      exact ⟨w', z.sameBut hs (cne y c e)⟩
    · obtain ⟨e, n, ne, nf, d⟩ := I.pin p hp
      exact ⟨(hs.2 p.1 ne).trans e, n, ne, nf, d⟩
  · have hfn : X.fn x = true := by
      rcases hf with z | z
      · exact z
      · rw [z] at hk; cases hk
    obtain ⟨c, hc⟩ := I.ok.has x (.inl hk)
    obtain ⟨w', z⟩ := I.cell x c hc
    refine wpAny_storeName_cell I.ok.kind hk hc z (fun h' hc' hs => ?_)
    obtain ⟨oc, hoc, hocd⟩ := id z
    refine h { s with heap := h' } ⟨I.ok, I.os, I.bare, ⟨fun b o e n hb hx => ?_, fun b o e n hb hx => ?_, I.base.free, fun b o e hx => ?_, I.base.tups, I.base.frzs, I.base.tbls⟩, ⟨m, hn.sameBut hs (Ne.symm (cne x c hc)), fun j y v' e1 e2 e3 => ?_⟩, fun y c' e => ?_, I.free, I.freeC, fun p hp => ?_, tracked ⟨oc, hoc, I.freeC x c hc⟩ hs, by simpa using I.len⟩ ⟨c, hs, .inr hc⟩
    · exact (hs.2 b (Nat.ne_of_lt (Nat.lt_of_lt_of_le (Heap.lt_size e) (I.ok.cab x c hfn hc)))).trans (I.base.keep b o e n hb hx)
    · obtain ⟨sl, e1⟩ := I.base.slot b o e n hb hx
      exact ⟨sl, (hs.2 b (Nat.ne_of_lt (Nat.lt_of_lt_of_le (Heap.lt_size e) (I.ok.cab x c hfn hc)))).trans e1⟩
    · obtain ⟨o', e1⟩ := I.base.there b o e hx
      exact ⟨o', (hs.2 b (Nat.ne_of_lt (Nat.lt_of_lt_of_le (Heap.lt_size e) (I.ok.cab x c hfn hc)))).trans e1⟩
    · by_cases hj : j = i
      · subst hj
        rw [hi] at e1; cases e1
        rw [List.getElem?_set_self hiσ] at e2
        cases e2
        exact ⟨u, r, .inr ⟨.inl hk, c, hc, hc'⟩⟩
      · rw [List.getElem?_set_ne (Ne.symm hj)] at e2
        obtain ⟨u', r', q⟩ := hl j y v' e1 e2 e3
        refine ⟨u', r', ?_⟩
        rcases q with q | ⟨k, c', e, z'⟩
        · exact .inl q
        · refine .inr ⟨k, c', e, z'.sameBut hs ?_⟩
          rintro rfl
          exact hj (nodup_ix hN e1 (I.ok.inj _ _ _ e hc ▸ hi))
    · by_cases hcc : c' = c
      · subst hcc; exact ⟨_, hc'⟩
      · obtain ⟨w2, z2⟩ := I.cell y c' e
        exact ⟨w2, z2.sameBut hs hcc⟩
    · obtain ⟨e, n, ne, nf, d⟩ := I.pin p hp
      refine ⟨(hs.2 p.1 ?_).trans e, n, ne, nf, d⟩
      intro q
      rw [q, hoc] at e
      have q' : oc = p.2 := Option.some.inj e
      exact d w' (by rw [← q']; exact hocd)
theorem store_ok {M : Model} {A : Around} {E : Value → Shared → Prop} {i : Nat} {x : Str} {v : V} {u : Value} {Q : Unit → Shared → Prop} (I : Inv X pins σ H s) (hN : X.N.Nodup) (hi : X.N[i]? = some x) (hx : Loc X.env.scope x) (r : RelV v u)
    (h : ∀ s', Inv X pins (σ.set i (some v)) H s' → Q () s') (hf : X.fn x = true ∨ X.env.scope.names.lookup x = some .local := by first | exact .inl rfl | exact .inr rfl | assumption) : wpAny M A (storeName X.env x u) Q E s :=
  store_ok2 I hN hi hx r (fun s' I' _ => h s' I') hf
/-- behind a call or a block, the state as it is -/
theorem Inv.call' {s' : Shared} {ch : List Addr} (I : Inv X pins σ H s) (ho : s'.os = s.os) (u : Un (frs X.stack) ch H H' s.heap s'.heap) (hok : HOk X.prog X.w H' s'.heap) (hg : AllBare s'.gens)
    (hch : ∀ b ∈ ch, (b ∈ X.ex ∨ X.s₀.heap.objs.size ≤ b) ∧ b ≠ X.env.locals ∧ (∀ x c, X.env.cells.lookup x = some c → c ≠ b) ∧ ∀ p ∈ X.pn ++ pins, p.1 ≠ b) : Inv X pins σ H' s' := by
  obtain ⟨h', g', d', t', o'⟩ := s'
  have e : o' = s.os := ho
  subst e
  exact I.call (g' := g') (t' := t') (d' := d') u hok hg hch
end
/-- an exception: its class, its own dict's address (where it has one), the abstract heap behind it -/
noncomputable abbrev XK := Value → Option Addr → Hp → Prop
noncomputable abbrev St := List (Option V)
noncomputable abbrev VK := V → Hp → Prop
/-- an expression's reading; a test's; an argument list's -/
noncomputable abbrev TE := St → Hp → VK → Prop
noncomputable abbrev TT := St → Hp → (Bool → Hp → Prop) → Prop
noncomputable abbrev TA := St → Hp → (List V → Hp → Prop) → Prop
/-- what is wanted behind a statement -/
structure Ends where
  nx : St → Hp → Prop
  rt : VK
  bk : St → Hp → Prop := fun _ _ => False
  ct : St → Hp → Prop := fun _ _ => False
noncomputable abbrev TS := Ends → St → Hp → Prop
noncomputable def EP (X : Cx) (pins : List (Addr × Obj)) (σ : St) (Q : VK) (u : Value) (s' : Shared) : Prop := ∃ v H', Inv X pins σ H' s' ∧ RelV v u ∧ Q v H'
noncomputable def TP (X : Cx) (pins : List (Addr × Obj)) (σ : St) (Q : Bool → Hp → Prop) (b : Bool) (s' : Shared) : Prop := ∃ H', Inv X pins σ H' s' ∧ Q b H'
noncomputable def AP (X : Cx) (pins : List (Addr × Obj)) (σ : St) (Q : List V → Hp → Prop) (us : List Value) (s' : Shared) : Prop := ∃ vs H', Inv X pins σ H' s' ∧ Vals vs us ∧ Q vs H'
noncomputable def SP (X : Cx) (pins : List (Addr × Obj)) (D : Ends) (f : Flow) (s' : Shared) : Prop :=
  match f with
  | .next => ∃ σ' H', Inv X pins σ' H' s' ∧ D.nx σ' H'
  | .brk => ∃ σ' H', Inv X pins σ' H' s' ∧ D.bk σ' H'
  | .cont => ∃ σ' H', Inv X pins σ' H' s' ∧ D.ct σ' H'
  | .ret u => ∃ v σ' H', Inv X pins σ' H' s' ∧ RelV v u ∧ D.rt v H'
noncomputable def PE (X : Cx) (e : Expr) (t : TE) : Prop :=
  ∀ (pins : List (Addr × Obj)) (s : Shared) (σ : St) (H : Hp) (Q : VK), Inv X pins σ H s → t σ H Q → wpAny (model X.prog X.w) X.A (eval e X.env) (EP X pins σ Q) X.xe s
noncomputable def PT (X : Cx) (e : Expr) (t : TT) : Prop :=
  ∀ (pins : List (Addr × Obj)) (s : Shared) (σ : St) (H : Hp) (Q : Bool → Hp → Prop), Inv X pins σ H s → t σ H Q → wpAny (model X.prog X.w) X.A (isTrue e X.env (eval e X.env)) (TP X pins σ Q) X.xe s
/-- a test whatever its 'whole' is (and, or) -/
noncomputable def PW (X : Cx) (e : Expr) (t : TT) : Prop :=
  ∀ (whole : Sem Value) (pins : List (Addr × Obj)) (s : Shared) (σ : St) (H : Hp) (Q : Bool → Hp → Prop), Inv X pins σ H s → t σ H Q → wpAny (model X.prog X.w) X.A (isTrue e X.env whole) (TP X pins σ Q) X.xe s
theorem PW.pt {X : Cx} {e : Expr} {t : TT} (h : PW X e t) : PT X e t := h _
/-- an argument list (no star), from the left -/
noncomputable def PA (X : Cx) (es : List Expr) (t : TA) : Prop :=
  ∀ (pos : Pos) (pins : List (Addr × Obj)) (s : Shared) (σ : St) (H : Hp) (Q : List V → Hp → Prop), Inv X pins σ H s → t σ H Q → wpAny (model X.prog X.w) X.A (spliced (backTo pos (starEach es X.env))) (AP X pins σ Q) X.xe s
noncomputable def PS (X : Cx) (st : Stmt) (t : TS) : Prop :=
  ∀ (pins : List (Addr × Obj)) (s : Shared) (σ : St) (H : Hp) (D : Ends), Inv X pins σ H s → t D σ H → wpAny (model X.prog X.w) X.A (exec st X.env) (SP X pins D) X.xe s
noncomputable def PSs (X : Cx) (st : List Stmt) (t : TS) : Prop :=
  ∀ (pins : List (Addr × Obj)) (s : Shared) (σ : St) (H : Hp) (D : Ends), Inv X pins σ H s → t D σ H → wpAny (model X.prog X.w) X.A (execs st X.env) (SP X pins D) X.xe s
/-- weaken the end -/
theorem thn {α : Type} {t : Sem α} {Q Q' : α → Shared → Prop} {M : Model} {A : Around} {E : Value → Shared → Prop} {s : Shared} (h : wpAny M A t Q E s) (hQ : ∀ a s, Q a s → Q' a s) : wpAny M A t Q' E s := wpAny_mono h hQ fun _ _ x => x
end L2
namespace L2
open PySem PySem.Spec PyProof.Rows
section
variable {X : Cx}
noncomputable def tVar (i : Nat) : TE := fun σ H Q => ∃ v, σ[i]? = some (some v) ∧ Q v H
noncomputable def tC (v : V) : TE := fun _ H Q => Q v H
theorem pe_var {i : Nat} {x : Str} {pos : Pos} (hN : X.N[i]? = some x) (hv : Vis X.env.scope x) (hd : (x == ("__debug__" : Str)) = false := by decide) (hcd : (x == ("__classdict__" : Str)) = false := by decide) : PE X (.Name x pos) (tVar i) := by
  intro pins s σ H Q I h
  obtain ⟨v, e, h⟩ := h
  obtain ⟨m, hn, hl⟩ := I.loc
  obtain ⟨u, r, l⟩ := hl i x v hN e hv
  have fin : EP X pins σ Q u s := ⟨v, H, I, r, h⟩
  rcases l with ⟨hk, hm⟩ | ⟨hk, c, hc, hcell⟩
  · exact wpAny_Name (wpAny_loadName_local I.ok.kind hk hn hm fin) hd
  · rcases hk with hk | hk
    · exact wpAny_Name (wpAny_loadName_cell I.ok.kind hk hc hcell fin) hd
    · exact wpAny_Name (wpAny_loadName_free I.ok.kind hk hc hcell fin hcd) hd
theorem pe_int {i j pos} : PE X (.Constant (.int i) j pos) (tC (.int i)) := fun _ _ _ H _ I h => wpAny_Constant_int ⟨.int i, H, I.tok _, ⟨_, rfl⟩, h⟩
theorem pe_bl {b j pos} : PE X (.Constant (.bool b) j pos) (tC (.bl b)) := fun _ _ _ H _ I h => Constant_bool ⟨.bl b, H, I, rfl, h⟩
theorem pe_non {j pos} : PE X (.Constant .none j pos) (tC .non) := fun _ _ _ H _ I h => Constant_none ⟨.non, H, I, rfl, h⟩
theorem pe_str {x j pos} : PE X (.Constant (.str x) j pos) (tC (.str x)) := fun _ _ _ H _ I h => Calls.Constant_str ⟨.str x, H, I.tok _, ⟨_, rfl⟩, h⟩
/-- a global name of the def -/
noncomputable def Gl (X : Cx) (x : Str) : Prop := X.env.kindOf x = some .globalImplicit
theorem ld_glob {E : Value → Shared → Prop} {pins : List (Addr × Obj)} {s : Shared} {σ : St} {H : Hp} {x : Str} {u : Value} {pos : Pos} {Q : Value → Shared → Prop} (I : Inv X pins σ H s) (hg : Gl X x) (hm : X.mg x = some u) (h : Q u s)
    (hd : (x == ("__debug__" : Str)) = false := by decide) : wpAny (model X.prog X.w) X.A (eval (.Name x pos) X.env) Q E s :=
  Calls.Name_function_global I.ok.kind hg (Calls.loadGlobal_global (by rw [I.ok.glob]; exact I.mod.glob.keeps I.bk) hm h) hd
theorem ld_blt {E : Value → Shared → Prop} {pins : List (Addr × Obj)} {s : Shared} {σ : St} {H : Hp} {x : Str} {u : Value} {pos : Pos} {Q : Value → Shared → Prop} (I : Inv X pins σ H s) (hg : Gl X x) (hm : X.mg x = none) (hv : bootBuiltins x = some u) (h : Q u s)
    (hn : x ≠ "__name__" := by decide) (hd : (x == ("__debug__" : Str)) = false := by decide) : wpAny (model X.prog X.w) X.A (eval (.Name x pos) X.env) Q E s := by
  obtain ⟨mb, h1, h2⟩ := I.mod.blt
  exact Calls.Name_function_global I.ok.kind hg (Calls.loadGlobal_builtin (by rw [I.ok.glob]; exact I.mod.glob.keeps I.bk) hm (by rw [I.ok.blt]; exact h1.keeps I.bk) ((h2 x hn).trans hv) h) hd
/-- a module's constant, a class, a function, as a value -/
theorem pe_glob {x : Str} {v : V} {u : Value} {pos : Pos} (hg : Gl X x) (hm : X.mg x = some u) (r : RelV v u) (hd : (x == ("__debug__" : Str)) = false := by decide) : PE X (.Name x pos) (tC v) :=
  fun _ _ _ H _ I h => ld_glob I hg hm ⟨v, H, I, r, h⟩ hd
theorem pe_bltn {x : Str} {v : V} {u : Value} {pos : Pos} (hg : Gl X x) (hm : X.mg x = none) (hv : bootBuiltins x = some u) (r : RelV v u) (hn : x ≠ "__name__" := by decide) (hd : (x == ("__debug__" : Str)) = false := by decide) : PE X (.Name x pos) (tC v) :=
  fun _ _ _ H _ I h => ld_blt I hg hm hv ⟨v, H, I, r, h⟩ hn hd
variable {a b : Expr} {ta tb : TE} {pos : Pos}
noncomputable def PC (X : Cx) (op : CmpOp) (a b : Expr) (t : TE) : Prop :=
  ∀ (pins : List (Addr × Obj)) (s : Shared) (σ : St) (H : Hp) (Q : VK), Inv X pins σ H s → t σ H Q →
    wpAny (model X.prog X.w) X.A (eval a X.env) (fun v s₁ => wpAny (model X.prog X.w) X.A (eval b X.env) (fun u s₂ => wpAny (model X.prog X.w) X.A (compareOp op v u) (EP X pins σ Q) X.xe s₂) X.xe s₁) X.xe s
/-- a comparison as a value, as a test -/
noncomputable def tB (t : TE) : TT := fun σ H Q => t σ H fun x H1 => ∃ c, x = .bl c ∧ Q c H1
theorem pt_cmp {op : CmpOp} {t : TE} (h : PC X op a b t) (h1 : behindInMarks op b = false := by first | exact nobehind _ (by decide) (by decide) | rfl) : PT X (.Compare a [op] [b] pos) (tB t) := by
  intro pins s σ H Q I hw
  refine wpAny_isTrue_Compare1 (thn (h pins s σ H _ I hw) fun v s1 h1 => thn h1 fun u s2 h2 => thn h2 fun c s3 hq5 => L2.ex5 hq5 fun x H1 I1 r1 q1 => ?_) h1
  obtain ⟨d, rfl, q⟩ := q1
  cases r1
  exact wpAny_truthy_bool ⟨H1, I1, q⟩
/-- an expression whose value is a bool, as a test -/
theorem pt_val {e : Expr} {t : TE} (h : PE X e t) (he : ∀ whole, isTrue e X.env whole = (do let v ← whole; standAt e.pos; holding [v] (truthy v)) := by intro _; rfl) : PT X e (tB t) := by
  intro pins s σ H Q I hw
  refine isTrue_plain (thn (h pins s σ H _ I hw) fun v s1 hq5 => L2.ex5 hq5 fun x H1 I1 r1 q1 => ?_) (he _)
  obtain ⟨d, rfl, q⟩ := q1
  cases r1
  exact wpAny_truthy_bool ⟨H1, I1, q⟩
variable {tA tB' : TT} {rest : List Expr}
noncomputable def tAnd (t u : TT) : TT := fun σ H Q => t σ H fun c H1 => if c = true then u σ H1 Q else Q false H1
noncomputable def tOr (t u : TT) : TT := fun σ H Q => t σ H fun c H1 => if c = true then Q true H1 else u σ H1 Q
noncomputable def tNot (t : TT) : TT := fun σ H Q => t σ H fun c H1 => Q (!c) H1
theorem pw_and1 (ha : PT X a tA) : PW X (.BoolOp .And [a] pos) tA := by
  intro wh pins s σ H Q I h
  refine isTrue_and (thn (ha pins s σ H Q I h) fun c s1 e => ?_)
  cases c with
  | true => exact isTrue_and_nil e
  | false => exact e
theorem pw_or1 (ha : PT X a tA) : PW X (.BoolOp .Or [a] pos) tA := by
  intro wh pins s σ H Q I h
  refine isTrue_or (thn (ha pins s σ H Q I h) fun c s1 e => ?_)
  cases c with
  | false => exact isTrue_or_nil e
  | true => exact e
theorem pw_and (ha : PT X a tA) (hb : PW X (.BoolOp .And (b :: rest) pos) tB') : PW X (.BoolOp .And (a :: b :: rest) pos) (tAnd tA tB') := by
  intro wh pins s σ H Q I h
  refine isTrue_and (thn (ha pins s σ H _ I h) fun c s1 ⟨H1, I1, q1⟩ => ?_)
  cases c with
  | true => exact hb wh pins s1 σ H1 Q I1 q1
  | false => exact ⟨H1, I1, q1⟩
theorem pw_or (ha : PT X a tA) (hb : PW X (.BoolOp .Or (b :: rest) pos) tB') : PW X (.BoolOp .Or (a :: b :: rest) pos) (tOr tA tB') := by
  intro wh pins s σ H Q I h
  refine isTrue_or (thn (ha pins s σ H _ I h) fun c s1 ⟨H1, I1, q1⟩ => ?_)
  cases c with
  | true => exact ⟨H1, I1, q1⟩
  | false => exact hb wh pins s1 σ H1 Q I1 q1
theorem pt_not (ha : PT X a tA) : PT X (.UnaryOp .Not a pos) (tNot tA) := by
  intro pins s σ H Q I h
  exact isTrue_not (ha pins s σ H (fun c H1 => Q (!c) H1) I h)
/-- .. as values (bools) -/
noncomputable def tAndV (ta tb : TE) : TE := fun σ H Q => ta σ H fun x H1 => ∃ c, x = .bl c ∧ if c = true then tb σ H1 Q else Q (.bl false) H1
noncomputable def tNotV (ta : TE) : TE := fun σ H Q => ta σ H fun x H1 => ∃ c, x = .bl c ∧ Q (.bl (!c)) H1
theorem pe_one {op} {t : TE} (h : PE X a t) : PE X (.BoolOp op [a] pos) t := fun pins s σ H Q I hw => BoolOp_one (h pins s σ H Q I hw)
theorem pe_and (ha : PE X a ta) (hb : PE X (.BoolOp .And (b :: rest) pos) tb) : PE X (.BoolOp .And (a :: b :: rest) pos) (tAndV ta tb) := by
  intro pins s σ H Q I h
  refine BoolOp_and (thn (ha pins s σ H _ I h) fun v s1 hq5 => L2.ex5 hq5 fun x H1 I1 r1 q1 => ?_)
  obtain ⟨c, rfl, q1⟩ := q1
  cases r1
  refine wpAny_truthy_bool ?_
  cases c with
  | true => exact hb pins s1 σ H1 Q I1 q1
  | false => exact ⟨.bl false, H1, I1, rfl, q1⟩
theorem pe_not (ha : PE X a ta) : PE X (.UnaryOp .Not a pos) (tNotV ta) := by
  intro pins s σ H Q I h
  refine UnaryOp_ (thn (ha pins s σ H _ I h) fun v s1 hq5 => L2.ex5 hq5 fun x H1 I1 r1 q1 => ?_)
  obtain ⟨c, rfl, q1⟩ := q1
  cases r1
  exact not_of (wpAny_truthy_bool ⟨.bl (!c), H1, I1, rfl, q1⟩)
/-- a if t else b -/
noncomputable def tIf (t : TT) (ta tb : TE) : TE := fun σ H Q => t σ H fun c H1 => if c = true then ta σ H1 Q else tb σ H1 Q
theorem pe_ifExp {c : Expr} (hc : PT X c tA) (ha : PE X a ta) (hb : PE X b tb) : PE X (.IfExp c a b pos) (tIf tA ta tb) := by
  intro pins s σ H Q I h
  refine wpAny_IfExp (thn (hc pins s σ H _ I h) fun d s1 ⟨H1, I1, q1⟩ => ?_)
  cases d with
  | true => exact ha pins s1 σ H1 Q I1 q1
  | false => exact hb pins s1 σ H1 Q I1 q1
end
end L2
namespace L2
open PySem PySem.Spec PyProof.Rows
noncomputable def SqL (K : PySem.W.Frag) (H : Hp) (a : Addr) (xs : List V) : Prop :=
  Rd H a (.lst xs) ∨
    ∃ (o : Obj) (its : Array Value) (n : Nat), K.lookup a = some o ∧ o.cls = .type "list" ∧ o.dict = none ∧ o.data = .seq its n ∧ its.size ≤ sizeLine ∧ Vals xs its.toList
noncomputable def SqT (K : PySem.W.Frag) (H : Hp) (a : Addr) (xs : List V) : Prop :=
  Rd H a (.tup xs) ∨
    ∃ (o : Obj) (its : Array Value) (n : Nat), K.lookup a = some o ∧ o.cls = .type "tuple" ∧ o.data = .seq its n ∧ its.size ≤ sizeLine ∧ Vals xs its.toList
noncomputable def absV : Value → Option V
  | .none => some .non
  | .bool b => some (.bl b)
  | .int i _ => some (.int i)
  | .str x _ => some (.str x)
  | .bytes b _ => some (.byt b)
  | .float b _ => some (.flt b)
  | .ref a => some (.ref a)
  | .type n => some (.ty n)
  | _ => none
theorem RelV.abs {x : V} {u : Value} (r : RelV x u) : absV u = some x := by
  cases x with
  | non => cases r; rfl
  | bl _ => cases r; rfl
  | int _ => obtain ⟨t, rfl⟩ := r; rfl
  | str _ => obtain ⟨t, rfl⟩ := r; rfl
  | byt _ => obtain ⟨t, rfl⟩ := r; rfl
  | flt _ => obtain ⟨t, rfl⟩ := r; rfl
  | ref _ => cases r; rfl
  | ty _ => cases r; rfl
theorem RelV.inj {x y : V} {u : Value} (r : RelV x u) (q : RelV y u) : x = y := Option.some.inj (r.abs.symm.trans q.abs)
theorem Vals.inj : ∀ {xs ys : List V} {us : List Value}, Vals xs us → Vals ys us → xs = ys
  | _, _, _, .nil, .nil => rfl
  | _, _, _, .cons r t, .cons r' t' => by rw [r.inj r', Vals.inj t t']
section
variable {X : Cx} {pins : List (Addr × Obj)} {σ : St} {H : Hp} {s : Shared} {a : Addr} {xs ys : List V}
theorem SqL.of {K : PySem.W.Frag} (h : H a = some (.lst xs)) : SqL K H a xs := .inl (.inl h)
theorem SqT.of {K : PySem.W.Frag} (h : H a = some (.tup xs)) : SqT K H a xs := .inl (.inl h)
theorem Inv.list (I : Inv X pins σ H s) (h : SqL X.K H a xs) : ∃ its : List Value, Vals xs its ∧ PlainL s.heap a its.toArray ∧ xs.length ≤ sizeLine := by
  rcases h with h | ⟨o, its, n, hk, hc, hd, hs, hz, r⟩
  · obtain ⟨z, its, n, r, e⟩ := h.ok I.hok
    exact ⟨its, r, ⟨_, n, e, rfl, rfl, rfl⟩, z⟩
  · refine ⟨its.toList, r, ⟨o, n, I.kIn a o hk, hc, hd, by simpa using hs⟩, ?_⟩
    have e := r.length
    simp only [Array.length_toList] at e
    omega
theorem Inv.tuple (I : Inv X pins σ H s) (h : SqT X.K H a xs) : ∃ its : List Value, Vals xs its ∧ IsTup s.heap a its.toArray ∧ xs.length ≤ sizeLine := by
  rcases h with h | ⟨o, its, n, hk, hc, hs, hz, r⟩
  · obtain ⟨z, its, r, p⟩ := h.ok I.hok
    exact ⟨its, r, p.is, z⟩
  · refine ⟨its.toList, r, ⟨o, I.kIn a o hk, hc, n, by simpa using hs⟩, ?_⟩
    have e := r.length
    simp only [Array.length_toList] at e
    omega
theorem Inv.list_inj (I : Inv X pins σ H s) (h : SqL X.K H a xs) (h' : SqL X.K H a ys) : xs = ys := by
  obtain ⟨its, r, ⟨o, n, e, _, _, d⟩, _⟩ := I.list h
  obtain ⟨its', r', ⟨o', n', e', _, _, d'⟩, _⟩ := I.list h'
  rw [e] at e'; cases e'
  rw [d] at d'
  injection d' with d1 _
  have : its = its' := by simpa using congrArg Array.toList d1
  subst this
  exact r.inj r'
theorem Inv.tuple_inj (I : Inv X pins σ H s) (h : SqT X.K H a xs) (h' : SqT X.K H a ys) : xs = ys := by
  obtain ⟨its, r, ⟨o, e, _, n, d⟩, _⟩ := I.tuple h
  obtain ⟨its', r', ⟨o', e', _, n', d'⟩, _⟩ := I.tuple h'
  rw [e] at e'; cases e'
  rw [d] at d'
  injection d' with d1 _
  have : its = its' := by simpa using congrArg Array.toList d1
  subst this
  exact r.inj r'
end
noncomputable abbrev Cx.wish (X : Cx) (E : Value → Shared → Prop) : Cx := { X with xe := E }
/-- no exception leaves -/
noncomputable abbrev Cx.nox (X : Cx) : Cx := X.wish fun _ _ => False
theorem Cx.Ok.wish {X : Cx} (ok : X.Ok) (E : Value → Shared → Prop) : (X.wish E).Ok :=
  ⟨ok.mod, ok.kind, ok.glob, ok.blt, ok.above, ok.inj, ok.has, ok.cab, ok.hd, ok.frames, ok.stk, ok.exf, ok.bs, ok.bsz, ok.noex, ok.exfs, ok.funs, ok.frf⟩
theorem Cx.Ok.unwish {X : Cx} {E : Value → Shared → Prop} (ok : (X.wish E).Ok) : X.Ok :=
  ⟨ok.mod, ok.kind, ok.glob, ok.blt, ok.above, ok.inj, ok.has, ok.cab, ok.hd, ok.frames, ok.stk, ok.exf, ok.bs, ok.bsz, ok.noex, ok.exfs, ok.funs, ok.frf⟩
section
variable {X : Cx} {pins : List (Addr × Obj)} {σ : St} {H : Hp} {s : Shared} {E : Value → Shared → Prop}
theorem Inv.wish (I : Inv X pins σ H s) (E : Value → Shared → Prop) : Inv (X.wish E) pins σ H s := ⟨I.ok.wish E, I.os, I.bare, I.base, I.loc, I.cell, I.free, I.freeC, I.pin, I.hok, I.len⟩
theorem Inv.unwish (I : Inv (X.wish E) pins σ H s) : Inv X pins σ H s := ⟨I.ok.unwish, I.os, I.bare, I.base, I.loc, I.cell, I.free, I.freeC, I.pin, I.hok, I.len⟩
theorem SP.unwish {D : Ends} {f : Flow} {s' : Shared} (h : SP (X.wish E) pins D f s') : SP X pins D f s' := by
  cases f with
  | next => obtain ⟨σ', H', I, q⟩ := h; exact ⟨σ', H', I.unwish, q⟩
  | brk => obtain ⟨σ', H', I, q⟩ := h; exact ⟨σ', H', I.unwish, q⟩
  | cont => obtain ⟨σ', H', I, q⟩ := h; exact ⟨σ', H', I.unwish, q⟩
  | ret u => obtain ⟨v, σ', H', I, r, q⟩ := h; exact ⟨v, σ', H', I.unwish, r, q⟩
theorem PSs.nox {st : List Stmt} {t : TS} (h : PSs X.nox st t) : PSs X st t := fun pins s σ H D I hw =>
  wpAny_mono (h pins s σ H D (I.wish _) hw) (fun _ _ q => q.unwish) fun _ _ z => False.elim z
end
section
variable {X : Cx} {st : Stmt} {rest : List Stmt} {t u : TS} {e : Expr} {te : TE} {pos : Pos}
noncomputable def tNext : TS := fun D σ H => D.nx σ H
noncomputable def tSeq (t u : TS) : TS := fun D σ H => t { D with nx := u D } σ H
theorem pss_nil : PSs X [] tNext := fun _ _ σ H _ I h => wpAny_execs_nil ⟨σ, H, I, h⟩
theorem pss_cons (h1 : PS X st t) (h2 : PSs X rest u) : PSs X (st :: rest) (tSeq t u) := by
  intro pins s σ H D I h
  refine wpAny_execs_cons (thn (h1 pins s σ H { D with nx := u D } I h) fun f s1 q => ?_)
  cases f with
  | next =>
    obtain ⟨σ', H', I', q⟩ := q
    exact h2 pins s1 σ' H' D I' q
  | ret v => exact q
  | brk => exact q
  | cont => exact q
theorem pss_one (h1 : PS X st t) : PSs X [st] t := by
  intro pins s σ H D I h
  refine wpAny_execs_cons (thn (h1 pins s σ H D I h) fun f s1 q => ?_)
  cases f with
  | next => exact wpAny_execs_nil q
  | ret v => exact q
  | brk => exact q
  | cont => exact q
/-- in a def's body nothing is shown -/
theorem Inv.quiet {pins : List (Addr × Obj)} {σ : St} {H : Hp} {s : Shared} (I : Inv X pins σ H s) : interactive X.env = false := by simp [interactive, I.ok.kind]
/-- an expression whose value is dropped -/
noncomputable def tDrop (te : TE) : TS := fun D σ H => te σ H fun _ H1 => D.nx σ H1
theorem ps_expr (he : PE X e te) (hs : swapsWith e none pos.line X.env = pure false := by rfl) : PS X (.Expr e pos) (tDrop te) := by
  intro pins s σ H D I h
  exact wpAny_Expr_any (thn (he pins s σ H _ I h) fun v s1 hq5 => L2.ex5 hq5 fun x H1 I1 r1 q1 => ⟨σ, H1, I1, q1⟩) I.quiet hs
noncomputable def tRet (te : TE) : TS := fun D σ H => te σ H D.rt
theorem ps_ret (he : PE X e te) : PS X (.Return (some e) pos) (tRet te) := by
  intro pins s σ H D I h
  exact wpAny_Return_some (thn (he pins s σ H _ I h) fun v s1 hq5 => L2.ex5 hq5 fun x H1 I1 r1 q1 => ⟨x, σ, H1, I1, r1, q1⟩)
noncomputable def tIfS (c : TT) (t u : TS) : TS := fun D σ H => c σ H fun b H1 => if b = true then t D σ H1 else u D σ H1
theorem ps_if {c : Expr} {a b : List Stmt} {tc : TT} (hc : PT X c tc) (ha : PSs X a t) (hb : PSs X b u) : PS X (.If c a b pos) (tIfS tc t u) := by
  intro pins s σ H D I h
  refine wpAny_If (thn (hc pins s σ H _ I h) fun d s1 ⟨H1, I1, q1⟩ => ?_)
  cases d with
  | true => exact ha pins s1 σ H1 D I1 q1
  | false => exact hb pins s1 σ H1 D I1 q1
end
noncomputable abbrev TG := V → St → Hp → (St → Hp → Prop) → Prop
noncomputable abbrev TGs := List V → St → Hp → (St → Hp → Prop) → Prop
noncomputable def PG (X : Cx) (target : Expr) (t : TG) : Prop :=
  ∀ (pins : List (Addr × Obj)) (s : Shared) (σ : St) (H : Hp) (v : V) (u : Value) (Q : St → Hp → Prop), Inv X pins σ H s → RelV v u → t v σ H Q →
    wpAny (model X.prog X.w) X.A (assign target X.env u) (fun _ s' => ∃ σ' H', Inv X pins σ' H' s' ∧ Q σ' H') X.xe s
/-- several targets, one after another -/
noncomputable def PGs (X : Cx) (ts : List Expr) (t : TGs) : Prop :=
  ∀ (pins : List (Addr × Obj)) (s : Shared) (σ : St) (H : Hp) (vs : List V) (us : List Value) (Q : St → Hp → Prop), Inv X pins σ H s → Vals vs us → t vs σ H Q →
    wpAny (model X.prog X.w) X.A (assignInOrder ((assignEach ts X.env).map (·.2)) us) (fun _ s' => ∃ σ' H', Inv X pins σ' H' s' ∧ Q σ' H') X.xe s
section
variable {X : Cx} {pos : Pos}
noncomputable def gName (i : Nat) : TG := fun v σ H Q => Q (σ.set i (some v)) H
theorem pg_name {i : Nat} {x : Str} (hN : X.N.Nodup) (hi : X.N[i]? = some x) (hx : Loc X.env.scope x) (hf : X.fn x = true ∨ X.env.scope.names.lookup x = some .local := by first | exact .inl rfl | exact .inr rfl | assumption) : PG X (.Name x pos) (gName i) := by
  intro pins s σ H v u Q I r h
  exact wpAny_assign_Name (store_ok I hN hi hx r (fun s' I' => ⟨_, H, I', h⟩) hf)
noncomputable def gNil : TGs := fun vs σ H Q => vs = [] ∧ Q σ H
noncomputable def gCons (t : TG) (u : TGs) : TGs := fun vs σ H Q => ∃ v r, vs = v :: r ∧ t v σ H fun σ' H' => u r σ' H' Q
theorem pgs_nil : PGs X [] gNil := by
  intro pins s σ H vs us Q I r h
  obtain ⟨e, h⟩ := h
  subst e
  cases r
  exact assignInOrder_nil ⟨σ, H, I, h⟩
theorem pgs_cons {e : Expr} {es : List Expr} {t : TG} {u : TGs} (h1 : PG X e t) (h2 : PGs X es u)
    (hs : (assignEach (e :: es) X.env).map (·.2) = assign e X.env :: (assignEach es X.env).map (·.2) := by rfl) : PGs X (e :: es) (gCons t u) := by
  intro pins s σ H vs us Q I r h
  obtain ⟨v, vr, e1, h⟩ := h
  subst e1
  cases r with
  | cons r rr =>
    rw [hs]
    refine assignInOrder_cons (thn (h1 pins s σ H _ _ _ I r h) fun _ s1 ⟨σ1, H1, I1, q1⟩ => ?_)
    exact h2 pins s1 σ1 H1 _ _ Q I1 rr q1
/-- (a, b, ..) = a tuple of that length -/
noncomputable def gTup (K : PySem.W.Frag) (n : Nat) (t : TGs) : TG := fun v σ H Q => ∃ a xs, v = .ref a ∧ SqT K H a xs ∧ xs.length = n ∧ t xs σ H Q
theorem pg_tup {es : List Expr} {k : Nat} {t : TGs} {n : Nat} (hc : X.calm = true) (h : PGs X es t)
    (hn : (assignEach es X.env).length = n := by rfl) (hst : (assignEach es X.env).findIdx? (·.1) = none := by rfl) : PG X (.Tuple es k pos) (gTup X.K n t) := by
  intro pins s σ H v u Q I r hw
  obtain ⟨a, xs, e1, hq, hl, hw⟩ := hw
  subst e1
  cases r
  obtain ⟨its, rv, ht, hz⟩ := I.tuple hq
  refine assign_Tuple_tuple (I.ok.hd hc) ht (by simp [hn, ← hl, rv.length]) hst fun h' hx => ?_
  have I1 : Inv X pins σ H { s with heap := h' } := I.kept (t' := s.toks) fun b o e => hx b o (Nat.ne_of_lt (Heap.lt_size e)) e
  exact h pins _ σ H xs _ Q I1 (by simpa using rv) hw
/-- target = value -/
noncomputable def tAsg (te : TE) (g : TG) : TS := fun D σ H => te σ H fun x H1 => g x σ H1 D.nx
/-- name = value -/
theorem ps_set {i : Nat} {x : Str} {e : Expr} {te : TE} {pos' : Pos} (hN : X.N.Nodup) (hi : X.N[i]? = some x) (hx : Loc X.env.scope x) (he : PE X e te) (hs : swapsWith e (some (.Name x pos')) pos.line X.env = pure false := by rfl) (hf : X.fn x = true ∨ X.env.scope.names.lookup x = some .local := by first | exact .inl rfl | exact .inr rfl | assumption) :
    PS X (.Assign [.Name x pos'] e pos) (tAsg te (gName i)) := by
  intro pins s σ H D I h
  refine wpAny_Assign_Name (thn (he pins s σ H _ I h) fun v s1 hq5 => L2.ex5 hq5 fun y H1 I1 r1 q1 => ?_) hs
  exact store_ok I1 hN hi hx r1 (fun s2 I2 => ⟨_, H1, I2, q1⟩) hf
end
section
variable {X : Cx} {pos : Pos}
end
/-- at turn i: it yields x (the heap may grow), or it stops -/
structure It where
  go : Nat → Hp → Prop
  yld : Nat → Hp → V → Hp → Prop
  stop : Nat → Hp → Prop
/-- the iterator's own objects may turn: they are not the frame's, not pinned, younger than the entry (or a comprehension's own) -/
noncomputable def FpOk (X : Cx) (pins : List (Addr × Obj)) (H : Hp) (b : Addr) : Prop :=
  H b = none ∧ b ≠ X.env.locals ∧ b ∉ X.fs ∧ (b ∈ X.ex ∨ X.s₀.heap.objs.size ≤ b) ∧ (∀ x c, X.env.cells.lookup x = some c → c ≠ b) ∧ ∀ p ∈ X.pn ++ pins, p.1 ≠ b
theorem Inv.fpOk {X : Cx} {pins : List (Addr × Obj)} {σ : St} {H H' : Hp} {s : Shared} {b : Addr} (I : Inv X pins σ H s) (hb : s.heap.objs.size ≤ b) (hn : H' b = none) : FpOk X pins H' b := by
  refine ⟨hn, Nat.ne_of_gt (Nat.lt_of_lt_of_le I.lt hb), I.nofs hb, .inr (Nat.le_trans I.sz hb), fun x c e z => ?_, fun p hp z => ?_⟩
  · obtain ⟨v, q⟩ := I.cell x c e
    exact absurd (Nat.lt_of_lt_of_le q.lt (by rw [z]; exact hb)) (Nat.lt_irrefl _)
  · exact absurd (Nat.lt_of_lt_of_le (Heap.lt_size (I.pin p hp).1) (by rw [z]; exact hb)) (Nat.lt_irrefl _)
structure TurnC (cm : Cx → Prop) (P : Program) (w : World) (K : PySem.W.Frag) (tg : Expr) (J : It) (fp : List Addr) (it : Addr) (tn : Nat → Heap → Prop) : Prop where
  mem : it ∈ fp
  obj : ∀ i h, tn i h → ∀ b ∈ fp, ∃ o, h.get? b = some o ∧ ∀ v, o.data ≠ .cell v
  keep : ∀ i h h', tn i h → (∀ b ∈ fp, ∀ o, h.get? b = some o → h'.get? b = some o) → tn i h'
  item : ∀ (X : Cx), X.prog = P → X.w = w → X.K = K → cm X → ∀ (i : Nat) (pins : List (Addr × Obj)) (s : Shared) (σ : St) (H : Hp) (E : Value → Shared → Prop), Inv X pins σ H s → (∀ b ∈ fp, FpOk X pins H b) → tn i s.heap → J.go i H →
    wpAny (model P w) X.A (pyNext (.ref it)) (fun r s1 => ∃ u, r = some u ∧
      wpAny (model P w) X.A (letOwnedTupleGo tg (.ref it) u) (fun _ s2 => ∃ x H', Inv X pins σ H' s2 ∧ RelV x u ∧ J.yld i H x H' ∧ tn (i + 1) s2.heap ∧ ∀ b ∈ fp, H' b = none) E s1) E s
  done : ∀ (X : Cx), X.prog = P → X.w = w → X.K = K → cm X → ∀ (i : Nat) (pins : List (Addr × Obj)) (s : Shared) (σ : St) (H : Hp) (E : Value → Shared → Prop), Inv X pins σ H s → (∀ b ∈ fp, FpOk X pins H b) → tn i s.heap → J.stop i H →
    wpAny (model P w) X.A (pyNext (.ref it)) (fun r s1 => r = none ∧ Inv X pins σ H s1) E s
  self : ∀ (A : Around) (i : Nat) (s : Shared) (Q : Value → Shared → Prop) (E : Value → Shared → Prop), tn i s.heap → Q (.ref it) s → wpAny (model P w) A (pyIter (.ref it)) Q E s
noncomputable abbrev Turn := TurnC fun X => X.calm = true
noncomputable abbrev TI := St → Hp → (It → Hp → Prop) → Prop
/-- an iterator has come -/
noncomputable def PIE (X : Cx) (pins : List (Addr × Obj)) (σ : St) (tg : Expr) (R : It → Hp → Prop) (itv : Value) (s2 : Shared) : Prop :=
  ∃ (it : Addr) (fp : List Addr) (tn : Nat → Heap → Prop) (J : It) (H' : Hp), itv = .ref it ∧ Inv X pins σ H' s2 ∧ Turn X.prog X.w X.K tg J fp it tn ∧ tn 0 s2.heap ∧ (∀ b ∈ fp, FpOk X pins H' b) ∧ R J H'
noncomputable def PI (X : Cx) (tg iter : Expr) (wi : TI) : Prop :=
  ∀ (pins : List (Addr × Obj)) (s : Shared) (σ : St) (H : Hp) (R : It → Hp → Prop), Inv X pins σ H s → wi σ H R →
    wpAny (model X.prog X.w) X.A (eval iter X.env) (fun v s1 => wpAny (model X.prog X.w) X.A (pyIter v) (PIE X pins σ tg R) X.xe s1) X.xe s
/-- the step ahead of the store is nothing for an iterator that keeps no tuple -/
theorem go_of {M : Model} {A : Around} {E : Value → Shared → Prop} {s : Shared} {tg : Expr} {it : Addr} {u : Value} {o : Obj} {n : String} {vs : Array Value} {Q : Unit → Shared → Prop} (ho : s.heap.get? it = some o) (hc : o.cls = .type n) (hd : o.data = .fields vs)
    (hn : ["enumerate", "zip", "dict_itemiterator", "dict_reverseitemiterator", "odict_iterator", "itertools.zip_longest", "itertools.pairwise"].contains n = false) (hQ : Q () s) : wpAny M A (letOwnedTupleGo tg (.ref it) u) Q E s := by
  unfold letOwnedTupleGo
  cases tg <;> first
    | exact wpAny_pure hQ
    | (cases u <;> first
        | exact wpAny_pure hQ
        | (refine wpAny_bind (wpAny_load ho ?_)
           rw [hc, hd]
           show wpAny M A (if (["enumerate", "zip", "dict_itemiterator", "dict_reverseitemiterator", "odict_iterator", "itertools.zip_longest", "itertools.pairwise"].contains n && vs[0]? == some (rawInt _)) = true then _ else _) Q E s
           rw [if_neg (by intro h; rw [hn, Bool.false_and] at h; cases h)]
           exact wpAny_pure hQ))
/-- the list at a, as it stands at each turn (a loop may append to it) -/
noncomputable def Itl (K : PySem.W.Frag) (a : Addr) : It :=
  ⟨fun i H => ∃ xs x, SqL K H a xs ∧ xs[i]? = some x, fun i H x H' => H' = H ∧ ∀ xs, SqL K H a xs → xs[i]? = some x, fun i H => ∃ xs, SqL K H a xs ∧ xs.length ≤ i⟩
noncomputable def Itt (K : PySem.W.Frag) (a : Addr) : It :=
  ⟨fun i H => ∃ xs x, SqT K H a xs ∧ xs[i]? = some x, fun i H x H' => H' = H ∧ ∀ xs, SqT K H a xs → xs[i]? = some x, fun i H => ∃ xs, SqT K H a xs ∧ xs.length ≤ i⟩
/-- lo, lo + 1, .. (n of them) -/
noncomputable def Itr (lo : Int) (n : Nat) : It := ⟨fun i _ => i < n, fun i H x H' => H' = H ∧ x = .int (lo + i), fun i _ => n ≤ i⟩
theorem turn_list {P : Program} {w : World} {K : PySem.W.Frag} {tg : Expr} (a it : Addr) : Turn P w K tg (Itl K a) [it] it (fun i h => h.IsListIter it a i) where
  mem := by simp
  obj := fun i h st b hb => by
    have e : b = it := by simpa using hb
    subst e
    obtain ⟨o, e, c, d⟩ := st
    exact ⟨o, e, fun v z => by rw [d] at z; cases z⟩
  keep := fun i h h' st k => st.at fun o e => k it (by simp) o e
  item := by
    intro X hP hw hK hc i pins s σ H E I hf st hg
    subst hP hw hK
    obtain ⟨xs, x, hq, hx⟩ := hg
    obtain ⟨its, rv, p, hz⟩ := I.list hq
    obtain ⟨u, hu, ru⟩ := rv.get hx
    obtain ⟨f0, f1, f2, f3, f4, f5⟩ := hf it (by simp)
    refine wpAny_pyNext_list_item st p.isList (x := u) (by simpa using hu) fun h' st' sb => ?_
    have I1 : Inv X pins σ H { s with heap := h' } := I.turned (t' := s.toks) (fun b o hb e => (sb.2 b hb).trans e) f0 f1 f3 f4 f5
    obtain ⟨o, e, c, d⟩ := id st'
    exact ⟨u, rfl, go_of (s := { s with heap := h' }) e c d (by decide) ⟨x, H, I1, ru, ⟨rfl, fun ys hy => by rw [I.list_inj hy hq]; exact hx⟩, st', fun b hb => (hf b hb).1⟩⟩
  done := by
    intro X hP hw hK hc i pins s σ H E I hf st hg
    subst hP hw hK
    obtain ⟨xs, hq, hx⟩ := hg
    obtain ⟨its, rv, p, hz⟩ := I.list hq
    obtain ⟨f0, f1, f2, f3, f4, f5⟩ := hf it (by simp)
    have hl := rv.length
    exact wpAny_pyNext_list_end (I.ok.hd hc) st p.isList (by simp; omega) fun h' eb => ⟨rfl, I.turned (t' := s.toks) (fun b o hb e => eb b o hb e) f0 f1 f3 f4 f5⟩
  self := fun _ _ _ _ _ st h => wpAny_pyIter_listiter st h
theorem turn_tuple {P : Program} {w : World} {K : PySem.W.Frag} {tg : Expr} (a it : Addr) : Turn P w K tg (Itt K a) [it] it (fun i h => h.IsTupleIter it a i) where
  mem := by simp
  obj := fun i h st b hb => by
    have e : b = it := by simpa using hb
    subst e
    obtain ⟨o, e, c, d⟩ := st
    exact ⟨o, e, fun v z => by rw [d] at z; cases z⟩
  keep := fun i h h' st k => st.at fun o e => k it (by simp) o e
  item := by
    intro X hP hw hK hc i pins s σ H E I hf st hg
    subst hP hw hK
    obtain ⟨xs, x, hq, hx⟩ := hg
    obtain ⟨its, rv, p, hz⟩ := I.tuple hq
    obtain ⟨u, hu, ru⟩ := rv.get hx
    obtain ⟨f0, f1, f2, f3, f4, f5⟩ := hf it (by simp)
    refine wpAny_pyNext_tuple_item st (show s.heap.IsTuple a its.toArray from p) (x := u) (by simpa using hu) fun h' st' sb => ?_
    have I1 : Inv X pins σ H { s with heap := h' } := I.turned (t' := s.toks) (fun b o hb e => (sb.2 b hb).trans e) f0 f1 f3 f4 f5
    obtain ⟨o, e, c, d⟩ := id st'
    exact ⟨u, rfl, go_of (s := { s with heap := h' }) e c d (by decide) ⟨x, H, I1, ru, ⟨rfl, fun ys hy => by rw [I.tuple_inj hy hq]; exact hx⟩, st', fun b hb => (hf b hb).1⟩⟩
  done := by
    intro X hP hw hK hc i pins s σ H E I hf st hg
    subst hP hw hK
    obtain ⟨xs, hq, hx⟩ := hg
    obtain ⟨its, rv, p, hz⟩ := I.tuple hq
    obtain ⟨f0, f1, f2, f3, f4, f5⟩ := hf it (by simp)
    have hl := rv.length
    exact wpAny_pyNext_tuple_end (I.ok.hd hc) st (show s.heap.IsTuple a its.toArray from p) (by simp; omega) fun h' eb => ⟨rfl, I.turned (t' := s.toks) (fun b o hb e => eb b o hb e) f0 f1 f3 f4 f5⟩
  self := fun _ _ _ _ _ st h => wpAny_pyIter_tupleiter st h
theorem turn_range {P : Program} {w : World} {K : PySem.W.Frag} {tg : Expr} (it : Addr) (lo : Int) (n : Nat) : Turn P w K tg (Itr lo n) [it] it (fun i h => IsRangeIter h it (lo + (i : Nat) * 1) ((n : Int) - (i : Nat)) 1) where
  mem := by simp
  obj := fun i h st b hb => by
    have e : b = it := by simpa using hb
    subst e
    exact ⟨_, st, fun v z => by
      have z' : Data.fields _ = Data.cell v := z
      cases z'⟩
  keep := fun i h h' st k => k it (by simp) _ st
  item := by
    intro X hP hw hK hc i pins s σ H E I hf st hg
    subst hP hw hK
    obtain ⟨f0, f1, f2, f3, f4, f5⟩ := hf it (by simp)
    have W := Walks.range (prog := X.prog) (w := X.w) (I.ok.hd hc) it lo 1 n
    refine W.item i s _ _ hg st fun v h' tk hv st' kk => ?_
    obtain ⟨t, rfl⟩ := hv
    have I1 : Inv X pins σ H { s with heap := h', toks := tk } := I.turned (fun b o hb e => kk b o (by simpa using hb) e) f0 f1 f3 f4 f5
    refine ⟨_, rfl, go_of (s := { s with heap := h', toks := tk }) (n := "range_iterator") st' rfl rfl (by decide) ⟨.int (lo + i), H, I1, ⟨t, ?_⟩, ⟨rfl, rfl⟩, st', fun b hb => (hf b hb).1⟩⟩
    rw [Int.mul_one]
  done := by
    intro X hP hw hK hc i pins s σ H E I hf st hg
    subst hP hw hK
    obtain ⟨f0, f1, f2, f3, f4, f5⟩ := hf it (by simp)
    exact wpAny_pyNext_range_end (I.ok.hd hc) st (by have : n ≤ i := hg; omega) fun h' eb => ⟨rfl, I.turned (t' := s.toks) (fun b o hb e => eb b o hb e) f0 f1 f3 f4 f5⟩
  self := fun _ _ _ _ _ st h => wpAny_pyIter_rangeiter st h
end L2
namespace L2
open PySem PySem.Spec PyProof.Rows
section
variable {X : Cx} {tg : Expr}
/-- a range object just made, walked -/
theorem range_it {pins : List (Addr × Obj)} {σ : St} {H : Hp} {s : Shared} {R : It → Hp → Prop} {E : Value → Shared → Prop} {lo hi : Int} {t u v : Tok} {tk : Nat} (I : Inv X pins σ H s) (h1 : -(2 ^ 62) ≤ lo) (h2 : lo < 2 ^ 62) (h3 : -(2 ^ 62) ≤ hi) (h4 : hi < 2 ^ 62)
    (q : R (Itr lo (hi - lo).toNat) H) : wpAny (model X.prog X.w) X.A (pyIter (.ref s.heap.objs.size)) (PIE X pins σ tg R) E { s with heap := s.heap.push { cls := .type "range", data := .fields #[.int lo t, .int hi u, .int 1 v] }, toks := tk } := by
  refine wpAny_pyIter_range (IsRange.new ..) (small_one h1 h2 h3 h4) ?_
  have I1 : Inv X pins σ H { s with heap := s.heap.push { cls := .type "range", data := .fields #[.int lo t, .int hi u, .int 1 v] }, toks := tk } := I.kept fun b o e => Heap.get?_push_of_some _ e
  refine ⟨(s.heap.push { cls := .type "range", data := .fields #[.int lo t, .int hi u, .int 1 v] }).objs.size, [(s.heap.push { cls := .type "range", data := .fields #[.int lo t, .int hi u, .int 1 v] }).objs.size], _, _, H, rfl,
    I1.kept (t' := tk) fun b o e => Heap.get?_push_of_some _ e, turn_range _ lo (hi - lo).toNat, ?_, fun b hb => ?_, q⟩
  · have e1 : lo + ((0 : Nat) : Int) * 1 = lo := by simp
    have e2 : (((hi - lo).toNat : Nat) : Int) - ((0 : Nat) : Int) = Builtin.Range.rangeSize lo hi 1 := by rw [rangeSize_one]; split <;> omega
    show IsRangeIter _ _ (lo + ((0 : Nat) : Int) * 1) ((((hi - lo).toNat : Nat) : Int) - ((0 : Nat) : Int)) 1
    rw [e1, e2]
    exact Heap.get?_push_size _ rfl
  · have e : b = (s.heap.push { cls := .type "range", data := .fields #[.int lo t, .int hi u, .int 1 v] }).objs.size := by simpa using hb
    subst e
    exact I1.fpOk (Nat.le_refl _) (I1.hok.fresh (Nat.le_refl _))
noncomputable def iRng1 (ta : TA) : TI := fun σ H R => ta σ H fun vs H1 => ∃ j : Int, vs = [.int j] ∧ -(2 ^ 62) ≤ j ∧ j < 2 ^ 62 ∧ R (Itr 0 j.toNat) H1
theorem pi_range1 {a : Expr} {ta : TA} {p pos : Pos} (hg : Gl X "range") (hm : X.mg "range" = none) (ha : PA X [a] ta) (hs : starEach [a] X.env = [(false, eval a X.env)] := by rfl) : PI X tg (.Call (.Name "range" p) [a] [] pos) (iRng1 ta) := by
  intro pins s σ H R I h
  refine Call_ (ld_blt I hg hm boot_range (PyProof.Rows.callWith_type1 (thn (ha pos pins s σ H _ I h) fun us s1 hq5 => L2.ex5 hq5 fun vs H1 I1 r1 q1 => ?_) hs rfl))
  obtain ⟨j, e, q1, q2, q⟩ := q1
  subst e
  cases r1 with
  | cons r rr =>
    cases rr
    obtain ⟨t, rfl⟩ := r
    exact call_range_1 (range_it I1 (by omega) (by omega) q1 q2 (by simpa using q))
/-- W: the invariant by the turn and a measure; N: what the body is to reach -/
noncomputable def tFor (wi : TI) (g : TG) (tb : TS) : TS := fun D σ H => wi σ H fun J H1 => ∃ W : Nat → Nat → St → Hp → Prop, (∃ m, W 0 m σ H1) ∧ ∀ i m σ H, W i m σ H →
  (J.stop i H ∧ D.nx σ H) ∨ (J.go i H ∧ ∃ N : St → Hp → Prop, (∀ σ' H', N σ' H' → ∃ m', m' < m ∧ W (i + 1) m' σ' H') ∧ ∀ x H', J.yld i H x H' → g x σ H' fun σ2 H2 => tb { D with nx := N, ct := N, bk := D.nx } σ2 H2)
/-- the records at fp as they stand -/
noncomputable def pinsAt (fp : List Addr) (h : Heap) : List (Addr × Obj) := fp.filterMap fun b => (h.get? b).map fun o => (b, o)
theorem mem_pinsAt {fp : List Addr} {h : Heap} {b : Addr} {o : Obj} (hb : b ∈ fp) (e : h.get? b = some o) : (b, o) ∈ pinsAt fp h := List.mem_filterMap.mpr ⟨b, hb, by rw [e]; rfl⟩
theorem of_pinsAt {fp : List Addr} {h : Heap} {p : Addr × Obj} (hp : p ∈ pinsAt fp h) : p.1 ∈ fp ∧ h.get? p.1 = some p.2 := by
  obtain ⟨b, hb, e⟩ := List.mem_filterMap.mp hp
  cases q : h.get? b with
  | none => rw [q] at e; cases e
  | some o =>
    rw [q] at e
    have e' : (b, o) = p := Option.some.inj e
    subst e'
    exact ⟨hb, q⟩
theorem Inv.pinned {pins : List (Addr × Obj)} {σ : St} {H : Hp} {s : Shared} {fp : List Addr} (I : Inv X pins σ H s) (hf : ∀ b ∈ fp, FpOk X pins H b) (ho : ∀ b ∈ fp, ∃ o, s.heap.get? b = some o ∧ ∀ v, o.data ≠ .cell v) : Inv X (pins ++ pinsAt fp s.heap) σ H s :=
  I.pins_of fun p hp => (List.mem_append.mp hp).elim (fun z => I.pin p (List.mem_append_right _ z)) fun z => by
    obtain ⟨hb, e⟩ := of_pinsAt z
    obtain ⟨f0, f1, f2, _⟩ := hf p.1 hb
    obtain ⟨o, e', d⟩ := ho p.1 hb
    rw [e] at e'; cases e'
    exact ⟨e, f0, f1, f2, d⟩
theorem Inv.unpinned {pins pl : List (Addr × Obj)} {σ : St} {H : Hp} {s : Shared} (I : Inv X (pins ++ pl) σ H s) : Inv X pins σ H s := I.pins_of fun p hp => I.pin p (List.mem_append_right _ (List.mem_append_left _ hp))
theorem ps_for {iter : Expr} {body : List Stmt} {wi : TI} {g : TG} {tb : TS} {pos : Pos} (hp : PassesOwn (model X.prog X.w) X.A X.env X.xe) (hc : X.calm = true) (hi : PI X tg iter wi) (hg : PG X tg g) (hb : PSs X body tb)
    (hs : ∀ x, foldedSetIterable iter X.env x = pure x := by intro _; rfl) : PS X (.For tg iter body [] pos) (tFor wi g tb) := by
  intro pins s σ H D I h
  refine wpAny_For (thn (hi pins s σ H _ I h) fun v s1 h1 => thn h1 fun itv s2 h2 => ?_) hs
  obtain ⟨it, fp, tn, J, H2, e, I2, T, st2, f2, W, ⟨m0, w0⟩, turn⟩ := h2
  subst e
  -- what stays true of the iterator's objects through the loop
  have stat : ∀ {H' : Hp}, (∀ b ∈ fp, H' b = none) → ∀ b ∈ fp, FpOk X pins H' b := fun hn b hb => ⟨hn b hb, (f2 b hb).2⟩
  refine codeAny_forLoop_any (fun n s' => ∃ i σ' H', Inv X pins σ' H' s' ∧ tn i s'.heap ∧ (∀ b ∈ fp, H' b = none) ∧ W i n σ' H') ?_ m0 ⟨0, σ, H2, I2, st2, fun b hb => (f2 b hb).1, w0⟩
  rintro n s3 ⟨i, σ3, H3, I3, st3, fr3, w3⟩
  rcases turn i n σ3 H3 w3 with ⟨stop, qn⟩ | ⟨go, N, hN, step⟩
  · refine wpAny_passesOwn hp (thn (T.done X rfl rfl rfl hc i pins s3 σ3 H3 X.xe I3 (stat fr3) st3 stop) fun r s4 ⟨hr, I4⟩ => ?_)
    subst hr
    exact wpAny_execs_nil ⟨σ3, H3, I4, qn⟩
  · refine wpAny_passesOwn hp (thn (T.item X rfl rfl rfl hc i pins s3 σ3 H3 X.xe I3 (stat fr3) st3 go) fun r s4 ⟨u, hr, h4⟩ => ?_)
    subst hr
    refine wpAny_passesOwn hp (thn h4 fun _ s5 ⟨x, H5, I5, r5, y5, st5, fr5⟩ => ?_)
    have I5' := I5.pinned (stat fr5) (T.obj _ _ st5)
    refine wpAny_passesOwn hp (thn (hg _ s5 σ3 H5 x u _ I5' r5 (step x H5 y5)) fun _ s6 ⟨σ6, H6, I6, q6⟩ => ?_)
    refine wpAny_passesOwn hp (thn (hb _ s6 σ6 H6 _ I6 q6) fun f s7 q7 => ?_)
    have again : ∀ {σ7 : St} {H7 : Hp}, Inv X (pins ++ pinsAt fp s5.heap) σ7 H7 s7 → N σ7 H7 → ∃ m, m < n ∧ ∃ i σ' H', Inv X pins σ' H' s7 ∧ tn i s7.heap ∧ (∀ b ∈ fp, H' b = none) ∧ W i m σ' H' := fun {σ7 H7} I7 n7 => by
      obtain ⟨m', hm, w7⟩ := hN σ7 H7 n7
      refine ⟨m', hm, i + 1, σ7, H7, I7.unpinned, T.keep _ _ _ st5 fun b hb o e => (I7.pin (b, o) (List.mem_append_right _ (List.mem_append_right _ (mem_pinsAt hb e)))).1, fun b hb => ?_, w7⟩
      obtain ⟨o, e, d⟩ := T.obj _ _ st5 b hb
      exact (I7.pin (b, o) (List.mem_append_right _ (List.mem_append_right _ (mem_pinsAt hb e)))).2.1
    cases f with
    | next => obtain ⟨σ7, H7, I7, n7⟩ := q7; exact again I7 n7
    | cont => obtain ⟨σ7, H7, I7, n7⟩ := q7; exact again I7 n7
    | brk => obtain ⟨σ7, H7, I7, q7⟩ := q7; exact ⟨σ7, H7, I7.unpinned, q7⟩
    | ret v => obtain ⟨x7, σ7, H7, I7, r7, q7⟩ := q7; exact ⟨x7, σ7, H7, I7.unpinned, r7, q7⟩
end
end L2
namespace L2
open PySem PySem.Spec PyProof.Rows
noncomputable abbrev R2 := V → V → Hp → VK → Prop
/-- a two-place operation on values: f is binaryOp op, inplaceOp op or compareOp op -/
noncomputable def OpR (X : Cx) (f : Value → Value → Sem Value) (r : R2) : Prop :=
  ∀ (pins : List (Addr × Obj)) (s : Shared) (σ : St) (H : Hp) (x y : V) (v u : Value) (Q : VK), Inv X pins σ H s → RelV x v → RelV y u → r x y H Q →
    wpAny (model X.prog X.w) X.A (f v u) (EP X pins σ Q) X.xe s
/-- a call of a value that is known (a builtin, a type) with values -/
noncomputable def CallR (X : Cx) (f : Value) (r : List V → Hp → VK → Prop) : Prop :=
  ∀ (pins : List (Addr × Obj)) (s : Shared) (σ : St) (H : Hp) (xs : List V) (us : List Value) (Q : VK), Inv X pins σ H s → Vals xs us → r xs H Q →
    wpAny (model X.prog X.w) X.A (call f us) (EP X pins σ Q) X.xe s
noncomputable def tOp (r : R2) (ta tb : TE) : TE := fun σ H Q => ta σ H fun x H1 => tb σ H1 fun y H2 => r x y H2 Q
/-- ints in, under C, and a value out -/
noncomputable def rI (C : Int → Int → Prop) (g : Int → Int → V) : R2 := fun x y H Q => ∃ i j, x = .int i ∧ y = .int j ∧ C i j ∧ Q (g i j) H
noncomputable def rI0 (g : Int → Int → V) : R2 := fun x y H Q => ∃ i j, x = .int i ∧ y = .int j ∧ Q (g i j) H
section
variable {X : Cx} {a b c : Expr} {ta tb tc : TE} {pos : Pos}
theorem binT (ha : PE X a ta) (hb : PE X b tb) {pins : List (Addr × Obj)} {s : Shared} {σ : St} {H : Hp} {R : V → V → Hp → Prop} (I : Inv X pins σ H s)
    (h : ta σ H fun x H1 => tb σ H1 fun y H2 => R x y H2) {Q : Value → Shared → Prop} {f : Value → Value → Sem Value}
    (hf : ∀ v u s2 x y H2, Inv X pins σ H2 s2 → RelV x v → RelV y u → R x y H2 → wpAny (model X.prog X.w) X.A (f v u) Q X.xe s2) :
    wpAny (model X.prog X.w) X.A (eval a X.env) (fun v s₁ => wpAny (model X.prog X.w) X.A (eval b X.env) (fun u s₂ => wpAny (model X.prog X.w) X.A (f v u) Q X.xe s₂) X.xe s₁) X.xe s := by
  refine thn (ha pins s σ H _ I h) fun v s1 hq5 => L2.ex5 hq5 fun x H1 I1 r1 q1 => ?_
  refine thn (hb pins s1 σ H1 _ I1 q1) fun u s2 hq5 => L2.ex5 hq5 fun y H2 I2 r2 q2 => ?_
  exact hf v u s2 x y H2 I2 r1 r2 q2
theorem pe_op {op : Operator} {r : R2} (ho : OpR X (binaryOp op) r) (ha : PE X a ta) (hb : PE X b tb) : PE X (.BinOp a op b pos) (tOp r ta tb) := by
  intro pins s σ H Q I h
  exact wpAny_BinOp (binT ha hb I h fun v u s2 x y H2 I2 rx ry q => ho pins s2 σ H2 x y v u Q I2 rx ry q)
theorem opI {f : Value → Value → Sem Value} {C : Int → Int → Prop} {g : Int → Int → Int}
    (rule : ∀ (i j : Int) (t u : Tok) (s : Shared) (Q : Value → Shared → Prop) (E : Value → Shared → Prop), C i j → Q (.int (g i j) s.toks) { s with toks := s.toks + 1 } → wpAny (model X.prog X.w) X.A (f (.int i t) (.int j u)) Q E s) :
    OpR X f (rI C fun i j => .int (g i j)) := by
  intro pins s σ H x y v u Q I rx ry h
  obtain ⟨i, j, rfl, rfl, hc, q⟩ := h
  obtain ⟨t, rfl⟩ := rx
  obtain ⟨t', rfl⟩ := ry
  exact rule i j t t' s _ _ hc ⟨.int (g i j), H, I.tok _, ⟨_, rfl⟩, q⟩
theorem opI0 {f : Value → Value → Sem Value} {g : Int → Int → Int}
    (rule : ∀ (i j : Int) (t u : Tok) (s : Shared) (Q : Value → Shared → Prop) (E : Value → Shared → Prop), Q (.int (g i j) s.toks) { s with toks := s.toks + 1 } → wpAny (model X.prog X.w) X.A (f (.int i t) (.int j u)) Q E s) :
    OpR X f (rI0 fun i j => .int (g i j)) := by
  intro pins s σ H x y v u Q I rx ry h
  obtain ⟨i, j, rfl, rfl, q⟩ := h
  obtain ⟨t, rfl⟩ := rx
  obtain ⟨t', rfl⟩ := ry
  exact rule i j t t' s _ _ ⟨.int (g i j), H, I.tok _, ⟨_, rfl⟩, q⟩
theorem opB0 {f : Value → Value → Sem Value} {g : Int → Int → Bool}
    (rule : ∀ (i j : Int) (t u : Tok) (s : Shared) (Q : Value → Shared → Prop) (E : Value → Shared → Prop), Q (.bool (g i j)) s → wpAny (model X.prog X.w) X.A (f (.int i t) (.int j u)) Q E s) :
    OpR X f (rI0 fun i j => .bl (g i j)) := by
  intro pins s σ H x y v u Q I rx ry h
  obtain ⟨i, j, rfl, rfl, q⟩ := h
  obtain ⟨t, rfl⟩ := rx
  obtain ⟨t', rfl⟩ := ry
  exact rule i j t t' s _ _ ⟨.bl (g i j), H, I, rfl, q⟩
noncomputable def CDiv (i j : Int) : Prop := 0 < j ∧ j < 1073741824
noncomputable def CPow (i j : Int) : Prop := 0 ≤ j ∧ j ≤ 1000000 ∧ i.natAbs < 2 ^ 64
noncomputable def CMul (i j : Int) : Prop := (-(2 ^ 64) < i ∧ i < 2 ^ 64) ∨ (-(2 ^ 64) < j ∧ j < 2 ^ 64)
theorem CMul.ok {i j : Int} (h : CMul i j) : IntMulOk i j := by
  rcases h with ⟨h1, h2⟩ | ⟨h1, h2⟩
  · exact .of_left (intBits_le_64 h1 h2)
  · exact .of_right (intBits_le_64 h1 h2)
theorem op_add : OpR X (binaryOp .Add) (rI0 fun i j => .int (i + j)) := opI0 fun _ _ _ _ _ _ _ q => add_int q
/-- // by a positive divisor -/
theorem op_fdiv : OpR X (binaryOp .FloorDiv) (rI CDiv fun i j => .int (i / j)) := opI fun i j _ _ _ _ _ hc q => by
  have h1 : (0 : Int) < j := hc.1
  have h2 : j < 1073741824 := hc.2
  exact floordiv_int (by omega) (by rw [Int.fdiv_eq_ediv_of_nonneg i (by omega)]; exact q) (.inl (PyProof.noPylong_small (by omega)))
/-- % by a positive divisor of any size -/
theorem op_mod : OpR X (binaryOp .Mod) (rI (fun _ j => 0 < j) fun i j => .int (i % j)) := opI fun i j _ _ _ _ _ hc q => by
  have h1 : (0 : Int) < j := hc
  exact mod_int' (by omega) (by rw [Int.fmod_eq_emod_of_nonneg i (by omega)]; exact q)
theorem op_pow : OpR X (binaryOp .Pow) (rI CPow fun i j => .int (i ^ j.toNat)) := opI fun _ _ _ _ _ _ _ hc q => pow_int_small hc.1 hc.2.1 hc.2.2 q
end
/-- the scalars that == tells apart as data does -/
noncomputable def scal : V → V → Bool
  | .non, .non => true | .non, .int _ => true | .int _, .non => true | .non, .bl _ => true | .bl _, .non => true | .non, .str _ => true | .str _, .non => true
  | .int _, .int _ => true | .bl _, .bl _ => true | .str _, .str _ => true | .byt _, .byt _ => true
  | .int _, .str _ => true | .str _, .int _ => true | .bl _, .str _ => true | .str _, .bl _ => true
  | _, _ => false
noncomputable def rEq : R2 := fun x y H Q => scal x y = true ∧ Q (.bl (decide (x = y))) H
noncomputable def rNe : R2 := fun x y H Q => scal x y = true ∧ Q (.bl (!decide (x = y))) H
theorem dec_int {i j : Int} : decide (V.int i = V.int j) = (i == j) := by
  rw [Bool.eq_iff_iff]
  simp
theorem dec_bl {i j : Bool} : decide (V.bl i = V.bl j) = (i == j) := by
  rw [Bool.eq_iff_iff]
  simp
theorem dec_str {i j : Str} : decide (V.str i = V.str j) = (i == j) := by
  rw [Bool.eq_iff_iff]
  simp
theorem dec_byt {i j : Array UInt8} : decide (V.byt i = V.byt j) = (i.toList == j.toList) := by
  rw [Bool.eq_iff_iff]
  cases i
  cases j
  simp
section
variable {X : Cx} {a b c : Expr} {ta tb tc : TE} {pos : Pos}
theorem fin_bl {pins : List (Addr × Obj)} {σ : St} {H : Hp} {s : Shared} {Q : VK} {k k' : Bool} (I : Inv X pins σ H s) (q : Q (.bl k) H) (e : k = k') : EP X pins σ Q (.bool k') s := by
  subst e
  exact ⟨.bl k, H, I, rfl, q⟩
theorem op_eq : OpR X (compareOp .Eq) rEq := by
  intro pins s σ H x y v u Q I rx ry h
  obtain ⟨hs, q⟩ := h
  cases x with
  | non =>
    cases rx
    cases y with
    | non => cases ry; exact PySem.EqNone.eq_none_none (fin_bl I q (by simp))
    | bl j => cases ry; exact PySem.EqNone.eq_none_bool (fin_bl I q (by simp))
    | int j => obtain ⟨t', rfl⟩ := ry; exact PySem.EqNone.eq_none_int (fin_bl I q (by simp))
    | str j => obtain ⟨t', rfl⟩ := ry; exact PySem.EqNone.eq_none_str (fin_bl I q (by simp))
    | _ => exact absurd (show false = true from hs) Bool.false_ne_true
  | bl i =>
    cases rx
    cases y with
    | non => cases ry; exact PySem.EqNone.eq_bool_none (fin_bl I q (by simp))
    | bl j => cases ry; exact eq_bool (fin_bl I q dec_bl)
    | str j => obtain ⟨t', rfl⟩ := ry; exact PySem.EqMixed.eq_bool_str (fin_bl I q (by simp))
    | _ => exact absurd (show false = true from hs) Bool.false_ne_true
  | int i =>
    obtain ⟨t, rfl⟩ := rx
    cases y with
    | non => cases ry; exact PySem.EqNone.eq_int_none (fin_bl I q (by simp))
    | int j => obtain ⟨t', rfl⟩ := ry; exact eq_int (fin_bl I q dec_int)
    | str j => obtain ⟨t', rfl⟩ := ry; exact PySem.EqMixed.eq_int_str (fin_bl I q (by simp))
    | _ => exact absurd (show false = true from hs) Bool.false_ne_true
  | str i =>
    obtain ⟨t, rfl⟩ := rx
    cases y with
    | non => cases ry; exact PySem.EqNone.eq_str_none (fin_bl I q (by simp))
    | bl j => cases ry; exact PySem.EqMixed.eq_str_bool (fin_bl I q (by simp))
    | int j => obtain ⟨t', rfl⟩ := ry; exact PySem.EqMixed.eq_str_int (fin_bl I q (by simp))
    | str j => obtain ⟨t', rfl⟩ := ry; exact eq_str (fin_bl I q dec_str)
    | _ => exact absurd (show false = true from hs) Bool.false_ne_true
  | byt i =>
    obtain ⟨t, rfl⟩ := rx
    cases y with
    | byt j => obtain ⟨t', rfl⟩ := ry; exact PySem.W.eq_bytes (fin_bl I q dec_byt)
    | _ => exact absurd (show false = true from hs) Bool.false_ne_true
  | _ => cases y <;> exact absurd (show false = true from hs) Bool.false_ne_true
theorem op_ne : OpR X (compareOp .NotEq) rNe := by
  intro pins s σ H x y v u Q I rx ry h
  obtain ⟨hs, q⟩ := h
  cases x with
  | non =>
    cases rx
    cases y with
    | non => cases ry; exact PySem.EqNone.ne_none_none (fin_bl I q (by simp))
    | bl j => cases ry; exact PySem.EqNone.ne_none_bool (fin_bl I q (by simp))
    | int j => obtain ⟨t', rfl⟩ := ry; exact PySem.EqNone.ne_none_int (fin_bl I q (by simp))
    | str j => obtain ⟨t', rfl⟩ := ry; exact PySem.EqNone.ne_none_str (fin_bl I q (by simp))
    | _ => exact absurd (show false = true from hs) Bool.false_ne_true
  | bl i =>
    cases rx
    cases y with
    | non => cases ry; exact PySem.EqNone.ne_bool_none (fin_bl I q (by simp))
    | bl j => cases ry; exact ne_bool (fin_bl I q (congrArg not dec_bl))
    | str j => obtain ⟨t', rfl⟩ := ry; exact PySem.EqMixed.ne_bool_str (fin_bl I q (by simp))
    | _ => exact absurd (show false = true from hs) Bool.false_ne_true
  | int i =>
    obtain ⟨t, rfl⟩ := rx
    cases y with
    | non => cases ry; exact PySem.EqNone.ne_int_none (fin_bl I q (by simp))
    | int j => obtain ⟨t', rfl⟩ := ry; exact ne_int (fin_bl I q (congrArg not dec_int))
    | str j => obtain ⟨t', rfl⟩ := ry; exact PySem.EqMixed.ne_int_str (fin_bl I q (by simp))
    | _ => exact absurd (show false = true from hs) Bool.false_ne_true
  | str i =>
    obtain ⟨t, rfl⟩ := rx
    cases y with
    | non => cases ry; exact PySem.EqNone.ne_str_none (fin_bl I q (by simp))
    | bl j => cases ry; exact PySem.EqMixed.ne_str_bool (fin_bl I q (by simp))
    | int j => obtain ⟨t', rfl⟩ := ry; exact PySem.EqMixed.ne_str_int (fin_bl I q (by simp))
    | str j => obtain ⟨t', rfl⟩ := ry; exact ne_str (fin_bl I q (congrArg not dec_str))
    | _ => exact absurd (show false = true from hs) Bool.false_ne_true
  | byt i =>
    obtain ⟨t, rfl⟩ := rx
    cases y with
    | byt j => obtain ⟨t', rfl⟩ := ry; exact PySem.W.ne_bytes (fin_bl I q (congrArg not dec_byt))
    | _ => exact absurd (show false = true from hs) Bool.false_ne_true
  | _ => cases y <;> exact absurd (show false = true from hs) Bool.false_ne_true
theorem op_lt : OpR X (compareOp .Lt) (rI0 fun i j => .bl (decide (i < j))) := opB0 fun _ _ _ _ _ _ _ q => lt_int q
theorem op_gt : OpR X (compareOp .Gt) (rI0 fun i j => .bl (decide (j < i))) := opB0 fun _ _ _ _ _ _ _ q => gt_int q
/-- is None, is not None: the right side a value none -/
theorem op_isN : OpR X (compareOp .Is) (fun x y H Q => y = .non ∧ Q (.bl (decide (x = .non))) H) := by
  intro pins s σ H x y v u Q I rx ry h
  obtain ⟨rfl, q⟩ := h
  cases ry
  refine is_none_gen (fin_bl I q ?_)
  cases x <;> first
    | (cases rx; rfl)
    | (obtain ⟨t, rfl⟩ := rx; rfl)
theorem nomark (b : Expr) {op : CmpOp} (h : op ≠ .In := by decide) (h2 : op ≠ .NotIn := by decide) : behindInMarks op b = false := by
  have e1 : (op == CmpOp.In) = false := by cases op <;> first | rfl | exact absurd rfl h
  have e2 : (op == CmpOp.NotIn) = false := by cases op <;> first | rfl | exact absurd rfl h2
  cases b <;> simp [behindInMarks, e1, e2]
/-- a comparison as a value; hm: nomark b, or (for in, not in) by with_unfolding_all rfl -/
theorem pe_cmpR {op : CmpOp} {r : R2} (ho : OpR X (compareOp op) r) (ha : PE X a ta) (hb : PE X b tb) (hm : behindInMarks op b = false) : PE X (.Compare a [op] [b] pos) (tOp r ta tb) := by
  intro pins s σ H Q I h
  exact wpAny_Compare1 (binT ha hb I h fun v u s2 x y H2 I2 rx ry q => ho pins s2 σ H2 x y v u Q I2 rx ry q) hm
/-- a reading of a value as a test -/
noncomputable def tTest (t : TE) : TT := fun σ H Q => t σ H fun x H' => ∃ k, x = .bl k ∧ Q k H'
theorem pt_cmpR {op : CmpOp} {r : R2} (ho : OpR X (compareOp op) r) (ha : PE X a ta) (hb : PE X b tb) (hm : behindInMarks op b = false) : PT X (.Compare a [op] [b] pos) (tTest (tOp r ta tb)) := by
  intro pins s σ H Q I h
  refine wpAny_isTrue_Compare1 (thn (ha pins s σ H _ I h) fun v s1 hq5 => L2.ex5 hq5 fun x H1 I1 r1 q1 => thn (hb pins s1 σ H1 _ I1 q1) fun u s2 hq5 => L2.ex5 hq5 fun y H2 I2 r2 q2 =>
    thn (ho pins s2 σ H2 x y v u _ I2 r1 r2 q2) fun c s3 ⟨z, H3, I3, r3, k, e, q3⟩ => ?_) hm
  subst e
  cases r3
  exact wpAny_truthy_bool ⟨H3, I3, q3⟩
theorem line63 : (sizeLine : Nat) < 2 ^ 63 := by rw [sizeLine_eq]; decide
theorem op_add_str : OpR X (binaryOp .Add) (fun x y H Q => ∃ i j, x = .str i ∧ y = .str j ∧ i.length + j.length ≤ sizeLine ∧ Q (.str (i ++ j)) H) := by
  intro pins s σ H x y v u Q I rx ry h
  obtain ⟨i, j, rfl, rfl, hz, q⟩ := h
  obtain ⟨t, rfl⟩ := rx
  obtain ⟨t', rfl⟩ := ry
  exact add_str (fun t' tk => ⟨.str (i ++ j), H, I.tok _, ⟨_, rfl⟩, q⟩) hz
theorem vals1 {x : V} {us : List Value} (r : Vals [x] us) : ∃ u, us = [u] ∧ RelV x u := by
  cases r with
  | cons r1 r2 => cases r2; exact ⟨_, rfl, r1⟩
theorem vals2 {x y : V} {us : List Value} (r : Vals [x, y] us) : ∃ u w', us = [u, w'] ∧ RelV x u ∧ RelV y w' := by
  cases r with
  | cons r1 r2 =>
    cases r2 with
    | cons r3 r4 => cases r4; exact ⟨_, _, rfl, r1, r3⟩
end
end L2
namespace L2
open PySem PySem.Spec PyProof.Rows
structure ObjM (h : Heap) (x dx C : Addr) (mA : Str → Option Value) : Prop where
  obj : h.get? x = some (PySem.W.instObj C dx)
  ns : h.Ns1 dx mA
  ne : dx ≠ x
theorem lookIn_ns {h : Heap} {dx : Addr} {mA : Str → Option Value} (n : h.Ns1 dx mA) : ∃ od, h.get? dx = some od ∧ ∀ name, PySem.W.lookIn name od = some (mA name) := by
  obtain ⟨o, es, ep, ho, hd, hk, _, hm⟩ := n
  refine ⟨o, ho, fun name => ?_⟩
  have e := hm name
  unfold nsFind findBy at e
  rw [← Array.find?_toList] at e
  unfold PySem.W.lookIn
  rw [hd]
  dsimp only
  split
  · rename_i y q
    rw [q] at e
    exact congrArg some e
  · rename_i q
    rw [q] at e
    have a : es.toList.any (·.refKey) = false := by
      rw [List.any_eq_false]
      intro y hy
      obtain ⟨z, t, hkey⟩ := hk y (Array.mem_toList_iff.mp hy)
      simp [DictEntry.refKey, hkey]
    have a' : ¬ es.toList.any (·.refKey) = true := by rw [a]; exact Bool.false_ne_true
    rw [if_neg a']
    exact congrArg some e
theorem ObjM.look {h : Heap} {x dx C : Addr} {mA : Str → Option Value} (I : ObjM h x dx C mA) : ∃ od, PySem.W.InstAt h x (PySem.W.instObj C dx) C (some od) ∧ ∀ name, PySem.W.lookIn name od = some (mA name) :=
  let ⟨od, ho, hl⟩ := lookIn_ns I.ns
  ⟨od, ⟨I.obj, rfl, rfl, ho⟩, hl⟩
section
variable {prog : Program} {w : World} {A : Around} {E : Value → Shared → Prop} {s : Shared} {K : PySem.W.Frag} {x dx C f : Addr} {mA : Str → Option Value} {name : Str} {v : Value}
end
section
variable {P : Program} {w : World} {H H' : Hp} {h h' : Heap} {a C dx : Addr} {fs fs' : List (Str × V)}
theorem ins_get (hok : HOk P w H h) (e : H a = some (.ins C dx fs)) : ∃ mA, ObjM h a dx C mA ∧ (∀ f, RelO (fs.lookup f) (mA f)) ∧ PySem.Within mA (fs.map (·.1)) ∧ fs.length ≤ 1000 ∧ H dx = some (.own a) := by
  obtain ⟨d, z, ne, ob, mA, n, r, q⟩ := (show ObjOk P w H h a (.ins C dx fs) from hok a _ e)
  exact ⟨mA, ⟨ob, n, ne⟩, r, q, z, d⟩
end
structure Cls (K : PySem.W.Frag) (C : Addr) : Prop where
  pg : PySem.W.plainGet K C Str.empty = true
  hd : PySem.W.hasDictIn K C = true
  po : PySem.W.plainOver K C = true
  sa : PySem.W.findIn K (.ref C) "__setattr__" = some (some (.builtin "object.__setattr__"))
theorem Cls.get {K : PySem.W.Frag} {C : Addr} (c : Cls K C) (f : Str) : PySem.W.plainGet K C f = true := c.pg
section
variable {X : Cx} {pins : List (Addr × Obj)} {σ : St} {H : Hp} {s : Shared} {a C dx : Addr} {fs : List (Str × V)} {f : Str} {v : V} {A : Around} {E : Value → Shared → Prop}
end
section
variable {X : Cx} {o e value : Expr} {f : Str} {pos pos' tpos : Pos} {ta tv : TE}
end
section
variable {X : Cx} {pins : List (Addr × Obj)} {σ : St} {H : Hp} {s : Shared} {A : Around} {E : Value → Shared → Prop} {Q : Value → Shared → Prop} {c : Value} {b : Bool}
/-- the type of a value, as the fragment's deciders take it; for an instance its class -/
inductive TyOf (K : PySem.W.Frag) (H : Hp) : V → Value → Prop where
  | non : TyOf K H .non (.type "NoneType")
  | bl (x : Bool) : TyOf K H (.bl x) (.type "bool")
  | int (i : Int) : TyOf K H (.int i) (.type "int")
  | str (x : Str) : TyOf K H (.str x) (.type "str")
  | flt (x : UInt64) : TyOf K H (.flt x) (.type "float")
  | lst {a : Addr} {xs : List V} (e : H a = some (.lst xs)) : TyOf K H (.ref a) (.type "list")
  | frz {a : Addr} {o : Obj} {xs : List V} (e : H a = some (.frz o (.lst xs))) : TyOf K H (.ref a) (.type "list")
  | tup {a : Addr} {xs : List V} (e : H a = some (.tup xs)) : TyOf K H (.ref a) (.type "tuple")
  | dK {a : Addr} {kvs : List (Key × V)} (e : H a = some (.dK kvs)) : TyOf K H (.ref a) (.type "dict")
  | dT {a : Addr} {kvs : List (List Key × V)} (e : H a = some (.dT kvs)) : TyOf K H (.ref a) (.type "dict")
  | ins {a C dx : Addr} {fs : List (Str × V)} (e : H a = some (.ins C dx fs)) (cl : Cls K C) (ha : PySem.W.findIn K (.ref C) "__class__" = some (some (.builtin "object.__class__")))
      (hn : PySem.W.specialIn K (.builtin "object.__class__") "__get__" = some (some (.builtin "getset_descriptor.__get__"))) (htk : PySem.W.takesIn K (.builtin "object.__class__") = some true)
      (hm : PySem.W.mroIn K C (.type "object") = some true) : TyOf K H (.ref a) (.ref C)
/-- isinstance(x, c) for one class c, a built-in or an own one: kitOne's answer -/
theorem isinst_ok {x : V} {u t : Value} (I : Inv X pins σ H s) (rx : RelV x u) (ty : TyOf X.K H x t) (e : PySem.W.kitOne X.K t c = some b) (h : ∀ tk, Q (.bool b) { s with toks := tk }) :
    wpAny (model X.prog X.w) A (call (.builtin "isinstance") [u, c]) Q E s := by
  cases ty with
  | non => cases (show u = Value.none from rx); exact PySem.W.kia_one PySem.W.kitx_none I.kIn True.intro e (fun z => nomatch z) h
  | bl y => cases (show u = Value.bool y from rx); exact PySem.W.kia_one PySem.W.kitx_bool I.kIn True.intro e (fun z => nomatch z) h
  | int i => obtain ⟨t, q⟩ := (show ∃ t, u = Value.int i t from rx); cases q; exact PySem.W.kia_one PySem.W.kitx_int I.kIn True.intro e (fun z => nomatch z) h
  | str y => obtain ⟨t, q⟩ := (show ∃ t, u = Value.str y t from rx); cases q; exact PySem.W.kia_one PySem.W.kitx_str I.kIn True.intro e (fun z => nomatch z) h
  | flt y => obtain ⟨t, q⟩ := (show ∃ t, u = Value.float y t from rx); cases q; exact PySem.W.kia_one PySem.W.kitx_float I.kIn True.intro e (fun z => nomatch z) h
  | @lst a xs ea =>
    cases (show u = Value.ref a from rx)
    obtain ⟨_, _, n, _, h1⟩ := (show ObjOk X.prog X.w H s.heap a (.lst xs) from I.hok a _ ea)
    exact PySem.W.kia_one PySem.W.kitx_list I.kIn ⟨_, h1, rfl⟩ e (fun z => nomatch z) h
  | @frz a ob xs ea =>
    cases (show u = Value.ref a from rx)
    obtain ⟨_, _, _, n, _, h1⟩ := (show ObjOk X.prog X.w H s.heap a (.frz ob (.lst xs)) from I.hok a _ ea)
    exact PySem.W.kia_one PySem.W.kitx_list I.kIn ⟨_, h1, rfl⟩ e (fun z => nomatch z) h
  | @tup a xs ea =>
    cases (show u = Value.ref a from rx)
    obtain ⟨_, _, _, p⟩ := (show ObjOk X.prog X.w H s.heap a (.tup xs) from I.hok a _ ea)
    obtain ⟨o, h1, h2, _⟩ := p.is
    exact PySem.W.kia_one PySem.W.kitx_tuple I.kIn ⟨o, h1, h2⟩ e (fun z => nomatch z) h
  | @dK a kvs ea =>
    cases (show u = Value.ref a from rx)
    obtain ⟨_, _, vs, _, p⟩ := (show ObjOk X.prog X.w H s.heap a (.dK kvs) from I.hok a _ ea)
    obtain ⟨o, es, ep, h1, h2, _⟩ := p
    exact PySem.W.kia_one PySem.W.kitx_dict I.kIn ⟨o, h1, h2.1⟩ e (fun z => nomatch z) h
  | @dT a kvs ea =>
    cases (show u = Value.ref a from rx)
    obtain ⟨_, _, xs, _, o, es, ep, h1, h2, _⟩ := (show ObjOk X.prog X.w H s.heap a (.dT kvs) from I.hok a _ ea)
    exact PySem.W.kia_one PySem.W.kitx_dict I.kIn ⟨o, h1, h2.1⟩ e (fun z => nomatch z) h
  | @ins a C dx fs ea cl ha hn htk hm =>
    cases (show u = Value.ref a from rx)
    obtain ⟨mA, O, _⟩ := ins_get I.hok ea
    obtain ⟨od, J, _⟩ := O.look
    exact PySem.W.kia_one (PySem.W.kitx_own (cl.get _) cl.hd ha hn htk hm) I.kIn J e (fun z => nomatch z) h
end
end L2
namespace L2
open PySem PySem.Spec PyProof.Rows
structure Room (k : Nat) (A : Around) : Prop where
  hd : A.handled = none
  dp : A.depth + 3 * k + 5 < recursionLimit
  un : A.units + 16 * k + 200 < cLine
theorem Room.mono {j k : Nat} {A : Around} (r : Room k A) (h : j ≤ k) : Room j A := ⟨r.hd, by have := r.dp; omega, by have := r.un; omega⟩
theorem Room.deeper {k : Nat} {A : Around} (r : Room (k + 1) A) (env : Env) : Room k (A.deeper env) :=
  ⟨r.hd, by have := r.dp; show A.depth + 1 + 3 * k + 5 < _; omega, by have := r.un; show A.units + 3 + 16 * k + 200 < _; omega⟩
theorem Room.depth {k : Nat} {A : Around} (r : Room k A) : A.depth < recursionLimit := by have := r.dp; omega
theorem Room.units {k : Nat} {A : Around} (r : Room k A) : A.units + 64 < cLine := by have := r.un; omega
noncomputable def tNil : TA := fun _ H Q => Q [] H
noncomputable def tCons (ta : TE) (tr : TA) : TA := fun σ H Q => ta σ H fun x H1 => tr σ H1 fun xs H2 => Q (x :: xs) H2
section
variable {X : Cx} {e : Expr} {es : List Expr} {te : TE} {t : TA} {pos : Pos}
theorem pa_nil : PA X [] tNil := fun _ _ _ _ H Q I h => Calls.spliced_nil ⟨[], H, I, .nil, h⟩
theorem pa_cons (ha : PE X e te) (hr : PA X es t) (hs : starEach (e :: es) X.env = (false, eval e X.env) :: starEach es X.env := by rfl) : PA X (e :: es) (tCons te t) := by
  intro pos pins s σ H Q I h
  rw [hs]
  show wpAny _ _ (spliced ((false, eval e X.env) :: backTo pos (starEach es X.env))) _ _ s
  refine Calls.spliced_cons (thn (ha pins s σ H _ I h) fun u s1 hq5 => L2.ex5 hq5 fun x H1 I1 r1 q1 => ?_)
  exact thn (hr pos pins s1 σ H1 _ I1 q1) fun us s2 hq5 => L2.ex5 hq5 fun xs H2 I2 r2 q2 => ⟨x :: xs, H2, I2, .cons r1 r2, q2⟩
/-- a tuple, a list of written items -/
noncomputable def tTup (t : TA) : TE := fun σ H Q => t σ H fun xs H1 => xs.length ≤ sizeLine ∧ ∀ p, H1 p = none → Q (.ref p) (upd H1 p (.tup xs))
noncomputable def tLst (t : TA) : TE := fun σ H Q => t σ H fun xs H1 => xs.length ≤ sizeLine ∧ ∀ p, H1 p = none → Q (.ref p) (upd H1 p (.lst xs))
theorem pe_tup {x1} (h : PA X es t) : PE X (.Tuple es x1 pos) (tTup t) := by
  intro pins s σ H Q I hq
  refine wpAny_Tuple_spliced (thn (h pos pins s σ H _ I hq) fun us s1 ⟨xs, H1, I1, r, z, q⟩ => ⟨by rw [← r.length]; exact z, ?_⟩)
  have hf : H1 s1.heap.objs.size = none := I1.hok.fresh (Nat.le_refl _)
  refine ⟨.ref s1.heap.objs.size, upd H1 s1.heap.objs.size (.tup xs), I1.laid (t' := s1.toks) (fun b u e => Heap.get?_push_of_some _ e) (Nat.le_refl _) ?_, rfl, q _ hf⟩
  exact ⟨z, us, r, ⟨_, Heap.get?_push_size _ rfl⟩⟩
theorem pe_lst (h : PA X es t) : PE X (.List es pos) (tLst t) := by
  intro pins s σ H Q I hq
  refine wpAny_List_spliced (thn (h pos pins s σ H _ I hq) fun us s1 ⟨xs, H1, I1, r, z, q⟩ => ⟨by rw [← r.length]; exact z, ?_⟩)
  have hf : H1 s1.heap.objs.size = none := I1.hok.fresh (Nat.le_refl _)
  refine ⟨.ref s1.heap.objs.size, upd H1 s1.heap.objs.size (.lst xs), I1.laid (t' := s1.toks) (fun b u e => Heap.get?_push_of_some _ e) (Nat.le_refl _) ?_, rfl, q _ hf⟩
  exact ⟨z, us, 0, r, Heap.get?_push_size _ rfl⟩
end
/-- a def's promise: the bound arguments in the parameters' order, the heap, the wanted end, the wanted exception -/
noncomputable abbrev Sp := List V → Hp → VK → XK → Prop
/-- how an exception lies behind a call (file 08 gives it): the callers' frames, abstract heap and state ahead of the call, the wish, the exception, the state -/
noncomputable abbrev CXT := List Env → Hp → Shared → XK → Value → Shared → Prop
/-- the state at a call -/
structure Env0 (P : Program) (w : World) (K : PySem.W.Frag) (mg : Str → Option Value) (base : Heap) (A : Around) (outer : List Env) (s : Shared) (H : Hp) : Prop where
  frames : A.frames = some outer
  mod : Mod K mg base
  bs : ∀ b o, base.get? b = some o → s.heap.get? b = some o ∧ H b = none
  bsz : base.objs.size ≤ s.heap.objs.size
  funs : s.heap.FunFrames base outer
  frf : ∀ b ∈ frs outer, H b = none
  hok : HOk P w H s.heap
  bare : AllBare s.gens
/-- a call's end -/
noncomputable def CE (outer : List Env) (P : Program) (w : World) (H : Hp) (s : Shared) (Q : VK) (u : Value) (s' : Shared) : Prop :=
  ∃ v H', s'.os = s.os ∧ AllBare s'.gens ∧ Un (frs outer) [] H H' s.heap s'.heap ∧ HOk P w H' s'.heap ∧ RelV v u ∧ Q v H'
noncomputable def CR (CX : CXT) (outer : List Env) (P : Program) (w : World) (H : Hp) (s : Shared) (Q : VK) (E : XK) (r : Result) (s' : Shared) : Prop :=
  match r with
  | .ok (.ret u) => CE outer P w H s Q u s'
  | .ok _ => False
  | .error e => CX outer H s E e s'
structure FnOk (P : Program) (w : World) (K : PySem.W.Frag) (mg : Str → Option Value) (base : Heap) (CX : CXT) (k : Nat) (f : Addr) (fd : FuncData) (ps : List Str) (sp : Sp) : Prop where
  len : ∀ vs H Q E, sp vs H Q E → vs.length = ps.length
  run : ∀ (A : Around) (outer : List Env) (s : Shared) (H : Hp) (args : Args) (us : List Value) (vs : List V) (Q : VK) (E : XK), Room k A → Env0 P w K mg base A outer s H → BindsTo s fd args (ps.zip us) → Vals vs us → sp vs H Q E →
    codeAny (model P w) A (.call (.ref f) args) (CR CX outer P w H s Q E) s
section
variable {X : Cx} {pins : List (Addr × Obj)} {σ : St} {H : Hp} {s s' : Shared}
/-- from a body: what a callee wants -/
theorem Inv.env0 (I : Inv X pins σ H s) : Env0 X.prog X.w X.K X.mg X.base X.A X.stack s H :=
  ⟨I.ok.frames, I.ok.mod, I.bs, Nat.le_trans I.ok.bsz I.sz, I.stack, I.stkFree, I.hok, I.bare⟩
/-- behind a call -/
theorem Inv.after {Q : VK} {u : Value} (I : Inv X pins σ H s) (h : CE X.stack X.prog X.w H s Q u s') : EP X pins σ Q u s' := by
  obtain ⟨v, H', os, bare, un, hok, r, q⟩ := h
  obtain ⟨hh, g, d, t, os'⟩ := s'
  obtain rfl : os' = s.os := os
  exact ⟨v, H', I.call (h' := hh) (g' := g) (d' := d) (t' := t) (ch := []) un hok bare (fun b z => absurd z (by simp)), r, q⟩
end
/-- f(..): the written arguments, then the defaults dvs; E: what is wanted of an exception -/
noncomputable def tCall (sp : Sp) (dvs : List V) (E : XK) (t : TA) : TE := fun σ H Q => t σ H fun vs H1 => sp (vs ++ dvs) H1 Q E
/-- how the parameters are bound: us the positional arguments, kw the keywords' values by name, ds the defaults that fill up -/
noncomputable def Binds (K : PySem.W.Frag) (fd : FuncData) (ps : List Str) (ds : List Value) : Prop :=
  ∀ (s : Shared) (us : List Value), K.In s.heap → (us ++ ds).length = ps.length → BindsTo s fd ⟨us, []⟩ (ps.zip (us ++ ds))
/-- every parameter is given -/
theorem Binds.all {K : PySem.W.Frag} {fd : FuncData} {ps : List Str} (h : ∀ us : List Value, us.length = ps.length → bindArgs fd ⟨us, []⟩ = pure (ps.zip us)) : Binds K fd ps [] := fun s us _ hl => by
  rw [List.append_nil] at hl ⊢
  exact .of_eq (h us hl)
/-- an exception of a callee reaches what this body wants of exceptions -/
noncomputable def Passes (CX : CXT) (X : Cx) (E : XK) : Prop := ∀ (pins : List (Addr × Obj)) (σ : St) (H : Hp) (s : Shared) (e : Value) (s' : Shared), Inv X pins σ H s → CX X.stack H s E e s' → X.xe e s'
section
variable {X : Cx} {CX : CXT} {k : Nat} {f C : Addr} {fd : FuncData} {ps : List Str} {sp : Sp} {dvs : List V} {ds : List Value} {E : XK} {x m : Str} {p pos apos : Pos} {e o : Expr} {es : List Expr} {ta : TE} {t : TA}
/-- the callee runs -/
theorem run_fn {pins : List (Addr × Obj)} {σ : St} {H : Hp} {s : Shared} {Q : VK} {us : List Value} {vs : List V} (F : FnOk X.prog X.w X.K X.mg X.base CX k f fd ps sp) (hr : Room k X.A) (hb : Binds X.K fd ps ds) (hd : Vals dvs ds) (hx : Passes CX X E)
    (I : Inv X pins σ H s) (r : Vals vs us) (h : sp (vs ++ dvs) H Q E) : wpAny (model X.prog X.w) X.A (call (.ref f) us) (EP X pins σ Q) X.xe s := by
  have r2 : Vals (vs ++ dvs) (us ++ ds) := r.append hd
  have hl : (us ++ ds).length = ps.length := by rw [← r2.length]; exact F.len _ _ _ _ h
  refine wpAny_call (codeAny_mono (F.run X.A X.stack s H ⟨us, []⟩ (us ++ ds) (vs ++ dvs) Q E hr I.env0 (hb s us I.kIn hl) r2 h) fun r s' hq => ?_)
  cases r with
  | error e => exact hx pins σ H s e s' I hq
  | ok fl =>
    cases fl with
    | ret u => exact I.after hq
    | next => exact False.elim hq
    | brk => exact False.elim hq
    | cont => exact False.elim hq
theorem pe_call (F : FnOk X.prog X.w X.K X.mg X.base CX k f fd ps sp) (hr : Room k X.A) (hg : Gl X x) (hm : X.mg x = some (.ref f)) (hk : PySem.W.keepIn X.K (.ref f) = true) (hb : Binds X.K fd ps ds) (hd : Vals dvs ds) (hx : Passes CX X E)
    (ha : PA X (e :: es) t) (hdb : (x == ("__debug__" : Str)) = false := by decide) (he : starEach (e :: es) X.env = (false, eval e X.env) :: starEach es X.env := by rfl) (hpl : (backTo pos (starEach es X.env)).any (·.1) = false := by rfl) :
    PE X (.Call (.Name x p) (e :: es) [] pos) (tCall sp dvs E t) := by
  intro pins s σ H Q I h
  refine wpAny_Call_Name_kw (ld_glob I hg hm ?_ hdb)
  refine PySem.W.callWith_K (h₀ := X.base) I.ok.mod.kin hk (thn (ha pos pins s σ H _ I h) fun us s1 hq5 => L2.ex5 hq5 fun vs H1 I1 r q => ⟨I1.kIn, ?_⟩) he hpl
  exact run_fn F hr hb hd hx I1 r q
end
/-- the values of the keywords, from the left -/
noncomputable def PK (X : Cx) (kws : List Keyword) (t : TA) : Prop :=
  ∀ (pos : Pos) (pins : List (Addr × Obj)) (s : Shared) (σ : St) (H : Hp) (Q : List V → Hp → Prop), Inv X pins σ H s → t σ H Q → wpAny (model X.prog X.w) X.A (evalAll ((backToKw pos (keywordEach kws X.env)).map (·.2))) (AP X pins σ Q) X.xe s
section
variable {X : Cx} {CX : CXT} {k : Nat} {f C : Addr} {fd : FuncData} {ps ks : List Str} {sp : Sp} {E : XK} {x m : Str} {p pos apos kpos : Pos} {e o : Expr} {es : List Expr} {kws : List Keyword} {te ta : TE} {t tk : TA} {nm : Option Str}
theorem pk_nil : PK X [] tNil := fun _ _ _ _ H Q I h => wpAny_evalAll_nil ⟨[], H, I, .nil, h⟩
theorem pk_cons (ha : PE X e te) (hr : PK X kws t) : PK X (⟨nm, e, kpos⟩ :: kws) (tCons te t) := by
  intro pos pins s σ H Q I h
  show wpAny _ _ (evalAll ((do let v ← eval e X.env; standAt pos; pure v) :: (backToKw pos (keywordEach kws X.env)).map (·.2))) _ _ s
  refine wpAny_evalAll_cons (wpAny_bind (thn (ha pins s σ H _ I h) fun u s1 hq5 => L2.ex5 hq5 fun x H1 I1 r1 q1 => wpAny_bind (wpAny_standAt (wpAny_pure ?_))))
  exact thn (hr pos pins s1 σ H1 _ I1 q1) fun us s2 hq5 => L2.ex5 hq5 fun xs H2 I2 r2 q2 => ⟨x :: xs, H2, I2, .cons r1 r2, q2⟩
variable {g : List Value → List Value → List Value} {gV : List V → List V → List V}
end
/-- names: the parameters first -/
structure FnScope (N P : List Str) (sc : Scope) : Prop where
  kind : sc.kind = .function
  co : sc.isCoroutine = false
  gen : sc.isGenerator = false
  nd : N.Nodup
  pre : N.take P.length = P
  par : ∀ x ∈ P, sc.names.lookup x = some .local ∨ sc.names.lookup x = some .cell
  nofree : ∀ y ∈ sc.names, y.2 ≠ .free
theorem bindL_out {kindOf : Str → Option NameKind} {x : Str} : ∀ {binds : List (Str × Value)} {m : Str → Option Value}, (∀ v, (x, v) ∉ binds) → bindL kindOf binds m x = m x
  | [], _, _ => rfl
  | (n, v) :: r, m, h => by
    unfold bindL
    rw [bindL_out fun w hw => h w (List.mem_cons_of_mem _ hw)]
    split
    · have : x ≠ n := by rintro rfl; exact h v List.mem_cons_self
      simp [this]
    · rfl
theorem bindC_out {kindOf : Str → Option NameKind} {x : Str} : ∀ {binds : List (Str × Value)} {m : Str → Option Value}, (∀ v, (x, v) ∉ binds) → bindC kindOf binds m x = m x
  | [], _, _ => rfl
  | (n, v) :: r, m, h => by
    unfold bindC
    rw [bindC_out fun w hw => h w (List.mem_cons_of_mem _ hw)]
    split
    · rfl
    · have : x ≠ n := by rintro rfl; exact h v List.mem_cons_self
      simp [this]
theorem bindL_get {kindOf : Str → Option NameKind} {x : Str} {v : Value} : ∀ {P : List Str} {vs : List Value} {i : Nat} {m : Str → Option Value}, P.Nodup → P[i]? = some x → vs[i]? = some v → kindOf x = some .local →
    bindL kindOf (P.zip vs) m x = some v
  | [], _, _, _, _, h, _, _ => by simp at h
  | _ :: _, [], _, _, _, _, h, _ => by simp at h
  | p :: P, w :: vs, 0, m, nd, h1, h2, hk => by
    simp at h1 h2; subst h1; subst h2
    show bindL kindOf ((p, w) :: P.zip vs) m p = _
    unfold bindL
    rw [bindL_out fun v hv => (List.nodup_cons.mp nd).1 (List.of_mem_zip hv).1, if_pos hk]
    simp
  | p :: P, w :: vs, i + 1, m, nd, h1, h2, hk => by
    show bindL kindOf ((p, w) :: P.zip vs) m x = _
    unfold bindL
    exact bindL_get (i := i) (List.nodup_cons.mp nd).2 (by simpa using h1) (by simpa using h2) hk
theorem bindC_get {kindOf : Str → Option NameKind} {x : Str} {v : Value} : ∀ {P : List Str} {vs : List Value} {i : Nat} {m : Str → Option Value}, P.Nodup → P[i]? = some x → vs[i]? = some v → kindOf x ≠ some .local →
    bindC kindOf (P.zip vs) m x = some v
  | [], _, _, _, _, h, _, _ => by simp at h
  | _ :: _, [], _, _, _, _, h, _ => by simp at h
  | p :: P, w :: vs, 0, m, nd, h1, h2, hk => by
    simp at h1 h2; subst h1; subst h2
    show bindC kindOf ((p, w) :: P.zip vs) m p = _
    unfold bindC
    rw [bindC_out fun v hv => (List.nodup_cons.mp nd).1 (List.of_mem_zip hv).1, if_neg hk]
    simp
  | p :: P, w :: vs, i + 1, m, nd, h1, h2, hk => by
    show bindC kindOf ((p, w) :: P.zip vs) m x = _
    unfold bindC
    exact bindC_get (i := i) (List.nodup_cons.mp nd).2 (by simpa using h1) (by simpa using h2) hk
/-- the names' values at the entry -/
noncomputable def start (N : List Str) (vs : List V) : St := vs.map some ++ List.replicate (N.length - vs.length) none
/-- the context of a def's body, at its entry; an exception leaves the frame, then lies as CX says -/
noncomputable def cxOf (CX : CXT) (P : Program) (w : World) (K : PySem.W.Frag) (mg : Str → Option Value) (base : Heap) (N : List Str) (qual : Str) (scope : Scope) (f : Addr) (cd : Value) (A : Around) (outer : List Env) (s : Shared) (H : Hp) (E : XK) : Cx where
  prog := P
  w := w
  K := K
  mg := mg
  base := base
  A := A.deeper (envOfC qual scope s.heap.objs.size f cd)
  N := N
  s₀ := s
  H₀ := H
  env := envOfC qual scope s.heap.objs.size f cd
  outer := outer
  stack := envOfC qual scope s.heap.objs.size f cd :: outer
  ex := []
  calm := true
  fn := fun _ => true
  pn := []
  xe := fun e s' => wpAny (model P w) (A.deeper (envOfC qual scope s.heap.objs.size f cd)) (leaving (envOfC qual scope s.heap.objs.size f cd) e) (fun _ s'' => CX outer H s E e s'') (fun e' s'' => CX outer H s E e' s'') s'
theorem cell_has {sc : Scope} {n : Nat} {x : Str} (h : sc.names.lookup x = some .cell) : ∃ c, (cellsFrom n sc.names []).lookup x = some c := by
  have q := PySem.W.cellsFrom_some sc.names n [] (.inl h)
  exact Option.isSome_iff_exists.mp q
theorem inv_start {CX : CXT} {P : Program} {w : World} {K : PySem.W.Frag} {mg : Str → Option Value} {base : Heap} {N ps : List Str} {qual : Str} {scope : Scope} {f : Addr} {cd : Value} {A : Around} {outer : List Env} {s s1 : Shared} {H : Hp} {E : XK} {us : List Value} {vs : List V}
    (S : FnScope N ps scope) (hd : A.handled = none) (e0 : Env0 P w K mg base A outer s H) (hl : vs.length = ps.length) (r : Vals vs us)
    (x : InCallC s s.heap.objs.size (bindL (envOfC qual scope s.heap.objs.size f cd).kindOf (ps.zip us) fun _ => none) (cellsFrom (s.heap.objs.size + 1) scope.names []) (bindC (envOfC qual scope s.heap.objs.size f cd).kindOf (ps.zip us) fun _ => none) s1) :
    Inv (cxOf CX P w K mg base N qual scope f cd A outer s H E) [] (start N vs) H s1 := by
  have hpl : ps.length ≤ N.length := by have := congrArg List.length S.pre; rw [List.length_take] at this; omega
  obtain ⟨h1, tk, rfl, hk⟩ := x.done
  have noA : ∀ b : Addr, b ∉ (cxOf CX P w K mg base N qual scope f cd A outer s H E).ex := fun b z => absurd (show b ∈ ([] : List Addr) from z) (by simp)
  refine ⟨⟨e0.mod, S.kind, rfl, rfl, Nat.le_refl _, fun y z c h1 h2 => ?_, fun y hy => ?_, fun y c _ h => ?_, fun _ => hd, Around.frames_deeper e0.frames, .inr ⟨rfl, rfl⟩, fun b z => absurd z (noA b), e0.bs, e0.bsz, fun b _ _ => noA b, fun b z => absurd z (noA b), e0.funs, e0.frf⟩,
    rfl, e0.bare, Un.kept hk, ⟨_, x.toInCall.ns, fun i y v h1 h2 h3 => ?_⟩, fun y c h => ⟨_, x.cell y c h⟩, e0.hok.fresh (Nat.le_refl _), fun y c h => ?_, fun p hp => absurd (show p ∈ ([] : List (Addr × Obj)) from hp) (by simp), e0.hok.kept hk, ?_⟩
  · exact name_of_addr x.apart (PySem.mem_of_lookup h1) (PySem.mem_of_lookup h2)
  · have hy : scope.names.lookup y = some .cell ∨ scope.names.lookup y = some .free := hy
    rcases hy with hy | hy
    · exact cell_has hy
    · exact absurd rfl (S.nofree _ (PySem.mem_of_lookup hy))
  · exact Nat.le_of_lt (x.above y c (PySem.mem_of_lookup h))
  · have hi : i < vs.length := by
      unfold start at h2
      by_cases hi : i < vs.length
      · exact hi
      · rw [List.getElem?_append_right (by simpa using hi)] at h2
        rw [List.getElem?_replicate] at h2
        split at h2 <;> cases h2
    have ha : vs[i]? = some v := by
      unfold start at h2
      rw [List.getElem?_append_left (by simpa using hi), List.getElem?_map] at h2
      cases e : vs[i]? with
      | none => rw [e] at h2; cases h2
      | some a => rw [e] at h2; cases h2; rfl
    obtain ⟨u, hu, rv⟩ := r.get ha
    have hp : ps[i]? = some y := by
      rw [← S.pre, List.getElem?_take_of_lt (by omega)]; exact h1
    have ndP : ps.Nodup := by rw [← S.pre]; exact S.nd.sublist (List.take_sublist _ _)
    refine ⟨u, rv, ?_⟩
    rcases S.par y (List.mem_of_getElem? hp) with k | k
    · exact .inl ⟨k, bindL_get ndP hp hu k⟩
    · obtain ⟨c, e⟩ := cell_has (n := s.heap.objs.size + 1) k
      refine .inr ⟨.inl k, c, e, ?_⟩
      have q := x.cell y c e
      rw [bindC_get ndP hp hu (by show scope.names.lookup y ≠ _; rw [k]; decide)] at q
      exact q
  · exact e0.hok.fresh (Nat.le_of_lt (x.above y c (PySem.mem_of_lookup h)))
  · unfold start
    show _ = N.length
    rw [List.length_append, List.length_map, List.length_replicate]
    omega
/-- THE RULE: a def (or a method) of the text, by its body. The body's reading t is chosen for each entry; it is run at the parameters' values -/
theorem fn_of {CX : CXT} {P : Program} {w : World} {K : PySem.W.Frag} {mg : Str → Option Value} {base : Heap} {k : Nat} {f : Addr} {name qual : Str} {params : Arguments} {body : List Stmt} {scope : Scope} {dV kV doc pm cdv ct oc : Value} {an od : Option Addr}
    {osl : Array (Option Value)} {N ps : List Str} {sp : Sp} (lk : K.lookup f = some ⟨oc, od, .func (PySem.W.fnOf name qual params body scope dV kV doc pm an cdv ct), osl⟩) (hcd : PySem.W.codeIn K cdv qual = true) (S : FnScope N ps scope)
    (len : ∀ vs H Q E, sp vs H Q E → vs.length = ps.length)
    (hbody : ∀ (A : Around) (outer : List Env) (s : Shared) (H : Hp) (vs : List V) (Q : VK) (E : XK), Room k (A.deeper (envOfC qual scope s.heap.objs.size f cdv)) → sp vs H Q E →
      ∃ t, PSs (cxOf CX P w K mg base N qual scope f cdv A outer s H E) body t ∧ t { nx := fun _ H' => Q .non H', rt := Q } (start N vs) H) :
    FnOk P w K mg base CX (k + 1) f (PySem.W.fnOf name qual params body scope dV kV doc pm an cdv ct) ps sp := by
  refine ⟨len, fun A outer s H args us vs Q E hr e0 hb r hsp => ?_⟩
  have hl := len _ _ _ _ hsp
  have KX : K.In s.heap := e0.mod.kin.keeps fun b o e => (e0.bs b o e).1
  have lim : s.heap.NoLimit := e0.mod.nolimit.keeps fun b o e => (e0.bs b o e).1
  have hkind : ∀ y ∈ ps.zip us, scope.names.lookup y.1 = some .local ∨ (scope.names.lookup y.1 = some .cell ∧ ((cellsFrom (s.heap.objs.size + 1) scope.names []).lookup y.1).isSome = true) := fun ⟨n, v⟩ hy => by
    rcases S.par n (List.of_mem_zip hy).1 with q | q
    · exact .inl q
    · exact .inr ⟨q, PySem.W.cellsFrom_some _ _ _ (.inl q)⟩
  refine codeAny_call_function hr.depth (KX _ _ lk) rfl S.co S.gen rfl (PySem.W.codeRec_of KX hcd) (hb _ _ _ _ ?_)
  refine wpAny_newFunctionEnv_cells S.kind hkind fun env he s1 x => ?_
  subst he
  refine ⟨lim.keeps x.toInCall.keep, codeAny_func ?_⟩
  obtain ⟨t, ht, hq⟩ := hbody A outer s H vs Q E (hr.deeper _) hsp
  have I : Inv (cxOf CX P w K mg base N qual scope f cdv A outer s H E) [] (start N vs) H s1 := inv_start S hr.hd e0 hl r x
  refine wpAny_mono (ht [] s1 (start N vs) H _ I hq) (fun fl s' hs => ?_) fun e s' hs => hs
  have fin : ∀ {σ' : St} {H' : Hp} {v : V} {u : Value}, Inv (cxOf CX P w K mg base N qual scope f cdv A outer s H E) [] σ' H' s' → RelV v u → Q v H' → CE outer P w H s Q u s' :=
    fun {σ' H' v u} J rv q => ⟨v, H', J.os, J.bare, J.base, J.hok, rv, q⟩
  cases fl with
  | ret u =>
    obtain ⟨v, σ', H', J, rv, q⟩ := hs
    exact fin J rv q
  | next =>
    obtain ⟨σ', H', J, q⟩ := hs
    exact fin (v := V.non) (u := Value.none) J rfl q
  | brk =>
    obtain ⟨_, _, _, q⟩ := hs
    exact False.elim q
  | cont =>
    obtain ⟨_, _, _, q⟩ := hs
    exact False.elim q
end L2
namespace L2
open PySem PySem.Spec PyProof.Rows
section
variable {X : Cx} {x : Str} {p pos : Pos} {e : Expr} {es : List Expr} {t : TA} {id T : String} {r : List V → Hp → VK → Prop}
noncomputable def tCB (r : List V → Hp → VK → Prop) (t : TA) : TE := fun σ H Q => t σ H fun vs H1 => r vs H1 Q
/-- f(e, ..), f a built-in function -/
theorem pe_callB (hc : CallR X (.builtin id) r) (hg : Gl X x) (hm : X.mg x = none) (hv : bootBuiltins x = some (.builtin id)) (ha : PA X (e :: es) t) (hn : x ≠ "__name__" := by decide) (hdb : (x == ("__debug__" : Str)) = false := by decide)
    (he : starEach (e :: es) X.env = (false, eval e X.env) :: starEach es X.env := by rfl) (hpl : (backTo pos (starEach es X.env)).any (·.1) = false := by rfl) : PE X (.Call (.Name x p) (e :: es) [] pos) (tCB r t) := by
  intro pins s σ H Q I h
  refine wpAny_Call_Name_kw (ld_blt I hg hm hv ?_ hn hdb)
  exact PyProof.Rows.callWith_builtin1 (thn (ha pos pins s σ H _ I h) fun us s1 hq5 => L2.ex5 hq5 fun vs H1 I1 r1 q1 => hc pins s1 σ H1 vs us Q I1 r1 q1) he hpl
/-- T(e, ..), T a built-in type -/
theorem pe_callTy (hc : CallR X (.type T) r) (hg : Gl X x) (hm : X.mg x = none) (hv : bootBuiltins x = some (.type T)) (ha : PA X (e :: es) t) (hn : x ≠ "__name__" := by decide) (hdb : (x == ("__debug__" : Str)) = false := by decide)
    (he : starEach (e :: es) X.env = (false, eval e X.env) :: starEach es X.env := by rfl) (hpl : (backTo pos (starEach es X.env)).any (·.1) = false := by rfl) : PE X (.Call (.Name x p) (e :: es) [] pos) (tCB r t) := by
  intro pins s σ H Q I h
  refine wpAny_Call_Name_kw (ld_blt I hg hm hv ?_ hn hdb)
  exact PyProof.Rows.callWith_type1 (thn (ha pos pins s σ H _ I h) fun us s1 hq5 => L2.ex5 hq5 fun vs H1 I1 r1 q1 => hc pins s1 σ H1 vs us Q I1 r1 q1) he hpl
end
end L2
set_option Elab.async false
set_option linter.all false
set_option maxRecDepth 100000
namespace HT
open PySem PyProof.Rows
section
open PySem.SeqAt
open PySem.AutoSeq1 (wpAny_loadPart')
open PySem.MeetsSeq PySem.MeetsSeq2 PySem.MeetsSeq3
end
section
variable {prog : Program} {w : World} {A : Around} {E : Value → Shared → Prop} {s : Shared}
/-- t + u, t not empty -/
theorem cat_tup {t b : Addr} {vs ws : List Value} {Q : Value → Shared → Prop} (ht : IsTup s.heap t vs.toArray) (hb : IsTup s.heap b ws.toArray) (hv : vs ≠ [])
    (h1 : ws = [] → Q (.ref t) s) (h2 : ws ≠ [] → Q (.ref s.heap.objs.size) { s with heap := s.heap.push { cls := .type "tuple", data := .seq (vs ++ ws).toArray } })
    (hsz : vs.length + ws.length ≤ sizeLine) : wpAny (model prog w) A (binaryOp .Add (.ref t) (.ref b)) Q E s := by
  obtain ⟨⟨cls, dd, data, sl⟩, ho, hc, n, hd⟩ := id ht
  obtain ⟨⟨cls2, dd2, data2, sl2⟩, ho2, hc2, n2, hd2⟩ := id hb
  simp only at hc hd hc2 hd2
  subst hc hd hc2 hd2
  have e : vs.toArray ++ ws.toArray = (vs ++ ws).toArray := by simp
  by_cases hw : ws = []
  · exact concat_meets ⟨_, ho, rfl⟩ ⟨_, ho2, rfl⟩ noFill_tuple_add seq_tuple_add PySem.F.slot_tuple_add PySem.F.entry_tuple_add (PySem.F.args_tuple_add_2 _ _)
      (tuple_addW1 t b vs.toArray ws.toArray n n2 dd dd2 sl sl2 (by simpa using hv) (by simp [hw])) ⟨ho, ho2, h1 hw⟩
  · refine concat_meets ⟨_, ho, rfl⟩ ⟨_, ho2, rfl⟩ noFill_tuple_add seq_tuple_add PySem.F.slot_tuple_add PySem.F.entry_tuple_add (PySem.F.args_tuple_add_2 _ _)
      (tuple_addW2 t b vs.toArray ws.toArray n n2 dd dd2 sl sl2 (by simpa using hv) (by simpa using hw) (by rw [List.size_toArray, List.size_toArray]; exact hsz)) ⟨ho, ho2, ?_⟩
    rw [e]
    exact h2 hw
/-- a slice's bound as a place among n (d where it is left out) -/
noncomputable def sIx (n d : Nat) : Option Int → Nat
  | none => d
  | some v => if v < 0 then (v + (n : Int)).toNat else min v.toNat n
theorem sIx_le (n d : Nat) (hd : d ≤ n) (o : Option Int) : sIx n d o ≤ n := by
  cases o with
  | none => exact hd
  | some v =>
    show (if v < 0 then (v + (n : Int)).toNat else min v.toNat n) ≤ n
    by_cases hv : v < 0
    · rw [if_pos hv]; omega
    · rw [if_neg hv]; exact Nat.min_le_right _ _
theorem clip_eq (v : Int) (n d : Nat) : (if v < 0 then max (v + (n : Int)) 0 else min v (n : Int)) = ((sIx n d (some v) : Nat) : Int) := by
  show (if v < 0 then max (v + (n : Int)) 0 else min v (n : Int)) = (((if v < 0 then (v + (n : Int)).toNat else min v.toNat n) : Nat) : Int)
  by_cases hv : v < 0
  · simp only [if_pos hv]; omega
  · simp only [if_neg hv]; omega
theorem adjust_gen (lo hi : Option Int) (n : Nat) : Builtin.Slice.sliceAdjust lo hi 1 (n : Int) = (((sIx n 0 lo : Nat) : Int), ((sIx n n hi : Nat) : Int)) := by
  have h1 : ¬ ((1 : Int) < 0) := by omega
  unfold Builtin.Slice.sliceAdjust
  simp only [h1, if_false]
  refine Prod.ext ?_ ?_
  · cases lo with
    | none => rfl
    | some v => exact clip_eq v n 0
  · cases hi with
    | none => rfl
    | some v => exact clip_eq v n n
theorem places_gen (i j : Nat) : Builtin.Slice.slicePlaces (i : Int) (j : Int) 1 = j - i := by
  unfold Builtin.Slice.slicePlaces
  have h1 : (1 : Int) > 0 := by omega
  simp only [h1, if_true, Int.ediv_one]
  split <;> omega
theorem slicePart_ {v : Value} {o : Option Int} {Q : Option Int → Shared → Prop} (p : IsPart v o) (h : Q o s) : wpAny (model prog w) A (Builtin.Slice.slicePartIndex v) Q E s := by
  cases p with
  | none => exact slicePart_none h
  | int i t => exact slicePart_int h
theorem sliceApplied_gen {sl : Addr} {vl vu : Value} {lo hi : Option Int} {n : Nat} {Q : Int × Int × Nat → Shared → Prop} (hs : s.heap.IsSliceOf sl vl vu .none) (pl : IsPart vl lo) (pu : IsPart vu hi)
    (h : Q (((sIx n 0 lo : Nat) : Int), 1, sIx n n hi - sIx n 0 lo) s) : wpAny (model prog w) A (Builtin.Slice.sliceApplied (.ref sl) (pure (n : Int))) Q E s := by
  obtain ⟨os, hos, hcs, hds⟩ := id hs
  unfold Builtin.Slice.sliceApplied Builtin.Slice.sliceFields
  refine wpAny_bind (wpAny_bind (wpAny_field hos hds (x := vl) rfl (wpAny_bind (wpAny_field hos hds (x := vu) rfl (wpAny_bind (wpAny_field hos hds (x := .none) rfl (wpAny_pure ?_)))))))
  refine wpAny_bind (slicePart_none ?_)
  show wpAny _ _ (if ((1 : Int) == 0) = true then _ else _) _ _ s
  rw [if_neg (by decide)]
  refine wpAny_bind (slicePart_ pl (wpAny_bind (slicePart_ pu (wpAny_bind (wpAny_pure ?_)))))
  show wpAny _ _ (match Builtin.Slice.sliceAdjust lo hi 1 (n : Int) with | (lo, hi) => pure (lo, (1 : Int), Builtin.Slice.slicePlaces lo hi 1)) _ _ s
  rw [adjust_gen lo hi n]
  show wpAny _ _ (pure (((sIx n 0 lo : Nat) : Int), (1 : Int), Builtin.Slice.slicePlaces ((sIx n 0 lo : Nat) : Int) ((sIx n n hi : Nat) : Int) 1)) _ _ s
  rw [places_gen]
  exact wpAny_pure h
theorem pick_gen (xs : Array Value) (i k : Nat) : ((List.range k).filterMap fun (m : Nat) => xs[((i : Int) + (m : Int) * 1).toNat]?).toArray = ((xs.toList.drop i).take k).toArray := by
  have e : (fun (m : Nat) => xs[((i : Int) + (m : Int) * 1).toNat]?) = fun m => xs[i + m]? := by
    funext m
    have : ((i : Int) + (m : Int) * 1).toNat = i + m := by omega
    rw [this]
  rw [e]
  have := pick_run xs i k
  rw [List.filterMap_map] at this
  have e2 : ((fun x => xs[x]?) ∘ fun x => i + x) = fun m => xs[i + m]? := rfl
  rw [e2] at this
  rw [this]
theorem getItem_tuple_cut {t sl : Addr} {items : Array Value} {vl vu : Value} {lo hi : Option Int} {Q : Value → Shared → Prop} (ht : IsTup s.heap t items) (hs : s.heap.IsSliceOf sl vl vu .none) (pl : IsPart vl lo) (pu : IsPart vu hi)
    (hw : ¬ (sIx items.size 0 lo = 0 ∧ sIx items.size items.size hi = items.size))
    (h : Q (.ref s.heap.objs.size) { s with heap := s.heap.push { cls := .type "tuple", data := .seq ((items.toList.drop (sIx items.size 0 lo)).take (sIx items.size items.size hi - sIx items.size 0 lo)).toArray } })
    (hsz : items.size ≤ sizeLine) : wpAny (model prog w) A (getItem (.ref t) (.ref sl)) Q E s := by
  have htake : sizeOk (.seq ((items.toList.drop (sIx items.size 0 lo)).take (sIx items.size items.size hi - sIx items.size 0 lo)).toArray) := by
    show ((items.toList.drop (sIx items.size 0 lo)).take (sIx items.size items.size hi - sIx items.size 0 lo)).toArray.size ≤ sizeLine
    rw [List.size_toArray, List.length_take, List.length_drop, Array.length_toList]
    omega
  have hj : sIx items.size items.size hi ≤ items.size := sIx_le _ _ (Nat.le_refl _) hi
  obtain ⟨os, hos, hcs, hds⟩ := id hs
  have hTs : s.TypeIs (.ref sl) "slice" := ⟨os, hos, hcs⟩
  unfold getItem
  try with_reducible refine wpAny_holding ?_
  first | refine wpAny_bind (wpAny_pure ?_) | skip
  refine wpAny_bind (wpAny_sequenceKey ht.typeIs (by decide) ?_)
  refine wpAny_bind (wpAny_callSpecial?_slot (name := Str.ofString "__getitem__") ht.typeIs PyProof.Rows.slot_tuple_getitem
    (wpAny_call_entry PyProof.Rows.slot_tuple_getitem ht.typeIs entry_tuple_getitem ?_ (args_tuple_getitem _ _)))
  show wpAny _ _ (Builtin.Tuple.tupleItemsOf (.ref t) >>= _) _ _ s
  refine wpAny_bind (tupleItemsOf_ ht ?_)
  refine wpAny_bind (wpAny_typeOf hTs ?_)
  rw [if_pos (by decide)]
  refine wpAny_bind (sliceApplied_gen hs pl pu ?_)
  have hno : ¬ ((((sIx items.size 0 lo : Nat) : Int) == 0 && (1 : Int) == 1 && (sIx items.size items.size hi - sIx items.size 0 lo) == items.size) = true) := by
    intro q
    rw [Bool.and_eq_true, Bool.and_eq_true] at q
    have q1 : ((sIx items.size 0 lo : Nat) : Int) = 0 := eq_of_beq q.1.1
    have q2 : sIx items.size items.size hi - sIx items.size 0 lo = items.size := eq_of_beq q.2
    exact hw ⟨by omega, by omega⟩
  show wpAny _ _ (if (((sIx items.size 0 lo : Nat) : Int) == 0 && (1 : Int) == 1 && (sIx items.size items.size hi - sIx items.size 0 lo) == items.size) = true then _ else _) _ _ s
  rw [if_neg hno, pick_gen]
  first
    | exact wpAny_bind (m := Builtin.Tuple.tupleExact _) (wpAny_newObj_type (wpAny_pure ⟨_, rfl, wpAny_pure h⟩) htake)
    | exact wpAny_bind (m := Builtin.Tuple.tupleExact _) (wpAny_newObj_type (wpAny_bind (wpAny_pure (wpAny_pure ⟨_, rfl, wpAny_pure h⟩))) htake)
    | exact wpAny_bind (wpAny_bind (m := Builtin.Tuple.tupleExact _) (wpAny_newObj_type (wpAny_pure (wpAny_pure ⟨_, rfl, wpAny_pure h⟩)) htake))
    | exact wpAny_bind (wpAny_bind (m := Builtin.Tuple.tupleExact _) (wpAny_newObj_type (wpAny_pure ⟨_, rfl, wpAny_pure h⟩) htake))
end
end HT
namespace L2
open PySem PySem.Spec PyProof.Rows
noncomputable abbrev TO := St → Hp → (Option Int → Hp → Prop) → Prop
/-- a slice's part (left out, or an int) -/
noncomputable def PO (X : Cx) (e : Option Expr) (t : TO) : Prop :=
  ∀ (pins : List (Addr × Obj)) (s : Shared) (σ : St) (H : Hp) (Q : Option Int → Hp → Prop), Inv X pins σ H s → t σ H Q →
    wpAny (model X.prog X.w) X.A (evalPart e X.env) (fun u s' => ∃ o H', Inv X pins σ H' s' ∧ IsPart u o ∧ Q o H') X.xe s
noncomputable def tNoPart : TO := fun _ H Q => Q none H
noncomputable def tPart (t : TE) : TO := fun σ H Q => t σ H fun x H1 => ∃ i, x = .int i ∧ Q (some i) H1
theorem intsAre_of {ns : List Int} : ∀ {us : List Value}, Vals (ns.map V.int) us → IntsAre us ns := by
  induction ns with
  | nil => intro us r; rw [List.map_nil] at r; cases r; exact .nil
  | cons n ns ih =>
    intro us r
    rw [List.map_cons] at r
    cases r with
    | cons r1 r2 =>
      obtain ⟨t, e⟩ := r1
      subst e
      exact .cons n t (ih r2)
section
variable {X : Cx} {e : Expr} {te : TE} {lo hi : Option Expr} {tl th : TO} {pos p2 : Pos}
theorem po_none : PO X none tNoPart := by
  intro pins s σ H Q I h
  rw [evalPart_none]
  exact wpAny_pure ⟨none, H, I, .none, h⟩
theorem po_some (h : PE X e te) : PO X (some e) (tPart te) := by
  intro pins s σ H Q I hw
  rw [evalPart_some]
  refine thn (h pins s σ H _ I hw) fun u s1 hq5 => L2.ex5 hq5 fun x H1 I1 r1 q1 => ?_
  obtain ⟨i, rfl, q⟩ := q1
  obtain ⟨t, rfl⟩ := r1
  exact ⟨some i, H1, I1, .int i t, q⟩
/-- what a slice of a value is, by values: the slice object stands at sl -/
noncomputable def SlR (X : Cx) (r : V → Option Int → Option Int → Hp → VK → Prop) : Prop :=
  ∀ (pins : List (Addr × Obj)) (s : Shared) (σ : St) (H : Hp) (x : V) (v vl vu : Value) (lo hi : Option Int) (sl : Addr) (Q : VK), Inv X pins σ H s → RelV x v → s.heap.IsSliceOf sl vl vu .none → IsPart vl lo → IsPart vu hi → r x lo hi H Q →
    ∃ T id, typeLookup (.type T) "__getitem__" = pure (some (.builtin id)) ∧ s.TypeIs v T ∧ wpAny (model X.prog X.w) X.A (getItem v (.ref sl)) (EP X pins σ Q) X.xe s
theorem SlR.or {r r' : V → Option Int → Option Int → Hp → VK → Prop} (h : SlR X r) (h' : SlR X r') : SlR X (fun x lo hi H Q => r x lo hi H Q ∨ r' x lo hi H Q) := by
  intro pins s σ H x v vl vu lo hi sl Q I rx hs pl pu q
  rcases q with q | q
  · exact h pins s σ H x v vl vu lo hi sl Q I rx hs pl pu q
  · exact h' pins s σ H x v vl vu lo hi sl Q I rx hs pl pu q
noncomputable def tSl (r : V → Option Int → Option Int → Hp → VK → Prop) (te : TE) (tl th : TO) : TE := fun σ H Q => te σ H fun x H1 => tl σ H1 fun l H2 => th σ H2 fun u H3 => r x l u H3 Q
/-- a[lo:hi], any a -/
theorem pe_slice {r : V → Option Int → Option Int → Hp → VK → Prop} (hr : SlR X r) (he : PE X e te) (hl : PO X lo tl) (hu : PO X hi th) : PE X (.Subscript e (.Slice lo hi none p2) pos) (tSl r te tl th) := by
  intro pins s σ H Q I h
  refine Subscript_ (thn (he pins s σ H _ I h) fun v s1 hq5 => L2.ex5 hq5 fun x H1 I1 r1 q1 => ?_)
  refine wpAny_Slice (thn (hl pins s1 σ H1 _ I1 q1) fun vl s2 hq5 => L2.ex5 hq5 fun l H2 I2 pl q2 => thn (hu pins s2 σ H2 _ I2 q2) fun vu s3 hq5 => L2.ex5 hq5 fun u H3 I3 pu q3 => ?_)
  rw [evalPart_none]
  refine wpAny_pure ?_
  have I4 : Inv X pins σ H3 { s3 with heap := s3.heap.push { cls := .type "slice", data := .fields #[vl, vu, .none] } } := I3.kept (t' := s3.toks) fun b ob q => Heap.get?_push_of_some _ q
  obtain ⟨T, id, hT, ht, hg⟩ := hr pins { s3 with heap := s3.heap.push { cls := .type "slice", data := .fields #[vl, vu, .none] } } σ H3 x v vl vu l u s3.heap.objs.size Q I4 r1 (Heap.IsSliceOf.new ..) pl pu q3
  show wpAny (model X.prog X.w) X.A (subscriptTail e (.Slice lo hi none p2) v (.ref s3.heap.objs.size)) (EP X pins σ Q) X.xe { s3 with heap := s3.heap.push { cls := .type "slice", data := .fields #[vl, vu, .none] } }
  exact tail_any (ops := [.ref s3.heap.objs.size, v]) ht hT hg (by with_unfolding_all rfl)
/-- the items of xs[lo:hi] -/
noncomputable def cutV (xs : List V) (lo hi : Option Int) : List V := (xs.drop (HT.sIx xs.length 0 lo)).take (HT.sIx xs.length xs.length hi - HT.sIx xs.length 0 lo)
theorem cutV_length (xs : List V) (lo hi : Option Int) : (cutV xs lo hi).length ≤ xs.length := by
  unfold cutV
  rw [List.length_take, List.length_drop]
  omega
/-- t[lo:hi], not the whole of it (the whole would be t itself) -/
noncomputable def rSlT (K : PySem.W.Frag) : V → Option Int → Option Int → Hp → VK → Prop := fun x lo hi H Q => ∃ a xs, x = .ref a ∧ SqT K H a xs ∧
  ¬ (HT.sIx xs.length 0 lo = 0 ∧ HT.sIx xs.length xs.length hi = xs.length) ∧ ∀ p, H p = none → Q (.ref p) (upd H p (.tup (cutV xs lo hi)))
theorem sl_tup : SlR X (rSlT X.K) := by
  intro pins s σ H x v vl vu lo hi sl Q I rx hs pl pu h
  obtain ⟨a, xs, rfl, hx, hw, q⟩ := h
  cases rx
  obtain ⟨its, r, ht, hz⟩ := I.tuple hx
  have hlen : its.toArray.size = xs.length := by rw [List.size_toArray]; exact r.length.symm
  refine ⟨"tuple", _, PyProof.Rows.slot_tuple_getitem.lookup, ht.typeIs, ?_⟩
  refine HT.getItem_tuple_cut ht hs pl pu (by rw [hlen]; exact hw) ?_ (by rw [hlen]; exact hz)
  rw [hlen]
  refine ⟨.ref s.heap.objs.size, _, I.laid (t' := s.toks) (o := .tup (cutV xs lo hi)) (fun b ob q => Heap.get?_push_of_some _ q) (Nat.le_refl _) ?_, rfl, q _ (I.hok.fresh (Nat.le_refl _))⟩
  exact ⟨Nat.le_trans (cutV_length xs lo hi) hz, _, (r.drop (HT.sIx xs.length 0 lo)).take (HT.sIx xs.length xs.length hi - HT.sIx xs.length 0 lo), TupN.new _ _⟩
/-- t + u, t not empty: u empty gives t itself -/
noncomputable def rCatT (K : PySem.W.Frag) : R2 := fun x y H Q => ∃ a b xs ys, x = .ref a ∧ y = .ref b ∧ SqT K H a xs ∧ SqT K H b ys ∧ xs ≠ [] ∧ xs.length + ys.length ≤ sizeLine ∧
  (ys = [] → Q (.ref a) H) ∧ (ys ≠ [] → ∀ p, H p = none → Q (.ref p) (upd H p (.tup (xs ++ ys))))
theorem Vals.nil_iff {xs : List V} {us : List Value} (r : Vals xs us) : us = [] ↔ xs = [] := by
  cases r with
  | nil => simp
  | cons _ _ => simp
theorem op_catT : OpR X (binaryOp .Add) (rCatT X.K) := by
  intro pins s σ H x y v u Q I rx ry h
  obtain ⟨a, b, xs, ys, rfl, rfl, ha, hb, hx, hz, q1, q2⟩ := h
  cases rx
  cases ry
  obtain ⟨its, r1, p1, _⟩ := I.tuple ha
  obtain ⟨its2, r2, p2, _⟩ := I.tuple hb
  refine HT.cat_tup p1 p2 (fun z => hx (r1.nil_iff.mp z)) (fun z => ⟨.ref a, H, I, rfl, q1 (r2.nil_iff.mp z)⟩) (fun z => ?_) (by rw [← r1.length, ← r2.length]; exact hz)
  refine ⟨.ref s.heap.objs.size, _, I.laid (t' := s.toks) (o := .tup (xs ++ ys)) (fun b ob q => Heap.get?_push_of_some _ q) (Nat.le_refl _) ?_, rfl, q2 (fun w => z (r2.nil_iff.mpr w)) _ (I.hok.fresh (Nat.le_refl _))⟩
  exact ⟨by rw [List.length_append]; exact hz, _, r1.append r2, TupN.new _ _⟩
end
end L2
namespace L2
open PySem PySem.Spec PyProof.Rows
/-- the place that an index of any sign means -/
noncomputable def ixN (n : Nat) (i : Int) : Option Nat := if 0 ≤ i then (if i < n then some i.toNat else none) else if -(n : Int) ≤ i then some (i + n).toNat else none
noncomputable def atI {α : Type} (xs : List α) (i : Int) : Option α := (ixN xs.length i).bind fun j => xs[j]?
theorem ixN_seq {n : Nat} {i : Int} {j : Nat} (h : ixN n i = some j) : seqIndex? i n = some j ∧ j < n ∧ -(n : Int) ≤ i ∧ i < n := by
  unfold ixN at h
  by_cases h0 : 0 ≤ i
  · rw [if_pos h0] at h
    by_cases h1 : i < n
    · rw [if_pos h1] at h
      have e : i.toNat = j := Option.some.inj h
      exact ⟨by rw [seqIndex_of h0 h1, e], by omega, by omega, h1⟩
    · rw [if_neg h1] at h; cases h
  · rw [if_neg h0] at h
    by_cases h1 : -(n : Int) ≤ i
    · rw [if_pos h1] at h
      have e : (i + n).toNat = j := Option.some.inj h
      exact ⟨by rw [seqIndex_neg (by omega) h1, e], by omega, h1, by omega⟩
    · rw [if_neg h1] at h; cases h
theorem atI_get {α : Type} {xs : List α} {i : Int} {v : α} (h : atI xs i = some v) : ∃ j, seqIndex? i xs.length = some j ∧ xs[j]? = some v ∧ j < xs.length ∧ -(xs.length : Int) ≤ i ∧ i < xs.length := by
  unfold atI at h
  cases e : ixN xs.length i with
  | none => rw [e] at h; cases h
  | some j =>
    rw [e] at h
    obtain ⟨h1, h2, h3, h4⟩ := ixN_seq e
    exact ⟨j, h1, h, h2, h3, h4⟩
theorem atI_nat {α : Type} {xs : List α} {j : Nat} {v : α} (h : xs[j]? = some v) : atI xs (j : Int) = some v := by
  have hj : j < xs.length := (List.getElem?_eq_some_iff.mp h).1
  have e : ixN xs.length (j : Int) = some j := by
    unfold ixN
    rw [if_pos (by omega), if_pos (by omega)]; simp
  unfold atI; rw [e]; exact h
/-- what stands as an index of a plain subscript -/
noncomputable def PlainIx (b : Expr) : Prop := ∀ o i, subscripted b false o i = operate [o, i] (getItem o i)
/-- a subscript by values -/
noncomputable def IxR (X : Cx) (r : R2) : Prop :=
  ∀ (value slice : Expr) (pins : List (Addr × Obj)) (s : Shared) (σ : St) (H : Hp) (x y : V) (v u : Value) (Q : VK), Inv X pins σ H s → RelV x v → RelV y u → r x y H Q →
    subscripted slice false v u = operate [v, u] (getItem v u) → wpAny (model X.prog X.w) X.A (subscriptTail value slice v u) (EP X pins σ Q) X.xe s
/-- a call of a builtin's method by values: the receiver, the arguments -/
noncomputable def MtR (X : Cx) (id : String) (r : V → List V → Hp → VK → Prop) : Prop :=
  ∀ (pins : List (Addr × Obj)) (s : Shared) (σ : St) (H : Hp) (x : V) (xs : List V) (v : Value) (us : List Value) (Q : VK), Inv X pins σ H s → RelV x v → Vals xs us → r x xs H Q →
    wpAny (model X.prog X.w) X.A (call (.builtin id) (v :: us)) (EP X pins σ Q) X.xe s
section
variable {X : Cx} {a b : Expr} {ta tb : TE} {pos : Pos}
theorem IxR.or {r r' : R2} (h : IxR X r) (h' : IxR X r') : IxR X (fun x y H Q => r x y H Q ∨ r' x y H Q) := by
  intro value slice pins s σ H x y v u Q I rx ry q hs
  rcases q with q | q
  · exact h value slice pins s σ H x y v u Q I rx ry q hs
  · exact h' value slice pins s σ H x y v u Q I rx ry q hs
/-- a[b] -/
theorem pe_ix {r : R2} (hr : IxR X r) (ha : PE X a ta) (hb : PE X b tb) (hs : PlainIx b) : PE X (.Subscript a b pos) (tOp r ta tb) := by
  intro pins s σ H Q I h
  exact Subscript_ (binT ha hb I h fun v u s2 x y H2 I2 rx ry q => hr a b pins s2 σ H2 x y v u Q I2 rx ry q (hs _ _))
noncomputable def rIxL (K : PySem.W.Frag) : R2 := fun x y H Q => ∃ p xs i v, x = .ref p ∧ y = .int i ∧ SqL K H p xs ∧ atI xs i = some v ∧ Q v H
noncomputable def rIxT (K : PySem.W.Frag) : R2 := fun x y H Q => ∃ p xs i v, x = .ref p ∧ y = .int i ∧ SqT K H p xs ∧ atI xs i = some v ∧ Q v H
noncomputable def rIxS : R2 := fun x y H Q => ∃ z i c, x = .str z ∧ y = .int i ∧ z.length ≤ sizeLine ∧ atI z.cps.toList i = some c ∧ Q (.str ⟨#[c]⟩) H
theorem ix_list : IxR X (rIxL X.K) := by
  intro value slice pins s σ H x y v u Q I rx ry h hs
  obtain ⟨p, xs, i, z, rfl, rfl, hq, he, q⟩ := h
  cases rx
  obtain ⟨t, rfl⟩ := ry
  obtain ⟨its, r, pl, hz⟩ := I.list hq
  obtain ⟨j, h1, h2, h3, h4, h5⟩ := atI_get he
  obtain ⟨w, ew, rw'⟩ := r.get h2
  have hl := r.length
  have hn := line63
  have fin : EP X pins σ Q w s := ⟨z, H, I, rw', q⟩
  by_cases h0 : 0 ≤ i
  · have hj : i.toNat = j := by
      rw [seqIndex_of h0 h5] at h1
      exact Option.some.inj h1
    exact item_listR pl.isList h0 (by omega) (by rw [hj]; simpa using ew) fin hs
  · have hj : (i + (its.toArray.size : Int)).toNat = j := by
      rw [seqIndex_neg (by omega) h4] at h1
      rw [List.size_toArray, ← hl]
      exact Option.some.inj h1
    exact subscriptTail_builtinR (x := w) pl.isList.typeIs slot_list_getitem.lookup
      (wpAny_getItem_list_neg (Q := fun r s' => r = w ∧ EP X pins σ Q r s') pl.isList (by omega) (by rw [List.size_toArray] <;> omega) (by omega) (by rw [hj]; simpa using ew) ⟨rfl, fin⟩) hs
theorem ix_tup : IxR X (rIxT X.K) := by
  intro value slice pins s σ H x y v u Q I rx ry h hs
  obtain ⟨p, xs, i, z, rfl, rfl, hq, he, q⟩ := h
  cases rx
  obtain ⟨t, rfl⟩ := ry
  obtain ⟨its, r, pl, hz⟩ := I.tuple hq
  obtain ⟨j, h1, h2, h3, h4, h5⟩ := atI_get he
  obtain ⟨w, ew, rw'⟩ := r.get h2
  have hl := r.length
  have hn := line63
  have fin : EP X pins σ Q w s := ⟨z, H, I, rw', q⟩
  exact subscriptTail_builtinR (x := w) pl.typeIs slot_tuple_getitem.lookup
    (getItem_tuple (j := j) (Q := fun r s' => r = w ∧ EP X pins σ Q r s') pl (by omega) (by omega) (by rw [List.size_toArray, ← hl]; exact h1) (by simpa using ew) ⟨rfl, fin⟩) hs
theorem ix_str : IxR X rIxS := by
  intro value slice pins s σ H x y v u Q I rx ry h hs
  obtain ⟨z, i, c, rfl, rfl, hz, he, q⟩ := h
  obtain ⟨t, rfl⟩ := rx
  obtain ⟨t', rfl⟩ := ry
  obtain ⟨j, h1, h2, h3, h4, h5⟩ := atI_get he
  have hl : z.cps.toList.length = z.length := by simp [Str.length]
  rw [hl] at h1 h4 h5
  have hn := line63
  exact tail_any (typeIs_str s z t) slot_str_getitem.lookup (getItem_str (c := c) (by
    have e1 : decide (i < -(2 ^ 63 : Int)) = false := decide_eq_false (by omega)
    have e2 : decide (i ≥ 2 ^ 63) = false := decide_eq_false (by omega)
    rw [e1, e2, Bool.or_false]) (by rw [h1]; simpa using h2) ⟨.str ⟨#[c]⟩, H, I.tok _, ⟨_, rfl⟩, q⟩) hs
/-- list, tuple or str -/
noncomputable def rIx (K : PySem.W.Frag) : R2 := fun x y H Q => rIxL K x y H Q ∨ rIxT K x y H Q ∨ rIxS x y H Q
theorem ix_seq : IxR X (rIx X.K) := ix_list.or (ix_tup.or ix_str)
theorem slice_bounds (lo hi : Option Int) (n : Nat) : (sliceBounds lo hi none n).1 = ((HT.sIx n 0 lo : Nat) : Int) ∧ (sliceBounds lo hi none n).2.1 = ((HT.sIx n n hi : Nat) : Int) ∧ (sliceBounds lo hi none n).2.2 = 1 := by
  refine ⟨?_, ?_, rfl⟩
  · cases lo with
    | none => simp [sliceBounds, HT.sIx]
    | some i =>
      simp only [sliceBounds, HT.sIx, Option.getD_none, show (1 : Int) > 0 by decide, if_true]
      by_cases h : i < 0
      · simp only [h, if_true] <;> omega
      · simp only [h, if_false] <;> omega
  · cases hi with
    | none => simp [sliceBounds, HT.sIx]
    | some i =>
      simp only [sliceBounds, HT.sIx, Option.getD_none, show (1 : Int) > 0 by decide, if_true]
      by_cases h : i < 0
      · simp only [h, if_true] <;> omega
      · simp only [h, if_false] <;> omega
theorem slicePick_cut (its : List Value) (lo hi : Option Int) : slicePick its.toArray lo hi none = ((its.drop (HT.sIx its.length 0 lo)).take (HT.sIx its.length its.length hi - HT.sIx its.length 0 lo)).toArray := by
  obtain ⟨h1, h2, h3⟩ := slice_bounds lo hi its.toArray.size
  unfold slicePick
  rw [h1, h2, h3]
  simp only [sliceRange_one, pick_run, List.size_toArray] <;> rfl
/-- xs[lo:hi] of a list: a new list -/
noncomputable def rSlL (K : PySem.W.Frag) : V → Option Int → Option Int → Hp → VK → Prop := fun x lo hi H Q => ∃ a xs, x = .ref a ∧ SqL K H a xs ∧ ∀ p, H p = none → Q (.ref p) (upd H p (.lst (cutV xs lo hi)))
theorem sl_list : SlR X (rSlL X.K) := by
  intro pins s σ H x v vl vu lo hi sl Q I rx hs pl pu h
  obtain ⟨a, xs, rfl, hx, q⟩ := h
  cases rx
  obtain ⟨its, r, ht, hz⟩ := I.list hx
  have hlen := r.length
  refine ⟨"list", _, slot_list_getitem.lookup, ht.isList.typeIs, ?_⟩
  refine wpAny_getItem_list_slice ht.isList hs pl pu .none (by simp) ?_ (by rw [List.size_toArray] <;> omega)
  rw [slicePick_cut, ← hlen]
  refine ⟨.ref s.heap.objs.size, _, I.laid (t' := s.toks) (o := .lst (cutV xs lo hi)) (fun b ob q => Heap.get?_push_of_some _ q) (Nat.le_refl _) ?_, rfl, q _ (I.hok.fresh (Nat.le_refl _))⟩
  exact ⟨Nat.le_trans (cutV_length xs lo hi) hz, _, 0, (r.drop (HT.sIx xs.length 0 lo)).take (HT.sIx xs.length xs.length hi - HT.sIx xs.length 0 lo), Heap.get?_push_size _ rfl⟩
noncomputable def flatV : V → Bool
  | .non => true
  | .bl _ => true
  | .int _ => true
  | .str _ => true
  | _ => false
/-- == of flat values -/
noncomputable def eqV : V → V → Bool
  | .non, .non => true
  | .bl a, .bl b => a == b
  | .bl a, .int b => (if a then 1 else 0) == b
  | .int a, .bl b => a == (if b then 1 else 0)
  | .int a, .int b => a == b
  | .str a, .str b => a == b
  | _, _ => false
theorem eqAt_V {A : Around} {s : Shared} {y x : V} {u v : Value} (ry : RelV y u) (rx : RelV x v) (fy : flatV y = true) (fx : flatV x = true) : SeqAt.EqAt A s u v (eqV y x) := by
  cases y with
  | non =>
    cases ry
    cases x with
    | non => cases rx; exact SeqAt.EqAt.same _
    | bl b => cases rx; exact SeqAt.EqAt.none_bool b
    | int b => obtain ⟨t, rfl⟩ := rx; exact SeqAt.EqAt.none_int b t
    | str b => obtain ⟨t, rfl⟩ := rx; exact SeqAt.EqAt.none_str b t
    | _ => exact absurd (show false = true from fx) Bool.false_ne_true
  | bl a =>
    cases ry
    cases x with
    | non => cases rx; exact SeqAt.EqAt.bool_none a
    | bl b => cases rx; exact SeqAt.EqAt.bool_bool a b
    | int b => obtain ⟨t, rfl⟩ := rx; exact SeqAt.EqAt.bool_int a b t
    | str b => obtain ⟨t, rfl⟩ := rx; exact SeqAt.EqAt.bool_str a b t
    | _ => exact absurd (show false = true from fx) Bool.false_ne_true
  | int a =>
    obtain ⟨t', rfl⟩ := ry
    cases x with
    | non => cases rx; exact SeqAt.EqAt.int_none a t'
    | bl b => cases rx; exact SeqAt.EqAt.int_bool a t' b
    | int b => obtain ⟨t, rfl⟩ := rx; exact SeqAt.EqAt.int_int a t' b t
    | str b => obtain ⟨t, rfl⟩ := rx; exact SeqAt.EqAt.int_str a t' b t
    | _ => exact absurd (show false = true from fx) Bool.false_ne_true
  | str a =>
    obtain ⟨t', rfl⟩ := ry
    cases x with
    | non => cases rx; exact SeqAt.EqAt.str_none a t'
    | bl b => cases rx; exact SeqAt.EqAt.str_bool a t' b
    | int b => obtain ⟨t, rfl⟩ := rx; exact SeqAt.EqAt.str_int a t' b t
    | str b => obtain ⟨t, rfl⟩ := rx; exact SeqAt.EqAt.str_str a t' b t
    | _ => exact absurd (show false = true from fx) Bool.false_ne_true
  | _ => exact absurd (show false = true from fy) Bool.false_ne_true
/-- the items' answers, read off the values (a value's own answer does not lean on its token) -/
noncomputable def eqU (x : V) (u : Value) : Bool := match u with
  | .none => eqV .non x
  | .bool b => eqV (.bl b) x
  | .int i _ => eqV (.int i) x
  | .str z _ => eqV (.str z) x
  | _ => false
theorem eqU_of {x y : V} {u : Value} (r : RelV y u) (f : flatV y = true) : eqU x u = eqV y x := by
  cases y with
  | non => cases r; rfl
  | bl b => cases r; rfl
  | int i => obtain ⟨t, rfl⟩ := r; rfl
  | str z => obtain ⟨t, rfl⟩ := r; rfl
  | _ => exact absurd (show false = true from f) Bool.false_ne_true
theorem any_eqU {x : V} : ∀ {xs : List V} {us : List Value}, Vals xs us → xs.all flatV = true → us.any (eqU x) = xs.any fun y => eqV y x
  | _, _, .nil, _ => rfl
  | y :: xs, u :: us, .cons r t, f => by
    rw [List.all_cons, Bool.and_eq_true] at f
    rw [List.any_cons, List.any_cons, eqU_of r f.1, any_eqU t f.2]
theorem mem_eqAt {A : Around} {s : Shared} {x : V} {v : Value} (rx : RelV x v) (fx : flatV x = true) : ∀ {xs : List V} {us : List Value}, Vals xs us → xs.all flatV = true → ∀ u ∈ us, SeqAt.EqAt A s u v (eqU x u)
  | _, _, .nil, _ => fun u hu => by cases hu
  | y :: xs, u :: us, .cons r t, f => fun u' hu => by
    rw [List.all_cons, Bool.and_eq_true] at f
    rcases List.mem_cons.mp hu with rfl | hu
    · rw [eqU_of r f.1]; exact eqAt_V r rx f.1 fx
    · exact mem_eqAt rx fx t f.2 u' hu
noncomputable def inV (x : V) (xs : List V) : Bool := xs.any fun y => eqV y x
/-- x in a list or tuple of flat items -/
noncomputable def rIn (K : PySem.W.Frag) (neg : Bool) : R2 := fun x y H Q => ∃ p xs, y = .ref p ∧ (SqL K H p xs ∨ SqT K H p xs) ∧ flatV x = true ∧ xs.all flatV = true ∧ Q (.bl (if neg then !inV x xs else inV x xs)) H
theorem op_in_seq : OpR X (compareOp .In) (rIn X.K false) := by
  intro pins s σ H x y v u Q I rx ry h
  obtain ⟨p, xs, rfl, hq, fx, fs, q⟩ := h
  cases ry
  rcases hq with hq | hq
  · obtain ⟨its, r, pl, hz⟩ := I.list hq
    refine SeqAt.in_listAt (eqU x) pl.isList (fun w hw => mem_eqAt rx fx r fs w (by simpa using hw)) ⟨.bl _, H, I, rfl, ?_⟩
    rw [show its.toArray.any (eqU x) = its.any (eqU x) by simp, any_eqU r fs]
    exact q
  · obtain ⟨its, r, pl, hz⟩ := I.tuple hq
    refine SeqAt.in_tupleAt (eqU x) pl (fun w hw => mem_eqAt rx fx r fs w (by simpa using hw)) ⟨.bl _, H, I, rfl, ?_⟩
    rw [show its.toArray.any (eqU x) = its.any (eqU x) by simp, any_eqU r fs]
    exact q
theorem op_notIn_seq : OpR X (compareOp .NotIn) (rIn X.K true) := by
  intro pins s σ H x y v u Q I rx ry h
  obtain ⟨p, xs, rfl, hq, fx, fs, q⟩ := h
  cases ry
  rcases hq with hq | hq
  · obtain ⟨its, r, pl, hz⟩ := I.list hq
    refine SeqAt.notIn_listAt (eqU x) pl.isList (fun w hw => mem_eqAt rx fx r fs w (by simpa using hw)) ⟨.bl _, H, I, rfl, ?_⟩
    rw [show its.toArray.any (eqU x) = its.any (eqU x) by simp, any_eqU r fs]
    exact q
  · obtain ⟨its, r, pl, hz⟩ := I.tuple hq
    refine SeqAt.notIn_tupleAt (eqU x) pl (fun w hw => mem_eqAt rx fx r fs w (by simpa using hw)) ⟨.bl _, H, I, rfl, ?_⟩
    rw [show its.toArray.any (eqU x) = its.any (eqU x) by simp, any_eqU r fs]
    exact q
theorem call_len_seq : CallR X (.builtin "len") (fun xs H Q => ∃ p ys, xs = [.ref p] ∧ (SqL X.K H p ys ∨ SqT X.K H p ys) ∧ Q (.int ys.length) H) := by
  intro pins s σ H xs us Q I r h
  obtain ⟨p, ys, rfl, hq, q⟩ := h
  obtain ⟨u, rfl, rx⟩ := vals1 r
  cases rx
  have hn := line63
  rcases hq with hq | hq
  · obtain ⟨its, r', pl, hz⟩ := I.list hq
    have hlen := r'.length
    exact Calls.call_len_list pl.isList (by simp only [List.size_toArray] <;> omega) ⟨.int ys.length, H, I.tok _, ⟨s.toks + 1, by rw [List.size_toArray, hlen]⟩, q⟩
  · obtain ⟨its, r', pl, hz⟩ := I.tuple hq
    have hlen := r'.length
    exact len_tuple pl (by simp only [List.size_toArray] <;> omega) ⟨.int ys.length, H, I.tok _, ⟨s.toks + 1, by rw [List.size_toArray, hlen]⟩, q⟩
theorem call_len_str : CallR X (.builtin "len") (fun xs H Q => ∃ z, xs = [.str z] ∧ z.length ≤ sizeLine ∧ Q (.int z.length) H) := by
  intro pins s σ H xs us Q I r h
  obtain ⟨z, rfl, hz, q⟩ := h
  obtain ⟨u, rfl, t, rfl⟩ := vals1 r
  have hn := line63
  exact len_str (by omega) ⟨.int z.length, H, I.tok _, ⟨_, rfl⟩, q⟩
theorem CallR.or {f : Value} {r r' : List V → Hp → VK → Prop} (h : CallR X f r) (h' : CallR X f r') : CallR X f (fun xs H Q => r xs H Q ∨ r' xs H Q) := by
  intro pins s σ H xs us Q I rs q
  rcases q with q | q
  · exact h pins s σ H xs us Q I rs q
  · exact h' pins s σ H xs us Q I rs q
theorem call_list_of : CallR X (.type "list") (fun xs H Q => ∃ p ys, xs = [.ref p] ∧ (SqL X.K H p ys ∨ SqT X.K H p ys) ∧ ∀ l, H l = none → Q (.ref l) (upd H l (.lst ys))) := by
  intro pins s σ H xs us Q I r h
  obtain ⟨p, ys, rfl, hq, q⟩ := h
  obtain ⟨u, rfl, rx⟩ := vals1 r
  cases rx
  have fin : ∀ (its : List Value), Vals ys its → ys.length ≤ sizeLine → ∀ (h' : Heap) (c' : Nat), (∀ b o', s.heap.get? b = some o' → h'.get? b = some o') →
      h'.get? s.heap.objs.size = some { cls := .type "list", dict := none, data := .seq its.toArray c', slots := #[] } → EP X pins σ Q (.ref s.heap.objs.size) { s with heap := h' } := fun its r' hz h' c' kp e =>
    ⟨.ref s.heap.objs.size, _, I.laid (t' := s.toks) kp (Nat.le_refl _) (show ObjOk X.prog X.w _ h' _ (.lst ys) from ⟨hz, its, c', r', e⟩), rfl, q _ (I.hok.fresh (Nat.le_refl _))⟩
  rcases hq with hq | hq
  · obtain ⟨its, r', pl, hz⟩ := I.list hq
    have hlen := r'.length
    obtain ⟨o, ho, hc, n, hd⟩ := pl.isList
    exact call_list_seq p (.inl rfl) ho hc hd (fun h' c' kp e => fin its r' hz h' c' kp e) (by simp only [List.size_toArray] <;> omega)
  · obtain ⟨its, r', pl, hz⟩ := I.tuple hq
    have hlen := r'.length
    obtain ⟨o, ho, hc, n, hd⟩ := pl
    exact call_list_seq p (.inr rfl) ho hc hd (fun h' c' kp e => fin its r' hz h' c' kp e) (by simp only [List.size_toArray] <;> omega)
theorem call_tuple_of : CallR X (.type "tuple") (fun xs H Q => ∃ p ys, xs = [.ref p] ∧ ((SqL X.K H p ys ∧ ∀ l, H l = none → Q (.ref l) (upd H l (.tup ys))) ∨ (SqT X.K H p ys ∧ Q (.ref p) H))) := by
  intro pins s σ H xs us Q I r h
  obtain ⟨p, ys, rfl, h⟩ := h
  obtain ⟨u, rfl, rx⟩ := vals1 r
  cases rx
  rcases h with ⟨hq, q⟩ | ⟨hq, q⟩
  · obtain ⟨its, r', pl, hz⟩ := I.list hq
    have hlen := r'.length
    refine call_tuple_list pl.isList (fun h' kp => ?_) (by simp only [List.size_toArray] <;> omega)
    have I1 : Inv X pins σ H { s with heap := h' } := I.kept (t' := s.toks) kp
    have I2 : Inv X pins σ (upd H h'.objs.size (.tup ys)) { s with heap := h'.push { cls := .type "tuple", data := .seq its.toArray } } :=
      I1.laid (t' := s.toks) (fun b o e => Heap.get?_push_of_some _ e) (Nat.le_refl _) (show ObjOk X.prog X.w _ _ _ (.tup ys) from ⟨hz, its, r', TupN.new _ _⟩)
    exact ⟨.ref h'.objs.size, _, I2, rfl, q _ (I1.hok.fresh (Nat.le_refl _))⟩
  · obtain ⟨its, r', pl, hz⟩ := I.tuple hq
    exact call_tuple_same pl ⟨.ref p, H, I, rfl, q⟩
/-- the value is of that builtin type -/
noncomputable def tyV (K : PySem.W.Frag) (T : String) (x : V) (H : Hp) : Prop := match x with
  | .str _ => T = "str"
  | .int _ => T = "int"
  | .ref p => (T = "list" ∧ ∃ xs, SqL K H p xs) ∨ (T = "tuple" ∧ ∃ o, K.lookup p = some o ∧ o.cls = .type "tuple" ∧ o.dict = none) ∨
      (T = "dict" ∧ ((∃ kvs, H p = some (.dK kvs)) ∨ ∃ kvs, H p = some (.dT kvs))) ∨ (T = "set" ∧ ∃ S n, H p = some (.set S n))
  | _ => False
theorem tyV_is {pins : List (Addr × Obj)} {σ : St} {H : Hp} {s : Shared} {T : String} {x : V} {v : Value} (I : Inv X pins σ H s) (r : RelV x v) (ty : tyV X.K T x H) :
    s.TypeIs v T ∧ ∀ a, v = .ref a → ∃ ob, s.heap.get? a = some ob ∧ ob.dict = none := by
  cases x with
  | str z =>
    obtain ⟨t, rfl⟩ := r
    cases (show T = "str" from ty)
    exact ⟨typeIs_str s z t, fun _ e => nomatch e⟩
  | int i =>
    obtain ⟨t, rfl⟩ := r
    cases (show T = "int" from ty)
    exact ⟨typeIs_int s i t, fun _ e => nomatch e⟩
  | ref p =>
    cases r
    rcases ty with ⟨rfl, xs, hq⟩ | ⟨rfl, o, hk, hc, hd⟩ | ⟨rfl, hk⟩ | ⟨rfl, S, n, hk⟩
    · obtain ⟨its, _, pl, _⟩ := I.list hq
      refine ⟨pl.isList.typeIs, fun a e => ?_⟩
      cases e
      obtain ⟨o, n, e, c, hd, _⟩ := pl
      exact ⟨o, e, hd⟩
    · refine ⟨⟨o, I.kIn p o hk, hc⟩, fun a e => ?_⟩
      cases e
      exact ⟨o, I.kIn _ o hk, hd⟩
    · have z : ∃ o, s.heap.get? p = some o ∧ o.ExactDict := by
        rcases hk with ⟨kvs, hk⟩ | ⟨kvs, hk⟩
        · obtain ⟨_, _, _, _, o, _, _, e, ex, _⟩ := I.hok p _ hk
          exact ⟨o, e, ex⟩
        · obtain ⟨_, _, _, _, o, _, _, e, ex, _⟩ := I.hok p _ hk
          exact ⟨o, e, ex⟩
      obtain ⟨o, e, ex⟩ := z
      refine ⟨⟨o, e, ex.1⟩, fun a e2 => ?_⟩
      cases e2
      exact ⟨o, e, ex.2.1⟩
    · obtain ⟨o, _, _, _, e, ex, _⟩ := I.hok p _ hk
      refine ⟨⟨o, e, ex.1⟩, fun a e2 => ?_⟩
      cases e2
      exact ⟨o, e, ex.2.1⟩
  | _ => exact False.elim ty
noncomputable def tBM0 (K : PySem.W.Frag) (T : String) (r : V → List V → Hp → VK → Prop) (to : TE) : TE := fun σ H Q => to σ H fun x H1 => tyV K T x H1 ∧ r x [] H1 Q
noncomputable def tBM (K : PySem.W.Frag) (T : String) (r : V → List V → Hp → VK → Prop) (to : TE) (t : TA) : TE := fun σ H Q => to σ H fun x H1 => tyV K T x H1 ∧ t σ H1 fun xs H2 => r x xs H2 Q
variable {o e : Expr} {es : List Expr} {to : TE} {t : TA} {name : Str} {apos cpos : Pos} {T id : String} {r : V → List V → Hp → VK → Prop}
theorem pe_bm0 (pa : PlainAttrs T) (slot : Slot T name id) (hty : typeOf (.builtin id) = pure (.type "method_descriptor")) (hm : MtR X id r) (ho : PE X o to)
    (hbase : attributeBase o name X.env (eval o X.env) = eval o X.env := by rfl) (hline : (apos.endLine == cpos.line) = true := by rfl) : PE X (.Call (.Attribute o name apos) [] [] cpos) (tBM0 X.K T r to) := by
  intro pins s σ H Q I h
  refine wpAny_Call_method0_late hbase hline (thn (ho pins s σ H _ I h) fun v s1 ⟨x, H1, I1, r1, ty, q1⟩ => ?_)
  obtain ⟨h1, h2⟩ := tyV_is I1 r1 ty
  exact ⟨T, id, pa, slot, hty, h1, h2, Calls.callWith_builtin rfl (PySem.evalArgs_none (hm pins s1 σ H1 x [] v [] Q I1 r1 .nil q1))⟩
theorem pe_bm (pa : PlainAttrs T) (slot : Slot T name id) (hty : typeOf (.builtin id) = pure (.type "method_descriptor")) (hm : MtR X id r) (ho : PE X o to) (ha : PA X (e :: es) t)
    (hbase : attributeBase o name X.env (eval o X.env) = eval o X.env := by rfl)
    (hfew : ((backTo cpos (starEach (e :: es) X.env)).all (fun x => !x.1) && (backToKw cpos (keywordEach [] X.env)).all (fun x => x.1.isSome)
      && decide ((e :: es).length + ([] : List Keyword).length + (if ([] : List Keyword).isEmpty then 0 else 1) < 30)) = true := by rfl)
    (hline : (apos.endLine == cpos.line) = true := by rfl) (hs : starEach (e :: es) X.env = (false, eval e X.env) :: starEach es X.env := by rfl) (hplain : (backTo cpos (starEach es X.env)).any (·.1) = false := by rfl) :
    PE X (.Call (.Attribute o name apos) (e :: es) [] cpos) (tBM X.K T r to t) := by
  intro pins s σ H Q I h
  refine wpAny_Call_method_late hbase hfew hline rfl (thn (ho pins s σ H _ I h) fun v s1 ⟨x, H1, I1, r1, ty, q1⟩ => ?_)
  obtain ⟨h1, h2⟩ := tyV_is I1 r1 ty
  refine ⟨T, id, pa, slot, hty, h1, h2, ?_⟩
  have hA := ha cpos pins s1 σ H1 _ I1 q1
  rw [hs] at hA ⊢
  refine Calls.callWith_builtin (by show (false || (backTo cpos (starEach es X.env)).any (·.1)) = false; rw [hplain] <;> rfl) (Calls.evalArgs_plain ?_)
  exact thn hA fun us s2 hq5 => L2.ex5 hq5 fun vs H2 I2 r2 q2 => hm pins s2 σ H2 x vs v us Q I2 r1 r2 q2
/- xs.append(e), list.index on a module's tuple .. are MtR facts of 06m -/
end
end L2
namespace L2
open PySem PySem.Spec PyProof.Rows
noncomputable def MtM (X : Cx) (id : String) (r : V → List V → Hp → VK → Prop) : Prop :=
  ∀ (pins : List (Addr × Obj)) (s : Shared) (σ : St) (H : Hp) (x : V) (xs : List V) (v : Value) (us : List Value) (Q : VK), Inv X pins σ H s → RelV x v → Vals xs us → r x xs H Q →
    wpAny (model X.prog X.w) X.A (call (.builtin id) (v :: us)) (EP X pins σ Q) X.xe s
theorem Vals.one {x : V} {us : List Value} (h : Vals [x] us) : ∃ u, us = [u] ∧ RelV x u := by
  cases h with
  | cons r h => cases h; exact ⟨_, rfl, r⟩
theorem Vals.two {x y : V} {us : List Value} (h : Vals [x, y] us) : ∃ u v, us = [u, v] ∧ RelV x u ∧ RelV y v := by
  cases h with
  | cons r h =>
    cases h with
    | cons q h => cases h; exact ⟨_, _, rfl, r, q⟩
theorem Vals.zero : ∀ {us : List Value}, Vals [] us → us = []
  | _, .nil => rfl
theorem Vals.reverse {xs : List V} {us : List Value} (h : Vals xs us) : Vals xs.reverse us.reverse := by
  induction h with
  | nil => exact .nil
  | cons r t ih => rw [List.reverse_cons, List.reverse_cons]; exact Vals.append ih (.cons r .nil)
section
variable {X : Cx} {pins : List (Addr × Obj)} {σ : St} {H : Hp} {s : Shared} {l b : Addr} {xs ys zs : List V}
theorem Inv.lset {its its' : List Value} {n : Nat} {f : Array Value → Array Value} {t' : Nat} (I : Inv X pins σ H s) (hH : H l = some (.lst xs))
    (e : s.heap.get? l = some { cls := .type "list", data := .seq its.toArray n }) (hf : f its.toArray = its'.toArray) (hv : Vals ys its') (hz : ys.length ≤ sizeLine) :
    Inv X pins σ (upd H l (.lst ys)) { s with heap := s.heap.update l (Obj.mapSeq f), toks := t' } := by
  have q := PySem.IsL.update e f
  rw [hf] at q
  refine I.write (x := l) (e := l) (by rw [hH]; exact trivial) (.inl rfl) (fun b' u hb hu => (Heap.get?_update_other s.heap (Obj.mapSeq f) (Ne.symm hb)).trans hu) ⟨_, q⟩ ?_
  exact ⟨hz, its', _, hv, q⟩
theorem Inv.lnew {its : List Value} {t' : Nat} (I : Inv X pins σ H s) (hv : Vals ys its) (hz : ys.length ≤ sizeLine) :
    Inv X pins σ (upd H s.heap.objs.size (.lst ys)) { s with heap := s.heap.push { cls := .type "list", data := .seq its.toArray }, toks := t' } :=
  I.laid (fun _ _ q => Heap.get?_push_of_some _ q) (Nat.le_refl _) ⟨hz, its, 0, hv, Heap.get?_push_size _ rfl⟩
theorem Inv.fresh (I : Inv X pins σ H s) : H s.heap.objs.size = none := I.hok.fresh (Nat.le_refl _)
theorem Inv.lstM (I : Inv X pins σ H s) (hH : H l = some (.lst xs)) : xs.length ≤ sizeLine ∧ ∃ (its : List Value) (n : Nat), Vals xs its ∧ xs.length = its.length ∧ s.heap.get? l = some { cls := .type "list", data := .seq its.toArray n } := by
  obtain ⟨z, its, n, r, e⟩ := I.hok l _ hH
  exact ⟨z, its, n, r, r.length, e⟩
end
section
variable {X : Cx}
noncomputable def rAppend : V → List V → Hp → VK → Prop := fun x vs H Q => ∃ l xs y, x = .ref l ∧ vs = [y] ∧ H l = some (.lst xs) ∧ xs.length < sizeLine ∧ Q .non (upd H l (.lst (xs ++ [y])))
theorem mt_append : MtM X "list.append" rAppend := by
  intro pins s σ H x vs v us Q I rx rv h
  obtain ⟨l, xs, y, rfl, rfl, hH, hz, q⟩ := h
  cases rx
  obtain ⟨u, rfl, ru⟩ := rv.one
  obtain ⟨z, its, n, r, hl, e⟩ := I.lstM hH
  refine call_meets F.slot_list_append ⟨_, e, rfl⟩ F.entry_list_append (F.args_list_append_2 _ _) (PySem.list_append l its.toArray n u (by rw [List.size_toArray]; omega)) ⟨e, ?_⟩
  refine ⟨.non, _, I.lset (its' := its ++ [u]) hH e (by simp) (r.append (.cons ru .nil)) ?_, rfl, q⟩
  rw [List.length_append, List.length_singleton]
  omega
noncomputable def rReverse : V → List V → Hp → VK → Prop := fun x vs H Q => ∃ l xs, x = .ref l ∧ vs = [] ∧ H l = some (.lst xs) ∧ Q .non (upd H l (.lst xs.reverse))
theorem mt_reverse : MtM X "list.reverse" rReverse := by
  intro pins s σ H x vs v us Q I rx rv h
  obtain ⟨l, xs, rfl, rfl, hH, q⟩ := h
  cases rx
  have hus := rv.zero
  subst hus
  obtain ⟨z, its, n, r, hl, e⟩ := I.lstM hH
  refine call_meets F.slot_list_reverse ⟨_, e, rfl⟩ F.entry_list_reverse (F.args_list_reverse_1 _) (AutoSeq1.list_reverse_list_0 l its.toArray n (by rw [List.size_toArray]; omega)) ⟨e, ?_⟩
  refine ⟨.non, _, I.lset (its' := its.reverse) hH e (by simp) r.reverse ?_, rfl, q⟩
  rw [List.length_reverse]
  omega
end
section
variable {prog : Program} {w : World} {A : Around} {E : Value → Shared → Prop} {s : Shared}
end
section
variable {X : Cx}
end
end L2
set_option Elab.async false
set_option linter.all false
set_option maxRecDepth 100000
namespace L2
open PySem PySem.Spec PyProof.Rows
section
variable {κ : Type} [DecidableEq κ]
noncomputable def valV (kvs : List (κ × V)) (k : κ) : Option V := (kvs.find? fun kv => decide (kv.1 = k)).map (·.2)
/-- in its place, or at the end -/
noncomputable def putK (kvs : List (κ × V)) (k : κ) (v : V) : List (κ × V) :=
  if (kvs.any fun kv => decide (kv.1 = k)) = true then kvs.map (fun kv => if kv.1 = k then (kv.1, v) else kv) else kvs ++ [(k, v)]
theorem valV_pos {p : κ × V} {r : List (κ × V)} {k : κ} (e : p.1 = k) : valV (p :: r) k = some p.2 := by simp [valV, List.find?_cons, e]
theorem valV_neg {p : κ × V} {r : List (κ × V)} {k : κ} (e : ¬ p.1 = k) : valV (p :: r) k = valV r k := by simp [valV, List.find?_cons, e]
theorem valV_any (k : κ) : ∀ kvs : List (κ × V), (kvs.any fun kv => decide (kv.1 = k)) = (valV kvs k).isSome
  | [] => rfl
  | p :: r => by
    rw [List.any_cons]
    by_cases e : p.1 = k
    · simp only [valV_pos e, decide_eq_true e, Bool.true_or, Option.isSome_some]
    · rw [valV_neg e, decide_eq_false e, Bool.false_or]; exact valV_any k r
theorem length_putK (kvs : List (κ × V)) (k : κ) (v : V) : (putK kvs k v).length ≤ kvs.length + 1 := by
  unfold putK
  split
  · rw [List.length_map]; omega
  · rw [List.length_append, List.length_cons, List.length_nil]; omega
theorem RelO.isSome_eq {o : Option V} {u : Option Value} (r : RelO o u) : o.isSome = u.isSome := by
  cases o with
  | none => cases u with
    | none => rfl
    | some _ => exact (show False from r).elim
  | some _ => cases u with
    | none => exact (show False from r).elim
    | some _ => rfl
theorem RelO.getD {o : Option V} {u : Option Value} {d : V} {d' : Value} (r : RelO o u) (rd : RelV d d') : RelV (o.getD d) (u.getD d') := by
  cases o with
  | none => cases u with
    | none => exact rd
    | some _ => exact (show False from r).elim
  | some _ => cases u with
    | none => exact (show False from r).elim
    | some _ => exact r
/-- raw tables of the same keys -/
theorem KV.val {kvs : List (κ × V)} {vs : List (κ × Value)} (r : KV kvs vs) (k : κ) : RelO (valV kvs k) (valueAt vs k) := by
  unfold KV at r
  induction r with
  | nil => exact True.intro
  | @cons p q ps qs h t ih =>
    obtain ⟨h1, h2⟩ := h
    by_cases e : p.1 = k
    · have e' : q.1 = k := h1.symm.trans e
      have b : valueAt (q :: qs) k = some q.2 := by simp [valueAt, List.find?_cons, e']
      rw [valV_pos e, b]; exact h2
    · have e' : ¬ q.1 = k := fun z => e (h1.trans z)
      have b : valueAt (q :: qs) k = valueAt qs k := by simp [valueAt, List.find?_cons, e']
      rw [valV_neg e, b]; exact ih
theorem KV.any {kvs : List (κ × V)} {vs : List (κ × Value)} (r : KV kvs vs) (k : κ) : (kvs.any fun kv => decide (kv.1 = k)) = vs.any fun kv => decide (kv.1 = k) := by
  unfold KV at r
  induction r with
  | nil => rfl
  | cons h t ih => rw [List.any_cons, List.any_cons, ih, h.1]
theorem KV.repl {kvs : List (κ × V)} {vs : List (κ × Value)} (r : KV kvs vs) (k : κ) {y : V} {u : Value} (ry : RelV y u) :
    KV (kvs.map fun kv => if kv.1 = k then (kv.1, y) else kv) (vs.map fun kv => if kv.1 = k then (kv.1, u) else kv) := by
  unfold KV at r ⊢
  induction r with
  | nil => exact .nil
  | @cons p q ps qs h t ih =>
    rw [List.map_cons, List.map_cons]
    refine .cons ?_ ih
    obtain ⟨h1, h2⟩ := h
    by_cases e : p.1 = k
    · rw [if_pos e, if_pos (h1.symm.trans e)]; exact ⟨h1, ry⟩
    · rw [if_neg e, if_neg (fun z => e (h1.trans z))]; exact ⟨h1, h2⟩
theorem KV.put {kvs : List (κ × V)} {vs : List (κ × Value)} (r : KV kvs vs) (k : κ) {y : V} {u : Value} (ry : RelV y u) : KV (putK kvs k y) (stored vs k u) := by
  unfold putK stored
  rw [r.any k]
  by_cases e : (vs.any fun kv => decide (kv.1 = k)) = true
  · rw [if_pos e, if_pos e]; exact r.repl k ry
  · rw [if_neg e, if_neg e]; exact Paired.snoc r ⟨rfl, ry⟩
theorem KV.length {kvs : List (κ × V)} {vs : List (κ × Value)} (r : KV kvs vs) : kvs.length = vs.length := Paired.length r
end
theorem kV_is {P : Program} {w : World} {k : Key} {u : Value} (r : RelV (kV k) u) : (mixKind P w).is k u = true := by
  cases k with
  | inl i => obtain ⟨t, e⟩ := (show ∃ t, u = Value.int i t from r); subst e; exact mixKind_int P w i t
  | inr x => obtain ⟨t, e⟩ := (show ∃ t, u = Value.str x t from r); subst e; exact mixKind_str P w x t
theorem items_are {P : Program} {w : World} : ∀ {ks : List Key} {us : List Value}, Vals (ks.map kV) us → ItemsAre (mixKind P w) ks us
  | [], _, r => by rw [List.map_nil] at r; cases r; exact .nil
  | k :: ks, _, r => by
    rw [List.map_cons] at r
    cases r with
    | cons h t => exact .cons (kV_is h) (items_are t)
/-- raw entries of a dict with tuple keys -/
noncomputable abbrev KT (H : Hp) : List (List Key × V) → List (List Key × Addr × Value) → Prop := Paired fun p q => p.1 = q.1 ∧ H q.2.1 = some (.tup (p.1.map kV)) ∧ RelV p.2 q.2.2
theorem KT.val {H : Hp} {kvs : List (List Key × V)} {xs : List (List Key × Addr × Value)} (r : KT H kvs xs) (k : List Key) : RelO (valV kvs k) ((atKey xs k).map (·.2)) := by
  induction r with
  | nil => exact True.intro
  | @cons p q ps qs h t ih =>
    obtain ⟨h1, _, h2⟩ := h
    by_cases e : p.1 = k
    · have e' : q.1 = k := h1.symm.trans e
      have b : atKey (q :: qs) k = some q.2 := by simp [atKey, List.find?_cons, e']
      rw [valV_pos e, b]; exact h2
    · have e' : ¬ q.1 = k := fun z => e (h1.trans z)
      have b : atKey (q :: qs) k = atKey qs k := by simp [atKey, List.find?_cons, e']
      rw [valV_neg e, b]; exact ih
theorem KT.repl {H : Hp} {kvs : List (List Key × V)} {xs : List (List Key × Addr × Value)} (r : KT H kvs xs) (k : List Key) {y : V} {u : Value} (ry : RelV y u) :
    KT H (kvs.map fun kv => if kv.1 = k then (kv.1, y) else kv) (xs.map (putAt k u)) := by
  induction r with
  | nil => exact .nil
  | @cons p q ps qs h t ih =>
    rw [List.map_cons, List.map_cons]
    refine .cons ?_ ih
    obtain ⟨h1, h2, h3⟩ := h
    unfold putAt
    by_cases e : p.1 = k
    · rw [if_pos e, if_pos (h1.symm.trans e)]; exact ⟨h1, h2, ry⟩
    · rw [if_neg e, if_neg (fun z => e (h1.trans z))]; exact ⟨h1, h2, h3⟩
theorem KT.put {H : Hp} {kvs : List (List Key × V)} {xs : List (List Key × Addr × Value)} (r : KT H kvs xs) (k : List Key) {b : Addr} {y : V} {u : Value} (hb : H b = some (.tup (k.map kV))) (ry : RelV y u) :
    KT H (putK kvs k y) (storedH xs k b u) := by
  have e : (kvs.any fun kv => decide (kv.1 = k)) = (atKey xs k).isSome := by
    rw [valV_any, (r.val k).isSome_eq, Option.isSome_map]
  unfold putK storedH
  rw [e]
  by_cases q : (atKey xs k).isSome = true
  · rw [if_pos q, if_pos q]; exact r.repl k ry
  · rw [if_neg q, if_neg q]; exact Paired.snoc r ⟨rfl, hb, ry⟩
theorem KT.keeps {H H' : Hp} {kvs : List (List Key × V)} {xs : List (List Key × Addr × Value)} (r : KT H kvs xs) (ht : ∀ b ys, H b = some (.tup ys) → H' b = some (.tup ys)) : KT H' kvs xs :=
  Paired.mapP r fun _ _ z => ⟨z.1, ht _ _ z.2.1, z.2.2⟩
section
variable {P : Program} {w : World} {H : Hp} {h : Heap} {a : Addr}
theorem rd_of {u : HO} (ok : HOk P w H h) (e : Rd H a u) : ObjOk P w H h a u := e.ok ok
theorem dk_rd {kvs : List (Key × V)} (ok : HOk P w H h) (e : Rd H a (.dK kvs)) : kvs.length ≤ sizeLine ∧ (a == sysModules) = false ∧ ∃ vs, KV kvs vs ∧ h.DictOf (mixKind P w) a vs :=
  show ObjOk P w H h a (.dK kvs) from rd_of ok e
theorem dk_of {kvs : List (Key × V)} (ok : HOk P w H h) (e : H a = some (.dK kvs)) : kvs.length ≤ sizeLine ∧ (a == sysModules) = false ∧ ∃ vs, KV kvs vs ∧ h.DictOf (mixKind P w) a vs := dk_rd ok (.inl e)
/-- a tracked tuple of ints and texts is a key -/
theorem key_of {ks : List Key} (ok : HOk P w H h) (e : H a = some (.tup (ks.map kV))) : (tupleKind (mixKind P w)).is h ks a := by
  obtain ⟨_, its, r, tn⟩ := (show ObjOk P w H h a (.tup (ks.map kV)) from ok a _ e)
  obtain ⟨o, h1, h2, n, h3⟩ := tn.is
  exact ⟨o, its.toArray, n, h1, h2, h3, by simpa using items_are r⟩
theorem dt_rd {kvs : List (List Key × V)} (ok : HOk P w H h) (e : Rd H a (.dT kvs)) : kvs.length ≤ sizeLine ∧ (a == sysModules) = false ∧
    ∃ xs, KT H kvs xs ∧ h.DictOfH (tupleKind (mixKind P w)) a xs := by
  obtain ⟨z, y, xs, r, o, es, ep, h1, h2, h3, h4, h5⟩ := (show ObjOk P w H h a (.dT kvs) from rd_of ok e)
  refine ⟨z, y, xs, r, o, es, ep, h1, h2, h3, h4, fun x hx => ?_, h5⟩
  have all : ∀ {l : List (List Key × V)} {m : List (List Key × Addr × Value)}, KT H l m → ∀ x ∈ m, (tupleKind (mixKind P w)).is h x.1 x.2.1 := by
    intro l m q
    induction q with
    | nil => intro x hx; exact nomatch hx
    | @cons p q ps qs hq t ih =>
      intro x hx
      rcases List.mem_cons.mp hx with e | hx
      · subst e
        exact key_of ok (by rw [← hq.1]; exact hq.2.1)
      · exact ih x hx
  exact all r x hx
theorem dt_of {kvs : List (List Key × V)} (ok : HOk P w H h) (e : H a = some (.dT kvs)) : kvs.length ≤ sizeLine ∧ (a == sysModules) = false ∧
    ∃ xs, KT H kvs xs ∧ h.DictOfH (tupleKind (mixKind P w)) a xs := dt_rd ok (.inl e)
end
/-- what the dict at a holds at the key y -/
noncomputable def DGet (H : Hp) (a : Addr) (y : V) (r : Option V) : Prop :=
  (∃ kvs k, Rd H a (.dK kvs) ∧ y = kV k ∧ r = valV kvs k) ∨ ∃ kvs k b, Rd H a (.dT kvs) ∧ y = .ref b ∧ H b = some (.tup (k.map kV)) ∧ r = valV kvs k
/-- the heap behind a[y] = v -/
noncomputable def DPut (H : Hp) (a : Addr) (y v : V) (H' : Hp) : Prop :=
  (∃ kvs k, H a = some (.dK kvs) ∧ y = kV k ∧ kvs.length < sizeLine ∧ H' = upd H a (.dK (putK kvs k v))) ∨
  ∃ kvs k b, H a = some (.dT kvs) ∧ y = .ref b ∧ H b = some (.tup (k.map kV)) ∧ kvs.length < sizeLine ∧ H' = upd H a (.dT (putK kvs k v))
theorem DGet.k {H : Hp} {a : Addr} {kvs : List (Key × V)} {k : Key} (e : H a = some (.dK kvs)) : DGet H a (kV k) (valV kvs k) := .inl ⟨kvs, k, .inl e, rfl, rfl⟩
theorem DGet.t {H : Hp} {a b : Addr} {kvs : List (List Key × V)} {k : List Key} (e : H a = some (.dT kvs)) (eb : H b = some (.tup (k.map kV))) : DGet H a (.ref b) (valV kvs k) := .inr ⟨kvs, k, b, .inl e, rfl, eb, rfl⟩
theorem DPut.k {H : Hp} {a : Addr} {kvs : List (Key × V)} {k : Key} {v : V} (e : H a = some (.dK kvs)) (hl : kvs.length < sizeLine) : DPut H a (kV k) v (upd H a (.dK (putK kvs k v))) := .inl ⟨kvs, k, e, rfl, hl, rfl⟩
theorem DPut.t {H : Hp} {a b : Addr} {kvs : List (List Key × V)} {k : List Key} {v : V} (e : H a = some (.dT kvs)) (eb : H b = some (.tup (k.map kV))) (hl : kvs.length < sizeLine) :
    DPut H a (.ref b) v (upd H a (.dT (putK kvs k v))) := .inr ⟨kvs, k, b, e, rfl, eb, hl, rfl⟩
section
variable {X : Cx} {pins : List (Addr × Obj)} {σ : St} {H : Hp} {s : Shared} {a : Addr} {y v : V} {u r : Value} {o : Option V} {A : Around} {E : Value → Shared → Prop}
theorem Inv.big (I : Inv X pins σ H s) : sysModules < s.heap.objs.size := by
  have h : mainGlobals < s.heap.objs.size := (I.mod.glob.keeps I.bk).lt
  exact Nat.lt_trans (by decide) h
/-- y in d -/
theorem d_in {Q : Value → Shared → Prop} (hu : A.units + 1 < cLine) (I : Inv X pins σ H s) (g : DGet H a y o) (ry : RelV y u) (h : ∀ s', Inv X pins σ H s' → Q (.bool o.isSome) s') :
    wpAny (model X.prog X.w) A (compareOp .In u (.ref a)) Q E s := by
  rcases g with ⟨kvs, k, e, ey, l⟩ | ⟨kvs, k, b, e, ey, eb, l⟩
  · subst ey
    obtain ⟨z, hd, vs, rel, dd⟩ := dk_rd I.hok e
    refine wpAny_in_of (kV_is ry) hd dd.mapOf ?_
    rw [← (rel.val k).isSome_eq, ← l]
    exact h _ (I.tok _)
  · subst ey
    cases (show u = Value.ref b from ry)
    obtain ⟨z, hd, xs, rel, dd⟩ := dt_rd I.hok e
    refine wpAny_in_heap (tupleKind_room_in1 hu) (key_of I.hok eb) hd dd ?_
    have q := (rel.val k).isSome_eq
    rw [Option.isSome_map] at q
    rw [← q, ← l]
    exact h _ (I.tok _)
/-- a dict's object is replaced -/
theorem d_write {h' : Heap} {t' : Nat} {ob : HO} (I : Inv X pins σ H s) (mu : Mut (H a)) (hs : Heap.SameBut a s.heap h') (he : ∃ q, h'.get? a = some q) (new : ObjOk X.prog X.w (upd H a ob) h' a ob) :
    Inv X pins σ (upd H a ob) { s with heap := h', toks := t' } :=
  I.write (x := a) (e := a) mu (.inl rfl) (fun b q hb z => (hs.2 b hb).trans z) he new
theorem dk_new {P : Program} {w : World} {H' : Hp} {h' : Heap} {kvs : List (Key × V)} {vs : List (Key × Value)} (z : kvs.length ≤ sizeLine) (hd : (a == sysModules) = false) (rel : KV kvs vs) (dd : h'.DictOf (mixKind P w) a vs) :
    ObjOk P w H' h' a (.dK kvs) := ⟨z, hd, vs, rel, dd⟩
/-- d[y] = v -/
theorem d_setItem {H' : Hp} {Q : Unit → Shared → Prop} (hu : A.units + 1 < cLine) (I : Inv X pins σ H s) (g : DPut H a y v H') (ry : RelV y u) (rv : RelV v r) (h : ∀ s', Inv X pins σ H' s' → Q () s') :
    wpAny (model X.prog X.w) A (setItem (.ref a) u r) Q E s := by
  rcases g with ⟨kvs, k, e, ey, l, eH⟩ | ⟨kvs, k, b, e, ey, eb, l, eH⟩
  · subst ey eH
    obtain ⟨z, hd, vs, rel, dd⟩ := dk_of I.hok e
    have hz : vs.length ≤ sizeLine := by rw [← rel.length]; exact z
    have hl : (putK kvs k v).length ≤ sizeLine := by have := length_putK kvs k v; omega
    refine wpAny_setItem_pairs (hsz := hz) (kV_is ry) dd fun h' dd' hs => h _ ?_
    have he : ∃ q, h'.get? a = some q := let ⟨q, _, _, hq, _⟩ := dd'; ⟨q, hq⟩
    exact d_write I (by rw [e]; exact True.intro) hs he (dk_new hl hd (rel.put k rv) dd')
  · subst ey eH
    cases (show u = Value.ref b from ry)
    obtain ⟨z, hd, xs, rel, dd⟩ := dt_of I.hok e
    have hz : xs.length ≤ sizeLine := by rw [← Paired.length rel]; exact z
    have hl : (putK kvs k v).length ≤ sizeLine := by have := length_putK kvs k v; omega
    refine wpAny_setItem_heap (hsz := hz) (tupleKind_room_in1 hu) (key_of I.hok eb) dd fun h' dd' hs => h _ ?_
    obtain ⟨q, es, ep, hq, h2, h3, h4, _, h5⟩ := dd'
    refine d_write I (by rw [e]; exact True.intro) hs ⟨q, hq⟩ ⟨hl, hd, _, (rel.put k eb rv).keeps fun c ys ec => ?_, q, es, ep, hq, h2, h3, h4, h5⟩
    rw [upd_ne (ne_of ec e (fun z => nomatch z))]
    exact ec
end
section
variable {X : Cx} {pins : List (Addr × Obj)} {σ : St} {H : Hp} {s : Shared} {a : Addr} {kvs : List (Key × V)} {k : Key} {u : Value} {A : Around} {E : Value → Shared → Prop}
end
/-- y in d, y not in d -/
noncomputable def tDIn (ty td : TE) : TE := fun σ H Q => ty σ H fun y H1 => td σ H1 fun x H2 => ∃ a o, x = .ref a ∧ DGet H2 a y o ∧ Q (.bl o.isSome) H2
/-- d[y] = v -/
noncomputable def sDPut (td ty tv : TE) : TS := fun D σ H => tv σ H fun v H1 => td σ H1 fun x H2 => ty σ H2 fun y H3 => ∃ a H4, x = .ref a ∧ DPut H3 a y v H4 ∧ D.nx σ H4
section
variable {X : Cx} {o i e value : Expr} {pos pos' tpos : Pos} {td ty tv : TE}
theorem pc_din (hu : X.A.units + 1 < cLine) (hi : PE X i ty) (ho : PE X o td) : PC X .In i o (tDIn ty td) := by
  intro pins s σ H Q I h
  refine thn (hi pins s σ H _ I h) fun iv s1 hq5 => L2.ex5 hq5 fun y H1 I1 ry q1 => thn (ho pins s1 σ H1 _ I1 q1) fun u s2 ⟨x, H2, I2, rx, a, ov, ex, g, q2⟩ => ?_
  subst ex
  obtain rfl : u = Value.ref a := rx
  exact d_in hu I2 g ry fun s3 I3 => ⟨.bl ov.isSome, H2, I3, rfl, q2⟩
theorem ps_dput (hu : X.A.units + 1 < cLine) (ho : PE X o td) (hi : PE X i ty) (hv : PE X value tv) (hs : swapsWith value (some (.Subscript o i pos')) pos.line X.env = pure false) :
    PS X (.Assign [.Subscript o i pos'] value pos) (sDPut td ty tv) := by
  intro pins s σ H D I h
  refine wpAny_Assign_Subscript (thn (hv pins s σ H _ I h) fun r s1 hq5 => L2.ex5 hq5 fun v H1 I1 rv q1 => thn (ho pins s1 σ H1 _ I1 q1) fun u s2 hq5 => L2.ex5 hq5 fun x H2 I2 rx q2 => thn (hi pins s2 σ H2 _ I2 q2) fun iv s3 ⟨y, H3, I3, ry, a, H4, ex, g, q3⟩ => ?_) hs
  subst ex
  obtain rfl : u = Value.ref a := rx
  exact d_setItem hu I3 g ry rv fun s4 I4 => ⟨σ, H4, I4, q3⟩
end
theorem dt_empty {P : Program} {w : World} {H : Hp} (h : Heap) (hb : sysModules < h.objs.size) : ObjOk P w H (h.push { cls := .type "dict", data := .dict #[] }) h.objs.size (.dT []) :=
  ⟨Nat.zero_le _, beq_eq_false_iff_ne.mpr (Ne.symm (Nat.ne_of_lt hb)), [], .nil, _, #[], 0, Heap.get?_push_size _ rfl, ⟨rfl, rfl, rfl⟩, rfl, rfl, List.nodup_nil⟩
noncomputable def tDNewT : TE := fun _ H Q => ∀ p, H p = none → Q (.ref p) (upd H p (.dT []))
section
variable {X : Cx} {pos : Pos}
theorem pe_dnewT : PE X (.Dict [] [] pos) tDNewT := fun pins s σ H Q I h =>
  wpAny_Dict_empty ⟨.ref s.heap.objs.size, _, I.laid (a := s.heap.objs.size) (o := .dT []) (t' := s.toks) (fun _ _ q => Heap.get?_push_of_some _ q) (Nat.le_refl _) (dt_empty s.heap I.big), rfl, h _ (I.hok.fresh (Nat.le_refl _))⟩
end
structure M2 (X : Cx) (o : Expr) (m : Str) (apos : Pos) (e f : Expr) (cpos : Pos) : Prop where
  base : attributeBase o m X.env (eval o X.env) = eval o X.env
  few : ((backTo cpos (starEach [e, f] X.env)).all (fun x => !x.1) && (backToKw cpos (keywordEach [] X.env)).all (fun x => x.1.isSome)
    && decide (([e, f] : List Expr).length + ([] : List Keyword).length + (if ([] : List Keyword).isEmpty then 0 else 1) < 30)) = true
  line : (apos.endLine == cpos.line) = true
  trees : backTo cpos (starEach [e, f] X.env) = [(false, eval e X.env), (false, eval f X.env)]
/-- a is a dict, whatever its keys -/
noncomputable def IsD (H : Hp) (a : Addr) : Prop := (∃ kvs, Rd H a (.dK kvs)) ∨ ∃ kvs, Rd H a (.dT kvs)
theorem isD_at {X : Cx} {pins : List (Addr × Obj)} {σ : St} {H : Hp} {s : Shared} {a : Addr} (I : Inv X pins σ H s) (d : IsD H a) :
    s.TypeIs (.ref a) "dict" ∧ (∀ b, Value.ref a = .ref b → ∃ ob, s.heap.get? b = some ob ∧ ob.dict = none) ∧ (a == sysModules) = false := by
  rcases d with ⟨kvs, e⟩ | ⟨kvs, e⟩
  · obtain ⟨_, hd, vs, _, dd⟩ := dk_rd I.hok e
    refine ⟨dd.typeIs, fun b q => ?_, hd⟩
    cases q
    obtain ⟨ob, _, _, h1, h2, _⟩ := dd
    exact ⟨ob, h1, h2.2.1⟩
  · obtain ⟨_, hd, xs, _, dd⟩ := dt_rd I.hok e
    refine ⟨dd.typeIs, fun b q => ?_, hd⟩
    cases q
    obtain ⟨ob, _, _, h1, h2, _⟩ := dd
    exact ⟨ob, h1, h2.2.1⟩
section
variable {X : Cx} {pins : List (Addr × Obj)} {σ : St} {H : Hp} {s : Shared} {a : Addr} {y d : V} {u r : Value} {o : Option V} {A : Around} {E : Value → Shared → Prop}
/-- d.get(y, x) -/
theorem d_get2 {Q : Value → Shared → Prop} (hu : A.units + 1 < cLine) (I : Inv X pins σ H s) (g : DGet H a y o) (ry : RelV y u) (rd : RelV d r) (h : ∀ w' s', Inv X pins σ H s' → RelV (o.getD d) w' → Q w' s') :
    wpAny (model X.prog X.w) A (call (.builtin "dict.get") [.ref a, u, r]) Q E s := by
  rcases g with ⟨kvs, k, e, ey, l⟩ | ⟨kvs, k, b, e, ey, eb, l⟩
  · subst ey
    obtain ⟨z, hd, vs, rel, dd⟩ := dk_rd I.hok e
    refine call_meetsIn PySem.F.slot_dict_get dd.typeIs PySem.F.entry_dict_get (PySem.F.args_dict_get_3 _ _ _) (meets_dict_get_default (mixKind X.prog X.w) a (kV_is ry) hd r) ⟨_, dd.mapOf, h _ _ (I.tok _) ?_⟩
    rw [l]
    exact (rel.val k).getD rd
  · subst ey
    cases (show u = Value.ref b from ry)
    obtain ⟨z, hd, xs, rel, dd⟩ := dt_rd I.hok e
    refine call_meetsIn PySem.F.slot_dict_get dd.typeIs PySem.F.entry_dict_get (PySem.F.args_dict_get_3 _ _ _) (meetsH_dict_get_default (tupleKind (mixKind X.prog X.w)) a b hd r) ⟨tupleKind_room_in1 hu, k, xs, key_of I.hok eb, dd, h _ _ (I.tok _) ?_⟩
    rw [l]
    exact (rel.val k).getD rd
end
noncomputable def tDGet2 (td ty tx : TE) : TE := fun σ H Q => td σ H fun x H1 => ∃ a, x = .ref a ∧ IsD H1 a ∧ ty σ H1 fun y H2 => tx σ H2 fun z H3 => ∃ o, DGet H3 a y o ∧ Q (o.getD z) H3
section
variable {X : Cx} {o e f : Expr} {apos cpos : Pos} {td ty tx : TE}
theorem pe_dget2 (hu : X.A.units + 1 < cLine) (ho : PE X o td) (he : PE X e ty) (hf : PE X f tx) (m : M2 X o "get" apos e f cpos) : PE X (.Call (.Attribute o "get" apos) [e, f] [] cpos) (tDGet2 td ty tx) := by
  intro pins s σ H Q I h
  refine wpAny_Call_method m.base m.few m.line PySem.F.plainAttrs_dict PySem.F.slot_dict_get PySem.F.type_dict_get (thn (ho pins s σ H _ I h) fun u s1 ⟨x, H1, I1, rx, a, ex, d, q1⟩ => ?_)
  subst ex
  obtain rfl : u = Value.ref a := rx
  obtain ⟨t1, t2, _⟩ := isD_at I1 d
  refine ⟨t1, t2, ?_⟩
  rw [m.trees]
  refine Calls.callWith_builtin rfl (Calls.evalArgs_plain (Calls.spliced_cons (thn (he pins s1 σ H1 _ I1 q1) fun iv s2 hq5 => L2.ex5 hq5 fun y H2 I2 ry q2 =>
    Calls.spliced_cons (thn (hf pins s2 σ H2 _ I2 q2) fun fv s3 ⟨z, H3, I3, rz, ov, g, q3⟩ => Calls.spliced_nil ?_))))
  exact d_get2 hu I3 g ry rz fun w' s4 I4 rw' => ⟨_, H3, I4, rw', q3⟩
end
section
variable {X : Cx} {pins : List (Addr × Obj)} {σ : St} {H : Hp} {s : Shared} {a : Addr} {kvs : List (Key × V)} {A : Around} {E : Value → Shared → Prop}
end
section
variable {X : Cx} {pins : List (Addr × Obj)} {σ : St} {H : Hp} {s : Shared} {a : Addr} {y : V} {u : Value} {A : Around} {E : Value → Shared → Prop}
end
end L2
set_option Elab.async false
set_option linter.all false
set_option maxRecDepth 100000
namespace Att
open PySem PySem.W PySem.Calls PyProof.Rows
theorem ints_of_wellAll {P : Params} {h : Heap} : ∀ (ns : List Int) (vs : List Value), WellAll P h vs (ns.map WData.int) → IntsAre vs ns := by
  intro ns
  induction ns with
  | nil =>
    intro vs w
    rw [List.map_nil] at w
    cases w
    exact .nil
  | cons n ns ih =>
    intro vs w
    rw [List.map_cons] at w
    cases w with
    | cons a b =>
      cases a
      exact .cons _ _ (ih _ b)
theorem script_of {l : OpenLaw} {n : Nat} (hn : l.most = some n) {P : Params} {h : Heap} {args : List WData} {vals : List Value}
    (hpre : l.row.toRowW.claim.pre args = true) (hwl : WellAll P h vals args) :
    ∃ a vs ns, vals = [Value.ref a] ∧ args = [WData.list (ns.map WData.int)] ∧ h.get? a = some { cls := .type "list", data := .seq vs.toArray } ∧ IntsAre vs ns ∧ ns.length ≤ n := by
  have hsh : WShape.hasAll [] args [.list .int] = true := (pre_splitW hpre).1
  have hc : l.pre.holds [] { args := args } = true := (pre_splitW hpre).2
  obtain ⟨d, r, rfl, h1, h2⟩ := hasAllW_cons hsh
  obtain rfl := hasAllW_nil h2
  obtain ⟨xs, rfl, h3⟩ := hasW_list h1
  obtain ⟨ns, rfl⟩ := items_int h3
  have hlen : ns.length ≤ n := by
    unfold OpenLaw.pre at hc
    have h4 : (WTm.not (.lt (.lit (.int (n : Int))) (.len (.arg 0)))).holds [] { args := [.list (ns.map .int)] } = true := by
      have h4 := (holds_andW hc).1
      rw [hn] at h4
      exact h4
    have h5 := condW_of h4 (w_not (w_lt w_lit (w_len_list (w_arg rfl))))
    rw [List.length_map] at h5
    refine Nat.le_of_not_lt fun q => ?_
    have q' : (n : Int) < ((ns.length : Nat) : Int) := by omega
    first
      | (rw [decide_eq_true q'] at h5; exact absurd h5 (by decide))
      | (simp at h5; omega)
  cases hwl with
  | cons w1 w2 =>
    cases w2
    cases w1 with
    | list ho hall => exact ⟨_, _, ns, rfl, rfl, ho, ints_of_wellAll ns _ hall, hlen⟩
theorem post_true (l : OpenLaw) (args : List WData) : l.row.toRowW.claim.post args (.bool true) args = true :=
  postW_of (r := l.row.toRowW) (X := (true == true))
    (show WShape.has [] (.bool true) .bool = true by first | rfl | decide | simp [WShape.has, WShape.arms, WShape.armsAll])
    (show (WTm.eq .res (.lit (.bool true))).value [] { args := args, res := some (.bool true), after := args } = some (.bool (true == true)) from w_eq_bool (w_res rfl) w_lit) rfl
/-- the same from a codeAny of the CALL (for a layer whose function contracts speak of calls) -/
theorem attach_call {l : OpenLaw} {n : Nat} {q : Program} {loose : List Str} {XP : (Str → Option Value) → Heap → Prop} {YP : World → Heap → Prop} {d : DefRec}
    (hn : l.most = some n) (hdf : d.params.defaults = [])
    (call : ∀ (w : World) (s₀ s₁ : Shared) (mg mb : Str → Option Value) (fa : Addr) (o : Obj) (pm cd doc : Value) (a : Addr) (vs : List Value) (ns : List Int),
      Ground q loose [] XP w s₀ mg mb s₁.heap → YP w s₁.heap →
      s₁.heap.get? fa = some o → o.data = .func (docDef d.name d.params d.body d.scope pm cd doc) → s₁.heap.CodeRec cd d.name → mg d.name = some (.ref fa) →
      s₁.heap.get? a = some { cls := .type "list", data := .seq vs.toArray } → IntsAre vs ns → ns.length ≤ n → s₁.gens = #[] →
      codeAny (model l.prog w) callerA (.call (.ref fa) ⟨[.ref a], []⟩) (fun r s' => r = .ok (.ret (.bool true)) ∧ OldK s₁.heap s'.heap ∧ s'.os = s₁.os ∧ AllBare s'.gens) s₁) :
    WalkO q loose XP YP l.row.toRowW d [] (fun f vs => PySem.call f vs) := by
  intro w s₀ s₁ mg mb G Y fa o pm cd doc dV kV ho hd hcd hD hmg hg args vals as hpre hlay hrd hwl hlo
  obtain rfl : dV = .none := Dflts.none hD hdf
  obtain rfl : kV = .none := Dflts.noKw hD
  obtain ⟨a, vs, ns, rfl, rfl, hobj, hints, hlen⟩ := script_of hn hpre hwl
  refine enter_call (codeAny_mono (call w s₀ s₁ mg mb fa o pm cd doc a vs ns G Y ho (fd_plain hd) hcd hmg hobj hints hlen hg) fun r s' hq => ?_)
  obtain ⟨rfl, h2, h3, h4⟩ := hq
  exact ⟨.inl ⟨.bool true, .bool true, [], rfl, fun _ => rfl, .bool true, post_true l _, fun _ => ⟨List.Pairwise.nil, fun _ hm => (nomatch hm)⟩⟩, h2, h3, h4⟩
section
variable {prog : Program} {w : World} {A : Around} {E : Value → Shared → Prop} {s : Shared} {K : Frag}
/-! the whole heap as the ledger: makes every rule that writes through a ledger a rule over any heap -/
end
end Att
namespace L2
open PySem PySem.Spec PyProof.Rows
theorem vals_ints : ∀ {vs : List Value} {ns : List Int}, IntsAre vs ns → Vals (ns.map V.int) vs
  | _, _, .nil => .nil
  | _, _, .cons n t h => .cons ⟨t, rfl⟩ (vals_ints h)
/-- nothing is tracked but the script, known to the object (or it is an object of the module) -/
noncomputable def Only (H : Hp) : Prop := ∀ b, H b = none ∨ ∃ o xs, H b = some (.frz o (.lst xs))
/-- THE HEAD: the law's promise, at the heap behind the top. F, the promise of the law's def, may use that base is part of the heap (so K.In base, base.Ns mainGlobals mg stand in Mod) -/
theorem law_call {P : Program} {w : World} {K : PySem.W.Frag} {mg mb : Str → Option Value} {CX : CXT} {k : Nat} {fa a : Addr} {fd : FuncData} {x : Str} {sp : Sp} {s₁ : Shared} {vs : List Value} {ns : List Int}
    (KX : K.In s₁.heap) (hns : s₁.heap.Ns mainGlobals mg) (hb : s₁.heap.Ns builtinsNs mb) (hbb : ∀ x : Str, x ≠ "__name__" → mb x = bootBuiltins x) (hlim : s₁.heap.NoLimit) (hg : s₁.gens = #[])
    (ha : s₁.heap.get? a = some { cls := .type "list", data := .seq vs.toArray }) (hi : IntsAre vs ns) (hl : ns.length ≤ sizeLine) (hr : Room k callerA)
    (F : ∀ base : Heap, K.In base → base.Ns mainGlobals mg → FnOk P w K mg base CX k fa fd [x] sp) (hbind : ∀ (s : Shared) (u : Value), BindsTo s fd ⟨[u], []⟩ [(x, u)])
    (hsp : ∀ H : Hp, Only H → SqL K H a (ns.map V.int) → sp [.ref a] H (fun v _ => v = .bl true) fun _ _ _ => False)
    (hCX : ∀ H e s', CX [] H s₁ (fun _ _ _ => False) e s' → False) :
    codeAny (model P w) callerA (.call (.ref fa) ⟨[.ref a], []⟩) (fun r s' => r = .ok (.ret (.bool true)) ∧ OldK s₁.heap s'.heap ∧ s'.os = s₁.os ∧ AllBare s'.gens) s₁ := by
  have rv := vals_ints hi
  have lenV := hi.length
  -- from an abstract heap in which nothing but the script may be tracked
  have core : ∀ H : Hp, Only H → SqL K H a (ns.map V.int) → HOk P w H s₁.heap → (∀ b, H b ≠ none → b = a) → (H a ≠ none → K.lookup a = none) →
      codeAny (model P w) callerA (.call (.ref fa) ⟨[.ref a], []⟩) (fun r s' => r = .ok (.ret (.bool true)) ∧ OldK s₁.heap s'.heap ∧ s'.os = s₁.os ∧ AllBare s'.gens) s₁ := by
    intro H hO hS hok hA hK
    have base_of : ∀ {b : Addr} {o : Obj}, s₁.heap.get? b = some o → H b = none → (hidT s₁.heap H).get? b = some o := fun e n => hidT_get e n
    have noA : ∀ {b : Addr} {o : Obj} {es : Array DictEntry} {ep : Nat}, s₁.heap.get? b = some o → o.data = .dict es ep → H b = none := fun {b o es ep} e d => by
      cases q : H b with
      | none => rfl
      | some u =>
        have e' : b = a := hA b (by rw [q]; simp)
        subst e'
        rw [ha] at e; cases e
        have d' : Data.seq vs.toArray _ = Data.dict es ep := d
        cases d'
    have nsK : ∀ {b : Addr} {m : Str → Option Value}, s₁.heap.Ns b m → (hidT s₁.heap H).Ns b m := fun {b m} ⟨o, es, ep, e, d, r⟩ => ⟨o, es, ep, base_of e (noA e d), d, r⟩
    have hKb : K.In (hidT s₁.heap H) := fun b o e => base_of (KX b o e) (by
      cases q : H b with
      | none => rfl
      | some u =>
        have e' : b = a := hA b (by rw [q]; simp)
        subst e'
        rw [hK (by rw [q]; simp)] at e; cases e)
    have hM : Mod K mg (hidT s₁.heap H) := ⟨hKb, nsK hns, ⟨mb, nsK hb, hbb⟩, let ⟨mc, h1, h2⟩ := hlim; ⟨mc, nsK h1, h2⟩⟩
    have e0 : Env0 P w K mg (hidT s₁.heap H) callerA [] s₁ H := ⟨rfl, hM, fun b o e => of_hidT e, Nat.le_of_eq (hidT_size _ _), trivial, fun b hb => absurd (show b ∈ ([] : List Addr) from hb) (by simp), hok, .of_eq hg⟩
    refine codeAny_mono ((F _ hKb (nsK hns)).run callerA [] s₁ H ⟨[.ref a], []⟩ [.ref a] [.ref a] _ _ hr e0 (hbind s₁ (.ref a)) (.cons rfl .nil) (hsp H hO hS)) fun r s' h => ?_
    cases r with
    | error e => exact (hCX H e s' h).elim
    | ok fl =>
      cases fl with
      | next => exact False.elim h
      | brk => exact False.elim h
      | cont => exact False.elim h
      | ret u =>
        obtain ⟨v, H', os, bare, un, hok', r', q⟩ := h
        have q' : v = .bl true := q
        subst q'
        obtain rfl : u = Value.bool true := r'
        refine ⟨rfl, OldK.of_keep fun b o e => ?_, os, bare⟩
        cases q : H b with
        | none => exact un.keep b o e q (by intro z; exact absurd (show b ∈ ([] : List Addr) from z) (by simp)) (by simp)
        | some u =>
          rcases hO b with z | ⟨ob, xs, z⟩
          · rw [q] at z; cases z
          · have z2 := un.frzs b ob _ z
            obtain ⟨e1, _⟩ := hok b _ z
            obtain ⟨e2, _⟩ := hok' b _ z2
            rw [e] at e1; cases e1
            exact e2
  cases hk : K.lookup a with
  | some o =>
    -- the script is one of the module's own objects
    have e := KX a o hk
    rw [ha] at e
    cases e
    refine core (fun _ => none) (fun _ => .inl rfl) (.inr ⟨_, vs.toArray, _, hk, rfl, rfl, rfl, by rw [List.size_toArray, lenV]; exact hl, by simpa using rv⟩) (fun b u z => by have z' : (none : Option HO) = some u := z; cases z') (fun b z => absurd rfl z) fun z => absurd rfl z
  | none =>
    refine core (fun b => if b = a then some (.frz { cls := .type "list", data := .seq vs.toArray } (.lst (ns.map V.int))) else none) (fun b => ?_) (.inl (.inr ⟨{ cls := .type "list", data := .seq vs.toArray }, if_pos rfl⟩)) (fun b u z => ?_) (fun b z => ?_) fun _ => hk
    · by_cases hb : b = a
      · exact .inr ⟨_, _, if_pos hb⟩
      · exact .inl (if_neg hb)
    · by_cases hb : b = a
      · have z' := (if_pos hb).symm.trans z
        cases z'
        subst hb
        exact ⟨ha, by rw [List.length_map]; exact hl, vs, _, rv, ha⟩
      · have z' := (if_neg hb).symm.trans z
        cases z'
    · by_cases hb : b = a
      · exact hb
      · exact absurd (if_neg hb) z
end L2
namespace L2
open PySem PySem.Spec PyProof.Rows
noncomputable abbrev KOf {K : PySem.W.Frag} {h : Heap} (_ : K.In h) : PySem.W.Frag := K
/-- the goal that k_head leaves (case hc), from the law's promise. F gives the function object fd (K's own) once, then the promise over every base -/
theorem walk_of {l : PySem.W.OpenLaw} {n k : Nat} {q : Program} {loose : List Str} {XP : (Str → Option Value) → Heap → Prop} {YP : World → Heap → Prop} {d : DefRec} {K : Params → PySem.W.Frag} {CX : World → CXT} {sp : World → Sp} {x : Str}
    (hn : l.most = some n) (hn2 : n ≤ sizeLine) (hdf : d.params.defaults = []) (hr : Room k callerA)
    (hY : ∀ (w : World) (h : Heap), YP w h → (K w.params).In h)
    (F : ∀ (w : World) (mg : Str → Option Value) (fa : Addr) (h : Heap), (K w.params).In h → h.Ns mainGlobals mg → mg d.name = some (.ref fa) →
      ∃ fd : FuncData, (∀ (s : Shared) (u : Value), BindsTo s fd ⟨[u], []⟩ [(x, u)]) ∧
        ∀ base : Heap, (K w.params).In base → base.Ns mainGlobals mg → FnOk l.prog w (K w.params) mg base (CX w) k fa fd [x] (sp w))
    (hsp : ∀ (w : World) (H : Hp) (a : Addr) (ns : List Int), ns.length ≤ n → Only H → SqL (K w.params) H a (ns.map V.int) → sp w [.ref a] H (fun v _ => v = .bl true) fun _ _ _ => False)
    (hCX : ∀ (w : World) (H : Hp) (s : Shared) (e : Value) (s' : Shared), CX w [] H s (fun _ _ _ => False) e s' → False) :
    PySem.W.WalkO q loose XP YP l.row.toRowW d [] (fun f vs => PySem.call f vs) := by
  refine Att.attach_call hn hdf fun w s₀ s₁ mg mb fa o pm cd doc a vs ns G Y ho hd hcd hmg hobj hints hlen hg => ?_
  have KX := hY w _ Y
  obtain ⟨fd, hb, hF⟩ := F w mg fa _ KX G.T.g hmg
  exact law_call KX G.T.g G.T.b G.T.builtins G.T.nolimit hg hobj hints (Nat.le_trans hlen hn2) hr hF hb (fun H hO hS => hsp w H a ns hlen hO hS) fun H e s' => hCX w H s₁ e s'
end L2
/- THE LAST THEOREM (shape; LID, My.* are yours):
   My.Adr: a structure of the addresses that your layer names (classes, functions); My.Txt K t: a structure (Prop) of the equations over K;
   My.txt_mk : {K} {implicit addresses ..} (e1 : nsIn K mainGlobals "law" = some (some (.ref f))) (e2 : K.lookup f = some ⟨oc, od, .func (fnOf "law" "law" params body scope dV kV doc pm an cdv ct), sl⟩) (e3 : codeIn K cdv "law" = true) .. : ∃ t, My.Txt K t
set_option maxRecDepth 100000 in
set_option maxHeartbeats 0 in
theorem PySem.Challenge.cw_LID_holds : PySem.Challenge.rw_LID.Holds := by
  w_on; o_law; k_head; (case hw => w_witness2)
  k_fill
  refine L2.walk_of (l := PySem.Challenge.rw_LID) (n := 63) (k := 40) (x := "script") (CX := fun w => ..) (sp := fun _ => My.sp_law) rfl (by decide) rfl ⟨rfl, by decide, by decide⟩ (fun w h Y => PySem.W.kIn_of Y) ?F ?S ?C
  case F =>
    intro w mg fa h KX G hmg
    have T : ∃ t, My.Txt (L2.KOf KX) t := by
      dsimp only [L2.KOf]                          -- K must stand as «<heap const> w.params» for k_is
      refine' My.txt_mk ?e1 ?e2 ?e3 ..
      (case e1 => PySem.W.k_is)                    -- in the order: a name -> its address -> its object -> its parts
      (case e2 => PySem.W.k_is)
      ..
    obtain ⟨t, T⟩ := T
    have e0 := hmg.symm.trans (PySem.W.mg_of KX G T.law)
    cases e0                                       -- fa is the law's own address
    exact ⟨_, fun s u => .of_eq rfl, fun base kb nb => My.law_fn T kb nb⟩     -- if «.of_eq rfl» comes too early: refine' ⟨_, ?b, fun base kb nb => My.law_fn T kb nb⟩; exact fun s u => .of_eq rfl
  case S => exact fun w H a ns hl hO hS => ..
  case C => exact ..
(the tactic k_is has no namespace: write k_is) -/
/-! SHORT WORDS over the layer: a def of the text, its body, what a loop and a test want. -/
namespace L2
open PySem PySem.Spec PyProof.Rows
noncomputable def defArgs (s : Stmt) : Arguments := match s with
  | .FunctionDef _ a _ _ _ _ _ _ _ _ => a
  | _ => { posonlyargs := [], args := [], vararg := none, kwonlyargs := [], kw_defaults := [], kwarg := none, defaults := [] }
noncomputable def defBody (s : Stmt) : List Stmt := match s with
  | .FunctionDef _ _ b _ _ _ _ _ _ _ => b
  | _ => []
noncomputable def defScope (s : Stmt) : Scope := match s with
  | .FunctionDef _ _ _ _ _ _ sc _ _ _ => sc
  | _ => { kind := .function, names := [], isGenerator := false, isCoroutine := false }
noncomputable abbrev CX0 : CXT := fun _ _ _ _ _ _ => False
noncomputable abbrev E0 : XK := fun _ _ _ => False
theorem pass0 {X : Cx} : Passes CX0 X E0 := fun _ _ _ _ _ _ _ h => h.elim
structure Fun (K : PySem.W.Frag) (x qual : Str) (st : Stmt) (f : Addr) (fd : FuncData) : Prop where
  ex : ∃ (oc : Value) (od : Option Addr) (kV doc pm : Value) (an : Option Addr) (cdv ct : Value) (osl : Array (Option Value)),
    fd = PySem.W.fnOf x qual (defArgs st) (defBody st) (defScope st) .none kV doc pm an cdv ct ∧ K.lookup f = some ⟨oc, od, .func fd, osl⟩ ∧ PySem.W.codeIn K cdv qual = true
  kp : PySem.W.keepIn K (.ref f) = true
section
variable {P : Program} {w : World} {K : PySem.W.Frag} {mg : Str → Option Value} {base : Heap}
/-- THE RULE for a def: its body as a term of rules, and the reading of that term -/
theorem Fun.ok {x qual : Str} {st : Stmt} {f : Addr} {fd : FuncData} {N ps : List Str} {k : Nat} {sp : Sp} (F : Fun K x qual st f fd) (S : FnScope N ps (defScope st)) (len : ∀ vs H Q E, sp vs H Q E → vs.length = ps.length)
    (hbody : ∀ (cdv : Value) (A : Around) (outer : List Env) (s : Shared) (H : Hp) (vs : List V) (Q : VK) (E : XK), Room k (A.deeper (envOfC qual (defScope st) s.heap.objs.size f cdv)) → sp vs H Q E →
      ∃ t, PSs (cxOf CX0 P w K mg base N qual (defScope st) f cdv A outer s H E).nox (defBody st) t ∧ t { nx := fun _ H' => Q .non H', rt := Q } (start N vs) H) : FnOk P w K mg base CX0 (k + 1) f fd ps sp := by
  obtain ⟨oc, od, kV, doc, pm, an, cdv, ct, osl, rfl, lk, hcd⟩ := F.ex
  refine fn_of lk hcd S len fun A outer s H vs Q E hr hsp => ?_
  obtain ⟨t, h, q⟩ := hbody cdv A outer s H vs Q E hr hsp
  exact ⟨t, h.nox, q⟩
/-- how its arguments bind (no defaults): h is «fun _ _ _ _ _ _ us hl => match us, hl with | [_, _], _ => rfl», one _ a parameter -/
theorem Fun.binds {x qual : Str} {st : Stmt} {f : Addr} {fd : FuncData} {ps : List Str} (F : Fun K x qual st f fd)
    (h : ∀ (kV doc pm : Value) (an : Option Addr) (cdv ct : Value) (us : List Value), us.length = ps.length → bindArgs (PySem.W.fnOf x qual (defArgs st) (defBody st) (defScope st) .none kV doc pm an cdv ct) ⟨us, []⟩ = pure (ps.zip us)) : Binds K fd ps [] := by
  obtain ⟨oc, od, kV, doc, pm, an, cdv, ct, osl, rfl, lk, hcd⟩ := F.ex
  exact .all (h kV doc pm an cdv ct)
theorem fun_mk {x qual : Str} {st : Stmt} {f : Addr} {oc : Value} {od an : Option Addr} {osl : Array (Option Value)} {kV doc pm cdv ct : Value} (l : K.lookup f = some ⟨oc, od, .func (PySem.W.fnOf x qual (defArgs st) (defBody st) (defScope st) .none kV doc pm an cdv ct), osl⟩)
    (c : PySem.W.codeIn K cdv qual = true) (k : PySem.W.keepIn K (.ref f) = true) : Fun K x qual st f (PySem.W.fnOf x qual (defArgs st) (defBody st) (defScope st) .none kV doc pm an cdv ct) := ⟨⟨oc, od, kV, doc, pm, an, cdv, ct, osl, rfl, l, c⟩, k⟩
end
theorem hu_of {A : Around} {k : Nat} (hr : Room k A) : A.units + 1 < cLine := Nat.lt_of_le_of_lt (Nat.add_le_add_left (by decide : 1 ≤ 64) _) hr.units
section
variable {X : Cx}
end
/-- all that was tracked is as it was -/
noncomputable def Same (H H' : Hp) : Prop := ∀ b o, H b = some o → H' b = some o
theorem Same.refl (H : Hp) : Same H H := fun _ _ h => h
theorem Same.trans {H H1 H2 : Hp} (a : Same H H1) (b : Same H1 H2) : Same H H2 := fun c o h => b c o (a c o h)
theorem Same.free {H H' : Hp} (e : Same H H') {l : Addr} (h : H' l = Option.none) : H l = Option.none := by
  cases q : H l with
  | none => rfl
  | some o =>
    rw [e l o q] at h
    cases h
theorem Same.seq {K : PySem.W.Frag} {H H' : Hp} {a : Addr} {xs : List V} (e : Same H H') (h : SqL K H a xs) : SqL K H' a xs := by
  rcases h with (h | ⟨o, h⟩) | h
  · exact .inl (.inl (e _ _ h))
  · exact .inl (.inr ⟨o, e _ _ h⟩)
  · exact .inr h
end L2
namespace L2
open PySem PySem.Spec PyProof.Rows
section
variable {X : Cx}
end
section
variable {κ : Type} [DecidableEq κ]
end
end L2
set_option Elab.async false
set_option linter.all false
set_option maxRecDepth 100000
set_option maxHeartbeats 4000000
namespace L2
open PySem PySem.Spec PyProof.Rows
/-! ### forgetting what an expression made on its way -/
section
variable {X : Cx} {pins : List (Addr × Obj)} {σ : St} {H H' : Hp} {s s' : Shared}
end
end L2
set_option Elab.async false
set_option linter.all false
set_option maxRecDepth 100000
set_option maxHeartbeats 4000000
/-! ### comprehensions -/
namespace L2
open PySem PySem.Spec PyProof.Rows
theorem lookup_mem {α : Type} {y : Str} {v : α} : ∀ {l : List (Str × α)}, l.lookup y = some v → (y, v) ∈ l
  | [], h => by cases h
  | (n, k) :: r, h => by
    rw [List.lookup_cons] at h
    cases hb : y == n with
    | true =>
      rw [hb] at h
      cases h
      rw [beq_iff_eq.mp hb]
      exact List.mem_cons_self
    | false =>
      rw [hb] at h
      exact List.mem_cons_of_mem _ (lookup_mem h)
theorem lookup_of_nd {α : Type} {y : Str} {v : α} : ∀ {l : List (Str × α)}, (l.map (·.1)).Nodup → (y, v) ∈ l → l.lookup y = some v
  | [], _, h => by cases h
  | (n, k) :: r, hn, h => by
    have hn' : (n :: r.map (·.1)).Nodup := hn
    obtain ⟨h1, h2⟩ := List.nodup_cons.mp hn'
    rw [List.lookup_cons]
    rcases List.mem_cons.mp h with e | e
    · cases e
      simp
    · have hne : (y == n) = false := by
        refine beq_eq_false_iff_ne.mpr fun z => h1 ?_
        rw [← z]
        exact List.mem_map.mpr ⟨(y, v), e, rfl⟩
      rw [hne]
      exact lookup_of_nd h2 e
/-- the relabelled kind -/
noncomputable def relK (env : Env) (y : Str) (k : NameKind) : NameKind := if (k == NameKind.free && env.scope.kind == .function && env.kindOf y == some .cell) = true then .cell else k
theorem lookup_relabel (scope : Scope) (env : Env) (y : Str) : (relabel scope env).names.lookup y = (scope.names.lookup y).map (relK env y) := by
  show (scope.names.map fun (n, k) => if (k == NameKind.free && env.scope.kind == .function && env.kindOf n == some .cell) = true then (n, NameKind.cell) else (n, k)).lookup y = _
  induction scope.names with
  | nil => rfl
  | cons p r ih =>
    obtain ⟨n, k⟩ := p
    rw [List.map_cons]
    by_cases hc : (k == NameKind.free && env.scope.kind == .function && env.kindOf n == some .cell) = true
    · simp only [if_pos hc, List.lookup_cons]
      cases hb : y == n with
      | true =>
        have e : y = n := beq_iff_eq.mp hb
        subst e
        simp only [Option.map_some, relK, if_pos hc]
      | false => exact ih
    · simp only [if_neg hc, List.lookup_cons]
      cases hb : y == n with
      | true =>
        have e : y = n := beq_iff_eq.mp hb
        subst e
        simp only [Option.map_some, relK, if_neg hc]
      | false => exact ih
theorem closure_go {env : Env} (f : Str × NameKind → List (Str × Addr) → Sem (ForInStep (List (Str × Addr))))
    (hf : ∀ name kind cs, f (name, kind) cs = if (kind == .free) = true then (do let a ← cellOf env name; pure (.yield ((name, a) :: cs))) else pure (.yield cs)) :
    ∀ (names : List (Str × NameKind)) (acc : List (Str × Addr)), (∀ y ∈ names, y.2 = .free → ∃ c, env.cells.lookup y.1 = some c) →
      ∃ cl, (forIn names acc f : Sem (List (Str × Addr))) = pure cl ∧ (∀ y c, cl.lookup y = some c → acc.lookup y = some c ∨ (env.cells.lookup y = some c ∧ (y, NameKind.free) ∈ names)) ∧
        (∀ y, (y, NameKind.free) ∈ names ∨ (acc.lookup y).isSome = true → ∃ c, cl.lookup y = some c)
  | [], acc, _ => ⟨acc, by rw [List.forIn_nil], fun y c e => .inl e, fun y h => by
      rcases h with h | h
      · cases h
      · exact Option.isSome_iff_exists.mp h⟩
  | (name, kind) :: r, acc, h => by
    have hr : ∀ y ∈ r, y.2 = .free → ∃ c, env.cells.lookup y.1 = some c := fun y hy => h y (List.mem_cons_of_mem _ hy)
    by_cases hk : (kind == NameKind.free) = true
    · have e : kind = .free := beq_iff_eq.mp hk
      subst e
      obtain ⟨c0, hc0⟩ := h (name, .free) List.mem_cons_self rfl
      have hc0 : env.cells.lookup name = some c0 := hc0
      obtain ⟨cl, h1, h2, h3⟩ := closure_go f hf r ((name, c0) :: acc) hr
      refine ⟨cl, ?_, fun y c e => ?_, fun y hy => ?_⟩
      · rw [List.forIn_cons, hf, if_pos hk]
        unfold cellOf
        rw [hc0]
        exact h1
      · rcases h2 y c e with q | ⟨q1, q2⟩
        · rw [List.lookup_cons] at q
          cases hb : y == name with
          | true =>
            rw [hb] at q
            cases q
            have e : y = name := beq_iff_eq.mp hb
            subst e
            exact .inr ⟨hc0, List.mem_cons_self⟩
          | false =>
            rw [hb] at q
            exact .inl q
        · exact .inr ⟨q1, List.mem_cons_of_mem _ q2⟩
      · refine h3 y ?_
        rw [List.lookup_cons]
        cases hb : y == name with
        | true => exact .inr rfl
        | false =>
          rcases hy with hy | hy
          · rcases List.mem_cons.mp hy with z | z
            · cases z
              simp at hb
            · exact .inl z
          · exact .inr hy
    · obtain ⟨cl, h1, h2, h3⟩ := closure_go f hf r acc hr
      refine ⟨cl, ?_, fun y c e => (h2 y c e).imp id fun q => ⟨q.1, List.mem_cons_of_mem _ q.2⟩, fun y hy => h3 y (hy.imp (fun hy => ?_) id)⟩
      · rw [List.forIn_cons, hf, if_neg hk]
        exact h1
      · rcases List.mem_cons.mp hy with z | z
        · cases z
          exact absurd rfl hk
        · exact z
theorem closure_ok {scope : Scope} {env : Env} (h : ∀ y ∈ scope.names, y.2 = .free → ∃ c, env.cells.lookup y.1 = some c) :
    ∃ cl, closureFor scope env = pure cl ∧ (∀ y c, cl.lookup y = some c → env.cells.lookup y = some c ∧ (y, NameKind.free) ∈ scope.names) ∧ (∀ y, (y, NameKind.free) ∈ scope.names → ∃ c, cl.lookup y = some c) := by
  have key : ∀ f : Str × NameKind → List (Str × Addr) → Sem (ForInStep (List (Str × Addr))),
      (∀ name kind cs, f (name, kind) cs = if (kind == .free) = true then (do let a ← cellOf env name; pure (.yield ((name, a) :: cs))) else pure (.yield cs)) →
      closureFor scope env = (forIn scope.names [] f >>= fun r => pure r) →
      ∃ cl, closureFor scope env = pure cl ∧ (∀ y c, cl.lookup y = some c → env.cells.lookup y = some c ∧ (y, NameKind.free) ∈ scope.names) ∧ (∀ y, (y, NameKind.free) ∈ scope.names → ∃ c, cl.lookup y = some c) := by
    intro f hf e
    obtain ⟨cl, h1, h2, h3⟩ := closure_go f hf scope.names [] h
    refine ⟨cl, ?_, fun y c q => (h2 y c q).resolve_left (fun z => by cases z), fun y hy => h3 y (.inl hy)⟩
    rw [e, h1]
    rfl
  refine key _ (fun name kind cs => ?_) rfl
  by_cases hk : (kind == NameKind.free) = true
  · simp only [hk, if_true]
  · simp only [hk, if_false]
theorem cells_split : ∀ (names : List (Str × NameKind)) (h : Heap) (acc : List (Str × Addr)) (y : Str) (c : Addr), (cellsFrom h.objs.size names acc).lookup y = some c →
    acc.lookup y = some c ∨ (h.objs.size ≤ c ∧ (y, NameKind.cell) ∈ names ∧ (pushCells h names).IsCell c none)
  | [], _, _, _, _, e => .inl e
  | (name, kind) :: r, h, acc, y, c, e => by
    unfold cellsFrom at e
    unfold pushCells
    by_cases hk : (kind == NameKind.cell) = true
    · rw [if_pos hk] at e ⊢
      have ek : kind = .cell := beq_iff_eq.mp hk
      subst ek
      have sz : (h.push { cls := .type "cell", data := .cell none }).objs.size = h.objs.size + 1 := Heap.size_push ..
      rw [← sz] at e
      rcases cells_split r _ _ y c e with q | ⟨q1, q2, q3⟩
      · rw [List.lookup_cons] at q
        cases hb : y == name with
        | true =>
          rw [hb] at q
          cases q
          have e : y = name := beq_iff_eq.mp hb
          subst e
          exact .inr ⟨Nat.le_refl _, List.mem_cons_self, ⟨_, pushCells_keeps _ _ _ _ (Heap.get?_push_size _ rfl), rfl⟩⟩
        | false =>
          rw [hb] at q
          exact .inl q
      · rw [sz] at q1
        exact .inr ⟨Nat.le_of_succ_le q1, List.mem_cons_of_mem _ q2, q3⟩
    · rw [if_neg hk] at e ⊢
      rcases cells_split r _ _ y c e with q | ⟨q1, q2, q3⟩
      · exact .inl q
      · exact .inr ⟨q1, List.mem_cons_of_mem _ q2, q3⟩
theorem cells_inj : ∀ (names : List (Str × NameKind)) (n : Nat) (acc : List (Str × Addr)), (∀ y z c, acc.lookup y = some c → acc.lookup z = some c → y = z) → (∀ y c, acc.lookup y = some c → c < n) →
    ∀ y z c, (cellsFrom n names acc).lookup y = some c → (cellsFrom n names acc).lookup z = some c → y = z
  | [], _, _, h, _, y, z, c, e1, e2 => h y z c e1 e2
  | (name, kind) :: r, n, acc, h, hl, y, z, c, e1, e2 => by
    unfold cellsFrom at e1 e2
    by_cases hk : (kind == NameKind.cell) = true
    · rw [if_pos hk] at e1 e2
      refine cells_inj r (n + 1) _ (fun y z c q1 q2 => ?_) (fun y c q => ?_) y z c e1 e2
      · rw [List.lookup_cons] at q1 q2
        cases b1 : y == name with
        | true =>
          rw [b1] at q1
          cases q1
          cases b2 : z == name with
          | true => rw [beq_iff_eq.mp b1, beq_iff_eq.mp b2]
          | false =>
            rw [b2] at q2
            exact absurd (hl z _ q2) (Nat.lt_irrefl _)
        | false =>
          rw [b1] at q1
          cases b2 : z == name with
          | true =>
            rw [b2] at q2
            cases q2
            exact absurd (hl y _ q1) (Nat.lt_irrefl _)
          | false =>
            rw [b2] at q2
            exact h y z c q1 q2
      · rw [List.lookup_cons] at q
        cases b : y == name with
        | true =>
          rw [b] at q
          cases q
          exact Nat.lt_succ_self _
        | false =>
          rw [b] at q
          exact Nat.lt_succ_of_lt (hl y c q)
    · rw [if_neg hk] at e1 e2
      exact cells_inj r n acc h hl y z c e1 e2
/-- the namespace of a comprehension -/
theorem newCompEnv {M : Model} {A : Around} {E : Value → Shared → Prop} {s : Shared} {scope : Scope} {env : Env} {cl : List (Str × Addr)} {Q : Env → Shared → Prop}
    (hQ : Q { scope := scope, locals := s.heap.objs.size, globals := env.globals, cells := cellsFrom (s.heap.objs.size + 1) scope.names cl, qual := env.qual, func := none, code := env.code, frame := env.frame, builtins := env.builtins }
      { s with heap := pushCells (s.heap.push { cls := .type "dict", data := .dict #[] }) scope.names }) :
    wpAny M A (newFunctionEnv scope env.globals cl [] env.qual none .none (some env)) Q E s := by
  simp only [newFunctionEnv, Option.isSome_some, if_true]
  refine wpAny_bind (wpAny_alloc ?_)
  refine wpAny_bind (wpAny_layCells _ (fun name kind cells => by cases hkc : kind == NameKind.cell <;> simp [hkc]) _ _ _ _ ?_)
  rw [show ({ s with heap := s.heap.push { cls := .type "dict", data := .dict #[] } } : Shared).heap.objs.size = s.heap.objs.size + 1 from Heap.size_push ..]
  refine wpAny_bind ?_
  rw [List.forIn_nil]
  exact wpAny_pure (wpAny_pure hQ)
section
variable {prog : Program} {w : World} {A : Around} {R : Result → Shared → Prop} {s : Shared}
theorem compLoopG {elt target iter : Expr} {ifs : List Expr} {scope : Scope} {pos : Pos} {it acc : Value} {env : Env} (I : Nat → Shared → Prop)
    (turn : ∀ n s, I n s → wpAny (model prog w) A (pyNext it) (fun r s₁ => match r with
      | none => R (.ok .next) s₁
      | some v => wpAny (model prog w) A (letOwnedTupleGo target it v) (fun _ s₁' => wpAny (model prog w) A (assign target env v) (fun _ s₂ =>
          wpAny (model prog w) A (forIn ifs true fun c r => if r = true then do let ok ← isTrue c env (eval c env); pure (ForInStep.yield ok) else pure (ForInStep.yield r)) (fun ok s₂' =>
            if ok = true then wpAny (model prog w) A (eval elt env) (fun x s₃ =>
              wpAny (model prog w) A (call (.builtin "list.append") [acc, x]) (fun _ s₄ => ∃ m, m < n ∧ I m s₄) (fun _ _ => False) s₃) (fun _ _ => False) s₂'
            else ∃ m, m < n ∧ I m s₂') (fun _ _ => False) s₂) (fun _ _ => False) s₁') (fun _ _ => False) s₁) (fun _ _ => False) s)
    (n : Nat) (h : I n s) : codeAny (model prog w) A (.compLoop (.ListComp elt [⟨target, iter, ifs, 0⟩] scope pos) 0 it acc env) R s := by
  refine codeAny_loop rfl I (fun n s hI => ?_) n h
  show wpAny _ _ ((compTurn (.ListComp elt [⟨target, iter, ifs, 0⟩] scope pos) 0 it acc env).onRaise (fun x => do noteFrame x env; theTreesLotGoes x)) _ _ s
  refine wpAny_noted ?_
  rw [compTurn_list]
  refine wpAny_bind (wpAny_standAt (wpAny_bind (wpAny_mono (turn n s hI) (fun r s₁ h₁ => ?_) fun _ _ h' => h'.elim)))
  cases r with
  | none => exact wpAny_pure h₁
  | some v =>
    refine wpAny_bind (wpAny_mono h₁ (fun _ s₁' h₁' => ?_) fun _ _ h' => h'.elim)
    refine wpAny_bind (wpAny_mono h₁' (fun _ s₂ h₂ => wpAny_bind (wpAny_mono h₂ (fun ok s₃ h₃ => ?_) fun _ _ h' => h'.elim)) fun _ _ h' => h'.elim)
    cases ok with
    | false => exact wpAny_pure ⟨rfl, h₃⟩
    | true =>
      exact wpAny_bind (wpAny_bind (wpAny_mono h₃ (fun x s₄ h₄ => wpAny_bind (wpAny_mono h₄ (fun _ s₅ h₅ => wpAny_pure (wpAny_pure ⟨rfl, h₅⟩)) fun _ _ h' => h'.elim)) fun _ _ h' => h'.elim))
/-- the tests of a comprehension -/
noncomputable def PIf (X : Cx) (ifs : List Expr) (t : TT) : Prop := ∀ (pins : List (Addr × Obj)) (s : Shared) (σ : St) (H : Hp) (Q : Bool → Hp → Prop), Inv X pins σ H s → t σ H Q →
  wpAny (model X.prog X.w) X.A (forIn ifs true fun c r => if r = true then do let ok ← isTrue c X.env (eval c X.env); pure (ForInStep.yield ok) else pure (ForInStep.yield r)) (TP X pins σ Q) X.xe s
noncomputable def tAll : TT := fun _ H Q => Q true H
theorem pif_nil {X : Cx} : PIf X [] tAll := fun pins s σ H Q I h => wpAny_tests_nil ⟨H, I, h⟩
theorem pif_one {X : Cx} {c : Expr} {t : TT} (h : PT X c t) : PIf X [c] t := fun pins s σ H Q I hw => wpAny_tests_one (h pins s σ H Q I hw)
end
/-- what must be seen of a comprehension's scope; cap: the names of the frame around that it reads, with their slots; x.. its own names -/
structure CompOk (X : Cx) (scope : Scope) (own : List Str) (cap : List (Str × Nat)) : Prop where
  kind : scope.kind = .function
  nd : (scope.names.map (·.1)).Nodup
  free : ∀ y ∈ scope.names, y.2 = .free → X.env.kindOf y.1 = some .cell ∨ X.env.kindOf y.1 = some .free
  capN : ∀ p ∈ cap, X.N[p.2]? = some p.1 ∧ (p.1, NameKind.free) ∈ scope.names
/-- the values of the names around -/
noncomputable def capV (σ : St) (cap : List (Str × Nat)) : St := cap.map fun p => (σ[p.2]?).join
/-- the context of a comprehension's block -/
noncomputable def cxComp (X : Cx) (scope : Scope) (cs : List (Str × Addr)) (C : Addr) (N : List Str) (s0 : Shared) (H0 : Hp) (fp : List Addr) : Cx where
  prog := X.prog
  w := X.w
  K := X.K
  mg := X.mg
  base := X.base
  A := X.A
  N := N
  s₀ := s0
  H₀ := H0
  env := compEnvC scope cs C X.env
  outer := X.stack
  stack := X.stack
  ex := fp
  fn := fun y => decide (scope.names.lookup y = some .cell)
  calm := X.calm
  pn := X.pn
  xe := fun _ _ => False
end L2
set_option Elab.async false
set_option linter.all false
set_option maxRecDepth 100000
set_option maxHeartbeats 4000000
namespace L2
open PySem PySem.Spec PyProof.Rows
section
variable {X : Cx} {pins : List (Addr × Obj)} {σ : St} {H : Hp} {s : Shared}
theorem vis_of_cell {env : Env} {y : Str} (h : env.kindOf y = some .cell ∨ env.kindOf y = some .free) : Vis env.scope y := .inr h
theorem inv_comp {scope : Scope} {own : List Str} {cap : List (Str × Nat)} {cl : List (Str × Addr)} {fp : List Addr} (I : Inv X pins σ H s) (ok : CompOk X scope own cap)
    (hcl : ∀ y c, cl.lookup y = some c → X.env.cells.lookup y = some c ∧ (y, NameKind.free) ∈ scope.names) (hcl2 : ∀ y, (y, NameKind.free) ∈ scope.names → ∃ c, cl.lookup y = some c)
    (f2 : ∀ b ∈ fp, FpOk X pins H b) (fo : ∀ b ∈ fp, b < s.heap.objs.size) :
    Inv (cxComp X scope (cellsFrom (s.heap.objs.size + 1) scope.names cl) s.heap.objs.size (own ++ cap.map (·.1)) s H fp) pins (List.replicate own.length none ++ capV σ cap) H
      { s with heap := pushCells (s.heap.push { cls := .type "dict", data := .dict #[] }) scope.names } := by
  have szC : (s.heap.push { cls := .type "dict", data := .dict #[] }).objs.size = s.heap.objs.size + 1 := Heap.size_push ..
  have kp : ∀ b o, s.heap.get? b = some o → (pushCells (s.heap.push { cls := .type "dict", data := .dict #[] }) scope.names).get? b = some o := fun b o e => pushCells_keeps _ _ b o (Heap.get?_push_of_some _ e)
  have sp : ∀ y c, (cellsFrom (s.heap.objs.size + 1) scope.names cl).lookup y = some c → (X.env.cells.lookup y = some c ∧ (y, NameKind.free) ∈ scope.names) ∨
      (s.heap.objs.size + 1 ≤ c ∧ (y, NameKind.cell) ∈ scope.names ∧ (pushCells (s.heap.push { cls := .type "dict", data := .dict #[] }) scope.names).IsCell c none) := fun y c e => by
    rw [← szC] at e
    rcases cells_split _ _ _ y c e with q | q
    · exact .inl (hcl y c q)
    · rw [szC] at q
      exact .inr q
  have clt : ∀ y c, X.env.cells.lookup y = some c → c < s.heap.objs.size := fun y c e => by
    obtain ⟨v, o, ho, _⟩ := I.cell y c e
    exact Heap.lt_size ho
  have kfree : ∀ y, (y, NameKind.free) ∈ scope.names → scope.names.lookup y = some .free := fun y h => lookup_of_nd ok.nd h
  have kcell : ∀ y, (y, NameKind.cell) ∈ scope.names → scope.names.lookup y = some .cell := fun y h => lookup_of_nd ok.nd h
  have okY : (cxComp X scope (cellsFrom (s.heap.objs.size + 1) scope.names cl) s.heap.objs.size (own ++ cap.map (·.1)) s H fp).Ok := {
    mod := I.ok.mod
    kind := ok.kind
    glob := I.ok.glob
    blt := I.ok.blt
    above := Nat.le_refl _
    inj := fun x y c e1 e2 => cells_inj scope.names (s.heap.objs.size + 1) cl (fun y z c q1 q2 => I.ok.inj y z c (hcl y c q1).1 (hcl z c q2).1) (fun y c q => Nat.lt_succ_of_lt (clt y c (hcl y c q).1)) x y c e1 e2
    has := fun y hy => by
      have hy' : (relabel scope X.env).names.lookup y = some .cell ∨ (relabel scope X.env).names.lookup y = some .free := hy
      rw [lookup_relabel] at hy'
      refine Option.isSome_iff_exists.mp (PySem.W.cellsFrom_some scope.names _ _ ?_)
      cases q : scope.names.lookup y with
      | none =>
        rw [q] at hy'
        rcases hy' with z | z <;> cases z
      | some k =>
        by_cases hk : k = .cell
        · subst hk
          exact .inl rfl
        · by_cases hf : k = .free
          · subst hf
            obtain ⟨c, hc⟩ := hcl2 y (lookup_mem q)
            exact .inr (by rw [hc]; rfl)
          · rw [q] at hy'
            exfalso
            have hb : (k == NameKind.free) = false := by simpa using hf
            rcases hy' with z | z
            · simp [relK, hb] at z
              exact hk z
            · simp [relK, hb] at z
              exact hf z
    cab := fun y c hf e => by
      have hf' : scope.names.lookup y = some .cell := of_decide_eq_true hf
      rcases sp y c e with ⟨_, q⟩ | ⟨q, _⟩
      · rw [kfree y q] at hf'
        cases hf'
      · exact Nat.le_of_succ_le q
    hd := I.ok.hd
    frames := I.ok.frames
    stk := .inl rfl
    exf := fun b hb => ⟨Nat.ne_of_lt (fo b hb), fun x c e z => by
      subst z
      rcases sp x c e with ⟨q, _⟩ | ⟨q, _⟩
      · exact (f2 c hb).2.2.2.2.1 x c q rfl
      · exact absurd (Nat.lt_of_lt_of_le (fo c hb) (Nat.le_of_succ_le q)) (Nat.lt_irrefl _)⟩
    bs := I.bs
    bsz := Nat.le_trans I.ok.bsz I.sz
    noex := fun b o e hb => by
      rcases (f2 b hb).2.2.2.1 with q | q
      · exact I.ok.noex b o e q
      · exact absurd (Nat.lt_of_lt_of_le (Heap.lt_size e) (Nat.le_trans I.ok.bsz q)) (Nat.lt_irrefl _)
    exfs := fun b hb z => by
      rcases List.mem_cons.mp (I.stkSub b z) with q | q
      · exact (f2 b hb).2.1 q
      · exact (f2 b hb).2.2.1 q
    funs := I.stack
    frf := I.stkFree }
  obtain ⟨m, hns, hl⟩ := id I.loc
  refine ⟨okY, rfl, I.bare, Un.kept kp, ⟨fun _ => none, (Heap.Ns.new s.heap (.type "dict")).keeps (pushCells_keeps _ _), fun i x v e1 e2 e3 => ?_⟩, fun y c e => ?_, I.fresh, fun y c e => ?_, fun p hp => ?_, I.hok.kept kp, ?_⟩
  · -- a name around
    have e1 : (own ++ cap.map (·.1))[i]? = some x := e1
    by_cases hi : i < own.length
    · rw [List.getElem?_append_left (by simpa using hi)] at e2
      simp [hi] at e2
    · have hi' : own.length ≤ i := Nat.not_lt.mp hi
      rw [List.getElem?_append_right (by simpa using hi')] at e2
      rw [List.getElem?_append_right hi'] at e1
      rw [List.length_replicate] at e2
      unfold capV at e2
      rw [List.getElem?_map] at e1 e2
      cases q : cap[i - own.length]? with
      | none =>
        rw [q] at e1
        cases e1
      | some p =>
        rw [q] at e1 e2
        obtain ⟨p1, p2⟩ := p
        have e1 : p1 = x := Option.some.inj e1
        subst e1
        have e2 : (σ[p2]?).join = some v := Option.some.inj e2
        have e2 : σ[p2]? = some (some v) := by
          cases z : σ[p2]? with
          | none => rw [z] at e2; cases e2
          | some z' => rw [z] at e2; exact congrArg some e2
        obtain ⟨hN, hfr⟩ := ok.capN (p1, p2) (List.mem_of_getElem? q)
        have hk := ok.free (p1, .free) hfr rfl
        obtain ⟨u, r, L⟩ := hl p2 p1 v hN e2 (vis_of_cell hk)
        refine ⟨u, r, ?_⟩
        rcases L with ⟨k, _⟩ | ⟨_, c, hc, hcell⟩
        · have hk : X.env.kindOf p1 = some .cell ∨ X.env.kindOf p1 = some .free := hk
          rw [k] at hk
          rcases hk with z | z <;> cases z
        · refine .inr ⟨?_, c, ?_, hcell.keeps kp⟩
          · show (relabel scope X.env).names.lookup p1 = some .cell ∨ (relabel scope X.env).names.lookup p1 = some .free
            rw [lookup_relabel, kfree _ hfr, Option.map_some]
            unfold relK
            split
            · exact .inl rfl
            · exact .inr rfl
          · obtain ⟨c', hc'⟩ := hcl2 p1 hfr
            obtain ⟨c2, hc2⟩ := Option.isSome_iff_exists.mp (PySem.W.cellsFrom_some scope.names (s.heap.objs.size + 1) cl (.inr (by rw [hc']; rfl) : scope.names.lookup p1 = some .cell ∨ (cl.lookup p1).isSome = true))
            have hc2' : (cellsFrom (s.heap.objs.size + 1) scope.names cl).lookup p1 = some c2 := hc2
            rcases sp p1 c2 hc2' with ⟨q1, _⟩ | ⟨_, q2, _⟩
            · rw [hc] at q1
              cases q1
              exact hc2'
            · have := kcell p1 q2
              rw [kfree p1 hfr] at this
              cases this
  · rcases sp y c e with ⟨q, _⟩ | ⟨_, _, q⟩
    · obtain ⟨v, hv⟩ := I.cell y c q
      exact ⟨v, hv.keeps kp⟩
    · exact ⟨none, q⟩
  · rcases sp y c e with ⟨q, _⟩ | ⟨q, _⟩
    · exact I.freeC y c q
    · exact I.hok.fresh (Nat.le_of_succ_le q)
  · obtain ⟨a1, a2, a3, a4, a5⟩ := I.pin p hp
    refine ⟨kp _ _ a1, a2, Nat.ne_of_lt (Heap.lt_size a1), fun z => ?_, a5⟩
    rcases List.mem_cons.mp (I.stkSub p.1 z) with q | q
    · exact a3 q
    · exact a4 q
  · show (List.replicate own.length none ++ capV σ cap).length = (own ++ cap.map (·.1)).length
    simp [capV]
/-- behind the block -/
theorem inv_compEnd {scope : Scope} {cs : List (Str × Addr)} {C : Addr} {N : List Str} {fp : List Addr} {τ : St} {H' : Hp} {s' : Shared} {h' : Heap} (I : Inv X pins σ H s) (f2 : ∀ b ∈ fp, FpOk X pins H b)
    (hC : s.heap.objs.size ≤ C) (J : Inv (cxComp X scope cs C N s H fp) pins τ H' s') (hs : Heap.SameBut C s'.heap h') : Inv X pins σ H' { s' with heap := h' } := by
  have u : Un (frs X.stack) fp H H' s.heap s'.heap := J.base
  have ne : ∀ b o, s.heap.get? b = some o → b ≠ C := fun b o e => Nat.ne_of_lt (Nat.lt_of_lt_of_le (Heap.lt_size e) hC)
  refine I.call' (s' := { s' with heap := h' }) (ch := fp) J.os ⟨fun b o e n hf hx => ?_, fun b o e n hf hx => ?_, u.free, fun b o e hx => ?_, u.tups, u.frzs, u.tbls⟩ (fun a o e => ?_) J.bare fun b hb => ⟨(f2 b hb).2.2.2.1, (f2 b hb).2.1, (f2 b hb).2.2.2.2.1, (f2 b hb).2.2.2.2.2⟩
  · exact (hs.2 b (ne b o e)).trans (u.keep b o e n hf hx)
  · obtain ⟨sl, q⟩ := u.slot b o e n hf hx
    exact ⟨sl, (hs.2 b (ne b o e)).trans q⟩
  · obtain ⟨o', q⟩ := u.there b o e hx
    exact ⟨o', (hs.2 b (ne b o e)).trans q⟩
  · refine (J.hok a o e).stay (fun b v hb q => (hs.2 b ?_).trans q) (fun _ q => q) fun _ _ q => q
    rintro rfl
    have fr : H' b = none := J.free
    rcases hb with rfl | hb
    · rw [fr] at e
      cases e
    · rw [fr] at hb
      cases hb
end
/-- [e for x in ..]: W: the turn, a measure, the block's names, the items so far, the heap -/
noncomputable def tComp (wi : TI) (g : TG) (tt : TT) (te : TE) (k : Nat) (cap : List (Str × Nat)) : TE := fun σ H Q => wi σ H fun J H1 => ∀ acc, H1 acc = none → ∃ W : Nat → Nat → St → List V → Hp → Prop,
  (∃ m, W 0 m (List.replicate k none ++ capV σ cap) [] (upd H1 acc (.lst []))) ∧
  ∀ i m τ ys H, W i m τ ys H → (J.stop i H ∧ Q (.ref acc) H) ∨ (J.go i H ∧ ∀ x H', J.yld i H x H' → g x τ H' fun τ2 H2 => tt τ2 H2 fun b H2' => if b = true then te τ2 H2' fun v H3 =>
    H3 acc = some (.lst ys) ∧ ys.length < sizeLine ∧ ∃ m', m' < m ∧ W (i + 1) m' τ2 (ys ++ [v]) (upd H3 acc (.lst (ys ++ [v]))) else ∃ m', m' < m ∧ W (i + 1) m' τ2 ys H2')
/-- what the block's parts are in every such block -/
structure BlockOk (X : Cx) (scope : Scope) (own : List Str) (cap : List (Str × Nat)) (tg : Expr) (ifs : List Expr) (elt : Expr) (g : TG) (tt : TT) (te : TE) : Prop where
  tgt : ∀ cs C s0 H0 fp, PG (cxComp X scope cs C (own ++ cap.map (·.1)) s0 H0 fp) tg g
  tst : ∀ cs C s0 H0 fp, PIf (cxComp X scope cs C (own ++ cap.map (·.1)) s0 H0 fp) ifs tt
  elm : ∀ cs C s0 H0 fp, PE (cxComp X scope cs C (own ++ cap.map (·.1)) s0 H0 fp) elt te
section
variable {X : Cx} {tg elt iter : Expr} {ifs : List Expr} {tt : TT} {scope : Scope} {pos : Pos} {own : List Str} {cap : List (Str × Nat)} {wi : TI} {g : TG} {te : TE}
/-- the block runs: RR is what is wanted at its end -/
theorem comp_block {pins : List (Addr × Obj)} {σ : St} {H2 : Hp} {s2 : Shared} {Q : VK} {it : Addr} {fp : List Addr} {tn : Nat → Heap → Prop} {J : It} {cl : List (Str × Addr)} {RR : Value → Addr → Result → Shared → Prop}
    {cm : Cx → Prop} (ok : CompOk X scope own cap) (hc : ∀ cs C N s0 H0 fp, Inv X pins σ H0 s0 → cm (cxComp X scope cs C N s0 H0 fp)) (B : BlockOk X scope own cap tg ifs elt g tt te)
    (hcl : ∀ y c, cl.lookup y = some c → X.env.cells.lookup y = some c ∧ (y, NameKind.free) ∈ scope.names) (hcl2 : ∀ y, (y, NameKind.free) ∈ scope.names → ∃ c, cl.lookup y = some c)
    (I2 : Inv X pins σ H2 s2) (T : TurnC cm X.prog X.w X.K tg J fp it tn) (st2 : tn 0 s2.heap) (f2 : ∀ b ∈ fp, FpOk X pins H2 b)
    (h : ∀ acc, H2 acc = none → ∃ W : Nat → Nat → St → List V → Hp → Prop, (∃ m, W 0 m (List.replicate own.length none ++ capV σ cap) [] (upd H2 acc (.lst []))) ∧
      ∀ i m τ ys H, W i m τ ys H → (J.stop i H ∧ Q (.ref acc) H) ∨ (J.go i H ∧ ∀ x H', J.yld i H x H' → g x τ H' fun τ2 H2 => tt τ2 H2 fun b H2' => if b = true then te τ2 H2' fun v H3 =>
        H3 acc = some (.lst ys) ∧ ys.length < sizeLine ∧ ∃ m', m' < m ∧ W (i + 1) m' τ2 (ys ++ [v]) (upd H3 acc (.lst (ys ++ [v]))) else ∃ m', m' < m ∧ W (i + 1) m' τ2 ys H2'))
    (hR : ∀ D C H' s', (∀ h', Heap.SameBut C s'.heap h' → Inv X pins σ H' { s' with heap := h' }) → (∃ m, s'.heap.Ns C m) → H' C = none → X.s₀.heap.objs.size ≤ C → C ≠ X.env.locals → (∀ x c, X.env.cells.lookup x = some c → c ≠ C) → (∀ p ∈ X.pn ++ pins, p.1 ≠ C) →
      Q (.ref D) H' → RR (.ref D) C (.ok .next) s') {E : Value → Shared → Prop} :
    wpAny (model X.prog X.w) X.A (newList []) (fun acc s₃ => wpAny (model X.prog X.w) X.A (newFunctionEnv scope X.env.globals cl [] X.env.qual none .none (some X.env)) (fun cenv s₄ =>
      codeAny (model X.prog X.w) X.A (.compStart (.ListComp elt [⟨tg, iter, ifs, 0⟩] scope pos) 0 (.ref it) acc { cenv with scope := relabel scope X.env }) (RR acc cenv.locals) s₄) E s₃) E s2 := by
  refine wpAny_newObj_type ?_
  have fresh : H2 s2.heap.objs.size = none := I2.fresh
  have I3 : Inv X pins σ (upd H2 s2.heap.objs.size (.lst [])) { s2 with heap := s2.heap.push { cls := .type "list", data := .seq ([] : List Value).toArray } } := I2.lnew (its := []) (ys := []) (t' := s2.toks) .nil (Nat.zero_le _)
  have ob2 := T.obj _ _ st2
  have lt2 : ∀ b ∈ fp, b < s2.heap.objs.size := fun b hb => let ⟨o, e, _⟩ := ob2 b hb; Heap.lt_size e
  have f3 : ∀ b ∈ fp, FpOk X pins (upd H2 s2.heap.objs.size (.lst [])) b := fun b hb => ⟨by rw [upd_ne (Nat.ne_of_lt (lt2 b hb))]; exact (f2 b hb).1, (f2 b hb).2⟩
  have kp3 : ∀ b o, s2.heap.get? b = some o → (s2.heap.push { cls := .type "list", data := .seq ([] : List Value).toArray }).get? b = some o := fun b o e => Heap.get?_push_of_some _ e
  generalize hs3 : ({ s2 with heap := s2.heap.push { cls := .type "list", data := .seq ([] : List Value).toArray } } : Shared) = s3 at I3 ⊢
  have k3 : ∀ b o, s2.heap.get? b = some o → s3.heap.get? b = some o := fun b o e => by rw [← hs3]; exact kp3 b o e
  refine newCompEnv ?_
  have lt3 : ∀ b ∈ fp, b < s3.heap.objs.size := fun b hb => let ⟨o, e, _⟩ := ob2 b hb; Heap.lt_size (k3 b o e)
  have I4 := inv_comp (own := own) (cap := cap) (fp := fp) I3 ok hcl hcl2 f3 lt3
  have st4 : tn 0 (pushCells (s3.heap.push { cls := .type "dict", data := .dict #[] }) scope.names) := T.keep _ _ _ st2 fun b _ o e => pushCells_keeps _ _ b o (Heap.get?_push_of_some _ (k3 b o e))
  obtain ⟨W, ⟨m0, w0⟩, turn⟩ := h s2.heap.objs.size fresh
  let Y := cxComp X scope (cellsFrom (s3.heap.objs.size + 1) scope.names cl) s3.heap.objs.size (own ++ cap.map (·.1)) s3 (upd H2 s2.heap.objs.size (.lst [])) fp
  have I4 : Inv Y pins (List.replicate own.length none ++ capV σ cap) (upd H2 s2.heap.objs.size (.lst [])) { s3 with heap := pushCells (s3.heap.push { cls := .type "dict", data := .dict #[] }) scope.names } := I4
  have f4 : ∀ {H' : Hp}, (∀ b ∈ fp, H' b = none) → ∀ b ∈ fp, FpOk Y pins H' b := fun {H'} hn b hb => by
    refine ⟨hn b hb, Nat.ne_of_lt (lt3 b hb), fun z => ?_, .inl hb, (I4.ok.exf b hb).2, (f2 b hb).2.2.2.2.2⟩
    exact I4.ok.exfs b hb z
  have loop : codeAny (model X.prog X.w) X.A (.compLoop (.ListComp elt [⟨tg, iter, ifs, 0⟩] scope pos) 0 (.ref it) (.ref s2.heap.objs.size) Y.env) (RR (.ref s2.heap.objs.size) s3.heap.objs.size)
      { s3 with heap := pushCells (s3.heap.push { cls := .type "dict", data := .dict #[] }) scope.names } := by
    refine compLoopG (fun n s' => ∃ i τ ys H', Inv Y pins τ H' s' ∧ tn i s'.heap ∧ (∀ b ∈ fp, H' b = none) ∧ W i n τ ys H') ?_ m0 ⟨0, _, [], _, I4, st4, fun b hb => (f3 b hb).1, w0⟩
    rintro n s5 ⟨i, τ, ys, H5, I5, st5, fr5, w5⟩
    rcases turn i n τ ys H5 w5 with ⟨stop, q⟩ | ⟨go, step⟩
    · refine thn (T.done Y rfl rfl rfl (hc _ _ _ _ _ _ I3) i pins s5 τ H5 (fun _ _ => False) I5 (f4 fr5) st5 stop) fun r s6 ⟨hr, I6⟩ => ?_
      subst hr
      obtain ⟨m, hns, _⟩ := I6.loc
      have hC : X.s₀.heap.objs.size ≤ s3.heap.objs.size := I3.sz
      refine hR _ _ H5 s6 (fun h' hs' => inv_compEnd I3 f3 (Nat.le_refl _) I6 hs') ⟨m, hns⟩ I6.free hC (fun z => ?_) (fun x c e z => ?_) (fun p hp z => ?_) q
      · exact Nat.lt_irrefl _ (z ▸ I3.lt)
      · obtain ⟨v, o, ho, _⟩ := I3.cell x c e
        rw [z] at ho
        exact Nat.lt_irrefl _ (Heap.lt_size ho)
      · have e := (I3.pin p hp).1
        rw [z] at e
        exact Nat.lt_irrefl _ (Heap.lt_size e)
    · refine thn (T.item Y rfl rfl rfl (hc _ _ _ _ _ _ I3) i pins s5 τ H5 (fun _ _ => False) I5 (f4 fr5) st5 go) fun r s6 ⟨u, hr, h6⟩ => ?_
      subst hr
      refine thn h6 fun _ s7 ⟨x, H7, I7, r7, y7, st7, fr7⟩ => ?_
      have I7' := I7.pinned (f4 fr7) (T.obj _ _ st7)
      refine thn (B.tgt _ _ _ _ _ _ s7 τ H7 x u _ I7' r7 (step x H7 y7)) fun _ s8 ⟨τ8, H8, I8, q8⟩ => ?_
      refine thn (B.tst _ _ _ _ _ _ s8 τ8 H8 _ I8 q8) fun ok s8' ⟨H8', I8', q8'⟩ => ?_
      have again : ∀ {H' : Hp} {s' : Shared}, Inv Y (pins ++ pinsAt fp s7.heap) τ8 H' s' → Inv Y pins τ8 H' s' ∧ tn (i + 1) s'.heap ∧ ∀ b ∈ fp, H' b = none := fun {H' s'} I' => by
        refine ⟨I'.unpinned, T.keep _ _ _ st7 fun b hb o e => (I'.pin (b, o) (List.mem_append_right _ (List.mem_append_right _ (mem_pinsAt hb e)))).1, fun b hb => ?_⟩
        obtain ⟨o, e, d⟩ := T.obj _ _ st7 b hb
        exact (I'.pin (b, o) (List.mem_append_right _ (List.mem_append_right _ (mem_pinsAt hb e)))).2.1
      cases ok with
      | false =>
        rw [if_neg Bool.false_ne_true] at q8' ⊢
        obtain ⟨m', hm, w9⟩ := q8'
        obtain ⟨z1, z2, z3⟩ := again I8'
        exact ⟨m', hm, i + 1, τ8, ys, H8', z1, z2, z3, w9⟩
      | true =>
        rw [if_pos rfl] at q8' ⊢
        refine thn (B.elm _ _ _ _ _ _ s8' τ8 H8' _ I8' q8') fun v s9 ⟨y, H9, I9, r9, hacc, hlen, m', hm, w9⟩ => ?_
        refine thn (mt_append _ s9 τ8 H9 (.ref s2.heap.objs.size) [y] (.ref s2.heap.objs.size) [v] (fun z H' => z = .non ∧ H' = upd H9 s2.heap.objs.size (.lst (ys ++ [y]))) I9 rfl (.cons r9 .nil) ⟨_, ys, y, rfl, rfl, hacc, hlen, rfl, rfl⟩) fun _ s10 ⟨z, H10, I10, _, _, e10⟩ => ?_
        subst e10
        obtain ⟨z1, z2, z3⟩ := again I10
        exact ⟨m', hm, i + 1, τ8, ys ++ [y], _, z1, z2, z3, w9⟩
  exact codeAny_compStart_list loop (T.self X.A 0 _ _ _ st4 loop)
theorem comp_closure {pins : List (Addr × Obj)} {σ : St} {H : Hp} {s : Shared} (I : Inv X pins σ H s) (ok : CompOk X scope own cap) : ∃ cl, closureFor scope X.env = pure cl ∧ (∀ y c, cl.lookup y = some c → X.env.cells.lookup y = some c ∧ (y, NameKind.free) ∈ scope.names) ∧ (∀ y, (y, NameKind.free) ∈ scope.names → ∃ c, cl.lookup y = some c) :=
  closure_ok fun y hy hk => I.ok.has y.1 (ok.free y hy hk)
theorem comp_names (ok : CompOk X scope own cap) : ∀ x ∈ scope.names, x.2 = .local → scope.names.lookup x.1 = some .local := fun x hx hl => lookup_of_nd ok.nd (by rw [← hl]; exact hx)
/-- iterators that may be walked where cm holds -/
noncomputable def PIEC (cm : Cx → Prop) (X : Cx) (pins : List (Addr × Obj)) (σ : St) (tg : Expr) (R : It → Hp → Prop) (itv : Value) (s2 : Shared) : Prop :=
  ∃ (it : Addr) (fp : List Addr) (tn : Nat → Heap → Prop) (J : It) (H' : Hp), itv = .ref it ∧ Inv X pins σ H' s2 ∧ TurnC cm X.prog X.w X.K tg J fp it tn ∧ tn 0 s2.heap ∧ (∀ b ∈ fp, FpOk X pins H' b) ∧ R J H'
noncomputable def PIC (cm : Cx → Prop) (X : Cx) (tg iter : Expr) (wi : TI) : Prop :=
  ∀ (pins : List (Addr × Obj)) (s : Shared) (σ : St) (H : Hp) (R : It → Hp → Prop), Inv X pins σ H s → wi σ H R →
    wpAny (model X.prog X.w) X.A (eval iter X.env) (fun v s1 => wpAny (model X.prog X.w) X.A (pyIter v) (PIEC cm X pins σ tg R) X.xe s1) X.xe s
/-- a comprehension as an expression -/
theorem pe_compC {cm : Cx → Prop} (ok : CompOk X scope own cap) (hc : ∀ pins σ cs C N s0 H0 fp, Inv X pins σ H0 s0 → cm (cxComp X scope cs C N s0 H0 fp)) (hi : PIC cm X tg iter wi) (B : BlockOk X scope own cap tg ifs elt g tt te) (hs : ∀ x, foldedSetIterable iter X.env x = pure x := by intro _; rfl) :
    PE X (.ListComp elt [⟨tg, iter, ifs, 0⟩] scope pos) (tComp wi g tt te own.length cap) := by
  intro pins s σ H Q I h
  obtain ⟨cl, hclos, hcl, hcl2⟩ := comp_closure I ok
  rw [eval_ListComp]
  refine wpAny_comprehension_free (use := none) rfl hs hclos ok.kind (comp_names ok) (thn (hi pins s σ H _ I h) fun xv s1 h1 => thn h1 fun itv s2 h2 => ?_)
  obtain ⟨it, fp, tn, J, H2, e, I2, T, st2, f2, hW⟩ := h2
  subst e
  refine comp_block (Q := Q) (RR := fun acc C => compPost (model X.prog X.w) X.A X.xe none (EP X pins σ Q) acc C) ok (hc pins σ) B hcl hcl2 I2 T st2 f2 hW ?_
  rintro D C H' s' hI ⟨m, hm⟩ _ _ _ _ _ q
  exact ⟨m, hm, fun h' hs' => ⟨.ref D, H', hI h' hs', rfl, q⟩⟩
/-- y = [..] -/
theorem ps_setCompC {cm : Cx → Prop} {i : Nat} {y : Str} {py spos : Pos} (hN : X.N.Nodup) (hi' : X.N[i]? = some y) (hy : Loc X.env.scope y) (ok : CompOk X scope own cap) (hc : ∀ pins σ cs C N s0 H0 fp, Inv X pins σ H0 s0 → cm (cxComp X scope cs C N s0 H0 fp)) (hi : PIC cm X tg iter wi) (B : BlockOk X scope own cap tg ifs elt g tt te)
    (hsw : swapsWith (.ListComp elt [⟨tg, iter, ifs, 0⟩] scope pos) (some (.Name y py)) spos.line X.env = pure true := by rfl)
    (hf : X.fn y = true ∨ X.env.scope.names.lookup y = some .local := by first | exact .inl rfl | exact .inr rfl) (hs : ∀ x, foldedSetIterable iter X.env x = pure x := by intro _; rfl) :
    PS X (.Assign [.Name y py] (.ListComp elt [⟨tg, iter, ifs, 0⟩] scope pos) spos) (tAsg (tComp wi g tt te own.length cap) (gName i)) := by
  intro pins s σ H D I h
  obtain ⟨cl, hclos, hcl, hcl2⟩ := comp_closure I ok
  rw [exec_Assign_Name_used _ _ _ _ hsw]
  refine wpAny_bind (wpAny_standAt (wpAny_bind ?_))
  show wpAny _ X.A (do let _ ← comprehension (.ListComp elt [⟨tg, iter, ifs, 0⟩] scope pos) scope X.env _ (newList []) false (eval iter X.env) (some (assign (.Name y py) X.env))) _ _ s
  refine wpAny_bind (wpAny_mono (wpAny_comprehension_free (use := some (assign (.Name y py) X.env)) (Q := fun _ s' => SP X pins D .next s') rfl hs hclos ok.kind (comp_names ok) (thn (hi pins s σ H _ I h) fun xv s1 h1 => thn h1 fun itv s2 h2 => ?_)) (fun _ s' hq => wpAny_pure (wpAny_pure hq)) fun _ _ e => e)
  obtain ⟨it, fp, tn, J, H2, e, I2, T, st2, f2, hW⟩ := h2
  subst e
  refine comp_block (Q := fun v H' => gName i v σ H' D.nx) (RR := fun acc C => compPost (model X.prog X.w) X.A X.xe (some (assign (.Name y py) X.env)) (fun _ s' => SP X pins D .next s') acc C) ok (hc pins σ) B hcl hcl2 I2 T st2 f2 hW ?_
  rintro D' C H' s' hI ⟨m, hm⟩ hHC hC1 hC2 hC3 hC4 q
  have I' : Inv X pins σ H' s' := hI s'.heap (.refl ..)
  show wpAny _ X.A (assign (.Name y py) X.env (.ref D')) _ _ s'
  refine wpAny_assign_Name (store_ok2 I' hN hi' hy (show RelV (.ref D') (.ref D') from rfl) (fun s'' I'' ⟨a, hsa, ha⟩ => ?_) hf)
  have ne : C ≠ a := by
    rcases ha with rfl | ha
    · exact hC2
    · exact fun z => hC3 y a ha z.symm
  refine ⟨m, hm.sameBut hsa ne, fun h' hs' => ?_⟩
  refine ⟨_, H', I''.turned (t' := s''.toks) (h' := h') (it := C) (fun b o hb e => (hs'.2 b hb).trans e) hHC hC2 (.inr hC1) (fun x c e z => hC3 x c e z) hC4, q⟩
/-- .. outside of an except suite -/
theorem pe_comp (ok : CompOk X scope own cap) (hc : X.calm = true) (hi : PI X tg iter wi) (B : BlockOk X scope own cap tg ifs elt g tt te) (hs : ∀ x, foldedSetIterable iter X.env x = pure x := by intro _; rfl) :
    PE X (.ListComp elt [⟨tg, iter, ifs, 0⟩] scope pos) (tComp wi g tt te own.length cap) := pe_compC (cm := fun X => X.calm = true) ok (fun _ _ _ _ _ _ _ _ _ => hc) hi B hs
theorem ps_setComp {i : Nat} {y : Str} {py spos : Pos} (hN : X.N.Nodup) (hi' : X.N[i]? = some y) (hy : Loc X.env.scope y) (ok : CompOk X scope own cap) (hc : X.calm = true) (hi : PI X tg iter wi) (B : BlockOk X scope own cap tg ifs elt g tt te)
    (hsw : swapsWith (.ListComp elt [⟨tg, iter, ifs, 0⟩] scope pos) (some (.Name y py)) spos.line X.env = pure true := by rfl)
    (hf : X.fn y = true ∨ X.env.scope.names.lookup y = some .local := by first | exact .inl rfl | exact .inr rfl) (hs : ∀ x, foldedSetIterable iter X.env x = pure x := by intro _; rfl) :
    PS X (.Assign [.Name y py] (.ListComp elt [⟨tg, iter, ifs, 0⟩] scope pos) spos) (tAsg (tComp wi g tt te own.length cap) (gName i)) :=
  ps_setCompC (cm := fun X => X.calm = true) hN hi' hy ok (fun _ _ _ _ _ _ _ _ _ => hc) hi B hsw hf hs
end
end L2
set_option Elab.async false
set_option linter.all false
set_option maxRecDepth 100000
set_option maxHeartbeats 4000000
/-! ### enumerate over a list or a tuple, walked by a tuple of names -/
namespace L2
open PySem PySem.Spec PyProof.Rows
section
variable {prog : Program} {w : World} {A : Around} {E : Value → Shared → Prop} {s : Shared}
theorem nextOf_tup_item {it t : Addr} {i : Nat} {items : Array Value} {x : Value} {Q : Value → Shared → Prop} (hit : s.heap.IsTupleIter it t i) (ht : s.heap.IsTuple t items) (hx : items[i]? = some x)
    (hQ : ∀ h', h'.IsTupleIter it t (i + 1) → Heap.SameBut it s.heap h' → Q x { s with heap := h' }) : wpAny (model prog w) A (Builtin.SmallTypes.nextOf (.ref it)) Q E s := by
  obtain ⟨o, ho, hc, hd⟩ := id hit
  obtain ⟨ot, hot, _, nt, hdt⟩ := ht
  unfold Builtin.SmallTypes.nextOf
  refine wpAny_bind (wpAny_callSpecial?_slot (name := Str.ofString "__next__") hit.typeIs F.slot_tuple_iterator_next (wpAny_call_entry F.slot_tuple_iterator_next hit.typeIs F.entry_tuple_iterator_next ?_ (F.args_tuple_iterator_next_1 _)))
  show wpAny _ _ (field (.ref it) 0 >>= _) _ _ s
  refine wpAny_bind (wpAny_field ho hd (x := .ref t) rfl ?_)
  show wpAny _ _ (if (Value.ref t == Value.none) = true then _ else _) _ _ s
  rw [if_neg (fun z : (Value.ref t == Value.none) = true => Bool.false_ne_true z)]
  show wpAny _ _ (field (.ref it) 1 >>= _) _ _ s
  refine wpAny_bind (wpAny_field ho hd (x := .int i 0) rfl ?_)
  show wpAny _ _ (seqItems? (.ref t) >>= _) _ _ s
  refine wpAny_bind (wpAny_seqItems hot hdt ?_)
  simp only [Int.toNat_natCast, hx]
  refine wpAny_bind (wpAny_setField ho hd (by simp) (wpAny_pure ⟨x, rfl, wpAny_pure (hQ _ ⟨_, Heap.get?_update_self _ ho (Obj.isFreed_of_fields (Obj.data_mapFields hd _)), (Obj.cls_mapFields ..).trans hc, ?_⟩ (Heap.SameBut.update ..))⟩))
  rw [Obj.data_mapFields hd]
  simp [rawInt]
theorem nextOf_tup_end {it t : Addr} {i : Nat} {items : Array Value} {Q : Value → Shared → Prop} (hh : A.handled = none) (hit : s.heap.IsTupleIter it t i) (ht : s.heap.IsTuple t items) (hx : items[i]? = none)
    (hE : ∀ h' e, Heap.ExtBut it s.heap h' → (∃ o, h'.get? e = some o ∧ o.cls = .type "StopIteration") → E (.ref e) { s with heap := h' }) : wpAny (model prog w) A (Builtin.SmallTypes.nextOf (.ref it)) Q E s := by
  obtain ⟨o, ho, hc, hd⟩ := id hit
  obtain ⟨ot, hot, _, nt, hdt⟩ := ht
  unfold Builtin.SmallTypes.nextOf
  refine wpAny_bind (wpAny_callSpecial?_slot (name := Str.ofString "__next__") hit.typeIs F.slot_tuple_iterator_next (wpAny_call_entry F.slot_tuple_iterator_next hit.typeIs F.entry_tuple_iterator_next ?_ (F.args_tuple_iterator_next_1 _)))
  show wpAny _ _ (field (.ref it) 0 >>= _) _ _ s
  refine wpAny_bind (wpAny_field ho hd (x := .ref t) rfl ?_)
  show wpAny _ _ (if (Value.ref t == Value.none) = true then _ else _) _ _ s
  rw [if_neg (fun z : (Value.ref t == Value.none) = true => Bool.false_ne_true z)]
  show wpAny _ _ (field (.ref it) 1 >>= _) _ _ s
  refine wpAny_bind (wpAny_field ho hd (x := .int i 0) rfl ?_)
  show wpAny _ _ (seqItems? (.ref t) >>= _) _ _ s
  refine wpAny_bind (wpAny_seqItems hot hdt ?_)
  simp only [Int.toNat_natCast, hx]
  refine wpAny_bind (wpAny_rule (wpAny_bind (wpAny_setField ho hd (by simp) ?_)))
  show wpAny _ _ (newExc (.type "StopIteration") [] >>= _) _ _ _
  refine wpAny_bind ?_
  simp only [newExc, newTuple]
  refine wpAny_bind (wpAny_newObj_type ?_ (by size_fits))
  refine wpAny_bind (m := firstArgMember _ _) (wpAny_of_eq (a := Value.none) (by first | rfl | (simp only [firstArgMember]; rfl)) ?_)
  refine wpAny_newObj_type ?_ (by size_fits)
  simp only [raiseNew]
  refine wpAny_bind (wpAny_handled ?_)
  first | rw [show A.in1.handled = none from hh] | rw [hh]
  exact wpAny_bind (wpAny_pure (wpAny_throw (hE _ _ (((Heap.SameBut.update ..).extBut.push _).push _) ⟨_, Heap.get?_push_size _ rfl, rfl⟩)))
/-- one item more, whatever is walked -/
theorem enum_item {e it : Addr} {i : Nat} {x old : Value} {R : Obj → Prop} {Q : Option Value → Shared → Prop} (he : IsEnum s.heap e it i old) (hne : e ≠ it)
    (hn : ∀ (A' : Around) (E' Q' : Value → Shared → Prop), (∀ h', (∃ o, h'.get? it = some o ∧ R o) → Heap.SameBut it s.heap h' → Q' x { s with heap := h' }) → wpAny (model prog w) A' (Builtin.SmallTypes.nextOf (.ref it)) Q' E' s)
    (hQ : ∀ h', IsEnumOut h' e it ((i : Int) + 1) x s.heap.objs.size → (∃ o, h'.get? it = some o ∧ R o) → h'.get? s.heap.objs.size = some { cls := .type "tuple", data := .seq #[.int i s.toks, x] } → h'.objs.size = s.heap.objs.size + 1 →
      (∀ b o, b ≠ e → b ≠ it → s.heap.get? b = some o → h'.get? b = some o) → Q (some (.ref s.heap.objs.size)) { s with heap := h', toks := s.toks + 1 }) :
    wpAny (model prog w) A (pyNext (.ref e)) Q E s := by
  have hT : s.TypeIs (.ref e) "enumerate" := ⟨_, he, rfl⟩
  unfold pyNext
  refine wpAny_bind (wpAny_attempt (wpAny_callSpecial?_slot (name := Str.ofString "__next__") hT F.slot_enumerate_next (wpAny_call_entry F.slot_enumerate_next hT F.entry_enumerate_next ?_ (F.args_enumerate_next_1 _))))
  obtain ⟨hp, g, d, tk, os⟩ := s
  show wpAny _ _ (field (.ref e) 2 >>= _) _ _ _
  refine wpAny_bind (wpAny_field he rfl (x := .ref it) rfl (wpAny_bind (hn _ _ _ fun h₁ hit₁ hs₁ => ?_)))
  replace hs₁ : Heap.SameBut it hp h₁ := hs₁
  have he₁ : IsEnum h₁ e it i old := (hs₁.2 e hne).trans he
  show wpAny _ _ (field (.ref e) 3 >>= _) _ _ ⟨h₁, g, d, tk, os⟩
  refine wpAny_bind (wpAny_field he₁ rfl (x := rawInt i) rfl ?_)
  show wpAny _ _ (field (.ref e) 4 >>= _) _ _ ⟨h₁, g, d, tk, os⟩
  refine wpAny_bind (wpAny_field he₁ rfl (x := .none) rfl ?_)
  show wpAny _ _ (mkInt i >>= _) _ _ ⟨h₁, g, d, tk, os⟩
  refine wpAny_bind (wpAny_mkInt ?_)
  show wpAny _ _ (setField (.ref e) 3 (rawInt ((i : Int) + 1)) >>= _) _ _ ⟨h₁, g, d, tk + 1, os⟩
  refine wpAny_bind (wpAny_setField_rec he₁ (by simp) fun h₂ he₂ hs₂ => ?_)
  replace hs₂ : Heap.SameBut e h₁ h₂ := hs₂
  replace he₂ : IsEnum h₂ e it ((i : Int) + 1) old := he₂
  show wpAny _ _ (setField (.ref e) 4 .none >>= _) _ _ ⟨h₂, g, d, tk + 1, os⟩
  refine wpAny_bind (wpAny_setField_rec he₂ (by simp) fun h₃ he₃ hs₃ => ?_)
  replace hs₃ : Heap.SameBut e h₂ h₃ := hs₃
  replace he₃ : IsEnum h₃ e it ((i : Int) + 1) old := he₃
  show wpAny _ _ (newTuple [.int i tk, x] >>= _) _ _ ⟨h₃, g, d, tk + 1, os⟩
  refine wpAny_bind (wpAny_newTuple ?_)
  have sz : h₃.objs.size = hp.objs.size := by rw [hs₃.1, hs₂.1, hs₁.1]
  have hel : e < hp.objs.size := Heap.lt_size he
  obtain ⟨h₄, hh₄⟩ : ∃ h₄, h₄ = h₃.push { cls := .type "tuple", data := .seq #[.int i tk, x] } := ⟨_, rfl⟩
  have he₄ : IsEnum h₄ e it ((i : Int) + 1) old := by rw [hh₄]; exact Heap.get?_push_of_some _ he₃
  have ht₄ : h₄.get? hp.objs.size = some { cls := .type "tuple", data := .seq #[.int i tk, x] } := by rw [hh₄, ← sz]; exact Heap.get?_push_size _ rfl
  have hz₄ : h₄.objs.size = hp.objs.size + 1 := by rw [hh₄, Heap.size_push, sz]
  have hk₄ : ∀ b o, b ≠ e → b ≠ it → hp.get? b = some o → h₄.get? b = some o := fun b o hbe hbi hb => by
    rw [hh₄]
    exact Heap.get?_push_of_some _ (hs₃.extBut b o hbe (hs₂.extBut b o hbe (hs₁.extBut b o hbi hb)))
  have hit₄ : ∃ o, h₄.get? it = some o ∧ R o := by
    obtain ⟨o, ho, r⟩ := hit₁
    rw [hh₄]
    exact ⟨o, Heap.get?_push_of_some _ (hs₃.extBut it o (Ne.symm hne) (hs₂.extBut it o (Ne.symm hne) ho)), r⟩
  rw [← hh₄]
  show wpAny _ _ (Builtin.SmallTypes.ownedTupleIsFree (.ref e) >>= _) _ _ ⟨h₄, g, d, tk + 1, os⟩
  rw [sz]
  clear hh₄ he₃ hs₃ he₂ hs₂ he₁ hs₁ hit₁ sz h₃ h₂ h₁
  refine wpAny_bind ?_
  unfold Builtin.SmallTypes.ownedTupleIsFree
  refine wpAny_bind (wpAny_field he₄ rfl (x := .none) rfl (wpAny_pure ?_))
  simp only [if_true]
  refine wpAny_bind (wpAny_rule (wpAny_bind (wpAny_field he₄ rfl (x := old) rfl (wpAny_bind (wpAny_setField_rec he₄ (by simp) fun h₅ he₅ hs₅ => ?_)))))
  replace hs₅ : Heap.SameBut e h₄ h₅ := hs₅
  replace he₅ : IsEnum h₅ e it ((i : Int) + 1) x := he₅
  show wpAny _ _ (Builtin.SmallTypes.ownedTupleHandOut (.ref e) (.ref hp.objs.size) >>= _) _ _ ⟨h₅, g, d, tk + 1, os⟩
  refine wpAny_bind ?_
  unfold Builtin.SmallTypes.ownedTupleHandOut
  refine wpAny_bind (wpAny_setField_rec he₅ (by simp) fun h₆ he₆ hs₆ => ?_)
  replace hs₆ : Heap.SameBut e h₅ h₆ := hs₆
  replace he₆ : IsEnumOut h₆ e it ((i : Int) + 1) x hp.objs.size := he₆
  refine wpAny_setField_rec he₆ (by simp) fun h₇ he₇ hs₇ => ?_
  replace hs₇ : Heap.SameBut e h₆ h₇ := hs₇
  replace he₇ : IsEnumOut h₇ e it ((i : Int) + 1) x hp.objs.size := he₇
  have up : ∀ b o, b ≠ e → h₄.get? b = some o → h₇.get? b = some o := fun b o hb q => hs₇.extBut b o hb (hs₆.extBut b o hb (hs₅.extBut b o hb q))
  refine wpAny_bind (wpAny_letGo (wpAny_pure ⟨_, rfl, wpAny_pure (hQ h₇ he₇ ?_ (up _ _ (Nat.ne_of_gt hel) ht₄) (by rw [hs₇.1, hs₆.1, hs₅.1, hz₄]) fun b o hbe hbi hb => up b o hbe (hk₄ b o hbe hbi hb))⟩))
  obtain ⟨o, ho, r⟩ := hit₄
  exact ⟨o, up it o (Ne.symm hne) ho, r⟩
theorem enum_end {e it : Addr} {i : Nat} {old : Value} {Q : Option Value → Shared → Prop} (he : IsEnum s.heap e it i old)
    (hn : ∀ (A' : Around) (E' Q' : Value → Shared → Prop), A'.handled = A.handled → (∀ h' x, Heap.ExtBut it s.heap h' → (∃ o, h'.get? x = some o ∧ o.cls = .type "StopIteration") → E' (.ref x) { s with heap := h' }) → wpAny (model prog w) A' (Builtin.SmallTypes.nextOf (.ref it)) Q' E' s)
    (hQ : ∀ h', Heap.ExtBut it s.heap h' → Q none { s with heap := h' }) : wpAny (model prog w) A (pyNext (.ref e)) Q E s := by
  have hT : s.TypeIs (.ref e) "enumerate" := ⟨_, he, rfl⟩
  unfold pyNext
  refine wpAny_bind (wpAny_attempt (wpAny_callSpecial?_slot (name := Str.ofString "__next__") hT F.slot_enumerate_next (wpAny_call_entry F.slot_enumerate_next hT F.entry_enumerate_next ?_ (F.args_enumerate_next_1 _))))
  show wpAny _ _ (field (.ref e) 2 >>= _) _ _ _
  refine wpAny_bind (wpAny_field he rfl (x := .ref it) rfl (wpAny_bind (hn _ _ _ rfl fun h' x he' hx' => ?_)))
  obtain ⟨o, ho, hc⟩ := hx'
  exact wpAny_bind (wpAny_isInstance (T := "StopIteration") (b := true) ⟨o, ho, hc⟩ isSubtype_stop (wpAny_pure (hQ _ he')))
set_option maxHeartbeats 4000000 in
theorem meets_enum_newT (t : Addr) (items : Array Value) (n : Nat) (dct : Option Addr) (sl : Array (Option Value)) :
    Meets (Builtin.«enumerate.__new__» ⟨[.type "enumerate", .ref t], []⟩) (fun _ R s => s.heap.get? t = some { cls := .type "tuple", dict := dct, data := .seq items n, slots := sl } ∧
      R (.ok (.ret (.ref (s.heap.push { cls := .type "tuple_iterator", data := .fields #[.ref t, .int 0 0] }).objs.size)))
        { s with heap := (s.heap.push { cls := .type "tuple_iterator", data := .fields #[.ref t, .int 0 0] }).push { cls := .type "enumerate", data := .fields #[.none, .bool false, .ref s.heap.objs.size, rawInt 0, .none, .none] } }) :=
  .of_wp fun prog w A R s h => by
    obtain ⟨hp, g, d, tk, os⟩ := s
    obtain ⟨ht, h⟩ := h
    have hsub := sub_enumerate
    have hT : Heap.IsTuple (Shared.heap ⟨hp, g, d, tk, os⟩) t items := ⟨_, ht, rfl, n, rfl⟩
    wp_walk using AutoSeq1.wpAny_loadPart' ht
    refine wpAny_stack_any fun st => wpAny_pure ?_
    split
    · rename_i c _ _ _ _ _
      cases (c == Value.type "enumerate") <;> (wp_walk using AutoSeq1.wpAny_loadPart' ht, wpAny_pyIter_tuple hT; exact ⟨_, rfl, h⟩)
    · wp_walk using AutoSeq1.wpAny_loadPart' ht, wpAny_pyIter_tuple hT
      exact ⟨_, rfl, h⟩
theorem call_enum_tup {t : Addr} {items : Array Value} {Q : Value → Shared → Prop} (hT : s.heap.IsTuple t items)
    (h : ∀ h', IsEnum h' (s.heap.objs.size + 1) s.heap.objs.size 0 .none → h'.IsTupleIter s.heap.objs.size t 0 → (∀ b o, s.heap.get? b = some o → h'.get? b = some o) → Q (.ref (s.heap.objs.size + 1)) { s with heap := h' }) :
    wpAny (model prog w) A (call (.type "enumerate") [.ref t]) Q E s := by
  obtain ⟨⟨c, dct, dt, sl⟩, hl, hc, n, hd⟩ := hT
  have hc : c = .type "tuple" := hc
  have hd : dt = .seq items n := hd
  subst hc hd
  refine callType_new F.called_enumerate (by decide) (F.typeCall_enumerate_1 _) (F.newCall_enumerate_1 _) (fun obj => F.args_object_init_2 obj _) F.entry_enumerate_new (meets_enum_newT t items n dct sl) ⟨hl, ?_⟩
  have hz : (s.heap.push { cls := .type "tuple_iterator", data := .fields #[.ref t, .int 0 0] }).objs.size = s.heap.objs.size + 1 := Heap.size_push ..
  show _ ∧ _
  rw [hz]
  have q := Heap.get?_push_size (s.heap.push { cls := .type "tuple_iterator", data := .fields #[.ref t, .int 0 0] }) (o := { cls := .type "enumerate", data := .fields #[.none, .bool false, .ref s.heap.objs.size, rawInt 0, .none, .none] }) rfl
  rw [hz] at q
  exact ⟨⟨_, q, rfl⟩, h _ q ⟨_, Heap.get?_push_of_some _ (Heap.get?_push_size _ rfl), rfl, rfl⟩ fun b o x => Heap.get?_push_of_some _ (Heap.get?_push_of_some _ x)⟩
end
theorem hok_add {P : Program} {w : World} {H : Hp} {h : Heap} {p : Addr} {o : HO} (x : HOk P w H h) (hn : H p = none) (new : ObjOk P w (upd H p o) h p o) : HOk P w (upd H p o) h := fun a u e => by
  by_cases q : a = p
  · subst q
    rw [upd_same] at e
    cases e
    exact new
  · rw [upd_ne q] at e
    exact (x a u e).stay (fun _ _ _ z => z) (fun b z => by rw [upd_ne (ne_of_none z hn)]; exact z) fun b xs z => by rw [upd_ne (ne_of_none z hn)]; exact z
/-- what enumerate yields: a new pair -/
noncomputable def Ite (src : Hp → List V → Prop) : It :=
  ⟨fun i H => ∃ xs x, src H xs ∧ xs[i]? = some x, fun i H x H' => ∃ p y, x = .ref p ∧ H p = none ∧ H' = upd H p (.tup [.int i, y]) ∧ ∀ xs, src H xs → xs[i]? = some y, fun i H => ∃ xs, src H xs ∧ xs.length ≤ i⟩
/-- the two kinds of sources -/
structure Src (P : Program) (w : World) (K : PySem.W.Frag) (a it : Addr) (src : Hp → List V → Prop) (nx : Nat → Obj → Prop) : Prop where
  dat : ∀ i o, nx i o → ∀ v, o.data ≠ .cell v
  item : ∀ (X : Cx), X.prog = P → X.w = w → X.K = K → ∀ (pins : List (Addr × Obj)) (σ : St) (H : Hp) (s : Shared) (xs : List V) (i : Nat) (x : V), Inv X pins σ H s → src H xs → xs[i]? = some x → (∃ o, s.heap.get? it = some o ∧ nx i o) →
    ∃ u, RelV x u ∧ ∀ (A' : Around) (E' Q' : Value → Shared → Prop), (∀ h', (∃ o, h'.get? it = some o ∧ nx (i + 1) o) → Heap.SameBut it s.heap h' → Q' u { s with heap := h' }) → wpAny (model P w) A' (Builtin.SmallTypes.nextOf (.ref it)) Q' E' s
  done : ∀ (X : Cx), X.prog = P → X.w = w → X.K = K → ∀ (pins : List (Addr × Obj)) (σ : St) (H : Hp) (s : Shared) (xs : List V) (i : Nat), Inv X pins σ H s → src H xs → xs.length ≤ i → (∃ o, s.heap.get? it = some o ∧ nx i o) →
    ∀ (A' : Around) (E' Q' : Value → Shared → Prop), A'.handled = none → (∀ h' x, Heap.ExtBut it s.heap h' → (∃ o, h'.get? x = some o ∧ o.cls = .type "StopIteration") → E' (.ref x) { s with heap := h' }) → wpAny (model P w) A' (Builtin.SmallTypes.nextOf (.ref it)) Q' E' s
  inj : ∀ (X : Cx), X.prog = P → X.w = w → X.K = K → ∀ (pins : List (Addr × Obj)) (σ : St) (H : Hp) (s : Shared) (xs ys : List V), Inv X pins σ H s → src H xs → src H ys → xs = ys
theorem src_list {P : Program} {w : World} {K : PySem.W.Frag} (a it : Addr) : Src P w K a it (fun H xs => SqL K H a xs) (fun i o => o.cls = .type "list_iterator" ∧ o.data = .fields #[.ref a, .int i 0]) where
  dat := fun i o h v z => by rw [h.2] at z; cases z
  item := by
    intro X hP hw hK pins σ H s xs i x I hq hx ho
    subst hP hw hK
    obtain ⟨its, rv, p, hz⟩ := I.list hq
    obtain ⟨u, hu, ru⟩ := rv.get hx
    obtain ⟨o, h1, h2, h3⟩ := ho
    exact ⟨u, ru, fun A' E' Q' hQ => wpAny_nextOf_list_item ⟨o, h1, h2, h3⟩ p.isList (by simpa using hu) fun h' st sb => hQ h' st sb⟩
  done := by
    intro X hP hw hK pins σ H s xs i I hq hx ho A' E' Q' hh hE
    subst hP hw hK
    obtain ⟨its, rv, p, hz⟩ := I.list hq
    obtain ⟨o, h1, h2, h3⟩ := ho
    have hl := rv.length
    exact wpAny_nextOf_list_end hh ⟨o, h1, h2, h3⟩ p.isList (by simp; omega) hE
  inj := by
    intro X hP hw hK pins σ H s xs ys I h1 h2
    subst hP hw hK
    exact I.list_inj h1 h2
theorem isTuple_of {h : Heap} {a : Addr} {its : Array Value} (x : IsTup h a its) : h.IsTuple a its := by
  obtain ⟨o, h1, h2, h3⟩ := x
  exact ⟨o, h1, h2, h3⟩
theorem src_tup {P : Program} {w : World} {K : PySem.W.Frag} (a it : Addr) : Src P w K a it (fun H xs => SqT K H a xs) (fun i o => o.cls = .type "tuple_iterator" ∧ o.data = .fields #[.ref a, .int i 0]) where
  dat := fun i o h v z => by rw [h.2] at z; cases z
  item := by
    intro X hP hw hK pins σ H s xs i x I hq hx ho
    subst hP hw hK
    obtain ⟨its, rv, p, hz⟩ := I.tuple hq
    obtain ⟨u, hu, ru⟩ := rv.get hx
    obtain ⟨o, h1, h2, h3⟩ := ho
    exact ⟨u, ru, fun A' E' Q' hQ => nextOf_tup_item ⟨o, h1, h2, h3⟩ (isTuple_of p) (by simpa using hu) fun h' st sb => hQ h' st sb⟩
  done := by
    intro X hP hw hK pins σ H s xs i I hq hx ho A' E' Q' hh hE
    subst hP hw hK
    obtain ⟨its, rv, p, hz⟩ := I.tuple hq
    obtain ⟨o, h1, h2, h3⟩ := ho
    have hl := rv.length
    exact nextOf_tup_end hh ⟨o, h1, h2, h3⟩ (isTuple_of p) (by simp; omega) hE
  inj := by
    intro X hP hw hK pins σ H s xs ys I h1 h2
    subst hP hw hK
    exact I.tuple_inj h1 h2
theorem turn_enum {P : Program} {w : World} {K : PySem.W.Frag} {elts : List Expr} {x1 : Nat} {tp : Pos} {a it e : Addr} {src : Hp → List V → Prop} {nx : Nat → Obj → Prop} (S : Src P w K a it src nx) (hne : e ≠ it) :
    Turn P w K (.Tuple elts x1 tp) (Ite src) [e, it] e (fun i h => (∃ old, IsEnum h e it (i : Nat) old) ∧ ∃ o, h.get? it = some o ∧ nx i o) where
  mem := by simp
  obj := fun i h st b hb => by
    obtain ⟨⟨old, h1⟩, o, h2, h3⟩ := st
    rcases List.mem_cons.mp hb with q | q
    · subst q
      exact ⟨_, h1, fun v z => by cases z⟩
    · have q : b = it := by simpa using q
      subst q
      exact ⟨o, h2, S.dat i o h3⟩
  keep := fun i h h' st k => by
    obtain ⟨⟨old, h1⟩, o, h2, h3⟩ := st
    exact ⟨⟨old, k e (by simp) _ h1⟩, o, k it (by simp) o h2, h3⟩
  item := by
    intro X hP hw hK hc i pins s σ H E I hf st hg
    obtain ⟨xs, x, hq, hx⟩ := hg
    obtain ⟨⟨old, h1⟩, ho⟩ := st
    obtain ⟨u, ru, hnx⟩ := S.item X hP hw hK pins σ H s xs i x I hq hx ho
    have inj := fun ys (hy : src H ys) => S.inj X hP hw hK pins σ H s ys xs I hy hq
    obtain ⟨f0, f1, f2, f3, f4, f5⟩ := hf e (by simp)
    obtain ⟨g0, g1, g2, g3, g4, g5⟩ := hf it (by simp)
    subst hP hw hK
    have hel : e < s.heap.objs.size := Heap.lt_size h1
    refine enum_item h1 hne hnx fun h' k1 k2 k3 k4 k5 => ⟨_, rfl, wpAny_letOwnedTupleGo_enum k1 fun h'' m1 m2 => ?_⟩
    have m2 : Heap.SameBut e h' h'' := m2
    have fr : H s.heap.objs.size = none := I.fresh
    have kp : ∀ b o, b ≠ e → b ≠ it → s.heap.get? b = some o → h''.get? b = some o := fun b o hb hb' q => (m2.2 b hb).trans (k5 b o hb hb' q)
    have tp : h''.get? s.heap.objs.size = some { cls := .type "tuple", data := .seq #[.int i s.toks, u] } := (m2.2 _ (Nat.ne_of_gt hel)).trans k3
    have ok1 : HOk X.prog X.w H h'' := fun b o hb => (I.hok b o hb).stay (fun c v hcb q => kp c v (fun z => by
        subst z
        rcases hcb with z | z
        · subst z
          rw [f0] at hb
          cases hb
        · rw [f0] at z
          cases z) (fun z => by
        subst z
        rcases hcb with z | z
        · subst z
          rw [g0] at hb
          cases hb
        · rw [g0] at z
          cases z) q) (fun _ z => z) fun _ _ z => z
    have ok2 : HOk X.prog X.w (upd H s.heap.objs.size (.tup [.int i, x])) h'' := hok_add ok1 fr ⟨by show 2 ≤ sizeLine; decide, [.int i s.toks, u], .cons ⟨_, rfl⟩ (.cons ru .nil), ⟨_, tp⟩⟩
    have I2 : Inv X pins σ (upd H s.heap.objs.size (.tup [.int i, x])) { s with heap := h'', toks := s.toks + 1 } := by
      refine I.step (g' := s.gens) (d' := s.drawn) (ch := [e, it]) (fun b hb => ?_) (fun b o _ _ hb q _ => kp b o (fun z => hb (by simp [z])) (fun z => hb (by simp [z])) q) (fun b o _ _ hb q _ => ⟨o.slots, kp b o (fun z => hb (by simp [z])) (fun z => hb (by simp [z])) q⟩)
        (fun b o _ q n => by rw [upd_ne (Nat.ne_of_lt (Heap.lt_size q))]; exact n) (fun b o hb q => ⟨o, kp b o (fun z => hb (by simp [z])) (fun z => hb (by simp [z])) q⟩)
        (fun b ys q => by rw [upd_ne (ne_of_none q fr)]; exact q) (fun b o v q => by rw [upd_ne (ne_of_none q fr)]; exact q) (fun b ps q => ⟨#[], by rw [upd_ne (ne_of_none q fr), Array.append_empty]; exact q⟩)
        (fun m hm => hm.at fun o q => kp _ o (Ne.symm f1) (Ne.symm g1) q) ok2 I.bare
      rcases List.mem_cons.mp hb with z | z
      · subst z
        exact ⟨f3, f1, f4, f5⟩
      · have z : b = it := by simpa using z
        subst z
        exact ⟨g3, g1, g4, g5⟩
    obtain ⟨oi, hoi, ri⟩ := k2
    refine ⟨.ref s.heap.objs.size, _, I2, rfl, ⟨_, x, rfl, fr, rfl, fun ys hy => by rw [inj ys hy]; exact hx⟩, ⟨⟨u, ?_⟩, oi, (m2.2 it (Ne.symm hne)).trans hoi, ri⟩, fun b hb => ?_⟩
    · have m1 : IsEnum h'' e it ((i : Int) + 1) u := m1
      have z : (((i + 1 : Nat)) : Int) = (i : Int) + 1 := by omega
      rw [z]
      exact m1
    · have lt : b < s.heap.objs.size := by
        rcases List.mem_cons.mp hb with z | z
        · rw [z]
          exact hel
        · have z : b = it := by simpa using z
          obtain ⟨o, q, _⟩ := ho
          rw [z]
          exact Heap.lt_size q
      rw [upd_ne (Nat.ne_of_lt lt)]
      exact (hf b hb).1
  done := by
    intro X hP hw hK hc i pins s σ H E I hf st hg
    obtain ⟨xs, hq, hx⟩ := hg
    obtain ⟨⟨old, h1⟩, ho⟩ := st
    have hd := S.done X hP hw hK pins σ H s xs i I hq hx ho
    obtain ⟨g0, g1, g2, g3, g4, g5⟩ := hf it (by simp)
    subst hP hw hK
    exact enum_end h1 (fun A' E' Q' hA hE => hd A' E' Q' (hA.trans (I.ok.hd hc)) hE) fun h' eb => ⟨rfl, I.turned (t' := s.toks) (fun b o hb q => eb b o hb q) g0 g1 g3 g4 g5⟩
  self := fun _ _ _ _ _ st h => by
    obtain ⟨⟨old, h1⟩, _⟩ := st
    exact wpAny_pyIter_enum h1 h
section
variable {X : Cx} {elts : List Expr} {x1 : Nat} {tp p pos : Pos} {l : Expr} {ta : TA}
end
end L2
set_option Elab.async false
set_option linter.all false
set_option maxRecDepth 100000
set_option maxHeartbeats 4000000
/-! ### more of Python's own, and short forms -/
namespace L2
open PySem PySem.Spec PyProof.Rows
section
variable {X : Cx}
theorem call_sorted : CallR X (.builtin "sorted") (fun xs H Q => ∃ (a : Addr) (ns : List Int), xs = [.ref a] ∧ SqL X.K H a (ns.map V.int) ∧ ns.length < 64 ∧ ∀ (p : Addr) (ns' : List Int), H p = none → ns'.Perm ns → ns'.Pairwise (· ≤ ·) → Q (.ref p) (upd H p (.lst (ns'.map V.int)))) := by
  intro pins s σ H xs us Q I r h
  obtain ⟨a, ns, rfl, hq, hl, q⟩ := h
  obtain ⟨u, rfl, ru⟩ := vals1 r
  cases ru
  obtain ⟨its, rv, pl, hz⟩ := I.list hq
  have hi := intsAre_of rv
  have hlen := rv.length
  rw [List.length_map] at hlen
  refine sorted_ints pl.isList hi (by omega) fun out ns' a1 a2 a3 => ?_
  obtain ⟨e, he⟩ := sortedAll_at s.heap its out
  refine ⟨.ref (s.heap.objs.size + 1), _, I.laid (t' := s.toks) (fun b o z => sortedAll_old z) (Nat.le_succ _) ?_, rfl, q _ ns' (I.hok.fresh (Nat.le_succ _)) a2 a3⟩
  refine ⟨?_, out.toList, e, vals_ints a1, by rw [Array.toArray_toList]; exact he⟩
  rw [List.length_map, a2.length_eq]
  exact Nat.le_trans (Nat.le_of_lt hl) (by decide)
/-- the members of set(ns), each once -/
noncomputable def dd (ns : List Int) : List Int := firstMet (fun i => ns.getD i 0) ns.length
theorem call_set (hc : X.calm = true) : CallR X (.type "set") (fun xs H Q => ∃ (a : Addr) (ns : List Int), xs = [.ref a] ∧ SqL X.K H a (ns.map V.int) ∧ ns.length < 4000 ∧ ∀ p, H p = none → Q (.ref p) (upd H p (.set (fun k => (dd ns).any (· == k)) (dd ns).length))) := by
  intro pins s σ H xs us Q I r h
  obtain ⟨a, ns, rfl, hq, hl, q⟩ := h
  obtain ⟨u, rfl, ru⟩ := vals1 r
  cases ru
  obtain ⟨its, rv, pl, hz⟩ := I.list hq
  have hi := intsAre_of rv
  have hlen := rv.length
  rw [List.length_map] at hlen
  refine call_set_list (I.ok.hd hc) pl.isList (by simpa using hi) (by show its.toArray.size + 1 < 4096; simp; omega) fun h' tk hs kp => ?_
  have e : its.toArray.size = ns.length := by simp [hlen]
  rw [e] at hs
  exact ⟨.ref s.heap.objs.size, _, I.laid (t' := tk) (fun b o z => kp b o (Heap.lt_size z) z) (Nat.le_refl _) (o := .set (fun k => (dd ns).any (· == k)) (dd ns).length) hs, rfl, q _ (I.hok.fresh (Nat.le_refl _))⟩
theorem call_lenS : CallR X (.builtin "len") (fun xs H Q => ∃ a S n, xs = [.ref a] ∧ H a = some (.set S n) ∧ Q (.int n) H) := by
  intro pins s σ H xs us Q I r h
  obtain ⟨a, S, n, rfl, ha, q⟩ := h
  obtain ⟨u, rfl, ru⟩ := vals1 r
  cases ru
  obtain ⟨o, es, ep, t, h1, h2, h3, h4, h5, h6, h7, h8⟩ := (show s.heap.SetOf (intKind X.prog X.w) a S n from I.hok a _ ha)
  subst h8
  exact call_len_set h1 h2 h3 h7 (by have : es.size < 4096 := h6; omega) ⟨.int es.size, H, I.tok _, ⟨_, rfl⟩, q⟩
end
end L2
set_option Elab.async false
set_option linter.all false
set_option maxRecDepth 100000
set_option maxHeartbeats 4000000
/-! ### short words for defs and comprehensions -/
namespace L2
open PySem PySem.Spec PyProof.Rows
/-- relabel by the scope around alone -/
noncomputable def relabelS (scope sc : Scope) : Scope :=
  { scope with names := scope.names.map fun (n, k) => if (k == .free && sc.kind == .function && sc.names.lookup n == some .cell) then (n, .cell) else (n, k) }
theorem relabel_eq (scope : Scope) (env : Env) : relabel scope env = relabelS scope env.scope := rfl
/-- the checks of a comprehension's scope, by computation -/
noncomputable def compChk (sc : Scope) (N : List Str) (scope : Scope) (cap : List (Str × Nat)) : Bool :=
  decide (scope.kind = .function) && decide ((scope.names.map (·.1)).Nodup) &&
  (scope.names.all fun y => !(y.2 == .free) || (sc.names.lookup y.1 == some .cell || sc.names.lookup y.1 == some .free)) &&
  (cap.all fun p => (N[p.2]? == some p.1) && scope.names.contains (p.1, NameKind.free))
theorem compOk_mk {X : Cx} {scope : Scope} {own : List Str} {cap : List (Str × Nat)} (sc : Scope) (hsc : X.env.scope = sc) (N : List Str) (hN : X.N = N) (h : compChk sc N scope cap = true) : CompOk X scope own cap := by
  simp only [compChk, Bool.and_eq_true, decide_eq_true_eq] at h
  obtain ⟨⟨⟨h1, h2⟩, h3⟩, h4⟩ := h
  refine ⟨h1, h2, fun y hy hk => ?_, fun p hp => ?_⟩
  · have q := List.all_eq_true.mp h3 y hy
    show X.env.scope.names.lookup y.1 = some .cell ∨ X.env.scope.names.lookup y.1 = some .free
    rw [hsc]
    rw [hk] at q
    simpa using q
  · have q := List.all_eq_true.mp h4 p hp
    rw [Bool.and_eq_true] at q
    rw [hN]
    exact ⟨by simpa using q.1, by simpa using q.2⟩
/-- a def of the text that may be called: where it stands, how it binds, what it promises -/
structure Cal (P : Program) (w : World) (K : PySem.W.Frag) (mg : Str → Option Value) (base : Heap) (k : Nat) (x : Str) (ps : List Str) (sp : Sp) : Prop where
  ex : ∃ f fd, mg x = some (.ref f) ∧ PySem.W.keepIn K (.ref f) = true ∧ Binds K fd ps [] ∧ FnOk P w K mg base CX0 k f fd ps sp
/-- a def of the text, as it stands: its address, its object, how it binds -/
structure Dfn (K : PySem.W.Frag) (mg : Str → Option Value) (x : Str) (st : Stmt) (ps : List Str) : Prop where
  ex : ∃ f fd, Fun K x x st f fd ∧ mg x = some (.ref f) ∧ Binds K fd ps []
section
variable {X : Cx} {k : Nat} {x : Str} {ps : List Str} {sp : Sp} {p pos : Pos} {e : Expr} {es : List Expr} {t : TA}
theorem pe_cal (C : Cal X.prog X.w X.K X.mg X.base k x ps sp) (hr : Room k X.A) (hg : Gl X x) (ha : PA X (e :: es) t) (hdb : (x == ("__debug__" : Str)) = false := by decide)
    (he : starEach (e :: es) X.env = (false, eval e X.env) :: starEach es X.env := by rfl) (hpl : (backTo pos (starEach es X.env)).any (·.1) = false := by rfl) : PE X (.Call (.Name x p) (e :: es) [] pos) (tCall sp [] E0 t) := by
  obtain ⟨f, fd, hm, hk, hb, F⟩ := C.ex
  exact pe_call F hr hg hm hk hb .nil pass0 ha hdb he hpl
end
end L2
set_option Elab.async false
set_option linter.all false
set_option maxRecDepth 100000
set_option maxHeartbeats 4000000
/-! ### ways that meet again -/
namespace L2
open PySem PySem.Spec PyProof.Rows
end L2
set_option Elab.async false
set_option linter.all false
set_option maxRecDepth 100000
set_option maxHeartbeats 4000000
/-! ### zip over two lists or tuples, walked by a tuple of names -/
namespace L2
open PySem PySem.Spec PyProof.Rows
section
variable {prog : Program} {w : World} {A : Around} {E : Value → Shared → Prop} {s : Shared} {z TI TO i1 i2 l1 l2 : Addr} {k : Nat} {xs ys : Array Value} {a b : Value} {seq1 seq2 : Heap → Prop} {nx1 nx2 : Nat → Obj → Prop}
end
/-! the new zip -/
end L2
set_option Elab.async false
set_option linter.all false
set_option maxRecDepth 100000
set_option maxHeartbeats 4000000
namespace L2
open PySem PySem.Spec PyProof.Rows
end L2
set_option Elab.async false
set_option linter.all false
set_option maxRecDepth 100000
set_option maxHeartbeats 4000000
namespace L2
open PySem PySem.Spec PyProof.Rows
end L2
set_option Elab.async false
set_option linter.all false
set_option maxRecDepth 100000
set_option maxHeartbeats 4000000
/-! ### all and any over a list or a tuple of bools -/
namespace L2
open PySem PySem.Spec PyProof.Rows
section
variable {X : Cx}
end
end L2
set_option Elab.async false
set_option linter.all false
set_option maxRecDepth 100000
set_option maxHeartbeats 4000000
/-! ### t.index(k) of a tuple of ints -/
namespace L2
open PySem PySem.Spec PyProof.Rows
end L2
set_option Elab.async false
set_option linter.all false
set_option maxRecDepth 100000
set_option maxHeartbeats 4000000
namespace L2
open PySem PySem.Spec PyProof.Rows
section
variable {X : Cx}
variable {o e : Expr} {es : List Expr} {to : TE} {t : TA} {name : Str} {apos cpos : Pos} {id : String} {r : V → List V → Hp → VK → Prop}
end
end L2
set_option Elab.async false
set_option linter.all false
set_option maxRecDepth 100000
set_option maxHeartbeats 4000000
/-! ### deep values: what a Python value is worth, without addresses. A list or dict bears a tag: own (this place alone holds it), bor (a look at one that a name owns), frz (nobody changes it any more) -/
namespace DL
open PySem PySem.Spec PyProof.Rows L2
inductive Tg where | own | bor | frz
  deriving DecidableEq
/-- a dict's key -/
noncomputable abbrev KT := Sum Key (List Key)
inductive D where
  | non | bl (b : Bool) | int (i : Int) | str (x : Str)
  | tup (xs : List D) | lst (t : Tg) (xs : List D) | dct (t : Tg) (k : Bool) (ks : List KT) (vs : List D)
  | exc (C : Addr)
/-- the names' values -/
noncomputable abbrev SD := List (Option D)
inductive Res (α : Type) where | ok (a : α) | exn (C : Addr) | bad
noncomputable def Res.bind {α β : Type} : Res α → (α → Res β) → Res β
  | .ok a, f => f a
  | .exn c, _ => .exn c
  | .bad, _ => .bad
noncomputable def Res.map {α β : Type} (f : α → β) (r : Res α) : Res β := r.bind fun a => .ok (f a)
@[simp] theorem Res.bind_ok {α β : Type} (a : α) (f : α → Res β) : (Res.ok a).bind f = f a := rfl
@[simp] theorem Res.bind_exn {α β : Type} (c : Addr) (f : α → Res β) : (Res.exn c : Res α).bind f = .exn c := rfl
@[simp] theorem Res.bind_bad {α β : Type} (f : α → Res β) : (Res.bad : Res α).bind f = .bad := rfl
@[simp] theorem Res.map_ok {α β : Type} (a : α) (f : α → β) : Res.map f (Res.ok a) = .ok (f a) := rfl
/-! ### tags -/
noncomputable def Tg.view : Tg → Tg | .own => .bor | t => t
noncomputable def Tg.toBor : Tg → Tg | .frz => .bor | t => t
mutual
noncomputable def D.view : D → D
  | .tup xs => .tup (viewL xs)
  | .lst t xs => .lst t.view (viewL xs)
  | .dct t k ks vs => .dct t.view k ks (viewL vs)
  | d => d
noncomputable def viewL : List D → List D
  | [] => []
  | d :: r => d.view :: viewL r
end
mutual
noncomputable def D.frz : D → D
  | .tup xs => .tup (frzL xs)
  | .lst _ xs => .lst .frz (frzL xs)
  | .dct _ k ks vs => .dct .frz k ks (frzL vs)
  | d => d
noncomputable def frzL : List D → List D
  | [] => []
  | d :: r => d.frz :: frzL r
end
mutual
noncomputable def D.toBor : D → D
  | .tup xs => .tup (toBorL xs)
  | .lst t xs => .lst t.toBor (toBorL xs)
  | .dct t k ks vs => .dct t.toBor k ks (toBorL vs)
  | d => d
noncomputable def toBorL : List D → List D
  | [] => []
  | d :: r => d.toBor :: toBorL r
end
mutual
/-- some part is a look at what a name owns -/
noncomputable def D.hasBor : D → Bool
  | .tup xs => hasBorL xs
  | .lst t xs => decide (t = .bor) || hasBorL xs
  | .dct t _ _ vs => decide (t = .bor) || hasBorL vs
  | _ => false
noncomputable def hasBorL : List D → Bool
  | [] => false
  | d :: r => d.hasBor || hasBorL r
end
mutual
/-- no list or dict in it -/
noncomputable def D.pure : D → Bool
  | .tup xs => pureL xs
  | .lst _ _ => false
  | .dct _ _ _ _ => false
  | _ => true
noncomputable def pureL : List D → Bool
  | [] => true
  | d :: r => d.pure && pureL r
end
mutual
theorem view_pure : ∀ d : D, d.pure = true → d.view = d
  | .non, _ => rfl
  | .bl _, _ => rfl
  | .int _, _ => rfl
  | .str _, _ => rfl
  | .exc _, _ => rfl
  | .tup xs, h => by
    have h : pureL xs = true := h
    show D.tup (viewL xs) = _
    rw [viewL_pure xs h]
  | .lst _ _, h => by cases h
  | .dct _ _ _ _, h => by cases h
theorem viewL_pure : ∀ xs : List D, pureL xs = true → viewL xs = xs
  | [], _ => rfl
  | d :: r, h => by
    have h : (d.pure && pureL r) = true := h
    rw [Bool.and_eq_true] at h
    show d.view :: viewL r = _
    rw [view_pure d h.1, viewL_pure r h.2]
end
mutual
theorem frz_pure : ∀ d : D, d.pure = true → d.frz = d
  | .non, _ => rfl
  | .bl _, _ => rfl
  | .int _, _ => rfl
  | .str _, _ => rfl
  | .exc _, _ => rfl
  | .tup xs, h => by
    have h : pureL xs = true := h
    show D.tup (frzL xs) = _
    rw [frzL_pure xs h]
  | .lst _ _, h => by cases h
  | .dct _ _ _ _, h => by cases h
theorem frzL_pure : ∀ xs : List D, pureL xs = true → frzL xs = xs
  | [], _ => rfl
  | d :: r, h => by
    have h : (d.pure && pureL r) = true := h
    rw [Bool.and_eq_true] at h
    show d.frz :: frzL r = _
    rw [frz_pure d h.1, frzL_pure r h.2]
end
mutual
theorem toBor_pure : ∀ d : D, d.pure = true → d.toBor = d
  | .non, _ => rfl
  | .bl _, _ => rfl
  | .int _, _ => rfl
  | .str _, _ => rfl
  | .exc _, _ => rfl
  | .tup xs, h => by
    have h : pureL xs = true := h
    show D.tup (toBorL xs) = _
    rw [toBorL_pure xs h]
  | .lst _ _, h => by cases h
  | .dct _ _ _ _, h => by cases h
theorem toBorL_pure : ∀ xs : List D, pureL xs = true → toBorL xs = xs
  | [], _ => rfl
  | d :: r, h => by
    have h : (d.pure && pureL r) = true := h
    rw [Bool.and_eq_true] at h
    show d.toBor :: toBorL r = _
    rw [toBor_pure d h.1, toBorL_pure r h.2]
end
mutual
theorem hasBor_pure : ∀ d : D, d.pure = true → d.hasBor = false
  | .non, _ => rfl
  | .bl _, _ => rfl
  | .int _, _ => rfl
  | .str _, _ => rfl
  | .exc _, _ => rfl
  | .tup xs, h => hasBorL_pure xs h
  | .lst _ _, h => by cases h
  | .dct _ _ _ _, h => by cases h
theorem hasBorL_pure : ∀ xs : List D, pureL xs = true → hasBorL xs = false
  | [], _ => rfl
  | d :: r, h => by
    have h : (d.pure && pureL r) = true := h
    rw [Bool.and_eq_true] at h
    show (d.hasBor || hasBorL r) = false
    rw [hasBor_pure d h.1, hasBorL_pure r h.2]
    rfl
end
theorem pureL_of : ∀ {xs : List D}, (∀ d ∈ xs, d.pure = true) → pureL xs = true
  | [], _ => rfl
  | d :: r, h => by
    show (d.pure && pureL r) = true
    rw [h d List.mem_cons_self, pureL_of fun x hx => h x (List.mem_cons_of_mem _ hx)]
    rfl
theorem pureL_mem : ∀ {xs : List D}, pureL xs = true → ∀ d ∈ xs, d.pure = true
  | d :: r, h, x, hx => by
    have h : (d.pure && pureL r) = true := h
    rw [Bool.and_eq_true] at h
    rcases List.mem_cons.mp hx with e | e
    · rw [e]; exact h.1
    · exact pureL_mem h.2 x e
theorem frzL_eq : ∀ xs : List D, frzL xs = xs.map D.frz
  | [] => rfl
  | d :: r => by rw [frzL, frzL_eq r]; rfl
/-! ### what represents what -/
/-- the dict at a: its keys, its values -/
noncomputable def DictAt (H : Hp) (a : Addr) (k : Bool) (ks : List KT) (vs : List V) : Prop :=
  (k = false ∧ ∃ kvs : List (Key × V), H a = some (.dK kvs) ∧ ks = kvs.map (fun p => Sum.inl p.1) ∧ vs = kvs.map (·.2)) ∨
  (k = true ∧ ∃ kvs : List (List Key × V), H a = some (.dT kvs) ∧ ks = kvs.map (fun p => Sum.inr p.1) ∧ vs = kvs.map (·.2))
/-- an exception of the class at C stands at a -/
noncomputable def ExcAt (H : Hp) (a C : Addr) : Prop := ∃ (t : Addr) (tb : Value) (u : HO), H a = some (.frz { cls := .ref C, data := .fields #[.ref t, tb, .none, .none, .bool false, .none] } u)
mutual
noncomputable def Rep (K : PySem.W.Frag) (B : Hp) (S : Addr → Prop) (H : Hp) : D → V → List Addr → Prop
  | .non, v, fp => v = .non ∧ fp = []
  | .bl b, v, fp => v = .bl b ∧ fp = []
  | .int i, v, fp => v = .int i ∧ fp = []
  | .str x, v, fp => v = .str x ∧ fp = []
  | .exc x, v, fp => (∃ a, v = .ref a ∧ ExcAt H a x) ∧ fp = []
  | .tup xs, v, fp => ∃ a vs, v = .ref a ∧ H a = some (.tup vs) ∧ RepL K B S H xs vs fp
  | .lst .own xs, v, fp => ∃ a vs f, v = .ref a ∧ H a = some (.lst vs) ∧ RepL K B S H xs vs f ∧ fp = a :: f
  | .lst .bor xs, v, fp => ∃ a vs, v = .ref a ∧ ((S a ∧ SqL K H a vs) ∨ SqL K B a vs) ∧ RepL K B S H xs vs [] ∧ fp = []
  | .lst .frz xs, v, fp => ∃ a vs, v = .ref a ∧ SqL K B a vs ∧ RepL K B (fun _ => False) H xs vs [] ∧ fp = []
  | .dct .own k ks xs, v, fp => ∃ a vs f, v = .ref a ∧ DictAt H a k ks vs ∧ RepL K B S H xs vs f ∧ fp = a :: f
  | .dct .bor k ks xs, v, fp => ∃ a vs, v = .ref a ∧ ((S a ∧ DictAt H a k ks vs) ∨ DictAt B a k ks vs) ∧ RepL K B S H xs vs [] ∧ fp = []
  | .dct .frz k ks xs, v, fp => ∃ a vs, v = .ref a ∧ DictAt B a k ks vs ∧ RepL K B (fun _ => False) H xs vs [] ∧ fp = []
noncomputable def RepL (K : PySem.W.Frag) (B : Hp) (S : Addr → Prop) (H : Hp) : List D → List V → List Addr → Prop
  | [], vs, fp => vs = [] ∧ fp = []
  | d :: ds, vs, fp => ∃ v r f g, vs = v :: r ∧ Rep K B S H d v f ∧ RepL K B S H ds r g ∧ fp = f ++ g
end
theorem rd_mono {K : PySem.W.Frag} {H H' : Hp} (s : Same H H') {a : Addr} {xs : List V} (h : SqL K H a xs) : SqL K H' a xs := s.seq h
theorem DictAt.mono {H H' : Hp} (s : Same H H') {a : Addr} {k : Bool} {ks : List KT} {vs : List V} (h : DictAt H a k ks vs) : DictAt H' a k ks vs := by
  rcases h with ⟨z, kvs, h, r⟩ | ⟨z, kvs, h, r⟩
  · exact .inl ⟨z, kvs, s _ _ h, r⟩
  · exact .inr ⟨z, kvs, s _ _ h, r⟩
theorem ExcAt.mono {H H' : Hp} (s : Same H H') {a C : Addr} (h : ExcAt H a C) : ExcAt H' a C := let ⟨t, tb, u, h⟩ := h; ⟨t, tb, u, s _ _ h⟩
section
variable {K : PySem.W.Frag}
mutual
theorem Rep.mono {B B' H H' : Hp} {S S' : Addr → Prop} (sH : Same H H') (sB : Same B B') (sS : ∀ a, S a → S' a) : ∀ {d : D} {v : V} {fp : List Addr}, Rep K B S H d v fp → Rep K B' S' H' d v fp
  | .non, _, _, h => h
  | .bl _, _, _, h => h
  | .int _, _, _, h => h
  | .str _, _, _, h => h
  | .exc _, _, _, h => let ⟨⟨a, e, z⟩, r⟩ := h; ⟨⟨a, e, z.mono sH⟩, r⟩
  | .tup xs, v, fp, h => let ⟨a, vs, e, q, r⟩ := h; ⟨a, vs, e, sH _ _ q, RepL.mono sH sB sS r⟩
  | .lst .own xs, v, fp, h => let ⟨a, vs, f, e, q, r, z⟩ := h; ⟨a, vs, f, e, sH _ _ q, RepL.mono sH sB sS r, z⟩
  | .lst .bor xs, v, fp, h => let ⟨a, vs, e, q, r, z⟩ := h; ⟨a, vs, e, q.imp (fun y => ⟨sS _ y.1, rd_mono sH y.2⟩) (fun y => rd_mono sB y), RepL.mono sH sB sS r, z⟩
  | .lst .frz xs, v, fp, h => let ⟨a, vs, e, q, r, z⟩ := h; ⟨a, vs, e, rd_mono sB q, RepL.mono sH sB (fun _ x => x) r, z⟩
  | .dct .own k ks xs, v, fp, h => let ⟨a, vs, f, e, q, r, z⟩ := h; ⟨a, vs, f, e, q.mono sH, RepL.mono sH sB sS r, z⟩
  | .dct .bor k ks xs, v, fp, h => let ⟨a, vs, e, q, r, z⟩ := h; ⟨a, vs, e, q.imp (fun y => ⟨sS _ y.1, y.2.mono sH⟩) (fun y => y.mono sB), RepL.mono sH sB sS r, z⟩
  | .dct .frz k ks xs, v, fp, h => let ⟨a, vs, e, q, r, z⟩ := h; ⟨a, vs, e, q.mono sB, RepL.mono sH sB (fun _ x => x) r, z⟩
theorem RepL.mono {B B' H H' : Hp} {S S' : Addr → Prop} (sH : Same H H') (sB : Same B B') (sS : ∀ a, S a → S' a) : ∀ {ds : List D} {vs : List V} {fp : List Addr}, RepL K B S H ds vs fp → RepL K B' S' H' ds vs fp
  | [], _, _, h => h
  | d :: ds, vs, fp, h => let ⟨v, r, f, g, e, h1, h2, z⟩ := h; ⟨v, r, f, g, e, Rep.mono sH sB sS h1, RepL.mono sH sB sS h2, z⟩
end
theorem RepL.length {B H : Hp} {S : Addr → Prop} : ∀ {ds : List D} {vs : List V} {fp : List Addr}, RepL K B S H ds vs fp → ds.length = vs.length
  | [], _, _, h => by rw [h.1]; rfl
  | d :: ds, vs, fp, h => by
    obtain ⟨v, r, f, g, e, h1, h2, z⟩ := h
    rw [e, List.length_cons, List.length_cons, RepL.length h2]
theorem nil_of_append {f g : List Addr} (h : ([] : List Addr) = f ++ g) : f = [] ∧ g = [] := List.append_eq_nil_iff.mp h.symm
/-- an item of a list -/
theorem RepL.get {B H : Hp} {S : Addr → Prop} : ∀ {ds : List D} {vs : List V} {fp : List Addr} {i : Nat} {d : D}, RepL K B S H ds vs fp → ds[i]? = some d → ∃ v f, vs[i]? = some v ∧ Rep K B S H d v f ∧ List.Sublist f fp
  | [], _, _, i, _, _, e => by simp at e
  | d :: ds, vs, fp, 0, d', h, e => by
    obtain ⟨v, r, f, g, e1, h1, h2, z⟩ := h
    have e : d = d' := by simpa using e
    subst e e1 z
    exact ⟨v, f, rfl, h1, List.sublist_append_left _ _⟩
  | d :: ds, vs, fp, i + 1, d', h, e => by
    obtain ⟨v, r, f, g, e1, h1, h2, z⟩ := h
    subst e1 z
    obtain ⟨w, f', a1, a2, a3⟩ := RepL.get (i := i) h2 (by simpa using e)
    exact ⟨w, f', by simpa using a1, a2, a3.trans (List.sublist_append_right _ _)⟩
theorem RepL.append {B H : Hp} {S : Addr → Prop} : ∀ {xs ys : List D} {us vs : List V} {f g : List Addr}, RepL K B S H xs us f → RepL K B S H ys vs g → RepL K B S H (xs ++ ys) (us ++ vs) (f ++ g)
  | [], ys, us, vs, f, g, h, h' => by
    obtain ⟨rfl, rfl⟩ := h
    exact h'
  | d :: ds, ys, us, vs, f, g, h, h' => by
    obtain ⟨v, r, f1, f2, e1, h1, h2, z⟩ := h
    subst e1 z
    exact ⟨v, r ++ vs, f1, f2 ++ g, rfl, h1, RepL.append h2 h', by rw [List.append_assoc]⟩
theorem RepL.one {B H : Hp} {S : Addr → Prop} {d : D} {v : V} {f : List Addr} (h : Rep K B S H d v f) : RepL K B S H [d] [v] f := ⟨v, [], f, [], rfl, h, ⟨rfl, rfl⟩, (List.append_nil _).symm⟩
/-- a pure value holds no list -/
theorem pure_fp {B H : Hp} {S : Addr → Prop} : (∀ (d : D) {v : V} {fp : List Addr}, d.pure = true → Rep K B S H d v fp → fp = []) ∧ (∀ (ds : List D) {vs : List V} {fp : List Addr}, pureL ds = true → RepL K B S H ds vs fp → fp = []) := by
  refine ⟨fun d => ?_, fun ds => ?_⟩
  · exact D.rec (motive_1 := fun d => ∀ {v : V} {fp : List Addr}, d.pure = true → Rep K B S H d v fp → fp = []) (motive_2 := fun ds => ∀ {vs : List V} {fp : List Addr}, pureL ds = true → RepL K B S H ds vs fp → fp = [])
      (fun _ h => h.2) (fun _ _ _ _ h => h.2) (fun _ _ _ _ h => h.2) (fun _ _ _ _ h => h.2) (fun xs ih _ _ p h => let ⟨_, _, _, _, r⟩ := h; ih p r) (fun _ _ _ _ _ p => by cases p) (fun _ _ _ _ _ _ _ p => by cases p) (fun _ _ _ _ h => h.2) (fun _ h => h.2)
      (fun d r ih1 ih2 _ _ p h => by
        have p : (d.pure && pureL r) = true := p
        rw [Bool.and_eq_true] at p
        obtain ⟨_, _, _, _, _, h1, h2, z⟩ := h
        rw [z, ih1 p.1 h1, ih2 p.2 h2]; rfl) d
  · exact D.rec_1 (motive_1 := fun d => ∀ {v : V} {fp : List Addr}, d.pure = true → Rep K B S H d v fp → fp = []) (motive_2 := fun ds => ∀ {vs : List V} {fp : List Addr}, pureL ds = true → RepL K B S H ds vs fp → fp = [])
      (fun _ h => h.2) (fun _ _ _ _ h => h.2) (fun _ _ _ _ h => h.2) (fun _ _ _ _ h => h.2) (fun xs ih _ _ p h => let ⟨_, _, _, _, r⟩ := h; ih p r) (fun _ _ _ _ _ p => by cases p) (fun _ _ _ _ _ _ _ p => by cases p) (fun _ _ _ _ h => h.2) (fun _ h => h.2)
      (fun d r ih1 ih2 _ _ p h => by
        have p : (d.pure && pureL r) = true := p
        rw [Bool.and_eq_true] at p
        obtain ⟨_, _, _, _, _, h1, h2, z⟩ := h
        rw [z, ih1 p.1 h1, ih2 p.2 h2]; rfl) ds
end
end DL
set_option Elab.async false
set_option linter.all false
set_option maxRecDepth 100000
set_option maxHeartbeats 4000000
namespace DL
open PySem PySem.Spec PyProof.Rows L2
noncomputable abbrev No : Addr → Prop := fun _ => False
section
variable {K : PySem.W.Frag}
mutual
theorem Rep.view {B H : Hp} {S : Addr → Prop} : ∀ {d : D} {v : V} {fp : List Addr}, Rep K B No H d v fp → (∀ a ∈ fp, S a) → Rep K B S H d.view v []
  | .non, _, _, h, _ => ⟨h.1, rfl⟩
  | .bl _, _, _, h, _ => ⟨h.1, rfl⟩
  | .int _, _, _, h, _ => ⟨h.1, rfl⟩
  | .str _, _, _, h, _ => ⟨h.1, rfl⟩
  | .exc _, _, _, h, _ => ⟨h.1, rfl⟩
  | .tup xs, v, fp, h, hs => let ⟨a, vs, e, q, r⟩ := h; ⟨a, vs, e, q, RepL.view r hs⟩
  | .lst .own xs, v, fp, h, hs => by
    obtain ⟨a, vs, f, e, q, r, z⟩ := h
    subst z
    exact ⟨a, vs, e, .inl ⟨hs a List.mem_cons_self, SqL.of q⟩, RepL.view r fun b hb => hs b (List.mem_cons_of_mem _ hb), rfl⟩
  | .lst .bor xs, v, fp, h, hs => let ⟨a, vs, e, q, r, z⟩ := h; ⟨a, vs, e, .inr (q.resolve_left fun y => y.1), RepL.view r (fun _ x => by cases x), rfl⟩
  | .lst .frz xs, v, fp, h, hs => let ⟨a, vs, e, q, r, z⟩ := h; ⟨a, vs, e, q, RepL.view (S := No) r (fun _ x => by cases x), rfl⟩
  | .dct .own kd ks xs, v, fp, h, hs => by
    obtain ⟨a, vs, f, e, q, r, z⟩ := h
    subst z
    exact ⟨a, vs, e, .inl ⟨hs a List.mem_cons_self, q⟩, RepL.view r fun b hb => hs b (List.mem_cons_of_mem _ hb), rfl⟩
  | .dct .bor kd ks xs, v, fp, h, hs => let ⟨a, vs, e, q, r, z⟩ := h; ⟨a, vs, e, .inr (q.resolve_left fun y => y.1), RepL.view r (fun _ x => by cases x), rfl⟩
  | .dct .frz kd ks xs, v, fp, h, hs => let ⟨a, vs, e, q, r, z⟩ := h; ⟨a, vs, e, q, RepL.view (S := No) r (fun _ x => by cases x), rfl⟩
theorem RepL.view {B H : Hp} {S : Addr → Prop} : ∀ {ds : List D} {vs : List V} {fp : List Addr}, RepL K B No H ds vs fp → (∀ a ∈ fp, S a) → RepL K B S H (viewL ds) vs []
  | [], _, _, h, _ => ⟨h.1, rfl⟩
  | d :: ds, vs, fp, h, hs => by
    obtain ⟨v, r, f, g, e, h1, h2, z⟩ := h
    subst z
    exact ⟨v, r, [], [], e, Rep.view h1 (fun b hb => hs b (List.mem_append_left _ hb)), RepL.view h2 (fun b hb => hs b (List.mem_append_right _ hb)), rfl⟩
end
theorem sqL_to {B B' H : Hp} {S : Addr → Prop} {a : Addr} {vs : List V} (sB : Same B B') (hs : ∀ a o, S a → H a = some o → B' a = some o) (q : (S a ∧ SqL K H a vs) ∨ SqL K B a vs) : SqL K B' a vs := by
  rcases q with ⟨s, (q | ⟨o, q⟩) | q⟩ | q
  · exact .inl (.inl (hs _ _ s q))
  · exact .inl (.inr ⟨o, hs _ _ s q⟩)
  · exact .inr q
  · exact sB.seq q
theorem dictAt_to {B B' H : Hp} {S : Addr → Prop} {a : Addr} {kd : Bool} {ks : List KT} {vs : List V} (sB : Same B B') (hs : ∀ a o, S a → H a = some o → B' a = some o) (q : (S a ∧ DictAt H a kd ks vs) ∨ DictAt B a kd ks vs) : DictAt B' a kd ks vs := by
  rcases q with ⟨s, ⟨z, kvs, q, r⟩ | ⟨z, kvs, q, r⟩⟩ | q
  · exact .inl ⟨z, kvs, hs _ _ s q, r⟩
  · exact .inr ⟨z, kvs, hs _ _ s q, r⟩
  · exact q.mono sB
mutual
/-- all of it put to rest -/
theorem Rep.frz {B B' H : Hp} {S : Addr → Prop} (sB : Same B B') (hs : ∀ a o, S a → H a = some o → B' a = some o) : ∀ {d : D} {v : V} {fp : List Addr}, Rep K B S H d v fp → (∀ a ∈ fp, ∀ o, H a = some o → B' a = some o) → Rep K B' No H d.frz v []
  | .non, _, _, h, _ => ⟨h.1, rfl⟩
  | .bl _, _, _, h, _ => ⟨h.1, rfl⟩
  | .int _, _, _, h, _ => ⟨h.1, rfl⟩
  | .str _, _, _, h, _ => ⟨h.1, rfl⟩
  | .exc _, _, _, h, _ => ⟨h.1, rfl⟩
  | .tup xs, v, fp, h, hf => let ⟨a, vs, e, q, r⟩ := h; ⟨a, vs, e, q, RepL.frz sB hs r hf⟩
  | .lst .own xs, v, fp, h, hf => by
    obtain ⟨a, vs, f, e, q, r, z⟩ := h
    subst z
    exact ⟨a, vs, e, SqL.of (hf a List.mem_cons_self _ q), RepL.frz sB hs r fun b hb => hf b (List.mem_cons_of_mem _ hb), rfl⟩
  | .lst .bor xs, v, fp, h, hf => let ⟨a, vs, e, q, r, z⟩ := h; ⟨a, vs, e, sqL_to sB hs q, RepL.frz sB hs r (fun _ x => by cases x), rfl⟩
  | .lst .frz xs, v, fp, h, hf => let ⟨a, vs, e, q, r, z⟩ := h; ⟨a, vs, e, rd_mono sB q, RepL.frz sB (fun _ _ x => x.elim) r (fun _ x => by cases x), rfl⟩
  | .dct .own kd ks xs, v, fp, h, hf => by
    obtain ⟨a, vs, f, e, q, r, z⟩ := h
    subst z
    refine ⟨a, vs, e, ?_, RepL.frz sB hs r fun b hb => hf b (List.mem_cons_of_mem _ hb), rfl⟩
    exact dictAt_to (S := fun b => b = a) sB (fun b o eb => by rw [eb]; exact hf a List.mem_cons_self o) (.inl ⟨rfl, q⟩)
  | .dct .bor kd ks xs, v, fp, h, hf => let ⟨a, vs, e, q, r, z⟩ := h; ⟨a, vs, e, dictAt_to sB hs q, RepL.frz sB hs r (fun _ x => by cases x), rfl⟩
  | .dct .frz kd ks xs, v, fp, h, hf => let ⟨a, vs, e, q, r, z⟩ := h; ⟨a, vs, e, q.mono sB, RepL.frz sB (fun _ _ x => x.elim) r (fun _ x => by cases x), rfl⟩
theorem RepL.frz {B B' H : Hp} {S : Addr → Prop} (sB : Same B B') (hs : ∀ a o, S a → H a = some o → B' a = some o) : ∀ {ds : List D} {vs : List V} {fp : List Addr}, RepL K B S H ds vs fp → (∀ a ∈ fp, ∀ o, H a = some o → B' a = some o) → RepL K B' No H (frzL ds) vs []
  | [], _, _, h, _ => ⟨h.1, rfl⟩
  | d :: ds, vs, fp, h, hf => by
    obtain ⟨v, r, f, g, e, h1, h2, z⟩ := h
    subst z
    exact ⟨v, r, [], [], e, Rep.frz sB hs h1 (fun b hb => hf b (List.mem_append_left _ hb)), RepL.frz sB hs h2 (fun b hb => hf b (List.mem_append_right _ hb)), rfl⟩
end
theorem sqL_back {B B' H : Hp} {S : Addr → Prop} {a : Addr} {vs : List V} (sH : Same B H) (hb : ∀ a o, B a = some o → B' a = some o ∨ S a) (q : SqL K B a vs) : (S a ∧ SqL K H a vs) ∨ SqL K B' a vs := by
  rcases q with (q | ⟨o, q⟩) | q
  · exact (hb _ _ q).symm.imp (fun s => ⟨s, SqL.of (sH _ _ q)⟩) fun z => .inl (.inl z)
  · exact (hb _ _ q).symm.imp (fun s => ⟨s, .inl (.inr ⟨o, sH _ _ q⟩)⟩) fun z => .inl (.inr ⟨o, z⟩)
  · exact .inr (.inr q)
theorem dictAt_back {B B' H : Hp} {S : Addr → Prop} {a : Addr} {kd : Bool} {ks : List KT} {vs : List V} (sH : Same B H) (hb : ∀ a o, B a = some o → B' a = some o ∨ S a) (q : DictAt B a kd ks vs) : (S a ∧ DictAt H a kd ks vs) ∨ DictAt B' a kd ks vs := by
  rcases q with ⟨y, kvs, q, r⟩ | ⟨y, kvs, q, r⟩
  · exact (hb _ _ q).symm.imp (fun s => ⟨s, .inl ⟨y, kvs, sH _ _ q, r⟩⟩) fun z => .inl ⟨y, kvs, z, r⟩
  · exact (hb _ _ q).symm.imp (fun s => ⟨s, .inr ⟨y, kvs, sH _ _ q, r⟩⟩) fun z => .inr ⟨y, kvs, z, r⟩
mutual
/-- what was at rest for a callee may be owned by the caller -/
theorem Rep.toBor {B B' H : Hp} {S : Addr → Prop} (sH : Same B H) (hb : ∀ a o, B a = some o → B' a = some o ∨ S a) : ∀ {d : D} {v : V} {fp : List Addr}, Rep K B No H d v fp → Rep K B' S H d.toBor v fp
  | .non, _, _, h => h
  | .bl _, _, _, h => h
  | .int _, _, _, h => h
  | .str _, _, _, h => h
  | .exc _, _, _, h => h
  | .tup xs, v, fp, h => let ⟨a, vs, e, q, r⟩ := h; ⟨a, vs, e, q, RepL.toBor sH hb r⟩
  | .lst .own xs, v, fp, h => let ⟨a, vs, f, e, q, r, z⟩ := h; ⟨a, vs, f, e, q, RepL.toBor sH hb r, z⟩
  | .lst .bor xs, v, fp, h => let ⟨a, vs, e, q, r, z⟩ := h; ⟨a, vs, e, sqL_back sH hb (q.resolve_left fun y => y.1), RepL.toBor sH hb r, z⟩
  | .lst .frz xs, v, fp, h => let ⟨a, vs, e, q, r, z⟩ := h; ⟨a, vs, e, sqL_back sH hb q, RepL.toBor sH hb r, z⟩
  | .dct .own kd ks xs, v, fp, h => let ⟨a, vs, f, e, q, r, z⟩ := h; ⟨a, vs, f, e, q, RepL.toBor sH hb r, z⟩
  | .dct .bor kd ks xs, v, fp, h => let ⟨a, vs, e, q, r, z⟩ := h; ⟨a, vs, e, dictAt_back sH hb (q.resolve_left fun y => y.1), RepL.toBor sH hb r, z⟩
  | .dct .frz kd ks xs, v, fp, h => let ⟨a, vs, e, q, r, z⟩ := h; ⟨a, vs, e, dictAt_back sH hb q, RepL.toBor sH hb r, z⟩
theorem RepL.toBor {B B' H : Hp} {S : Addr → Prop} (sH : Same B H) (hb : ∀ a o, B a = some o → B' a = some o ∨ S a) : ∀ {ds : List D} {vs : List V} {fp : List Addr}, RepL K B No H ds vs fp → RepL K B' S H (toBorL ds) vs fp
  | [], _, _, h => h
  | d :: ds, vs, fp, h => let ⟨v, r, f, g, e, h1, h2, z⟩ := h; ⟨v, r, f, g, e, Rep.toBor sH hb h1, RepL.toBor sH hb h2, z⟩
end
mutual
/-- no look in it: it stands by itself -/
theorem Rep.noBor {B H : Hp} {S : Addr → Prop} : ∀ {d : D} {v : V} {fp : List Addr}, d.hasBor = false → Rep K B S H d v fp → Rep K B No H d v fp
  | .non, _, _, _, h => h
  | .bl _, _, _, _, h => h
  | .int _, _, _, _, h => h
  | .str _, _, _, _, h => h
  | .exc _, _, _, _, h => h
  | .tup xs, v, fp, p, h => let ⟨a, vs, e, q, r⟩ := h; ⟨a, vs, e, q, RepL.noBor (ds := xs) p r⟩
  | .lst .own xs, v, fp, p, h => let ⟨a, vs, f, e, q, r, z⟩ := h; ⟨a, vs, f, e, q, RepL.noBor (ds := xs) (by simpa [D.hasBor] using p) r, z⟩
  | .lst .bor xs, v, fp, p, h => by simp [D.hasBor] at p
  | .lst .frz xs, v, fp, p, h => h
  | .dct .own kd ks xs, v, fp, p, h => let ⟨a, vs, f, e, q, r, z⟩ := h; ⟨a, vs, f, e, q, RepL.noBor (ds := xs) (by simpa [D.hasBor] using p) r, z⟩
  | .dct .bor kd ks xs, v, fp, p, h => by simp [D.hasBor] at p
  | .dct .frz kd ks xs, v, fp, p, h => h
theorem RepL.noBor {B H : Hp} {S : Addr → Prop} : ∀ {ds : List D} {vs : List V} {fp : List Addr}, hasBorL ds = false → RepL K B S H ds vs fp → RepL K B No H ds vs fp
  | [], _, _, _, h => h
  | d :: ds, vs, fp, p, h => by
    obtain ⟨v, r, f, g, e, h1, h2, z⟩ := h
    have p : (d.hasBor || hasBorL ds) = false := p
    rw [Bool.or_eq_false_iff] at p
    exact ⟨v, r, f, g, e, Rep.noBor p.1 h1, RepL.noBor p.2 h2, z⟩
end
/-- a thing that may be written -/
noncomputable def mutO : HO → Prop
  | .lst _ => True
  | .dK _ => True
  | .dT _ => True
  | _ => False
/-- only what is in M was written -/
structure Keep (H H' : Hp) (M : List Addr) : Prop where
  keep : ∀ a o, H a = some o → a ∉ M → H' a = some o
  muts : ∀ a ∈ M, ∃ o, H a = some o ∧ mutO o
theorem Keep.imm {H H' : Hp} {M : List Addr} (k : Keep H H' M) {a : Addr} {o : HO} (h : H a = some o) (n : ¬ mutO o) : H' a = some o := k.keep a o h fun m => by
  obtain ⟨u, e, z⟩ := k.muts a m
  rw [h] at e
  cases e
  exact n z
mutual
theorem Rep.keep {B H H' : Hp} {M : List Addr} (k : Keep H H' M) : ∀ {d : D} {v : V} {fp : List Addr}, Rep K B No H d v fp → (∀ a ∈ fp, a ∉ M) → Rep K B No H' d v fp
  | .non, _, _, h, _ => h
  | .bl _, _, _, h, _ => h
  | .int _, _, _, h, _ => h
  | .str _, _, _, h, _ => h
  | .exc _, _, _, h, _ => let ⟨⟨a, e, t, tb, u, h1⟩, r⟩ := h; ⟨⟨a, e, t, tb, u, k.imm h1 (fun x => x)⟩, r⟩
  | .tup xs, v, fp, h, hf => by
    obtain ⟨a, vs, e, q, r⟩ := h
    exact ⟨a, vs, e, k.imm q (fun x => x), RepL.keep k r hf⟩
  | .lst .own xs, v, fp, h, hf => by
    obtain ⟨a, vs, f, e, q, r, z⟩ := h
    subst z
    exact ⟨a, vs, f, e, k.keep _ _ q (hf a List.mem_cons_self), RepL.keep k r fun b hb => hf b (List.mem_cons_of_mem _ hb), rfl⟩
  | .lst .bor xs, v, fp, h, hf => let ⟨a, vs, e, q, r, z⟩ := h; ⟨a, vs, e, .inr (q.resolve_left fun y => y.1), RepL.keep k r (fun _ x => by cases x), z⟩
  | .lst .frz xs, v, fp, h, hf => let ⟨a, vs, e, q, r, z⟩ := h; ⟨a, vs, e, q, RepL.keep k r (fun _ x => by cases x), z⟩
  | .dct .own kd ks xs, v, fp, h, hf => by
    obtain ⟨a, vs, f, e, q, r, z⟩ := h
    subst z
    have hm := hf a List.mem_cons_self
    refine ⟨a, vs, f, e, ?_, RepL.keep k r fun b hb => hf b (List.mem_cons_of_mem _ hb), rfl⟩
    rcases q with ⟨y, kvs, q, w⟩ | ⟨y, kvs, q, w⟩
    · exact .inl ⟨y, kvs, k.keep _ _ q hm, w⟩
    · exact .inr ⟨y, kvs, k.keep _ _ q hm, w⟩
  | .dct .bor kd ks xs, v, fp, h, hf => let ⟨a, vs, e, q, r, z⟩ := h; ⟨a, vs, e, .inr (q.resolve_left fun y => y.1), RepL.keep k r (fun _ x => by cases x), z⟩
  | .dct .frz kd ks xs, v, fp, h, hf => let ⟨a, vs, e, q, r, z⟩ := h; ⟨a, vs, e, q, RepL.keep k r (fun _ x => by cases x), z⟩
theorem RepL.keep {B H H' : Hp} {M : List Addr} (k : Keep H H' M) : ∀ {ds : List D} {vs : List V} {fp : List Addr}, RepL K B No H ds vs fp → (∀ a ∈ fp, a ∉ M) → RepL K B No H' ds vs fp
  | [], _, _, h, _ => h
  | d :: ds, vs, fp, h, hf => by
    obtain ⟨v, r, f, g, e, h1, h2, z⟩ := h
    subst z
    exact ⟨v, r, f, g, e, Rep.keep k h1 (fun b hb => hf b (List.mem_append_left _ hb)), RepL.keep k h2 (fun b hb => hf b (List.mem_append_right _ hb)), rfl⟩
end
mutual
/-- what is owned stands and may be written -/
theorem Rep.own {B H : Hp} {S : Addr → Prop} : ∀ {d : D} {v : V} {fp : List Addr}, Rep K B S H d v fp → ∀ a ∈ fp, ∃ o, H a = some o ∧ mutO o
  | .non, _, _, h => by rw [h.2]; intro a m; cases m
  | .bl _, _, _, h => by rw [h.2]; intro a m; cases m
  | .int _, _, _, h => by rw [h.2]; intro a m; cases m
  | .str _, _, _, h => by rw [h.2]; intro a m; cases m
  | .exc _, _, _, h => by rw [h.2]; intro a m; cases m
  | .tup xs, v, fp, h => let ⟨a, vs, e, q, r⟩ := h; RepL.own r
  | .lst .own xs, v, fp, h => by
    obtain ⟨a, vs, f, e, q, r, z⟩ := h
    subst z
    intro b hb
    rcases List.mem_cons.mp hb with e | e
    · subst e; exact ⟨_, q, trivial⟩
    · exact RepL.own r b e
  | .lst .bor xs, v, fp, h => by obtain ⟨a, vs, e, q, r, z⟩ := h; rw [z]; intro a m; cases m
  | .lst .frz xs, v, fp, h => by obtain ⟨a, vs, e, q, r, z⟩ := h; rw [z]; intro a m; cases m
  | .dct .own kd ks xs, v, fp, h => by
    obtain ⟨a, vs, f, e, q, r, z⟩ := h
    subst z
    intro b hb
    rcases List.mem_cons.mp hb with e | e
    · subst e
      rcases q with ⟨y, kvs, q, w⟩ | ⟨y, kvs, q, w⟩
      · exact ⟨_, q, trivial⟩
      · exact ⟨_, q, trivial⟩
    · exact RepL.own r b e
  | .dct .bor kd ks xs, v, fp, h => by obtain ⟨a, vs, e, q, r, z⟩ := h; rw [z]; intro a m; cases m
  | .dct .frz kd ks xs, v, fp, h => by obtain ⟨a, vs, e, q, r, z⟩ := h; rw [z]; intro a m; cases m
theorem RepL.own {B H : Hp} {S : Addr → Prop} : ∀ {ds : List D} {vs : List V} {fp : List Addr}, RepL K B S H ds vs fp → ∀ a ∈ fp, ∃ o, H a = some o ∧ mutO o
  | [], _, _, h => by rw [h.2]; intro a m; cases m
  | d :: ds, vs, fp, h => by
    obtain ⟨v, r, f, g, e, h1, h2, z⟩ := h
    subst z
    intro b hb
    rcases List.mem_append.mp hb with e | e
    · exact Rep.own h1 b e
    · exact RepL.own h2 b e
end
/-! ### the state of a body: H0 the heap at the entry, B0 what of it may be met; B what is at rest; P what the names own; F what is held besides -/
noncomputable def RepS (K : PySem.W.Frag) (B H : Hp) : SD → L2.St → List Addr → Prop
  | [], σ, P => σ = [] ∧ P = []
  | none :: r, σ, P => ∃ o τ, σ = o :: τ ∧ RepS K B H r τ P
  | some d :: r, σ, P => ∃ v τ f g, σ = some v :: τ ∧ Rep K B No H d v f ∧ RepS K B H r τ g ∧ P = f ++ g
structure SI (K : PySem.W.Frag) (H0 B0 B H : Hp) (σ : L2.St) (τ : SD) (P : List Addr) (F : Addr → Prop) : Prop where
  bh : Same B H
  h0 : Same H0 H
  b0 : Same B0 B
  nb : ∀ a, B a ≠ none → B0 a ≠ none ∨ H0 a = none
  rep : RepS K B H τ σ P
  nd : P.Nodup
  own : ∀ a ∈ P, B a = none ∧ H0 a = none ∧ ¬ F a
  fr : ∀ a, F a → B a = none ∧ H a ≠ none
/-- what a value owns -/
structure Vok (H0 B H : Hp) (P : List Addr) (F : Addr → Prop) (fp : List Addr) : Prop where
  nd : fp.Nodup
  own : ∀ a ∈ fp, B a = none ∧ H0 a = none ∧ H a ≠ none ∧ a ∉ P ∧ ¬ F a
theorem Vok.nil {H0 B H : Hp} {P : List Addr} {F : Addr → Prop} : Vok H0 B H P F [] := ⟨List.nodup_nil, fun a m => by cases m⟩
theorem Vok.sub {H0 B H : Hp} {P : List Addr} {F : Addr → Prop} {fp fq : List Addr} (h : Vok H0 B H P F fp) (s : List.Sublist fq fp) : Vok H0 B H P F fq := ⟨h.nd.sublist s, fun a m => h.own a (s.subset m)⟩
theorem RepS.own {B H : Hp} : ∀ {τ : SD} {σ : L2.St} {P : List Addr}, RepS K B H τ σ P → ∀ a ∈ P, ∃ o, H a = some o ∧ mutO o
  | [], _, _, h => by rw [h.2]; intro a m; cases m
  | none :: r, σ, P, h => by obtain ⟨o, τ, e, h⟩ := h; exact RepS.own h
  | some d :: r, σ, P, h => by
    obtain ⟨v, τ, f, g, e, h1, h2, z⟩ := h
    subst z
    intro b hb
    rcases List.mem_append.mp hb with e | e
    · exact Rep.own h1 b e
    · exact RepS.own h2 b e
theorem RepS.mono {B B' H H' : Hp} (sH : Same H H') (sB : Same B B') : ∀ {τ : SD} {σ : L2.St} {P : List Addr}, RepS K B H τ σ P → RepS K B' H' τ σ P
  | [], _, _, h => h
  | none :: r, σ, P, h => let ⟨o, τ, e, h⟩ := h; ⟨o, τ, e, RepS.mono sH sB h⟩
  | some d :: r, σ, P, h => let ⟨v, τ, f, g, e, h1, h2, z⟩ := h; ⟨v, τ, f, g, e, Rep.mono sH sB (fun _ x => x) h1, RepS.mono sH sB h2, z⟩
theorem RepS.get {B H : Hp} : ∀ {τ : SD} {σ : L2.St} {P : List Addr} {i : Nat} {d : D}, RepS K B H τ σ P → τ[i]? = some (some d) → ∃ v f, σ[i]? = some (some v) ∧ Rep K B No H d v f ∧ List.Sublist f P
  | [], _, _, i, _, _, e => by simp at e
  | none :: r, σ, P, 0, d, h, e => by simp at e
  | none :: r, σ, P, i + 1, d, h, e => by
    obtain ⟨o, τ, e1, h⟩ := h
    subst e1
    obtain ⟨v, f, a1, a2, a3⟩ := RepS.get (i := i) h (by simpa using e)
    exact ⟨v, f, by simpa using a1, a2, a3⟩
  | some d :: r, σ, P, 0, d', h, e => by
    obtain ⟨v, τ, f, g, e1, h1, h2, z⟩ := h
    have e : d = d' := by simpa using e
    subst e e1 z
    exact ⟨v, f, rfl, h1, List.sublist_append_left _ _⟩
  | some d :: r, σ, P, i + 1, d', h, e => by
    obtain ⟨v, τ, f, g, e1, h1, h2, z⟩ := h
    subst e1 z
    obtain ⟨w, f', a1, a2, a3⟩ := RepS.get (i := i) h2 (by simpa using e)
    exact ⟨w, f', by simpa using a1, a2, a3.trans (List.sublist_append_right _ _)⟩
variable {H0 B0 B H : Hp} {σ : L2.St} {τ : SD} {P : List Addr} {F : Addr → Prop}
theorem SI.stands (I : SI K H0 B0 B H σ τ P F) {a : Addr} (h : a ∈ P) : H a ≠ none := by
  obtain ⟨o, e, _⟩ := I.rep.own a h
  rw [e]; exact fun z => by cases z
theorem SI.anti {F' : Addr → Prop} (I : SI K H0 B0 B H σ τ P F) (h : ∀ a, F' a → F a) : SI K H0 B0 B H σ τ P F' :=
  ⟨I.bh, I.h0, I.b0, I.nb, I.rep, I.nd, fun a m => let ⟨x, y, z⟩ := I.own a m; ⟨x, y, fun q => z (h a q)⟩, fun a m => I.fr a (h a m)⟩
/-- the frame with a value's own beside -/
theorem SI.hold {fp : List Addr} (I : SI K H0 B0 B H σ τ P F) (v : Vok H0 B H P F fp) : SI K H0 B0 B H σ τ P (fun a => a ∈ fp ∨ F a) :=
  ⟨I.bh, I.h0, I.b0, I.nb, I.rep, I.nd, fun a m => let ⟨x, y, z⟩ := I.own a m; ⟨x, y, fun q => q.elim (fun r => (v.own a r).2.2.2.1 m) z⟩, fun a m => m.elim (fun r => ⟨(v.own a r).1, (v.own a r).2.2.1⟩) (I.fr a)⟩
/-- the heap grows -/
theorem SI.grow {H' : Hp} (I : SI K H0 B0 B H σ τ P F) (s : Same H H') : SI K H0 B0 B H' σ τ P F :=
  ⟨I.bh.trans s, I.h0.trans s, I.b0, I.nb, I.rep.mono s (fun _ _ x => x), I.nd, I.own, fun a m => ⟨(I.fr a m).1, fun z => (I.fr a m).2 (s.free z)⟩⟩
theorem Vok.grow {H' B' : Hp} {fp : List Addr} (v : Vok H0 B H P F fp) (s : Same H H') (hb : ∀ a ∈ fp, B' a = none) : Vok H0 B' H' P F fp :=
  ⟨v.nd, fun a m => let ⟨x, y, z, p, q⟩ := v.own a m; ⟨hb a m, y, fun n => z (s.free n), p, q⟩⟩
/-- a new address -/
theorem SI.newAt (I : SI K H0 B0 B H σ τ P F) {p : Addr} (h : H p = none) : B p = none ∧ H0 p = none ∧ p ∉ P ∧ ¬ F p :=
  ⟨I.bh.free h, I.h0.free h, fun m => I.stands m h, fun m => (I.fr p m).2 h⟩
end
end DL
set_option Elab.async false
set_option linter.all false
set_option maxRecDepth 100000
set_option maxHeartbeats 4000000
/-! ### readings by deep values -/
namespace DL
open PySem PySem.Spec PyProof.Rows L2
theorem ex8 {α β γ δ ε ζ : Sort _} {p q : α → β → γ → δ → ε → ζ → Prop} {C : Prop} (h : ∃ a b c d e f, p a b c d e f ∧ q a b c d e f) (k : ∀ a b c d e f, p a b c d e f → q a b c d e f → C) : C := h.elim fun a h => h.elim fun b h => h.elim fun c h => h.elim fun d h => h.elim fun e h => h.elim fun f h => k a b c d e f h.1 h.2
theorem ex7 {α β γ δ ε : Sort _} {p q : α → β → γ → δ → ε → Prop} {C : Prop} (h : ∃ a b c d e, p a b c d e ∧ q a b c d e) (k : ∀ a b c d e, p a b c d e → q a b c d e → C) : C := h.elim fun a h => h.elim fun b h => h.elim fun c h => h.elim fun d h => h.elim fun e h => k a b c d e h.1 h.2
theorem ex12 {α β γ δ ε ζ η θ : Sort _} {p q r s : α → β → γ → δ → ε → ζ → η → θ → Prop} {C : Prop} (h : ∃ a b c d e f g i, p a b c d e f g i ∧ q a b c d e f g i ∧ r a b c d e f g i ∧ s a b c d e f g i) (k : ∀ a b c d e f g i, p a b c d e f g i → q a b c d e f g i → r a b c d e f g i → s a b c d e f g i → C) : C := h.elim fun a h => h.elim fun b h => h.elim fun c h => h.elim fun d h => h.elim fun e h => h.elim fun f h => h.elim fun g h => h.elim fun i h => k a b c d e f g i h.1 h.2.1 h.2.2.1 h.2.2.2
/-- what is wanted of an exception: its class, the names, the heap -/
noncomputable abbrev XY := Addr → L2.St → Hp → Prop
section
variable (K : PySem.W.Frag) (Y : XY) (H0 B0 B H : Hp) (σ : L2.St) (τ : SD) (P : List Addr) (F : Addr → Prop)
noncomputable def Out (Q : VK) (d : D) : Prop := ∀ v H' B' fp, SI K H0 B0 B' H' σ τ P F → Same H H' → Same B B' → Rep K B' (· ∈ P) H' d v fp → Vok H0 B' H' P F fp → Q v H'
noncomputable def OutX (C : Addr) : Prop := ∀ H' B', SI K H0 B0 B' H' σ τ P F → Same H H' → Same B B' → Y C σ H'
noncomputable def OutL (Q : List V → Hp → Prop) (ds : List D) : Prop := ∀ vs H' B' fp, SI K H0 B0 B' H' σ τ P F → Same H H' → Same B B' → RepL K B' (· ∈ P) H' ds vs fp → Vok H0 B' H' P F fp → Q vs H'
noncomputable def OutB (Q : Bool → Hp → Prop) (b : Bool) : Prop := ∀ H' B', SI K H0 B0 B' H' σ τ P F → Same H H' → Same B B' → Q b H'
noncomputable def Goal (Q : VK) : Res D → Prop
  | .ok d => Out K H0 B0 B H σ τ P F Q d
  | .exn C => OutX K Y H0 B0 B H σ τ P F C
  | .bad => False
noncomputable def GoalL (Q : List V → Hp → Prop) : Res (List D) → Prop
  | .ok d => OutL K H0 B0 B H σ τ P F Q d
  | .exn C => OutX K Y H0 B0 B H σ τ P F C
  | .bad => False
noncomputable def GoalB (Q : Bool → Hp → Prop) : Res Bool → Prop
  | .ok d => OutB K H0 B0 B H σ τ P F Q d
  | .exn C => OutX K Y H0 B0 B H σ τ P F C
  | .bad => False
end
noncomputable def tM (K : PySem.W.Frag) (Y : XY) (f : SD → Res D) : TE := fun σ H Q => ∃ H0 B0 B τ P F, SI K H0 B0 B H σ τ P F ∧ Goal K Y H0 B0 B H σ τ P F Q (f τ)
noncomputable def tML (K : PySem.W.Frag) (Y : XY) (f : SD → Res (List D)) : TA := fun σ H Q => ∃ H0 B0 B τ P F, SI K H0 B0 B H σ τ P F ∧ GoalL K Y H0 B0 B H σ τ P F Q (f τ)
noncomputable def tMB (K : PySem.W.Frag) (Y : XY) (f : SD → Res Bool) : TT := fun σ H Q => ∃ H0 B0 B τ P F, SI K H0 B0 B H σ τ P F ∧ GoalB K Y H0 B0 B H σ τ P F Q (f τ)
section
variable {K : PySem.W.Frag} {Y : XY} {H0 B0 B H : Hp} {σ : L2.St} {τ : SD} {P : List Addr} {F : Addr → Prop}
theorem OutX.later {H1 B1 : Hp} {F' : Addr → Prop} {C : Addr} (h : OutX K Y H0 B0 B H σ τ P F C) (sH : Same H H1) (sB : Same B B1) (hF : ∀ a, F a → F' a) : OutX K Y H0 B0 B1 H1 σ τ P F' C :=
  fun H' B' I s b => h H' B' (I.anti hF) (sH.trans s) (sB.trans b)
theorem Out.later {H1 B1 : Hp} {Q : VK} {d : D} (h : Out K H0 B0 B H σ τ P F Q d) (sH : Same H H1) (sB : Same B B1) : Out K H0 B0 B1 H1 σ τ P F Q d :=
  fun v H' B' fp I s b r k => h v H' B' fp I (sH.trans s) (sB.trans b) r k
theorem Goal.later {H1 B1 : Hp} {Q : VK} {r : Res D} (h : Goal K Y H0 B0 B H σ τ P F Q r) (sH : Same H H1) (sB : Same B B1) : Goal K Y H0 B0 B1 H1 σ τ P F Q r := by
  cases r with
  | ok d => exact Out.later h sH sB
  | exn C => exact OutX.later h sH sB fun _ x => x
  | bad => exact h
/-- a value that owns nothing, the heap as it is -/
theorem Out.here {Q : VK} {d : D} {v : V} (h : Out K H0 B0 B H σ τ P F Q d) (I : SI K H0 B0 B H σ τ P F) (r : Rep K B (· ∈ P) H d v []) : Q v H := h v H B [] I (Same.refl _) (Same.refl _) r Vok.nil
/-- a value that owns what was owned -/
theorem Out.hereO {Q : VK} {d : D} {v : V} {fp : List Addr} (h : Out K H0 B0 B H σ τ P F Q d) (I : SI K H0 B0 B H σ τ P F) (r : Rep K B (· ∈ P) H d v fp) (k : Vok H0 B H P F fp) : Q v H := h v H B fp I (Same.refl _) (Same.refl _) r k
theorem sameUpd' {p : Addr} {o : HO} (h : H p = none) : Same H (upd H p o) := fun b u e => by
  rw [upd_ne (ne_of_none e h)]; exact e
/-- a new list -/
theorem Out.newL {Q : VK} {ds : List D} {vs : List V} {fp : List Addr} {p : Addr} (h : Out K H0 B0 B H σ τ P F Q (.lst .own ds)) (I : SI K H0 B0 B H σ τ P F) (r : RepL K B (· ∈ P) H ds vs fp) (k : Vok H0 B H P F fp) (hp : H p = none) : Q (.ref p) (upd H p (.lst vs)) := by
  have s := sameUpd' (o := .lst vs) hp
  obtain ⟨n1, n2, n3, n4⟩ := I.newAt hp
  refine h (.ref p) _ B (p :: fp) (I.grow s) s (Same.refl _) ⟨p, vs, fp, rfl, upd_same, r.mono s (Same.refl _) (fun _ x => x), rfl⟩ ⟨List.nodup_cons.mpr ⟨fun m => (k.own p m).2.2.1 hp, k.nd⟩, fun a m => ?_⟩
  rcases List.mem_cons.mp m with e | e
  · subst e
    exact ⟨n1, n2, (by rw [upd_same]; exact Option.some_ne_none _), n3, n4⟩
  · obtain ⟨a1, a2, a3, a4, a5⟩ := k.own a e
    exact ⟨a1, a2, fun z => a3 (s.free z), a4, a5⟩
/-- a new tuple -/
theorem Out.newT {Q : VK} {ds : List D} {vs : List V} {fp : List Addr} {p : Addr} (h : Out K H0 B0 B H σ τ P F Q (.tup ds)) (I : SI K H0 B0 B H σ τ P F) (r : RepL K B (· ∈ P) H ds vs fp) (k : Vok H0 B H P F fp) (hp : H p = none) : Q (.ref p) (upd H p (.tup vs)) := by
  have s := sameUpd' (o := .tup vs) hp
  exact h (.ref p) _ B fp (I.grow s) s (Same.refl _) ⟨p, vs, rfl, upd_same, r.mono s (Same.refl _) (fun _ x => x)⟩ (k.grow s fun a m => (k.own a m).1)
/-- behind a second value the first one is still there -/
theorem Vok.both {H1 B1 : Hp} {f g : List Addr} (k : Vok H0 B H P F f) (sH : Same H H1) (I1 : SI K H0 B0 B1 H1 σ τ P (fun a => a ∈ f ∨ F a)) (k' : Vok H0 B1 H1 P (fun a => a ∈ f ∨ F a) g) : Vok H0 B1 H1 P F (f ++ g) := by
  refine ⟨List.nodup_append.mpr ⟨k.nd, k'.nd, fun a ha b hb e => ?_⟩, fun a m => ?_⟩
  · subst e
    exact (k'.own a hb).2.2.2.2 (.inl ha)
  · rcases List.mem_append.mp m with e | e
    · obtain ⟨a1, a2, a3, a4, a5⟩ := k.own a e
      exact ⟨(I1.fr a (.inl e)).1, a2, (I1.fr a (.inl e)).2, a4, a5⟩
    · obtain ⟨a1, a2, a3, a4, a5⟩ := k'.own a e
      exact ⟨a1, a2, a3, a4, fun z => a5 (.inr z)⟩
theorem Vok.left {f g : List Addr} (k : Vok H0 B H P F (f ++ g)) : Vok H0 B H P F f := k.sub (List.sublist_append_left _ _)
theorem Vok.right {f g : List Addr} (k : Vok H0 B H P F (f ++ g)) : Vok H0 B H P F g := k.sub (List.sublist_append_right _ _)
theorem PE.imp {X : Cx} {e : Expr} {t t' : TE} (h : PE X e t) (hi : ∀ σ H Q, t' σ H Q → t σ H Q) : PE X e t' := fun pins s σ H Q I hw => h pins s σ H Q I (hi σ H Q hw)
theorem PT.imp {X : Cx} {e : Expr} {t t' : TT} (h : PT X e t) (hi : ∀ σ H Q, t' σ H Q → t σ H Q) : PT X e t' := fun pins s σ H Q I hw => h pins s σ H Q I (hi σ H Q hw)
theorem PA.imp {X : Cx} {es : List Expr} {t t' : TA} (h : PA X es t) (hi : ∀ σ H Q, t' σ H Q → t σ H Q) : PA X es t' := fun pos pins s σ H Q I hw => h pos pins s σ H Q I (hi σ H Q hw)
theorem PS.imp {X : Cx} {st : Stmt} {t t' : TS} (h : PS X st t) (hi : ∀ E σ H, t' E σ H → t E σ H) : PS X st t' := fun pins s σ H E I hw => h pins s σ H E I (hi E σ H hw)
theorem PSs.imp {X : Cx} {st : List Stmt} {t t' : TS} (h : PSs X st t) (hi : ∀ E σ H, t' E σ H → t E σ H) : PSs X st t' := fun pins s σ H E I hw => h pins s σ H E I (hi E σ H hw)
/-! sequencing -/
theorem tM.seq {f : SD → Res D} {Q' : V → Hp → Prop} {g : D → Res D} {Q : VK} (I : SI K H0 B0 B H σ τ P F) (h : Goal K Y H0 B0 B H σ τ P F Q ((f τ).bind g))
    (k : ∀ d v H1 B1 fp, f τ = .ok d → SI K H0 B0 B1 H1 σ τ P F → Same H H1 → Same B B1 → Rep K B1 (· ∈ P) H1 d v fp → Vok H0 B1 H1 P F fp → Goal K Y H0 B0 B1 H1 σ τ P F Q (g d) → Q' v H1) : tM K Y f σ H Q' := by
  refine ⟨H0, B0, B, τ, P, F, I, ?_⟩
  cases e : f τ with
  | ok d =>
    rw [e] at h
    intro v H1 B1 fp I1 s1 b1 r1 k1
    exact k d v H1 B1 fp e I1 s1 b1 r1 k1 (Goal.later h s1 b1)
  | exn C => rw [e] at h; exact h
  | bad => rw [e] at h; exact h
/-- two values -/
theorem tM.seq2 {f1 f2 : SD → Res D} {Q' : V → V → Hp → Prop} {g : D → D → Res D} {Q : VK} (I : SI K H0 B0 B H σ τ P F) (h : Goal K Y H0 B0 B H σ τ P F Q ((f1 τ).bind fun x => (f2 τ).bind (g x)))
    (k : ∀ d1 d2 v1 v2 H2 B2 fp1 fp2, f1 τ = .ok d1 → f2 τ = .ok d2 → SI K H0 B0 B2 H2 σ τ P F → Same H H2 → Same B B2 → Rep K B2 (· ∈ P) H2 d1 v1 fp1 → Rep K B2 (· ∈ P) H2 d2 v2 fp2 → Vok H0 B2 H2 P F (fp1 ++ fp2) → Goal K Y H0 B0 B2 H2 σ τ P F Q (g d1 d2) → Q' v1 v2 H2) :
    tM K Y f1 σ H fun x H1 => tM K Y f2 σ H1 fun y H2 => Q' x y H2 := by
  refine tM.seq (g := fun x => (f2 τ).bind (g x)) I h fun d1 v1 H1 B1 fp1 e1 I1 s1 b1 r1 k1 h1 => ?_
  refine ⟨H0, B0, B1, τ, P, _, I1.hold k1, ?_⟩
  cases e : f2 τ with
  | ok d2 =>
    rw [e] at h1
    intro v2 H2 B2 fp2 I2 s2 b2 r2 k2
    exact k d1 d2 v1 v2 H2 B2 fp1 fp2 e1 e (I2.anti fun a x => .inr x) (s1.trans s2) (b1.trans b2) (r1.mono s2 b2 fun _ x => x) r2 (k1.both s2 I2 k2) (Goal.later h1 s2 b2)
  | exn C =>
    rw [e] at h1
    exact OutX.later h1 (Same.refl _) (Same.refl _) fun a x => .inr x
  | bad => rw [e] at h1; exact h1
/-! names, constants -/
noncomputable def eVar (i : Nat) (τ : SD) : Res D := match τ[i]? with
  | some (some d) => .ok d.view
  | _ => .bad
noncomputable def eC (d : D) (_ : SD) : Res D := .ok d
theorem qv {X : Cx} (i : Nat) {x : Str} {pos : Pos} (hN : X.N[i]? = some x := by rfl) (hv : Vis X.env.scope x := by first | exact Or.inl rfl | exact Or.inr (Or.inl rfl) | exact Or.inr (Or.inr rfl)) (hd : (x == ("__debug__" : Str)) = false := by decide)
    (hcd : (x == ("__classdict__" : Str)) = false := by decide) : PE X (.Name x pos) (tM X.K Y (eVar i)) := by
  refine PE.imp (pe_var hN hv hd hcd) ?_
  rintro σ H Q ⟨H0, B0, B, τ, P, F, I, h⟩
  unfold eVar at h
  cases e : τ[i]? with
  | none => rw [e] at h; exact h.elim
  | some o =>
    cases o with
    | none => rw [e] at h; exact h.elim
    | some d =>
      rw [e] at h
      obtain ⟨v, f, h1, h2, h3⟩ := I.rep.get e
      exact ⟨v, h1, Out.here h I (h2.view fun a m => h3.subset m)⟩
theorem qc {X : Cx} {e : Expr} {d : D} {v : V} (h : PE X e (tC v)) (hr : ∀ K B S H, Rep K B S H d v []) : PE X e (tM X.K Y (eC d)) := PE.imp h fun σ H Q hq => ex8 hq fun H0 B0 B τ P F I h => Out.here h I (hr _ _ _ _)
theorem q_int {X : Cx} {i : Int} {j pos} : PE X (.Constant (.int i) j pos) (tM X.K Y (eC (.int i))) := qc pe_int fun _ _ _ _ => ⟨rfl, rfl⟩
theorem q_bl {X : Cx} {b : Bool} {j pos} : PE X (.Constant (.bool b) j pos) (tM X.K Y (eC (.bl b))) := qc pe_bl fun _ _ _ _ => ⟨rfl, rfl⟩
theorem q_non {X : Cx} {j pos} : PE X (.Constant .none j pos) (tM X.K Y (eC .non)) := qc pe_non fun _ _ _ _ => ⟨rfl, rfl⟩
theorem q_str {X : Cx} {x : Str} {j pos} : PE X (.Constant (.str x) j pos) (tM X.K Y (eC (.str x))) := qc pe_str fun _ _ _ _ => ⟨rfl, rfl⟩
theorem q_gint {X : Cx} {x : Str} {i : Int} {pos : Pos} (hg : Gl X x) (hm : ∃ t, X.mg x = some (.int i t)) (hd : (x == ("__debug__" : Str)) = false := by decide) : PE X (.Name x pos) (tM X.K Y (eC (.int i))) :=
  qc (pe_glob (v := .int i) hg hm.choose_spec ⟨_, rfl⟩ hd) fun _ _ _ _ => ⟨rfl, rfl⟩
/-! operations of two values -/
noncomputable def OpD (K : PySem.W.Frag) (Y : XY) (r : R2) (g : D → D → Res D) : Prop := ∀ {H0 B0 B H : Hp} {σ : L2.St} {τ : SD} {P : List Addr} {F : Addr → Prop} {d1 d2 : D} {x y : V} {f1 f2 : List Addr} {Q : VK},
  SI K H0 B0 B H σ τ P F → Rep K B (· ∈ P) H d1 x f1 → Rep K B (· ∈ P) H d2 y f2 → Vok H0 B H P F (f1 ++ f2) → Goal K Y H0 B0 B H σ τ P F Q (g d1 d2) → r x y H Q
noncomputable def eBin (g : D → D → Res D) (a b : SD → Res D) (τ : SD) : Res D := (a τ).bind fun x => (b τ).bind (g x)
theorem OpR.or {X : Cx} {f : Value → Value → Sem Value} {r r' : R2} (h : OpR X f r) (h' : OpR X f r') : OpR X f (fun x y H Q => r x y H Q ∨ r' x y H Q) := by
  intro pins s σ H x y v u Q I rx ry q
  rcases q with q | q
  · exact h pins s σ H x y v u Q I rx ry q
  · exact h' pins s σ H x y v u Q I rx ry q
variable {X : Cx} {a b c : Expr} {fa fb fc : SD → Res D} {pos : Pos}
theorem q_op {op : Operator} {r : R2} {g : D → D → Res D} (ho : OpR X (binaryOp op) r) (hg : OpD X.K Y r g) (ha : PE X a (tM X.K Y fa)) (hb : PE X b (tM X.K Y fb)) : PE X (.BinOp a op b pos) (tM X.K Y (eBin g fa fb)) :=
  PE.imp (pe_op ho ha hb) fun σ H Q hq => ex8 hq fun H0 B0 B τ P F I h => tM.seq2 I h fun d1 d2 v1 v2 H2 B2 f1 f2 _ _ I2 _ _ r1 r2 k h2 => hg I2 r1 r2 k h2
theorem q_cmp {op : CmpOp} {r : R2} {g : D → D → Res D} (ho : OpR X (compareOp op) r) (hg : OpD X.K Y r g) (ha : PE X a (tM X.K Y fa)) (hb : PE X b (tM X.K Y fb)) (hm : behindInMarks op b = false) : PE X (.Compare a [op] [b] pos) (tM X.K Y (eBin g fa fb)) :=
  PE.imp (pe_cmpR ho ha hb hm) fun σ H Q hq => ex8 hq fun H0 B0 B τ P F I h => tM.seq2 I h fun d1 d2 v1 v2 H2 B2 f1 f2 _ _ I2 _ _ r1 r2 k h2 => hg I2 r1 r2 k h2
theorem q_ix {r : R2} {g : D → D → Res D} (ho : IxR X r) (hg : OpD X.K Y r g) (ha : PE X a (tM X.K Y fa)) (hb : PE X b (tM X.K Y fb)) (hs : PlainIx b) : PE X (.Subscript a b pos) (tM X.K Y (eBin g fa fb)) :=
  PE.imp (pe_ix ho ha hb hs) fun σ H Q hq => ex8 hq fun H0 B0 B τ P F I h => tM.seq2 I h fun d1 d2 v1 v2 H2 B2 f1 f2 _ _ I2 _ _ r1 r2 k h2 => hg I2 r1 r2 k h2
/-- a value's truth by its bool -/
noncomputable def asB : D → Res Bool | .bl b => .ok b | _ => .bad
theorem goalB_of {Q : Bool → Hp → Prop} {r : Res D} (h : GoalB K Y H0 B0 B H σ τ P F Q (r.bind asB)) : Goal K Y H0 B0 B H σ τ P F (fun x H1 => ∃ c, x = .bl c ∧ Q c H1) r := by
  cases r with
  | ok d =>
    intro v H' B' fp I s b r k
    cases d with
    | bl c => obtain ⟨rfl, rfl⟩ := r; exact ⟨c, rfl, h H' B' I s b⟩
    | _ => exact h.elim
  | exn C => exact h
  | bad => exact h
/-- a test of a value that is a bool -/
noncomputable def eT (f : SD → Res D) (τ : SD) : Res Bool := (f τ).bind asB
theorem qt_val (ha : PE X a (tM X.K Y fa)) (he : ∀ whole, isTrue a X.env whole = (do let v ← whole; standAt a.pos; holding [v] (truthy v)) := by intro _; rfl) : PT X a (tMB X.K Y (eT fa)) :=
  PT.imp (pt_val ha he) fun σ H Q hq => ex8 hq fun H0 B0 B τ P F I h => ⟨H0, B0, B, τ, P, F, I, goalB_of h⟩
theorem qt_cmp {op : CmpOp} {r : R2} {g : D → D → Res D} (ho : OpR X (compareOp op) r) (hg : OpD X.K Y r g) (ha : PE X a (tM X.K Y fa)) (hb : PE X b (tM X.K Y fb)) (hm : behindInMarks op b = false) : PT X (.Compare a [op] [b] pos) (tMB X.K Y (eT (eBin g fa fb))) :=
  PT.imp (pt_cmpR ho ha hb hm) fun σ H Q hq => ex8 hq fun H0 B0 B τ P F I h => tM.seq2 I (goalB_of h) fun d1 d2 v1 v2 H2 B2 f1 f2 _ _ I2 _ _ r1 r2 k h2 => hg I2 r1 r2 k h2
end
end DL
set_option Elab.async false
set_option linter.all false
set_option maxRecDepth 100000
set_option maxHeartbeats 4000000
namespace DL
open PySem PySem.Spec PyProof.Rows L2
section
variable {K : PySem.W.Frag} {Y : XY} {H0 B0 B H : Hp} {σ : L2.St} {τ : SD} {P : List Addr} {F : Addr → Prop}
/-- what may be read as a list, a tuple -/
theorem Rep.lst (I : SI K H0 B0 B H σ τ P F) {t : Tg} {xs : List D} {v : V} {f : List Addr} (r : Rep K B (· ∈ P) H (.lst t xs) v f) : ∃ a vs g, v = .ref a ∧ SqL K H a vs ∧ RepL K B (· ∈ P) H xs vs g ∧ List.Sublist g f := by
  cases t with
  | own =>
    obtain ⟨a, vs, g, e, q, r, z⟩ := r
    subst z
    exact ⟨a, vs, g, e, SqL.of q, r, List.sublist_cons_self _ _⟩
  | bor =>
    obtain ⟨a, vs, e, q, r, z⟩ := r
    subst z
    exact ⟨a, vs, [], e, q.elim (fun y => y.2) fun y => rd_mono I.bh y, r, List.Sublist.refl _⟩
  | frz =>
    obtain ⟨a, vs, e, q, r, z⟩ := r
    subst z
    exact ⟨a, vs, [], e, rd_mono I.bh q, r.mono (Same.refl _) (Same.refl _) (fun _ x => x.elim), List.Sublist.refl _⟩
theorem Rep.tp {xs : List D} {v : V} {f : List Addr} (r : Rep K B (· ∈ P) H (.tup xs) v f) : ∃ a vs, v = .ref a ∧ SqT K H a vs ∧ RepL K B (· ∈ P) H xs vs f := let ⟨a, vs, e, q, r⟩ := r; ⟨a, vs, e, SqT.of q, r⟩
theorem sqL_of {a : Addr} {vs : List V} (h : SqL K H a vs) : SqL K H a vs := h
/-! ### arithmetic -/
variable {X : Cx}
noncomputable def rCatR (K : PySem.W.Frag) : R2 := fun x y H Q => ∃ l b xs zs, x = .ref l ∧ y = .ref b ∧ SqL K H l xs ∧ SqL K H b zs ∧ xs.length + zs.length ≤ sizeLine ∧ ∀ p, H p = none → Q (.ref p) (upd H p (.lst (xs ++ zs)))
theorem op_catR : OpR X (binaryOp .Add) (rCatR X.K) := by
  intro pins s σ H x y v u Q I rx ry h
  obtain ⟨l, b, xs, zs, rfl, rfl, hH, hB, hz, q⟩ := h
  cases rx
  cases ry
  obtain ⟨its, r, pl, z⟩ := I.list hH
  obtain ⟨its2, r2, pl2, z2⟩ := I.list hB
  obtain ⟨⟨cls, dd, data, sl⟩, ho, hc, n, hd⟩ := id pl.isList
  obtain ⟨⟨cls2, dd2, data2, sl2⟩, ho2, hc2, n2, hd2⟩ := id pl2.isList
  simp only at hc hd hc2 hd2
  subst hc hd hc2 hd2
  have e : its.toArray ++ its2.toArray = (its ++ its2).toArray := by simp
  have l1 := r.length
  have l2 := r2.length
  refine concat_meets ⟨_, ho, rfl⟩ ⟨_, ho2, rfl⟩ noFill_list_add seq_list_add PySem.F.slot_list_add PySem.F.entry_list_add (PySem.F.args_list_add_2 _ _) (list_addW l b its.toArray its2.toArray n n2 dd dd2 sl sl2 (by rw [List.size_toArray, List.size_toArray]; omega)) ⟨ho, ho2, ?_⟩
  rw [e]
  exact ⟨.ref _, _, I.lnew (t' := s.toks) (r.append r2) (by rw [List.length_append]; omega), rfl, q _ I.fresh⟩
noncomputable def addD : D → D → Res D
  | .int i, .int j => .ok (.int (i + j))
  | .str i, .str j => if i.length + j.length ≤ 16777216 then .ok (.str (i ++ j)) else .bad
  | .lst _ xs, .lst _ ys => if xs.length + ys.length ≤ 16777216 then .ok (.lst .own (xs ++ ys)) else .bad
  | .tup xs, .tup ys => if xs ≠ [] ∧ ys ≠ [] ∧ xs.length + ys.length ≤ 16777216 then .ok (.tup (xs ++ ys)) else .bad
  | _, _ => .bad
theorem isz {n : Nat} (h : n ≤ 16777216) : n ≤ sizeLine := by rw [sizeLine_eq]; exact h
theorem RepL.nil_iff {S : Addr → Prop} {xs : List D} {vs : List V} {f : List Addr} (r : RepL K B S H xs vs f) : vs = [] ↔ xs = [] := by
  have := r.length
  cases xs <;> cases vs <;> simp_all
noncomputable abbrev rAdd (K : PySem.W.Frag) : R2 := fun x y H Q => rI0 (fun i j => .int (i + j)) x y H Q ∨ ((∃ i j, x = .str i ∧ y = .str j ∧ i.length + j.length ≤ sizeLine ∧ Q (.str (i ++ j)) H) ∨ (rCatR K x y H Q ∨ rCatT K x y H Q))
theorem op_addA : OpR X (binaryOp .Add) (rAdd X.K) := OpR.or op_add (OpR.or op_add_str (OpR.or op_catR op_catT))
theorem d_add : OpD K Y (rAdd K) addD := by
  intro H0 B0 B H σ τ P F d1 d2 x y f1 f2 Q I r1 r2 k h
  unfold addD at h
  split at h
  · obtain ⟨rfl, rfl⟩ := r1
    obtain ⟨rfl, rfl⟩ := r2
    exact .inl ⟨_, _, rfl, rfl, Out.here h I ⟨rfl, rfl⟩⟩
  · obtain ⟨rfl, rfl⟩ := r1
    obtain ⟨rfl, rfl⟩ := r2
    split at h
    · rename_i hl
      exact .inr (.inl ⟨_, _, rfl, rfl, isz hl, Out.here h I ⟨rfl, rfl⟩⟩)
    · exact h.elim
  · obtain ⟨a, vs, g1, rfl, q1, l1, s1⟩ := r1.lst I
    obtain ⟨b, ws, g2, rfl, q2, l2, s2⟩ := r2.lst I
    split at h
    · rename_i hl
      refine .inr (.inr (.inl ⟨_, _, _, _, rfl, rfl, q1, q2, by rw [← l1.length, ← l2.length]; exact isz hl, fun p hp => ?_⟩))
      exact Out.newL h I (l1.append l2) (k.sub (s1.append s2)) hp
    · exact h.elim
  · obtain ⟨a, vs, rfl, q1, l1⟩ := r1.tp
    obtain ⟨b, ws, rfl, q2, l2⟩ := r2.tp
    split at h
    · rename_i hl
      obtain ⟨n1, n2, hl⟩ := hl
      refine .inr (.inr (.inr ⟨_, _, _, _, rfl, rfl, q1, q2, fun z => n1 (l1.nil_iff.mp z), by rw [← l1.length, ← l2.length]; exact isz hl, fun z => absurd (l2.nil_iff.mp z) n2, fun _ p hp => ?_⟩))
      exact Out.newT h I (l1.append l2) k hp
    · exact h.elim
  · exact h.elim
/-- ints alone -/
noncomputable def iiD (C : Int → Int → Prop) [∀ i j, Decidable (C i j)] (g : Int → Int → D) : D → D → Res D
  | .int i, .int j => if C i j then .ok (g i j) else .bad
  | _, _ => .bad
noncomputable def ii0 (g : Int → Int → D) : D → D → Res D
  | .int i, .int j => .ok (g i j)
  | _, _ => .bad
theorem d_ii {C : Int → Int → Prop} [∀ i j, Decidable (C i j)] {g : Int → Int → D} {gv : Int → Int → V} (hg : ∀ i j K B S H, Rep K B S H (g i j) (gv i j) []) : OpD K Y (rI C gv) (iiD C g) := by
  intro H0 B0 B H σ τ P F d1 d2 x y f1 f2 Q I r1 r2 k h
  unfold iiD at h
  split at h
  · obtain ⟨rfl, rfl⟩ := r1
    obtain ⟨rfl, rfl⟩ := r2
    split at h
    · rename_i hc
      exact ⟨_, _, rfl, rfl, hc, Out.here h I (hg ..)⟩
    · exact h.elim
  · exact h.elim
theorem d_ii0 {g : Int → Int → D} {gv : Int → Int → V} (hg : ∀ i j K B S H, Rep K B S H (g i j) (gv i j) []) : OpD K Y (rI0 gv) (ii0 g) := by
  intro H0 B0 B H σ τ P F d1 d2 x y f1 f2 Q I r1 r2 k h
  unfold ii0 at h
  split at h
  · obtain ⟨rfl, rfl⟩ := r1
    obtain ⟨rfl, rfl⟩ := r2
    exact ⟨_, _, rfl, rfl, Out.here h I (hg ..)⟩
  · exact h.elim
instance (i j : Int) : Decidable (CDiv i j) := inferInstanceAs (Decidable (_ ∧ _))
instance (i j : Int) : Decidable (CPow i j) := inferInstanceAs (Decidable (_ ∧ _ ∧ _))
instance (i j : Int) : Decidable (CMul i j) := inferInstanceAs (Decidable ((_ ∧ _) ∨ (_ ∧ _)))
/-- a product: one factor small, or both not great -/
noncomputable def CMulD (i j : Int) : Prop := CMul i j ∨ (i.natAbs < 2 ^ 1024 ∧ j.natAbs < 2 ^ 1024)
instance (i j : Int) : Decidable (CMulD i j) := inferInstanceAs (Decidable (_ ∨ (_ ∧ _)))
theorem bits_1024 {i : Int} (h : i.natAbs < 2 ^ 1024) : Builtin.Int.intBits i ≤ 2 ^ 20 := by
  unfold Builtin.Int.intBits
  split
  · exact Nat.zero_le _
  · by_cases e : i.natAbs = 0
    · rw [e]; decide
    · have := (Nat.log2_lt e).mpr h
      omega
theorem op_mulD : OpR X (binaryOp .Mult) (rI CMulD fun i j => .int (i * j)) := opI fun _ _ _ _ _ _ _ hc q => mul_int q (hc.elim CMul.ok fun z => IntMulOk.of_bits (bits_1024 z.1) (bits_1024 z.2))
noncomputable abbrev rij (g : Int → Int → Int) : ∀ i j K B S H, Rep K B S H (.int (g i j)) (.int (g i j)) [] := fun _ _ _ _ _ _ => ⟨rfl, rfl⟩
noncomputable abbrev rib (g : Int → Int → Bool) : ∀ i j K B S H, Rep K B S H (.bl (g i j)) (.bl (g i j)) [] := fun _ _ _ _ _ _ => ⟨rfl, rfl⟩
noncomputable abbrev mulD := iiD CMulD fun i j => .int (i * j)
noncomputable abbrev fdivD := iiD CDiv fun i j => .int (i / j)
noncomputable abbrev modD := iiD (fun _ j => 0 < j) fun i j => .int (i % j)
noncomputable abbrev powD := iiD CPow fun i j => .int (i ^ j.toNat)
noncomputable abbrev ltD := ii0 fun i j => .bl (decide (i < j))
noncomputable abbrev gtD := ii0 fun i j => .bl (decide (j < i))
theorem d_mul : OpD K Y (rI CMulD fun i j => .int (i * j)) mulD := d_ii (rij _)
theorem d_fdiv : OpD K Y (rI CDiv fun i j => .int (i / j)) fdivD := d_ii (rij _)
theorem d_mod : OpD K Y (rI (fun _ j => 0 < j) fun i j => .int (i % j)) modD := d_ii (rij _)
theorem d_pow : OpD K Y (rI CPow fun i j => .int (i ^ j.toNat)) powD := d_ii (rij fun i j => i ^ j.toNat)
theorem d_lt : OpD K Y (rI0 fun i j => .bl (decide (i < j))) ltD := d_ii0 (rib fun i j => decide (i < j))
theorem d_gt : OpD K Y (rI0 fun i j => .bl (decide (j < i))) gtD := d_ii0 (rib fun i j => decide (j < i))
end
end DL
set_option Elab.async false
set_option linter.all false
set_option maxRecDepth 100000
set_option maxHeartbeats 4000000
namespace DL
open PySem PySem.Spec PyProof.Rows L2
section
variable {K : PySem.W.Frag} {Y : XY} {H0 B0 B H : Hp} {σ : L2.St} {τ : SD} {P : List Addr} {F : Addr → Prop} {X : Cx} {a b c : Expr} {fa fb fc : SD → Res D} {ga gb : SD → Res Bool} {pos : Pos}
theorem Vok.still {H1 B1 : Hp} {f : List Addr} (k : Vok H0 B H P F f) (sH : Same H H1) (I1 : SI K H0 B0 B1 H1 σ τ P (fun a => a ∈ f ∨ F a)) : Vok H0 B1 H1 P F f := ⟨k.nd, fun a m => let ⟨_, a2, _, a4, a5⟩ := k.own a m; ⟨(I1.fr a (.inl m)).1, a2, (I1.fr a (.inl m)).2, a4, a5⟩⟩
/-! ### equality of plain values -/
/-- flat: no parts -/
noncomputable def D.flat : D → Bool | .non => true | .bl _ => true | .int _ => true | .str _ => true | _ => false
noncomputable def eqFlat : D → D → Option Bool
  | .non, .non => some true | .non, .int _ => some false | .int _, .non => some false | .non, .bl _ => some false | .bl _, .non => some false | .non, .str _ => some false | .str _, .non => some false
  | .int i, .int j => some (decide (i = j)) | .bl i, .bl j => some (decide (i = j)) | .str i, .str j => some (decide (i = j))
  | .int _, .str _ => some false | .str _, .int _ => some false | .bl _, .str _ => some false | .str _, .bl _ => some false
  | _, _ => none
theorem eqFlat_ok {S S' : Addr → Prop} {d1 d2 : D} {x y : V} {f1 f2 : List Addr} {r : Bool} (e : eqFlat d1 d2 = some r) (r1 : Rep K B S H d1 x f1) (r2 : Rep K B S' H d2 y f2) : scal x y = true ∧ decide (x = y) = r := by
  cases d1 <;> cases d2 <;> first | (cases e; done) | (obtain ⟨rfl, rfl⟩ := r1; obtain ⟨rfl, rfl⟩ := r2; cases e; first | exact ⟨rfl, rfl⟩ | exact ⟨rfl, by simp⟩)
noncomputable def ofO (neg : Bool) : Option Bool → Res D | some b => .ok (.bl (xor neg b)) | none => .bad
noncomputable def eqD (d1 d2 : D) : Res D := ofO false (eqFlat d1 d2)
noncomputable def neD (d1 d2 : D) : Res D := ofO true (eqFlat d1 d2)
theorem d_eq : OpD K Y rEq eqD := by
  intro H0 B0 B H σ τ P F d1 d2 x y f1 f2 Q I r1 r2 k h
  unfold eqD at h
  cases e : eqFlat d1 d2 with
  | none => rw [e] at h; exact h.elim
  | some r =>
    rw [e] at h
    obtain ⟨s, z⟩ := eqFlat_ok e r1 r2
    refine ⟨s, ?_⟩
    rw [z]
    exact Out.here h I ⟨by simp, rfl⟩
theorem d_ne : OpD K Y rNe neD := by
  intro H0 B0 B H σ τ P F d1 d2 x y f1 f2 Q I r1 r2 k h
  unfold neD at h
  cases e : eqFlat d1 d2 with
  | none => rw [e] at h; exact h.elim
  | some r =>
    rw [e] at h
    obtain ⟨s, z⟩ := eqFlat_ok e r1 r2
    refine ⟨s, ?_⟩
    rw [z]
    exact Out.here h I ⟨by simp, rfl⟩
/-- is None -/
noncomputable def isND (neg : Bool) : D → D → Res D
  | .non, .non => .ok (.bl (!neg))
  | _, .non => .ok (.bl neg)
  | _, _ => .bad
noncomputable def D.isN : D → Bool | .non => true | _ => false
theorem rep_non {S : Addr → Prop} {d : D} {v : V} {f : List Addr} (r : Rep K B S H d v f) : decide (v = .non) = d.isN := by
  cases d with
  | non => rw [r.1]; rfl
  | bl _ => rw [r.1]; rfl
  | int _ => rw [r.1]; rfl
  | str _ => rw [r.1]; rfl
  | exc _ => obtain ⟨⟨a, rfl, _⟩, _⟩ := r; rfl
  | tup _ => obtain ⟨a, _, rfl, _⟩ := r; rfl
  | lst t _ => cases t <;> (obtain ⟨a, _, r⟩ := r; first | (obtain ⟨_, rfl, _⟩ := r; rfl) | (obtain ⟨rfl, _⟩ := r; rfl))
  | dct t _ _ _ => cases t <;> (obtain ⟨a, _, r⟩ := r; first | (obtain ⟨_, rfl, _⟩ := r; rfl) | (obtain ⟨rfl, _⟩ := r; rfl))
theorem d_isN : OpD K Y (fun x y H Q => y = .non ∧ Q (.bl (decide (x = .non))) H) (isND false) := by
  intro H0 B0 B H σ τ P F d1 d2 x y f1 f2 Q I r1 r2 k h
  have e := rep_non r1
  unfold isND at h
  split at h
  · rw [r2.1]; rw [e]; exact ⟨rfl, Out.here h I ⟨rfl, rfl⟩⟩
  · rename_i hn
    rw [r2.1]; rw [e]
    refine ⟨rfl, Out.here h I ⟨?_, rfl⟩⟩
    cases d1 <;> first | rfl | exact (hn rfl).elim
  · exact h.elim
/-! ### in -/
noncomputable def eqF : D → D → Bool
  | .non, .non => true
  | .bl a, .bl b => a == b
  | .bl a, .int b => (if a then 1 else 0) == b
  | .int a, .bl b => a == (if b then 1 else 0)
  | .int a, .int b => a == b
  | .str a, .str b => a == b
  | _, _ => false
noncomputable def inF (x : D) (xs : List D) : Bool := xs.any fun y => eqF y x
theorem flatV_of {S : Addr → Prop} {d : D} {v : V} {f : List Addr} (h : d.flat = true) (r : Rep K B S H d v f) : flatV v = true := by
  cases d <;> first | exact absurd (show false = true from h) Bool.false_ne_true | (obtain ⟨rfl, _⟩ := r; rfl)
theorem eqV_of {S : Addr → Prop} {d e : D} {v u : V} {f g : List Addr} (h : d.flat = true) (h' : e.flat = true) (r : Rep K B S H d v f) (r' : Rep K B S H e u g) : eqV v u = eqF d e := by
  cases d <;> cases e <;> first | exact absurd (show false = true from h) Bool.false_ne_true | exact absurd (show false = true from h') Bool.false_ne_true | (obtain ⟨rfl, _⟩ := r; obtain ⟨rfl, _⟩ := r'; rfl)
theorem all_flat {S : Addr → Prop} {x : D} {u : V} {g : List Addr} (hx : x.flat = true) (rx : Rep K B S H x u g) : ∀ {xs : List D} {vs : List V} {f : List Addr}, xs.all D.flat = true → RepL K B S H xs vs f → vs.all flatV = true ∧ inV u vs = inF x xs
  | [], vs, f, _, r => by obtain ⟨rfl, _⟩ := r; exact ⟨rfl, rfl⟩
  | d :: ds, vs, f, h, r => by
    obtain ⟨v, w, f1, f2, rfl, r1, r2, _⟩ := r
    rw [List.all_cons, Bool.and_eq_true] at h
    obtain ⟨i1, i2⟩ := all_flat hx rx h.2 r2
    refine ⟨by rw [List.all_cons, flatV_of h.1 r1, i1]; rfl, ?_⟩
    show (eqV v u || inV u w) = (eqF d x || inF x ds)
    rw [i2, eqV_of h.1 hx r1 rx]
noncomputable def inD (neg : Bool) : D → D → Res D
  | x, .lst _ xs => if x.flat = true ∧ xs.all D.flat = true then .ok (.bl (if neg then !inF x xs else inF x xs)) else .bad
  | x, .tup xs => if x.flat = true ∧ xs.all D.flat = true then .ok (.bl (if neg then !inF x xs else inF x xs)) else .bad
  | _, _ => .bad
theorem d_in (neg : Bool) : OpD K Y (rIn K neg) (inD neg) := by
  intro H0 B0 B H σ τ P F d1 d2 x y f1 f2 Q I r1 r2 k h
  unfold inD at h
  split at h
  · split at h
    · rename_i hc
      obtain ⟨a, vs, g, rfl, q, l, s⟩ := r2.lst I
      obtain ⟨z1, z2⟩ := all_flat hc.1 r1 hc.2 l
      refine ⟨a, vs, rfl, .inl (sqL_of q), flatV_of hc.1 r1, z1, ?_⟩
      rw [z2]
      exact Out.here h I ⟨rfl, rfl⟩
    · exact h.elim
  · split at h
    · rename_i hc
      obtain ⟨a, vs, rfl, q, l⟩ := r2.tp
      obtain ⟨z1, z2⟩ := all_flat hc.1 r1 hc.2 l
      refine ⟨a, vs, rfl, .inr q, flatV_of hc.1 r1, z1, ?_⟩
      rw [z2]
      exact Out.here h I ⟨rfl, rfl⟩
    · exact h.elim
  · exact h.elim
/-! ### items -/
noncomputable def ixD : D → D → Res D
  | .lst _ xs, .int i => match atI xs i with | some d => .ok d | none => .bad
  | .tup xs, .int i => match atI xs i with | some d => .ok d | none => .bad
  | .str z, .int i => if z.length ≤ 16777216 then match atI z.cps.toList i with | some c => .ok (.str ⟨#[c]⟩) | none => .bad else .bad
  | _, _ => .bad
theorem RepL.atI {S : Addr → Prop} {xs : List D} {vs : List V} {f : List Addr} {i : Int} {d : D} (r : RepL K B S H xs vs f) (e : atI xs i = some d) : ∃ v g, L2.atI vs i = some v ∧ Rep K B S H d v g ∧ List.Sublist g f := by
  unfold L2.atI at e ⊢
  rw [r.length] at e
  cases z : ixN vs.length i with
  | none => rw [z] at e; cases e
  | some j =>
    rw [z] at e
    obtain ⟨v, g, h1, h2, h3⟩ := r.get (i := j) e
    exact ⟨v, g, h1, h2, h3⟩
theorem d_ix : OpD K Y (rIx K) ixD := by
  intro H0 B0 B H σ τ P F d1 d2 x y f1 f2 Q I r1 r2 k h
  unfold ixD at h
  split at h
  · obtain ⟨rfl, rfl⟩ := r2
    obtain ⟨a, vs, g, rfl, q, l, s⟩ := r1.lst I
    split at h
    · rename_i d e
      obtain ⟨v, g', e1, r', s'⟩ := l.atI e
      exact .inl ⟨a, vs, _, v, rfl, rfl, sqL_of q, e1, Out.hereO h I r' (k.left.sub (s'.trans s))⟩
    · exact h.elim
  · obtain ⟨rfl, rfl⟩ := r2
    obtain ⟨a, vs, rfl, q, l⟩ := r1.tp
    split at h
    · rename_i d e
      obtain ⟨v, g', e1, r', s'⟩ := l.atI e
      exact .inr (.inl ⟨a, vs, _, v, rfl, rfl, q, e1, Out.hereO h I r' (k.left.sub s')⟩)
    · exact h.elim
  · obtain ⟨rfl, rfl⟩ := r2
    obtain ⟨rfl, rfl⟩ := r1
    split at h
    · rename_i hl
      split at h
      · rename_i c e
        exact .inr (.inr ⟨_, _, c, rfl, rfl, isz hl, e, Out.here h I ⟨rfl, rfl⟩⟩)
      · exact h.elim
    · exact h.elim
  · exact h.elim
/-! ### and, or, not, if -/
theorem GoalB.later {H1 B1 : Hp} {Q : Bool → Hp → Prop} {r : Res Bool} (h : GoalB K Y H0 B0 B H σ τ P F Q r) (sH : Same H H1) (sB : Same B B1) : GoalB K Y H0 B0 B1 H1 σ τ P F Q r := by
  cases r with
  | ok d => exact fun H' B' I s b => h H' B' I (sH.trans s) (sB.trans b)
  | exn C => exact OutX.later h sH sB fun _ x => x
  | bad => exact h
theorem tMB.seq {f : SD → Res Bool} {Q' : Bool → Hp → Prop} {g : Bool → Res Bool} {Q : Bool → Hp → Prop} (I : SI K H0 B0 B H σ τ P F) (h : GoalB K Y H0 B0 B H σ τ P F Q ((f τ).bind g))
    (k : ∀ d H1 B1, SI K H0 B0 B1 H1 σ τ P F → GoalB K Y H0 B0 B1 H1 σ τ P F Q (g d) → Q' d H1) : tMB K Y f σ H Q' := by
  refine ⟨H0, B0, B, τ, P, F, I, ?_⟩
  cases e : f τ with
  | ok d => rw [e] at h; exact fun H1 B1 I1 s1 b1 => k d H1 B1 I1 (GoalB.later h s1 b1)
  | exn C => rw [e] at h; exact h
  | bad => rw [e] at h; exact h
theorem tMB.seqV {f : SD → Res Bool} {Q' : Bool → Hp → Prop} {g : Bool → Res D} {Q : VK} (I : SI K H0 B0 B H σ τ P F) (h : Goal K Y H0 B0 B H σ τ P F Q ((f τ).bind g))
    (k : ∀ d H1 B1, SI K H0 B0 B1 H1 σ τ P F → Goal K Y H0 B0 B1 H1 σ τ P F Q (g d) → Q' d H1) : tMB K Y f σ H Q' := by
  refine ⟨H0, B0, B, τ, P, F, I, ?_⟩
  cases e : f τ with
  | ok d => rw [e] at h; exact fun H1 B1 I1 s1 b1 => k d H1 B1 I1 (Goal.later h s1 b1)
  | exn C => rw [e] at h; exact h
  | bad => rw [e] at h; exact h
noncomputable def bNot (f : SD → Res Bool) (τ : SD) : Res Bool := (f τ).bind fun b => .ok (!b)
noncomputable def bAnd (f g : SD → Res Bool) (τ : SD) : Res Bool := (f τ).bind fun b => if b = true then g τ else .ok false
noncomputable def bOr (f g : SD → Res Bool) (τ : SD) : Res Bool := (f τ).bind fun b => if b = true then .ok true else g τ
theorem qt_not (ha : PT X a (tMB X.K Y ga)) : PT X (.UnaryOp .Not a pos) (tMB X.K Y (bNot ga)) :=
  PT.imp (pt_not ha) fun σ H Q hq => ex8 hq fun H0 B0 B τ P F I h => tMB.seq I h fun d H1 B1 I1 h1 => h1 H1 B1 I1 (Same.refl _) (Same.refl _)
theorem PW.imp {e : Expr} {t t' : TT} (h : PW X e t) (hi : ∀ σ H Q, t' σ H Q → t σ H Q) : PW X e t' := fun wh pins s σ H Q I hw => h wh pins s σ H Q I (hi σ H Q hw)
theorem qw_and1 (ha : PT X a (tMB X.K Y ga)) : PW X (.BoolOp .And [a] pos) (tMB X.K Y ga) := pw_and1 ha
theorem qw_or1 (ha : PT X a (tMB X.K Y ga)) : PW X (.BoolOp .Or [a] pos) (tMB X.K Y ga) := pw_or1 ha
theorem qw_and {rest : List Expr} (ha : PT X a (tMB X.K Y ga)) (hb : PW X (.BoolOp .And (b :: rest) pos) (tMB X.K Y gb)) : PW X (.BoolOp .And (a :: b :: rest) pos) (tMB X.K Y (bAnd ga gb)) :=
  PW.imp (pw_and ha hb) fun σ H Q hq => ex8 hq fun H0 B0 B τ P F I h => tMB.seq I h fun d H1 B1 I1 h1 => by
    cases d with
    | true => rw [if_pos rfl] at h1 ⊢; exact ⟨H0, B0, B1, τ, P, F, I1, h1⟩
    | false => rw [if_neg Bool.false_ne_true] at h1 ⊢; exact h1 H1 B1 I1 (Same.refl _) (Same.refl _)
theorem qw_or {rest : List Expr} (ha : PT X a (tMB X.K Y ga)) (hb : PW X (.BoolOp .Or (b :: rest) pos) (tMB X.K Y gb)) : PW X (.BoolOp .Or (a :: b :: rest) pos) (tMB X.K Y (bOr ga gb)) :=
  PW.imp (pw_or ha hb) fun σ H Q hq => ex8 hq fun H0 B0 B τ P F I h => tMB.seq I h fun d H1 B1 I1 h1 => by
    cases d with
    | true => rw [if_pos rfl] at h1 ⊢; exact h1 H1 B1 I1 (Same.refl _) (Same.refl _)
    | false => rw [if_neg Bool.false_ne_true] at h1 ⊢; exact ⟨H0, B0, B1, τ, P, F, I1, h1⟩
noncomputable def eIf (c : SD → Res Bool) (f g : SD → Res D) (τ : SD) : Res D := (c τ).bind fun b => if b = true then f τ else g τ
theorem q_if (hc : PT X c (tMB X.K Y ga)) (ha : PE X a (tM X.K Y fa)) (hb : PE X b (tM X.K Y fb)) : PE X (.IfExp c a b pos) (tM X.K Y (eIf ga fa fb)) :=
  PE.imp (pe_ifExp hc ha hb) fun σ H Q hq => ex8 hq fun H0 B0 B τ P F I h => tMB.seqV I h fun d H1 B1 I1 h1 => by
    cases d with
    | true => rw [if_pos rfl] at h1 ⊢; exact ⟨H0, B0, B1, τ, P, F, I1, h1⟩
    | false => rw [if_neg Bool.false_ne_true] at h1 ⊢; exact ⟨H0, B0, B1, τ, P, F, I1, h1⟩
/-- as values, bools -/
noncomputable def eAnd (f g : SD → Res D) (τ : SD) : Res D := (f τ).bind fun d => (asB d).bind fun b => if b = true then g τ else .ok (.bl false)
noncomputable def eNot (f : SD → Res D) (τ : SD) : Res D := (f τ).bind fun d => (asB d).bind fun b => .ok (.bl (!b))
theorem asB_cases {d : D} {v : V} {f : List Addr} {g : Bool → Res D} {Q : VK} (r : Rep K B (· ∈ P) H d v f) (h : Goal K Y H0 B0 B H σ τ P F Q ((asB d).bind g)) : ∃ c, v = .bl c ∧ f = [] ∧ Goal K Y H0 B0 B H σ τ P F Q (g c) := by
  cases d with
  | bl c => exact ⟨c, r.1, r.2, h⟩
  | _ => exact h.elim
theorem q_one {op} (h : PE X a (tM X.K Y fa)) : PE X (.BoolOp op [a] pos) (tM X.K Y fa) := pe_one h
theorem q_and {rest : List Expr} (ha : PE X a (tM X.K Y fa)) (hb : PE X (.BoolOp .And (b :: rest) pos) (tM X.K Y fb)) : PE X (.BoolOp .And (a :: b :: rest) pos) (tM X.K Y (eAnd fa fb)) :=
  PE.imp (pe_and ha hb) fun σ H Q hq => ex8 hq fun H0 B0 B τ P F I h => tM.seq I h fun d v H1 B1 fp _ I1 _ _ r1 _ h1 => by
    obtain ⟨c, rfl, _, h2⟩ := asB_cases r1 h1
    refine ⟨c, rfl, ?_⟩
    cases c with
    | true => rw [if_pos rfl] at h2 ⊢; exact ⟨H0, B0, B1, τ, P, F, I1, h2⟩
    | false => rw [if_neg Bool.false_ne_true] at h2 ⊢; exact Out.here h2 I1 ⟨rfl, rfl⟩
theorem q_not (ha : PE X a (tM X.K Y fa)) : PE X (.UnaryOp .Not a pos) (tM X.K Y (eNot fa)) :=
  PE.imp (pe_not ha) fun σ H Q hq => ex8 hq fun H0 B0 B τ P F I h => tM.seq I h fun d v H1 B1 fp _ I1 _ _ r1 _ h1 => by
    obtain ⟨c, rfl, _, h2⟩ := asB_cases r1 h1
    exact ⟨c, rfl, Out.here h2 I1 ⟨rfl, rfl⟩⟩
noncomputable def eUn (g : D → Res D) (f : SD → Res D) (τ : SD) : Res D := (f τ).bind g
/-! ### argument lists, displays -/
noncomputable def aNil (_ : SD) : Res (List D) := .ok []
noncomputable def aCons (f : SD → Res D) (g : SD → Res (List D)) (τ : SD) : Res (List D) := (f τ).bind fun d => (g τ).bind fun ds => .ok (d :: ds)
variable {e : Expr} {es : List Expr} {fe : SD → Res D} {fs : SD → Res (List D)}
theorem qa_nil : PA X [] (tML X.K Y aNil) := PA.imp pa_nil fun σ H Q hq => ex8 hq fun H0 B0 B τ P F I h => h [] H B [] I (Same.refl _) (Same.refl _) ⟨rfl, rfl⟩ Vok.nil
theorem qa_cons (ha : PE X e (tM X.K Y fe)) (hr : PA X es (tML X.K Y fs)) (hs : starEach (e :: es) X.env = (false, eval e X.env) :: starEach es X.env := by rfl) : PA X (e :: es) (tML X.K Y (aCons fe fs)) := by
  refine PA.imp (pa_cons ha hr hs) fun σ H Q hq => ex8 hq fun H0 B0 B τ P F I h => ?_
  refine ⟨H0, B0, B, τ, P, F, I, ?_⟩
  unfold aCons at h
  cases z : fe τ with
  | exn C => rw [z] at h; exact h
  | bad => rw [z] at h; exact h
  | ok d =>
    rw [z] at h
    intro v H1 B1 fp I1 s1 b1 r1 k1
    refine ⟨H0, B0, B1, τ, P, _, I1.hold k1, ?_⟩
    cases y : fs τ with
    | exn C => rw [y] at h; exact OutX.later h s1 b1 fun a x => .inr x
    | bad => rw [y] at h; exact h
    | ok ds =>
      rw [y] at h
      intro vs H2 B2 fq I2 s2 b2 r2 k2
      exact h (v :: vs) H2 B2 (fp ++ fq) (I2.anti fun a x => .inr x) (s1.trans s2) (b1.trans b2) ⟨v, vs, fp, fq, rfl, r1.mono s2 b2 (fun _ x => x), r2, rfl⟩ (k1.both s2 I2 k2)
theorem tML.seq {f : SD → Res (List D)} {Q' : List V → Hp → Prop} {g : List D → Res D} {Q : VK} (I : SI K H0 B0 B H σ τ P F) (h : Goal K Y H0 B0 B H σ τ P F Q ((f τ).bind g))
    (k : ∀ ds vs H1 B1 fp, f τ = .ok ds → SI K H0 B0 B1 H1 σ τ P F → Same H H1 → Same B B1 → RepL K B1 (· ∈ P) H1 ds vs fp → Vok H0 B1 H1 P F fp → Goal K Y H0 B0 B1 H1 σ τ P F Q (g ds) → Q' vs H1) : tML K Y f σ H Q' := by
  refine ⟨H0, B0, B, τ, P, F, I, ?_⟩
  cases e : f τ with
  | ok d =>
    rw [e] at h
    intro v H1 B1 fp I1 s1 b1 r1 k1
    exact k d v H1 B1 fp e I1 s1 b1 r1 k1 (Goal.later h s1 b1)
  | exn C => rw [e] at h; exact h
  | bad => rw [e] at h; exact h
noncomputable def tupD (ds : List D) : Res D := if ds.length ≤ 16777216 then .ok (.tup ds) else .bad
noncomputable def lstD (ds : List D) : Res D := if ds.length ≤ 16777216 then .ok (.lst .own ds) else .bad
noncomputable def eA (g : List D → Res D) (f : SD → Res (List D)) (τ : SD) : Res D := (f τ).bind g
theorem q_tup {x1} (h : PA X es (tML X.K Y fs)) : PE X (.Tuple es x1 pos) (tM X.K Y (eA tupD fs)) :=
  PE.imp (pe_tup h) fun σ H Q hq => ex8 hq fun H0 B0 B τ P F I h => tML.seq I h fun ds vs H1 B1 fp _ I1 _ _ r1 k1 h1 => by
    unfold tupD at h1
    split at h1
    · rename_i hl
      exact ⟨by rw [← r1.length]; exact isz hl, fun p hp => Out.newT h1 I1 r1 k1 hp⟩
    · exact h1.elim
theorem q_lst (h : PA X es (tML X.K Y fs)) : PE X (.List es pos) (tM X.K Y (eA lstD fs)) :=
  PE.imp (pe_lst h) fun σ H Q hq => ex8 hq fun H0 B0 B τ P F I h => tML.seq I h fun ds vs H1 B1 fp _ I1 _ _ r1 k1 h1 => by
    unfold lstD at h1
    split at h1
    · rename_i hl
      exact ⟨by rw [← r1.length]; exact isz hl, fun p hp => Out.newL h1 I1 r1 k1 hp⟩
    · exact h1.elim
/-! ### calls of Python's own -/
noncomputable def CallD (K : PySem.W.Frag) (Y : XY) (r : List V → Hp → VK → Prop) (g : List D → Res D) : Prop := ∀ {H0 B0 B H : Hp} {σ : L2.St} {τ : SD} {P : List Addr} {F : Addr → Prop} {ds : List D} {vs : List V} {f : List Addr} {Q : VK},
  SI K H0 B0 B H σ τ P F → RepL K B (· ∈ P) H ds vs f → Vok H0 B H P F f → Goal K Y H0 B0 B H σ τ P F Q (g ds) → r vs H Q
theorem q_callB {x : Str} {id : String} {p : Pos} {r : List V → Hp → VK → Prop} {g : List D → Res D} (hc : CallR X (.builtin id) r) (hgd : CallD X.K Y r g) (hg : Gl X x) (hm : X.mg x = none) (hv : bootBuiltins x = some (.builtin id)) (ha : PA X (e :: es) (tML X.K Y fs)) (hn : x ≠ "__name__" := by decide) (hdb : (x == ("__debug__" : Str)) = false := by decide)
    (he : starEach (e :: es) X.env = (false, eval e X.env) :: starEach es X.env := by rfl) (hpl : (backTo pos (starEach es X.env)).any (·.1) = false := by rfl) :
    PE X (.Call (.Name x p) (e :: es) [] pos) (tM X.K Y (eA g fs)) :=
  PE.imp (pe_callB hc hg hm hv ha hn hdb he hpl) fun σ H Q hq => ex8 hq fun H0 B0 B τ P F I h => tML.seq I h fun ds vs H1 B1 fp _ I1 _ _ r1 k1 h1 => hgd I1 r1 k1 h1
theorem q_callTy {x : Str} {T : String} {p : Pos} {r : List V → Hp → VK → Prop} {g : List D → Res D} (hc : CallR X (.type T) r) (hgd : CallD X.K Y r g) (hg : Gl X x) (hm : X.mg x = none) (hv : bootBuiltins x = some (.type T)) (ha : PA X (e :: es) (tML X.K Y fs)) (hn : x ≠ "__name__" := by decide) (hdb : (x == ("__debug__" : Str)) = false := by decide)
    (he : starEach (e :: es) X.env = (false, eval e X.env) :: starEach es X.env := by rfl) (hpl : (backTo pos (starEach es X.env)).any (·.1) = false := by rfl) :
    PE X (.Call (.Name x p) (e :: es) [] pos) (tM X.K Y (eA g fs)) :=
  PE.imp (pe_callTy hc hg hm hv ha hn hdb he hpl) fun σ H Q hq => ex8 hq fun H0 B0 B τ P F I h => tML.seq I h fun ds vs H1 B1 fp _ I1 _ _ r1 k1 h1 => hgd I1 r1 k1 h1
theorem repL1 {S : Addr → Prop} {d : D} {vs : List V} {f : List Addr} (r : RepL K B S H [d] vs f) : ∃ v, vs = [v] ∧ Rep K B S H d v f := by
  obtain ⟨v, w, f1, f2, rfl, r1, r2, rfl⟩ := r
  obtain ⟨rfl, rfl⟩ := r2
  exact ⟨v, rfl, by rw [List.append_nil]; exact r1⟩
noncomputable def lenD : List D → Res D
  | [.lst _ xs] => .ok (.int xs.length)
  | [.tup xs] => .ok (.int xs.length)
  | [.str z] => if z.length ≤ 16777216 then .ok (.int z.length) else .bad
  | _ => .bad
noncomputable abbrev rLen (K : PySem.W.Frag) : List V → Hp → VK → Prop := fun xs H Q => (∃ p ys, xs = [.ref p] ∧ (SqL K H p ys ∨ SqT K H p ys) ∧ Q (.int ys.length) H) ∨ ∃ z, xs = [.str z] ∧ z.length ≤ sizeLine ∧ Q (.int z.length) H
theorem call_lenA : CallR X (.builtin "len") (rLen X.K) := CallR.or call_len_seq call_len_str
theorem d_len : CallD K Y (rLen K) lenD := by
  intro H0 B0 B H σ τ P F ds vs f Q I r k h
  unfold lenD at h
  split at h
  · obtain ⟨v, rfl, r'⟩ := repL1 r
    obtain ⟨a, ws, g, rfl, q, l, s⟩ := r'.lst I
    refine .inl ⟨a, ws, rfl, .inl (sqL_of q), ?_⟩
    rw [← l.length]
    exact Out.here h I ⟨rfl, rfl⟩
  · obtain ⟨v, rfl, r'⟩ := repL1 r
    obtain ⟨a, ws, rfl, q, l⟩ := r'.tp
    refine .inl ⟨a, ws, rfl, .inr q, ?_⟩
    rw [← l.length]
    exact Out.here h I ⟨rfl, rfl⟩
  · obtain ⟨v, rfl, r'⟩ := repL1 r
    obtain ⟨rfl, rfl⟩ := r'
    split at h
    · rename_i hl
      exact .inr ⟨_, rfl, isz hl, Out.here h I ⟨rfl, rfl⟩⟩
    · exact h.elim
  · exact h.elim
noncomputable def listD : List D → Res D
  | [.lst _ xs] => .ok (.lst .own xs)
  | [.tup xs] => .ok (.lst .own xs)
  | _ => .bad
theorem d_list : CallD K Y (fun xs H Q => ∃ p ys, xs = [.ref p] ∧ (SqL K H p ys ∨ SqT K H p ys) ∧ ∀ l, H l = none → Q (.ref l) (upd H l (.lst ys))) listD := by
  intro H0 B0 B H σ τ P F ds vs f Q I r k h
  unfold listD at h
  split at h
  · obtain ⟨v, rfl, r'⟩ := repL1 r
    obtain ⟨a, ws, g, rfl, q, l, s⟩ := r'.lst I
    exact ⟨a, ws, rfl, .inl (sqL_of q), fun p hp => Out.newL h I l (k.sub s) hp⟩
  · obtain ⟨v, rfl, r'⟩ := repL1 r
    obtain ⟨a, ws, rfl, q, l⟩ := r'.tp
    exact ⟨a, ws, rfl, .inr q, fun p hp => Out.newL h I l k hp⟩
  · exact h.elim
noncomputable def tupleD : List D → Res D
  | [.lst _ xs] => .ok (.tup xs)
  | [.tup xs] => .ok (.tup xs)
  | _ => .bad
theorem d_tuple : CallD K Y (fun xs H Q => ∃ p ys, xs = [.ref p] ∧ ((SqL K H p ys ∧ ∀ l, H l = none → Q (.ref l) (upd H l (.tup ys))) ∨ (SqT K H p ys ∧ Q (.ref p) H))) tupleD := by
  intro H0 B0 B H σ τ P F ds vs f Q I r k h
  unfold tupleD at h
  split at h
  · obtain ⟨v, rfl, r'⟩ := repL1 r
    obtain ⟨a, ws, g, rfl, q, l, s⟩ := r'.lst I
    exact ⟨a, ws, rfl, .inl ⟨sqL_of q, fun p hp => Out.newT h I l (k.sub s) hp⟩⟩
  · obtain ⟨v, rfl, r'⟩ := repL1 r
    obtain ⟨a, ws, rfl, q, l⟩ := r'.tp
    exact ⟨a, ws, rfl, .inr ⟨q, Out.hereO h I r' k⟩⟩
  · exact h.elim
/-! ### slices -/
noncomputable def eP (f : SD → Res D) (τ : SD) : Res (Option Int) := (f τ).bind fun d => match d with | .int i => .ok (some i) | _ => .bad
noncomputable def eP0 (_ : SD) : Res (Option Int) := .ok none
noncomputable def tMO (K : PySem.W.Frag) (Y : XY) (f : SD → Res (Option Int)) : TO := fun σ H Q => ∃ H0 B0 B τ P F, SI K H0 B0 B H σ τ P F ∧ match f τ with
  | .ok o => ∀ H' B', SI K H0 B0 B' H' σ τ P F → Same H H' → Same B B' → Q o H'
  | .exn C => OutX K Y H0 B0 B H σ τ P F C
  | .bad => False
theorem PO.imp {e : Option Expr} {t t' : TO} (h : PO X e t) (hi : ∀ σ H Q, t' σ H Q → t σ H Q) : PO X e t' := fun pins s σ H Q I hw => h pins s σ H Q I (hi σ H Q hw)
theorem qo_none : PO X none (tMO X.K Y eP0) := PO.imp po_none fun σ H Q hq => ex8 hq fun H0 B0 B τ P F I h => h H B I (Same.refl _) (Same.refl _)
theorem qo_some (h : PE X e (tM X.K Y fe)) : PO X (some e) (tMO X.K Y (eP fe)) := by
  refine PO.imp (po_some h) fun σ H Q hq => ex8 hq fun H0 B0 B τ P F I h => ?_
  refine ⟨H0, B0, B, τ, P, F, I, ?_⟩
  unfold eP at h
  cases z : fe τ with
  | exn C => rw [z] at h; exact h
  | bad => rw [z] at h; exact h
  | ok d =>
    rw [z] at h
    intro v H1 B1 fp I1 s1 b1 r1 k1
    cases d with
    | int i => exact ⟨i, r1.1, h H1 B1 I1 s1 b1⟩
    | _ => exact h.elim
/-- the items of xs[lo:hi] -/
noncomputable def cut {α : Type} (xs : List α) (lo hi : Option Int) : List α := (xs.drop (HT.sIx xs.length 0 lo)).take (HT.sIx xs.length xs.length hi - HT.sIx xs.length 0 lo)
theorem RepL.drop {S : Addr → Prop} : ∀ (n : Nat) {xs : List D} {vs : List V} {f : List Addr}, RepL K B S H xs vs f → ∃ g, RepL K B S H (xs.drop n) (vs.drop n) g ∧ List.Sublist g f
  | 0, xs, vs, f, r => ⟨f, r, List.Sublist.refl _⟩
  | n + 1, [], vs, f, r => by
    obtain ⟨rfl, rfl⟩ := r
    exact ⟨[], ⟨rfl, rfl⟩, List.Sublist.refl _⟩
  | n + 1, d :: ds, vs, f, r => by
    obtain ⟨v, w, f1, f2, rfl, r1, r2, rfl⟩ := r
    obtain ⟨g, h1, h2⟩ := RepL.drop n r2
    exact ⟨g, h1, h2.trans (List.sublist_append_right _ _)⟩
theorem RepL.take {S : Addr → Prop} : ∀ (n : Nat) {xs : List D} {vs : List V} {f : List Addr}, RepL K B S H xs vs f → ∃ g, RepL K B S H (xs.take n) (vs.take n) g ∧ List.Sublist g f
  | 0, xs, vs, f, r => ⟨[], ⟨rfl, rfl⟩, List.nil_sublist _⟩
  | n + 1, [], vs, f, r => by
    obtain ⟨rfl, rfl⟩ := r
    exact ⟨[], ⟨rfl, rfl⟩, List.Sublist.refl _⟩
  | n + 1, d :: ds, vs, f, r => by
    obtain ⟨v, w, f1, f2, rfl, r1, r2, rfl⟩ := r
    obtain ⟨g, h1, h2⟩ := RepL.take n r2
    exact ⟨f1 ++ g, ⟨v, _, f1, g, rfl, r1, h1, rfl⟩, List.Sublist.append (List.Sublist.refl _) h2⟩
theorem RepL.cut {S : Addr → Prop} {xs : List D} {vs : List V} {f : List Addr} (r : RepL K B S H xs vs f) (lo hi : Option Int) : ∃ g, RepL K B S H (cut xs lo hi) (cutV vs lo hi) g ∧ List.Sublist g f := by
  unfold DL.cut cutV
  rw [r.length]
  obtain ⟨g, h1, h2⟩ := r.drop (HT.sIx vs.length 0 lo)
  obtain ⟨g', h3, h4⟩ := h1.take (HT.sIx vs.length vs.length hi - HT.sIx vs.length 0 lo)
  exact ⟨g', h3, h4.trans h2⟩
noncomputable def cutD (d : D) (lo hi : Option Int) : Res D := match d with
  | .lst _ xs => .ok (.lst .own (cut xs lo hi))
  | .tup xs => if HT.sIx xs.length 0 lo = 0 ∧ HT.sIx xs.length xs.length hi = xs.length then .bad else .ok (.tup (cut xs lo hi))
  | _ => .bad
noncomputable def eCut (f : SD → Res D) (lo hi : SD → Res (Option Int)) (τ : SD) : Res D := (f τ).bind fun d => (lo τ).bind fun l => (hi τ).bind fun u => cutD d l u
theorem q_slice {lo hi : Option Expr} {fl fh : SD → Res (Option Int)} {p2 : Pos} (he : PE X e (tM X.K Y fe)) (hl : PO X lo (tMO X.K Y fl)) (hu : PO X hi (tMO X.K Y fh)) : PE X (.Subscript e (.Slice lo hi none p2) pos) (tM X.K Y (eCut fe fl fh)) := by
  refine PE.imp (pe_slice (SlR.or sl_list sl_tup) he hl hu) fun σ H Q hq => ex8 hq fun H0 B0 B τ P F I h => ?_
  refine tM.seq I h fun d v H1 B1 fp _ I1 s1 b1 r1 k1 h1 => ?_
  refine ⟨H0, B0, B1, τ, P, _, I1.hold k1, ?_⟩
  cases z : fl τ with
  | exn C => rw [z] at h1; exact OutX.later h1 (Same.refl _) (Same.refl _) fun a x => .inr x
  | bad => rw [z] at h1; exact h1
  | ok l =>
    rw [z] at h1
    intro H2 B2 I2 s2 b2
    refine ⟨H0, B0, B2, τ, P, _, I2, ?_⟩
    cases y : fh τ with
    | exn C => rw [y] at h1; exact OutX.later h1 s2 b2 fun a x => .inr x
    | bad => rw [y] at h1; exact h1
    | ok u =>
      rw [y] at h1
      intro H3 B3 I3 s3 b3
      have I4 := I3.anti (F' := F) fun a x => .inr x
      have k4 := k1.still (s2.trans s3) I3
      have r4 := r1.mono (s2.trans s3) (b2.trans b3) fun _ x => x
      have h4 : Goal X.K Y H0 B0 B3 H3 σ τ P F Q (cutD d l u) := Goal.later h1 (s2.trans s3) (b2.trans b3)
      unfold cutD at h4
      split at h4
      · obtain ⟨a, vs, g, rfl, q, l', s⟩ := r4.lst I4
        obtain ⟨g', l2, s2⟩ := l'.cut l u
        exact .inl ⟨a, vs, rfl, sqL_of q, fun p hp => Out.newL h4 I4 l2 (k4.sub (s2.trans s)) hp⟩
      · obtain ⟨a, vs, rfl, q, l'⟩ := r4.tp
        obtain ⟨g', l2, s2⟩ := l'.cut l u
        split at h4
        · exact h4.elim
        · rename_i hc
          rw [l'.length] at hc
          exact .inr ⟨a, vs, rfl, q, hc, fun p hp => Out.newT h4 I4 l2 (k4.sub s2) hp⟩
      · exact h4.elim
end
end DL
set_option Elab.async false
set_option linter.all false
set_option maxRecDepth 100000
set_option maxHeartbeats 4000000
/-! ### statements -/
namespace DL
open PySem PySem.Spec PyProof.Rows L2
inductive Fl where | nx (τ : SD) | rt (d : D) | bk (τ : SD) | ct (τ : SD) | ex (C : Addr) (τ : SD) | bad
noncomputable abbrev SF := SD → Fl
noncomputable def Tg.unbor : Tg → Tg | .bor => .frz | t => t
mutual
noncomputable def D.unbor : D → D
  | .tup xs => .tup (unborL xs)
  | .lst t xs => .lst t.unbor (unborL xs)
  | .dct t k ks vs => .dct t.unbor k ks (unborL vs)
  | d => d
noncomputable def unborL : List D → List D
  | [] => []
  | d :: r => d.unbor :: unborL r
end
mutual
theorem unbor_id : ∀ d : D, d.hasBor = false → d.unbor = d
  | .non, _ => rfl
  | .bl _, _ => rfl
  | .int _, _ => rfl
  | .str _, _ => rfl
  | .exc _, _ => rfl
  | .tup xs, h => by
    have h : hasBorL xs = false := h
    show D.tup (unborL xs) = _
    rw [unborL_id xs h]
  | .lst t xs, h => by
    have h : (decide (t = .bor) || hasBorL xs) = false := h
    rw [Bool.or_eq_false_iff] at h
    show D.lst t.unbor (unborL xs) = _
    rw [unborL_id xs h.2]
    cases t <;> first | rfl | exact absurd h.1 (by decide)
  | .dct t k ks vs, h => by
    have h : (decide (t = .bor) || hasBorL vs) = false := h
    rw [Bool.or_eq_false_iff] at h
    show D.dct t.unbor k ks (unborL vs) = _
    rw [unborL_id vs h.2]
    cases t <;> first | rfl | exact absurd h.1 (by decide)
theorem unborL_id : ∀ xs : List D, hasBorL xs = false → unborL xs = xs
  | [], _ => rfl
  | d :: r, h => by
    have h : (d.hasBor || hasBorL r) = false := h
    rw [Bool.or_eq_false_iff] at h
    show d.unbor :: unborL r = _
    rw [unbor_id d h.1, unborL_id r h.2]
end
section
variable {K : PySem.W.Frag}
mutual
theorem Rep.unbor {B B' H : Hp} {S : Addr → Prop} (sB : Same B B') (hs : ∀ a o, S a → H a = some o → B' a = some o) : ∀ {d : D} {v : V} {fp : List Addr}, Rep K B S H d v fp → Rep K B' No H d.unbor v fp
  | .non, _, _, h => h
  | .bl _, _, _, h => h
  | .int _, _, _, h => h
  | .str _, _, _, h => h
  | .exc _, _, _, h => h
  | .tup xs, v, fp, h => let ⟨a, vs, e, q, r⟩ := h; ⟨a, vs, e, q, RepL.unbor sB hs r⟩
  | .lst .own xs, v, fp, h => let ⟨a, vs, f, e, q, r, z⟩ := h; ⟨a, vs, f, e, q, RepL.unbor sB hs r, z⟩
  | .lst .bor xs, v, fp, h => let ⟨a, vs, e, q, r, z⟩ := h; ⟨a, vs, e, sqL_to sB hs q, RepL.unbor sB hs r, z⟩
  | .lst .frz xs, v, fp, h => let ⟨a, vs, e, q, r, z⟩ := h; ⟨a, vs, e, rd_mono sB q, RepL.unbor sB (fun _ _ x => x.elim) r, z⟩
  | .dct .own kd ks xs, v, fp, h => let ⟨a, vs, f, e, q, r, z⟩ := h; ⟨a, vs, f, e, q, RepL.unbor sB hs r, z⟩
  | .dct .bor kd ks xs, v, fp, h => let ⟨a, vs, e, q, r, z⟩ := h; ⟨a, vs, e, dictAt_to sB hs q, RepL.unbor sB hs r, z⟩
  | .dct .frz kd ks xs, v, fp, h => let ⟨a, vs, e, q, r, z⟩ := h; ⟨a, vs, e, q.mono sB, RepL.unbor sB (fun _ _ x => x.elim) r, z⟩
theorem RepL.unbor {B B' H : Hp} {S : Addr → Prop} (sB : Same B B') (hs : ∀ a o, S a → H a = some o → B' a = some o) : ∀ {ds : List D} {vs : List V} {fp : List Addr}, RepL K B S H ds vs fp → RepL K B' No H (unborL ds) vs fp
  | [], _, _, h => h
  | d :: ds, vs, fp, h => let ⟨v, r, f, g, e, h1, h2, z⟩ := h; ⟨v, r, f, g, e, Rep.unbor sB hs h1, RepL.unbor sB hs h2, z⟩
end
/-- what can't be written is as it was -/
noncomputable def Imm (H H' : Hp) : Prop := ∀ a o, H a = some o → ¬ mutO o → H' a = some o
theorem Imm.of {H H' : Hp} (s : Same H H') : Imm H H' := fun a o h _ => s a o h
theorem Imm.refl (H : Hp) : Imm H H := fun _ _ h _ => h
theorem Imm.trans {H H1 H2 : Hp} (a : Imm H H1) (b : Imm H1 H2) : Imm H H2 := fun x o h n => b x o (a x o h n) n
/-- behind a statement -/
structure Aft (K : PySem.W.Frag) (H0 B0 B H : Hp) (B' H' : Hp) (σ' : L2.St) (τ' : SD) (P' : List Addr) : Prop where
  si : SI K H0 B0 B' H' σ' τ' P' No
  b : Same B B'
  imm : Imm H H'
/-- behind a return -/
structure RetOk (K : PySem.W.Frag) (H0 B0 B' H' : Hp) (d : D) (v : V) (fp : List Addr) : Prop where
  h0 : Same H0 H'
  b0 : Same B0 B'
  bh : Same B' H'
  nb : ∀ a, B' a ≠ none → B0 a ≠ none ∨ H0 a = none
  rep : Rep K B' No H' d v fp
  nd : fp.Nodup
  own : ∀ a ∈ fp, B' a = none ∧ H0 a = none ∧ H' a ≠ none
noncomputable def GoalS (K : PySem.W.Frag) (Y : XY) (H0 B0 B H : Hp) (E : Ends) : Fl → Prop
  | .nx τ' => ∀ B' H' σ' P', Aft K H0 B0 B H B' H' σ' τ' P' → E.nx σ' H'
  | .bk τ' => ∀ B' H' σ' P', Aft K H0 B0 B H B' H' σ' τ' P' → E.bk σ' H'
  | .ct τ' => ∀ B' H' σ' P', Aft K H0 B0 B H B' H' σ' τ' P' → E.ct σ' H'
  | .ex C τ' => ∀ B' H' σ' P', Aft K H0 B0 B H B' H' σ' τ' P' → Y C σ' H'
  | .rt d => ∀ B' H' v fp, RetOk K H0 B0 B' H' d v fp → E.rt v H'
  | .bad => False
noncomputable def tMS (K : PySem.W.Frag) (Y : XY) (g : SF) : TS := fun E σ H => ∃ H0 B0 B τ P, SI K H0 B0 B H σ τ P No ∧ GoalS K Y H0 B0 B H E (g τ)
variable {Y : XY} {H0 B0 B H : Hp} {σ : L2.St} {τ : SD} {P : List Addr} {F : Addr → Prop} {E : Ends}
theorem Aft.refl (I : SI K H0 B0 B H σ τ P No) : Aft K H0 B0 B H B H σ τ P := ⟨I, Same.refl _, Imm.refl _⟩
theorem Aft.grow {B' H' : Hp} (I : SI K H0 B0 B' H' σ τ P No) (sB : Same B B') (sH : Same H H') : Aft K H0 B0 B H B' H' σ τ P := ⟨I, sB, Imm.of sH⟩
theorem Aft.trans {B1 H1 B2 H2 : Hp} {σ1 σ2 : L2.St} {τ1 τ2 : SD} {P1 P2 : List Addr} (a : Aft K H0 B0 B H B1 H1 σ1 τ1 P1) (b : Aft K H0 B0 B1 H1 B2 H2 σ2 τ2 P2) : Aft K H0 B0 B H B2 H2 σ2 τ2 P2 := ⟨b.si, a.b.trans b.b, a.imm.trans b.imm⟩
theorem GoalS.later {B1 H1 : Hp} {σ1 : L2.St} {τ1 : SD} {P1 : List Addr} {r : Fl} (h : GoalS K Y H0 B0 B H E r) (a : Aft K H0 B0 B H B1 H1 σ1 τ1 P1) : GoalS K Y H0 B0 B1 H1 E r := by
  cases r with
  | nx τ' => exact fun B' H' σ' P' b => h B' H' σ' P' (a.trans b)
  | bk τ' => exact fun B' H' σ' P' b => h B' H' σ' P' (a.trans b)
  | ct τ' => exact fun B' H' σ' P' b => h B' H' σ' P' (a.trans b)
  | ex C τ' => exact fun B' H' σ' P' b => h B' H' σ' P' (a.trans b)
  | rt d => exact h
  | bad => exact h
/-! sequences -/
noncomputable def Fl.andThen (r : Fl) (s : SF) : Fl := match r with | .nx τ => s τ | r => r
noncomputable def sSeq (a b : SF) (τ : SD) : Fl := (a τ).andThen b
noncomputable def sNext (τ : SD) : Fl := .nx τ
variable {X : Cx} {st : Stmt} {rest : List Stmt} {g g1 g2 : SF} {pos : Pos}
theorem ss_nil : PSs X [] (tMS X.K Y sNext) := PSs.imp pss_nil fun E σ H hq => ex7 hq fun H0 B0 B τ P I h => h B H σ P (Aft.refl I)
theorem ss_one (h : PS X st (tMS X.K Y g)) : PSs X [st] (tMS X.K Y g) := pss_one h
theorem ss_cons (h1 : PS X st (tMS X.K Y g1)) (h2 : PSs X rest (tMS X.K Y g2)) : PSs X (st :: rest) (tMS X.K Y (sSeq g1 g2)) := by
  refine PSs.imp (pss_cons h1 h2) fun E σ H hq => ex7 hq fun H0 B0 B τ P I h => ⟨H0, B0, B, τ, P, I, ?_⟩
  unfold sSeq at h
  cases e : g1 τ with
  | nx τ' => rw [e] at h; exact fun B' H' σ' P' a => ⟨H0, B0, B', τ', P', a.si, GoalS.later h a⟩
  | bk τ' => rw [e] at h; exact h
  | ct τ' => rw [e] at h; exact h
  | ex C τ' => rw [e] at h; exact h
  | rt d => rw [e] at h; exact h
  | bad => rw [e] at h; exact h
/-! an expression by itself, return, if -/
noncomputable def Res.toFl (τ : SD) (r : Res D) (k : D → Fl) : Fl := match r with | .ok d => k d | .exn C => .ex C τ | .bad => .bad
noncomputable def Res.toFlB (τ : SD) (r : Res Bool) (k : Bool → Fl) : Fl := match r with | .ok d => k d | .exn C => .ex C τ | .bad => .bad
/-- from a statement's goal to its expression's -/
theorem exprS {f : SD → Res D} {k : D → Fl} {Q : VK} (I : SI K H0 B0 B H σ τ P No) (h : GoalS K Y H0 B0 B H E ((f τ).toFl τ k))
    (c : ∀ d v H1 B1 fp, f τ = .ok d → SI K H0 B0 B1 H1 σ τ P No → Same H H1 → Same B B1 → Rep K B1 (· ∈ P) H1 d v fp → Vok H0 B1 H1 P No fp → GoalS K Y H0 B0 B1 H1 E (k d) → Q v H1) : tM K Y f σ H Q := by
  refine ⟨H0, B0, B, τ, P, No, I, ?_⟩
  cases e : f τ with
  | ok d =>
    rw [e] at h
    intro v H1 B1 fp I1 s1 b1 r1 k1
    exact c d v H1 B1 fp e I1 s1 b1 r1 k1 (GoalS.later h (Aft.grow I1 b1 s1))
  | exn C => rw [e] at h; exact fun H1 B1 I1 s1 b1 => h B1 H1 σ P (Aft.grow I1 b1 s1)
  | bad => rw [e] at h; exact h
theorem testS {f : SD → Res Bool} {k : Bool → Fl} {Q : Bool → Hp → Prop} (I : SI K H0 B0 B H σ τ P No) (h : GoalS K Y H0 B0 B H E ((f τ).toFlB τ k))
    (c : ∀ d H1 B1, f τ = .ok d → SI K H0 B0 B1 H1 σ τ P No → Same H H1 → Same B B1 → GoalS K Y H0 B0 B1 H1 E (k d) → Q d H1) : tMB K Y f σ H Q := by
  refine ⟨H0, B0, B, τ, P, No, I, ?_⟩
  cases e : f τ with
  | ok d => rw [e] at h; exact fun H1 B1 I1 s1 b1 => c d H1 B1 e I1 s1 b1 (GoalS.later h (Aft.grow I1 b1 s1))
  | exn C => rw [e] at h; exact fun H1 B1 I1 s1 b1 => h B1 H1 σ P (Aft.grow I1 b1 s1)
  | bad => rw [e] at h; exact h
variable {e c : Expr} {fe : SD → Res D} {gc : SD → Res Bool}
noncomputable def sExpr (f : SD → Res D) (τ : SD) : Fl := (f τ).toFl τ fun _ => .nx τ
theorem s_expr (he : PE X e (tM X.K Y fe)) (hs : swapsWith e none pos.line X.env = pure false := by rfl) : PS X (.Expr e pos) (tMS X.K Y (sExpr fe)) :=
  PS.imp (ps_expr he hs) fun E σ H hq => ex7 hq fun H0 B0 B τ P I h => exprS I h fun d v H1 B1 fp _ I1 _ _ _ _ h1 => h1 B1 H1 σ P (Aft.refl I1)
noncomputable def sIf (c : SD → Res Bool) (a b : SF) (τ : SD) : Fl := (c τ).toFlB τ fun t => if t = true then a τ else b τ
theorem s_if {a b : List Stmt} (hc : PT X c (tMB X.K Y gc)) (ha : PSs X a (tMS X.K Y g1)) (hb : PSs X b (tMS X.K Y g2)) : PS X (.If c a b pos) (tMS X.K Y (sIf gc g1 g2)) :=
  PS.imp (ps_if hc ha hb) fun E σ H hq => ex7 hq fun H0 B0 B τ P I h => testS I h fun d H1 B1 _ I1 _ _ h1 => by
    cases d with
    | true => rw [if_pos rfl] at h1 ⊢; exact ⟨H0, B0, B1, τ, P, I1, h1⟩
    | false => rw [if_neg Bool.false_ne_true] at h1 ⊢; exact ⟨H0, B0, B1, τ, P, I1, h1⟩
/-- what is at rest, with the addresses of S -/
noncomputable def atRest (B H : Hp) (S : Addr → Prop) : Hp := fun a => by classical exact if S a then H a else B a
theorem rest_same {S : Addr → Prop} (h : Same B H) : Same B (atRest B H S) := fun a o e => by
  unfold atRest; split
  · exact h a o e
  · exact e
theorem rest_in {S : Addr → Prop} {a : Addr} {o : HO} (s : S a) (h : H a = some o) : atRest B H S a = some o := by unfold atRest; rw [if_pos s]; exact h
theorem rest_up {S : Addr → Prop} (h : Same B H) : Same (atRest B H S) H := fun a o e => by
  unfold atRest at e; split at e
  · exact e
  · exact h a o e
theorem rest_out {S : Addr → Prop} {a : Addr} (s : ¬ S a) : atRest B H S a = B a := by unfold atRest; rw [if_neg s]
noncomputable def sRet (f : SD → Res D) (τ : SD) : Fl := (f τ).toFl τ fun d => .rt d.unbor
theorem retOk_of {d : D} {v : V} {fp : List Addr} (I : SI K H0 B0 B H σ τ P F) (r : Rep K B (· ∈ P) H d v fp) (k : Vok H0 B H P F fp) : RetOk K H0 B0 (atRest B H (· ∈ P)) H d.unbor v fp where
  h0 := I.h0
  b0 := I.b0.trans (rest_same I.bh)
  bh := rest_up I.bh
  nb := fun a n => by
    by_cases m : a ∈ P
    · exact .inr (I.own a m).2.1
    · rw [rest_out m] at n; exact I.nb a n
  rep := r.unbor (rest_same I.bh) fun a o s h => rest_in s h
  nd := k.nd
  own := fun a m => let ⟨a1, a2, a3, a4, _⟩ := k.own a m; ⟨by rw [rest_out a4]; exact a1, a2, a3⟩
theorem s_ret (he : PE X e (tM X.K Y fe)) : PS X (.Return (some e) pos) (tMS X.K Y (sRet fe)) :=
  PS.imp (ps_ret he) fun E σ H hq => ex7 hq fun H0 B0 B τ P I h => exprS I h fun d v H1 B1 fp _ I1 _ _ r1 k1 h1 => h1 _ H1 v fp (retOk_of I1 r1 k1)
/-- return x: the name's own goes along -/
noncomputable def sRetV (i : Nat) (τ : SD) : Fl := match τ[i]? with | some (some d) => .rt d | _ => .bad
theorem s_retV (i : Nat) {x : Str} {pos' : Pos} (hN : X.N[i]? = some x := by rfl) (hv : Vis X.env.scope x := by first | exact Or.inl rfl | exact Or.inr (Or.inl rfl) | exact Or.inr (Or.inr rfl)) (hd : (x == ("__debug__" : Str)) = false := by decide)
    (hcd : (x == ("__classdict__" : Str)) = false := by decide) : PS X (.Return (some (.Name x pos')) pos) (tMS X.K Y (sRetV i)) := by
  refine PS.imp (ps_ret (pe_var hN hv hd hcd)) fun E σ H hq => ex7 hq fun H0 B0 B τ P I h => ?_
  unfold sRetV at h
  cases e : τ[i]? with
  | none => rw [e] at h; exact h.elim
  | some o =>
    cases o with
    | none => rw [e] at h; exact h.elim
    | some d =>
      rw [e] at h
      obtain ⟨v, f, h1, h2, h3⟩ := I.rep.get e
      refine ⟨v, h1, h B H v f ⟨I.h0, I.b0, I.bh, I.nb, h2, I.nd.sublist h3, fun a m => ?_⟩⟩
      obtain ⟨a1, a2, a3⟩ := I.own a (h3.subset m)
      exact ⟨a1, a2, I.stands (h3.subset m)⟩
/-! ### a name gets a value -/
theorem RepS.length {B H : Hp} : ∀ {τ : SD} {σ : L2.St} {P : List Addr}, RepS K B H τ σ P → τ.length = σ.length
  | [], _, _, h => by rw [h.1]; rfl
  | none :: r, σ, P, h => by obtain ⟨o, t, rfl, h⟩ := h; rw [List.length_cons, List.length_cons, RepS.length h]
  | some d :: r, σ, P, h => by obtain ⟨v, t, f, g, rfl, _, h, _⟩ := h; rw [List.length_cons, List.length_cons, RepS.length h]
/-- the slots but one -/
theorem RepS.cut {B H : Hp} : ∀ {τ : SD} {σ : L2.St} {P : List Addr} {i : Nat}, RepS K B H τ σ P → i < τ.length → ∃ A f C, P = A ++ f ++ C ∧ (∀ d, τ[i]? = some (some d) → ∃ v, σ[i]? = some (some v) ∧ Rep K B No H d v f) ∧
    ∀ {B' H' : Hp} {d' : D} {v' : V} {f' : List Addr}, (∀ d v g, Rep K B No H d v g → (∀ a ∈ g, a ∈ A ++ C) → Rep K B' No H' d v g) → Rep K B' No H' d' v' f' → RepS K B' H' (τ.set i (some d')) (σ.set i (some v')) (A ++ f' ++ C)
  | [], σ, P, i, h, hi => absurd hi (Nat.not_lt_zero _)
  | none :: r, σ, P, 0, h, hi => by
    obtain ⟨o, t, rfl, h⟩ := h
    refine ⟨[], [], P, rfl, fun d e => by simp at e, fun {B' H' d' v' f'} hm hr => ⟨v', t, f', P, rfl, hr, ?_, rfl⟩⟩
    revert hm
    have key : ∀ {τ : SD} {σ : L2.St} {Q : List Addr}, RepS K B H τ σ Q → (∀ d v g, Rep K B No H d v g → (∀ a ∈ g, a ∈ Q) → Rep K B' No H' d v g) → RepS K B' H' τ σ Q := by
      intro τ
      induction τ with
      | nil => intro σ Q h _; exact h
      | cons o r ih =>
        intro σ Q h hm
        cases o with
        | none => obtain ⟨o, t, e, h⟩ := h; exact ⟨o, t, e, ih h hm⟩
        | some d =>
          obtain ⟨v, t, f, g, e, h1, h2, z⟩ := h
          subst z
          exact ⟨v, t, f, g, e, hm d v f h1 (fun a m => List.mem_append_left _ m), ih h2 (fun d v g' hr hg => hm d v g' hr fun a m => List.mem_append_right _ (hg a m)), rfl⟩
    exact fun hm => key h hm
  | some d :: r, σ, P, 0, h, hi => by
    obtain ⟨v, t, f, g, rfl, h1, h2, rfl⟩ := h
    refine ⟨[], f, g, by simp, fun d' e => ⟨v, rfl, ?_⟩, fun {B' H' d' v' f'} hm hr => ⟨v', t, f', g, rfl, hr, ?_, rfl⟩⟩
    · have e : d = d' := by simpa using e
      subst e
      exact h1
    · have key : ∀ {τ : SD} {σ : L2.St} {Q : List Addr}, RepS K B H τ σ Q → (∀ d v g, Rep K B No H d v g → (∀ a ∈ g, a ∈ Q) → Rep K B' No H' d v g) → RepS K B' H' τ σ Q := by
        intro τ
        induction τ with
        | nil => intro σ Q h _; exact h
        | cons o r ih =>
          intro σ Q h hm
          cases o with
          | none => obtain ⟨o, t, e, h⟩ := h; exact ⟨o, t, e, ih h hm⟩
          | some d =>
            obtain ⟨v, t, f, g, e, h1, h2, z⟩ := h
            subst z
            exact ⟨v, t, f, g, e, hm d v f h1 (fun a m => List.mem_append_left _ m), ih h2 (fun d v g' hr hg => hm d v g' hr fun a m => List.mem_append_right _ (hg a m)), rfl⟩
      exact key h2 hm
  | none :: r, σ, P, i + 1, h, hi => by
    obtain ⟨o, t, rfl, h⟩ := h
    obtain ⟨A, f, C, e, h1, h2⟩ := RepS.cut (i := i) h (by simpa using hi)
    exact ⟨A, f, C, e, fun d z => h1 d (by simpa using z), fun hm hr => ⟨o, _, rfl, h2 hm hr⟩⟩
  | some d :: r, σ, P, i + 1, h, hi => by
    obtain ⟨v, t, f, g, rfl, r1, r2, rfl⟩ := h
    obtain ⟨A, f', C, e, h1, h2⟩ := RepS.cut (i := i) r2 (by simpa using hi)
    subst e
    refine ⟨f ++ A, f', C, by simp, fun d z => h1 d (by simpa using z), fun {B' H' d' v' f''} hm hr => ?_⟩
    refine ⟨v, _, f, A ++ f'' ++ C, rfl, hm d v f r1 fun a m => by simp [m], h2 (fun d v g hr hg => hm d v g hr fun a m => ?_) hr, by simp⟩
    have := hg a m
    simp at this ⊢
    rcases this with z | z
    · exact .inr (.inl z)
    · exact .inr (.inr z)
/-- the slot i gets the value d' of which the addresses are new or were the slot's own; of the heap only the slot's own may have been written -/
theorem SI.put {i : Nat} {H1 : Hp} {d' : D} {v' : V} {f' : List Addr} (I : SI K H0 B0 B H σ τ P F) (hi : i < τ.length) {A f C : List Addr} (eP : P = A ++ f ++ C)
    (put : ∀ {B' H' : Hp} {d' : D} {v' : V} {f' : List Addr}, (∀ d v g, Rep K B No H d v g → (∀ a ∈ g, a ∈ A ++ C) → Rep K B' No H' d v g) → Rep K B' No H' d' v' f' → RepS K B' H' (τ.set i (some d')) (σ.set i (some v')) (A ++ f' ++ C))
    (kp : Keep H H1 f) (r : Rep K B No H1 d' v' f') (nd : f'.Nodup) (own : ∀ a ∈ f', a ∈ f ∨ (B a = none ∧ H0 a = none ∧ H a = none ∧ ¬ F a) ∨ (a ∉ P ∧ B a = none ∧ H0 a = none ∧ ¬ F a)) :
    SI K H0 B0 B H1 (σ.set i (some v')) (τ.set i (some d')) (A ++ f' ++ C) F := by
  have nd0 := I.nd
  rw [eP] at nd0
  have ndA : A.Nodup := (nd0.sublist (by simp)).sublist (List.sublist_append_left A (f ++ C))
  have kb : ∀ a o, B a = some o → a ∉ f := fun a o e m => by
    have := (I.own a (by rw [eP]; simp [m])).1
    rw [e] at this; cases this
  have k0 : ∀ a o, H0 a = some o → a ∉ f := fun a o e m => by
    have := (I.own a (by rw [eP]; simp [m])).2.1
    rw [e] at this; cases this
  have kf : ∀ a, F a → a ∉ f := fun a e m => (I.own a (by rw [eP]; simp [m])).2.2 e
  have notin : ∀ a ∈ f', a ∉ A ∧ a ∉ C := fun a m => by
    rcases own a m with q | q | q
    · rw [List.append_assoc, List.nodup_append] at nd0
      obtain ⟨n1, n2, n3⟩ := nd0
      rw [List.nodup_append] at n2
      exact ⟨fun z => n3 a z a (by simp [q]) rfl, fun z => n2.2.2 a q a z rfl⟩
    · exact ⟨fun z => I.stands (a := a) (by rw [eP]; simp [z]) q.2.2.1, fun z => I.stands (a := a) (by rw [eP]; simp [z]) q.2.2.1⟩
    · exact ⟨fun z => q.1 (by rw [eP]; simp [z]), fun z => q.1 (by rw [eP]; simp [z])⟩
  refine ⟨fun a o e => kp.keep a o (I.bh a o e) (kb a o e), fun a o e => kp.keep a o (I.h0 a o e) (k0 a o e), I.b0, I.nb, ?_, ?_, fun a m => ?_, fun a m => ⟨(I.fr a m).1, fun z => ?_⟩⟩
  · refine put (fun d v g hr hg => hr.keep kp fun a m z => ?_) r
    have h1 := hg a m
    rw [List.append_assoc, List.nodup_append] at nd0
    obtain ⟨n1, n2, n3⟩ := nd0
    rw [List.nodup_append] at n2
    rcases List.mem_append.mp h1 with q | q
    · exact n3 a q a (by simp [z]) rfl
    · exact n2.2.2 a z a q rfl
  · rw [List.append_assoc, List.nodup_append] at nd0 ⊢
    obtain ⟨n1, n2, n3⟩ := nd0
    rw [List.nodup_append] at n2
    refine ⟨n1, List.nodup_append.mpr ⟨nd, n2.2.1, fun a ha b hb e => ?_⟩, fun a ha b hb e => ?_⟩
    · subst e; exact (notin a ha).2 hb
    · subst e
      rcases List.mem_append.mp hb with q | q
      · exact (notin a q).1 ha
      · exact n3 a ha a (by simp [q]) rfl
  · rcases List.mem_append.mp m with q | q
    · rcases List.mem_append.mp q with q | q
      · exact I.own a (by rw [eP]; simp [q])
      · rcases own a q with q | q | q
        · exact I.own a (by rw [eP]; simp [q])
        · exact ⟨q.1, q.2.1, q.2.2.2⟩
        · exact ⟨q.2.1, q.2.2.1, q.2.2.2⟩
    · exact I.own a (by rw [eP]; simp [q])
  · obtain ⟨o, e⟩ := Option.ne_none_iff_exists'.mp (I.fr a m).2
    rw [kp.keep a o e (kf a m)] at z
    cases z
theorem Keep.same {f : List Addr} (h : ∀ a ∈ f, ∃ o, H a = some o ∧ mutO o) : Keep H H f := ⟨fun _ _ h _ => h, h⟩
theorem sublist_mid (A f C : List Addr) : ∀ a ∈ f, a ∈ A ++ f ++ C := fun a m => by simp [m]
/-- a value is laid into the slot i -/
theorem SI.set {d : D} {v : V} {fp : List Addr} (i : Nat) (I : SI K H0 B0 B H σ τ P F) (r : Rep K B No H d v fp) (k : Vok H0 B H P F fp) : ∃ P', SI K H0 B0 B H (σ.set i (some v)) (τ.set i (some d)) P' F ∧ ∀ a ∈ P', a ∈ P ∨ a ∈ fp := by
  by_cases hi : i < τ.length
  · obtain ⟨A, f, C, e, h1, h2⟩ := I.rep.cut hi
    refine ⟨_, I.put hi e h2 (Keep.same fun a m => I.rep.own a (by rw [e]; exact sublist_mid A f C a m)) r k.nd fun a m => .inr (.inr ?_), fun a m => ?_⟩
    · obtain ⟨a1, a2, a3, a4, a5⟩ := k.own a m
      exact ⟨a4, a1, a2, a5⟩
    · rw [e]; simp at m ⊢; rcases m with m | m | m <;> simp [m]
  · have e1 : τ.set i (some d) = τ := List.set_eq_of_length_le (by omega)
    have e2 : σ.set i (some v) = σ := List.set_eq_of_length_le (by rw [← I.rep.length]; omega)
    rw [e1, e2]
    exact ⟨P, I, fun a m => .inl m⟩
noncomputable def setD (i : Nat) (τ : SD) (d : D) : Fl := if d.hasBor = true then .bad else .nx (τ.set i (some d))
noncomputable def sSet (i : Nat) (f : SD → Res D) (τ : SD) : Fl := (f τ).toFl τ (setD i τ)
theorem s_set {i : Nat} {x : Str} {pos' : Pos} (hN : X.N.Nodup) (hi : X.N[i]? = some x) (hx : Loc X.env.scope x) (he : PE X e (tM X.K Y fe)) (hs : swapsWith e (some (.Name x pos')) pos.line X.env = pure false := by rfl) (hf : X.fn x = true ∨ X.env.scope.names.lookup x = some .local := by first | exact .inl rfl | exact .inr rfl) :
    PS X (.Assign [.Name x pos'] e pos) (tMS X.K Y (sSet i fe)) :=
  PS.imp (ps_set hN hi hx he hs hf) fun E σ H hq => ex7 hq fun H0 B0 B τ P I h => exprS I h fun d v H1 B1 fp _ I1 _ _ r1 k1 h1 => by
    unfold setD at h1
    split at h1
    · exact h1.elim
    · rename_i hb
      obtain ⟨P', I', _⟩ := I1.set i (r1.noBor (by simpa using hb)) k1
      exact h1 B1 H1 _ P' ⟨I', Same.refl _, Imm.refl _⟩
/-! ### put to rest -/
noncomputable def frzAt (js : List Nat) (τ : SD) : SD := js.foldl (fun t j => match t[j]? with | some (some d) => t.set j (some d.frz) | _ => t) τ
theorem SI.frz1 (j : Nat) {d : D} (I : SI K H0 B0 B H σ τ P No) (hd : τ[j]? = some (some d)) : ∃ B' P', Same B B' ∧ SI K H0 B0 B' H σ (τ.set j (some d.frz)) P' No := by
  have hi : j < τ.length := (List.getElem?_eq_some_iff.mp hd).1
  obtain ⟨A, f, C, e, h1, h2⟩ := I.rep.cut hi
  obtain ⟨v, e1, r1⟩ := h1 d hd
  have sB : Same B (atRest B H (· ∈ f)) := rest_same I.bh
  have nd0 := I.nd
  rw [e] at nd0
  have dis : ∀ a ∈ A ++ C, a ∉ f := fun a m z => by
    rw [List.append_assoc, List.nodup_append] at nd0
    obtain ⟨n1, n2, n3⟩ := nd0
    rw [List.nodup_append] at n2
    rcases List.mem_append.mp m with q | q
    · exact n3 a q a (by simp [z]) rfl
    · exact n2.2.2 a z a q rfl
  have es : σ.set j (some v) = σ := by
    refine List.ext_getElem? fun k => ?_
    by_cases hk : k = j
    · subst hk
      rw [List.getElem?_set_self (List.getElem?_eq_some_iff.mp e1).1, e1]
    · rw [List.getElem?_set_ne (Ne.symm hk)]
  have rr := h2 (B' := atRest B H (· ∈ f)) (H' := H) (d' := d.frz) (v' := v) (f' := []) (fun d v g hr hg => hr.mono (Same.refl _) sB fun _ x => x) (r1.frz sB (fun a o s => s.elim) fun a m o ho => rest_in m ho)
  rw [es] at rr
  refine ⟨atRest B H (· ∈ f), A ++ [] ++ C, sB, rest_up I.bh, I.h0, I.b0.trans sB, fun a n => ?_, rr, ?_, fun a m => ?_, fun a m => m.elim⟩
  · by_cases m : a ∈ f
    · exact .inr (I.own a (by rw [e]; exact sublist_mid A f C a m)).2.1
    · rw [rest_out m] at n; exact I.nb a n
  · rw [List.append_nil]
    refine nd0.sublist ?_
    rw [List.append_assoc]
    exact List.Sublist.append (List.Sublist.refl _) (List.sublist_append_right _ _)
  · rw [List.append_nil] at m
    obtain ⟨a1, a2, a3⟩ := I.own a (by rw [e]; rcases List.mem_append.mp m with q | q <;> simp [q])
    exact ⟨by rw [rest_out (dis a m)]; exact a1, a2, fun x => x⟩
theorem SI.frzAt : ∀ (js : List Nat) {B : Hp} {τ : SD} {P : List Addr}, SI K H0 B0 B H σ τ P No → ∃ B' P', Same B B' ∧ SI K H0 B0 B' H σ (DL.frzAt js τ) P' No
  | [], B, τ, P, I => ⟨B, P, Same.refl _, I⟩
  | j :: js, B, τ, P, I => by
    unfold DL.frzAt
    rw [List.foldl_cons]
    cases e : τ[j]? with
    | none => exact SI.frzAt js I
    | some o =>
      cases o with
      | none => exact SI.frzAt js I
      | some d =>
        obtain ⟨B1, P1, s1, I1⟩ := I.frz1 j e
        obtain ⟨B2, P2, s2, I2⟩ := SI.frzAt js I1
        exact ⟨B2, P2, s1.trans s2, I2⟩
/-- ahead of a statement names may be put to rest -/
noncomputable def sFrz (js : List Nat) (g : SF) (τ : SD) : Fl := g (frzAt js τ)
theorem s_frz (js : List Nat) (h : PS X st (tMS X.K Y g)) : PS X st (tMS X.K Y (sFrz js g)) := PS.imp h fun E σ H hq => ex7 hq fun H0 B0 B τ P I h => by
  obtain ⟨B', P', s, I'⟩ := I.frzAt js
  exact ⟨H0, B0, B', _, P', I', GoalS.later h (Aft.grow I' s (Same.refl _))⟩
/-! ### a name's list is changed -/
/-- the slot's list -/
noncomputable def ownL (τ : SD) (i : Nat) : Option (List D) := match τ[i]? with | some (some (.lst .own xs)) => some xs | _ => none
theorem ownL_some {τ : SD} {i : Nat} {xs : List D} (h : ownL τ i = some xs) : τ[i]? = some (some (.lst .own xs)) := by
  unfold ownL at h
  split at h
  · rename_i e; cases h; exact e
  · cases h
/-- the list at its address is written; the new items -/
theorem SI.mutL {i : Nat} {xs xs' : List D} {gp : List Addr} {a : Addr} {vs vs' : List V} (I : SI K H0 B0 B H σ τ P No) (hi : τ[i]? = some (some (.lst .own xs))) (ev : σ[i]? = some (some (.ref a)))
    (k : Vok H0 B H P No gp)
    (items : ∀ f, H a = some (.lst vs) → RepL K B No H xs vs f → ∃ f', RepL K B No H xs' vs' f' ∧ (∀ b ∈ f', b ∈ f ∨ b ∈ gp) ∧ (f.Nodup → (∀ b ∈ gp, b ∉ f) → f'.Nodup)) (hv : H a = some (.lst vs)) :
    ∃ P', Aft K H0 B0 B H B (upd H a (.lst vs')) σ (τ.set i (some (.lst .own xs'))) P' := by
  have hi' : i < τ.length := (List.getElem?_eq_some_iff.mp hi).1
  obtain ⟨A, f, C, e, h1, h2⟩ := I.rep.cut hi'
  obtain ⟨v, e1, r1⟩ := h1 _ hi
  rw [ev] at e1
  cases e1
  obtain ⟨a', ws, g, ea, hq, rl, ef⟩ := r1
  cases ea
  rw [hv] at hq
  cases hq
  subst ef
  have nd0 := I.nd
  rw [e] at nd0
  have ndf : (a :: g).Nodup := (nd0.sublist (List.sublist_append_left _ _)).sublist (List.sublist_append_right _ _)
  have gdis : ∀ b ∈ gp, b ∉ a :: g := fun b m z => (k.own b m).2.2.2.1 (by rw [e]; exact sublist_mid _ _ _ b z)
  obtain ⟨f', r', s', n'⟩ := items g hv rl
  obtain ⟨na, ng⟩ := List.nodup_cons.mp ndf
  have hna : a ∉ f' := fun m => (s' a m).elim na fun z => gdis a z List.mem_cons_self
  have es : σ.set i (some (.ref a)) = σ := by
    refine List.ext_getElem? fun k => ?_
    by_cases hk : k = i
    · subst hk
      rw [List.getElem?_set_self (List.getElem?_eq_some_iff.mp ev).1, ev]
    · rw [List.getElem?_set_ne (Ne.symm hk)]
  have kp : Keep H (upd H a (.lst vs')) [a] := ⟨fun b o h n => by rw [upd_ne (by simpa using n)]; exact h, fun b m => by
    have : b = a := by simpa using m
    subst this
    exact ⟨_, hv, trivial⟩⟩
  have kpf : Keep H (upd H a (.lst vs')) (a :: g) := ⟨fun b o h n => kp.keep b o h (fun z => n (List.mem_cons.mpr (.inl (List.mem_singleton.mp z)))), fun b m => I.rep.own b (by rw [e]; exact sublist_mid _ _ _ b m)⟩
  have key := I.put (i := i) (H1 := upd H a (.lst vs')) (d' := .lst .own xs') (v' := .ref a) (f' := a :: f') hi' e h2 kpf ⟨a, vs', f', rfl, upd_same, r'.keep kp fun b m => by
      have : b ≠ a := fun z => hna (z ▸ m)
      simpa using this, rfl⟩ (List.nodup_cons.mpr ⟨hna, n' ng fun b m z => gdis b m (List.mem_cons_of_mem _ z)⟩) fun b m => ?_
  · rw [es] at key
    exact ⟨_, key, Same.refl _, fun b o h n => kp.imm h n⟩
  · rcases List.mem_cons.mp m with q | q
    · exact .inl (by simp [q])
    · rcases s' b q with z | z
      · exact .inl (List.mem_cons_of_mem _ z)
      · obtain ⟨a1, a2, a3, a4, a5⟩ := k.own b z
        exact .inr (.inr ⟨a4, a1, a2, a5⟩)
end
end DL
set_option Elab.async false
set_option linter.all false
set_option maxRecDepth 100000
set_option maxHeartbeats 4000000
namespace DL
open PySem PySem.Spec PyProof.Rows L2
section
variable {K : PySem.W.Frag} {Y : XY} {H0 B0 B H : Hp} {σ : L2.St} {τ : SD} {P : List Addr} {F : Addr → Prop} {E : Ends} {X : Cx} {pos : Pos} {e c : Expr} {fe : SD → Res D} {gc : SD → Res Bool}
/-! ### xs.append(e) and its like: the name stands in the slot i -/
theorem SI.listAt {i : Nat} {xs : List D} (I : SI K H0 B0 B H σ τ P F) (h : τ[i]? = some (some (.lst .own xs))) : ∃ a vs, σ[i]? = some (some (.ref a)) ∧ H a = some (.lst vs) ∧ xs.length = vs.length := by
  obtain ⟨v, f, h1, h2, h3⟩ := I.rep.get h
  obtain ⟨a, vs, g, rfl, q, r, z⟩ := h2
  exact ⟨a, vs, h1, q, r.length⟩
noncomputable def sApp (i : Nat) (f : SD → Res D) (τ : SD) : Fl := match ownL τ i with
  | some xs => (f τ).toFl τ fun d => if d.hasBor = true then .bad else if xs.length < 16777216 then .nx (τ.set i (some (.lst .own (xs ++ [d])))) else .bad
  | none => .bad
theorem s_app (i : Nat) {x : Str} {p1 apos cpos : Pos} (he : PE X e (tM X.K Y fe)) (hN : X.N[i]? = some x := by rfl) (hv : Vis X.env.scope x := by first | exact Or.inl rfl | exact Or.inr (Or.inl rfl) | exact Or.inr (Or.inr rfl)) (hd : (x == ("__debug__" : Str)) = false := by decide) (hcd : (x == ("__classdict__" : Str)) = false := by decide)
    (hbase : attributeBase (.Name x p1) "append" X.env (eval (.Name x p1) X.env) = eval (.Name x p1) X.env := by rfl)
    (hfew : ((backTo cpos (starEach [e] X.env)).all (fun x => !x.1) && (backToKw cpos (keywordEach [] X.env)).all (fun x => x.1.isSome)
      && decide ([e].length + ([] : List Keyword).length + (if ([] : List Keyword).isEmpty then 0 else 1) < 30)) = true := by rfl)
    (hline : (apos.endLine == cpos.line) = true := by rfl) (hs : starEach [e] X.env = (false, eval e X.env) :: starEach [] X.env := by rfl) (hplain : (backTo cpos (starEach [] X.env)).any (·.1) = false := by rfl)
    (hsw : swapsWith (.Call (.Attribute (.Name x p1) "append" apos) [e] [] cpos) none pos.line X.env = pure false := by rfl) :
    PS X (.Expr (.Call (.Attribute (.Name x p1) "append" apos) [e] [] cpos) pos) (tMS X.K Y (sApp i fe)) := by
  refine PS.imp (ps_expr (pe_bm PySem.F.plainAttrs_list PySem.F.slot_list_append PySem.F.type_list_append mt_append (pe_var hN hv hd hcd) (pa_cons he pa_nil hs) hbase hfew hline hs hplain) hsw) fun E σ H hq => ex7 hq fun H0 B0 B τ P I h => ?_
  unfold sApp at h
  cases z : ownL τ i with
  | none => rw [z] at h; exact h.elim
  | some xs =>
    rw [z] at h
    have hi := ownL_some z
    obtain ⟨a, vs, ea, ha, hl⟩ := I.listAt hi
    refine ⟨.ref a, ea, .inl ⟨rfl, vs, SqL.of ha⟩, exprS I h fun d v H1 B1 fp _ I1 s1 b1 r1 k1 h1 => ?_⟩
    split at h1
    · exact h1.elim
    · rename_i hb
      split at h1
      · rename_i hz
        have ha1 := s1 a _ ha
        refine ⟨a, vs, v, rfl, rfl, ha1, by rw [← hl, sizeLine_eq]; exact hz, ?_⟩
        obtain ⟨P', I'⟩ := I1.mutL (xs' := xs ++ [d]) (vs' := vs ++ [v]) hi ea k1 (fun f _ rl => ⟨f ++ fp, rl.append (RepL.one (r1.noBor (by simpa using hb))), fun b m => List.mem_append.mp m, fun nf dis => List.nodup_append.mpr ⟨nf, k1.nd, fun a ha b hb e => dis b hb (e ▸ ha)⟩⟩) ha1
        exact h1 B1 _ σ P' I'
      · exact h1.elim
noncomputable def sRev (i : Nat) (τ : SD) : Fl := match ownL τ i with | some xs => .nx (τ.set i (some (.lst .own xs.reverse))) | none => .bad
theorem RepL.reverse {S : Addr → Prop} : ∀ {xs : List D} {vs : List V} {f : List Addr}, RepL K B S H xs vs f → ∃ g, RepL K B S H xs.reverse vs.reverse g ∧ f.Perm g
  | [], vs, f, r => by obtain ⟨rfl, rfl⟩ := r; exact ⟨[], ⟨rfl, rfl⟩, List.Perm.refl _⟩
  | d :: ds, vs, f, r => by
    obtain ⟨v, w, f1, f2, rfl, r1, r2, rfl⟩ := r
    obtain ⟨g, h1, h2⟩ := RepL.reverse r2
    refine ⟨g ++ f1, ?_, List.perm_append_comm.trans (h2.append_right f1)⟩
    rw [List.reverse_cons, List.reverse_cons]
    exact h1.append (RepL.one r1)
theorem s_rev (i : Nat) {x : Str} {p1 apos cpos : Pos} (hN : X.N[i]? = some x := by rfl) (hv : Vis X.env.scope x := by first | exact Or.inl rfl | exact Or.inr (Or.inl rfl) | exact Or.inr (Or.inr rfl)) (hd : (x == ("__debug__" : Str)) = false := by decide) (hcd : (x == ("__classdict__" : Str)) = false := by decide)
    (hbase : attributeBase (.Name x p1) "reverse" X.env (eval (.Name x p1) X.env) = eval (.Name x p1) X.env := by rfl) (hline : (apos.endLine == cpos.line) = true := by rfl)
    (hsw : swapsWith (.Call (.Attribute (.Name x p1) "reverse" apos) [] [] cpos) none pos.line X.env = pure false := by rfl) :
    PS X (.Expr (.Call (.Attribute (.Name x p1) "reverse" apos) [] [] cpos) pos) (tMS X.K Y (sRev i)) := by
  refine PS.imp (ps_expr (pe_bm0 PySem.F.plainAttrs_list PySem.F.slot_list_reverse PySem.F.type_list_reverse mt_reverse (pe_var hN hv hd hcd) hbase hline) hsw) fun E σ H hq => ex7 hq fun H0 B0 B τ P I h => ?_
  unfold sRev at h
  cases z : ownL τ i with
  | none => rw [z] at h; exact h.elim
  | some xs =>
    rw [z] at h
    have hi := ownL_some z
    obtain ⟨a, vs, ea, ha, hl⟩ := I.listAt hi
    refine ⟨.ref a, ea, .inl ⟨rfl, vs, SqL.of ha⟩, a, vs, rfl, rfl, ha, ?_⟩
    obtain ⟨P', I'⟩ := I.mutL (xs' := xs.reverse) (vs' := vs.reverse) (gp := []) hi ea Vok.nil (fun f _ rl => let ⟨g, h1, h2⟩ := rl.reverse; ⟨g, h1, fun b m => .inl (h2.mem_iff.mpr m), fun nf _ => h2.nodup_iff.mp nf⟩) ha
    exact h B _ σ P' I'
/-! ### what a loop walks -/
/-- the iterator gives these things, one after another, whatever comes meanwhile -/
structure ItD (K : PySem.W.Frag) (J : It) (ds : List D) (B H : Hp) : Prop where
  go : ∀ B' H' i d, Same B B' → Same B' H' → Imm H H' → ds[i]? = some d → J.go i H'
  yld : ∀ B' H' i d x H'', Same B B' → Same B' H' → Imm H H' → ds[i]? = some d → J.yld i H' x H'' → Same H' H'' ∧ Rep K B' No H'' d x []
  stop : ∀ B' H', Same B B' → Same B' H' → Imm H H' → J.stop ds.length H'
/-- .. of the things of a value that owns fp (fl: it looks at what the names own), once that is put to rest -/
noncomputable def ItAll (K : PySem.W.Frag) (J : It) (ds : List D) (fl : Bool) (B H : Hp) (P fp : List Addr) : Prop :=
  ∀ Bx : Hp, Same B Bx → Same Bx H → (∀ a ∈ fp, ∀ o, H a = some o → Bx a = some o) → (fl = true → ∀ a ∈ P, ∀ o, H a = some o → Bx a = some o) → ItD K J (frzL ds) Bx H
noncomputable def tMI (K : PySem.W.Frag) (Y : XY) (f : SD → Res (Bool × List D)) : TI := fun σ H R => ∃ H0 B0 B τ P F, SI K H0 B0 B H σ τ P F ∧ match f τ with
  | .ok (fl, ds) => ∀ J H' B' fp, SI K H0 B0 B' H' σ τ P F → Same H H' → Same B B' → Vok H0 B' H' P F fp → ItAll K J ds fl B' H' P fp → R J H'
  | .exn C => OutX K Y H0 B0 B H σ τ P F C
  | .bad => False
theorem PI.imp {tg it : Expr} {t t' : TI} (h : PI X tg it t) (hi : ∀ σ H R, t' σ H R → t σ H R) : PI X tg it t' := fun pins s σ H R I hw => h pins s σ H R I (hi σ H R hw)
/-- over a list or a tuple -/
noncomputable def itemsD : D → Res (Bool × List D)
  | .lst t xs => .ok ((D.lst t xs).hasBor, xs)
  | .tup xs => .ok ((D.tup xs).hasBor, xs)
  | _ => .bad
noncomputable def eIt (f : SD → Res D) (τ : SD) : Res (Bool × List D) := (f τ).bind itemsD
theorem pi_seq {tg l : Expr} {tl : TE} (hl : PE X l tl) : PI X tg l (fun σ H R => tl σ H fun x H1 => (∃ a, x = .ref a ∧ (∃ xs, SqL X.K H1 a xs) ∧ R (Itl X.K a) H1) ∨ ∃ a, x = .ref a ∧ (∃ xs, SqT X.K H1 a xs) ∧ R (Itt X.K a) H1) := by
  intro pins s σ H R I h
  refine thn (hl pins s σ H _ I h) fun v s1 hq5 => L2.ex5 hq5 fun x H1 I1 r1 q1 => ?_
  rcases q1 with ⟨a, e, ⟨xs, hq⟩, q⟩ | ⟨a, e, ⟨xs, hq⟩, q⟩
  · subst e
    cases r1
    obtain ⟨its, rv, p, hz⟩ := I1.list hq
    refine wpAny_pyIter_list p.isList ?_
    refine ⟨s1.heap.objs.size, [s1.heap.objs.size], _, _, H1, rfl, I1.kept (t' := s1.toks) fun b o e => Heap.get?_push_of_some _ e, turn_list a _, ⟨_, Heap.get?_push_size _ rfl, rfl, rfl⟩, fun b hb => ?_, q⟩
    have e : b = s1.heap.objs.size := by simpa using hb
    subst e
    exact I1.fpOk (Nat.le_refl _) (I1.hok.fresh (Nat.le_refl _))
  · subst e
    cases r1
    obtain ⟨its, rv, p, hz⟩ := I1.tuple hq
    refine wpAny_pyIter_tuple (show s1.heap.IsTuple a its.toArray from p) ?_
    refine ⟨s1.heap.objs.size, [s1.heap.objs.size], _, _, H1, rfl, I1.kept (t' := s1.toks) fun b o e => Heap.get?_push_of_some _ e, turn_tuple a _, ⟨_, Heap.get?_push_size _ rfl, rfl, rfl⟩, fun b hb => ?_, q⟩
    have e : b = s1.heap.objs.size := by simpa using hb
    subst e
    exact I1.fpOk (Nat.le_refl _) (I1.hok.fresh (Nat.le_refl _))
/-- what is owned by a value is put to rest -/
theorem SI.restV {fp : List Addr} (I : SI K H0 B0 B H σ τ P F) (k : Vok H0 B H P F fp) : SI K H0 B0 (atRest B H (· ∈ fp)) H σ τ P F ∧ Same B (atRest B H (· ∈ fp)) := by
  have sB : Same B (atRest B H (· ∈ fp)) := rest_same I.bh
  refine ⟨⟨rest_up I.bh, I.h0, I.b0.trans sB, fun a n => ?_, I.rep.mono (Same.refl _) sB, I.nd, fun a m => ?_, fun a m => ?_⟩, sB⟩
  · by_cases m : a ∈ fp
    · exact .inr (k.own a m).2.1
    · rw [rest_out m] at n; exact I.nb a n
  · obtain ⟨a1, a2, a3⟩ := I.own a m
    exact ⟨by rw [rest_out fun z => (k.own a z).2.2.2.1 m]; exact a1, a2, a3⟩
  · obtain ⟨a1, a2⟩ := I.fr a m
    exact ⟨by rw [rest_out fun z => (k.own a z).2.2.2.2 m]; exact a1, a2⟩
mutual
/-- what owns nothing stays -/
theorem Rep.stay {B B' H H' : Hp} (sB : Same B B') (im : Imm H H') : ∀ {d : D} {v : V} {fp : List Addr}, fp = [] → Rep K B No H d v fp → Rep K B' No H' d v fp
  | .non, _, _, _, h => h
  | .bl _, _, _, _, h => h
  | .int _, _, _, _, h => h
  | .str _, _, _, _, h => h
  | .exc _, _, _, _, h => let ⟨⟨a, e, t, tb, u, h1⟩, r⟩ := h; ⟨⟨a, e, t, tb, u, im _ _ h1 (fun x => x)⟩, r⟩
  | .tup xs, v, fp, ef, h => by
    obtain ⟨a, vs, e, q, r⟩ := h
    exact ⟨a, vs, e, im _ _ q (fun x => x), RepL.stay sB im ef r⟩
  | .lst .own xs, v, fp, ef, h => by obtain ⟨a, vs, f, e, q, r, z⟩ := h; rw [ef] at z; cases z
  | .lst .bor xs, v, fp, ef, h => let ⟨a, vs, e, q, r, z⟩ := h; ⟨a, vs, e, .inr (rd_mono sB (q.resolve_left fun y => y.1)), RepL.stay sB im rfl r, z⟩
  | .lst .frz xs, v, fp, ef, h => let ⟨a, vs, e, q, r, z⟩ := h; ⟨a, vs, e, rd_mono sB q, RepL.stay sB im rfl r, z⟩
  | .dct .own kd ks xs, v, fp, ef, h => by obtain ⟨a, vs, f, e, q, r, z⟩ := h; rw [ef] at z; cases z
  | .dct .bor kd ks xs, v, fp, ef, h => let ⟨a, vs, e, q, r, z⟩ := h; ⟨a, vs, e, .inr ((q.resolve_left fun y => y.1).mono sB), RepL.stay sB im rfl r, z⟩
  | .dct .frz kd ks xs, v, fp, ef, h => let ⟨a, vs, e, q, r, z⟩ := h; ⟨a, vs, e, q.mono sB, RepL.stay sB im rfl r, z⟩
theorem RepL.stay {B B' H H' : Hp} (sB : Same B B') (im : Imm H H') : ∀ {ds : List D} {vs : List V} {fp : List Addr}, fp = [] → RepL K B No H ds vs fp → RepL K B' No H' ds vs fp
  | [], _, _, _, h => h
  | d :: ds, vs, fp, ef, h => by
    obtain ⟨v, r, f, g, e, h1, h2, z⟩ := h
    rw [ef] at z
    obtain ⟨z1, z2⟩ := nil_of_append z
    exact ⟨v, r, f, g, e, Rep.stay sB im z1 h1, RepL.stay sB im z2 h2, by rw [ef, z1, z2]; rfl⟩
end
theorem sub_nil {f : List Addr} (h : List.Sublist f []) : f = [] := List.sublist_nil.mp h
theorem itd_list {a : Addr} {ds : List D} {vs : List V} (q : SqL K B a vs) (r : RepL K B No H ds vs []) : ItD K (Itl K a) ds B H where
  go := fun B' H' i d s1 s2 im e => by
    obtain ⟨v, f, h1, _⟩ := r.get e
    exact ⟨vs, v, sqL_of (rd_mono (s1.trans s2) q), h1⟩
  yld := fun B' H' i d x H'' s1 s2 im e y => by
    obtain ⟨rfl, y⟩ := y
    obtain ⟨v, f, h1, h2, h3⟩ := r.get e
    have z := y vs (sqL_of (rd_mono (s1.trans s2) q))
    rw [h1] at z
    cases z
    cases sub_nil h3
    exact ⟨Same.refl _, h2.stay s1 im rfl⟩
  stop := fun B' H' s1 s2 im => ⟨vs, sqL_of (rd_mono (s1.trans s2) q), by rw [r.length]; exact Nat.le_refl _⟩
theorem sqT_imm {a : Addr} {vs : List V} {H' : Hp} (im : Imm H H') (q : SqT K H a vs) : SqT K H' a vs := by
  rcases q with (q | ⟨o, q⟩) | q
  · exact .inl (.inl (im _ _ q (fun x => x)))
  · exact .inl (.inr ⟨o, im _ _ q (fun x => x)⟩)
  · exact .inr q
theorem itd_tup {a : Addr} {ds : List D} {vs : List V} (q : SqT K H a vs) (r : RepL K B No H ds vs []) : ItD K (Itt K a) ds B H where
  go := fun B' H' i d s1 s2 im e => by
    obtain ⟨v, f, h1, _⟩ := r.get e
    exact ⟨vs, v, sqT_imm im q, h1⟩
  yld := fun B' H' i d x H'' s1 s2 im e y => by
    obtain ⟨rfl, y⟩ := y
    obtain ⟨v, f, h1, h2, h3⟩ := r.get e
    have z := y vs (sqT_imm im q)
    rw [h1] at z
    cases z
    cases sub_nil h3
    exact ⟨Same.refl _, h2.stay s1 im rfl⟩
  stop := fun B' H' s1 s2 im => ⟨vs, sqT_imm im q, by rw [r.length]; exact Nat.le_refl _⟩
theorem itd_range {lo : Int} {n : Nat} : ItD K (Itr lo n) ((List.range n).map fun k : Nat => D.int (lo + k)) B H where
  go := fun B' H' i d s1 s2 im e => by
    have := (List.getElem?_eq_some_iff.mp e).1
    show i < n
    simpa using this
  yld := fun B' H' i d x H'' s1 s2 im e y => by
    obtain ⟨rfl, rfl⟩ := y
    have hi := (List.getElem?_eq_some_iff.mp e).1
    rw [List.length_map, List.length_range] at hi
    rw [List.getElem?_map, List.getElem?_range hi] at e
    cases e
    exact ⟨Same.refl _, rfl, rfl⟩
  stop := fun B' H' s1 s2 im => by
    show n ≤ _
    rw [List.length_map, List.length_range]
    exact Nat.le_refl _
theorem frz_for {Bx : Hp} {fp : List Addr} {d : D} {v : V} (r : Rep K B (· ∈ P) H d v fp) (sB : Same B Bx) (h1 : ∀ a ∈ fp, ∀ o, H a = some o → Bx a = some o) (h2 : d.hasBor = true → ∀ a ∈ P, ∀ o, H a = some o → Bx a = some o) : Rep K Bx No H d.frz v [] := by
  by_cases hb : d.hasBor = true
  · exact r.frz sB (fun a o s h => h2 hb a s o h) h1
  · exact (r.noBor (by simpa using hb)).frz sB (fun a o s => s.elim) h1
theorem qi_seq {tg : Expr} (he : PE X e (tM X.K Y fe)) : PI X tg e (tMI X.K Y (eIt fe)) := by
  refine PI.imp (pi_seq he) fun σ H R hq => ex8 hq fun H0 B0 B τ P F I h => ⟨H0, B0, B, τ, P, F, I, ?_⟩
  cases z : fe τ with
  | exn C => simp only [eIt, z, Res.bind_exn] at h; exact h
  | bad => simp only [eIt, z, Res.bind_bad] at h
  | ok d =>
    simp only [eIt, z, Res.bind_ok] at h
    intro v H1 B1 fp I1 s1 b1 r1 k1
    cases d with
    | lst t xs =>
      simp only [itemsD] at h
      obtain ⟨a, vs, g, rfl, q, _⟩ := r1.lst I1
      refine .inl ⟨a, rfl, ⟨vs, sqL_of q⟩, h _ H1 _ fp I1 s1 b1 k1 fun Bx sB sH h1 h2 => ?_⟩
      obtain ⟨a', ws, ea, q', rl, _⟩ : Rep X.K Bx No H1 (D.lst .frz (frzL xs)) (.ref a) [] := frz_for r1 sB h1 h2
      cases ea
      exact itd_list q' rl
    | tup xs =>
      simp only [itemsD] at h
      obtain ⟨a, vs, rfl, q, _⟩ := r1.tp
      refine .inr ⟨a, rfl, ⟨vs, q⟩, h _ H1 _ fp I1 s1 b1 k1 fun Bx sB sH h1 h2 => ?_⟩
      obtain ⟨a', ws, ea, q', rl⟩ : Rep X.K Bx No H1 (D.tup (frzL xs)) (.ref a) [] := frz_for r1 sB h1 h2
      cases ea
      exact itd_tup (SqT.of q') rl
    | _ => exact h.elim
theorem frzL_ints (f : Nat → Int) (l : List Nat) : frzL (l.map fun k => D.int (f k)) = l.map fun k => D.int (f k) := by
  induction l with
  | nil => rfl
  | cons a r ih => rw [List.map_cons, frzL, ih]; rfl
noncomputable def range1D : List D → Res (Bool × List D)
  | [.int j] => if -1000000000 ≤ j ∧ j ≤ 1000000000 then .ok (false, (List.range j.toNat).map fun k : Nat => .int (0 + k)) else .bad
  | _ => .bad
noncomputable def eRng1 (f : SD → Res (List D)) (τ : SD) : Res (Bool × List D) := (f τ).bind range1D
theorem rng1_imp {fs : SD → Res (List D)} {R : It → Hp → Prop} : tMI X.K Y (eRng1 fs) σ H R → iRng1 (tML X.K Y fs) σ H R := by
  rintro ⟨H0, B0, B, τ, P, F, I, h⟩
  refine ⟨H0, B0, B, τ, P, F, I, ?_⟩
  cases z : fs τ with
  | exn C => simp only [eRng1, z, Res.bind_exn] at h; exact h
  | bad => simp only [eRng1, z, Res.bind_bad] at h
  | ok ds =>
    simp only [eRng1, z, Res.bind_ok] at h
    intro vs H1 B1 fp I1 s1 b1 r1 k1
    cases y : range1D ds with
    | exn C => exfalso; unfold range1D at y; split at y <;> first | (split at y <;> cases y) | cases y
    | bad => rw [y] at h; exact h.elim
    | ok es =>
      rw [y] at h
      unfold range1D at y
      split at y
      · split at y
        · rename_i hc
          cases y
          obtain ⟨v, rfl, rfl, rfl⟩ := repL1 r1
          exact ⟨_, rfl, (by omega), (by omega), h _ H1 B1 [] I1 s1 b1 Vok.nil fun Bx _ _ _ _ => by rw [frzL_ints]; exact itd_range⟩
        · cases y
      · cases y
theorem qi_range1 {tg a : Expr} {fs : SD → Res (List D)} {p : Pos} (hg : Gl X "range") (hm : X.mg "range" = none) (ha : PA X [a] (tML X.K Y fs)) (hs : starEach [a] X.env = [(false, eval a X.env)] := by rfl) : PI X tg (.Call (.Name "range" p) [a] [] pos) (tMI X.K Y (eRng1 fs)) :=
  PI.imp (pi_range1 hg hm ha hs) fun σ H R h => rng1_imp h
/-! ### enumerate -/
noncomputable def enumD (xs : List D) : List D := xs.mapIdx fun i d => .tup [.int i, d]
noncomputable def eEnum (f : SD → Res (List D)) (τ : SD) : Res (Bool × List D) := (f τ).bind fun ds => match ds with | [d] => (itemsD d).map fun p => (p.1, enumD p.2) | _ => .bad
theorem frzL_mapIdx (xs : List D) : ∀ (f : Nat → Nat), frzL (xs.mapIdx fun i d => D.tup [.int (f i), d]) = (frzL xs).mapIdx fun i d => D.tup [.int (f i), d] := by
  induction xs with
  | nil => intro f; rfl
  | cons a r ih =>
    intro f
    rw [List.mapIdx_cons, frzL, frzL, List.mapIdx_cons]
    exact congrArg _ (ih fun i => f (i + 1))
theorem frzL_enum (xs : List D) : frzL (enumD xs) = enumD (frzL xs) := frzL_mapIdx xs id
theorem itd_enum {src : Hp → List V → Prop} {ds : List D} {vs : List V} (r : RepL K B No H ds vs []) (q : ∀ B' H' : Hp, Same B B' → Same B' H' → Imm H H' → src H' vs) : ItD K (Ite src) (enumD ds) B H where
  go := fun B' H' i d s1 s2 im e => by
    have hi := (List.getElem?_eq_some_iff.mp e).1
    unfold enumD at hi
    rw [List.length_mapIdx, r.length] at hi
    exact ⟨vs, vs[i], q B' H' s1 s2 im, List.getElem?_eq_getElem hi⟩
  yld := fun B' H' i d x H'' s1 s2 im e y => by
    obtain ⟨p, w, rfl, hp, rfl, hy⟩ := y
    have hi := (List.getElem?_eq_some_iff.mp e).1
    unfold enumD at hi e
    rw [List.length_mapIdx] at hi
    rw [List.getElem?_mapIdx, List.getElem?_eq_getElem hi] at e
    cases e
    have z := hy vs (q B' H' s1 s2 im)
    obtain ⟨v, f, h1, h2, h3⟩ := r.get (List.getElem?_eq_getElem hi)
    rw [z] at h1
    cases h1
    cases sub_nil h3
    have s := sameUpd' (o := .tup [.int i, w]) hp
    exact ⟨s, p, [.int i, w], rfl, upd_same, .int i, [w], [], [], rfl, ⟨rfl, rfl⟩, RepL.one ((h2.stay s1 im rfl).mono s (Same.refl _) (fun _ x => x)), rfl⟩
  stop := fun B' H' s1 s2 im => ⟨vs, q B' H' s1 s2 im, by unfold enumD; rw [List.length_mapIdx, r.length]; exact Nat.le_refl _⟩
/-- enumerate over a list or a tuple -/
theorem pi_enumS {elts : List Expr} {x1 : Nat} {tp p : Pos} {l : Expr} {ta : TA} (hg : Gl X "enumerate") (hm : X.mg "enumerate" = none) (ha : PA X [l] ta) (hs : starEach [l] X.env = [(false, eval l X.env)] := by rfl) :
    PI X (.Tuple elts x1 tp) (.Call (.Name "enumerate" p) [l] [] pos) (fun σ H R => ta σ H fun vs H1 => (∃ a xs, vs = [.ref a] ∧ SqL X.K H1 a xs ∧ R (Ite fun H xs => SqL X.K H a xs) H1) ∨ ∃ a xs, vs = [.ref a] ∧ SqT X.K H1 a xs ∧ R (Ite fun H xs => SqT X.K H a xs) H1) := by
  intro pins s σ H R I h
  refine wpAny_Call_Name_kw (ld_blt I hg hm (by decide +kernel : bootBuiltins "enumerate" = some (.type "enumerate")) ?_)
  refine PyProof.Rows.callWith_type1 (thn (ha pos pins s σ H _ I h) fun us s1 hq5 => L2.ex5 hq5 fun vs H1 I1 r1 q1 => ?_) hs rfl
  rcases q1 with ⟨a, xs, rfl, hq, q⟩ | ⟨a, xs, rfl, hq, q⟩
  · obtain ⟨u, rfl, ru⟩ := vals1 r1
    cases ru
    obtain ⟨its, rv, pl, hz⟩ := I1.list hq
    refine call_enumerate_list pl.isList fun h' e1 e2 e3 e4 => wpAny_pyIter_enum e1 ?_
    have I2 : Inv X pins σ H1 { s1 with heap := h' } := I1.kept (t' := s1.toks) e4
    obtain ⟨o, c1, c2, c3⟩ := e2
    refine ⟨_, _, _, _, H1, rfl, I2, turn_enum (src_list a s1.heap.objs.size) (Nat.succ_ne_self _), ⟨⟨_, e1⟩, o, c1, c2, c3⟩, fun b hb => ?_, q⟩
    rcases List.mem_cons.mp hb with z | z
    · subst z
      exact I1.fpOk (Nat.le_succ _) (I1.hok.fresh (Nat.le_succ _))
    · have z : b = s1.heap.objs.size := by simpa using z
      subst z
      exact I1.fpOk (Nat.le_refl _) (I1.hok.fresh (Nat.le_refl _))
  · obtain ⟨u, rfl, ru⟩ := vals1 r1
    cases ru
    obtain ⟨its, rv, pl, hz⟩ := I1.tuple hq
    refine call_enum_tup (isTuple_of pl) fun h' e1 e2 e4 => wpAny_pyIter_enum e1 ?_
    have I2 : Inv X pins σ H1 { s1 with heap := h' } := I1.kept (t' := s1.toks) e4
    obtain ⟨o, c1, c2, c3⟩ := e2
    refine ⟨_, _, _, _, H1, rfl, I2, turn_enum (src_tup a s1.heap.objs.size) (Nat.succ_ne_self _), ⟨⟨_, e1⟩, o, c1, c2, c3⟩, fun b hb => ?_, q⟩
    rcases List.mem_cons.mp hb with z | z
    · subst z
      exact I1.fpOk (Nat.le_succ _) (I1.hok.fresh (Nat.le_succ _))
    · have z : b = s1.heap.objs.size := by simpa using z
      subst z
      exact I1.fpOk (Nat.le_refl _) (I1.hok.fresh (Nat.le_refl _))
theorem qi_enum {elts : List Expr} {x1 : Nat} {tp p : Pos} {l : Expr} {fs : SD → Res (List D)} (hg : Gl X "enumerate") (hm : X.mg "enumerate" = none) (ha : PA X [l] (tML X.K Y fs)) (hs : starEach [l] X.env = [(false, eval l X.env)] := by rfl) :
    PI X (.Tuple elts x1 tp) (.Call (.Name "enumerate" p) [l] [] pos) (tMI X.K Y (eEnum fs)) := by
  refine PI.imp (pi_enumS hg hm ha hs) fun σ H R hq => ex8 hq fun H0 B0 B τ P F I h => ⟨H0, B0, B, τ, P, F, I, ?_⟩
  cases z : fs τ with
  | exn C => simp only [eEnum, z, Res.bind_exn] at h; exact h
  | bad => simp only [eEnum, z, Res.bind_bad] at h
  | ok ds =>
    simp only [eEnum, z, Res.bind_ok] at h
    intro vs H1 B1 fp I1 s1 b1 r1 k1
    match ds, r1, h with
    | [d], r1, h =>
      obtain ⟨v, rfl, r1'⟩ := repL1 r1
      simp only at h
      cases d with
      | lst t xs =>
        simp only [itemsD, Res.map_ok] at h
        obtain ⟨a, vs, g, rfl, q, _⟩ := r1'.lst I1
        refine .inl ⟨a, vs, rfl, sqL_of q, h _ H1 _ fp I1 s1 b1 k1 fun Bx sB sH h1 h2 => ?_⟩
        obtain ⟨a', ws, ea, q', rl, _⟩ : Rep X.K Bx No H1 (D.lst .frz (frzL xs)) (.ref a) [] := frz_for r1' sB h1 h2
        cases ea
        rw [frzL_enum]
        exact itd_enum rl fun B' H' z1 z2 _ => sqL_of (rd_mono (z1.trans z2) q')
      | tup xs =>
        simp only [itemsD, Res.map_ok] at h
        obtain ⟨a, vs, rfl, q, _⟩ := r1'.tp
        refine .inr ⟨a, vs, rfl, q, h _ H1 _ fp I1 s1 b1 k1 fun Bx sB sH h1 h2 => ?_⟩
        obtain ⟨a', ws, ea, q', rl⟩ : Rep X.K Bx No H1 (D.tup (frzL xs)) (.ref a) [] := frz_for r1' sB h1 h2
        cases ea
        rw [frzL_enum]
        exact itd_enum rl fun B' H' z1 z2 im => sqT_imm im (SqT.of q')
      | _ => exact h.elim
    | [], r1, h => exact h.elim
    | _ :: _ :: _, r1, h => exact h.elim
/-! ### targets -/
noncomputable abbrev TGD := D → SD → Option SD
noncomputable def tMG (K : PySem.W.Frag) (g : TGD) : TG := fun v σ H Q => ∃ H0 B0 B τ P F d fp, SI K H0 B0 B H σ τ P F ∧ Rep K B No H d v fp ∧ Vok H0 B H P F fp ∧ match g d τ with
  | some τ' => ∀ H' σ' P', SI K H0 B0 B H' σ' τ' P' F → H' = H → Q σ' H'
  | none => False
noncomputable def gN (i : Nat) (d : D) (τ : SD) : Option SD := some (τ.set i (some d))
theorem PG.imp {tg : Expr} {t t' : TG} (h : PG X tg t) (hi : ∀ v σ H Q, t' v σ H Q → t v σ H Q) : PG X tg t' := fun pins s σ H v u Q I r hw => h pins s σ H v u Q I r (hi v σ H Q hw)
theorem g_name {i : Nat} {x : Str} (hN : X.N.Nodup) (hi : X.N[i]? = some x) (hx : Loc X.env.scope x) (hf : X.fn x = true ∨ X.env.scope.names.lookup x = some .local := by first | exact .inl rfl | exact .inr rfl) : PG X (.Name x pos) (tMG X.K (gN i)) :=
  PG.imp (pg_name hN hi hx hf) fun v σ H Q hq => ex12 hq fun H0 B0 B τ P F d fp I r k h => by
    obtain ⟨P', I', _⟩ := I.set i r k
    exact h H _ P' I' rfl
noncomputable abbrev TGDs := List D → SD → Option SD
noncomputable def tMGs (K : PySem.W.Frag) (g : TGDs) : TGs := fun vs σ H Q => ∃ H0 B0 B τ P F ds fp, SI K H0 B0 B H σ τ P F ∧ RepL K B No H ds vs fp ∧ Vok H0 B H P F fp ∧ match g ds τ with
  | some τ' => ∀ H' σ' P', SI K H0 B0 B H' σ' τ' P' F → H' = H → Q σ' H'
  | none => False
noncomputable def gsNil (ds : List D) (τ : SD) : Option SD := match ds with | [] => some τ | _ => none
/-- a name, then others -/
noncomputable def gsCons (i : Nat) (g : TGDs) (ds : List D) (τ : SD) : Option SD := match ds with | d :: r => g r (τ.set i (some d)) | [] => none
theorem PGs.imp {tgs : List Expr} {t t' : TGs} (h : PGs X tgs t) (hi : ∀ v σ H Q, t' v σ H Q → t v σ H Q) : PGs X tgs t' := fun pins s σ H v u Q I r hw => h pins s σ H v u Q I r (hi v σ H Q hw)
theorem gs_nil : PGs X [] (tMGs X.K gsNil) := PGs.imp pgs_nil fun vs σ H Q hq => ex12 hq fun H0 B0 B τ P F ds fp I r k h => by
  cases ds with
  | nil => exact ⟨r.1, h H σ P I rfl⟩
  | cons d ds => exact h.elim
theorem gs_cons {i : Nat} {x : Str} {es : List Expr} {g : TGDs} (hN : X.N.Nodup) (hi : X.N[i]? = some x) (hx : Loc X.env.scope x) (h2 : PGs X es (tMGs X.K g)) (hf : X.fn x = true ∨ X.env.scope.names.lookup x = some .local := by first | exact .inl rfl | exact .inr rfl)
    (hs : (assignEach (.Name x pos :: es) X.env).map (·.2) = assign (.Name x pos) X.env :: (assignEach es X.env).map (·.2) := by rfl) : PGs X (.Name x pos :: es) (tMGs X.K (gsCons i g)) :=
  PGs.imp (pgs_cons (pg_name hN hi hx hf) h2 hs) fun vs σ H Q hq => ex12 hq fun H0 B0 B τ P F ds fp I r k h => by
    cases ds with
    | nil => exact h.elim
    | cons d ds =>
      obtain ⟨v, w, f1, f2, rfl, r1, r2, rfl⟩ := r
      obtain ⟨P', I', s'⟩ := I.set i r1 k.left
      refine ⟨v, w, rfl, H0, B0, B, _, P', F, ds, f2, I', r2, ⟨k.right.nd, fun a m => ?_⟩, h⟩
      obtain ⟨a1, a2, a3, a4, a5⟩ := k.right.own a m
      refine ⟨a1, a2, a3, fun z => ?_, a5⟩
      rcases s' a z with y | y
      · exact a4 y
      · exact (List.nodup_append.mp k.nd).2.2 a y a m rfl
noncomputable def gT (n : Nat) (g : TGDs) (d : D) (τ : SD) : Option SD := match d with | .tup ds => if ds.length = n then g ds τ else none | _ => none
theorem g_tup {es : List Expr} {k : Nat} {g : TGDs} {n : Nat} (hc : X.calm = true) (h : PGs X es (tMGs X.K g))
    (hn : (assignEach es X.env).length = n := by rfl) (hst : (assignEach es X.env).findIdx? (·.1) = none := by rfl) : PG X (.Tuple es k pos) (tMG X.K (gT n g)) :=
  PG.imp (pg_tup hc h hn hst) fun v σ H Q hq => ex12 hq fun H0 B0 B τ P F d fp I r k h => by
    cases d with
    | tup ds =>
      obtain ⟨a, vs, rfl, q, rl⟩ := r
      unfold gT at h
      by_cases hl : ds.length = n
      · simp only [hl, if_true] at h
        exact ⟨a, vs, rfl, SqT.of q, by rw [← rl.length]; exact hl, H0, B0, B, τ, P, F, ds, fp, I, rl, k, h⟩
      · simp only [hl, if_false] at h
    | _ => exact h.elim
/-! ### for -/
noncomputable def forD (tg : TGD) (body : SF) : List D → SF
  | [], τ => .nx τ
  | d :: r, τ => match tg d τ with
    | none => .bad
    | some τ' => match body τ' with
      | .nx t => forD tg body r t
      | .ct t => forD tg body r t
      | .bk t => .nx t
      | o => o
noncomputable def sFor (js : List Nat) (it : SD → Res (Bool × List D)) (tg : TGD) (body : SF) (τ : SD) : Fl := match it (frzAt js τ) with
  | .ok (false, ds) => forD tg body (frzL ds) (frzAt js τ)
  | .ok (true, _) => .bad
  | .exn C => .ex C (frzAt js τ)
  | .bad => .bad
theorem s_for (js : List Nat) {tg iter : Expr} {body : List Stmt} {it : SD → Res (Bool × List D)} {tgd : TGD} {g : SF} (hp : PassesOwn (model X.prog X.w) X.A X.env X.xe) (hc : X.calm = true) (hi : PI X tg iter (tMI X.K Y it)) (hg : PG X tg (tMG X.K tgd)) (hb : PSs X body (tMS X.K Y g))
    (hs : ∀ x, foldedSetIterable iter X.env x = pure x := by intro _; rfl) : PS X (.For tg iter body [] pos) (tMS X.K Y (sFor js it tgd g)) := by
  refine PS.imp (ps_for hp hc hi hg hb hs) fun E σ H hq => ex7 hq fun H0 B0 B τ P I h => ?_
  obtain ⟨Bf, Pf, sf, If⟩ := I.frzAt js
  have h : GoalS X.K Y H0 B0 Bf H E (sFor js it tgd g τ) := GoalS.later h (Aft.grow If sf (Same.refl _))
  unfold sFor at h
  refine ⟨H0, B0, Bf, _, Pf, No, If, ?_⟩
  cases z : it (frzAt js τ) with
  | exn C => rw [z] at h; exact fun H1 B1 I1 s1 b1 => h B1 H1 σ Pf (Aft.grow I1 b1 s1)
  | bad => rw [z] at h; exact h.elim
  | ok q =>
    obtain ⟨fl, ds0⟩ := q
    rw [z] at h
    intro J H1 B1' fp I1' s1 b1' k1 JA
    cases fl with
    | true => exact h.elim
    | false =>
    obtain ⟨I1, b2⟩ := I1'.restV k1
    have b1 := b1'.trans b2
    have J1 := JA _ b2 (rest_up I1'.bh) (fun a m o h => rest_in m h) (fun z => Bool.noConfusion z)
    generalize atRest B1' H1 (· ∈ fp) = B1 at I1 b1 J1
    have h : GoalS X.K Y H0 B0 Bf H E (forD tgd g (frzL ds0) (frzAt js τ)) := h
    generalize frzL ds0 = ds at h J1
    have h : GoalS X.K Y H0 B0 B1 H1 E (forD tgd g ds (frzAt js τ)) := GoalS.later h (Aft.grow I1 b1 s1)
    refine ⟨fun i m σ' H' => m = ds.length - i ∧ i ≤ ds.length ∧ ∃ B' τ' P', Aft X.K H0 B0 B1 H1 B' H' σ' τ' P' ∧ GoalS X.K Y H0 B0 B' H' E (forD tgd g (ds.drop i) τ'), ⟨_, rfl, Nat.zero_le _, B1, _, Pf, Aft.refl I1, h⟩, ?_⟩
    rintro i m σ' H' ⟨rfl, hle, B', τ', P', a, gl⟩
    by_cases hlt : i < ds.length
    · obtain ⟨d, hd⟩ : ∃ d, ds[i]? = some d := ⟨ds[i], List.getElem?_eq_getElem hlt⟩
      have hdrop : ds.drop i = d :: ds.drop (i + 1) := by
        rw [List.drop_eq_getElem_cons hlt]
        congr 1
        rw [List.getElem?_eq_getElem hlt] at hd
        exact Option.some.inj hd
      rw [hdrop] at gl
      unfold forD at gl
      refine .inr ⟨J1.go B' H' i d a.b a.si.bh a.imm hd, fun σ2 H2 => ∃ B2 τ2 P2, Aft X.K H0 B0 B1 H1 B2 H2 σ2 τ2 P2 ∧ GoalS X.K Y H0 B0 B2 H2 E (forD tgd g (ds.drop (i + 1)) τ2), fun σ2 H2 w => ⟨_, by omega, rfl, hlt, w⟩, fun x H'' y => ?_⟩
      obtain ⟨sy, ry⟩ := J1.yld B' H' i d x H'' a.b a.si.bh a.imm hd y
      have Iy := a.si.grow sy
      refine ⟨H0, B0, B', τ', P', No, d, [], Iy, ry, Vok.nil, ?_⟩
      cases w : tgd d τ' with
      | none => rw [w] at gl; exact gl.elim
      | some τ2 =>
        rw [w] at gl
        intro H3 σ3 P3 I3 e3
        subst e3
        have ay : Aft X.K H0 B0 B' H' B' H3 σ3 τ2 P3 := ⟨I3, Same.refl _, Imm.of sy⟩
        refine ⟨H0, B0, B', τ2, P3, I3, ?_⟩
        cases u : g τ2 with
        | nx t =>
          simp only [u] at gl
          exact fun B4 H4 σ4 P4 a4 => ⟨B4, t, P4, (a.trans ay).trans a4, GoalS.later gl (ay.trans a4)⟩
        | ct t =>
          simp only [u] at gl
          exact fun B4 H4 σ4 P4 a4 => ⟨B4, t, P4, (a.trans ay).trans a4, GoalS.later gl (ay.trans a4)⟩
        | bk t =>
          simp only [u] at gl
          exact fun B4 H4 σ4 P4 a4 => gl B4 H4 σ4 P4 (ay.trans a4)
        | rt d => simp only [u] at gl; exact gl
        | ex C t => simp only [u] at gl; exact fun B4 H4 σ4 P4 a4 => gl B4 H4 σ4 P4 (ay.trans a4)
        | bad => simp only [u] at gl; exact gl
    · have e : i = ds.length := by omega
      subst e
      rw [List.drop_length] at gl
      exact .inl ⟨J1.stop B' H' a.b a.si.bh a.imm, gl B' H' σ' P' (Aft.refl a.si)⟩
/-! ### while -/
end
end DL
set_option Elab.async false
set_option linter.all false
set_option maxRecDepth 100000
set_option maxHeartbeats 4000000
/-! ### defs of the text -/
namespace DL
open PySem PySem.Spec PyProof.Rows L2
/-- what a def is worth: its answer by its arguments -/
noncomputable abbrev DF := List D → Res D
noncomputable def spF (K : PySem.W.Frag) (G : DF) : Sp := fun vs H Q _ => ∃ B0 ds, Same B0 H ∧ RepL K B0 No H ds vs [] ∧ match G ds with
  | .ok d => ∀ B' H' v fp, RetOk K H B0 B' H' d v fp → Q v H'
  | .exn _ => False
  | .bad => False
noncomputable def Res.noX (r : Res D) : Res D := match r with | .exn _ => .bad | r => r
@[simp] theorem Res.noX_ok (d : D) : (Res.ok d).noX = .ok d := rfl
noncomputable def callD (G : DF) (ds : List D) : Res D := if hasBorL ds = true then (G (frzL ds)).noX.map D.toBor else (G (frzL ds)).noX
noncomputable def eCall (G : DF) (fs : SD → Res (List D)) (τ : SD) : Res D := (fs τ).bind (callD G)
section
variable {K : PySem.W.Frag} {Y : XY} {H0 B0 B H : Hp} {σ : L2.St} {τ : SD} {P : List Addr} {F : Addr → Prop} {X : Cx} {pos p : Pos} {e : Expr} {es : List Expr} {fs : SD → Res (List D)}
/-- behind a call the caller stands as it stood; S: what of the names' own the callee may have met -/
theorem SI.called {S : Addr → Prop} {fp : List Addr} {B' H' : Hp} {d : D} {v : V} {fq : List Addr} (I : SI K H0 B0 B H σ τ P F) (k : Vok H0 B H P F fp) (hS : ∀ a, S a → a ∈ P) (r : RetOk K H (atRest B H (fun a => S a ∨ a ∈ fp)) B' H' d v fq) :
    ∃ B'', SI K H0 B0 B'' H' σ τ P F ∧ Same B B'' ∧ Vok H0 B'' H' P F fq ∧ (∀ a o, B' a = some o → B'' a = some o ∨ (S a ∧ a ∈ P)) := by
  classical
  have sP : ∀ a o, B a = some o → a ∉ P := fun a o e m => by
    have := (I.own a m).1
    rw [e] at this; cases this
  have up : ∀ a, B' a ≠ none → B a ≠ none ∨ S a ∨ a ∈ fp ∨ H a = none := fun a n => by
    rcases r.nb a n with q | q
    · by_cases hs : S a ∨ a ∈ fp
      · exact .inr (hs.elim .inl fun z => .inr (.inl z))
      · rw [rest_out hs] at q; exact .inl q
    · exact .inr (.inr (.inr q))
  refine ⟨fun a => if a ∈ P then none else B' a, ?_, fun a o e => ?_, ⟨r.nd, fun a m => ?_⟩, fun a o e => ?_⟩
  · have sB : Same B (fun a => if a ∈ P then none else B' a) := fun a o e => by
      show (if a ∈ P then none else B' a) = some o
      rw [if_neg (sP a o e)]
      exact r.b0 a o (rest_same I.bh a o e)
    refine ⟨fun a o e => ?_, I.h0.trans r.h0, I.b0.trans sB, fun a n => ?_, I.rep.mono r.h0 sB, I.nd, fun a m => ?_, fun a m => ?_⟩
    · have e : (if a ∈ P then none else B' a) = some o := e
      split at e
      · cases e
      · exact r.bh a o e
    · have n : (if a ∈ P then none else B' a) ≠ none := n
      split at n
      · exact absurd rfl n
      · rename_i hp
        rcases up a n with q | q | q | q
        · exact I.nb a q
        · exact absurd (hS a q) hp
        · exact .inr (k.own a q).2.1
        · exact .inr (I.h0.free q)
    · refine ⟨?_, (I.own a m).2⟩
      show (if a ∈ P then none else B' a) = none
      rw [if_pos m]
    · obtain ⟨a1, a2⟩ := I.fr a m
      refine ⟨?_, fun z => a2 (r.h0.free z)⟩
      show (if a ∈ P then none else B' a) = none
      split
      · rfl
      · rename_i hp
        cases e : B' a with
        | none => rfl
        | some o =>
          exfalso
          rcases up a (by rw [e]; exact Option.some_ne_none _) with q | q | q | q
          · exact q a1
          · exact hp (hS a q)
          · exact (k.own a q).2.2.2.2 m
          · exact a2 q
  · show (if a ∈ P then none else B' a) = some o
    rw [if_neg (sP a o e)]
    exact r.b0 a o (rest_same I.bh a o e)
  · obtain ⟨a1, a2, a3⟩ := r.own a m
    obtain ⟨n1, n2, n3, n4⟩ := I.newAt a2
    refine ⟨?_, n2, a3, n3, n4⟩
    show (if a ∈ P then none else B' a) = none
    rw [if_neg n3]; exact a1
  · by_cases hp : a ∈ P
    · rcases up a (by rw [e]; exact Option.some_ne_none _) with q | q | q | q
      · obtain ⟨o', e'⟩ := Option.ne_none_iff_exists'.mp q
        exact absurd hp (sP a o' e')
      · exact .inr ⟨q, hp⟩
      · exact absurd hp (k.own a q).2.2.2.1
      · exact absurd q (I.stands hp)
    · left
      show (if a ∈ P then none else B' a) = some o
      rw [if_neg hp]; exact e
theorem q_cal {k : Nat} {x : Str} {ps : List Str} {G : DF} (C : Cal X.prog X.w X.K X.mg X.base k x ps (spF X.K G)) (hr : Room k X.A) (hg : Gl X x) (ha : PA X (e :: es) (tML X.K Y fs)) (hdb : (x == ("__debug__" : Str)) = false := by decide)
    (he : starEach (e :: es) X.env = (false, eval e X.env) :: starEach es X.env := by rfl) (hpl : (backTo pos (starEach es X.env)).any (·.1) = false := by rfl) : PE X (.Call (.Name x p) (e :: es) [] pos) (tM X.K Y (eCall G fs)) := by
  refine PE.imp (pe_cal C hr hg ha hdb he hpl) fun σ H Q hq => ex8 hq fun H0 B0 B τ P F I h => tML.seq I h fun ds vs H1 B1 fp _ I1 s1 b1 r1 k1 h1 => ?_
  rw [List.append_nil]
  unfold callD at h1
  split at h1
  · refine ⟨atRest B1 H1 (fun a => a ∈ P ∨ a ∈ fp), frzL ds, rest_up I1.bh, r1.frz (rest_same I1.bh) (fun a o s h => rest_in (.inl s) h) (fun a m o h => rest_in (.inr m) h), ?_⟩
    cases z : G (frzL ds) with
    | exn c => rw [z] at h1; exact h1.elim
    | bad => rw [z] at h1; exact h1.elim
    | ok d =>
      rw [z] at h1
      intro B' H' v fq r
      obtain ⟨B2, I2, s2, k2, hb⟩ := I1.called k1 (S := fun a => a ∈ P) (fun a s => s) r
      exact h1 v H' B2 fq I2 r.h0 s2 (r.rep.toBor r.bh fun a o e => (hb a o e).imp id fun z => z.2) k2
  · rename_i hb
    have hb : hasBorL ds = false := by simpa using hb
    refine ⟨atRest B1 H1 (fun a => False ∨ a ∈ fp), frzL ds, rest_up I1.bh, (r1.noBor hb).frz (rest_same I1.bh) (fun a o s => s.elim) (fun a m o h => rest_in (.inr m) h), ?_⟩
    cases z : G (frzL ds) with
    | exn c => rw [z] at h1; exact h1.elim
    | bad => rw [z] at h1; exact h1.elim
    | ok d =>
      rw [z] at h1
      intro B' H' v fq r
      obtain ⟨B2, I2, s2, k2, hb⟩ := I1.called k1 (S := fun _ => False) (fun a s => s.elim) r
      refine h1 v H' B2 fq I2 r.h0 s2 ?_ k2
      have sb : Same B' B2 := fun a o e => (hb a o e).resolve_right fun z => z.1
      exact r.rep.mono (Same.refl _) sb fun _ x => x.elim
/-! a def by its body -/
noncomputable def Fl.out : Fl → Res D
  | .rt d => .ok d
  | .nx _ => .ok .non
  | .ex C _ => .exn C
  | _ => .bad
noncomputable def runF (n N : Nat) (g : SF) (ds : List D) : Res D := if ds.length = n then (g (ds.map some ++ List.replicate (N - n) none)).out else .bad
theorem repS_start : ∀ {ds : List D} {vs : List V} (m : Nat), RepL K B No H ds vs [] → RepS K B H (ds.map some ++ List.replicate m none) (vs.map some ++ List.replicate m none) []
  | [], vs, m, r => by
    obtain ⟨rfl, _⟩ := r
    induction m with
    | zero => exact ⟨rfl, rfl⟩
    | succ m ih => exact ⟨none, _, rfl, ih⟩
  | d :: ds, vs, m, r => by
    obtain ⟨v, w, f1, f2, rfl, r1, r2, z⟩ := r
    obtain ⟨rfl, rfl⟩ := nil_of_append z
    exact ⟨v, _, [], [], rfl, r1, repS_start m r2, rfl⟩
theorem fnok_of {P : Program} {w : World} {mg : Str → Option Value} {base : Heap} {x : Str} {st : Stmt} {N ps : List Str} {k : Nat} {g : SF} {f : Addr} {fd : FuncData} (D : Fun K x x st f fd) (S : FnScope N ps (defScope st))
    (hbody : ∀ (f : Addr) (cdv : Value) (A : Around) (outer : List Env) (s : Shared) (H : Hp), Room k (A.deeper (envOfC x (defScope st) s.heap.objs.size f cdv)) →
      PSs (cxOf CX0 P w K mg base N x (defScope st) f cdv A outer s H E0).nox (defBody st) (tMS K (fun _ _ _ => False) g)) : FnOk P w K mg base CX0 (k + 1) f fd ps (spF K (runF ps.length N.length g)) := by
  refine D.ok S (fun vs H Q E h => ?_) fun cdv A outer s H vs Q E hr h => ?_
  · obtain ⟨B0, ds, _, r, h⟩ := h
    rw [← r.length]
    unfold runF at h
    by_cases hl : ds.length = ps.length
    · exact hl
    · rw [if_neg hl] at h; exact h.elim
  · obtain ⟨B0, ds, sB, r, h⟩ := h
    unfold runF at h
    by_cases hl : ds.length = ps.length
    · rw [if_pos hl] at h
      have e : L2.start N vs = vs.map some ++ List.replicate (N.length - ps.length) none := by
        unfold L2.start
        rw [← r.length, hl]
      refine ⟨_, hbody f cdv A outer s H hr, H, B0, B0, ds.map some ++ List.replicate (N.length - ps.length) none, [], ⟨sB, Same.refl _, Same.refl _, fun a n => .inl n, by rw [e]; exact repS_start _ r, List.nodup_nil, (fun a m => by cases m), fun a m => m.elim⟩, ?_⟩
      cases z : g (ds.map some ++ List.replicate (N.length - ps.length) none) with
      | rt d => rw [z] at h; exact fun B' H' v fp q => h B' H' v fp q
      | nx t =>
        rw [z] at h
        intro B' H' σ' P' a
        exact h B' H' .non [] ⟨a.si.h0, a.si.b0, a.si.bh, a.si.nb, ⟨rfl, rfl⟩, List.nodup_nil, fun a m => by cases m⟩
      | bk t => rw [z] at h; exact h.elim
      | ct t => rw [z] at h; exact h.elim
      | ex C t => rw [z] at h; exact h.elim
      | bad => rw [z] at h; exact h.elim
    · rw [if_neg hl] at h; exact h.elim
theorem cal_of {P : Program} {w : World} {mg : Str → Option Value} {base : Heap} {x : Str} {st : Stmt} {N ps : List Str} {k : Nat} {g : SF} (D : Dfn K mg x st ps) (S : FnScope N ps (defScope st))
    (hbody : ∀ (f : Addr) (cdv : Value) (A : Around) (outer : List Env) (s : Shared) (H : Hp), Room k (A.deeper (envOfC x (defScope st) s.heap.objs.size f cdv)) →
      PSs (cxOf CX0 P w K mg base N x (defScope st) f cdv A outer s H E0).nox (defBody st) (tMS K (fun _ _ _ => False) g)) : Cal P w K mg base (k + 1) x ps (spF K (runF ps.length N.length g)) := by
  obtain ⟨f, fd, F, hm, hb⟩ := D.ex
  exact ⟨f, fd, hm, F.kp, hb, fnok_of F S hbody⟩
end
end DL
set_option Elab.async false
set_option linter.all false
set_option maxRecDepth 100000
set_option maxHeartbeats 4000000
/-! ### comprehensions -/
namespace DL
open PySem PySem.Spec PyProof.Rows L2
mutual
noncomputable def D.hasOwn : D → Bool
  | .tup xs => hasOwnL xs
  | .lst t xs => decide (t = .own) || hasOwnL xs
  | .dct t _ _ vs => decide (t = .own) || hasOwnL vs
  | _ => false
noncomputable def hasOwnL : List D → Bool
  | [] => false
  | d :: r => d.hasOwn || hasOwnL r
end
mutual
theorem hasOwn_pure : ∀ d : D, d.pure = true → d.hasOwn = false
  | .non, _ => rfl
  | .bl _, _ => rfl
  | .int _, _ => rfl
  | .str _, _ => rfl
  | .exc _, _ => rfl
  | .tup xs, h => hasOwnL_pure xs h
  | .lst _ _, h => by cases h
  | .dct _ _ _ _, h => by cases h
theorem hasOwnL_pure : ∀ xs : List D, pureL xs = true → hasOwnL xs = false
  | [], _ => rfl
  | d :: r, h => by
    have h : (d.pure && pureL r) = true := h
    rw [Bool.and_eq_true] at h
    show (d.hasOwn || hasOwnL r) = false
    rw [hasOwn_pure d h.1, hasOwnL_pure r h.2]
    rfl
end
section
variable {K : PySem.W.Frag}
mutual
theorem Rep.noOwn {B H : Hp} {S : Addr → Prop} : ∀ {d : D} {v : V} {fp : List Addr}, d.hasOwn = false → Rep K B S H d v fp → fp = []
  | .non, _, _, _, h => h.2
  | .bl _, _, _, _, h => h.2
  | .int _, _, _, _, h => h.2
  | .str _, _, _, _, h => h.2
  | .exc _, _, _, _, h => h.2
  | .tup xs, v, fp, p, h => let ⟨a, vs, e, q, r⟩ := h; RepL.noOwn (ds := xs) p r
  | .lst .own xs, v, fp, p, h => by simp [D.hasOwn] at p
  | .lst .bor xs, v, fp, p, h => let ⟨a, vs, e, q, r, z⟩ := h; z
  | .lst .frz xs, v, fp, p, h => let ⟨a, vs, e, q, r, z⟩ := h; z
  | .dct .own kd ks xs, v, fp, p, h => by simp [D.hasOwn] at p
  | .dct .bor kd ks xs, v, fp, p, h => let ⟨a, vs, e, q, r, z⟩ := h; z
  | .dct .frz kd ks xs, v, fp, p, h => let ⟨a, vs, e, q, r, z⟩ := h; z
theorem RepL.noOwn {B H : Hp} {S : Addr → Prop} : ∀ {ds : List D} {vs : List V} {fp : List Addr}, hasOwnL ds = false → RepL K B S H ds vs fp → fp = []
  | [], _, _, _, h => h.2
  | d :: ds, vs, fp, p, h => by
    obtain ⟨v, r, f, g, e, h1, h2, z⟩ := h
    have p : (d.hasOwn || hasOwnL ds) = false := p
    rw [Bool.or_eq_false_iff] at p
    rw [z, Rep.noOwn p.1 h1, RepL.noOwn p.2 h2]
    rfl
end
/-- the names around that a comprehension reads: put to rest, and whether one owns something -/
noncomputable def capD (τ : SD) (cap : List (Str × Nat)) : SD := cap.map fun p => ((τ[p.2]?).join).map D.frz
noncomputable def capOwn (τ : SD) (cap : List (Str × Nat)) : Bool := cap.any fun p => match (τ[p.2]?).join with | some d => d.hasOwn | none => false
/-- the turns -/
noncomputable def compD (tg : TGD) (tt : SD → Res Bool) (elt : SD → Res D) : List D → SD → Res (List D)
  | [], _ => .ok []
  | d :: r, τ => match tg d τ with
    | none => .bad
    | some τ' => (tt τ').bind fun b => if b = true then (elt τ').bind fun x => if x.hasBor = true then .bad else (compD tg tt elt r τ').bind fun xs => .ok (x :: xs) else compD tg tt elt r τ'
noncomputable def eComp (it : SD → Res (Bool × List D)) (tg : TGD) (tt : SD → Res Bool) (elt : SD → Res D) (k : Nat) (cap : List (Str × Nat)) (τ : SD) : Res D := (it τ).bind fun q =>
  match compD tg tt elt (frzL q.2) (List.replicate k none ++ capD τ cap) with
  | .ok xs => if xs.length ≤ 16777216 then .ok (.lst .own (if (q.1 || capOwn τ cap) = true then toBorL xs else xs)) else .bad
  | _ => .bad
variable {Y : XY} {H0 B0 B H : Hp} {σ : L2.St} {τ : SD} {P : List Addr} {F : Addr → Prop} {X : Cx}
/-- the slots of a comprehension's block -/
theorem repS_cap {Bx : Hp} (I : SI K H0 B0 B H σ τ P F) (sB : Same B Bx) (cap : List (Str × Nat)) (hx : capOwn τ cap = true → ∀ a ∈ P, ∀ o, H a = some o → Bx a = some o) : RepS K Bx H (capD τ cap) (capV σ cap) [] := by
  induction cap with
  | nil => exact ⟨rfl, rfl⟩
  | cons p r ih =>
    have ih := ih fun z => hx (by unfold capOwn at z ⊢; rw [List.any_cons, z, Bool.or_true])
    unfold capD capV at ih ⊢
    rw [List.map_cons, List.map_cons]
    cases e : (τ[p.2]?).join with
    | none => exact ⟨_, _, rfl, ih⟩
    | some d =>
      have e' : τ[p.2]? = some (some d) := by
        cases z : τ[p.2]? with
        | none => rw [z] at e; cases e
        | some o => rw [z] at e; exact congrArg some e
      obtain ⟨v, f, h1, h2, h3⟩ := I.rep.get e'
      refine ⟨v, _, [], [], ?_, ?_, ih, rfl⟩
      · rw [h1]; rfl
      · by_cases ho : d.hasOwn = true
        · have hc : capOwn τ (p :: r) = true := by
            unfold capOwn
            rw [List.any_cons, e]
            simp [ho]
          exact h2.frz sB (fun a o s => s.elim) fun a m o h => hx hc a (h3.subset m) o h
        · have hf := h2.noOwn (by simpa using ho)
          subst hf
          exact h2.frz sB (fun a o s => s.elim) fun a m => by cases m
theorem repS_none {Bx : Hp} : ∀ (k : Nat) {τ : SD} {σ : L2.St}, RepS K Bx H τ σ [] → RepS K Bx H (List.replicate k none ++ τ) (List.replicate k none ++ σ) []
  | 0, _, _, h => h
  | k + 1, _, _, h => ⟨none, _, rfl, repS_none k h⟩
/-- an address besides is written -/
theorem SI.writeF {F' : Addr → Prop} {a : Addr} {o o' : HO} (I : SI K H0 B0 B H σ τ P F') (hF : F' a) (hH0 : H0 a = none) (ha : H a = some o) (mu : mutO o) : SI K H0 B0 B (upd H a o') σ τ P F' := by
  have kp : Keep H (upd H a o') [a] := ⟨fun b u h n => by rw [upd_ne (by simpa using n)]; exact h, fun b m => by
    have : b = a := by simpa using m
    subst this
    exact ⟨o, ha, mu⟩⟩
  have kr : ∀ {τ : SD} {σ : L2.St} {P : List Addr}, (∀ b ∈ P, b ≠ a) → RepS K B H τ σ P → RepS K B (upd H a o') τ σ P := by
    intro τ
    induction τ with
    | nil => intro σ P _ h; exact h
    | cons q r ih =>
      intro σ P hp h
      cases q with
      | none => obtain ⟨x, t, e, h⟩ := h; exact ⟨x, t, e, ih hp h⟩
      | some d =>
        obtain ⟨v, t, f, g, e, h1, h2, z⟩ := h
        subst z
        exact ⟨v, t, f, g, e, h1.keep kp fun b m => by
          have := hp b (List.mem_append_left _ m)
          simpa using this, ih (fun b m => hp b (List.mem_append_right _ m)) h2, rfl⟩
  refine ⟨fun b u e => ?_, fun b u e => ?_, I.b0, I.nb, kr (fun b m z => (I.own b m).2.2 (z ▸ hF)) I.rep, I.nd, I.own, fun b m => ⟨(I.fr b m).1, ?_⟩⟩
  · rw [upd_ne]
    · exact I.bh b u e
    · intro z; subst z; rw [(I.fr b hF).1] at e; cases e
  · rw [upd_ne]
    · exact I.h0 b u e
    · intro z; subst z; rw [hH0] at e; cases e
  · by_cases z : b = a
    · subst z; rw [upd_same]; exact Option.some_ne_none _
    · rw [upd_ne z]; exact (I.fr b m).2
/-- no exception -/
noncomputable abbrev NoY : XY := fun _ _ _ => False
theorem bind_ok {α β : Type} {r : Res α} {f : α → Res β} {b : β} (h : r.bind f = .ok b) : ∃ a, r = .ok a ∧ f a = .ok b := by
  cases r with
  | ok a => exact ⟨a, rfl, h⟩
  | exn C => cases h
  | bad => cases h
/-- the block of a comprehension -/
theorem comp_main {it : SD → Res (Bool × List D)} {tgd : TGD} {tt : SD → Res Bool} {elt : SD → Res D} {k : Nat} {cap : List (Str × Nat)} {Q : VK} (I : SI K H0 B0 B H σ τ P F) (h : Goal K Y H0 B0 B H σ τ P F Q (eComp it tgd tt elt k cap τ)) :
    tComp (tMI K Y it) (tMG K tgd) (tMB K NoY tt) (tM K NoY elt) k cap σ H Q := by
  refine ⟨H0, B0, B, τ, P, F, I, ?_⟩
  unfold eComp at h
  cases z : it τ with
  | exn C => rw [z] at h; exact h
  | bad => rw [z] at h; exact h
  | ok q =>
    obtain ⟨fl, ds⟩ := q
    rw [z] at h
    simp only [Res.bind_ok] at h
    intro J H1 B1 fp I1 s1 b1 k1 JA acc hacc
    have h := Goal.later h s1 b1
    cases zc : compD tgd tt elt (frzL ds) (List.replicate k none ++ capD τ cap) with
    | exn C => rw [zc] at h; exact h.elim
    | bad => rw [zc] at h; exact h.elim
    | ok xs =>
      rw [zc] at h
      simp only at h
      by_cases hxl : xs.length ≤ 16777216
      · rw [if_pos hxl] at h
        let S : Addr → Prop := fun a => (fl || capOwn τ cap) = true ∧ a ∈ P
        let Bx : Hp := atRest B1 H1 (fun a => S a ∨ a ∈ fp)
        have sBx : Same B1 Bx := rest_same I1.bh
        have uBx : Same Bx H1 := rest_up I1.bh
        have J1 : ItD K J (frzL ds) Bx H1 := JA Bx sBx uBx (fun a m o e => rest_in (.inr m) e) (fun hf a m o e => rest_in (.inl ⟨by rw [hf]; rfl, m⟩) e)
        have c0 : RepS K Bx H1 (List.replicate k none ++ capD τ cap) (List.replicate k none ++ capV σ cap) [] := repS_none k (repS_cap I1 sBx cap fun hc a m o e => rest_in (.inl ⟨by rw [hc, Bool.or_true], m⟩) e)
        have sacc : Same H1 (upd H1 acc (.lst [])) := sameUpd' hacc
        have C0 : SI K H1 Bx Bx (upd H1 acc (.lst [])) (List.replicate k none ++ capV σ cap) (List.replicate k none ++ capD τ cap) [] (fun a => a = acc ∨ a ∈ ([] : List Addr)) :=
          ⟨uBx.trans sacc, sacc, Same.refl _, fun a n => .inl n, c0.mono sacc (Same.refl _), List.nodup_nil, (fun a m => by cases m), fun a m => by
            have : a = acc := m.elim id fun z => by cases z
            subst this
            exact ⟨uBx.free hacc, by rw [upd_same]; exact Option.some_ne_none _⟩⟩
        refine ⟨fun i m τv ys H' => m = (frzL ds).length - i ∧ i ≤ (frzL ds).length ∧ ∃ B' τb Pb es fe rest, SI K H1 Bx B' H' τv τb Pb (fun a => a = acc ∨ a ∈ fe) ∧ H' acc = some (.lst ys) ∧ RepL K B' No H' es ys fe ∧ fe.Nodup ∧
            (∀ a ∈ fe, H1 a = none ∧ a ≠ acc) ∧ compD tgd tt elt ((frzL ds).drop i) τb = .ok rest ∧ xs = es ++ rest ∧ acc ∉ fe, ⟨_, rfl, Nat.zero_le _, Bx, _, [], [], [], xs, C0, upd_same, ⟨rfl, rfl⟩, List.nodup_nil, (fun a m => by cases m), zc, rfl, by simp⟩, ?_⟩
        rintro i m τv ys H' ⟨rfl, hle, B', τb, Pb, es, fe, rest, C, ha, re, ndf, own, ec, ex, hna⟩
        have im : Imm H1 H' := Imm.of C.h0
        by_cases hlt : i < (frzL ds).length
        · obtain ⟨d, hd⟩ : ∃ d, (frzL ds)[i]? = some d := ⟨(frzL ds)[i], List.getElem?_eq_getElem hlt⟩
          have hdrop : (frzL ds).drop i = d :: (frzL ds).drop (i + 1) := by
            rw [List.drop_eq_getElem_cons hlt]
            congr 1
            rw [List.getElem?_eq_getElem hlt] at hd
            exact Option.some.inj hd
          rw [hdrop] at ec
          unfold compD at ec
          refine .inr ⟨J1.go B' H' i d C.b0 C.bh im hd, fun x H'' y => ?_⟩
          obtain ⟨sy, ry⟩ := J1.yld B' H' i d x H'' C.b0 C.bh im hd y
          cases w : tgd d τb with
          | none => rw [w] at ec; cases ec
          | some τ2 =>
            rw [w] at ec
            simp only at ec
            refine ⟨H1, Bx, B', τb, Pb, _, d, [], C.grow sy, ry, Vok.nil, ?_⟩
            rw [w]
            intro H3 σ3 P3 I3 e3
            subst e3
            obtain ⟨b, eb, ec⟩ := bind_ok ec
            refine ⟨H1, Bx, B', τ2, P3, _, I3, ?_⟩
            rw [eb]
            intro H4 B4 I4 s4 b4
            have re4 : RepL K B4 No H4 es ys fe := re.mono (sy.trans s4) b4 fun _ x => x
            have ha4 : H4 acc = some (.lst ys) := s4 _ _ (sy _ _ ha)
            cases b with
            | false =>
              rw [if_neg Bool.false_ne_true] at ec ⊢
              exact ⟨_, by omega, rfl, hlt, B4, τ2, P3, es, fe, rest, I4, ha4, re4, ndf, own, ec, ex, hna⟩
            | true =>
              rw [if_pos rfl] at ec ⊢
              obtain ⟨x', ex', ec⟩ := bind_ok ec
              refine ⟨H1, Bx, B4, τ2, P3, _, I4, ?_⟩
              rw [ex']
              intro v H5 B5 fv I5 s5 b5 r5 k5
              by_cases hb : x'.hasBor = true
              · rw [if_pos hb] at ec; cases ec
              · rw [if_neg hb] at ec
                obtain ⟨rest', er', ec⟩ := bind_ok ec
                cases ec
                have hb : x'.hasBor = false := by simpa using hb
                have ha5 : H5 acc = some (.lst ys) := s5 _ _ ha4
                have re5 : RepL K B5 No H5 es ys fe := re4.mono s5 b5 fun _ x => x
                have hlen : ys.length < sizeLine := by
                  rw [← re.length, sizeLine_eq]
                  have := congrArg List.length ex
                  simp at this
                  omega
                refine ⟨ha5, hlen, _, by omega, rfl, hlt, ?_⟩
                have Ih := I5.hold k5
                have fdis : ∀ a ∈ fv, a ∉ fe ∧ a ≠ acc := fun a m => ⟨fun z => (k5.own a m).2.2.2.2 (.inr z), fun z => (k5.own a m).2.2.2.2 (.inl z)⟩
                have Ih2 : SI K H1 Bx B5 H5 σ3 τ2 P3 (fun a => a = acc ∨ a ∈ fe ++ fv) := Ih.anti fun a m => by
                  rcases m with m | m
                  · exact .inr (.inl m)
                  · rcases List.mem_append.mp m with m | m
                    · exact .inr (.inr m)
                    · exact .inl m
                have Iw := Ih2.writeF (o' := .lst (ys ++ [v])) (.inl rfl) hacc ha5 trivial
                have kp : Keep H5 (upd H5 acc (.lst (ys ++ [v]))) [acc] := ⟨fun b u h n => by rw [upd_ne (by simpa using n)]; exact h, fun b m => by
                  have : b = acc := by simpa using m
                  subst this
                  exact ⟨_, ha5, trivial⟩⟩
                refine ⟨B5, τ2, P3, es ++ [x'], fe ++ fv, rest', Iw, upd_same, ?_, List.nodup_append.mpr ⟨ndf, k5.nd, fun a h1 b h2 e => (fdis b h2).1 (e ▸ h1)⟩, fun a m => ?_, er', by rw [ex]; simp, fun m => ?_⟩
                · refine RepL.append (re5.keep kp fun a m z => ?_) (RepL.one ((r5.noBor hb).keep kp fun a m z => ?_))
                  · have : a = acc := by simpa using z
                    exact hna (this ▸ m)
                  · have : a = acc := by simpa using z
                    exact (fdis a m).2 this
                · rcases List.mem_append.mp m with m | m
                  · exact own a m
                  · exact ⟨(k5.own a m).2.1, (fdis a m).2⟩
                · rcases List.mem_append.mp m with m | m
                  · exact hna m
                  · exact (fdis acc m).2 rfl
        · have e : i = (frzL ds).length := by omega
          subst e
          rw [List.drop_length] at ec
          unfold compD at ec
          cases ec
          rw [List.append_nil] at ex
          subst ex
          refine .inl ⟨J1.stop B' H' C.b0 C.bh im, ?_⟩
          have ro : RetOk K H1 Bx B' H' (.lst .own xs) (.ref acc) (acc :: fe) := ⟨C.h0, C.b0, C.bh, C.nb, ⟨acc, ys, fe, rfl, ha, re, rfl⟩, List.nodup_cons.mpr ⟨hna, ndf⟩, fun a m => by
            rcases List.mem_cons.mp m with m | m
            · subst m; exact ⟨(C.fr a (.inl rfl)).1, hacc, (C.fr a (.inl rfl)).2⟩
            · exact ⟨(C.fr a (.inr m)).1, (own a m).1, (C.fr a (.inr m)).2⟩⟩
          obtain ⟨B2, I2, s2, k2, hb⟩ := I1.called k1 (S := S) (fun a s => s.2) ro
          by_cases hl : (fl || capOwn τ cap) = true
          · rw [if_pos hl] at h
            exact h (.ref acc) H' B2 _ I2 C.h0 s2 (ro.rep.toBor ro.bh fun a o e => (hb a o e).imp id fun z => z.2) k2
          · rw [if_neg hl] at h
            have sb : Same B' B2 := fun a o e => (hb a o e).resolve_right fun z => hl z.1.1
            exact h (.ref acc) H' B2 _ I2 C.h0 s2 (ro.rep.mono (Same.refl _) sb fun _ x => x.elim) k2
      · rw [if_neg hxl] at h; exact h.elim
variable {tg elt iter : Expr} {ifs : List Expr} {scope : Scope} {pos : Pos} {own : List Str} {cap : List (Str × Nat)} {it : SD → Res (Bool × List D)} {tgd : TGD} {tt : SD → Res Bool} {fe : SD → Res D}
theorem q_comp (ok : CompOk X scope own cap) (hc : X.calm = true) (hi : PI X tg iter (tMI X.K Y it)) (Bl : BlockOk X scope own cap tg ifs elt (tMG X.K tgd) (tMB X.K NoY tt) (tM X.K NoY fe)) (hs : ∀ x, foldedSetIterable iter X.env x = pure x := by intro _; rfl) :
    PE X (.ListComp elt [⟨tg, iter, ifs, 0⟩] scope pos) (tM X.K Y (eComp it tgd tt fe own.length cap)) :=
  PE.imp (pe_comp ok hc hi Bl hs) fun σ H Q hq => ex8 hq fun H0 B0 B τ P F I h => comp_main I h
theorem s_setComp {i : Nat} {y : Str} {py spos : Pos} (hN : X.N.Nodup) (hi' : X.N[i]? = some y) (hy : Loc X.env.scope y) (ok : CompOk X scope own cap) (hc : X.calm = true) (hi : PI X tg iter (tMI X.K Y it)) (Bl : BlockOk X scope own cap tg ifs elt (tMG X.K tgd) (tMB X.K NoY tt) (tM X.K NoY fe))
    (hsw : swapsWith (.ListComp elt [⟨tg, iter, ifs, 0⟩] scope pos) (some (.Name y py)) spos.line X.env = pure true := by rfl)
    (hf : X.fn y = true ∨ X.env.scope.names.lookup y = some .local := by first | exact .inl rfl | exact .inr rfl) (hs : ∀ x, foldedSetIterable iter X.env x = pure x := by intro _; rfl) :
    PS X (.Assign [.Name y py] (.ListComp elt [⟨tg, iter, ifs, 0⟩] scope pos) spos) (tMS X.K Y (sSet i (eComp it tgd tt fe own.length cap))) := by
  refine PS.imp (ps_setComp hN hi' hy ok hc hi Bl hsw hf hs) fun E σ H hq => ex7 hq fun H0 B0 B τ P I h => ?_
  have key : tM X.K Y (eComp it tgd tt fe own.length cap) σ H (fun x H1 => gName i x σ H1 E.nx) := exprS I h fun d v H1 B1 fp _ I1 _ _ r1 k1 h1 => by
    unfold setD at h1
    split at h1
    · exact h1.elim
    · rename_i hb
      obtain ⟨P', I', _⟩ := I1.set i (r1.noBor (by simpa using hb)) k1
      exact h1 B1 H1 _ P' ⟨I', Same.refl _, Imm.refl _⟩
  obtain ⟨H0', B0', B', τ', P', F', I', h'⟩ := key
  exact comp_main I' h'
noncomputable def bTrue (_ : SD) : Res Bool := .ok true
theorem qif_nil : PIf X [] (tMB X.K Y bTrue) := fun pins s σ H Q I ⟨H0, B0, B, τ, P, F, I', h⟩ => pif_nil pins s σ H Q I (h H B I' (Same.refl _) (Same.refl _))
theorem qif_one {c : Expr} {gc : SD → Res Bool} (h : PT X c (tMB X.K Y gc)) : PIf X [c] (tMB X.K Y gc) := pif_one h
end
end DL
set_option Elab.async false
set_option linter.all false
set_option maxRecDepth 100000
set_option maxHeartbeats 4000000
namespace DL
open PySem PySem.Spec PyProof.Rows L2
section
variable {K : PySem.W.Frag} {Y : XY} {H0 B0 B H : Hp} {σ : L2.St} {τ : SD} {P : List Addr} {F : Addr → Prop} {X : Cx} {pos p : Pos} {e : Expr} {fe : SD → Res D}
/-! ### isinstance(x, T), T one of Python's own -/
noncomputable def tyN : D → String | .non => "NoneType" | .bl _ => "bool" | .int _ => "int" | .str _ => "str" | .tup _ => "tuple" | .lst _ _ => "list" | .dct _ _ _ _ => "dict" | .exc _ => ""
noncomputable def D.isExc : D → Bool | .exc _ => true | _ => false
theorem call_isinstS {T : String} : CallR X (.builtin "isinstance") (fun xs H Q => ∃ x t b, xs = [x, .ty T] ∧ (TyOf X.K H x t ∨ (∃ a vs, x = .ref a ∧ SqT X.K H a vs ∧ t = .type "tuple") ∨ (∃ a vs, x = .ref a ∧ SqL X.K H a vs ∧ t = .type "list")) ∧ PySem.W.kitOne X.K t (.type T) = some b ∧ Q (.bl b) H) := by
  intro pins s σ H xs us Q I r h
  obtain ⟨x, t, b, rfl, ty, e, q⟩ := h
  obtain ⟨u, v, rfl, ru, rv⟩ := vals2 r
  cases rv
  rcases ty with ty | ⟨a, vs, rfl, hq, rfl⟩ | ⟨a, vs, rfl, hq, rfl⟩
  · exact isinst_ok I ru ty e fun tk => ⟨.bl b, H, I.tok tk, rfl, q⟩
  · cases ru
    obtain ⟨its, _, ⟨o, h1, h2, _⟩, _⟩ := I.tuple hq
    exact PySem.W.kia_one PySem.W.kitx_tuple I.kIn ⟨o, h1, h2⟩ e (fun z => nomatch z) fun tk => ⟨.bl b, H, I.tok tk, rfl, q⟩
  · cases ru
    obtain ⟨its, _, pl, _⟩ := I.list hq
    obtain ⟨o, h1, h2, _⟩ := pl.isList
    exact PySem.W.kia_one PySem.W.kitx_list I.kIn ⟨o, h1, h2⟩ e (fun z => nomatch z) fun tk => ⟨.bl b, H, I.tok tk, rfl, q⟩
theorem tyOf_rep {d : D} {v : V} {f : List Addr} (I : SI K H0 B0 B H σ τ P F) (r : Rep K B (· ∈ P) H d v f) (ne : d.isExc = false) : TyOf K H v (.type (tyN d)) ∨ (∃ a vs, v = .ref a ∧ SqT K H a vs ∧ (Value.type (tyN d)) = .type "tuple") ∨ (∃ a vs, v = .ref a ∧ SqL K H a vs ∧ (Value.type (tyN d)) = .type "list") := by
  cases d with
  | non => rw [r.1]; exact .inl .non
  | bl b => rw [r.1]; exact .inl (.bl b)
  | int b => rw [r.1]; exact .inl (.int b)
  | str b => rw [r.1]; exact .inl (.str b)
  | exc _ => cases ne
  | tup xs => obtain ⟨a, vs, rfl, q, _⟩ := r; exact .inr (.inl ⟨a, vs, rfl, SqT.of q, rfl⟩)
  | lst t xs =>
    obtain ⟨a, vs, g, rfl, q, _⟩ := r.lst I
    exact .inr (.inr ⟨a, vs, rfl, q, rfl⟩)
  | dct t k ks xs =>
    have : ∃ a vs, v = .ref a ∧ DictAt H a k ks vs := by
      cases t with
      | own => obtain ⟨a, vs, g, e, q, _⟩ := r; exact ⟨a, vs, e, q⟩
      | bor => obtain ⟨a, vs, e, q, _⟩ := r; exact ⟨a, vs, e, q.elim (fun y => y.2) fun y => y.mono I.bh⟩
      | frz => obtain ⟨a, vs, e, q, _⟩ := r; exact ⟨a, vs, e, q.mono I.bh⟩
    obtain ⟨a, vs, rfl, ⟨_, kvs, q, _⟩ | ⟨_, kvs, q, _⟩⟩ := this
    · exact .inl (.dK q)
    · exact .inl (.dT q)
noncomputable def isB : D → Bool | .bl _ => true | _ => false
noncomputable def isI : D → Bool | .bl _ => true | .int _ => true | _ => false
noncomputable def isS : D → Bool | .str _ => true | _ => false
noncomputable def isL : D → Bool | .lst _ _ => true | _ => false
noncomputable def isTp : D → Bool | .tup _ => true | _ => false
noncomputable def isDc : D → Bool | .dct _ _ _ _ => true | _ => false
/-- g tells what is of the type T -/
noncomputable def InstOf (T : String) (g : D → Bool) : Prop := ∀ (K : PySem.W.Frag) (d : D), d.isExc = false → PySem.W.kitOne K (.type (tyN d)) (.type T) = some (g d)
theorem inst_bool : InstOf "bool" isB := fun K d h => by cases d <;> first | rfl | cases h
theorem inst_int : InstOf "int" isI := fun K d h => by cases d <;> first | rfl | cases h
theorem inst_str : InstOf "str" isS := fun K d h => by cases d <;> first | rfl | cases h
theorem inst_list : InstOf "list" isL := fun K d h => by cases d <;> first | rfl | cases h
theorem inst_tuple : InstOf "tuple" isTp := fun K d h => by cases d <;> first | rfl | cases h
noncomputable def instD (g : D → Bool) (d : D) : Res D := if d.isExc = true then .bad else .ok (.bl (g d))
theorem q_inst {T : String} {g : D → Bool} {ty : Expr} {pt : Pos} {x : Str} (hI : InstOf T g) (hg : Gl X "isinstance") (hm : X.mg "isinstance" = none) (he : PE X e (tM X.K Y fe)) (hgT : Gl X x) (hmT : X.mg x = none) (hbT : bootBuiltins x = some (.type T))
    (hs : starEach [e, .Name x pt] X.env = (false, eval e X.env) :: starEach [.Name x pt] X.env := by rfl) (hs2 : starEach [.Name x pt] X.env = (false, eval (.Name x pt) X.env) :: starEach [] X.env := by rfl) (hpl : (backTo pos (starEach [.Name x pt] X.env)).any (·.1) = false := by rfl) (hn : x ≠ "__name__" := by decide) (hdb : (x == ("__debug__" : Str)) = false := by decide) :
    PE X (.Call (.Name "isinstance" p) [e, .Name x pt] [] pos) (tM X.K Y (eUn (instD g) fe)) := by
  refine PE.imp (pe_callB (call_isinstS (T := T)) hg hm (by decide +kernel) (pa_cons he (pa_cons (pe_bltn hgT hmT hbT (show RelV (.ty T) _ from rfl) hn hdb) pa_nil hs2) hs) (he := hs) (hpl := hpl)) fun σ H Q hq => ex8 hq fun H0 B0 B τ P F I h => ?_
  refine tM.seq (g := instD g) I h fun d v H1 B1 fp _ I1 s1 b1 r1 k1 h1 => ?_
  unfold instD at h1
  split at h1
  · exact h1.elim
  · rename_i hx
    have hx : d.isExc = false := by simpa using hx
    exact ⟨v, _, _, rfl, tyOf_rep I1 r1 hx, hI _ d hx, Out.here h1 I1 ⟨rfl, rfl⟩⟩
/-! ### sorted, len(set(..)) of ints -/
noncomputable def intsOf : List D → Option (List Int)
  | [] => some []
  | .int i :: r => (intsOf r).map (i :: ·)
  | _ :: _ => none
theorem intsOf_map (ns : List Int) : intsOf (ns.map D.int) = some ns := by
  induction ns with
  | nil => rfl
  | cons n r ih => rw [List.map_cons, intsOf, ih]; rfl
theorem intsOf_eq : ∀ {xs : List D} {ns : List Int}, intsOf xs = some ns → xs = ns.map D.int
  | [], ns, h => by cases h; rfl
  | .int i :: r, ns, h => by
    unfold intsOf at h
    cases e : intsOf r with
    | none => rw [e] at h; cases h
    | some m => rw [e] at h; cases h; rw [List.map_cons, ← intsOf_eq e]
  | .non :: _, _, h => by cases h
  | .bl _ :: _, _, h => by cases h
  | .str _ :: _, _, h => by cases h
  | .tup _ :: _, _, h => by cases h
  | .lst _ _ :: _, _, h => by cases h
  | .dct _ _ _ _ :: _, _, h => by cases h
  | .exc _ :: _, _, h => by cases h
theorem repL_ints {S : Addr → Prop} : ∀ {ns : List Int} {vs : List V} {f : List Addr}, RepL K B S H (ns.map D.int) vs f → vs = ns.map V.int ∧ f = []
  | [], vs, f, r => r
  | n :: ns, vs, f, r => by
    obtain ⟨v, w, f1, f2, rfl, ⟨rfl, rfl⟩, r2, rfl⟩ := r
    obtain ⟨rfl, rfl⟩ := repL_ints r2
    exact ⟨rfl, rfl⟩
theorem ints_repL {S : Addr → Prop} : ∀ (ns : List Int), RepL K B S H (ns.map D.int) (ns.map V.int) []
  | [] => ⟨rfl, rfl⟩
  | n :: ns => ⟨_, _, [], [], rfl, ⟨rfl, rfl⟩, ints_repL ns, rfl⟩
/-- ints in order -/
noncomputable def sortI (ns : List Int) : List Int := ns.mergeSort (fun a b => decide (a ≤ b))
theorem sortI_perm (ns : List Int) : (sortI ns).Perm ns := List.mergeSort_perm ns _
theorem sortI_sorted (ns : List Int) : (sortI ns).Pairwise (· ≤ ·) := by
  have h := List.pairwise_mergeSort (le := fun a b : Int => decide (a ≤ b)) (fun a b c h1 h2 => by simp at *; omega) (fun a b => by simp; omega) ns
  exact h.imp fun h => by simpa using h
theorem sorted_unique : ∀ {l m : List Int}, l.Perm m → l.Pairwise (· ≤ ·) → m.Pairwise (· ≤ ·) → l = m
  | [], m, hp, _, _ => (List.Perm.nil_eq hp)
  | x :: r, m, hp, h1, h2 => by
    match m, hp, h2 with
    | [], hp, _ => exact absurd hp.length_eq (by simp)
    | y :: r', hp, h2 =>
      obtain ⟨a1, a2⟩ := List.pairwise_cons.mp h1
      obtain ⟨b1, b2⟩ := List.pairwise_cons.mp h2
      have e : x = y := by
        have m1 : x ∈ y :: r' := hp.mem_iff.mp List.mem_cons_self
        have m2 : y ∈ x :: r := hp.mem_iff.mpr List.mem_cons_self
        rcases List.mem_cons.mp m1 with q | q
        · exact q
        · rcases List.mem_cons.mp m2 with q' | q'
          · exact q'.symm
          · have := b1 x q
            have := a1 y q'
            omega
      subst e
      rw [sorted_unique ((List.perm_cons _).mp hp) a2 b2]
noncomputable def sortedD : List D → Res D
  | [.lst _ xs] => match intsOf xs with | some ns => if ns.length < 64 then .ok (.lst .own ((sortI ns).map D.int)) else .bad | none => .bad
  | _ => .bad
theorem d_sorted : CallD K Y (fun xs H Q => ∃ (a : Addr) (ns : List Int), xs = [.ref a] ∧ SqL K H a (ns.map V.int) ∧ ns.length < 64 ∧ ∀ (p : Addr) (ns' : List Int), H p = none → ns'.Perm ns → ns'.Pairwise (· ≤ ·) → Q (.ref p) (upd H p (.lst (ns'.map V.int)))) sortedD := by
  intro H0 B0 B H σ τ P F ds vs f Q I r k h
  unfold sortedD at h
  split at h
  · obtain ⟨v, rfl, r'⟩ := repL1 r
    obtain ⟨a, ws, g, rfl, q, l, s⟩ := r'.lst I
    split at h
    · rename_i ns e
      split at h
      · rename_i hl
        have ex := intsOf_eq e
        subst ex
        obtain ⟨rfl, rfl⟩ := repL_ints l
        refine ⟨a, ns, rfl, sqL_of q, hl, fun p ns' hp h1 h2 => ?_⟩
        have e2 : ns' = sortI ns := sorted_unique (h1.trans (sortI_perm ns).symm) h2 (sortI_sorted ns)
        subst e2
        exact Out.newL h I (ints_repL _) Vok.nil hp
      · exact h.elim
    · exact h.elim
  · exact h.elim
/-- how many unlike ones -/
noncomputable def lenSetD : D → Res D
  | .lst _ xs => match intsOf xs with | some ns => if ns.length < 4000 then .ok (.int (dd ns).length) else .bad | none => .bad
  | _ => .bad
theorem q_lenSet {p2 pos2 : Pos} (hg : Gl X "len") (hm : X.mg "len" = none) (hg2 : Gl X "set") (hm2 : X.mg "set" = none) (hc : X.calm = true) (he : PE X e (tM X.K Y fe))
    (hs : starEach [e] X.env = (false, eval e X.env) :: starEach [] X.env := by rfl) (hs2 : starEach [.Call (.Name "set" p2) [e] [] pos2] X.env = (false, eval (.Call (.Name "set" p2) [e] [] pos2) X.env) :: starEach [] X.env := by rfl) (hpl : (backTo pos (starEach [] X.env)).any (·.1) = false := by rfl) (hpl2 : (backTo pos2 (starEach [] X.env)).any (·.1) = false := by rfl) :
    PE X (.Call (.Name "len" p) [.Call (.Name "set" p2) [e] [] pos2] [] pos) (tM X.K Y (eUn lenSetD fe)) := by
  refine PE.imp (pe_callB call_lenS hg hm PySem.boot_len (pa_cons (pe_callTy (call_set hc) hg2 hm2 (by decide +kernel) (pa_cons he pa_nil hs) (he := hs) (hpl := hpl2)) pa_nil hs2) (he := hs2) (hpl := hpl)) fun σ H Q hq => ex8 hq fun H0 B0 B τ P F I h => ?_
  refine tM.seq (g := lenSetD) I h fun d v H1 B1 fp _ I1 s1 b1 r1 k1 h1 => ?_
  unfold lenSetD at h1
  split at h1
  · obtain ⟨a, ws, g, rfl, q, l, s⟩ := r1.lst I1
    split at h1
    · rename_i ns e
      split at h1
      · rename_i hl
        have ex := intsOf_eq e
        subst ex
        obtain ⟨rfl, rfl⟩ := repL_ints l
        refine ⟨a, ns, rfl, sqL_of q, hl, fun p hp => ⟨p, _, _, rfl, upd_same, ?_⟩⟩
        have sm := sameUpd' (o := .set (fun k => (dd ns).any (· == k)) (dd ns).length) hp
        exact h1 (.int _) _ B1 [] (I1.grow sm) sm (Same.refl _) ⟨rfl, rfl⟩ Vok.nil
      · exact h1.elim
    · exact h1.elim
  · exact h1.elim
end
end DL
set_option Elab.async false
set_option linter.all false
set_option maxRecDepth 100000
set_option maxHeartbeats 4000000
/-! ### dicts -/
namespace DL
open PySem PySem.Spec PyProof.Rows L2
noncomputable def keyF : D → Option Key | .int i => some (.inl i) | .str x => some (.inr x) | _ => none
noncomputable def keyFs : List D → Option (List Key)
  | [] => some []
  | d :: r => (keyF d).bind fun k => (keyFs r).map (k :: ·)
/-- a value as a key -/
noncomputable def keyK : D → Option KT
  | .int i => some (.inl (.inl i))
  | .str x => some (.inl (.inr x))
  | .tup ds => (keyFs ds).map .inr
  | _ => none
/-- of which kind of dict it is a key -/
noncomputable def KT.kind : KT → Bool | .inl _ => false | .inr _ => true
noncomputable def lookD : List KT → List D → KT → Option D
  | k :: ks, d :: ds, q => if k = q then some d else lookD ks ds q
  | _, _, _ => none
noncomputable def hasK (ks : List KT) (q : KT) : Bool := ks.any fun k => decide (k = q)
noncomputable def putKs (ks : List KT) (q : KT) : List KT := if hasK ks q = true then ks else ks ++ [q]
noncomputable def replD : List KT → List D → KT → D → List D
  | k :: ks, d :: ds, q, x => (if k = q then x else d) :: replD ks ds q x
  | _, ds, _, _ => ds
noncomputable def putVs (ks : List KT) (ds : List D) (q : KT) (d : D) : List D := if hasK ks q = true then replD ks ds q d else ds ++ [d]
section
variable {K : PySem.W.Frag} {Y : XY} {H0 B0 B H : Hp} {σ : L2.St} {τ : SD} {P : List Addr} {F : Addr → Prop} {X : Cx} {pos : Pos}
theorem Rep.dc (I : SI K H0 B0 B H σ τ P F) {t : Tg} {k : Bool} {ks : List KT} {xs : List D} {v : V} {f : List Addr} (r : Rep K B (· ∈ P) H (.dct t k ks xs) v f) : ∃ a vs g, v = .ref a ∧ DictAt H a k ks vs ∧ RepL K B (· ∈ P) H xs vs g ∧ List.Sublist g f := by
  cases t with
  | own =>
    obtain ⟨a, vs, g, e, q, r, z⟩ := r
    subst z
    exact ⟨a, vs, g, e, q, r, List.sublist_cons_self _ _⟩
  | bor =>
    obtain ⟨a, vs, e, q, r, z⟩ := r
    subst z
    exact ⟨a, vs, [], e, q.elim (fun y => y.2) fun y => y.mono I.bh, r, List.Sublist.refl _⟩
  | frz =>
    obtain ⟨a, vs, e, q, r, z⟩ := r
    subst z
    exact ⟨a, vs, [], e, q.mono I.bh, r.mono (Same.refl _) (Same.refl _) (fun _ x => x.elim), List.Sublist.refl _⟩
theorem keyFs_rep {S : Addr → Prop} : ∀ {ds : List D} {k : List Key} {vs : List V} {f : List Addr}, keyFs ds = some k → RepL K B S H ds vs f → vs = k.map kV
  | [], k, vs, f, h, r => by cases h; exact r.1
  | d :: ds, k, vs, f, h, r => by
    obtain ⟨v, w, f1, f2, rfl, r1, r2, _⟩ := r
    unfold keyFs at h
    cases e1 : keyF d with
    | none => rw [e1] at h; cases h
    | some q =>
      rw [e1] at h
      cases e2 : keyFs ds with
      | none => rw [e2] at h; cases h
      | some m =>
        rw [e2] at h
        cases h
        rw [keyFs_rep e2 r2, List.map_cons]
        congr 1
        cases d <;> first | (cases e1; exact r1.1) | cases e1
theorem keyK_l {S : Addr → Prop} {d : D} {k : Key} {v : V} {f : List Addr} (h : keyK d = some (.inl k)) (r : Rep K B S H d v f) : v = kV k := by
  cases d with
  | int i => cases h; exact r.1
  | str i => cases h; exact r.1
  | tup ds =>
    have h : (keyFs ds).map Sum.inr = some (Sum.inl k) := h
    cases e : keyFs ds <;> rw [e] at h <;> cases h
  | _ => cases h
theorem keyK_r {S : Addr → Prop} {d : D} {k : List Key} {v : V} {f : List Addr} (h : keyK d = some (.inr k)) (r : Rep K B S H d v f) : ∃ b, v = .ref b ∧ H b = some (.tup (k.map kV)) := by
  cases d with
  | tup ds =>
    have h : (keyFs ds).map Sum.inr = some (Sum.inr k) := h
    cases e : keyFs ds with
    | none => rw [e] at h; cases h
    | some m =>
      rw [e] at h
      cases h
      obtain ⟨a, vs, rfl, q, rl⟩ := r
      rw [keyFs_rep e rl] at q
      exact ⟨a, rfl, q⟩
  | int i => cases h
  | str i => cases h
  | _ => cases h
/-- look-up by the layer's table and by ours -/
theorem look_some {κ : Type} [DecidableEq κ] (ι : κ → KT) (inj : ∀ a b, ι a = ι b → a = b) {S : Addr → Prop} : ∀ {kvs : List (κ × V)} {xs : List D} {f : List Addr} {k : κ}, RepL K B S H xs (kvs.map (·.2)) f →
    match lookD (kvs.map fun p => ι p.1) xs (ι k) with
    | some d => ∃ v g, valV kvs k = some v ∧ Rep K B S H d v g ∧ List.Sublist g f
    | none => valV kvs k = none
  | [], xs, f, k, r => by cases xs <;> rfl
  | p :: kvs, [], f, k, r => by obtain ⟨h, _⟩ := r; cases h
  | p :: kvs, d :: ds, f, k, r => by
    obtain ⟨v, w, f1, f2, e, r1, r2, rfl⟩ := r
    rw [List.map_cons] at e
    cases e
    rw [List.map_cons, lookD]
    by_cases h : p.1 = k
    · rw [if_pos (congrArg ι h)]
      exact ⟨_, f1, valV_pos h, r1, List.sublist_append_left _ _⟩
    · rw [if_neg fun z => h (inj _ _ z)]
      have ih := look_some ι inj (k := k) r2
      split at ih
      · rename_i d' e'
        obtain ⟨v', g, h1, h2, h3⟩ := ih
        exact ⟨v', g, by rw [valV_neg h]; exact h1, h2, h3.trans (List.sublist_append_right _ _)⟩
      · rename_i e'
        rw [valV_neg h]
        exact ih
/-- what stands at a key -/
theorem dget_ok {a : Addr} {k : Bool} {ks : List KT} {xs : List D} {vs : List V} {g : List Addr} {q : KT} {dk : D} {y : V} {f : List Addr} (hd : DictAt H a k ks vs) (r : RepL K B (· ∈ P) H xs vs g) (hk : keyK dk = some q) (rk : Rep K B (· ∈ P) H dk y f) (hq : q.kind = k) :
    match lookD ks xs q with
    | some d => ∃ v g', DGet H a y (some v) ∧ Rep K B (· ∈ P) H d v g' ∧ List.Sublist g' g
    | none => DGet H a y none := by
  rcases hd with ⟨rfl, kvs, ha, rfl, rfl⟩ | ⟨rfl, kvs, ha, rfl, rfl⟩
  · cases q with
    | inr q => cases hq
    | inl q =>
      have ev := keyK_l hk rk
      subst ev
      have ih := look_some Sum.inl (fun a b h => Sum.inl.inj h) (k := q) r
      split at ih
      · rename_i d e
        rw [e]
        obtain ⟨v, g', h1, h2, h3⟩ := ih
        exact ⟨v, g', h1 ▸ DGet.k ha, h2, h3⟩
      · rename_i e
        rw [e]
        exact ih ▸ DGet.k ha
  · cases q with
    | inl q => cases hq
    | inr q =>
      obtain ⟨b, rfl, hb⟩ := keyK_r hk rk
      have ih := look_some Sum.inr (fun a b h => Sum.inr.inj h) (k := q) r
      split at ih
      · rename_i d e
        rw [e]
        obtain ⟨v, g', h1, h2, h3⟩ := ih
        exact ⟨v, g', h1 ▸ DGet.t ha hb, h2, h3⟩
      · rename_i e
        rw [e]
        exact ih ▸ DGet.t ha hb
/-- {} -/
noncomputable def eDict (k : Bool) (_ : SD) : Res D := .ok (.dct .own k [] [])
theorem newDict {Q : VK} {k : Bool} {o : HO} {pa : Addr} (h : Out K H0 B0 B H σ τ P F Q (.dct .own k [] [])) (I : SI K H0 B0 B H σ τ P F) (hp : H pa = none) (ho : DictAt (upd H pa o) pa k [] []) : Q (.ref pa) (upd H pa o) := by
  have s := sameUpd' (o := o) hp
  obtain ⟨n1, n2, n3, n4⟩ := I.newAt hp
  refine h (.ref pa) _ B [pa] (I.grow s) s (Same.refl _) ⟨pa, [], [], rfl, ho, ⟨rfl, rfl⟩, rfl⟩ ⟨by simp, fun a m => ?_⟩
  have e : a = pa := by simpa using m
  subst e
  exact ⟨n1, n2, (by rw [upd_same]; exact Option.some_ne_none _), n3, n4⟩
theorem q_dictT : PE X (.Dict [] [] pos) (tM X.K Y (eDict true)) := PE.imp pe_dnewT fun σ H Q ⟨H0, B0, B, τ, P, F, I, h⟩ p hp => newDict h I hp (.inr ⟨rfl, [], upd_same, rfl, rfl⟩)
/-- k in d -/
noncomputable def dinD (neg : Bool) (dk dd : D) : Res D := match dd with
  | .dct _ k ks vs => match keyK dk with
    | some q => if q.kind = k then .ok (.bl (xor neg (lookD ks vs q).isSome)) else .bad
    | none => .bad
  | _ => .bad
variable {o i : Expr} {fo fi : SD → Res D}
theorem dinD_ok {neg : Bool} {d1 d2 : D} {y x : V} {f1 f2 : List Addr} {Q : VK} (I : SI K H0 B0 B H σ τ P F) (r1 : Rep K B (· ∈ P) H d1 y f1) (r2 : Rep K B (· ∈ P) H d2 x f2) (h : Goal K Y H0 B0 B H σ τ P F Q (dinD neg d1 d2)) : ∃ a o, x = .ref a ∧ DGet H a y o ∧ Q (.bl (xor neg o.isSome)) H := by
  unfold dinD at h
  split at h
  · split at h
    · rename_i q hk
      split at h
      · rename_i hq
        obtain ⟨a, vs, g, rfl, hd, rl, _⟩ := r2.dc I
        have key := dget_ok hd rl hk r1 hq
        split at key
        · rename_i d e
          rw [e] at h
          obtain ⟨v, g', k1, k2, k3⟩ := key
          exact ⟨a, some v, rfl, k1, Out.here h I ⟨rfl, rfl⟩⟩
        · rename_i e
          rw [e] at h
          exact ⟨a, none, rfl, key, Out.here h I ⟨rfl, rfl⟩⟩
      · exact h.elim
    · exact h.elim
  · exact h.elim
theorem qt_din (hu : X.A.units + 1 < cLine) (hi : PE X i (tM X.K Y fi)) (ho : PE X o (tM X.K Y fo)) (h1 : behindInMarks .In o = false := by rfl) : PT X (.Compare i [.In] [o] pos) (tMB X.K Y (eT (eBin (dinD false) fi fo))) :=
  PT.imp (pt_cmp (pc_din hu hi ho) h1) fun σ H Q hq => ex8 hq fun H0 B0 B τ P F I h => tM.seq2 I (goalB_of h) fun d1 d2 v1 v2 H2 B2 f1 f2 _ _ I2 _ _ r1 r2 k h2 => by
    obtain ⟨a, o, e, g, q⟩ := dinD_ok I2 r1 r2 h2
    rw [Bool.false_xor] at q
    exact ⟨a, o, e, g, q⟩
/-- d.get(k, z) -/
noncomputable def dget2D (dd dk dz : D) : Res D := match dd with
  | .dct _ k ks vs => match keyK dk with
    | some q => if q.kind = k then .ok ((lookD ks vs q).getD dz) else .bad
    | none => .bad
  | _ => .bad
noncomputable def eGet2 (a b c : SD → Res D) (τ : SD) : Res D := (a τ).bind fun x => if isDc x = true then (b τ).bind fun y => (c τ).bind (dget2D x y) else .bad
theorem isD_of {a : Addr} {k : Bool} {ks : List KT} {vs : List V} (h : DictAt H a k ks vs) : IsD H a := by
  rcases h with ⟨_, kvs, h, _⟩ | ⟨_, kvs, h, _⟩
  · exact .inl ⟨kvs, .inl h⟩
  · exact .inr ⟨kvs, .inl h⟩
theorem q_dget2 {e f : Expr} {fe ff : SD → Res D} {apos cpos : Pos} (hu : X.A.units + 1 < cLine) (ho : PE X o (tM X.K Y fo)) (he : PE X e (tM X.K Y fe)) (hf : PE X f (tM X.K Y ff)) (m : M2 X o "get" apos e f cpos) : PE X (.Call (.Attribute o "get" apos) [e, f] [] cpos) (tM X.K Y (eGet2 fo fe ff)) := by
  refine PE.imp (pe_dget2 hu ho he hf m) fun σ H Q hq => ex8 hq fun H0 B0 B τ P F I h => ?_
  refine tM.seq (g := fun x => if isDc x = true then (fe τ).bind fun y => (ff τ).bind (dget2D x y) else .bad) I h fun d1 v1 H1 B1 fp1 _ I1 s1 b1 r1 k1 h1 => ?_
  by_cases hdc : isDc d1 = true
  · rw [if_pos hdc] at h1
    cases d1 with
    | dct t k ks xs =>
      obtain ⟨a, vs, g, rfl, hd, rl, sg⟩ := r1.dc I1
      refine ⟨a, rfl, isD_of hd, ?_⟩
      have I1h := I1.hold k1
      refine ⟨H0, B0, B1, τ, P, _, I1h, ?_⟩
      cases z : fe τ with
      | exn C => rw [z] at h1; exact OutX.later h1 (Same.refl _) (Same.refl _) fun a x => .inr x
      | bad => rw [z] at h1; exact h1
      | ok d2 =>
        rw [z] at h1
        intro v2 H2 B2 fp2 I2 s2 b2 r2 k2
        have I2h := I2.hold k2
        refine ⟨H0, B0, B2, τ, P, _, I2h, ?_⟩
        cases y : ff τ with
        | exn C => rw [y] at h1; exact OutX.later h1 s2 b2 fun a x => .inr (.inr x)
        | bad => rw [y] at h1; exact h1
        | ok d3 =>
          rw [y] at h1
          intro v3 H3 B3 fp3 I3 s3 b3 r3 k3
          have I4 := I3.anti (F' := F) fun a x => .inr (.inr x)
          have h4 : Goal X.K Y H0 B0 B3 H3 σ τ P F Q (dget2D (.dct t k ks xs) d2 d3) := Goal.later h1 (s2.trans s3) (b2.trans b3)
          have r14 := r1.mono (s2.trans s3) (b2.trans b3) fun _ x => x
          have r24 := r2.mono s3 b3 fun _ x => x
          have k3' : Vok H0 B3 H3 P F fp3 := ⟨k3.nd, fun a m => let ⟨a1, a2, a3, a4, a5⟩ := k3.own a m; ⟨a1, a2, a3, a4, fun z => a5 (.inr (.inr z))⟩⟩
          have k1' : Vok H0 B3 H3 P F fp1 := ⟨k1.nd, fun a m => let ⟨_, a2, _, a4, a5⟩ := k1.own a m; ⟨(I3.fr a (.inr (.inl m))).1, a2, (I3.fr a (.inr (.inl m))).2, a4, a5⟩⟩
          simp only [dget2D] at h4
          split at h4
          · rename_i q hk
            split at h4
            · rename_i hq
              obtain ⟨a', vs', g', e', hd', rl', sg'⟩ := r14.dc I4
              cases e'
              have key := dget_ok hd' rl' hk r24 hq
              split at key
              · rename_i d e
                rw [e] at h4
                obtain ⟨v, g'', q1, q2, q3⟩ := key
                exact ⟨some v, q1, Out.hereO h4 I4 q2 (k1'.sub (q3.trans sg'))⟩
              · rename_i e
                rw [e] at h4
                exact ⟨none, key, Out.hereO h4 I4 r3 k3'⟩
            · exact h4.elim
          · exact h4.elim
    | _ => cases hdc
  · rw [if_neg hdc] at h1; exact h1.elim
/-! ### d[k] = v, the dict in the slot i -/
noncomputable def ownDc (τ : SD) (i : Nat) : Option (Bool × List KT × List D) := match τ[i]? with | some (some (.dct .own k ks xs)) => some (k, ks, xs) | _ => none
theorem ownDc_some {τ : SD} {i : Nat} {k : Bool} {ks : List KT} {xs : List D} (h : ownDc τ i = some (k, ks, xs)) : τ[i]? = some (some (.dct .own k ks xs)) := by
  unfold ownDc at h
  split at h
  · rename_i e; cases h; exact e
  · cases h
theorem hasK_map {κ : Type} [DecidableEq κ] (ι : κ → KT) (inj : ∀ a b, ι a = ι b → a = b) (k : κ) : ∀ kvs : List (κ × V), hasK (kvs.map fun p => ι p.1) (ι k) = kvs.any fun kv => decide (kv.1 = k)
  | [] => rfl
  | p :: r => by
    have ih := hasK_map ι inj k r
    unfold hasK at ih ⊢
    rw [List.map_cons, List.any_cons, List.any_cons, ih]
    congr 1
    by_cases h : p.1 = k
    · simp [h]
    · rw [decide_eq_false h, decide_eq_false fun z => h (inj _ _ z)]
theorem put_ok {κ : Type} [DecidableEq κ] (ι : κ → KT) (inj : ∀ a b, ι a = ι b → a = b) {kvs : List (κ × V)} {xs : List D} {f fp : List Addr} {k : κ} {d : D} {v : V} (r : RepL K B No H xs (kvs.map (·.2)) f) (rv : Rep K B No H d v fp) (hp : hasK (kvs.map fun p => ι p.1) (ι k) = true → d.pure = true) :
    putKs (kvs.map fun p => ι p.1) (ι k) = (putK kvs k v).map (fun p => ι p.1) ∧ ∃ f', RepL K B No H (putVs (kvs.map fun p => ι p.1) xs (ι k) d) ((putK kvs k v).map (·.2)) f' ∧ (∀ b ∈ f', b ∈ f ∨ b ∈ fp) ∧ (f.Nodup → fp.Nodup → (∀ b ∈ fp, b ∉ f) → f'.Nodup) := by
  unfold putKs putVs putK
  rw [hasK_map ι inj k kvs] at hp ⊢
  by_cases h : (kvs.any fun kv => decide (kv.1 = k)) = true
  · rw [if_pos h, if_pos h, if_pos h]
    have hpu := hp h
    have hfp : fp = [] := pure_fp.1 d hpu rv
    subst hfp
    refine ⟨?_, ?_⟩
    · rw [List.map_map]
      refine List.map_congr_left fun p _ => ?_
      show _ = ι (if p.1 = k then (p.1, v) else p).1
      split <;> rfl
    · have key : ∀ {kvs : List (κ × V)} {xs : List D} {f : List Addr}, RepL K B No H xs (kvs.map (·.2)) f → ∃ f', RepL K B No H (replD (kvs.map fun p => ι p.1) xs (ι k) d) ((kvs.map fun kv => if kv.1 = k then (kv.1, v) else kv).map (·.2)) f' ∧ List.Sublist f' f := by
        intro kvs
        induction kvs with
        | nil => intro xs f r; cases xs with
          | nil => exact ⟨f, r, List.Sublist.refl _⟩
          | cons x xs => obtain ⟨_, _, _, _, e, _⟩ := r; cases e
        | cons p kvs ih =>
          intro xs f r
          cases xs with
          | nil => obtain ⟨e, _⟩ := r; cases e
          | cons x xs =>
            obtain ⟨u, w, f1, f2, e, r1, r2, rfl⟩ := r
            rw [List.map_cons] at e
            cases e
            obtain ⟨g, h1, h2⟩ := ih r2
            rw [List.map_cons, List.map_cons, List.map_cons, replD]
            by_cases hk : p.1 = k
            · rw [if_pos hk, if_pos (congrArg ι hk)]
              exact ⟨g, ⟨v, _, [], g, rfl, rv, h1, rfl⟩, h2.trans (List.sublist_append_right _ _)⟩
            · rw [if_neg hk, if_neg fun z => hk (inj _ _ z)]
              exact ⟨f1 ++ g, ⟨_, _, f1, g, rfl, r1, h1, rfl⟩, List.Sublist.append (List.Sublist.refl _) h2⟩
      obtain ⟨g, h1, h2⟩ := key r
      exact ⟨g, h1, fun b m => .inl (h2.subset m), fun n _ _ => n.sublist h2⟩
  · rw [if_neg h, if_neg h, if_neg h]
    refine ⟨by rw [List.map_append]; rfl, f ++ fp, ?_, fun b m => List.mem_append.mp m, fun n1 n2 n3 => List.nodup_append.mpr ⟨n1, n2, fun a ha b hb e => n3 b hb (e ▸ ha)⟩⟩
    rw [List.map_append]
    exact r.append (RepL.one rv)
/-- the dict at its address is written -/
theorem SI.mutD {i : Nat} {k : Bool} {ks ks' : List KT} {xs xs' : List D} {gp : List Addr} {a : Addr} {o' : HO} (I : SI K H0 B0 B H σ τ P No) (hi : τ[i]? = some (some (.dct .own k ks xs))) (ev : σ[i]? = some (some (.ref a))) (kv : Vok H0 B H P No gp) (mu : ∃ o, H a = some o ∧ mutO o)
    (items : ∀ vs f, DictAt H a k ks vs → RepL K B No H xs vs f → ∃ vs' f', DictAt (upd H a o') a k ks' vs' ∧ RepL K B No H xs' vs' f' ∧ (∀ b ∈ f', b ∈ f ∨ b ∈ gp) ∧ (f.Nodup → (∀ b ∈ gp, b ∉ f) → f'.Nodup)) :
    ∃ P', Aft K H0 B0 B H B (upd H a o') σ (τ.set i (some (.dct .own k ks' xs'))) P' := by
  have hi' : i < τ.length := (List.getElem?_eq_some_iff.mp hi).1
  obtain ⟨A, f, C, e, h1, h2⟩ := I.rep.cut hi'
  obtain ⟨v, e1, r1⟩ := h1 _ hi
  rw [ev] at e1
  cases e1
  obtain ⟨a', ws, g, ea, hq, rl, ef⟩ := r1
  cases ea
  subst ef
  have nd0 := I.nd
  rw [e] at nd0
  have ndf : (a :: g).Nodup := (nd0.sublist (List.sublist_append_left _ _)).sublist (List.sublist_append_right _ _)
  have gdis : ∀ b ∈ gp, b ∉ a :: g := fun b m z => (kv.own b m).2.2.2.1 (by rw [e]; exact sublist_mid _ _ _ b z)
  obtain ⟨vs', f', dq', r', s', n'⟩ := items ws g hq rl
  obtain ⟨na, ng⟩ := List.nodup_cons.mp ndf
  have hna : a ∉ f' := fun m => (s' a m).elim na fun z => gdis a z List.mem_cons_self
  have es : σ.set i (some (.ref a)) = σ := by
    refine List.ext_getElem? fun k => ?_
    by_cases hk : k = i
    · subst hk
      rw [List.getElem?_set_self (List.getElem?_eq_some_iff.mp ev).1, ev]
    · rw [List.getElem?_set_ne (Ne.symm hk)]
  have kp : Keep H (upd H a o') [a] := ⟨fun b o h n => by rw [upd_ne (by simpa using n)]; exact h, fun b m => by
    have : b = a := by simpa using m
    subst this
    exact mu⟩
  have kpf : Keep H (upd H a o') (a :: g) := ⟨fun b o h n => kp.keep b o h (fun z => n (List.mem_cons.mpr (.inl (List.mem_singleton.mp z)))), fun b m => I.rep.own b (by rw [e]; exact sublist_mid _ _ _ b m)⟩
  have key := I.put (i := i) (H1 := upd H a o') (d' := .dct .own k ks' xs') (v' := .ref a) (f' := a :: f') hi' e h2 kpf ⟨a, vs', f', rfl, dq', r'.keep kp fun b m => by
      have : b ≠ a := fun z => hna (z ▸ m)
      simpa using this, rfl⟩ (List.nodup_cons.mpr ⟨hna, n' ng fun b m z => gdis b m (List.mem_cons_of_mem _ z)⟩) fun b m => ?_
  · rw [es] at key
    exact ⟨_, key, Same.refl _, fun b o h n => kp.imm h n⟩
  · rcases List.mem_cons.mp m with q | q
    · exact .inl (by simp [q])
    · rcases s' b q with z | z
      · exact .inl (List.mem_cons_of_mem _ z)
      · obtain ⟨a1, a2, a3, a4, a5⟩ := kv.own b z
        exact .inr (.inr ⟨a4, a1, a2, a5⟩)
/-- the value first, then the key -/
noncomputable def sDput (i : Nat) (fk fv : SD → Res D) (τ : SD) : Fl := (fv τ).toFl τ fun d => match ownDc τ i with
  | some (k, ks, xs) => (fk τ).toFl τ fun dk => match keyK dk with
    | some q => if q.kind = k ∧ d.hasBor = false ∧ ks.length < 16777216 ∧ (hasK ks q = true → d.pure = true) then .nx (τ.set i (some (.dct .own k (putKs ks q) (putVs ks xs q d)))) else .bad
    | none => .bad
  | none => .bad
theorem s_dput (i : Nat) {x : Str} {p1 pos' : Pos} {ke value : Expr} {fk fv : SD → Res D} (hu : X.A.units + 1 < cLine) (hk : PE X ke (tM X.K Y fk)) (hv : PE X value (tM X.K Y fv)) (hN : X.N[i]? = some x := by rfl) (hvi : Vis X.env.scope x := by first | exact Or.inl rfl | exact Or.inr (Or.inl rfl) | exact Or.inr (Or.inr rfl)) (hd : (x == ("__debug__" : Str)) = false := by decide) (hcd : (x == ("__classdict__" : Str)) = false := by decide)
    (hs : swapsWith value (some (.Subscript (.Name x p1) ke pos')) pos.line X.env = pure false := by rfl) : PS X (.Assign [.Subscript (.Name x p1) ke pos'] value pos) (tMS X.K Y (sDput i fk fv)) := by
  refine PS.imp (ps_dput hu (pe_var hN hvi hd hcd) hk hv hs) fun E σ H hq => ex7 hq fun H0 B0 B τ P I h => ?_
  refine exprS I h fun d v H1 B1 fp _ I1 s1 b1 r1 k1 h1 => ?_
  cases z : ownDc τ i with
  | none => rw [z] at h1; exact h1.elim
  | some t =>
    obtain ⟨k, ks, xs⟩ := t
    rw [z] at h1
    have hi := ownDc_some z
    obtain ⟨w, f, e1, r2, sf⟩ := I1.rep.get hi
    obtain ⟨a, ws, g, rfl, dq, rl, ef⟩ := r2
    refine ⟨.ref a, e1, ?_⟩
    refine ⟨H0, B0, B1, τ, P, _, I1.hold k1, ?_⟩
    simp only at h1
    cases y : fk τ with
    | exn C => rw [y] at h1; exact fun H2 B2 I2 s2 b2 => h1 B2 H2 σ P (Aft.grow (I2.anti fun _ x => x.elim) b2 s2)
    | bad => rw [y] at h1; exact h1
    | ok dk =>
      rw [y] at h1
      intro vk H2 B2 fq I2 s2 b2 rk kk
      have I3 : SI X.K H0 B0 B2 H2 σ τ P No := I2.anti fun _ x => x.elim
      have h2 := GoalS.later h1 (Aft.grow I3 b2 s2)
      simp only [Res.toFl] at h2
      cases hkk : keyK dk with
      | none => rw [hkk] at h2; exact h2.elim
      | some q =>
        rw [hkk] at h2
        simp only at h2
        split at h2
        · rename_i hc
          obtain ⟨c1, c2, c3, c4⟩ := hc
          have kv : Vok H0 B2 H2 P No fp := ⟨k1.nd, fun a m => let ⟨_, a2, _, a4, a5⟩ := k1.own a m; ⟨(I2.fr a (.inl m)).1, a2, (I2.fr a (.inl m)).2, a4, a5⟩⟩
          have rd := (r1.noBor c2).mono s2 b2 fun _ x => x
          have dq2 := dq.mono s2
          have rl2 := rl.mono s2 b2 fun _ x => x
          have mu : ∃ o, H2 a = some o ∧ mutO o := by
            rcases dq2 with ⟨_, kvs, q, _⟩ | ⟨_, kvs, q, _⟩
            · exact ⟨_, q, trivial⟩
            · exact ⟨_, q, trivial⟩
          rcases dq2 with ⟨rfl, kvs, ha, hks, hws⟩ | ⟨rfl, kvs, ha, hks, hws⟩
          · cases q with
            | inr q => cases c1
            | inl q =>
              have ev := keyK_l hkk rk
              subst ev
              subst hks hws
              obtain ⟨P', A'⟩ := I3.mutD (o' := .dK (putK kvs q v)) (ks' := putKs (kvs.map fun p => Sum.inl p.1) (.inl q)) (xs' := putVs (kvs.map fun p => Sum.inl p.1) xs (.inl q) d) hi e1 kv mu fun vs f hda hr => by
                rcases hda with ⟨_, kvs', q1, q2, q3⟩ | ⟨q0, _⟩
                · rw [ha] at q1
                  cases q1
                  subst q3
                  obtain ⟨p1, f', p2, p3, p4⟩ := put_ok Sum.inl (fun a b h => Sum.inl.inj h) (k := q) hr rd c4
                  exact ⟨_, f', .inl ⟨rfl, _, upd_same, p1, rfl⟩, p2, p3, fun n1 n2 => p4 n1 kv.nd n2⟩
                · cases q0
              exact ⟨a, _, rfl, DPut.k ha (by rw [sizeLine_eq]; simpa using c3), h2 B2 _ σ P' A'⟩
          · cases q with
            | inl q => cases c1
            | inr q =>
              obtain ⟨b, rfl, hb⟩ := keyK_r hkk rk
              subst hks hws
              obtain ⟨P', A'⟩ := I3.mutD (o' := .dT (putK kvs q v)) (ks' := putKs (kvs.map fun p => Sum.inr p.1) (.inr q)) (xs' := putVs (kvs.map fun p => Sum.inr p.1) xs (.inr q) d) hi e1 kv mu fun vs f hda hr => by
                rcases hda with ⟨q0, _⟩ | ⟨_, kvs', q1, q2, q3⟩
                · cases q0
                · rw [ha] at q1
                  cases q1
                  subst q3
                  obtain ⟨p1, f', p2, p3, p4⟩ := put_ok Sum.inr (fun a b h => Sum.inr.inj h) (k := q) hr rd c4
                  exact ⟨_, f', .inr ⟨rfl, _, upd_same, p1, rfl⟩, p2, p3, fun n1 n2 => p4 n1 kv.nd n2⟩
              exact ⟨a, _, rfl, DPut.t ha hb (by rw [sizeLine_eq]; simpa using c3), h2 B2 _ σ P' A'⟩
        · exact h2.elim
end
end DL
set_option Elab.async false
set_option linter.all false
set_option maxRecDepth 100000
set_option maxHeartbeats 4000000
/-! ### from the text to the law -/
namespace DL
open PySem PySem.Spec PyProof.Rows L2
section
variable {P : Program} {w : World} {K : PySem.W.Frag} {mg : Str → Option Value} {base : Heap}
theorem cal_bad {x : Str} {st : Stmt} {ps : List Str} {k : Nat} (D : Dfn K mg x st ps) : Cal P w K mg base k x ps (spF K fun _ => .bad) := by
  obtain ⟨f, fd, F, hm, hb⟩ := D.ex
  exact ⟨f, fd, hm, F.kp, hb, fun vs H Q E h => by obtain ⟨_, _, _, _, h⟩ := h; exact h.elim, fun A outer s H args us vs Q E hr he hbd hv h => by obtain ⟨_, _, _, _, h⟩ := h; exact h.elim⟩
theorem cal_of2 {x : Str} {st : Stmt} {N ps : List Str} {k n m : Nat} {g : SF} (D : Dfn K mg x st ps) (S : FnScope N ps (defScope st)) (hn : ps.length = n) (hm : N.length = m)
    (hbody : ∀ (f : Addr) (cdv : Value) (A : Around) (outer : List Env) (s : Shared) (H : Hp), Room k (A.deeper (envOfC x (defScope st) s.heap.objs.size f cdv)) →
      PSs (cxOf CX0 P w K mg base N x (defScope st) f cdv A outer s H E0).nox (defBody st) (tMS K (fun _ _ _ => False) g)) : Cal P w K mg base (k + 1) x ps (spF K (runF n m g)) := by
  subst hn hm
  exact cal_of D S hbody
theorem fnok_of2 {x : Str} {st : Stmt} {N ps : List Str} {k n m : Nat} {g : SF} {f : Addr} {fd : FuncData} (D : Fun K x x st f fd) (S : FnScope N ps (defScope st)) (hn : ps.length = n) (hm : N.length = m)
    (hbody : ∀ (f : Addr) (cdv : Value) (A : Around) (outer : List Env) (s : Shared) (H : Hp), Room k (A.deeper (envOfC x (defScope st) s.heap.objs.size f cdv)) →
      PSs (cxOf CX0 P w K mg base N x (defScope st) f cdv A outer s H E0).nox (defBody st) (tMS K (fun _ _ _ => False) g)) : FnOk P w K mg base CX0 (k + 1) f fd ps (spF K (runF n m g)) := by
  subst hn hm
  exact fnok_of D S hbody
theorem dfn_mk {h : Heap} {x : Str} {st : Stmt} {ps : List Str} {f : Addr} {oc : Value} {od an : Option Addr} {osl : Array (Option Value)} {kV doc pm cdv ct : Value} (KX : K.In h) (G : h.Ns mainGlobals mg) (a : PySem.W.nsIn K mainGlobals x = some (some (.ref f)))
    (l : K.lookup f = some ⟨oc, od, .func (PySem.W.fnOf x x (defArgs st) (defBody st) (defScope st) .none kV doc pm an cdv ct), osl⟩) (c : PySem.W.codeIn K cdv x = true) (k : PySem.W.keepIn K (.ref f) = true)
    (hb : ∀ (kV doc pm : Value) (an : Option Addr) (cdv ct : Value) (us : List Value), us.length = ps.length → bindArgs (PySem.W.fnOf x x (defArgs st) (defBody st) (defScope st) .none kV doc pm an cdv ct) ⟨us, []⟩ = pure (ps.zip us)) : Dfn K mg x st ps :=
  ⟨f, _, fun_mk l c k, PySem.W.mg_of KX G a, (fun_mk l c k).binds hb⟩
/-- the law's promise -/
theorem law_sp {G : DF} {H : Hp} {a : Addr} {ns : List Int} (hS : SqL K H a (ns.map V.int)) (h : G [.lst .frz (ns.map D.int)] = .ok (.bl true)) : spF K G [.ref a] H (fun v _ => v = .bl true) fun _ _ _ => False := by
  refine ⟨H, [.lst .frz (ns.map D.int)], Same.refl _, RepL.one ⟨a, _, rfl, hS, ints_repL ns, rfl⟩, ?_⟩
  rw [h]
  exact fun B' H' v fp r => r.rep.1
end
end DL
set_option Elab.async false
set_option linter.all false
set_option maxRecDepth 100000
set_option maxHeartbeats 4000000
/-! ### reckoning with deep values -/
namespace DL
open PySem PySem.Spec PyProof.Rows L2
theorem pure_ints (ns : List Int) : pureL (ns.map D.int) = true := pureL_of fun d hd => by obtain ⟨n, _, rfl⟩ := List.mem_map.mp hd; rfl
@[simp] theorem view_ints (ns : List Int) : viewL (ns.map D.int) = ns.map D.int := viewL_pure _ (pure_ints ns)
@[simp] theorem frz_ints (ns : List Int) : frzL (ns.map D.int) = ns.map D.int := frzL_pure _ (pure_ints ns)
@[simp] theorem bor_ints (ns : List Int) : hasBorL (ns.map D.int) = false := hasBorL_pure _ (pure_ints ns)
@[simp] theorem own_ints (ns : List Int) : hasOwnL (ns.map D.int) = false := hasOwnL_pure _ (pure_ints ns)
@[simp] theorem toBor_ints (ns : List Int) : toBorL (ns.map D.int) = ns.map D.int := toBorL_pure _ (pure_ints ns)
@[simp] theorem unbor_ints (ns : List Int) : unborL (ns.map D.int) = ns.map D.int := unborL_id _ (bor_ints ns)
@[simp] theorem ints_map (ns : List Int) : intsOf (ns.map D.int) = some ns := intsOf_map ns
@[simp] theorem andThen_nx (τ : SD) (s : SF) : (Fl.nx τ).andThen s = s τ := rfl
@[simp] theorem andThen_rt (d : D) (s : SF) : (Fl.rt d).andThen s = .rt d := rfl
@[simp] theorem andThen_bk (τ : SD) (s : SF) : (Fl.bk τ).andThen s = .bk τ := rfl
@[simp] theorem andThen_ct (τ : SD) (s : SF) : (Fl.ct τ).andThen s = .ct τ := rfl
@[simp] theorem andThen_ex (C : PySem.Addr) (τ : SD) (s : SF) : (Fl.ex C τ).andThen s = .ex C τ := rfl
@[simp] theorem andThen_bad (s : SF) : Fl.bad.andThen s = .bad := rfl
@[simp] theorem toFl_ok (τ : SD) (d : D) (k : D → Fl) : (Res.ok d).toFl τ k = k d := rfl
@[simp] theorem toFl_exn (τ : SD) (C : PySem.Addr) (k : D → Fl) : (Res.exn C : Res D).toFl τ k = .ex C τ := rfl
@[simp] theorem toFl_bad (τ : SD) (k : D → Fl) : (Res.bad : Res D).toFl τ k = .bad := rfl
@[simp] theorem toFlB_ok (τ : SD) (d : Bool) (k : Bool → Fl) : (Res.ok d).toFlB τ k = k d := rfl
@[simp] theorem toFlB_exn (τ : SD) (C : PySem.Addr) (k : Bool → Fl) : (Res.exn C : Res Bool).toFlB τ k = .ex C τ := rfl
@[simp] theorem toFlB_bad (τ : SD) (k : Bool → Fl) : (Res.bad : Res Bool).toFlB τ k = .bad := rfl
@[simp] theorem noX_bad : (Res.bad : Res D).noX = .bad := rfl
@[simp] theorem out_rt (d : D) : (Fl.rt d).out = .ok d := rfl
@[simp] theorem out_nx (τ : SD) : (Fl.nx τ).out = .ok .non := rfl
@[simp] theorem out_ex (C : PySem.Addr) (τ : SD) : (Fl.ex C τ).out = .exn C := rfl
@[simp] theorem out_bad : Fl.bad.out = .bad := rfl
theorem eBin_ok {g : D → D → Res D} {a b : SD → Res D} {τ : SD} {x y : D} (ha : a τ = .ok x) (hb : b τ = .ok y) : eBin g a b τ = g x y := by unfold eBin; rw [ha, hb]; rfl
theorem if_nx {c : SD → Res Bool} {a b : SF} {τ : SD} {t : Bool} (h : c τ = .ok t) : sIf c a b τ = if t = true then a τ else b τ := by unfold sIf; rw [h]; rfl
theorem range1_nat {n : Nat} (h : n ≤ 1000000000) : range1D [.int n] = .ok (false, (List.range n).map fun k : Nat => .int k) := by
  have h1 : -1000000000 ≤ (n : Int) ∧ (n : Int) ≤ 1000000000 := by omega
  simp [range1D, h1]
/-! one statement after another -/
theorem seq_nx {a b : SF} {τ τ' : SD} (h : a τ = .nx τ') : sSeq a b τ = b τ' := by unfold sSeq; rw [h]; rfl
theorem set_nx {i : Nat} {e : SD → Res D} {τ : SD} {d : D} (h : e τ = .ok d) (hb : d.hasBor = false) : sSet i e τ = .nx (τ.set i (some d)) := by
  unfold sSet setD
  rw [h, toFl_ok, hb]
  rfl
/-- an item -/
theorem atI_of {α : Type} {xs : List α} {i : Int} {j : Nat} {v : α} (hi : i = j) (h : xs[j]? = some v) : atI xs i = some v := by subst hi; exact atI_nat h
/-- a loop by its states -/
theorem forD_eq {tg : TGD} {body : SF} (st : Nat → SD) : ∀ {ds : List D} (i : Nat), (∀ j d, ds[j]? = some d → ∃ τ', tg d (st (i + j)) = some τ' ∧ body τ' = .nx (st (i + j + 1))) → forD tg body ds (st i) = .nx (st (i + ds.length))
  | [], i, _ => rfl
  | d :: r, i, h => by
    obtain ⟨τ', h1, h2⟩ := h 0 d rfl
    unfold forD
    simp only [Nat.add_zero] at h1 h2
    rw [h1]
    simp only [h2]
    have ih := forD_eq st (ds := r) (i + 1) fun j e he => by
      have := h (j + 1) e (by simpa using he)
      rw [show i + (j + 1) = i + 1 + j by omega] at this
      exact this
    rw [ih, List.length_cons]
    congr 2
    omega
/-- .. that may leave: the first turn that does not go on -/
theorem forD_inv {tg : TGD} {body : SF} (Pv : Nat → SD → Prop) : ∀ {ds : List D} (i : Nat) (τ : SD), Pv i τ → (∀ j d τ, ds[j]? = some d → Pv (i + j) τ → ∃ τ' t, tg d τ = some τ' ∧ (body τ' = .nx t ∨ body τ' = .ct t) ∧ Pv (i + j + 1) t) → ∃ t, forD tg body ds τ = .nx t ∧ Pv (i + ds.length) t
  | [], i, τ, h0, _ => ⟨τ, rfl, h0⟩
  | d :: r, i, τ, h0, h => by
    obtain ⟨τ', t, h1, h2, h3⟩ := h 0 d τ rfl h0
    have ih := forD_inv Pv (ds := r) (i + 1) t h3 fun j e τ he hp => by
      have := h (j + 1) e τ (by simpa using he) (by rw [show i + (j + 1) = i + 1 + j by omega]; exact hp)
      rw [show i + (j + 1) = i + 1 + j by omega] at this
      exact this
    obtain ⟨u, h4, h5⟩ := ih
    refine ⟨u, ?_, by rw [List.length_cons, show i + (r.length + 1) = i + 1 + r.length by omega]; exact h5⟩
    unfold forD
    rw [h1]
    rcases h2 with h2 | h2 <;> (simp only [h2]; exact h4)
/-- a comprehension of one name -/
theorem compD_one {tt : SD → Res Bool} {elt : SD → Res D} {caps : SD} (p : D → Bool) (f : D → D) : ∀ {ds : List D} (o : Option D), (∀ d ∈ ds, tt (some d :: caps) = .ok (p d)) → (∀ d ∈ ds, p d = true → elt (some d :: caps) = .ok (f d) ∧ (f d).hasBor = false) → compD (gN 0) tt elt ds (o :: caps) = .ok ((ds.filter p).map f)
  | [], o, _, _ => rfl
  | d :: r, o, ht, he => by
    have ih := compD_one p f (ds := r) (some d) (fun e m => ht e (List.mem_cons_of_mem _ m)) fun e m => he e (List.mem_cons_of_mem _ m)
    unfold compD
    simp only [gN, List.set_cons_zero]
    rw [ht d List.mem_cons_self]
    simp only [Res.bind_ok]
    by_cases hp : p d = true
    · obtain ⟨h1, h2⟩ := he d List.mem_cons_self hp
      simp only [hp, if_true, h1, Res.bind_ok, h2, Bool.false_eq_true, if_false, ih]
      rw [List.filter_cons_of_pos hp, List.map_cons]
    · simp only [hp, if_false, ih, Bool.false_eq_true]
      rw [List.filter_cons_of_neg hp]
theorem compD_all {elt : SD → Res D} {caps : SD} (f : D → D) {ds : List D} (o : Option D) (he : ∀ d ∈ ds, elt (some d :: caps) = .ok (f d) ∧ (f d).hasBor = false) : compD (gN 0) bTrue elt ds (o :: caps) = .ok (ds.map f) := by
  have := compD_one (tt := bTrue) (fun _ => true) f o (fun d _ => rfl) fun d m _ => he d m
  rw [List.filter_eq_self.mpr fun _ _ => rfl] at this
  exact this
/-- a call whose answer holds no list -/
theorem callD_pure {G : DF} {ds : List D} {d : D} (h : G (frzL ds) = .ok d) (hp : d.pure = true) : callD G ds = .ok d := by
  unfold callD
  rw [h]
  split
  · simp [toBor_pure d hp]
  · rfl
theorem callD_own {G : DF} {ds : List D} {d : D} (h : G (frzL ds) = .ok d) (hb : hasBorL ds = false) : callD G ds = .ok d := by
  unfold callD
  rw [h, hb]
  rfl
theorem eCall_pure {G : DF} {fs : SD → Res (List D)} {τ : SD} {ds : List D} {d : D} (ha : fs τ = .ok ds) (h : G (frzL ds) = .ok d) (hp : d.pure = true) : eCall G fs τ = .ok d := by
  unfold eCall; rw [ha]; exact callD_pure h hp
theorem eCall_own {G : DF} {fs : SD → Res (List D)} {τ : SD} {ds : List D} {d : D} (ha : fs τ = .ok ds) (h : G (frzL ds) = .ok d) (hb : hasBorL ds = false) : eCall G fs τ = .ok d := by
  unfold eCall; rw [ha]; exact callD_own h hb
theorem eComp_all {it : SD → Res (Bool × List D)} {elt : SD → Res D} {cap : List (PySem.Str × Nat)} {τ : SD} {fl : Bool} {ds : List D} (f : D → D) (hit : it τ = .ok (fl, ds)) (he : ∀ d ∈ frzL ds, elt (some d :: capD τ cap) = .ok (f d) ∧ (f d).pure = true) (hl : ds.length ≤ 16777216) :
    eComp it (gN 0) bTrue elt 1 cap τ = .ok (.lst .own ((frzL ds).map f)) := by
  have hp : pureL ((frzL ds).map f) = true := pureL_of fun d m => by
    obtain ⟨x, hx, rfl⟩ := List.mem_map.mp m
    exact (he x hx).2
  have hl' : ((frzL ds).map f).length ≤ 16777216 := by rw [List.length_map, frzL_eq, List.length_map]; exact hl
  have hc : compD (gN 0) bTrue elt (frzL ds) (List.replicate 1 none ++ capD τ cap) = .ok ((frzL ds).map f) := compD_all f none fun d m => ⟨(he d m).1, hasBor_pure _ (he d m).2⟩
  unfold eComp
  rw [hit, Res.bind_ok]
  simp only [hc, if_pos hl', toBorL_pure _ hp, ite_self]
theorem eComp_if {it : SD → Res (Bool × List D)} {tt : SD → Res Bool} {elt : SD → Res D} {cap : List (PySem.Str × Nat)} {τ : SD} {fl : Bool} {ds : List D} (p : D → Bool) (f : D → D) (hit : it τ = .ok (fl, ds)) (ht : ∀ d ∈ frzL ds, tt (some d :: capD τ cap) = .ok (p d)) (he : ∀ d ∈ frzL ds, p d = true → elt (some d :: capD τ cap) = .ok (f d) ∧ (f d).pure = true) (hl : ds.length ≤ 16777216) :
    eComp it (gN 0) tt elt 1 cap τ = .ok (.lst .own (((frzL ds).filter p).map f)) := by
  have hp : pureL (((frzL ds).filter p).map f) = true := pureL_of fun d m => by
    obtain ⟨x, hx, rfl⟩ := List.mem_map.mp m
    obtain ⟨h1, h2⟩ := List.mem_filter.mp hx
    exact (he x h1 h2).2
  have hl' : (((frzL ds).filter p).map f).length ≤ 16777216 := by
    rw [List.length_map]
    refine Nat.le_trans (List.length_filter_le _ _) ?_
    rw [frzL_eq, List.length_map]; exact hl
  have hc : compD (gN 0) tt elt (frzL ds) (List.replicate 1 none ++ capD τ cap) = .ok (((frzL ds).filter p).map f) := compD_one p f none ht fun d m hp => ⟨(he d m hp).1, hasBor_pure _ (he d m hp).2⟩
  unfold eComp
  rw [hit, Res.bind_ok]
  simp only [hc, if_pos hl', toBorL_pure _ hp, ite_self]
/-! slices by a place -/
theorem sIx_nat (n d a : Nat) : HT.sIx n d (some (a : Int)) = min a n := by
  unfold HT.sIx
  have h : ¬ (a : Int) < 0 := by omega
  simp only [h, if_false]
  omega
theorem cut_to {α : Type} (xs : List α) (a : Nat) : cut xs none (some (a : Int)) = xs.take a := by
  unfold cut
  rw [sIx_nat, show HT.sIx xs.length 0 none = 0 from rfl, List.drop_zero, Nat.sub_zero]
  by_cases h : a ≤ xs.length
  · rw [Nat.min_eq_left h]
  · rw [Nat.min_eq_right (by omega), List.take_of_length_le (Nat.le_refl _), List.take_of_length_le (by omega)]
theorem bor_own {xs : List D} (h : pureL xs = true) : (D.lst .own xs).hasBor = false := by
  show (false || hasBorL xs) = false
  rw [hasBorL_pure xs h]; rfl
theorem eA_ok {g : List D → Res D} {f : SD → Res (List D)} {τ : SD} {ds : List D} (h : f τ = .ok ds) : eA g f τ = g ds := by unfold eA; rw [h]; rfl
theorem aCons_ok {f : SD → Res D} {g : SD → Res (List D)} {τ : SD} {d : D} {ds : List D} (h1 : f τ = .ok d) (h2 : g τ = .ok ds) : aCons f g τ = .ok (d :: ds) := by unfold aCons; rw [h1, h2]; rfl
theorem aOne {f : SD → Res D} {τ : SD} {d : D} (h1 : f τ = .ok d) : aCons f aNil τ = .ok [d] := aCons_ok h1 rfl
theorem ret_rt {e : SD → Res D} {τ : SD} {d : D} (h : e τ = .ok d) (hb : d.hasBor = false) : sRet e τ = .rt d := by unfold sRet; rw [h, toFl_ok, unbor_id d hb]
theorem var_pure {i : Nat} {τ : SD} {d : D} (h : τ[i]? = some (some d)) (hp : d.pure = true) : eVar i τ = .ok d := by unfold eVar; rw [h]; simp [view_pure d hp]
theorem var_frz {i : Nat} {τ : SD} {xs : List D} (h : τ[i]? = some (some (.lst .frz xs))) (hp : pureL xs = true) : eVar i τ = .ok (.lst .frz xs) := by unfold eVar; rw [h]; simp [D.view, Tg.view, viewL_pure xs hp]
theorem var_own {i : Nat} {τ : SD} {xs : List D} (h : τ[i]? = some (some (.lst .own xs))) (hp : pureL xs = true) : eVar i τ = .ok (.lst .bor xs) := by unfold eVar; rw [h]; simp [D.view, Tg.view, viewL_pure xs hp]
end DL
set_option Elab.async false
set_option linter.all false
set_option maxRecDepth 100000
set_option maxHeartbeats 4000000
/-! ### zip -/
namespace DL
open PySem PySem.Spec PyProof.Rows L2
section
variable {K : PySem.W.Frag} {Y : XY} {H0 B0 B H : Hp} {σ : L2.St} {τ : SD} {P : List Addr} {F : Addr → Prop} {X : Cx} {pos : Pos}
end
end DL
set_option Elab.async false
set_option linter.all false
set_option maxRecDepth 100000
set_option maxHeartbeats 4000000
/-! ### more of a list's own deeds -/
namespace DL
open PySem PySem.Spec PyProof.Rows L2
section
variable {K : PySem.W.Frag} {Y : XY} {H0 B0 B H : Hp} {σ : L2.St} {τ : SD} {P : List Addr} {F : Addr → Prop} {X : Cx} {pos : Pos} {e : Expr} {fe : SD → Res D}
end
end DL
set_option Elab.async false
set_option linter.all false
set_option maxRecDepth 100000
set_option maxHeartbeats 4000000
/-! ### all and any -/
namespace DL
open PySem PySem.Spec PyProof.Rows L2
end DL
set_option Elab.async false
set_option linter.all false
set_option maxRecDepth 100000
set_option maxHeartbeats 4000000
/-! ### t.index(k) -/
namespace DL
open PySem PySem.Spec PyProof.Rows L2
section
variable {K : PySem.W.Frag} {Y : XY} {X : Cx} {o e : Expr} {fo fe : SD → Res D} {apos cpos : Pos}
end
end DL
set_option Elab.async false
set_option linter.all false
set_option maxRecDepth 100000
set_option maxHeartbeats 2000000
/-! ### an exception in flight, its whole object told -/
namespace XF
open PySem
/-- an exception's object: its arguments' tuple t, its newest traceback -/
noncomputable def eX (cls : Value) (t : Addr) (tb : Value) : Obj := { cls := cls, data := .fields #[.ref t, tb, .none, .none, .bool false, .none] }
theorem eX_set (cls : Value) (t : Addr) (tb x : Value) : Obj.mapFields (·.setIfInBounds 1 x) (eX cls t tb) = eX cls t x := rfl
/-- it bears a traceback, whose mark is fl; nothing of this lies in B -/
structure Tr (B : Heap) (e : Addr) (cls : Value) (fl : Value) (h : Heap) : Prop where
  ex : ∃ (t T : Addr) (oT : Obj) (ts : Array Value), h.get? e = some (eX cls t (.ref T)) ∧ B.get? T = none ∧ T ≠ e ∧ h.get? T = some oT ∧ oT.data = .fields ts ∧ ts[3]? = some fl
structure Fly (B : Heap) (l : List Env) (e : Addr) (cls fl : Value) (h : Heap) : Prop where
  st : B.StaysIn h
  new : B.get? e = none
  ff : h.FunFrames B l
  tr : Tr B e cls fl h
/-- nothing but records and frames' slots has changed -/
structure Ups (fs : List Addr) (h h' : Heap) : Prop where
  up : h.UpToSlots h'
  ex : ∀ b o, h.get? b = some o → ∃ o', h'.get? b = some o'
  same : ∀ b o, h.get? b = some o → b ∉ fs → (∀ vs, o.data ≠ .fields vs) → h'.get? b = some o
theorem Ups.trans {fs : List Addr} {h h1 h2 : Heap} (a : Ups fs h h1) (b : Ups fs h1 h2) : Ups fs h h2 := ⟨a.up.trans b.up, fun c o q => let ⟨o', z⟩ := a.ex c o q; b.ex c o' z, fun c o q n d => b.same c o (a.same c o q n d) n d⟩
noncomputable abbrev frL (l : List Env) : List Addr := l.filterMap (·.frame)
section
variable {M : Model} {A : Around} {E : Value → Shared → Prop} {s : Shared} {B : Heap} {env : Env} {outer : List Env} {L e t : Addr} {cls tb head : Value} {Q : Unit → Shared → Prop}
theorem ff_ups {fs : List Addr} {h h' : Heap} {l : List Env} (f : h.FunFrames B l) (u : Ups fs h h') : h'.FunFrames B l := f.of_keeps fun b o q n => let ⟨sl, z⟩ := u.up b o q n; ⟨_, z, rfl⟩
/-- a new traceback entry -/
theorem entry {hn : Bool} (fr : A.frames = some (env :: outer)) (ff : s.heap.FunFrames B (env :: outer)) (fl : env.frame = some L) (ee : s.heap.get? e = some (eX cls t tb)) (st : B.StaysIn s.heap) (en : B.get? e = none)
    (k : ∀ h', Fly B (env :: outer) e cls (rawInt L) h' → Ups (frL (env :: outer)) s.heap h' → Q () { s with heap := h' }) :
    wpAny M A (do let a ← frameOf env; let pl ← entryPlaceOf L hn; let b ← EntryCells.newEntry head a .none (rawInt L) .none pl; setField (.ref e) 1 b) Q E s := by
  have nfr : e ∉ (env :: outer).filterMap (·.frame) := fun m => by
    obtain ⟨_, o, q, z⟩ := ff.mem m
    rw [ee] at q
    cases q
    exact z _ rfl
  refine wpAny_bind (wpAny_frameOf_fun fr ff fl fun g sg => ?_)
  refine wpAny_bind (wpAny_entryPlaceOf fun pl ip => ?_)
  unfold EntryCells.newEntry newFields
  refine wpAny_bind (wpAny_newObj_type ?_ (ip.sizeOk5 _ _ _ _ _))
  generalize hob : ({ cls := .type "traceback", dict := none, data := .fields ([head, Value.ref L, .none, rawInt L, .none] ++ (if pl.isEmpty then List.replicate 6 Value.none else pl)).toArray } : Obj) = ob
  have hdat : ∃ ts, ob.data = .fields ts ∧ ts[3]? = some (rawInt L) := by
    rw [← hob]
    exact ⟨_, rfl, by simp⟩
  have ge : g.get? e = some (eX cls t tb) := (sg.2.1 e nfr).trans ee
  have gst : B.StaysIn g := fun b o q => (sg.2.1 b fun m => by rw [(ff.mem m).1] at q; cases q).trans (st b o q)
  have g2 : (g.push ob).get? e = some (eX cls t tb) := Heap.get?_push_of_some _ ge
  refine wpAny_setField g2 rfl (Nat.le_of_ble_eq_true rfl) ?_
  have ne : g.objs.size ≠ e := Nat.ne_of_gt (Heap.lt_size ge)
  have keep : ∀ b o, b ≠ e → g.get? b = some o → ((g.push ob).update e (Obj.mapFields (·.setIfInBounds 1 (Value.ref g.objs.size)))).get? b = some o := fun b o n q => by
    rw [Heap.get?_update_other _ _ (Ne.symm n)]
    exact Heap.get?_push_of_some _ q
  have ups : Ups (frL (env :: outer)) s.heap ((g.push ob).update e (Obj.mapFields (·.setIfInBounds 1 (Value.ref g.objs.size)))) := ⟨fun b o q n => by
    obtain ⟨sl, z⟩ := sg.2.2 b o q
    exact ⟨sl, keep b _ (fun x => by rw [x, ee] at q; cases q; exact n _ rfl) z⟩, fun b o q => by
    by_cases x : b = e
    · rw [x]
      exact ⟨_, Heap.get?_update_self _ g2 rfl⟩
    · obtain ⟨sl, z⟩ := sg.2.2 b o q
      exact ⟨_, keep b _ x z⟩, fun b o q n d => keep b o (fun x => by rw [x, ee] at q; cases q; exact d _ rfl) ((sg.2.1 b n).trans q)⟩
  refine k _ ⟨fun b o q => keep b o (fun x => by rw [x, en] at q; cases q) (gst b o q), en, ff_ups ff ups, ⟨t, g.objs.size, ob, hdat.choose, ?_, gst.fresh, ne, ?_, hdat.choose_spec.1, hdat.choose_spec.2⟩⟩ ups
  · exact (Heap.get?_update_self _ g2 rfl).trans rfl
  · rw [Heap.get?_update_other _ _ (Ne.symm ne)]
    exact Heap.get?_push_size g (by rw [← hob]; rfl)
/-- its mark is set -/
theorem mark {fs : List Addr} {x : Option Addr} {fl : Value} {l : List Env} (f : Fly B l e cls fl s.heap) (k : ∀ h', Fly B l e cls (x.elim .none fun a => rawInt a) h' → Ups fs s.heap h' → Q () { s with heap := h' }) : wpAny M A (setFlight (.ref e) x) Q E s := by
  obtain ⟨st, new, ff, ⟨t, T, oT, ts, h1, h2, h3, h4, h5, h6⟩⟩ := f
  unfold setFlight
  refine wpAny_bind (wpAny_field h1 rfl (x := .ref T) rfl ?_)
  rw [if_pos (show (Value.ref T != Value.none) = true by simp)]
  have sz : 3 < ts.size := (Array.getElem?_eq_some_iff.mp h6).1
  refine wpAny_setField h4 h5 sz ?_
  have oth : ∀ b, b ≠ T → ∀ f, (s.heap.update T f).get? b = s.heap.get? b := fun b n f => Heap.get?_update_other _ _ (Ne.symm n)
  have nT : ∀ b o, s.heap.get? b = some o → (∀ vs, o.data ≠ .fields vs) → b ≠ T := fun b o q n z => by
    rw [z, h4] at q
    cases q
    exact n ts h5
  refine k _ ⟨fun b o q => (oth b (fun z => by rw [z, h2] at q; cases q) _).trans (st b o q), new, ff.of_keeps fun b o q n => ⟨o, (oth b (nT b o q n) _).trans q, rfl⟩, ⟨t, T, _, _, (oth e (Ne.symm h3) _).trans h1, h2, h3, Heap.get?_update_self _ h4 ?_, Obj.data_mapFields h5 _, by simp [sz]⟩⟩ ⟨fun b o q n => ⟨o.slots, (oth b (nT b o q n) _).trans q⟩, fun b o q => ?_, fun b o q n d => ?_⟩
  · exact Obj.isFreed_of_fields (Obj.data_mapFields h5 _)
  · by_cases x : b = T
    · rw [x]
      exact ⟨_, Heap.get?_update_self _ h4 (Obj.isFreed_of_fields (Obj.data_mapFields h5 _))⟩
    · exact ⟨o, (oth b x _).trans q⟩
  · exact (oth b (nT b o q d) _).trans q
/-- a frame is noted: another one was noted ahead of it -/
theorem note (fr : A.frames = some (env :: outer)) (fl : env.frame = some L) (f : Fly B (env :: outer) e cls .none s.heap) (k : ∀ h', Fly B (env :: outer) e cls (rawInt L) h' → Ups (frL (env :: outer)) s.heap h' → Q () { s with heap := h' }) : wpAny M A (noteFrame (.ref e) env) Q E s := by
  obtain ⟨st, new, ff, ⟨t, T, oT, ts, h1, h2, h3, h4, h5, h6⟩⟩ := f
  unfold noteFrame
  simp only [fl]
  refine wpAny_bind (wpAny_field h1 rfl (x := .ref T) rfl ?_)
  rw [if_pos (show (Value.ref T != Value.none) = true by simp)]
  refine wpAny_bind (wpAny_field h4 h5 h6 ?_)
  rw [if_neg (show ¬ ((Value.none == rawInt L) = true) by simp [rawInt])]
  have sz : 3 < ts.size := (Array.getElem?_eq_some_iff.mp h6).1
  refine wpAny_bind (wpAny_setField h4 h5 sz ?_)
  have oth : ∀ b, b ≠ T → ∀ f, (s.heap.update T f).get? b = s.heap.get? b := fun b n f => Heap.get?_update_other _ _ (Ne.symm n)
  have nT : ∀ b o, s.heap.get? b = some o → (∀ vs, o.data ≠ .fields vs) → b ≠ T := fun b o q n z => by
    rw [z, h4] at q
    cases q
    exact n ts h5
  refine entry fr (ff.of_keeps fun b o q n => ⟨o, (oth b (nT b o q n) _).trans q, rfl⟩) fl ((oth e (Ne.symm h3) _).trans h1) (fun b o q => (oth b (fun z => by rw [z, h2] at q; cases q) _).trans (st b o q)) new fun h' f' u => k h' f' ⟨fun b o q n => u.up b o ((oth b (nT b o q n) _).trans q) n, fun b o q => ?_, fun b o q n d => u.same b o ((oth b (nT b o q d) _).trans q) n d⟩
  by_cases x : b = T
  · rw [x]
    exact u.ex T _ (Heap.get?_update_self _ h4 (Obj.isFreed_of_fields (Obj.data_mapFields h5 _)))
  · exact u.ex b o ((oth b x _).trans q)
/-- .. it is the first one -/
theorem noteFirst (fr : A.frames = some (env :: outer)) (fl : env.frame = some L) (ff : s.heap.FunFrames B (env :: outer)) (ee : s.heap.get? e = some (eX cls t .none)) (st : B.StaysIn s.heap) (en : B.get? e = none)
    (k : ∀ h', Fly B (env :: outer) e cls (rawInt L) h' → Ups (frL (env :: outer)) s.heap h' → Q () { s with heap := h' }) : wpAny M A (noteFrame (.ref e) env) Q E s := by
  unfold noteFrame
  simp only [fl]
  refine wpAny_bind (wpAny_field ee rfl (x := .none) rfl ?_)
  rw [if_neg (by decide)]
  exact entry fr ff fl ee st en k
theorem Fly.tail {fl : Value} {h : Heap} (f : Fly B (env :: outer) e cls fl h) : Fly B outer e cls fl h := ⟨f.st, f.new, f.ff.2.2, f.tr⟩
/-- it leaves a frame -/
theorem leave (fr : A.frames = some (env :: outer)) (fl : env.frame = some L) (f : Fly B (env :: outer) e cls .none s.heap) (k : ∀ h', Fly B outer e cls .none h' → Ups (frL (env :: outer)) s.heap h' → Q () { s with heap := h' }) : wpAny M A (leaving env (.ref e)) Q E s := by
  unfold leaving
  exact wpAny_bind (note fr fl f fun h1 f1 u1 => mark (x := none) f1 fun h2 f2 u2 => k h2 f2.tail (u1.trans u2))
theorem leaveFirst (fr : A.frames = some (env :: outer)) (fl : env.frame = some L) (ff : s.heap.FunFrames B (env :: outer)) (ee : s.heap.get? e = some (eX cls t .none)) (st : B.StaysIn s.heap) (en : B.get? e = none)
    (k : ∀ h', Fly B outer e cls .none h' → Ups (frL (env :: outer)) s.heap h' → Q () { s with heap := h' }) : wpAny M A (leaving env (.ref e)) Q E s := by
  unfold leaving
  exact wpAny_bind (noteFirst fr fl ff ee st en fun h1 f1 u1 => mark (x := none) f1 fun h2 f2 u2 => k h2 f2.tail (u1.trans u2))
end
end XF
set_option Elab.async false
set_option linter.all false
set_option maxRecDepth 100000
set_option maxHeartbeats 4000000
/-! ### an exception that passes through the frames of the text's defs -/
namespace XF
open PySem PySem.Spec PyProof.Rows L2 DL
/-- how an exception lies behind a call -/
noncomputable def CXF (P : Program) (w : World) : CXT := fun outer H s E e s' => ∃ (ea C : Addr) (B : Heap) (H' : Hp), e = .ref ea ∧ s'.os = s.os ∧ AllBare s'.gens ∧ Fly B outer ea (.ref C) .none s'.heap ∧
  (∀ b o, s.heap.get? b = some o → H b = none → b ∉ frs outer → B.get? b = some o) ∧ HOk P w H' B ∧ Un (frs outer) [] H H' s.heap s'.heap ∧ E (.ref C) none H'
/-- an exception of the class at C has come up in this frame -/
structure Came (X : Cx) (pins : List (Addr × Obj)) (σ : L2.St) (H : Hp) (e C : Addr) (s : Shared) : Prop where
  inv : Inv X pins σ H s
  fl : ∃ B : Heap, B.StaysIn s.heap ∧ B.get? e = none ∧ s.heap.FunFrames B X.stack ∧ HOk X.prog X.w H B ∧
    (∀ b o, X.s₀.heap.get? b = some o → X.H₀ b = none → b ∉ X.fs → b ∉ X.ex → B.get? b = some o) ∧ (∀ p ∈ X.pn ++ pins, B.get? p.1 = some p.2) ∧
    ((∃ t, s.heap.get? e = some (eX (.ref C) t .none)) ∨ Tr B e (.ref C) .none s.heap)
/-- what this code wants of exceptions covers Y -/
noncomputable def XOk (X : Cx) (Y : XY) : Prop := ∀ (pins : List (Addr × Obj)) (σ : L2.St) (H : Hp) (e C : Addr) (s : Shared), Came X pins σ H e C s → Y C σ H → X.xe (.ref e) s
theorem notFr {X : Cx} {pins : List (Addr × Obj)} {σ : L2.St} {H : Hp} {s : Shared} (I : Inv X pins σ H s) {b : Addr} {o : Obj} (q : X.s₀.heap.get? b = some o) (n : b ∉ X.fs) : b ∉ frs X.stack := fun m => by
  rcases List.mem_cons.mp (I.stkSub b m) with z | z
  · have h1 := Heap.lt_size q
    have h2 := I.ok.above
    exact absurd h1 (by rw [z]; exact Nat.not_lt.mpr h2)
  · exact n z
theorem notFrP {X : Cx} {pins : List (Addr × Obj)} {σ : L2.St} {H : Hp} {s : Shared} (I : Inv X pins σ H s) {p : Addr × Obj} (hp : p ∈ X.pn ++ pins) : p.1 ∉ frs X.stack := fun m => by
  obtain ⟨_, _, h1, h2, _⟩ := I.pin p hp
  rcases List.mem_cons.mp (I.stkSub _ m) with z | z
  · exact h1 z
  · exact h2 z
/-- a callee's exception has come up here -/
theorem came_call {X : Cx} {pins : List (Addr × Obj)} {σ : L2.St} {H : Hp} {s s' : Shared} {E : XK} {e : Value} (I : Inv X pins σ H s) (h : CXF X.prog X.w X.stack H s E e s') :
    ∃ ea C H', e = .ref ea ∧ Came X pins σ H' ea C s' ∧ E (.ref C) none H' := by
  obtain ⟨ea, C, B, H', rfl, os, bare, fly, cov, hok, un, hE⟩ := h
  refine ⟨ea, C, H', rfl, ⟨I.call' os un (hok.kept fly.st) bare fun b z => absurd z (by simp), B, fly.st, fly.new, fly.ff, hok, fun b o q n nf nx => ?_, fun p hp => cov p.1 p.2 (I.pin p hp).1 (I.pin p hp).2.1 (notFrP I hp), .inr fly.tr⟩, hE⟩
  exact cov b o (I.base.keep b o q n nf nx) (I.base.free b o q n nx) (notFr I q nf)
/-- it leaves a def's frame -/
theorem leave_came {P : Program} {w : World} {K : PySem.W.Frag} {mg : Str → Option Value} {base : Heap} {N : List Str} {qual : Str} {scope : Scope} {f : Addr} {cd : Value} {A : Around} {outer : List Env} {s : Shared} {H : Hp} {E : XK} {pins : List (Addr × Obj)} {σ : L2.St} {H' : Hp} {e C : Addr} {s' : Shared}
    (c : Came (cxOf (CXF P w) P w K mg base N qual scope f cd A outer s H E) pins σ H' e C s') (hE : E (.ref C) none H') : (cxOf (CXF P w) P w K mg base N qual scope f cd A outer s H E).xe (.ref e) s' := by
  obtain ⟨I, B, st, new, ff, hok, cov, _, made⟩ := c
  show wpAny (model P w) (A.deeper (envOfC qual scope s.heap.objs.size f cd)) (leaving (envOfC qual scope s.heap.objs.size f cd) (.ref e)) (fun _ s'' => CXF P w outer H s E (.ref e) s'') (fun e' s'' => CXF P w outer H s E e' s'') s'
  have nil : ∀ b : Addr, b ∉ ([] : List Addr) := fun b z => by cases z
  have fin : ∀ h', Fly B outer e (.ref C) .none h' → Ups (frL (envOfC qual scope s.heap.objs.size f cd :: outer)) s'.heap h' → CXF P w outer H s E (.ref e) { s' with heap := h' } := fun h' fly u => by
    refine ⟨e, C, B, H', rfl, I.os, I.bare, fly, fun b o q n nf => cov b o q n nf (nil b), hok, ⟨fun b o q n nf _ => fly.st _ _ (cov b o q n nf (nil b)), fun b o q n m _ => ?_, fun b o q n z => I.base.free b o q n z, fun b o q z => ?_, I.base.tups, I.base.frzs, I.base.tbls⟩, hE⟩
    · obtain ⟨sl, z⟩ := I.base.slot b o q n m (nil b)
      have ff2 : s'.heap.FunFrames B outer := ff.2.2
      obtain ⟨_, o', q', nd⟩ := ff2.mem m
      rw [z] at q'
      cases q'
      obtain ⟨sl', z'⟩ := u.up b _ z nd
      exact ⟨sl', z'⟩
    · obtain ⟨o', z'⟩ := I.base.there b o q z
      exact u.ex b o' z'
  rcases made with ⟨t, he⟩ | tr
  · exact leaveFirst I.ok.frames rfl ff he st new fin
  · exact leave I.ok.frames rfl ⟨st, new, ff, tr⟩ fin
/-- the wish of a def's body -/
noncomputable abbrev yOf (E : XK) : XY := fun C _ H' => E (.ref C) none H'
theorem xok_def {P : Program} {w : World} {K : PySem.W.Frag} {mg : Str → Option Value} {base : Heap} {N : List Str} {qual : Str} {scope : Scope} {f : Addr} {cd : Value} {A : Around} {outer : List Env} {s : Shared} {H : Hp} {E : XK} :
    XOk (cxOf (CXF P w) P w K mg base N qual scope f cd A outer s H E) (yOf E) := fun _ _ _ _ _ _ c h => leave_came c h
/-! ### calls of defs that may raise -/
noncomputable def spX (K : PySem.W.Frag) (G : DF) : Sp := fun vs H Q E => ∃ B0 ds, Same B0 H ∧ RepL K B0 No H ds vs [] ∧ match G ds with
  | .ok d => ∀ B' H' v fp, RetOk K H B0 B' H' d v fp → Q v H'
  | .exn C => ∀ H', Same H H' → E (.ref C) none H'
  | .bad => False
structure CalX (P : Program) (w : World) (K : PySem.W.Frag) (mg : Str → Option Value) (base : Heap) (k : Nat) (x : Str) (ps : List Str) (sp : Sp) : Prop where
  ex : ∃ f fd, mg x = some (.ref f) ∧ PySem.W.keepIn K (.ref f) = true ∧ Binds K fd ps [] ∧ FnOk P w K mg base (CXF P w) k f fd ps sp
noncomputable def callX (G : DF) (ds : List D) : Res D := if hasBorL ds = true then (G (frzL ds)).map D.toBor else G (frzL ds)
noncomputable def eCallX (G : DF) (fs : SD → Res (List D)) (τ : SD) : Res D := (fs τ).bind (callX G)
section
variable {K : PySem.W.Frag} {Y : XY} {H0 B0 B H : Hp} {σ : L2.St} {τ : SD} {P : List Addr} {F : Addr → Prop} {X : Cx} {pos p : Pos} {e : Expr} {es : List Expr} {fs : SD → Res (List D)}
theorem run_fnX {k : Nat} {f : Addr} {fd : FuncData} {ps : List Str} {sp : Sp} {E : XK} {pins : List (Addr × Obj)} {s : Shared} {Q : VK} {us : List Value} {vs : List V} (hx : XOk X Y) (hE : ∀ C H', E (.ref C) none H' → Y C σ H') (F : FnOk X.prog X.w X.K X.mg X.base (CXF X.prog X.w) k f fd ps sp) (hr : Room k X.A) (hb : Binds X.K fd ps [])
    (I : Inv X pins σ H s) (r : Vals vs us) (h : sp vs H Q E) : wpAny (model X.prog X.w) X.A (call (.ref f) us) (EP X pins σ Q) X.xe s := by
  have hl : us.length = ps.length := by rw [← r.length]; exact F.len _ _ _ _ h
  have hb' := hb s us I.kIn (by rw [List.append_nil]; exact hl)
  rw [List.append_nil] at hb'
  refine wpAny_call (codeAny_mono (F.run X.A X.stack s H ⟨us, []⟩ us vs Q E hr I.env0 hb' r h) fun r s' hq => ?_)
  cases r with
  | error e =>
    obtain ⟨ea, C, H', rfl, c, hE'⟩ := came_call I hq
    exact hx _ _ _ _ _ _ c (hE C H' hE')
  | ok fl =>
    cases fl with
    | ret u => exact I.after hq
    | next => exact False.elim hq
    | brk => exact False.elim hq
    | cont => exact False.elim hq
theorem q_calX {k : Nat} {x : Str} {ps : List Str} {G : DF} (hx : XOk X Y) (C : CalX X.prog X.w X.K X.mg X.base k x ps (spX X.K G)) (hr : Room k X.A) (hg : Gl X x) (ha : PA X (e :: es) (tML X.K Y fs)) (hdb : (x == ("__debug__" : Str)) = false := by decide)
    (he : starEach (e :: es) X.env = (false, eval e X.env) :: starEach es X.env := by rfl) (hpl : (backTo pos (starEach es X.env)).any (·.1) = false := by rfl) : PE X (.Call (.Name x p) (e :: es) [] pos) (tM X.K Y (eCallX G fs)) := by
  obtain ⟨f, fd, hm, hk, hb, Fn⟩ := C.ex
  intro pins s σ H Q J ⟨H0, B0, B, τ, P, F, I, h⟩
  have hq : tML X.K Y fs σ H (fun vs H1 => spX X.K G vs H1 Q (fun c _ H' => ∃ C, c = .ref C ∧ Y C σ H')) := tML.seq I h fun ds vs H1 B1 fp _ I1 s1 b1 r1 k1 h1 => by
    unfold callX at h1
    split at h1
    · refine ⟨atRest B1 H1 (fun a => a ∈ P ∨ a ∈ fp), frzL ds, rest_up I1.bh, r1.frz (rest_same I1.bh) (fun a o s h => rest_in (.inl s) h) (fun a m o h => rest_in (.inr m) h), ?_⟩
      cases z : G (frzL ds) with
      | exn c => rw [z] at h1; exact fun H' sm => ⟨c, rfl, h1 H' B1 (I1.grow sm) sm (Same.refl _)⟩
      | bad => rw [z] at h1; exact h1.elim
      | ok d =>
        rw [z] at h1
        intro B' H' v fq r
        obtain ⟨B2, I2, s2, k2, hb⟩ := I1.called k1 (S := fun a => a ∈ P) (fun a s => s) r
        exact h1 v H' B2 fq I2 r.h0 s2 (r.rep.toBor r.bh fun a o e => (hb a o e).imp id fun z => z.2) k2
    · rename_i hb
      have hb : hasBorL ds = false := by simpa using hb
      refine ⟨atRest B1 H1 (fun a => False ∨ a ∈ fp), frzL ds, rest_up I1.bh, (r1.noBor hb).frz (rest_same I1.bh) (fun a o s => s.elim) (fun a m o h => rest_in (.inr m) h), ?_⟩
      cases z : G (frzL ds) with
      | exn c => rw [z] at h1; exact fun H' sm => ⟨c, rfl, h1 H' B1 (I1.grow sm) sm (Same.refl _)⟩
      | bad => rw [z] at h1; exact h1.elim
      | ok d =>
        rw [z] at h1
        intro B' H' v fq r
        obtain ⟨B2, I2, s2, k2, hb⟩ := I1.called k1 (S := fun _ => False) (fun a s => s.elim) r
        refine h1 v H' B2 fq I2 r.h0 s2 ?_ k2
        have sb : Same B' B2 := fun a o e => (hb a o e).resolve_right fun z => z.1
        exact r.rep.mono (Same.refl _) sb fun _ x => x.elim
  refine wpAny_Call_Name_kw (ld_glob J hg hm ?_ hdb)
  refine PySem.W.callWith_K (h₀ := X.base) J.ok.mod.kin hk (thn (ha pos pins s σ H _ J hq) fun us s1 hq5 => L2.ex5 hq5 fun vs H1 I1 r q => ⟨I1.kIn, ?_⟩) he hpl
  exact run_fnX hx (fun C H' z => by obtain ⟨C', e, y⟩ := z; cases e; exact y) Fn hr hb I1 r q
/-- a def that may raise, by its body -/
theorem cal_ofX {P : Program} {w : World} {mg : Str → Option Value} {base : Heap} {x : Str} {st : Stmt} {N ps : List Str} {k n m : Nat} {g : SF} (D : Dfn K mg x st ps) (S : FnScope N ps (defScope st)) (hn : ps.length = n) (hm : N.length = m)
    (hbody : ∀ (f : Addr) (cdv : Value) (A : Around) (outer : List Env) (s : Shared) (H : Hp) (E : XK), Room k (A.deeper (envOfC x (defScope st) s.heap.objs.size f cdv)) → XOk (cxOf (CXF P w) P w K mg base N x (defScope st) f cdv A outer s H E) (yOf E) →
      PSs (cxOf (CXF P w) P w K mg base N x (defScope st) f cdv A outer s H E) (defBody st) (tMS K (yOf E) g)) : CalX P w K mg base (k + 1) x ps (spX K (runF n m g)) := by
  subst hn hm
  obtain ⟨f, fd, Fn, hmg, hb⟩ := D.ex
  refine ⟨f, fd, hmg, Fn.kp, hb, ?_⟩
  obtain ⟨oc, od, kV, doc, pm, an, cdv, ct, osl, rfl, lk, hcd⟩ := Fn.ex
  refine fn_of lk hcd S (fun vs H Q E h => ?_) fun A outer s H vs Q E hr h => ?_
  · obtain ⟨B0, ds, _, r, h⟩ := h
    rw [← r.length]
    unfold runF at h
    by_cases hl : ds.length = ps.length
    · exact hl
    · rw [if_neg hl] at h; exact h.elim
  · obtain ⟨B0, ds, sB, r, h⟩ := h
    unfold runF at h
    by_cases hl : ds.length = ps.length
    · rw [if_pos hl] at h
      have e : L2.start N vs = vs.map some ++ List.replicate (N.length - ps.length) none := by
        unfold L2.start
        rw [← r.length, hl]
      refine ⟨_, hbody f cdv A outer s H E hr xok_def, H, B0, B0, ds.map some ++ List.replicate (N.length - ps.length) none, [], ⟨sB, Same.refl _, Same.refl _, fun a n => .inl n, by rw [e]; exact repS_start _ r, List.nodup_nil, (fun a m => by cases m), fun a m => m.elim⟩, ?_⟩
      cases z : g (ds.map some ++ List.replicate (N.length - ps.length) none) with
      | rt d => rw [z] at h; exact fun B' H' v fp q => h B' H' v fp q
      | nx t =>
        rw [z] at h
        intro B' H' σ' P' a
        exact h B' H' .non [] ⟨a.si.h0, a.si.b0, a.si.bh, a.si.nb, ⟨rfl, rfl⟩, List.nodup_nil, fun a m => by cases m⟩
      | bk t => rw [z] at h; exact h.elim
      | ct t => rw [z] at h; exact h.elim
      | ex C t => rw [z] at h; exact fun B' H' σ' P' a => h H' a.si.h0
      | bad => rw [z] at h; exact h.elim
    · rw [if_neg hl] at h; exact h.elim
end
/-! ### raise -/
/-- the bases of an error of the text, from ValueError on -/
noncomputable abbrev veM : List Value := [.type "ValueError", .type "Exception", .type "BaseException", .type "object"]
noncomputable def mroIn (K : PySem.W.Frag) (C : Addr) : Option (List Value) := match K.lookup C with
  | some ⟨_, _, .cls cd, _⟩ => some cd.mro
  | _ => none
/-- the error class x of the text stands at C; bm: what its order holds behind itself -/
structure XCls (K : PySem.W.Frag) (mg : Str → Option Value) (x : Str) (C : Addr) (bm : List Value) : Prop where
  mg : mg x = some (.ref C)
  ex : PySem.W.excIn K C veM "ValueError.__new__" = true
  mro : mroIn K C = some (.ref C :: bm)
structure XObj (h : Heap) (C : Addr) (bm : List Value) : Prop where
  ob : ∃ N nm q bs hdct sn sub ab col dd k0 k1 k2 k3 k5 mN, h.get? C = some (excClassObj nm q C N bs bm hdct sn sub ab col dd k0 k1 k2 k3 k5 "ValueError.__new__") ∧ h.Ns N mN ∧ mN "__init__" = none ∧ OwnTail h veM bm
theorem XCls.obj {K : PySem.W.Frag} {mg : Str → Option Value} {x : Str} {C : Addr} {bm : List Value} {h : Heap} (c : XCls K mg x C bm) (X : K.In h) : XObj h C bm := by
  obtain ⟨_, q, m⟩ := c
  unfold PySem.W.excIn at q
  split at q
  · rename_i dd cd sl ho
    split at q
    · rename_i C' bm' k0 k1 k2 k3 n k5 hm hs
      simp only [Bool.and_eq_true, beq_iff_eq, Bool.not_eq_true'] at q
      obtain ⟨⟨⟨⟨⟨rfl, rfl⟩, hdel⟩, ht⟩, hok⟩, hni⟩ := q
      obtain ⟨nm, bs, mro, ns, qn, hd, sn, sub, ab, col, del⟩ := cd
      dsimp only at hm hdel hok hni
      subst hm hdel
      have hsl : sl = #[k0, k1, k2, k3, some (.builtin "ValueError.__new__"), k5] := by
        obtain ⟨l⟩ := sl
        simp only at hs
        rw [hs]
      subst hsl
      have e : bm' = bm := by
        unfold mroIn at m
        rw [ho] at m
        simpa using m
      subst e
      exact ⟨ns, nm, qn, bs, hd, sn, sub, ab, col, dd, k0, k1, k2, k3, k5, _, X _ _ ho, .of_isNs (PySem.W.isNs_of_in X hok), PySem.W.nsMap_none_of_in X hok hni, PySem.W.tail_of_in X ht⟩
    · cases q
  · cases q
noncomputable def sRaise (C : Addr) (τ : SD) : Fl := .ex C τ
/-- an exception made here -/
theorem came_made {X : Cx} {pins : List (Addr × Obj)} {σ : L2.St} {H : Hp} {s : Shared} {h' : Heap} {e C : Addr} {vs : List Value} (I : Inv X pins σ H s) (m : Heap.MadeExcOf s.heap h' e (.ref C) vs) : Came X pins σ H e C { s with heap := h' } := by
  obtain ⟨t, ht, _, _⟩ := m.there
  have hin : ∀ env ∈ X.stack, ∀ a, env.frame = some a → a ∈ frs X.stack := fun env he a ha => List.mem_filterMap.mpr ⟨env, he, ha⟩
  have st : (PySem.W.hideAll s.heap (frs X.stack)).StaysIn h' := fun b o q => m.keeps b o (PySem.W.of_hideAll _ q)
  refine ⟨I.kept (t' := s.toks) m.keeps, PySem.W.hideAll s.heap (frs X.stack), st, ?_, ?_, fun a o q => ?_, fun b o q n nf nx => ?_, fun p hp => PySem.W.hideAll_get _ (I.pin p hp).1 (notFrP I hp), .inl ⟨t, ht⟩⟩
  · cases q : (PySem.W.hideAll s.heap (frs X.stack)).get? e with
    | none => rfl
    | some o => have := PySem.W.of_hideAll _ q; rw [m.new] at this; cases this
  · exact (PySem.W.funFrames_hide I.stack hin).of_keeps fun b o q _ => ⟨o, m.keeps b o q, rfl⟩
  · refine (I.hok a o q).stay (fun b u hb z => PySem.W.hideAll_get _ z fun hm => ?_) (fun _ z => z) fun _ _ z => z
    have f := I.stkFree b hm
    rcases hb with rfl | hb
    · rw [q] at f; cases f
    · rw [hb] at f; cases f
  · exact PySem.W.hideAll_get _ (I.base.keep b o q n nf nx) (notFr I q nf)
theorem s_raise {X : Cx} {Y : XY} {x m : Str} {C : Addr} {bm : List Value} {np cpos pos cp : Pos} {j : Nat} (hx : XOk X Y) (c : XCls X.K X.mg x C bm) (hc : X.calm = true) (hg : Gl X x) (hdb : (x == ("__debug__" : Str)) = false := by decide)
    (he : starEach [.Constant (.str m) j cp] X.env = (false, eval (.Constant (.str m) j cp) X.env) :: starEach [] X.env := by rfl) (hpl : (backTo cpos (starEach [] X.env)).any (·.1) = false := by rfl) :
    PS X (.Raise (some (.Call (.Name x np) [.Constant (.str m) j cp] [] cpos)) none pos) (tMS X.K Y (sRaise C)) := by
  intro pins s σ H D I ⟨H0, B0, B, τ, P, J, h⟩
  obtain ⟨N, nm, q, bs, hdct, sn, sub, ab, col, dd, k0, k1, k2, k3, k5, mN, hC, hN, hni, T⟩ := (c.obj I.mod.kin).ob
  have pl : (backTo cpos (starEach [.Constant (.str m) j cp] X.env)).any (·.1) = false := by
    rw [he]
    show (false || (backTo cpos (starEach [] X.env)).any (·.1)) = false
    rw [hpl]; rfl
  refine wpAny_Raise_call_subT (C := C) (nm := nm) (q := q) (N := N) (bs := bs) (bm := bm) (hdct := hdct) (sn := sn) (sub := sub) (ab := ab) (col := col) (dd := dd) (k0 := k0) (k1 := k1) (k2 := k2) (k3 := k3) (k5 := k5) F.excBase_ValueError (mN := mN) (T.hasType F.excBase_ValueError.hasBase) (I.ok.hd hc) pl hni (ld_glob I hg c.mg ⟨rfl, ?_⟩ hdb)
  rw [he]
  refine Calls.evalArgs_plain (Calls.spliced_cons ?_)
  refine @Calls.Constant_str _ _ _ _ _ m j cp _ (Calls.spliced_nil ?_)
  refine ⟨rfl, Nat.le_of_ble_eq_true rfl, I.bk _ _ hC, hN.keeps I.bk, T.keeps I.bk, fun h' e mk => ?_⟩
  exact hx pins σ H e C _ (came_made (I.tok _) mk) (h B H σ P (Aft.refl J))
end XF
set_option Elab.async false
set_option linter.all false
set_option maxRecDepth 100000
set_option maxHeartbeats 2000000
/-! ### a range's end while an exception is handled -/
namespace XF
open PySem
theorem entry_unchain : entryFor table "proto.unchain" = some Builtin.«proto.unchain» := entryFor_of_tree (by kernel_rfl)
section
variable {prog : Program} {w : World} {A : Around} {E : Value → Shared → Prop} {s : Shared}
/-- a new exception is thrown while another one is handled that has no context -/
theorem throw_new {α : Type} {ea e t : Addr} {C tb : Value} {oe : Obj} {vs : Array Value} {Q : α → Shared → Prop} (hh : A.handled = some (.ref ea)) (ha : s.heap.get? ea = some (eX C t tb)) (ne : ea ≠ e) (he : s.heap.get? e = some oe) (hd : oe.data = .fields vs) (hz : 2 < vs.size)
    (k : E (.ref e) { s with heap := s.heap.update e (Obj.mapFields (·.setIfInBounds 2 (.ref ea))) }) : wpAny (model prog w) A (raiseNew (.ref e) : Sem α) Q E s := by
  unfold raiseNew
  refine wpAny_bind (wpAny_handled ?_)
  rw [hh]
  have b : (Value.ref ea != Value.ref e) = true := by simpa using ne
  dsimp only
  rw [if_pos b]
  have go : wpAny (model prog w) A (runValue (.builtin "proto.unchain" ⟨[.ref e, .ref ea, .ref ea, .bool false], []⟩)) (fun _ s' => s' = s) E s := by
    refine wpAny_runValue (codeAny_builtin entry_unchain ?_)
    unfold Builtin.«proto.unchain»
    refine wpAny_bind (wpAny_field ha rfl (x := .none) rfl ?_)
    rw [if_pos (by decide)]
    exact wpAny_pure rfl
  have st : wpAny (model prog w) A (updateField e 2 (.ref ea)) (fun _ s' => E (.ref e) s') E s := wpAny_setField (x := .ref ea) he hd hz k
  refine wpAny_bind (wpAny_holding (wpAny_mono go (fun _ s' q => ?_) fun _ _ z => z))
  subst q
  exact wpAny_bind (wpAny_mono st (fun _ _ q => wpAny_throw q) fun _ _ z => z)
theorem range_endH {it ea t : Addr} {x left step : Int} {C tb : Value} {Q : Option Value → Shared → Prop} (hh : A.handled = some (.ref ea)) (ha : s.heap.get? ea = some (eX C t tb)) (hi : IsRangeIter s.heap it x left step) (hl : left ≤ 0)
    (k : ∀ h', (∀ b o, b ≠ it → s.heap.get? b = some o → h'.get? b = some o) → Q none { s with heap := h' }) : wpAny (model prog w) A (pyNext (.ref it)) Q E s := by
  have ty : s.TypeIs (.ref it) "range_iterator" := ⟨_, hi, rfl⟩
  unfold pyNext
  refine wpAny_bind (wpAny_attempt (wpAny_callSpecial?_slot (name := Str.ofString "__next__") ty F.slot_range_iterator_next (wpAny_call_entry F.slot_range_iterator_next ty F.entry_range_iterator_next ?_ (F.args_range_iterator_next_1 _))))
  show wpAny _ _ (field (.ref it) 0 >>= _) _ _ s
  refine wpAny_bind (wpAny_field hi rfl (x := rawInt x) rfl (wpAny_bind (wpAny_field hi rfl (x := rawInt left) rfl (wpAny_bind (wpAny_field hi rfl (x := rawInt step) rfl ?_)))))
  show wpAny _ _ (if left ≤ 0 then _ else _) _ _ s
  rw [if_pos hl]
  refine wpAny_bind (wpAny_rule (wpAny_bind ?_))
  show wpAny _ _ (newExc (.type "StopIteration") [] >>= _) _ _ _
  refine wpAny_bind ?_
  simp only [newExc, newTuple]
  refine wpAny_bind (wpAny_newObj_type ?_ (by size_fits))
  refine wpAny_bind (m := firstArgMember _ _) (wpAny_of_eq (a := Value.none) (by first | rfl | (simp only [firstArgMember]; rfl)) ?_)
  refine wpAny_newObj_type ?_ (by size_fits)
  have lt := Heap.lt_size ha
  refine throw_new (show A.in1.handled = some (.ref ea) from hh) (Heap.get?_push_of_some _ (Heap.get?_push_of_some _ ha)) (Nat.ne_of_lt (by rw [Heap.size_push]; exact Nat.lt_succ_of_lt lt)) (Heap.get?_push_size _ rfl) rfl (Nat.le_of_ble_eq_true rfl) ?_
  refine wpAny_bind (wpAny_isInstance (T := "StopIteration") (b := true) ⟨_, Heap.get?_update_self _ (Heap.get?_push_size _ rfl) rfl, rfl⟩ isSubtype_stop ?_)
  refine wpAny_pure (k _ fun b o _ q => ?_)
  have lb := Heap.lt_size q
  rw [Heap.get?_update_other _ _ (fun z => by rw [Heap.size_push] at z; exact absurd lb (by rw [← z]; exact Nat.not_lt.mpr (Nat.le_succ _)))]
  exact Heap.get?_push_of_some _ (Heap.get?_push_of_some _ q)
end
end XF
set_option Elab.async false
set_option linter.all false
set_option maxRecDepth 100000
set_option maxHeartbeats 4000000
/-! ### a def that runs while an exception is handled -/
namespace XF
open PySem PySem.Spec PyProof.Rows L2 DL
/-- the exception that is handled is known, and has no context -/
noncomputable def Known (X : Cx) : Prop := ∃ (ea : Addr) (C : Value) (t : Addr) (tb : Value) (u : HO), X.A.handled = some (.ref ea) ∧ X.H₀ ea = some (.frz (eX C t tb) u)
theorem Known.obj {X : Cx} {pins : List (Addr × Obj)} {σ : L2.St} {H : Hp} {s : Shared} (k : Known X) (I : Inv X pins σ H s) : ∃ ea C t tb, X.A.handled = some (.ref ea) ∧ s.heap.get? ea = some (eX C t tb) := by
  obtain ⟨ea, C, t, tb, u, h1, h2⟩ := k
  obtain ⟨e, _⟩ := I.hok ea _ (I.base.frzs ea _ u h2)
  exact ⟨ea, C, t, tb, h1, e⟩
theorem Known.comp {X : Cx} {pins : List (Addr × Obj)} {σ : L2.St} {scope : Scope} {cs : List (Str × Addr)} {C : Addr} {N : List Str} {s0 : Shared} {H0 : Hp} {fp : List Addr} (k : Known X) (I : Inv X pins σ H0 s0) : Known (cxComp X scope cs C N s0 H0 fp) := by
  obtain ⟨ea, C, t, tb, u, h1, h2⟩ := k
  exact ⟨ea, C, t, tb, u, h1, I.base.frzs ea _ u h2⟩
theorem turn_rangeH {P : Program} {w : World} {K : PySem.W.Frag} {tg : Expr} (it : Addr) (lo : Int) (n : Nat) : TurnC Known P w K tg (Itr lo n) [it] it (fun i h => IsRangeIter h it (lo + (i : Nat) * 1) ((n : Int) - (i : Nat)) 1) where
  mem := by simp
  obj := (turn_range (P := P) (w := w) (K := K) (tg := tg) it lo n).obj
  keep := (turn_range (P := P) (w := w) (K := K) (tg := tg) it lo n).keep
  item := by
    intro X hP hw hK _ i pins s σ H E I hf st hg
    subst hP hw hK
    have hg : i < n := hg
    obtain ⟨f0, f1, f2, f3, f4, f5⟩ := hf it (by simp)
    refine wpAny_pyNext_range_item st (by omega) fun h' st' sb => ?_
    have I1 : Inv X pins σ H { s with heap := h', toks := s.toks + 1 } := I.turned (fun b o hb e => (sb.2 b hb).trans e) f0 f1 f3 f4 f5
    have st2 : IsRangeIter h' it (lo + ((i + 1 : Nat) : Int) * 1) ((n : Int) - ((i + 1 : Nat) : Int)) 1 := by
      have e1 : lo + ((i + 1 : Nat) : Int) * 1 = lo + (i : Int) * 1 + 1 := by omega
      have e2 : (n : Int) - ((i + 1 : Nat) : Int) = (n : Int) - (i : Int) - 1 := by omega
      rw [e1, e2]
      exact st'
    refine ⟨_, rfl, go_of (s := { s with heap := h', toks := s.toks + 1 }) (n := "range_iterator") st2 rfl rfl (by decide) ⟨.int (lo + i), H, I1, ⟨s.toks, ?_⟩, ⟨rfl, rfl⟩, st2, fun b hb => (hf b hb).1⟩⟩
    rw [Int.mul_one]
  done := by
    intro X hP hw hK hc i pins s σ H E I hf st hg
    subst hP hw hK
    have hg : n ≤ i := hg
    obtain ⟨f0, f1, f2, f3, f4, f5⟩ := hf it (by simp)
    obtain ⟨ea, C, t, tb, hh, ho⟩ := Known.obj hc I
    exact range_endH hh ho st (by omega) fun h' eb => ⟨rfl, I.turned (t' := s.toks) (fun b o hb e => eb b o hb e) f0 f1 f3 f4 f5⟩
  self := (turn_range (P := P) (w := w) (K := K) (tg := tg) it lo n).self
section
variable {X : Cx} {tg : Expr}
theorem range_itH {pins : List (Addr × Obj)} {σ : L2.St} {H : Hp} {s : Shared} {R : It → Hp → Prop} {E : Value → Shared → Prop} {lo hi : Int} {t u v : Tok} {tk : Nat} (I : Inv X pins σ H s) (h1 : -(2 ^ 62) ≤ lo) (h2 : lo < 2 ^ 62) (h3 : -(2 ^ 62) ≤ hi) (h4 : hi < 2 ^ 62)
    (q : R (Itr lo (hi - lo).toNat) H) : wpAny (model X.prog X.w) X.A (pyIter (.ref s.heap.objs.size)) (PIEC Known X pins σ tg R) E { s with heap := s.heap.push { cls := .type "range", data := .fields #[.int lo t, .int hi u, .int 1 v] }, toks := tk } := by
  refine wpAny_pyIter_range (IsRange.new ..) (small_one h1 h2 h3 h4) ?_
  have I1 : Inv X pins σ H { s with heap := s.heap.push { cls := .type "range", data := .fields #[.int lo t, .int hi u, .int 1 v] }, toks := tk } := I.kept fun b o e => Heap.get?_push_of_some _ e
  refine ⟨(s.heap.push { cls := .type "range", data := .fields #[.int lo t, .int hi u, .int 1 v] }).objs.size, [(s.heap.push { cls := .type "range", data := .fields #[.int lo t, .int hi u, .int 1 v] }).objs.size], _, _, H, rfl,
    I1.kept (t' := tk) fun b o e => Heap.get?_push_of_some _ e, turn_rangeH _ lo (hi - lo).toNat, ?_, fun b hb => ?_, q⟩
  · have e1 : lo + ((0 : Nat) : Int) * 1 = lo := by simp
    have e2 : (((hi - lo).toNat : Nat) : Int) - ((0 : Nat) : Int) = Builtin.Range.rangeSize lo hi 1 := by rw [rangeSize_one]; split <;> omega
    show IsRangeIter _ _ (lo + ((0 : Nat) : Int) * 1) ((((hi - lo).toNat : Nat) : Int) - ((0 : Nat) : Int)) 1
    rw [e1, e2]
    exact Heap.get?_push_size _ rfl
  · have e : b = (s.heap.push { cls := .type "range", data := .fields #[.int lo t, .int hi u, .int 1 v] }).objs.size := by simpa using hb
    subst e
    exact I1.fpOk (Nat.le_refl _) (I1.hok.fresh (Nat.le_refl _))
theorem pi_range1H {a : Expr} {ta : TA} {p pos : Pos} (hg : Gl X "range") (hm : X.mg "range" = none) (ha : PA X [a] ta) (hs : starEach [a] X.env = [(false, eval a X.env)] := by rfl) : PIC Known X tg (.Call (.Name "range" p) [a] [] pos) (iRng1 ta) := by
  intro pins s σ H R I h
  refine Call_ (ld_blt I hg hm boot_range (PyProof.Rows.callWith_type1 (thn (ha pos pins s σ H _ I h) fun us s1 hq5 => L2.ex5 hq5 fun vs H1 I1 r1 q1 => ?_) hs rfl))
  obtain ⟨j, e, q1, q2, q⟩ := q1
  subst e
  cases r1 with
  | cons r rr =>
    cases rr
    obtain ⟨t, rfl⟩ := r
    exact call_range_1 (range_itH I1 (by omega) (by omega) q1 q2 (by simpa using q))
end
section
variable {K : PySem.W.Frag} {Y : XY} {X : Cx} {tg elt iter : Expr} {ifs : List Expr} {scope : Scope} {pos : Pos} {own : List Str} {cap : List (Str × Nat)} {it : SD → Res (Bool × List D)} {tgd : TGD} {tt : SD → Res Bool} {fe : SD → Res D}
theorem PIC.imp {cm : Cx → Prop} {t t' : TI} (h : PIC cm X tg iter t) (hi : ∀ σ H R, t' σ H R → t σ H R) : PIC cm X tg iter t' := fun pins s σ H R I hw => h pins s σ H R I (hi σ H R hw)
theorem qi_range1H {a : Expr} {fs : SD → Res (List D)} {p : Pos} (hg : Gl X "range") (hm : X.mg "range" = none) (ha : PA X [a] (tML X.K Y fs)) (hs : starEach [a] X.env = [(false, eval a X.env)] := by rfl) : PIC Known X tg (.Call (.Name "range" p) [a] [] pos) (tMI X.K Y (eRng1 fs)) :=
  PIC.imp (pi_range1H hg hm ha hs) fun σ H R h => rng1_imp h
theorem s_setCompH {i : Nat} {y : Str} {py spos : Pos} (hk : Known X) (hN : X.N.Nodup) (hi' : X.N[i]? = some y) (hy : Loc X.env.scope y) (ok : CompOk X scope own cap) (hi : PIC Known X tg iter (tMI X.K Y it)) (Bl : BlockOk X scope own cap tg ifs elt (tMG X.K tgd) (tMB X.K NoY tt) (tM X.K NoY fe))
    (hsw : swapsWith (.ListComp elt [⟨tg, iter, ifs, 0⟩] scope pos) (some (.Name y py)) spos.line X.env = pure true := by rfl)
    (hf : X.fn y = true ∨ X.env.scope.names.lookup y = some .local := by first | exact .inl rfl | exact .inr rfl) (hs : ∀ x, foldedSetIterable iter X.env x = pure x := by intro _; rfl) :
    PS X (.Assign [.Name y py] (.ListComp elt [⟨tg, iter, ifs, 0⟩] scope pos) spos) (tMS X.K Y (sSet i (eComp it tgd tt fe own.length cap))) := by
  refine PS.imp (ps_setCompC (cm := Known) hN hi' hy ok (fun _ _ _ _ _ _ _ _ I => hk.comp I) hi Bl hsw hf hs) fun E σ H hq => ex7 hq fun H0 B0 B τ P I h => ?_
  have key : tM X.K Y (eComp it tgd tt fe own.length cap) σ H (fun x H1 => gName i x σ H1 E.nx) := exprS I h fun d v H1 B1 fp _ I1 _ _ r1 k1 h1 => by
    unfold setD at h1
    split at h1
    · exact h1.elim
    · rename_i hb
      obtain ⟨P', I', _⟩ := I1.set i (r1.noBor (by simpa using hb)) k1
      exact h1 B1 H1 _ P' ⟨I', Same.refl _, Imm.refl _⟩
  obtain ⟨H0', B0', B', τ', P', F', I', h'⟩ := key
  exact comp_main I' h'
end
/-! the def itself -/
/-- room, whatever is handled -/
noncomputable abbrev RoomH (k : Nat) (A : Around) : Prop := Room k { A with handled := none }
/-- the context of its body -/
noncomputable def cxH (P : Program) (w : World) (K : PySem.W.Frag) (mg : Str → Option Value) (base : Heap) (N : List Str) (qual : Str) (scope : Scope) (f : Addr) (cd : Value) (A : Around) (outer : List Env) (s : Shared) (H : Hp) : Cx :=
  { cxOf CX0 P w K mg base N qual scope f cd A outer s H E0 with calm := false, xe := fun _ _ => False }
structure FnOkH (P : Program) (w : World) (K : PySem.W.Frag) (mg : Str → Option Value) (base : Heap) (k : Nat) (f : Addr) (fd : FuncData) (ps : List Str) (sp : Sp) : Prop where
  len : ∀ vs H Q E, sp vs H Q E → vs.length = ps.length
  run : ∀ (A : Around) (outer : List Env) (s : Shared) (H : Hp) (args : Args) (us : List Value) (vs : List V) (Q : VK), RoomH k A → (∃ (ea : Addr) (C : Value) (t : Addr) (tb : Value) (u : HO), A.handled = some (.ref ea) ∧ H ea = some (.frz (eX C t tb) u)) →
    Env0 P w K mg base A outer s H → BindsTo s fd args (ps.zip us) → Vals vs us → sp vs H Q E0 → codeAny (model P w) A (.call (.ref f) args) (CR CX0 outer P w H s Q E0) s
theorem inv_startH {P : Program} {w : World} {K : PySem.W.Frag} {mg : Str → Option Value} {base : Heap} {N ps : List Str} {qual : Str} {scope : Scope} {f : Addr} {cd : Value} {A : Around} {outer : List Env} {s s1 : Shared} {H : Hp} {us : List Value} {vs : List V}
    (S : FnScope N ps scope) (e0 : Env0 P w K mg base A outer s H) (hl : vs.length = ps.length) (r : Vals vs us)
    (x : InCallC s s.heap.objs.size (bindL (envOfC qual scope s.heap.objs.size f cd).kindOf (ps.zip us) fun _ => none) (cellsFrom (s.heap.objs.size + 1) scope.names []) (bindC (envOfC qual scope s.heap.objs.size f cd).kindOf (ps.zip us) fun _ => none) s1) :
    Inv (cxH P w K mg base N qual scope f cd A outer s H) [] (L2.start N vs) H s1 := by
  have e0' : Env0 P w K mg base { A with handled := none } outer s H := ⟨e0.frames, e0.mod, e0.bs, e0.bsz, e0.funs, e0.frf, e0.hok, e0.bare⟩
  have I := inv_start (CX := CX0) (E := E0) (qual := qual) (f := f) (cd := cd) (A := { A with handled := none }) S rfl e0' hl r x
  exact ⟨⟨I.ok.mod, I.ok.kind, I.ok.glob, I.ok.blt, I.ok.above, I.ok.inj, I.ok.has, I.ok.cab, (fun z => by cases z), I.ok.frames, I.ok.stk, I.ok.exf, I.ok.bs, I.ok.bsz, I.ok.noex, I.ok.exfs, I.ok.funs, I.ok.frf⟩, I.os, I.bare, I.base, I.loc, I.cell, I.free, I.freeC, I.pin, I.hok, I.len⟩
theorem fn_ofH {P : Program} {w : World} {K : PySem.W.Frag} {mg : Str → Option Value} {base : Heap} {k : Nat} {f : Addr} {name qual : Str} {params : Arguments} {body : List Stmt} {scope : Scope} {dV kV doc pm cdv ct oc : Value} {an od : Option Addr}
    {osl : Array (Option Value)} {N ps : List Str} {sp : Sp} (lk : K.lookup f = some ⟨oc, od, .func (PySem.W.fnOf name qual params body scope dV kV doc pm an cdv ct), osl⟩) (hcd : PySem.W.codeIn K cdv qual = true) (S : FnScope N ps scope)
    (len : ∀ vs H Q E, sp vs H Q E → vs.length = ps.length)
    (hbody : ∀ (A : Around) (outer : List Env) (s : Shared) (H : Hp) (vs : List V) (Q : VK), RoomH k (A.deeper (envOfC qual scope s.heap.objs.size f cdv)) → Known (cxH P w K mg base N qual scope f cdv A outer s H) → sp vs H Q E0 →
      ∃ t, PSs (cxH P w K mg base N qual scope f cdv A outer s H) body t ∧ t { nx := fun _ H' => Q .non H', rt := Q } (L2.start N vs) H) :
    FnOkH P w K mg base (k + 1) f (PySem.W.fnOf name qual params body scope dV kV doc pm an cdv ct) ps sp := by
  refine ⟨len, fun A outer s H args us vs Q hr hkn e0 hb r hsp => ?_⟩
  have hl := len _ _ _ _ hsp
  have KX : K.In s.heap := e0.mod.kin.keeps fun b o e => (e0.bs b o e).1
  have lim : s.heap.NoLimit := e0.mod.nolimit.keeps fun b o e => (e0.bs b o e).1
  have hkind : ∀ y ∈ ps.zip us, scope.names.lookup y.1 = some .local ∨ (scope.names.lookup y.1 = some .cell ∧ ((cellsFrom (s.heap.objs.size + 1) scope.names []).lookup y.1).isSome = true) := fun ⟨n, v⟩ hy => by
    rcases S.par n (List.of_mem_zip hy).1 with q | q
    · exact .inl q
    · exact .inr ⟨q, PySem.W.cellsFrom_some _ _ _ (.inl q)⟩
  refine codeAny_call_function (show A.depth < recursionLimit from hr.depth) (KX _ _ lk) rfl S.co S.gen rfl (PySem.W.codeRec_of KX hcd) (hb _ _ _ _ ?_)
  refine wpAny_newFunctionEnv_cells S.kind hkind fun env he s1 x => ?_
  subst he
  refine ⟨lim.keeps x.toInCall.keep, codeAny_func ?_⟩
  have kn : Known (cxH P w K mg base N qual scope f cdv A outer s H) := hkn
  obtain ⟨t, ht, hq⟩ := hbody A outer s H vs Q (hr.deeper _) kn hsp
  have I : Inv (cxH P w K mg base N qual scope f cdv A outer s H) [] (L2.start N vs) H s1 := inv_startH S e0 hl r x
  refine wpAny_mono (ht [] s1 (L2.start N vs) H _ I hq) (fun fl s' hs => ?_) fun e s' hs => hs.elim
  have fin : ∀ {σ' : L2.St} {H' : Hp} {v : V} {u : Value}, Inv (cxH P w K mg base N qual scope f cdv A outer s H) [] σ' H' s' → RelV v u → Q v H' → CE outer P w H s Q u s' :=
    fun {σ' H' v u} J rv q => ⟨v, H', J.os, J.bare, J.base, J.hok, rv, q⟩
  cases fl with
  | ret u =>
    obtain ⟨v, σ', H', J, rv, q⟩ := hs
    exact fin J rv q
  | next =>
    obtain ⟨σ', H', J, q⟩ := hs
    exact fin (v := V.non) (u := Value.none) J rfl q
  | brk =>
    obtain ⟨_, _, _, q⟩ := hs
    exact False.elim q
  | cont =>
    obtain ⟨_, _, _, q⟩ := hs
    exact False.elim q
structure CalH (P : Program) (w : World) (K : PySem.W.Frag) (mg : Str → Option Value) (base : Heap) (k : Nat) (x : Str) (ps : List Str) (sp : Sp) : Prop where
  ex : ∃ f fd, mg x = some (.ref f) ∧ PySem.W.keepIn K (.ref f) = true ∧ Binds K fd ps [] ∧ FnOkH P w K mg base k f fd ps sp
theorem cal_ofH {P : Program} {w : World} {K : PySem.W.Frag} {mg : Str → Option Value} {base : Heap} {x : Str} {st : Stmt} {N ps : List Str} {k n m : Nat} {g : SF} (D : Dfn K mg x st ps) (S : FnScope N ps (defScope st)) (hn : ps.length = n) (hm : N.length = m)
    (hbody : ∀ (f : Addr) (cdv : Value) (A : Around) (outer : List Env) (s : Shared) (H : Hp), RoomH k (A.deeper (envOfC x (defScope st) s.heap.objs.size f cdv)) → Known (cxH P w K mg base N x (defScope st) f cdv A outer s H) →
      PSs (cxH P w K mg base N x (defScope st) f cdv A outer s H) (defBody st) (tMS K NoY g)) : CalH P w K mg base (k + 1) x ps (spF K (runF n m g)) := by
  subst hn hm
  obtain ⟨f, fd, Fn, hmg, hb⟩ := D.ex
  refine ⟨f, fd, hmg, Fn.kp, hb, ?_⟩
  obtain ⟨oc, od, kV, doc, pm, an, cdv, ct, osl, rfl, lk, hcd⟩ := Fn.ex
  refine fn_ofH lk hcd S (fun vs H Q E h => ?_) fun A outer s H vs Q hr kn h => ?_
  · obtain ⟨B0, ds, _, r, h⟩ := h
    rw [← r.length]
    unfold runF at h
    by_cases hl : ds.length = ps.length
    · exact hl
    · rw [if_neg hl] at h; exact h.elim
  · obtain ⟨B0, ds, sB, r, h⟩ := h
    unfold runF at h
    by_cases hl : ds.length = ps.length
    · rw [if_pos hl] at h
      have e : L2.start N vs = vs.map some ++ List.replicate (N.length - ps.length) none := by
        unfold L2.start
        rw [← r.length, hl]
      refine ⟨_, hbody f cdv A outer s H hr kn, H, B0, B0, ds.map some ++ List.replicate (N.length - ps.length) none, [], ⟨sB, Same.refl _, Same.refl _, fun a n => .inl n, by rw [e]; exact repS_start _ r, List.nodup_nil, (fun a m => by cases m), fun a m => m.elim⟩, ?_⟩
      cases z : g (ds.map some ++ List.replicate (N.length - ps.length) none) with
      | rt d => rw [z] at h; exact fun B' H' v fp q => h B' H' v fp q
      | nx t =>
        rw [z] at h
        intro B' H' σ' P' a
        exact h B' H' .non [] ⟨a.si.h0, a.si.b0, a.si.bh, a.si.nb, ⟨rfl, rfl⟩, List.nodup_nil, fun a m => by cases m⟩
      | bk t => rw [z] at h; exact h.elim
      | ct t => rw [z] at h; exact h.elim
      | ex C t => rw [z] at h; exact h.elim
      | bad => rw [z] at h; exact h.elim
    · rw [if_neg hl] at h; exact h.elim
end XF
set_option Elab.async false
set_option linter.all false
set_option maxRecDepth 100000
set_option maxHeartbeats 2000000
/-! ### does an except clause take an exception of the text's own class -/
namespace XF
open PySem
/-- the object of an error class, whatever else it holds -/
noncomputable def ClsO (h : Heap) (C : Addr) (bm : List Value) : Prop := ∃ N nm q bs hdct sn sub ab col dd k0 k1 k2 k3 k5 newId, h.get? C = some (excClassObj nm q C N bs bm hdct sn sub ab col dd k0 k1 k2 k3 k5 newId)
section
variable {M : Model} {A : Around} {E : Value → Shared → Prop} {h : Heap} {g : Array GenState} {d : Drawn} {t : Nat} {os : OsState} {e C D : Addr} {oe : Obj} {bm bn : List Value} {Q : Bool → Shared → Prop}
theorem takes (hC : ClsO h C bm) (hD : ClsO h D bn) (he : h.get? e = some oe) (hc : oe.cls = .ref C) (hb : bn.contains (.type "BaseException") = true) (hq : Q ((Value.ref C :: bm).contains (.ref D)) ⟨h, g, d, t, os⟩) : wpAny M A (excMatches (.ref e) (.ref D)) Q E ⟨h, g, d, t, os⟩ := by
  obtain ⟨N, nm, q, bs, hdct, sn, sub, ab, col, dd, k0, k1, k2, k3, k5, newId, hC⟩ := hC
  obtain ⟨N', nm', q', bs', hdct', sn', sub', ab', col', dd', k0', k1', k2', k3', k5', newId', hD⟩ := hD
  have hcB : (Value.ref D :: bn).contains (.type "BaseException") = true := by rw [List.contains_cons, hb, Bool.or_true]
  have f := tc_notTuple
  generalize hr : (Value.ref C :: bm).contains (.ref D) = r at hq
  unfold excMatches
  repeat (first | (with_reducible refine wpAny_loadPart_at he ?_; rw [hc]) | with_reducible refine wpAny_loadPart_at hD ?_ | (with_reducible refine wpAny_isSubtype_exc hD ?_; rw [hcB]) | (with_reducible refine wpAny_isSubtype_exc hC ?_; rw [hr]) | wp_step)
  cases r <;> (wp_walk; exact hq)
end
end XF
set_option Elab.async false
set_option linter.all false
set_option maxRecDepth 100000
set_option maxHeartbeats 4000000
/-! ### try: .., except X as n: return f(n) -/
namespace XF
open PySem PySem.Spec PyProof.Rows L2 DL
theorem obj_ex {P : Program} {w : World} {H : Hp} {h : Heap} {a : Addr} {o : HO} (x : ObjOk P w H h a o) : ∃ u, h.get? a = some u := by
  cases o with
  | lst xs => obtain ⟨_, _, _, _, e⟩ := x; exact ⟨_, e⟩
  | tup xs => obtain ⟨_, _, _, _, e⟩ := x; exact ⟨_, e⟩
  | dK kvs => obtain ⟨_, _, _, _, o, _, _, e, _⟩ := x; exact ⟨_, e⟩
  | dT kvs => obtain ⟨_, _, _, _, o, _, _, e, _⟩ := x; exact ⟨_, e⟩
  | set S n => obtain ⟨o, _, _, _, e, _⟩ := x; exact ⟨_, e⟩
  | ins C dx fs => obtain ⟨_, _, _, e, _⟩ := x; exact ⟨_, e⟩
  | own y => obtain ⟨_, e⟩ := x; exact ⟨_, e⟩
  | xd fs => obtain ⟨_, ⟨_, _, _, e, _⟩, _⟩ := x; exact ⟨_, e⟩
  | rng lo hi => obtain ⟨_, _, _, e⟩ := x; exact ⟨_, e⟩
  | frz ob u => obtain ⟨e, _⟩ := x; exact ⟨_, e⟩
  | tbl ps => exact ⟨_, (show h.get? a = some _ from x)⟩
  | met f y => exact ⟨_, (show h.get? a = some _ from x)⟩
  | ext φ => obtain ⟨_, ⟨_, e⟩, _⟩ := x; exact ⟨_, e⟩
section
variable {X : Cx} {pins : List (Addr × Obj)} {σ : L2.St} {H : Hp} {e C : Addr} {B : Heap} {s : Shared}
theorem cell_up {fs : List Addr} {h h' : Heap} (u : Ups fs h h') {c : Addr} {v : Option Value} (q : h.IsCell c v) : h'.IsCell c v := by
  obtain ⟨o, ho, hd⟩ := q
  obtain ⟨sl, z⟩ := u.up c o ho fun vs y => by rw [hd] at y; cases y
  exact ⟨_, z, hd⟩
/-- the frame stands as it stood -/
theorem inv_ups {h' : Heap} {fs : List Addr} (I : Inv X pins σ H s) (hok : HOk X.prog X.w H B) (cov : ∀ b o, X.s₀.heap.get? b = some o → X.H₀ b = none → b ∉ X.fs → b ∉ X.ex → B.get? b = some o) (pin : ∀ p ∈ X.pn ++ pins, B.get? p.1 = some p.2)
    (st : B.StaysIn h') (u : Ups fs s.heap h') : Inv X pins σ H { s with heap := h' } := by
  refine ⟨I.ok, I.os, I.bare, ⟨fun b o q n hb hx => st _ _ (cov b o q n hb hx), fun b o q n hb hx => ?_, I.base.free, fun b o q hx => ?_, I.base.tups, I.base.frzs, I.base.tbls⟩, ?_, fun x c q => ?_, I.free, I.freeC, fun p hp => ⟨st _ _ (pin p hp), (I.pin p hp).2⟩, hok.kept st, I.len⟩
  · obtain ⟨sl, z⟩ := I.base.slot b o q n hb hx
    obtain ⟨_, o', q', nd⟩ := I.ok.funs.mem hb
    rw [q] at q'
    cases q'
    obtain ⟨sl', z'⟩ := u.up b _ z nd
    exact ⟨sl', z'⟩
  · obtain ⟨o', z⟩ := I.base.there b o q hx
    exact u.ex b o' z
  · obtain ⟨m, hn, hl⟩ := I.loc
    refine ⟨m, u.up.ns hn, fun i x v a1 a2 a3 => ?_⟩
    obtain ⟨w, r, l⟩ := hl i x v a1 a2 a3
    refine ⟨w, r, ?_⟩
    rcases l with l | ⟨k, c, hc, q⟩
    · exact .inl l
    · exact .inr ⟨k, c, hc, cell_up u q⟩
  · obtain ⟨v, z⟩ := I.cell x c q
    exact ⟨v, cell_up u z⟩
/-- the caught exception is tracked from here on -/
theorem inv_track {t : Addr} {tb : Value} (I : Inv X pins σ H s) (hok : HOk X.prog X.w H B) (cov : ∀ b o, X.s₀.heap.get? b = some o → X.H₀ b = none → b ∉ X.fs → b ∉ X.ex → B.get? b = some o) (pin : ∀ p ∈ X.pn ++ pins, B.get? p.1 = some p.2)
    (st : B.StaysIn s.heap) (new : B.get? e = none) (he : s.heap.get? e = some (eX (.ref C) t tb)) (hex : e ∉ X.ex) : H e = none ∧ Inv X pins σ (upd H e (.frz (eX (.ref C) t tb) (.own e))) s := by
  have hn : H e = none := by
    cases q : H e with
    | none => rfl
    | some o =>
      obtain ⟨u, z⟩ := obj_ex (hok e o q)
      rw [new] at z
      cases z
  have nfs : e ∉ X.fs := fun m => by
    obtain ⟨_, o, q, nd⟩ := I.funs.mem m
    rw [he] at q
    cases q
    exact nd _ rfl
  have nL : X.env.locals ≠ e := fun z => by
    obtain ⟨m, ⟨o, es, ep, ho, hd, _⟩, _⟩ := I.loc
    rw [z, he] at ho
    cases ho
    cases hd
  have ne : ∀ b o, H b = some o → b ≠ e := fun b o q z => by rw [z, hn] at q; cases q
  refine ⟨hn, I.ok, I.os, I.bare, ⟨I.base.keep, I.base.slot, fun b o q n hx => ?_, I.base.there, fun b xs q => ?_, fun b o u q => ?_, fun b ps q => ?_⟩, I.loc, I.cell, ?_, fun x c q => ?_, fun p hp => ?_, fun b o q => ?_, I.len⟩
  · by_cases z : b = e
    · exfalso
      subst z
      by_cases hb : b ∈ X.fs
      · exact nfs hb
      · have := cov b o q n hb hx
        rw [new] at this
        cases this
    · rw [upd_ne z]
      exact I.base.free b o q n hx
  · have z := I.base.tups b xs q
    rw [upd_ne (ne b _ z)]
    exact z
  · have z := I.base.frzs b o u q
    rw [upd_ne (ne b _ z)]
    exact z
  · obtain ⟨more, z⟩ := I.base.tbls b ps q
    exact ⟨more, by rw [upd_ne (ne b _ z)]; exact z⟩
  · rw [upd_ne nL]
    exact I.free
  · rw [upd_ne fun z => ?_]
    · exact I.freeC x c q
    · obtain ⟨v, o, ho, hd⟩ := I.cell x c q
      rw [z, he] at ho
      cases ho
      cases hd
  · obtain ⟨h1, h2, h3⟩ := I.pin p hp
    refine ⟨h1, ?_, h3⟩
    rw [upd_ne fun z => ?_]
    · exact h2
    · have := pin p hp
      rw [z, new] at this
      cases this
  · by_cases z : b = e
    · subst z
      rw [upd_same] at q
      cases q
      exact ⟨he, _, he⟩
    · rw [upd_ne z] at q
      exact (I.hok b o q).stay (fun c v _ y => y) (fun c y => by rw [upd_ne (ne c _ y)]; exact y) fun c xs y => by rw [upd_ne (ne c _ y)]; exact y
/-- the names are forgotten -/
theorem inv_forget {h' : Heap} {tk : Nat} {m' : Str → Option Value} (I : Inv X pins σ H s) (hn : h'.Ns X.env.locals m') (sb : Heap.SameBut X.env.locals s.heap h') : Inv X pins (List.replicate X.N.length none) H { s with heap := h', toks := tk } := by
  have k : ∀ b o, b ≠ X.env.locals → s.heap.get? b = some o → h'.get? b = some o := fun b o n q => (sb.2 b n).trans q
  have neL : ∀ b o, X.s₀.heap.get? b = some o → b ≠ X.env.locals := fun b o q => Nat.ne_of_lt (Nat.lt_of_lt_of_le (Heap.lt_size q) I.ok.above)
  refine ⟨I.ok, I.os, I.bare, ⟨fun b o q n hb hx => k b o (neL b o q) (I.base.keep b o q n hb hx), fun b o q n hb hx => ?_, I.base.free, fun b o q hx => ?_, I.base.tups, I.base.frzs, I.base.tbls⟩, ⟨m', hn, fun i x v a1 a2 a3 => ?_⟩, fun x c q => ?_, I.free, I.freeC, fun p hp => ?_, fun b o q => ?_, by simp⟩
  · obtain ⟨sl, z⟩ := I.base.slot b o q n hb hx
    exact ⟨sl, k b _ (neL b o q) z⟩
  · obtain ⟨o', z⟩ := I.base.there b o q hx
    exact ⟨o', k b o' (neL b o q) z⟩
  · rw [List.getElem?_replicate] at a2
    split at a2 <;> cases a2
  · obtain ⟨v, o, ho, hd⟩ := I.cell x c q
    exact ⟨v, o, k c o (I.cne x c q) ho, hd⟩
  · obtain ⟨h1, h2, h3, h4⟩ := I.pin p hp
    exact ⟨k _ _ h3 h1, h2, h3, h4⟩
  · refine (I.hok b o q).stay (fun c v hc y => k c v (fun z => ?_) y) (fun _ y => y) fun _ _ y => y
    have f := I.free
    rw [← z] at f
    rcases hc with rfl | hc
    · rw [q] at f; cases f
    · rw [hc] at f; cases f
end
/-- the same frame, more pins that every state bears, another wish -/
noncomputable abbrev tcx (X : Cx) (pn : List (Addr × Obj)) (W : Value → Shared → Prop) : Cx := { X with pn := pn, xe := W }
theorem inv_in {X : Cx} {pins : List (Addr × Obj)} {σ : L2.St} {H : Hp} {s : Shared} {W : Value → Shared → Prop} (I : Inv X pins σ H s) : Inv (tcx X (X.pn ++ pins) W) [] σ H s :=
  ⟨⟨I.ok.mod, I.ok.kind, I.ok.glob, I.ok.blt, I.ok.above, I.ok.inj, I.ok.has, I.ok.cab, I.ok.hd, I.ok.frames, I.ok.stk, I.ok.exf, I.ok.bs, I.ok.bsz, I.ok.noex, I.ok.exfs, I.ok.funs, I.ok.frf⟩, I.os, I.bare, I.base, I.loc, I.cell, I.free, I.freeC, fun p hp => I.pin p (by simpa using hp), I.hok, I.len⟩
theorem inv_out {X : Cx} {pins pins' : List (Addr × Obj)} {σ : L2.St} {H : Hp} {s : Shared} {W : Value → Shared → Prop} (I : Inv (tcx X (X.pn ++ pins) W) pins' σ H s) : Inv X pins σ H s :=
  ⟨⟨I.ok.mod, I.ok.kind, I.ok.glob, I.ok.blt, I.ok.above, I.ok.inj, I.ok.has, I.ok.cab, I.ok.hd, I.ok.frames, I.ok.stk, I.ok.exf, I.ok.bs, I.ok.bsz, I.ok.noex, I.ok.exfs, I.ok.funs, I.ok.frf⟩, I.os, I.bare, I.base, I.loc, I.cell, I.free, I.freeC, fun p hp => I.pin p (List.mem_append_left _ hp), I.hok, I.len⟩
/-- the frame while e is handled -/
noncomputable abbrev hcx (X : Cx) (e : Addr) : Cx := { X with A := X.A.mark (some (.ref e)), calm := false, xe := fun _ _ => False }
theorem inv_hd {X : Cx} {pins : List (Addr × Obj)} {σ : L2.St} {H : Hp} {s : Shared} (e : Addr) (I : Inv X pins σ H s) : Inv (hcx X e) pins σ H s :=
  ⟨⟨I.ok.mod, I.ok.kind, I.ok.glob, I.ok.blt, I.ok.above, I.ok.inj, I.ok.has, I.ok.cab, (fun z => by cases z), I.ok.frames, I.ok.stk, I.ok.exf, I.ok.bs, I.ok.bsz, I.ok.noex, I.ok.exfs, I.ok.funs, I.ok.frf⟩, I.os, I.bare, I.base, I.loc, I.cell, I.free, I.freeC, I.pin, I.hok, I.len⟩
theorem inv_unhd {X : Cx} {pins : List (Addr × Obj)} {σ : L2.St} {H : Hp} {s : Shared} {e : Addr} (ok : X.Ok) (I : Inv (hcx X e) pins σ H s) : Inv X pins σ H s :=
  ⟨ok, I.os, I.bare, I.base, I.loc, I.cell, I.free, I.freeC, I.pin, I.hok, I.len⟩
noncomputable def sTryW (g : SF) (inC : Addr → Bool) (G : DF) (τ : SD) : Fl := match g τ with
  | .ex C _ => if inC C = true then (match G [.exc C] with | .ok d => .rt d | _ => .bad) else .bad
  | r => r
theorem XObj.cls {h : Heap} {C : Addr} {bm : List Value} (x : XObj h C bm) : ClsO h C bm := by
  obtain ⟨N, nm, q, bs, hdct, sn, sub, ab, col, dd, k0, k1, k2, k3, k5, mN, hC, _⟩ := x.ob
  exact ⟨N, nm, q, bs, hdct, sn, sub, ab, col, dd, k0, k1, k2, k3, k5, _, hC⟩
/-- f(n) while e is handled -/
theorem pe_word {X : Cx} {e C t : Addr} {tb : Value} {u : HO} {k i : Nat} {y n p : Str} {G : DF} {p1 p2 cp : Pos} (Cw : CalH X.prog X.w X.K X.mg X.base k y [p] (spF X.K G)) (hr : RoomH k X.A) (hgy : Gl X y) (hi : X.N[i]? = some n) (hv : Vis X.env.scope n) (hdb : (y == ("__debug__" : Str)) = false) (hd : (n == ("__debug__" : Str)) = false) (hcd : (n == ("__classdict__" : Str)) = false)
    (he : starEach [.Name n p2] X.env = (false, eval (.Name n p2) X.env) :: starEach [] X.env) (hpl : (backTo cp (starEach [] X.env)).any (·.1) = false) :
    PE (hcx X e) (.Call (.Name y p1) [.Name n p2] [] cp) (fun σ H Q => σ[i]? = some (some (.ref e)) ∧ H e = some (.frz (eX (.ref C) t tb) u) ∧ spF X.K G [.ref e] H Q E0) := by
  obtain ⟨f, fd, hm, hk, hb, Fn⟩ := Cw.ex
  intro pins s σ H Q J ⟨h1, h2, h3⟩
  refine wpAny_Call_Name_kw (ld_glob J hgy hm ?_ hdb)
  have ha : PA (hcx X e) [.Name n p2] _ := pa_cons (pe_var (X := hcx X e) (i := i) (pos := p2) hi hv hd hcd) pa_nil he
  refine PySem.W.callWith_K (h₀ := X.base) J.ok.mod.kin hk (thn (ha cp pins s σ H (fun vs H1 => vs = [.ref e] ∧ H1 = H) J ⟨.ref e, h1, rfl, rfl⟩) fun us s1 hq5 => L2.ex5 hq5 fun vs H1 J1 r q => ⟨J1.kIn, ?_⟩) he hpl
  obtain ⟨rfl, rfl⟩ := q
  have hl : us.length = [p].length := by rw [← r.length]; rfl
  have hb' := hb s1 us J1.kIn (by rw [List.append_nil]; exact hl)
  rw [List.append_nil] at hb'
  refine wpAny_call (codeAny_mono (Fn.run (X.A.mark (some (.ref e))) X.stack s1 H1 ⟨us, []⟩ us [.ref e] Q hr ⟨e, .ref C, t, tb, u, rfl, h2⟩ J1.env0 hb' r h3) fun r s' hq => ?_)
  cases r with
  | error e => exact hq.elim
  | ok fl =>
    cases fl with
    | ret u => exact J1.after hq
    | next => exact False.elim hq
    | brk => exact False.elim hq
    | cont => exact False.elim hq
theorem s_tryW {X : Cx} {Y : XY} {body : List Stmt} {x n y p : Str} {np p1 p2 cp hpos rpos pos : Pos} {g : SF} {i k : Nat} {NE : Addr} {bn : List Value} {inC : Addr → Bool} {G : DF}
    (hb : ∀ (pn : List (Addr × Obj)) (W : Value → Shared → Prop) (Y' : XY), XOk (tcx X pn W) Y' → PSs (tcx X pn W) body (tMS X.K Y' g))
    (c : XCls X.K X.mg x NE bn) (hIn : ∀ C, inC C = true → ∃ nm bm, XCls X.K X.mg nm C bm ∧ (Value.ref C :: bm).contains (.ref NE) = true)
    (Cw : CalH X.prog X.w X.K X.mg X.base k y [p] (spF X.K G)) (hr : RoomH k X.A) (hN : X.N.Nodup) (hi : X.N[i]? = some n) (hn : X.env.scope.names.lookup n = some .local) (hgx : Gl X x := by rfl) (hgy : Gl X y := by rfl)
    (hst : X.stack = X.env :: X.outer := by rfl) (hfr : X.env.frame = some X.env.locals := by rfl) (hex : X.ex = [] := by rfl) (hkf : X.env.scope.kind = .function := by rfl)
    (hdx : (x == ("__debug__" : Str)) = false := by decide) (hdb : (y == ("__debug__" : Str)) = false := by decide) (hd : (n == ("__debug__" : Str)) = false := by decide) (hcd : (n == ("__classdict__" : Str)) = false := by decide)
    (he : starEach [.Name n p2] X.env = (false, eval (.Name n p2) X.env) :: starEach [] X.env := by rfl) (hpl : (backTo cp (starEach [] X.env)).any (·.1) = false := by rfl) :
    PS X (.Try body [.ExceptHandler (some (.Name x np)) (some n) [.Return (some (.Call (.Name y p1) [.Name n p2] [] cp)) rpos] hpos] [] [] pos) (tMS X.K Y (sTryW g inC G)) := by
  intro pins s σ H D I ⟨H0, B0, B, τ, P, J, h⟩
  refine wpAny_Try_except ?_
  have main : XOk (tcx X (X.pn ++ pins) fun e s₁ => wpAny (model X.prog X.w) X.A (noteFrame e X.env) (fun _ s₂ => wpAny (model X.prog X.w) X.A (setFlight e none) (fun _ s₃ => wpAny (model X.prog X.w) X.A (handleBy e X.env [.ExceptHandler (some (.Name x np)) (some n) [.Return (some (.Call (.Name y p1) [.Name n p2] [] cp)) rpos] hpos]) (SP X pins D) X.xe s₃) X.xe s₂) X.xe s₁)
      (fun C σ' H' => ∃ t B' P', Aft X.K H0 B0 B H B' H' σ' t P' ∧ g τ = .ex C t) := by
    rintro pins' σ' H' e C s' ⟨I', Bh, st, new, ff, hok, cov, pin, made⟩ ⟨t, B', P', aft, hg⟩
    unfold sTryW at h
    rw [hg] at h
    have h : GoalS X.K Y H0 B0 B H D (if inC C = true then (match G [.exc C] with | .ok d => .rt d | _ => .bad) else .bad) := h
    split at h
    · rename_i hc
      cases zG : G [.exc C] with
      | exn c => rw [zG] at h; exact h.elim
      | bad => rw [zG] at h; exact h.elim
      | ok d =>
        rw [zG] at h
        have Ix := inv_out I'
        have cov' : ∀ b o, X.s₀.heap.get? b = some o → X.H₀ b = none → b ∉ X.fs → b ∉ X.ex → Bh.get? b = some o := cov
        have pin' : ∀ p ∈ X.pn ++ pins, Bh.get? p.1 = some p.2 := fun p hp => pin p (List.mem_append_left _ hp)
        have ff' : s'.heap.FunFrames Bh (X.env :: X.outer) := by rw [← hst]; exact ff
        have fr : X.A.frames = some (X.env :: X.outer) := by rw [← hst]; exact Ix.ok.frames
        have rest : ∀ h1, Fly Bh (X.env :: X.outer) e (.ref C) (rawInt X.env.locals) h1 → Ups (frL (X.env :: X.outer)) s'.heap h1 →
            wpAny (model X.prog X.w) X.A (setFlight (.ref e) none) (fun _ s₃ => wpAny (model X.prog X.w) X.A (handleBy (.ref e) X.env [.ExceptHandler (some (.Name x np)) (some n) [.Return (some (.Call (.Name y p1) [.Name n p2] [] cp)) rpos] hpos]) (SP X pins D) X.xe s₃) X.xe { s' with heap := h1 } := by
          intro h1 f1 u1
          refine mark (fs := frL (X.env :: X.outer)) (x := none) f1 fun h2 f2 u2 => ?_
          have u02 := u1.trans u2
          have I2 := inv_ups Ix hok cov' pin' f2.st u02
          obtain ⟨ta, T, oT, ts, he2, _⟩ := f2.tr.ex
          refine wpAny_handleBy_cons (codeAny_handlers_test (ld_glob (inv_hd e I2) hgx c.mg ?_ hdx)) (by intro q; cases q)
          obtain ⟨nm, bm, cC, hcon⟩ := hIn C hc
          refine takes (cC.obj I2.kIn).cls (c.obj I2.kIn).cls he2 rfl ?_ ?_
          · obtain ⟨_, _, _, _, _, _, _, _, _, _, _, _, _, _, _, _, _, _, _, T⟩ := (c.obj I2.kIn).ob
            exact T.hasType F.excBase_ValueError.hasBase
          · rw [hcon]
            refine codeAny_handlers_suite_as ?_
            refine mark (fs := frL (X.env :: X.outer)) (x := none) f2 fun h3 f3 u3 => ?_
            have I3 := inv_ups Ix hok cov' pin' f3.st (u02.trans u3)
            obtain ⟨ta3, T3, oT3, ts3, he3, _⟩ := f3.tr.ex
            obtain ⟨hHe, I4⟩ := inv_track I3 hok cov' pin' f3.st f3.new he3 (by rw [hex]; exact fun z => by cases z)
            generalize hH4 : upd H' e (.frz (eX (.ref C) ta3 (.ref T3)) (.own e)) = H4 at I4
            have h4e : H4 e = some (.frz (eX (.ref C) ta3 (.ref T3)) (.own e)) := by rw [← hH4]; exact upd_same
            have s34 : Same H' H4 := by rw [← hH4]; exact sameUpd' hHe
            refine store_ok I4 hN hi (.inl hn) (show RelV (.ref e) (.ref e) from rfl) (fun s5 I5 => ?_) (.inr hn)
            have len5 : i < σ'.length := by rw [Ix.len]; exact (List.getElem?_eq_some_iff.mp hi).1
            have q5 : (σ'.set i (some (V.ref e)))[i]? = some (some (.ref e)) := List.getElem?_set_self len5
            have hsp : spF X.K G [.ref e] H4 (fun v H5 => ∃ B5 fp, RetOk X.K H4 B' B5 H5 d v fp) E0 := by
              refine ⟨B', [.exc C], aft.si.bh.trans s34, RepL.one ⟨⟨e, rfl, ta3, .ref T3, .own e, h4e⟩, rfl⟩, ?_⟩
              rw [zG]
              exact fun B5 H5 v fp r => ⟨B5, fp, r⟩
            have run := pss_one (ps_ret (pos := rpos) (pe_word (e := e) (C := C) (t := ta3) (tb := .ref T3) (u := .own e) (p1 := p1) (p2 := p2) (cp := cp) Cw hr hgy hi (.inl hn) hdb hd hcd he hpl)) pins s5 (σ'.set i (some (.ref e))) H4 { nx := fun _ _ => False, rt := fun v H5 => ∃ B5 fp, RetOk X.K H4 B' B5 H5 d v fp } (inv_hd e I5) ⟨q5, h4e, hsp⟩
            refine wpAny_mono run (fun f s6 hf => ?_) fun _ _ z => z.elim
            cases f with
            | next => obtain ⟨_, _, _, z⟩ := hf; exact z.elim
            | brk => obtain ⟨_, _, _, z⟩ := hf; exact z.elim
            | cont => obtain ⟨_, _, _, z⟩ := hf; exact z.elim
            | ret u6 =>
              obtain ⟨v, σ6, H6, I6, rv, B5, fp, r⟩ := hf
              have I6' := inv_unhd Ix.ok I6
              obtain ⟨m6, hn6, _⟩ := I6'.loc
              refine wpAny_nameGoes (show X.env.kindOf n = some .local from hn) hn6 (by rw [hkf]; rfl) fun h7 m7 hn7 sb => ?_
              refine ⟨v, _, H6, inv_forget I6' hn7 sb, rv, h B5 H6 v fp ⟨aft.si.h0.trans (s34.trans r.h0), aft.si.b0.trans r.b0, r.bh, fun a na => ?_, r.rep, r.nd, fun a ha => ?_⟩⟩
              · rcases r.nb a na with z | z
                · exact aft.si.nb a z
                · exact .inr (aft.si.h0.free (s34.free z))
              · obtain ⟨z1, z2, z3⟩ := r.own a ha
                exact ⟨z1, aft.si.h0.free (s34.free z2), z3⟩
        rcases made with ⟨t0, h0⟩ | tr
        · exact noteFirst fr hfr ff' h0 st new rest
        · exact note fr hfr ⟨st, new, ff', tr⟩ rest
    · exact h.elim
  have go := hb _ _ _ main [] s σ H D (inv_in I) ⟨H0, B0, B, τ, P, J, by
    unfold sTryW at h
    cases z : g τ with
    | nx t => rw [z] at h; exact h
    | bk t => rw [z] at h; exact h
    | ct t => rw [z] at h; exact h
    | rt d => rw [z] at h; exact h
    | ex C t => exact fun B' H' σ' P' a => ⟨t, B', P', a, rfl⟩
    | bad => rw [z] at h; exact h⟩
  refine wpAny_mono go (fun f s1 q => ?_) fun _ _ z => z
  cases f with
  | next => obtain ⟨σ', H', I', q⟩ := q; exact wpAny_execs_nil ⟨σ', H', inv_out I', q⟩
  | brk => obtain ⟨σ', H', I', q⟩ := q; exact ⟨σ', H', inv_out I', q⟩
  | cont => obtain ⟨σ', H', I', q⟩ := q; exact ⟨σ', H', inv_out I', q⟩
  | ret u => obtain ⟨v, σ', H', I', r, q⟩ := q; exact ⟨v, σ', H', inv_out I', r, q⟩
end XF
set_option Elab.async false
set_option linter.all false
set_option maxRecDepth 100000
set_option maxHeartbeats 2000000
/-! ### isinstance of a caught exception -/
namespace XF
open PySem PySem.W PySem.Spec PyProof.Rows
/-- what is asked of its class -/
structure XKit (K : Frag) (C : Addr) : Prop where
  ga : findIn K (.ref C) "__getattribute__" = some (some (.builtin "BaseException.__getattribute__"))
  gt : findIn K (.ref C) "__getattr__" = some none
  fo : findObj K C none "__class__" = some (.bind (.builtin "getset_descriptor.__get__") (.builtin "object.__class__"))
  mo : PySem.W.mroIn K C (.type "object") = some true
  mb : PySem.W.mroIn K C (.type "BaseException") = some true
  cl : (clsIn K C).isSome = true
section
variable {prog : Program} {w : World} {A : Around} {E : Value → Shared → Prop} {s : Shared} {K : Frag} {x C : Addr} {ox : Obj}
theorem exc_class (k : XKit K C) {Q : Option Value → Shared → Prop} (X : K.In s.heap) (I : PySem.W.InstAt s.heap x ox C none) (h : Q (some (.ref C)) { s with toks := s.toks + 1 }) : wpAny (model prog w) A (getAttr? (.ref x) "__class__") Q E s := by
  obtain ⟨hh, g, d, t, os⟩ := s
  have L0 := I.type (M := model prog w)
  have L1 := looks_findIn (M := model prog w) X k.ga
  have L2 := looks_findIn (M := model prog w) X k.gt
  unfold getAttr? getAttrBy? getAttrBy
  refine wpAny_bind (wpAny_mkText (wpAny_bind (wpAny_attempt (wpAny_holding (wpAny_bind (L0.at (wpAny_bind (L1.at ?_))))))))
  have hx : (onTheHeap (Value.ref C) && Value.builtin "BaseException.__getattribute__" == Value.builtin "object.__getattribute__") = false := by
    rw [show (Value.builtin "BaseException.__getattribute__" == Value.builtin "object.__getattribute__") = false by decide +kernel]
    exact Bool.and_false _
  simp only [hx, Bool.false_eq_true, if_false]
  unfold getAttrByItsOwn hookBefore callGetattribute
  rw [if_pos (show onTheHeap (Value.ref C) = true from rfl)]
  refine wpAny_bind (L2.at (wpAny_bind (wpAny_attempt (wpAny_holding ?_))))
  rw [if_neg (by simp)]
  unfold boundAndCalled
  rw [F.excAttr_ValueError.ga.bind (.ref x)]
  refine wpAny_bind (wpAny_pure ?_)
  show wpAny _ _ (call (.builtin "BaseException.__getattribute__") [.ref x, .str (Str.ofString "__class__") t]) _ _ _
  have LI : Looks (model prog w) hh (isInstance (.ref x) (.type "BaseException")) true := L0.andThen (looks_mroIn X k.mb)
  have LF := looks_find (M := model prog w) X I k.fo
  have hk : builtinKind "BaseException.__getattribute__" = some .slot := by decide +kernel
  have hsplit : splitId "BaseException.__getattribute__" = some ("BaseException", "__getattribute__") := by decide +kernel
  have ha := F.args_bexc_ga (.ref x) (.str (Str.ofString "__class__") t)
  refine wpAny_call (codeAny_call_builtin F.excAttr_ValueError.ga.plain F.entry_bexc_ga ?_)
  simp only [checkBuiltinCall, hk, hsplit]
  refine wpAny_bind (LI.at ?_)
  have get : wpAny (model prog w) A.in1 (Builtin.«object.__getattribute__» ⟨[.ref x, .str (Str.ofString "__class__") t], []⟩) (fun fin s' => fin = .done (.ret (.ref C)) ∧ s' = ⟨hh, g, d, t + 1, os⟩) (fun _ _ => False) ⟨hh, g, d, t + 1, os⟩ := by
    refine wpAny_bind (wpAny_pure (wpAny_bind (wpAny_pure (wpAny_bind (L0.at (wpAny_bind (LF.at ?_)))))))
    show wpAny _ _ (holding [_] (call (.builtin "getset_descriptor.__get__") [.builtin "object.__class__", .ref x, .ref C]) >>= ret) _ _ _
    exact wpAny_bind (wpAny_holding (wpAny_call (class_get (s := ⟨hh, g, d, t + 1, os⟩) (od := none) X I k.mo (wpAny_pure ⟨rfl, rfl⟩))))
  rw [if_neg (by simp)]
  refine wpAny_of_eq (a := ()) ?_ (wpAny_mono get (fun fin s' z => ?_) fun _ _ z => z.elim)
  · unfold argsOk at ha
    revert ha
    generalize Manifest.signature? "BaseException.__getattribute__" = sg
    cases sg <;> exact id
  · obtain ⟨rfl, rfl⟩ := z
    exact handed_on rfl (wpAny_pure h)
/-- what isinstance asks of it -/
theorem kitx_exc {t : Addr} {tb : Value} (k : XKit K C) : KitX K (.ref x) (.ref C) (fun h => h.get? x = some (eX (.ref C) t tb)) where
  ty := fun _ _ _ e => (Looks.ld e).andThen .now
  it := fun _ _ X _ => by
    have hc := k.cl
    unfold clsIn at hc
    split at hc
    · rename_i c' d' cd' sl' ho
      intro A' Q' E' s' kk q
      unfold isType loadHead
      exact wpAny_bind (wpAny_loadPart (kk _ _ (X _ _ ho)) (wpAny_pure q))
    · cases hc
  ne := fun h tp dd its n sl X htp => by
    have hc := k.cl
    refine Bool.eq_false_iff.mpr fun q => ?_
    have e : C = tp := Value.ref.inj (beq_iff_eq.mp q)
    subst e
    unfold clsIn at hc
    split at hc
    · rename_i c' d' cd' sl' ho
      have z := (X _ _ ho).symm.trans htp
      cases z
    · cases hc
  ca := fun X e h => exc_class k X ⟨e, rfl, rfl, trivial⟩ h
end
end XF
set_option Elab.async false
set_option linter.all false
set_option maxRecDepth 100000
set_option maxHeartbeats 4000000
/-! ### isinstance of a caught exception, as deep values -/
namespace XF
open PySem PySem.Spec PyProof.Rows L2 DL
section
variable {K : PySem.W.Frag} {Y : XY} {H0 B0 B H : Hp} {σ : L2.St} {τ : SD} {P : List Addr} {F : Addr → Prop} {X : Cx} {pos p pt : Pos} {e : Expr} {fe : SD → Res D}
theorem call_instX {cv : V} {c : Value} (hc : ∀ u, RelV cv u → u = c) : CallR X (.builtin "isinstance") (fun xs H Q => ∃ a C t tb u b, xs = [.ref a, cv] ∧ H a = some (.frz (eX (.ref C) t tb) u) ∧ XKit X.K C ∧ PySem.W.kitOne X.K (.ref C) c = some b ∧ Q (.bl b) H) := by
  intro pins s σ H xs us Q I r h
  obtain ⟨a, C, t, tb, u, b, rfl, hH, k, e, q⟩ := h
  obtain ⟨u1, u2, rfl, r1, r2⟩ := vals2 r
  cases r1
  have r2 := hc _ r2
  subst r2
  obtain ⟨ho, _⟩ := I.hok a _ hH
  exact PySem.W.kia_one (kitx_exc k) I.kIn ho e (fun z => nomatch z) fun tk => ⟨.bl b, H, I.tok tk, rfl, q⟩
theorem vals_refs : ∀ {cs : List Addr} {us : List Value}, Vals (cs.map V.ref) us → us = cs.map Value.ref
  | [], us, r => by cases r; rfl
  | c :: cs, us, r => by
    cases r with
    | cons h t => rw [vals_refs t]; cases h; rfl
theorem call_instXT {cs : List Addr} : CallR X (.builtin "isinstance") (fun xs H Q => ∃ a tp C t tb u b, xs = [.ref a, .ref tp] ∧ H tp = some (.tup (cs.map V.ref)) ∧ H a = some (.frz (eX (.ref C) t tb) u) ∧ XKit X.K C ∧ PySem.W.kitAny X.K (.ref C) (cs.map Value.ref) = some b ∧ Q (.bl b) H) := by
  intro pins s σ H xs us Q I r h
  obtain ⟨a, tp, C, t, tb, u, b, rfl, hT, hH, k, e, q⟩ := h
  obtain ⟨u1, u2, rfl, r1, r2⟩ := vals2 r
  cases r1
  cases r2
  obtain ⟨ho, _⟩ := I.hok a _ hH
  obtain ⟨_, its, rv, n, hits⟩ := (show ObjOk X.prog X.w H s.heap tp (.tup (cs.map V.ref)) from I.hok tp _ hT)
  have := vals_refs rv
  subst this
  exact PySem.W.kia_tup (kitx_exc k) I.kIn ho hits e (fun z => nomatch z) fun tk => ⟨.bl b, H, I.tok tk, rfl, q⟩
/-- a caught exception of one of the classes L: what p tells -/
noncomputable def instXD (L : List Addr) (p : Addr → Bool) : D → Res D
  | .exc C => if L.contains C = true then .ok (.bl (p C)) else .bad
  | _ => .bad
theorem exc_at {d : D} {v : V} {f : List Addr} {L : List Addr} {q : Addr → Bool} {Q : VK} (r : Rep K B (· ∈ P) H d v f) (h : Goal K Y H0 B0 B H σ τ P F Q (instXD L q d)) :
    ∃ a C t tb u, v = .ref a ∧ H a = some (.frz (eX (.ref C) t tb) u) ∧ L.contains C = true ∧ Goal K Y H0 B0 B H σ τ P F Q (.ok (.bl (q C))) := by
  cases d with
  | exc C =>
    obtain ⟨⟨a, rfl, t, tb, u, hH⟩, _⟩ := r
    have h : Goal K Y H0 B0 B H σ τ P F Q (if L.contains C = true then .ok (.bl (q C)) else .bad) := h
    by_cases hc : L.contains C = true
    · rw [if_pos hc] at h
      exact ⟨a, C, t, tb, u, rfl, hH, hc, h⟩
    · rw [if_neg hc] at h
      exact h.elim
  | _ => exact h.elim
theorem q_instX {x : Str} {D : Addr} {L : List Addr} {q : Addr → Bool} (hL : ∀ C, L.contains C = true → XKit X.K C ∧ PySem.W.kitOne X.K (.ref C) (.ref D) = some (q C)) (hg : Gl X "isinstance") (hm : X.mg "isinstance" = none) (he : PE X e (tM X.K Y fe)) (hgT : Gl X x) (hmT : X.mg x = some (.ref D))
    (hs : starEach [e, .Name x pt] X.env = (false, eval e X.env) :: starEach [.Name x pt] X.env := by rfl) (hs2 : starEach [.Name x pt] X.env = (false, eval (.Name x pt) X.env) :: starEach [] X.env := by rfl) (hpl : (backTo pos (starEach [.Name x pt] X.env)).any (·.1) = false := by rfl) (hdb : (x == ("__debug__" : Str)) = false := by decide) :
    PE X (.Call (.Name "isinstance" p) [e, .Name x pt] [] pos) (tM X.K Y (eUn (instXD L q) fe)) := by
  refine PE.imp (pe_callB (call_instX (cv := .ref D) (c := .ref D) fun u r => r) hg hm (by decide +kernel) (pa_cons he (pa_cons (pe_glob hgT hmT (show RelV (.ref D) _ from rfl) hdb) pa_nil hs2) hs) (he := hs) (hpl := hpl)) fun σ H Q hq => ex8 hq fun H0 B0 B τ P F I h => ?_
  refine tM.seq (g := instXD L q) I h fun d v H1 B1 fp _ I1 s1 b1 r1 k1 h1 => ?_
  obtain ⟨a, C, t, tb, u, rfl, hH, hc, h2⟩ := exc_at r1 h1
  obtain ⟨k, e⟩ := hL C hc
  exact ⟨a, C, t, tb, u, _, rfl, hH, k, e, Out.here h2 I1 ⟨rfl, rfl⟩⟩
theorem q_instXB {x : Str} {T : String} {L : List Addr} {q : Addr → Bool} (hL : ∀ C, L.contains C = true → XKit X.K C ∧ PySem.W.kitOne X.K (.ref C) (.type T) = some (q C)) (hg : Gl X "isinstance") (hm : X.mg "isinstance" = none) (he : PE X e (tM X.K Y fe)) (hgT : Gl X x) (hmT : X.mg x = none) (hbT : bootBuiltins x = some (.type T))
    (hs : starEach [e, .Name x pt] X.env = (false, eval e X.env) :: starEach [.Name x pt] X.env := by rfl) (hs2 : starEach [.Name x pt] X.env = (false, eval (.Name x pt) X.env) :: starEach [] X.env := by rfl) (hpl : (backTo pos (starEach [.Name x pt] X.env)).any (·.1) = false := by rfl) (hn : x ≠ "__name__" := by decide) (hdb : (x == ("__debug__" : Str)) = false := by decide) :
    PE X (.Call (.Name "isinstance" p) [e, .Name x pt] [] pos) (tM X.K Y (eUn (instXD L q) fe)) := by
  refine PE.imp (pe_callB (call_instX (cv := .ty T) (c := .type T) fun u r => r) hg hm (by decide +kernel) (pa_cons he (pa_cons (pe_bltn hgT hmT hbT (show RelV (.ty T) _ from rfl) hn hdb) pa_nil hs2) hs) (he := hs) (hpl := hpl)) fun σ H Q hq => ex8 hq fun H0 B0 B τ P F I h => ?_
  refine tM.seq (g := instXD L q) I h fun d v H1 B1 fp _ I1 s1 b1 r1 k1 h1 => ?_
  obtain ⟨a, C, t, tb, u, rfl, hH, hc, h2⟩ := exc_at r1 h1
  obtain ⟨k, e⟩ := hL C hc
  exact ⟨a, C, t, tb, u, _, rfl, hH, k, e, Out.here h2 I1 ⟨rfl, rfl⟩⟩
/-- names of classes -/
noncomputable def PAc (X : Cx) (es : List Expr) (cs : List Addr) : Prop := PA X es (fun σ H Q => Q (cs.map V.ref) H)
theorem pac_nil : PAc X [] [] := pa_nil
theorem pac_cons {x : Str} {D : Addr} {np : Pos} {es : List Expr} {cs : List Addr} (hg : Gl X x) (hm : X.mg x = some (.ref D)) (h : PAc X es cs) (hdb : (x == ("__debug__" : Str)) = false := by decide) (hs : starEach (.Name x np :: es) X.env = (false, eval (.Name x np) X.env) :: starEach es X.env := by rfl) : PAc X (.Name x np :: es) (D :: cs) :=
  fun pos pins s σ H Q I hq => pa_cons (pe_glob hg hm (show RelV (.ref D) _ from rfl) hdb) h hs pos pins s σ H Q I hq
theorem q_instXT {es : List Expr} {cs : List Addr} {x1 : Nat} {L : List Addr} {q : Addr → Bool} (hL : ∀ C, L.contains C = true → XKit X.K C ∧ PySem.W.kitAny X.K (.ref C) (cs.map Value.ref) = some (q C)) (hg : Gl X "isinstance") (hm : X.mg "isinstance" = none) (he : PE X e (tM X.K Y fe)) (hc : PAc X es cs) (hlen : cs.length ≤ 100)
    (hs : starEach [e, .Tuple es x1 pt] X.env = (false, eval e X.env) :: starEach [.Tuple es x1 pt] X.env := by rfl) (hs2 : starEach [.Tuple es x1 pt] X.env = (false, eval (.Tuple es x1 pt) X.env) :: starEach [] X.env := by rfl) (hpl : (backTo pos (starEach [.Tuple es x1 pt] X.env)).any (·.1) = false := by rfl) :
    PE X (.Call (.Name "isinstance" p) [e, .Tuple es x1 pt] [] pos) (tM X.K Y (eUn (instXD L q) fe)) := by
  refine PE.imp (pe_callB (call_instXT (cs := cs)) hg hm (by decide +kernel) (pa_cons he (pa_cons (pe_tup (x1 := x1) hc) pa_nil hs2) hs) (he := hs) (hpl := hpl)) fun σ H Q hq => ex8 hq fun H0 B0 B τ P F I h => ?_
  refine tM.seq (g := instXD L q) I h fun d v H1 B1 fp _ I1 s1 b1 r1 k1 h1 => ?_
  obtain ⟨a, C, t, tb, u, rfl, hH, hc, h2⟩ := exc_at r1 h1
  obtain ⟨k, e⟩ := hL C hc
  refine ⟨by rw [List.length_map, sizeLine_eq]; omega, fun tp htp => ?_⟩
  have s := sameUpd' (o := .tup (cs.map V.ref)) htp
  exact ⟨a, tp, C, t, tb, u, _, rfl, upd_same, s _ _ hH, k, e, Out.here (Out.later h2 s (Same.refl _)) (I1.grow s) ⟨rfl, rfl⟩⟩
end
/-! what the classes tell -/
section
variable {K : PySem.W.Frag} {mg : Str → Option Value} {x y : Str} {C D NE : Addr} {bm bd : List Value}
theorem XCls.look (c : XCls K mg x C bm) : ∃ dd cd sl, K.lookup C = some ⟨.type "type", dd, .cls cd, sl⟩ ∧ cd.mro = .ref C :: bm := by
  obtain ⟨_, q, m⟩ := c
  unfold PySem.W.excIn at q
  split at q
  · rename_i dd cd sl ho
    refine ⟨dd, cd, sl, ho, ?_⟩
    unfold mroIn at m
    rw [ho] at m
    simpa using m
  · cases q
theorem kit_sub (c : XCls K mg x C bm) (v : Value) : PySem.W.subIn K (.ref C) v = some ((Value.ref C :: bm).contains v) := by
  obtain ⟨dd, cd, sl, ho, hm⟩ := c.look
  show (PySem.W.clsIn K C).bind _ = _
  unfold PySem.W.clsIn
  rw [ho]
  show (if cd.mro.isEmpty = true then none else some (cd.mro.contains v)) = _
  rw [hm]
  rfl
theorem kit_one (c : XCls K mg x C bm) (d : XCls K mg y D bd) : PySem.W.kitOne K (.ref C) (.ref D) = some ((Value.ref C :: bm).contains (.ref D)) := by
  obtain ⟨dd, cd, sl, ho, hm⟩ := d.look
  unfold PySem.W.kitOne
  split
  · rename_i q
    rw [beq_iff_eq] at q
    rw [q]
    simp
  · unfold PySem.W.kitCls
    have h1 : ((PySem.W.clsIn K D).isSome && PySem.W.typeIn K (.ref D) == some (.type "type")) = true := by
      have e1 : PySem.W.typeIn K (.ref D) = some (.type "type") := by
        show (K.lookup D).map (·.cls) = _
        rw [ho]
        rfl
      have e2 : (PySem.W.clsIn K D).isSome = true := by
        unfold PySem.W.clsIn
        rw [ho]
        rfl
      rw [e1, e2]
      rfl
    show (if ((PySem.W.clsIn K D).isSome && PySem.W.typeIn K (.ref D) == some (.type "type")) = true then PySem.W.subIn K (.ref C) (.ref D) else none) = _
    rw [if_pos h1, kit_sub c]
theorem kit_ve (c : XCls K mg x C bm) (h : bm.contains (.type "ValueError") = true) : PySem.W.kitOne K (.ref C) (.type "ValueError") = some true := by
  unfold PySem.W.kitOne
  rw [if_neg (by simp)]
  unfold PySem.W.kitCls
  show (if PySem.W.kitMeta "ValueError" = true then PySem.W.subIn K (.ref C) (.type "ValueError") else none) = _
  rw [if_pos (by kernel_rfl), kit_sub c, List.contains_cons, h, Bool.or_true]
end
theorem room_h {k : Nat} {A : Around} (r : Room k A) : RoomH k A := ⟨rfl, r.dp, r.un⟩
end XF
set_option Elab.async false
set_option linter.all false
set_option maxRecDepth 100000
set_option maxHeartbeats 400000
namespace L2
open PySem PySem.Spec PyProof.Rows
section
variable {X : Cx}
/-! ### xs.insert(i, x) -/
noncomputable def insAt {α : Type} (xs : List α) (k : Nat) (y : α) : List α := xs.take k ++ y :: xs.drop k
noncomputable def rInsert : V → List V → Hp → VK → Prop := fun x vs H Q => ∃ l xs i y, x = .ref l ∧ vs = [.int i, y] ∧ H l = some (.lst xs) ∧ 0 ≤ i ∧ i.toNat ≤ xs.length ∧ xs.length < sizeLine ∧ Q .non (upd H l (.lst (insAt xs i.toNat y)))
theorem ins_arr (its : List Value) (u : Value) (i : Int) (h0 : 0 ≤ i) (hk : i.toNat ≤ its.length) :
    (have k' := if i < 0 then (i + (its.toArray.size : Int)).toNat else min i.toNat its.toArray.size; (its.toArray.extract 0 k').push u ++ its.toArray.extract k') = (insAt its i.toNat u).toArray := by
  have hm : min i.toNat its.toArray.size = i.toNat := by rw [List.size_toArray]; exact Nat.min_eq_left hk
  rw [if_neg (Int.not_lt.mpr h0), hm]
  show (its.toArray.extract 0 i.toNat).push u ++ its.toArray.extract i.toNat its.toArray.size = _
  rw [List.extract_toArray, List.extract_toArray, List.push_toArray, List.append_toArray, List.size_toArray]
  congr 1
  rw [List.extract_eq_drop_take, List.extract_eq_drop_take, List.drop_zero, Nat.sub_zero, List.append_assoc]
  unfold insAt
  have e : (its.drop i.toNat).take (its.length - i.toNat) = its.drop i.toNat := List.take_of_length_le (by rw [List.length_drop]; exact Nat.le_refl _)
  rw [e]
  rfl
theorem mt_insert : MtM X "list.insert" rInsert := by
  intro pins s σ H x vs v us Q I rx rv h
  obtain ⟨l, xs, i, y, rfl, rfl, hH, h0, hk, hz, q⟩ := h
  cases rx
  obtain ⟨u0, u, rfl, ⟨t, rfl⟩, ru⟩ := rv.two
  obtain ⟨z, its, n, r, hl, e⟩ := I.lstM hH
  have hsl : sizeLine = 16777216 := sizeLine_eq
  have hfit : ¬(!Builtin.List.listFitsIndex i) = true := by
    have := fitsIndex_both (k := i) (by omega) (by omega)
    simpa using this
  have hs : its.toArray.size ≤ sizeLine := by rw [List.size_toArray]; omega
  have hm := AutoSeq1.list_insert_list_int_val_1 l its.toArray n i t u hfit hs
  refine call_meets F.slot_list_insert ⟨_, e, rfl⟩ F.entry_list_insert (F.args_list_insert_3 _ _ _) hm ⟨e, ?_⟩
  refine ⟨.non, _, I.lset (its' := insAt its i.toNat u) hH e (ins_arr its u i h0 (by omega)) (Vals.append (r.take _) (.cons ru (r.drop _))) ?_, rfl, q⟩
  simp only [insAt, List.length_append, List.length_cons, List.length_take, List.length_drop]
  omega
/-! ### max(xs, default=d) -/
noncomputable def best (ns : List Int) (d : Int) : Int := if ns = [] then d else ns.getD (argBest (fun i j => decide (ns.getD i 0 > ns.getD j 0)) (ns.length - 1)) 0
theorem args_maxD (a d : Value) : argsOk "max" ⟨[a], [("default", d)]⟩ := by unfold argsOk; kernel_rfl
section
variable {prog : Program} {w : World} {A : Around} {R : Result → Shared → Prop} {it : Addr} {fp wr : List Addr} {n : Nat} {P : Nat → Value → Prop} {St : Nat → Heap → Prop} {d : Value}
theorem maxD_loop (W : Walks prog w A.in1 it fp wr n P St) (bt : Nat → Nat → Bool) (hcmp : CmpOf prog w A.in1 .Gt P bt) (S : Addr) (hSf : S ∉ fp) :
    ∀ (k j : Nat) (s : Shared) (vb : Value) (c : Nat), n - (j + 1) = k → j + 1 ≤ n → St (j + 1) s.heap → P (argBest bt j) vb →
    s.heap.get? S = some { cls := .type "list", dict := none, data := .seq #[vb, vb] c, slots := #[] } →
    (∀ v h' tk, P (argBest bt (n - 1)) v → (∀ b o, b ∉ wr → b ≠ S → s.heap.get? b = some o → h'.get? b = some o) → R (.ok (.ret v)) { s with heap := h', toks := tk }) →
    codeAny (model prog w) A (.builtin "max.loop" ⟨[.ref it, .none, .ref S], [("default", d)]⟩) R s := by
  have hSw : S ∉ wr := fun h => hSf (W.sub _ h)
  have hname : (toString "max" ++ toString ".loop" : String) = "max.loop" := by decide
  intro k
  induction k with
  | zero =>
    intro j s vb c hk hj hst hPb hS hR
    have hin : j + 1 = n := by omega
    refine codeAny_builtin F.entry_max_loop ?_
    rw [Around.under_plainId F.plain_max_loop _]
    show wpAny _ A.in1 (seqItems? (.ref S) >>= _) _ _ s
    refine wpAny_bind (wpAny_seqItems hS rfl ?_)
    show wpAny _ A.in1 (tryCatch (pyNext (.ref it)) _ >>= _) _ _ s
    refine wpAny_bind (wpAny_tryCatch (W.done s _ _ (hin ▸ hst) fun h' tk hk' => ?_))
    have hS' := hk' S _ hSw hS
    show wpAny _ A.in1 (updateSeq S (fun _ => #[]) >>= _) _ _ _
    refine wpAny_bind ?_
    refine wpAny_updateSeq hS' rfl (wpAny_bind (wpAny_letGo (wpAny_pure ?_)))
    refine hR vb _ tk (by rw [← hin]; exact hPb) fun b o hbw hbS e => (Heap.get?_update_other _ _ (Ne.symm hbS)).trans (hk' b o hbw e)
  | succ k ih =>
    intro j s vb c hk hj hst hPb hS hR
    have hlt : j + 1 < n := by omega
    refine codeAny_builtin F.entry_max_loop ?_
    rw [Around.under_plainId F.plain_max_loop _]
    show wpAny _ A.in1 (seqItems? (.ref S) >>= _) _ _ s
    refine wpAny_bind (wpAny_seqItems hS rfl ?_)
    show wpAny _ A.in1 (tryCatch (pyNext (.ref it)) _ >>= _) _ _ s
    refine wpAny_bind (wpAny_tryCatch (W.item (j + 1) s _ _ hlt hst fun v h' tk hP hst' hk' => ?_))
    have hS' := hk' S _ hSw hS
    show wpAny _ A.in1 (tryCatch (holding [v, v] (richCompare .Gt v vb >>= _)) _ >>= _) _ _ _
    refine wpAny_bind (wpAny_tryCatch (wpAny_holding (wpAny_bind (hcmp (j + 1) (argBest bt j) v vb _ _ _ hP hPb ?_))))
    refine wpAny_bind (wpAny_holding (wpAny_truthy_bool ?_))
    refine wpAny_bind (wpAny_letGo (wpAny_pure ?_))
    cases hb : bt (j + 1) (argBest bt j) with
    | true =>
      simp only [if_true]
      refine wpAny_bind ?_
      refine wpAny_updateSeq hS' rfl (wpAny_bind (wpAny_letGo ?_))
      rw [hname]
      refine wpAny_pure ⟨plainId_quiet F.plain_max_loop _, ih (j + 1) _ v _ (by omega) hlt (W.frame _ _ _ hst' fun b hbf o e => ?_) (by simp only [argBest, hb, if_true]; exact hP) (Heap.get?_update_self _ hS' rfl)
        fun v' h'' tk'' hP' hk'' => ?_⟩
      · exact (Heap.get?_update_other _ _ (fun h : S = b => hSf (by rw [h]; exact hbf))).trans e
      · exact hR v' h'' tk'' hP' fun b o hbw hbS e => hk'' b o hbw hbS ((Heap.get?_update_other _ _ (Ne.symm hbS)).trans (hk' b o hbw e))
    | false =>
      simp only [Bool.false_eq_true, if_false]
      refine wpAny_bind (wpAny_letGo ?_)
      rw [hname]
      refine wpAny_pure ⟨plainId_quiet F.plain_max_loop _, ih (j + 1) _ vb c (by omega) hlt hst' (by simp only [argBest, hb, Bool.false_eq_true, if_false]; exact hPb) hS' fun v' h'' tk'' hP' hk'' => ?_⟩
      exact hR v' h'' tk'' hP' fun b o hbw hbS e => hk'' b o hbw hbS (hk' b o hbw e)
theorem maxD_first (W : Walks prog w A.in1 it fp wr n P St) (bt : Nat → Nat → Bool) (hcmp : CmpOf prog w A.in1 .Gt P bt) (S : Addr) (hSf : S ∉ fp) {s : Shared} {c : Nat} (hst : St 0 s.heap)
    (hS : s.heap.get? S = some { cls := .type "list", dict := none, data := .seq #[] c, slots := #[] })
    (hR : ∀ v h' tk, (0 < n ∧ P (argBest bt (n - 1)) v ∨ n = 0 ∧ v = d) → (∀ b o, b ∉ wr → b ≠ S → s.heap.get? b = some o → h'.get? b = some o) → R (.ok (.ret v)) { s with heap := h', toks := tk }) :
    codeAny (model prog w) A (.builtin "max.loop" ⟨[.ref it, .none, .ref S], [("default", d)]⟩) R s := by
  have hSw : S ∉ wr := fun h => hSf (W.sub _ h)
  have hname : (toString "max" ++ toString ".loop" : String) = "max.loop" := by decide
  refine codeAny_builtin F.entry_max_loop ?_
  rw [Around.under_plainId F.plain_max_loop _]
  show wpAny _ A.in1 (seqItems? (.ref S) >>= _) _ _ s
  refine wpAny_bind (wpAny_seqItems hS rfl ?_)
  show wpAny _ A.in1 (tryCatch (pyNext (.ref it)) _ >>= _) _ _ s
  rcases Nat.eq_zero_or_pos n with h0 | hn
  · refine wpAny_bind (wpAny_tryCatch (W.done s _ _ (h0 ▸ hst) fun h' tk hk' => ?_))
    refine wpAny_bind (wpAny_rule (wpAny_pure ?_))
    exact hR d h' tk (.inr ⟨h0, rfl⟩) fun b o hbw _ e => hk' b o hbw e
  refine wpAny_bind (wpAny_tryCatch (W.item 0 s _ _ hn hst fun v h' tk hP hst' hk' => ?_))
  have hS' := hk' S _ hSw hS
  show wpAny _ A.in1 (updateSeq S (fun _ => #[v, v]) >>= _) _ _ _
  refine wpAny_bind ?_
  refine wpAny_updateSeq hS' rfl ?_
  rw [hname]
  refine wpAny_pure ⟨plainId_quiet F.plain_max_loop _, maxD_loop W bt hcmp S hSf _ 0 _ v _ rfl hn (W.frame _ _ _ hst' fun b hbf o e => ?_) hP (Heap.get?_update_self _ hS' rfl) fun v' h'' tk'' hP' hk'' => ?_⟩
  · exact (Heap.get?_update_other _ _ (fun h : S = b => hSf (by rw [h]; exact hbf))).trans e
  · exact hR v' h'' tk'' (.inl ⟨hn, hP'⟩) fun b o hbw hbS e => hk'' b o hbw hbS ((Heap.get?_update_other _ _ (Ne.symm hbS)).trans (hk' b o hbw e))
theorem call_treeK {E : Value → Shared → Prop} {s : Shared} {id : String} {b : Builtin} {args : List Value} {kw : List (Str × Value)} {Q : Value → Shared → Prop} (hk : builtinKind id = none) (hp : plainId id = true)
    (hb : entryFor table id = some b) (ha : argsOk id ⟨args, kw⟩)
    (hc : wpAny (model prog w) A.in1 (b ⟨args, kw⟩) (fun fin s' => match fin with
      | .done f => (match (Except.ok f : Result) with | .ok (.ret v) => Q v s' | .ok _ => False | .error e => E e s')
      | .again c' => c'.quiet = true ∧ codeAny (model prog w) A c' (fun r s' => match r with | .ok (.ret v) => Q v s' | .ok _ => False | .error e => E e s') s') E s) :
    wpAny (model prog w) A (call (.builtin id) args kw) Q E s := by
  refine wpAny_call (codeAny_call_builtin hp hb ?_)
  simp only [checkBuiltinCall, hk]
  cases hsig : Manifest.signature? id with
  | none => exact wpAny_pure hc
  | some sig =>
    have h2 : Bind.checkArgs id sig ⟨args, kw⟩ = pure () := by simpa only [argsOk, hsig] using ha
    simp only [h2]
    exact wpAny_pure hc
theorem call_maxD_walk {E : Value → Shared → Prop} {s : Shared} {x : Value} {Q : Value → Shared → Prop}
    (h : wpAny (model prog w) A.in1 (pyIter x) (fun i s₂ => ∃ I fp wr n P St bt, i = .ref I ∧ Walks prog w A.in1 I fp wr n P St ∧ St 0 s₂.heap ∧ (∀ b ∈ fp, b < s₂.heap.objs.size) ∧ CmpOf prog w A.in1 .Gt P bt ∧
      ∀ v h' tk, (0 < n ∧ P (argBest bt (n - 1)) v ∨ n = 0 ∧ v = d) → (∀ b o, b ∉ wr → s₂.heap.get? b = some o → h'.get? b = some o) → Q v { s₂ with heap := h', toks := tk }) E s) :
    wpAny (model prog w) A (call (.builtin "max") [x] [("default", d)]) Q E s := by
  have hname : (toString "max" ++ toString ".loop" : String) = "max.loop" := by decide
  refine call_treeK F.kind_max F.plain_max F.entry_max (args_maxD _ _) ?_
  show wpAny _ A.in1 (Builtin.Builtins.bindParams "max" ["key", "default"] 0 ⟨[], [("default", d)]⟩ >>= _) _ _ s
  refine wpAny_bind (wpAny_of_eq (show Builtin.Builtins.bindParams "max" ["key", "default"] 0 ⟨[], [("default", d)]⟩ = pure [none, some d] from rfl) ?_)
  refine wpAny_bind (wpAny_pure ?_)
  refine wpAny_bind (wpAny_mono h (fun i s₂ h₂ => ?_) fun _ _ e => e)
  obtain ⟨I, fp, wr, n, P, St, bt, rfl, W, hst, hfp, hcmp, hQ⟩ := h₂
  refine wpAny_bind (wpAny_newObj_type ?_)
  have hSf : s₂.heap.objs.size ∉ fp := fun hm => Nat.lt_irrefl _ (hfp _ hm)
  rw [hname]
  refine wpAny_pure ⟨plainId_quiet F.plain_max_loop _, maxD_first W bt hcmp s₂.heap.objs.size hSf (W.frame _ _ _ hst fun b _ o e => Heap.get?_push_of_some _ e) (Heap.get?_push_size _ rfl) fun v h' tk hP hk => ?_⟩
  exact hQ v h' tk hP fun b o hbw e => hk b o hbw (Nat.ne_of_lt (Heap.lt_size e)) (Heap.get?_push_of_some _ e)
end
theorem vals_at {ns : List Int} {its : List Value} (r : Vals (ns.map V.int) its) {i : Nat} {v : Value} (h : its.toArray[i]? = some v) : ∃ t, v = .int (ns.getD i 0) t := by
  have h : its[i]? = some v := by simpa using h
  have hl := r.length
  rw [List.length_map] at hl
  have hi : i < its.length := (List.getElem?_eq_some_iff.mp h).1
  obtain ⟨u, hu, ru⟩ := r.get (show (ns.map V.int)[i]? = some (.int (ns.getD i 0)) by
    rw [List.getElem?_map, List.getElem?_eq_getElem (by omega : i < ns.length), List.getD_eq_getElem?_getD, List.getElem?_eq_getElem (by omega : i < ns.length)]; rfl)
  rw [hu] at h
  cases h
  obtain ⟨t, rfl⟩ := ru
  exact ⟨t, rfl⟩
theorem run_maxD (hc : X.calm = true) {pins : List (Addr × Obj)} {s : Shared} {σ : St} {H : Hp} {a : Addr} {ns : List Int} {d : Int} {t : Tok} {Q : VK} (I : Inv X pins σ H s) (hq : SqL X.K H a (ns.map V.int)) (q : Q (.int (best ns d)) H) :
    wpAny (model X.prog X.w) X.A (call (.builtin "max") [.ref a] [("default", .int d t)]) (EP X pins σ Q) X.xe s := by
  obtain ⟨its, rv, pl, hz⟩ := I.list hq
  have hl := rv.length
  rw [List.length_map] at hl
  refine call_maxD_walk ?_
  have hla := pl.isList
  have hlt : a < s.heap.objs.size := by obtain ⟨_, e, _⟩ := hla; exact Heap.lt_size e
  refine wpAny_pyIter_list hla ?_
  refine ⟨_, _, _, _, _, _, _, rfl, Walks.list (A := X.A.in1) (I.ok.hd hc) s.heap.objs.size a (Nat.ne_of_lt hlt) its.toArray, ⟨⟨_, Heap.get?_push_size _ rfl, rfl, rfl⟩, hla.push _⟩, fun b hb => ?_, CmpOf.ints_gt (fun i => ns.getD i 0) (fun _ _ h => vals_at rv h), fun v h' tk hP hk => ?_⟩
  · show b < (s.heap.push _).objs.size
    rw [Heap.size_push]
    rcases List.mem_cons.mp hb with rfl | hb
    · exact Nat.lt_succ_self _
    · rcases List.mem_cons.mp hb with rfl | hb
      · exact Nat.lt_succ_of_lt hlt
      · cases hb
  · have hk' : ∀ b o, s.heap.get? b = some o → h'.get? b = some o := old_kept hk
    refine ⟨_, H, I.kept hk', ?_, q⟩
    rcases hP with ⟨hn, hP⟩ | ⟨hn, rfl⟩
    · obtain ⟨t', rfl⟩ := vals_at rv hP
      have e : its.toArray.size = ns.length := by rw [List.size_toArray, ← hl]
      have hne : ns ≠ [] := by rintro rfl; rw [List.size_toArray, ← hl] at hn; exact absurd hn (Nat.lt_irrefl 0)
      refine ⟨t', ?_⟩
      unfold best
      rw [if_neg hne, e]
    · have e : ns = [] := by
        have : ns.length = 0 := by rw [hl]; simpa using hn
        exact List.length_eq_zero_iff.mp this
      exact ⟨t, by unfold best; rw [if_pos e]⟩
theorem pe_maxD (hc : X.calm = true) {x : Str} {p pos kpos : Pos} {e ek : Expr} {te tk : TE} (hg : Gl X x) (hm : X.mg x = none) (hv : bootBuiltins x = some (.builtin "max")) (he : PE X e te) (hk : PE X ek tk) (hn : x ≠ "__name__" := by decide) (hdb : (x == ("__debug__" : Str)) = false := by decide) (hst : starEach [e] X.env = (false, eval e X.env) :: starEach [] X.env := by rfl) :
    PE X (.Call (.Name x p) [e] [⟨some "default", ek, kpos⟩] pos) (fun σ H Q => tCons te tNil σ H fun vs H1 => tCons tk tNil σ H1 fun us H2 => ∃ a ns d, vs = [.ref a] ∧ us = [.int d] ∧ SqL X.K H2 a (ns.map V.int) ∧ Q (.int (best ns d)) H2) := by
  intro pins s σ H Q I h
  refine wpAny_Call_Name_kw (ld_blt I hg hm hv ?_ hn hdb)
  refine PyProof.Rows.callWith_kw (e := e) (rest := []) (kws := [⟨some "default", ek, kpos⟩]) ?_ (by rw [hst]; rfl) (by rw [hst]; rfl) rfl rfl
  refine thn (pa_cons he pa_nil hst pos pins s σ H _ I h) fun us s1 hq5 => L2.ex5 hq5 fun vs H1 I1 r1 q1 => ?_
  refine thn (pk_cons hk pk_nil pos pins s1 σ H1 _ I1 q1) fun ws s2 hq5 => L2.ex5 hq5 fun zs H2 I2 r2 q2 => ?_
  obtain ⟨a, ns, d, rfl, rfl, hq, q⟩ := q2
  obtain ⟨u, rfl, ru⟩ := r1.one
  obtain ⟨u', rfl, t, rfl⟩ := r2.one
  cases ru
  exact run_maxD hc I2 hq q
/-! ### a list and its like -/
/-- the same: ints, or tuples of the same ints -/
noncomputable def SameV (K : PySem.W.Frag) (H : Hp) (x y : V) : Prop := (∃ i, x = .int i ∧ y = .int i) ∨ ∃ (p q : Addr) (zs : List Int), x = .ref p ∧ y = .ref q ∧ SqT K H p (zs.map V.int) ∧ SqT K H q (zs.map V.int)
noncomputable def rNeL (K : PySem.W.Frag) : R2 := fun x y H Q => ∃ a b xs ys, x = .ref a ∧ y = .ref b ∧ SqL K H a xs ∧ SqL K H b ys ∧ xs.length = ys.length ∧ (∀ (i : Nat) x y, xs[i]? = some x → ys[i]? = some y → SameV K H x y) ∧ Q (.bl false) H
theorem same_eqAt {pins : List (Addr × Obj)} {s : Shared} {σ : St} {H : Hp} {x y : V} {u v : Value} {A : Around} (hu : A.units < cLine) (I : Inv X pins σ H s) (h : SameV X.K H x y) (rx : RelV x u) (ry : RelV y v) : SeqAt.EqAt A s u v true := by
  rcases h with ⟨i, rfl, rfl⟩ | ⟨p, q, zs, rfl, rfl, hp, hq⟩
  · obtain ⟨t, rfl⟩ := rx
    obtain ⟨t', rfl⟩ := ry
    have := SeqAt.EqAt.int_int (A := A) (s := s) i t i t'
    rwa [beq_self_eq_true] at this
  · cases rx
    cases ry
    by_cases hpq : p = q
    · subst hpq
      exact SeqAt.EqAt.same _
    · obtain ⟨i1, r1, p1, _⟩ := I.tuple hp
      obtain ⟨i2, r2, p2, _⟩ := I.tuple hq
      have l1 := r1.length
      have l2 := r2.length
      rw [List.length_map] at l1 l2
      have h := SeqAt.RcAt.tuples (e := fun _ => true) (show s.heap.IsTuple p i1.toArray from p1) (show s.heap.IsTuple q i2.toArray from p2) hu (fun j h1 h2 => by
        have h1 : i1.toArray[j]? = some i1.toArray[j] := Array.getElem?_eq_getElem h1
        have h2 : i2.toArray[j]? = some i2.toArray[j] := Array.getElem?_eq_getElem h2
        obtain ⟨t, e1⟩ := vals_at r1 h1
        obtain ⟨t', e2⟩ := vals_at r2 h2
        rw [e1, e2]
        have := SeqAt.EqAt.int_int (A := A.in1) (s := s) (zs.getD j 0) t (zs.getD j 0) t'
        rwa [beq_self_eq_true] at this)
      have hz : ((List.range (min i1.toArray.size i2.toArray.size)).all (fun _ => true) && i1.toArray.size == i2.toArray.size) = true := by
        rw [List.size_toArray, List.size_toArray, ← l1, ← l2]
        simp
      rw [hz] at h
      exact SeqAt.EqAt.of_refs hpq h
theorem in1_units (A : Around) : A.in1.units = A.units + 1 := rfl
theorem op_neL (hu : X.A.units + 1 < cLine) : OpR X (compareOp .NotEq) (rNeL X.K) := by
  intro pins s σ H x y v u Q I rx ry h
  obtain ⟨a, b, xs, ys, rfl, rfl, ha, hb, hl, hs, q⟩ := h
  cases rx
  cases ry
  obtain ⟨i1, r1, p1, _⟩ := I.list ha
  obtain ⟨i2, r2, p2, _⟩ := I.list hb
  have l1 := r1.length
  have l2 := r2.length
  have h := SeqAt.RcNeAt.lists (A := X.A) (e := fun _ => true) p1.isList p2.isList (by rw [List.size_toArray, List.size_toArray]; omega) (by omega) (fun j h1 h2 => by
    have h1' : j < xs.length := by rw [l1]; simpa using h1
    have h2' : j < ys.length := by rw [l2]; simpa using h2
    obtain ⟨u1, e1, q1⟩ := r1.get (List.getElem?_eq_getElem h1')
    obtain ⟨u2, e2, q2⟩ := r2.get (List.getElem?_eq_getElem h2')
    have g1 : i1.toArray[j] = u1 := by
      have : i1[j]? = some i1.toArray[j] := by simpa using List.getElem?_eq_getElem (l := i1) (by simpa using h1)
      rw [this] at e1; exact Option.some.inj e1
    have g2 : i2.toArray[j] = u2 := by
      have : i2[j]? = some i2.toArray[j] := by simpa using List.getElem?_eq_getElem (l := i2) (by simpa using h2)
      rw [this] at e2; exact Option.some.inj e2
    rw [g1, g2]
    exact same_eqAt (A := X.A.in1) (by rw [in1_units]; exact hu) I (hs j _ _ (List.getElem?_eq_getElem h1') (List.getElem?_eq_getElem h2')) q1 q2)
  have hz : (!(List.range i1.toArray.size).all (fun _ => true)) = false := by simp
  rw [hz] at h
  exact h _ _ _ _ ⟨.bl false, H, I, rfl, q⟩
end
end L2
namespace DL
open PySem PySem.Spec PyProof.Rows L2
section
variable {K : PySem.W.Frag} {Y : XY} {H0 B0 B H : Hp} {σ : L2.St} {τ : SD} {P : List Addr} {F : Addr → Prop} {E : Ends} {X : Cx} {pos : Pos} {e c : Expr} {fe : SD → Res D} {gc : SD → Res Bool}
theorem RepL.insInt {S : Addr → Prop} {y : Int} : ∀ (k : Nat) {xs : List D} {vs : List V} {f : List Addr}, RepL K B S H xs vs f → RepL K B S H (insAt xs k (.int y)) (insAt vs k (.int y)) f
  | 0, xs, vs, f, r => ⟨_, _, [], f, rfl, ⟨rfl, rfl⟩, r, rfl⟩
  | k + 1, [], vs, f, r => by
    obtain ⟨rfl, rfl⟩ := r
    exact ⟨_, _, [], [], rfl, ⟨rfl, rfl⟩, ⟨rfl, rfl⟩, rfl⟩
  | k + 1, d :: ds, vs, f, r => by
    obtain ⟨v, w, f1, f2, rfl, r1, r2, rfl⟩ := r
    exact ⟨v, _, f1, f2, rfl, r1, RepL.insInt k r2, rfl⟩
noncomputable def sIns (i : Nat) (fi fv : SD → Res D) (τ : SD) : Fl := match ownL τ i with
  | some xs => (fi τ).toFl τ fun di => (fv τ).toFl τ fun dv => match di, dv with
    | .int k, .int x => if 0 ≤ k ∧ k.toNat ≤ xs.length ∧ xs.length < 16777216 then .nx (τ.set i (some (.lst .own (insAt xs k.toNat (.int x))))) else .bad
    | _, _ => .bad
  | none => .bad
theorem s_ins (i : Nat) {e2 : Expr} {fv : SD → Res D} {x : Str} {p1 apos cpos : Pos} (he : PE X e (tM X.K Y fe)) (he2 : PE X e2 (tM X.K Y fv)) (hN : X.N[i]? = some x := by rfl) (hv : Vis X.env.scope x := by first | exact Or.inl rfl | exact Or.inr (Or.inl rfl) | exact Or.inr (Or.inr rfl)) (hd : (x == ("__debug__" : Str)) = false := by decide) (hcd : (x == ("__classdict__" : Str)) = false := by decide)
    (hbase : attributeBase (.Name x p1) "insert" X.env (eval (.Name x p1) X.env) = eval (.Name x p1) X.env := by rfl)
    (hfew : ((backTo cpos (starEach [e, e2] X.env)).all (fun x => !x.1) && (backToKw cpos (keywordEach [] X.env)).all (fun x => x.1.isSome)
      && decide ([e, e2].length + ([] : List Keyword).length + (if ([] : List Keyword).isEmpty then 0 else 1) < 30)) = true := by rfl)
    (hline : (apos.endLine == cpos.line) = true := by rfl) (hs : starEach [e, e2] X.env = (false, eval e X.env) :: starEach [e2] X.env := by rfl) (hs2 : starEach [e2] X.env = (false, eval e2 X.env) :: starEach [] X.env := by rfl) (hplain : (backTo cpos (starEach [e2] X.env)).any (·.1) = false := by rfl)
    (hsw : swapsWith (.Call (.Attribute (.Name x p1) "insert" apos) [e, e2] [] cpos) none pos.line X.env = pure false := by rfl) :
    PS X (.Expr (.Call (.Attribute (.Name x p1) "insert" apos) [e, e2] [] cpos) pos) (tMS X.K Y (sIns i fe fv)) := by
  refine PS.imp (ps_expr (pe_bm PySem.F.plainAttrs_list PySem.F.slot_list_insert PySem.F.type_list_insert mt_insert (pe_var hN hv hd hcd) (pa_cons he (pa_cons he2 pa_nil hs2) hs) hbase hfew hline hs hplain) hsw) fun E σ H hq => ex7 hq fun H0 B0 B τ P I h => ?_
  unfold sIns at h
  cases z : ownL τ i with
  | none => rw [z] at h; exact h.elim
  | some xs =>
    rw [z] at h
    have hi := ownL_some z
    obtain ⟨a, vs, ea, ha, hl⟩ := I.listAt hi
    refine ⟨.ref a, ea, .inl ⟨rfl, vs, SqL.of ha⟩, exprS I h fun d v H1 B1 fp _ I1 s1 b1 r1 k1 h1 => exprS I1 h1 fun d2 v2 H2 B2 fp2 _ I2 s2 b2 r2 k2 h2 => ?_⟩
    cases d with
    | int k =>
      cases d2 with
      | int y =>
        simp only at h2
        split at h2
        · rename_i hz
          obtain ⟨z0, z1, z2⟩ := hz
          obtain ⟨rfl, rfl⟩ := r1
          obtain ⟨rfl, rfl⟩ := r2
          have ha2 := s2 a _ (s1 a _ ha)
          refine ⟨a, vs, k, .int y, rfl, rfl, ha2, z0, by rw [← hl]; exact z1, by rw [← hl, sizeLine_eq]; exact z2, ?_⟩
          obtain ⟨P', I'⟩ := I2.mutL (xs' := insAt xs k.toNat (.int y)) (vs' := insAt vs k.toNat (.int y)) (gp := []) hi ea Vok.nil (fun f _ rl => ⟨f, rl.insInt k.toNat, fun b m => .inl m, fun nf _ => nf⟩) ha2
          exact h2 B2 _ σ P' I'
        · exact h2.elim
      | _ => exact h2.elim
    | _ => exact h2.elim
/-- max(xs, default=d) of a list of ints -/
noncomputable def maxDD (x y : D) : Res D := match x, y with
  | .lst _ xs, .int d => (match intsOf xs with | some ns => .ok (.int (best ns d)) | none => .bad)
  | _, _ => .bad
theorem q_maxD (hc : X.calm = true) {x : Str} {p kpos : Pos} {ek : Expr} {fk : SD → Res D} (hg : Gl X x) (hm : X.mg x = none) (hv : bootBuiltins x = some (.builtin "max")) (he : PE X e (tM X.K Y fe)) (hk : PE X ek (tM X.K Y fk)) (hn : x ≠ "__name__" := by decide) (hdb : (x == ("__debug__" : Str)) = false := by decide) (hst : starEach [e] X.env = (false, eval e X.env) :: starEach [] X.env := by rfl) :
    PE X (.Call (.Name x p) [e] [⟨some "default", ek, kpos⟩] pos) (tM X.K Y (eBin maxDD fe fk)) :=
  PE.imp (pe_maxD hc hg hm hv he hk hn hdb hst) fun σ H Q hq => ex8 hq fun H0 B0 B τ P F I h => tM.seq2 I h fun d1 d2 v1 v2 H2 B2 f1 f2 _ _ I2 _ _ r1 r2 k h2 => by
    cases d1 with
    | lst t xs =>
      cases d2 with
      | int d =>
        obtain ⟨rfl, rfl⟩ := r2
        obtain ⟨a, ws, g, rfl, q, l, s⟩ := r1.lst I2
        have h3 : Goal X.K Y H0 B0 B2 H2 σ τ P F Q (match intsOf xs with | some ns => .ok (.int (best ns d)) | none => .bad) := h2
        cases e : intsOf xs with
        | none => rw [e] at h3; exact h3.elim
        | some ns =>
          rw [e] at h3
          have ex := intsOf_eq e
          subst ex
          obtain ⟨rfl, rfl⟩ := repL_ints l
          exact ⟨a, ns, d, rfl, rfl, q, Out.here h3 I2 ⟨rfl, rfl⟩⟩
      | _ => exact h2.elim
    | _ => exact h2.elim
/-- xs != ys of two lists that are the same -/
noncomputable def sameD : D → D → Bool
  | .int a, .int b => a == b
  | .tup xs, .tup ys => (match intsOf xs, intsOf ys with | some a, some b => a == b | _, _ => false)
  | _, _ => false
noncomputable def sameDs : List D → List D → Bool
  | [], [] => true
  | x :: xs, y :: ys => sameD x y && sameDs xs ys
  | _, _ => false
noncomputable def neLD (x y : D) : Res D := match x, y with
  | .lst _ xs, .lst _ ys => if sameDs xs ys = true then .ok (.bl false) else .bad
  | _, _ => .bad
theorem sameD_ok {S : Addr → Prop} {x y : D} {v u : V} {f g : List Addr} (h : sameD x y = true) (r1 : Rep K B S H x v f) (r2 : Rep K B S H y u g) : SameV K H v u := by
  cases x with
  | int a =>
    cases y with
    | int b =>
      have e : a = b := by simpa [sameD] using h
      subst e
      obtain ⟨rfl, rfl⟩ := r1
      obtain ⟨rfl, rfl⟩ := r2
      exact .inl ⟨a, rfl, rfl⟩
    | _ => cases h
  | tup xs =>
    cases y with
    | tup ys =>
      have h : (match intsOf xs, intsOf ys with | some a, some b => a == b | _, _ => false) = true := h
      cases e1 : intsOf xs with
      | none => rw [e1] at h; cases h
      | some a =>
        cases e2 : intsOf ys with
        | none => rw [e1, e2] at h; cases h
        | some b =>
          rw [e1, e2] at h
          have e : a = b := by simpa using h
          subst e
          obtain ⟨p, vs, rfl, hp, rl⟩ := r1
          obtain ⟨q, ws, rfl, hq, rm⟩ := r2
          rw [intsOf_eq e1] at rl
          rw [intsOf_eq e2] at rm
          obtain ⟨rfl, rfl⟩ := repL_ints rl
          obtain ⟨rfl, rfl⟩ := repL_ints rm
          exact .inr ⟨p, q, a, rfl, rfl, SqT.of hp, SqT.of hq⟩
    | _ => cases h
  | _ => cases h
theorem sameDs_ok {S : Addr → Prop} : ∀ {xs ys : List D} {vs us : List V} {f g : List Addr}, sameDs xs ys = true → RepL K B S H xs vs f → RepL K B S H ys us g → vs.length = us.length ∧ ∀ (i : Nat) x y, vs[i]? = some x → us[i]? = some y → SameV K H x y
  | [], [], vs, us, f, g, h, r1, r2 => by
    obtain ⟨rfl, rfl⟩ := r1
    obtain ⟨rfl, rfl⟩ := r2
    exact ⟨rfl, fun i x y e => by simp at e⟩
  | x :: xs, y :: ys, vs, us, f, g, h, r1, r2 => by
    obtain ⟨v, w, f1, f2, rfl, a1, a2, rfl⟩ := r1
    obtain ⟨v', w', g1, g2, rfl, b1, b2, rfl⟩ := r2
    obtain ⟨h1, h2⟩ := Bool.and_eq_true_iff.mp h
    obtain ⟨l, k⟩ := sameDs_ok h2 a2 b2
    refine ⟨by rw [List.length_cons, List.length_cons, l], fun i x y e1 e2 => ?_⟩
    cases i with
    | zero =>
      have e1 : v = x := by simpa using e1
      have e2 : v' = y := by simpa using e2
      subst e1 e2
      exact sameD_ok h1 a1 b1
    | succ i => exact k i x y (by simpa using e1) (by simpa using e2)
  | [], _ :: _, _, _, _, _, h, _, _ => by cases h
  | _ :: _, [], _, _, _, _, h, _, _ => by cases h
theorem d_neL : OpD K Y (rNeL K) neLD := by
  intro H0 B0 B H σ τ P F d1 d2 x y f1 f2 Q I r1 r2 k h
  cases d1 with
  | lst t xs =>
    cases d2 with
    | lst t' ys =>
      unfold neLD at h
      simp only at h
      split at h
      · rename_i hs
        obtain ⟨a, vs, g, rfl, q, l, s⟩ := r1.lst I
        obtain ⟨b, us, g', rfl, q', l', s'⟩ := r2.lst I
        obtain ⟨hl, hk⟩ := sameDs_ok hs l l'
        exact ⟨a, b, vs, us, rfl, rfl, q, q', hl, hk, Out.here h I ⟨rfl, rfl⟩⟩
      · exact h.elim
    | _ => exact h.elim
  | _ => exact h.elim
end
end DL
set_option Elab.async false
set_option linter.all false
set_option maxRecDepth 100000
set_option maxHeartbeats 4000000
namespace KL
open PySem PySem.Spec PyProof.Rows L2 DL XF
noncomputable def top (i : Nat) : Stmt := PySem.Challenge.pw_modulewood_k02_nets_refused.main.body.getD i (.Pass ⟨0, 0, 0, 0⟩)
structure Txt (K : PySem.W.Frag) (mg : Str → Option Value) (ca : Str → Addr) : Prop where
  b_ValueError : mg "ValueError" = none
  b_bool : mg "bool" = none
  b_enumerate : mg "enumerate" = none
  b_int : mg "int" = none
  b_isinstance : mg "isinstance" = none
  b_len : mg "len" = none
  b_list : mg "list" = none
  b_max : mg "max" = none
  b_range : mg "range" = none
  b_set : mg "set" = none
  b_sorted : mg "sorted" = none
  b_str : mg "str" = none
  b_tuple : mg "tuple" = none
  g_MOST_PLACES : ∃ t, mg "MOST_PLACES" = some (.int 24 t)
  x_NetError : XCls K mg "NetError" (ca "NetError") veM
  x_NoNet : XCls K mg "NoNet" (ca "NoNet") (.ref (ca "NetError") :: veM)
  k_NoNet : XKit K (ca "NoNet")
  x_NoPlace : XCls K mg "NoPlace" (ca "NoPlace") (.ref (ca "NetError") :: veM)
  k_NoPlace : XKit K (ca "NoPlace")
  x_SamePlace : XCls K mg "SamePlace" (ca "SamePlace") (.ref (ca "NetError") :: veM)
  k_SamePlace : XKit K (ca "SamePlace")
  x_Twice : XCls K mg "Twice" (ca "Twice") (.ref (ca "NetError") :: veM)
  k_Twice : XKit K (ca "Twice")
  x_Taken : XCls K mg "Taken" (ca "Taken") (.ref (ca "NetError") :: veM)
  x_NoColours : XCls K mg "NoColours" (ca "NoColours") (.ref (ca "NetError") :: veM)
  x_NoSet : XCls K mg "NoSet" (ca "NoSet") (.ref (ca "NetError") :: veM)
  x_NoParting : XCls K mg "NoParting" (ca "NoParting") (.ref (ca "NetError") :: veM)
  x_NoGroup : XCls K mg "NoGroup" (ca "NoGroup") (.ref (ca "NetError") :: veM)
  x_TooMany : XCls K mg "TooMany" (ca "TooMany") (.ref (ca "NetError") :: veM)
  x_NoDeed : XCls K mg "NoDeed" (ca "NoDeed") (.ref (ca "NetError") :: veM)
  x_Unlike : XCls K mg "Unlike" (ca "Unlike") (.ref (ca "NetError") :: veM)
  x_NoText : XCls K mg "NoText" (ca "NoText") (.ref (ca "NetError") :: veM)
  x_NoRow : XCls K mg "NoRow" (ca "NoRow") (.ref (ca "NetError") :: veM)
  x_NoName : XCls K mg "NoName" (ca "NoName") (.ref (ca "NetError") :: veM)
noncomputable def leaf (ca : Str → Addr) : List Addr := [ca "NoNet", ca "NoPlace", ca "SamePlace", ca "Twice"]
noncomputable def isX (ca : Str → Addr) (x : Str) (C : Addr) : Bool := (Value.ref C :: .ref (ca "NetError") :: veM).contains (.ref (ca x))
noncomputable def isXs (ca : Str → Addr) (xs : List Str) (C : Addr) : Bool := xs.any fun x => isX ca x C
noncomputable def inC (ca : Str → Addr) (C : Addr) : Bool := (leaf ca).contains C
section
variable {K : PySem.W.Frag} {mg : Str → Option Value} {ca : Str → Addr}
theorem leafT (T : Txt K mg ca) : ∀ C, (leaf ca).contains C = true → ∃ x, XCls K mg x C (.ref (ca "NetError") :: veM) ∧ XKit K C := by
  intro C h
  unfold leaf at h
  simp only [List.contains_cons, List.contains_nil, Bool.or_false, Bool.or_eq_true, beq_iff_eq] at h
  rcases h with rfl | rfl | rfl | rfl
  · exact ⟨_, T.x_NoNet, T.k_NoNet⟩
  · exact ⟨_, T.x_NoPlace, T.k_NoPlace⟩
  · exact ⟨_, T.x_SamePlace, T.k_SamePlace⟩
  · exact ⟨_, T.x_Twice, T.k_Twice⟩
theorem hin (T : Txt K mg ca) : ∀ C, inC ca C = true → ∃ nm bm, XCls K mg nm C bm ∧ (Value.ref C :: bm).contains (.ref (ca "NetError")) = true := fun C h => by
  obtain ⟨x, c, _⟩ := leafT T C h
  exact ⟨x, _, c, by simp⟩
theorem hlX (T : Txt K mg ca) {y : Str} {D : Addr} {bd : List Value} (d : XCls K mg y D bd) : ∀ C, (leaf ca).contains C = true → XKit K C ∧ PySem.W.kitOne K (.ref C) (.ref D) = some ((Value.ref C :: .ref (ca "NetError") :: veM).contains (.ref D)) := fun C h => by
  obtain ⟨x, c, k⟩ := leafT T C h
  exact ⟨k, kit_one c d⟩
theorem hlV (T : Txt K mg ca) : ∀ C, (leaf ca).contains C = true → XKit K C ∧ PySem.W.kitOne K (.ref C) (.type "ValueError") = some true := fun C h => by
  obtain ⟨x, c, k⟩ := leafT T C h
  exact ⟨k, kit_ve c (by simp [veM])⟩
theorem hlT (T : Txt K mg ca) (xs : List Str) (hx : ∀ x ∈ xs, ∃ bd, XCls K mg x (ca x) bd) : ∀ C, (leaf ca).contains C = true → XKit K C ∧ PySem.W.kitAny K (.ref C) ((xs.map ca).map Value.ref) = some (isXs ca xs C) := fun C h => by
  obtain ⟨x, c, k⟩ := leafT T C h
  refine ⟨k, ?_⟩
  induction xs with
  | nil => rfl
  | cons y r ih =>
    obtain ⟨bd, d⟩ := hx y List.mem_cons_self
    have ih := ih fun z hz => hx z (List.mem_cons_of_mem _ hz)
    have e := kit_one c d
    show (match PySem.W.kitOne K (.ref C) (.ref (ca y)) with | some true => some true | some false => PySem.W.kitAny K (.ref C) ((r.map ca).map Value.ref) | none => none) = some (isX ca y C || isXs ca r C)
    rw [e]
    cases q : (Value.ref C :: .ref (ca "NetError") :: veM).contains (.ref (ca y)) with
    | true => show some true = some (isX ca y C || isXs ca r C); rw [show isX ca y C = true from q, Bool.true_or]
    | false => show PySem.W.kitAny K (.ref C) ((r.map ca).map Value.ref) = some (isX ca y C || isXs ca r C); rw [show isX ca y C = false from q, Bool.false_or, ih]
end
section
variable {P : Program} {w : World} {K : PySem.W.Frag} {mg : Str → Option Value} {base : Heap} {ca : Str → Addr}
noncomputable abbrev s_require_place : Stmt := top 18
theorem sc_require_place : FnScope ["places", "place"] ["places", "place"] (defScope s_require_place) := ⟨rfl, rfl, rfl, by decide +kernel, rfl, by decide +kernel, by decide +kernel⟩
noncomputable def g_require_place (ca : Str → Addr) : SF := sIf (eT (eBin (inD true) (eVar 1) (eVar 0))) (sRaise (ca "NoPlace")) sNext
noncomputable def G_require_place (ca : Str → Addr) : DF := runF 2 2 (g_require_place ca)
theorem ok_require_place (T : Txt K mg ca)  (F : Dfn K mg "require_place" s_require_place ["places", "place"]) : CalX P w K mg base 1 "require_place" ["places", "place"] (spX K (G_require_place ca)) := cal_ofX (k := 0) (n := 2) (m := 2) (g := g_require_place ca) F sc_require_place rfl rfl fun f cdv A outer s H E hr hx => by
  have hu := hu_of hr
  exact ss_one (s_if (qt_cmp op_notIn_seq (d_in true) (qv 1) (qv 0) (by with_unfolding_all rfl))
        (ss_one (s_raise hx T.x_NoPlace rfl rfl))
        (ss_nil))
noncomputable abbrev s_require_two : Stmt := top 19
theorem sc_require_two : FnScope ["places", "one", "other"] ["places", "one", "other"] (defScope s_require_two) := ⟨rfl, rfl, rfl, by decide +kernel, rfl, by decide +kernel, by decide +kernel⟩
noncomputable def g_require_two (ca : Str → Addr) : SF := sSeq (sExpr (eCallX (G_require_place ca) (aCons (eVar 0) (aCons (eVar 1) aNil)))) (sSeq (sExpr (eCallX (G_require_place ca) (aCons (eVar 0) (aCons (eVar 2) aNil)))) (sIf (eT (eBin eqD (eVar 1) (eVar 2))) (sRaise (ca "SamePlace")) sNext))
noncomputable def G_require_two (ca : Str → Addr) : DF := runF 3 3 (g_require_two ca)
theorem ok_require_two (T : Txt K mg ca) (C_require_place : CalX P w K mg base 1 "require_place" ["places", "place"] (spX K (G_require_place ca))) (F : Dfn K mg "require_two" s_require_two ["places", "one", "other"]) : CalX P w K mg base 2 "require_two" ["places", "one", "other"] (spX K (G_require_two ca)) := cal_ofX (k := 1) (n := 3) (m := 3) (g := g_require_two ca) F sc_require_two rfl rfl fun f cdv A outer s H E hr hx => by
  have hu := hu_of hr
  exact ss_cons (s_expr (q_calX hx C_require_place (hr.mono (by decide)) rfl (qa_cons (qv 0) (qa_cons (qv 1) qa_nil))))
        (ss_cons (s_expr (q_calX hx C_require_place (hr.mono (by decide)) rfl (qa_cons (qv 0) (qa_cons (qv 2) qa_nil))))
        (ss_one (s_if (qt_cmp op_eq d_eq (qv 1) (qv 2) (nomark _))
        (ss_one (s_raise hx T.x_SamePlace rfl rfl))
        (ss_nil))))
noncomputable abbrev s_pair : Stmt := top 22
theorem sc_pair : FnScope ["one", "other"] ["one", "other"] (defScope s_pair) := ⟨rfl, rfl, rfl, by decide +kernel, rfl, by decide +kernel, by decide +kernel⟩
noncomputable def g_pair : SF := sRet (eIf (eT (eBin gtD (eVar 0) (eVar 1))) (eA tupD (aCons (eVar 0) (aCons (eVar 1) aNil))) (eA tupD (aCons (eVar 1) (aCons (eVar 0) aNil))))
noncomputable def G_pair : DF := runF 2 2 (g_pair)
theorem ok_pair (T : Txt K mg ca)  (F : Dfn K mg "pair" s_pair ["one", "other"]) : Cal P w K mg base 1 "pair" ["one", "other"] (spF K (G_pair)) := cal_of2 (k := 0) (n := 2) (m := 2) (g := g_pair) F sc_pair rfl rfl fun f cdv A outer s H hr => by
  have hu := hu_of hr
  exact ss_one (s_ret (q_if (qt_cmp op_gt d_gt (qv 0) (qv 1) (nomark _)) (q_tup (qa_cons (qv 0) (qa_cons (qv 1) qa_nil))) (q_tup (qa_cons (qv 1) (qa_cons (qv 0) qa_nil)))))
noncomputable abbrev s_net_with : Stmt := top 23
theorem sc_net_with : FnScope ["places", "colours", "rising", "rows", "i", "place"] ["places", "colours"] (defScope s_net_with) := ⟨rfl, rfl, rfl, by decide +kernel, rfl, by decide +kernel, by decide +kernel⟩
noncomputable def g_net_with_e1 : SD → Res D := eGet2 (eVar 1) (eCall G_pair (aCons (eVar 2) (aCons (eVar 0) aNil))) (eC (.int 0))
noncomputable def g_net_with_b2 : SF := sApp 3 (eA tupleD (aCons (eComp (eIt (eCut (eVar 2) eP0 (eP (eVar 4)))) (gN 0) bTrue g_net_with_e1 1 [("colours", 1), ("place", 5)]) aNil))
noncomputable def g_net_with : SF := sSeq (sSet 2 (eA sortedD (aCons (eVar 0) aNil))) (sSeq (sSet 3 (eA lstD aNil)) (sSeq (sFor [2] (eEnum (aCons (eVar 2) aNil)) (gT 2 (gsCons 4 (gsCons 5 gsNil))) g_net_with_b2) (sRet (eA tupD (aCons (eA tupleD (aCons (eVar 2) aNil)) (aCons (eA tupleD (aCons (eVar 3) aNil)) aNil))))))
noncomputable def G_net_with : DF := runF 2 6 (g_net_with)
theorem ok_net_with (T : Txt K mg ca) (C_pair : Cal P w K mg base 1 "pair" ["one", "other"] (spF K G_pair)) (F : Dfn K mg "net_with" s_net_with ["places", "colours"]) : Cal P w K mg base 2 "net_with" ["places", "colours"] (spF K (G_net_with)) := cal_of2 (k := 1) (n := 2) (m := 6) (g := g_net_with) F sc_net_with rfl rfl fun f cdv A outer s H hr => by
  have hu := hu_of hr
  exact ss_cons (s_set (i := 2) sc_net_with.nd rfl (by first | exact Or.inl rfl | exact Or.inr rfl) (q_callB call_sorted d_sorted rfl T.b_sorted (by decide +kernel) (qa_cons (qv 0) qa_nil)))
        (ss_cons (s_set (i := 3) sc_net_with.nd rfl (by first | exact Or.inl rfl | exact Or.inr rfl) (q_lst qa_nil))
        (ss_cons (s_for [2] PassesOwn.never rfl (qi_enum rfl T.b_enumerate (qa_cons (qv 2) qa_nil)) (g_tup rfl (gs_cons (i := 4) sc_net_with.nd rfl (by first | exact Or.inl rfl | exact Or.inr rfl) (gs_cons (i := 5) sc_net_with.nd rfl (by first | exact Or.inl rfl | exact Or.inr rfl) gs_nil)))
        (ss_one (s_app 3 (q_callTy call_tuple_of d_tuple rfl T.b_tuple (by decide +kernel) (qa_cons (q_comp (own := ["ahead"]) (cap := [("colours", 1), ("place", 5)]) (compOk_mk _ rfl _ rfl (by kernel_rfl)) rfl (qi_seq (q_slice (qv 2) qo_none (qo_some (qv 4)))) ⟨fun _ _ _ _ _ => g_name (i := 0) (show (["ahead", "colours", "place"] : List Str).Nodup by decide +kernel) rfl (by first | exact Or.inl rfl | exact Or.inr rfl), fun _ _ _ _ _ => qif_nil, fun _ _ _ _ _ => q_dget2 hu (qv 1) (q_cal C_pair (hr.mono (by decide)) rfl (qa_cons (qv 2) (qa_cons (qv 0) qa_nil))) q_int ⟨rfl, rfl, rfl, rfl⟩⟩) qa_nil)))))
        (ss_one (s_ret (q_tup (qa_cons (q_callTy call_tuple_of d_tuple rfl T.b_tuple (by decide +kernel) (qa_cons (qv 2) qa_nil)) (qa_cons (q_callTy call_tuple_of d_tuple rfl T.b_tuple (by decide +kernel) (qa_cons (qv 3) qa_nil)) qa_nil)))))))
noncomputable abbrev s_net_from : Stmt := top 24
theorem sc_net_from : FnScope ["places", "ties", "colours", "one", "other", "tint", "ends"] ["places", "ties"] (defScope s_net_from) := ⟨rfl, rfl, rfl, by decide +kernel, rfl, by decide +kernel, by decide +kernel⟩
noncomputable def g_net_from_b1 (ca : Str → Addr) : SF := sSeq (sExpr (eCallX (G_require_two ca) (aCons (eVar 0) (aCons (eVar 3) (aCons (eVar 4) aNil))))) (sSeq (sSet 6 (eCall G_pair (aCons (eVar 3) (aCons (eVar 4) aNil)))) (sSeq (sIf (eT (eBin (dinD false) (eVar 6) (eVar 2))) (sRaise (ca "Twice")) sNext) (sDput 2 (eVar 6) (eVar 5))))
noncomputable def g_net_from (ca : Str → Addr) : SF := sSeq (sIf (bOr (eT (eBin eqD (eA lenD (aCons (eVar 0) aNil)) (eC (.int 0)))) (eT (eBin gtD (eA lenD (aCons (eVar 0) aNil)) (eC (.int 24))))) (sRaise (ca "NoNet")) sNext) (sSeq (sIf (eT (eBin neD (eUn lenSetD (eVar 0)) (eA lenD (aCons (eVar 0) aNil)))) (sRaise (ca "NoNet")) sNext) (sSeq (sSet 2 (eDict true)) (sSeq (sFor [1] (eIt (eVar 1)) (gT 3 (gsCons 3 (gsCons 4 (gsCons 5 gsNil)))) ((g_net_from_b1 ca))) (sRet (eCall G_net_with (aCons (eVar 0) (aCons (eVar 2) aNil)))))))
noncomputable def G_net_from (ca : Str → Addr) : DF := runF 2 7 (g_net_from ca)
theorem ok_net_from (T : Txt K mg ca) (C_require_two : CalX P w K mg base 2 "require_two" ["places", "one", "other"] (spX K (G_require_two ca))) (C_pair : Cal P w K mg base 1 "pair" ["one", "other"] (spF K G_pair)) (C_net_with : Cal P w K mg base 2 "net_with" ["places", "colours"] (spF K G_net_with)) (F : Dfn K mg "net_from" s_net_from ["places", "ties"]) : CalX P w K mg base 3 "net_from" ["places", "ties"] (spX K (G_net_from ca)) := cal_ofX (k := 2) (n := 2) (m := 7) (g := g_net_from ca) F sc_net_from rfl rfl fun f cdv A outer s H E hr hx => by
  have hu := hu_of hr
  exact ss_cons (s_if (L2.PW.pt (qw_or (qt_cmp op_eq d_eq (q_callB call_lenA d_len rfl T.b_len PySem.boot_len (qa_cons (qv 0) qa_nil)) q_int (nomark _)) (qw_or1 (qt_cmp op_gt d_gt (q_callB call_lenA d_len rfl T.b_len PySem.boot_len (qa_cons (qv 0) qa_nil)) (q_gint rfl T.g_MOST_PLACES) (nomark _)))))
        (ss_one (s_raise hx T.x_NoNet rfl rfl))
        (ss_nil))
        (ss_cons (s_if (qt_cmp op_ne d_ne (q_lenSet rfl T.b_len rfl T.b_set rfl (qv 0)) (q_callB call_lenA d_len rfl T.b_len PySem.boot_len (qa_cons (qv 0) qa_nil)) (nomark _))
        (ss_one (s_raise hx T.x_NoNet rfl rfl))
        (ss_nil))
        (ss_cons (s_set (i := 2) sc_net_from.nd rfl (by first | exact Or.inl rfl | exact Or.inr rfl) q_dictT)
        (ss_cons (s_for [1] PassesOwn.leaving rfl (qi_seq (qv 1)) (g_tup rfl (gs_cons (i := 3) sc_net_from.nd rfl (by first | exact Or.inl rfl | exact Or.inr rfl) (gs_cons (i := 4) sc_net_from.nd rfl (by first | exact Or.inl rfl | exact Or.inr rfl) (gs_cons (i := 5) sc_net_from.nd rfl (by first | exact Or.inl rfl | exact Or.inr rfl) gs_nil))))
        (ss_cons (s_expr (q_calX hx C_require_two (hr.mono (by decide)) rfl (qa_cons (qv 0) (qa_cons (qv 3) (qa_cons (qv 4) qa_nil)))))
        (ss_cons (s_set (i := 6) sc_net_from.nd rfl (by first | exact Or.inl rfl | exact Or.inr rfl) (q_cal C_pair (hr.mono (by decide)) rfl (qa_cons (qv 3) (qa_cons (qv 4) qa_nil))))
        (ss_cons (s_if (qt_din hu (qv 6) (qv 2))
        (ss_one (s_raise hx T.x_Twice rfl rfl))
        (ss_nil))
        (ss_one (s_dput 2 hu (qv 6) (qv 5)))))))
        (ss_one (s_ret (q_cal C_net_with (hr.mono (by decide)) rfl (qa_cons (qv 0) (qa_cons (qv 2) qa_nil))))))))
noncomputable abbrev s__law_cell : Stmt := top 26
theorem sc__law_cell : FnScope ["_law_script", "_law_k"] ["_law_script", "_law_k"] (defScope s__law_cell) := ⟨rfl, rfl, rfl, by decide +kernel, rfl, by decide +kernel, by decide +kernel⟩
noncomputable def g__law_cell : SF := sSeq (sIf (eT (eBin ltD (eVar 1) (eA lenD (aCons (eVar 0) aNil)))) (sRet (eBin ixD (eVar 0) (eVar 1))) sNext) (sRet (eC (.int 0)))
noncomputable def G__law_cell : DF := runF 2 2 (g__law_cell)
theorem ok__law_cell (T : Txt K mg ca)  (F : Dfn K mg "_law_cell" s__law_cell ["_law_script", "_law_k"]) : Cal P w K mg base 1 "_law_cell" ["_law_script", "_law_k"] (spF K (G__law_cell)) := cal_of2 (k := 0) (n := 2) (m := 2) (g := g__law_cell) F sc__law_cell rfl rfl fun f cdv A outer s H hr => by
  have hu := hu_of hr
  exact ss_cons (s_if (qt_cmp op_lt d_lt (qv 1) (q_callB call_lenA d_len rfl T.b_len PySem.boot_len (qa_cons (qv 0) qa_nil)) (nomark _))
        (ss_one (s_ret (q_ix ix_seq d_ix (qv 0) (qv 1) (fun _ _ => rfl))))
        (ss_nil))
        (ss_one (s_ret q_int))
noncomputable abbrev s__law_like : Stmt := top 27
theorem sc__law_like : FnScope ["_law_found", "_law_due_here", "_law_k"] ["_law_found", "_law_due_here"] (defScope s__law_like) := ⟨rfl, rfl, rfl, by decide +kernel, rfl, by decide +kernel, by decide +kernel⟩
noncomputable def g__law_like_b1 (R__law_like : DF) : SF := sIf (bNot (eT (eCall R__law_like (aCons (eBin ixD (eVar 0) (eVar 2)) (aCons (eBin ixD (eVar 1) (eVar 2)) aNil))))) (sRet (eC (.bl false))) sNext
noncomputable def g__law_like (R__law_like : DF) : SF := sSeq (sIf (eT (eBin (isND false) (eVar 1) (eC .non))) (sRet (eBin (isND false) (eVar 0) (eC .non))) sNext) (sSeq (sIf (eT (eUn (instD isB) (eVar 1))) (sRet (eAnd (eUn (instD isB) (eVar 0)) (eBin eqD (eVar 0) (eVar 1)))) sNext) (sSeq (sIf (eT (eUn (instD isI) (eVar 1))) (sRet (eAnd (eUn (instD isI) (eVar 0)) (eAnd (eNot (eUn (instD isB) (eVar 0))) (eBin eqD (eVar 0) (eVar 1))))) sNext) (sSeq (sIf (eT (eUn (instD isS) (eVar 1))) (sRet (eAnd (eUn (instD isS) (eVar 0)) (eBin eqD (eVar 0) (eVar 1)))) sNext) (sSeq (sIf (bAnd (eT (eUn (instD isL) (eVar 1))) (bNot (eT (eUn (instD isL) (eVar 0))))) (sRet (eC (.bl false))) sNext) (sSeq (sIf (bAnd (eT (eUn (instD isTp) (eVar 1))) (bNot (eT (eUn (instD isTp) (eVar 0))))) (sRet (eC (.bl false))) sNext) (sSeq (sIf (eT (eBin neD (eA lenD (aCons (eVar 0) aNil)) (eA lenD (aCons (eVar 1) aNil)))) (sRet (eC (.bl false))) sNext) (sSeq (sFor [] (eRng1 (aCons (eA lenD (aCons (eVar 1) aNil)) aNil)) (gN 2) ((g__law_like_b1 R__law_like))) (sRet (eC (.bl true))))))))))
noncomputable def G__law_like : Nat → DF
  | 0 => fun _ => .bad
  | n + 1 => runF 2 3 (g__law_like (G__law_like n))
theorem ok__law_like (T : Txt K mg ca)  (F : Dfn K mg "_law_like" s__law_like ["_law_found", "_law_due_here"]) : ∀ n : Nat, Cal P w K mg base (n + 1) "_law_like" ["_law_found", "_law_due_here"] (spF K (G__law_like n))
  | 0 => cal_bad F
  | n + 1 => cal_of2 (k := n + 1) (n := 2) (m := 3) (g := g__law_like (G__law_like n)) F sc__law_like rfl rfl fun f cdv A outer s H hr => by
    have C__law_like := ok__law_like T  F n
    have hu := hu_of hr
    exact ss_cons (s_if (qt_cmp op_isN d_isN (qv 1) q_non (nomark _))
        (ss_one (s_ret (q_cmp op_isN d_isN (qv 0) q_non (nomark _))))
        (ss_nil))
        (ss_cons (s_if (qt_val (q_inst (ty := .Name "bool" ⟨0, 0, 0, 0⟩) inst_bool rfl T.b_isinstance (qv 1) rfl T.b_bool (by decide +kernel)))
        (ss_one (s_ret (q_and (q_inst (ty := .Name "bool" ⟨0, 0, 0, 0⟩) inst_bool rfl T.b_isinstance (qv 0) rfl T.b_bool (by decide +kernel)) (q_one (q_cmp op_eq d_eq (qv 0) (qv 1) (nomark _))))))
        (ss_nil))
        (ss_cons (s_if (qt_val (q_inst (ty := .Name "int" ⟨0, 0, 0, 0⟩) inst_int rfl T.b_isinstance (qv 1) rfl T.b_int (by decide +kernel)))
        (ss_one (s_ret (q_and (q_inst (ty := .Name "int" ⟨0, 0, 0, 0⟩) inst_int rfl T.b_isinstance (qv 0) rfl T.b_int (by decide +kernel)) (q_and (q_not (q_inst (ty := .Name "bool" ⟨0, 0, 0, 0⟩) inst_bool rfl T.b_isinstance (qv 0) rfl T.b_bool (by decide +kernel))) (q_one (q_cmp op_eq d_eq (qv 0) (qv 1) (nomark _)))))))
        (ss_nil))
        (ss_cons (s_if (qt_val (q_inst (ty := .Name "str" ⟨0, 0, 0, 0⟩) inst_str rfl T.b_isinstance (qv 1) rfl T.b_str (by decide +kernel)))
        (ss_one (s_ret (q_and (q_inst (ty := .Name "str" ⟨0, 0, 0, 0⟩) inst_str rfl T.b_isinstance (qv 0) rfl T.b_str (by decide +kernel)) (q_one (q_cmp op_eq d_eq (qv 0) (qv 1) (nomark _))))))
        (ss_nil))
        (ss_cons (s_if (L2.PW.pt (qw_and (qt_val (q_inst (ty := .Name "list" ⟨0, 0, 0, 0⟩) inst_list rfl T.b_isinstance (qv 1) rfl T.b_list (by decide +kernel))) (qw_and1 (qt_not (qt_val (q_inst (ty := .Name "list" ⟨0, 0, 0, 0⟩) inst_list rfl T.b_isinstance (qv 0) rfl T.b_list (by decide +kernel)))))))
        (ss_one (s_ret q_bl))
        (ss_nil))
        (ss_cons (s_if (L2.PW.pt (qw_and (qt_val (q_inst (ty := .Name "tuple" ⟨0, 0, 0, 0⟩) inst_tuple rfl T.b_isinstance (qv 1) rfl T.b_tuple (by decide +kernel))) (qw_and1 (qt_not (qt_val (q_inst (ty := .Name "tuple" ⟨0, 0, 0, 0⟩) inst_tuple rfl T.b_isinstance (qv 0) rfl T.b_tuple (by decide +kernel)))))))
        (ss_one (s_ret q_bl))
        (ss_nil))
        (ss_cons (s_if (qt_cmp op_ne d_ne (q_callB call_lenA d_len rfl T.b_len PySem.boot_len (qa_cons (qv 0) qa_nil)) (q_callB call_lenA d_len rfl T.b_len PySem.boot_len (qa_cons (qv 1) qa_nil)) (nomark _))
        (ss_one (s_ret q_bl))
        (ss_nil))
        (ss_cons (s_for [] PassesOwn.never rfl (qi_range1 rfl T.b_range (qa_cons (q_callB call_lenA d_len rfl T.b_len PySem.boot_len (qa_cons (qv 1) qa_nil)) qa_nil)) (g_name (i := 2) sc__law_like.nd rfl (by first | exact Or.inl rfl | exact Or.inr rfl))
        (ss_one (s_if (qt_not (qt_val (q_cal C__law_like (hr.mono (by omega)) rfl (qa_cons (q_ix ix_seq d_ix (qv 0) (qv 2) (fun _ _ => rfl)) (qa_cons (q_ix ix_seq d_ix (qv 1) (qv 2) (fun _ _ => rfl)) qa_nil)))))
        (ss_one (s_ret q_bl))
        (ss_nil))))
        (ss_one (s_ret q_bl)))))))))
noncomputable abbrev s__law_many : Stmt := top 28
theorem sc__law_many : FnScope ["_law_cell_here"] ["_law_cell_here"] (defScope s__law_many) := ⟨rfl, rfl, rfl, by decide +kernel, rfl, by decide +kernel, by decide +kernel⟩
noncomputable def g__law_many : SF := sSeq (sIf (eT (eBin eqD (eBin modD (eBin fdivD (eVar 0) (eC (.int 9))) (eC (.int 8))) (eC (.int 1)))) (sRet (eBin addD (eC (.int 1)) (eBin modD (eBin fdivD (eVar 0) (eC (.int 72))) (eC (.int 24))))) sNext) (sRet (eBin addD (eC (.int 1)) (eBin modD (eVar 0) (eC (.int 9)))))
noncomputable def G__law_many : DF := runF 1 1 (g__law_many)
theorem ok__law_many (T : Txt K mg ca)  (F : Dfn K mg "_law_many" s__law_many ["_law_cell_here"]) : Cal P w K mg base 1 "_law_many" ["_law_cell_here"] (spF K (G__law_many)) := cal_of2 (k := 0) (n := 1) (m := 1) (g := g__law_many) F sc__law_many rfl rfl fun f cdv A outer s H hr => by
  have hu := hu_of hr
  exact ss_cons (s_if (qt_cmp op_eq d_eq (q_op op_mod d_mod (q_op op_fdiv d_fdiv (qv 0) q_int) q_int) q_int (nomark _))
        (ss_one (s_ret (q_op op_addA d_add q_int (q_op op_mod d_mod (q_op op_fdiv d_fdiv (qv 0) q_int) q_int))))
        (ss_nil))
        (ss_one (s_ret (q_op op_addA d_add q_int (q_op op_mod d_mod (qv 0) q_int))))
noncomputable abbrev s__law_places : Stmt := top 29
theorem sc__law_places : FnScope ["_law_script", "_law_at", "_law_many_here", "_law_head", "_law_step", "_law_number", "_law_places_here", "_law_k"] ["_law_script", "_law_at", "_law_many_here"] (defScope s__law_places) := ⟨rfl, rfl, rfl, by decide +kernel, rfl, by decide +kernel, by decide +kernel⟩
noncomputable def g__law_places_b1 : SF := sSeq (sApp 6 (eVar 5)) (sSet 5 (eBin addD (eBin addD (eVar 5) (eC (.int 1))) (eBin modD (eBin fdivD (eVar 4) (eBin addD (eVar 7) (eC (.int 1)))) (eBin ixD (eA lstD (aCons (eC (.int 1)) (aCons (eC (.int 3)) (aCons (eBin powD (eC (.int 10)) (eC (.int 29))) aNil)))) (eBin modD (eVar 4) (eC (.int 3)))))))
noncomputable def g__law_places : SF := sSeq (sSet 3 (eCall G__law_cell (aCons (eVar 0) (aCons (eVar 1) aNil)))) (sSeq (sSet 4 (eCall G__law_cell (aCons (eVar 0) (aCons (eBin addD (eVar 1) (eC (.int 1))) aNil)))) (sSeq (sSet 5 (eBin modD (eBin fdivD (eVar 3) (eC (.int 2))) (eC (.int 4)))) (sSeq (sIf (eT (eBin eqD (eBin modD (eVar 3) (eC (.int 2))) (eC (.int 1)))) (sSet 5 (eBin modD (eBin fdivD (eVar 3) (eC (.int 2))) (eBin powD (eC (.int 10)) (eC (.int 30))))) sNext) (sSeq (sSet 6 (eA lstD aNil)) (sSeq (sFor [] (eRng1 (aCons (eVar 2) aNil)) (gN 7) g__law_places_b1) (sRetV 6))))))
noncomputable def G__law_places : DF := runF 3 8 (g__law_places)
theorem ok__law_places (T : Txt K mg ca) (C__law_cell : Cal P w K mg base 1 "_law_cell" ["_law_script", "_law_k"] (spF K G__law_cell)) (F : Dfn K mg "_law_places" s__law_places ["_law_script", "_law_at", "_law_many_here"]) : Cal P w K mg base 2 "_law_places" ["_law_script", "_law_at", "_law_many_here"] (spF K (G__law_places)) := cal_of2 (k := 1) (n := 3) (m := 8) (g := g__law_places) F sc__law_places rfl rfl fun f cdv A outer s H hr => by
  have hu := hu_of hr
  exact ss_cons (s_set (i := 3) sc__law_places.nd rfl (by first | exact Or.inl rfl | exact Or.inr rfl) (q_cal C__law_cell (hr.mono (by decide)) rfl (qa_cons (qv 0) (qa_cons (qv 1) qa_nil))))
        (ss_cons (s_set (i := 4) sc__law_places.nd rfl (by first | exact Or.inl rfl | exact Or.inr rfl) (q_cal C__law_cell (hr.mono (by decide)) rfl (qa_cons (qv 0) (qa_cons (q_op op_addA d_add (qv 1) q_int) qa_nil))))
        (ss_cons (s_set (i := 5) sc__law_places.nd rfl (by first | exact Or.inl rfl | exact Or.inr rfl) (q_op op_mod d_mod (q_op op_fdiv d_fdiv (qv 3) q_int) q_int))
        (ss_cons (s_if (qt_cmp op_eq d_eq (q_op op_mod d_mod (qv 3) q_int) q_int (nomark _))
        (ss_one (s_set (i := 5) sc__law_places.nd rfl (by first | exact Or.inl rfl | exact Or.inr rfl) (q_op op_mod d_mod (q_op op_fdiv d_fdiv (qv 3) q_int) (q_op op_pow d_pow q_int q_int))))
        (ss_nil))
        (ss_cons (s_set (i := 6) sc__law_places.nd rfl (by first | exact Or.inl rfl | exact Or.inr rfl) (q_lst qa_nil))
        (ss_cons (s_for [] PassesOwn.never rfl (qi_range1 rfl T.b_range (qa_cons (qv 2) qa_nil)) (g_name (i := 7) sc__law_places.nd rfl (by first | exact Or.inl rfl | exact Or.inr rfl))
        (ss_cons (s_app 6 (qv 5))
        (ss_one (s_set (i := 5) sc__law_places.nd rfl (by first | exact Or.inl rfl | exact Or.inr rfl) (q_op op_addA d_add (q_op op_addA d_add (qv 5) q_int) (q_op op_mod d_mod (q_op op_fdiv d_fdiv (qv 4) (q_op op_addA d_add (qv 7) q_int)) (q_ix ix_seq d_ix (q_lst (qa_cons q_int (qa_cons q_int (qa_cons (q_op op_pow d_pow q_int q_int) qa_nil)))) (q_op op_mod d_mod (qv 4) q_int) (fun _ _ => rfl))))))))
        (ss_one (s_retV 6)))))))
noncomputable abbrev s__law_word : Stmt := top 30
theorem sc__law_word : FnScope ["_law_e", "_law_named", "_law_others", "_law_words", "_law_some"] ["_law_e"] (defScope s__law_word) := ⟨rfl, rfl, rfl, by decide +kernel, rfl, by decide +kernel, by decide +kernel⟩
noncomputable def g__law_word_c1 (ca : Str → Addr) : SD → Res Bool := eT (eBin ixD (eVar 2) (eVar 0))
noncomputable def g__law_word_e2 (ca : Str → Addr) : SD → Res D := eBin ixD (eVar 1) (eVar 0)
noncomputable def g__law_word (ca : Str → Addr) : SF := sSeq (sSet 1 (eA lstD (aCons (eUn (instXD (leaf ca) (isX ca "NoNet")) (eVar 0)) (aCons (eUn (instXD (leaf ca) (isX ca "NoPlace")) (eVar 0)) (aCons (eUn (instXD (leaf ca) (isX ca "SamePlace")) (eVar 0)) (aCons (eUn (instXD (leaf ca) (isX ca "Twice")) (eVar 0)) aNil)))))) (sSeq (sSet 1 (eBin addD (eVar 1) (eA lstD (aCons (eUn (instXD (leaf ca) (isX ca "Taken")) (eVar 0)) (aCons (eUn (instXD (leaf ca) (isX ca "NoColours")) (eVar 0)) (aCons (eUn (instXD (leaf ca) (isX ca "NoSet")) (eVar 0)) (aCons (eUn (instXD (leaf ca) (isX ca "NoParting")) (eVar 0)) aNil))))))) (sSeq (sApp 1 (eUn (instXD (leaf ca) (isX ca "NoGroup")) (eVar 0))) (sSeq (sSet 2 (eUn (instXD (leaf ca) (isXs ca ["TooMany", "NoDeed", "Unlike", "NoText", "NoRow", "NoName"])) (eVar 0))) (sSeq (sSet 3 (eA lstD (aCons (eC (.str "NoNet")) (aCons (eC (.str "NoPlace")) (aCons (eC (.str "SamePlace")) (aCons (eC (.str "Twice")) (aCons (eC (.str "Taken")) (aCons (eC (.str "NoColours")) (aCons (eC (.str "NoSet")) (aCons (eC (.str "NoParting")) (aCons (eC (.str "NoGroup")) aNil))))))))))) (sSeq (sSet 4 (eComp (eRng1 (aCons (eC (.int 9)) aNil)) (gN 0) ((g__law_word_c1 ca)) ((g__law_word_e2 ca)) 1 [("_law_words", 3), ("_law_named", 1)])) (sSeq (sIf (bOr (eT (eVar 2)) (bOr (eT (eBin neD (eA lenD (aCons (eVar 4) aNil)) (eC (.int 1)))) (bNot (eT (eUn (instXD (leaf ca) (fun _ => true)) (eVar 0)))))) (sRet (eC (.str "else"))) sNext) (sRet (eBin ixD (eVar 4) (eC (.int 0))))))))))
noncomputable def G__law_word (ca : Str → Addr) : DF := runF 1 5 (g__law_word ca)
theorem ok__law_word (T : Txt K mg ca)  (F : Dfn K mg "_law_word" s__law_word ["_law_e"]) : CalH P w K mg base 1 "_law_word" ["_law_e"] (spF K (G__law_word ca)) := cal_ofH (k := 0) (n := 1) (m := 5) (g := g__law_word ca) F sc__law_word rfl rfl fun f cdv A outer s H hr hk => by
  have hu := hu_of hr
  exact ss_cons (s_set (i := 1) sc__law_word.nd rfl (by first | exact Or.inl rfl | exact Or.inr rfl) (q_lst (qa_cons (q_instX (hlX T T.x_NoNet) rfl T.b_isinstance (qv 0) rfl T.x_NoNet.mg) (qa_cons (q_instX (hlX T T.x_NoPlace) rfl T.b_isinstance (qv 0) rfl T.x_NoPlace.mg) (qa_cons (q_instX (hlX T T.x_SamePlace) rfl T.b_isinstance (qv 0) rfl T.x_SamePlace.mg) (qa_cons (q_instX (hlX T T.x_Twice) rfl T.b_isinstance (qv 0) rfl T.x_Twice.mg) qa_nil))))))
        (ss_cons (s_set (i := 1) sc__law_word.nd rfl (by first | exact Or.inl rfl | exact Or.inr rfl) (q_op op_addA d_add (qv 1) (q_lst (qa_cons (q_instX (hlX T T.x_Taken) rfl T.b_isinstance (qv 0) rfl T.x_Taken.mg) (qa_cons (q_instX (hlX T T.x_NoColours) rfl T.b_isinstance (qv 0) rfl T.x_NoColours.mg) (qa_cons (q_instX (hlX T T.x_NoSet) rfl T.b_isinstance (qv 0) rfl T.x_NoSet.mg) (qa_cons (q_instX (hlX T T.x_NoParting) rfl T.b_isinstance (qv 0) rfl T.x_NoParting.mg) qa_nil)))))))
        (ss_cons (s_app 1 (q_instX (hlX T T.x_NoGroup) rfl T.b_isinstance (qv 0) rfl T.x_NoGroup.mg))
        (ss_cons (s_set (i := 2) sc__law_word.nd rfl (by first | exact Or.inl rfl | exact Or.inr rfl) (q_instXT (cs := [ca "TooMany", ca "NoDeed", ca "Unlike", ca "NoText", ca "NoRow", ca "NoName"]) (hlT T ["TooMany", "NoDeed", "Unlike", "NoText", "NoRow", "NoName"] (List.forall_mem_cons.mpr ⟨⟨_, T.x_TooMany⟩, List.forall_mem_cons.mpr ⟨⟨_, T.x_NoDeed⟩, List.forall_mem_cons.mpr ⟨⟨_, T.x_Unlike⟩, List.forall_mem_cons.mpr ⟨⟨_, T.x_NoText⟩, List.forall_mem_cons.mpr ⟨⟨_, T.x_NoRow⟩, List.forall_mem_cons.mpr ⟨⟨_, T.x_NoName⟩, fun _ h => absurd h List.not_mem_nil⟩⟩⟩⟩⟩⟩)) rfl T.b_isinstance (qv 0) (pac_cons rfl T.x_TooMany.mg (pac_cons rfl T.x_NoDeed.mg (pac_cons rfl T.x_Unlike.mg (pac_cons rfl T.x_NoText.mg (pac_cons rfl T.x_NoRow.mg (pac_cons rfl T.x_NoName.mg pac_nil)))))) (Nat.le_of_ble_eq_true rfl)))
        (ss_cons (s_set (i := 3) sc__law_word.nd rfl (by first | exact Or.inl rfl | exact Or.inr rfl) (q_lst (qa_cons q_str (qa_cons q_str (qa_cons q_str (qa_cons q_str (qa_cons q_str (qa_cons q_str (qa_cons q_str (qa_cons q_str (qa_cons q_str qa_nil)))))))))))
        (ss_cons (s_setCompH (i := 4) hk sc__law_word.nd rfl (by first | exact Or.inl rfl | exact Or.inr rfl) (own := ["_law_k"]) (cap := [("_law_words", 3), ("_law_named", 1)]) (compOk_mk _ rfl _ rfl (by kernel_rfl)) (qi_range1H rfl T.b_range (qa_cons q_int qa_nil)) ⟨fun _ _ _ _ _ => g_name (i := 0) (show (["_law_k", "_law_words", "_law_named"] : List Str).Nodup by decide +kernel) rfl (by first | exact Or.inl rfl | exact Or.inr rfl), fun _ _ _ _ _ => qif_one (qt_val (q_ix ix_seq d_ix (qv 2) (qv 0) (fun _ _ => rfl))), fun _ _ _ _ _ => q_ix ix_seq d_ix (qv 1) (qv 0) (fun _ _ => rfl)⟩)
        (ss_cons (s_if (L2.PW.pt (qw_or (qt_val (qv 2)) (qw_or (qt_cmp op_ne d_ne (q_callB call_lenA d_len rfl T.b_len PySem.boot_len (qa_cons (qv 4) qa_nil)) q_int (nomark _)) (qw_or1 (qt_not (qt_val (q_instXB (hlV T) rfl T.b_isinstance (qv 0) rfl T.b_ValueError (by decide +kernel))))))))
        (ss_one (s_ret q_str))
        (ss_nil))
        (ss_one (s_ret (q_ix ix_seq d_ix (qv 4) q_int (fun _ _ => rfl))))))))))
noncomputable abbrev s__law_ties : Stmt := top 31
theorem sc__law_ties : FnScope ["_law_script", "_law_pool", "_law_ties_here", "_law_cell_here", "_law_number", "_law_ends", "_law_part"] ["_law_script", "_law_pool"] (defScope s__law_ties) := ⟨rfl, rfl, rfl, by decide +kernel, rfl, by decide +kernel, by decide +kernel⟩
noncomputable def g__law_ties_b1 : SF := sIf (bOr (bAnd (eT (eBin eqD (eBin modD (eVar 4) (eC (.int 9))) (eC (.int 0)))) (eT (eBin eqD (eA lenD (aCons (eVar 5) aNil)) (eBin modD (eBin fdivD (eVar 4) (eC (.int 100))) (eC (.int 2)))))) (eT (eBin eqD (eA lenD (aCons (eVar 1) aNil)) (eC (.int 0))))) (sApp 5 (eBin ixD (eA lstD (aCons (eBin addD (eBin maxDD (eVar 1) (eC (.int 0))) (eC (.int 1))) (aCons (eBin modD (eVar 3) (eBin powD (eC (.int 10)) (eC (.int 31)))) aNil))) (eBin modD (eVar 6) (eC (.int 2))))) (sApp 5 (eBin ixD (eVar 1) (eBin modD (eVar 6) (eA lenD (aCons (eVar 1) aNil)))))
noncomputable def g__law_ties_b2 : SF := sSeq (sSet 4 (eBin modD (eBin addD (eBin mulD (eVar 3) (eC (.int 16807))) (eBin mulD (eA lenD (aCons (eVar 2) aNil)) (eC (.int 48271)))) (eC (.int 2147483647)))) (sSeq (sSet 5 (eA lstD aNil)) (sSeq (sFor [4] (eIt (eA tupD (aCons (eBin fdivD (eVar 4) (eC (.int 9))) (aCons (eBin fdivD (eBin fdivD (eVar 4) (eC (.int 9))) (eC (.int 37))) aNil)))) (gN 6) g__law_ties_b1) (sApp 2 (eA tupD (aCons (eBin ixD (eVar 5) (eC (.int 0))) (aCons (eBin ixD (eVar 5) (eC (.int 1))) (aCons (eBin modD (eVar 3) (eBin powD (eC (.int 10)) (eC (.int 30)))) aNil)))))))
noncomputable def g__law_ties : SF := sSeq (sSet 2 (eA lstD aNil)) (sSeq (sFor [0] (eIt (eCut (eVar 0) (eP (eC (.int 5))) (eP (eBin addD (eC (.int 6)) (eBin modD (eCall G__law_cell (aCons (eVar 0) (aCons (eC (.int 4)) aNil))) (eC (.int 20))))))) (gN 3) g__law_ties_b2) (sRetV 2))
noncomputable def G__law_ties : DF := runF 2 7 (g__law_ties)
theorem ok__law_ties (T : Txt K mg ca) (C__law_cell : Cal P w K mg base 1 "_law_cell" ["_law_script", "_law_k"] (spF K G__law_cell)) (F : Dfn K mg "_law_ties" s__law_ties ["_law_script", "_law_pool"]) : Cal P w K mg base 2 "_law_ties" ["_law_script", "_law_pool"] (spF K (G__law_ties)) := cal_of2 (k := 1) (n := 2) (m := 7) (g := g__law_ties) F sc__law_ties rfl rfl fun f cdv A outer s H hr => by
  have hu := hu_of hr
  exact ss_cons (s_set (i := 2) sc__law_ties.nd rfl (by first | exact Or.inl rfl | exact Or.inr rfl) (q_lst qa_nil))
        (ss_cons (s_for [0] PassesOwn.never rfl (qi_seq (q_slice (qv 0) (qo_some q_int) (qo_some (q_op op_addA d_add q_int (q_op op_mod d_mod (q_cal C__law_cell (hr.mono (by decide)) rfl (qa_cons (qv 0) (qa_cons q_int qa_nil))) q_int))))) (g_name (i := 3) sc__law_ties.nd rfl (by first | exact Or.inl rfl | exact Or.inr rfl))
        (ss_cons (s_set (i := 4) sc__law_ties.nd rfl (by first | exact Or.inl rfl | exact Or.inr rfl) (q_op op_mod d_mod (q_op op_addA d_add (q_op op_mulD d_mul (qv 3) q_int) (q_op op_mulD d_mul (q_callB call_lenA d_len rfl T.b_len PySem.boot_len (qa_cons (qv 2) qa_nil)) q_int)) q_int))
        (ss_cons (s_set (i := 5) sc__law_ties.nd rfl (by first | exact Or.inl rfl | exact Or.inr rfl) (q_lst qa_nil))
        (ss_cons (s_for [4] PassesOwn.never rfl (qi_seq (q_tup (qa_cons (q_op op_fdiv d_fdiv (qv 4) q_int) (qa_cons (q_op op_fdiv d_fdiv (q_op op_fdiv d_fdiv (qv 4) q_int) q_int) qa_nil)))) (g_name (i := 6) sc__law_ties.nd rfl (by first | exact Or.inl rfl | exact Or.inr rfl))
        (ss_one (s_if (L2.PW.pt (qw_or (L2.PW.pt (qw_and (qt_cmp op_eq d_eq (q_op op_mod d_mod (qv 4) q_int) q_int (nomark _)) (qw_and1 (qt_cmp op_eq d_eq (q_callB call_lenA d_len rfl T.b_len PySem.boot_len (qa_cons (qv 5) qa_nil)) (q_op op_mod d_mod (q_op op_fdiv d_fdiv (qv 4) q_int) q_int) (nomark _))))) (qw_or1 (qt_cmp op_eq d_eq (q_callB call_lenA d_len rfl T.b_len PySem.boot_len (qa_cons (qv 1) qa_nil)) q_int (nomark _)))))
        (ss_one (s_app 5 (q_ix ix_seq d_ix (q_lst (qa_cons (q_op op_addA d_add (q_maxD rfl rfl T.b_max (by decide +kernel) (qv 1) q_int) q_int) (qa_cons (q_op op_mod d_mod (qv 3) (q_op op_pow d_pow q_int q_int)) qa_nil))) (q_op op_mod d_mod (qv 6) q_int) (fun _ _ => rfl))))
        (ss_one (s_app 5 (q_ix ix_seq d_ix (qv 1) (q_op op_mod d_mod (qv 6) (q_callB call_lenA d_len rfl T.b_len PySem.boot_len (qa_cons (qv 1) qa_nil))) (fun _ _ => rfl)))))))
        (ss_one (s_app 2 (q_tup (qa_cons (q_ix ix_seq d_ix (qv 5) q_int (fun _ _ => rfl)) (qa_cons (q_ix ix_seq d_ix (qv 5) q_int (fun _ _ => rfl)) (qa_cons (q_op op_mod d_mod (qv 3) (q_op op_pow d_pow q_int q_int)) qa_nil))))))))))
        (ss_one (s_retV 2)))
noncomputable abbrev s__law_due : Stmt := top 32
theorem sc__law_due : FnScope ["_law_places_here", "_law_ties_here", "_law_shades", "_law_one", "_law_other", "_law_shade", "_law_rising", "_law_rows", "_law_k"] ["_law_places_here", "_law_ties_here"] (defScope s__law_due) := ⟨rfl, rfl, rfl, by decide +kernel, rfl, by decide +kernel, by decide +kernel⟩
noncomputable def g__law_due_e1 : SD → Res D := eGet2 (eVar 1) (eA tupD (aCons (eBin ixD (eVar 2) (eVar 3)) (aCons (eBin ixD (eVar 2) (eVar 0)) aNil))) (eC (.int 0))
noncomputable def g__law_due_b2 : SF := sApp 7 (eA tupleD (aCons (eComp (eRng1 (aCons (eVar 8) aNil)) (gN 0) bTrue g__law_due_e1 1 [("_law_shades", 2), ("_law_rising", 6), ("_law_k", 8)]) aNil))
noncomputable def g__law_due_b3 : SF := sSeq (sIf (bOr (eT (eBin (inD true) (eVar 3) (eVar 0))) (eT (eBin (inD true) (eVar 4) (eVar 0)))) (sRet (eC (.str "NoPlace"))) sNext) (sSeq (sIf (eT (eBin eqD (eVar 3) (eVar 4))) (sRet (eC (.str "SamePlace"))) sNext) (sSeq (sIf (eT (eBin (dinD false) (eA tupD (aCons (eVar 3) (aCons (eVar 4) aNil))) (eVar 2))) (sRet (eC (.str "Twice"))) sNext) (sSeq (sDput 2 (eA tupD (aCons (eVar 3) (aCons (eVar 4) aNil))) (eVar 5)) (sDput 2 (eA tupD (aCons (eVar 4) (aCons (eVar 3) aNil))) (eVar 5)))))
noncomputable def g__law_due : SF := sSeq (sIf (bOr (eT (eBin eqD (eA lenD (aCons (eVar 0) aNil)) (eC (.int 0)))) (bOr (eT (eBin gtD (eA lenD (aCons (eVar 0) aNil)) (eC (.int 24)))) (eT (eBin ltD (eUn lenSetD (eVar 0)) (eA lenD (aCons (eVar 0) aNil)))))) (sRet (eC (.str "NoNet"))) sNext) (sSeq (sSet 2 (eDict true)) (sSeq (sFor [1] (eIt (eVar 1)) (gT 3 (gsCons 3 (gsCons 4 (gsCons 5 gsNil)))) g__law_due_b3) (sSeq (sSet 6 (eA sortedD (aCons (eVar 0) aNil))) (sSeq (sSet 7 (eA lstD aNil)) (sSeq (sFor [] (eRng1 (aCons (eA lenD (aCons (eVar 6) aNil)) aNil)) (gN 8) g__law_due_b2) (sRet (eA tupD (aCons (eA tupleD (aCons (eVar 6) aNil)) (aCons (eA tupleD (aCons (eVar 7) aNil)) aNil)))))))))
noncomputable def G__law_due : DF := runF 2 9 (g__law_due)
theorem ok__law_due (T : Txt K mg ca)  (F : Dfn K mg "_law_due" s__law_due ["_law_places_here", "_law_ties_here"]) : Cal P w K mg base 1 "_law_due" ["_law_places_here", "_law_ties_here"] (spF K (G__law_due)) := cal_of2 (k := 0) (n := 2) (m := 9) (g := g__law_due) F sc__law_due rfl rfl fun f cdv A outer s H hr => by
  have hu := hu_of hr
  exact ss_cons (s_if (L2.PW.pt (qw_or (qt_cmp op_eq d_eq (q_callB call_lenA d_len rfl T.b_len PySem.boot_len (qa_cons (qv 0) qa_nil)) q_int (nomark _)) (qw_or (qt_cmp op_gt d_gt (q_callB call_lenA d_len rfl T.b_len PySem.boot_len (qa_cons (qv 0) qa_nil)) q_int (nomark _)) (qw_or1 (qt_cmp op_lt d_lt (q_lenSet rfl T.b_len rfl T.b_set rfl (qv 0)) (q_callB call_lenA d_len rfl T.b_len PySem.boot_len (qa_cons (qv 0) qa_nil)) (nomark _))))))
        (ss_one (s_ret q_str))
        (ss_nil))
        (ss_cons (s_set (i := 2) sc__law_due.nd rfl (by first | exact Or.inl rfl | exact Or.inr rfl) q_dictT)
        (ss_cons (s_for [1] PassesOwn.never rfl (qi_seq (qv 1)) (g_tup rfl (gs_cons (i := 3) sc__law_due.nd rfl (by first | exact Or.inl rfl | exact Or.inr rfl) (gs_cons (i := 4) sc__law_due.nd rfl (by first | exact Or.inl rfl | exact Or.inr rfl) (gs_cons (i := 5) sc__law_due.nd rfl (by first | exact Or.inl rfl | exact Or.inr rfl) gs_nil))))
        (ss_cons (s_if (L2.PW.pt (qw_or (qt_cmp op_notIn_seq (d_in true) (qv 3) (qv 0) (by with_unfolding_all rfl)) (qw_or1 (qt_cmp op_notIn_seq (d_in true) (qv 4) (qv 0) (by with_unfolding_all rfl)))))
        (ss_one (s_ret q_str))
        (ss_nil))
        (ss_cons (s_if (qt_cmp op_eq d_eq (qv 3) (qv 4) (nomark _))
        (ss_one (s_ret q_str))
        (ss_nil))
        (ss_cons (s_if (qt_din hu (q_tup (qa_cons (qv 3) (qa_cons (qv 4) qa_nil))) (qv 2))
        (ss_one (s_ret q_str))
        (ss_nil))
        (ss_cons (s_dput 2 hu (q_tup (qa_cons (qv 3) (qa_cons (qv 4) qa_nil))) (qv 5))
        (ss_one (s_dput 2 hu (q_tup (qa_cons (qv 4) (qa_cons (qv 3) qa_nil))) (qv 5))))))))
        (ss_cons (s_set (i := 6) sc__law_due.nd rfl (by first | exact Or.inl rfl | exact Or.inr rfl) (q_callB call_sorted d_sorted rfl T.b_sorted (by decide +kernel) (qa_cons (qv 0) qa_nil)))
        (ss_cons (s_set (i := 7) sc__law_due.nd rfl (by first | exact Or.inl rfl | exact Or.inr rfl) (q_lst qa_nil))
        (ss_cons (s_for [] PassesOwn.never rfl (qi_range1 rfl T.b_range (qa_cons (q_callB call_lenA d_len rfl T.b_len PySem.boot_len (qa_cons (qv 6) qa_nil)) qa_nil)) (g_name (i := 8) sc__law_due.nd rfl (by first | exact Or.inl rfl | exact Or.inr rfl))
        (ss_one (s_app 7 (q_callTy call_tuple_of d_tuple rfl T.b_tuple (by decide +kernel) (qa_cons (q_comp (own := ["_law_j"]) (cap := [("_law_shades", 2), ("_law_rising", 6), ("_law_k", 8)]) (compOk_mk _ rfl _ rfl (by kernel_rfl)) rfl (qi_range1 rfl T.b_range (qa_cons (qv 8) qa_nil)) ⟨fun _ _ _ _ _ => g_name (i := 0) (show (["_law_j", "_law_shades", "_law_rising", "_law_k"] : List Str).Nodup by decide +kernel) rfl (by first | exact Or.inl rfl | exact Or.inr rfl), fun _ _ _ _ _ => qif_nil, fun _ _ _ _ _ => q_dget2 hu (qv 1) (q_tup (qa_cons (q_ix ix_seq d_ix (qv 2) (qv 3) (fun _ _ => rfl)) (qa_cons (q_ix ix_seq d_ix (qv 2) (qv 0) (fun _ _ => rfl)) qa_nil))) q_int ⟨rfl, rfl, rfl, rfl⟩⟩) qa_nil)))))
        (ss_one (s_ret (q_tup (qa_cons (q_callTy call_tuple_of d_tuple rfl T.b_tuple (by decide +kernel) (qa_cons (qv 6) qa_nil)) (qa_cons (q_callTy call_tuple_of d_tuple rfl T.b_tuple (by decide +kernel) (qa_cons (qv 7) qa_nil)) qa_nil))))))))))
noncomputable abbrev s__law_answer : Stmt := top 33
theorem sc__law_answer : FnScope ["_law_places_here", "_law_ties_here", "_law_found", "_law_e"] ["_law_places_here", "_law_ties_here"] (defScope s__law_answer) := ⟨rfl, rfl, rfl, by decide +kernel, rfl, by decide +kernel, by decide +kernel⟩
noncomputable def g__law_answer (ca : Str → Addr) : SF := sSeq (sTryW (sSet 2 (eCallX (G_net_from ca) (aCons (eVar 0) (aCons (eVar 1) aNil)))) (inC ca) (G__law_word ca)) (sRetV 2)
noncomputable def G__law_answer (ca : Str → Addr) : DF := runF 2 4 (g__law_answer ca)
theorem ok__law_answer (T : Txt K mg ca) (C_net_from : CalX P w K mg base 3 "net_from" ["places", "ties"] (spX K (G_net_from ca))) (C__law_word : CalH P w K mg base 1 "_law_word" ["_law_e"] (spF K (G__law_word ca))) (F : Dfn K mg "_law_answer" s__law_answer ["_law_places_here", "_law_ties_here"]) : Cal P w K mg base 4 "_law_answer" ["_law_places_here", "_law_ties_here"] (spF K (G__law_answer ca)) := cal_of2 (k := 3) (n := 2) (m := 4) (g := g__law_answer ca) F sc__law_answer rfl rfl fun f cdv A outer s H hr => by
  have hu := hu_of hr
  exact ss_cons (s_tryW (i := 3) (fun pn W Y' hx =>
        (ss_one (s_set (i := 2) sc__law_answer.nd rfl (by first | exact Or.inl rfl | exact Or.inr rfl) (q_calX hx C_net_from (hr.mono (by decide)) rfl (qa_cons (qv 0) (qa_cons (qv 1) qa_nil))))))
  T.x_NetError (hin T) C__law_word (room_h (hr.mono (by decide))) sc__law_answer.nd rfl rfl)
        (ss_one (s_retV 2))
noncomputable abbrev s_law : Stmt := top 34
theorem sc_law : FnScope ["_law_script", "_law_way", "_law_many_here", "_law_places_here", "_law_ties_here", "_law_handed", "_law_found", "_law_good"] ["_law_script"] (defScope s_law) := ⟨rfl, rfl, rfl, by decide +kernel, rfl, by decide +kernel, by decide +kernel⟩
noncomputable def g_law_c1 (ca : Str → Addr) : SD → Res Bool := bAnd (eT (eBin neD (eBin ixD (eVar 0) (eC (.int 0))) (eBin ixD (eVar 0) (eC (.int 1))))) (bAnd (eT (eBin (inD false) (eBin ixD (eVar 0) (eC (.int 0))) (eVar 1))) (eT (eBin (inD false) (eBin ixD (eVar 0) (eC (.int 1))) (eVar 1))))
noncomputable def g_law_e2 (ca : Str → Addr) : SD → Res D := eVar 0
noncomputable def g_law (ca : Str → Addr) : SF := sSeq (sSet 1 (eBin modD (eCall G__law_cell (aCons (eVar 0) (aCons (eC (.int 3)) aNil))) (eC (.int 6)))) (sSeq (sSet 2 (eCall G__law_many (aCons (eCall G__law_cell (aCons (eVar 0) (aCons (eC (.int 0)) aNil))) aNil))) (sSeq (sIf (eT (eBin eqD (eVar 1) (eC (.int 0)))) (sSet 2 (eC (.int 0))) sNext) (sSeq (sIf (eT (eBin eqD (eVar 1) (eC (.int 2)))) (sSet 2 (eBin addD (eC (.int 25)) (eBin modD (eCall G__law_cell (aCons (eVar 0) (aCons (eC (.int 4)) aNil))) (eC (.int 9))))) sNext) (sSeq (sSet 3 (eCall G__law_places (aCons (eVar 0) (aCons (eC (.int 1)) (aCons (eVar 2) aNil))))) (sSeq (sIf (eT (eBin eqD (eVar 1) (eC (.int 1)))) (sIns 3 (eBin modD (eBin fdivD (eCall G__law_cell (aCons (eVar 0) (aCons (eC (.int 3)) aNil))) (eC (.int 6))) (eBin addD (eVar 2) (eC (.int 1)))) (eBin ixD (eVar 3) (eBin modD (eCall G__law_cell (aCons (eVar 0) (aCons (eC (.int 4)) aNil))) (eVar 2)))) sNext) (sSeq (sIf (eT (eBin eqD (eBin modD (eBin fdivD (eCall G__law_cell (aCons (eVar 0) (aCons (eC (.int 3)) aNil))) (eC (.int 6))) (eC (.int 2))) (eC (.int 1)))) (sRev 3) sNext) (sSeq (sFrz [3] (sSet 4 (eCall G__law_ties (aCons (eVar 0) (aCons (eVar 3) aNil))))) (sSeq (sSet 5 (eA lstD (aCons (eA listD (aCons (eVar 3) aNil)) (aCons (eA listD (aCons (eVar 4) aNil)) aNil)))) (sSeq (sSet 6 (eCall (G__law_answer ca) (aCons (eBin ixD (eVar 5) (eC (.int 0))) (aCons (eBin ixD (eVar 5) (eC (.int 1))) aNil)))) (sSeq (sIf (bOr (eT (eBin neLD (eBin ixD (eVar 5) (eC (.int 0))) (eVar 3))) (eT (eBin neLD (eBin ixD (eVar 5) (eC (.int 1))) (eVar 4)))) (sRet (eC (.bl false))) sNext) (sSeq (sIf (bNot (eT (eCall (G__law_like 4) (aCons (eVar 6) (aCons (eCall G__law_due (aCons (eVar 3) (aCons (eVar 4) aNil))) aNil))))) (sRet (eC (.bl false))) sNext) (sSeq (sIf (bAnd (eT (eBin gtD (eA lenD (aCons (eVar 3) aNil)) (eC (.int 0)))) (bAnd (eT (eBin ltD (eA lenD (aCons (eVar 3) aNil)) (eC (.int 25)))) (eT (eBin neD (eVar 1) (eC (.int 1)))))) (sSeq (sSet 7 (eComp (eIt (eCut (eVar 4) eP0 (eP (eC (.int 1))))) (gN 0) ((g_law_c1 ca)) ((g_law_e2 ca)) 1 [("_law_places_here", 3)])) (sRet (eCall (G__law_like 4) (aCons (eCall (G__law_answer ca) (aCons (eVar 3) (aCons (eVar 7) aNil))) (aCons (eCall G__law_due (aCons (eVar 3) (aCons (eVar 7) aNil))) aNil))))) sNext) (sRet (eC (.bl true)))))))))))))))
noncomputable def G_law (ca : Str → Addr) : DF := runF 1 8 (g_law ca)
theorem fn_law {f : Addr} {fd : FuncData} (T : Txt K mg ca) (C__law_cell : Cal P w K mg base 1 "_law_cell" ["_law_script", "_law_k"] (spF K G__law_cell)) (C__law_like : Cal P w K mg base 5 "_law_like" ["_law_found", "_law_due_here"] (spF K (G__law_like 4))) (C__law_many : Cal P w K mg base 1 "_law_many" ["_law_cell_here"] (spF K G__law_many)) (C__law_places : Cal P w K mg base 2 "_law_places" ["_law_script", "_law_at", "_law_many_here"] (spF K G__law_places)) (C__law_ties : Cal P w K mg base 2 "_law_ties" ["_law_script", "_law_pool"] (spF K G__law_ties)) (C__law_due : Cal P w K mg base 1 "_law_due" ["_law_places_here", "_law_ties_here"] (spF K G__law_due)) (C__law_answer : Cal P w K mg base 4 "_law_answer" ["_law_places_here", "_law_ties_here"] (spF K (G__law_answer ca))) (F : Fun K "law" "law" s_law f fd) : FnOk P w K mg base CX0 6 f fd ["_law_script"] (spF K (G_law ca)) := fnok_of2 (k := 5) (n := 1) (m := 8) (g := g_law ca) F sc_law rfl rfl fun f cdv A outer s H hr => by
  have hu := hu_of hr
  exact ss_cons (s_set (i := 1) sc_law.nd rfl (by first | exact Or.inl rfl | exact Or.inr rfl) (q_op op_mod d_mod (q_cal C__law_cell (hr.mono (by decide)) rfl (qa_cons (qv 0) (qa_cons q_int qa_nil))) q_int))
        (ss_cons (s_set (i := 2) sc_law.nd rfl (by first | exact Or.inl rfl | exact Or.inr rfl) (q_cal C__law_many (hr.mono (by decide)) rfl (qa_cons (q_cal C__law_cell (hr.mono (by decide)) rfl (qa_cons (qv 0) (qa_cons q_int qa_nil))) qa_nil)))
        (ss_cons (s_if (qt_cmp op_eq d_eq (qv 1) q_int (nomark _))
        (ss_one (s_set (i := 2) sc_law.nd rfl (by first | exact Or.inl rfl | exact Or.inr rfl) q_int))
        (ss_nil))
        (ss_cons (s_if (qt_cmp op_eq d_eq (qv 1) q_int (nomark _))
        (ss_one (s_set (i := 2) sc_law.nd rfl (by first | exact Or.inl rfl | exact Or.inr rfl) (q_op op_addA d_add q_int (q_op op_mod d_mod (q_cal C__law_cell (hr.mono (by decide)) rfl (qa_cons (qv 0) (qa_cons q_int qa_nil))) q_int))))
        (ss_nil))
        (ss_cons (s_set (i := 3) sc_law.nd rfl (by first | exact Or.inl rfl | exact Or.inr rfl) (q_cal C__law_places (hr.mono (by decide)) rfl (qa_cons (qv 0) (qa_cons q_int (qa_cons (qv 2) qa_nil)))))
        (ss_cons (s_if (qt_cmp op_eq d_eq (qv 1) q_int (nomark _))
        (ss_one (s_ins 3 (q_op op_mod d_mod (q_op op_fdiv d_fdiv (q_cal C__law_cell (hr.mono (by decide)) rfl (qa_cons (qv 0) (qa_cons q_int qa_nil))) q_int) (q_op op_addA d_add (qv 2) q_int)) (q_ix ix_seq d_ix (qv 3) (q_op op_mod d_mod (q_cal C__law_cell (hr.mono (by decide)) rfl (qa_cons (qv 0) (qa_cons q_int qa_nil))) (qv 2)) (fun _ _ => rfl))))
        (ss_nil))
        (ss_cons (s_if (qt_cmp op_eq d_eq (q_op op_mod d_mod (q_op op_fdiv d_fdiv (q_cal C__law_cell (hr.mono (by decide)) rfl (qa_cons (qv 0) (qa_cons q_int qa_nil))) q_int) q_int) q_int (nomark _))
        (ss_one (s_rev 3))
        (ss_nil))
        (ss_cons (s_frz [3] (s_set (i := 4) sc_law.nd rfl (by first | exact Or.inl rfl | exact Or.inr rfl) (q_cal C__law_ties (hr.mono (by decide)) rfl (qa_cons (qv 0) (qa_cons (qv 3) qa_nil)))))
        (ss_cons (s_set (i := 5) sc_law.nd rfl (by first | exact Or.inl rfl | exact Or.inr rfl) (q_lst (qa_cons (q_callTy call_list_of d_list rfl T.b_list (by decide +kernel) (qa_cons (qv 3) qa_nil)) (qa_cons (q_callTy call_list_of d_list rfl T.b_list (by decide +kernel) (qa_cons (qv 4) qa_nil)) qa_nil))))
        (ss_cons (s_set (i := 6) sc_law.nd rfl (by first | exact Or.inl rfl | exact Or.inr rfl) (q_cal C__law_answer (hr.mono (by decide)) rfl (qa_cons (q_ix ix_seq d_ix (qv 5) q_int (fun _ _ => rfl)) (qa_cons (q_ix ix_seq d_ix (qv 5) q_int (fun _ _ => rfl)) qa_nil))))
        (ss_cons (s_if (L2.PW.pt (qw_or (qt_cmp (op_neL hu) d_neL (q_ix ix_seq d_ix (qv 5) q_int (fun _ _ => rfl)) (qv 3) (nomark _)) (qw_or1 (qt_cmp (op_neL hu) d_neL (q_ix ix_seq d_ix (qv 5) q_int (fun _ _ => rfl)) (qv 4) (nomark _)))))
        (ss_one (s_ret q_bl))
        (ss_nil))
        (ss_cons (s_if (qt_not (qt_val (q_cal C__law_like (hr.mono (by decide)) rfl (qa_cons (qv 6) (qa_cons (q_cal C__law_due (hr.mono (by decide)) rfl (qa_cons (qv 3) (qa_cons (qv 4) qa_nil))) qa_nil)))))
        (ss_one (s_ret q_bl))
        (ss_nil))
        (ss_cons (s_if (L2.PW.pt (qw_and (qt_cmp op_gt d_gt (q_callB call_lenA d_len rfl T.b_len PySem.boot_len (qa_cons (qv 3) qa_nil)) q_int (nomark _)) (qw_and (qt_cmp op_lt d_lt (q_callB call_lenA d_len rfl T.b_len PySem.boot_len (qa_cons (qv 3) qa_nil)) q_int (nomark _)) (qw_and1 (qt_cmp op_ne d_ne (qv 1) q_int (nomark _))))))
        (ss_cons (s_setComp (i := 7) sc_law.nd rfl (by first | exact Or.inl rfl | exact Or.inr rfl) (own := ["_law_tie"]) (cap := [("_law_places_here", 3)]) (compOk_mk _ rfl _ rfl (by kernel_rfl)) rfl (qi_seq (q_slice (qv 4) qo_none (qo_some q_int))) ⟨fun _ _ _ _ _ => g_name (i := 0) (show (["_law_tie", "_law_places_here"] : List Str).Nodup by decide +kernel) rfl (by first | exact Or.inl rfl | exact Or.inr rfl), fun _ _ _ _ _ => qif_one (L2.PW.pt (qw_and (qt_cmp op_ne d_ne (q_ix ix_seq d_ix (qv 0) q_int (fun _ _ => rfl)) (q_ix ix_seq d_ix (qv 0) q_int (fun _ _ => rfl)) (nomark _)) (qw_and (qt_cmp op_in_seq (d_in false) (q_ix ix_seq d_ix (qv 0) q_int (fun _ _ => rfl)) (qv 1) (by with_unfolding_all rfl)) (qw_and1 (qt_cmp op_in_seq (d_in false) (q_ix ix_seq d_ix (qv 0) q_int (fun _ _ => rfl)) (qv 1) (by with_unfolding_all rfl)))))), fun _ _ _ _ _ => qv 0⟩)
        (ss_one (s_ret (q_cal C__law_like (hr.mono (by decide)) rfl (qa_cons (q_cal C__law_answer (hr.mono (by decide)) rfl (qa_cons (qv 3) (qa_cons (qv 7) qa_nil))) (qa_cons (q_cal C__law_due (hr.mono (by decide)) rfl (qa_cons (qv 3) (qa_cons (qv 7) qa_nil))) qa_nil))))))
        (ss_nil))
        (ss_one (s_ret q_bl))))))))))))))
end
end KL
set_option linter.all false
/-! ### the law's inputs, as plain functions -/
namespace M
noncomputable def cell (ns : List Int) (k : Int) : Int := ns.getD k.toNat 0
noncomputable def many (c : Int) : Int := if c / 9 % 8 = 1 then 1 + c / 72 % 24 else 1 + c % 9
theorem many_pos (c : Int) : 1 ≤ many c ∧ many c ≤ 24 := by
  unfold many
  split <;> omega
/-- the greatest number that a place may begin with, and a colour -/
noncomputable def num0 (big : Int) (ns : List Int) (a : Int) : Int := if cell ns a % 2 = 1 then cell ns a / 2 % big else cell ns a / 2 % 4
noncomputable def gap (ns : List Int) (a : Int) : Int := ([1, 3, 100000000000000000000000000000] : List Int).getD (cell ns (a + 1) % 3).toNat 0
noncomputable def place (big : Int) (ns : List Int) (a : Int) : Nat → Int
  | 0 => num0 big ns a
  | k + 1 => place big ns a k + 1 + cell ns (a + 1) / ((k : Int) + 1) % gap ns a
theorem place_zero (big : Int) (ns : List Int) (a : Int) : place big ns a 0 = if cell ns a % 2 = 1 then cell ns a / 2 % big else cell ns a / 2 % 4 := rfl
noncomputable def places (big : Int) (ns : List Int) (a : Int) (n : Nat) : List Int := (List.range n).map (place big ns a)
theorem gap_pos (ns : List Int) (a : Int) : 0 < gap ns a := by
  unfold gap
  have h1 : 0 ≤ cell ns (a + 1) % 3 := Int.emod_nonneg _ (by decide)
  have h2 : cell ns (a + 1) % 3 < 3 := Int.emod_lt_of_pos _ (by decide)
  have h : cell ns (a + 1) % 3 = 0 ∨ cell ns (a + 1) % 3 = 1 ∨ cell ns (a + 1) % 3 = 2 := by omega
  rcases h with h | h | h <;> rw [h] <;> decide
/-! ### nets from ties -/
/-! ### the law's ties -/
theorem places_len (big : Int) (ns : List Int) (a : Int) (n : Nat) : (places big ns a n).length = n := by simp [places]
/-! ### a row turned -/
end M
set_option linter.all false
namespace N2
/-! ### nets from ties -/
noncomputable def keyOf (o t : Int) : Int × Int := if o > t then (o, t) else (t, o)
theorem keyOf_comm (o t : Int) : keyOf o t = keyOf t o := by
  unfold keyOf
  by_cases h : o > t
  · rw [if_pos h, if_neg (by omega)]
  · by_cases h2 : t > o
    · rw [if_neg h, if_pos h2]
    · have e : o = t := by omega
      rw [e]
noncomputable abbrev Tie := Int × Int × Int
noncomputable def tkey (t : Tie) : Int × Int := keyOf t.1 t.2.1
/-- the colour that the ties give -/
noncomputable def col (ts : List Tie) (k : Int × Int) : Int := ((ts.find? fun t => decide (tkey t = k)).map (·.2.2)).getD 0
/-- the rows of the net over the rising places -/
noncomputable def rowsOf (ps : List Int) (ts : List Tie) : List (List Int) := (List.range ps.length).map fun i => (ps.take i).map fun q => col ts (keyOf (ps.getD i 0) q)
/-! ### the law's ties -/
/-- two rising lists of the same numbers are one -/
theorem sorted_eq : ∀ {l l' : List Int}, l.Perm l' → l.Pairwise (· ≤ ·) → l'.Pairwise (· < ·) → l = l'
  | [], l', hp, _, _ => (List.Perm.nil_eq hp)
  | x :: r, l', hp, h1, h2 => by
    match l', hp, h2 with
    | [], hp, _ => exact absurd hp.length_eq (by simp)
    | y :: r', hp, h2 =>
      obtain ⟨a1, a2⟩ := List.pairwise_cons.mp h1
      obtain ⟨b1, b2⟩ := List.pairwise_cons.mp h2
      have e : x = y := by
        have m1 : x ∈ y :: r' := hp.mem_iff.mp List.mem_cons_self
        have m2 : y ∈ x :: r := hp.mem_iff.mpr List.mem_cons_self
        rcases List.mem_cons.mp m1 with q | q
        · exact q
        · rcases List.mem_cons.mp m2 with q' | q'
          · exact q'.symm
          · have := b1 x q
            have := a1 y q'
            omega
      subst e
      rw [sorted_eq ((List.perm_cons _).mp hp) a2 b2]
/-! ### a row turned -/
end N2
set_option Elab.async false
set_option linter.all false
set_option maxRecDepth 100000
set_option maxHeartbeats 1000000
namespace KL
open DL XF
theorem mul_r {i j : Int} (h : -(2 ^ 64) < j ∧ j < 2 ^ 64) : CMulD i j := .inl (.inr h)
/-- the greatest number -/
noncomputable def big : Int := 10 ^ 30
theorem big_pos : 0 < big := by decide
theorem pow30 : powD (.int 10) (.int 30) = .ok (.int big) := by rfl
theorem bigE (τ : SD) : eBin powD (eC (.int 10)) (eC (.int 30)) τ = .ok (.int big) := by
  simp only [eBin, eC, Res.bind_ok, pow30]
/-- a net as a value -/
noncomputable def netD (ps : List Int) (rows : List (List Int)) : D := .tup [.tup (ps.map .int), .tup (rows.map fun r => .tup (r.map .int))]
theorem pure_rows (rows : List (List Int)) : pureL (rows.map fun r => D.tup (r.map .int)) = true := pureL_of fun d m => by obtain ⟨r, _, rfl⟩ := List.mem_map.mp m; exact pure_ints r
theorem net_pure (ps : List Int) (rows : List (List Int)) : (netD ps rows).pure = true := by
  simp [netD, D.pure, pureL, pure_ints, pure_rows]
theorem mod_ok {f : SD → Res D} {τ : SD} {a b : Int} (h : f τ = .ok (.int a)) (hb : 0 < b) : eBin modD f (eC (.int b)) τ = .ok (.int (a % b)) := by
  rw [eBin_ok h (show eC (.int b) τ = .ok (.int b) from rfl)]
  simp [iiD, hb]
theorem fdiv_ok {f : SD → Res D} {τ : SD} {a b : Int} (h : f τ = .ok (.int a)) (hb : 0 < b ∧ b < 1073741824) : eBin fdivD f (eC (.int b)) τ = .ok (.int (a / b)) := by
  rw [eBin_ok h (show eC (.int b) τ = .ok (.int b) from rfl)]
  simp [iiD, L2.CDiv, hb]
theorem eqi_ok {f g : SD → Res D} {τ : SD} {a b : Int} (h : f τ = .ok (.int a)) (h2 : g τ = .ok (.int b)) : eT (eBin eqD f g) τ = .ok (decide (a = b)) := by
  unfold eT
  rw [eBin_ok h h2]
  show Res.ok (xor false (decide (a = b))) = _
  rw [Bool.false_xor]
theorem nei_ok {f g : SD → Res D} {τ : SD} {a b : Int} (h : f τ = .ok (.int a)) (h2 : g τ = .ok (.int b)) : eT (eBin neD f g) τ = .ok (!decide (a = b)) := by
  unfold eT
  rw [eBin_ok h h2]
  show Res.ok (xor true (decide (a = b))) = _
  rw [Bool.true_xor]
theorem gti_ok {f g : SD → Res D} {τ : SD} {a b : Int} (h : f τ = .ok (.int a)) (h2 : g τ = .ok (.int b)) : eT (eBin gtD f g) τ = .ok (decide (b < a)) := by
  unfold eT
  rw [eBin_ok h h2]
  rfl
theorem lti_ok {f g : SD → Res D} {τ : SD} {a b : Int} (h : f τ = .ok (.int a)) (h2 : g τ = .ok (.int b)) : eT (eBin ltD f g) τ = .ok (decide (a < b)) := by
  unfold eT
  rw [eBin_ok h h2]
  rfl
theorem retV_pure {i : Nat} {τ : SD} {d : D} (h : τ[i]? = some (some d)) (hp : d.pure = true) : sRetV i τ = .rt d := by
  unfold sRetV
  rw [h]
theorem or_ok {f g : SD → Res Bool} {τ : SD} {a b : Bool} (h : f τ = .ok a) (h2 : g τ = .ok b) : bOr f g τ = .ok (a || b) := by
  unfold bOr
  rw [h]
  cases a
  · exact h2
  · rfl
theorem run_rt {n N : Nat} {g : SF} {ds : List D} {τ : SD} {d : D} (hl : ds.length = n) (ht : ds.map some ++ List.replicate (N - n) none = τ) (h : g τ = .rt d) : runF n N g ds = .ok d := by
  unfold runF
  rw [if_pos hl, ht, h]
  rfl
theorem ix_ok {f g : SD → Res D} {τ : SD} {x y : D} {r : Res D} (h1 : f τ = .ok x) (h2 : g τ = .ok y) (h3 : ixD x y = r) : eBin ixD f g τ = r := (eBin_ok h1 h2).trans h3
theorem ix_tup {xs : List D} {i : Int} {j : Nat} {d : D} (hi : i = j) (h : xs[j]? = some d) : ixD (.tup xs) (.int i) = .ok d := by
  simp [ixD, atI_of hi h]
theorem ix_lst {t : Tg} {xs : List D} {i : Int} {j : Nat} {d : D} (hi : i = j) (h : xs[j]? = some d) : ixD (.lst t xs) (.int i) = .ok d := by
  simp [ixD, atI_of hi h]
theorem app_nx {i : Nat} {f : SD → Res D} {τ : SD} {xs : List D} {d : D} (h1 : τ[i]? = some (some (.lst .own xs))) (h2 : f τ = .ok d) (hp : d.hasBor = false) (hl : xs.length < 16777216) : sApp i f τ = .nx (τ.set i (some (.lst .own (xs ++ [d])))) := by
  unfold sApp
  have e : ownL τ i = some xs := by unfold ownL; rw [h1]
  rw [e]
  simp [h2, hp, hl]
theorem len_ok {f : SD → Res D} {τ : SD} {t : Tg} {xs : List D} (h : f τ = .ok (.lst t xs)) : eA lenD (aCons f aNil) τ = .ok (.int xs.length) := by
  rw [eA_ok (aOne h)]
  rfl
theorem run_nx {n N : Nat} {g : SF} {ds : List D} {τ t : SD} (hl : ds.length = n) (ht : ds.map some ++ List.replicate (N - n) none = τ) (h : g τ = .nx t) : runF n N g ds = .ok .non := by
  unfold runF
  rw [if_pos hl, ht, h]
  rfl
theorem eT_ok {f : SD → Res D} {τ : SD} {b : Bool} (h : f τ = .ok (.bl b)) : eT f τ = .ok b := by
  unfold eT
  rw [h]
  rfl
theorem if_f {c : SD → Res Bool} {a b : SF} {τ : SD} (h : c τ = .ok false) : sIf c a b τ = b τ := by rw [if_nx h]; rfl
theorem if_t {c : SD → Res Bool} {a b : SF} {τ : SD} (h : c τ = .ok true) : sIf c a b τ = a τ := by rw [if_nx h]; rfl
theorem expr_nx {f : SD → Res D} {τ : SD} {d : D} (h : f τ = .ok d) : sExpr f τ = .nx τ := by
  unfold sExpr
  rw [h]
  rfl
theorem and_f {f g : SD → Res Bool} {τ : SD} (h : f τ = .ok false) : bAnd f g τ = .ok false := by unfold bAnd; rw [h]; rfl
theorem and_t {f g : SD → Res Bool} {τ : SD} {b : Bool} (h : f τ = .ok true) (h2 : g τ = .ok b) : bAnd f g τ = .ok b := by unfold bAnd; rw [h, Res.bind_ok, if_pos rfl, h2]
theorem not_ok {f : SD → Res Bool} {τ : SD} {b : Bool} (h : f τ = .ok b) : bNot f τ = .ok (!b) := by unfold bNot; rw [h]; rfl
theorem if_rt {c : SD → Res Bool} {a b s : SF} {τ : SD} {d : D} (h : c τ = .ok true) (h2 : a τ = .rt d) : sSeq (sIf c a b) s τ = .rt d := by
  unfold sSeq
  rw [if_t h, h2]
  rfl
theorem if_go {c : SD → Res Bool} {a s : SF} {τ : SD} (h : c τ = .ok false) : sSeq (sIf c a sNext) s τ = s τ := by
  refine seq_nx ?_
  rw [if_f h]
  rfl
theorem eand_t {f g : SD → Res D} {τ : SD} (h : f τ = .ok (.bl true)) : eAnd f g τ = g τ := by unfold eAnd; rw [h]; rfl
theorem expr_ex {f : SD → Res D} {τ : SD} {C : PySem.Addr} (h : f τ = .exn C) : sExpr f τ = .ex C τ := by
  unfold sExpr
  rw [h]
  rfl
theorem set_ex {i : Nat} {f : SD → Res D} {τ : SD} {C : PySem.Addr} (h : f τ = .exn C) : sSet i f τ = .ex C τ := by
  unfold sSet
  rw [h]
  rfl
theorem seq_exn {a b : SF} {τ t : SD} {C : PySem.Addr} (h : a τ = .ex C t) : sSeq a b τ = .ex C t := by
  unfold sSeq
  rw [h]
  rfl
theorem seq_rt {a b : SF} {τ : SD} {d : D} (h : a τ = .rt d) : sSeq a b τ = .rt d := by
  unfold sSeq
  rw [h]
  rfl
theorem run_ex {n N : Nat} {g : SF} {ds : List D} {τ t : SD} {C : PySem.Addr} (hl : ds.length = n) (ht : ds.map some ++ List.replicate (N - n) none = τ) (h : g τ = .ex C t) : runF n N g ds = .exn C := by
  unfold runF
  rw [if_pos hl, ht, h]
  rfl
theorem try_ex {g : SF} {p : PySem.Addr → Bool} {G : DF} {τ t : SD} {C : PySem.Addr} {d : D} (h : g τ = .ex C t) (hc : p C = true) (hG : G [.exc C] = .ok d) : sTryW g p G τ = .rt d := by
  unfold sTryW
  rw [h]
  show (if p C = true then (match G [.exc C] with | .ok d => Fl.rt d | _ => .bad) else .bad) = _
  rw [if_pos hc, hG]
theorem try_nx {g : SF} {p : PySem.Addr → Bool} {G : DF} {τ t : SD} (h : g τ = .nx t) : sTryW g p G τ = .nx t := by
  unfold sTryW
  rw [h]
theorem ix_two {a b i : Int} (h : i = 0 ∨ i = 1) : ∃ v, ixD (.lst .own [.int a, .int b]) (.int i) = .ok (.int v) := by
  rcases h with rfl | rfl
  · exact ⟨a, ix_lst (j := 0) rfl rfl⟩
  · exact ⟨b, ix_lst (j := 1) rfl rfl⟩
noncomputable def Apart (ca : PySem.Str → PySem.Addr) (NM : List PySem.Str) : Prop := ∀ x y, x ∈ NM → y ∈ NM → ca x = ca y → x = y
theorem add_ok {f g : SD → Res D} {τ : SD} {a b : Int} (h : f τ = .ok (.int a)) (h2 : g τ = .ok (.int b)) : eBin addD f g τ = .ok (.int (a + b)) := by rw [eBin_ok h h2]; rfl
theorem cut_map (xs : List Int) (a b : Option Int) : DL.cut (xs.map D.int) a b = (DL.cut xs a b).map D.int := by
  unfold DL.cut
  simp [List.map_drop, List.map_take]
theorem mod_pos {i j : Int} (h : 0 < j) : modD (.int i) (.int j) = .ok (.int (i % j)) := by
  show (if (0 : Int) < j then _ else _) = _
  exact if_pos h
theorem mod_big (i : Int) : modD (.int i) (.int big) = .ok (.int (i % big)) := mod_pos big_pos
theorem eq_self (i : Int) : eqD (.int i) (.int i) = .ok (.bl true) := by
  show Res.ok (D.bl (xor false (decide (i = i)))) = _
  rw [decide_eq_true rfl]
  rfl
theorem pair_eq (o t : Int) : G_pair [.int o, .int t] = .ok (.tup [.int (N2.keyOf o t).1, .int (N2.keyOf o t).2]) := by
  unfold N2.keyOf
  refine run_rt rfl rfl (ret_rt ?_ rfl)
  unfold eIf
  rw [gti_ok (a := o) (b := t) rfl rfl]
  by_cases h : o > t
  · rw [decide_eq_true h, if_pos h]; rfl
  · rw [decide_eq_false h, if_neg h]; rfl
theorem like_int (n : Nat) (i : Int) : G__law_like (n + 1) [.int i, .int i] = .ok (.bl true) := by
  refine run_rt (τ := [some (.int i), some (.int i), none]) rfl rfl ?_
  unfold g__law_like
  rw [if_go rfl, if_go rfl]
  refine if_rt rfl (ret_rt ?_ rfl)
  rw [eand_t rfl, eand_t rfl, eBin_ok (x := .int i) (y := .int i) rfl rfl]
  exact eq_self i
theorem like_str (n : Nat) (s : PySem.Str) : G__law_like (n + 1) [.str s, .str s] = .ok (.bl true) := by
  refine run_rt (τ := [some (.str s), some (.str s), none]) rfl rfl ?_
  unfold g__law_like
  rw [if_go rfl, if_go rfl, if_go rfl]
  refine if_rt rfl (ret_rt ?_ rfl)
  rw [eand_t rfl, eBin_ok (x := .str s) (y := .str s) rfl rfl]
  have e : (s == s) = true := beq_self_eq_true s
  first
    | (show Res.ok (D.bl (xor false (decide (s = s)))) = _; rw [decide_eq_true rfl]; rfl)
    | (show Res.ok (D.bl (xor false (s == s))) = _; rw [e]; rfl)
    | simp [eqD, eqFlat, ofO]
noncomputable abbrev S (ns : List Int) : D := .lst .frz (ns.map D.int)
theorem cell_out {ns : List Int} {k : Int} (h1 : ¬ k < ns.length) : M.cell ns k = 0 := by
  unfold M.cell
  rw [List.getD_eq_getElem?_getD, List.getElem?_eq_none (by omega)]
  rfl
theorem at_ints {ns : List Int} {i : Nat} (h : i < ns.length) : (ns.map D.int)[i]? = some (.int (ns.getD i 0)) := by
  rw [List.getElem?_map, List.getElem?_eq_getElem h, List.getD_eq_getElem?_getD, List.getElem?_eq_getElem h]; rfl
theorem cell_eq (ns : List Int) {k : Int} (h : 0 ≤ k) : G__law_cell [S ns, .int k] = .ok (.int (M.cell ns k)) := by
  refine run_rt (τ := [some (S ns), some (.int k)]) rfl rfl ?_
  have v0 : eVar 0 [some (S ns), some (.int k)] = .ok (S ns) := var_frz rfl (pure_ints ns)
  have l0 := len_ok v0
  rw [List.length_map] at l0
  have t := lti_ok (f := eVar 1) (a := k) rfl l0
  unfold g__law_cell
  by_cases h1 : k < ns.length
  · rw [decide_eq_true h1] at t
    exact if_rt t (ret_rt (ix_ok v0 (y := .int k) rfl (ix_lst (j := k.toNat) (by omega) (at_ints (by omega)))) rfl)
  · rw [decide_eq_false h1] at t
    rw [if_go t, cell_out h1]
    rfl
theorem many_eq (c : Int) : G__law_many [.int c] = .ok (.int (M.many c)) := by
  refine run_rt (τ := [some (.int c)]) rfl rfl ?_
  have t := eqi_ok (τ := [some (.int c)]) (mod_ok (fdiv_ok (f := eVar 0) (a := c) rfl (by decide : (0 : Int) < 9 ∧ (9 : Int) < 1073741824)) (by decide : (0 : Int) < 8)) (g := eC (.int 1)) (b := 1) rfl
  unfold g__law_many M.many
  by_cases h1 : c / 9 % 8 = 1
  · rw [decide_eq_true h1] at t
    rw [if_pos h1]
    exact if_rt t (ret_rt (add_ok (f := eC (.int 1)) (a := 1) rfl (mod_ok (fdiv_ok (f := eVar 0) (a := c) rfl (by decide : (0 : Int) < 72 ∧ (72 : Int) < 1073741824)) (by decide : (0 : Int) < 24))) rfl)
  · rw [decide_eq_false h1] at t
    rw [if_go t, if_neg h1]
    exact ret_rt (add_ok (f := eC (.int 1)) (a := 1) rfl (mod_ok (f := eVar 0) (a := c) rfl (by decide : (0 : Int) < 9))) rfl
noncomputable def stP (ns : List Int) (a : Int) (n i : Nat) : SD := [some (S ns), some (.int a), some (.int n), some (.int (M.cell ns a)), some (.int (M.cell ns (a + 1))), some (.int (M.place big ns a i)), some (.lst .own ((M.places big ns a i).map D.int)), if i = 0 then none else some (.int ((i : Int) - 1))]
theorem places_succ (ns : List Int) (a : Int) (i : Nat) : M.places big ns a (i + 1) = M.places big ns a i ++ [M.place big ns a i] := by
  unfold M.places
  rw [List.range_succ, List.map_append]
  rfl
theorem gap_ix (ns : List Int) (a : Int) : ixD (.lst .own [.int 1, .int 3, .int (10 ^ 29)]) (.int (M.cell ns (a + 1) % 3)) = .ok (.int (M.gap ns a)) := by
  unfold M.gap
  have h : M.cell ns (a + 1) % 3 = 0 ∨ M.cell ns (a + 1) % 3 = 1 ∨ M.cell ns (a + 1) % 3 = 2 := by omega
  rcases h with h | h | h <;> rw [h] <;> rfl
theorem places_turn (ns : List Int) {a : Int} {n i : Nat} (hi : i < 64) (o : Option D) : g__law_places_b1 [some (S ns), some (.int a), some (.int n), some (.int (M.cell ns a)), some (.int (M.cell ns (a + 1))), some (.int (M.place big ns a i)), some (.lst .own ((M.places big ns a i).map D.int)), some (.int (i : Int))] = .nx (stP ns a n (i + 1)) := by
  unfold g__law_places_b1
  rw [seq_nx (app_nx (i := 6) (xs := (M.places big ns a i).map D.int) (d := .int (M.place big ns a i)) rfl rfl rfl (by rw [List.length_map, M.places_len]; omega))]
  show sSet 5 _ [some (S ns), some (.int a), some (.int n), some (.int (M.cell ns a)), some (.int (M.cell ns (a + 1))), some (.int (M.place big ns a i)), some (.lst .own ((M.places big ns a i).map D.int ++ [.int (M.place big ns a i)])), some (.int (i : Int))] = _
  generalize hτ : [some (S ns), some (.int a), some (.int n), some (.int (M.cell ns a)), some (.int (M.cell ns (a + 1))), some (.int (M.place big ns a i)), some (.lst .own ((M.places big ns a i).map D.int ++ [.int (M.place big ns a i)])), some (.int (i : Int))] = τ
  have v4 : eVar 4 τ = .ok (.int (M.cell ns (a + 1))) := by rw [← hτ]; rfl
  have v5 : eVar 5 τ = .ok (.int (M.place big ns a i)) := by rw [← hτ]; rfl
  have v7 : eVar 7 τ = .ok (.int (i : Int)) := by rw [← hτ]; rfl
  have q1 : eBin fdivD (eVar 4) (eBin addD (eVar 7) (eC (.int 1))) τ = .ok (.int (M.cell ns (a + 1) / ((i : Int) + 1))) := by
    rw [eBin_ok v4 (add_ok v7 (g := eC (.int 1)) (b := 1) rfl)]
    show (if (0 : Int) < (i : Int) + 1 ∧ (i : Int) + 1 < 1073741824 then _ else _) = _
    exact if_pos (by omega)
  have q2 : eBin ixD (eA lstD (aCons (eC (.int 1)) (aCons (eC (.int 3)) (aCons (eBin powD (eC (.int 10)) (eC (.int 29))) aNil)))) (eBin modD (eVar 4) (eC (.int 3))) τ = .ok (.int (M.gap ns a)) :=
    ix_ok (x := .lst .own [.int 1, .int 3, .int (10 ^ 29)]) rfl (mod_ok v4 (by decide : (0 : Int) < 3)) (gap_ix ns a)
  rw [set_nx (add_ok (add_ok v5 (g := eC (.int 1)) (b := 1) rfl) ((eBin_ok q1 q2).trans (mod_pos (M.gap_pos ns a)))) rfl, ← hτ]
  unfold stP
  rw [places_succ, List.map_append, if_neg (Nat.succ_ne_zero i)]
  have e : (((i + 1 : Nat) : Int) - 1) = i := by omega
  rw [e]
  rfl
theorem places_loop (ns : List Int) {a : Int} {n : Nat} (hn : n ≤ 64) : forD (gN 7) g__law_places_b1 ((List.range n).map fun k : Nat => D.int (k : Int)) (stP ns a n 0) = .nx (stP ns a n n) := by
  have key := forD_eq (tg := gN 7) (body := g__law_places_b1) (stP ns a n) (ds := (List.range n).map fun k : Nat => D.int (k : Int)) 0 fun j d hd => by
    have hj : j < n := by
      have := (List.getElem?_eq_some_iff.mp hd).1
      simpa using this
    have ed : d = .int (j : Int) := by
      rw [List.getElem?_map, List.getElem?_range hj] at hd
      exact (Option.some.inj hd).symm
    subst ed
    rw [Nat.zero_add]
    exact ⟨_, rfl, places_turn ns (by omega) none⟩
  rw [List.length_map, List.length_range, Nat.zero_add] at key
  exact key
theorem places_s3 (ns : List Int) {a : Int} {n : Nat} : (sIf (eT (eBin eqD (eBin modD (eVar 3) (eC (.int 2))) (eC (.int 1)))) (sSet 5 (eBin modD (eBin fdivD (eVar 3) (eC (.int 2))) (eBin powD (eC (.int 10)) (eC (.int 30))))) sNext) [some (S ns), some (.int a), some (.int n), some (.int (M.cell ns a)), some (.int (M.cell ns (a + 1))), some (.int (M.cell ns a / 2 % 4)), none, none] = .nx [some (S ns), some (.int a), some (.int n), some (.int (M.cell ns a)), some (.int (M.cell ns (a + 1))), some (.int (M.place big ns a 0)), none, none] := by
  have e3 := M.place_zero big ns a
  rw [e3]
  have t := eqi_ok (τ := [some (S ns), some (.int a), some (.int n), some (.int (M.cell ns a)), some (.int (M.cell ns (a + 1))), some (.int (M.cell ns a / 2 % 4)), none, none]) (mod_ok (f := eVar 3) (a := M.cell ns a) rfl (by decide : (0 : Int) < 2)) (g := eC (.int 1)) (b := 1) rfl
  by_cases h1 : M.cell ns a % 2 = 1
  · rw [decide_eq_true h1] at t
    rw [if_pos h1, if_t t]
    exact set_nx ((eBin_ok (fdiv_ok (f := eVar 3) (a := M.cell ns a) rfl (by decide : (0 : Int) < 2 ∧ (2 : Int) < 1073741824)) (bigE _)).trans (mod_big _)) rfl
  · rw [decide_eq_false h1] at t
    rw [if_neg h1, if_f t]
    rfl
theorem places_s5 (ns : List Int) {a : Int} {n : Nat} (hn : n ≤ 64) : sFor [] (eRng1 (aCons (eVar 2) aNil)) (gN 7) g__law_places_b1 (stP ns a n 0) = .nx (stP ns a n n) := by
  have hi : eRng1 (aCons (eVar 2) aNil) (stP ns a n 0) = .ok (false, (List.range n).map fun k : Nat => D.int (k : Int)) := by
    unfold eRng1
    rw [aOne (d := .int n) rfl, Res.bind_ok, range1_nat (by omega)]
  unfold sFor
  rw [show frzAt [] (stP ns a n 0) = stP ns a n 0 from rfl, hi]
  have : frzL ((List.range n).map fun k : Nat => D.int (k : Int)) = (List.range n).map fun k : Nat => D.int (k : Int) := frzL_ints _ _
  simp only [this]
  exact places_loop ns (a := a) hn
theorem places_eq (ns : List Int) {a : Int} {n : Nat} (ha : 0 ≤ a) (hn : n ≤ 64) : G__law_places [S ns, .int a, .int n] = .ok (.lst .own ((M.places big ns a n).map D.int)) := by
  refine run_rt (τ := [some (S ns), some (.int a), some (.int n), none, none, none, none, none]) rfl rfl ?_
  have cc : ∀ {τ : SD} {f : SD → Res D} {k : Int}, τ[0]? = some (some (S ns)) → f τ = .ok (.int k) → 0 ≤ k → eCall G__law_cell (aCons (eVar 0) (aCons f aNil)) τ = .ok (.int (M.cell ns k)) := fun h hf hk =>
    eCall_own (ds := [S ns, .int _]) (aCons_ok (var_frz h (pure_ints ns)) (aOne hf)) (by simpa [frzL, D.frz] using cell_eq ns hk) (by simp [hasBorL, D.hasBor])
  unfold g__law_places
  rw [seq_nx (set_nx (cc (f := eVar 1) rfl rfl ha) rfl)]
  rw [seq_nx (set_nx (cc rfl (add_ok (f := eVar 1) (a := a) rfl (g := eC (.int 1)) (b := 1) rfl) (by omega)) rfl)]
  rw [seq_nx (set_nx (mod_ok (fdiv_ok (f := eVar 3) (a := M.cell ns a) rfl (by decide : (0 : Int) < 2 ∧ (2 : Int) < 1073741824)) (by decide : (0 : Int) < 4)) rfl)]
  show sSeq _ _ [some (S ns), some (.int a), some (.int n), some (.int (M.cell ns a)), some (.int (M.cell ns (a + 1))), some (.int (M.cell ns a / 2 % 4)), none, none] = _
  rw [seq_nx (places_s3 ns)]
  rw [seq_nx (set_nx (d := .lst .own []) rfl rfl)]
  show sSeq _ _ (stP ns a n 0) = _
  exact (seq_nx (places_s5 ns (a := a) hn)).trans rfl
end KL
set_option Elab.async false
set_option linter.all false
set_option maxRecDepth 100000
set_option maxHeartbeats 1000000
namespace KL
open DL XF
theorem isX_eq (ca : PySem.Str → PySem.Addr) (x : PySem.Str) (C : PySem.Addr) : isX ca x C = (decide (ca x = C) || decide (ca x = ca "NetError")) := by
  unfold isX
  rw [Bool.eq_iff_iff]
  simp [List.contains_iff_mem, veM]
section
variable {ca : PySem.Str → PySem.Addr} {NM : List PySem.Str}
theorem isX_self (c : PySem.Str) : isX ca c (ca c) = true := by simp [isX_eq]
theorem isX_ne (h : Apart ca NM) {x c : PySem.Str} (hx : x ∈ NM) (hc : c ∈ NM) (h0 : ("NetError" : PySem.Str) ∈ NM) (n1 : x ≠ c) (n2 : x ≠ "NetError") : isX ca x (ca c) = false := by
  rw [isX_eq, decide_eq_false fun e => n1 (h _ _ hx hc e), decide_eq_false fun e => n2 (h _ _ hx h0 e)]
  rfl
noncomputable def names : List PySem.Str := ["NetError", "NoNet", "NoPlace", "SamePlace", "Twice", "Taken", "NoColours", "NoSet", "NoParting", "NoGroup", "TooMany", "NoDeed", "Unlike", "NoText", "NoRow", "NoName"]
theorem inst_at {L : List PySem.Addr} {p : PySem.Addr → Bool} {C : PySem.Addr} {τ : SD} {b : Bool} (h0 : τ[0]? = some (some (.exc C))) (hL : L.contains C = true) (hp : p C = b) : eUn (instXD L p) (eVar 0) τ = .ok (.bl b) := by
  unfold eUn
  rw [var_pure h0 rfl]
  show (if L.contains C = true then Res.ok (D.bl (p C)) else .bad) = _
  rw [if_pos hL, hp]
theorem word_eq (h : Apart ca names) {c : PySem.Str} (hL : (leaf ca).contains (ca c) = true) {b1 b2 b3 b4 b5 b6 b7 b8 b9 : Bool} {r : PySem.Str}
    (e1 : isX ca "NoNet" (ca c) = b1) (e2 : isX ca "NoPlace" (ca c) = b2) (e3 : isX ca "SamePlace" (ca c) = b3) (e4 : isX ca "Twice" (ca c) = b4) (e5 : isX ca "Taken" (ca c) = b5) (e6 : isX ca "NoColours" (ca c) = b6) (e7 : isX ca "NoSet" (ca c) = b7) (e8 : isX ca "NoParting" (ca c) = b8) (e9 : isX ca "NoGroup" (ca c) = b9)
    (e10 : isXs ca ["TooMany", "NoDeed", "Unlike", "NoText", "NoRow", "NoName"] (ca c) = false)
    (hr : eComp (eRng1 (aCons (eC (.int 9)) aNil)) (gN 0) (g__law_word_c1 ca) (g__law_word_e2 ca) 1 [("_law_words", 3), ("_law_named", 1)] [some (.exc (ca c)), some (.lst .own [.bl b1, .bl b2, .bl b3, .bl b4, .bl b5, .bl b6, .bl b7, .bl b8, .bl b9]), some (.bl false), some (.lst .own [.str "NoNet", .str "NoPlace", .str "SamePlace", .str "Twice", .str "Taken", .str "NoColours", .str "NoSet", .str "NoParting", .str "NoGroup"]), none] = .ok (.lst .own [.str r])) :
    G__law_word ca [.exc (ca c)] = .ok (.str r) := by
  refine run_rt (τ := [some (.exc (ca c)), none, none, none, none]) rfl rfl ?_
  unfold g__law_word
  have z1 : eA lstD (aCons (eUn (instXD (leaf ca) (isX ca "NoNet")) (eVar 0)) (aCons (eUn (instXD (leaf ca) (isX ca "NoPlace")) (eVar 0)) (aCons (eUn (instXD (leaf ca) (isX ca "SamePlace")) (eVar 0)) (aCons (eUn (instXD (leaf ca) (isX ca "Twice")) (eVar 0)) aNil)))) [some (.exc (ca c)), none, none, none, none] = .ok (.lst .own [.bl b1, .bl b2, .bl b3, .bl b4]) := by
    rw [eA_ok (aCons_ok (inst_at rfl hL e1) (aCons_ok (inst_at rfl hL e2) (aCons_ok (inst_at rfl hL e3) (aOne (inst_at rfl hL e4)))))]
    rfl
  rw [seq_nx (set_nx z1 rfl)]
  show sSeq _ _ [some (.exc (ca c)), some (.lst .own [.bl b1, .bl b2, .bl b3, .bl b4]), none, none, none] = _
  have z2 : eBin addD (eVar 1) (eA lstD (aCons (eUn (instXD (leaf ca) (isX ca "Taken")) (eVar 0)) (aCons (eUn (instXD (leaf ca) (isX ca "NoColours")) (eVar 0)) (aCons (eUn (instXD (leaf ca) (isX ca "NoSet")) (eVar 0)) (aCons (eUn (instXD (leaf ca) (isX ca "NoParting")) (eVar 0)) aNil))))) [some (.exc (ca c)), some (.lst .own [.bl b1, .bl b2, .bl b3, .bl b4]), none, none, none] = .ok (.lst .own [.bl b1, .bl b2, .bl b3, .bl b4, .bl b5, .bl b6, .bl b7, .bl b8]) := by
    rw [eBin_ok (x := .lst .bor [.bl b1, .bl b2, .bl b3, .bl b4]) (y := .lst .own [.bl b5, .bl b6, .bl b7, .bl b8]) rfl ((eA_ok (aCons_ok (inst_at rfl hL e5) (aCons_ok (inst_at rfl hL e6) (aCons_ok (inst_at rfl hL e7) (aOne (inst_at rfl hL e8)))))).trans rfl)]
    rfl
  rw [seq_nx (set_nx z2 rfl)]
  show sSeq _ _ [some (.exc (ca c)), some (.lst .own [.bl b1, .bl b2, .bl b3, .bl b4, .bl b5, .bl b6, .bl b7, .bl b8]), none, none, none] = _
  rw [seq_nx (app_nx (xs := [.bl b1, .bl b2, .bl b3, .bl b4, .bl b5, .bl b6, .bl b7, .bl b8]) rfl (inst_at rfl hL e9) rfl (Nat.le_of_ble_eq_true rfl))]
  show sSeq _ _ [some (.exc (ca c)), some (.lst .own [.bl b1, .bl b2, .bl b3, .bl b4, .bl b5, .bl b6, .bl b7, .bl b8, .bl b9]), none, none, none] = _
  rw [seq_nx (set_nx (inst_at rfl hL e10) rfl)]
  rw [seq_nx (set_nx (d := .lst .own [.str "NoNet", .str "NoPlace", .str "SamePlace", .str "Twice", .str "Taken", .str "NoColours", .str "NoSet", .str "NoParting", .str "NoGroup"]) rfl rfl)]
  show sSeq _ _ [some (.exc (ca c)), some (.lst .own [.bl b1, .bl b2, .bl b3, .bl b4, .bl b5, .bl b6, .bl b7, .bl b8, .bl b9]), some (.bl false), some (.lst .own [.str "NoNet", .str "NoPlace", .str "SamePlace", .str "Twice", .str "Taken", .str "NoColours", .str "NoSet", .str "NoParting", .str "NoGroup"]), none] = _
  rw [seq_nx (set_nx hr rfl)]
  have t : ∀ τ : SD, τ[0]? = some (some (.exc (ca c))) → bNot (eT (eUn (instXD (leaf ca) (fun _ => true)) (eVar 0))) τ = .ok false := fun τ q => not_ok (b := true) (eT_ok (inst_at q hL rfl))
  rw [if_go (or_ok (a := false) (b := false) rfl (or_ok (a := false) (b := false) rfl (t _ rfl)))]
  rfl
theorem oth_in : ∀ x ∈ (["TooMany", "NoDeed", "Unlike", "NoText", "NoRow", "NoName"] : List PySem.Str), x ∈ names ∧ x ≠ "NetError" := by decide
theorem others_f (h : Apart ca names) {c : PySem.Str} (hc : c ∈ names) (n : c ∉ (["TooMany", "NoDeed", "Unlike", "NoText", "NoRow", "NoName"] : List PySem.Str)) : isXs ca ["TooMany", "NoDeed", "Unlike", "NoText", "NoRow", "NoName"] (ca c) = false := by
  unfold isXs
  rw [List.any_eq_false]
  intro x hx z
  rw [isX_ne h (oth_in x hx).1 hc (by decide) (fun e => n (e ▸ hx)) (oth_in x hx).2] at z
  cases z
theorem word_NoPlace (h : Apart ca names) : G__law_word ca [.exc (ca "NoPlace")] = .ok (.str "NoPlace") :=
  word_eq h (by simp [leaf]) (isX_ne h (by decide) (by decide) (by decide) (by decide) (by decide)) (isX_self _) (isX_ne h (by decide) (by decide) (by decide) (by decide) (by decide)) (isX_ne h (by decide) (by decide) (by decide) (by decide) (by decide)) (isX_ne h (by decide) (by decide) (by decide) (by decide) (by decide)) (isX_ne h (by decide) (by decide) (by decide) (by decide) (by decide)) (isX_ne h (by decide) (by decide) (by decide) (by decide) (by decide)) (isX_ne h (by decide) (by decide) (by decide) (by decide) (by decide)) (isX_ne h (by decide) (by decide) (by decide) (by decide) (by decide)) (others_f h (by decide) (by decide)) rfl
theorem word_SamePlace (h : Apart ca names) : G__law_word ca [.exc (ca "SamePlace")] = .ok (.str "SamePlace") :=
  word_eq h (by simp [leaf]) (isX_ne h (by decide) (by decide) (by decide) (by decide) (by decide)) (isX_ne h (by decide) (by decide) (by decide) (by decide) (by decide)) (isX_self _) (isX_ne h (by decide) (by decide) (by decide) (by decide) (by decide)) (isX_ne h (by decide) (by decide) (by decide) (by decide) (by decide)) (isX_ne h (by decide) (by decide) (by decide) (by decide) (by decide)) (isX_ne h (by decide) (by decide) (by decide) (by decide) (by decide)) (isX_ne h (by decide) (by decide) (by decide) (by decide) (by decide)) (isX_ne h (by decide) (by decide) (by decide) (by decide) (by decide)) (others_f h (by decide) (by decide)) rfl
theorem word_NoNet (h : Apart ca names) : G__law_word ca [.exc (ca "NoNet")] = .ok (.str "NoNet") :=
  word_eq h (by simp [leaf]) (isX_self _) (isX_ne h (by decide) (by decide) (by decide) (by decide) (by decide)) (isX_ne h (by decide) (by decide) (by decide) (by decide) (by decide)) (isX_ne h (by decide) (by decide) (by decide) (by decide) (by decide)) (isX_ne h (by decide) (by decide) (by decide) (by decide) (by decide)) (isX_ne h (by decide) (by decide) (by decide) (by decide) (by decide)) (isX_ne h (by decide) (by decide) (by decide) (by decide) (by decide)) (isX_ne h (by decide) (by decide) (by decide) (by decide) (by decide)) (isX_ne h (by decide) (by decide) (by decide) (by decide) (by decide)) (others_f h (by decide) (by decide)) rfl
theorem word_Twice (h : Apart ca names) : G__law_word ca [.exc (ca "Twice")] = .ok (.str "Twice") :=
  word_eq h (by simp [leaf]) (isX_ne h (by decide) (by decide) (by decide) (by decide) (by decide)) (isX_ne h (by decide) (by decide) (by decide) (by decide) (by decide)) (isX_ne h (by decide) (by decide) (by decide) (by decide) (by decide)) (isX_self _) (isX_ne h (by decide) (by decide) (by decide) (by decide) (by decide)) (isX_ne h (by decide) (by decide) (by decide) (by decide) (by decide)) (isX_ne h (by decide) (by decide) (by decide) (by decide) (by decide)) (isX_ne h (by decide) (by decide) (by decide) (by decide) (by decide)) (isX_ne h (by decide) (by decide) (by decide) (by decide) (by decide)) (others_f h (by decide) (by decide)) rfl
end
end KL
set_option Elab.async false
set_option linter.all false
set_option maxRecDepth 100000
set_option maxHeartbeats 1000000
namespace KL
open DL XF
noncomputable def tieD (t : N2.Tie) : D := .tup [.int t.1, .int t.2.1, .int t.2.2]
theorem pure_ties (ts : List N2.Tie) : pureL (ts.map tieD) = true := pureL_of fun d m => by obtain ⟨t, _, rfl⟩ := List.mem_map.mp m; rfl
theorem tie_nb (t : N2.Tie) : (tieD t).hasBor = false := hasBor_pure _ rfl
noncomputable def intOf : D → Int | .int i => i | _ => 0
noncomputable def kt (k : Int × Int) : KT := .inr [.inl k.1, .inl k.2]
theorem kt_inj {a b : Int × Int} : kt a = kt b ↔ a = b := by
  constructor
  · intro h
    cases a
    cases b
    simp only [kt, Sum.inr.injEq, List.cons.injEq, Sum.inl.injEq, and_true] at h
    obtain ⟨h1, h2⟩ := h
    subst h1 h2
    rfl
  · intro h
    rw [h]
noncomputable def ksOf (ts : List N2.Tie) : List KT := ts.map fun t => kt (N2.tkey t)
noncomputable def vsOf (ts : List N2.Tie) : List D := ts.map fun t => D.int t.2.2
theorem vs_pure (ts : List N2.Tie) : pureL (vsOf ts) = true := pureL_of fun d m => by obtain ⟨t, _, rfl⟩ := List.mem_map.mp m; rfl
theorem look_eq : ∀ (ts : List N2.Tie) (k : Int × Int), lookD (ksOf ts) (vsOf ts) (kt k) = (ts.find? fun t => decide (N2.tkey t = k)).map fun t => D.int t.2.2
  | [], _ => rfl
  | t :: r, k => by
    have ih := look_eq r k
    show (if kt (N2.tkey t) = kt k then some (D.int t.2.2) else lookD (ksOf r) (vsOf r) (kt k)) = _
    by_cases h : N2.tkey t = k
    · rw [if_pos (kt_inj.mpr h), List.find?_cons_of_pos (by simpa using h)]
      rfl
    · rw [if_neg fun z => h (kt_inj.mp z), List.find?_cons_of_neg (by simpa using h), ih]
theorem look_col (ts : List N2.Tie) (k : Int × Int) : (lookD (ksOf ts) (vsOf ts) (kt k)).getD (.int 0) = .int (N2.col ts k) := by
  rw [look_eq]
  unfold N2.col
  cases ts.find? fun t => decide (N2.tkey t = k) <;> rfl
theorem look_none {ts : List N2.Tie} {k : Int × Int} (h : k ∉ ts.map N2.tkey) : lookD (ksOf ts) (vsOf ts) (kt k) = none := by
  rw [look_eq, List.find?_eq_none.mpr fun t ht z => h (List.mem_map.mpr ⟨t, ht, by simpa using z⟩)]
  rfl
theorem has_none {ts : List N2.Tie} {k : Int × Int} (h : k ∉ ts.map N2.tkey) : hasK (ksOf ts) (kt k) = false := by
  unfold hasK ksOf
  rw [List.any_eq_false]
  intro x hx z
  obtain ⟨t, ht, rfl⟩ := List.mem_map.mp hx
  exact h (List.mem_map.mpr ⟨t, ht, kt_inj.mp (by simpa using z)⟩)
theorem keyK_pair (a b : Int) : keyK (.tup [.int a, .int b]) = some (kt (a, b)) := rfl
theorem nw_elt (ts : List N2.Tie) (p q : Int) : g_net_with_e1 [some (.int q), some (.dct .frz true (ksOf ts) (vsOf ts)), some (.int p)] = .ok (.int (N2.col ts (N2.keyOf p q))) := by
  unfold g_net_with_e1 eGet2
  have v : eVar 1 [some (.int q), some (.dct .frz true (ksOf ts) (vsOf ts)), some (.int p)] = .ok (.dct .frz true (ksOf ts) (vsOf ts)) := by
    show Res.ok (D.dct .frz true (ksOf ts) (viewL (vsOf ts))) = _
    rw [viewL_pure _ (vs_pure ts)]
  have c : eCall G_pair (aCons (eVar 2) (aCons (eVar 0) aNil)) [some (.int q), some (.dct .frz true (ksOf ts) (vsOf ts)), some (.int p)] = .ok (.tup [.int (N2.keyOf p q).1, .int (N2.keyOf p q).2]) :=
    eCall_own (ds := [.int p, .int q]) (aCons_ok rfl (aOne rfl)) (pair_eq p q) rfl
  rw [v, Res.bind_ok, if_pos (show isDc (D.dct .frz true (ksOf ts) (vsOf ts)) = true from rfl), c, Res.bind_ok]
  show (if (kt (N2.keyOf p q)).kind = true then Res.ok ((lookD (ksOf ts) (vsOf ts) (kt (N2.keyOf p q))).getD (.int 0)) else .bad) = _
  rw [if_pos (show (kt (N2.keyOf p q)).kind = true from rfl), look_col]
noncomputable def nwSt (qs ps : List Int) (ts : List N2.Tie) (acc : List (List Int)) (a b : Option D) : SD := [some (.lst .frz (qs.map .int)), some (.dct .frz true (ksOf ts) (vsOf ts)), some (.lst .frz (ps.map .int)), some (.lst .own (acc.map fun r => .tup (r.map .int))), a, b]
theorem nw_body (qs ps : List Int) (ts : List N2.Tie) (acc : List (List Int)) {i : Nat} {p : Int} (hi : i ≤ ps.length) (hl : ps.length ≤ 24) (ha : acc.length ≤ 24) :
    g_net_with_b2 (nwSt qs ps ts acc (some (.int i)) (some (.int p))) = .nx (nwSt qs ps ts (acc ++ [(ps.take i).map fun q => N2.col ts (N2.keyOf p q)]) (some (.int i)) (some (.int p))) := by
  have hc := eComp_all (it := eIt (eCut (eVar 2) eP0 (eP (eVar 4)))) (elt := g_net_with_e1) (cap := [("colours", 1), ("place", 5)]) (τ := nwSt qs ps ts acc (some (.int i)) (some (.int p))) (fl := false) (ds := (ps.take i).map D.int) (fun d => .int (N2.col ts (N2.keyOf p (intOf d))))
    (by
      have z : eCut (eVar 2) eP0 (eP (eVar 4)) (nwSt qs ps ts acc (some (.int i)) (some (.int p))) = .ok (.lst .own ((ps.take i).map D.int)) := by
        unfold eCut
        rw [var_frz (xs := ps.map .int) rfl (pure_ints _)]
        show cutD (.lst .frz (ps.map .int)) none (some (i : Int)) = _
        simp [cutD, cut_to, List.map_take]
      unfold eIt
      rw [z]
      show Res.ok ((D.lst .own ((ps.take i).map D.int)).hasBor, _) = _
      rw [bor_own (pure_ints _)])
    (fun d hd => by
      rw [frz_ints] at hd
      obtain ⟨q, hq, rfl⟩ := List.mem_map.mp hd
      refine ⟨?_, rfl⟩
      have e := nw_elt ts p q
      have : capD (nwSt qs ps ts acc (some (.int i)) (some (.int p))) [("colours", 1), ("place", 5)] = [some (.dct .frz true (ksOf ts) (vsOf ts)), some (.int p)] := by
        show [some (D.dct .frz true (ksOf ts) (frzL (vsOf ts))), some (.int p)] = _
        rw [frzL_pure _ (vs_pure ts)]
      rw [this]
      exact e) (by rw [List.length_map, List.length_take]; omega)
  unfold g_net_with_b2
  rw [app_nx (xs := acc.map fun r => .tup (r.map .int)) (d := .tup (((ps.take i).map fun q => N2.col ts (N2.keyOf p q)).map .int)) rfl ?_ (hasBor_pure _ (pure_ints _)) (by rw [List.length_map]; omega)]
  · unfold nwSt
    rw [List.map_append]
    rfl
  · rw [eA_ok (aOne hc)]
    show Res.ok (D.tup _) = _
    rw [frz_ints, List.map_map, List.map_map]
    rfl
theorem with_eq (qs ps : List Int) (ts : List N2.Tie) (hp : qs.Perm ps) (hs : ps.Pairwise (· < ·)) (hl : ps.length ≤ 24) : G_net_with [.lst .frz (qs.map .int), .dct .frz true (ksOf ts) (vsOf ts)] = .ok (netD ps (N2.rowsOf ps ts)) := by
  have hso : sortI qs = ps := N2.sorted_eq ((sortI_perm qs).trans hp) (sortI_sorted qs) hs
  have hql : qs.length ≤ 24 := by rw [hp.length_eq]; exact hl
  refine run_rt rfl rfl ?_
  show g_net_with [some (.lst .frz (qs.map .int)), some (.dct .frz true (ksOf ts) (vsOf ts)), none, none, none, none] = _
  unfold g_net_with
  have q1 : eA sortedD (aCons (eVar 0) aNil) [some (.lst .frz (qs.map .int)), some (.dct .frz true (ksOf ts) (vsOf ts)), none, none, none, none] = .ok (.lst .own (ps.map .int)) := by
    rw [eA_ok (aOne (var_frz rfl (pure_ints qs)))]
    show (match intsOf (qs.map D.int) with | some ns => if ns.length < 64 then Res.ok (D.lst .own ((sortI ns).map D.int)) else .bad | none => .bad) = _
    rw [intsOf_map]
    show (if qs.length < 64 then Res.ok (D.lst .own ((sortI qs).map D.int)) else .bad) = _
    rw [if_pos (by omega), hso]
  rw [seq_nx (set_nx q1 (bor_own (pure_ints _))), seq_nx (set_nx (d := .lst .own []) rfl rfl)]
  have key : ∃ a b, sFor [2] (eEnum (aCons (eVar 2) aNil)) (gT 2 (gsCons 4 (gsCons 5 gsNil))) g_net_with_b2 [some (.lst .frz (qs.map .int)), some (.dct .frz true (ksOf ts) (vsOf ts)), some (.lst .own (ps.map .int)), some (.lst .own []), none, none] = .nx (nwSt qs ps ts (N2.rowsOf ps ts) a b) := by
    obtain ⟨t, h1, a, b, h2⟩ := forD_inv (tg := gT 2 (gsCons 4 (gsCons 5 gsNil))) (body := g_net_with_b2) (fun i t => ∃ a b, t = nwSt qs ps ts ((List.range i).map fun i => (ps.take i).map fun q => N2.col ts (N2.keyOf (ps.getD i 0) q)) a b) (ds := enumD (ps.map D.int)) 0 (nwSt qs ps ts [] none none) ⟨none, none, rfl⟩ (fun k x t hx hp => by
      obtain ⟨q3, q4, rfl⟩ := hp
      rw [Nat.zero_add]
      have hk : k < ps.length := by
        have := (List.getElem?_eq_some_iff.mp hx).1
        simpa [enumD] using this
      have ex : x = .tup [.int k, .int (ps.getD k 0)] := by
        simp [enumD, hk] at hx
        rw [← hx]
        simp [hk]
      subst ex
      have e := nw_body qs ps ts ((List.range k).map fun i => (ps.take i).map fun q => N2.col ts (N2.keyOf (ps.getD i 0) q)) (i := k) (p := ps.getD k 0) (by omega) hl (by simp; omega)
      refine ⟨_, _, rfl, .inl e, some (.int k), some (.int (ps.getD k 0)), ?_⟩
      rw [List.range_succ, List.map_append]
      rfl)
    have hlen : (enumD (ps.map D.int)).length = ps.length := by simp [enumD]
    rw [hlen, Nat.zero_add] at h2
    refine ⟨a, b, ?_⟩
    unfold N2.rowsOf
    rw [← h2, ← h1]
    unfold sFor
    have hf : frzAt [2] [some (.lst .frz (qs.map .int)), some (.dct .frz true (ksOf ts) (vsOf ts)), some (.lst .own (ps.map .int)), some (.lst .own []), none, none] = nwSt qs ps ts [] none none := by
      show [some (D.lst .frz (qs.map .int)), some (.dct .frz true (ksOf ts) (vsOf ts)), some (.lst .frz (frzL (ps.map .int))), some (.lst .own []), none, none] = _
      rw [frz_ints]
      rfl
    rw [hf]
    have hi : eEnum (aCons (eVar 2) aNil) (nwSt qs ps ts [] none none) = .ok (false, enumD (ps.map D.int)) := by
      unfold eEnum
      rw [aOne (var_frz (xs := ps.map .int) rfl (pure_ints ps)), Res.bind_ok]
      simp [itemsD, D.hasBor, Res.map]
    rw [hi]
    have : frzL (enumD (ps.map D.int)) = enumD (ps.map D.int) := by rw [frzL_enum, frz_ints]
    simp only [this]
  obtain ⟨a, b, key⟩ := key
  show sSeq _ _ [some (.lst .frz (qs.map .int)), some (.dct .frz true (ksOf ts) (vsOf ts)), some (.lst .own (ps.map .int)), some (.lst .own []), none, none] = _
  rw [seq_nx key]
  have v2 : eVar 2 (nwSt qs ps ts (N2.rowsOf ps ts) a b) = .ok (.lst .frz (ps.map .int)) := var_frz rfl (pure_ints ps)
  have v3 : eVar 3 (nwSt qs ps ts (N2.rowsOf ps ts) a b) = .ok (.lst .bor ((N2.rowsOf ps ts).map fun r => .tup (r.map .int))) := var_own rfl (pure_rows _)
  exact ret_rt ((eA_ok (aCons_ok ((eA_ok (aOne v2)).trans rfl) (aOne ((eA_ok (aOne v3)).trans rfl)))).trans rfl) (hasBor_pure _ (net_pure ps (N2.rowsOf ps ts)))
theorem fold_len : ∀ (ns acc : List Int), (acc ++ ns).Nodup → (ns.foldl PyProof.Rows.step_dedup acc).length = acc.length + ns.length
  | [], acc, _ => rfl
  | x :: r, acc, h => by
    rw [List.foldl_cons]
    have hx : acc.any (· == x) = false := by
      rw [List.any_eq_false]
      intro y hy z
      have e : y = x := by simpa using z
      subst e
      exact (List.nodup_append.mp h).2.2 y hy y List.mem_cons_self rfl
    have e : PyProof.Rows.step_dedup acc x = acc ++ [x] := by
      unfold PyProof.Rows.step_dedup
      rw [if_neg (by rw [hx]; exact Bool.false_ne_true)]
    rw [e, fold_len r (acc ++ [x]) (by simpa using h)]
    simp
    omega
theorem dd_len {ns : List Int} (h : ns.Nodup) : (L2.dd ns).length = ns.length := by
  unfold L2.dd PyProof.Rows.firstMet
  have e : (List.range ns.length).map (fun i => ns.getD i 0) = ns := by
    refine List.ext_getElem (by simp) fun i h1 h2 => ?_
    simp
    rw [List.getElem?_eq_getElem h2]
    rfl
  rw [e, fold_len ns [] (by simpa using h)]
  simp
theorem put_nx {i : Nat} {fk fv : SD → Res D} {τ : SD} {k : Bool} {ks : List KT} {xs : List D} {d dk : D} {q : KT} (hv : fv τ = .ok d) (ho : τ[i]? = some (some (.dct .own k ks xs))) (hk : fk τ = .ok dk) (hq : keyK dk = some q) (hc : q.kind = k ∧ d.hasBor = false ∧ ks.length < 16777216) (hn : hasK ks q = false) :
    sDput i fk fv τ = .nx (τ.set i (some (.dct .own k (ks ++ [q]) (xs ++ [d])))) := by
  unfold sDput
  have e : ownDc τ i = some (k, ks, xs) := by unfold ownDc; rw [ho]
  rw [hv, toFl_ok, e]
  show (fk τ).toFl τ _ = _
  rw [hk, toFl_ok, hq]
  show (if q.kind = k ∧ d.hasBor = false ∧ ks.length < 16777216 ∧ (hasK ks q = true → d.pure = true) then _ else _) = _
  rw [if_pos ⟨hc.1, hc.2.1, hc.2.2, fun z => absurd (hn.symm.trans z) Bool.false_ne_true⟩]
  unfold putKs putVs
  rw [hn]
  rfl
/-! ### steps of a loop -/
theorem forD_nx {tg : TGD} {body : SF} {x : D} {r : List D} {τ τ' t : SD} (h1 : tg x τ = some τ') (h2 : body τ' = .nx t) : forD tg body (x :: r) τ = forD tg body r t := by
  show (match tg x τ with | none => Fl.bad | some τ' => match body τ' with | .nx t => forD tg body r t | .ct t => forD tg body r t | .bk t => .nx t | o => o) = _
  rw [h1]
  show (match body τ' with | .nx t => forD tg body r t | .ct t => forD tg body r t | .bk t => Fl.nx t | o => o) = _
  rw [h2]
theorem forD_ex {tg : TGD} {body : SF} {x : D} {r : List D} {τ τ' t : SD} {C : PySem.Addr} (h1 : tg x τ = some τ') (h2 : body τ' = .ex C t) : forD tg body (x :: r) τ = .ex C t := by
  show (match tg x τ with | none => Fl.bad | some τ' => match body τ' with | .nx t => forD tg body r t | .ct t => forD tg body r t | .bk t => .nx t | o => o) = _
  rw [h1]
  show (match body τ' with | .nx t => forD tg body r t | .ct t => forD tg body r t | .bk t => Fl.nx t | o => o) = _
  rw [h2]
theorem forD_rt {tg : TGD} {body : SF} {x : D} {r : List D} {τ τ' : SD} {d : D} (h1 : tg x τ = some τ') (h2 : body τ' = .rt d) : forD tg body (x :: r) τ = .rt d := by
  show (match tg x τ with | none => Fl.bad | some τ' => match body τ' with | .nx t => forD tg body r t | .ct t => forD tg body r t | .bk t => .nx t | o => o) = _
  rw [h1]
  show (match body τ' with | .nx t => forD tg body r t | .ct t => forD tg body r t | .bk t => Fl.nx t | o => o) = _
  rw [h2]
/-! ### the places asked -/
theorem in_lst (b : Bool) (x : Int) (t : Tg) (qs : List Int) : inD b (.int x) (.lst t (qs.map .int)) = .ok (.bl (if b then !decide (x ∈ qs) else decide (x ∈ qs))) := by
  have h1 : (qs.map D.int).all D.flat = true := List.all_eq_true.mpr fun d m => by
    obtain ⟨q, _, rfl⟩ := List.mem_map.mp m
    rfl
  have h2 : inF (.int x) (qs.map D.int) = decide (x ∈ qs) := by
    unfold inF
    rw [Bool.eq_iff_iff, List.any_eq_true, decide_eq_true_eq]
    constructor
    · rintro ⟨y, hy, e⟩
      obtain ⟨z, hz, rfl⟩ := List.mem_map.mp hy
      have e : z = x := by first | exact of_decide_eq_true e | exact eq_of_beq e | simpa [eqF] using e
      rw [← e]
      exact hz
    · intro h
      exact ⟨.int x, List.mem_map.mpr ⟨x, h, rfl⟩, by first | exact decide_eq_true rfl | exact beq_self_eq_true x | simp [eqF]⟩
  show (if (D.int x).flat = true ∧ (qs.map D.int).all D.flat = true then Res.ok (D.bl (if b then !inF (.int x) (qs.map .int) else inF (.int x) (qs.map .int))) else .bad) = _
  rw [if_pos ⟨rfl, h1⟩, h2]
theorem notin_lst {f g : SD → Res D} {τ : SD} {x : Int} {t : Tg} {qs : List Int} (h1 : f τ = .ok (.int x)) (h2 : g τ = .ok (.lst t (qs.map .int))) : eT (eBin (inD true) f g) τ = .ok (!decide (x ∈ qs)) := eT_ok ((eBin_ok h1 h2).trans (in_lst true x t qs))
theorem isin_lst {f g : SD → Res D} {τ : SD} {x : Int} {t : Tg} {qs : List Int} (h1 : f τ = .ok (.int x)) (h2 : g τ = .ok (.lst t (qs.map .int))) : eT (eBin (inD false) f g) τ = .ok (decide (x ∈ qs)) := eT_ok ((eBin_ok h1 h2).trans (in_lst false x t qs))
section
variable (ca : PySem.Str → PySem.Addr) {qs : List Int} {x y : Int}
theorem place_in (h : x ∈ qs) : G_require_place ca [.lst .frz (qs.map .int), .int x] = .ok .non := by
  refine run_nx (t := [some (.lst .frz (qs.map .int)), some (.int x)]) rfl rfl ?_
  show g_require_place ca [some (.lst .frz (qs.map .int)), some (.int x)] = .nx _
  unfold g_require_place
  have t := notin_lst (f := eVar 1) (g := eVar 0) (τ := [some (.lst .frz (qs.map .int)), some (.int x)]) (x := x) rfl (var_frz rfl (pure_ints qs))
  rw [decide_eq_true h] at t
  rw [if_f t]
  rfl
theorem place_out (h : x ∉ qs) : G_require_place ca [.lst .frz (qs.map .int), .int x] = .exn (ca "NoPlace") := by
  refine run_ex (t := [some (.lst .frz (qs.map .int)), some (.int x)]) rfl rfl ?_
  show g_require_place ca [some (.lst .frz (qs.map .int)), some (.int x)] = .ex _ _
  unfold g_require_place
  have t := notin_lst (f := eVar 1) (g := eVar 0) (τ := [some (.lst .frz (qs.map .int)), some (.int x)]) (x := x) rfl (var_frz rfl (pure_ints qs))
  rw [decide_eq_false h] at t
  rw [if_t t]
  rfl
theorem callX_res {G : DF} {fs : SD → Res (List D)} {τ : SD} {ds : List D} {r : Res D} (ha : fs τ = .ok ds) (hG : G (frzL ds) = r) (hr : ∀ d, r = .ok d → d.pure = true) : eCallX G fs τ = r := by
  unfold eCallX
  rw [ha]
  show callX G ds = _
  unfold callX
  rw [hG]
  cases r with
  | ok d =>
    split
    · show Res.ok d.toBor = _
      rw [toBor_pure d (hr d rfl)]
    · rfl
  | exn C => split <;> rfl
  | bad => split <;> rfl
theorem non_pure : ∀ d, (Res.ok D.non = .ok d) → d.pure = true := fun d h => by cases h; rfl
theorem exn_pure {C : PySem.Addr} : ∀ d : D, ((Res.exn C : Res D) = .ok d) → d.pure = true := fun d h => by cases h
theorem frz2 (x : Int) : frzL [.lst .frz (qs.map .int), .int x] = [.lst .frz (qs.map .int), .int x] := by simp [frzL, D.frz, frz_ints]
theorem frz3 (x y : Int) : frzL [.lst .frz (qs.map .int), .int x, .int y] = [.lst .frz (qs.map .int), .int x, .int y] := by simp [frzL, D.frz, frz_ints]
theorem req_call (i : Nat) {z : Int} {r : Res D} (h : [some (D.lst .frz (qs.map .int)), some (.int x), some (.int y)][i]? = some (some (.int z))) (hG : G_require_place ca [.lst .frz (qs.map .int), .int z] = r) (hr : ∀ d, r = .ok d → d.pure = true) : eCallX (G_require_place ca) (aCons (eVar 0) (aCons (eVar i) aNil)) [some (.lst .frz (qs.map .int)), some (.int x), some (.int y)] = r :=
  callX_res (aCons_ok (var_frz rfl (pure_ints qs)) (aOne (var_pure h rfl))) (by rw [frz2]; exact hG) hr
theorem two_ok (h : x ∈ qs) (h2 : y ∈ qs) (hn : x ≠ y) : G_require_two ca [.lst .frz (qs.map .int), .int x, .int y] = .ok .non := by
  refine run_nx (t := [some (.lst .frz (qs.map .int)), some (.int x), some (.int y)]) rfl rfl ?_
  show g_require_two ca [some (.lst .frz (qs.map .int)), some (.int x), some (.int y)] = .nx _
  unfold g_require_two
  rw [seq_nx (expr_nx (req_call ca 1 rfl (place_in ca h) non_pure)), seq_nx (expr_nx (req_call ca 2 rfl (place_in ca h2) non_pure))]
  have t := eqi_ok (f := eVar 1) (g := eVar 2) (τ := [some (.lst .frz (qs.map .int)), some (.int x), some (.int y)]) (a := x) (b := y) rfl rfl
  rw [decide_eq_false hn] at t
  rw [if_f t]
  rfl
theorem two_same (h : x ∈ qs) : G_require_two ca [.lst .frz (qs.map .int), .int x, .int x] = .exn (ca "SamePlace") := by
  refine run_ex (t := [some (.lst .frz (qs.map .int)), some (.int x), some (.int x)]) rfl rfl ?_
  show g_require_two ca [some (.lst .frz (qs.map .int)), some (.int x), some (.int x)] = .ex _ _
  unfold g_require_two
  rw [seq_nx (expr_nx (req_call ca 1 rfl (place_in ca h) non_pure)), seq_nx (expr_nx (req_call ca 2 rfl (place_in ca h) non_pure))]
  have t := eqi_ok (f := eVar 1) (g := eVar 2) (τ := [some (.lst .frz (qs.map .int)), some (.int x), some (.int x)]) (a := x) (b := x) rfl rfl
  rw [decide_eq_true rfl] at t
  rw [if_t t]
  rfl
theorem two_out (h : ¬ (x ∈ qs ∧ y ∈ qs)) : G_require_two ca [.lst .frz (qs.map .int), .int x, .int y] = .exn (ca "NoPlace") := by
  refine run_ex (t := [some (.lst .frz (qs.map .int)), some (.int x), some (.int y)]) rfl rfl ?_
  show g_require_two ca [some (.lst .frz (qs.map .int)), some (.int x), some (.int y)] = .ex _ _
  unfold g_require_two
  by_cases hx : x ∈ qs
  · rw [seq_nx (expr_nx (req_call ca 1 rfl (place_in ca hx) non_pure)), seq_exn (expr_ex (req_call ca 2 rfl (place_out ca fun hy => h ⟨hx, hy⟩) exn_pure))]
  · rw [seq_exn (expr_ex (req_call ca 1 rfl (place_out ca hx) exn_pure))]
/-! ### one tie -/
noncomputable def nfSt (qs : List Int) (T ts : List N2.Tie) (a b c e : Option D) : SD := [some (.lst .frz (qs.map .int)), some (.lst .frz (T.map tieD)), some (.dct .own true (ksOf ts) (vsOf ts)), a, b, c, e]
variable {T ts : List N2.Tie} {z : Int} {e : Option D}
theorem nf_call {r : Res D} (hG : G_require_two ca [.lst .frz (qs.map .int), .int x, .int y] = r) (hr : ∀ d, r = .ok d → d.pure = true) : eCallX (G_require_two ca) (aCons (eVar 0) (aCons (eVar 3) (aCons (eVar 4) aNil))) (nfSt qs T ts (some (.int x)) (some (.int y)) (some (.int z)) e) = r :=
  callX_res (ds := [.lst .frz (qs.map .int), .int x, .int y]) (aCons_ok (var_frz rfl (pure_ints qs)) (aCons_ok rfl (aOne rfl))) (by rw [frz3]; exact hG) hr
theorem nf_out (h : ¬ (x ∈ qs ∧ y ∈ qs)) : g_net_from_b1 ca (nfSt qs T ts (some (.int x)) (some (.int y)) (some (.int z)) e) = .ex (ca "NoPlace") (nfSt qs T ts (some (.int x)) (some (.int y)) (some (.int z)) e) := by
  unfold g_net_from_b1
  rw [seq_exn (expr_ex (nf_call ca (two_out ca h) exn_pure))]
theorem nf_same (h : x ∈ qs) : g_net_from_b1 ca (nfSt qs T ts (some (.int x)) (some (.int x)) (some (.int z)) e) = .ex (ca "SamePlace") (nfSt qs T ts (some (.int x)) (some (.int x)) (some (.int z)) e) := by
  unfold g_net_from_b1
  rw [seq_exn (expr_ex (nf_call ca (two_same ca h) exn_pure))]
theorem look_isSome (ts : List N2.Tie) (k : Int × Int) : (lookD (ksOf ts) (vsOf ts) (kt k)).isSome = decide (k ∈ ts.map N2.tkey) := by
  by_cases h : k ∈ ts.map N2.tkey
  · rw [decide_eq_true h, look_eq, Option.isSome_map, List.find?_isSome]
    obtain ⟨t, ht, e⟩ := List.mem_map.mp h
    exact ⟨t, ht, by simpa using e⟩
  · rw [decide_eq_false h, look_none h]
    rfl
noncomputable def kD (x y : Int) : D := .tup [.int (N2.keyOf x y).1, .int (N2.keyOf x y).2]
theorem nf_pair (h1 : x ∈ qs) (h2 : y ∈ qs) (hn : x ≠ y) : g_net_from_b1 ca (nfSt qs T ts (some (.int x)) (some (.int y)) (some (.int z)) e) = sSeq (sIf (eT (eBin (dinD false) (eVar 6) (eVar 2))) (sRaise (ca "Twice")) sNext) (sDput 2 (eVar 6) (eVar 5)) (nfSt qs T ts (some (.int x)) (some (.int y)) (some (.int z)) (some (kD x y))) := by
  unfold g_net_from_b1
  have c2 : eCall G_pair (aCons (eVar 3) (aCons (eVar 4) aNil)) (nfSt qs T ts (some (.int x)) (some (.int y)) (some (.int z)) e) = .ok (kD x y) := eCall_own (ds := [.int x, .int y]) (aCons_ok rfl (aOne rfl)) (pair_eq x y) rfl
  rw [seq_nx (expr_nx (nf_call ca (two_ok ca h1 h2 hn) non_pure)), seq_nx (set_nx c2 rfl)]
  rfl
theorem nf_din : eT (eBin (dinD false) (eVar 6) (eVar 2)) (nfSt qs T ts (some (.int x)) (some (.int y)) (some (.int z)) (some (kD x y))) = .ok (decide (N2.keyOf x y ∈ ts.map N2.tkey)) := by
  refine eT_ok ((eBin_ok (x := kD x y) (y := .dct .bor true (ksOf ts) (vsOf ts)) rfl ?_).trans ?_)
  · show Res.ok (D.dct .bor true (ksOf ts) (viewL (vsOf ts))) = _
    rw [viewL_pure _ (vs_pure ts)]
  · show (if (kt (N2.keyOf x y)).kind = true then Res.ok (D.bl (xor false (lookD (ksOf ts) (vsOf ts) (kt (N2.keyOf x y))).isSome)) else .bad) = _
    rw [if_pos (show (kt (N2.keyOf x y)).kind = true from rfl), look_isSome, Bool.false_xor]
theorem nf_twice (h1 : x ∈ qs) (h2 : y ∈ qs) (hn : x ≠ y) (hk : N2.keyOf x y ∈ ts.map N2.tkey) : g_net_from_b1 ca (nfSt qs T ts (some (.int x)) (some (.int y)) (some (.int z)) e) = .ex (ca "Twice") (nfSt qs T ts (some (.int x)) (some (.int y)) (some (.int z)) (some (kD x y))) := by
  rw [nf_pair ca h1 h2 hn]
  have t := nf_din (qs := qs) (T := T) (ts := ts) (x := x) (y := y) (z := z)
  rw [decide_eq_true hk] at t
  have c4 : sIf (eT (eBin (dinD false) (eVar 6) (eVar 2))) (sRaise (ca "Twice")) sNext (nfSt qs T ts (some (.int x)) (some (.int y)) (some (.int z)) (some (kD x y))) = .ex (ca "Twice") (nfSt qs T ts (some (.int x)) (some (.int y)) (some (.int z)) (some (kD x y))) := by
    rw [if_t t]
    rfl
  exact seq_exn c4
theorem nf_body (h1 : x ∈ qs) (h2 : y ∈ qs) (hn : x ≠ y) (hk : N2.keyOf x y ∉ ts.map N2.tkey) (hl : ts.length ≤ 1000) :
    g_net_from_b1 ca (nfSt qs T ts (some (.int x)) (some (.int y)) (some (.int z)) e) = .nx (nfSt qs T (ts ++ [(x, y, z)]) (some (.int x)) (some (.int y)) (some (.int z)) (some (kD x y))) := by
  rw [nf_pair ca h1 h2 hn]
  have t := nf_din (qs := qs) (T := T) (ts := ts) (x := x) (y := y) (z := z)
  rw [decide_eq_false hk] at t
  have c4 : sIf (eT (eBin (dinD false) (eVar 6) (eVar 2))) (sRaise (ca "Twice")) sNext (nfSt qs T ts (some (.int x)) (some (.int y)) (some (.int z)) (some (kD x y))) = .nx (nfSt qs T ts (some (.int x)) (some (.int y)) (some (.int z)) (some (kD x y))) := by
    rw [if_f t]
    rfl
  rw [seq_nx c4, put_nx (d := .int z) (dk := kD x y) (q := kt (N2.keyOf x y)) (k := true) (ks := ksOf ts) (xs := vsOf ts) rfl rfl rfl rfl ⟨rfl, rfl, by unfold ksOf; rw [List.length_map]; omega⟩ (has_none hk)]
  unfold nfSt ksOf vsOf
  rw [List.map_append, List.map_append]
  rfl
/-! ### all ties -/
noncomputable def walk (qs : List Int) : List N2.Tie → List N2.Tie → PySem.Str ⊕ List N2.Tie
  | ts, [] => .inr ts
  | ts, t :: R => if ¬ (t.1 ∈ qs ∧ t.2.1 ∈ qs) then .inl "NoPlace" else if t.1 = t.2.1 then .inl "SamePlace" else if N2.tkey t ∈ ts.map N2.tkey then .inl "Twice" else walk qs (ts ++ [t]) R
noncomputable abbrev tg3 : TGD := gT 3 (gsCons 3 (gsCons 4 (gsCons 5 gsNil)))
theorem nf_tg (t : N2.Tie) (a b c e : Option D) : tg3 (tieD t) (nfSt qs T ts a b c e) = some (nfSt qs T ts (some (.int t.1)) (some (.int t.2.1)) (some (.int t.2.2)) e) := rfl
theorem nf_loop : ∀ (R ts : List N2.Tie) (a b c e : Option D), ts.length + R.length ≤ 1000 →
    (∀ w, walk qs ts R = .inl w → ∃ t, forD tg3 (g_net_from_b1 ca) (R.map tieD) (nfSt qs T ts a b c e) = .ex (ca w) t) ∧
    ∀ us, walk qs ts R = .inr us → ∃ a' b' c' e', forD tg3 (g_net_from_b1 ca) (R.map tieD) (nfSt qs T ts a b c e) = .nx (nfSt qs T us a' b' c' e')
  | [], ts, a, b, c, e, _ => by
    refine ⟨fun w h => ?_, fun us h => ?_⟩
    · cases h
    · cases h
      exact ⟨a, b, c, e, rfl⟩
  | t :: R, ts, a, b, c, e, hl => by
    rw [List.length_cons] at hl
    unfold walk
    by_cases h1 : t.1 ∈ qs ∧ t.2.1 ∈ qs
    · rw [if_neg fun z => z h1]
      by_cases h2 : t.1 = t.2.1
      · rw [if_pos h2]
        refine ⟨fun w h => ?_, fun us h => by cases h⟩
        cases h
        have e := nf_same ca (T := T) (ts := ts) (z := t.2.2) (e := e) h1.1
        have e' := e
        rw [show some (D.int t.1) = some (D.int t.1) from rfl] at e'
        exact ⟨_, forD_ex (nf_tg t a b c _) (by rw [← h2]; exact e')⟩
      · rw [if_neg h2]
        by_cases h3 : N2.tkey t ∈ ts.map N2.tkey
        · rw [if_pos h3]
          refine ⟨fun w h => ?_, fun us h => by cases h⟩
          cases h
          exact ⟨_, forD_ex (nf_tg t a b c _) (nf_twice ca h1.1 h1.2 h2 h3)⟩
        · rw [if_neg h3]
          have ih := nf_loop R (ts ++ [t]) (some (.int t.1)) (some (.int t.2.1)) (some (.int t.2.2)) (some (kD t.1 t.2.1)) (by rw [List.length_append, List.length_singleton]; omega)
          have st := forD_nx (r := R.map tieD) (nf_tg t a b c e) (nf_body ca (T := T) (z := t.2.2) (e := e) h1.1 h1.2 h2 h3 (by omega))
          rw [List.map_cons, st]
          exact ih
    · rw [if_pos h1]
      refine ⟨fun w h => ?_, fun us h => by cases h⟩
      cases h
      exact ⟨_, forD_ex (nf_tg t a b c _) (nf_out ca h1)⟩
/-! ### which refusal, or the net -/
noncomputable def badNet (qs : List Int) : Prop := qs.length = 0 ∨ 24 < qs.length ∨ ¬ qs.Nodup
instance (qs : List Int) : Decidable (badNet qs) := inferInstanceAs (Decidable (_ ∨ _ ∨ _))
theorem fold_le : ∀ (ns acc : List Int), (ns.foldl PyProof.Rows.step_dedup acc).length ≤ acc.length + ns.length
  | [], acc => Nat.le_refl _
  | x :: r, acc => by
    rw [List.foldl_cons]
    have := fold_le r (PyProof.Rows.step_dedup acc x)
    have h : (PyProof.Rows.step_dedup acc x).length ≤ acc.length + 1 := by
      unfold PyProof.Rows.step_dedup
      split <;> simp
    rw [List.length_cons]
    omega
theorem fold_lt : ∀ (ns acc : List Int), acc.Nodup → ¬ (acc ++ ns).Nodup → (ns.foldl PyProof.Rows.step_dedup acc).length < acc.length + ns.length
  | [], acc, h, n => absurd (by simpa using h) n
  | x :: r, acc, h, n => by
    rw [List.foldl_cons, List.length_cons]
    by_cases hx : x ∈ acc
    · have e : PyProof.Rows.step_dedup acc x = acc := by
        unfold PyProof.Rows.step_dedup
        rw [if_pos (by rw [List.any_eq_true]; exact ⟨x, hx, by simp⟩)]
      rw [e]
      have := fold_le r acc
      omega
    · have e : PyProof.Rows.step_dedup acc x = acc ++ [x] := by
        unfold PyProof.Rows.step_dedup
        rw [if_neg]
        rw [List.any_eq_true]
        rintro ⟨y, hy, z⟩
        have : y = x := by simpa using z
        exact hx (this ▸ hy)
      rw [e]
      have := fold_lt r (acc ++ [x]) (by
        rw [List.nodup_append]
        exact ⟨h, List.nodup_cons.mpr ⟨List.not_mem_nil, List.nodup_nil⟩, fun a ha b hb z => by
          have : b = x := by simpa using hb
          exact hx (this ▸ z ▸ ha)⟩) (by simpa using n)
      rw [List.length_append, List.length_singleton] at this
      omega
theorem dd_lt {ns : List Int} (h : ¬ ns.Nodup) : (L2.dd ns).length < ns.length := by
  unfold L2.dd PyProof.Rows.firstMet
  have e : (List.range ns.length).map (fun i => ns.getD i 0) = ns := by
    refine List.ext_getElem (by simp) fun i h1 h2 => ?_
    simp
    rw [List.getElem?_eq_getElem h2]
    rfl
  rw [e]
  have := fold_lt ns [] List.nodup_nil (by simpa using h)
  simpa using this
theorem lenSet_ok {f : SD → Res D} {τ : SD} {t : Tg} (h : f τ = .ok (.lst t (qs.map .int))) (hl : qs.length < 4000) : eUn lenSetD f τ = .ok (.int (L2.dd qs).length) := by
  unfold eUn
  rw [h, Res.bind_ok]
  show (match intsOf (qs.map D.int) with | some ns => if ns.length < 4000 then Res.ok (D.int (L2.dd ns).length) else .bad | none => .bad) = _
  rw [intsOf_map]
  show (if qs.length < 4000 then Res.ok (D.int (L2.dd qs).length) else .bad) = _
  rw [if_pos hl]
/-- what is due -/
noncomputable def dueOf (qs : List Int) (T : List N2.Tie) : PySem.Str ⊕ D :=
  if badNet qs then .inl "NoNet" else match walk qs [] T with | .inl w => .inl w | .inr us => .inr (netD (sortI qs) (N2.rowsOf (sortI qs) us))
theorem sortI_lt {qs : List Int} (h : qs.Nodup) : (sortI qs).Pairwise (· < ·) := by
  have h1 := sortI_sorted qs
  have h2 : (sortI qs).Nodup := (sortI_perm qs).nodup_iff.mpr h
  exact h1.imp₂ (fun a b x y => by omega) h2
theorem from_eq (hl : qs.length ≤ 100) (hT : T.length ≤ 100) : (∀ w, dueOf qs T = .inl w → G_net_from ca [.lst .frz (qs.map .int), .lst .frz (T.map tieD)] = .exn (ca w)) ∧ ∀ d, dueOf qs T = .inr d → G_net_from ca [.lst .frz (qs.map .int), .lst .frz (T.map tieD)] = .ok d := by
  have v0 : eVar 0 [some (.lst .frz (qs.map .int)), some (.lst .frz (T.map tieD)), none, none, none, none, none] = .ok (.lst .frz (qs.map .int)) := var_frz rfl (pure_ints qs)
  have l0 := len_ok v0
  rw [List.length_map] at l0
  have t1 := or_ok (eqi_ok l0 (g := eC (.int 0)) (b := 0) rfl) (gti_ok l0 (g := eC (.int 24)) (b := 24) rfl)
  have t2 := nei_ok (lenSet_ok v0 (by omega)) l0
  unfold dueOf
  by_cases hb : badNet qs
  · rw [if_pos hb]
    refine ⟨fun w h => ?_, fun d h => by cases h⟩
    cases h
    refine run_ex (τ := [some (.lst .frz (qs.map .int)), some (.lst .frz (T.map tieD)), none, none, none, none, none]) rfl rfl (t := [some (.lst .frz (qs.map .int)), some (.lst .frz (T.map tieD)), none, none, none, none, none]) ?_
    unfold g_net_from
    by_cases h2 : qs.length = 0 ∨ 24 < qs.length
    · have c : (decide ((qs.length : Int) = 0) || decide ((24 : Int) < qs.length)) = true := by
        rcases h2 with h | h
        · rw [decide_eq_true (by omega)]; rfl
        · rw [decide_eq_true (p := (24 : Int) < qs.length) (by omega), Bool.or_true]
      rw [c] at t1
      exact seq_exn ((if_t t1).trans rfl)
    · have c : (decide ((qs.length : Int) = 0) || decide ((24 : Int) < qs.length)) = false := by
        rw [decide_eq_false (by omega), decide_eq_false (by omega)]; rfl
      rw [c] at t1
      have hn : ¬ qs.Nodup := by
        rcases hb with h | h | h
        · exact absurd (.inl h) h2
        · exact absurd (.inr h) h2
        · exact h
      have := dd_lt hn
      rw [decide_eq_false (by omega)] at t2
      rw [if_go t1]
      exact seq_exn ((if_t t2).trans rfl)
  · rw [if_neg hb]
    have hb0 : qs.length ≠ 0 := fun h => hb (.inl h)
    have hb1 : ¬ 24 < qs.length := fun h => hb (.inr (.inl h))
    have hb2 : qs.Nodup := Classical.byContradiction fun h => hb (.inr (.inr h))
    rw [decide_eq_false (by omega), decide_eq_false (by omega)] at t1
    rw [dd_len hb2, decide_eq_true rfl] at t2
    have go : g_net_from ca [some (.lst .frz (qs.map .int)), some (.lst .frz (T.map tieD)), none, none, none, none, none] = sSeq (sFor [1] (eIt (eVar 1)) tg3 (g_net_from_b1 ca)) (sRet (eCall G_net_with (aCons (eVar 0) (aCons (eVar 2) aNil)))) (nfSt qs T [] none none none none) := by
      unfold g_net_from
      rw [if_go t1, if_go t2, seq_nx (set_nx (d := .dct .own true [] []) rfl rfl)]
      rfl
    have hz : frzL (T.map tieD) = T.map tieD := frzL_pure _ (pure_ties T)
    have loop : sFor [1] (eIt (eVar 1)) tg3 (g_net_from_b1 ca) (nfSt qs T [] none none none none) = forD tg3 (g_net_from_b1 ca) (T.map tieD) (nfSt qs T [] none none none none) := by
      unfold sFor
      have hf : frzAt [1] (nfSt qs T [] none none none none) = nfSt qs T [] none none none none := by
        show [some (D.lst .frz (qs.map .int)), some (.lst .frz (frzL (T.map tieD))), some (.dct .own true [] []), none, none, none, none] = _
        rw [hz]
        rfl
      rw [hf]
      have hi : eIt (eVar 1) (nfSt qs T [] none none none none) = .ok (false, T.map tieD) := by
        unfold eIt
        rw [var_frz (xs := T.map tieD) rfl (pure_ties T), Res.bind_ok]
        show Res.ok ((false || hasBorL (T.map tieD)), _) = _
        rw [hasBorL_pure _ (pure_ties T)]
        rfl
      rw [hi]
      simp only [hz]
    obtain ⟨n1, n2⟩ := nf_loop ca (qs := qs) (T := T) T [] none none none none (by simpa using (by omega : T.length ≤ 1000))
    cases hw : walk qs [] T with
    | inl w0 =>
      refine ⟨fun w h => ?_, fun d h => by cases h⟩
      cases h
      obtain ⟨t, ht⟩ := n1 w0 hw
      refine run_ex (τ := [some (.lst .frz (qs.map .int)), some (.lst .frz (T.map tieD)), none, none, none, none, none]) rfl rfl (t := t) ?_
      rw [go]
      exact seq_exn (loop.trans ht)
    | inr us =>
      refine ⟨fun w h => (by cases h), fun d h => ?_⟩
      cases h
      obtain ⟨a, b, c, e, ht⟩ := n2 us hw
      refine run_rt (τ := [some (.lst .frz (qs.map .int)), some (.lst .frz (T.map tieD)), none, none, none, none, none]) rfl rfl ?_
      rw [go, seq_nx (loop.trans ht)]
      refine ret_rt (eCall_pure (ds := [.lst .frz (qs.map .int), .dct .bor true (ksOf us) (vsOf us)]) (aCons_ok (var_frz rfl (pure_ints qs)) (aOne ?_)) ?_ (net_pure _ _)) (hasBor_pure _ (net_pure _ _))
      · show Res.ok (D.dct .bor true (ksOf us) (viewL (vsOf us))) = _
        rw [viewL_pure _ (vs_pure us)]
      · show G_net_with [.lst .frz (frzL (qs.map .int)), .dct .frz true (ksOf us) (frzL (vsOf us))] = _
        rw [frz_ints, frzL_pure _ (vs_pure us)]
        exact with_eq qs (sortI qs) us (sortI_perm qs).symm (sortI_lt hb2) (by rw [(sortI_perm qs).length_eq]; omega)
end
end KL
set_option Elab.async false
set_option linter.all false
set_option maxRecDepth 100000
set_option maxHeartbeats 1000000
namespace KL
open DL XF
/-! ### the law's dict: both ways round -/
theorem key_iff (a b p q : Int) : N2.keyOf a b = N2.keyOf p q ↔ (a = p ∧ b = q) ∨ (b = p ∧ a = q) := by
  unfold N2.keyOf
  split <;> split <;> simp only [Prod.mk.injEq] <;> omega
noncomputable def ks2 (ts : List N2.Tie) : List KT := ts.flatMap fun t => [kt (t.1, t.2.1), kt (t.2.1, t.1)]
noncomputable def vs2 (ts : List N2.Tie) : List D := ts.flatMap fun t => [D.int t.2.2, D.int t.2.2]
theorem vs2_pure (ts : List N2.Tie) : pureL (vs2 ts) = true := pureL_of fun d m => by
  obtain ⟨t, _, h⟩ := List.mem_flatMap.mp m
  simp only [List.mem_cons, List.not_mem_nil, or_false, or_self] at h
  rw [h]; rfl
theorem look2_eq : ∀ (ts : List N2.Tie) (p q : Int), lookD (ks2 ts) (vs2 ts) (kt (p, q)) = (ts.find? fun t => decide (N2.tkey t = N2.keyOf p q)).map fun t => D.int t.2.2
  | [], _, _ => rfl
  | t :: r, p, q => by
    have ih := look2_eq r p q
    show (if kt (t.1, t.2.1) = kt (p, q) then some (D.int t.2.2) else if kt (t.2.1, t.1) = kt (p, q) then some (D.int t.2.2) else lookD (ks2 r) (vs2 r) (kt (p, q))) = _
    by_cases h : N2.tkey t = N2.keyOf p q
    · rw [List.find?_cons_of_pos (by simpa using h)]
      rcases (key_iff _ _ _ _).mp h with ⟨h1, h2⟩ | ⟨h1, h2⟩
      · rw [if_pos (by rw [h1, h2])]; rfl
      · by_cases h3 : kt (t.1, t.2.1) = kt (p, q)
        · rw [if_pos h3]; rfl
        · rw [if_neg h3, if_pos (by rw [h1, h2])]; rfl
    · have n1 : ¬ kt (t.1, t.2.1) = kt (p, q) := fun z => h ((key_iff _ _ _ _).mpr (.inl (by have := kt_inj.mp z; simpa using this)))
      have n2 : ¬ kt (t.2.1, t.1) = kt (p, q) := fun z => h ((key_iff _ _ _ _).mpr (.inr (by have := kt_inj.mp z; simpa using this)))
      rw [if_neg n1, if_neg n2, List.find?_cons_of_neg (by simpa using h), ih]
theorem look2_col (ts : List N2.Tie) (p q : Int) : (lookD (ks2 ts) (vs2 ts) (kt (p, q))).getD (.int 0) = .int (N2.col ts (N2.keyOf p q)) := by
  rw [look2_eq]
  unfold N2.col
  cases ts.find? fun t => decide (N2.tkey t = N2.keyOf p q) <;> rfl
theorem look2_isSome (ts : List N2.Tie) (p q : Int) : (lookD (ks2 ts) (vs2 ts) (kt (p, q))).isSome = decide (N2.keyOf p q ∈ ts.map N2.tkey) := by
  rw [look2_eq, Option.isSome_map]
  by_cases h : N2.keyOf p q ∈ ts.map N2.tkey
  · rw [decide_eq_true h, List.find?_isSome]
    obtain ⟨t, ht, e⟩ := List.mem_map.mp h
    exact ⟨t, ht, by simpa using e⟩
  · rw [decide_eq_false h, List.find?_eq_none.mpr fun t ht z => h (List.mem_map.mpr ⟨t, ht, by simpa using z⟩)]
    rfl
theorem has2_none {ts : List N2.Tie} {p q : Int} (h : N2.keyOf p q ∉ ts.map N2.tkey) : hasK (ks2 ts) (kt (p, q)) = false := by
  unfold hasK ks2
  rw [List.any_eq_false]
  intro x hx z
  obtain ⟨t, ht, m⟩ := List.mem_flatMap.mp hx
  have z : x = kt (p, q) := by simpa using z
  subst z
  apply h
  refine List.mem_map.mpr ⟨t, ht, (key_iff _ _ _ _).mpr ?_⟩
  simp only [List.mem_cons, List.not_mem_nil, or_false] at m
  rcases m with m | m
  · have := kt_inj.mp m; simp only [Prod.mk.injEq] at this; exact .inl ⟨this.1.symm, this.2.symm⟩
  · have := kt_inj.mp m; simp only [Prod.mk.injEq] at this; exact .inr ⟨this.1.symm, this.2.symm⟩
theorem has2_next {ts : List N2.Tie} {x y : Int} (hn : x ≠ y) (h : N2.keyOf x y ∉ ts.map N2.tkey) : hasK (ks2 ts ++ [kt (x, y)]) (kt (y, x)) = false := by
  have h1 := has2_none (p := y) (q := x) (by rw [N2.keyOf_comm]; exact h)
  unfold hasK at h1 ⊢
  rw [List.any_append, h1, Bool.false_or]
  have : kt (x, y) ≠ kt (y, x) := fun z => hn (by have := kt_inj.mp z; simp only [Prod.mk.injEq] at this; exact this.1)
  simp [this]
theorem ks2_snoc (ts : List N2.Tie) (x y z : Int) : ks2 ts ++ [kt (x, y)] ++ [kt (y, x)] = ks2 (ts ++ [(x, y, z)]) := by
  unfold ks2
  rw [List.flatMap_append, List.append_assoc]
  rfl
theorem vs2_snoc (ts : List N2.Tie) (x y z : Int) : vs2 ts ++ [D.int z] ++ [D.int z] = vs2 (ts ++ [(x, y, z)]) := by
  unfold vs2
  rw [List.flatMap_append, List.append_assoc]
  rfl
theorem ks2_len (ts : List N2.Tie) : (ks2 ts).length = 2 * ts.length := by
  unfold ks2
  induction ts with
  | nil => rfl
  | cons t r ih => rw [List.flatMap_cons, List.length_append, ih, List.length_cons, List.length_cons, List.length_cons, List.length_nil]; omega
/-! ### one tie -/
noncomputable def duSt (qs : List Int) (T ts : List N2.Tie) (a b c r6 r7 r8 : Option D) : SD := [some (.lst .frz (qs.map .int)), some (.lst .frz (T.map tieD)), some (.dct .own true (ks2 ts) (vs2 ts)), a, b, c, r6, r7, r8]
section
variable {qs : List Int} {T ts : List N2.Tie} {x y z : Int} {r6 r7 r8 : Option D}
noncomputable abbrev duX (qs : List Int) (T ts : List N2.Tie) (x y z : Int) (r6 r7 r8 : Option D) : SD := duSt qs T ts (some (.int x)) (some (.int y)) (some (.int z)) r6 r7 r8
theorem du_t1 : bOr (eT (eBin (inD true) (eVar 3) (eVar 0))) (eT (eBin (inD true) (eVar 4) (eVar 0))) (duX qs T ts x y z r6 r7 r8) = .ok (!decide (x ∈ qs) || !decide (y ∈ qs)) :=
  or_ok (notin_lst (x := x) rfl (var_frz rfl (pure_ints qs))) (notin_lst (x := y) rfl (var_frz rfl (pure_ints qs)))
theorem du_t2 : eT (eBin eqD (eVar 3) (eVar 4)) (duX qs T ts x y z r6 r7 r8) = .ok (decide (x = y)) := eqi_ok rfl rfl
theorem du_key : eA tupD (aCons (eVar 3) (aCons (eVar 4) aNil)) (duX qs T ts x y z r6 r7 r8) = .ok (.tup [.int x, .int y]) := rfl
theorem du_t3 : eT (eBin (dinD false) (eA tupD (aCons (eVar 3) (aCons (eVar 4) aNil))) (eVar 2)) (duX qs T ts x y z r6 r7 r8) = .ok (decide (N2.keyOf x y ∈ ts.map N2.tkey)) := by
  refine eT_ok ((eBin_ok (x := .tup [.int x, .int y]) (y := .dct .bor true (ks2 ts) (vs2 ts)) rfl ?_).trans ?_)
  · show Res.ok (D.dct .bor true (ks2 ts) (viewL (vs2 ts))) = _
    rw [viewL_pure _ (vs2_pure ts)]
  · show (if (kt (x, y)).kind = true then Res.ok (D.bl (xor false (lookD (ks2 ts) (vs2 ts) (kt (x, y))).isSome)) else .bad) = _
    rw [if_pos (show (kt (x, y)).kind = true from rfl), look2_isSome, Bool.false_xor]
theorem du_out (h : ¬ (x ∈ qs ∧ y ∈ qs)) : g__law_due_b3 (duX qs T ts x y z r6 r7 r8) = .rt (.str "NoPlace") := by
  unfold g__law_due_b3
  have t := du_t1 (qs := qs) (T := T) (ts := ts) (x := x) (y := y) (z := z) (r6 := r6) (r7 := r7) (r8 := r8)
  have c : (!decide (x ∈ qs) || !decide (y ∈ qs)) = true := by
    by_cases hx : x ∈ qs
    · rw [decide_eq_false fun hy : y ∈ qs => h ⟨hx, hy⟩, Bool.not_false, Bool.or_true]
    · rw [decide_eq_false hx]; rfl
  rw [c] at t
  exact if_rt t rfl
theorem du_in (h1 : x ∈ qs) (h2 : y ∈ qs) : bOr (eT (eBin (inD true) (eVar 3) (eVar 0))) (eT (eBin (inD true) (eVar 4) (eVar 0))) (duX qs T ts x y z r6 r7 r8) = .ok false := by
  rw [du_t1, decide_eq_true h1, decide_eq_true h2]
  rfl
theorem du_same (h : x ∈ qs) : g__law_due_b3 (duX qs T ts x x z r6 r7 r8) = .rt (.str "SamePlace") := by
  unfold g__law_due_b3
  have t := du_t2 (qs := qs) (T := T) (ts := ts) (x := x) (y := x) (z := z) (r6 := r6) (r7 := r7) (r8 := r8)
  rw [decide_eq_true rfl] at t
  rw [if_go (du_in h h)]
  exact if_rt t rfl
theorem du_ne (hn : x ≠ y) : eT (eBin eqD (eVar 3) (eVar 4)) (duX qs T ts x y z r6 r7 r8) = .ok false := by
  rw [du_t2, decide_eq_false hn]
theorem du_twice (h1 : x ∈ qs) (h2 : y ∈ qs) (hn : x ≠ y) (hk : N2.keyOf x y ∈ ts.map N2.tkey) : g__law_due_b3 (duX qs T ts x y z r6 r7 r8) = .rt (.str "Twice") := by
  unfold g__law_due_b3
  have t := du_t3 (qs := qs) (T := T) (ts := ts) (x := x) (y := y) (z := z) (r6 := r6) (r7 := r7) (r8 := r8)
  rw [decide_eq_true hk] at t
  rw [if_go (du_in h1 h2), if_go (du_ne hn)]
  exact if_rt t rfl
theorem du_body (h1 : x ∈ qs) (h2 : y ∈ qs) (hn : x ≠ y) (hk : N2.keyOf x y ∉ ts.map N2.tkey) (hl : ts.length ≤ 1000) : g__law_due_b3 (duX qs T ts x y z r6 r7 r8) = .nx (duX qs T (ts ++ [(x, y, z)]) x y z r6 r7 r8) := by
  unfold g__law_due_b3
  have t := du_t3 (qs := qs) (T := T) (ts := ts) (x := x) (y := y) (z := z) (r6 := r6) (r7 := r7) (r8 := r8)
  rw [decide_eq_false hk] at t
  rw [if_go (du_in h1 h2), if_go (du_ne hn), if_go t]
  have hlen := ks2_len ts
  rw [seq_nx (put_nx (i := 2) (d := .int z) (dk := .tup [.int x, .int y]) (q := kt (x, y)) (k := true) (ks := ks2 ts) (xs := vs2 ts) rfl rfl rfl rfl ⟨rfl, rfl, by omega⟩ (has2_none hk))]
  show sDput 2 _ _ [some (.lst .frz (qs.map .int)), some (.lst .frz (T.map tieD)), some (.dct .own true (ks2 ts ++ [kt (x, y)]) (vs2 ts ++ [D.int z])), some (.int x), some (.int y), some (.int z), r6, r7, r8] = _
  rw [put_nx (i := 2) (d := .int z) (dk := .tup [.int y, .int x]) (q := kt (y, x)) (k := true) (ks := ks2 ts ++ [kt (x, y)]) (xs := vs2 ts ++ [D.int z]) rfl rfl rfl rfl ⟨rfl, rfl, by rw [List.length_append, List.length_singleton]; omega⟩ (has2_next hn hk)]
  rw [ks2_snoc ts x y z, vs2_snoc ts x y z]
  rfl
theorem du_tg (t : N2.Tie) (a b c r6 r7 r8 : Option D) : tg3 (tieD t) (duSt qs T ts a b c r6 r7 r8) = some (duX qs T ts t.1 t.2.1 t.2.2 r6 r7 r8) := rfl
theorem du_loop : ∀ (R ts : List N2.Tie) (a b c : Option D), ts.length + R.length ≤ 1000 →
    (∀ w, walk qs ts R = .inl w → forD tg3 g__law_due_b3 (R.map tieD) (duSt qs T ts a b c r6 r7 r8) = .rt (.str w)) ∧
    ∀ us, walk qs ts R = .inr us → ∃ a' b' c', forD tg3 g__law_due_b3 (R.map tieD) (duSt qs T ts a b c r6 r7 r8) = .nx (duSt qs T us a' b' c' r6 r7 r8)
  | [], ts, a, b, c, _ => by
    refine ⟨fun w h => ?_, fun us h => ?_⟩
    · cases h
    · cases h
      exact ⟨a, b, c, rfl⟩
  | t :: R, ts, a, b, c, hl => by
    rw [List.length_cons] at hl
    unfold walk
    by_cases h1 : t.1 ∈ qs ∧ t.2.1 ∈ qs
    · rw [if_neg fun z => z h1]
      by_cases h2 : t.1 = t.2.1
      · rw [if_pos h2]
        refine ⟨fun w h => ?_, fun us h => by cases h⟩
        cases h
        have e := du_same (T := T) (ts := ts) (z := t.2.2) (r6 := r6) (r7 := r7) (r8 := r8) h1.1
        exact forD_rt (du_tg t a b c _ _ _) (by rw [← h2]; exact e)
      · rw [if_neg h2]
        by_cases h3 : N2.tkey t ∈ ts.map N2.tkey
        · rw [if_pos h3]
          refine ⟨fun w h => ?_, fun us h => by cases h⟩
          cases h
          exact forD_rt (du_tg t a b c _ _ _) (du_twice h1.1 h1.2 h2 h3)
        · rw [if_neg h3]
          have ih := du_loop R (ts ++ [t]) (some (.int t.1)) (some (.int t.2.1)) (some (.int t.2.2)) (by rw [List.length_append, List.length_singleton]; omega)
          have st := forD_nx (r := R.map tieD) (du_tg t a b c r6 r7 r8) (du_body (T := T) (z := t.2.2) h1.1 h1.2 h2 h3 (by omega))
          rw [List.map_cons, st]
          exact ih
    · rw [if_pos h1]
      refine ⟨fun w h => ?_, fun us h => by cases h⟩
      cases h
      exact forD_rt (du_tg t a b c _ _ _) (du_out h1)
end
end KL
set_option Elab.async false
set_option linter.all false
set_option maxRecDepth 100000
set_option maxHeartbeats 1000000
namespace KL
open DL XF
theorem mem_ints {n : Nat} {d : D} (h : d ∈ (List.range n).map fun k : Nat => D.int (k : Int)) : ∃ k : Nat, k < n ∧ d = .int k := by
  obtain ⟨k, hk, rfl⟩ := List.mem_map.mp h
  exact ⟨k, List.mem_range.mp hk, rfl⟩
noncomputable def natOf : D → Nat | .int i => i.toNat | _ => 0
/-- how deep -/
inductive Lk : Nat → D → Prop
  | int (n : Nat) (i : Int) : Lk (n + 1) (.int i)
  | tup (n : Nat) {xs : List D} : (∀ d ∈ xs, Lk n d) → pureL xs = true → xs.length ≤ 1000 → Lk (n + 1) (.tup xs)
  | lst (n : Nat) {xs : List D} : (∀ d ∈ xs, Lk n d) → pureL xs = true → xs.length ≤ 1000 → Lk (n + 1) (.lst .frz xs)
theorem like_loop (n : Nat) {x : D} {xs : List D} (hv : ∀ τ : SD, x.view = x ∧ ∀ (j : Nat) (d : D), xs[j]? = some d → ixD x (.int j) = .ok d) (hlen : eA lenD (aCons (eVar 1) aNil) [some x, some x, none] = .ok (.int xs.length)) (hp : pureL xs = true) (hl : xs.length ≤ 1000) (ih : ∀ d ∈ xs, G__law_like n [d, d] = .ok (.bl true)) :
    sSeq (sFor [] (eRng1 (aCons (eA lenD (aCons (eVar 1) aNil)) aNil)) (gN 2) (g__law_like_b1 (G__law_like n))) (sRet (eC (.bl true))) [some x, some x, none] = .rt (.bl true) := by
  obtain ⟨t, h1, a, h2⟩ := forD_inv (tg := gN 2) (body := g__law_like_b1 (G__law_like n)) (fun i t => ∃ a, t = [some x, some x, a]) (ds := (List.range xs.length).map fun j : Nat => D.int (j : Int)) 0 [some x, some x, none] ⟨none, rfl⟩ (fun k d t hx hp' => by
    obtain ⟨a, rfl⟩ := hp'
    have hk : k < xs.length := by
      have := (List.getElem?_eq_some_iff.mp hx).1
      simpa using this
    have ex : d = .int k := by
      simp [hk] at hx
      exact hx.symm
    subst ex
    refine ⟨[some x, some x, some (.int k)], [some x, some x, some (.int k)], rfl, .inl ?_, some (.int k), rfl⟩
    have hd : xs[k]? = some xs[k] := List.getElem?_eq_getElem hk
    have e0 : eBin ixD (eVar 0) (eVar 2) [some x, some x, some (.int k)] = .ok xs[k] := ix_ok (x := x) (y := .int k) (by show Res.ok x.view = _; rw [(hv []).1]) rfl ((hv []).2 k _ hd)
    have e1 : eBin ixD (eVar 1) (eVar 2) [some x, some x, some (.int k)] = .ok xs[k] := ix_ok (x := x) (y := .int k) (by show Res.ok x.view = _; rw [(hv []).1]) rfl ((hv []).2 k _ hd)
    have hpd := pureL_mem hp xs[k] (List.getElem_mem hk)
    have c : eCall (G__law_like n) (aCons (eBin ixD (eVar 0) (eVar 2)) (aCons (eBin ixD (eVar 1) (eVar 2)) aNil)) [some x, some x, some (.int k)] = .ok (.bl true) := eCall_pure (ds := [xs[k], xs[k]]) (aCons_ok e0 (aOne e1)) (by
      show G__law_like n [xs[k].frz, xs[k].frz] = _
      rw [frz_pure _ hpd]
      exact ih _ (List.getElem_mem hk)) rfl
    unfold g__law_like_b1
    rw [if_f (not_ok (eT_ok c))]
    rfl)
  have hi : eRng1 (aCons (eA lenD (aCons (eVar 1) aNil)) aNil) (frzAt [] [some x, some x, none]) = .ok (false, (List.range xs.length).map fun j : Nat => D.int (j : Int)) := by
    unfold eRng1
    rw [show frzAt [] [some x, some x, none] = [some x, some x, none] from rfl, aOne hlen, Res.bind_ok, range1_nat (by omega)]
  have hf : sFor [] (eRng1 (aCons (eA lenD (aCons (eVar 1) aNil)) aNil)) (gN 2) (g__law_like_b1 (G__law_like n)) [some x, some x, none] = .nx t := by
    unfold sFor
    rw [hi]
    have : frzL ((List.range xs.length).map fun j : Nat => D.int (j : Int)) = (List.range xs.length).map fun j : Nat => D.int (j : Int) := frzL_ints _ _
    simp only [this]
    exact h1
  rw [seq_nx hf]
  rfl
theorem like_tup (n : Nat) {xs : List D} (hp : pureL xs = true) (hl : xs.length ≤ 1000) (ih : ∀ d ∈ xs, G__law_like n [d, d] = .ok (.bl true)) : G__law_like (n + 1) [.tup xs, .tup xs] = .ok (.bl true) := by
  refine run_rt (τ := [some (.tup xs), some (.tup xs), none]) rfl rfl ?_
  have hv : (D.tup xs).view = .tup xs := by show D.tup (viewL xs) = _; rw [viewL_pure _ hp]
  have v0 : eVar 0 [some (.tup xs), some (.tup xs), none] = .ok (.tup xs) := by show Res.ok (D.tup xs).view = _; rw [hv]
  have v1 : eVar 1 [some (.tup xs), some (.tup xs), none] = .ok (.tup xs) := by show Res.ok (D.tup xs).view = _; rw [hv]
  have l0 : eA lenD (aCons (eVar 0) aNil) [some (.tup xs), some (.tup xs), none] = .ok (.int xs.length) := by rw [eA_ok (aOne v0)]; rfl
  have l1 : eA lenD (aCons (eVar 1) aNil) [some (.tup xs), some (.tup xs), none] = .ok (.int xs.length) := by rw [eA_ok (aOne v1)]; rfl
  have ne := nei_ok l0 l1
  rw [decide_eq_true rfl] at ne
  unfold g__law_like
  rw [if_go rfl, if_go rfl, if_go rfl, if_go rfl, if_go (and_f rfl), if_go (and_t rfl rfl), if_go ne]
  exact like_loop n (fun _ => ⟨hv, fun j d h => ix_tup rfl h⟩) l1 hp hl ih
theorem like_lst (n : Nat) {xs : List D} (hp : pureL xs = true) (hl : xs.length ≤ 1000) (ih : ∀ d ∈ xs, G__law_like n [d, d] = .ok (.bl true)) : G__law_like (n + 1) [.lst .frz xs, .lst .frz xs] = .ok (.bl true) := by
  refine run_rt (τ := [some (.lst .frz xs), some (.lst .frz xs), none]) rfl rfl ?_
  have hv : (D.lst .frz xs).view = .lst .frz xs := by show D.lst .frz (viewL xs) = _; rw [viewL_pure _ hp]
  have v0 : eVar 0 [some (.lst .frz xs), some (.lst .frz xs), none] = .ok (.lst .frz xs) := var_frz rfl hp
  have v1 : eVar 1 [some (.lst .frz xs), some (.lst .frz xs), none] = .ok (.lst .frz xs) := var_frz rfl hp
  have l0 := len_ok v0
  have l1 := len_ok v1
  have ne := nei_ok l0 l1
  rw [decide_eq_true rfl] at ne
  unfold g__law_like
  rw [if_go rfl, if_go rfl, if_go rfl, if_go rfl, if_go (and_t rfl rfl), if_go (and_f rfl), if_go ne]
  exact like_loop n (fun _ => ⟨hv, fun j d h => ix_lst rfl h⟩) l1 hp hl ih
theorem like_eq : ∀ {n : Nat} {d : D}, Lk n d → G__law_like n [d, d] = .ok (.bl true)
  | _, _, .int n i => like_int n i
  | _, _, .tup n h hp hl => like_tup n hp hl fun d m => like_eq (h d m)
  | _, _, .lst n h hp hl => like_lst n hp hl fun d m => like_eq (h d m)
theorem lk_ints (n : Nat) (is : List Int) : ∀ d ∈ is.map D.int, Lk (n + 1) d := fun d m => by
  obtain ⟨i, _, rfl⟩ := List.mem_map.mp m
  exact .int n i
/-! ### the rows of what is due -/
section
variable {qs ps : List Int} {T us : List N2.Tie} {a b c : Option D}
theorem due_elt {k j : Nat} (hk : k < ps.length) (hj : j < ps.length) : g__law_due_e1 [some (.int j), some (.dct .frz true (ks2 us) (vs2 us)), some (.lst .frz (ps.map .int)), some (.int k)] = .ok (.int (N2.col us (N2.keyOf (ps.getD k 0) (ps.getD j 0)))) := by
  unfold g__law_due_e1 eGet2
  have v : eVar 1 [some (.int j), some (.dct .frz true (ks2 us) (vs2 us)), some (.lst .frz (ps.map .int)), some (.int k)] = .ok (.dct .frz true (ks2 us) (vs2 us)) := by
    show Res.ok (D.dct .frz true (ks2 us) (viewL (vs2 us))) = _
    rw [viewL_pure _ (vs2_pure us)]
  have at_ : ∀ i : Nat, i < ps.length → (ps.map D.int)[i]? = some (.int (ps.getD i 0)) := fun i hi => by
    rw [List.getElem?_map, List.getElem?_eq_getElem hi, List.getD_eq_getElem?_getD, List.getElem?_eq_getElem hi]; rfl
  have k1 : eBin ixD (eVar 2) (eVar 3) [some (.int j), some (.dct .frz true (ks2 us) (vs2 us)), some (.lst .frz (ps.map .int)), some (.int k)] = .ok (.int (ps.getD k 0)) := ix_ok (y := .int k) (var_frz rfl (pure_ints ps)) rfl (ix_lst (j := k) rfl (at_ k hk))
  have k2 : eBin ixD (eVar 2) (eVar 0) [some (.int j), some (.dct .frz true (ks2 us) (vs2 us)), some (.lst .frz (ps.map .int)), some (.int k)] = .ok (.int (ps.getD j 0)) := ix_ok (y := .int j) (var_frz rfl (pure_ints ps)) rfl (ix_lst (j := j) rfl (at_ j hj))
  have kk : eA tupD (aCons (eBin ixD (eVar 2) (eVar 3)) (aCons (eBin ixD (eVar 2) (eVar 0)) aNil)) [some (.int j), some (.dct .frz true (ks2 us) (vs2 us)), some (.lst .frz (ps.map .int)), some (.int k)] = .ok (.tup [.int (ps.getD k 0), .int (ps.getD j 0)]) := by
    rw [eA_ok (aCons_ok k1 (aOne k2))]
    rfl
  rw [v, Res.bind_ok, if_pos (show isDc (D.dct .frz true (ks2 us) (vs2 us)) = true from rfl), kk, Res.bind_ok]
  show (if (kt (ps.getD k 0, ps.getD j 0)).kind = true then Res.ok ((lookD (ks2 us) (vs2 us) (kt (ps.getD k 0, ps.getD j 0))).getD (.int 0)) else .bad) = _
  rw [if_pos (show (kt (ps.getD k 0, ps.getD j 0)).kind = true from rfl), look2_col]
noncomputable def rowK (ps : List Int) (us : List N2.Tie) (k : Nat) : List Int := (ps.take k).map fun q => N2.col us (N2.keyOf (ps.getD k 0) q)
theorem rowK_eq {k : Nat} (hk : k ≤ ps.length) : rowK ps us k = (List.range k).map fun j => N2.col us (N2.keyOf (ps.getD k 0) (ps.getD j 0)) := by
  unfold rowK
  refine List.ext_getElem (by simp; omega) fun i h1 h2 => ?_
  have hi : i < ps.length := by simp at h1; omega
  simp [hi]
noncomputable abbrev duR (qs : List Int) (T us : List N2.Tie) (a b c : Option D) (ps : List Int) (acc : List (List Int)) (r8 : Option D) : SD := duSt qs T us a b c (some (.lst .own (ps.map .int))) (some (.lst .own (acc.map fun r => .tup (r.map .int)))) r8
theorem due_body {acc : List (List Int)} {k : Nat} (hk : k < ps.length) (hl : ps.length ≤ 100) (ha : acc.length ≤ 100) : g__law_due_b2 (duR qs T us a b c ps acc (some (.int k))) = .nx (duR qs T us a b c ps (acc ++ [rowK ps us k]) (some (.int k))) := by
  have hr := range1_nat (n := k) (by omega)
  have hc := eComp_all (it := eRng1 (aCons (eVar 8) aNil)) (elt := g__law_due_e1) (cap := [("_law_shades", 2), ("_law_rising", 6), ("_law_k", 8)]) (τ := duR qs T us a b c ps acc (some (.int k))) (fl := false) (ds := (List.range k).map fun k : Nat => D.int (k : Int)) (fun d => .int (N2.col us (N2.keyOf (ps.getD k 0) (ps.getD (natOf d) 0))))
    (by unfold eRng1; rw [aOne (d := .int k) rfl, Res.bind_ok, hr]) (fun d hd => by
      rw [frzL_ints] at hd
      obtain ⟨j, hj, rfl⟩ := mem_ints hd
      refine ⟨?_, rfl⟩
      have e := due_elt (ps := ps) (us := us) (k := k) (j := j) hk (by omega)
      have : capD (duR qs T us a b c ps acc (some (.int k))) [("_law_shades", 2), ("_law_rising", 6), ("_law_k", 8)] = [some (.dct .frz true (ks2 us) (vs2 us)), some (.lst .frz (ps.map .int)), some (.int k)] := by
        show [some (D.dct .frz true (ks2 us) (frzL (vs2 us))), some (.lst .frz (frzL (ps.map .int))), some (.int k)] = _
        rw [frzL_pure _ (vs2_pure us), frz_ints]
      rw [this]
      exact e) (by simp; omega)
  unfold g__law_due_b2
  rw [app_nx (xs := acc.map fun r => .tup (r.map .int)) (d := .tup ((rowK ps us k).map .int)) rfl ?_ (hasBor_pure _ (pure_ints _)) (by rw [List.length_map]; omega)]
  · unfold duR duSt
    rw [List.map_append]
    rfl
  · rw [eA_ok (aOne hc)]
    show Res.ok (D.tup _) = _
    rw [frzL_ints, List.map_map, rowK_eq (by omega), List.map_map]
    rfl
theorem due_rows (hl : ps.length ≤ 100) : ∃ r8, sFor [] (eRng1 (aCons (eA lenD (aCons (eVar 6) aNil)) aNil)) (gN 8) g__law_due_b2 (duR qs T us a b c ps [] none) = .nx (duR qs T us a b c ps (N2.rowsOf ps us) r8) := by
  obtain ⟨t, h1, r8, h2⟩ := forD_inv (tg := gN 8) (body := g__law_due_b2) (fun i t => ∃ r8, t = duR qs T us a b c ps ((List.range i).map (rowK ps us)) r8) (ds := (List.range ps.length).map fun j : Nat => D.int (j : Int)) 0 (duR qs T us a b c ps [] none) ⟨none, rfl⟩ (fun k d t hx hp' => by
    obtain ⟨r8, rfl⟩ := hp'
    rw [Nat.zero_add]
    have hk : k < ps.length := by
      have := (List.getElem?_eq_some_iff.mp hx).1
      simpa using this
    have ex : d = .int k := by
      simp [hk] at hx
      exact hx.symm
    subst ex
    refine ⟨_, _, rfl, .inl (due_body hk hl (by simp; omega)), some (.int k), ?_⟩
    rw [List.range_succ, List.map_append]
    rfl)
  rw [List.length_map, List.length_range, Nat.zero_add] at h2
  refine ⟨r8, ?_⟩
  have e : N2.rowsOf ps us = (List.range ps.length).map (rowK ps us) := rfl
  rw [e, ← h2, ← h1]
  have v6 : eVar 6 (duR qs T us a b c ps [] none) = .ok (.lst .bor (ps.map .int)) := var_own rfl (pure_ints ps)
  have l6 := len_ok v6
  rw [List.length_map] at l6
  have hi : eRng1 (aCons (eA lenD (aCons (eVar 6) aNil)) aNil) (duR qs T us a b c ps [] none) = .ok (false, (List.range ps.length).map fun j : Nat => D.int (j : Int)) := by
    unfold eRng1
    rw [aOne l6, Res.bind_ok, range1_nat (by omega)]
  unfold sFor
  rw [show frzAt [] (duR qs T us a b c ps [] none) = duR qs T us a b c ps [] none from rfl, hi]
  have : frzL ((List.range ps.length).map fun j : Nat => D.int (j : Int)) = (List.range ps.length).map fun j : Nat => D.int (j : Int) := frzL_ints _ _
  simp only [this]
/-- what is due, as the law tells it -/
noncomputable def dueD (qs : List Int) (T : List N2.Tie) : D := match dueOf qs T with | .inl w => .str w | .inr d => d
theorem due_eq (hl : qs.length ≤ 100) (hT : T.length ≤ 100) : G__law_due [.lst .frz (qs.map .int), .lst .frz (T.map tieD)] = .ok (dueD qs T) := by
  refine run_rt (τ := [some (.lst .frz (qs.map .int)), some (.lst .frz (T.map tieD)), none, none, none, none, none, none, none]) rfl rfl ?_
  have v0 : eVar 0 [some (.lst .frz (qs.map .int)), some (.lst .frz (T.map tieD)), none, none, none, none, none, none, none] = .ok (.lst .frz (qs.map .int)) := var_frz rfl (pure_ints qs)
  have l0 := len_ok v0
  rw [List.length_map] at l0
  have t1 := or_ok (eqi_ok l0 (g := eC (.int 0)) (b := 0) rfl) (or_ok (gti_ok l0 (g := eC (.int 24)) (b := 24) rfl) (lti_ok (lenSet_ok v0 (by omega)) l0))
  unfold dueD dueOf
  by_cases hb : badNet qs
  · rw [if_pos hb]
    have c : (decide ((qs.length : Int) = 0) || (decide ((24 : Int) < qs.length) || decide (((L2.dd qs).length : Int) < qs.length))) = true := by
      rcases hb with h | h | h
      · rw [decide_eq_true (by omega)]; rfl
      · rw [decide_eq_true (p := (24 : Int) < qs.length) (by omega), Bool.true_or, Bool.or_true]
      · have := dd_lt h
        rw [decide_eq_true (p := ((L2.dd qs).length : Int) < qs.length) (by omega), Bool.or_true, Bool.or_true]
    rw [c] at t1
    unfold g__law_due
    exact if_rt t1 rfl
  · rw [if_neg hb]
    have hb0 : qs.length ≠ 0 := fun h => hb (.inl h)
    have hb1 : ¬ 24 < qs.length := fun h => hb (.inr (.inl h))
    have hb2 : qs.Nodup := Classical.byContradiction fun h => hb (.inr (.inr h))
    rw [decide_eq_false (by omega), decide_eq_false (by omega), dd_len hb2, decide_eq_false (by omega)] at t1
    unfold g__law_due
    rw [if_go t1, seq_nx (set_nx (d := .dct .own true [] []) rfl rfl)]
    show sSeq _ _ (duSt qs T [] none none none none none none) = _
    have hz : frzL (T.map tieD) = T.map tieD := frzL_pure _ (pure_ties T)
    have loop : sFor [1] (eIt (eVar 1)) tg3 g__law_due_b3 (duSt qs T [] none none none none none none) = forD tg3 g__law_due_b3 (T.map tieD) (duSt qs T [] none none none none none none) := by
      unfold sFor
      have hf : frzAt [1] (duSt qs T [] none none none none none none) = duSt qs T [] none none none none none none := by
        show [some (D.lst .frz (qs.map .int)), some (.lst .frz (frzL (T.map tieD))), some (.dct .own true [] []), none, none, none, none, none, none] = _
        rw [hz]
        rfl
      rw [hf]
      have hi : eIt (eVar 1) (duSt qs T [] none none none none none none) = .ok (false, T.map tieD) := by
        unfold eIt
        rw [var_frz (xs := T.map tieD) rfl (pure_ties T), Res.bind_ok]
        show Res.ok ((false || hasBorL (T.map tieD)), _) = _
        rw [hasBorL_pure _ (pure_ties T)]
        rfl
      rw [hi]
      simp only [hz]
    obtain ⟨n1, n2⟩ := du_loop (qs := qs) (T := T) (r6 := none) (r7 := none) (r8 := none) T [] none none none (by simpa using (by omega : T.length ≤ 1000))
    cases hw : walk qs [] T with
    | inl w0 => exact seq_rt (loop.trans (n1 w0 hw))
    | inr us =>
      obtain ⟨a, b, c, ht⟩ := n2 us hw
      rw [seq_nx (loop.trans ht)]
      have q1 : eA sortedD (aCons (eVar 0) aNil) (duSt qs T us a b c none none none) = .ok (.lst .own ((sortI qs).map .int)) := by
        rw [eA_ok (aOne (var_frz rfl (pure_ints qs)))]
        show (match intsOf (qs.map D.int) with | some ns => if ns.length < 64 then Res.ok (D.lst .own ((sortI ns).map D.int)) else .bad | none => .bad) = _
        rw [intsOf_map]
        show (if qs.length < 64 then Res.ok (D.lst .own ((sortI qs).map D.int)) else .bad) = _
        rw [if_pos (by omega)]
      rw [seq_nx (set_nx q1 (bor_own (pure_ints _))), seq_nx (set_nx (d := .lst .own []) rfl rfl)]
      have hsl := (sortI_perm qs).length_eq
      obtain ⟨r8, hr⟩ := due_rows (qs := qs) (T := T) (us := us) (a := a) (b := b) (c := c) (ps := sortI qs) (by omega)
      show sSeq _ _ (duR qs T us a b c (sortI qs) [] none) = _
      rw [seq_nx hr]
      have v2 : eVar 6 (duR qs T us a b c (sortI qs) (N2.rowsOf (sortI qs) us) r8) = .ok (.lst .bor ((sortI qs).map .int)) := var_own rfl (pure_ints _)
      have v3 : eVar 7 (duR qs T us a b c (sortI qs) (N2.rowsOf (sortI qs) us) r8) = .ok (.lst .bor ((N2.rowsOf (sortI qs) us).map fun r => .tup (r.map .int))) := var_own rfl (pure_rows _)
      exact ret_rt ((eA_ok (aCons_ok ((eA_ok (aOne v2)).trans rfl) (aOne ((eA_ok (aOne v3)).trans rfl)))).trans rfl) (hasBor_pure _ (net_pure _ _))
/-! ### what is answered -/
theorem due_net {d : D} (h : dueOf qs T = .inr d) : ∃ us, d = netD (sortI qs) (N2.rowsOf (sortI qs) us) ∧ qs.length ≤ 24 := by
  unfold dueOf at h
  by_cases hb : badNet qs
  · rw [if_pos hb] at h; cases h
  · rw [if_neg hb] at h
    cases hw : walk qs [] T with
    | inl w => rw [hw] at h; cases h
    | inr us => rw [hw] at h; cases h; exact ⟨us, rfl, by have : ¬ 24 < qs.length := fun h => hb (.inr (.inl h)); omega⟩
theorem walk_word : ∀ {R ts : List N2.Tie} {w : PySem.Str}, walk qs ts R = .inl w → w = "NoPlace" ∨ w = "SamePlace" ∨ w = "Twice"
  | [], ts, w, h => by cases h
  | t :: R, ts, w, h => by
    unfold walk at h
    split at h
    · cases h; exact .inl rfl
    · split at h
      · cases h; exact .inr (.inl rfl)
      · split at h
        · cases h; exact .inr (.inr rfl)
        · exact walk_word h
theorem due_word {w : PySem.Str} (h : dueOf qs T = .inl w) : w = "NoNet" ∨ w = "NoPlace" ∨ w = "SamePlace" ∨ w = "Twice" := by
  unfold dueOf at h
  by_cases hb : badNet qs
  · rw [if_pos hb] at h; cases h; exact .inl rfl
  · rw [if_neg hb] at h
    cases hw : walk qs [] T with
    | inl w' => rw [hw] at h; cases h; exact .inr (walk_word hw)
    | inr us => rw [hw] at h; cases h
theorem due_pure : (dueD qs T).pure = true := by
  unfold dueD
  cases h : dueOf qs T with
  | inl w => rfl
  | inr d => obtain ⟨us, rfl, _⟩ := due_net h; exact net_pure _ _
theorem answer_eq {ca : PySem.Str → PySem.Addr} (hA : Apart ca names) (hl : qs.length ≤ 100) (hT : T.length ≤ 100) : G__law_answer ca [.lst .frz (qs.map .int), .lst .frz (T.map tieD)] = .ok (dueD qs T) := by
  obtain ⟨n1, n2⟩ := from_eq ca (qs := qs) (T := T) hl hT
  refine run_rt (τ := [some (.lst .frz (qs.map .int)), some (.lst .frz (T.map tieD)), none, none]) rfl rfl ?_
  unfold g__law_answer
  have c : ∀ r, G_net_from ca [.lst .frz (qs.map .int), .lst .frz (T.map tieD)] = r → (∀ d, r = .ok d → d.pure = true) → eCallX (G_net_from ca) (aCons (eVar 0) (aCons (eVar 1) aNil)) [some (.lst .frz (qs.map .int)), some (.lst .frz (T.map tieD)), none, none] = r := fun r h hp =>
    callX_res (ds := [.lst .frz (qs.map .int), .lst .frz (T.map tieD)]) (aCons_ok (var_frz rfl (pure_ints qs)) (aOne (var_frz rfl (pure_ties T)))) (by
      show G_net_from ca [.lst .frz (frzL (qs.map .int)), .lst .frz (frzL (T.map tieD))] = _
      rw [frz_ints, frzL_pure _ (pure_ties T)]
      exact h) hp
  unfold dueD
  cases h : dueOf qs T with
  | inl w =>
    have e := set_ex (i := 2) (c _ (n1 w h) exn_pure)
    rcases due_word h with rfl | rfl | rfl | rfl
    · rw [seq_rt (try_ex e (by simp [inC, leaf]) (word_NoNet hA))]
    · rw [seq_rt (try_ex e (by simp [inC, leaf]) (word_NoPlace hA))]
    · rw [seq_rt (try_ex e (by simp [inC, leaf]) (word_SamePlace hA))]
    · rw [seq_rt (try_ex e (by simp [inC, leaf]) (word_Twice hA))]
  | inr d =>
    obtain ⟨us, rfl, _⟩ := due_net h
    have hp := net_pure (sortI qs) (N2.rowsOf (sortI qs) us)
    rw [seq_nx (try_nx (set_nx (c _ (n2 _ h) fun d z => by cases z; exact hp) (hasBor_pure _ hp)))]
    show sRetV 2 [some (.lst .frz (qs.map .int)), some (.lst .frz (T.map tieD)), some (netD (sortI qs) (N2.rowsOf (sortI qs) us)), none] = _
    exact retV_pure rfl hp
theorem due_like (hl : qs.length ≤ 100) : G__law_like 4 [dueD qs T, dueD qs T] = .ok (.bl true) := by
  unfold dueD
  cases h : dueOf qs T with
  | inl w => exact like_str 3 w
  | inr d =>
    obtain ⟨us, rfl, h24⟩ := due_net h
    have hsl := (sortI_perm qs).length_eq
    refine like_eq ?_
    unfold netD
    refine .tup 3 (fun x m => ?_) (by simp [D.pure, pureL, pure_ints, pure_rows]) (Nat.le_of_ble_eq_true rfl)
    rcases List.mem_cons.mp m with rfl | m
    · exact .tup 2 (lk_ints 1 _) (pure_ints _) (by rw [List.length_map]; omega)
    · rcases List.mem_cons.mp m with rfl | m
      · refine .tup 2 (fun r hr => ?_) (pure_rows _) (by simp [N2.rowsOf]; omega)
        obtain ⟨row, hrow, rfl⟩ := List.mem_map.mp hr
        unfold N2.rowsOf at hrow
        obtain ⟨k, hk, rfl⟩ := List.mem_map.mp hrow
        have := List.mem_range.mp hk
        exact .tup 1 (lk_ints 0 _) (pure_ints _) (by simp; omega)
      · cases m
end
end KL
set_option Elab.async false
set_option linter.all false
set_option maxRecDepth 100000
set_option maxHeartbeats 1000000
namespace KL
open DL XF
/-! ### the law's ties -/
noncomputable def tiSt (ns qs : List Int) (acc : List N2.Tie) (o3 o4 o5 o6 : Option D) : SD := [some (S ns), some (.lst .frz (qs.map .int)), some (.lst .own (acc.map tieD)), o3, o4, o5, o6]
section
variable {ns qs : List Int} {acc : List N2.Tie}
noncomputable abbrev tiX (ns qs : List Int) (acc : List N2.Tie) (c n : Int) (es : List Int) (o6 : Option D) : SD := tiSt ns qs acc (some (.int c)) (some (.int n)) (some (.lst .own (es.map .int))) o6
theorem ti_len5 (c n : Int) (es : List Int) (o6 : Option D) : eA lenD (aCons (eVar 5) aNil) (tiX ns qs acc c n es o6) = .ok (.int es.length) := by
  have := len_ok (f := eVar 5) (τ := tiX ns qs acc c n es o6) (var_own rfl (pure_ints es))
  rwa [List.length_map] at this
theorem ti_len1 (c n : Int) (es : List Int) (o6 : Option D) : eA lenD (aCons (eVar 1) aNil) (tiX ns qs acc c n es o6) = .ok (.int qs.length) := by
  have := len_ok (f := eVar 1) (τ := tiX ns qs acc c n es o6) (var_frz rfl (pure_ints qs))
  rwa [List.length_map] at this
theorem and_ok {f g : SD → Res Bool} {τ : SD} {a b : Bool} (h : f τ = .ok a) (h2 : g τ = .ok b) : bAnd f g τ = .ok (a && b) := by
  cases a
  · exact (and_f h)
  · exact (and_t h h2)
theorem pow31 (τ : SD) : eBin powD (eC (.int 10)) (eC (.int 31)) τ = .ok (.int (10 ^ 31)) := rfl
theorem mod_p {i j : Int} (h : 0 < j) : modD (.int i) (.int j) = .ok (.int (i % j)) := by
  show (if (0 : Int) < j then _ else _) = _
  exact if_pos h
theorem maxDD_ok {f : SD → Res D} {τ : SD} {t : Tg} {d : Int} (h : f τ = .ok (.lst t (qs.map .int))) : eBin maxDD f (eC (.int d)) τ = .ok (.int (L2.best qs d)) := by
  rw [eBin_ok h (y := .int d) rfl]
  show (match intsOf (qs.map D.int) with | some ns => Res.ok (D.int (L2.best ns d)) | none => .bad) = _
  rw [intsOf_map]
theorem ti_b1 (c n : Int) (es : List Int) (p : Int) (he : es.length ≤ 100) : ∃ v : Int, g__law_ties_b1 (tiX ns qs acc c n es (some (.int p))) = .nx (tiX ns qs acc c n (es ++ [v]) (some (.int p))) := by
  have fin : ∀ {f : SD → Res D} {v : Int}, f (tiX ns qs acc c n es (some (.int p))) = .ok (.int v) → sApp 5 f (tiX ns qs acc c n es (some (.int p))) = .nx (tiX ns qs acc c n (es ++ [v]) (some (.int p))) := fun {f v} h => by
    rw [app_nx (xs := es.map .int) rfl h rfl (by rw [List.length_map]; omega)]
    unfold tiX tiSt
    rw [List.map_append]
    rfl
  have t0 := eqi_ok (f := eBin modD (eVar 4) (eC (.int 9))) (g := eC (.int 0)) (τ := tiX ns qs acc c n es (some (.int p))) (mod_ok (f := eVar 4) (a := n) rfl (by decide : (0 : Int) < 9)) (b := 0) rfl
  have t1 := eqi_ok (ti_len5 (ns := ns) (qs := qs) (acc := acc) c n es (some (.int p))) (mod_ok (fdiv_ok (f := eVar 4) (τ := tiX ns qs acc c n es (some (.int p))) (a := n) rfl (by decide : (0 : Int) < 100 ∧ (100 : Int) < 1073741824)) (by decide : (0 : Int) < 2))
  have t2 := eqi_ok (ti_len1 (ns := ns) (qs := qs) (acc := acc) c n es (some (.int p))) (g := eC (.int 0)) (b := 0) rfl
  have t := or_ok (and_ok t0 t1) t2
  unfold g__law_ties_b1
  cases hb : (decide (n % 9 = 0) && decide ((es.length : Int) = n / 100 % 2) || decide ((qs.length : Int) = 0)) with
  | true =>
    rw [hb] at t
    rw [if_t t]
    have a1 := add_ok (maxDD_ok (qs := qs) (d := 0) (f := eVar 1) (τ := tiX ns qs acc c n es (some (.int p))) (var_frz rfl (pure_ints qs))) (show eC (.int 1) _ = .ok (.int 1) from rfl)
    have a2 : eBin modD (eVar 3) (eBin powD (eC (.int 10)) (eC (.int 31))) (tiX ns qs acc c n es (some (.int p))) = .ok (.int (c % 10 ^ 31)) := (eBin_ok (x := .int c) rfl (pow31 _)).trans (mod_p (by decide))
    have a3 := mod_ok (f := eVar 6) (τ := tiX ns qs acc c n es (some (.int p))) (a := p) rfl (by decide : (0 : Int) < 2)
    obtain ⟨v, hv⟩ := ix_two (a := L2.best qs 0 + 1) (b := c % 10 ^ 31) (i := p % 2) (by omega)
    exact ⟨v, fin (ix_ok ((eA_ok (aCons_ok a1 (aOne a2))).trans rfl) a3 hv)⟩
  | false =>
    rw [hb] at t
    rw [if_f t]
    have hq : (0 : Int) < qs.length := by
      have := (Bool.or_eq_false_iff.mp hb).2
      have := of_decide_eq_false this
      omega
    have m0 := Int.emod_nonneg p (by omega : (qs.length : Int) ≠ 0)
    have m1 := Int.emod_lt_of_pos p hq
    have a1 : eBin modD (eVar 6) (eA lenD (aCons (eVar 1) aNil)) (tiX ns qs acc c n es (some (.int p))) = .ok (.int ((p % qs.length).toNat : Nat)) := by
      rw [eBin_ok (x := .int p) rfl (ti_len1 c n es _), Int.toNat_of_nonneg m0]
      exact mod_p hq
    refine ⟨qs.getD (p % qs.length).toNat 0, fin (ix_ok (var_frz rfl (pure_ints qs)) a1 (ix_lst (j := (p % qs.length).toNat) rfl ?_))⟩
    have hi : (p % qs.length).toNat < qs.length := by omega
    rw [List.getElem?_map, List.getElem?_eq_getElem hi, List.getD_eq_getElem?_getD, List.getElem?_eq_getElem hi]
    rfl
theorem mul_go {i j : Int} (h : CMulD i j) : mulD (.int i) (.int j) = .ok (.int (i * j)) := by
  show (if CMulD i j then _ else _) = _
  exact if_pos h
theorem ti_b2 (c : Int) (o4 o5 o6 : Option D) (hl : acc.length ≤ 100) : ∃ (t : N2.Tie) (o4' o5' o6' : Option D), g__law_ties_b2 (tiSt ns qs acc (some (.int c)) o4 o5 o6) = .nx (tiSt ns qs (acc ++ [t]) (some (.int c)) o4' o5' o6') := by
  have l2 : eA lenD (aCons (eVar 2) aNil) (tiSt ns qs acc (some (.int c)) o4 o5 o6) = .ok (.int acc.length) := by
    have := len_ok (f := eVar 2) (τ := tiSt ns qs acc (some (.int c)) o4 o5 o6) (var_own rfl (pure_ties acc))
    rwa [List.length_map] at this
  have m1 : eBin mulD (eVar 3) (eC (.int 16807)) (tiSt ns qs acc (some (.int c)) o4 o5 o6) = .ok (.int (c * 16807)) := by
    rw [eBin_ok (x := .int c) (y := .int 16807) rfl rfl]
    show (if CMulD c 16807 then _ else _) = _
    exact if_pos (mul_r (by decide))
  have m2 : eBin mulD (eA lenD (aCons (eVar 2) aNil)) (eC (.int 48271)) (tiSt ns qs acc (some (.int c)) o4 o5 o6) = .ok (.int (acc.length * 48271)) := by
    rw [eBin_ok l2 (y := .int 48271) rfl]
    exact mul_go (i := (acc.length : Int)) (mul_r (by decide))
  have z4 := mod_ok (add_ok m1 m2) (by decide : (0 : Int) < 2147483647)
  unfold g__law_ties_b2
  rw [seq_nx (set_nx z4 rfl)]
  generalize (c * 16807 + (acc.length : Int) * 48271) % 2147483647 = n
  rw [seq_nx (set_nx (d := .lst .own []) rfl rfl)]
  show ∃ t o4' o5' o6', sSeq _ _ (tiX ns qs acc c n [] o6) = _
  obtain ⟨v1, h1⟩ := ti_b1 (ns := ns) (qs := qs) (acc := acc) c n [] (n / 9) (Nat.zero_le _)
  obtain ⟨v2, h2⟩ := ti_b1 (ns := ns) (qs := qs) (acc := acc) c n [v1] (n / 9 / 37) (Nat.le_of_ble_eq_true rfl)
  have hi : eIt (eA tupD (aCons (eBin fdivD (eVar 4) (eC (.int 9))) (aCons (eBin fdivD (eBin fdivD (eVar 4) (eC (.int 9))) (eC (.int 37))) aNil))) (tiX ns qs acc c n [] o6) = .ok (false, [.int (n / 9), .int (n / 9 / 37)]) := by
    have q1 := fdiv_ok (f := eVar 4) (τ := tiX ns qs acc c n [] o6) (a := n) rfl (by decide : (0 : Int) < 9 ∧ (9 : Int) < 1073741824)
    have q2 := fdiv_ok q1 (by decide : (0 : Int) < 37 ∧ (37 : Int) < 1073741824)
    unfold eIt
    rw [eA_ok (aCons_ok q1 (aOne q2))]
    rfl
  have hf : sFor [4] (eIt (eA tupD (aCons (eBin fdivD (eVar 4) (eC (.int 9))) (aCons (eBin fdivD (eBin fdivD (eVar 4) (eC (.int 9))) (eC (.int 37))) aNil)))) (gN 6) g__law_ties_b1 (tiX ns qs acc c n [] o6) = .nx (tiX ns qs acc c n [v1, v2] (some (.int (n / 9 / 37)))) := by
    unfold sFor
    rw [show frzAt [4] (tiX ns qs acc c n [] o6) = tiX ns qs acc c n [] o6 from rfl, hi]
    show forD (gN 6) g__law_ties_b1 [.int (n / 9), .int (n / 9 / 37)] (tiX ns qs acc c n [] o6) = _
    rw [forD_nx (τ' := tiX ns qs acc c n [] (some (.int (n / 9)))) rfl h1, forD_nx (τ' := tiX ns qs acc c n [v1] (some (.int (n / 9 / 37)))) rfl h2]
    rfl
  rw [seq_nx hf]
  have e5 : eVar 5 (tiX ns qs acc c n [v1, v2] (some (.int (n / 9 / 37)))) = .ok (.lst .bor [.int v1, .int v2]) := rfl
  have a0 : eBin ixD (eVar 5) (eC (.int 0)) (tiX ns qs acc c n [v1, v2] (some (.int (n / 9 / 37)))) = .ok (.int v1) := ix_ok e5 (y := .int 0) rfl (ix_lst (j := 0) rfl rfl)
  have a1 : eBin ixD (eVar 5) (eC (.int 1)) (tiX ns qs acc c n [v1, v2] (some (.int (n / 9 / 37)))) = .ok (.int v2) := ix_ok e5 (y := .int 1) rfl (ix_lst (j := 1) rfl rfl)
  have a2 : eBin modD (eVar 3) (eBin powD (eC (.int 10)) (eC (.int 30))) (tiX ns qs acc c n [v1, v2] (some (.int (n / 9 / 37)))) = .ok (.int (c % big)) := (eBin_ok (x := .int c) rfl (bigE _)).trans (mod_big c)
  refine ⟨(v1, v2, c % big), some (.int n), some (.lst .own [.int v1, .int v2]), some (.int (n / 9 / 37)), ?_⟩
  rw [app_nx (xs := acc.map tieD) (d := tieD (v1, v2, c % big)) rfl ((eA_ok (aCons_ok a0 (aCons_ok a1 (aOne a2)))).trans rfl) (tie_nb _) (by rw [List.length_map]; omega)]
  unfold tiSt
  rw [List.map_append]
  rfl
theorem ti_loop : ∀ (cs : List Int) (acc : List N2.Tie) (o3 o4 o5 o6 : Option D), acc.length + cs.length ≤ 100 → ∃ (T : List N2.Tie) (o3' o4' o5' o6' : Option D), T.length = acc.length + cs.length ∧ forD (gN 3) g__law_ties_b2 (cs.map D.int) (tiSt ns qs acc o3 o4 o5 o6) = .nx (tiSt ns qs T o3' o4' o5' o6')
  | [], acc, o3, o4, o5, o6, _ => ⟨acc, o3, o4, o5, o6, rfl, rfl⟩
  | c :: cs, acc, o3, o4, o5, o6, h => by
    rw [List.length_cons] at h
    obtain ⟨t, p4, p5, p6, e⟩ := ti_b2 (ns := ns) (qs := qs) (acc := acc) c o4 o5 o6 (by omega)
    obtain ⟨T, q3, q4, q5, q6, hl, e2⟩ := ti_loop cs (acc ++ [t]) (some (.int c)) p4 p5 p6 (by rw [List.length_append, List.length_singleton]; omega)
    refine ⟨T, q3, q4, q5, q6, by rw [hl, List.length_append, List.length_singleton, List.length_cons]; omega, ?_⟩
    rw [List.map_cons, forD_nx (τ' := tiSt ns qs acc (some (.int c)) o4 o5 o6) rfl e]
    exact e2
theorem ties_ex (hl : ns.length ≤ 63) : ∃ T : List N2.Tie, T.length ≤ 63 ∧ G__law_ties [S ns, .lst .frz (qs.map .int)] = .ok (.lst .own (T.map tieD)) := by
  have z4 : eCall G__law_cell (aCons (eVar 0) (aCons (eC (.int 4)) aNil)) (tiSt ns qs [] none none none none) = .ok (.int (M.cell ns 4)) :=
    eCall_own (ds := [S ns, .int 4]) (aCons_ok (var_frz rfl (pure_ints ns)) (aOne rfl)) (by simpa [frzL, D.frz] using cell_eq ns (by decide : (0 : Int) ≤ 4)) (by simp [hasBorL, D.hasBor])
  have z6 := add_ok (f := eC (.int 6)) (a := 6) rfl (mod_ok z4 (by decide : (0 : Int) < 20))
  have hcl : (DL.cut ns (some 5) (some (6 + M.cell ns 4 % 20))).length ≤ 63 := by
    unfold DL.cut
    rw [List.length_take, List.length_drop]
    omega
  obtain ⟨T, q3, q4, q5, q6, hT, e⟩ := ti_loop (ns := ns) (qs := qs) (DL.cut ns (some 5) (some (6 + M.cell ns 4 % 20))) [] none none none none (by rw [List.length_nil]; omega)
  refine ⟨T, by rw [hT, List.length_nil]; omega, run_rt (τ := [some (S ns), some (.lst .frz (qs.map .int)), none, none, none, none, none]) rfl rfl ?_⟩
  unfold g__law_ties
  rw [seq_nx (set_nx (d := .lst .own []) rfl rfl)]
  show sSeq _ _ (tiSt ns qs [] none none none none) = _
  have hf : frzAt [0] (tiSt ns qs [] none none none none) = tiSt ns qs [] none none none none := by
    show List.set (tiSt ns qs [] none none none none) 0 (some (D.lst .frz (frzL (ns.map .int)))) = _
    rw [frz_ints]
    rfl
  have zc : eCut (eVar 0) (eP (eC (.int 5))) (eP (eBin addD (eC (.int 6)) (eBin modD (eCall G__law_cell (aCons (eVar 0) (aCons (eC (.int 4)) aNil))) (eC (.int 20))))) (tiSt ns qs [] none none none none) = .ok (.lst .own ((DL.cut ns (some 5) (some (6 + M.cell ns 4 % 20))).map D.int)) := by
    unfold eCut eP
    rw [var_frz (xs := ns.map .int) rfl (pure_ints ns), z6]
    show Res.ok (D.lst .own (DL.cut (ns.map .int) (some 5) (some (6 + M.cell ns 4 % 20)))) = _
    rw [cut_map]
  have zi : eIt (eCut (eVar 0) (eP (eC (.int 5))) (eP (eBin addD (eC (.int 6)) (eBin modD (eCall G__law_cell (aCons (eVar 0) (aCons (eC (.int 4)) aNil))) (eC (.int 20)))))) (tiSt ns qs [] none none none none) = .ok (false, (DL.cut ns (some 5) (some (6 + M.cell ns 4 % 20))).map D.int) := by
    unfold eIt
    rw [zc, Res.bind_ok]
    show Res.ok ((D.lst .own ((DL.cut ns (some 5) (some (6 + M.cell ns 4 % 20))).map D.int)).hasBor, _) = _
    rw [bor_own (pure_ints _)]
  have zf : sFor [0] (eIt (eCut (eVar 0) (eP (eC (.int 5))) (eP (eBin addD (eC (.int 6)) (eBin modD (eCall G__law_cell (aCons (eVar 0) (aCons (eC (.int 4)) aNil))) (eC (.int 20))))))) (gN 3) g__law_ties_b2 (tiSt ns qs [] none none none none) = .nx (tiSt ns qs T q3 q4 q5 q6) := by
    unfold sFor
    rw [hf, zi]
    simp only [frz_ints]
    exact e
  rw [seq_nx zf]
  rfl
end
end KL
set_option Elab.async false
set_option linter.all false
set_option maxRecDepth 100000
set_option maxHeartbeats 1000000
namespace KL
open DL XF
theorem list_ok {f : SD → Res D} {τ : SD} {t : Tg} {xs : List D} (h : f τ = .ok (.lst t xs)) : eA listD (aCons f aNil) τ = .ok (.lst .own xs) := by
  rw [eA_ok (aOne h)]
  rfl
theorem rev_nx {i : Nat} {τ : SD} {xs : List D} (h : τ[i]? = some (some (.lst .own xs))) : sRev i τ = .nx (τ.set i (some (.lst .own xs.reverse))) := by
  unfold sRev
  have e : ownL τ i = some xs := by unfold ownL; rw [h]
  rw [e]
/-! ### the law -/
theorem c_cell {ns : List Int} {τ : SD} {k : Int} (h : τ[0]? = some (some (S ns))) (hk : 0 ≤ k) : eCall G__law_cell (aCons (eVar 0) (aCons (eC (.int k)) aNil)) τ = .ok (.int (M.cell ns k)) :=
  eCall_own (ds := [S ns, .int k]) (aCons_ok (var_frz h (pure_ints ns)) (aOne rfl)) (by simpa [frzL, D.frz] using cell_eq ns hk) (by simp [hasBorL, D.hasBor])
noncomputable def l0 (ns : List Int) (w : Int) (m : Int) (o3 : Option D) : SD := [some (S ns), some (.int w), some (.int m), o3, none, none, none, none]
theorem ins_nx {i : Nat} {fi fv : SD → Res D} {τ : SD} {xs : List D} {k x : Int} (h1 : τ[i]? = some (some (.lst .own xs))) (h2 : fi τ = .ok (.int k)) (h3 : fv τ = .ok (.int x)) (hk : 0 ≤ k ∧ k.toNat ≤ xs.length ∧ xs.length < 16777216) : sIns i fi fv τ = .nx (τ.set i (some (.lst .own (L2.insAt xs k.toNat (.int x))))) := by
  unfold sIns
  have e : ownL τ i = some xs := by unfold ownL; rw [h1]
  rw [e]
  show (fi τ).toFl τ _ = _
  rw [h2, toFl_ok, h3, toFl_ok]
  show (if 0 ≤ k ∧ k.toNat ≤ xs.length ∧ xs.length < 16777216 then _ else _) = _
  exact if_pos hk
theorem ins_map (xs : List Int) (k : Nat) (x : Int) : L2.insAt (xs.map D.int) k (.int x) = (L2.insAt xs k x).map D.int := by
  unfold L2.insAt
  simp [List.map_take, List.map_drop]
theorem seq_if_t {c : SD → Res Bool} {a b k : SF} {τ t : SD} (h : c τ = .ok true) (h2 : a τ = .nx t) : sSeq (sIf c a b) k τ = k t := seq_nx ((if_t h).trans h2)
theorem law_s1 (ns : List Int) : ∃ m : Nat, m ≤ 33 ∧ (M.cell ns 3 % 6 = 1 → 1 ≤ m) ∧ ∀ k : SF, sSeq (sIf (eT (eBin eqD (eVar 1) (eC (.int 0)))) (sSet 2 (eC (.int 0))) sNext) (sSeq (sIf (eT (eBin eqD (eVar 1) (eC (.int 2)))) (sSet 2 (eBin addD (eC (.int 25)) (eBin modD (eCall G__law_cell (aCons (eVar 0) (aCons (eC (.int 4)) aNil))) (eC (.int 9))))) sNext) k) (l0 ns (M.cell ns 3 % 6) (M.many (M.cell ns 0)) none) = k (l0 ns (M.cell ns 3 % 6) m none) := by
  have hb := M.many_pos (M.cell ns 0)
  generalize M.many (M.cell ns 0) = m0 at hb
  generalize M.cell ns 3 % 6 = w
  have t0 : ∀ m : Int, eT (eBin eqD (eVar 1) (eC (.int 0))) (l0 ns w m none) = .ok (decide (w = 0)) := fun m => eqi_ok rfl rfl
  have t2 : ∀ m : Int, eT (eBin eqD (eVar 1) (eC (.int 2))) (l0 ns w m none) = .ok (decide (w = 2)) := fun m => eqi_ok rfl rfl
  by_cases h0 : w = 0
  · refine ⟨0, by omega, fun h => by omega, fun k => ?_⟩
    have a := t0 m0
    rw [decide_eq_true h0] at a
    rw [seq_if_t (t := l0 ns w 0 none) a rfl]
    have b := t2 0
    rw [decide_eq_false (by omega)] at b
    rw [if_go b]
    rfl
  · have a := t0 m0
    rw [decide_eq_false h0] at a
    by_cases h2 : w = 2
    · have c0 := Int.emod_nonneg (M.cell ns 4) (by decide : (9 : Int) ≠ 0)
      have c1 := Int.emod_lt_of_pos (M.cell ns 4) (by decide : (0 : Int) < 9)
      refine ⟨(25 + M.cell ns 4 % 9).toNat, by omega, fun h => by omega, fun k => ?_⟩
      rw [if_go a]
      have b := t2 m0
      rw [decide_eq_true h2] at b
      have z := add_ok (f := eC (.int 25)) (a := 25) (τ := l0 ns w m0 none) rfl (mod_ok (c_cell (ns := ns) rfl (by decide : (0 : Int) ≤ 4)) (by decide : (0 : Int) < 9))
      rw [seq_if_t b (set_nx z rfl), Int.toNat_of_nonneg (by omega)]
      rfl
    · refine ⟨m0.toNat, by omega, fun h => by omega, fun k => ?_⟩
      rw [if_go a]
      have b := t2 m0
      rw [decide_eq_false h2] at b
      rw [if_go b, Int.toNat_of_nonneg (by omega)]
theorem law_s2 (ns ps : List Int) {w : Int} (hw : w = M.cell ns 3 % 6) (hp : ps.length ≤ 33) (h1 : w = 1 → 1 ≤ ps.length) : ∃ qs : List Int, qs.length ≤ 34 ∧ ∀ k : SF, sSeq (sIf (eT (eBin eqD (eVar 1) (eC (.int 1)))) (sIns 3 (eBin modD (eBin fdivD (eCall G__law_cell (aCons (eVar 0) (aCons (eC (.int 3)) aNil))) (eC (.int 6))) (eBin addD (eVar 2) (eC (.int 1)))) (eBin ixD (eVar 3) (eBin modD (eCall G__law_cell (aCons (eVar 0) (aCons (eC (.int 4)) aNil))) (eVar 2)))) sNext) (sSeq (sIf (eT (eBin eqD (eBin modD (eBin fdivD (eCall G__law_cell (aCons (eVar 0) (aCons (eC (.int 3)) aNil))) (eC (.int 6))) (eC (.int 2))) (eC (.int 1)))) (sRev 3) sNext) k) (l0 ns w ps.length (some (.lst .own (ps.map .int)))) = k (l0 ns w ps.length (some (.lst .own (qs.map .int)))) := by
  have rv : ∀ qs : List Int, qs.length ≤ 34 → ∃ qs' : List Int, qs'.length ≤ 34 ∧ ∀ k : SF, sSeq (sIf (eT (eBin eqD (eBin modD (eBin fdivD (eCall G__law_cell (aCons (eVar 0) (aCons (eC (.int 3)) aNil))) (eC (.int 6))) (eC (.int 2))) (eC (.int 1)))) (sRev 3) sNext) k (l0 ns w ps.length (some (.lst .own (qs.map .int)))) = k (l0 ns w ps.length (some (.lst .own (qs'.map .int)))) := fun qs hq => by
    have t := eqi_ok (τ := l0 ns w ps.length (some (.lst .own (qs.map .int)))) (mod_ok (fdiv_ok (c_cell (ns := ns) rfl (by decide : (0 : Int) ≤ 3)) (by decide : (0 : Int) < 6 ∧ (6 : Int) < 1073741824)) (by decide : (0 : Int) < 2)) (g := eC (.int 1)) (b := 1) rfl
    cases hb : decide (M.cell ns 3 / 6 % 2 = 1) with
    | true =>
      rw [hb] at t
      refine ⟨qs.reverse, by rw [List.length_reverse]; exact hq, fun k => ?_⟩
      rw [seq_if_t t (rev_nx (xs := qs.map .int) rfl), ← List.map_reverse]
      rfl
    | false =>
      rw [hb] at t
      exact ⟨qs, hq, fun k => if_go t⟩
  have t := eqi_ok (f := eVar 1) (τ := l0 ns w ps.length (some (.lst .own (ps.map .int)))) (a := w) rfl (g := eC (.int 1)) (b := 1) rfl
  by_cases hw1 : w = 1
  · have hl := h1 hw1
    rw [decide_eq_true hw1] at t
    have hpos : (0 : Int) < (ps.length : Int) + 1 := by omega
    have hpos' : (0 : Int) < (ps.length : Int) := by omega
    have c0 := Int.emod_nonneg (M.cell ns 3 / 6) (by omega : (ps.length : Int) + 1 ≠ 0)
    have c1 := Int.emod_lt_of_pos (M.cell ns 3 / 6) hpos
    have m0 := Int.emod_nonneg (M.cell ns 4) (by omega : (ps.length : Int) ≠ 0)
    have m1 := Int.emod_lt_of_pos (M.cell ns 4) hpos'
    have i1 : eBin modD (eBin fdivD (eCall G__law_cell (aCons (eVar 0) (aCons (eC (.int 3)) aNil))) (eC (.int 6))) (eBin addD (eVar 2) (eC (.int 1))) (l0 ns w ps.length (some (.lst .own (ps.map .int)))) = .ok (.int (M.cell ns 3 / 6 % ((ps.length : Int) + 1))) := by
      rw [eBin_ok (fdiv_ok (c_cell (ns := ns) rfl (by decide : (0 : Int) ≤ 3)) (by decide : (0 : Int) < 6 ∧ (6 : Int) < 1073741824)) (add_ok (f := eVar 2) (a := ps.length) rfl (g := eC (.int 1)) (b := 1) rfl)]
      exact mod_p hpos
    have i2 : eBin modD (eCall G__law_cell (aCons (eVar 0) (aCons (eC (.int 4)) aNil))) (eVar 2) (l0 ns w ps.length (some (.lst .own (ps.map .int)))) = .ok (.int ((M.cell ns 4 % ps.length).toNat : Nat)) := by
      rw [eBin_ok (c_cell (ns := ns) rfl (by decide : (0 : Int) ≤ 4)) (y := .int ps.length) rfl, Int.toNat_of_nonneg m0]
      exact mod_p hpos'
    have hi : (M.cell ns 4 % ps.length).toNat < ps.length := by omega
    have i3 : eBin ixD (eVar 3) (eBin modD (eCall G__law_cell (aCons (eVar 0) (aCons (eC (.int 4)) aNil))) (eVar 2)) (l0 ns w ps.length (some (.lst .own (ps.map .int)))) = .ok (.int (ps.getD (M.cell ns 4 % ps.length).toNat 0)) := ix_ok (var_own rfl (pure_ints ps)) i2 (ix_lst (j := (M.cell ns 4 % ps.length).toNat) rfl (by
      rw [List.getElem?_map, List.getElem?_eq_getElem hi, List.getD_eq_getElem?_getD, List.getElem?_eq_getElem hi]
      rfl))
    have st := ins_nx (i := 3) (xs := ps.map .int) (τ := l0 ns w ps.length (some (.lst .own (ps.map .int)))) rfl i1 i3 ⟨c0, by rw [List.length_map]; omega, by rw [List.length_map]; omega⟩
    rw [ins_map] at st
    obtain ⟨qs, hq, e⟩ := rv (L2.insAt ps (M.cell ns 3 / 6 % ((ps.length : Int) + 1)).toNat (ps.getD (M.cell ns 4 % ps.length).toNat 0)) (by
      unfold L2.insAt
      rw [List.length_append, List.length_cons, List.length_take, List.length_drop]
      omega)
    refine ⟨qs, hq, fun k => ?_⟩
    rw [seq_if_t t st]
    exact e k
  · rw [decide_eq_false hw1] at t
    obtain ⟨qs, hq, e⟩ := rv ps (by omega)
    refine ⟨qs, hq, fun k => ?_⟩
    rw [if_go t]
    exact e k
theorem sameD_tie (t : N2.Tie) : sameD (tieD t) (tieD t) = true := by
  show ([t.1, t.2.1, t.2.2] == [t.1, t.2.1, t.2.2]) = true
  simp
theorem same_ints : ∀ qs : List Int, sameDs (qs.map .int) (qs.map .int) = true
  | [] => rfl
  | q :: r => by
    show (q == q && sameDs (r.map .int) (r.map .int)) = true
    rw [same_ints r]; simp
theorem same_ties : ∀ T : List N2.Tie, sameDs (T.map tieD) (T.map tieD) = true
  | [] => rfl
  | t :: r => by
    show (sameD (tieD t) (tieD t) && sameDs (r.map tieD) (r.map tieD)) = true
    rw [sameD_tie, same_ties r]; rfl
theorem neL_ok {f g : SD → Res D} {τ : SD} {t1 t2 : Tg} {xs : List D} (h1 : f τ = .ok (.lst t1 xs)) (h2 : g τ = .ok (.lst t2 xs)) (h : sameDs xs xs = true) : eT (eBin neLD f g) τ = .ok false := by
  refine eT_ok ((eBin_ok h1 h2).trans ?_)
  show (if sameDs xs xs = true then _ else _) = _
  exact if_pos h
/-- from the ties on -/
noncomputable def lT (ns : List Int) (w m : Int) (qs : List Int) (T : List N2.Tie) (o5 o6 o7 : Option D) : SD := [some (S ns), some (.int w), some (.int m), some (.lst .frz (qs.map .int)), some (.lst .own (T.map tieD)), o5, o6, o7]
section
variable {ns : List Int} {w m : Int} {qs : List Int} {T : List N2.Tie} {o5 o6 o7 : Option D}
theorem v3 : eVar 3 (lT ns w m qs T o5 o6 o7) = .ok (.lst .frz (qs.map .int)) := var_frz rfl (pure_ints qs)
theorem v4 : eVar 4 (lT ns w m qs T o5 o6 o7) = .ok (.lst .bor (T.map tieD)) := var_own rfl (pure_ties T)
noncomputable abbrev hnd (qs : List Int) (T : List N2.Tie) : D := .lst .own [.lst .own (qs.map .int), .lst .own (T.map tieD)]
theorem v5 : eVar 5 (lT ns w m qs T (some (hnd qs T)) o6 o7) = .ok (.lst .bor [.lst .bor (qs.map .int), .lst .bor (T.map tieD)]) := by
  show Res.ok (D.lst .bor [.lst .bor (viewL (qs.map .int)), .lst .bor (viewL (T.map tieD))]) = _
  rw [view_ints, viewL_pure _ (pure_ties _)]
theorem v50 : eBin ixD (eVar 5) (eC (.int 0)) (lT ns w m qs T (some (hnd qs T)) o6 o7) = .ok (.lst .bor (qs.map .int)) := ix_ok v5 (y := .int 0) rfl (ix_lst (j := 0) rfl rfl)
theorem v51 : eBin ixD (eVar 5) (eC (.int 1)) (lT ns w m qs T (some (hnd qs T)) o6 o7) = .ok (.lst .bor (T.map tieD)) := ix_ok v5 (y := .int 1) rfl (ix_lst (j := 1) rfl rfl)
theorem c_ans {ca : PySem.Str → PySem.Addr} (hA : Apart ca names) (hl : qs.length ≤ 100) {T : List N2.Tie} (hT : T.length ≤ 100) {f g : SD → Res D} {τ : SD} {t1 t2 : Tg} (h1 : f τ = .ok (.lst t1 (qs.map .int))) (h2 : g τ = .ok (.lst t2 (T.map tieD))) : eCall (G__law_answer ca) (aCons f (aCons g aNil)) τ = .ok (dueD qs T) :=
  eCall_pure (aCons_ok h1 (aOne h2)) (by
    show G__law_answer ca [.lst .frz (frzL (qs.map .int)), .lst .frz (frzL (T.map tieD))] = _
    rw [frz_ints, frzL_pure _ (pure_ties T)]
    exact answer_eq hA hl hT) due_pure
theorem c_due (hl : qs.length ≤ 100) {T : List N2.Tie} (hT : T.length ≤ 100) {f g : SD → Res D} {τ : SD} {t1 t2 : Tg} (h1 : f τ = .ok (.lst t1 (qs.map .int))) (h2 : g τ = .ok (.lst t2 (T.map tieD))) : eCall G__law_due (aCons f (aCons g aNil)) τ = .ok (dueD qs T) :=
  eCall_pure (aCons_ok h1 (aOne h2)) (by
    show G__law_due [.lst .frz (frzL (qs.map .int)), .lst .frz (frzL (T.map tieD))] = _
    rw [frz_ints, frzL_pure _ (pure_ties T)]
    exact due_eq hl hT) due_pure
theorem c_like (hl : qs.length ≤ 100) {T : List N2.Tie} {f g : SD → Res D} {τ : SD} (h1 : f τ = .ok (dueD qs T)) (h2 : g τ = .ok (dueD qs T)) : eCall (G__law_like 4) (aCons f (aCons g aNil)) τ = .ok (.bl true) :=
  eCall_pure (aCons_ok h1 (aOne h2)) (by
    show G__law_like 4 [(dueD qs T).frz, (dueD qs T).frz] = _
    rw [frz_pure _ due_pure]
    exact due_like hl) rfl
noncomputable def tieOf : D → N2.Tie | .tup [.int a, .int b, .int c] => (a, b, c) | _ => (0, 0, 0)
theorem tieOf_tie (t : N2.Tie) : tieOf (tieD t) = t := rfl
/-- a good tie -/
noncomputable def goodT (qs : List Int) (t : N2.Tie) : Bool := (!decide (t.1 = t.2.1)) && (decide (t.1 ∈ qs) && decide (t.2.1 ∈ qs))
theorem good_eq {ca : PySem.Str → PySem.Addr} (hT : T.length ≤ 100) : eComp (eIt (eCut (eVar 4) eP0 (eP (eC (.int 1))))) (gN 0) (g_law_c1 ca) (g_law_e2 ca) 1 [("_law_places_here", 3)] (lT ns w m qs T o5 o6 o7) = .ok (.lst .own (((DL.cut T none (some 1)).filter (goodT qs)).map tieD)) := by
  have cm : DL.cut (T.map tieD) none (some 1) = (DL.cut T none (some 1)).map tieD := by
    unfold DL.cut
    simp [List.map_drop, List.map_take]
  have zc : eCut (eVar 4) eP0 (eP (eC (.int 1))) (lT ns w m qs T o5 o6 o7) = .ok (.lst .own ((DL.cut T none (some 1)).map tieD)) := by
    unfold eCut
    rw [v4]
    show cutD (.lst .bor (T.map tieD)) none (some 1) = _
    rw [← cm]
    rfl
  have zi : eIt (eCut (eVar 4) eP0 (eP (eC (.int 1)))) (lT ns w m qs T o5 o6 o7) = .ok (false, (DL.cut T none (some 1)).map tieD) := by
    unfold eIt
    rw [zc, Res.bind_ok]
    show Res.ok ((D.lst .own ((DL.cut T none (some 1)).map tieD)).hasBor, _) = _
    rw [bor_own (pure_ties _)]
  have cp : capD (lT ns w m qs T o5 o6 o7) [("_law_places_here", 3)] = [some (.lst .frz (qs.map .int))] := by
    show [some (D.lst .frz (frzL (qs.map .int)))] = _
    rw [frz_ints]
  have fz : frzL ((DL.cut T none (some 1)).map tieD) = (DL.cut T none (some 1)).map tieD := frzL_pure _ (pure_ties _)
  have hcl : (DL.cut T none (some 1)).length ≤ T.length := by
    unfold DL.cut
    rw [List.length_take, List.length_drop]
    omega
  have e := eComp_if (it := eIt (eCut (eVar 4) eP0 (eP (eC (.int 1))))) (tt := g_law_c1 ca) (elt := g_law_e2 ca) (cap := [("_law_places_here", 3)]) (τ := lT ns w m qs T o5 o6 o7) (fl := false) (ds := (DL.cut T none (some 1)).map tieD) (fun d => goodT qs (tieOf d)) id zi (fun d hd => by
      rw [fz] at hd
      obtain ⟨t, _, rfl⟩ := List.mem_map.mp hd
      rw [cp, tieOf_tie]
      have x0 : eBin ixD (eVar 0) (eC (.int 0)) [some (tieD t), some (.lst .frz (qs.map .int))] = .ok (.int t.1) := ix_ok (x := tieD t) (y := .int 0) rfl rfl (ix_tup (j := 0) rfl rfl)
      have x1 : eBin ixD (eVar 0) (eC (.int 1)) [some (tieD t), some (.lst .frz (qs.map .int))] = .ok (.int t.2.1) := ix_ok (x := tieD t) (y := .int 1) rfl rfl (ix_tup (j := 1) rfl rfl)
      have xp : eVar 1 [some (tieD t), some (.lst .frz (qs.map .int))] = .ok (.lst .frz (qs.map .int)) := var_frz rfl (pure_ints qs)
      exact and_ok (nei_ok x0 x1) (and_ok (isin_lst x0 xp) (isin_lst x1 xp))) (fun d hd _ => by
      rw [fz] at hd
      obtain ⟨t, _, rfl⟩ := List.mem_map.mp hd
      exact ⟨rfl, rfl⟩) (by rw [List.length_map]; omega)
  rw [e, fz, List.map_id, List.filter_map]
  rfl
theorem good_len : ((DL.cut T none (some 1)).filter (goodT qs)).length ≤ T.length := by
  refine Nat.le_trans (List.length_filter_le _ _) ?_
  unfold DL.cut
  rw [List.length_take, List.length_drop]
  omega
end
theorem law_true {ca : PySem.Str → PySem.Addr} (hA : Apart ca names) (ns : List Int) (hl : ns.length ≤ 63) : G_law ca [.lst .frz (ns.map D.int)] = .ok (.bl true) := by
  refine run_rt (τ := [some (S ns), none, none, none, none, none, none, none]) rfl rfl ?_
  unfold g_law
  rw [seq_nx (set_nx (mod_ok (c_cell (ns := ns) rfl (by decide : (0 : Int) ≤ 3)) (by decide : (0 : Int) < 6)) rfl)]
  rw [seq_nx (set_nx (d := .int (M.many (M.cell ns 0))) (eCall_own (ds := [.int (M.cell ns 0)]) (aOne (c_cell (ns := ns) rfl (by decide : (0 : Int) ≤ 0))) (many_eq _) rfl) rfl)]
  show sSeq _ _ (l0 ns (M.cell ns 3 % 6) (M.many (M.cell ns 0)) none) = _
  obtain ⟨m, hm, h1, e1⟩ := law_s1 ns
  rw [e1]
  have zp : eCall G__law_places (aCons (eVar 0) (aCons (eC (.int 1)) (aCons (eVar 2) aNil))) (l0 ns (M.cell ns 3 % 6) m none) = .ok (.lst .own ((M.places big ns 1 m).map .int)) :=
    eCall_own (ds := [S ns, .int 1, .int m]) (aCons_ok (var_frz rfl (pure_ints ns)) (aCons_ok rfl (aOne rfl))) (by simpa [frzL, D.frz] using places_eq ns (a := 1) (n := m) (by decide) (by omega)) (by simp [hasBorL, D.hasBor])
  rw [seq_nx (set_nx zp (bor_own (pure_ints _)))]
  have hpl := M.places_len big ns 1 m
  generalize M.places big ns 1 m = ps at hpl
  subst hpl
  show sSeq _ _ (l0 ns (M.cell ns 3 % 6) ps.length (some (.lst .own (ps.map .int)))) = _
  obtain ⟨qs, hq, e2⟩ := law_s2 ns ps rfl hm h1
  rw [e2]
  obtain ⟨T, hT, eT⟩ := ties_ex (ns := ns) (qs := qs) hl
  generalize (ps.length : Int) = m
  generalize M.cell ns 3 % 6 = w
  have zt : sFrz [3] (sSet 4 (eCall G__law_ties (aCons (eVar 0) (aCons (eVar 3) aNil)))) (l0 ns w m (some (.lst .own (qs.map .int)))) = .nx (lT ns w m qs T none none none) := by
    unfold sFrz
    have hf : frzAt [3] (l0 ns w m (some (.lst .own (qs.map .int)))) = l0 ns w m (some (.lst .frz (qs.map .int))) := by
      show l0 ns w m (some (.lst .frz (frzL (qs.map .int)))) = _
      rw [frz_ints]
    rw [hf]
    have z : eCall G__law_ties (aCons (eVar 0) (aCons (eVar 3) aNil)) (l0 ns w m (some (.lst .frz (qs.map .int)))) = .ok (.lst .own (T.map tieD)) :=
      eCall_own (ds := [S ns, .lst .frz (qs.map .int)]) (aCons_ok (var_frz rfl (pure_ints ns)) (aOne (var_frz rfl (pure_ints qs)))) (by
        show G__law_ties [.lst .frz (frzL (ns.map .int)), .lst .frz (frzL (qs.map .int))] = _
        rw [frz_ints, frz_ints]
        exact eT) (by simp [hasBorL, D.hasBor])
    rw [set_nx z (bor_own (pure_ties _))]
    rfl
  rw [seq_nx zt]
  have z5 : eA lstD (aCons (eA listD (aCons (eVar 3) aNil)) (aCons (eA listD (aCons (eVar 4) aNil)) aNil)) (lT ns w m qs T none none none) = .ok (hnd qs T) := by
    rw [eA_ok (aCons_ok (list_ok v3) (aOne (list_ok v4)))]
    rfl
  have b5 : (hnd qs T).hasBor = false := by
    show (false || ((D.lst .own (qs.map .int)).hasBor || ((D.lst .own (T.map tieD)).hasBor || false))) = false
    rw [bor_own (pure_ints _), bor_own (pure_ties _)]
    rfl
  rw [seq_nx (set_nx z5 b5)]
  show sSeq _ _ (lT ns w m qs T (some (hnd qs T)) none none) = _
  have hq' : qs.length ≤ 100 := by omega
  have hT' : T.length ≤ 100 := by omega
  rw [seq_nx (set_nx (c_ans hA hq' hT' v50 v51) (hasBor_pure _ due_pure))]
  show sSeq _ _ (lT ns w m qs T (some (hnd qs T)) (some (dueD qs T)) none) = _
  rw [if_go (or_ok (neL_ok v50 v3 (same_ints qs)) (neL_ok v51 v4 (same_ties T)))]
  rw [if_go (not_ok (eT_ok (c_like hq' (var_pure rfl due_pure) (c_due hq' hT' v3 v4))))]
  have l3 := len_ok (v3 (ns := ns) (w := w) (m := m) (qs := qs) (T := T) (o5 := some (hnd qs T)) (o6 := some (dueD qs T)) (o7 := none))
  rw [List.length_map] at l3
  have t := and_ok (gti_ok l3 (g := eC (.int 0)) (b := 0) rfl) (and_ok (lti_ok l3 (g := eC (.int 25)) (b := 25) rfl) (nei_ok (f := eVar 1) (a := w) rfl (g := eC (.int 1)) (b := 1) rfl))
  cases hb : (decide ((0 : Int) < qs.length) && (decide ((qs.length : Int) < 25) && !decide (w = 1))) with
  | false =>
    rw [hb] at t
    rw [if_go t]
    rfl
  | true =>
    rw [hb] at t
    refine if_rt t ?_
    rw [seq_nx (set_nx (good_eq (ca := ca) hT') (bor_own (pure_ties _)))]
    show sRet _ (lT ns w m qs T (some (hnd qs T)) (some (dueD qs T)) (some (.lst .own (((DL.cut T none (some 1)).filter (goodT qs)).map tieD)))) = _
    have hg := good_len (qs := qs) (T := T)
    generalize (DL.cut T none (some 1)).filter (goodT qs) = G at hg
    have v7 : eVar 7 (lT ns w m qs T (some (hnd qs T)) (some (dueD qs T)) (some (.lst .own (G.map tieD)))) = .ok (.lst .bor (G.map tieD)) := var_own rfl (pure_ties G)
    exact ret_rt (c_like hq' (c_ans hA hq' (by omega) v3 v7) (c_due hq' (by omega) v3 v7)) rfl
end KL
set_option Elab.async false
set_option linter.all false
set_option maxRecDepth 100000
set_option maxHeartbeats 0
namespace KL
open PySem PySem.Spec PyProof.Rows L2 DL XF
noncomputable def caL (l : List (Str × Addr)) (x : Str) : Addr := (l.lookup x).getD 0
/-- an error class as the top left it -/
structure XRaw (K : PySem.W.Frag) (x : Str) (C : Addr) (bm : List Value) : Prop where
  n : PySem.W.nsIn K mainGlobals x = some (some (.ref C))
  e : PySem.W.excIn K C veM "ValueError.__new__" = true
  m : XF.mroIn K C = some (.ref C :: bm)
structure XRawK (K : PySem.W.Frag) (C : Addr) : Prop where
  ga : PySem.W.findIn K (.ref C) "__getattribute__" = some (some (.builtin "BaseException.__getattribute__"))
  gt : PySem.W.findIn K (.ref C) "__getattr__" = some none
  ha : PySem.W.findIn K (.ref C) "__class__" = some (some (.builtin "object.__class__"))
  mo : PySem.W.mroIn K C (.type "object") = some true
  mb : PySem.W.mroIn K C (.type "BaseException") = some true
  cl : (PySem.W.clsIn K C).isSome = true
theorem fo_none {K : PySem.W.Frag} {C : Addr} (hc : (PySem.W.clsIn K C).isSome = true) (ha : PySem.W.findIn K (.ref C) "__class__" = some (some (.builtin "object.__class__"))) (hn : PySem.W.specialIn K (.builtin "object.__class__") "__get__" = some (some (.builtin "getset_descriptor.__get__"))) (htk : PySem.W.takesIn K (.builtin "object.__class__") = some true) :
    PySem.W.findObj K C none "__class__" = some (.bind (.builtin "getset_descriptor.__get__") (.builtin "object.__class__")) := by
  obtain ⟨cd, hc⟩ := Option.isSome_iff_exists.mp hc
  unfold PySem.W.findObj
  rw [hc, Option.bind_some, ha, Option.bind_some]
  simp [hn, htk]
theorem XRawK.kit {K : PySem.W.Frag} {C : Addr} (r : XRawK K C) (hn : PySem.W.specialIn K (.builtin "object.__class__") "__get__" = some (some (.builtin "getset_descriptor.__get__"))) (htk : PySem.W.takesIn K (.builtin "object.__class__") = some true) : XKit K C :=
  ⟨r.ga, r.gt, fo_none r.cl r.ha hn htk, r.mo, r.mb, r.cl⟩
theorem XRaw.cls {K : PySem.W.Frag} {h : Heap} {mg : Str → Option Value} {x : Str} {C : Addr} {bm : List Value} (r : XRaw K x C bm) (X : K.In h) (G : h.Ns mainGlobals mg) : XCls K mg x C bm := ⟨PySem.W.mg_of X G r.n, r.e, r.m⟩
theorem apart : Apart (KL.caL [("NetError", 24), ("NoNet", 37), ("NoPlace", 49), ("SamePlace", 61), ("Twice", 73), ("Taken", 85), ("NoColours", 97), ("NoSet", 109), ("NoParting", 121), ("NoGroup", 133), ("TooMany", 145), ("NoDeed", 157), ("Unlike", 169), ("NoText", 181), ("NoRow", 193), ("NoName", 205)]) names := by
  have h : ∀ x ∈ names, ∀ y ∈ names, KL.caL [("NetError", 24), ("NoNet", 37), ("NoPlace", 49), ("SamePlace", 61), ("Twice", 73), ("Taken", 85), ("NoColours", 97), ("NoSet", 109), ("NoParting", 121), ("NoGroup", 133), ("TooMany", 145), ("NoDeed", 157), ("Unlike", 169), ("NoText", 181), ("NoRow", 193), ("NoName", 205)] x = KL.caL [("NetError", 24), ("NoNet", 37), ("NoPlace", 49), ("SamePlace", 61), ("Twice", 73), ("Taken", 85), ("NoColours", 97), ("NoSet", 109), ("NoParting", 121), ("NoGroup", 133), ("TooMany", 145), ("NoDeed", 157), ("Unlike", 169), ("NoText", 181), ("NoRow", 193), ("NoName", 205)] y → x = y := by decide +kernel
  exact fun x y hx hy => h x hx y hy
theorem ca_NetError : KL.caL [("NetError", 24), ("NoNet", 37), ("NoPlace", 49), ("SamePlace", 61), ("Twice", 73), ("Taken", 85), ("NoColours", 97), ("NoSet", 109), ("NoParting", 121), ("NoGroup", 133), ("TooMany", 145), ("NoDeed", 157), ("Unlike", 169), ("NoText", 181), ("NoRow", 193), ("NoName", 205)] "NetError" = 24 := by decide +kernel
theorem ca_NoNet : KL.caL [("NetError", 24), ("NoNet", 37), ("NoPlace", 49), ("SamePlace", 61), ("Twice", 73), ("Taken", 85), ("NoColours", 97), ("NoSet", 109), ("NoParting", 121), ("NoGroup", 133), ("TooMany", 145), ("NoDeed", 157), ("Unlike", 169), ("NoText", 181), ("NoRow", 193), ("NoName", 205)] "NoNet" = 37 := by decide +kernel
theorem ca_NoPlace : KL.caL [("NetError", 24), ("NoNet", 37), ("NoPlace", 49), ("SamePlace", 61), ("Twice", 73), ("Taken", 85), ("NoColours", 97), ("NoSet", 109), ("NoParting", 121), ("NoGroup", 133), ("TooMany", 145), ("NoDeed", 157), ("Unlike", 169), ("NoText", 181), ("NoRow", 193), ("NoName", 205)] "NoPlace" = 49 := by decide +kernel
theorem ca_SamePlace : KL.caL [("NetError", 24), ("NoNet", 37), ("NoPlace", 49), ("SamePlace", 61), ("Twice", 73), ("Taken", 85), ("NoColours", 97), ("NoSet", 109), ("NoParting", 121), ("NoGroup", 133), ("TooMany", 145), ("NoDeed", 157), ("Unlike", 169), ("NoText", 181), ("NoRow", 193), ("NoName", 205)] "SamePlace" = 61 := by decide +kernel
theorem ca_Twice : KL.caL [("NetError", 24), ("NoNet", 37), ("NoPlace", 49), ("SamePlace", 61), ("Twice", 73), ("Taken", 85), ("NoColours", 97), ("NoSet", 109), ("NoParting", 121), ("NoGroup", 133), ("TooMany", 145), ("NoDeed", 157), ("Unlike", 169), ("NoText", 181), ("NoRow", 193), ("NoName", 205)] "Twice" = 73 := by decide +kernel
theorem ca_Taken : KL.caL [("NetError", 24), ("NoNet", 37), ("NoPlace", 49), ("SamePlace", 61), ("Twice", 73), ("Taken", 85), ("NoColours", 97), ("NoSet", 109), ("NoParting", 121), ("NoGroup", 133), ("TooMany", 145), ("NoDeed", 157), ("Unlike", 169), ("NoText", 181), ("NoRow", 193), ("NoName", 205)] "Taken" = 85 := by decide +kernel
theorem ca_NoColours : KL.caL [("NetError", 24), ("NoNet", 37), ("NoPlace", 49), ("SamePlace", 61), ("Twice", 73), ("Taken", 85), ("NoColours", 97), ("NoSet", 109), ("NoParting", 121), ("NoGroup", 133), ("TooMany", 145), ("NoDeed", 157), ("Unlike", 169), ("NoText", 181), ("NoRow", 193), ("NoName", 205)] "NoColours" = 97 := by decide +kernel
theorem ca_NoSet : KL.caL [("NetError", 24), ("NoNet", 37), ("NoPlace", 49), ("SamePlace", 61), ("Twice", 73), ("Taken", 85), ("NoColours", 97), ("NoSet", 109), ("NoParting", 121), ("NoGroup", 133), ("TooMany", 145), ("NoDeed", 157), ("Unlike", 169), ("NoText", 181), ("NoRow", 193), ("NoName", 205)] "NoSet" = 109 := by decide +kernel
theorem ca_NoParting : KL.caL [("NetError", 24), ("NoNet", 37), ("NoPlace", 49), ("SamePlace", 61), ("Twice", 73), ("Taken", 85), ("NoColours", 97), ("NoSet", 109), ("NoParting", 121), ("NoGroup", 133), ("TooMany", 145), ("NoDeed", 157), ("Unlike", 169), ("NoText", 181), ("NoRow", 193), ("NoName", 205)] "NoParting" = 121 := by decide +kernel
theorem ca_NoGroup : KL.caL [("NetError", 24), ("NoNet", 37), ("NoPlace", 49), ("SamePlace", 61), ("Twice", 73), ("Taken", 85), ("NoColours", 97), ("NoSet", 109), ("NoParting", 121), ("NoGroup", 133), ("TooMany", 145), ("NoDeed", 157), ("Unlike", 169), ("NoText", 181), ("NoRow", 193), ("NoName", 205)] "NoGroup" = 133 := by decide +kernel
theorem ca_TooMany : KL.caL [("NetError", 24), ("NoNet", 37), ("NoPlace", 49), ("SamePlace", 61), ("Twice", 73), ("Taken", 85), ("NoColours", 97), ("NoSet", 109), ("NoParting", 121), ("NoGroup", 133), ("TooMany", 145), ("NoDeed", 157), ("Unlike", 169), ("NoText", 181), ("NoRow", 193), ("NoName", 205)] "TooMany" = 145 := by decide +kernel
theorem ca_NoDeed : KL.caL [("NetError", 24), ("NoNet", 37), ("NoPlace", 49), ("SamePlace", 61), ("Twice", 73), ("Taken", 85), ("NoColours", 97), ("NoSet", 109), ("NoParting", 121), ("NoGroup", 133), ("TooMany", 145), ("NoDeed", 157), ("Unlike", 169), ("NoText", 181), ("NoRow", 193), ("NoName", 205)] "NoDeed" = 157 := by decide +kernel
theorem ca_Unlike : KL.caL [("NetError", 24), ("NoNet", 37), ("NoPlace", 49), ("SamePlace", 61), ("Twice", 73), ("Taken", 85), ("NoColours", 97), ("NoSet", 109), ("NoParting", 121), ("NoGroup", 133), ("TooMany", 145), ("NoDeed", 157), ("Unlike", 169), ("NoText", 181), ("NoRow", 193), ("NoName", 205)] "Unlike" = 169 := by decide +kernel
theorem ca_NoText : KL.caL [("NetError", 24), ("NoNet", 37), ("NoPlace", 49), ("SamePlace", 61), ("Twice", 73), ("Taken", 85), ("NoColours", 97), ("NoSet", 109), ("NoParting", 121), ("NoGroup", 133), ("TooMany", 145), ("NoDeed", 157), ("Unlike", 169), ("NoText", 181), ("NoRow", 193), ("NoName", 205)] "NoText" = 181 := by decide +kernel
theorem ca_NoRow : KL.caL [("NetError", 24), ("NoNet", 37), ("NoPlace", 49), ("SamePlace", 61), ("Twice", 73), ("Taken", 85), ("NoColours", 97), ("NoSet", 109), ("NoParting", 121), ("NoGroup", 133), ("TooMany", 145), ("NoDeed", 157), ("Unlike", 169), ("NoText", 181), ("NoRow", 193), ("NoName", 205)] "NoRow" = 193 := by decide +kernel
theorem ca_NoName : KL.caL [("NetError", 24), ("NoNet", 37), ("NoPlace", 49), ("SamePlace", 61), ("Twice", 73), ("Taken", 85), ("NoColours", 97), ("NoSet", 109), ("NoParting", 121), ("NoGroup", 133), ("TooMany", 145), ("NoDeed", 157), ("Unlike", 169), ("NoText", 181), ("NoRow", 193), ("NoName", 205)] "NoName" = 205 := by decide +kernel
theorem txt_mk {K : PySem.W.Frag} {h : Heap} {mg : Str → Option Value} (X : K.In h) (G : h.Ns mainGlobals mg) (z_ValueError : PySem.W.nsIn K mainGlobals "ValueError" = some none) (z_bool : PySem.W.nsIn K mainGlobals "bool" = some none) (z_enumerate : PySem.W.nsIn K mainGlobals "enumerate" = some none) (z_int : PySem.W.nsIn K mainGlobals "int" = some none) (z_isinstance : PySem.W.nsIn K mainGlobals "isinstance" = some none) (z_len : PySem.W.nsIn K mainGlobals "len" = some none) (z_list : PySem.W.nsIn K mainGlobals "list" = some none) (z_max : PySem.W.nsIn K mainGlobals "max" = some none) (z_range : PySem.W.nsIn K mainGlobals "range" = some none) (z_set : PySem.W.nsIn K mainGlobals "set" = some none) (z_sorted : PySem.W.nsIn K mainGlobals "sorted" = some none) (z_str : PySem.W.nsIn K mainGlobals "str" = some none) (z_tuple : PySem.W.nsIn K mainGlobals "tuple" = some none) {t_MOST_PLACES : Tok} (y_MOST_PLACES : PySem.W.nsIn K mainGlobals "MOST_PLACES" = some (some (.int 24 t_MOST_PLACES))) (R_NetError : XRaw K "NetError" 24 veM) (R_NoNet : XRaw K "NoNet" 37 (.ref 24 :: veM)) (S_NoNet : XRawK K 37) (R_NoPlace : XRaw K "NoPlace" 49 (.ref 24 :: veM)) (S_NoPlace : XRawK K 49) (R_SamePlace : XRaw K "SamePlace" 61 (.ref 24 :: veM)) (S_SamePlace : XRawK K 61) (R_Twice : XRaw K "Twice" 73 (.ref 24 :: veM)) (S_Twice : XRawK K 73) (R_Taken : XRaw K "Taken" 85 (.ref 24 :: veM)) (R_NoColours : XRaw K "NoColours" 97 (.ref 24 :: veM)) (R_NoSet : XRaw K "NoSet" 109 (.ref 24 :: veM)) (R_NoParting : XRaw K "NoParting" 121 (.ref 24 :: veM)) (R_NoGroup : XRaw K "NoGroup" 133 (.ref 24 :: veM)) (R_TooMany : XRaw K "TooMany" 145 (.ref 24 :: veM)) (R_NoDeed : XRaw K "NoDeed" 157 (.ref 24 :: veM)) (R_Unlike : XRaw K "Unlike" 169 (.ref 24 :: veM)) (R_NoText : XRaw K "NoText" 181 (.ref 24 :: veM)) (R_NoRow : XRaw K "NoRow" 193 (.ref 24 :: veM)) (R_NoName : XRaw K "NoName" 205 (.ref 24 :: veM)) (hn : PySem.W.specialIn K (.builtin "object.__class__") "__get__" = some (some (.builtin "getset_descriptor.__get__"))) (htk : PySem.W.takesIn K (.builtin "object.__class__") = some true) : Txt K mg (KL.caL [("NetError", 24), ("NoNet", 37), ("NoPlace", 49), ("SamePlace", 61), ("Twice", 73), ("Taken", 85), ("NoColours", 97), ("NoSet", 109), ("NoParting", 121), ("NoGroup", 133), ("TooMany", 145), ("NoDeed", 157), ("Unlike", 169), ("NoText", 181), ("NoRow", 193), ("NoName", 205)]) :=
  ⟨PySem.W.mg_none_of X G z_ValueError, PySem.W.mg_none_of X G z_bool, PySem.W.mg_none_of X G z_enumerate, PySem.W.mg_none_of X G z_int, PySem.W.mg_none_of X G z_isinstance, PySem.W.mg_none_of X G z_len, PySem.W.mg_none_of X G z_list, PySem.W.mg_none_of X G z_max, PySem.W.mg_none_of X G z_range, PySem.W.mg_none_of X G z_set, PySem.W.mg_none_of X G z_sorted, PySem.W.mg_none_of X G z_str, PySem.W.mg_none_of X G z_tuple, ⟨_, PySem.W.mg_of X G y_MOST_PLACES⟩, (by rw [ca_NetError]; exact R_NetError.cls X G), (by rw [ca_NoNet, ca_NetError]; exact R_NoNet.cls X G), (by rw [ca_NoNet]; exact S_NoNet.kit hn htk), (by rw [ca_NoPlace, ca_NetError]; exact R_NoPlace.cls X G), (by rw [ca_NoPlace]; exact S_NoPlace.kit hn htk), (by rw [ca_SamePlace, ca_NetError]; exact R_SamePlace.cls X G), (by rw [ca_SamePlace]; exact S_SamePlace.kit hn htk), (by rw [ca_Twice, ca_NetError]; exact R_Twice.cls X G), (by rw [ca_Twice]; exact S_Twice.kit hn htk), (by rw [ca_Taken, ca_NetError]; exact R_Taken.cls X G), (by rw [ca_NoColours, ca_NetError]; exact R_NoColours.cls X G), (by rw [ca_NoSet, ca_NetError]; exact R_NoSet.cls X G), (by rw [ca_NoParting, ca_NetError]; exact R_NoParting.cls X G), (by rw [ca_NoGroup, ca_NetError]; exact R_NoGroup.cls X G), (by rw [ca_TooMany, ca_NetError]; exact R_TooMany.cls X G), (by rw [ca_NoDeed, ca_NetError]; exact R_NoDeed.cls X G), (by rw [ca_Unlike, ca_NetError]; exact R_Unlike.cls X G), (by rw [ca_NoText, ca_NetError]; exact R_NoText.cls X G), (by rw [ca_NoRow, ca_NetError]; exact R_NoRow.cls X G), (by rw [ca_NoName, ca_NetError]; exact R_NoName.cls X G)⟩
theorem all_ok {l : PySem.W.OpenLaw} {w : World} {K : PySem.W.Frag} {h : Heap} {mg : Str → Option Value} {fa : Addr} (X : K.In h) (G : h.Ns mainGlobals mg) (hfa : mg "law" = some (.ref fa)) (T : Txt K mg (KL.caL [("NetError", 24), ("NoNet", 37), ("NoPlace", 49), ("SamePlace", 61), ("Twice", 73), ("Taken", 85), ("NoColours", 97), ("NoSet", 109), ("NoParting", 121), ("NoGroup", 133), ("TooMany", 145), ("NoDeed", 157), ("Unlike", 169), ("NoText", 181), ("NoRow", 193), ("NoName", 205)]))
    (D_require_place : Dfn K mg "require_place" s_require_place ["places", "place"])
    (D_require_two : Dfn K mg "require_two" s_require_two ["places", "one", "other"])
    (D_pair : Dfn K mg "pair" s_pair ["one", "other"])
    (D_net_with : Dfn K mg "net_with" s_net_with ["places", "colours"])
    (D_net_from : Dfn K mg "net_from" s_net_from ["places", "ties"])
    (D__law_cell : Dfn K mg "_law_cell" s__law_cell ["_law_script", "_law_k"])
    (D__law_like : Dfn K mg "_law_like" s__law_like ["_law_found", "_law_due_here"])
    (D__law_many : Dfn K mg "_law_many" s__law_many ["_law_cell_here"])
    (D__law_places : Dfn K mg "_law_places" s__law_places ["_law_script", "_law_at", "_law_many_here"])
    (D__law_word : Dfn K mg "_law_word" s__law_word ["_law_e"])
    (D__law_ties : Dfn K mg "_law_ties" s__law_ties ["_law_script", "_law_pool"])
    (D__law_due : Dfn K mg "_law_due" s__law_due ["_law_places_here", "_law_ties_here"])
    (D__law_answer : Dfn K mg "_law_answer" s__law_answer ["_law_places_here", "_law_ties_here"])
    {f : Addr} {oc : Value} {od an : Option Addr} {osl : Array (Option Value)} {kV doc pm cdv ct : Value} (a : PySem.W.nsIn K mainGlobals "law" = some (some (.ref f)))
    (lk : K.lookup f = some ⟨oc, od, .func (PySem.W.fnOf "law" "law" (defArgs s_law) (defBody s_law) (defScope s_law) .none kV doc pm an cdv ct), osl⟩) (c : PySem.W.codeIn K cdv "law" = true) (k : PySem.W.keepIn K (.ref f) = true) :
    ∃ fd : FuncData, (∀ (s : Shared) (v : Value), BindsTo s fd ⟨[v], []⟩ [("_law_script", v)]) ∧ ∀ base : Heap, K.In base → base.Ns mainGlobals mg → FnOk l.prog w K mg base CX0 6 fa fd ["_law_script"] (spF K (G_law (KL.caL [("NetError", 24), ("NoNet", 37), ("NoPlace", 49), ("SamePlace", 61), ("Twice", 73), ("Taken", 85), ("NoColours", 97), ("NoSet", 109), ("NoParting", 121), ("NoGroup", 133), ("TooMany", 145), ("NoDeed", 157), ("Unlike", 169), ("NoText", 181), ("NoRow", 193), ("NoName", 205)]))) := by
  have e := hfa.symm.trans (PySem.W.mg_of X G a)
  cases e
  refine ⟨PySem.W.fnOf "law" "law" (defArgs s_law) (defBody s_law) (defScope s_law) .none kV doc pm an cdv ct, fun s v => .of_eq rfl, fun base _ _ => ?_⟩
  have C_require_place := ok_require_place (P := l.prog) (w := w) (base := base) T  D_require_place
  have C_require_two := ok_require_two (P := l.prog) (w := w) (base := base) T C_require_place D_require_two
  have C_pair := ok_pair (P := l.prog) (w := w) (base := base) T  D_pair
  have C_net_with := ok_net_with (P := l.prog) (w := w) (base := base) T C_pair D_net_with
  have C_net_from := ok_net_from (P := l.prog) (w := w) (base := base) T C_require_two C_pair C_net_with D_net_from
  have C__law_cell := ok__law_cell (P := l.prog) (w := w) (base := base) T  D__law_cell
  have C__law_like := ok__law_like (P := l.prog) (w := w) (base := base) T  D__law_like 4
  have C__law_many := ok__law_many (P := l.prog) (w := w) (base := base) T  D__law_many
  have C__law_places := ok__law_places (P := l.prog) (w := w) (base := base) T C__law_cell D__law_places
  have C__law_word := ok__law_word (P := l.prog) (w := w) (base := base) T  D__law_word
  have C__law_ties := ok__law_ties (P := l.prog) (w := w) (base := base) T C__law_cell D__law_ties
  have C__law_due := ok__law_due (P := l.prog) (w := w) (base := base) T  D__law_due
  have C__law_answer := ok__law_answer (P := l.prog) (w := w) (base := base) T C_net_from C__law_word D__law_answer
  exact fn_law T C__law_cell C__law_like C__law_many C__law_places C__law_ties C__law_due C__law_answer (fun_mk (st := s_law) lk c k)
end KL
open PySem PySem.W PyProof.Rows
set_option maxRecDepth 100000 in
set_option maxHeartbeats 0 in
theorem PySem.Challenge.cw_modulewood_k02_nets_refused_holds : PySem.Challenge.rw_modulewood_k02_nets_refused.Holds := by
  w_on; o_law; k_head; (case hw => w_witness2)
  k_fill
  refine L2.walk_of (l := PySem.Challenge.rw_modulewood_k02_nets_refused) (n := 63) (k := 6) (x := "_law_script") (CX := fun _ => L2.CX0) (sp := fun w => DL.spF _ (KL.G_law (KL.caL [("NetError", 24), ("NoNet", 37), ("NoPlace", 49), ("SamePlace", 61), ("Twice", 73), ("Taken", 85), ("NoColours", 97), ("NoSet", 109), ("NoParting", 121), ("NoGroup", 133), ("TooMany", 145), ("NoDeed", 157), ("Unlike", 169), ("NoText", 181), ("NoRow", 193), ("NoName", 205)]))) rfl (by decide) rfl ⟨rfl, by decide, by decide⟩ (fun w h Y => PySem.W.kIn_of Y) ?F (fun w H a ns hl _ hS => DL.law_sp hS (KL.law_true KL.apart ns hl)) fun _ _ _ _ _ z => z
  case F =>
    intro w mg fa h KX G hmg
    have R_NetError : KL.XRaw (L2.KOf KX) "NetError" 24 XF.veM := by
      dsimp only [L2.KOf]
      exact ⟨by k_is, by kernel_rfl, by kernel_rfl⟩
    have R_NoNet : KL.XRaw (L2.KOf KX) "NoNet" 37 (.ref 24 :: XF.veM) := by
      dsimp only [L2.KOf]
      exact ⟨by k_is, by kernel_rfl, by kernel_rfl⟩
    have S_NoNet : KL.XRawK (L2.KOf KX) 37 := by
      dsimp only [L2.KOf]
      exact ⟨by k_is, by k_is, by k_is, by k_is, by k_is, by kernel_rfl⟩
    have R_NoPlace : KL.XRaw (L2.KOf KX) "NoPlace" 49 (.ref 24 :: XF.veM) := by
      dsimp only [L2.KOf]
      exact ⟨by k_is, by kernel_rfl, by kernel_rfl⟩
    have S_NoPlace : KL.XRawK (L2.KOf KX) 49 := by
      dsimp only [L2.KOf]
      exact ⟨by k_is, by k_is, by k_is, by k_is, by k_is, by kernel_rfl⟩
    have R_SamePlace : KL.XRaw (L2.KOf KX) "SamePlace" 61 (.ref 24 :: XF.veM) := by
      dsimp only [L2.KOf]
      exact ⟨by k_is, by kernel_rfl, by kernel_rfl⟩
    have S_SamePlace : KL.XRawK (L2.KOf KX) 61 := by
      dsimp only [L2.KOf]
      exact ⟨by k_is, by k_is, by k_is, by k_is, by k_is, by kernel_rfl⟩
    have R_Twice : KL.XRaw (L2.KOf KX) "Twice" 73 (.ref 24 :: XF.veM) := by
      dsimp only [L2.KOf]
      exact ⟨by k_is, by kernel_rfl, by kernel_rfl⟩
    have S_Twice : KL.XRawK (L2.KOf KX) 73 := by
      dsimp only [L2.KOf]
      exact ⟨by k_is, by k_is, by k_is, by k_is, by k_is, by kernel_rfl⟩
    have R_Taken : KL.XRaw (L2.KOf KX) "Taken" 85 (.ref 24 :: XF.veM) := by
      dsimp only [L2.KOf]
      exact ⟨by k_is, by kernel_rfl, by kernel_rfl⟩
    have R_NoColours : KL.XRaw (L2.KOf KX) "NoColours" 97 (.ref 24 :: XF.veM) := by
      dsimp only [L2.KOf]
      exact ⟨by k_is, by kernel_rfl, by kernel_rfl⟩
    have R_NoSet : KL.XRaw (L2.KOf KX) "NoSet" 109 (.ref 24 :: XF.veM) := by
      dsimp only [L2.KOf]
      exact ⟨by k_is, by kernel_rfl, by kernel_rfl⟩
    have R_NoParting : KL.XRaw (L2.KOf KX) "NoParting" 121 (.ref 24 :: XF.veM) := by
      dsimp only [L2.KOf]
      exact ⟨by k_is, by kernel_rfl, by kernel_rfl⟩
    have R_NoGroup : KL.XRaw (L2.KOf KX) "NoGroup" 133 (.ref 24 :: XF.veM) := by
      dsimp only [L2.KOf]
      exact ⟨by k_is, by kernel_rfl, by kernel_rfl⟩
    have R_TooMany : KL.XRaw (L2.KOf KX) "TooMany" 145 (.ref 24 :: XF.veM) := by
      dsimp only [L2.KOf]
      exact ⟨by k_is, by kernel_rfl, by kernel_rfl⟩
    have R_NoDeed : KL.XRaw (L2.KOf KX) "NoDeed" 157 (.ref 24 :: XF.veM) := by
      dsimp only [L2.KOf]
      exact ⟨by k_is, by kernel_rfl, by kernel_rfl⟩
    have R_Unlike : KL.XRaw (L2.KOf KX) "Unlike" 169 (.ref 24 :: XF.veM) := by
      dsimp only [L2.KOf]
      exact ⟨by k_is, by kernel_rfl, by kernel_rfl⟩
    have R_NoText : KL.XRaw (L2.KOf KX) "NoText" 181 (.ref 24 :: XF.veM) := by
      dsimp only [L2.KOf]
      exact ⟨by k_is, by kernel_rfl, by kernel_rfl⟩
    have R_NoRow : KL.XRaw (L2.KOf KX) "NoRow" 193 (.ref 24 :: XF.veM) := by
      dsimp only [L2.KOf]
      exact ⟨by k_is, by kernel_rfl, by kernel_rfl⟩
    have R_NoName : KL.XRaw (L2.KOf KX) "NoName" 205 (.ref 24 :: XF.veM) := by
      dsimp only [L2.KOf]
      exact ⟨by k_is, by kernel_rfl, by kernel_rfl⟩
    have hn : PySem.W.specialIn (L2.KOf KX) (.builtin "object.__class__") "__get__" = some (some (.builtin "getset_descriptor.__get__")) := by
      dsimp only [L2.KOf]
      k_is
    have htk : PySem.W.takesIn (L2.KOf KX) (.builtin "object.__class__") = some true := by
      dsimp only [L2.KOf]
      k_is
    have T : KL.Txt (L2.KOf KX) mg (KL.caL [("NetError", 24), ("NoNet", 37), ("NoPlace", 49), ("SamePlace", 61), ("Twice", 73), ("Taken", 85), ("NoColours", 97), ("NoSet", 109), ("NoParting", 121), ("NoGroup", 133), ("TooMany", 145), ("NoDeed", 157), ("Unlike", 169), ("NoText", 181), ("NoRow", 193), ("NoName", 205)]) := by
      refine' KL.txt_mk KX G ?z0 ?z1 ?z2 ?z3 ?z4 ?z5 ?z6 ?z7 ?z8 ?z9 ?z10 ?z11 ?z12 ?z13 R_NetError R_NoNet S_NoNet R_NoPlace S_NoPlace R_SamePlace S_SamePlace R_Twice S_Twice R_Taken R_NoColours R_NoSet R_NoParting R_NoGroup R_TooMany R_NoDeed R_Unlike R_NoText R_NoRow R_NoName hn htk
      (case z0 => dsimp only [L2.KOf]; k_is)
      (case z1 => dsimp only [L2.KOf]; k_is)
      (case z2 => dsimp only [L2.KOf]; k_is)
      (case z3 => dsimp only [L2.KOf]; k_is)
      (case z4 => dsimp only [L2.KOf]; k_is)
      (case z5 => dsimp only [L2.KOf]; k_is)
      (case z6 => dsimp only [L2.KOf]; k_is)
      (case z7 => dsimp only [L2.KOf]; k_is)
      (case z8 => dsimp only [L2.KOf]; k_is)
      (case z9 => dsimp only [L2.KOf]; k_is)
      (case z10 => dsimp only [L2.KOf]; k_is)
      (case z11 => dsimp only [L2.KOf]; k_is)
      (case z12 => dsimp only [L2.KOf]; k_is)
      (case z13 => dsimp only [L2.KOf]; k_is)
    have D_require_place : L2.Dfn (L2.KOf KX) mg "require_place" KL.s_require_place ["places", "place"] := by
      dsimp only [L2.KOf]
      refine' DL.dfn_mk KX G ?a ?l ?c ?k (fun _ _ _ _ _ _ us hl => match us, hl with | [_, _], _ => rfl)
      (case a => k_is); (case l => k_is); (case c => k_is); (case k => k_is)
    have D_require_two : L2.Dfn (L2.KOf KX) mg "require_two" KL.s_require_two ["places", "one", "other"] := by
      dsimp only [L2.KOf]
      refine' DL.dfn_mk KX G ?a ?l ?c ?k (fun _ _ _ _ _ _ us hl => match us, hl with | [_, _, _], _ => rfl)
      (case a => k_is); (case l => k_is); (case c => k_is); (case k => k_is)
    have D_pair : L2.Dfn (L2.KOf KX) mg "pair" KL.s_pair ["one", "other"] := by
      dsimp only [L2.KOf]
      refine' DL.dfn_mk KX G ?a ?l ?c ?k (fun _ _ _ _ _ _ us hl => match us, hl with | [_, _], _ => rfl)
      (case a => k_is); (case l => k_is); (case c => k_is); (case k => k_is)
    have D_net_with : L2.Dfn (L2.KOf KX) mg "net_with" KL.s_net_with ["places", "colours"] := by
      dsimp only [L2.KOf]
      refine' DL.dfn_mk KX G ?a ?l ?c ?k (fun _ _ _ _ _ _ us hl => match us, hl with | [_, _], _ => rfl)
      (case a => k_is); (case l => k_is); (case c => k_is); (case k => k_is)
    have D_net_from : L2.Dfn (L2.KOf KX) mg "net_from" KL.s_net_from ["places", "ties"] := by
      dsimp only [L2.KOf]
      refine' DL.dfn_mk KX G ?a ?l ?c ?k (fun _ _ _ _ _ _ us hl => match us, hl with | [_, _], _ => rfl)
      (case a => k_is); (case l => k_is); (case c => k_is); (case k => k_is)
    have D__law_cell : L2.Dfn (L2.KOf KX) mg "_law_cell" KL.s__law_cell ["_law_script", "_law_k"] := by
      dsimp only [L2.KOf]
      refine' DL.dfn_mk KX G ?a ?l ?c ?k (fun _ _ _ _ _ _ us hl => match us, hl with | [_, _], _ => rfl)
      (case a => k_is); (case l => k_is); (case c => k_is); (case k => k_is)
    have D__law_like : L2.Dfn (L2.KOf KX) mg "_law_like" KL.s__law_like ["_law_found", "_law_due_here"] := by
      dsimp only [L2.KOf]
      refine' DL.dfn_mk KX G ?a ?l ?c ?k (fun _ _ _ _ _ _ us hl => match us, hl with | [_, _], _ => rfl)
      (case a => k_is); (case l => k_is); (case c => k_is); (case k => k_is)
    have D__law_many : L2.Dfn (L2.KOf KX) mg "_law_many" KL.s__law_many ["_law_cell_here"] := by
      dsimp only [L2.KOf]
      refine' DL.dfn_mk KX G ?a ?l ?c ?k (fun _ _ _ _ _ _ us hl => match us, hl with | [_], _ => rfl)
      (case a => k_is); (case l => k_is); (case c => k_is); (case k => k_is)
    have D__law_places : L2.Dfn (L2.KOf KX) mg "_law_places" KL.s__law_places ["_law_script", "_law_at", "_law_many_here"] := by
      dsimp only [L2.KOf]
      refine' DL.dfn_mk KX G ?a ?l ?c ?k (fun _ _ _ _ _ _ us hl => match us, hl with | [_, _, _], _ => rfl)
      (case a => k_is); (case l => k_is); (case c => k_is); (case k => k_is)
    have D__law_word : L2.Dfn (L2.KOf KX) mg "_law_word" KL.s__law_word ["_law_e"] := by
      dsimp only [L2.KOf]
      refine' DL.dfn_mk KX G ?a ?l ?c ?k (fun _ _ _ _ _ _ us hl => match us, hl with | [_], _ => rfl)
      (case a => k_is); (case l => k_is); (case c => k_is); (case k => k_is)
    have D__law_ties : L2.Dfn (L2.KOf KX) mg "_law_ties" KL.s__law_ties ["_law_script", "_law_pool"] := by
      dsimp only [L2.KOf]
      refine' DL.dfn_mk KX G ?a ?l ?c ?k (fun _ _ _ _ _ _ us hl => match us, hl with | [_, _], _ => rfl)
      (case a => k_is); (case l => k_is); (case c => k_is); (case k => k_is)
    have D__law_due : L2.Dfn (L2.KOf KX) mg "_law_due" KL.s__law_due ["_law_places_here", "_law_ties_here"] := by
      dsimp only [L2.KOf]
      refine' DL.dfn_mk KX G ?a ?l ?c ?k (fun _ _ _ _ _ _ us hl => match us, hl with | [_, _], _ => rfl)
      (case a => k_is); (case l => k_is); (case c => k_is); (case k => k_is)
    have D__law_answer : L2.Dfn (L2.KOf KX) mg "_law_answer" KL.s__law_answer ["_law_places_here", "_law_ties_here"] := by
      dsimp only [L2.KOf]
      refine' DL.dfn_mk KX G ?a ?l ?c ?k (fun _ _ _ _ _ _ us hl => match us, hl with | [_, _], _ => rfl)
      (case a => k_is); (case l => k_is); (case c => k_is); (case k => k_is)
    refine' KL.all_ok KX G hmg T D_require_place D_require_two D_pair D_net_with D_net_from D__law_cell D__law_like D__law_many D__law_places D__law_word D__law_ties D__law_due D__law_answer ?a ?l ?c ?k
    (case a => k_is); (case l => k_is); (case c => k_is); (case k => k_is)
