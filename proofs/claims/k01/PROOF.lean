import PyProof.Rows.All
import Wide.All
import OpenK.AllK
import Wide.FinOn
import PySem.Challenge.RW_modulewood_k01_nets_made
import Lean
import PyProof.EqAt
import PyProof.EqKinds
import PyProof.TupleCall
set_option Elab.async false
set_option linter.all false
set_option maxRecDepth 100000
namespace L2
open PySem PySem.Spec PyProof.Rows

/-- a key: an int or a str -/
abbrev Key := Sum Int Str
def keyIs : Key → Value → Bool
  | .inl k, v => Value.isInt k v
  | .inr x, v => Value.isStrOf x v
def keyH (w : World) : Key → Int
  | .inl k => hashInt k
  | .inr x => hashStr w x
theorem keyIs_shape : ∀ {k : Key} {v : Value}, keyIs k v = true → (∃ i t, k = Sum.inl i ∧ v = Value.int i t) ∨ (∃ x t, k = Sum.inr x ∧ v = Value.str x t)
  | .inl i, v, h => by
    obtain ⟨t, e⟩ := Value.isInt_shape (k := i) (v := v) h
    exact .inl ⟨i, t, rfl, e⟩
  | .inr x, v, h => by
    obtain ⟨t, e⟩ := Value.isStrOf_shape (x := x) (v := v) h
    exact .inr ⟨x, t, rfl, e⟩
theorem keyIs_int (i : Int) (t : Tok) : keyIs (.inl i) (.int i t) = true := by simp [keyIs, Value.isInt]
theorem keyIs_str (x : Str) (t : Tok) : keyIs (.inr x) (.str x t) = true := by simp [keyIs, Value.isStrOf]
theorem key_ll (a b : Int) : decide ((Sum.inl a : Key) = Sum.inl b) = (a == b) := by
  by_cases e : a = b
  · subst e; simp
  · have h : ¬ (Sum.inl a : Key) = Sum.inl b := fun q => e (Sum.inl.inj q)
    rw [decide_eq_false h]
    exact (beq_eq_false_iff_ne.mpr e).symm
theorem key_rr (a b : Str) : decide ((Sum.inr a : Key) = Sum.inr b) = decide (a = b) := by
  by_cases e : a = b
  · subst e; simp
  · have h : ¬ (Sum.inr a : Key) = Sum.inr b := fun q => e (Sum.inr.inj q)
    rw [decide_eq_false h, decide_eq_false e]
theorem key_lr (a : Int) (b : Str) : decide ((Sum.inl a : Key) = Sum.inr b) = false := decide_eq_false (fun q => nomatch q)
theorem key_rl (a : Str) (b : Int) : decide ((Sum.inr a : Key) = Sum.inl b) = false := decide_eq_false (fun q => nomatch q)

def mixKind (prog : Program) (w : World) : PySem.KeyKind prog w Key where
  is := keyIs
  hash := keyH w
  inj := fun v a b ha hb => by
    rcases keyIs_shape ha with ⟨i, t, rfl, rfl⟩ | ⟨x, t, rfl, rfl⟩
    · rcases keyIs_shape hb with ⟨j, u, rfl, e⟩ | ⟨y, u, rfl, e⟩
      · injection e with e1 _; rw [e1]
      · exact nomatch e
    · rcases keyIs_shape hb with ⟨j, u, rfl, e⟩ | ⟨y, u, rfl, e⟩
      · exact nomatch e
      · injection e with e1 _; rw [e1]
  byValue := fun k v h => by
    rcases keyIs_shape h with ⟨i, t, rfl, rfl⟩ | ⟨x, t, rfl, rfl⟩ <;> rfl
  pyHash := fun hv h => by
    rcases keyIs_shape hv with ⟨i, t, rfl, rfl⟩ | ⟨x, t, rfl, rfl⟩
    · exact wpAny_pyHash_int h
    · exact wpAny_pyHash_str h
  eqBool := fun hu hv h => by
    rcases keyIs_shape hu with ⟨i, t, rfl, rfl⟩ | ⟨x, t, rfl, rfl⟩
    · rcases keyIs_shape hv with ⟨j, u, rfl, rfl⟩ | ⟨y, u, rfl, rfl⟩
      · rw [key_ll] at h; exact wpAny_eqBool_int h
      · rw [key_lr] at h; exact SeqAt.EqAt.int_str i t y u _ _ _ _ h
    · rcases keyIs_shape hv with ⟨j, u, rfl, rfl⟩ | ⟨y, u, rfl, rfl⟩
      · rw [key_rl] at h; exact SeqAt.EqAt.str_int x t j u _ _ _ _ h
      · rw [key_rr] at h; exact wpAny_eqBool_str h
  «strs» := fun k x t v h => by
    rcases keyIs_shape h with ⟨i, u, rfl, e⟩ | ⟨y, u, rfl, e⟩
    · exact nomatch e
    · injection e with e1 _
      subst e1
      cases v <;> rfl

theorem mixKind_is (prog : Program) (w : World) (k : Key) (v : Value) : (mixKind prog w).is k v = keyIs k v := rfl
theorem mixKind_int (prog : Program) (w : World) (i : Int) (t : Tok) : (mixKind prog w).is (.inl i) (.int i t) = true := keyIs_int i t
theorem mixKind_str (prog : Program) (w : World) (x : Str) (t : Tok) : (mixKind prog w).is (.inr x) (.str x t) = true := keyIs_str x t
end L2

namespace L2
open PySem PySem.Spec PyProof.Rows

/-- a value, without the heap -/
inductive V where
  | non | bl (b : Bool) | int (i : Int) | str (x : Str) | byt (b : Array UInt8) | flt (b : UInt64) | ref (a : Addr) | ty (n : String)
  deriving DecidableEq

def RelV : V → Value → Prop
  | .non, u => u = Value.none
  | .bl b, u => u = Value.bool b
  | .int i, u => ∃ t, u = Value.int i t
  | .str x, u => ∃ t, u = Value.str x t
  | .byt b, u => ∃ t, u = Value.bytes b t
  | .flt b, u => ∃ t, u = Value.float b t
  | .ref a, u => u = Value.ref a
  | .ty n, u => u = Value.type n

abbrev Vals : List V → List Value → Prop := Paired RelV
theorem Vals.length {xs : List V} {us : List Value} (r : Vals xs us) : xs.length = us.length := Paired.length r
theorem Vals.get : ∀ {xs : List V} {us : List Value} {i : Nat} {x : V}, Vals xs us → xs[i]? = some x → ∃ u, us[i]? = some u ∧ RelV x u
  | _, _, _, _, .nil, e => by simp at e
  | _, _, 0, _, .cons r _, e => by simp at e; subst e; exact ⟨_, rfl, r⟩
  | _, _, i + 1, x, .cons _ t, e => by
    obtain ⟨u, h1, h2⟩ := Vals.get (i := i) (x := x) t (by simpa using e)
    exact ⟨u, by simpa using h1, h2⟩
theorem Vals.set {x : V} {u : Value} (r : RelV x u) : ∀ {xs : List V} {us : List Value} (i : Nat), Vals xs us → Vals (xs.set i x) (us.set i u)
  | _, _, _, .nil => .nil
  | _, _, 0, .cons _ t => .cons r t
  | _, _, i + 1, .cons q t => .cons q (Vals.set r i t)
theorem Vals.append : ∀ {xs ys : List V} {us ws : List Value}, Vals xs us → Vals ys ws → Vals (xs ++ ys) (us ++ ws)
  | _, _, _, _, .nil, s => s
  | _, _, _, _, .cons r t, s => .cons r (Vals.append t s)
theorem Vals.take : ∀ {xs : List V} {us : List Value} (n : Nat), Vals xs us → Vals (xs.take n) (us.take n)
  | _, _, 0, _ => .nil
  | _, _, _ + 1, .nil => .nil
  | _, _, n + 1, .cons r t => .cons r (Vals.take n t)
theorem Vals.drop : ∀ {xs : List V} {us : List Value} (n : Nat), Vals xs us → Vals (xs.drop n) (us.drop n)
  | _, _, 0, r => r
  | _, _, _ + 1, .nil => .nil
  | _, _, n + 1, .cons _ t => Vals.drop n t
theorem Vals.none_of : ∀ {xs : List V} {us : List Value} {i : Nat}, Vals xs us → xs[i]? = none → us[i]? = none := fun {xs us i} r e => by
  have h1 := r.length
  have h2 : xs.length ≤ i := List.getElem?_eq_none_iff.mp e
  exact List.getElem?_eq_none_iff.mpr (by omega)

def RelO : Option V → Option Value → Prop
  | some v, some u => RelV v u
  | none, none => True
  | _, _ => False
def KV {κ : Type} : List (κ × V) → List (κ × Value) → Prop := Paired fun (p : κ × V) (q : κ × Value) => p.1 = q.1 ∧ RelV p.2 q.2

/-- a key of a dict (00_mix): an int or a text -/
def kV : Key → V
  | .inl i => .int i
  | .inr x => .str x

/-- what stands at a tracked address -/
inductive HO where
  /-- a list -/
  | lst (xs : List V)
  /-- a tuple (never changes) -/
  | tup (xs : List V)
  /-- a dict whose keys are ints and texts; one whose keys are tuples of ints and texts (the empty one is both) -/
  | dK (kvs : List (Key × V)) | dT (kvs : List (List Key × V))
  /-- a set of ints: its members, its size -/
  | set (S : Int → Bool) (n : Nat)
  /-- an instance of the class at C, its dict at dx, its attributes -/
  | ins (C dx : Addr) (fs : List (Str × V))
  /-- the dict of the instance at x -/
  | own (x : Addr)
  /-- the dict of an exception -/
  | xd (fs : List (Str × V))
  /-- a bound method, f of x -/
  | met (f x : Addr)
  /-- a range object lo, lo + 1, .. below hi -/
  | rng (lo hi : Int)
  /-- a thing that is known to the object (the script; a dict while a loop walks it): read, never written while it is so -/
  | frz (o : Obj) (u : HO)
  /-- a code object's table -/
  | tbl (ps : Array Value)
  /-- any other thing, by what is true of its one object (a def of one's own: SetO a S n := HO.ext fun h => ..) -/
  | ext (φ : Heap → Prop)

abbrev Hp := Addr → Option HO
def upd (H : Hp) (a : Addr) (o : HO) : Hp := fun b => if b = a then some o else H b
theorem upd_same {H : Hp} {a : Addr} {o : HO} : upd H a o a = some o := by unfold upd; rw [if_pos rfl]
theorem upd_ne {H : Hp} {a b : Addr} {o : HO} (h : b ≠ a) : upd H a o b = H b := by unfold upd; rw [if_neg h]
theorem upd_upd {H : Hp} {a : Addr} {o u : HO} : upd (upd H a o) a u = upd H a u := by
  funext b; unfold upd; split <;> rfl
/-- two objects of different content stand apart -/
theorem ne_of {H : Hp} {a b : Addr} {o u : HO} (h : H a = some o) (h' : H b = some u) (d : o ≠ u) : a ≠ b := by
  intro e; subst e; rw [h] at h'; exact d (Option.some.inj h')
theorem ne_of_none {H : Hp} {a b : Addr} {o : HO} (h : H a = some o) (h' : H b = none) : a ≠ b := by
  intro e; subst e; rw [h] at h'; cases h'

section
variable (P : Program) (w : World)
def ObjOk (H : Hp) (h : Heap) (a : Addr) : HO → Prop
  | .lst xs => xs.length ≤ sizeLine ∧ ∃ (its : List Value) (n : Nat), Vals xs its ∧ h.get? a = some { cls := .type "list", data := .seq its.toArray n }
  | .tup xs => xs.length ≤ sizeLine ∧ ∃ its : List Value, Vals xs its ∧ IsTup h a its.toArray
  | .dK kvs => kvs.length ≤ sizeLine ∧ (a == sysModules) = false ∧ ∃ vs, KV kvs vs ∧ h.DictOf (mixKind P w) a vs
  | .dT kvs => kvs.length ≤ sizeLine ∧ (a == sysModules) = false ∧ ∃ xs : List (List Key × Addr × Value),
      Paired (fun (p : List Key × V) (q : List Key × Addr × Value) => p.1 = q.1 ∧ H q.2.1 = some (.tup (p.1.map kV)) ∧ RelV p.2 q.2.2) kvs xs ∧
      ∃ o es ep, h.get? a = some o ∧ o.ExactDict ∧ o.data = .dict es ep ∧ es.toList = xs.map (entryOfKey (tupleKind (mixKind P w))) ∧ (xs.map (·.1)).Nodup
  | .set S n => h.SetOf (intKind P w) a S n
  | .ins C dx fs => H dx = some (.own a) ∧ fs.length ≤ 1000 ∧ dx ≠ a ∧ h.get? a = some (PySem.W.instObj C dx) ∧
      ∃ mA, h.Ns1 dx mA ∧ (∀ f, RelO (fs.lookup f) (mA f)) ∧ PySem.Within mA (fs.map (·.1))
  | .own _ => ∃ o, h.get? a = some o
  | .xd fs => ∃ mA, h.Ns1 a mA ∧ ∀ f, RelO (fs.lookup f) (mA f)
  | .rng lo hi => ∃ t u v, h.get? a = some { cls := .type "range", data := .fields #[.int lo t, .int hi u, .int 1 v] }
  | .frz o u => h.get? a = some o ∧ ObjOk H h a u
  | .tbl ps => h.get? a = some { cls := .none, data := .fields ps }
  | .met f x => h.get? a = some (PySem.W.methodObj (.ref f) (.ref x))
  | .ext φ => φ h ∧ (∃ o, h.get? a = some o) ∧ ∀ h1 h2 : Heap, φ h1 → (∀ o, h1.get? a = some o → h2.get? a = some o) → φ h2
/-- the abstract heap is held -/
def HOk (H : Hp) (h : Heap) : Prop := ∀ a o, H a = some o → ObjOk P w H h a o
end

section
variable {P : Program} {w : World} {H H' : Hp} {h h' : Heap} {a : Addr} {o : HO}
theorem ObjOk.lt (x : ObjOk P w H h a o) : a < h.objs.size := by
  cases o with
  | lst xs => obtain ⟨_, _, _, _, e⟩ := x; exact Heap.lt_size e
  | tup xs => obtain ⟨_, _, _, p⟩ := x; exact p.lt
  | dK kvs => obtain ⟨_, _, _, _, o, _, _, e, _⟩ := x; exact Heap.lt_size e
  | dT kvs => obtain ⟨_, _, _, _, o, _, _, e, _⟩ := x; exact Heap.lt_size e
  | set S n => obtain ⟨o, _, _, _, e, _⟩ := x; exact Heap.lt_size e
  | ins C dx fs => obtain ⟨_, _, _, e, _⟩ := x; exact Heap.lt_size e
  | own y => obtain ⟨_, e⟩ := x; exact Heap.lt_size e
  | xd fs => obtain ⟨_, ⟨_, _, _, e, _⟩, _⟩ := x; exact Heap.lt_size e
  | rng lo hi => obtain ⟨_, _, _, e⟩ := x; exact Heap.lt_size e
  | frz ob u => obtain ⟨e, _⟩ := x; exact Heap.lt_size e
  | tbl ps => exact Heap.lt_size (show h.get? a = some _ from x)
  | met f y => exact Heap.lt_size (show h.get? a = some _ from x)
  | ext φ => obtain ⟨_, ⟨_, e⟩, _⟩ := x; exact Heap.lt_size e
theorem Paired.mapP {α β : Type} {F G : α → β → Prop} : ∀ {l₁ : List α} {l₂ : List β}, Paired F l₁ l₂ → (∀ a b, F a b → G a b) → Paired G l₁ l₂
  | _, _, .nil, _ => .nil
  | _, _, .cons r t, f => .cons (f _ _ r) (Paired.mapP t f)
theorem Paired.imp' {α β : Type} {F G : α → β → Prop} (f : ∀ a b, F a b → G a b) {l₁ : List α} {l₂ : List β} (r : Paired F l₁ l₂) : Paired G l₁ l₂ := Paired.mapP r f
/-- what an object's description leans on: its own object, its own dict, the tuples -/
theorem ObjOk.stay (x : ObjOk P w H h a o) (k : ∀ b u, (b = a ∨ H b = some (.own a)) → h.get? b = some u → h'.get? b = some u)
    (ho : ∀ b, H b = some (.own a) → H' b = some (.own a)) (ht : ∀ b xs, H b = some (.tup xs) → H' b = some (.tup xs)) : ObjOk P w H' h' a o := by
  induction o with
  | lst xs => obtain ⟨z, its, n, r, e⟩ := x; exact ⟨z, its, n, r, k _ _ (.inl rfl) e⟩
  | tup xs => obtain ⟨z, its, r, ob, e, c⟩ := x; exact ⟨z, its, r, ob, k _ _ (.inl rfl) e, c⟩
  | dK kvs => obtain ⟨z, y, vs, r, ob, es, ep, e, c⟩ := x; exact ⟨z, y, vs, r, ob, es, ep, k _ _ (.inl rfl) e, c⟩
  | dT kvs =>
    obtain ⟨z, y, xs, r, ob, es, ep, e, c⟩ := x
    exact ⟨z, y, xs, Paired.mapP r fun p q z => ⟨z.1, ht _ _ z.2.1, z.2.2⟩, ob, es, ep, k _ _ (.inl rfl) e, c⟩
  | set S n => obtain ⟨ob, es, ep, t, e, c⟩ := x; exact ⟨ob, es, ep, t, k _ _ (.inl rfl) e, c⟩
  | ins C dx fs =>
    obtain ⟨d, z, ne, e, mA, ⟨od, es, ep, e2, c⟩, r⟩ := x
    exact ⟨ho _ d, z, ne, k _ _ (.inl rfl) e, mA, ⟨od, es, ep, k _ _ (.inr d) e2, c⟩, r⟩
  | own y => obtain ⟨ob, e⟩ := x; exact ⟨ob, k _ _ (.inl rfl) e⟩
  | xd fs => obtain ⟨mA, ⟨od, es, ep, e, c⟩, r⟩ := x; exact ⟨mA, ⟨od, es, ep, k _ _ (.inl rfl) e, c⟩, r⟩
  | rng lo hi => obtain ⟨t, u, v, e⟩ := x; exact ⟨t, u, v, k _ _ (.inl rfl) e⟩
  | frz ob u ih => obtain ⟨e, q⟩ := x; exact ⟨k _ _ (.inl rfl) e, ih q⟩
  | tbl ps =>
    have e : h.get? a = some { cls := .none, data := .fields ps } := x
    show h'.get? a = some { cls := .none, data := .fields ps }
    exact k a _ (.inl rfl) e
  | met f y =>
    have e : h.get? a = some (PySem.W.methodObj (.ref f) (.ref y)) := x
    show h'.get? a = some (PySem.W.methodObj (.ref f) (.ref y))
    exact k a _ (.inl rfl) e
  | ext φ => obtain ⟨p, ⟨o, e⟩, st⟩ := x; exact ⟨st _ _ p fun o q => k _ _ (.inl rfl) q, ⟨o, k _ _ (.inl rfl) e⟩, st⟩
theorem HOk.lt (x : HOk P w H h) (e : H a = some o) : a < h.objs.size := (x a o e).lt
theorem HOk.fresh (x : HOk P w H h) (e : h.objs.size ≤ a) : H a = none := by
  cases q : H a with
  | none => rfl
  | some u => exact absurd (Nat.lt_of_lt_of_le (x.lt q) e) (Nat.lt_irrefl _)
/-- every object of the heap is kept -/
theorem HOk.kept (x : HOk P w H h) (k : ∀ b u, h.get? b = some u → h'.get? b = some u) : HOk P w H h' := fun a o e =>
  (x a o e).stay (fun b u _ q => k b u q) (fun _ q => q) fun _ _ q => q
/-- a new object is laid and tracked -/
theorem HOk.laid (x : HOk P w H h) (k : ∀ b u, h.get? b = some u → h'.get? b = some u) (hp : h.objs.size ≤ a) (new : ObjOk P w (upd H a o) h' a o) : HOk P w (upd H a o) h' := fun b u e => by
  have hn := x.fresh hp
  by_cases hb : b = a
  · subst hb; rw [upd_same] at e; cases e; exact new
  · rw [upd_ne hb] at e
    exact (x b u e).stay (fun c v _ q => k c v q) (fun c q => by rw [upd_ne (ne_of_none q hn)]; exact q) fun c xs q => by rw [upd_ne (ne_of_none q hn)]; exact q
end

/-- what may be read as u: it is u, or a known u -/
def Rd (H : Hp) (a : Addr) (u : HO) : Prop := H a = some u ∨ ∃ o, H a = some (.frz o u)
theorem Rd.of {H : Hp} {a : Addr} {u : HO} (h : H a = some u) : Rd H a u := .inl h
theorem Rd.ok {P : Program} {w : World} {H : Hp} {h : Heap} {a : Addr} {u : HO} (r : Rd H a u) (x : HOk P w H h) : ObjOk P w H h a u := by
  rcases r with r | ⟨o, r⟩
  · exact x a u r
  · obtain ⟨_, q⟩ := x a _ r
    exact q
/-- what may be written -/
def Mut : Option HO → Prop
  | some (.lst _) => True
  | some (.dK _) => True
  | some (.dT _) => True
  | some (.set _ _) => True
  | some (.ins _ _ _) => True
  | some (.ext _) => True
  | _ => False
section
variable {P : Program} {w : World} {H : Hp} {h h' : Heap} {x e : Addr} {o' : HO}
/-- the object at e is changed: x itself, or the dict of the instance x -/
theorem HOk.write (ok : HOk P w H h) (mu : Mut (H x)) (he : e = x ∨ H e = some (.own x)) (k : ∀ b u, b ≠ e → h.get? b = some u → h'.get? b = some u) (heo : ∃ u, h'.get? e = some u)
    (new : ObjOk P w (upd H x o') h' x o') : HOk P w (upd H x o') h' := fun b u q => by
  have nown : ∀ c y, H c = some (.own y) → c ≠ x := fun c y r z => by subst z; rw [r] at mu; exact mu
  have ntup : ∀ c xs, H c = some (.tup xs) → c ≠ x := fun c xs r z => by subst z; rw [r] at mu; exact mu
  by_cases hb : b = x
  · subst hb; rw [upd_same] at q; cases q; exact new
  · rw [upd_ne hb] at q
    by_cases hbe : b = e
    · have q' : H b = some (.own x) := by
        rcases he with z | z
        · exact absurd (hbe.trans z) hb
        · rw [hbe]; exact z
      rw [q] at q'; cases q'
      obtain ⟨v, hv⟩ := heo
      exact ⟨v, by rw [hbe]; exact hv⟩
    · refine (ok b u q).stay (fun c v hc r => k c v ?_ r) (fun c r => by rw [upd_ne (nown c b r)]; exact r) fun c xs r => by rw [upd_ne (ntup c xs r)]; exact r
      rcases hc with rfl | hc
      · exact hbe
      · rintro rfl
        rcases he with z | z
        · exact nown c b hc z
        · rw [hc] at z; cases z; exact hb rfl
end

/-! ### kept unless tracked; of the frames at fs (the callers') the slots may change (an exception that passes writes there); of the records at ex (iterators) nothing is said -/
structure Un (fs ex : List Addr) (H H' : Hp) (h h' : Heap) : Prop where
  keep : ∀ b o, h.get? b = some o → H b = none → b ∉ fs → b ∉ ex → h'.get? b = some o
  slot : ∀ b o, h.get? b = some o → H b = none → b ∈ fs → b ∉ ex → ∃ sl, h'.get? b = some { o with slots := sl }
  free : ∀ b o, h.get? b = some o → H b = none → b ∉ ex → H' b = none
  there : ∀ b o, h.get? b = some o → b ∉ ex → ∃ o', h'.get? b = some o'
  tups : ∀ b xs, H b = some (.tup xs) → H' b = some (.tup xs)
  frzs : ∀ b o u, H b = some (.frz o u) → H' b = some (.frz o u)
  tbls : ∀ b ps, H b = some (.tbl ps) → ∃ more, H' b = some (.tbl (ps ++ more))
section
variable {fs fs' ex ex' : List Addr} {H H1 H2 : Hp} {h h1 h2 h' : Heap} {a x e : Addr} {o : HO}
theorem Un.any (u : Un fs ex H H1 h h1) {b : Addr} {ob : Obj} (q : h.get? b = some ob) (n : H b = none) (hx : b ∉ ex) : ∃ sl, h1.get? b = some { ob with slots := sl } := by
  by_cases hb : b ∈ fs
  · exact u.slot b ob q n hb hx
  · exact ⟨ob.slots, u.keep b ob q n hb hx⟩
theorem Un.trans (a : Un fs ex H H1 h h1) (b : Un fs ex H1 H2 h1 h2) : Un fs ex H H2 h h2 where
  keep := fun c ob q n hc hx => b.keep c ob (a.keep c ob q n hc hx) (a.free c ob q n hx) hc hx
  slot := fun c ob q n hc hx => by
    obtain ⟨sl, e1⟩ := a.slot c ob q n hc hx
    obtain ⟨sl', e2⟩ := b.slot c _ e1 (a.free c ob q n hx) hc hx
    exact ⟨sl', e2⟩
  free := fun c ob q n hx => by
    obtain ⟨o', e1⟩ := a.there c ob q hx
    exact b.free c o' e1 (a.free c ob q n hx) hx
  there := fun c ob q hx => by
    obtain ⟨o', e1⟩ := a.there c ob q hx
    exact b.there c o' e1 hx
  tups := fun c xs q => b.tups c xs (a.tups c xs q)
  frzs := fun c ob xs q => b.frzs c ob xs (a.frzs c ob xs q)
  tbls := fun c ps q => by
    obtain ⟨m1, e1⟩ := a.tbls c ps q
    obtain ⟨m2, e2⟩ := b.tbls c _ e1
    exact ⟨m1 ++ m2, by rw [e2, Array.append_assoc]⟩
theorem Un.kept (k : ∀ b u, h.get? b = some u → h'.get? b = some u) : Un fs ex H H h h' :=
  ⟨fun b ob q _ _ _ => k b ob q, fun b ob q _ _ _ => ⟨ob.slots, k b ob q⟩, fun _ _ _ n _ => n, fun b ob q _ => ⟨ob, k b ob q⟩, fun _ _ q => q, fun _ _ _ q => q, fun _ ps q => ⟨#[], by rw [q]; simp⟩⟩
theorem Un.refl : Un fs ex H H h h := Un.kept fun _ _ q => q
theorem Un.laid (k : ∀ b u, h.get? b = some u → h'.get? b = some u) (hp : h.objs.size ≤ a) (hn : H a = none) : Un fs ex H (upd H a o) h h' where
  keep := fun b u q _ _ _ => k b u q
  slot := fun b u q _ _ _ => ⟨u.slots, k b u q⟩
  free := fun b u q n _ => by rw [upd_ne (Nat.ne_of_lt (Nat.lt_of_lt_of_le (Heap.lt_size q) hp))]; exact n
  there := fun b u q _ => ⟨u, k b u q⟩
  tups := fun b xs q => by rw [upd_ne (ne_of_none q hn)]; exact q
  frzs := fun b u xs q => by rw [upd_ne (ne_of_none q hn)]; exact q
  tbls := fun b ps q => ⟨#[], by rw [upd_ne (ne_of_none q hn), q]; simp⟩
theorem Un.write (mu : Mut (H x)) (he : e = x ∨ H e = some (.own x)) (k : ∀ b u, b ≠ e → h.get? b = some u → h'.get? b = some u) (heo : ∃ u, h'.get? e = some u) : Un fs ex H (upd H x o) h h' := by
  have hx : ∀ b, H b = none → b ≠ x := fun b n z => by subst z; rw [n] at mu; exact mu
  have hb : ∀ b, H b = none → b ≠ e := fun b n z => by
    subst z
    rcases he with r | r
    · exact hx b n r
    · rw [n] at r; cases r
  have hm : ∀ b u, H b = some u → ¬ Mut (some u) → b ≠ x := fun b u q nm z => by subst z; rw [q] at mu; exact nm mu
  refine ⟨fun b u q n _ _ => k b u (hb b n) q, fun b u q n _ _ => ⟨u.slots, k b u (hb b n) q⟩, fun b u q n _ => by rw [upd_ne (hx b n)]; exact n, fun b u q _ => ?_,
    fun b xs q => by rw [upd_ne (hm b _ q fun z => z)]; exact q, fun b u xs q => by rw [upd_ne (hm b _ q fun z => z)]; exact q, fun b ps q => ⟨#[], by rw [upd_ne (hm b _ q fun z => z), q]; simp⟩⟩
  by_cases hbe : b = e
  · subst hbe; exact heo
  · exact ⟨u, k b u hbe q⟩
theorem Un.mono (u : Un fs ex H H1 h h1) (hs : ∀ b ∈ fs, b ∈ fs') (hx : ∀ b ∈ ex, b ∈ ex') : Un fs' ex' H H1 h h1 :=
  ⟨fun b ob q n hb he => u.keep b ob q n (fun z => hb (hs b z)) fun z => he (hx b z), fun _ _ q n _ he => u.any q n fun z => he (hx _ z), fun b ob q n he => u.free b ob q n fun z => he (hx b z), fun b ob q he => u.there b ob q fun z => he (hx b z), u.tups, u.frzs, u.tbls⟩
end

/-! ### the heap without what is tracked -/
def trk (h : Heap) (H : Hp) : List Addr := (List.range h.objs.size).filter fun a => (H a).isSome
def hidT (h : Heap) (H : Hp) : Heap := PySem.W.hideAll h (trk h H)
theorem hidT_size (h : Heap) (H : Hp) : (hidT h H).objs.size = h.objs.size := PySem.W.hideAll_size _ _
theorem hidT_get {h : Heap} {H : Hp} {b : Addr} {o : Obj} (e : h.get? b = some o) (n : H b = none) : (hidT h H).get? b = some o :=
  PySem.W.hideAll_get _ e fun hm => by
    have q : (H b).isSome = true := (List.mem_filter.mp hm).2
    rw [n] at q; simp at q
theorem of_hidT {h : Heap} {H : Hp} {b : Addr} {o : Obj} (e : (hidT h H).get? b = some o) : h.get? b = some o ∧ H b = none := by
  have e' : h.get? b = some o := PySem.W.of_hideAll (trk h H) e
  refine ⟨e', ?_⟩
  cases q : H b with
  | none => rfl
  | some x =>
    have hm : b ∈ trk h H := List.mem_filter.mpr ⟨List.mem_range.mpr (Heap.lt_size e'), by simp [q]⟩
    have z : (hidT h H).get? b = none := PySem.W.hideAll_none (trk h H) hm
    rw [z] at e; cases e

/-! ### OpenK's ledger, filled with every new object but one -/
def allNews (g h : Heap) (L : Addr) : List (Addr × Obj) := (List.range h.objs.size).filterMap fun a => if a = L ∨ (g.get? a).isSome = true then none else (h.get? a).map fun o => (a, o)
theorem mem_allNews {g h : Heap} {L a : Addr} {o : Obj} (h1 : a ≠ L) (h2 : g.get? a = none) (h3 : h.get? a = some o) : (a, o) ∈ allNews g h L :=
  List.mem_filterMap.mpr ⟨a, List.mem_range.mpr (Heap.lt_size h3), by simp [h1, h2, h3]⟩
theorem of_mem_allNews {g h : Heap} {L : Addr} {p : Addr × Obj} (hp : p ∈ allNews g h L) : p.1 ≠ L ∧ g.get? p.1 = none ∧ h.get? p.1 = some p.2 := by
  obtain ⟨b, _, e⟩ := List.mem_filterMap.mp hp
  split at e
  · cases e
  · rename_i hn
    cases q : h.get? b with
    | none => rw [q] at e; simp at e
    | some u =>
      rw [q] at e
      simp only [Option.map_some, Option.some.injEq] at e
      subst e
      refine ⟨fun z => hn (.inl z), ?_, q⟩
      show g.get? b = none
      cases r : g.get? b with
      | none => rfl
      | some v => exact (hn (.inr (by simp [r]))).elim
def rest (g h : Heap) (L d : Addr) : List (Addr × Obj) := (allNews g h L).filter fun p => decide (p.1 ≠ d)
theorem rest_ne {g h : Heap} {L d : Addr} : ∀ p ∈ rest g h L d, p.1 ≠ d := fun p hp => of_decide_eq_true (List.mem_filter.mp hp).2
theorem mem_rest {g h : Heap} {L d a : Addr} {o : Obj} (h1 : a ≠ L) (h2 : g.get? a = none) (h3 : h.get? a = some o) (h4 : a ≠ d) : (a, o) ∈ rest g h L d :=
  List.mem_filter.mpr ⟨mem_allNews h1 h2 h3, decide_eq_true h4⟩
theorem news_all {g h : Heap} {L : Addr} : News g L h (allNews g h L) := fun p hp => let ⟨a, b, c⟩ := of_mem_allNews hp; ⟨c, a, b⟩
theorem news_at {g h : Heap} {L d : Addr} {o : Obj} (h1 : d ≠ L) (h2 : g.get? d = none) (h3 : h.get? d = some o) : News g L h ((d, o) :: rest g h L d) := fun p hp => by
  rcases List.mem_cons.mp hp with rfl | hp
  · exact ⟨h3, h1, h2⟩
  · exact news_all p (List.mem_filter.mp hp).1
/-- behind a rule that changed d alone: all else but the frame is kept -/
theorem kept_of_news {g h h' : Heap} {L d : Addr} {m : Str → Option Value} (k : ∀ b o, g.get? b = some o → h.get? b = some o) (F : Fr g L h' m) (N : News g L h' (rest g h L d)) :
    ∀ b o, b ≠ L → b ≠ d → h.get? b = some o → h'.get? b = some o := fun b o h1 h2 e => by
  cases q : g.get? b with
  | some u =>
    have := k b u q
    rw [e] at this; cases this
    exact F.keep b _ q
  | none => exact (N (b, o) (mem_rest h1 q e h2)).1
end L2

namespace L2
open PySem PySem.Spec PyProof.Rows

/-- the module's facts, over the base: the heap at the law's entry without what is tracked there -/
structure Mod (K : PySem.W.Frag) (mg : Str → Option Value) (base : Heap) : Prop where
  kin : K.In base
  glob : base.Ns mainGlobals mg
  blt : ∃ mb, base.Ns builtinsNs mb ∧ ∀ x : Str, x ≠ "__name__" → mb x = bootBuiltins x
  nolimit : base.NoLimit

/-- the context: a def's body (or a comprehension's block) running. base: fixed through the whole law; s₀, H₀: the entry; outer: the frames whose slots others may change (a def's callers); stack: all frames that run;
   ex: iterators that were made ahead of the entry and are walked here (a comprehension's); fn: the names whose cells were made at the entry (a def: all; a comprehension's block: its own); calm: not within an except suite; pn: pins that every state bears; xe: what is wanted of an exception that leaves the code -/
structure Cx where
  prog : Program
  w : World
  K : PySem.W.Frag
  mg : Str → Option Value
  base : Heap
  A : Around
  N : List Str
  s₀ : Shared
  H₀ : Hp
  env : Env
  outer : List Env
  stack : List Env
  ex : List Addr
  fn : Str → Bool
  calm : Bool
  pn : List (Addr × Obj)
  xe : Value → Shared → Prop
/-- the callers' frames -/
def frs (l : List Env) : List Addr := l.filterMap (·.frame)
abbrev Cx.fs (X : Cx) : List Addr := frs X.outer

def Vis (sc : Scope) (x : Str) : Prop := sc.names.lookup x = some .local ∨ sc.names.lookup x = some .cell ∨ sc.names.lookup x = some .free
def Loc (sc : Scope) (x : Str) : Prop := sc.names.lookup x = some .local ∨ sc.names.lookup x = some .cell
def Look (env : Env) (h : Heap) (m : Str → Option Value) (x : Str) (u : Value) : Prop :=
  (env.kindOf x = some .local ∧ m x = some u) ∨ ((env.kindOf x = some .cell ∨ env.kindOf x = some .free) ∧ ∃ c, env.cells.lookup x = some c ∧ h.IsCell c (some u))

structure Cx.Ok (X : Cx) : Prop where
  mod : Mod X.K X.mg X.base
  kind : X.env.scope.kind = .function
  glob : X.env.globals = mainGlobals
  blt : X.env.builtins = builtinsNs
  above : X.s₀.heap.objs.size ≤ X.env.locals
  inj : ∀ x y c, X.env.cells.lookup x = some c → X.env.cells.lookup y = some c → x = y
  has : ∀ x, (X.env.kindOf x = some .cell ∨ X.env.kindOf x = some .free) → ∃ c, X.env.cells.lookup x = some c
  cab : ∀ x c, X.fn x = true → X.env.cells.lookup x = some c → X.s₀.heap.objs.size ≤ c
  hd : X.calm = true → X.A.handled = none
  frames : X.A.frames = some X.stack
  stk : X.stack = X.outer ∨ (X.stack = X.env :: X.outer ∧ X.env.frame = some X.env.locals)
  exf : ∀ b ∈ X.ex, b ≠ X.env.locals ∧ ∀ x c, X.env.cells.lookup x = some c → c ≠ b
  bs : ∀ b o, X.base.get? b = some o → X.s₀.heap.get? b = some o ∧ X.H₀ b = none
  bsz : X.base.objs.size ≤ X.s₀.heap.objs.size
  noex : ∀ b o, X.base.get? b = some o → b ∉ X.ex
  exfs : ∀ b ∈ X.ex, b ∉ X.fs
  funs : X.s₀.heap.FunFrames X.base X.outer
  frf : ∀ b ∈ X.fs, X.H₀ b = none

structure Inv (X : Cx) (pins : List (Addr × Obj)) (σ : List (Option V)) (H : Hp) (s : Shared) : Prop where
  ok : X.Ok
  os : s.os = X.s₀.os
  bare : AllBare s.gens
  base : Un X.fs X.ex X.H₀ H X.s₀.heap s.heap
  loc : ∃ m, s.heap.Ns X.env.locals m ∧ ∀ (i : Nat) (x : Str) (v : V), X.N[i]? = some x → σ[i]? = some (some v) → Vis X.env.scope x → ∃ u, RelV v u ∧ Look X.env s.heap m x u
  cell : ∀ x c, X.env.cells.lookup x = some c → ∃ v, s.heap.IsCell c v
  free : H X.env.locals = none
  freeC : ∀ x c, X.env.cells.lookup x = some c → H c = none
  pin : ∀ p ∈ X.pn ++ pins, s.heap.get? p.1 = some p.2 ∧ H p.1 = none ∧ p.1 ≠ X.env.locals ∧ p.1 ∉ X.fs ∧ ∀ v, p.2.data ≠ .cell v
  hok : HOk X.prog X.w H s.heap
  len : σ.length = X.N.length

section
variable {X : Cx} {pins : List (Addr × Obj)} {σ : List (Option V)} {H H' : Hp} {s : Shared} {h' : Heap}

theorem Cx.Ok.nofr (ok : X.Ok) {b : Addr} {o : Obj} (e : X.base.get? b = some o) : b ∉ X.fs := fun hb => by
  have := (ok.funs.mem hb).1
  rw [e] at this; cases this
theorem Inv.bs (I : Inv X pins σ H s) : ∀ b o, X.base.get? b = some o → s.heap.get? b = some o ∧ H b = none := fun b o e =>
  ⟨I.base.keep b o (I.ok.bs b o e).1 (I.ok.bs b o e).2 (I.ok.nofr e) (I.ok.noex b o e), I.base.free b o (I.ok.bs b o e).1 (I.ok.bs b o e).2 (I.ok.noex b o e)⟩
theorem Inv.bk (I : Inv X pins σ H s) : ∀ b o, X.base.get? b = some o → s.heap.get? b = some o := fun b o e => (I.bs b o e).1
theorem Inv.mod (I : Inv X pins σ H s) : Mod X.K X.mg X.base := I.ok.mod
theorem Inv.kIn (I : Inv X pins σ H s) : X.K.In s.heap := I.ok.mod.kin.keeps I.bk
theorem Inv.nolimit (I : Inv X pins σ H s) : s.heap.NoLimit := I.ok.mod.nolimit.keeps I.bk
/-- the frame over the base: for OpenK's rules (K.In X.base is I.mod.kin) -/
theorem Inv.fr (I : Inv X pins σ H s) : ∃ m, Fr X.base X.env.locals s.heap m :=
  let ⟨m, hn, _⟩ := I.loc
  ⟨m, hn, I.bk, Nat.le_trans I.ok.bsz I.ok.above⟩
theorem Inv.lt (I : Inv X pins σ H s) : X.env.locals < s.heap.objs.size := let ⟨_, hn, _⟩ := I.loc; hn.lt
theorem Inv.sz (I : Inv X pins σ H s) : X.s₀.heap.objs.size ≤ s.heap.objs.size := Nat.le_trans I.ok.above (Nat.le_of_lt I.lt)
theorem Inv.nofs (I : Inv X pins σ H s) {a : Addr} (h : s.heap.objs.size ≤ a) : a ∉ X.fs := fun hb => by
  obtain ⟨_, o, ho, _⟩ := I.ok.funs.mem hb
  exact absurd (Nat.lt_of_lt_of_le (Heap.lt_size ho) (Nat.le_trans I.sz h)) (Nat.lt_irrefl _)
theorem Inv.cne (I : Inv X pins σ H s) : ∀ x c, X.env.cells.lookup x = some c → c ≠ X.env.locals := fun x c e z => by
  obtain ⟨v, o, ho, hd⟩ := I.cell x c e
  obtain ⟨m, ⟨o', es, ep, ho', hd', _⟩, _⟩ := I.loc
  rw [z, ho'] at ho; cases ho; rw [hd'] at hd; cases hd
theorem Inv.funs (I : Inv X pins σ H s) : s.heap.FunFrames X.base X.outer := by
  have all : ∀ (l : List Env), (∀ b ∈ frs l, b ∈ X.fs) → X.s₀.heap.FunFrames X.base l → s.heap.FunFrames X.base l := by
    intro l
    induction l with
    | nil => intro _ _; trivial
    | cons env r ih =>
      intro hs hl
      obtain ⟨hk, ⟨L, o, hf, hn, ho, hd⟩, hr⟩ := hl
      have hL : L ∈ X.fs := hs L (by unfold frs; rw [List.filterMap_cons, hf]; exact List.mem_cons_self)
      obtain ⟨sl, e⟩ := I.base.slot L o ho (I.ok.frf L hL) hL fun z => I.ok.exfs L z hL
      exact ⟨hk, ⟨L, _, hf, hn, e, hd⟩, ih (fun b hb => hs b (by unfold frs; rw [List.filterMap_cons, hf]; exact List.mem_cons_of_mem _ hb)) hr⟩
  exact all X.outer (fun _ hb => hb) I.ok.funs

/-- the frames that run, for a call -/
theorem Inv.stack (I : Inv X pins σ H s) : s.heap.FunFrames X.base X.stack := by
  rcases I.ok.stk with e | ⟨e, hf⟩
  · rw [e]; exact I.funs
  · rw [e]
    obtain ⟨m, hn, _⟩ := I.loc
    refine .cons (by rw [I.ok.kind]; decide) hf hn ?_ I.funs
    exact Heap.get?_none_of_le (Nat.le_trans I.ok.bsz I.ok.above)
theorem Inv.stkSub (I : Inv X pins σ H s) : ∀ b ∈ frs X.stack, b ∈ X.env.locals :: X.fs := fun b hb => by
  rcases I.ok.stk with e | ⟨e, hf⟩
  · rw [e] at hb; exact List.mem_cons_of_mem _ hb
  · rw [e] at hb
    unfold frs at hb
    rw [List.filterMap_cons, hf] at hb
    exact hb
theorem Inv.stkFree (I : Inv X pins σ H s) : ∀ b ∈ frs X.stack, H b = none := fun b hb => by
  rcases List.mem_cons.mp (I.stkSub b hb) with e | hb
  · rw [e]; exact I.free
  · obtain ⟨_, o, ho, _⟩ := I.ok.funs.mem hb
    exact I.base.free b o ho (I.ok.frf b hb) fun z => I.ok.exfs b z hb

/-- THE STEP: the untracked objects but the frame and the records at ch are kept (the callers' frames up to slots), the frame's map is kept, the new abstract heap is held -/
theorem Inv.step {g' : Array GenState} {t' : Nat} {d' : Drawn} {ch : List Addr} (I : Inv X pins σ H s)
    (hch : ∀ b ∈ ch, (b ∈ X.ex ∨ X.s₀.heap.objs.size ≤ b) ∧ b ≠ X.env.locals ∧ (∀ x c, X.env.cells.lookup x = some c → c ≠ b) ∧ ∀ p ∈ X.pn ++ pins, p.1 ≠ b)
    (keep : ∀ b o, b ≠ X.env.locals → b ∉ X.fs → b ∉ ch → s.heap.get? b = some o → H b = none → h'.get? b = some o)
    (slot : ∀ b o, b ≠ X.env.locals → b ∈ X.fs → b ∉ ch → s.heap.get? b = some o → H b = none → ∃ sl, h'.get? b = some { o with slots := sl }) (free : ∀ b o, b ∉ ch → s.heap.get? b = some o → H b = none → H' b = none)
    (there : ∀ b o, b ∉ ch → s.heap.get? b = some o → ∃ o', h'.get? b = some o')
    (tups : ∀ b xs, H b = some (.tup xs) → H' b = some (.tup xs)) (frzs : ∀ b o u, H b = some (.frz o u) → H' b = some (.frz o u)) (tbls : ∀ b ps, H b = some (.tbl ps) → ∃ more, H' b = some (.tbl (ps ++ more)))
    (ns : ∀ m, s.heap.Ns X.env.locals m → h'.Ns X.env.locals m) (hok : HOk X.prog X.w H' h') (hg : AllBare g') :
    Inv X pins σ H' { s with heap := h', gens := g', drawn := d', toks := t' } := by
  have neL : ∀ b o, X.s₀.heap.get? b = some o → b ≠ X.env.locals := fun b o e => Nat.ne_of_lt (Nat.lt_of_lt_of_le (Heap.lt_size e) I.ok.above)
  have neC : ∀ b o, X.s₀.heap.get? b = some o → b ∉ X.ex → b ∉ ch := fun b o e hx hb => by
    rcases (hch b hb).1 with z | z
    · exact hx z
    · exact absurd (Nat.lt_of_lt_of_le (Heap.lt_size e) z) (Nat.lt_irrefl _)
  have cellK : ∀ x c, X.env.cells.lookup x = some c → ∀ v, s.heap.IsCell c v → h'.IsCell c v := fun x c e v ⟨o, ho, hd⟩ => by
    have nch : c ∉ ch := fun z => (hch c z).2.2.1 x c e rfl
    by_cases hc : c ∈ X.fs
    · obtain ⟨sl, q⟩ := slot c o (I.cne x c e) hc nch ho (I.freeC x c e)
      exact ⟨_, q, hd⟩
    · exact ⟨o, keep c o (I.cne x c e) hc nch ho (I.freeC x c e), hd⟩
  refine ⟨I.ok, I.os, hg, ⟨fun b o e n hb hx => ?_, fun b o e n hb hx => ?_, fun b o e n hx => ?_, fun b o e hx => ?_, fun b xs e => tups b xs (I.base.tups b xs e), fun b o xs e => frzs b o xs (I.base.frzs b o xs e), fun b ps e => ?_⟩, ?_, fun x c e => ?_, ?_, fun x c e => ?_, fun p hp => ?_, hok, I.len⟩
  · exact keep b o (neL b o e) hb (neC b o e hx) (I.base.keep b o e n hb hx) (I.base.free b o e n hx)
  · obtain ⟨sl, e1⟩ := I.base.slot b o e n hb hx
    obtain ⟨sl', e2⟩ := slot b _ (neL b o e) hb (neC b o e hx) e1 (I.base.free b o e n hx)
    exact ⟨sl', e2⟩
  · obtain ⟨o', e1⟩ := I.base.there b o e hx
    exact free b o' (neC b o e hx) e1 (I.base.free b o e n hx)
  · obtain ⟨o', e1⟩ := I.base.there b o e hx
    exact there b o' (neC b o e hx) e1
  · obtain ⟨m1, e1⟩ := I.base.tbls b ps e
    obtain ⟨m2, e2⟩ := tbls b _ e1
    exact ⟨m1 ++ m2, by rw [e2, Array.append_assoc]⟩
  · obtain ⟨m, hn, hl⟩ := I.loc
    refine ⟨m, ns m hn, fun i x v e1 e2 e3 => ?_⟩
    obtain ⟨u, r, l⟩ := hl i x v e1 e2 e3
    refine ⟨u, r, ?_⟩
    rcases l with l | ⟨k, c, e, z⟩
    · exact .inl l
    · exact .inr ⟨k, c, e, cellK x c e _ z⟩
  · obtain ⟨v, z⟩ := I.cell x c e
    exact ⟨v, cellK x c e v z⟩
  · obtain ⟨m, ⟨o, _, _, ho, _⟩, _⟩ := I.loc
    exact free _ o (fun z => (hch _ z).2.1 rfl) ho I.free
  · obtain ⟨v, o, ho, hd⟩ := I.cell x c e
    exact free c o (fun z => (hch c z).2.2.1 x c e rfl) ho (I.freeC x c e)
  · obtain ⟨e, n, ne, nf, d⟩ := I.pin p hp
    have nch : p.1 ∉ ch := fun z => (hch p.1 z).2.2.2 p hp rfl
    exact ⟨keep p.1 p.2 ne nf nch e n, free p.1 p.2 nch e n, ne, nf, d⟩
/-- .. where the frame's own object is kept too -/
theorem Inv.un {t' : Nat} (I : Inv X pins σ H s) (u : Un X.fs [] H H' s.heap h') (hok : HOk X.prog X.w H' h') : Inv X pins σ H' { s with heap := h', toks := t' } := by
  obtain ⟨m, ⟨o, es, ep, ho, r⟩, _⟩ := id I.loc
  obtain ⟨sl, hL⟩ := u.any ho I.free (by simp)
  exact I.step (g' := s.gens) (d' := s.drawn) (ch := []) (fun _ z => nomatch z) (fun b o _ hb _ e n => u.keep b o e n hb (by simp)) (fun b o _ hb _ e n => u.slot b o e n hb (by simp)) (fun b o _ e n => u.free b o e n (by simp)) (fun b o _ e => u.there b o e (by simp)) u.tups u.frzs u.tbls (fun m' hm => by
    obtain ⟨o', es', ep', ho', r'⟩ := hm
    rw [ho] at ho'; cases ho'
    exact ⟨_, es', ep', hL, r'⟩) hok I.bare
/-- behind a call (or a comprehension's block): the slots of this frame may have changed too, the records at ch may have turned -/
theorem Inv.call {g' : Array GenState} {t' : Nat} {d' : Drawn} {ch : List Addr} (I : Inv X pins σ H s) (u : Un (frs X.stack) ch H H' s.heap h') (hok : HOk X.prog X.w H' h') (hg : AllBare g')
    (hch : ∀ b ∈ ch, (b ∈ X.ex ∨ X.s₀.heap.objs.size ≤ b) ∧ b ≠ X.env.locals ∧ (∀ x c, X.env.cells.lookup x = some c → c ≠ b) ∧ ∀ p ∈ X.pn ++ pins, p.1 ≠ b) :
    Inv X pins σ H' { s with heap := h', gens := g', drawn := d', toks := t' } := by
  obtain ⟨m, ⟨o, es, ep, ho, r⟩, _⟩ := id I.loc
  obtain ⟨sl, hL⟩ := u.any ho I.free fun z => (hch _ z).2.1 rfl
  exact I.step (ch := ch) hch (fun b o hL hb hc e n => u.keep b o e n (fun z => (List.mem_cons.mp (I.stkSub b z)).elim hL hb) hc) (fun b o _ _ hc e n => u.any e n hc) (fun b o hc e n => u.free b o e n hc) (fun b o hc e => u.there b o e hc) u.tups u.frzs u.tbls (fun m' hm => by
    obtain ⟨o', es', ep', ho', r'⟩ := hm
    rw [ho] at ho'; cases ho'
    exact ⟨_, es', ep', hL, r'⟩) hok hg
/-- an untracked record of ours (an iterator) has turned -/
theorem Inv.turned {t' : Nat} {it : Addr} (I : Inv X pins σ H s) (k : ∀ b o, b ≠ it → s.heap.get? b = some o → h'.get? b = some o) (hn : H it = none) (hL : it ≠ X.env.locals)
    (h1 : it ∈ X.ex ∨ X.s₀.heap.objs.size ≤ it) (h2 : ∀ x c, X.env.cells.lookup x = some c → c ≠ it) (h3 : ∀ p ∈ X.pn ++ pins, p.1 ≠ it) : Inv X pins σ H { s with heap := h', toks := t' } := by
  have nit : ∀ b u, H b = some u → b ≠ it := fun b u e z => by rw [z, hn] at e; cases e
  refine I.step (g' := s.gens) (d' := s.drawn) (ch := [it]) (fun b hb => ?_) (fun b o _ _ hc e _ => k b o (fun z => hc (by simp [z])) e) (fun b o _ _ hc e _ => ⟨o.slots, k b o (fun z => hc (by simp [z])) e⟩) (fun _ _ _ _ n => n)
    (fun b o hc e => ⟨o, k b o (fun z => hc (by simp [z])) e⟩) (fun _ _ e => e) (fun _ _ _ e => e) (fun b ps e => ⟨#[], by rw [e]; simp⟩) (fun m hm => ?_) (fun b u e => ?_) I.bare
  · have e : b = it := by simpa using hb
    subst e
    exact ⟨h1, hL, h2, h3⟩
  · obtain ⟨o, es, ep, ho, r⟩ := hm
    exact ⟨o, es, ep, k _ o (Ne.symm hL) ho, r⟩
  · refine (I.hok b u e).stay (fun c v hc q => k c v ?_ q) (fun _ q => q) fun _ _ q => q
    rcases hc with z | z
    · rw [z]; exact nit b u e
    · exact nit c _ z
theorem Inv.tok (I : Inv X pins σ H s) (t : Nat) : Inv X pins σ H { s with toks := t } := I.un (h' := s.heap) (t' := t) Un.refl I.hok
/-- all objects kept -/
theorem Inv.kept {t' : Nat} (I : Inv X pins σ H s) (k : ∀ b u, s.heap.get? b = some u → h'.get? b = some u) : Inv X pins σ H { s with heap := h', toks := t' } := I.un (Un.kept k) (I.hok.kept k)
/-- a new object laid and tracked -/
theorem Inv.laid {a : Addr} {o : HO} {t' : Nat} (I : Inv X pins σ H s) (k : ∀ b u, s.heap.get? b = some u → h'.get? b = some u) (hp : s.heap.objs.size ≤ a) (new : ObjOk X.prog X.w (upd H a o) h' a o) :
    Inv X pins σ (upd H a o) { s with heap := h', toks := t' } := I.un (Un.laid k hp (I.hok.fresh hp)) (I.hok.laid k hp new)
/-- an object written -/
theorem Inv.write {x e : Addr} {o : HO} {t' : Nat} (I : Inv X pins σ H s) (mu : Mut (H x)) (he : e = x ∨ H e = some (.own x)) (k : ∀ b u, b ≠ e → s.heap.get? b = some u → h'.get? b = some u) (heo : ∃ u, h'.get? e = some u)
    (new : ObjOk X.prog X.w (upd H x o) h' x o) : Inv X pins σ (upd H x o) { s with heap := h', toks := t' } := I.un (Un.write mu he k heo) (I.hok.write mu he k heo new)
/-- forgetting slots, pins -/
theorem Inv.weak {σ' : List (Option V)} (I : Inv X pins σ H s) (hl : σ'.length = σ.length) (w : ∀ (i : Nat) v, σ'[i]? = some (some v) → σ[i]? = some (some v)) : Inv X pins σ' H s :=
  ⟨I.ok, I.os, I.bare, I.base, let ⟨m, hn, hl'⟩ := I.loc; ⟨m, hn, fun i x v e1 e2 e3 => hl' i x v e1 (w i v e2) e3⟩, I.cell, I.free, I.freeC, I.pin, I.hok, hl.trans I.len⟩
theorem Inv.pins_of {pins' : List (Addr × Obj)} (I : Inv X pins σ H s) (h : ∀ p ∈ pins', s.heap.get? p.1 = some p.2 ∧ H p.1 = none ∧ p.1 ≠ X.env.locals ∧ p.1 ∉ X.fs ∧ ∀ v, p.2.data ≠ .cell v) : Inv X pins' σ H s :=
  ⟨I.ok, I.os, I.bare, I.base, I.loc, I.cell, I.free, I.freeC, fun p hp => (List.mem_append.mp hp).elim (fun z => I.pin p (List.mem_append_left _ z)) (h p), I.hok, I.len⟩

theorem nodup_ix {N : List Str} (hN : N.Nodup) {i j : Nat} {x : Str} (a : N[i]? = some x) (b : N[j]? = some x) : i = j := by
  obtain ⟨h1, e1⟩ := List.getElem?_eq_some_iff.mp a
  obtain ⟨h2, e2⟩ := List.getElem?_eq_some_iff.mp b
  exact (List.getElem_inj hN).mp (e1.trans e2.symm)

/-- a name is stored; what changed -/
theorem store_ok2 {M : Model} {A : Around} {E : Value → Shared → Prop} {i : Nat} {x : Str} {v : V} {u : Value} {Q : Unit → Shared → Prop} (I : Inv X pins σ H s) (hN : X.N.Nodup) (hi : X.N[i]? = some x) (hx : Loc X.env.scope x) (r : RelV v u)
    (h : ∀ s', Inv X pins (σ.set i (some v)) H s' → (∃ a, Heap.SameBut a s.heap s'.heap ∧ (a = X.env.locals ∨ X.env.cells.lookup x = some a)) → Q () s') (hf : X.fn x = true ∨ X.env.scope.names.lookup x = some .local := by first | exact .inl rfl | exact .inr rfl | assumption) : wpAny M A (storeName X.env x u) Q E s := by
  obtain ⟨m, hn, hl⟩ := id I.loc
  have hcls : (X.env.scope.kind == .class || (X.env.scope.kind == .module && X.env.locals != X.env.globals)) = false := by rw [I.ok.kind]; rfl
  have hiσ : i < σ.length := by rw [I.len]; exact (List.getElem?_eq_some_iff.mp hi).1
  have cne := I.cne
  have tracked : ∀ {a : Addr} {h' : Heap}, (∃ o, s.heap.get? a = some o ∧ H a = none) → Heap.SameBut a s.heap h' → HOk X.prog X.w H h' := fun {a h'} ha hs b ob e => by
    obtain ⟨_, _, hfree⟩ := ha
    refine (I.hok b ob e).stay (fun c w' hc q => (hs.2 c ?_).trans q) (fun _ q => q) fun _ _ q => q
    rintro rfl
    rcases hc with rfl | hc
    · rw [hfree] at e; cases e
    · rw [hfree] at hc; cases hc
  rcases hx with hk | hk
  · refine wpAny_storeName_local hk hn (fun h' hn' hs => ?_) hcls
    obtain ⟨oL, _, _, hoL, _⟩ := id hn
    refine h _ ⟨I.ok, I.os, I.bare, ⟨fun b o e n hb hx => ?_, fun b o e n hb hx => ?_, I.base.free, fun b o e hx => ?_, I.base.tups, I.base.frzs, I.base.tbls⟩, ⟨_, hn', fun j y v' e1 e2 e3 => ?_⟩, fun y c e => ?_, I.free, I.freeC, fun p hp => ?_, tracked ⟨oL, hoL, I.free⟩ hs, by simpa using I.len⟩ ⟨_, hs, .inl rfl⟩
    · exact (hs.2 b (Nat.ne_of_lt (Nat.lt_of_lt_of_le (Heap.lt_size e) I.ok.above))).trans (I.base.keep b o e n hb hx)
    · obtain ⟨sl, e1⟩ := I.base.slot b o e n hb hx
      exact ⟨sl, (hs.2 b (Nat.ne_of_lt (Nat.lt_of_lt_of_le (Heap.lt_size e) I.ok.above))).trans e1⟩
    · obtain ⟨o', e1⟩ := I.base.there b o e hx
      exact ⟨o', (hs.2 b (Nat.ne_of_lt (Nat.lt_of_lt_of_le (Heap.lt_size e) I.ok.above))).trans e1⟩
    · by_cases hj : j = i
      · subst hj
        rw [hi] at e1; cases e1
        rw [List.getElem?_set_self hiσ] at e2
        cases e2
        exact ⟨u, r, .inl ⟨hk, by simp⟩⟩
      · rw [List.getElem?_set_ne (Ne.symm hj)] at e2
        obtain ⟨u', r', q⟩ := hl j y v' e1 e2 e3
        refine ⟨u', r', ?_⟩
        rcases q with ⟨k, e⟩ | ⟨k, c, e, z⟩
        · refine .inl ⟨k, ?_⟩
          have : y ≠ x := fun e => hj (nodup_ix hN e1 (e ▸ hi))
          simp [this, e]
        · exact .inr ⟨k, c, e, z.sameBut hs (cne y c e)⟩
    · obtain ⟨w', z⟩ := I.cell y c e
      exact ⟨w', z.sameBut hs (cne y c e)⟩
    · obtain ⟨e, n, ne, nf, d⟩ := I.pin p hp
      exact ⟨(hs.2 p.1 ne).trans e, n, ne, nf, d⟩
  · have hfn : X.fn x = true := by
      rcases hf with z | z
      · exact z
      · rw [z] at hk; cases hk
    obtain ⟨c, hc⟩ := I.ok.has x (.inl hk)
    obtain ⟨w', z⟩ := I.cell x c hc
    refine wpAny_storeName_cell I.ok.kind hk hc z (fun h' hc' hs => ?_)
    obtain ⟨oc, hoc, hocd⟩ := id z
    refine h { s with heap := h' } ⟨I.ok, I.os, I.bare, ⟨fun b o e n hb hx => ?_, fun b o e n hb hx => ?_, I.base.free, fun b o e hx => ?_, I.base.tups, I.base.frzs, I.base.tbls⟩, ⟨m, hn.sameBut hs (Ne.symm (cne x c hc)), fun j y v' e1 e2 e3 => ?_⟩, fun y c' e => ?_, I.free, I.freeC, fun p hp => ?_, tracked ⟨oc, hoc, I.freeC x c hc⟩ hs, by simpa using I.len⟩ ⟨c, hs, .inr hc⟩
    · exact (hs.2 b (Nat.ne_of_lt (Nat.lt_of_lt_of_le (Heap.lt_size e) (I.ok.cab x c hfn hc)))).trans (I.base.keep b o e n hb hx)
    · obtain ⟨sl, e1⟩ := I.base.slot b o e n hb hx
      exact ⟨sl, (hs.2 b (Nat.ne_of_lt (Nat.lt_of_lt_of_le (Heap.lt_size e) (I.ok.cab x c hfn hc)))).trans e1⟩
    · obtain ⟨o', e1⟩ := I.base.there b o e hx
      exact ⟨o', (hs.2 b (Nat.ne_of_lt (Nat.lt_of_lt_of_le (Heap.lt_size e) (I.ok.cab x c hfn hc)))).trans e1⟩
    · by_cases hj : j = i
      · subst hj
        rw [hi] at e1; cases e1
        rw [List.getElem?_set_self hiσ] at e2
        cases e2
        exact ⟨u, r, .inr ⟨.inl hk, c, hc, hc'⟩⟩
      · rw [List.getElem?_set_ne (Ne.symm hj)] at e2
        obtain ⟨u', r', q⟩ := hl j y v' e1 e2 e3
        refine ⟨u', r', ?_⟩
        rcases q with q | ⟨k, c', e, z'⟩
        · exact .inl q
        · refine .inr ⟨k, c', e, z'.sameBut hs ?_⟩
          rintro rfl
          exact hj (nodup_ix hN e1 (I.ok.inj _ _ _ e hc ▸ hi))
    · by_cases hcc : c' = c
      · subst hcc; exact ⟨_, hc'⟩
      · obtain ⟨w2, z2⟩ := I.cell y c' e
        exact ⟨w2, z2.sameBut hs hcc⟩
    · obtain ⟨e, n, ne, nf, d⟩ := I.pin p hp
      refine ⟨(hs.2 p.1 ?_).trans e, n, ne, nf, d⟩
      intro q
      rw [q, hoc] at e
      have q' : oc = p.2 := Option.some.inj e
      exact d w' (by rw [← q']; exact hocd)
theorem store_ok {M : Model} {A : Around} {E : Value → Shared → Prop} {i : Nat} {x : Str} {v : V} {u : Value} {Q : Unit → Shared → Prop} (I : Inv X pins σ H s) (hN : X.N.Nodup) (hi : X.N[i]? = some x) (hx : Loc X.env.scope x) (r : RelV v u)
    (h : ∀ s', Inv X pins (σ.set i (some v)) H s' → Q () s') (hf : X.fn x = true ∨ X.env.scope.names.lookup x = some .local := by first | exact .inl rfl | exact .inr rfl | assumption) : wpAny M A (storeName X.env x u) Q E s :=
  store_ok2 I hN hi hx r (fun s' I' _ => h s' I') hf
/-- behind a call or a block, the state as it is -/
theorem Inv.call' {s' : Shared} {ch : List Addr} (I : Inv X pins σ H s) (ho : s'.os = s.os) (u : Un (frs X.stack) ch H H' s.heap s'.heap) (hok : HOk X.prog X.w H' s'.heap) (hg : AllBare s'.gens)
    (hch : ∀ b ∈ ch, (b ∈ X.ex ∨ X.s₀.heap.objs.size ≤ b) ∧ b ≠ X.env.locals ∧ (∀ x c, X.env.cells.lookup x = some c → c ≠ b) ∧ ∀ p ∈ X.pn ++ pins, p.1 ≠ b) : Inv X pins σ H' s' := by
  obtain ⟨h', g', d', t', o'⟩ := s'
  have e : o' = s.os := ho
  subst e
  exact I.call (g' := g') (t' := t') (d' := d') u hok hg hch
end

/-! ### the judgements -/
/-- an exception: its class, its own dict's address (where it has one), the abstract heap behind it -/
abbrev XK := Value → Option Addr → Hp → Prop
abbrev St := List (Option V)
abbrev VK := V → Hp → Prop
/-- an expression's reading; a test's; an argument list's -/
abbrev TE := St → Hp → VK → Prop
abbrev TT := St → Hp → (Bool → Hp → Prop) → Prop
abbrev TA := St → Hp → (List V → Hp → Prop) → Prop
/-- what is wanted behind a statement -/
structure Ends where
  nx : St → Hp → Prop
  rt : VK
  bk : St → Hp → Prop := fun _ _ => False
  ct : St → Hp → Prop := fun _ _ => False
abbrev TS := Ends → St → Hp → Prop

def EP (X : Cx) (pins : List (Addr × Obj)) (σ : St) (Q : VK) (u : Value) (s' : Shared) : Prop := ∃ v H', Inv X pins σ H' s' ∧ RelV v u ∧ Q v H'
def TP (X : Cx) (pins : List (Addr × Obj)) (σ : St) (Q : Bool → Hp → Prop) (b : Bool) (s' : Shared) : Prop := ∃ H', Inv X pins σ H' s' ∧ Q b H'
def AP (X : Cx) (pins : List (Addr × Obj)) (σ : St) (Q : List V → Hp → Prop) (us : List Value) (s' : Shared) : Prop := ∃ vs H', Inv X pins σ H' s' ∧ Vals vs us ∧ Q vs H'
def SP (X : Cx) (pins : List (Addr × Obj)) (D : Ends) (f : Flow) (s' : Shared) : Prop :=
  match f with
  | .next => ∃ σ' H', Inv X pins σ' H' s' ∧ D.nx σ' H'
  | .brk => ∃ σ' H', Inv X pins σ' H' s' ∧ D.bk σ' H'
  | .cont => ∃ σ' H', Inv X pins σ' H' s' ∧ D.ct σ' H'
  | .ret u => ∃ v σ' H', Inv X pins σ' H' s' ∧ RelV v u ∧ D.rt v H'

def PE (X : Cx) (e : Expr) (t : TE) : Prop :=
  ∀ (pins : List (Addr × Obj)) (s : Shared) (σ : St) (H : Hp) (Q : VK), Inv X pins σ H s → t σ H Q → wpAny (model X.prog X.w) X.A (eval e X.env) (EP X pins σ Q) X.xe s
def PT (X : Cx) (e : Expr) (t : TT) : Prop :=
  ∀ (pins : List (Addr × Obj)) (s : Shared) (σ : St) (H : Hp) (Q : Bool → Hp → Prop), Inv X pins σ H s → t σ H Q → wpAny (model X.prog X.w) X.A (isTrue e X.env (eval e X.env)) (TP X pins σ Q) X.xe s
/-- a test whatever its 'whole' is (and, or) -/
def PW (X : Cx) (e : Expr) (t : TT) : Prop :=
  ∀ (whole : Sem Value) (pins : List (Addr × Obj)) (s : Shared) (σ : St) (H : Hp) (Q : Bool → Hp → Prop), Inv X pins σ H s → t σ H Q → wpAny (model X.prog X.w) X.A (isTrue e X.env whole) (TP X pins σ Q) X.xe s
theorem PW.pt {X : Cx} {e : Expr} {t : TT} (h : PW X e t) : PT X e t := h _
/-- an argument list (no star), from the left -/
def PA (X : Cx) (es : List Expr) (t : TA) : Prop :=
  ∀ (pos : Pos) (pins : List (Addr × Obj)) (s : Shared) (σ : St) (H : Hp) (Q : List V → Hp → Prop), Inv X pins σ H s → t σ H Q → wpAny (model X.prog X.w) X.A (spliced (backTo pos (starEach es X.env))) (AP X pins σ Q) X.xe s
def PS (X : Cx) (st : Stmt) (t : TS) : Prop :=
  ∀ (pins : List (Addr × Obj)) (s : Shared) (σ : St) (H : Hp) (D : Ends), Inv X pins σ H s → t D σ H → wpAny (model X.prog X.w) X.A (exec st X.env) (SP X pins D) X.xe s
def PSs (X : Cx) (st : List Stmt) (t : TS) : Prop :=
  ∀ (pins : List (Addr × Obj)) (s : Shared) (σ : St) (H : Hp) (D : Ends), Inv X pins σ H s → t D σ H → wpAny (model X.prog X.w) X.A (execs st X.env) (SP X pins D) X.xe s
/-- weaken the end -/
theorem thn {α : Type} {t : Sem α} {Q Q' : α → Shared → Prop} {M : Model} {A : Around} {E : Value → Shared → Prop} {s : Shared} (h : wpAny M A t Q E s) (hQ : ∀ a s, Q a s → Q' a s) : wpAny M A t Q' E s := wpAny_mono h hQ fun _ _ x => x
end L2

namespace L2
open PySem PySem.Spec PyProof.Rows
section
variable {X : Cx}

/-- two expressions in a row -/
theorem bin {a b : Expr} {ta tb : TE} (ha : PE X a ta) (hb : PE X b tb) {pins : List (Addr × Obj)} {s : Shared} {σ : St} {H : Hp} {R : V → V → Hp → Prop} (I : Inv X pins σ H s) (h : ta σ H fun x H1 => tb σ H1 fun y H2 => R x y H2)
    {α : Type} {Q : α → Shared → Prop} {f : Value → Value → Sem α}
    (hf : ∀ v u s2 x y H2, Inv X pins σ H2 s2 → RelV x v → RelV y u → R x y H2 → wpAny (model X.prog X.w) X.A (f v u) Q X.xe s2) :
    wpAny (model X.prog X.w) X.A (eval a X.env) (fun v s₁ => wpAny (model X.prog X.w) X.A (eval b X.env) (fun u s₂ => wpAny (model X.prog X.w) X.A (f v u) Q X.xe s₂) X.xe s₁) X.xe s := by
  refine thn (ha pins s σ H _ I h) fun v s1 ⟨x, H1, I1, r1, q1⟩ => ?_
  refine thn (hb pins s1 σ H1 _ I1 q1) fun u s2 ⟨y, H2, I2, r2, q2⟩ => ?_
  exact hf v u s2 x y H2 I2 r1 r2 q2

/-! ### names and constants -/
def tVar (i : Nat) : TE := fun σ H Q => ∃ v, σ[i]? = some (some v) ∧ Q v H
def tC (v : V) : TE := fun _ H Q => Q v H
theorem pe_var {i : Nat} {x : Str} {pos : Pos} (hN : X.N[i]? = some x) (hv : Vis X.env.scope x) (hd : (x == ("__debug__" : Str)) = false := by decide) (hcd : (x == ("__classdict__" : Str)) = false := by decide) : PE X (.Name x pos) (tVar i) := by
  intro pins s σ H Q I h
  obtain ⟨v, e, h⟩ := h
  obtain ⟨m, hn, hl⟩ := I.loc
  obtain ⟨u, r, l⟩ := hl i x v hN e hv
  have fin : EP X pins σ Q u s := ⟨v, H, I, r, h⟩
  rcases l with ⟨hk, hm⟩ | ⟨hk, c, hc, hcell⟩
  · exact wpAny_Name (wpAny_loadName_local I.ok.kind hk hn hm fin) hd
  · rcases hk with hk | hk
    · exact wpAny_Name (wpAny_loadName_cell I.ok.kind hk hc hcell fin) hd
    · exact wpAny_Name (wpAny_loadName_free I.ok.kind hk hc hcell fin hcd) hd
theorem pe_int {i j pos} : PE X (.Constant (.int i) j pos) (tC (.int i)) := fun _ _ _ H _ I h => wpAny_Constant_int ⟨.int i, H, I.tok _, ⟨_, rfl⟩, h⟩
theorem pe_bl {b j pos} : PE X (.Constant (.bool b) j pos) (tC (.bl b)) := fun _ _ _ H _ I h => Constant_bool ⟨.bl b, H, I, rfl, h⟩
theorem pe_non {j pos} : PE X (.Constant .none j pos) (tC .non) := fun _ _ _ H _ I h => Constant_none ⟨.non, H, I, rfl, h⟩
theorem pe_str {x j pos} : PE X (.Constant (.str x) j pos) (tC (.str x)) := fun _ _ _ H _ I h => Calls.Constant_str ⟨.str x, H, I.tok _, ⟨_, rfl⟩, h⟩

/-- a global name of the def -/
def Gl (X : Cx) (x : Str) : Prop := X.env.kindOf x = some .globalImplicit
theorem ld_glob {E : Value → Shared → Prop} {pins : List (Addr × Obj)} {s : Shared} {σ : St} {H : Hp} {x : Str} {u : Value} {pos : Pos} {Q : Value → Shared → Prop} (I : Inv X pins σ H s) (hg : Gl X x) (hm : X.mg x = some u) (h : Q u s)
    (hd : (x == ("__debug__" : Str)) = false := by decide) : wpAny (model X.prog X.w) X.A (eval (.Name x pos) X.env) Q E s :=
  Calls.Name_function_global I.ok.kind hg (Calls.loadGlobal_global (by rw [I.ok.glob]; exact I.mod.glob.keeps I.bk) hm h) hd
theorem ld_blt {E : Value → Shared → Prop} {pins : List (Addr × Obj)} {s : Shared} {σ : St} {H : Hp} {x : Str} {u : Value} {pos : Pos} {Q : Value → Shared → Prop} (I : Inv X pins σ H s) (hg : Gl X x) (hm : X.mg x = none) (hv : bootBuiltins x = some u) (h : Q u s)
    (hn : x ≠ "__name__" := by decide) (hd : (x == ("__debug__" : Str)) = false := by decide) : wpAny (model X.prog X.w) X.A (eval (.Name x pos) X.env) Q E s := by
  obtain ⟨mb, h1, h2⟩ := I.mod.blt
  exact Calls.Name_function_global I.ok.kind hg (Calls.loadGlobal_builtin (by rw [I.ok.glob]; exact I.mod.glob.keeps I.bk) hm (by rw [I.ok.blt]; exact h1.keeps I.bk) ((h2 x hn).trans hv) h) hd
/-- a module's constant, a class, a function, as a value -/
theorem pe_glob {x : Str} {v : V} {u : Value} {pos : Pos} (hg : Gl X x) (hm : X.mg x = some u) (r : RelV v u) (hd : (x == ("__debug__" : Str)) = false := by decide) : PE X (.Name x pos) (tC v) :=
  fun _ _ _ H _ I h => ld_glob I hg hm ⟨v, H, I, r, h⟩ hd
theorem pe_bltn {x : Str} {v : V} {u : Value} {pos : Pos} (hg : Gl X x) (hm : X.mg x = none) (hv : bootBuiltins x = some u) (r : RelV v u) (hn : x ≠ "__name__" := by decide) (hd : (x == ("__debug__" : Str)) = false := by decide) : PE X (.Name x pos) (tC v) :=
  fun _ _ _ H _ I h => ld_blt I hg hm hv ⟨v, H, I, r, h⟩ hn hd

/-! ### arithmetic -/
/-- two ints -/
def t2I (ta tb : TE) (k : Int → Int → Hp → Prop) : St → Hp → Prop := fun σ H => ta σ H fun x H1 => tb σ H1 fun y H2 => ∃ i j, x = .int i ∧ y = .int j ∧ k i j H2
def tAdd (ta tb : TE) : TE := fun σ H Q => t2I ta tb (fun i j H2 => Q (.int (i + j)) H2) σ H
def tSub (ta tb : TE) : TE := fun σ H Q => t2I ta tb (fun i j H2 => Q (.int (i - j)) H2) σ H
/-- the left factor below 2^64 -/
def tMul (ta tb : TE) : TE := fun σ H Q => t2I ta tb (fun i j H2 => (-(2 ^ 64) < i ∧ i < 2 ^ 64) ∧ Q (.int (i * j)) H2) σ H
variable {a b : Expr} {ta tb : TE} {pos : Pos}
theorem pe_add (ha : PE X a ta) (hb : PE X b tb) : PE X (.BinOp a .Add b pos) (tAdd ta tb) := by
  intro pins s σ H Q I h
  refine wpAny_BinOp (bin ha hb I h fun v u s2 x y H2 I2 rx ry q => ?_)
  obtain ⟨i, j, rfl, rfl, q⟩ := q
  obtain ⟨t, rfl⟩ := rx
  obtain ⟨t', rfl⟩ := ry
  exact add_int ⟨.int _, H2, I2.tok _, ⟨_, rfl⟩, q⟩
theorem pe_sub (ha : PE X a ta) (hb : PE X b tb) : PE X (.BinOp a .Sub b pos) (tSub ta tb) := by
  intro pins s σ H Q I h
  refine wpAny_BinOp (bin ha hb I h fun v u s2 x y H2 I2 rx ry q => ?_)
  obtain ⟨i, j, rfl, rfl, q⟩ := q
  obtain ⟨t, rfl⟩ := rx
  obtain ⟨t', rfl⟩ := ry
  exact sub_int ⟨.int _, H2, I2.tok _, ⟨_, rfl⟩, q⟩
theorem pe_mul (ha : PE X a ta) (hb : PE X b tb) : PE X (.BinOp a .Mult b pos) (tMul ta tb) := by
  intro pins s σ H Q I h
  refine wpAny_BinOp (bin ha hb I h fun v u s2 x y H2 I2 rx ry q => ?_)
  obtain ⟨i, j, rfl, rfl, ⟨q1, q2⟩, q⟩ := q
  obtain ⟨t, rfl⟩ := rx
  obtain ⟨t', rfl⟩ := ry
  exact mul_int ⟨.int _, H2, I2.tok _, ⟨_, rfl⟩, q⟩ (.of_left (intBits_le_64 q1 q2))

/-! ### comparisons -/
def PC (X : Cx) (op : CmpOp) (a b : Expr) (t : TE) : Prop :=
  ∀ (pins : List (Addr × Obj)) (s : Shared) (σ : St) (H : Hp) (Q : VK), Inv X pins σ H s → t σ H Q →
    wpAny (model X.prog X.w) X.A (eval a X.env) (fun v s₁ => wpAny (model X.prog X.w) X.A (eval b X.env) (fun u s₂ => wpAny (model X.prog X.w) X.A (compareOp op v u) (EP X pins σ Q) X.xe s₂) X.xe s₁) X.xe s
theorem nobehind (b : Expr) {op : CmpOp} (h : op ≠ .In) (h2 : op ≠ .NotIn) : behindInMarks op b = false := by
  have e1 : (op == CmpOp.In) = false := by cases op <;> first | rfl | exact absurd rfl h
  have e2 : (op == CmpOp.NotIn) = false := by cases op <;> first | rfl | exact absurd rfl h2
  cases b <;> simp [behindInMarks, e1, e2]
def tCmp (p : Int → Int → Bool) (ta tb : TE) : TE := fun σ H Q => t2I ta tb (fun i j H2 => Q (.bl (p i j)) H2) σ H
abbrev tLt : TE → TE → TE := tCmp fun i j => decide (i < j)
abbrev tLe : TE → TE → TE := tCmp fun i j => decide (i ≤ j)
abbrev tGt : TE → TE → TE := tCmp fun i j => decide (j < i)
abbrev tGe : TE → TE → TE := tCmp fun i j => decide (j ≤ i)
abbrev tEqI : TE → TE → TE := tCmp fun i j => decide (i = j)
abbrev tNeI : TE → TE → TE := tCmp fun i j => !decide (i = j)
/-- a comparison of two ints, by its rule -/
theorem pc_int {op : CmpOp} {p : Int → Int → Bool} (ha : PE X a ta) (hb : PE X b tb)
    (rule : ∀ (i j : Int) (t u : Tok) (Q : Value → Shared → Prop) (s : Shared), Q (.bool (p i j)) s → wpAny (model X.prog X.w) X.A (compareOp op (.int i t) (.int j u)) Q X.xe s) : PC X op a b (tCmp p ta tb) := by
  intro pins s σ H Q I h
  refine bin ha hb I h fun v u s2 x y H2 I2 rx ry q => ?_
  obtain ⟨i, j, rfl, rfl, q⟩ := q
  obtain ⟨t, rfl⟩ := rx
  obtain ⟨t', rfl⟩ := ry
  exact rule i j t t' _ s2 ⟨.bl _, H2, I2, rfl, q⟩
theorem pc_lt (ha : PE X a ta) (hb : PE X b tb) : PC X .Lt a b (tLt ta tb) := pc_int ha hb fun _ _ _ _ _ _ h => lt_int h
theorem pc_le (ha : PE X a ta) (hb : PE X b tb) : PC X .LtE a b (tLe ta tb) := pc_int ha hb fun _ _ _ _ _ _ h => le_int h
theorem pc_gt (ha : PE X a ta) (hb : PE X b tb) : PC X .Gt a b (tGt ta tb) := pc_int ha hb fun _ _ _ _ _ _ h => gt_int h
theorem pc_ge (ha : PE X a ta) (hb : PE X b tb) : PC X .GtE a b (tGe ta tb) := pc_int ha hb fun _ _ _ _ _ _ h => ge_int h
theorem pc_eqI (ha : PE X a ta) (hb : PE X b tb) : PC X .Eq a b (tEqI ta tb) := pc_int ha hb fun _ _ _ _ _ _ h => eq_int (by rw [Bool.beq_eq_decide_eq]; exact h)
theorem pc_neI (ha : PE X a ta) (hb : PE X b tb) : PC X .NotEq a b (tNeI ta tb) := pc_int ha hb fun _ _ _ _ _ _ h => ne_int (by rw [bne, Bool.beq_eq_decide_eq]; exact h)
/-- is None -/
def tIsN (ta : TE) : TE := fun σ H Q => ta σ H fun x H1 => Q (.bl (decide (x = .non))) H1
def tNotN (ta : TE) : TE := fun σ H Q => ta σ H fun x H1 => Q (.bl (!decide (x = .non))) H1
theorem RelV.none_iff {x : V} {v : Value} (r : RelV x v) : (v == Value.none) = decide (x = .non) := by
  cases x with
  | non => cases r; rfl
  | bl _ => cases r; rfl
  | int _ => obtain ⟨t, rfl⟩ := r; rfl
  | str _ => obtain ⟨t, rfl⟩ := r; rfl
  | byt _ => obtain ⟨t, rfl⟩ := r; rfl
  | flt _ => obtain ⟨t, rfl⟩ := r; rfl
  | ref _ => cases r; rfl
  | ty _ => cases r; rfl
theorem pc_isN {j pos'} (ha : PE X a ta) : PC X .Is a (.Constant .none j pos') (tIsN ta) := by
  intro pins s σ H Q I h
  refine thn (ha pins s σ H _ I h) fun v s1 ⟨x, H1, I1, r1, q1⟩ => ?_
  exact Constant_none (is_none_gen ⟨.bl _, H1, I1, by rw [r1.none_iff]; rfl, q1⟩)
theorem pc_notN {j pos'} (ha : PE X a ta) : PC X .IsNot a (.Constant .none j pos') (tNotN ta) := by
  intro pins s σ H Q I h
  refine thn (ha pins s σ H _ I h) fun v s1 ⟨x, H1, I1, r1, q1⟩ => ?_
  exact Constant_none (isnot_none_gen ⟨.bl _, H1, I1, by rw [r1.none_iff]; rfl, q1⟩)
/-- a comparison as a value, as a test -/
def tB (t : TE) : TT := fun σ H Q => t σ H fun x H1 => ∃ c, x = .bl c ∧ Q c H1
theorem pe_cmp {op : CmpOp} {t : TE} (h : PC X op a b t) (h1 : behindInMarks op b = false := by first | exact nobehind _ (by decide) (by decide) | rfl) : PE X (.Compare a [op] [b] pos) t := fun pins s σ H Q I hw => wpAny_Compare1 (h pins s σ H Q I hw) h1
theorem pt_cmp {op : CmpOp} {t : TE} (h : PC X op a b t) (h1 : behindInMarks op b = false := by first | exact nobehind _ (by decide) (by decide) | rfl) : PT X (.Compare a [op] [b] pos) (tB t) := by
  intro pins s σ H Q I hw
  refine wpAny_isTrue_Compare1 (thn (h pins s σ H _ I hw) fun v s1 h1 => thn h1 fun u s2 h2 => thn h2 fun c s3 ⟨x, H1, I1, r1, q1⟩ => ?_) h1
  obtain ⟨d, rfl, q⟩ := q1
  cases r1
  exact wpAny_truthy_bool ⟨H1, I1, q⟩
/-- an expression whose value is a bool, as a test -/
theorem pt_val {e : Expr} {t : TE} (h : PE X e t) (he : ∀ whole, isTrue e X.env whole = (do let v ← whole; standAt e.pos; holding [v] (truthy v)) := by intro _; rfl) : PT X e (tB t) := by
  intro pins s σ H Q I hw
  refine isTrue_plain (thn (h pins s σ H _ I hw) fun v s1 ⟨x, H1, I1, r1, q1⟩ => ?_) (he _)
  obtain ⟨d, rfl, q⟩ := q1
  cases r1
  exact wpAny_truthy_bool ⟨H1, I1, q⟩

/-! ### and, or, not -/
variable {tA tB' : TT} {rest : List Expr}
def tAnd (t u : TT) : TT := fun σ H Q => t σ H fun c H1 => if c = true then u σ H1 Q else Q false H1
def tOr (t u : TT) : TT := fun σ H Q => t σ H fun c H1 => if c = true then Q true H1 else u σ H1 Q
def tNot (t : TT) : TT := fun σ H Q => t σ H fun c H1 => Q (!c) H1
theorem pw_and1 (ha : PT X a tA) : PW X (.BoolOp .And [a] pos) tA := by
  intro wh pins s σ H Q I h
  refine isTrue_and (thn (ha pins s σ H Q I h) fun c s1 e => ?_)
  cases c with
  | true => exact isTrue_and_nil e
  | false => exact e
theorem pw_or1 (ha : PT X a tA) : PW X (.BoolOp .Or [a] pos) tA := by
  intro wh pins s σ H Q I h
  refine isTrue_or (thn (ha pins s σ H Q I h) fun c s1 e => ?_)
  cases c with
  | false => exact isTrue_or_nil e
  | true => exact e
theorem pw_and (ha : PT X a tA) (hb : PW X (.BoolOp .And (b :: rest) pos) tB') : PW X (.BoolOp .And (a :: b :: rest) pos) (tAnd tA tB') := by
  intro wh pins s σ H Q I h
  refine isTrue_and (thn (ha pins s σ H _ I h) fun c s1 ⟨H1, I1, q1⟩ => ?_)
  cases c with
  | true => exact hb wh pins s1 σ H1 Q I1 q1
  | false => exact ⟨H1, I1, q1⟩
theorem pw_or (ha : PT X a tA) (hb : PW X (.BoolOp .Or (b :: rest) pos) tB') : PW X (.BoolOp .Or (a :: b :: rest) pos) (tOr tA tB') := by
  intro wh pins s σ H Q I h
  refine isTrue_or (thn (ha pins s σ H _ I h) fun c s1 ⟨H1, I1, q1⟩ => ?_)
  cases c with
  | true => exact ⟨H1, I1, q1⟩
  | false => exact hb wh pins s1 σ H1 Q I1 q1
theorem pt_not (ha : PT X a tA) : PT X (.UnaryOp .Not a pos) (tNot tA) := by
  intro pins s σ H Q I h
  exact isTrue_not (ha pins s σ H (fun c H1 => Q (!c) H1) I h)
/-- .. as values (bools) -/
def tAndV (ta tb : TE) : TE := fun σ H Q => ta σ H fun x H1 => ∃ c, x = .bl c ∧ if c = true then tb σ H1 Q else Q (.bl false) H1
def tOrV (ta tb : TE) : TE := fun σ H Q => ta σ H fun x H1 => ∃ c, x = .bl c ∧ if c = true then Q (.bl true) H1 else tb σ H1 Q
def tNotV (ta : TE) : TE := fun σ H Q => ta σ H fun x H1 => ∃ c, x = .bl c ∧ Q (.bl (!c)) H1
theorem pe_one {op} {t : TE} (h : PE X a t) : PE X (.BoolOp op [a] pos) t := fun pins s σ H Q I hw => BoolOp_one (h pins s σ H Q I hw)
theorem pe_and (ha : PE X a ta) (hb : PE X (.BoolOp .And (b :: rest) pos) tb) : PE X (.BoolOp .And (a :: b :: rest) pos) (tAndV ta tb) := by
  intro pins s σ H Q I h
  refine BoolOp_and (thn (ha pins s σ H _ I h) fun v s1 ⟨x, H1, I1, r1, q1⟩ => ?_)
  obtain ⟨c, rfl, q1⟩ := q1
  cases r1
  refine wpAny_truthy_bool ?_
  cases c with
  | true => exact hb pins s1 σ H1 Q I1 q1
  | false => exact ⟨.bl false, H1, I1, rfl, q1⟩
theorem pe_or (ha : PE X a ta) (hb : PE X (.BoolOp .Or (b :: rest) pos) tb) : PE X (.BoolOp .Or (a :: b :: rest) pos) (tOrV ta tb) := by
  intro pins s σ H Q I h
  refine BoolOp_or (thn (ha pins s σ H _ I h) fun v s1 ⟨x, H1, I1, r1, q1⟩ => ?_)
  obtain ⟨c, rfl, q1⟩ := q1
  cases r1
  refine wpAny_truthy_bool ?_
  cases c with
  | false => exact hb pins s1 σ H1 Q I1 q1
  | true => exact ⟨.bl true, H1, I1, rfl, q1⟩
theorem pe_not (ha : PE X a ta) : PE X (.UnaryOp .Not a pos) (tNotV ta) := by
  intro pins s σ H Q I h
  refine UnaryOp_ (thn (ha pins s σ H _ I h) fun v s1 ⟨x, H1, I1, r1, q1⟩ => ?_)
  obtain ⟨c, rfl, q1⟩ := q1
  cases r1
  exact not_of (wpAny_truthy_bool ⟨.bl (!c), H1, I1, rfl, q1⟩)
/-- a if t else b -/
def tIf (t : TT) (ta tb : TE) : TE := fun σ H Q => t σ H fun c H1 => if c = true then ta σ H1 Q else tb σ H1 Q
theorem pe_ifExp {c : Expr} (hc : PT X c tA) (ha : PE X a ta) (hb : PE X b tb) : PE X (.IfExp c a b pos) (tIf tA ta tb) := by
  intro pins s σ H Q I h
  refine wpAny_IfExp (thn (hc pins s σ H _ I h) fun d s1 ⟨H1, I1, q1⟩ => ?_)
  cases d with
  | true => exact ha pins s1 σ H1 Q I1 q1
  | false => exact hb pins s1 σ H1 Q I1 q1
end
end L2

namespace L2
open PySem PySem.Spec PyProof.Rows

/-! ### a list, a tuple that is read: tracked, frozen, or an object of the module -/
def SqL (K : PySem.W.Frag) (H : Hp) (a : Addr) (xs : List V) : Prop :=
  Rd H a (.lst xs) ∨
    ∃ (o : Obj) (its : Array Value) (n : Nat), K.lookup a = some o ∧ o.cls = .type "list" ∧ o.dict = none ∧ o.data = .seq its n ∧ its.size ≤ sizeLine ∧ Vals xs its.toList
def SqT (K : PySem.W.Frag) (H : Hp) (a : Addr) (xs : List V) : Prop :=
  Rd H a (.tup xs) ∨
    ∃ (o : Obj) (its : Array Value) (n : Nat), K.lookup a = some o ∧ o.cls = .type "tuple" ∧ o.data = .seq its n ∧ its.size ≤ sizeLine ∧ Vals xs its.toList
def absV : Value → Option V
  | .none => some .non
  | .bool b => some (.bl b)
  | .int i _ => some (.int i)
  | .str x _ => some (.str x)
  | .bytes b _ => some (.byt b)
  | .float b _ => some (.flt b)
  | .ref a => some (.ref a)
  | .type n => some (.ty n)
  | _ => none
theorem RelV.abs {x : V} {u : Value} (r : RelV x u) : absV u = some x := by
  cases x with
  | non => cases r; rfl
  | bl _ => cases r; rfl
  | int _ => obtain ⟨t, rfl⟩ := r; rfl
  | str _ => obtain ⟨t, rfl⟩ := r; rfl
  | byt _ => obtain ⟨t, rfl⟩ := r; rfl
  | flt _ => obtain ⟨t, rfl⟩ := r; rfl
  | ref _ => cases r; rfl
  | ty _ => cases r; rfl
theorem RelV.inj {x y : V} {u : Value} (r : RelV x u) (q : RelV y u) : x = y := Option.some.inj (r.abs.symm.trans q.abs)
theorem Vals.inj : ∀ {xs ys : List V} {us : List Value}, Vals xs us → Vals ys us → xs = ys
  | _, _, _, .nil, .nil => rfl
  | _, _, _, .cons r t, .cons r' t' => by rw [r.inj r', Vals.inj t t']
section
variable {X : Cx} {pins : List (Addr × Obj)} {σ : St} {H : Hp} {s : Shared} {a : Addr} {xs ys : List V}
theorem SqL.of {K : PySem.W.Frag} (h : H a = some (.lst xs)) : SqL K H a xs := .inl (.inl h)
theorem SqT.of {K : PySem.W.Frag} (h : H a = some (.tup xs)) : SqT K H a xs := .inl (.inl h)
theorem Inv.list (I : Inv X pins σ H s) (h : SqL X.K H a xs) : ∃ its : List Value, Vals xs its ∧ PlainL s.heap a its.toArray ∧ xs.length ≤ sizeLine := by
  rcases h with h | ⟨o, its, n, hk, hc, hd, hs, hz, r⟩
  · obtain ⟨z, its, n, r, e⟩ := h.ok I.hok
    exact ⟨its, r, ⟨_, n, e, rfl, rfl, rfl⟩, z⟩
  · refine ⟨its.toList, r, ⟨o, n, I.kIn a o hk, hc, hd, by simpa using hs⟩, ?_⟩
    have e := r.length
    simp only [Array.length_toList] at e
    omega
theorem Inv.tuple (I : Inv X pins σ H s) (h : SqT X.K H a xs) : ∃ its : List Value, Vals xs its ∧ IsTup s.heap a its.toArray ∧ xs.length ≤ sizeLine := by
  rcases h with h | ⟨o, its, n, hk, hc, hs, hz, r⟩
  · obtain ⟨z, its, r, p⟩ := h.ok I.hok
    exact ⟨its, r, p, z⟩
  · refine ⟨its.toList, r, ⟨o, I.kIn a o hk, hc, n, by simpa using hs⟩, ?_⟩
    have e := r.length
    simp only [Array.length_toList] at e
    omega
theorem Inv.list_inj (I : Inv X pins σ H s) (h : SqL X.K H a xs) (h' : SqL X.K H a ys) : xs = ys := by
  obtain ⟨its, r, ⟨o, n, e, _, _, d⟩, _⟩ := I.list h
  obtain ⟨its', r', ⟨o', n', e', _, _, d'⟩, _⟩ := I.list h'
  rw [e] at e'; cases e'
  rw [d] at d'
  injection d' with d1 _
  have : its = its' := by simpa using congrArg Array.toList d1
  subst this
  exact r.inj r'
theorem Inv.tuple_inj (I : Inv X pins σ H s) (h : SqT X.K H a xs) (h' : SqT X.K H a ys) : xs = ys := by
  obtain ⟨its, r, ⟨o, e, _, n, d⟩, _⟩ := I.tuple h
  obtain ⟨its', r', ⟨o', e', _, n', d'⟩, _⟩ := I.tuple h'
  rw [e] at e'; cases e'
  rw [d] at d'
  injection d' with d1 _
  have : its = its' := by simpa using congrArg Array.toList d1
  subst this
  exact r.inj r'
end

/-! ### another wish about exceptions -/
abbrev Cx.wish (X : Cx) (E : Value → Shared → Prop) : Cx := { X with xe := E }
/-- no exception leaves -/
abbrev Cx.nox (X : Cx) : Cx := X.wish fun _ _ => False
theorem Cx.Ok.wish {X : Cx} (ok : X.Ok) (E : Value → Shared → Prop) : (X.wish E).Ok :=
  ⟨ok.mod, ok.kind, ok.glob, ok.blt, ok.above, ok.inj, ok.has, ok.cab, ok.hd, ok.frames, ok.stk, ok.exf, ok.bs, ok.bsz, ok.noex, ok.exfs, ok.funs, ok.frf⟩
theorem Cx.Ok.unwish {X : Cx} {E : Value → Shared → Prop} (ok : (X.wish E).Ok) : X.Ok :=
  ⟨ok.mod, ok.kind, ok.glob, ok.blt, ok.above, ok.inj, ok.has, ok.cab, ok.hd, ok.frames, ok.stk, ok.exf, ok.bs, ok.bsz, ok.noex, ok.exfs, ok.funs, ok.frf⟩
section
variable {X : Cx} {pins : List (Addr × Obj)} {σ : St} {H : Hp} {s : Shared} {E : Value → Shared → Prop}
theorem Inv.wish (I : Inv X pins σ H s) (E : Value → Shared → Prop) : Inv (X.wish E) pins σ H s := ⟨I.ok.wish E, I.os, I.bare, I.base, I.loc, I.cell, I.free, I.freeC, I.pin, I.hok, I.len⟩
theorem Inv.unwish (I : Inv (X.wish E) pins σ H s) : Inv X pins σ H s := ⟨I.ok.unwish, I.os, I.bare, I.base, I.loc, I.cell, I.free, I.freeC, I.pin, I.hok, I.len⟩
theorem SP.unwish {D : Ends} {f : Flow} {s' : Shared} (h : SP (X.wish E) pins D f s') : SP X pins D f s' := by
  cases f with
  | next => obtain ⟨σ', H', I, q⟩ := h; exact ⟨σ', H', I.unwish, q⟩
  | brk => obtain ⟨σ', H', I, q⟩ := h; exact ⟨σ', H', I.unwish, q⟩
  | cont => obtain ⟨σ', H', I, q⟩ := h; exact ⟨σ', H', I.unwish, q⟩
  | ret u => obtain ⟨v, σ', H', I, r, q⟩ := h; exact ⟨v, σ', H', I.unwish, r, q⟩
theorem PE.nox {e : Expr} {t : TE} (h : PE X.nox e t) : PE X e t := fun pins s σ H Q I hw =>
  wpAny_mono (h pins s σ H Q (I.wish _) hw) (fun _ _ ⟨v, H', I', r, q⟩ => ⟨v, H', I'.unwish, r, q⟩) fun _ _ z => False.elim z
theorem PT.nox {e : Expr} {t : TT} (h : PT X.nox e t) : PT X e t := fun pins s σ H Q I hw =>
  wpAny_mono (h pins s σ H Q (I.wish _) hw) (fun _ _ ⟨H', I', q⟩ => ⟨H', I'.unwish, q⟩) fun _ _ z => False.elim z
theorem PSs.nox {st : List Stmt} {t : TS} (h : PSs X.nox st t) : PSs X st t := fun pins s σ H D I hw =>
  wpAny_mono (h pins s σ H D (I.wish _) hw) (fun _ _ q => q.unwish) fun _ _ z => False.elim z
end

/-! ### blocks and small statements -/
section
variable {X : Cx} {st : Stmt} {rest : List Stmt} {t u : TS} {e : Expr} {te : TE} {pos : Pos}
def tNext : TS := fun D σ H => D.nx σ H
def tSeq (t u : TS) : TS := fun D σ H => t { D with nx := u D } σ H
theorem pss_nil : PSs X [] tNext := fun _ _ σ H _ I h => wpAny_execs_nil ⟨σ, H, I, h⟩
theorem pss_cons (h1 : PS X st t) (h2 : PSs X rest u) : PSs X (st :: rest) (tSeq t u) := by
  intro pins s σ H D I h
  refine wpAny_execs_cons (thn (h1 pins s σ H { D with nx := u D } I h) fun f s1 q => ?_)
  cases f with
  | next =>
    obtain ⟨σ', H', I', q⟩ := q
    exact h2 pins s1 σ' H' D I' q
  | ret v => exact q
  | brk => exact q
  | cont => exact q
theorem pss_one (h1 : PS X st t) : PSs X [st] t := by
  intro pins s σ H D I h
  refine wpAny_execs_cons (thn (h1 pins s σ H D I h) fun f s1 q => ?_)
  cases f with
  | next => exact wpAny_execs_nil q
  | ret v => exact q
  | brk => exact q
  | cont => exact q
def tBreak : TS := fun D σ H => D.bk σ H
def tCont : TS := fun D σ H => D.ct σ H
theorem ps_pass : PS X (.Pass pos) tNext := fun _ _ σ H _ I h => wpAny_Pass ⟨σ, H, I, h⟩
theorem ps_break : PS X (.Break pos) tBreak := fun _ _ σ H _ I h => wpAny_Break ⟨σ, H, I, h⟩
theorem ps_continue : PS X (.Continue pos) tCont := fun _ _ σ H _ I h => wpAny_Continue ⟨σ, H, I, h⟩
/-- in a def's body nothing is shown -/
theorem Inv.quiet {pins : List (Addr × Obj)} {σ : St} {H : Hp} {s : Shared} (I : Inv X pins σ H s) : interactive X.env = false := by simp [interactive, I.ok.kind]
/-- a docstring -/
theorem ps_doc {x j pos pos'} : PS X (.Expr (.Constant (.str x) j pos) pos') tNext := fun _ s σ H _ I h => wpAny_Expr (Calls.Constant_str (show SP X _ _ .next { s with toks := s.toks + 1 } from ⟨σ, H, I.tok _, h⟩)) I.quiet
/-- an expression whose value is dropped -/
def tDrop (te : TE) : TS := fun D σ H => te σ H fun _ H1 => D.nx σ H1
theorem ps_expr (he : PE X e te) (hs : swapsWith e none pos.line X.env = pure false := by rfl) : PS X (.Expr e pos) (tDrop te) := by
  intro pins s σ H D I h
  exact wpAny_Expr_any (thn (he pins s σ H _ I h) fun v s1 ⟨x, H1, I1, r1, q1⟩ => ⟨σ, H1, I1, q1⟩) I.quiet hs
def tRet (te : TE) : TS := fun D σ H => te σ H D.rt
theorem ps_ret (he : PE X e te) : PS X (.Return (some e) pos) (tRet te) := by
  intro pins s σ H D I h
  exact wpAny_Return_some (thn (he pins s σ H _ I h) fun v s1 ⟨x, H1, I1, r1, q1⟩ => ⟨x, σ, H1, I1, r1, q1⟩)
def tRetN : TS := fun D _ H => D.rt .non H
theorem ps_retN : PS X (.Return none pos) tRetN := fun _ _ σ H _ I h => wpAny_Return_none ⟨.non, σ, H, I, rfl, h⟩
def tIfS (c : TT) (t u : TS) : TS := fun D σ H => c σ H fun b H1 => if b = true then t D σ H1 else u D σ H1
theorem ps_if {c : Expr} {a b : List Stmt} {tc : TT} (hc : PT X c tc) (ha : PSs X a t) (hb : PSs X b u) : PS X (.If c a b pos) (tIfS tc t u) := by
  intro pins s σ H D I h
  refine wpAny_If (thn (hc pins s σ H _ I h) fun d s1 ⟨H1, I1, q1⟩ => ?_)
  cases d with
  | true => exact ha pins s1 σ H1 D I1 q1
  | false => exact hb pins s1 σ H1 D I1 q1
/-- code that the proof never comes to -/
def tNever : TS := fun _ _ _ => False
theorem ps_never : PS X st tNever := fun _ _ _ _ _ _ h => h.elim
theorem pss_never {sts : List Stmt} : PSs X sts tNever := fun _ _ _ _ _ _ h => h.elim
end

/-! ### targets -/
abbrev TG := V → St → Hp → (St → Hp → Prop) → Prop
abbrev TGs := List V → St → Hp → (St → Hp → Prop) → Prop
def PG (X : Cx) (target : Expr) (t : TG) : Prop :=
  ∀ (pins : List (Addr × Obj)) (s : Shared) (σ : St) (H : Hp) (v : V) (u : Value) (Q : St → Hp → Prop), Inv X pins σ H s → RelV v u → t v σ H Q →
    wpAny (model X.prog X.w) X.A (assign target X.env u) (fun _ s' => ∃ σ' H', Inv X pins σ' H' s' ∧ Q σ' H') X.xe s
/-- several targets, one after another -/
def PGs (X : Cx) (ts : List Expr) (t : TGs) : Prop :=
  ∀ (pins : List (Addr × Obj)) (s : Shared) (σ : St) (H : Hp) (vs : List V) (us : List Value) (Q : St → Hp → Prop), Inv X pins σ H s → Vals vs us → t vs σ H Q →
    wpAny (model X.prog X.w) X.A (assignInOrder ((assignEach ts X.env).map (·.2)) us) (fun _ s' => ∃ σ' H', Inv X pins σ' H' s' ∧ Q σ' H') X.xe s
/-- o[i] = v, by values -/
abbrev TSet := V → V → V → Hp → (Hp → Prop) → Prop
def PSet (X : Cx) (t : TSet) : Prop :=
  ∀ (pins : List (Addr × Obj)) (s : Shared) (σ : St) (H : Hp) (o i v : V) (ov iv u : Value) (Q : Hp → Prop), Inv X pins σ H s → RelV o ov → RelV i iv → RelV v u → t o i v H Q →
    wpAny (model X.prog X.w) X.A (setItem ov iv u) (fun _ s' => ∃ H', Inv X pins σ H' s' ∧ Q H') X.xe s
/-- a op= b, by values -/
abbrev TIp := V → V → Hp → VK → Prop
def PIp (X : Cx) (op : Operator) (t : TIp) : Prop :=
  ∀ (pins : List (Addr × Obj)) (s : Shared) (σ : St) (H : Hp) (x y : V) (v u : Value) (Q : VK), Inv X pins σ H s → RelV x v → RelV y u → t x y H Q →
    wpAny (model X.prog X.w) X.A (inplaceOp op v u) (EP X pins σ Q) X.xe s
section
variable {X : Cx} {pos : Pos}
def gName (i : Nat) : TG := fun v σ H Q => Q (σ.set i (some v)) H
theorem pg_name {i : Nat} {x : Str} (hN : X.N.Nodup) (hi : X.N[i]? = some x) (hx : Loc X.env.scope x) (hf : X.fn x = true ∨ X.env.scope.names.lookup x = some .local := by first | exact .inl rfl | exact .inr rfl | assumption) : PG X (.Name x pos) (gName i) := by
  intro pins s σ H v u Q I r h
  exact wpAny_assign_Name (store_ok I hN hi hx r (fun s' I' => ⟨_, H, I', h⟩) hf)
def gNil : TGs := fun vs σ H Q => vs = [] ∧ Q σ H
def gCons (t : TG) (u : TGs) : TGs := fun vs σ H Q => ∃ v r, vs = v :: r ∧ t v σ H fun σ' H' => u r σ' H' Q
theorem pgs_nil : PGs X [] gNil := by
  intro pins s σ H vs us Q I r h
  obtain ⟨e, h⟩ := h
  subst e
  cases r
  exact assignInOrder_nil ⟨σ, H, I, h⟩
theorem pgs_cons {e : Expr} {es : List Expr} {t : TG} {u : TGs} (h1 : PG X e t) (h2 : PGs X es u)
    (hs : (assignEach (e :: es) X.env).map (·.2) = assign e X.env :: (assignEach es X.env).map (·.2) := by rfl) : PGs X (e :: es) (gCons t u) := by
  intro pins s σ H vs us Q I r h
  obtain ⟨v, vr, e1, h⟩ := h
  subst e1
  cases r with
  | cons r rr =>
    rw [hs]
    refine assignInOrder_cons (thn (h1 pins s σ H _ _ _ I r h) fun _ s1 ⟨σ1, H1, I1, q1⟩ => ?_)
    exact h2 pins s1 σ1 H1 _ _ Q I1 rr q1
/-- (a, b, ..) = a tuple of that length -/
def gTup (K : PySem.W.Frag) (n : Nat) (t : TGs) : TG := fun v σ H Q => ∃ a xs, v = .ref a ∧ SqT K H a xs ∧ xs.length = n ∧ t xs σ H Q
theorem pg_tup {es : List Expr} {k : Nat} {t : TGs} {n : Nat} (hc : X.calm = true) (h : PGs X es t)
    (hn : (assignEach es X.env).length = n := by rfl) (hst : (assignEach es X.env).findIdx? (·.1) = none := by rfl) : PG X (.Tuple es k pos) (gTup X.K n t) := by
  intro pins s σ H v u Q I r hw
  obtain ⟨a, xs, e1, hq, hl, hw⟩ := hw
  subst e1
  cases r
  obtain ⟨its, rv, ht, hz⟩ := I.tuple hq
  refine assign_Tuple_tuple (I.ok.hd hc) ht (by simp [hn, ← hl, rv.length]) hst fun h' hx => ?_
  have I1 : Inv X pins σ H { s with heap := h' } := I.kept (t' := s.toks) fun b o e => hx b o (Nat.ne_of_lt (Heap.lt_size e)) e
  exact h pins _ σ H xs _ Q I1 (by simpa using rv) hw
/-- o[i] = .. -/
def gSub (to ti : TE) (t : TSet) : TG := fun v σ H Q => to σ H fun o H1 => ti σ H1 fun i H2 => t o i v H2 fun H3 => Q σ H3
theorem pg_sub {o i : Expr} {to ti : TE} {t : TSet} (ho : PE X o to) (hi : PE X i ti) (hs : PSet X t)
    (ha : ∀ v, assign (.Subscript o i pos) X.env v = (do
      let ov ← holding [v] (eval o X.env)
      let iv ← holding [v, ov] (eval i X.env)
      standAt pos
      holding [v, ov, iv] (setItem ov iv v)
      release [v, ov, iv] []) := by intro _; rfl) : PG X (.Subscript o i pos) (gSub to ti t) := by
  intro pins s σ H v u Q I r h
  rw [ha]
  refine wpAny_bind (wpAny_holding (thn (ho pins s σ H _ I h) fun ov s1 ⟨x, H1, I1, r1, q1⟩ => ?_))
  refine wpAny_bind (wpAny_holding (thn (hi pins s1 σ H1 _ I1 q1) fun iv s2 ⟨y, H2, I2, r2, q2⟩ => ?_))
  refine wpAny_bind (wpAny_standAt (wpAny_bind (wpAny_holding (thn (hs pins s2 σ H2 x y v ov iv u _ I2 r1 r2 r q2) fun _ s3 ⟨H3, I3, q3⟩ => ?_))))
  exact wpAny_release ⟨σ, H3, I3, q3⟩
/-- target = value -/
def tAsg (te : TE) (g : TG) : TS := fun D σ H => te σ H fun x H1 => g x σ H1 D.nx
theorem ps_asg {tg e : Expr} {te : TE} {g : TG} (he : PE X e te) (hg : PG X tg g) (hs : swapsWithSole [tg] e pos.line X.env = pure false := by rfl) (hw : swappedStores [tg] e X.env = pure none := by rfl)
    (h1 : (assignEach [tg] X.env).map (·.2) = [assign tg X.env] := by rfl) : PS X (.Assign [tg] e pos) (tAsg te g) := by
  intro pins s σ H D I h
  refine wpAny_Assign_stores (thn (he pins s σ H _ I h) fun v s1 ⟨x, H1, I1, r1, q1⟩ => ?_) hs hw
  rw [h1]
  exact thn (hg pins s1 σ H1 x v _ I1 r1 q1) fun _ s2 q => q
/-- name = value -/
theorem ps_set {i : Nat} {x : Str} {e : Expr} {te : TE} {pos' : Pos} (hN : X.N.Nodup) (hi : X.N[i]? = some x) (hx : Loc X.env.scope x) (he : PE X e te) (hs : swapsWith e (some (.Name x pos')) pos.line X.env = pure false := by rfl) (hf : X.fn x = true ∨ X.env.scope.names.lookup x = some .local := by first | exact .inl rfl | exact .inr rfl | assumption) :
    PS X (.Assign [.Name x pos'] e pos) (tAsg te (gName i)) := by
  intro pins s σ H D I h
  refine wpAny_Assign_Name (thn (he pins s σ H _ I h) fun v s1 ⟨y, H1, I1, r1, q1⟩ => ?_) hs
  exact store_ok I1 hN hi hx r1 (fun s2 I2 => ⟨_, H1, I2, q1⟩) hf
/-- a, b = x, y with plain local names: stored from the right; the pair itself is not tracked (the opening rows as in PyProof/Rows/TupAssign.lean:23) -/
def tPar (i j : Nat) (ta : TA) : TS := fun D σ H => ta σ H fun vs H1 => ∃ v w, vs = [v, w] ∧ D.nx ((σ.set i (some v)).set j (some w)) H1
theorem ps_par {i j : Nat} {x y : Str} {a b : Expr} {ta : TA} {px py pt : Pos} {kt k2 pt2} (hc : X.calm = true) (hN : X.N.Nodup) (hi : X.N[i]? = some x) (hj : X.N[j]? = some y) (hij : i ≠ j)
    (hx : X.env.scope.names.lookup x = some .local) (hy : X.env.scope.names.lookup y = some .local) (ha : PA X [a, b] ta)
    (hw : swappedStores [.Tuple [.Name x px, .Name y py] kt pt] (.Tuple [a, b] k2 pt2) X.env = pure (some [x, y]))
    (hs : swapsWithSole [.Tuple [.Name x px, .Name y py] kt pt] (.Tuple [a, b] k2 pt2) pos.line X.env = pure false := by rfl) :
    PS X (.Assign [.Tuple [.Name x px, .Name y py] kt pt] (.Tuple [a, b] k2 pt2) pos) (tPar i j ta) := by
  intro pins s σ H D I h
  rw [exec_Assign_arm]
  refine wpAny_bind (wpAny_standAt ?_)
  rw [hs]
  refine wpAny_bind (wpAny_pure ?_)
  rw [if_neg (by decide)]
  refine wpAny_bind (Tuple_ (thn (ha _ pins s σ H _ I h) fun us s1 ⟨vs, H1, I1, r1, q1⟩ => ?_))
  obtain ⟨v, w, e1, q1⟩ := q1
  subst e1
  obtain ⟨u1, u2, rfl, rv, rw'⟩ : ∃ u1 u2, us = [u1, u2] ∧ RelV v u1 ∧ RelV w u2 := by
    cases r1 with
    | cons p q =>
      cases q with
      | cons p' q' =>
        cases q'
        exact ⟨_, _, rfl, p, p'⟩
  refine wpAny_newObj_type ?_ (by show 2 ≤ sizeLine; decide)
  have I2 : Inv X pins σ H1 { s1 with heap := s1.heap.push { cls := .type "tuple", data := .seq [u1, u2].toArray } } := I1.kept (t' := s1.toks) fun b o e => Heap.get?_push_of_some _ e
  rw [hw]
  refine wpAny_bind (wpAny_pure ?_)
  show wpAny (model X.prog X.w) X.A (do rule "assign.swapped-stores"; let items ← unpackItems (.ref s1.heap.objs.size) 2 none; assignInOrder [fun v => bindName X.env y v, fun v => bindName X.env x v] items.reverse; pure Flow.next) _ _ _
  refine wpAny_bind (wpAny_rule (wpAny_bind (unpackItems_tuple (items := #[u1, u2]) (I.ok.hd hc) (IsTup.new s1.heap _) fun h' hx' => ?_)))
  have I3 := I2.kept (h' := h') (t' := s1.toks) fun b o e => hx' b o (Nat.ne_of_lt (Heap.lt_size e)) e
  show wpAny _ _ (assignInOrder [fun v => bindName X.env y v, fun v => bindName X.env x v] [u2, u1] >>= fun _ => pure Flow.next) _ _ _
  refine wpAny_bind (assignInOrder_cons (wpAny_bindName (store_ok I3 hN hj (.inl hy) rw' (fun s2 I4 => ?_) (.inr hy))))
  refine assignInOrder_cons (wpAny_bindName (store_ok I4 hN hi (.inl hx) rv (fun s3 I5 => assignInOrder_nil (wpAny_pure ?_)) (.inr hx)))
  rw [List.set_comm _ _ (Ne.symm hij)] at I5
  exact ⟨_, H1, I5, q1⟩
/-- name op= e -/
def tAug (i : Nat) (te : TE) (ti : TIp) : TS := fun D σ H => ∃ x, σ[i]? = some (some x) ∧ te σ H fun y H1 => ti x y H1 fun z H2 => D.nx (σ.set i (some z)) H2
theorem ps_aug {i : Nat} {x : Str} {e : Expr} {te : TE} {op : Operator} {ti : TIp} {pos' : Pos} (hN : X.N.Nodup) (hi : X.N[i]? = some x) (hx : Loc X.env.scope x) (he : PE X e te) (ho : PIp X op ti) (hf : X.fn x = true ∨ X.env.scope.names.lookup x = some .local := by first | exact .inl rfl | exact .inr rfl | assumption) :
    PS X (.AugAssign (.Name x pos') op e pos) (tAug i te ti) := by
  intro pins s σ H D I h
  obtain ⟨v, e1, h⟩ := h
  obtain ⟨m, hn, hl⟩ := I.loc
  have vis : Vis X.env.scope x := by rcases hx with k | k; exact .inl k; exact .inr (.inl k)
  obtain ⟨u, r, l⟩ := hl i x v hi e1 vis
  refine wpAny_AugAssign_Name ?_
  have go : wpAny (model X.prog X.w) X.A (eval e X.env) (fun w s₂ => wpAny (model X.prog X.w) X.A (inplaceOp op u w) (fun r s₃ => wpAny (model X.prog X.w) X.A (storeName X.env x r) (fun _ => SP X pins D .next) X.xe s₃) X.xe s₂) X.xe s := by
    refine thn (he pins s σ H _ I h) fun w s1 ⟨y, H1, I1, r1, q1⟩ => ?_
    refine thn (ho pins s1 σ H1 v y u w _ I1 r r1 q1) fun z s2 ⟨zv, H2, I2, r2, q2⟩ => ?_
    exact store_ok I2 hN hi hx r2 (fun s3 I3 => ⟨_, H2, I3, q2⟩) hf
  rcases l with ⟨hk, hm⟩ | ⟨hk, c, hc, hcell⟩
  · exact wpAny_loadName_local I.ok.kind hk hn hm go
  · rcases hk with hk | hk
    · exact wpAny_loadName_cell I.ok.kind hk hc hcell go
    · rcases hx with k | k
      · have : X.env.scope.names.lookup x = some .free := hk
        rw [k] at this; cases this
      · have : X.env.scope.names.lookup x = some .free := hk
        rw [k] at this; cases this
/-- o[i] op= e -/
def tAugS (to ti te : TE) (tget : V → V → Hp → VK → Prop) (tip : TIp) (tset : TSet) : TS := fun D σ H => to σ H fun o H1 => ti σ H1 fun i H2 => tget o i H2 fun x H3 => te σ H3 fun y H4 => tip x y H4 fun z H5 => tset o i z H5 fun H6 => D.nx σ H6
/-- o[i], by values -/
def PGet (X : Cx) (t : V → V → Hp → VK → Prop) : Prop :=
  ∀ (pins : List (Addr × Obj)) (s : Shared) (σ : St) (H : Hp) (o i : V) (ov iv : Value) (Q : VK), Inv X pins σ H s → RelV o ov → RelV i iv → t o i H Q →
    wpAny (model X.prog X.w) X.A (getItem ov iv) (EP X pins σ Q) X.xe s
theorem ps_augS {o i e : Expr} {to ti te : TE} {tget : V → V → Hp → VK → Prop} {tip : TIp} {tset : TSet} {op : Operator} {tpos : Pos} (ho : PE X o to) (hi : PE X i ti) (hg : PGet X tget) (he : PE X e te) (hp : PIp X op tip) (hs : PSet X tset)
    (ha : ∀ ov iv new, augStore i ov iv new = (do holding [new, ov, iv] (setItem ov iv new); release [new, ov, iv] []; pure .next) := by intros; rfl) : PS X (.AugAssign (.Subscript o i tpos) op e pos) (tAugS to ti te tget tip tset) := by
  intro pins s σ H D I h
  refine wpAny_AugAssign_SubscriptAny (thn (ho pins s σ H _ I h) fun ov s1 ⟨x1, H1, I1, r1, q1⟩ => ?_) ha
  refine thn (hi pins s1 σ H1 _ I1 q1) fun iv s2 ⟨x2, H2, I2, r2, q2⟩ => ?_
  refine thn (hg pins s2 σ H2 x1 x2 ov iv _ I2 r1 r2 q2) fun old s3 ⟨x3, H3, I3, r3, q3⟩ => ?_
  refine thn (he pins s3 σ H3 _ I3 q3) fun v s4 ⟨x4, H4, I4, r4, q4⟩ => ?_
  refine thn (hp pins s4 σ H4 x3 x4 old v _ I4 r3 r4 q4) fun new s5 ⟨x5, H5, I5, r5, q5⟩ => ?_
  exact thn (hs pins s5 σ H5 x1 x2 x5 ov iv new _ I5 r1 r2 r5 q5) fun _ s6 ⟨H6, I6, q6⟩ => ⟨σ, H6, I6, q6⟩
/-- ints -/
def ipI (f : Int → Int → Int) : TIp := fun x y H Q => ∃ i j, x = .int i ∧ y = .int j ∧ Q (.int (f i j)) H
theorem ip_add : PIp X .Add (ipI fun i j => i + j) := by
  intro pins s σ H x y v u Q I r1 r2 h
  obtain ⟨i, j, e1, e2, q⟩ := h
  subst e1; subst e2
  obtain ⟨t, rfl⟩ := r1
  obtain ⟨t', rfl⟩ := r2
  exact iadd_int ⟨.int _, H, I.tok _, ⟨_, rfl⟩, q⟩
theorem ip_sub : PIp X .Sub (ipI fun i j => i - j) := by
  intro pins s σ H x y v u Q I r1 r2 h
  obtain ⟨i, j, e1, e2, q⟩ := h
  subst e1; subst e2
  obtain ⟨t, rfl⟩ := r1
  obtain ⟨t', rfl⟩ := r2
  exact isub_int ⟨.int _, H, I.tok _, ⟨_, rfl⟩, q⟩
end

/-! ### while -/
section
variable {X : Cx} {pos : Pos}
/-- the invariant W with its measure -/
def tWhile (c : TT) (tb : TS) : TS := fun D σ H => ∃ W : Nat → St → Hp → Prop, (∃ m, W m σ H) ∧ ∀ m σ H, W m σ H →
  c σ H fun b H1 => if b = true then ∃ N : St → Hp → Prop, (∀ σ' H', N σ' H' → ∃ m', m' < m ∧ W m' σ' H') ∧ tb { D with nx := N, ct := N, bk := D.nx } σ H1 else D.nx σ H1
theorem ps_while {c : Expr} {body : List Stmt} {tc : TT} {tb : TS} (hp : PassesOwn (model X.prog X.w) X.A X.env X.xe) (hc : PT X c tc) (hb : PSs X body tb) : PS X (.While c body [] pos) (tWhile tc tb) := by
  intro pins s σ H D I h
  obtain ⟨W, ⟨m0, w0⟩, turn⟩ := h
  refine wpAny_While (codeAny_whileLoop (fun n s' => ∃ σ' H', Inv X pins σ' H' s' ∧ W n σ' H') ?_ m0 ⟨σ, H, I, w0⟩)
  rintro n s1 ⟨σ1, H1, I1, w1⟩
  refine wpAny_passesOwn hp (thn (hc pins s1 σ1 H1 _ I1 (turn n σ1 H1 w1)) fun b s2 ⟨H2, I2, q2⟩ => ?_)
  cases b with
  | true =>
    obtain ⟨N, hN, q2⟩ := q2
    rw [if_pos rfl]
    refine wpAny_passesOwn hp (thn (hb pins s2 σ1 H2 _ I2 q2) fun f s3 q3 => ?_)
    cases f with
    | next =>
      obtain ⟨σ3, H3, I3, n3⟩ := q3
      obtain ⟨m', hm, w3⟩ := hN σ3 H3 n3
      exact ⟨m', hm, σ3, H3, I3, w3⟩
    | cont =>
      obtain ⟨σ3, H3, I3, n3⟩ := q3
      obtain ⟨m', hm, w3⟩ := hN σ3 H3 n3
      exact ⟨m', hm, σ3, H3, I3, w3⟩
    | brk => exact q3
    | ret v => exact q3
  | false =>
    rw [if_neg Bool.false_ne_true]
    exact wpAny_execs_nil ⟨σ1, H2, I2, q2⟩
end

/-! ### what a loop or a comprehension walks -/
/-- at turn i: it yields x (the heap may grow), or it stops -/
structure It where
  go : Nat → Hp → Prop
  yld : Nat → Hp → V → Hp → Prop
  stop : Nat → Hp → Prop
/-- the iterator's own objects may turn: they are not the frame's, not pinned, younger than the entry (or a comprehension's own) -/
def FpOk (X : Cx) (pins : List (Addr × Obj)) (H : Hp) (b : Addr) : Prop :=
  H b = none ∧ b ≠ X.env.locals ∧ b ∉ X.fs ∧ (b ∈ X.ex ∨ X.s₀.heap.objs.size ≤ b) ∧ (∀ x c, X.env.cells.lookup x = some c → c ≠ b) ∧ ∀ p ∈ X.pn ++ pins, p.1 ≠ b
theorem Inv.fpOk {X : Cx} {pins : List (Addr × Obj)} {σ : St} {H H' : Hp} {s : Shared} {b : Addr} (I : Inv X pins σ H s) (hb : s.heap.objs.size ≤ b) (hn : H' b = none) : FpOk X pins H' b := by
  refine ⟨hn, Nat.ne_of_gt (Nat.lt_of_lt_of_le I.lt hb), I.nofs hb, .inr (Nat.le_trans I.sz hb), fun x c e z => ?_, fun p hp z => ?_⟩
  · obtain ⟨v, q⟩ := I.cell x c e
    exact absurd (Nat.lt_of_lt_of_le q.lt (by rw [z]; exact hb)) (Nat.lt_irrefl _)
  · exact absurd (Nat.lt_of_lt_of_le (Heap.lt_size (I.pin p hp).1) (by rw [z]; exact hb)) (Nat.lt_irrefl _)
structure Turn (P : Program) (w : World) (K : PySem.W.Frag) (tg : Expr) (J : It) (fp : List Addr) (it : Addr) (tn : Nat → Heap → Prop) : Prop where
  mem : it ∈ fp
  obj : ∀ i h, tn i h → ∀ b ∈ fp, ∃ o, h.get? b = some o ∧ ∀ v, o.data ≠ .cell v
  keep : ∀ i h h', tn i h → (∀ b ∈ fp, ∀ o, h.get? b = some o → h'.get? b = some o) → tn i h'
  item : ∀ (X : Cx), X.prog = P → X.w = w → X.K = K → X.calm = true → ∀ (i : Nat) (pins : List (Addr × Obj)) (s : Shared) (σ : St) (H : Hp) (E : Value → Shared → Prop), Inv X pins σ H s → (∀ b ∈ fp, FpOk X pins H b) → tn i s.heap → J.go i H →
    wpAny (model P w) X.A (pyNext (.ref it)) (fun r s1 => ∃ u, r = some u ∧
      wpAny (model P w) X.A (letOwnedTupleGo tg (.ref it) u) (fun _ s2 => ∃ x H', Inv X pins σ H' s2 ∧ RelV x u ∧ J.yld i H x H' ∧ tn (i + 1) s2.heap ∧ ∀ b ∈ fp, H' b = none) E s1) E s
  done : ∀ (X : Cx), X.prog = P → X.w = w → X.K = K → X.calm = true → ∀ (i : Nat) (pins : List (Addr × Obj)) (s : Shared) (σ : St) (H : Hp) (E : Value → Shared → Prop), Inv X pins σ H s → (∀ b ∈ fp, FpOk X pins H b) → tn i s.heap → J.stop i H →
    wpAny (model P w) X.A (pyNext (.ref it)) (fun r s1 => r = none ∧ Inv X pins σ H s1) E s
  self : ∀ (A : Around) (i : Nat) (s : Shared) (Q : Value → Shared → Prop) (E : Value → Shared → Prop), tn i s.heap → Q (.ref it) s → wpAny (model P w) A (pyIter (.ref it)) Q E s
abbrev TI := St → Hp → (It → Hp → Prop) → Prop
/-- an iterator has come -/
def PIE (X : Cx) (pins : List (Addr × Obj)) (σ : St) (tg : Expr) (R : It → Hp → Prop) (itv : Value) (s2 : Shared) : Prop :=
  ∃ (it : Addr) (fp : List Addr) (tn : Nat → Heap → Prop) (J : It) (H' : Hp), itv = .ref it ∧ Inv X pins σ H' s2 ∧ Turn X.prog X.w X.K tg J fp it tn ∧ tn 0 s2.heap ∧ (∀ b ∈ fp, FpOk X pins H' b) ∧ R J H'
def PI (X : Cx) (tg iter : Expr) (wi : TI) : Prop :=
  ∀ (pins : List (Addr × Obj)) (s : Shared) (σ : St) (H : Hp) (R : It → Hp → Prop), Inv X pins σ H s → wi σ H R →
    wpAny (model X.prog X.w) X.A (eval iter X.env) (fun v s1 => wpAny (model X.prog X.w) X.A (pyIter v) (PIE X pins σ tg R) X.xe s1) X.xe s

/-- the step ahead of the store is nothing for an iterator that keeps no tuple -/
theorem go_of {M : Model} {A : Around} {E : Value → Shared → Prop} {s : Shared} {tg : Expr} {it : Addr} {u : Value} {o : Obj} {n : String} {vs : Array Value} {Q : Unit → Shared → Prop} (ho : s.heap.get? it = some o) (hc : o.cls = .type n) (hd : o.data = .fields vs)
    (hn : ["enumerate", "zip", "dict_itemiterator", "dict_reverseitemiterator", "odict_iterator", "itertools.zip_longest", "itertools.pairwise"].contains n = false) (hQ : Q () s) : wpAny M A (letOwnedTupleGo tg (.ref it) u) Q E s := by
  unfold letOwnedTupleGo
  cases tg <;> first
    | exact wpAny_pure hQ
    | (cases u <;> first
        | exact wpAny_pure hQ
        | (refine wpAny_bind (wpAny_load ho ?_)
           rw [hc, hd]
           show wpAny M A (if (["enumerate", "zip", "dict_itemiterator", "dict_reverseitemiterator", "odict_iterator", "itertools.zip_longest", "itertools.pairwise"].contains n && vs[0]? == some (rawInt _)) = true then _ else _) Q E s
           rw [if_neg (by intro h; rw [hn, Bool.false_and] at h; cases h)]
           exact wpAny_pure hQ))

/-- the list at a, as it stands at each turn (a loop may append to it) -/
def Itl (K : PySem.W.Frag) (a : Addr) : It :=
  ⟨fun i H => ∃ xs x, SqL K H a xs ∧ xs[i]? = some x, fun i H x H' => H' = H ∧ ∀ xs, SqL K H a xs → xs[i]? = some x, fun i H => ∃ xs, SqL K H a xs ∧ xs.length ≤ i⟩
def Itt (K : PySem.W.Frag) (a : Addr) : It :=
  ⟨fun i H => ∃ xs x, SqT K H a xs ∧ xs[i]? = some x, fun i H x H' => H' = H ∧ ∀ xs, SqT K H a xs → xs[i]? = some x, fun i H => ∃ xs, SqT K H a xs ∧ xs.length ≤ i⟩
/-- lo, lo + 1, .. (n of them) -/
def Itr (lo : Int) (n : Nat) : It := ⟨fun i _ => i < n, fun i H x H' => H' = H ∧ x = .int (lo + i), fun i _ => n ≤ i⟩
theorem turn_list {P : Program} {w : World} {K : PySem.W.Frag} {tg : Expr} (a it : Addr) : Turn P w K tg (Itl K a) [it] it (fun i h => h.IsListIter it a i) where
  mem := by simp
  obj := fun i h st b hb => by
    have e : b = it := by simpa using hb
    subst e
    obtain ⟨o, e, c, d⟩ := st
    exact ⟨o, e, fun v z => by rw [d] at z; cases z⟩
  keep := fun i h h' st k => st.at fun o e => k it (by simp) o e
  item := by
    intro X hP hw hK hc i pins s σ H E I hf st hg
    subst hP hw hK
    obtain ⟨xs, x, hq, hx⟩ := hg
    obtain ⟨its, rv, p, hz⟩ := I.list hq
    obtain ⟨u, hu, ru⟩ := rv.get hx
    obtain ⟨f0, f1, f2, f3, f4, f5⟩ := hf it (by simp)
    refine wpAny_pyNext_list_item st p.isList (x := u) (by simpa using hu) fun h' st' sb => ?_
    have I1 : Inv X pins σ H { s with heap := h' } := I.turned (t' := s.toks) (fun b o hb e => (sb.2 b hb).trans e) f0 f1 f3 f4 f5
    obtain ⟨o, e, c, d⟩ := id st'
    exact ⟨u, rfl, go_of (s := { s with heap := h' }) e c d (by decide) ⟨x, H, I1, ru, ⟨rfl, fun ys hy => by rw [I.list_inj hy hq]; exact hx⟩, st', fun b hb => (hf b hb).1⟩⟩
  done := by
    intro X hP hw hK hc i pins s σ H E I hf st hg
    subst hP hw hK
    obtain ⟨xs, hq, hx⟩ := hg
    obtain ⟨its, rv, p, hz⟩ := I.list hq
    obtain ⟨f0, f1, f2, f3, f4, f5⟩ := hf it (by simp)
    have hl := rv.length
    exact wpAny_pyNext_list_end (I.ok.hd hc) st p.isList (by simp; omega) fun h' eb => ⟨rfl, I.turned (t' := s.toks) (fun b o hb e => eb b o hb e) f0 f1 f3 f4 f5⟩
  self := fun _ _ _ _ _ st h => wpAny_pyIter_listiter st h
theorem turn_tuple {P : Program} {w : World} {K : PySem.W.Frag} {tg : Expr} (a it : Addr) : Turn P w K tg (Itt K a) [it] it (fun i h => h.IsTupleIter it a i) where
  mem := by simp
  obj := fun i h st b hb => by
    have e : b = it := by simpa using hb
    subst e
    obtain ⟨o, e, c, d⟩ := st
    exact ⟨o, e, fun v z => by rw [d] at z; cases z⟩
  keep := fun i h h' st k => st.at fun o e => k it (by simp) o e
  item := by
    intro X hP hw hK hc i pins s σ H E I hf st hg
    subst hP hw hK
    obtain ⟨xs, x, hq, hx⟩ := hg
    obtain ⟨its, rv, p, hz⟩ := I.tuple hq
    obtain ⟨u, hu, ru⟩ := rv.get hx
    obtain ⟨f0, f1, f2, f3, f4, f5⟩ := hf it (by simp)
    refine wpAny_pyNext_tuple_item st (show s.heap.IsTuple a its.toArray from p) (x := u) (by simpa using hu) fun h' st' sb => ?_
    have I1 : Inv X pins σ H { s with heap := h' } := I.turned (t' := s.toks) (fun b o hb e => (sb.2 b hb).trans e) f0 f1 f3 f4 f5
    obtain ⟨o, e, c, d⟩ := id st'
    exact ⟨u, rfl, go_of (s := { s with heap := h' }) e c d (by decide) ⟨x, H, I1, ru, ⟨rfl, fun ys hy => by rw [I.tuple_inj hy hq]; exact hx⟩, st', fun b hb => (hf b hb).1⟩⟩
  done := by
    intro X hP hw hK hc i pins s σ H E I hf st hg
    subst hP hw hK
    obtain ⟨xs, hq, hx⟩ := hg
    obtain ⟨its, rv, p, hz⟩ := I.tuple hq
    obtain ⟨f0, f1, f2, f3, f4, f5⟩ := hf it (by simp)
    have hl := rv.length
    exact wpAny_pyNext_tuple_end (I.ok.hd hc) st (show s.heap.IsTuple a its.toArray from p) (by simp; omega) fun h' eb => ⟨rfl, I.turned (t' := s.toks) (fun b o hb e => eb b o hb e) f0 f1 f3 f4 f5⟩
  self := fun _ _ _ _ _ st h => wpAny_pyIter_tupleiter st h
theorem turn_range {P : Program} {w : World} {K : PySem.W.Frag} {tg : Expr} (it : Addr) (lo : Int) (n : Nat) : Turn P w K tg (Itr lo n) [it] it (fun i h => IsRangeIter h it (lo + (i : Nat) * 1) ((n : Int) - (i : Nat)) 1) where
  mem := by simp
  obj := fun i h st b hb => by
    have e : b = it := by simpa using hb
    subst e
    exact ⟨_, st, fun v z => by
      have z' : Data.fields _ = Data.cell v := z
      cases z'⟩
  keep := fun i h h' st k => k it (by simp) _ st
  item := by
    intro X hP hw hK hc i pins s σ H E I hf st hg
    subst hP hw hK
    obtain ⟨f0, f1, f2, f3, f4, f5⟩ := hf it (by simp)
    have W := Walks.range (prog := X.prog) (w := X.w) (I.ok.hd hc) it lo 1 n
    refine W.item i s _ _ hg st fun v h' tk hv st' kk => ?_
    obtain ⟨t, rfl⟩ := hv
    have I1 : Inv X pins σ H { s with heap := h', toks := tk } := I.turned (fun b o hb e => kk b o (by simpa using hb) e) f0 f1 f3 f4 f5
    refine ⟨_, rfl, go_of (s := { s with heap := h', toks := tk }) (n := "range_iterator") st' rfl rfl (by decide) ⟨.int (lo + i), H, I1, ⟨t, ?_⟩, ⟨rfl, rfl⟩, st', fun b hb => (hf b hb).1⟩⟩
    rw [Int.mul_one]
  done := by
    intro X hP hw hK hc i pins s σ H E I hf st hg
    subst hP hw hK
    obtain ⟨f0, f1, f2, f3, f4, f5⟩ := hf it (by simp)
    exact wpAny_pyNext_range_end (I.ok.hd hc) st (by have : n ≤ i := hg; omega) fun h' eb => ⟨rfl, I.turned (t' := s.toks) (fun b o hb e => eb b o hb e) f0 f1 f3 f4 f5⟩
  self := fun _ _ _ _ _ st h => wpAny_pyIter_rangeiter st h
end L2

namespace L2
open PySem PySem.Spec PyProof.Rows
section
variable {X : Cx} {tg : Expr}
def iList (K : PySem.W.Frag) (tl : TE) : TI := fun σ H R => tl σ H fun x H1 => ∃ a, x = .ref a ∧ (∃ xs, SqL K H1 a xs) ∧ R (Itl K a) H1
def iTup (K : PySem.W.Frag) (tl : TE) : TI := fun σ H R => tl σ H fun x H1 => ∃ a, x = .ref a ∧ (∃ xs, SqT K H1 a xs) ∧ R (Itt K a) H1
theorem pi_list {l : Expr} {tl : TE} (hl : PE X l tl) : PI X tg l (iList X.K tl) := by
  intro pins s σ H R I h
  refine thn (hl pins s σ H _ I h) fun v s1 ⟨x, H1, I1, r1, q1⟩ => ?_
  obtain ⟨a, e, ⟨xs, hq⟩, q⟩ := q1
  subst e
  cases r1
  obtain ⟨its, rv, p, hz⟩ := I1.list hq
  refine wpAny_pyIter_list p.isList ?_
  refine ⟨s1.heap.objs.size, [s1.heap.objs.size], _, _, H1, rfl, I1.kept (t' := s1.toks) fun b o e => Heap.get?_push_of_some _ e, turn_list a _, ⟨_, Heap.get?_push_size _ rfl, rfl, rfl⟩, fun b hb => ?_, q⟩
  have e : b = s1.heap.objs.size := by simpa using hb
  subst e
  exact I1.fpOk (Nat.le_refl _) (I1.hok.fresh (Nat.le_refl _))
theorem pi_tup {l : Expr} {tl : TE} (hl : PE X l tl) : PI X tg l (iTup X.K tl) := by
  intro pins s σ H R I h
  refine thn (hl pins s σ H _ I h) fun v s1 ⟨x, H1, I1, r1, q1⟩ => ?_
  obtain ⟨a, e, ⟨xs, hq⟩, q⟩ := q1
  subst e
  cases r1
  obtain ⟨its, rv, p, hz⟩ := I1.tuple hq
  refine wpAny_pyIter_tuple (show s1.heap.IsTuple a its.toArray from p) ?_
  refine ⟨s1.heap.objs.size, [s1.heap.objs.size], _, _, H1, rfl, I1.kept (t' := s1.toks) fun b o e => Heap.get?_push_of_some _ e, turn_tuple a _, ⟨_, Heap.get?_push_size _ rfl, rfl, rfl⟩, fun b hb => ?_, q⟩
  have e : b = s1.heap.objs.size := by simpa using hb
  subst e
  exact I1.fpOk (Nat.le_refl _) (I1.hok.fresh (Nat.le_refl _))
/-- a range object just made, walked -/
theorem range_it {pins : List (Addr × Obj)} {σ : St} {H : Hp} {s : Shared} {R : It → Hp → Prop} {E : Value → Shared → Prop} {lo hi : Int} {t u v : Tok} {tk : Nat} (I : Inv X pins σ H s) (h1 : -(2 ^ 62) ≤ lo) (h2 : lo < 2 ^ 62) (h3 : -(2 ^ 62) ≤ hi) (h4 : hi < 2 ^ 62)
    (q : R (Itr lo (hi - lo).toNat) H) : wpAny (model X.prog X.w) X.A (pyIter (.ref s.heap.objs.size)) (PIE X pins σ tg R) E { s with heap := s.heap.push { cls := .type "range", data := .fields #[.int lo t, .int hi u, .int 1 v] }, toks := tk } := by
  refine wpAny_pyIter_range (IsRange.new ..) (small_one h1 h2 h3 h4) ?_
  have I1 : Inv X pins σ H { s with heap := s.heap.push { cls := .type "range", data := .fields #[.int lo t, .int hi u, .int 1 v] }, toks := tk } := I.kept fun b o e => Heap.get?_push_of_some _ e
  refine ⟨(s.heap.push { cls := .type "range", data := .fields #[.int lo t, .int hi u, .int 1 v] }).objs.size, [(s.heap.push { cls := .type "range", data := .fields #[.int lo t, .int hi u, .int 1 v] }).objs.size], _, _, H, rfl,
    I1.kept (t' := tk) fun b o e => Heap.get?_push_of_some _ e, turn_range _ lo (hi - lo).toNat, ?_, fun b hb => ?_, q⟩
  · have e1 : lo + ((0 : Nat) : Int) * 1 = lo := by simp
    have e2 : (((hi - lo).toNat : Nat) : Int) - ((0 : Nat) : Int) = Builtin.Range.rangeSize lo hi 1 := by rw [rangeSize_one]; split <;> omega
    show IsRangeIter _ _ (lo + ((0 : Nat) : Int) * 1) ((((hi - lo).toNat : Nat) : Int) - ((0 : Nat) : Int)) 1
    rw [e1, e2]
    exact Heap.get?_push_size _ rfl
  · have e : b = (s.heap.push { cls := .type "range", data := .fields #[.int lo t, .int hi u, .int 1 v] }).objs.size := by simpa using hb
    subst e
    exact I1.fpOk (Nat.le_refl _) (I1.hok.fresh (Nat.le_refl _))
def iRng1 (ta : TA) : TI := fun σ H R => ta σ H fun vs H1 => ∃ j : Int, vs = [.int j] ∧ -(2 ^ 62) ≤ j ∧ j < 2 ^ 62 ∧ R (Itr 0 j.toNat) H1
def iRng2 (ta : TA) : TI := fun σ H R => ta σ H fun vs H1 => ∃ i j : Int, vs = [.int i, .int j] ∧ (-(2 ^ 62) ≤ i ∧ i < 2 ^ 62 ∧ -(2 ^ 62) ≤ j ∧ j < 2 ^ 62) ∧ R (Itr i (j - i).toNat) H1
theorem pi_range1 {a : Expr} {ta : TA} {p pos : Pos} (hg : Gl X "range") (hm : X.mg "range" = none) (ha : PA X [a] ta) (hs : starEach [a] X.env = [(false, eval a X.env)] := by rfl) : PI X tg (.Call (.Name "range" p) [a] [] pos) (iRng1 ta) := by
  intro pins s σ H R I h
  refine Call_ (ld_blt I hg hm boot_range (PyProof.Rows.callWith_type1 (thn (ha pos pins s σ H _ I h) fun us s1 ⟨vs, H1, I1, r1, q1⟩ => ?_) hs rfl))
  obtain ⟨j, e, q1, q2, q⟩ := q1
  subst e
  cases r1 with
  | cons r rr =>
    cases rr
    obtain ⟨t, rfl⟩ := r
    exact call_range_1 (range_it I1 (by omega) (by omega) q1 q2 (by simpa using q))
theorem pi_range2 {a b : Expr} {ta : TA} {p pos : Pos} (hg : Gl X "range") (hm : X.mg "range" = none) (ha : PA X [a, b] ta) (hs : starEach [a, b] X.env = [(false, eval a X.env), (false, eval b X.env)] := by rfl) (hs2 : starEach [b] X.env = [(false, eval b X.env)] := by rfl) :
    PI X tg (.Call (.Name "range" p) [a, b] [] pos) (iRng2 ta) := by
  intro pins s σ H R I h
  refine Call_ (ld_blt I hg hm boot_range (PyProof.Rows.callWith_type1 (thn (ha pos pins s σ H _ I h) fun us s1 ⟨vs, H1, I1, r1, q1⟩ => ?_) (by rw [hs, hs2]) (by rw [hs2]; rfl)))
  obtain ⟨i, j, e, ⟨q1, q2, q3, q4⟩, q⟩ := q1
  subst e
  cases r1 with
  | cons r rr =>
    cases rr with
    | cons r' rr =>
      cases rr
      obtain ⟨t, rfl⟩ := r
      obtain ⟨t', rfl⟩ := r'
      exact call_range_2 (range_it I1 q1 q2 q3 q4 q)

/-! ### for -/
/-- W: the invariant by the turn and a measure; N: what the body is to reach -/
def tFor (wi : TI) (g : TG) (tb : TS) : TS := fun D σ H => wi σ H fun J H1 => ∃ W : Nat → Nat → St → Hp → Prop, (∃ m, W 0 m σ H1) ∧ ∀ i m σ H, W i m σ H →
  (J.stop i H ∧ D.nx σ H) ∨ (J.go i H ∧ ∃ N : St → Hp → Prop, (∀ σ' H', N σ' H' → ∃ m', m' < m ∧ W (i + 1) m' σ' H') ∧ ∀ x H', J.yld i H x H' → g x σ H' fun σ2 H2 => tb { D with nx := N, ct := N, bk := D.nx } σ2 H2)
/-- the records at fp as they stand -/
def pinsAt (fp : List Addr) (h : Heap) : List (Addr × Obj) := fp.filterMap fun b => (h.get? b).map fun o => (b, o)
theorem mem_pinsAt {fp : List Addr} {h : Heap} {b : Addr} {o : Obj} (hb : b ∈ fp) (e : h.get? b = some o) : (b, o) ∈ pinsAt fp h := List.mem_filterMap.mpr ⟨b, hb, by rw [e]; rfl⟩
theorem of_pinsAt {fp : List Addr} {h : Heap} {p : Addr × Obj} (hp : p ∈ pinsAt fp h) : p.1 ∈ fp ∧ h.get? p.1 = some p.2 := by
  obtain ⟨b, hb, e⟩ := List.mem_filterMap.mp hp
  cases q : h.get? b with
  | none => rw [q] at e; cases e
  | some o =>
    rw [q] at e
    have e' : (b, o) = p := Option.some.inj e
    subst e'
    exact ⟨hb, q⟩
theorem Inv.pinned {pins : List (Addr × Obj)} {σ : St} {H : Hp} {s : Shared} {fp : List Addr} (I : Inv X pins σ H s) (hf : ∀ b ∈ fp, FpOk X pins H b) (ho : ∀ b ∈ fp, ∃ o, s.heap.get? b = some o ∧ ∀ v, o.data ≠ .cell v) : Inv X (pins ++ pinsAt fp s.heap) σ H s :=
  I.pins_of fun p hp => (List.mem_append.mp hp).elim (fun z => I.pin p (List.mem_append_right _ z)) fun z => by
    obtain ⟨hb, e⟩ := of_pinsAt z
    obtain ⟨f0, f1, f2, _⟩ := hf p.1 hb
    obtain ⟨o, e', d⟩ := ho p.1 hb
    rw [e] at e'; cases e'
    exact ⟨e, f0, f1, f2, d⟩
theorem Inv.unpinned {pins pl : List (Addr × Obj)} {σ : St} {H : Hp} {s : Shared} (I : Inv X (pins ++ pl) σ H s) : Inv X pins σ H s := I.pins_of fun p hp => I.pin p (List.mem_append_right _ (List.mem_append_left _ hp))
theorem ps_for {iter : Expr} {body : List Stmt} {wi : TI} {g : TG} {tb : TS} {pos : Pos} (hp : PassesOwn (model X.prog X.w) X.A X.env X.xe) (hc : X.calm = true) (hi : PI X tg iter wi) (hg : PG X tg g) (hb : PSs X body tb)
    (hs : ∀ x, foldedSetIterable iter X.env x = pure x := by intro _; rfl) : PS X (.For tg iter body [] pos) (tFor wi g tb) := by
  intro pins s σ H D I h
  refine wpAny_For (thn (hi pins s σ H _ I h) fun v s1 h1 => thn h1 fun itv s2 h2 => ?_) hs
  obtain ⟨it, fp, tn, J, H2, e, I2, T, st2, f2, W, ⟨m0, w0⟩, turn⟩ := h2
  subst e
  -- what stays true of the iterator's objects through the loop
  have stat : ∀ {H' : Hp}, (∀ b ∈ fp, H' b = none) → ∀ b ∈ fp, FpOk X pins H' b := fun hn b hb => ⟨hn b hb, (f2 b hb).2⟩
  refine codeAny_forLoop_any (fun n s' => ∃ i σ' H', Inv X pins σ' H' s' ∧ tn i s'.heap ∧ (∀ b ∈ fp, H' b = none) ∧ W i n σ' H') ?_ m0 ⟨0, σ, H2, I2, st2, fun b hb => (f2 b hb).1, w0⟩
  rintro n s3 ⟨i, σ3, H3, I3, st3, fr3, w3⟩
  rcases turn i n σ3 H3 w3 with ⟨stop, qn⟩ | ⟨go, N, hN, step⟩
  · refine wpAny_passesOwn hp (thn (T.done X rfl rfl rfl hc i pins s3 σ3 H3 X.xe I3 (stat fr3) st3 stop) fun r s4 ⟨hr, I4⟩ => ?_)
    subst hr
    exact wpAny_execs_nil ⟨σ3, H3, I4, qn⟩
  · refine wpAny_passesOwn hp (thn (T.item X rfl rfl rfl hc i pins s3 σ3 H3 X.xe I3 (stat fr3) st3 go) fun r s4 ⟨u, hr, h4⟩ => ?_)
    subst hr
    refine wpAny_passesOwn hp (thn h4 fun _ s5 ⟨x, H5, I5, r5, y5, st5, fr5⟩ => ?_)
    have I5' := I5.pinned (stat fr5) (T.obj _ _ st5)
    refine wpAny_passesOwn hp (thn (hg _ s5 σ3 H5 x u _ I5' r5 (step x H5 y5)) fun _ s6 ⟨σ6, H6, I6, q6⟩ => ?_)
    refine wpAny_passesOwn hp (thn (hb _ s6 σ6 H6 _ I6 q6) fun f s7 q7 => ?_)
    have again : ∀ {σ7 : St} {H7 : Hp}, Inv X (pins ++ pinsAt fp s5.heap) σ7 H7 s7 → N σ7 H7 → ∃ m, m < n ∧ ∃ i σ' H', Inv X pins σ' H' s7 ∧ tn i s7.heap ∧ (∀ b ∈ fp, H' b = none) ∧ W i m σ' H' := fun {σ7 H7} I7 n7 => by
      obtain ⟨m', hm, w7⟩ := hN σ7 H7 n7
      refine ⟨m', hm, i + 1, σ7, H7, I7.unpinned, T.keep _ _ _ st5 fun b hb o e => (I7.pin (b, o) (List.mem_append_right _ (List.mem_append_right _ (mem_pinsAt hb e)))).1, fun b hb => ?_, w7⟩
      obtain ⟨o, e, d⟩ := T.obj _ _ st5 b hb
      exact (I7.pin (b, o) (List.mem_append_right _ (List.mem_append_right _ (mem_pinsAt hb e)))).2.1
    cases f with
    | next => obtain ⟨σ7, H7, I7, n7⟩ := q7; exact again I7 n7
    | cont => obtain ⟨σ7, H7, I7, n7⟩ := q7; exact again I7 n7
    | brk => obtain ⟨σ7, H7, I7, q7⟩ := q7; exact ⟨σ7, H7, I7.unpinned, q7⟩
    | ret v => obtain ⟨x7, σ7, H7, I7, r7, q7⟩ := q7; exact ⟨x7, σ7, H7, I7.unpinned, r7, q7⟩
end

/-! ### the forms one uses -/
/-- over a list that the body leaves as it is -/
theorem for_list {K : PySem.W.Frag} {a : Addr} {xs : List V} {g : TG} {tb : TS} {D : Ends} {σ : St} {H : Hp} (Pv : Nat → St → Hp → Prop) (h0 : Pv 0 σ H) (hl : ∀ i σ H, i ≤ xs.length → Pv i σ H → SqL K H a xs)
    (hs : ∀ i x σ H, xs[i]? = some x → Pv i σ H → g x σ H fun σ2 H2 => tb { D with nx := Pv (i + 1), ct := Pv (i + 1), bk := D.nx } σ2 H2) (hd : ∀ σ H, Pv xs.length σ H → D.nx σ H) :
    ∃ W : Nat → Nat → St → Hp → Prop, (∃ m, W 0 m σ H) ∧ ∀ i m σ H, W i m σ H →
      ((Itl K a).stop i H ∧ D.nx σ H) ∨ ((Itl K a).go i H ∧ ∃ N : St → Hp → Prop, (∀ σ' H', N σ' H' → ∃ m', m' < m ∧ W (i + 1) m' σ' H') ∧ ∀ x H', (Itl K a).yld i H x H' → g x σ H' fun σ2 H2 => tb { D with nx := N, ct := N, bk := D.nx } σ2 H2) := by
  refine ⟨fun i m σ H => m = xs.length - i ∧ i ≤ xs.length ∧ Pv i σ H, ⟨xs.length, by simp, Nat.zero_le _, h0⟩, ?_⟩
  rintro i m σ H ⟨rfl, hi, p⟩
  have q := hl i σ H hi p
  by_cases hlt : i < xs.length
  · refine .inr ⟨⟨xs, xs[i], q, by simp [hlt]⟩, Pv (i + 1), fun σ' H' p' => ⟨xs.length - (i + 1), by omega, rfl, hlt, p'⟩, fun x H' y => ?_⟩
    obtain ⟨e, y⟩ := y
    subst e
    exact hs i x σ _ (y xs q) p
  · have e : i = xs.length := by omega
    subst e
    exact .inl ⟨⟨xs, q, Nat.le_refl _⟩, hd σ H p⟩
theorem for_tup {K : PySem.W.Frag} {a : Addr} {xs : List V} {g : TG} {tb : TS} {D : Ends} {σ : St} {H : Hp} (Pv : Nat → St → Hp → Prop) (h0 : Pv 0 σ H) (hl : ∀ i σ H, i ≤ xs.length → Pv i σ H → SqT K H a xs)
    (hs : ∀ i x σ H, xs[i]? = some x → Pv i σ H → g x σ H fun σ2 H2 => tb { D with nx := Pv (i + 1), ct := Pv (i + 1), bk := D.nx } σ2 H2) (hd : ∀ σ H, Pv xs.length σ H → D.nx σ H) :
    ∃ W : Nat → Nat → St → Hp → Prop, (∃ m, W 0 m σ H) ∧ ∀ i m σ H, W i m σ H →
      ((Itt K a).stop i H ∧ D.nx σ H) ∨ ((Itt K a).go i H ∧ ∃ N : St → Hp → Prop, (∀ σ' H', N σ' H' → ∃ m', m' < m ∧ W (i + 1) m' σ' H') ∧ ∀ x H', (Itt K a).yld i H x H' → g x σ H' fun σ2 H2 => tb { D with nx := N, ct := N, bk := D.nx } σ2 H2) := by
  refine ⟨fun i m σ H => m = xs.length - i ∧ i ≤ xs.length ∧ Pv i σ H, ⟨xs.length, by simp, Nat.zero_le _, h0⟩, ?_⟩
  rintro i m σ H ⟨rfl, hi, p⟩
  have q := hl i σ H hi p
  by_cases hlt : i < xs.length
  · refine .inr ⟨⟨xs, xs[i], q, by simp [hlt]⟩, Pv (i + 1), fun σ' H' p' => ⟨xs.length - (i + 1), by omega, rfl, hlt, p'⟩, fun x H' y => ?_⟩
    obtain ⟨e, y⟩ := y
    subst e
    exact hs i x σ _ (y xs q) p
  · have e : i = xs.length := by omega
    subst e
    exact .inl ⟨⟨xs, q, Nat.le_refl _⟩, hd σ H p⟩
theorem for_range {lo : Int} {n : Nat} {g : TG} {tb : TS} {D : Ends} {σ : St} {H : Hp} (Pv : Nat → St → Hp → Prop) (h0 : Pv 0 σ H)
    (hs : ∀ i σ H, i < n → Pv i σ H → g (.int (lo + i)) σ H fun σ2 H2 => tb { D with nx := Pv (i + 1), ct := Pv (i + 1), bk := D.nx } σ2 H2) (hd : ∀ σ H, Pv n σ H → D.nx σ H) :
    ∃ W : Nat → Nat → St → Hp → Prop, (∃ m, W 0 m σ H) ∧ ∀ i m σ H, W i m σ H →
      ((Itr lo n).stop i H ∧ D.nx σ H) ∨ ((Itr lo n).go i H ∧ ∃ N : St → Hp → Prop, (∀ σ' H', N σ' H' → ∃ m', m' < m ∧ W (i + 1) m' σ' H') ∧ ∀ x H', (Itr lo n).yld i H x H' → g x σ H' fun σ2 H2 => tb { D with nx := N, ct := N, bk := D.nx } σ2 H2) := by
  refine ⟨fun i m σ H => m = n - i ∧ i ≤ n ∧ Pv i σ H, ⟨n, by simp, Nat.zero_le _, h0⟩, ?_⟩
  rintro i m σ H ⟨rfl, hi, p⟩
  by_cases hlt : i < n
  · refine .inr ⟨hlt, Pv (i + 1), fun σ' H' p' => ⟨n - (i + 1), by omega, rfl, hlt, p'⟩, fun x H' y => ?_⟩
    obtain ⟨e, y⟩ := y
    subst e y
    exact hs i σ _ hlt p
  · have e : i = n := by omega
    subst e
    exact .inl ⟨Nat.le_refl _, hd σ H p⟩
/-- while, by a word and a measure of the state -/
theorem while_by {c : TT} {tb : TS} {D : Ends} {σ : St} {H : Hp} (Pv : St → Hp → Prop) (μ : St → Hp → Nat) (h0 : Pv σ H)
    (hs : ∀ σ H, Pv σ H → c σ H fun b H1 => if b = true then tb { D with nx := fun σ' H' => Pv σ' H' ∧ μ σ' H' < μ σ H, ct := fun σ' H' => Pv σ' H' ∧ μ σ' H' < μ σ H, bk := D.nx } σ H1 else D.nx σ H1)
    (mono : ∀ σ H Q Q', (∀ b H1, Q b H1 → Q' b H1) → c σ H Q → c σ H Q') : tWhile c tb D σ H := by
  refine ⟨fun m σ H => m = μ σ H ∧ Pv σ H, ⟨_, rfl, h0⟩, ?_⟩
  rintro m σ H ⟨rfl, p⟩
  refine mono σ H _ _ (fun b H1 q => ?_) (hs σ H p)
  cases b with
  | true => exact ⟨_, fun σ' H' ⟨p', l⟩ => ⟨_, l, rfl, p'⟩, q⟩
  | false => exact q
end L2

namespace L2
open PySem PySem.Spec PyProof.Rows

abbrev R2 := V → V → Hp → VK → Prop
/-- a two-place operation on values: f is binaryOp op, inplaceOp op or compareOp op -/
def OpR (X : Cx) (f : Value → Value → Sem Value) (r : R2) : Prop :=
  ∀ (pins : List (Addr × Obj)) (s : Shared) (σ : St) (H : Hp) (x y : V) (v u : Value) (Q : VK), Inv X pins σ H s → RelV x v → RelV y u → r x y H Q →
    wpAny (model X.prog X.w) X.A (f v u) (EP X pins σ Q) X.xe s
/-- a one-place operation -/
def UnR (X : Cx) (f : Value → Sem Value) (r : V → Hp → VK → Prop) : Prop :=
  ∀ (pins : List (Addr × Obj)) (s : Shared) (σ : St) (H : Hp) (x : V) (v : Value) (Q : VK), Inv X pins σ H s → RelV x v → r x H Q →
    wpAny (model X.prog X.w) X.A (f v) (EP X pins σ Q) X.xe s
/-- a call of a value that is known (a builtin, a type) with values -/
def CallR (X : Cx) (f : Value) (r : List V → Hp → VK → Prop) : Prop :=
  ∀ (pins : List (Addr × Obj)) (s : Shared) (σ : St) (H : Hp) (xs : List V) (us : List Value) (Q : VK), Inv X pins σ H s → Vals xs us → r xs H Q →
    wpAny (model X.prog X.w) X.A (call f us) (EP X pins σ Q) X.xe s
/-- a value's truth -/
def TruR (X : Cx) (r : V → Hp → (Bool → Hp → Prop) → Prop) : Prop :=
  ∀ (pins : List (Addr × Obj)) (s : Shared) (σ : St) (H : Hp) (x : V) (v : Value) (Q : Bool → Hp → Prop), Inv X pins σ H s → RelV x v → r x H Q →
    wpAny (model X.prog X.w) X.A (truthy v) (TP X pins σ Q) X.xe s

def tOp (r : R2) (ta tb : TE) : TE := fun σ H Q => ta σ H fun x H1 => tb σ H1 fun y H2 => r x y H2 Q
def tUn (r : V → Hp → VK → Prop) (ta : TE) : TE := fun σ H Q => ta σ H fun x H1 => r x H1 Q
/-- ints in, under C, and a value out -/
def rI (C : Int → Int → Prop) (g : Int → Int → V) : R2 := fun x y H Q => ∃ i j, x = .int i ∧ y = .int j ∧ C i j ∧ Q (g i j) H
def rI0 (g : Int → Int → V) : R2 := fun x y H Q => ∃ i j, x = .int i ∧ y = .int j ∧ Q (g i j) H
def rU (g : Int → V) : V → Hp → VK → Prop := fun x H Q => ∃ i, x = .int i ∧ Q (g i) H

section
variable {X : Cx} {a b c : Expr} {ta tb tc : TE} {pos : Pos}

theorem binT (ha : PE X a ta) (hb : PE X b tb) {pins : List (Addr × Obj)} {s : Shared} {σ : St} {H : Hp} {R : V → V → Hp → Prop} (I : Inv X pins σ H s)
    (h : ta σ H fun x H1 => tb σ H1 fun y H2 => R x y H2) {Q : Value → Shared → Prop} {f : Value → Value → Sem Value}
    (hf : ∀ v u s2 x y H2, Inv X pins σ H2 s2 → RelV x v → RelV y u → R x y H2 → wpAny (model X.prog X.w) X.A (f v u) Q X.xe s2) :
    wpAny (model X.prog X.w) X.A (eval a X.env) (fun v s₁ => wpAny (model X.prog X.w) X.A (eval b X.env) (fun u s₂ => wpAny (model X.prog X.w) X.A (f v u) Q X.xe s₂) X.xe s₁) X.xe s := by
  refine thn (ha pins s σ H _ I h) fun v s1 ⟨x, H1, I1, r1, q1⟩ => ?_
  refine thn (hb pins s1 σ H1 _ I1 q1) fun u s2 ⟨y, H2, I2, r2, q2⟩ => ?_
  exact hf v u s2 x y H2 I2 r1 r2 q2

theorem pe_op {op : Operator} {r : R2} (ho : OpR X (binaryOp op) r) (ha : PE X a ta) (hb : PE X b tb) : PE X (.BinOp a op b pos) (tOp r ta tb) := by
  intro pins s σ H Q I h
  exact wpAny_BinOp (binT ha hb I h fun v u s2 x y H2 I2 rx ry q => ho pins s2 σ H2 x y v u Q I2 rx ry q)
theorem pe_un {op : UnaryOp} {r : V → Hp → VK → Prop} (ho : UnR X (unaryOp op) r) (ha : PE X a ta) : PE X (.UnaryOp op a pos) (tUn r ta) := by
  intro pins s σ H Q I h
  exact UnaryOp_ (thn (ha pins s σ H _ I h) fun v s1 ⟨x, H1, I1, r1, q1⟩ => ho pins s1 σ H1 x v Q I1 r1 q1)
/-- a op= e at a name: the name's slot i -/
theorem augR {op : Operator} {r : R2} (ho : OpR X (inplaceOp op) r) {pins : List (Addr × Obj)} {s : Shared} {σ : St} {H : Hp} {x y : V} {v u : Value} {Q : VK} (I : Inv X pins σ H s)
    (rx : RelV x v) (ry : RelV y u) (q : r x y H Q) : wpAny (model X.prog X.w) X.A (inplaceOp op v u) (EP X pins σ Q) X.xe s := ho pins s σ H x y v u Q I rx ry q

/-! ### ints -/
theorem opI {f : Value → Value → Sem Value} {C : Int → Int → Prop} {g : Int → Int → Int}
    (rule : ∀ (i j : Int) (t u : Tok) (s : Shared) (Q : Value → Shared → Prop) (E : Value → Shared → Prop), C i j → Q (.int (g i j) s.toks) { s with toks := s.toks + 1 } → wpAny (model X.prog X.w) X.A (f (.int i t) (.int j u)) Q E s) :
    OpR X f (rI C fun i j => .int (g i j)) := by
  intro pins s σ H x y v u Q I rx ry h
  obtain ⟨i, j, rfl, rfl, hc, q⟩ := h
  obtain ⟨t, rfl⟩ := rx
  obtain ⟨t', rfl⟩ := ry
  exact rule i j t t' s _ _ hc ⟨.int (g i j), H, I.tok _, ⟨_, rfl⟩, q⟩
theorem opI0 {f : Value → Value → Sem Value} {g : Int → Int → Int}
    (rule : ∀ (i j : Int) (t u : Tok) (s : Shared) (Q : Value → Shared → Prop) (E : Value → Shared → Prop), Q (.int (g i j) s.toks) { s with toks := s.toks + 1 } → wpAny (model X.prog X.w) X.A (f (.int i t) (.int j u)) Q E s) :
    OpR X f (rI0 fun i j => .int (g i j)) := by
  intro pins s σ H x y v u Q I rx ry h
  obtain ⟨i, j, rfl, rfl, q⟩ := h
  obtain ⟨t, rfl⟩ := rx
  obtain ⟨t', rfl⟩ := ry
  exact rule i j t t' s _ _ ⟨.int (g i j), H, I.tok _, ⟨_, rfl⟩, q⟩
theorem opB0 {f : Value → Value → Sem Value} {g : Int → Int → Bool}
    (rule : ∀ (i j : Int) (t u : Tok) (s : Shared) (Q : Value → Shared → Prop) (E : Value → Shared → Prop), Q (.bool (g i j)) s → wpAny (model X.prog X.w) X.A (f (.int i t) (.int j u)) Q E s) :
    OpR X f (rI0 fun i j => .bl (g i j)) := by
  intro pins s σ H x y v u Q I rx ry h
  obtain ⟨i, j, rfl, rfl, q⟩ := h
  obtain ⟨t, rfl⟩ := rx
  obtain ⟨t', rfl⟩ := ry
  exact rule i j t t' s _ _ ⟨.bl (g i j), H, I, rfl, q⟩

def CDiv (i j : Int) : Prop := 0 < j ∧ j < 1073741824
def CDivN (i j : Int) : Prop := j ≠ 0 ∧ j.natAbs < 1073741824
def CPow (i j : Int) : Prop := 0 ≤ j ∧ j ≤ 1000000 ∧ i.natAbs < 2 ^ 64
def CMul (i j : Int) : Prop := (-(2 ^ 64) < i ∧ i < 2 ^ 64) ∨ (-(2 ^ 64) < j ∧ j < 2 ^ 64)
theorem CMul.ok {i j : Int} (h : CMul i j) : IntMulOk i j := by
  rcases h with ⟨h1, h2⟩ | ⟨h1, h2⟩
  · exact .of_left (intBits_le_64 h1 h2)
  · exact .of_right (intBits_le_64 h1 h2)
theorem two_pow_nn (k : Nat) : (0 : Int) ≤ 2 ^ k := by
  rw [two_pow_cast]
  exact Int.natCast_nonneg _

theorem op_add : OpR X (binaryOp .Add) (rI0 fun i j => .int (i + j)) := opI0 fun _ _ _ _ _ _ _ q => add_int q
theorem op_sub : OpR X (binaryOp .Sub) (rI0 fun i j => .int (i - j)) := opI0 fun _ _ _ _ _ _ _ q => sub_int q
theorem op_mul : OpR X (binaryOp .Mult) (rI CMul fun i j => .int (i * j)) := opI fun _ _ _ _ _ _ _ hc q => mul_int q hc.ok
/-- // by a positive divisor -/
theorem op_fdiv : OpR X (binaryOp .FloorDiv) (rI CDiv fun i j => .int (i / j)) := opI fun i j _ _ _ _ _ hc q => by
  have h1 : (0 : Int) < j := hc.1
  have h2 : j < 1073741824 := hc.2
  exact floordiv_int (by omega) (by rw [Int.fdiv_eq_ediv_of_nonneg i (by omega)]; exact q) (.inl (PyProof.noPylong_small (by omega)))
theorem op_fdivN : OpR X (binaryOp .FloorDiv) (rI CDivN fun i j => .int (i.fdiv j)) := opI fun _ _ _ _ _ _ _ hc q => floordiv_int hc.1 q (.inl (PyProof.noPylong_small hc.2))
/-- % by a positive divisor of any size -/
theorem op_mod : OpR X (binaryOp .Mod) (rI (fun _ j => 0 < j) fun i j => .int (i % j)) := opI fun i j _ _ _ _ _ hc q => by
  have h1 : (0 : Int) < j := hc
  exact mod_int' (by omega) (by rw [Int.fmod_eq_emod_of_nonneg i (by omega)]; exact q)
theorem op_modN : OpR X (binaryOp .Mod) (rI (fun _ j => j ≠ 0) fun i j => .int (i.fmod j)) := opI fun _ _ _ _ _ _ _ hc q => mod_int' hc q
theorem op_pow : OpR X (binaryOp .Pow) (rI CPow fun i j => .int (i ^ j.toNat)) := opI fun _ _ _ _ _ _ _ hc q => pow_int_small hc.1 hc.2.1 hc.2.2 q
theorem op_shl : OpR X (binaryOp .LShift) (rI CPow fun i j => .int (i * 2 ^ j.toNat)) := opI fun _ _ _ _ _ _ _ hc q => lshift_int_small hc.1 hc.2.1 hc.2.2 q
theorem op_shr : OpR X (binaryOp .RShift) (rI (fun _ j => 0 ≤ j) fun i j => .int (i / 2 ^ j.toNat)) := opI fun i j _ _ _ _ _ hc q =>
  rshift_int hc (by rw [Int.fdiv_eq_ediv_of_nonneg i (two_pow_nn _)]; exact q)
theorem op_and : OpR X (binaryOp .BitAnd) (rI0 fun i j => .int (Builtin.bitAnd i j)) := opI0 fun _ _ _ _ _ _ _ q => and_int q
theorem op_or : OpR X (binaryOp .BitOr) (rI0 fun i j => .int (Builtin.bitOr i j)) := opI0 fun _ _ _ _ _ _ _ q => or_int q
theorem op_xor : OpR X (binaryOp .BitXor) (rI0 fun i j => .int (Builtin.bitXor i j)) := opI0 fun _ _ _ _ _ _ _ q => xor_int q

theorem iop_add : OpR X (inplaceOp .Add) (rI0 fun i j => .int (i + j)) := opI0 fun _ _ _ _ _ _ _ q => iadd_int q
theorem iop_sub : OpR X (inplaceOp .Sub) (rI0 fun i j => .int (i - j)) := opI0 fun _ _ _ _ _ _ _ q => isub_int q
theorem iop_mul : OpR X (inplaceOp .Mult) (rI CMul fun i j => .int (i * j)) := opI fun _ _ _ _ _ _ _ hc q => imul_int q hc.ok
theorem iop_fdiv : OpR X (inplaceOp .FloorDiv) (rI CDiv fun i j => .int (i / j)) := opI fun i j _ _ _ _ _ hc q => by
  have h1 : (0 : Int) < j := hc.1
  have h2 : j < 1073741824 := hc.2
  exact ifloordiv_int (by omega) (by rw [Int.fdiv_eq_ediv_of_nonneg i (by omega)]; exact q) (.inl (PyProof.noPylong_small (by omega)))
theorem iop_mod : OpR X (inplaceOp .Mod) (rI (fun _ j => 0 < j) fun i j => .int (i % j)) := opI fun i j _ _ _ _ _ hc q => by
  have h1 : (0 : Int) < j := hc
  exact imod_int (by omega) (by rw [Int.fmod_eq_emod_of_nonneg i (by omega)]; exact q)
theorem iop_shl : OpR X (inplaceOp .LShift) (rI CPow fun i j => .int (i * 2 ^ j.toNat)) := opI fun _ _ _ _ _ _ _ hc q => ilshift_int_small hc.1 hc.2.1 hc.2.2 q
theorem iop_shr : OpR X (inplaceOp .RShift) (rI (fun _ j => 0 ≤ j) fun i j => .int (i / 2 ^ j.toNat)) := opI fun i j _ _ _ _ _ hc q =>
  irshift_int hc (by rw [Int.fdiv_eq_ediv_of_nonneg i (two_pow_nn _)]; exact q)
theorem iop_and : OpR X (inplaceOp .BitAnd) (rI0 fun i j => .int (Builtin.bitAnd i j)) := opI0 fun _ _ _ _ _ _ _ q => iand_int q
theorem iop_or : OpR X (inplaceOp .BitOr) (rI0 fun i j => .int (Builtin.bitOr i j)) := opI0 fun _ _ _ _ _ _ _ q => ior_int q
theorem iop_xor : OpR X (inplaceOp .BitXor) (rI0 fun i j => .int (Builtin.bitXor i j)) := opI0 fun _ _ _ _ _ _ _ q => ixor_int q

theorem unI {f : Value → Sem Value} {g : Int → Int}
    (rule : ∀ (i : Int) (t : Tok) (s : Shared) (Q : Value → Shared → Prop) (E : Value → Shared → Prop), Q (.int (g i) s.toks) { s with toks := s.toks + 1 } → wpAny (model X.prog X.w) X.A (f (.int i t)) Q E s) :
    UnR X f (rU fun i => .int (g i)) := by
  intro pins s σ H x v Q I rx h
  obtain ⟨i, rfl, q⟩ := h
  obtain ⟨t, rfl⟩ := rx
  exact rule i t s _ _ ⟨.int (g i), H, I.tok _, ⟨_, rfl⟩, q⟩
theorem un_neg : UnR X (unaryOp .USub) (rU fun i => .int (-i)) := unI fun _ _ _ _ _ q => neg_int q
theorem un_inv : UnR X (unaryOp .Invert) (rU fun i => .int (Builtin.bitNot i)) := unI fun _ _ _ _ _ q => invert_int q

/-! ### bools among ints: n += (a < b) -/
theorem op_add_ib : OpR X (binaryOp .Add) (fun x y H Q => ∃ i k, x = .int i ∧ y = .bl k ∧ Q (.int (i + b2i k)) H) := by
  intro pins s σ H x y v u Q I rx ry h
  obtain ⟨i, k, rfl, rfl, q⟩ := h
  obtain ⟨t, rfl⟩ := rx
  cases ry
  exact add_int_bool ⟨.int (i + b2i k), H, I.tok _, ⟨_, rfl⟩, q⟩
end

/-! ### comparisons -/
/-- the scalars that == tells apart as data does -/
def scal : V → V → Bool
  | .non, .non => true | .non, .int _ => true | .int _, .non => true | .non, .bl _ => true | .bl _, .non => true | .non, .str _ => true | .str _, .non => true
  | .int _, .int _ => true | .bl _, .bl _ => true | .str _, .str _ => true | .byt _, .byt _ => true
  | .int _, .str _ => true | .str _, .int _ => true | .bl _, .str _ => true | .str _, .bl _ => true
  | _, _ => false
def rEq : R2 := fun x y H Q => scal x y = true ∧ Q (.bl (decide (x = y))) H
def rNe : R2 := fun x y H Q => scal x y = true ∧ Q (.bl (!decide (x = y))) H

theorem dec_int {i j : Int} : decide (V.int i = V.int j) = (i == j) := by
  rw [Bool.eq_iff_iff]
  simp
theorem dec_bl {i j : Bool} : decide (V.bl i = V.bl j) = (i == j) := by
  rw [Bool.eq_iff_iff]
  simp
theorem dec_str {i j : Str} : decide (V.str i = V.str j) = (i == j) := by
  rw [Bool.eq_iff_iff]
  simp
theorem dec_byt {i j : Array UInt8} : decide (V.byt i = V.byt j) = (i.toList == j.toList) := by
  rw [Bool.eq_iff_iff]
  cases i
  cases j
  simp

section
variable {X : Cx} {a b c : Expr} {ta tb tc : TE} {pos : Pos}
theorem fin_bl {pins : List (Addr × Obj)} {σ : St} {H : Hp} {s : Shared} {Q : VK} {k k' : Bool} (I : Inv X pins σ H s) (q : Q (.bl k) H) (e : k = k') : EP X pins σ Q (.bool k') s := by
  subst e
  exact ⟨.bl k, H, I, rfl, q⟩
theorem op_eq : OpR X (compareOp .Eq) rEq := by
  intro pins s σ H x y v u Q I rx ry h
  obtain ⟨hs, q⟩ := h
  cases x with
  | non =>
    cases rx
    cases y with
    | non => cases ry; exact PySem.EqNone.eq_none_none (fin_bl I q (by simp))
    | bl j => cases ry; exact PySem.EqNone.eq_none_bool (fin_bl I q (by simp))
    | int j => obtain ⟨t', rfl⟩ := ry; exact PySem.EqNone.eq_none_int (fin_bl I q (by simp))
    | str j => obtain ⟨t', rfl⟩ := ry; exact PySem.EqNone.eq_none_str (fin_bl I q (by simp))
    | _ => exact absurd (show false = true from hs) Bool.false_ne_true
  | bl i =>
    cases rx
    cases y with
    | non => cases ry; exact PySem.EqNone.eq_bool_none (fin_bl I q (by simp))
    | bl j => cases ry; exact eq_bool (fin_bl I q dec_bl)
    | str j => obtain ⟨t', rfl⟩ := ry; exact PySem.EqMixed.eq_bool_str (fin_bl I q (by simp))
    | _ => exact absurd (show false = true from hs) Bool.false_ne_true
  | int i =>
    obtain ⟨t, rfl⟩ := rx
    cases y with
    | non => cases ry; exact PySem.EqNone.eq_int_none (fin_bl I q (by simp))
    | int j => obtain ⟨t', rfl⟩ := ry; exact eq_int (fin_bl I q dec_int)
    | str j => obtain ⟨t', rfl⟩ := ry; exact PySem.EqMixed.eq_int_str (fin_bl I q (by simp))
    | _ => exact absurd (show false = true from hs) Bool.false_ne_true
  | str i =>
    obtain ⟨t, rfl⟩ := rx
    cases y with
    | non => cases ry; exact PySem.EqNone.eq_str_none (fin_bl I q (by simp))
    | bl j => cases ry; exact PySem.EqMixed.eq_str_bool (fin_bl I q (by simp))
    | int j => obtain ⟨t', rfl⟩ := ry; exact PySem.EqMixed.eq_str_int (fin_bl I q (by simp))
    | str j => obtain ⟨t', rfl⟩ := ry; exact eq_str (fin_bl I q dec_str)
    | _ => exact absurd (show false = true from hs) Bool.false_ne_true
  | byt i =>
    obtain ⟨t, rfl⟩ := rx
    cases y with
    | byt j => obtain ⟨t', rfl⟩ := ry; exact PySem.W.eq_bytes (fin_bl I q dec_byt)
    | _ => exact absurd (show false = true from hs) Bool.false_ne_true
  | _ => cases y <;> exact absurd (show false = true from hs) Bool.false_ne_true
theorem op_ne : OpR X (compareOp .NotEq) rNe := by
  intro pins s σ H x y v u Q I rx ry h
  obtain ⟨hs, q⟩ := h
  cases x with
  | non =>
    cases rx
    cases y with
    | non => cases ry; exact PySem.EqNone.ne_none_none (fin_bl I q (by simp))
    | bl j => cases ry; exact PySem.EqNone.ne_none_bool (fin_bl I q (by simp))
    | int j => obtain ⟨t', rfl⟩ := ry; exact PySem.EqNone.ne_none_int (fin_bl I q (by simp))
    | str j => obtain ⟨t', rfl⟩ := ry; exact PySem.EqNone.ne_none_str (fin_bl I q (by simp))
    | _ => exact absurd (show false = true from hs) Bool.false_ne_true
  | bl i =>
    cases rx
    cases y with
    | non => cases ry; exact PySem.EqNone.ne_bool_none (fin_bl I q (by simp))
    | bl j => cases ry; exact ne_bool (fin_bl I q (congrArg not dec_bl))
    | str j => obtain ⟨t', rfl⟩ := ry; exact PySem.EqMixed.ne_bool_str (fin_bl I q (by simp))
    | _ => exact absurd (show false = true from hs) Bool.false_ne_true
  | int i =>
    obtain ⟨t, rfl⟩ := rx
    cases y with
    | non => cases ry; exact PySem.EqNone.ne_int_none (fin_bl I q (by simp))
    | int j => obtain ⟨t', rfl⟩ := ry; exact ne_int (fin_bl I q (congrArg not dec_int))
    | str j => obtain ⟨t', rfl⟩ := ry; exact PySem.EqMixed.ne_int_str (fin_bl I q (by simp))
    | _ => exact absurd (show false = true from hs) Bool.false_ne_true
  | str i =>
    obtain ⟨t, rfl⟩ := rx
    cases y with
    | non => cases ry; exact PySem.EqNone.ne_str_none (fin_bl I q (by simp))
    | bl j => cases ry; exact PySem.EqMixed.ne_str_bool (fin_bl I q (by simp))
    | int j => obtain ⟨t', rfl⟩ := ry; exact PySem.EqMixed.ne_str_int (fin_bl I q (by simp))
    | str j => obtain ⟨t', rfl⟩ := ry; exact ne_str (fin_bl I q (congrArg not dec_str))
    | _ => exact absurd (show false = true from hs) Bool.false_ne_true
  | byt i =>
    obtain ⟨t, rfl⟩ := rx
    cases y with
    | byt j => obtain ⟨t', rfl⟩ := ry; exact PySem.W.ne_bytes (fin_bl I q (congrArg not dec_byt))
    | _ => exact absurd (show false = true from hs) Bool.false_ne_true
  | _ => cases y <;> exact absurd (show false = true from hs) Bool.false_ne_true

theorem op_lt : OpR X (compareOp .Lt) (rI0 fun i j => .bl (decide (i < j))) := opB0 fun _ _ _ _ _ _ _ q => lt_int q
theorem op_le : OpR X (compareOp .LtE) (rI0 fun i j => .bl (decide (i ≤ j))) := opB0 fun _ _ _ _ _ _ _ q => le_int q
theorem op_gt : OpR X (compareOp .Gt) (rI0 fun i j => .bl (decide (j < i))) := opB0 fun _ _ _ _ _ _ _ q => gt_int q
theorem op_ge : OpR X (compareOp .GtE) (rI0 fun i j => .bl (decide (j ≤ i))) := opB0 fun _ _ _ _ _ _ _ q => ge_int q
theorem op_lt_str : OpR X (compareOp .Lt) (fun x y H Q => ∃ i j, x = .str i ∧ y = .str j ∧ Q (.bl (decide (i.cps.toList < j.cps.toList))) H) := by
  intro pins s σ H x y v u Q I rx ry h
  obtain ⟨i, j, rfl, rfl, q⟩ := h
  obtain ⟨t, rfl⟩ := rx
  obtain ⟨t', rfl⟩ := ry
  exact lt_str (fin_bl I q rfl)
/-- the one string within the other -/
theorem op_in_str : OpR X (compareOp .In) (fun x y H Q => ∃ i j, x = .str i ∧ y = .str j ∧ Q (.bl (!(Builtin.Str.occurrences j i 0 j.length 1).isEmpty)) H) := by
  intro pins s σ H x y v u Q I rx ry h
  obtain ⟨i, j, rfl, rfl, q⟩ := h
  obtain ⟨t, rfl⟩ := rx
  obtain ⟨t', rfl⟩ := ry
  exact in_str (fin_bl I q rfl)

/-- is None, is not None: the right side a value none -/
theorem op_isN : OpR X (compareOp .Is) (fun x y H Q => y = .non ∧ Q (.bl (decide (x = .non))) H) := by
  intro pins s σ H x y v u Q I rx ry h
  obtain ⟨rfl, q⟩ := h
  cases ry
  refine is_none_gen (fin_bl I q ?_)
  cases x <;> first
    | (cases rx; rfl)
    | (obtain ⟨t, rfl⟩ := rx; rfl)
theorem op_notN : OpR X (compareOp .IsNot) (fun x y H Q => y = .non ∧ Q (.bl (!decide (x = .non))) H) := by
  intro pins s σ H x y v u Q I rx ry h
  obtain ⟨rfl, q⟩ := h
  cases ry
  refine isnot_none_gen (fin_bl I q ?_)
  cases x <;> first
    | (cases rx; rfl)
    | (obtain ⟨t, rfl⟩ := rx; rfl)

theorem op_notin_str : OpR X (compareOp .NotIn) (fun x y H Q => ∃ i j, x = .str i ∧ y = .str j ∧ Q (.bl (!(!(Builtin.Str.occurrences j i 0 j.length 1).isEmpty))) H) := by
  intro pins s σ H x y v u Q I rx ry h
  obtain ⟨i, j, rfl, rfl, q⟩ := h
  obtain ⟨t, rfl⟩ := rx
  obtain ⟨t', rfl⟩ := ry
  exact notIn_str (fin_bl I q rfl)
/-- is, is not of two objects that are tracked lists or instances -/
def isObj : HO → Bool
  | .lst _ => true
  | .ins _ _ _ => true
  | _ => false
theorem obj_there {pins : List (Addr × Obj)} {s : Shared} {σ : St} {H : Hp} {a : Addr} {o : HO} (I : Inv X pins σ H s) (h : H a = some o) (p : isObj o = true) : ∃ ob, s.heap.get? a = some ob ∧ ob.cls ≠ .type "tuple" := by
  cases o with
  | lst xs =>
    obtain ⟨_, its, n, _, e⟩ : xs.length ≤ sizeLine ∧ ∃ (its : List Value) (n : Nat), Vals xs its ∧ s.heap.get? a = some { cls := .type "list", data := .seq its.toArray n } := I.hok a _ h
    exact ⟨_, e, (by show Value.type "list" ≠ .type "tuple"; decide +kernel)⟩
  | ins C dx fs =>
    have x := I.hok a _ h
    obtain ⟨_, _, _, e, _⟩ := x
    exact ⟨_, e, (by show Value.ref C ≠ .type "tuple"; exact fun z => by cases z)⟩
  | _ => exact absurd (show false = true from p) Bool.false_ne_true
theorem op_is_ref : OpR X (compareOp .Is) (fun x y H Q => ∃ a b oa ob, x = .ref a ∧ y = .ref b ∧ H a = some oa ∧ isObj oa = true ∧ H b = some ob ∧ isObj ob = true ∧ Q (.bl (decide (a = b))) H) := by
  intro pins s σ H x y v u Q I rx ry h
  obtain ⟨a, b, oa, ob, rfl, rfl, ha, pa, hb, pb, q⟩ := h
  cases rx
  cases ry
  obtain ⟨o1, e1, n1⟩ := obj_there I ha pa
  obtain ⟨o2, e2, _⟩ := obj_there I hb pb
  by_cases z : a = b
  · subst z
    exact wpAny_is_ref_self (fin_bl I q (by simp))
  · exact wpAny_is_ref_other z e1 e2 n1 (fin_bl I q (by simp [z]))
theorem op_isnot_ref : OpR X (compareOp .IsNot) (fun x y H Q => ∃ a b oa ob, x = .ref a ∧ y = .ref b ∧ H a = some oa ∧ isObj oa = true ∧ H b = some ob ∧ isObj ob = true ∧ Q (.bl (!decide (a = b))) H) := by
  intro pins s σ H x y v u Q I rx ry h
  obtain ⟨a, b, oa, ob, rfl, rfl, ha, pa, hb, pb, q⟩ := h
  cases rx
  cases ry
  obtain ⟨o1, e1, n1⟩ := obj_there I ha pa
  obtain ⟨o2, e2, _⟩ := obj_there I hb pb
  by_cases z : a = b
  · subst z
    exact wpAny_isNot_ref_self (fin_bl I q (by simp))
  · exact wpAny_isNot_ref_other z e1 e2 n1 (fin_bl I q (by simp [z]))

/-- two rules for one operation: by cases -/
theorem OpR.or {f : Value → Value → Sem Value} {r r' : R2} (h : OpR X f r) (h' : OpR X f r') : OpR X f (fun x y H Q => r x y H Q ∨ r' x y H Q) := by
  intro pins s σ H x y v u Q I rx ry q
  rcases q with q | q
  · exact h pins s σ H x y v u Q I rx ry q
  · exact h' pins s σ H x y v u Q I rx ry q

theorem nomark (b : Expr) {op : CmpOp} (h : op ≠ .In := by decide) (h2 : op ≠ .NotIn := by decide) : behindInMarks op b = false := by
  have e1 : (op == CmpOp.In) = false := by cases op <;> first | rfl | exact absurd rfl h
  have e2 : (op == CmpOp.NotIn) = false := by cases op <;> first | rfl | exact absurd rfl h2
  cases b <;> simp [behindInMarks, e1, e2]
/-- a comparison as a value; hm: nomark b, or (for in, not in) by with_unfolding_all rfl -/
theorem pe_cmpR {op : CmpOp} {r : R2} (ho : OpR X (compareOp op) r) (ha : PE X a ta) (hb : PE X b tb) (hm : behindInMarks op b = false) : PE X (.Compare a [op] [b] pos) (tOp r ta tb) := by
  intro pins s σ H Q I h
  exact wpAny_Compare1 (binT ha hb I h fun v u s2 x y H2 I2 rx ry q => ho pins s2 σ H2 x y v u Q I2 rx ry q) hm
/-- a reading of a value as a test -/
def tTest (t : TE) : TT := fun σ H Q => t σ H fun x H' => ∃ k, x = .bl k ∧ Q k H'
theorem pt_cmpR {op : CmpOp} {r : R2} (ho : OpR X (compareOp op) r) (ha : PE X a ta) (hb : PE X b tb) (hm : behindInMarks op b = false) : PT X (.Compare a [op] [b] pos) (tTest (tOp r ta tb)) := by
  intro pins s σ H Q I h
  refine wpAny_isTrue_Compare1 (thn (ha pins s σ H _ I h) fun v s1 ⟨x, H1, I1, r1, q1⟩ => thn (hb pins s1 σ H1 _ I1 q1) fun u s2 ⟨y, H2, I2, r2, q2⟩ =>
    thn (ho pins s2 σ H2 x y v u _ I2 r1 r2 q2) fun c s3 ⟨z, H3, I3, r3, k, e, q3⟩ => ?_) hm
  subst e
  cases r3
  exact wpAny_truthy_bool ⟨H3, I3, q3⟩
/-- a op1 b op2 c -/
def tChain (r r' : R2) (ta tb tc : TE) : TE := fun σ H Q => ta σ H fun x H1 => tb σ H1 fun y H2 => r x y H2 fun z H3 => ∃ k, z = .bl k ∧
  (if k = true then tc σ H3 fun w' H4 => r' y w' H4 Q else Q (.bl false) H3)
theorem pe_chain {op op' : CmpOp} {r r' : R2} (ho : OpR X (compareOp op) r) (ho' : OpR X (compareOp op') r') (ha : PE X a ta) (hb : PE X b tb) (hc : PE X c tc)
    (hm : lastMarks [op, op'] [b, c] = false := by with_unfolding_all rfl) : PE X (.Compare a [op, op'] [b, c] pos) (tChain r r' ta tb tc) := by
  intro pins s σ H Q I h
  refine Compare_chain (thn (ha pins s σ H _ I h) fun v s1 ⟨x, H1, I1, r1, q1⟩ => chain_link (thn (hb pins s1 σ H1 _ I1 q1) fun u s2 ⟨y, H2, I2, r2, q2⟩ =>
    thn (ho pins s2 σ H2 x y v u _ I2 r1 r2 q2) fun d s3 ⟨z, H3, I3, r3, k, e, q3⟩ => ?_)) hm
  subst e
  cases r3
  refine wpAny_truthy_bool ?_
  cases k with
  | false => exact ite_ff ⟨.bl false, H3, I3, rfl, q3⟩
  | true => exact ite_tt (chain_last (thn (hc pins s3 σ H3 _ I3 q3) fun w' s4 ⟨z', H4, I4, r4, q4⟩ => ho' pins s4 σ H4 y z' u w' Q I4 r2 r4 q4))
theorem pt_chain {op op' : CmpOp} {r r' : R2} (ho : OpR X (compareOp op) r) (ho' : OpR X (compareOp op') r') (ha : PE X a ta) (hb : PE X b tb) (hc : PE X c tc)
    (hm : lastMarks [op, op'] [b, c] = false := by with_unfolding_all rfl) : PT X (.Compare a [op, op'] [b, c] pos) (tTest (tChain r r' ta tb tc)) := by
  intro pins s σ H Q I h
  refine isTrue_chain (thn (ha pins s σ H _ I h) fun v s1 ⟨x, H1, I1, r1, q1⟩ => test_link (thn (hb pins s1 σ H1 _ I1 q1) fun u s2 ⟨y, H2, I2, r2, q2⟩ =>
    thn (ho pins s2 σ H2 x y v u _ I2 r1 r2 q2) fun d s3 ⟨z, H3, I3, r3, k, e, q3⟩ => ?_)) hm
  subst e
  cases r3
  refine wpAny_truthy_bool ?_
  cases k with
  | false =>
    obtain ⟨k', e', q'⟩ := q3
    cases e'
    exact ite_ff ⟨H3, I3, q'⟩
  | true =>
    refine ite_tt (test_last (thn (hc pins s3 σ H3 _ I3 q3) fun w' s4 ⟨z', H4, I4, r4, q4⟩ => thn (ho' pins s4 σ H4 y z' u w' _ I4 r2 r4 q4) fun d' s5 ⟨z2, H5, I5, r5, k2, e2, q5⟩ => ?_))
    subst e2
    cases r5
    exact wpAny_truthy_bool ⟨H5, I5, q5⟩

/-! ### truth -/
/-- a value's truth by the abstract heap -/
def TruV (K : PySem.W.Frag) (x : V) (H : Hp) (k : Bool) : Prop :=
  match x with
  | .non => k = false
  | .bl b => k = b
  | .int i => k = (i != 0)
  | .str y => y.length ≤ sizeLine ∧ k = ((y.length : Int) != 0)
  | .byt y => y.size ≤ sizeLine ∧ k = ((y.size : Int) != 0)
  | .ref p => (∃ xs, SqL K H p xs ∧ k = !xs.isEmpty) ∨ (∃ xs, SqT K H p xs ∧ k = !xs.isEmpty) ∨ ∃ kvs, H p = some (.dK kvs) ∧ k = !kvs.isEmpty
  | _ => False
theorem isEmpty_kv {κ : Type} {kvs : List (κ × V)} {vs : List (κ × Value)} (r : KV kvs vs) : (!vs.isEmpty) = !kvs.isEmpty := by
  cases r <;> rfl
theorem isEmpty_of {xs : List V} {its : List Value} (r : Vals xs its) : (!its.toArray.isEmpty) = !xs.isEmpty := by
  cases r <;> simp
theorem line63 : (sizeLine : Nat) < 2 ^ 63 := by rw [sizeLine_eq]; decide
theorem tru_ok : TruR X (fun x H Q => ∃ k, TruV X.K x H k ∧ Q k H) := by
  intro pins s σ H x v Q I rx h
  obtain ⟨k, e, q⟩ := h
  have hl := line63
  have hs : sizeLine = 16777216 := sizeLine_eq
  cases x with
  | non =>
    cases rx
    have e' : k = false := e
    subst e'
    exact truthy_none ⟨H, I, q⟩
  | bl b =>
    cases rx
    have e' : k = b := e
    subst e'
    exact wpAny_truthy_bool ⟨H, I, q⟩
  | int i =>
    obtain ⟨t, rfl⟩ := rx
    have e' : k = (i != 0) := e
    subst e'
    exact PySem.P.truthy_int ⟨H, I, q⟩
  | str y =>
    obtain ⟨t, rfl⟩ := rx
    obtain ⟨hy, e'⟩ : y.length ≤ sizeLine ∧ k = ((y.length : Int) != 0) := e
    subst e'
    exact PySem.P.truthy_str (by omega) ⟨H, I.tok _, q⟩
  | byt y =>
    obtain ⟨t, rfl⟩ := rx
    obtain ⟨hy, e'⟩ : y.size ≤ sizeLine ∧ k = ((y.size : Int) != 0) := e
    subst e'
    exact PySem.W.truthy_bytes (by omega) ⟨H, I.tok _, q⟩
  | ref p =>
    cases rx
    have e' : (∃ xs, SqL X.K H p xs ∧ k = !xs.isEmpty) ∨ (∃ xs, SqT X.K H p xs ∧ k = !xs.isEmpty) ∨ ∃ kvs, H p = some (.dK kvs) ∧ k = !kvs.isEmpty := e
    rcases e' with ⟨xs, hx, e'⟩ | ⟨xs, hx, e'⟩ | ⟨kvs, hx, e'⟩
    · subst e'
      obtain ⟨its, r, pl, hz⟩ := I.list hx
      have hlen := r.length
      exact wpAny_truthy_list pl.isList (by simp only [List.size_toArray]; omega) ⟨H, I.tok _, by rw [isEmpty_of r]; exact q⟩
    · subst e'
      obtain ⟨its, r, pl, hz⟩ := I.tuple hx
      have hlen := r.length
      exact truthy_tuple pl (by simp only [List.size_toArray]; omega) ⟨H, I.tok _, by rw [isEmpty_of r]; exact q⟩
    · subst e'
      obtain ⟨hz, hS, vs, r, m⟩ : kvs.length ≤ sizeLine ∧ (p == sysModules) = false ∧ ∃ vs, KV kvs vs ∧ s.heap.DictOf (mixKind X.prog X.w) p vs := I.hok p _ hx
      have hlen : kvs.length = vs.length := Paired.length r
      exact wpAny_truthy_dict hS m (by omega) ⟨H, I.tok _, by rw [isEmpty_kv r]; exact q⟩
  | _ => exact (show False from e).elim
/-- any expression whose test is its value's truth (a name, a call, a subscript, a field ..: he by fun _ => rfl) -/
theorem pt_truth (ha : PE X a ta) (he : ∀ whole, isTrue a X.env whole = (do let v ← whole; standAt a.pos; holding [v] (truthy v))) :
    PT X a (fun σ H Q => ta σ H fun x H' => ∃ k, TruV X.K x H' k ∧ Q k H') := by
  intro pins s σ H Q I h
  exact isTrue_plain (thn (ha pins s σ H _ I h) fun v s1 ⟨x, H1, I1, r1, q1⟩ => tru_ok pins s1 σ H1 x v Q I1 r1 q1) (he _)

/-! ### strs and bytes -/
theorem pe_byt {x : List UInt8} {k : Nat} : PE X (.Constant (.bytes x) k pos) (fun _ H Q => Q (.byt x.toArray) H) := fun _ _ _ H _ I h => PySem.W.Constant_bytes ⟨.byt x.toArray, H, I.tok _, ⟨_, rfl⟩, h⟩
theorem op_add_str : OpR X (binaryOp .Add) (fun x y H Q => ∃ i j, x = .str i ∧ y = .str j ∧ i.length + j.length ≤ sizeLine ∧ Q (.str (i ++ j)) H) := by
  intro pins s σ H x y v u Q I rx ry h
  obtain ⟨i, j, rfl, rfl, hz, q⟩ := h
  obtain ⟨t, rfl⟩ := rx
  obtain ⟨t', rfl⟩ := ry
  exact add_str (fun t' tk => ⟨.str (i ++ j), H, I.tok _, ⟨_, rfl⟩, q⟩) hz
theorem iop_add_str : OpR X (inplaceOp .Add) (fun x y H Q => ∃ i j, x = .str i ∧ y = .str j ∧ i.length + j.length ≤ sizeLine ∧ Q (.str (i ++ j)) H) := by
  intro pins s σ H x y v u Q I rx ry h
  obtain ⟨i, j, rfl, rfl, hz, q⟩ := h
  obtain ⟨t, rfl⟩ := rx
  obtain ⟨t', rfl⟩ := ry
  exact iadd_str (fun t' tk => ⟨.str (i ++ j), H, I.tok _, ⟨_, rfl⟩, q⟩) hz
theorem op_add_byt : OpR X (binaryOp .Add) (fun x y H Q => ∃ i j, x = .byt i ∧ y = .byt j ∧ i.size + j.size ≤ 16777216 ∧ Q (.byt (i ++ j)) H) := by
  intro pins s σ H x y v u Q I rx ry h
  obtain ⟨i, j, rfl, rfl, hz, q⟩ := h
  obtain ⟨t, rfl⟩ := rx
  obtain ⟨t', rfl⟩ := ry
  exact PySem.W.KBy.add_bytes hz (fun t' tk => ⟨.byt (i ++ j), H, I.tok _, ⟨_, rfl⟩, q⟩)

def PlainIxT (b : Expr) : Prop := ∀ o i, subscripted b false o i = operate [o, i] (getItem o i)
/-- s[i], 0 ≤ i < len -/
theorem pe_item_str (ha : PE X a ta) (hb : PE X b tb) (hs : PlainIxT b) :
    PE X (.Subscript a b pos) (tOp (fun x y H Q => ∃ z i c, x = .str z ∧ y = .int i ∧ 0 ≤ i ∧ i < 2 ^ 63 ∧ i < z.length ∧ z.cps[i.toNat]? = some c ∧ Q (.str ⟨#[c]⟩) H) ta tb) := by
  intro pins s σ H Q I h
  refine Subscript_ (binT ha hb I h fun v u s2 x y H2 I2 rx ry q => ?_)
  obtain ⟨z, i, c, rfl, rfl, h0, h63, h1, hc, q⟩ := q
  obtain ⟨t, rfl⟩ := rx
  obtain ⟨t', rfl⟩ := ry
  have e : seqIndex? i z.length = some i.toNat := PySem.StrLaws.seqIndex_nonneg h0 h1
  exact tail_any (typeIs_str s2 z t) slot_str_getitem.lookup (getItem_str (c := c) (by
    have e1 : decide (i < -(2 ^ 63 : Int)) = false := decide_eq_false (by omega)
    have e2 : decide (i ≥ 2 ^ 63) = false := decide_eq_false (by omega)
    rw [e1, e2] <;> rfl) (by rw [e]; exact hc) ⟨.str ⟨#[c]⟩, H2, I2.tok _, ⟨_, rfl⟩, q⟩) (hs _ _)
/-- b[i], 0 ≤ i < len -/
theorem pe_item_byt (ha : PE X a ta) (hb : PE X b tb) (hs : PlainIxT b) :
    PE X (.Subscript a b pos) (tOp (fun x y H Q => ∃ (z : List UInt8) (i : Int), x = .byt z.toArray ∧ y = .int i ∧ z.length ≤ sizeLine ∧ 0 ≤ i ∧ i < z.length ∧ Q (.int ((z.getD i.toNat 0).toNat : Nat)) H) ta tb) := by
  intro pins s σ H Q I h
  refine Subscript_ (binT ha hb I h fun v u s2 x y H2 I2 rx ry q => ?_)
  obtain ⟨z, i, rfl, rfl, hz, h0, h1, q⟩ := q
  obtain ⟨t, rfl⟩ := rx
  obtain ⟨t', rfl⟩ := ry
  have hl : sizeLine = 16777216 := sizeLine_eq
  exact tail_any (PySem.W.typeIs_bytes s2 z.toArray t) PySem.W.FB.slot_bytes_getitem.lookup (PySem.W.getItem_bytes (by omega) h0 h1 ⟨.int ((z.getD i.toNat 0).toNat : Nat), H2, I2.tok _, ⟨_, rfl⟩, q⟩) (hs _ _)

/-! ### scalar builtins, by CallR -/
theorem vals1 {x : V} {us : List Value} (r : Vals [x] us) : ∃ u, us = [u] ∧ RelV x u := by
  cases r with
  | cons r1 r2 => cases r2; exact ⟨_, rfl, r1⟩
theorem vals2 {x y : V} {us : List Value} (r : Vals [x, y] us) : ∃ u w', us = [u, w'] ∧ RelV x u ∧ RelV y w' := by
  cases r with
  | cons r1 r2 =>
    cases r2 with
    | cons r3 r4 => cases r4; exact ⟨_, _, rfl, r1, r3⟩
theorem call_abs : CallR X (.builtin "abs") (fun xs H Q => ∃ i, xs = [.int i] ∧ Q (.int (if i < 0 then -i else i)) H) := by
  intro pins s σ H xs us Q I r h
  obtain ⟨i, rfl, q⟩ := h
  obtain ⟨u, rfl, t, rfl⟩ := vals1 r
  exact call_abs_int fun u tk => ⟨.int (if i < 0 then -i else i), H, I.tok _, ⟨_, rfl⟩, q⟩
theorem call_max2 (hc : X.calm = true) : CallR X (.builtin "max") (fun xs H Q => ∃ i j, xs = [.int i, .int j] ∧ Q (.int (if j > i then j else i)) H) := by
  intro pins s σ H xs us Q I r h
  obtain ⟨i, j, rfl, q⟩ := h
  obtain ⟨u, w', rfl, ⟨t, rfl⟩, ⟨t', rfl⟩⟩ := vals2 r
  refine max_two_ints (I.ok.hd hc) fun h' tk k => ⟨_, H, I.kept k, ?_, q⟩
  by_cases hj : j > i
  · rw [if_pos hj, if_pos hj]; exact ⟨_, rfl⟩
  · rw [if_neg hj, if_neg hj]; exact ⟨_, rfl⟩
theorem call_min2 (hc : X.calm = true) : CallR X (.builtin "min") (fun xs H Q => ∃ i j, xs = [.int i, .int j] ∧ Q (.int (if j < i then j else i)) H) := by
  intro pins s σ H xs us Q I r h
  obtain ⟨i, j, rfl, q⟩ := h
  obtain ⟨u, w', rfl, ⟨t, rfl⟩, ⟨t', rfl⟩⟩ := vals2 r
  refine min_two_ints (I.ok.hd hc) fun h' tk k => ⟨_, H, I.kept k, ?_, q⟩
  by_cases hj : j < i
  · rw [if_pos hj, if_pos hj]; exact ⟨_, rfl⟩
  · rw [if_neg hj, if_neg hj]; exact ⟨_, rfl⟩
theorem call_int1 : CallR X (.type "int") (fun xs H Q => (∃ i, xs = [.int i] ∧ Q (.int i) H) ∨ ∃ k, xs = [.bl k] ∧ Q (.int (if k then 1 else 0)) H) := by
  intro pins s σ H xs us Q I r h
  rcases h with ⟨i, rfl, q⟩ | ⟨k, rfl, q⟩
  · obtain ⟨u, rfl, t, rfl⟩ := vals1 r
    exact call_int_int ⟨.int i, H, I, ⟨_, rfl⟩, q⟩
  · obtain ⟨u, rfl, r1⟩ := vals1 r
    cases r1
    exact call_int_bool ⟨.int (if k then 1 else 0), H, I.tok _, ⟨_, rfl⟩, q⟩
theorem call_bool1 : CallR X (.type "bool") (fun xs H Q => (∃ i, xs = [.int i] ∧ Q (.bl (i != 0)) H) ∨ ∃ k, xs = [.bl k] ∧ Q (.bl k) H) := by
  intro pins s σ H xs us Q I r h
  rcases h with ⟨i, rfl, q⟩ | ⟨k, rfl, q⟩
  · obtain ⟨u, rfl, t, rfl⟩ := vals1 r
    exact call_bool_int ⟨.bl (i != 0), H, I, rfl, q⟩
  · obtain ⟨u, rfl, r1⟩ := vals1 r
    cases r1
    exact call_bool_bool ⟨.bl k, H, I, rfl, q⟩
theorem call_str_int : CallR X (.type "str") (fun xs H Q => ∃ i, xs = [.int i] ∧ i.natAbs.log2 < 1920 ∧ Q (.str (toString i)) H) := by
  intro pins s σ H xs us Q I r h
  obtain ⟨i, rfl, hz, q⟩ := h
  obtain ⟨u, rfl, t, rfl⟩ := vals1 r
  exact PySem.P.str_of_int hz ⟨.str _, H, I.tok _, ⟨_, rfl⟩, q⟩
theorem call_ord : CallR X (.builtin "ord") (fun xs H Q => ∃ x, xs = [.str x] ∧ x.length = 1 ∧ Q (.int (x.cps.getD 0 0 : Nat)) H) := by
  intro pins s σ H xs us Q I r h
  obtain ⟨x, rfl, hz, q⟩ := h
  obtain ⟨u, rfl, t, rfl⟩ := vals1 r
  exact ord_of_one hz ⟨.int _, H, I.tok _, ⟨_, rfl⟩, q⟩
theorem call_chr : CallR X (.builtin "chr") (fun xs H Q => ∃ i, xs = [.int i] ∧ 0 ≤ i ∧ i ≤ 1114111 ∧ Q (.str ⟨#[i.toNat]⟩) H) := by
  intro pins s σ H xs us Q I r h
  obtain ⟨i, rfl, h0, h1, q⟩ := h
  obtain ⟨u, rfl, t, rfl⟩ := vals1 r
  exact chr_of_range h0 h1 ⟨.str _, H, I.tok _, ⟨_, rfl⟩, q⟩
/-- len of a str, a bytes, a list, a tuple -/
def LenV (K : PySem.W.Frag) (x : V) (H : Hp) (n : Nat) : Prop :=
  match x with
  | .str y => y.length ≤ sizeLine ∧ n = y.length
  | .byt y => y.size ≤ sizeLine ∧ n = y.size
  | .ref p => (∃ xs, SqL K H p xs ∧ n = xs.length) ∨ ∃ xs, SqT K H p xs ∧ n = xs.length
  | _ => False
theorem call_len : CallR X (.builtin "len") (fun xs H Q => ∃ x n, xs = [x] ∧ LenV X.K x H n ∧ Q (.int n) H) := by
  intro pins s σ H xs us Q I r h
  obtain ⟨x, n, rfl, e, q⟩ := h
  obtain ⟨u, rfl, rx⟩ := vals1 r
  have hl := line63
  have hs : sizeLine = 16777216 := sizeLine_eq
  cases x with
  | str y =>
    obtain ⟨t, rfl⟩ := rx
    obtain ⟨hy, e'⟩ : y.length ≤ sizeLine ∧ n = y.length := e
    subst e'
    exact len_str (by omega) ⟨.int _, H, I.tok _, ⟨_, rfl⟩, q⟩
  | byt y =>
    obtain ⟨t, rfl⟩ := rx
    obtain ⟨hy, e'⟩ : y.size ≤ sizeLine ∧ n = y.size := e
    subst e'
    exact PySem.W.len_bytes (by omega) ⟨.int _, H, I.tok _, ⟨_, rfl⟩, q⟩
  | ref p =>
    cases rx
    have e' : (∃ xs, SqL X.K H p xs ∧ n = xs.length) ∨ ∃ xs, SqT X.K H p xs ∧ n = xs.length := e
    rcases e' with ⟨xs, hx, e'⟩ | ⟨xs, hx, e'⟩
    · subst e'
      obtain ⟨its, r', pl, hz⟩ := I.list hx
      have hlen := r'.length
      exact Calls.call_len_list pl.isList (by simp only [List.size_toArray]; omega) ⟨.int xs.length, H, I.tok _, ⟨_, by simp only [List.size_toArray]; rw [hlen]⟩, q⟩
    · subst e'
      obtain ⟨its, r', pl, hz⟩ := I.tuple hx
      have hlen := r'.length
      exact len_tuple pl (by simp only [List.size_toArray]; omega) ⟨.int xs.length, H, I.tok _, ⟨_, by simp only [List.size_toArray]; rw [hlen]⟩, q⟩
  | _ => exact (show False from e).elim
/-- divmod: a new tuple -/
theorem call_divmod : CallR X (.builtin "divmod") (fun xs H Q => ∃ i j, xs = [.int i, .int j] ∧ CDiv i j ∧ ∀ p, H p = none → Q (.ref p) (upd H p (.tup [.int (i / j), .int (i % j)]))) := by
  intro pins s σ H xs us Q I r h
  obtain ⟨i, j, rfl, ⟨h1, h2⟩, q⟩ := h
  obtain ⟨u, w', rfl, ⟨t, rfl⟩, ⟨t', rfl⟩⟩ := vals2 r
  refine divmod_int (by omega) ?_ (.inl (PyProof.noPylong_small (by omega)))
  rw [Int.fdiv_eq_ediv_of_nonneg i (by omega), Int.fmod_eq_emod_of_nonneg i (by omega)]
  have hn : H s.heap.objs.size = none := I.hok.fresh (Nat.le_refl _)
  refine ⟨.ref s.heap.objs.size, _, ?_, rfl, q _ hn⟩
  refine I.laid (fun b o e => Heap.get?_push_of_some _ e) (Nat.le_refl _) ⟨by simp only [List.length_cons, List.length_nil]; rw [sizeLine_eq]; decide, [.int (i / j) s.toks, .int (i % j) (s.toks + 1)], .cons ⟨_, rfl⟩ (.cons ⟨_, rfl⟩ .nil), ?_⟩
  exact ⟨_, Heap.get?_push_size s.heap rfl, rfl, 0, rfl⟩
end
end L2

namespace L2
open PySem PySem.Spec PyProof.Rows

/-! ### an instance, its attributes a map -/
structure ObjM (h : Heap) (x dx C : Addr) (mA : Str → Option Value) : Prop where
  obj : h.get? x = some (PySem.W.instObj C dx)
  ns : h.Ns1 dx mA
  ne : dx ≠ x

theorem lookIn_ns {h : Heap} {dx : Addr} {mA : Str → Option Value} (n : h.Ns1 dx mA) : ∃ od, h.get? dx = some od ∧ ∀ name, PySem.W.lookIn name od = some (mA name) := by
  obtain ⟨o, es, ep, ho, hd, hk, _, hm⟩ := n
  refine ⟨o, ho, fun name => ?_⟩
  have e := hm name
  unfold nsFind findBy at e
  rw [← Array.find?_toList] at e
  unfold PySem.W.lookIn
  rw [hd]
  dsimp only
  split
  · rename_i y q
    rw [q] at e
    exact congrArg some e
  · rename_i q
    rw [q] at e
    have a : es.toList.any (·.refKey) = false := by
      rw [List.any_eq_false]
      intro y hy
      obtain ⟨z, t, hkey⟩ := hk y (Array.mem_toList_iff.mp hy)
      simp [DictEntry.refKey, hkey]
    have a' : ¬ es.toList.any (·.refKey) = true := by rw [a]; exact Bool.false_ne_true
    rw [if_neg a']
    exact congrArg some e

theorem ObjM.look {h : Heap} {x dx C : Addr} {mA : Str → Option Value} (I : ObjM h x dx C mA) : ∃ od, PySem.W.InstAt h x (PySem.W.instObj C dx) C (some od) ∧ ∀ name, PySem.W.lookIn name od = some (mA name) :=
  let ⟨od, ho, hl⟩ := lookIn_ns I.ns
  ⟨od, ⟨I.obj, rfl, rfl, ho⟩, hl⟩

section
variable {prog : Program} {w : World} {A : Around} {E : Value → Shared → Prop} {s : Shared} {K : PySem.W.Frag} {x dx C f : Addr} {mA : Str → Option Value} {name : Str} {v : Value}

theorem get_map {expr : Bool} {Q : Value → Shared → Prop} (X : K.In s.heap) (I : ObjM s.heap x dx C mA) (hg : PySem.W.plainGet K C name = true) (hh : PySem.W.hasDictIn K C = true)
    (ha : PySem.W.findIn K (.ref C) name = some none) (hv : mA name = some v) (hv' : PySem.W.handedIn v = true) (h : Q v { s with toks := s.toks + 1 }) :
    wpAny (model prog w) A (getAttr (.ref x) name expr) Q E s := by
  obtain ⟨od, J, hl⟩ := I.look
  exact PySem.W.get_value X J (PySem.W.plainGet_of hg).1 (PySem.W.findObj_own hh ha rfl (by rw [hl, hv])) hv' h

theorem get_const {expr : Bool} {a : Value} {Q : Value → Shared → Prop} (X : K.In s.heap) (I : ObjM s.heap x dx C mA) (hg : PySem.W.plainGet K C name = true) (hh : PySem.W.hasDictIn K C = true)
    (ha : PySem.W.findIn K (.ref C) name = some (some a)) (hn : PySem.W.specialIn K a "__get__" = some none) (hc : PySem.W.copiedNames.contains name = false) (hv : mA name = none) (hv' : PySem.W.handedIn a = true)
    (h : Q a { s with toks := s.toks + 1 }) : wpAny (model prog w) A (getAttr (.ref x) name expr) Q E s := by
  obtain ⟨od, J, hl⟩ := I.look
  exact PySem.W.get_value X J (PySem.W.plainGet_of hg).1 (PySem.W.findObj_cls hh ha hn hv' hc (by rw [hl, hv])) hv' h

theorem get_meth {pl : Sem Bool} {Q : Value × List Value → Shared → Prop} (X : K.In s.heap) (I : ObjM s.heap x dx C mA) (hg : PySem.W.plainGet K C name = true)
    (hf : PySem.W.findIn K (.ref C) name = some (some (.ref f))) (ht : PySem.W.isFn K (.ref f) = true) (hv : mA name = none) (h : Q (.ref f, [.ref x]) s) :
    wpAny (model prog w) A (getMethod (.ref x) name pl) Q E s := by
  obtain ⟨od, J, hl⟩ := I.look
  exact PySem.W.method_fn X J (PySem.W.plainGet_of hg).1 (PySem.W.plainGet_of hg).2 hf (beq_iff_eq.mp ht) (by show (PySem.W.lookIn name od).map (·.isSome) = some false; rw [hl, hv]; rfl) h

theorem set_map {ns : List Str} {Q : Unit → Shared → Prop} (X : K.In s.heap) (I : ObjM s.heap x dx C mA)
    (hs : PySem.W.findIn K (.ref C) "__setattr__" = some (some (.builtin "object.__setattr__"))) (hp : PySem.W.plainOver K C = true) (ht : PySem.W.takerIn K C name = some none) (hh : PySem.W.hasDictIn K C = true)
    (hw : PySem.Within mA ns) (hsz : ns.length ≤ sizeLine)
    (h : ∀ h', ObjM h' x dx C (fun y => if y = name then some v else mA y) → Heap.SameBut dx s.heap h' → Q () { s with heap := h', toks := s.toks + 2 }) :
    wpAny (model prog w) A (setAttr (.ref x) name v) Q E s := by
  obtain ⟨od, J, hl⟩ := I.look
  refine PySem.W.set_plain X J hs (PySem.W.osa_open (s := { s with toks := s.toks + 1 }) (r := none) X J hp ht fun b => ?_)
  obtain ⟨cd, hc, hd'⟩ := PySem.W.any_some hh
  have hx : s.heap.get? x = some ⟨.ref C, some dx, .plain, #[]⟩ := I.obj
  refine wpAny_bind (wpAny_pure (wpAny_bind (wpAny_bind (wpAny_loadPart hx (wpAny_bind (PySem.W.Looks.here (s := { s with toks := s.toks + 1 }) (PySem.W.looks_clsIn X hc) ?_))))))
  rw [hd']
  refine wpAny_pure (a := some dx) (wpAny_bind (wpAny_pure (wpAny_bind ?_)))
  refine wpAny_nsSet1 (s := { s with toks := s.toks + 1 }) I.ns fun h' hn2 hs2 => ?_
  obtain ⟨oD, esD, epD, hoD, hdD, hcD⟩ := hn2.count (PySem.Within.cons name v hw)
  refine wpAny_bind (wpAny_lookBehind hoD (by rw [hdD]; exact pastItsLine_dict (Nat.le_trans hcD (by rw [List.length_cons]; omega))) ?_)
  exact wpAny_pure (h _ ⟨(hs2.2 _ (Ne.symm I.ne)).trans I.obj, hn2, I.ne⟩ hs2)

/-- C(..): the dict at the heap's end, the instance behind it; then its __init__ -/
theorem make_map {R : Result → Shared → Prop} {vs : List Value} {kw : List (Str × Value)} (X : K.In s.heap) (hm : PySem.W.makesIn K C = true)
    (hi : PySem.W.findIn K (.ref C) "__init__" = some (some (.ref f))) (hf : PySem.W.typeIn K (.ref f) = some (.type "function"))
    (h : codeAny (model prog w) (A.under (.builtin "type.__call__" ⟨.ref C :: vs, kw⟩)) (.call (.ref f) ⟨.ref (s.heap.objs.size + 1) :: vs, kw⟩) (PySem.W.InitBack (s.heap.objs.size + 1) R)
      { s with heap := (s.heap.push PySem.W.emptyDict).push (PySem.W.instObj C s.heap.objs.size) }) :
    codeAny (model prog w) A (.call (.ref C) ⟨vs, kw⟩) R s := by
  obtain ⟨hh, g, d, t, os⟩ := s
  exact PySem.W.make_core (PySem.W.makes_of X hm) (PySem.W.looks_findIn X hi) (fun self => PySem.W.bind_fn X self hf) (.inl rfl) h
/-- C() where there is no __init__ but object's -/
theorem make_map0 {R : Result → Shared → Prop} (X : K.In s.heap) (hm : PySem.W.makesIn K C = true)
    (hi : PySem.W.findIn K (.ref C) "__init__" = some (some (.builtin "object.__init__")))
    (hb : ∀ self, PySem.W.Looks (model prog w) s.heap (bindSpecial (.builtin "object.__init__") self) (.builtin "object.__init__", [self]))
    (h : codeAny (model prog w) (A.under (.builtin "type.__call__" ⟨[.ref C], []⟩)) (.call (.builtin "object.__init__") ⟨[.ref (s.heap.objs.size + 1)], []⟩) (PySem.W.InitBack (s.heap.objs.size + 1) R)
      { s with heap := (s.heap.push PySem.W.emptyDict).push (PySem.W.instObj C s.heap.objs.size) }) :
    codeAny (model prog w) A (.call (.ref C) ⟨[], []⟩) R s := by
  obtain ⟨hh, g, d, t, os⟩ := s
  exact PySem.W.make_core (PySem.W.makes_of X hm) (PySem.W.looks_findIn X hi) hb (.inr ⟨rfl, rfl⟩) h
end

/-! ### the attributes as a list of pairs -/
def putF (f : Str) (v : V) : List (Str × V) → List (Str × V)
  | [] => [(f, v)]
  | (g, x) :: r => if g = f then (g, v) :: r else (g, x) :: putF f v r
theorem lookup_putF (f g : Str) (v : V) : ∀ fs : List (Str × V), (putF f v fs).lookup g = if g = f then some v else fs.lookup g
  | [] => by
    show List.lookup g [(f, v)] = _
    by_cases h : g = f
    · have hb : (g == f) = true := beq_iff_eq.mpr h
      simp only [List.lookup, hb, if_pos h]
    · have hb : (g == f) = false := beq_eq_false_iff_ne.mpr h
      simp only [List.lookup, hb, if_neg h]
  | (k, x) :: r => by
    have ih := lookup_putF f g v r
    rw [show putF f v ((k, x) :: r) = (if k = f then (k, v) :: r else (k, x) :: putF f v r) from rfl]
    by_cases hk : k = f
    · rw [if_pos hk]
      by_cases h : g = k
      · have hb : (g == k) = true := beq_iff_eq.mpr h
        simp only [List.lookup, hb, if_pos (h.trans hk)]
      · have hb : (g == k) = false := beq_eq_false_iff_ne.mpr h
        simp only [List.lookup, hb, if_neg (fun e : g = f => h (e.trans hk.symm))]
    · rw [if_neg hk]
      by_cases h : g = k
      · have hb : (g == k) = true := beq_iff_eq.mpr h
        simp only [List.lookup, hb, if_neg (fun e : g = f => hk (h.symm.trans e))]
      · have hb : (g == k) = false := beq_eq_false_iff_ne.mpr h
        simp only [List.lookup, hb]
        exact ih
theorem keys_putF (f : Str) (v : V) : ∀ fs : List (Str × V), f ∈ (putF f v fs).map (·.1) ∧ ∀ g, g ∈ fs.map (·.1) → g ∈ (putF f v fs).map (·.1)
  | [] => ⟨by simp [putF], fun g h => by simp at h⟩
  | (k, x) :: r => by
    obtain ⟨i1, i2⟩ := keys_putF f v r
    rw [show putF f v ((k, x) :: r) = (if k = f then (k, v) :: r else (k, x) :: putF f v r) from rfl]
    by_cases hk : k = f
    · rw [if_pos hk]
      subst hk
      exact ⟨by simp, fun g h => by simpa using h⟩
    · rw [if_neg hk]
      refine ⟨?_, fun g h => ?_⟩
      · rw [List.map_cons]
        exact List.mem_cons_of_mem _ i1
      · rw [List.map_cons] at h ⊢
        rcases List.mem_cons.mp h with e | e
        · exact List.mem_cons.mpr (.inl e)
        · exact List.mem_cons_of_mem _ (i2 g e)
theorem length_putF (f : Str) (v : V) : ∀ fs : List (Str × V), (putF f v fs).length ≤ fs.length + 1
  | [] => by simp [putF]
  | (k, x) :: r => by
    have ih := length_putF f v r
    rw [show putF f v ((k, x) :: r) = (if k = f then (k, v) :: r else (k, x) :: putF f v r) from rfl]
    by_cases hk : k = f
    · rw [if_pos hk, List.length_cons, List.length_cons]; omega
    · rw [if_neg hk, List.length_cons, List.length_cons]; omega

theorem RelO.some_of {v : V} {o : Option Value} (r : RelO (some v) o) : ∃ u, o = some u ∧ RelV v u := by
  cases o with
  | none => exact (show False from r).elim
  | some u => exact ⟨u, rfl, r⟩
theorem RelO.none_of {o : Option Value} (r : RelO none o) : o = none := by
  cases o with
  | none => rfl
  | some u => exact (show False from r).elim
theorem handed_of {v : V} {u : Value} (r : RelV v u) : PySem.W.handedIn u = true := by
  cases v with
  | non => cases (show u = Value.none from r); rfl
  | bl b => cases (show u = Value.bool b from r); rfl
  | int i => obtain ⟨t, e⟩ := (show ∃ t, u = Value.int i t from r); cases e; rfl
  | str x => obtain ⟨t, e⟩ := (show ∃ t, u = Value.str x t from r); cases e; rfl
  | byt b => obtain ⟨t, e⟩ := (show ∃ t, u = Value.bytes b t from r); cases e; rfl
  | flt b => obtain ⟨t, e⟩ := (show ∃ t, u = Value.float b t from r); cases e; rfl
  | ref a => cases (show u = Value.ref a from r); rfl
  | ty n => cases (show u = Value.type n from r); rfl

section
variable {P : Program} {w : World} {H H' : Hp} {h h' : Heap} {a C dx : Addr} {fs fs' : List (Str × V)}
theorem ins_get (hok : HOk P w H h) (e : H a = some (.ins C dx fs)) : ∃ mA, ObjM h a dx C mA ∧ (∀ f, RelO (fs.lookup f) (mA f)) ∧ PySem.Within mA (fs.map (·.1)) ∧ fs.length ≤ 1000 ∧ H dx = some (.own a) := by
  obtain ⟨d, z, ne, ob, mA, n, r, q⟩ := (show ObjOk P w H h a (.ins C dx fs) from hok a _ e)
  exact ⟨mA, ⟨ob, n, ne⟩, r, q, z, d⟩
end

/-! ### what of the text a class must have -/
structure Cls (K : PySem.W.Frag) (C : Addr) : Prop where
  pg : PySem.W.plainGet K C Str.empty = true
  hd : PySem.W.hasDictIn K C = true
  po : PySem.W.plainOver K C = true
  sa : PySem.W.findIn K (.ref C) "__setattr__" = some (some (.builtin "object.__setattr__"))
theorem Cls.get {K : PySem.W.Frag} {C : Addr} (c : Cls K C) (f : Str) : PySem.W.plainGet K C f = true := c.pg
/-- no class of it has the name -/
def NoAttr (K : PySem.W.Frag) (C : Addr) (f : Str) : Prop := PySem.W.findIn K (.ref C) f = some none
theorem NoAttr.taker {K : PySem.W.Frag} {C : Addr} {f : Str} (n : NoAttr K C f) : PySem.W.takerIn K C f = some none := by
  unfold PySem.W.takerIn
  rw [show PySem.W.findIn K (.ref C) f = some none from n]
  rfl
/-- a constant of the class -/
structure Con (K : PySem.W.Frag) (C : Addr) (f : Str) (v : V) (u : Value) : Prop where
  at_ : PySem.W.findIn K (.ref C) f = some (some u)
  rel : RelV v u
  get : PySem.W.specialIn K u "__get__" = some none
  cp : PySem.W.copiedNames.contains f = false
/-- a method: a plain def of the class or of one above it -/
structure Meth (K : PySem.W.Frag) (C : Addr) (m : Str) (f : Addr) : Prop where
  at_ : PySem.W.findIn K (.ref C) m = some (some (.ref f))
  fn : PySem.W.isFn K (.ref f) = true
  kp : PySem.W.keepIn K (.ref f) = true

section
variable {X : Cx} {pins : List (Addr × Obj)} {σ : St} {H : Hp} {s : Shared} {a C dx : Addr} {fs : List (Str × V)} {f : Str} {v : V} {A : Around} {E : Value → Shared → Prop}

theorem getattr_ok {b : Bool} {Q : Value → Shared → Prop} (I : Inv X pins σ H s) (e : H a = some (.ins C dx fs)) (c : Cls X.K C) (n : NoAttr X.K C f) (l : fs.lookup f = some v)
    (h : ∀ u s', Inv X pins σ H s' → RelV v u → Q u s') : wpAny (model X.prog X.w) A (getAttr (.ref a) f b) Q E s := by
  obtain ⟨mA, O, r, _, _, _⟩ := ins_get I.hok e
  obtain ⟨u, hu, ru⟩ := RelO.some_of (v := v) (o := mA f) (by rw [← l]; exact r f)
  exact get_map I.kIn O (c.get f) c.hd n hu (handed_of ru) (h u _ (I.tok _) ru)

theorem getcon_ok {b : Bool} {u : Value} {Q : Value → Shared → Prop} (I : Inv X pins σ H s) (e : H a = some (.ins C dx fs)) (c : Cls X.K C) (k : Con X.K C f v u) (l : fs.lookup f = none)
    (h : ∀ s', Inv X pins σ H s' → Q u s') : wpAny (model X.prog X.w) A (getAttr (.ref a) f b) Q E s := by
  obtain ⟨mA, O, r, _, _, _⟩ := ins_get I.hok e
  have hn : mA f = none := RelO.none_of (by rw [← l]; exact r f)
  exact get_const I.kIn O (c.get f) c.hd k.at_ k.get k.cp hn (handed_of k.rel) (h _ (I.tok _))

theorem getmeth_ok {m : Str} {g : Addr} {pl : Sem Bool} {Q : Value × List Value → Shared → Prop} (I : Inv X pins σ H s) (e : H a = some (.ins C dx fs)) (c : Cls X.K C) (k : Meth X.K C m g) (l : fs.lookup m = none)
    (h : Q (.ref g, [.ref a]) s) : wpAny (model X.prog X.w) A (getMethod (.ref a) m pl) Q E s := by
  obtain ⟨mA, O, r, _, _, _⟩ := ins_get I.hok e
  have hn : mA m = none := RelO.none_of (by rw [← l]; exact r m)
  exact get_meth I.kIn O (c.get m) k.at_ k.fn hn h

theorem setattr_ok {y : V} {u : Value} {Q : Unit → Shared → Prop} (I : Inv X pins σ H s) (e : H a = some (.ins C dx fs)) (c : Cls X.K C) (n : NoAttr X.K C f) (hl : fs.length < 1000) (ry : RelV y u)
    (h : ∀ s', Inv X pins σ (upd H a (.ins C dx (putF f y fs))) s' → Q () s') : wpAny (model X.prog X.w) A (setAttr (.ref a) f u) Q E s := by
  obtain ⟨mA, O, r, wi, _, ho⟩ := ins_get I.hok e
  have hz : (fs.map (·.1)).length ≤ sizeLine := by rw [List.length_map, sizeLine_eq]; omega
  refine set_map I.kIn O c.sa c.po n.taker c.hd wi hz fun h' O' sb => h _ ?_
  have hd : ∃ o, h'.get? dx = some o := let ⟨o, _, _, e', _⟩ := O'.ns; ⟨o, e'⟩
  refine I.write (x := a) (e := dx) (by rw [e]; exact True.intro) (.inr ho) (fun b q hb z => (sb.2 b hb).trans z) hd ?_
  refine ⟨by rw [upd_ne O.ne]; exact ho, ?_, O.ne, O'.obj, _, O'.ns, fun g => ?_, fun g hg => ?_⟩
  · have := length_putF f y fs; omega
  · show RelO ((putF f y fs).lookup g) (if g = f then some u else mA g)
    rw [lookup_putF]
    by_cases q : g = f
    · rw [if_pos q, if_pos q]; exact ry
    · rw [if_neg q, if_neg q]; exact r g
  · by_cases q : g = f
    · rw [q]; exact (keys_putF f y fs).1
    · refine (keys_putF f y fs).2 g (wi g fun z => hg ?_)
      show (if g = f then some u else mA g) = none
      rw [if_neg q]; exact z

/-- a new instance, tracked, without attributes -/
theorem Inv.made (I : Inv X pins σ H s) : Inv X pins σ (upd (upd H s.heap.objs.size (.own (s.heap.objs.size + 1))) (s.heap.objs.size + 1) (.ins C s.heap.objs.size []))
    { s with heap := (s.heap.push PySem.W.emptyDict).push (PySem.W.instObj C s.heap.objs.size) } := by
  have e1 : (s.heap.push PySem.W.emptyDict).get? s.heap.objs.size = some PySem.W.emptyDict := Heap.get?_push_size s.heap rfl
  have e2 : ((s.heap.push PySem.W.emptyDict).push (PySem.W.instObj C s.heap.objs.size)).get? (s.heap.objs.size + 1) = some (PySem.W.instObj C s.heap.objs.size) := by
    have := Heap.get?_push_size (s.heap.push PySem.W.emptyDict) (o := PySem.W.instObj C s.heap.objs.size) rfl
    rwa [Heap.size_push] at this
  have e3 : (s.heap.push PySem.W.emptyDict).Ns s.heap.objs.size (fun _ => none) := ⟨PySem.W.emptyDict, #[], _, e1, rfl, (fun e he => absurd he (by simp)), fun _ => rfl⟩
  have I1 := I.laid (a := s.heap.objs.size) (o := .own (s.heap.objs.size + 1)) (h' := s.heap.push PySem.W.emptyDict) (t' := s.toks) (fun b u q => Heap.get?_push_of_some _ q) (Nat.le_refl _) ⟨_, e1⟩
  refine I1.laid (a := s.heap.objs.size + 1) (o := .ins C s.heap.objs.size []) (t' := s.toks) (fun b u q => Heap.get?_push_of_some _ q) (Nat.le_of_eq (Heap.size_push _ _)) ?_
  have ne : s.heap.objs.size ≠ s.heap.objs.size + 1 := Nat.ne_of_lt (Nat.lt_succ_self _)
  refine ⟨by rw [upd_ne ne, upd_same], Nat.zero_le _, ne, e2, fun _ => none, (Heap.Ns1.of_empty e3).at fun o q => Heap.get?_push_of_some _ q, fun _ => True.intro, fun y hy => absurd rfl hy⟩

/-- e.f where nothing but the object is asked: through attributeBase (super) and the last hold -/
theorem attr_of {prog : Program} {w : World} {env : Env} {e : Expr} {f : Str} {pos : Pos} {s : Shared} {Q : Value → Shared → Prop} (hb : attributeBase e f env (eval e env) = eval e env)
    (h : wpAny (model prog w) A (eval e env) (fun o s₁ => wpAny (model prog w) A (getAttr o f true) Q E s₁) E s) : wpAny (model prog w) A (eval (.Attribute e f pos) env) Q E s :=
  Attribute_any_ h (by rw [arm_eval_Attribute, hb])
end

/-! ### readings and rules -/
/-- e.f, an attribute of the instance -/
def tFld (K : PySem.W.Frag) (ta : TE) (f : Str) : TE := fun σ H Q => ta σ H fun x H1 => ∃ a C dx fs v, x = .ref a ∧ H1 a = some (.ins C dx fs) ∧ Cls K C ∧ NoAttr K C f ∧ fs.lookup f = some v ∧ Q v H1
/-- e.f, a constant of the class -/
def tCon (K : PySem.W.Frag) (ta : TE) (f : Str) : TE := fun σ H Q => ta σ H fun x H1 => ∃ a C dx fs v u, x = .ref a ∧ H1 a = some (.ins C dx fs) ∧ Cls K C ∧ Con K C f v u ∧ fs.lookup f = none ∧ Q v H1
/-- e.f = value -/
def sFld (K : PySem.W.Frag) (ta tv : TE) (f : Str) : TS := fun D σ H => tv σ H fun y H1 => ta σ H1 fun x H2 => ∃ a C dx fs, x = .ref a ∧ H2 a = some (.ins C dx fs) ∧ Cls K C ∧ NoAttr K C f ∧ fs.length < 1000 ∧
  D.nx σ (upd H2 a (.ins C dx (putF f y fs)))
/-- an augmented operator on two values -/
def InOp (X : Cx) (op : Operator) (rd : V → V → Hp → VK → Prop) : Prop :=
  ∀ (pins : List (Addr × Obj)) (s : Shared) (σ : St) (H : Hp) (x y : V) (u v : Value) (Q : VK), Inv X pins σ H s → RelV x u → RelV y v → rd x y H Q → wpAny (model X.prog X.w) X.A (inplaceOp op u v) (EP X pins σ Q) X.xe s
/-- e.f op= value -/
def sFldAug (K : PySem.W.Frag) (ta tv : TE) (rd : V → V → Hp → VK → Prop) (f : Str) : TS := fun D σ H => ta σ H fun x H1 => ∃ a C dx fs v, x = .ref a ∧ H1 a = some (.ins C dx fs) ∧ Cls K C ∧ NoAttr K C f ∧ fs.lookup f = some v ∧
  tv σ H1 fun y H2 => rd v y H2 fun z H3 => ∃ dx' fs', H3 a = some (.ins C dx' fs') ∧ fs'.length < 1000 ∧ D.nx σ (upd H3 a (.ins C dx' (putF f z fs')))

section
variable {X : Cx} {o e value : Expr} {f : Str} {pos pos' tpos : Pos} {ta tv : TE}
theorem pe_fld (he : PE X e ta) (hb : attributeBase e f X.env (eval e X.env) = eval e X.env) : PE X (.Attribute e f pos) (tFld X.K ta f) := by
  intro pins s σ H Q I h
  refine attr_of hb (thn (he pins s σ H _ I h) fun u s1 ⟨x, H1, I1, rx, a, C, dx, fs, v, ex, ea, c, n, l, q⟩ => ?_)
  subst ex
  obtain rfl : u = Value.ref a := rx
  exact getattr_ok I1 ea c n l fun u' s2 I2 ru => ⟨v, H1, I2, ru, q⟩
theorem pe_con (he : PE X e ta) (hb : attributeBase e f X.env (eval e X.env) = eval e X.env) : PE X (.Attribute e f pos) (tCon X.K ta f) := by
  intro pins s σ H Q I h
  refine attr_of hb (thn (he pins s σ H _ I h) fun u s1 ⟨x, H1, I1, rx, a, C, dx, fs, v, u0, ex, ea, c, k, l, q⟩ => ?_)
  subst ex
  obtain rfl : u = Value.ref a := rx
  exact getcon_ok I1 ea c k l fun s2 I2 => ⟨v, H1, I2, k.rel, q⟩
theorem ps_fld (ha : PE X o ta) (hv : PE X value tv) (hs : swapsWith value (some (.Attribute o f pos')) pos.line X.env = pure false) : PS X (.Assign [.Attribute o f pos'] value pos) (sFld X.K ta tv f) := by
  intro pins s σ H D I h
  refine plainObj_wpAny_Assign_Attribute (thn (hv pins s σ H _ I h) fun u s1 ⟨y, H1, I1, ry, q⟩ => thn (ha pins s1 σ H1 _ I1 q) fun ov s2 ⟨x, H2, I2, rx, a, C, dx, fs, ex, ea, c, n, l, q2⟩ => ?_) hs
  subst ex
  obtain rfl : ov = Value.ref a := rx
  exact setattr_ok I2 ea c n l ry fun s3 I3 => ⟨σ, _, I3, q2⟩
theorem ps_fldaug {op : Operator} {rd : V → V → Hp → VK → Prop} (ha : PE X o ta) (hv : PE X value tv) (hop : InOp X op rd) : PS X (.AugAssign (.Attribute o f tpos) op value pos) (sFldAug X.K ta tv rd f) := by
  intro pins s σ H D I h
  refine wpAny_AugAssign_AttributeAny (thn (ha pins s σ H _ I h) fun ov s1 ⟨x, H1, I1, rx, a, C, dx, fs, v, ex, ea, c, n, l, q⟩ => ?_)
  subst ex
  obtain rfl : ov = Value.ref a := rx
  refine getattr_ok I1 ea c n l fun u s2 I2 ru => thn (hv pins s2 σ H1 _ I2 q) fun w3 s3 ⟨y, H2, I3, ry, q3⟩ => thn (hop pins s3 σ H2 v y u w3 _ I3 ru ry q3) fun w4 s4 ⟨z, H3, I4, rz, dx', fs', ea', l', q4⟩ => ?_
  exact setattr_ok I4 ea' c n l' rz fun s5 I5 => ⟨σ, _, I5, q4⟩
def rAdd : V → V → Hp → VK → Prop := fun x y H Q => ∃ i j, x = .int i ∧ y = .int j ∧ Q (.int (i + j)) H
def rSub : V → V → Hp → VK → Prop := fun x y H Q => ∃ i j, x = .int i ∧ y = .int j ∧ Q (.int (i - j)) H
theorem in_add : InOp X .Add rAdd := by
  rintro pins s σ H x y u v Q I rx ry ⟨i, j, rfl, rfl, q⟩
  obtain ⟨t, rfl⟩ := (show ∃ t, u = Value.int i t from rx)
  obtain ⟨t', rfl⟩ := (show ∃ t', v = Value.int j t' from ry)
  exact PyProof.Rows.iadd_int ⟨.int (i + j), H, I.tok _, ⟨_, rfl⟩, q⟩
theorem in_sub : InOp X .Sub rSub := by
  rintro pins s σ H x y u v Q I rx ry ⟨i, j, rfl, rfl, q⟩
  obtain ⟨t, rfl⟩ := (show ∃ t, u = Value.int i t from rx)
  obtain ⟨t', rfl⟩ := (show ∃ t', v = Value.int j t' from ry)
  exact PyProof.Rows.isub_int ⟨.int (i - j), H, I.tok _, ⟨_, rfl⟩, q⟩

/-- what is between an instance and its method: the tree of a method call -/
theorem methcall_of {pl : Sem Bool} {m : Str} {apos : Pos} {args : List Expr} {pins : List (Addr × Obj)} {s : Shared} {σ : St} {H : Hp} {Q : Value → Shared → Prop} {te : TE} (he : PE X e te) (I : Inv X pins σ H s)
    (h : te σ H fun x H1 => ∃ a C dx fs g, x = .ref a ∧ H1 a = some (.ins C dx fs) ∧ Cls X.K C ∧ Meth X.K C m g ∧ fs.lookup m = none ∧
      ∀ s1, Inv X pins σ H1 s1 → wpAny (model X.prog X.w) X.A (callWith pos (.ref g) [.ref a] (backTo pos (starEach args X.env)) (backToKw pos (keywordEach [] X.env))) Q X.xe s1)
    (ht : eval (.Call (.Attribute e m apos) args [] pos) X.env = (do
      let ov ← eval e X.env
      standAt apos.atName
      let (f, first) ← holding [ov] (getMethod ov m pl)
      callWith pos f first (backTo pos (starEach args X.env)) (backToKw pos (keywordEach [] X.env)))) :
    wpAny (model X.prog X.w) X.A (eval (.Call (.Attribute e m apos) args [] pos) X.env) Q X.xe s := by
  refine PySem.W.methodCall_KW (pl := pl) (thn (he pins s σ H _ I h) fun u s1 ⟨x, H1, I1, rx, a, C, dx, fs, g, ex, ea, c, k, l, q⟩ => ?_) ht
  subst ex
  obtain rfl : u = Value.ref a := rx
  exact getmeth_ok I1 ea c k l (q s1 I1)
end

/-! ### isinstance -/
section
variable {X : Cx} {pins : List (Addr × Obj)} {σ : St} {H : Hp} {s : Shared} {A : Around} {E : Value → Shared → Prop} {Q : Value → Shared → Prop} {c : Value} {b : Bool}
/-- the type of a value, as the fragment's deciders take it; for an instance its class -/
inductive TyOf (K : PySem.W.Frag) (H : Hp) : V → Value → Prop where
  | non : TyOf K H .non (.type "NoneType")
  | bl (x : Bool) : TyOf K H (.bl x) (.type "bool")
  | int (i : Int) : TyOf K H (.int i) (.type "int")
  | str (x : Str) : TyOf K H (.str x) (.type "str")
  | flt (x : UInt64) : TyOf K H (.flt x) (.type "float")
  | lst {a : Addr} {xs : List V} (e : H a = some (.lst xs)) : TyOf K H (.ref a) (.type "list")
  | frz {a : Addr} {o : Obj} {xs : List V} (e : H a = some (.frz o (.lst xs))) : TyOf K H (.ref a) (.type "list")
  | tup {a : Addr} {xs : List V} (e : H a = some (.tup xs)) : TyOf K H (.ref a) (.type "tuple")
  | dK {a : Addr} {kvs : List (Key × V)} (e : H a = some (.dK kvs)) : TyOf K H (.ref a) (.type "dict")
  | dT {a : Addr} {kvs : List (List Key × V)} (e : H a = some (.dT kvs)) : TyOf K H (.ref a) (.type "dict")
  | ins {a C dx : Addr} {fs : List (Str × V)} (e : H a = some (.ins C dx fs)) (cl : Cls K C) (ha : PySem.W.findIn K (.ref C) "__class__" = some (some (.builtin "object.__class__")))
      (hn : PySem.W.specialIn K (.builtin "object.__class__") "__get__" = some (some (.builtin "getset_descriptor.__get__"))) (htk : PySem.W.takesIn K (.builtin "object.__class__") = some true)
      (hm : PySem.W.mroIn K C (.type "object") = some true) : TyOf K H (.ref a) (.ref C)
/-- isinstance(x, c) for one class c, a built-in or an own one: kitOne's answer -/
theorem isinst_ok {x : V} {u t : Value} (I : Inv X pins σ H s) (rx : RelV x u) (ty : TyOf X.K H x t) (e : PySem.W.kitOne X.K t c = some b) (h : ∀ tk, Q (.bool b) { s with toks := tk }) :
    wpAny (model X.prog X.w) A (call (.builtin "isinstance") [u, c]) Q E s := by
  cases ty with
  | non => cases (show u = Value.none from rx); exact PySem.W.kia_one PySem.W.kitx_none I.kIn True.intro e (fun z => nomatch z) h
  | bl y => cases (show u = Value.bool y from rx); exact PySem.W.kia_one PySem.W.kitx_bool I.kIn True.intro e (fun z => nomatch z) h
  | int i => obtain ⟨t, q⟩ := (show ∃ t, u = Value.int i t from rx); cases q; exact PySem.W.kia_one PySem.W.kitx_int I.kIn True.intro e (fun z => nomatch z) h
  | str y => obtain ⟨t, q⟩ := (show ∃ t, u = Value.str y t from rx); cases q; exact PySem.W.kia_one PySem.W.kitx_str I.kIn True.intro e (fun z => nomatch z) h
  | flt y => obtain ⟨t, q⟩ := (show ∃ t, u = Value.float y t from rx); cases q; exact PySem.W.kia_one PySem.W.kitx_float I.kIn True.intro e (fun z => nomatch z) h
  | @lst a xs ea =>
    cases (show u = Value.ref a from rx)
    obtain ⟨_, _, n, _, h1⟩ := (show ObjOk X.prog X.w H s.heap a (.lst xs) from I.hok a _ ea)
    exact PySem.W.kia_one PySem.W.kitx_list I.kIn ⟨_, h1, rfl⟩ e (fun z => nomatch z) h
  | @frz a ob xs ea =>
    cases (show u = Value.ref a from rx)
    obtain ⟨_, _, _, n, _, h1⟩ := (show ObjOk X.prog X.w H s.heap a (.frz ob (.lst xs)) from I.hok a _ ea)
    exact PySem.W.kia_one PySem.W.kitx_list I.kIn ⟨_, h1, rfl⟩ e (fun z => nomatch z) h
  | @tup a xs ea =>
    cases (show u = Value.ref a from rx)
    obtain ⟨_, _, _, p⟩ := (show ObjOk X.prog X.w H s.heap a (.tup xs) from I.hok a _ ea)
    obtain ⟨o, h1, h2, _⟩ := p
    exact PySem.W.kia_one PySem.W.kitx_tuple I.kIn ⟨o, h1, h2⟩ e (fun z => nomatch z) h
  | @dK a kvs ea =>
    cases (show u = Value.ref a from rx)
    obtain ⟨_, _, vs, _, p⟩ := (show ObjOk X.prog X.w H s.heap a (.dK kvs) from I.hok a _ ea)
    obtain ⟨o, es, ep, h1, h2, _⟩ := p
    exact PySem.W.kia_one PySem.W.kitx_dict I.kIn ⟨o, h1, h2.1⟩ e (fun z => nomatch z) h
  | @dT a kvs ea =>
    cases (show u = Value.ref a from rx)
    obtain ⟨_, _, xs, _, o, es, ep, h1, h2, _⟩ := (show ObjOk X.prog X.w H s.heap a (.dT kvs) from I.hok a _ ea)
    exact PySem.W.kia_one PySem.W.kitx_dict I.kIn ⟨o, h1, h2.1⟩ e (fun z => nomatch z) h
  | @ins a C dx fs ea cl ha hn htk hm =>
    cases (show u = Value.ref a from rx)
    obtain ⟨mA, O, _⟩ := ins_get I.hok ea
    obtain ⟨od, J, _⟩ := O.look
    exact PySem.W.kia_one (PySem.W.kitx_own (cl.get _) cl.hd ha hn htk hm) I.kIn J e (fun z => nomatch z) h
end
end L2

namespace L2
open PySem PySem.Spec PyProof.Rows

/-! ### room -/
structure Room (k : Nat) (A : Around) : Prop where
  hd : A.handled = none
  dp : A.depth + 3 * k + 5 < recursionLimit
  un : A.units + 16 * k + 200 < cLine
theorem Room.mono {j k : Nat} {A : Around} (r : Room k A) (h : j ≤ k) : Room j A := ⟨r.hd, by have := r.dp; omega, by have := r.un; omega⟩
theorem Room.deeper {k : Nat} {A : Around} (r : Room (k + 1) A) (env : Env) : Room k (A.deeper env) :=
  ⟨r.hd, by have := r.dp; show A.depth + 1 + 3 * k + 5 < _; omega, by have := r.un; show A.units + 3 + 16 * k + 200 < _; omega⟩
theorem Room.in1 {k : Nat} {A : Around} (r : Room (k + 1) A) : Room k A.in1 :=
  ⟨r.hd, by have := r.dp; show A.depth + 3 * k + 5 < _; omega, by have := r.un; show A.units + 1 + 16 * k + 200 < _; omega⟩
theorem make_depth {A : Around} {C : Addr} {us : List Value} {kw : List (Str × Value)} : (A.under (.builtin "type.__call__" ⟨.ref C :: us, kw⟩)).depth = A.depth + 1 := by
  first | rfl | simp [Around.under, Code.weight, Code.isCreation, Code.isGuard, Code.isCaller, Code.frames, Code.isFrame, guardIds]
theorem make_units {A : Around} {C : Addr} {us : List Value} {kw : List (Str × Value)} : (A.under (.builtin "type.__call__" ⟨.ref C :: us, kw⟩)).units = A.units + 1 := by
  first | rfl | simp [Around.under, Code.cUnits, Code.frames, Code.isFrame]
theorem Room.make {k : Nat} {A : Around} (r : Room (k + 1) A) (C : Addr) (us : List Value) (kw : List (Str × Value)) : Room k (A.under (.builtin "type.__call__" ⟨.ref C :: us, kw⟩)) :=
  ⟨r.hd, by have := r.dp; rw [make_depth]; omega, by have := r.un; rw [make_units]; omega⟩
theorem Room.depth {k : Nat} {A : Around} (r : Room k A) : A.depth < recursionLimit := by have := r.dp; omega
theorem Room.units {k : Nat} {A : Around} (r : Room k A) : A.units + 64 < cLine := by have := r.un; omega
theorem Room.units0 {k : Nat} {A : Around} (r : Room k A) : A.units < cLine := by have := r.un; omega

/-! ### argument lists and displays -/
def tNil : TA := fun _ H Q => Q [] H
def tCons (ta : TE) (tr : TA) : TA := fun σ H Q => ta σ H fun x H1 => tr σ H1 fun xs H2 => Q (x :: xs) H2
section
variable {X : Cx} {e : Expr} {es : List Expr} {te : TE} {t : TA} {pos : Pos}
theorem pa_nil : PA X [] tNil := fun _ _ _ _ H Q I h => Calls.spliced_nil ⟨[], H, I, .nil, h⟩
theorem pa_cons (ha : PE X e te) (hr : PA X es t) (hs : starEach (e :: es) X.env = (false, eval e X.env) :: starEach es X.env := by rfl) : PA X (e :: es) (tCons te t) := by
  intro pos pins s σ H Q I h
  rw [hs]
  show wpAny _ _ (spliced ((false, eval e X.env) :: backTo pos (starEach es X.env))) _ _ s
  refine Calls.spliced_cons (thn (ha pins s σ H _ I h) fun u s1 ⟨x, H1, I1, r1, q1⟩ => ?_)
  exact thn (hr pos pins s1 σ H1 _ I1 q1) fun us s2 ⟨xs, H2, I2, r2, q2⟩ => ⟨x :: xs, H2, I2, .cons r1 r2, q2⟩

/-- a tuple, a list of written items -/
def tTup (t : TA) : TE := fun σ H Q => t σ H fun xs H1 => xs.length ≤ sizeLine ∧ ∀ p, H1 p = none → Q (.ref p) (upd H1 p (.tup xs))
def tLst (t : TA) : TE := fun σ H Q => t σ H fun xs H1 => xs.length ≤ sizeLine ∧ ∀ p, H1 p = none → Q (.ref p) (upd H1 p (.lst xs))
theorem pe_tup {x1} (h : PA X es t) : PE X (.Tuple es x1 pos) (tTup t) := by
  intro pins s σ H Q I hq
  refine wpAny_Tuple_spliced (thn (h pos pins s σ H _ I hq) fun us s1 ⟨xs, H1, I1, r, z, q⟩ => ⟨by rw [← r.length]; exact z, ?_⟩)
  have hf : H1 s1.heap.objs.size = none := I1.hok.fresh (Nat.le_refl _)
  refine ⟨.ref s1.heap.objs.size, upd H1 s1.heap.objs.size (.tup xs), I1.laid (t' := s1.toks) (fun b u e => Heap.get?_push_of_some _ e) (Nat.le_refl _) ?_, rfl, q _ hf⟩
  exact ⟨z, us, r, ⟨_, Heap.get?_push_size _ rfl, rfl, _, rfl⟩⟩
theorem pe_lst (h : PA X es t) : PE X (.List es pos) (tLst t) := by
  intro pins s σ H Q I hq
  refine wpAny_List_spliced (thn (h pos pins s σ H _ I hq) fun us s1 ⟨xs, H1, I1, r, z, q⟩ => ⟨by rw [← r.length]; exact z, ?_⟩)
  have hf : H1 s1.heap.objs.size = none := I1.hok.fresh (Nat.le_refl _)
  refine ⟨.ref s1.heap.objs.size, upd H1 s1.heap.objs.size (.lst xs), I1.laid (t' := s1.toks) (fun b u e => Heap.get?_push_of_some _ e) (Nat.le_refl _) ?_, rfl, q _ hf⟩
  exact ⟨z, us, 0, r, Heap.get?_push_size _ rfl⟩
end

/-! ### what a def promises -/
/-- a def's promise: the bound arguments in the parameters' order, the heap, the wanted end, the wanted exception -/
abbrev Sp := List V → Hp → VK → XK → Prop
/-- how an exception lies behind a call (file 08 gives it): the callers' frames, abstract heap and state ahead of the call, the wish, the exception, the state -/
abbrev CXT := List Env → Hp → Shared → XK → Value → Shared → Prop

/-- the state at a call -/
structure Env0 (P : Program) (w : World) (K : PySem.W.Frag) (mg : Str → Option Value) (base : Heap) (A : Around) (outer : List Env) (s : Shared) (H : Hp) : Prop where
  frames : A.frames = some outer
  mod : Mod K mg base
  bs : ∀ b o, base.get? b = some o → s.heap.get? b = some o ∧ H b = none
  bsz : base.objs.size ≤ s.heap.objs.size
  funs : s.heap.FunFrames base outer
  frf : ∀ b ∈ frs outer, H b = none
  hok : HOk P w H s.heap
  bare : AllBare s.gens
/-- a call's end -/
def CE (outer : List Env) (P : Program) (w : World) (H : Hp) (s : Shared) (Q : VK) (u : Value) (s' : Shared) : Prop :=
  ∃ v H', s'.os = s.os ∧ AllBare s'.gens ∧ Un (frs outer) [] H H' s.heap s'.heap ∧ HOk P w H' s'.heap ∧ RelV v u ∧ Q v H'
def CR (CX : CXT) (outer : List Env) (P : Program) (w : World) (H : Hp) (s : Shared) (Q : VK) (E : XK) (r : Result) (s' : Shared) : Prop :=
  match r with
  | .ok (.ret u) => CE outer P w H s Q u s'
  | .ok _ => False
  | .error e => CX outer H s E e s'
structure FnOk (P : Program) (w : World) (K : PySem.W.Frag) (mg : Str → Option Value) (base : Heap) (CX : CXT) (k : Nat) (f : Addr) (fd : FuncData) (ps : List Str) (sp : Sp) : Prop where
  len : ∀ vs H Q E, sp vs H Q E → vs.length = ps.length
  run : ∀ (A : Around) (outer : List Env) (s : Shared) (H : Hp) (args : Args) (us : List Value) (vs : List V) (Q : VK) (E : XK), Room k A → Env0 P w K mg base A outer s H → BindsTo s fd args (ps.zip us) → Vals vs us → sp vs H Q E →
    codeAny (model P w) A (.call (.ref f) args) (CR CX outer P w H s Q E) s
theorem FnOk.mono {P : Program} {w : World} {K : PySem.W.Frag} {mg : Str → Option Value} {base : Heap} {CX : CXT} {j k : Nat} {f : Addr} {fd : FuncData} {ps : List Str} {sp : Sp} (F : FnOk P w K mg base CX j f fd ps sp) (h : j ≤ k) :
    FnOk P w K mg base CX k f fd ps sp := ⟨F.len, fun A outer s H args us vs Q E hr => F.run A outer s H args us vs Q E (hr.mono h)⟩
/-- a weaker promise -/
theorem FnOk.imp {P : Program} {w : World} {K : PySem.W.Frag} {mg : Str → Option Value} {base : Heap} {CX : CXT} {k : Nat} {f : Addr} {fd : FuncData} {ps : List Str} {sp sp' : Sp} (F : FnOk P w K mg base CX k f fd ps sp)
    (h : ∀ vs H Q E, sp' vs H Q E → sp vs H Q E) : FnOk P w K mg base CX k f fd ps sp' :=
  ⟨fun vs H Q E q => F.len vs H Q E (h _ _ _ _ q), fun A outer s H args us vs Q E hr he hb hv hs => F.run A outer s H args us vs Q E hr he hb hv (h _ _ _ _ hs)⟩

theorem Env0.make {P : Program} {w : World} {K : PySem.W.Frag} {mg : Str → Option Value} {base : Heap} {A : Around} {outer : List Env} {s : Shared} {H : Hp} (e : Env0 P w K mg base A outer s H) (C : Addr) (us : List Value) (kw : List (Str × Value)) :
    Env0 P w K mg base (A.under (.builtin "type.__call__" ⟨.ref C :: us, kw⟩)) outer s H := ⟨by first | exact e.frames | (simpa [Around.under, Code.envs, Code.isFrame, pushEnvs] using e.frames), e.mod, e.bs, e.bsz, e.funs, e.frf, e.hok, e.bare⟩
theorem Env0.in1 {P : Program} {w : World} {K : PySem.W.Frag} {mg : Str → Option Value} {base : Heap} {A : Around} {outer : List Env} {s : Shared} {H : Hp} (e : Env0 P w K mg base A outer s H) :
    Env0 P w K mg base A.in1 outer s H := ⟨e.frames, e.mod, e.bs, e.bsz, e.funs, e.frf, e.hok, e.bare⟩

section
variable {X : Cx} {pins : List (Addr × Obj)} {σ : St} {H : Hp} {s s' : Shared}
/-- from a body: what a callee wants -/
theorem Inv.env0 (I : Inv X pins σ H s) : Env0 X.prog X.w X.K X.mg X.base X.A X.stack s H :=
  ⟨I.ok.frames, I.ok.mod, I.bs, Nat.le_trans I.ok.bsz I.sz, I.stack, I.stkFree, I.hok, I.bare⟩
/-- behind a call -/
theorem Inv.after {Q : VK} {u : Value} (I : Inv X pins σ H s) (h : CE X.stack X.prog X.w H s Q u s') : EP X pins σ Q u s' := by
  obtain ⟨v, H', os, bare, un, hok, r, q⟩ := h
  obtain ⟨hh, g, d, t, os'⟩ := s'
  obtain rfl : os' = s.os := os
  exact ⟨v, H', I.call (h' := hh) (g' := g) (d' := d) (t' := t) (ch := []) un hok bare (fun b z => absurd z (by simp)), r, q⟩
end

/-! ### calls -/
/-- f(..): the written arguments, then the defaults dvs; E: what is wanted of an exception -/
def tCall (sp : Sp) (dvs : List V) (E : XK) (t : TA) : TE := fun σ H Q => t σ H fun vs H1 => sp (vs ++ dvs) H1 Q E
/-- o.m(..) of an instance of the class at C -/
def tMeth (C : Addr) (m : Str) (sp : Sp) (dvs : List V) (E : XK) (ta : TE) (t : TA) : TE := fun σ H Q => ta σ H fun x H1 => ∃ a dx fs, x = .ref a ∧ H1 a = some (.ins C dx fs) ∧ fs.lookup m = none ∧
  t σ H1 fun vs H2 => sp (x :: (vs ++ dvs)) H2 Q E
/-- C(..): a new instance and its dict, then __init__ -/
def tMake (C : Addr) (sp : Sp) (dvs : List V) (E : XK) (t : TA) : TE := fun σ H Q => t σ H fun vs H1 => ∀ x dx, H1 x = none → H1 dx = none → dx ≠ x →
  sp (.ref x :: (vs ++ dvs)) (upd (upd H1 dx (.own x)) x (.ins C dx [])) (fun v H2 => v = .non ∧ Q (.ref x) H2) E

/-- how the parameters are bound: us the positional arguments, kw the keywords' values by name, ds the defaults that fill up -/
def Binds (K : PySem.W.Frag) (fd : FuncData) (ps : List Str) (ds : List Value) : Prop :=
  ∀ (s : Shared) (us : List Value), K.In s.heap → (us ++ ds).length = ps.length → BindsTo s fd ⟨us, []⟩ (ps.zip (us ++ ds))
/-- every parameter is given -/
theorem Binds.all {K : PySem.W.Frag} {fd : FuncData} {ps : List Str} (h : ∀ us : List Value, us.length = ps.length → bindArgs fd ⟨us, []⟩ = pure (ps.zip us)) : Binds K fd ps [] := fun s us _ hl => by
  rw [List.append_nil] at hl ⊢
  exact .of_eq (h us hl)

/-- an exception of a callee reaches what this body wants of exceptions -/
def Passes (CX : CXT) (X : Cx) (E : XK) : Prop := ∀ (pins : List (Addr × Obj)) (σ : St) (H : Hp) (s : Shared) (e : Value) (s' : Shared), Inv X pins σ H s → CX X.stack H s E e s' → X.xe e s'

section
variable {X : Cx} {CX : CXT} {k : Nat} {f C : Addr} {fd : FuncData} {ps : List Str} {sp : Sp} {dvs : List V} {ds : List Value} {E : XK} {x m : Str} {p pos apos : Pos} {e o : Expr} {es : List Expr} {ta : TE} {t : TA}

/-- the callee runs -/
theorem run_fn {pins : List (Addr × Obj)} {σ : St} {H : Hp} {s : Shared} {Q : VK} {us : List Value} {vs : List V} (F : FnOk X.prog X.w X.K X.mg X.base CX k f fd ps sp) (hr : Room k X.A) (hb : Binds X.K fd ps ds) (hd : Vals dvs ds) (hx : Passes CX X E)
    (I : Inv X pins σ H s) (r : Vals vs us) (h : sp (vs ++ dvs) H Q E) : wpAny (model X.prog X.w) X.A (call (.ref f) us) (EP X pins σ Q) X.xe s := by
  have r2 : Vals (vs ++ dvs) (us ++ ds) := r.append hd
  have hl : (us ++ ds).length = ps.length := by rw [← r2.length]; exact F.len _ _ _ _ h
  refine wpAny_call (codeAny_mono (F.run X.A X.stack s H ⟨us, []⟩ (us ++ ds) (vs ++ dvs) Q E hr I.env0 (hb s us I.kIn hl) r2 h) fun r s' hq => ?_)
  cases r with
  | error e => exact hx pins σ H s e s' I hq
  | ok fl =>
    cases fl with
    | ret u => exact I.after hq
    | next => exact False.elim hq
    | brk => exact False.elim hq
    | cont => exact False.elim hq

theorem pe_call (F : FnOk X.prog X.w X.K X.mg X.base CX k f fd ps sp) (hr : Room k X.A) (hg : Gl X x) (hm : X.mg x = some (.ref f)) (hk : PySem.W.keepIn X.K (.ref f) = true) (hb : Binds X.K fd ps ds) (hd : Vals dvs ds) (hx : Passes CX X E)
    (ha : PA X (e :: es) t) (hdb : (x == ("__debug__" : Str)) = false := by decide) (he : starEach (e :: es) X.env = (false, eval e X.env) :: starEach es X.env := by rfl) (hpl : (backTo pos (starEach es X.env)).any (·.1) = false := by rfl) :
    PE X (.Call (.Name x p) (e :: es) [] pos) (tCall sp dvs E t) := by
  intro pins s σ H Q I h
  refine wpAny_Call_Name_kw (ld_glob I hg hm ?_ hdb)
  refine PySem.W.callWith_K (h₀ := X.base) I.ok.mod.kin hk (thn (ha pos pins s σ H _ I h) fun us s1 ⟨vs, H1, I1, r, q⟩ => ⟨I1.kIn, ?_⟩) he hpl
  exact run_fn F hr hb hd hx I1 r q
theorem pe_call0 (F : FnOk X.prog X.w X.K X.mg X.base CX k f fd ps sp) (hr : Room k X.A) (hg : Gl X x) (hm : X.mg x = some (.ref f)) (hk : PySem.W.keepIn X.K (.ref f) = true) (hb : Binds X.K fd ps ds) (hd : Vals dvs ds) (hx : Passes CX X E)
    (hdb : (x == ("__debug__" : Str)) = false := by decide) : PE X (.Call (.Name x p) [] [] pos) (tCall sp dvs E tNil) := by
  intro pins s σ H Q I h
  refine wpAny_Call_Name_kw (ld_glob I hg hm ?_ hdb)
  exact PySem.W.callWith_K0 I.kIn hk (run_fn (us := []) F hr hb hd hx I .nil h)

/-- o.m(e, ..) -/
theorem pe_meth {pl : Sem Bool} (he : PE X o ta) (c : Cls X.K C) (hm : Meth X.K C m f) (F : FnOk X.prog X.w X.K X.mg X.base CX k f fd ps sp) (hr : Room k X.A) (hb : Binds X.K fd ps ds) (hd : Vals dvs ds) (hx : Passes CX X E) (ha : PA X (e :: es) t)
    (hst : starEach (e :: es) X.env = (false, eval e X.env) :: starEach es X.env := by rfl) (hpl : (backTo pos (starEach es X.env)).any (·.1) = false := by rfl)
    (ht : eval (.Call (.Attribute o m apos) (e :: es) [] pos) X.env = (do
      let ov ← eval o X.env
      standAt apos.atName
      let (f, first) ← holding [ov] (getMethod ov m pl)
      callWith pos f first (backTo pos (starEach (e :: es) X.env)) (backToKw pos (keywordEach [] X.env))) := by rfl) :
    PE X (.Call (.Attribute o m apos) (e :: es) [] pos) (tMeth C m sp dvs E ta t) := by
  intro pins s σ H Q I h
  refine PySem.W.methodCall_KW (pl := pl) (thn (he pins s σ H _ I h) fun u s1 ⟨x, H1, I1, rx, a, dx, fs, ex, ea, l, q⟩ => ?_) ht
  subst ex
  obtain rfl : u = Value.ref a := rx
  refine getmeth_ok I1 ea c hm l ?_
  refine PySem.W.callWith_K (first := [.ref a]) (h₀ := X.base) I.ok.mod.kin hm.kp (thn (ha pos pins s1 σ H1 _ I1 q) fun us s2 ⟨vs, H2, I2, r, q2⟩ => ⟨I2.kIn, ?_⟩) hst hpl
  exact run_fn (us := .ref a :: us) (vs := .ref a :: vs) F hr hb hd hx I2 (.cons rfl r) q2
/-- o.m() -/
theorem pe_meth0 {pl : Sem Bool} (he : PE X o ta) (c : Cls X.K C) (hm : Meth X.K C m f) (F : FnOk X.prog X.w X.K X.mg X.base CX k f fd ps sp) (hr : Room k X.A) (hb : Binds X.K fd ps ds) (hd : Vals dvs ds) (hx : Passes CX X E)
    (ht : eval (.Call (.Attribute o m apos) [] [] pos) X.env = (do
      let ov ← eval o X.env
      standAt apos.atName
      let (f, first) ← holding [ov] (getMethod ov m pl)
      callWith pos f first (backTo pos (starEach [] X.env)) (backToKw pos (keywordEach [] X.env))) := by rfl) :
    PE X (.Call (.Attribute o m apos) [] [] pos) (tMeth C m sp dvs E ta tNil) := by
  intro pins s σ H Q I h
  refine PySem.W.methodCall_KW (pl := pl) (thn (he pins s σ H _ I h) fun u s1 ⟨x, H1, I1, rx, a, dx, fs, ex, ea, l, q⟩ => ?_) ht
  subst ex
  obtain rfl : u = Value.ref a := rx
  refine getmeth_ok I1 ea c hm l ?_
  exact PySem.W.callWith_K0 (first := [.ref a]) I1.kIn hm.kp (run_fn (us := [.ref a]) (vs := [.ref a]) F hr hb hd hx I1 (.cons rfl .nil) q)

/-- what a class must have to be made -/
structure Mk (K : PySem.W.Frag) (C f : Addr) : Prop where
  makes : PySem.W.makesIn K C = true
  init : PySem.W.findIn K (.ref C) "__init__" = some (some (.ref f))
  fn : PySem.W.isFn K (.ref f) = true
  kp : PySem.W.keepIn K (.ref C) = true

theorem run_make {pins : List (Addr × Obj)} {σ : St} {H : Hp} {s : Shared} {Q : VK} {us : List Value} {vs : List V} (M : Mk X.K C f) (F : FnOk X.prog X.w X.K X.mg X.base CX k f fd ps sp) (hr : Room (k + 1) X.A) (hb : Binds X.K fd ps ds) (hd : Vals dvs ds)
    (hx : Passes CX X E) (I : Inv X pins σ H s) (r : Vals vs us)
    (h : ∀ x dx, H x = none → H dx = none → dx ≠ x → sp (.ref x :: (vs ++ dvs)) (upd (upd H dx (.own x)) x (.ins C dx [])) (fun v H2 => v = .non ∧ Q (.ref x) H2) E) :
    wpAny (model X.prog X.w) X.A (call (.ref C) us) (EP X pins σ Q) X.xe s := by
  have hq := h (s.heap.objs.size + 1) s.heap.objs.size (I.hok.fresh (Nat.le_succ _)) (I.hok.fresh (Nat.le_refl _)) (Nat.ne_of_lt (Nat.lt_succ_self _))
  have I2 := Inv.made (C := C) I
  have r2 : Vals (V.ref (s.heap.objs.size + 1) :: (vs ++ dvs)) (Value.ref (s.heap.objs.size + 1) :: (us ++ ds)) := .cons rfl (r.append hd)
  have hl : (Value.ref (s.heap.objs.size + 1) :: us ++ ds).length = ps.length := by
    have e := r2.length
    rw [F.len _ _ _ _ hq] at e
    exact e.symm
  refine wpAny_call (make_map (f := f) I.kIn M.makes M.init (beq_iff_eq.mp M.fn) (codeAny_mono (F.run _ X.stack _ _ ⟨Value.ref (s.heap.objs.size + 1) :: us, []⟩ (Value.ref (s.heap.objs.size + 1) :: (us ++ ds)) _ _ E (hr.make C us [])
    (I2.env0.make C us []) (hb _ (Value.ref (s.heap.objs.size + 1) :: us) I2.kIn hl) r2 hq) fun r s' hq' => ?_))
  cases r with
  | error e => exact hx pins σ _ _ e s' I2 hq'
  | ok fl =>
    cases fl with
    | ret u =>
      obtain ⟨v, H', I3, rv, ev, q3⟩ := I2.after hq'
      subst ev
      exact ⟨rv, ⟨V.ref (s.heap.objs.size + 1), H', I3, rfl, q3⟩⟩
    | next => exact False.elim hq'
    | brk => exact False.elim hq'
    | cont => exact False.elim hq'
theorem pe_make (M : Mk X.K C f) (F : FnOk X.prog X.w X.K X.mg X.base CX k f fd ps sp) (hr : Room (k + 1) X.A) (hg : Gl X x) (hm : X.mg x = some (.ref C)) (hb : Binds X.K fd ps ds) (hd : Vals dvs ds) (hx : Passes CX X E)
    (ha : PA X (e :: es) t) (hdb : (x == ("__debug__" : Str)) = false := by decide) (he : starEach (e :: es) X.env = (false, eval e X.env) :: starEach es X.env := by rfl) (hpl : (backTo pos (starEach es X.env)).any (·.1) = false := by rfl) :
    PE X (.Call (.Name x p) (e :: es) [] pos) (tMake C sp dvs E t) := by
  intro pins s σ H Q I h
  refine wpAny_Call_Name_kw (ld_glob I hg hm ?_ hdb)
  refine PySem.W.callWith_K (h₀ := X.base) I.ok.mod.kin M.kp (thn (ha pos pins s σ H _ I h) fun us s1 ⟨vs, H1, I1, r, q⟩ => ⟨I1.kIn, ?_⟩) he hpl
  exact run_make M F hr hb hd hx I1 r q
theorem pe_make0 (M : Mk X.K C f) (F : FnOk X.prog X.w X.K X.mg X.base CX k f fd ps sp) (hr : Room (k + 1) X.A) (hg : Gl X x) (hm : X.mg x = some (.ref C)) (hb : Binds X.K fd ps ds) (hd : Vals dvs ds) (hx : Passes CX X E)
    (hdb : (x == ("__debug__" : Str)) = false := by decide) : PE X (.Call (.Name x p) [] [] pos) (tMake C sp dvs E tNil) := by
  intro pins s σ H Q I h
  refine wpAny_Call_Name_kw (ld_glob I hg hm ?_ hdb)
  exact PySem.W.callWith_K0 I.kIn M.kp (run_make (us := []) M F hr hb hd hx I .nil h)
end

/-! ### keywords -/
/-- the values of the keywords, from the left -/
def PK (X : Cx) (kws : List Keyword) (t : TA) : Prop :=
  ∀ (pos : Pos) (pins : List (Addr × Obj)) (s : Shared) (σ : St) (H : Hp) (Q : List V → Hp → Prop), Inv X pins σ H s → t σ H Q → wpAny (model X.prog X.w) X.A (evalAll ((backToKw pos (keywordEach kws X.env)).map (·.2))) (AP X pins σ Q) X.xe s
section
variable {X : Cx} {CX : CXT} {k : Nat} {f C : Addr} {fd : FuncData} {ps ks : List Str} {sp : Sp} {E : XK} {x m : Str} {p pos apos kpos : Pos} {e o : Expr} {es : List Expr} {kws : List Keyword} {te ta : TE} {t tk : TA} {nm : Option Str}
theorem pk_nil : PK X [] tNil := fun _ _ _ _ H Q I h => wpAny_evalAll_nil ⟨[], H, I, .nil, h⟩
theorem pk_cons (ha : PE X e te) (hr : PK X kws t) : PK X (⟨nm, e, kpos⟩ :: kws) (tCons te t) := by
  intro pos pins s σ H Q I h
  show wpAny _ _ (evalAll ((do let v ← eval e X.env; standAt pos; pure v) :: (backToKw pos (keywordEach kws X.env)).map (·.2))) _ _ s
  refine wpAny_evalAll_cons (wpAny_bind (thn (ha pins s σ H _ I h) fun u s1 ⟨x, H1, I1, r1, q1⟩ => wpAny_bind (wpAny_standAt (wpAny_pure ?_))))
  exact thn (hr pos pins s1 σ H1 _ I1 q1) fun us s2 ⟨xs, H2, I2, r2, q2⟩ => ⟨x :: xs, H2, I2, .cons r1 r2, q2⟩

/-- how a call with keywords binds: g puts the positional values us and the keywords' values ws (names ks) in the parameters' order, defaults among them -/
structure KBinds (K : PySem.W.Frag) (fd : FuncData) (ps ks : List Str) (g : List Value → List Value → List Value) (gV : List V → List V → List V) : Prop where
  to : ∀ (s : Shared) (us ws : List Value), K.In s.heap → (g us ws).length = ps.length → BindsTo s fd ⟨us, ks.zip ws⟩ (ps.zip (g us ws))
  rel : ∀ {vs : List V} {us : List Value} {zs : List V} {ws : List Value}, Vals vs us → Vals zs ws → Vals (gV vs zs) (g us ws)
def tCallK (sp : Sp) (gV : List V → List V → List V) (E : XK) (t tk : TA) : TE := fun σ H Q => t σ H fun vs H1 => tk σ H1 fun zs H2 => sp (gV vs zs) H2 Q E
variable {g : List Value → List Value → List Value} {gV : List V → List V → List V}
theorem run_fnk {pins : List (Addr × Obj)} {σ : St} {H : Hp} {s : Shared} {Q : VK} {us ws : List Value} {vs zs : List V} (F : FnOk X.prog X.w X.K X.mg X.base CX k f fd ps sp) (hr : Room k X.A) (hb : KBinds X.K fd ps ks g gV) (hx : Passes CX X E)
    (I : Inv X pins σ H s) (r : Vals vs us) (rz : Vals zs ws) (h : sp (gV vs zs) H Q E) : wpAny (model X.prog X.w) X.A (call (.ref f) us (ks.zip ws)) (EP X pins σ Q) X.xe s := by
  have r2 := hb.rel r rz
  have hl : (g us ws).length = ps.length := by rw [← r2.length]; exact F.len _ _ _ _ h
  refine wpAny_call (codeAny_mono (F.run X.A X.stack s H ⟨us, ks.zip ws⟩ (g us ws) (gV vs zs) Q E hr I.env0 (hb.to s us ws I.kIn hl) r2 h) fun r s' hq => ?_)
  cases r with
  | error e => exact hx pins σ H s e s' I hq
  | ok fl =>
    cases fl with
    | ret u => exact I.after hq
    | next => exact False.elim hq
    | brk => exact False.elim hq
    | cont => exact False.elim hq
/-- f(e, .., k = v, ..) -/
theorem pe_callK (F : FnOk X.prog X.w X.K X.mg X.base CX k f fd ps sp) (hr : Room k X.A) (hg : Gl X x) (hm : X.mg x = some (.ref f)) (hk : PySem.W.keepIn X.K (.ref f) = true) (hb : KBinds X.K fd ps ks g gV) (hx : Passes CX X E)
    (ha : PA X (e :: es) t) (hkw : PK X kws tk) (hall : (backToKw pos (keywordEach kws X.env)).all (·.1.isSome) = true := by rfl) (hks : (backToKw pos (keywordEach kws X.env)).filterMap (·.1) = ks := by rfl)
    (hdb : (x == ("__debug__" : Str)) = false := by decide) (he : starEach (e :: es) X.env = (false, eval e X.env) :: starEach es X.env := by rfl)
    (hpl : ((backTo pos (starEach (e :: es) X.env)).any (·.1) || (backToKw pos (keywordEach kws X.env)).any (·.1.isNone)) = false := by rfl) :
    PE X (.Call (.Name x p) (e :: es) kws pos) (tCallK sp gV E t tk) := by
  intro pins s σ H Q I h
  refine wpAny_Call_Name_kw (ld_glob I hg hm ?_ hdb)
  refine PySem.W.callWith_KW (h₀ := X.base) I.ok.mod.kin hk hall (thn (ha pos pins s σ H _ I h) fun us s1 ⟨vs, H1, I1, r, q⟩ => ?_) hpl he
  refine thn (hkw pos pins s1 σ H1 _ I1 q) fun ws s2 ⟨zs, H2, I2, rz, q2⟩ => ⟨I2.kIn, ?_⟩
  rw [hks]
  exact run_fnk F hr hb hx I2 r rz q2
end

/-! ### a def's body keeps its promise -/
/-- names: the parameters first -/
structure FnScope (N P : List Str) (sc : Scope) : Prop where
  kind : sc.kind = .function
  co : sc.isCoroutine = false
  gen : sc.isGenerator = false
  nd : N.Nodup
  pre : N.take P.length = P
  par : ∀ x ∈ P, sc.names.lookup x = some .local ∨ sc.names.lookup x = some .cell
  nofree : ∀ y ∈ sc.names, y.2 ≠ .free

theorem bindL_out {kindOf : Str → Option NameKind} {x : Str} : ∀ {binds : List (Str × Value)} {m : Str → Option Value}, (∀ v, (x, v) ∉ binds) → bindL kindOf binds m x = m x
  | [], _, _ => rfl
  | (n, v) :: r, m, h => by
    unfold bindL
    rw [bindL_out fun w hw => h w (List.mem_cons_of_mem _ hw)]
    split
    · have : x ≠ n := by rintro rfl; exact h v List.mem_cons_self
      simp [this]
    · rfl
theorem bindC_out {kindOf : Str → Option NameKind} {x : Str} : ∀ {binds : List (Str × Value)} {m : Str → Option Value}, (∀ v, (x, v) ∉ binds) → bindC kindOf binds m x = m x
  | [], _, _ => rfl
  | (n, v) :: r, m, h => by
    unfold bindC
    rw [bindC_out fun w hw => h w (List.mem_cons_of_mem _ hw)]
    split
    · rfl
    · have : x ≠ n := by rintro rfl; exact h v List.mem_cons_self
      simp [this]
theorem bindL_get {kindOf : Str → Option NameKind} {x : Str} {v : Value} : ∀ {P : List Str} {vs : List Value} {i : Nat} {m : Str → Option Value}, P.Nodup → P[i]? = some x → vs[i]? = some v → kindOf x = some .local →
    bindL kindOf (P.zip vs) m x = some v
  | [], _, _, _, _, h, _, _ => by simp at h
  | _ :: _, [], _, _, _, _, h, _ => by simp at h
  | p :: P, w :: vs, 0, m, nd, h1, h2, hk => by
    simp at h1 h2; subst h1; subst h2
    show bindL kindOf ((p, w) :: P.zip vs) m p = _
    unfold bindL
    rw [bindL_out fun v hv => (List.nodup_cons.mp nd).1 (List.of_mem_zip hv).1, if_pos hk]
    simp
  | p :: P, w :: vs, i + 1, m, nd, h1, h2, hk => by
    show bindL kindOf ((p, w) :: P.zip vs) m x = _
    unfold bindL
    exact bindL_get (i := i) (List.nodup_cons.mp nd).2 (by simpa using h1) (by simpa using h2) hk
theorem bindC_get {kindOf : Str → Option NameKind} {x : Str} {v : Value} : ∀ {P : List Str} {vs : List Value} {i : Nat} {m : Str → Option Value}, P.Nodup → P[i]? = some x → vs[i]? = some v → kindOf x ≠ some .local →
    bindC kindOf (P.zip vs) m x = some v
  | [], _, _, _, _, h, _, _ => by simp at h
  | _ :: _, [], _, _, _, _, h, _ => by simp at h
  | p :: P, w :: vs, 0, m, nd, h1, h2, hk => by
    simp at h1 h2; subst h1; subst h2
    show bindC kindOf ((p, w) :: P.zip vs) m p = _
    unfold bindC
    rw [bindC_out fun v hv => (List.nodup_cons.mp nd).1 (List.of_mem_zip hv).1, if_neg hk]
    simp
  | p :: P, w :: vs, i + 1, m, nd, h1, h2, hk => by
    show bindC kindOf ((p, w) :: P.zip vs) m x = _
    unfold bindC
    exact bindC_get (i := i) (List.nodup_cons.mp nd).2 (by simpa using h1) (by simpa using h2) hk

/-- the names' values at the entry -/
def start (N : List Str) (vs : List V) : St := vs.map some ++ List.replicate (N.length - vs.length) none

/-- the context of a def's body, at its entry; an exception leaves the frame, then lies as CX says -/
def cxOf (CX : CXT) (P : Program) (w : World) (K : PySem.W.Frag) (mg : Str → Option Value) (base : Heap) (N : List Str) (qual : Str) (scope : Scope) (f : Addr) (cd : Value) (A : Around) (outer : List Env) (s : Shared) (H : Hp) (E : XK) : Cx where
  prog := P
  w := w
  K := K
  mg := mg
  base := base
  A := A.deeper (envOfC qual scope s.heap.objs.size f cd)
  N := N
  s₀ := s
  H₀ := H
  env := envOfC qual scope s.heap.objs.size f cd
  outer := outer
  stack := envOfC qual scope s.heap.objs.size f cd :: outer
  ex := []
  calm := true
  fn := fun _ => true
  pn := []
  xe := fun e s' => wpAny (model P w) (A.deeper (envOfC qual scope s.heap.objs.size f cd)) (leaving (envOfC qual scope s.heap.objs.size f cd) e) (fun _ s'' => CX outer H s E e s'') (fun e' s'' => CX outer H s E e' s'') s'

theorem cell_has {sc : Scope} {n : Nat} {x : Str} (h : sc.names.lookup x = some .cell) : ∃ c, (cellsFrom n sc.names []).lookup x = some c := by
  have q := PySem.W.cellsFrom_some sc.names n [] (.inl h)
  exact Option.isSome_iff_exists.mp q

theorem inv_start {CX : CXT} {P : Program} {w : World} {K : PySem.W.Frag} {mg : Str → Option Value} {base : Heap} {N ps : List Str} {qual : Str} {scope : Scope} {f : Addr} {cd : Value} {A : Around} {outer : List Env} {s s1 : Shared} {H : Hp} {E : XK} {us : List Value} {vs : List V}
    (S : FnScope N ps scope) (hd : A.handled = none) (e0 : Env0 P w K mg base A outer s H) (hl : vs.length = ps.length) (r : Vals vs us)
    (x : InCallC s s.heap.objs.size (bindL (envOfC qual scope s.heap.objs.size f cd).kindOf (ps.zip us) fun _ => none) (cellsFrom (s.heap.objs.size + 1) scope.names []) (bindC (envOfC qual scope s.heap.objs.size f cd).kindOf (ps.zip us) fun _ => none) s1) :
    Inv (cxOf CX P w K mg base N qual scope f cd A outer s H E) [] (start N vs) H s1 := by
  have hpl : ps.length ≤ N.length := by have := congrArg List.length S.pre; rw [List.length_take] at this; omega
  obtain ⟨h1, tk, rfl, hk⟩ := x.done
  have noA : ∀ b : Addr, b ∉ (cxOf CX P w K mg base N qual scope f cd A outer s H E).ex := fun b z => absurd (show b ∈ ([] : List Addr) from z) (by simp)
  refine ⟨⟨e0.mod, S.kind, rfl, rfl, Nat.le_refl _, fun y z c h1 h2 => ?_, fun y hy => ?_, fun y c _ h => ?_, fun _ => hd, Around.frames_deeper e0.frames, .inr ⟨rfl, rfl⟩, fun b z => absurd z (noA b), e0.bs, e0.bsz, fun b _ _ => noA b, fun b z => absurd z (noA b), e0.funs, e0.frf⟩,
    rfl, e0.bare, Un.kept hk, ⟨_, x.toInCall.ns, fun i y v h1 h2 h3 => ?_⟩, fun y c h => ⟨_, x.cell y c h⟩, e0.hok.fresh (Nat.le_refl _), fun y c h => ?_, fun p hp => absurd (show p ∈ ([] : List (Addr × Obj)) from hp) (by simp), e0.hok.kept hk, ?_⟩
  · exact name_of_addr x.apart (PySem.mem_of_lookup h1) (PySem.mem_of_lookup h2)
  · have hy : scope.names.lookup y = some .cell ∨ scope.names.lookup y = some .free := hy
    rcases hy with hy | hy
    · exact cell_has hy
    · exact absurd rfl (S.nofree _ (PySem.mem_of_lookup hy))
  · exact Nat.le_of_lt (x.above y c (PySem.mem_of_lookup h))
  · have hi : i < vs.length := by
      unfold start at h2
      by_cases hi : i < vs.length
      · exact hi
      · rw [List.getElem?_append_right (by simpa using hi)] at h2
        rw [List.getElem?_replicate] at h2
        split at h2 <;> cases h2
    have ha : vs[i]? = some v := by
      unfold start at h2
      rw [List.getElem?_append_left (by simpa using hi), List.getElem?_map] at h2
      cases e : vs[i]? with
      | none => rw [e] at h2; cases h2
      | some a => rw [e] at h2; cases h2; rfl
    obtain ⟨u, hu, rv⟩ := r.get ha
    have hp : ps[i]? = some y := by
      rw [← S.pre, List.getElem?_take_of_lt (by omega)]; exact h1
    have ndP : ps.Nodup := by rw [← S.pre]; exact S.nd.sublist (List.take_sublist _ _)
    refine ⟨u, rv, ?_⟩
    rcases S.par y (List.mem_of_getElem? hp) with k | k
    · exact .inl ⟨k, bindL_get ndP hp hu k⟩
    · obtain ⟨c, e⟩ := cell_has (n := s.heap.objs.size + 1) k
      refine .inr ⟨.inl k, c, e, ?_⟩
      have q := x.cell y c e
      rw [bindC_get ndP hp hu (by show scope.names.lookup y ≠ _; rw [k]; decide)] at q
      exact q
  · exact e0.hok.fresh (Nat.le_of_lt (x.above y c (PySem.mem_of_lookup h)))
  · unfold start
    show _ = N.length
    rw [List.length_append, List.length_map, List.length_replicate]
    omega

/-- THE RULE: a def (or a method) of the text, by its body. The body's reading t is chosen for each entry; it is run at the parameters' values -/
theorem fn_of {CX : CXT} {P : Program} {w : World} {K : PySem.W.Frag} {mg : Str → Option Value} {base : Heap} {k : Nat} {f : Addr} {name qual : Str} {params : Arguments} {body : List Stmt} {scope : Scope} {dV kV doc pm cdv ct oc : Value} {an od : Option Addr}
    {osl : Array (Option Value)} {N ps : List Str} {sp : Sp} (lk : K.lookup f = some ⟨oc, od, .func (PySem.W.fnOf name qual params body scope dV kV doc pm an cdv ct), osl⟩) (hcd : PySem.W.codeIn K cdv qual = true) (S : FnScope N ps scope)
    (len : ∀ vs H Q E, sp vs H Q E → vs.length = ps.length)
    (hbody : ∀ (A : Around) (outer : List Env) (s : Shared) (H : Hp) (vs : List V) (Q : VK) (E : XK), Room k (A.deeper (envOfC qual scope s.heap.objs.size f cdv)) → sp vs H Q E →
      ∃ t, PSs (cxOf CX P w K mg base N qual scope f cdv A outer s H E) body t ∧ t { nx := fun _ H' => Q .non H', rt := Q } (start N vs) H) :
    FnOk P w K mg base CX (k + 1) f (PySem.W.fnOf name qual params body scope dV kV doc pm an cdv ct) ps sp := by
  refine ⟨len, fun A outer s H args us vs Q E hr e0 hb r hsp => ?_⟩
  have hl := len _ _ _ _ hsp
  have KX : K.In s.heap := e0.mod.kin.keeps fun b o e => (e0.bs b o e).1
  have lim : s.heap.NoLimit := e0.mod.nolimit.keeps fun b o e => (e0.bs b o e).1
  have hkind : ∀ y ∈ ps.zip us, scope.names.lookup y.1 = some .local ∨ (scope.names.lookup y.1 = some .cell ∧ ((cellsFrom (s.heap.objs.size + 1) scope.names []).lookup y.1).isSome = true) := fun ⟨n, v⟩ hy => by
    rcases S.par n (List.of_mem_zip hy).1 with q | q
    · exact .inl q
    · exact .inr ⟨q, PySem.W.cellsFrom_some _ _ _ (.inl q)⟩
  refine codeAny_call_function hr.depth (KX _ _ lk) rfl S.co S.gen rfl (PySem.W.codeRec_of KX hcd) (hb _ _ _ _ ?_)
  refine wpAny_newFunctionEnv_cells S.kind hkind fun env he s1 x => ?_
  subst he
  refine ⟨lim.keeps x.toInCall.keep, codeAny_func ?_⟩
  obtain ⟨t, ht, hq⟩ := hbody A outer s H vs Q E (hr.deeper _) hsp
  have I : Inv (cxOf CX P w K mg base N qual scope f cdv A outer s H E) [] (start N vs) H s1 := inv_start S hr.hd e0 hl r x
  refine wpAny_mono (ht [] s1 (start N vs) H _ I hq) (fun fl s' hs => ?_) fun e s' hs => hs
  have fin : ∀ {σ' : St} {H' : Hp} {v : V} {u : Value}, Inv (cxOf CX P w K mg base N qual scope f cdv A outer s H E) [] σ' H' s' → RelV v u → Q v H' → CE outer P w H s Q u s' :=
    fun {σ' H' v u} J rv q => ⟨v, H', J.os, J.bare, J.base, J.hok, rv, q⟩
  cases fl with
  | ret u =>
    obtain ⟨v, σ', H', J, rv, q⟩ := hs
    exact fin J rv q
  | next =>
    obtain ⟨σ', H', J, q⟩ := hs
    exact fin (v := V.non) (u := Value.none) J rfl q
  | brk =>
    obtain ⟨_, _, _, q⟩ := hs
    exact False.elim q
  | cont =>
    obtain ⟨_, _, _, q⟩ := hs
    exact False.elim q
end L2

namespace L2
open PySem PySem.Spec PyProof.Rows
section
variable {X : Cx} {x : Str} {p pos : Pos} {e : Expr} {es : List Expr} {t : TA} {id T : String} {r : List V → Hp → VK → Prop}

def tCB (r : List V → Hp → VK → Prop) (t : TA) : TE := fun σ H Q => t σ H fun vs H1 => r vs H1 Q
/-- f(e, ..), f a built-in function -/
theorem pe_callB (hc : CallR X (.builtin id) r) (hg : Gl X x) (hm : X.mg x = none) (hv : bootBuiltins x = some (.builtin id)) (ha : PA X (e :: es) t) (hn : x ≠ "__name__" := by decide) (hdb : (x == ("__debug__" : Str)) = false := by decide)
    (he : starEach (e :: es) X.env = (false, eval e X.env) :: starEach es X.env := by rfl) (hpl : (backTo pos (starEach es X.env)).any (·.1) = false := by rfl) : PE X (.Call (.Name x p) (e :: es) [] pos) (tCB r t) := by
  intro pins s σ H Q I h
  refine wpAny_Call_Name_kw (ld_blt I hg hm hv ?_ hn hdb)
  exact PyProof.Rows.callWith_builtin1 (thn (ha pos pins s σ H _ I h) fun us s1 ⟨vs, H1, I1, r1, q1⟩ => hc pins s1 σ H1 vs us Q I1 r1 q1) he hpl
/-- T(e, ..), T a built-in type -/
theorem pe_callTy (hc : CallR X (.type T) r) (hg : Gl X x) (hm : X.mg x = none) (hv : bootBuiltins x = some (.type T)) (ha : PA X (e :: es) t) (hn : x ≠ "__name__" := by decide) (hdb : (x == ("__debug__" : Str)) = false := by decide)
    (he : starEach (e :: es) X.env = (false, eval e X.env) :: starEach es X.env := by rfl) (hpl : (backTo pos (starEach es X.env)).any (·.1) = false := by rfl) : PE X (.Call (.Name x p) (e :: es) [] pos) (tCB r t) := by
  intro pins s σ H Q I h
  refine wpAny_Call_Name_kw (ld_blt I hg hm hv ?_ hn hdb)
  exact PyProof.Rows.callWith_type1 (thn (ha pos pins s σ H _ I h) fun us s1 ⟨vs, H1, I1, r1, q1⟩ => hc pins s1 σ H1 vs us Q I1 r1 q1) he hpl
/-- T() -/
theorem pe_callTy0 (hc : CallR X (.type T) r) (hg : Gl X x) (hm : X.mg x = none) (hv : bootBuiltins x = some (.type T)) (hn : x ≠ "__name__" := by decide) (hdb : (x == ("__debug__" : Str)) = false := by decide) :
    PE X (.Call (.Name x p) [] [] pos) (tCB r tNil) := by
  intro pins s σ H Q I h
  refine wpAny_Call_Name_kw (ld_blt I hg hm hv ?_ hn hdb)
  exact PyProof.Rows.callWith_type0 (hc pins s σ H [] [] Q I .nil h)
end
end L2

set_option Elab.async false
set_option linter.all false
set_option maxRecDepth 100000
namespace HT
open PySem PyProof.Rows

/-- t < u of tuples of ints -/
def lexLt : List Int → List Int → Bool
  | [], [] => false
  | [], _ :: _ => true
  | _ :: _, [] => false
  | x :: xs, y :: ys => if x = y then lexLt xs ys else decide (x < y)
theorem lexLt_cons (x y : Int) (xs ys : List Int) : lexLt (x :: xs) (y :: ys) = if x = y then lexLt xs ys else decide (x < y) := rfl
theorem lexLt_nil_nil : lexLt [] [] = false := rfl
theorem lexLt_nil_cons (y : Int) (ys : List Int) : lexLt [] (y :: ys) = true := rfl
theorem lexLt_cons_nil (x : Int) (xs : List Int) : lexLt (x :: xs) [] = false := rfl

theorem eqAt_int (A : Around) (s : Shared) (a : Int) (t : Tok) (c : Int) (u : Tok) : ∃ e, SeqAt.EqAt A s (.int a t) (.int c u) e ∧ (e = true ↔ a = c) :=
  ⟨(a == c), SeqAt.EqAt.int_int a t c u, by simp⟩
theorem rcLt_int (A : Around) (s : Shared) (a : Int) (t : Tok) (c : Int) (u : Tok) (prog : Program) (w : World) (E : Value → Shared → Prop) (Q : Value → Shared → Prop) (h : Q (.bool (decide (a < c))) s) :
    wpAny (model prog w) A (richCompare .Lt (.int a t) (.int c u)) Q E s :=
  (PyProof.Rows.lt_int h : wpAny (model prog w) A (compareOp .Lt (.int a t) (.int c u)) Q E s)

section
open PySem.SeqAt
open PySem.AutoSeq1 (wpAny_loadPart')
open PySem.MeetsSeq PySem.MeetsSeq2 PySem.MeetsSeq3

theorem tuple_lt_ints (l b : Addr) (items items2 : Array Value) (n n2 : Nat) (dd dd2 : Option Addr) (sl sl2 : Array (Option Value)) (ns ms : List Int) (hi : IntsAre items.toList ns) (hj : IntsAre items2.toList ms) :
    Meets (Builtin.«tuple.__lt__» ⟨[.ref l, .ref b], []⟩)
      (fun _ R s => s.heap.get? l = some { cls := .type "tuple", dict := dd, data := .seq items n, slots := sl } ∧ s.heap.get? b = some { cls := .type "tuple", dict := dd2, data := .seq items2 n2, slots := sl2 } ∧
        R (.ok (.ret (.bool (lexLt ns ms)))) s) :=
  .of_wp fun prog w A R s h => by
    obtain ⟨hp, g, d, tk, os⟩ := s; obtain ⟨hl, hb, h⟩ := h
    have f2 := AutoSeq1.sub_tuple_tuple
    have z1 : items.size = ns.length := by rw [← hi.length]; simp
    have z2 : items2.size = ms.length := by rw [← hj.length]; simp
    wp_walk using wpAny_loadPart' hl, wpAny_loadPart' hb, wpAny_forIn_list _ (fun rest b s' => b.1 = none ∧ s' = ⟨hp, g, d, tk, os⟩ ∧ ∃ (vs ws : List Value) (ns' ms' : List Int), rest = vs.zip ws ∧
      IntsAre vs ns' ∧ IntsAre ws ms' ∧ ns'.length + items2.size = ms'.length + items.size ∧ R (.ok (.ret (.bool (lexLt ns' ms')))) ⟨hp, g, d, tk, os⟩) _
    case turn =>
      rintro ⟨y, x⟩ rest b s' ⟨hb', rfl, vs, ws, ns', ms', hz, hvi, hwi, hlen, hR⟩
      cases hvi with
      | nil => rw [List.zip_nil_left] at hz; cases hz
      | cons a t hvi' =>
        cases hwi with
        | nil => rw [List.zip_nil_right] at hz; cases hz
        | cons c u hwi' =>
          rw [List.zip_cons_cons] at hz
          injection hz with hyx hrest
          injection hyx with hy hx
          subst hy hx
          rw [lexLt_cons] at hR
          simp only [List.length_cons] at hlen
          obtain ⟨e, he, hiff⟩ := eqAt_int A.in1 ⟨hp, g, d, tk, os⟩ a t c u
          refine wpAny_bind (he prog w _ _ ?_)
          cases e with
          | true =>
            rw [if_pos (hiff.mp rfl)] at hR
            wp_walk
            exact ⟨rfl, rfl, _, _, _, _, hrest, hvi', hwi', by omega, hR⟩
          | false =>
            rw [if_neg (fun q => absurd (hiff.mpr q) Bool.false_ne_true)] at hR
            have hri := rcLt_int A.in1 ⟨hp, g, d, tk, os⟩ a t c u prog w
            wp_walk using hri
            exact ⟨_, rfl, by simpa using hR⟩
    case fin =>
      rintro ⟨b1, b2⟩ s' ⟨hb', rfl, vs, ws, ns', ms', hz, hvi, hwi, hlen, hR⟩
      simp only at hb'
      subst hb'
      have hv : lexLt ns' ms' = decide (items.size < items2.size) := by
        cases hvi with
        | nil =>
          cases hwi with
          | nil =>
            simp only [List.length_nil] at hlen
            rw [lexLt_nil_nil]
            exact (decide_eq_false (by omega)).symm
          | cons c u hw =>
            simp only [List.length_nil, List.length_cons] at hlen
            rw [lexLt_nil_cons]
            exact (decide_eq_true (by omega)).symm
        | cons a t hv =>
          cases hwi with
          | nil =>
            simp only [List.length_nil, List.length_cons] at hlen
            rw [lexLt_cons_nil]
            exact (decide_eq_false (by omega)).symm
          | cons c u hw =>
            rw [List.zip_cons_cons] at hz
            cases hz
      rw [hv] at hR
      wp_walk
      exact ⟨_, rfl, by simpa [Builtin.Tuple.tupleCompareSizes] using hR⟩
    case h =>
      exact ⟨rfl, rfl, items.toList, items2.toList, ns, ms, rfl, hi, hj, by omega, h⟩
end

section
variable {prog : Program} {w : World} {A : Around} {E : Value → Shared → Prop} {s : Shared}

theorem lt_tupInts {l b : Addr} {items items2 : Array Value} {ns ms : List Int} {Q : Value → Shared → Prop} (hl : IsTup s.heap l items) (hb : IsTup s.heap b items2) (hi : IntsAre items.toList ns) (hj : IntsAre items2.toList ms)
    (hu : A.units < cLine) (h : Q (.bool (lexLt ns ms)) s) : wpAny (model prog w) A (compareOp .Lt (.ref l) (.ref b)) Q E s := by
  obtain ⟨⟨cls, dd, data, sl⟩, ho, hc, n, hd⟩ := id hl
  obtain ⟨⟨cls2, dd2, data2, sl2⟩, ho2, hc2, n2, hd2⟩ := id hb
  simp only at hc hd hc2 hd2
  subst hc hd hc2 hd2
  exact richCompare_meets_room (op := .Lt) ⟨_, ho, rfl⟩ ⟨_, ho2, rfl⟩ PySem.F.slot_tuple_lt PySem.F.entry_tuple_lt (PySem.F.args_tuple_lt_2 _ _) (tuple_lt_ints l b items items2 n n2 dd dd2 sl sl2 ns ms hi hj)
    ⟨ho, ho2, show Value.bool (lexLt ns ms) ≠ Value.notImplemented ∧ Q (.bool (lexLt ns ms)) s from ⟨(fun x => nomatch x), h⟩⟩ hu

/-- t + u, t not empty -/
theorem cat_tup {t b : Addr} {vs ws : List Value} {Q : Value → Shared → Prop} (ht : IsTup s.heap t vs.toArray) (hb : IsTup s.heap b ws.toArray) (hv : vs ≠ [])
    (h1 : ws = [] → Q (.ref t) s) (h2 : ws ≠ [] → Q (.ref s.heap.objs.size) { s with heap := s.heap.push { cls := .type "tuple", data := .seq (vs ++ ws).toArray } })
    (hsz : vs.length + ws.length ≤ sizeLine) : wpAny (model prog w) A (binaryOp .Add (.ref t) (.ref b)) Q E s := by
  obtain ⟨⟨cls, dd, data, sl⟩, ho, hc, n, hd⟩ := id ht
  obtain ⟨⟨cls2, dd2, data2, sl2⟩, ho2, hc2, n2, hd2⟩ := id hb
  simp only at hc hd hc2 hd2
  subst hc hd hc2 hd2
  have e : vs.toArray ++ ws.toArray = (vs ++ ws).toArray := by simp
  by_cases hw : ws = []
  · exact concat_meets ⟨_, ho, rfl⟩ ⟨_, ho2, rfl⟩ noFill_tuple_add seq_tuple_add PySem.F.slot_tuple_add PySem.F.entry_tuple_add (PySem.F.args_tuple_add_2 _ _)
      (tuple_addW1 t b vs.toArray ws.toArray n n2 dd dd2 sl sl2 (by simpa using hv) (by simp [hw])) ⟨ho, ho2, h1 hw⟩
  · refine concat_meets ⟨_, ho, rfl⟩ ⟨_, ho2, rfl⟩ noFill_tuple_add seq_tuple_add PySem.F.slot_tuple_add PySem.F.entry_tuple_add (PySem.F.args_tuple_add_2 _ _)
      (tuple_addW2 t b vs.toArray ws.toArray n n2 dd dd2 sl sl2 (by simpa using hv) (by simpa using hw) (by rw [List.size_toArray, List.size_toArray]; exact hsz)) ⟨ho, ho2, ?_⟩
    rw [e]
    exact h2 hw

/-! ### t[a:b], not the whole -/
/-- a slice's bound as a place among n (d where it is left out) -/
def sIx (n d : Nat) : Option Int → Nat
  | none => d
  | some v => if v < 0 then (v + (n : Int)).toNat else min v.toNat n
theorem sIx_none (n d : Nat) : sIx n d none = d := rfl
theorem sIx_nat (n d k : Nat) : sIx n d (some (k : Int)) = min k n := by
  show (if (k : Int) < 0 then ((k : Int) + (n : Int)).toNat else min (k : Int).toNat n) = min k n
  rw [if_neg (by omega), Int.toNat_natCast]
theorem sIx_le (n d : Nat) (hd : d ≤ n) (o : Option Int) : sIx n d o ≤ n := by
  cases o with
  | none => exact hd
  | some v =>
    show (if v < 0 then (v + (n : Int)).toNat else min v.toNat n) ≤ n
    by_cases hv : v < 0
    · rw [if_pos hv]; omega
    · rw [if_neg hv]; exact Nat.min_le_right _ _
theorem clip_eq (v : Int) (n d : Nat) : (if v < 0 then max (v + (n : Int)) 0 else min v (n : Int)) = ((sIx n d (some v) : Nat) : Int) := by
  show (if v < 0 then max (v + (n : Int)) 0 else min v (n : Int)) = (((if v < 0 then (v + (n : Int)).toNat else min v.toNat n) : Nat) : Int)
  by_cases hv : v < 0
  · simp only [if_pos hv]; omega
  · simp only [if_neg hv]; omega
theorem adjust_gen (lo hi : Option Int) (n : Nat) : Builtin.Slice.sliceAdjust lo hi 1 (n : Int) = (((sIx n 0 lo : Nat) : Int), ((sIx n n hi : Nat) : Int)) := by
  have h1 : ¬ ((1 : Int) < 0) := by omega
  unfold Builtin.Slice.sliceAdjust
  simp only [h1, if_false]
  refine Prod.ext ?_ ?_
  · cases lo with
    | none => rfl
    | some v => exact clip_eq v n 0
  · cases hi with
    | none => rfl
    | some v => exact clip_eq v n n
theorem places_gen (i j : Nat) : Builtin.Slice.slicePlaces (i : Int) (j : Int) 1 = j - i := by
  unfold Builtin.Slice.slicePlaces
  have h1 : (1 : Int) > 0 := by omega
  simp only [h1, if_true, Int.ediv_one]
  split <;> omega
theorem slicePart_ {v : Value} {o : Option Int} {Q : Option Int → Shared → Prop} (p : IsPart v o) (h : Q o s) : wpAny (model prog w) A (Builtin.Slice.slicePartIndex v) Q E s := by
  cases p with
  | none => exact slicePart_none h
  | int i t => exact slicePart_int h
theorem sliceApplied_gen {sl : Addr} {vl vu : Value} {lo hi : Option Int} {n : Nat} {Q : Int × Int × Nat → Shared → Prop} (hs : s.heap.IsSliceOf sl vl vu .none) (pl : IsPart vl lo) (pu : IsPart vu hi)
    (h : Q (((sIx n 0 lo : Nat) : Int), 1, sIx n n hi - sIx n 0 lo) s) : wpAny (model prog w) A (Builtin.Slice.sliceApplied (.ref sl) (pure (n : Int))) Q E s := by
  obtain ⟨os, hos, hcs, hds⟩ := id hs
  unfold Builtin.Slice.sliceApplied Builtin.Slice.sliceFields
  refine wpAny_bind (wpAny_bind (wpAny_field hos hds (x := vl) rfl (wpAny_bind (wpAny_field hos hds (x := vu) rfl (wpAny_bind (wpAny_field hos hds (x := .none) rfl (wpAny_pure ?_)))))))
  refine wpAny_bind (slicePart_none ?_)
  show wpAny _ _ (if ((1 : Int) == 0) = true then _ else _) _ _ s
  rw [if_neg (by decide)]
  refine wpAny_bind (slicePart_ pl (wpAny_bind (slicePart_ pu (wpAny_bind (wpAny_pure ?_)))))
  show wpAny _ _ (match Builtin.Slice.sliceAdjust lo hi 1 (n : Int) with | (lo, hi) => pure (lo, (1 : Int), Builtin.Slice.slicePlaces lo hi 1)) _ _ s
  rw [adjust_gen lo hi n]
  show wpAny _ _ (pure (((sIx n 0 lo : Nat) : Int), (1 : Int), Builtin.Slice.slicePlaces ((sIx n 0 lo : Nat) : Int) ((sIx n n hi : Nat) : Int) 1)) _ _ s
  rw [places_gen]
  exact wpAny_pure h
theorem pick_gen (xs : Array Value) (i k : Nat) : ((List.range k).filterMap fun (m : Nat) => xs[((i : Int) + (m : Int) * 1).toNat]?).toArray = ((xs.toList.drop i).take k).toArray := by
  have e : (fun (m : Nat) => xs[((i : Int) + (m : Int) * 1).toNat]?) = fun m => xs[i + m]? := by
    funext m
    have : ((i : Int) + (m : Int) * 1).toNat = i + m := by omega
    rw [this]
  rw [e]
  have := pick_run xs i k
  rw [List.filterMap_map] at this
  have e2 : ((fun x => xs[x]?) ∘ fun x => i + x) = fun m => xs[i + m]? := rfl
  rw [e2] at this
  rw [this]

theorem getItem_tuple_cut {t sl : Addr} {items : Array Value} {vl vu : Value} {lo hi : Option Int} {Q : Value → Shared → Prop} (ht : IsTup s.heap t items) (hs : s.heap.IsSliceOf sl vl vu .none) (pl : IsPart vl lo) (pu : IsPart vu hi)
    (hw : ¬ (sIx items.size 0 lo = 0 ∧ sIx items.size items.size hi = items.size))
    (h : Q (.ref s.heap.objs.size) { s with heap := s.heap.push { cls := .type "tuple", data := .seq ((items.toList.drop (sIx items.size 0 lo)).take (sIx items.size items.size hi - sIx items.size 0 lo)).toArray } })
    (hsz : items.size ≤ sizeLine) : wpAny (model prog w) A (getItem (.ref t) (.ref sl)) Q E s := by
  have htake : sizeOk (.seq ((items.toList.drop (sIx items.size 0 lo)).take (sIx items.size items.size hi - sIx items.size 0 lo)).toArray) := by
    show ((items.toList.drop (sIx items.size 0 lo)).take (sIx items.size items.size hi - sIx items.size 0 lo)).toArray.size ≤ sizeLine
    rw [List.size_toArray, List.length_take, List.length_drop, Array.length_toList]
    omega
  have hj : sIx items.size items.size hi ≤ items.size := sIx_le _ _ (Nat.le_refl _) hi
  obtain ⟨os, hos, hcs, hds⟩ := id hs
  have hTs : s.TypeIs (.ref sl) "slice" := ⟨os, hos, hcs⟩
  unfold getItem
  try with_reducible refine wpAny_holding ?_
  first | refine wpAny_bind (wpAny_pure ?_) | skip
  refine wpAny_bind (wpAny_sequenceKey ht.typeIs (by decide) ?_)
  refine wpAny_bind (wpAny_callSpecial?_slot (name := Str.ofString "__getitem__") ht.typeIs PyProof.Rows.slot_tuple_getitem
    (wpAny_call_entry PyProof.Rows.slot_tuple_getitem ht.typeIs entry_tuple_getitem ?_ (args_tuple_getitem _ _)))
  show wpAny _ _ (Builtin.Tuple.tupleItemsOf (.ref t) >>= _) _ _ s
  refine wpAny_bind (tupleItemsOf_ ht ?_)
  refine wpAny_bind (wpAny_typeOf hTs ?_)
  rw [if_pos (by decide)]
  refine wpAny_bind (sliceApplied_gen hs pl pu ?_)
  have hno : ¬ ((((sIx items.size 0 lo : Nat) : Int) == 0 && (1 : Int) == 1 && (sIx items.size items.size hi - sIx items.size 0 lo) == items.size) = true) := by
    intro q
    rw [Bool.and_eq_true, Bool.and_eq_true] at q
    have q1 : ((sIx items.size 0 lo : Nat) : Int) = 0 := eq_of_beq q.1.1
    have q2 : sIx items.size items.size hi - sIx items.size 0 lo = items.size := eq_of_beq q.2
    exact hw ⟨by omega, by omega⟩
  show wpAny _ _ (if (((sIx items.size 0 lo : Nat) : Int) == 0 && (1 : Int) == 1 && (sIx items.size items.size hi - sIx items.size 0 lo) == items.size) = true then _ else _) _ _ s
  rw [if_neg hno, pick_gen]
  first
    | exact wpAny_bind (m := Builtin.Tuple.tupleExact _) (wpAny_newObj_type (wpAny_pure ⟨_, rfl, wpAny_pure h⟩) htake)
    | exact wpAny_bind (m := Builtin.Tuple.tupleExact _) (wpAny_newObj_type (wpAny_bind (wpAny_pure (wpAny_pure ⟨_, rfl, wpAny_pure h⟩))) htake)
    | exact wpAny_bind (wpAny_bind (m := Builtin.Tuple.tupleExact _) (wpAny_newObj_type (wpAny_pure (wpAny_pure ⟨_, rfl, wpAny_pure h⟩)) htake))
    | exact wpAny_bind (wpAny_bind (m := Builtin.Tuple.tupleExact _) (wpAny_newObj_type (wpAny_pure ⟨_, rfl, wpAny_pure h⟩) htake))
end
end HT

namespace L2
open PySem PySem.Spec PyProof.Rows

/-! ### the parts of a slice -/
abbrev TO := St → Hp → (Option Int → Hp → Prop) → Prop
/-- a slice's part (left out, or an int) -/
def PO (X : Cx) (e : Option Expr) (t : TO) : Prop :=
  ∀ (pins : List (Addr × Obj)) (s : Shared) (σ : St) (H : Hp) (Q : Option Int → Hp → Prop), Inv X pins σ H s → t σ H Q →
    wpAny (model X.prog X.w) X.A (evalPart e X.env) (fun u s' => ∃ o H', Inv X pins σ H' s' ∧ IsPart u o ∧ Q o H') X.xe s
def tNoPart : TO := fun _ H Q => Q none H
def tPart (t : TE) : TO := fun σ H Q => t σ H fun x H1 => ∃ i, x = .int i ∧ Q (some i) H1

theorem intsAre_of {ns : List Int} : ∀ {us : List Value}, Vals (ns.map V.int) us → IntsAre us ns := by
  induction ns with
  | nil => intro us r; rw [List.map_nil] at r; cases r; exact .nil
  | cons n ns ih =>
    intro us r
    rw [List.map_cons] at r
    cases r with
    | cons r1 r2 =>
      obtain ⟨t, e⟩ := r1
      subst e
      exact .cons n t (ih r2)

section
variable {X : Cx} {e : Expr} {te : TE} {lo hi : Option Expr} {tl th : TO} {pos p2 : Pos}

theorem po_none : PO X none tNoPart := by
  intro pins s σ H Q I h
  rw [evalPart_none]
  exact wpAny_pure ⟨none, H, I, .none, h⟩
theorem po_some (h : PE X e te) : PO X (some e) (tPart te) := by
  intro pins s σ H Q I hw
  rw [evalPart_some]
  refine thn (h pins s σ H _ I hw) fun u s1 ⟨x, H1, I1, r1, q1⟩ => ?_
  obtain ⟨i, rfl, q⟩ := q1
  obtain ⟨t, rfl⟩ := r1
  exact ⟨some i, H1, I1, .int i t, q⟩

/-- what a slice of a value is, by values: the slice object stands at sl -/
def SlR (X : Cx) (r : V → Option Int → Option Int → Hp → VK → Prop) : Prop :=
  ∀ (pins : List (Addr × Obj)) (s : Shared) (σ : St) (H : Hp) (x : V) (v vl vu : Value) (lo hi : Option Int) (sl : Addr) (Q : VK), Inv X pins σ H s → RelV x v → s.heap.IsSliceOf sl vl vu .none → IsPart vl lo → IsPart vu hi → r x lo hi H Q →
    ∃ T id, typeLookup (.type T) "__getitem__" = pure (some (.builtin id)) ∧ s.TypeIs v T ∧ wpAny (model X.prog X.w) X.A (getItem v (.ref sl)) (EP X pins σ Q) X.xe s
theorem SlR.or {r r' : V → Option Int → Option Int → Hp → VK → Prop} (h : SlR X r) (h' : SlR X r') : SlR X (fun x lo hi H Q => r x lo hi H Q ∨ r' x lo hi H Q) := by
  intro pins s σ H x v vl vu lo hi sl Q I rx hs pl pu q
  rcases q with q | q
  · exact h pins s σ H x v vl vu lo hi sl Q I rx hs pl pu q
  · exact h' pins s σ H x v vl vu lo hi sl Q I rx hs pl pu q
def tSl (r : V → Option Int → Option Int → Hp → VK → Prop) (te : TE) (tl th : TO) : TE := fun σ H Q => te σ H fun x H1 => tl σ H1 fun l H2 => th σ H2 fun u H3 => r x l u H3 Q
/-- a[lo:hi], any a -/
theorem pe_slice {r : V → Option Int → Option Int → Hp → VK → Prop} (hr : SlR X r) (he : PE X e te) (hl : PO X lo tl) (hu : PO X hi th) : PE X (.Subscript e (.Slice lo hi none p2) pos) (tSl r te tl th) := by
  intro pins s σ H Q I h
  refine Subscript_ (thn (he pins s σ H _ I h) fun v s1 ⟨x, H1, I1, r1, q1⟩ => ?_)
  refine wpAny_Slice (thn (hl pins s1 σ H1 _ I1 q1) fun vl s2 ⟨l, H2, I2, pl, q2⟩ => thn (hu pins s2 σ H2 _ I2 q2) fun vu s3 ⟨u, H3, I3, pu, q3⟩ => ?_)
  rw [evalPart_none]
  refine wpAny_pure ?_
  have I4 : Inv X pins σ H3 { s3 with heap := s3.heap.push { cls := .type "slice", data := .fields #[vl, vu, .none] } } := I3.kept (t' := s3.toks) fun b ob q => Heap.get?_push_of_some _ q
  obtain ⟨T, id, hT, ht, hg⟩ := hr pins { s3 with heap := s3.heap.push { cls := .type "slice", data := .fields #[vl, vu, .none] } } σ H3 x v vl vu l u s3.heap.objs.size Q I4 r1 (Heap.IsSliceOf.new ..) pl pu q3
  show wpAny (model X.prog X.w) X.A (subscriptTail e (.Slice lo hi none p2) v (.ref s3.heap.objs.size)) (EP X pins σ Q) X.xe { s3 with heap := s3.heap.push { cls := .type "slice", data := .fields #[vl, vu, .none] } }
  exact tail_any (ops := [.ref s3.heap.objs.size, v]) ht hT hg (by with_unfolding_all rfl)

/-- the items of xs[lo:hi] -/
def cutV (xs : List V) (lo hi : Option Int) : List V := (xs.drop (HT.sIx xs.length 0 lo)).take (HT.sIx xs.length xs.length hi - HT.sIx xs.length 0 lo)
theorem cutV_length (xs : List V) (lo hi : Option Int) : (cutV xs lo hi).length ≤ xs.length := by
  unfold cutV
  rw [List.length_take, List.length_drop]
  omega
/-- t[lo:hi], not the whole of it (the whole would be t itself) -/
def rSlT (K : PySem.W.Frag) : V → Option Int → Option Int → Hp → VK → Prop := fun x lo hi H Q => ∃ a xs, x = .ref a ∧ SqT K H a xs ∧
  ¬ (HT.sIx xs.length 0 lo = 0 ∧ HT.sIx xs.length xs.length hi = xs.length) ∧ ∀ p, H p = none → Q (.ref p) (upd H p (.tup (cutV xs lo hi)))
theorem sl_tup : SlR X (rSlT X.K) := by
  intro pins s σ H x v vl vu lo hi sl Q I rx hs pl pu h
  obtain ⟨a, xs, rfl, hx, hw, q⟩ := h
  cases rx
  obtain ⟨its, r, ht, hz⟩ := I.tuple hx
  have hlen : its.toArray.size = xs.length := by rw [List.size_toArray]; exact r.length.symm
  refine ⟨"tuple", _, PyProof.Rows.slot_tuple_getitem.lookup, ht.typeIs, ?_⟩
  refine HT.getItem_tuple_cut ht hs pl pu (by rw [hlen]; exact hw) ?_ (by rw [hlen]; exact hz)
  rw [hlen]
  refine ⟨.ref s.heap.objs.size, _, I.laid (t' := s.toks) (o := .tup (cutV xs lo hi)) (fun b ob q => Heap.get?_push_of_some _ q) (Nat.le_refl _) ?_, rfl, q _ (I.hok.fresh (Nat.le_refl _))⟩
  exact ⟨Nat.le_trans (cutV_length xs lo hi) hz, _, (r.drop (HT.sIx xs.length 0 lo)).take (HT.sIx xs.length xs.length hi - HT.sIx xs.length 0 lo), IsTup.new _ _⟩

/-! ### t < u, t + u -/
def rLtT (K : PySem.W.Frag) : R2 := fun x y H Q => ∃ a b ns ms, x = .ref a ∧ y = .ref b ∧ SqT K H a (ns.map V.int) ∧ SqT K H b (ms.map V.int) ∧ Q (.bl (HT.lexLt ns ms)) H
theorem op_ltT (hu : X.A.units < cLine) : OpR X (compareOp .Lt) (rLtT X.K) := by
  intro pins s σ H x y v u Q I rx ry h
  obtain ⟨a, b, ns, ms, rfl, rfl, ha, hb, q⟩ := h
  cases rx
  cases ry
  obtain ⟨its, r1, p1, _⟩ := I.tuple ha
  obtain ⟨its2, r2, p2, _⟩ := I.tuple hb
  have i1 : IntsAre its.toArray.toList ns := intsAre_of r1
  have i2 : IntsAre its2.toArray.toList ms := intsAre_of r2
  exact HT.lt_tupInts p1 p2 i1 i2 hu ⟨.bl (HT.lexLt ns ms), H, I, rfl, q⟩
/-- t + u, t not empty: u empty gives t itself -/
def rCatT (K : PySem.W.Frag) : R2 := fun x y H Q => ∃ a b xs ys, x = .ref a ∧ y = .ref b ∧ SqT K H a xs ∧ SqT K H b ys ∧ xs ≠ [] ∧ xs.length + ys.length ≤ sizeLine ∧
  (ys = [] → Q (.ref a) H) ∧ (ys ≠ [] → ∀ p, H p = none → Q (.ref p) (upd H p (.tup (xs ++ ys))))
theorem Vals.nil_iff {xs : List V} {us : List Value} (r : Vals xs us) : us = [] ↔ xs = [] := by
  cases r with
  | nil => simp
  | cons _ _ => simp
theorem op_catT : OpR X (binaryOp .Add) (rCatT X.K) := by
  intro pins s σ H x y v u Q I rx ry h
  obtain ⟨a, b, xs, ys, rfl, rfl, ha, hb, hx, hz, q1, q2⟩ := h
  cases rx
  cases ry
  obtain ⟨its, r1, p1, _⟩ := I.tuple ha
  obtain ⟨its2, r2, p2, _⟩ := I.tuple hb
  refine HT.cat_tup p1 p2 (fun z => hx (r1.nil_iff.mp z)) (fun z => ⟨.ref a, H, I, rfl, q1 (r2.nil_iff.mp z)⟩) (fun z => ?_) (by rw [← r1.length, ← r2.length]; exact hz)
  refine ⟨.ref s.heap.objs.size, _, I.laid (t' := s.toks) (o := .tup (xs ++ ys)) (fun b ob q => Heap.get?_push_of_some _ q) (Nat.le_refl _) ?_, rfl, q2 (fun w => z (r2.nil_iff.mpr w)) _ (I.hok.fresh (Nat.le_refl _))⟩
  exact ⟨by rw [List.length_append]; exact hz, _, r1.append r2, IsTup.new _ _⟩
/-- tuple(t) -/
theorem call_tupleT : CallR X (.type "tuple") (fun xs H Q => ∃ a ys, xs = [.ref a] ∧ SqT X.K H a ys ∧ Q (.ref a) H) := by
  intro pins s σ H xs us Q I r h
  obtain ⟨a, ys, rfl, ha, q⟩ := h
  obtain ⟨u, rfl, ru⟩ := vals1 r
  cases ru
  obtain ⟨its, _, p1, _⟩ := I.tuple ha
  exact call_tuple_same (items := its.toArray) p1 ⟨.ref a, H, I, rfl, q⟩
end
end L2

namespace L2
open PySem PySem.Spec PyProof.Rows

/-! ### places -/
/-- the place that an index of any sign means -/
def ixN (n : Nat) (i : Int) : Option Nat := if 0 ≤ i then (if i < n then some i.toNat else none) else if -(n : Int) ≤ i then some (i + n).toNat else none
def atI {α : Type} (xs : List α) (i : Int) : Option α := (ixN xs.length i).bind fun j => xs[j]?
theorem ixN_seq {n : Nat} {i : Int} {j : Nat} (h : ixN n i = some j) : seqIndex? i n = some j ∧ j < n ∧ -(n : Int) ≤ i ∧ i < n := by
  unfold ixN at h
  by_cases h0 : 0 ≤ i
  · rw [if_pos h0] at h
    by_cases h1 : i < n
    · rw [if_pos h1] at h
      have e : i.toNat = j := Option.some.inj h
      exact ⟨by rw [seqIndex_of h0 h1, e], by omega, by omega, h1⟩
    · rw [if_neg h1] at h; cases h
  · rw [if_neg h0] at h
    by_cases h1 : -(n : Int) ≤ i
    · rw [if_pos h1] at h
      have e : (i + n).toNat = j := Option.some.inj h
      exact ⟨by rw [seqIndex_neg (by omega) h1, e], by omega, h1, by omega⟩
    · rw [if_neg h1] at h; cases h
theorem atI_get {α : Type} {xs : List α} {i : Int} {v : α} (h : atI xs i = some v) : ∃ j, seqIndex? i xs.length = some j ∧ xs[j]? = some v ∧ j < xs.length ∧ -(xs.length : Int) ≤ i ∧ i < xs.length := by
  unfold atI at h
  cases e : ixN xs.length i with
  | none => rw [e] at h; cases h
  | some j =>
    rw [e] at h
    obtain ⟨h1, h2, h3, h4⟩ := ixN_seq e
    exact ⟨j, h1, h, h2, h3, h4⟩
theorem atI_nat {α : Type} {xs : List α} {j : Nat} {v : α} (h : xs[j]? = some v) : atI xs (j : Int) = some v := by
  have hj : j < xs.length := (List.getElem?_eq_some_iff.mp h).1
  have e : ixN xs.length (j : Int) = some j := by
    unfold ixN
    rw [if_pos (by omega), if_pos (by omega)]; simp
  unfold atI; rw [e]; exact h
theorem atI_last {α : Type} (xs : List α) (v : α) : atI (xs ++ [v]) (-1) = some v := by
  have hl : (xs ++ [v]).length = xs.length + 1 := by simp
  have e : ixN (xs ++ [v]).length (-1) = some xs.length := by
    unfold ixN
    rw [hl, if_neg (by decide), if_pos (by omega)]
    congr 1
    omega
  unfold atI
  rw [e]
  show (xs ++ [v])[xs.length]? = some v
  simp

/-! ### what may be subscripted -/
/-- what stands as an index of a plain subscript -/
def PlainIx (b : Expr) : Prop := ∀ o i, subscripted b false o i = operate [o, i] (getItem o i)
/-- a subscript by values -/
def IxR (X : Cx) (r : R2) : Prop :=
  ∀ (value slice : Expr) (pins : List (Addr × Obj)) (s : Shared) (σ : St) (H : Hp) (x y : V) (v u : Value) (Q : VK), Inv X pins σ H s → RelV x v → RelV y u → r x y H Q →
    subscripted slice false v u = operate [v, u] (getItem v u) → wpAny (model X.prog X.w) X.A (subscriptTail value slice v u) (EP X pins σ Q) X.xe s
/-- a call of a builtin's method by values: the receiver, the arguments -/
def MtR (X : Cx) (id : String) (r : V → List V → Hp → VK → Prop) : Prop :=
  ∀ (pins : List (Addr × Obj)) (s : Shared) (σ : St) (H : Hp) (x : V) (xs : List V) (v : Value) (us : List Value) (Q : VK), Inv X pins σ H s → RelV x v → Vals xs us → r x xs H Q →
    wpAny (model X.prog X.w) X.A (call (.builtin id) (v :: us)) (EP X pins σ Q) X.xe s
section
variable {X : Cx} {a b : Expr} {ta tb : TE} {pos : Pos}
theorem IxR.or {r r' : R2} (h : IxR X r) (h' : IxR X r') : IxR X (fun x y H Q => r x y H Q ∨ r' x y H Q) := by
  intro value slice pins s σ H x y v u Q I rx ry q hs
  rcases q with q | q
  · exact h value slice pins s σ H x y v u Q I rx ry q hs
  · exact h' value slice pins s σ H x y v u Q I rx ry q hs
theorem MtR.or {id : String} {r r' : V → List V → Hp → VK → Prop} (h : MtR X id r) (h' : MtR X id r') : MtR X id (fun x xs H Q => r x xs H Q ∨ r' x xs H Q) := by
  intro pins s σ H x xs v us Q I rx rs q
  rcases q with q | q
  · exact h pins s σ H x xs v us Q I rx rs q
  · exact h' pins s σ H x xs v us Q I rx rs q
/-- a[b] -/
theorem pe_ix {r : R2} (hr : IxR X r) (ha : PE X a ta) (hb : PE X b tb) (hs : PlainIx b) : PE X (.Subscript a b pos) (tOp r ta tb) := by
  intro pins s σ H Q I h
  exact Subscript_ (binT ha hb I h fun v u s2 x y H2 I2 rx ry q => hr a b pins s2 σ H2 x y v u Q I2 rx ry q (hs _ _))

def rIxL (K : PySem.W.Frag) : R2 := fun x y H Q => ∃ p xs i v, x = .ref p ∧ y = .int i ∧ SqL K H p xs ∧ atI xs i = some v ∧ Q v H
def rIxT (K : PySem.W.Frag) : R2 := fun x y H Q => ∃ p xs i v, x = .ref p ∧ y = .int i ∧ SqT K H p xs ∧ atI xs i = some v ∧ Q v H
def rIxS : R2 := fun x y H Q => ∃ z i c, x = .str z ∧ y = .int i ∧ z.length ≤ sizeLine ∧ atI z.cps.toList i = some c ∧ Q (.str ⟨#[c]⟩) H
theorem ix_list : IxR X (rIxL X.K) := by
  intro value slice pins s σ H x y v u Q I rx ry h hs
  obtain ⟨p, xs, i, z, rfl, rfl, hq, he, q⟩ := h
  cases rx
  obtain ⟨t, rfl⟩ := ry
  obtain ⟨its, r, pl, hz⟩ := I.list hq
  obtain ⟨j, h1, h2, h3, h4, h5⟩ := atI_get he
  obtain ⟨w, ew, rw'⟩ := r.get h2
  have hl := r.length
  have hn := line63
  have fin : EP X pins σ Q w s := ⟨z, H, I, rw', q⟩
  by_cases h0 : 0 ≤ i
  · have hj : i.toNat = j := by
      rw [seqIndex_of h0 h5] at h1
      exact Option.some.inj h1
    exact item_listR pl.isList h0 (by omega) (by rw [hj]; simpa using ew) fin hs
  · have hj : (i + (its.toArray.size : Int)).toNat = j := by
      rw [seqIndex_neg (by omega) h4] at h1
      rw [List.size_toArray, ← hl]
      exact Option.some.inj h1
    exact subscriptTail_builtinR (x := w) pl.isList.typeIs slot_list_getitem.lookup
      (wpAny_getItem_list_neg (Q := fun r s' => r = w ∧ EP X pins σ Q r s') pl.isList (by omega) (by rw [List.size_toArray] <;> omega) (by omega) (by rw [hj]; simpa using ew) ⟨rfl, fin⟩) hs
theorem ix_tup : IxR X (rIxT X.K) := by
  intro value slice pins s σ H x y v u Q I rx ry h hs
  obtain ⟨p, xs, i, z, rfl, rfl, hq, he, q⟩ := h
  cases rx
  obtain ⟨t, rfl⟩ := ry
  obtain ⟨its, r, pl, hz⟩ := I.tuple hq
  obtain ⟨j, h1, h2, h3, h4, h5⟩ := atI_get he
  obtain ⟨w, ew, rw'⟩ := r.get h2
  have hl := r.length
  have hn := line63
  have fin : EP X pins σ Q w s := ⟨z, H, I, rw', q⟩
  exact subscriptTail_builtinR (x := w) pl.typeIs slot_tuple_getitem.lookup
    (getItem_tuple (j := j) (Q := fun r s' => r = w ∧ EP X pins σ Q r s') pl (by omega) (by omega) (by rw [List.size_toArray, ← hl]; exact h1) (by simpa using ew) ⟨rfl, fin⟩) hs
theorem ix_str : IxR X rIxS := by
  intro value slice pins s σ H x y v u Q I rx ry h hs
  obtain ⟨z, i, c, rfl, rfl, hz, he, q⟩ := h
  obtain ⟨t, rfl⟩ := rx
  obtain ⟨t', rfl⟩ := ry
  obtain ⟨j, h1, h2, h3, h4, h5⟩ := atI_get he
  have hl : z.cps.toList.length = z.length := by simp [Str.length]
  rw [hl] at h1 h4 h5
  have hn := line63
  exact tail_any (typeIs_str s z t) slot_str_getitem.lookup (getItem_str (c := c) (by
    have e1 : decide (i < -(2 ^ 63 : Int)) = false := decide_eq_false (by omega)
    have e2 : decide (i ≥ 2 ^ 63) = false := decide_eq_false (by omega)
    rw [e1, e2, Bool.or_false]) (by rw [h1]; simpa using h2) ⟨.str ⟨#[c]⟩, H, I.tok _, ⟨_, rfl⟩, q⟩) hs
/-- list, tuple or str -/
def rIx (K : PySem.W.Frag) : R2 := fun x y H Q => rIxL K x y H Q ∨ rIxT K x y H Q ∨ rIxS x y H Q
theorem ix_seq : IxR X (rIx X.K) := ix_list.or (ix_tup.or ix_str)

/-! ### xs[i] = v, any sign -/
/-- the list's object behind a store -/
theorem mapSeq_set (its : List Value) (n j : Nat) (u : Value) : Obj.mapSeq (·.setIfInBounds j u) { cls := .type "list", data := .seq its.toArray n } = { cls := .type "list", data := .seq (its.set j u).toArray n } := by
  simp [Obj.mapSeq]
theorem Inv.lst {pins : List (Addr × Obj)} {σ : St} {H : Hp} {s : Shared} {p : Addr} {xs : List V} (I : Inv X pins σ H s) (h : H p = some (.lst xs)) :
    ∃ (its : List Value) (n : Nat), Vals xs its ∧ s.heap.get? p = some { cls := .type "list", data := .seq its.toArray n } ∧ xs.length ≤ sizeLine := by
  obtain ⟨z, its, n, r, e⟩ := I.hok p _ h
  exact ⟨its, n, r, e, z⟩
/-- the list at p is written by an update of its object -/
theorem Inv.lstUpd {pins : List (Addr × Obj)} {σ : St} {H : Hp} {s : Shared} {p : Addr} {xs ys : List V} {its its' : List Value} {n n' : Nat} {f : Obj → Obj} (I : Inv X pins σ H s) (h : H p = some (.lst xs))
    (ho : s.heap.get? p = some { cls := .type "list", data := .seq its.toArray n }) (hf : f { cls := .type "list", data := .seq its.toArray n } = { cls := .type "list", data := .seq its'.toArray n' }) (r : Vals ys its') (hz : ys.length ≤ sizeLine) (t : Nat) :
    Inv X pins σ (upd H p (.lst ys)) { s with heap := s.heap.update p f, toks := t } := by
  have e : (s.heap.update p f).get? p = some { cls := .type "list", data := .seq its'.toArray n' } := by
    rw [Heap.get?_update_self f ho (by rw [hf] <;> rfl), hf]
  refine I.write (x := p) (e := p) (by rw [h]; trivial) (.inl rfl) (fun b u hb q => (Heap.get?_update_other _ _ (Ne.symm hb)).trans q) ⟨_, e⟩ ?_
  exact ⟨hz, its', n', r, e⟩
def rSetL : V → V → V → Hp → (Hp → Prop) → Prop := fun o i v H Q => ∃ p xs k j, o = .ref p ∧ i = .int k ∧ H p = some (.lst xs) ∧ ixN xs.length k = some j ∧ Q (upd H p (.lst (xs.set j v)))
theorem set_list : PSet X rSetL := by
  intro pins s σ H o i v ov iv u Q I ro ri rv h
  obtain ⟨p, xs, k, j, rfl, rfl, hp, hj, q⟩ := h
  cases ro
  obtain ⟨t, rfl⟩ := ri
  obtain ⟨its, n, r, ho, hz⟩ := I.lst hp
  obtain ⟨h1, h2, h3, h4⟩ := ixN_seq hj
  have hl := r.length
  have hn := line63
  have I' : Inv X pins σ (upd H p (.lst (xs.set j v))) { s with heap := s.heap.update p (Obj.mapSeq (·.setIfInBounds j u)) } :=
    I.lstUpd hp ho (mapSeq_set its n j u) (r.set rv j) (by rw [List.length_set]; exact hz) s.toks
  by_cases h0 : 0 ≤ k
  · have hk : k.toNat = j := by
      rw [seqIndex_of h0 h4] at h1
      exact Option.some.inj h1
    exact PySem.W.ki_setAt ho h0 (by omega) (by rw [List.size_toArray, ← hl]; exact h4) (by rw [hk]; exact ⟨_, I', q⟩)
  · have hk : (k + (its.toArray.size : Int)).toNat = j := by
      rw [seqIndex_neg (by omega) h3] at h1
      rw [List.size_toArray, ← hl]
      exact Option.some.inj h1
    exact PySem.W.ki_setBack ho (by omega) (by rw [List.size_toArray, ← hl]; exact h3) (by omega) (by rw [hk]; exact ⟨_, I', q⟩)

/-! ### slices -/
theorem slice_bounds (lo hi : Option Int) (n : Nat) : (sliceBounds lo hi none n).1 = ((HT.sIx n 0 lo : Nat) : Int) ∧ (sliceBounds lo hi none n).2.1 = ((HT.sIx n n hi : Nat) : Int) ∧ (sliceBounds lo hi none n).2.2 = 1 := by
  refine ⟨?_, ?_, rfl⟩
  · cases lo with
    | none => simp [sliceBounds, HT.sIx]
    | some i =>
      simp only [sliceBounds, HT.sIx, Option.getD_none, show (1 : Int) > 0 by decide, if_true]
      by_cases h : i < 0
      · simp only [h, if_true] <;> omega
      · simp only [h, if_false] <;> omega
  · cases hi with
    | none => simp [sliceBounds, HT.sIx]
    | some i =>
      simp only [sliceBounds, HT.sIx, Option.getD_none, show (1 : Int) > 0 by decide, if_true]
      by_cases h : i < 0
      · simp only [h, if_true] <;> omega
      · simp only [h, if_false] <;> omega
theorem slicePick_cut (its : List Value) (lo hi : Option Int) : slicePick its.toArray lo hi none = ((its.drop (HT.sIx its.length 0 lo)).take (HT.sIx its.length its.length hi - HT.sIx its.length 0 lo)).toArray := by
  obtain ⟨h1, h2, h3⟩ := slice_bounds lo hi its.toArray.size
  unfold slicePick
  rw [h1, h2, h3]
  simp only [sliceRange_one, pick_run, List.size_toArray] <;> rfl
/-- xs[lo:hi] of a list: a new list -/
def rSlL (K : PySem.W.Frag) : V → Option Int → Option Int → Hp → VK → Prop := fun x lo hi H Q => ∃ a xs, x = .ref a ∧ SqL K H a xs ∧ ∀ p, H p = none → Q (.ref p) (upd H p (.lst (cutV xs lo hi)))
theorem sl_list : SlR X (rSlL X.K) := by
  intro pins s σ H x v vl vu lo hi sl Q I rx hs pl pu h
  obtain ⟨a, xs, rfl, hx, q⟩ := h
  cases rx
  obtain ⟨its, r, ht, hz⟩ := I.list hx
  have hlen := r.length
  refine ⟨"list", _, slot_list_getitem.lookup, ht.isList.typeIs, ?_⟩
  refine wpAny_getItem_list_slice ht.isList hs pl pu .none (by simp) ?_ (by rw [List.size_toArray] <;> omega)
  rw [slicePick_cut, ← hlen]
  refine ⟨.ref s.heap.objs.size, _, I.laid (t' := s.toks) (o := .lst (cutV xs lo hi)) (fun b ob q => Heap.get?_push_of_some _ q) (Nat.le_refl _) ?_, rfl, q _ (I.hok.fresh (Nat.le_refl _))⟩
  exact ⟨Nat.le_trans (cutV_length xs lo hi) hz, _, 0, (r.drop (HT.sIx xs.length 0 lo)).take (HT.sIx xs.length xs.length hi - HT.sIx xs.length 0 lo), Heap.get?_push_size _ rfl⟩

/-! ### in, not in: flat items -/
def flatV : V → Bool
  | .non => true
  | .bl _ => true
  | .int _ => true
  | .str _ => true
  | _ => false
/-- == of flat values -/
def eqV : V → V → Bool
  | .non, .non => true
  | .bl a, .bl b => a == b
  | .bl a, .int b => (if a then 1 else 0) == b
  | .int a, .bl b => a == (if b then 1 else 0)
  | .int a, .int b => a == b
  | .str a, .str b => a == b
  | _, _ => false
theorem eqAt_V {A : Around} {s : Shared} {y x : V} {u v : Value} (ry : RelV y u) (rx : RelV x v) (fy : flatV y = true) (fx : flatV x = true) : SeqAt.EqAt A s u v (eqV y x) := by
  cases y with
  | non =>
    cases ry
    cases x with
    | non => cases rx; exact SeqAt.EqAt.same _
    | bl b => cases rx; exact SeqAt.EqAt.none_bool b
    | int b => obtain ⟨t, rfl⟩ := rx; exact SeqAt.EqAt.none_int b t
    | str b => obtain ⟨t, rfl⟩ := rx; exact SeqAt.EqAt.none_str b t
    | _ => exact absurd (show false = true from fx) Bool.false_ne_true
  | bl a =>
    cases ry
    cases x with
    | non => cases rx; exact SeqAt.EqAt.bool_none a
    | bl b => cases rx; exact SeqAt.EqAt.bool_bool a b
    | int b => obtain ⟨t, rfl⟩ := rx; exact SeqAt.EqAt.bool_int a b t
    | str b => obtain ⟨t, rfl⟩ := rx; exact SeqAt.EqAt.bool_str a b t
    | _ => exact absurd (show false = true from fx) Bool.false_ne_true
  | int a =>
    obtain ⟨t', rfl⟩ := ry
    cases x with
    | non => cases rx; exact SeqAt.EqAt.int_none a t'
    | bl b => cases rx; exact SeqAt.EqAt.int_bool a t' b
    | int b => obtain ⟨t, rfl⟩ := rx; exact SeqAt.EqAt.int_int a t' b t
    | str b => obtain ⟨t, rfl⟩ := rx; exact SeqAt.EqAt.int_str a t' b t
    | _ => exact absurd (show false = true from fx) Bool.false_ne_true
  | str a =>
    obtain ⟨t', rfl⟩ := ry
    cases x with
    | non => cases rx; exact SeqAt.EqAt.str_none a t'
    | bl b => cases rx; exact SeqAt.EqAt.str_bool a t' b
    | int b => obtain ⟨t, rfl⟩ := rx; exact SeqAt.EqAt.str_int a t' b t
    | str b => obtain ⟨t, rfl⟩ := rx; exact SeqAt.EqAt.str_str a t' b t
    | _ => exact absurd (show false = true from fx) Bool.false_ne_true
  | _ => exact absurd (show false = true from fy) Bool.false_ne_true
/-- the items' answers, read off the values (a value's own answer does not lean on its token) -/
def eqU (x : V) (u : Value) : Bool := match u with
  | .none => eqV .non x
  | .bool b => eqV (.bl b) x
  | .int i _ => eqV (.int i) x
  | .str z _ => eqV (.str z) x
  | _ => false
theorem eqU_of {x y : V} {u : Value} (r : RelV y u) (f : flatV y = true) : eqU x u = eqV y x := by
  cases y with
  | non => cases r; rfl
  | bl b => cases r; rfl
  | int i => obtain ⟨t, rfl⟩ := r; rfl
  | str z => obtain ⟨t, rfl⟩ := r; rfl
  | _ => exact absurd (show false = true from f) Bool.false_ne_true
theorem any_eqU {x : V} : ∀ {xs : List V} {us : List Value}, Vals xs us → xs.all flatV = true → us.any (eqU x) = xs.any fun y => eqV y x
  | _, _, .nil, _ => rfl
  | y :: xs, u :: us, .cons r t, f => by
    rw [List.all_cons, Bool.and_eq_true] at f
    rw [List.any_cons, List.any_cons, eqU_of r f.1, any_eqU t f.2]
theorem mem_eqAt {A : Around} {s : Shared} {x : V} {v : Value} (rx : RelV x v) (fx : flatV x = true) : ∀ {xs : List V} {us : List Value}, Vals xs us → xs.all flatV = true → ∀ u ∈ us, SeqAt.EqAt A s u v (eqU x u)
  | _, _, .nil, _ => fun u hu => by cases hu
  | y :: xs, u :: us, .cons r t, f => fun u' hu => by
    rw [List.all_cons, Bool.and_eq_true] at f
    rcases List.mem_cons.mp hu with rfl | hu
    · rw [eqU_of r f.1]; exact eqAt_V r rx f.1 fx
    · exact mem_eqAt rx fx t f.2 u' hu
def inV (x : V) (xs : List V) : Bool := xs.any fun y => eqV y x
/-- x in a list or tuple of flat items -/
def rIn (K : PySem.W.Frag) (neg : Bool) : R2 := fun x y H Q => ∃ p xs, y = .ref p ∧ (SqL K H p xs ∨ SqT K H p xs) ∧ flatV x = true ∧ xs.all flatV = true ∧ Q (.bl (if neg then !inV x xs else inV x xs)) H
theorem op_in_seq : OpR X (compareOp .In) (rIn X.K false) := by
  intro pins s σ H x y v u Q I rx ry h
  obtain ⟨p, xs, rfl, hq, fx, fs, q⟩ := h
  cases ry
  rcases hq with hq | hq
  · obtain ⟨its, r, pl, hz⟩ := I.list hq
    refine SeqAt.in_listAt (eqU x) pl.isList (fun w hw => mem_eqAt rx fx r fs w (by simpa using hw)) ⟨.bl _, H, I, rfl, ?_⟩
    rw [show its.toArray.any (eqU x) = its.any (eqU x) by simp, any_eqU r fs]
    exact q
  · obtain ⟨its, r, pl, hz⟩ := I.tuple hq
    refine SeqAt.in_tupleAt (eqU x) pl (fun w hw => mem_eqAt rx fx r fs w (by simpa using hw)) ⟨.bl _, H, I, rfl, ?_⟩
    rw [show its.toArray.any (eqU x) = its.any (eqU x) by simp, any_eqU r fs]
    exact q
theorem op_notIn_seq : OpR X (compareOp .NotIn) (rIn X.K true) := by
  intro pins s σ H x y v u Q I rx ry h
  obtain ⟨p, xs, rfl, hq, fx, fs, q⟩ := h
  cases ry
  rcases hq with hq | hq
  · obtain ⟨its, r, pl, hz⟩ := I.list hq
    refine SeqAt.notIn_listAt (eqU x) pl.isList (fun w hw => mem_eqAt rx fx r fs w (by simpa using hw)) ⟨.bl _, H, I, rfl, ?_⟩
    rw [show its.toArray.any (eqU x) = its.any (eqU x) by simp, any_eqU r fs]
    exact q
  · obtain ⟨its, r, pl, hz⟩ := I.tuple hq
    refine SeqAt.notIn_tupleAt (eqU x) pl (fun w hw => mem_eqAt rx fx r fs w (by simpa using hw)) ⟨.bl _, H, I, rfl, ?_⟩
    rw [show its.toArray.any (eqU x) = its.any (eqU x) by simp, any_eqU r fs]
    exact q
theorem op_notIn_str : OpR X (compareOp .NotIn) (fun x y H Q => ∃ i j, x = .str i ∧ y = .str j ∧ Q (.bl (!(!(Builtin.Str.occurrences j i 0 j.length 1).isEmpty))) H) := by
  intro pins s σ H x y v u Q I rx ry h
  obtain ⟨i, j, rfl, rfl, q⟩ := h
  obtain ⟨t, rfl⟩ := rx
  obtain ⟨t', rfl⟩ := ry
  exact notIn_str ⟨.bl _, H, I, rfl, q⟩

/-! ### len, list(x), tuple(x) of any list or tuple that is read -/
theorem call_len_seq : CallR X (.builtin "len") (fun xs H Q => ∃ p ys, xs = [.ref p] ∧ (SqL X.K H p ys ∨ SqT X.K H p ys) ∧ Q (.int ys.length) H) := by
  intro pins s σ H xs us Q I r h
  obtain ⟨p, ys, rfl, hq, q⟩ := h
  obtain ⟨u, rfl, rx⟩ := vals1 r
  cases rx
  have hn := line63
  rcases hq with hq | hq
  · obtain ⟨its, r', pl, hz⟩ := I.list hq
    have hlen := r'.length
    exact Calls.call_len_list pl.isList (by simp only [List.size_toArray] <;> omega) ⟨.int ys.length, H, I.tok _, ⟨s.toks + 1, by rw [List.size_toArray, hlen]⟩, q⟩
  · obtain ⟨its, r', pl, hz⟩ := I.tuple hq
    have hlen := r'.length
    exact len_tuple pl (by simp only [List.size_toArray] <;> omega) ⟨.int ys.length, H, I.tok _, ⟨s.toks + 1, by rw [List.size_toArray, hlen]⟩, q⟩
theorem call_len_str : CallR X (.builtin "len") (fun xs H Q => ∃ z, xs = [.str z] ∧ z.length ≤ sizeLine ∧ Q (.int z.length) H) := by
  intro pins s σ H xs us Q I r h
  obtain ⟨z, rfl, hz, q⟩ := h
  obtain ⟨u, rfl, t, rfl⟩ := vals1 r
  have hn := line63
  exact len_str (by omega) ⟨.int z.length, H, I.tok _, ⟨_, rfl⟩, q⟩
theorem CallR.or {f : Value} {r r' : List V → Hp → VK → Prop} (h : CallR X f r) (h' : CallR X f r') : CallR X f (fun xs H Q => r xs H Q ∨ r' xs H Q) := by
  intro pins s σ H xs us Q I rs q
  rcases q with q | q
  · exact h pins s σ H xs us Q I rs q
  · exact h' pins s σ H xs us Q I rs q
theorem call_list_of : CallR X (.type "list") (fun xs H Q => ∃ p ys, xs = [.ref p] ∧ (SqL X.K H p ys ∨ SqT X.K H p ys) ∧ ∀ l, H l = none → Q (.ref l) (upd H l (.lst ys))) := by
  intro pins s σ H xs us Q I r h
  obtain ⟨p, ys, rfl, hq, q⟩ := h
  obtain ⟨u, rfl, rx⟩ := vals1 r
  cases rx
  have fin : ∀ (its : List Value), Vals ys its → ys.length ≤ sizeLine → ∀ (h' : Heap) (c' : Nat), (∀ b o', s.heap.get? b = some o' → h'.get? b = some o') →
      h'.get? s.heap.objs.size = some { cls := .type "list", dict := none, data := .seq its.toArray c', slots := #[] } → EP X pins σ Q (.ref s.heap.objs.size) { s with heap := h' } := fun its r' hz h' c' kp e =>
    ⟨.ref s.heap.objs.size, _, I.laid (t' := s.toks) kp (Nat.le_refl _) (show ObjOk X.prog X.w _ h' _ (.lst ys) from ⟨hz, its, c', r', e⟩), rfl, q _ (I.hok.fresh (Nat.le_refl _))⟩
  rcases hq with hq | hq
  · obtain ⟨its, r', pl, hz⟩ := I.list hq
    have hlen := r'.length
    obtain ⟨o, ho, hc, n, hd⟩ := pl.isList
    exact call_list_seq p (.inl rfl) ho hc hd (fun h' c' kp e => fin its r' hz h' c' kp e) (by simp only [List.size_toArray] <;> omega)
  · obtain ⟨its, r', pl, hz⟩ := I.tuple hq
    have hlen := r'.length
    obtain ⟨o, ho, hc, n, hd⟩ := pl
    exact call_list_seq p (.inr rfl) ho hc hd (fun h' c' kp e => fin its r' hz h' c' kp e) (by simp only [List.size_toArray] <;> omega)
theorem call_tuple_of : CallR X (.type "tuple") (fun xs H Q => ∃ p ys, xs = [.ref p] ∧ ((SqL X.K H p ys ∧ ∀ l, H l = none → Q (.ref l) (upd H l (.tup ys))) ∨ (SqT X.K H p ys ∧ Q (.ref p) H))) := by
  intro pins s σ H xs us Q I r h
  obtain ⟨p, ys, rfl, h⟩ := h
  obtain ⟨u, rfl, rx⟩ := vals1 r
  cases rx
  rcases h with ⟨hq, q⟩ | ⟨hq, q⟩
  · obtain ⟨its, r', pl, hz⟩ := I.list hq
    have hlen := r'.length
    refine call_tuple_list pl.isList (fun h' kp => ?_) (by simp only [List.size_toArray] <;> omega)
    have I1 : Inv X pins σ H { s with heap := h' } := I.kept (t' := s.toks) kp
    have I2 : Inv X pins σ (upd H h'.objs.size (.tup ys)) { s with heap := h'.push { cls := .type "tuple", data := .seq its.toArray } } :=
      I1.laid (t' := s.toks) (fun b o e => Heap.get?_push_of_some _ e) (Nat.le_refl _) (show ObjOk X.prog X.w _ _ _ (.tup ys) from ⟨hz, its, r', IsTup.new _ _⟩)
    exact ⟨.ref h'.objs.size, _, I2, rfl, q _ (I1.hok.fresh (Nat.le_refl _))⟩
  · obtain ⟨its, r', pl, hz⟩ := I.tuple hq
    exact call_tuple_same pl ⟨.ref p, H, I, rfl, q⟩

/-! ### the call of a builtin's method: o.m(..) -/
/-- the value is of that builtin type -/
def tyV (K : PySem.W.Frag) (T : String) (x : V) (H : Hp) : Prop := match x with
  | .str _ => T = "str"
  | .int _ => T = "int"
  | .ref p => (T = "list" ∧ ∃ xs, SqL K H p xs) ∨ (T = "tuple" ∧ ∃ o, K.lookup p = some o ∧ o.cls = .type "tuple" ∧ o.dict = none) ∨
      (T = "dict" ∧ ((∃ kvs, H p = some (.dK kvs)) ∨ ∃ kvs, H p = some (.dT kvs))) ∨ (T = "set" ∧ ∃ S n, H p = some (.set S n))
  | _ => False
theorem tyV_is {pins : List (Addr × Obj)} {σ : St} {H : Hp} {s : Shared} {T : String} {x : V} {v : Value} (I : Inv X pins σ H s) (r : RelV x v) (ty : tyV X.K T x H) :
    s.TypeIs v T ∧ ∀ a, v = .ref a → ∃ ob, s.heap.get? a = some ob ∧ ob.dict = none := by
  cases x with
  | str z =>
    obtain ⟨t, rfl⟩ := r
    cases (show T = "str" from ty)
    exact ⟨typeIs_str s z t, fun _ e => nomatch e⟩
  | int i =>
    obtain ⟨t, rfl⟩ := r
    cases (show T = "int" from ty)
    exact ⟨typeIs_int s i t, fun _ e => nomatch e⟩
  | ref p =>
    cases r
    rcases ty with ⟨rfl, xs, hq⟩ | ⟨rfl, o, hk, hc, hd⟩ | ⟨rfl, hk⟩ | ⟨rfl, S, n, hk⟩
    · obtain ⟨its, _, pl, _⟩ := I.list hq
      refine ⟨pl.isList.typeIs, fun a e => ?_⟩
      cases e
      obtain ⟨o, n, e, c, hd, _⟩ := pl
      exact ⟨o, e, hd⟩
    · refine ⟨⟨o, I.kIn p o hk, hc⟩, fun a e => ?_⟩
      cases e
      exact ⟨o, I.kIn _ o hk, hd⟩
    · have z : ∃ o, s.heap.get? p = some o ∧ o.ExactDict := by
        rcases hk with ⟨kvs, hk⟩ | ⟨kvs, hk⟩
        · obtain ⟨_, _, _, _, o, _, _, e, ex, _⟩ := I.hok p _ hk
          exact ⟨o, e, ex⟩
        · obtain ⟨_, _, _, _, o, _, _, e, ex, _⟩ := I.hok p _ hk
          exact ⟨o, e, ex⟩
      obtain ⟨o, e, ex⟩ := z
      refine ⟨⟨o, e, ex.1⟩, fun a e2 => ?_⟩
      cases e2
      exact ⟨o, e, ex.2.1⟩
    · obtain ⟨o, _, _, _, e, ex, _⟩ := I.hok p _ hk
      refine ⟨⟨o, e, ex.1⟩, fun a e2 => ?_⟩
      cases e2
      exact ⟨o, e, ex.2.1⟩
  | _ => exact False.elim ty
def tBM0 (K : PySem.W.Frag) (T : String) (r : V → List V → Hp → VK → Prop) (to : TE) : TE := fun σ H Q => to σ H fun x H1 => tyV K T x H1 ∧ r x [] H1 Q
def tBM (K : PySem.W.Frag) (T : String) (r : V → List V → Hp → VK → Prop) (to : TE) (t : TA) : TE := fun σ H Q => to σ H fun x H1 => tyV K T x H1 ∧ t σ H1 fun xs H2 => r x xs H2 Q
variable {o e : Expr} {es : List Expr} {to : TE} {t : TA} {name : Str} {apos cpos : Pos} {T id : String} {r : V → List V → Hp → VK → Prop}
theorem pe_bm0 (pa : PlainAttrs T) (slot : Slot T name id) (hty : typeOf (.builtin id) = pure (.type "method_descriptor")) (hm : MtR X id r) (ho : PE X o to)
    (hbase : attributeBase o name X.env (eval o X.env) = eval o X.env := by rfl) (hline : (apos.endLine == cpos.line) = true := by rfl) : PE X (.Call (.Attribute o name apos) [] [] cpos) (tBM0 X.K T r to) := by
  intro pins s σ H Q I h
  refine wpAny_Call_method0_late hbase hline (thn (ho pins s σ H _ I h) fun v s1 ⟨x, H1, I1, r1, ty, q1⟩ => ?_)
  obtain ⟨h1, h2⟩ := tyV_is I1 r1 ty
  exact ⟨T, id, pa, slot, hty, h1, h2, Calls.callWith_builtin rfl (PySem.evalArgs_none (hm pins s1 σ H1 x [] v [] Q I1 r1 .nil q1))⟩
theorem pe_bm (pa : PlainAttrs T) (slot : Slot T name id) (hty : typeOf (.builtin id) = pure (.type "method_descriptor")) (hm : MtR X id r) (ho : PE X o to) (ha : PA X (e :: es) t)
    (hbase : attributeBase o name X.env (eval o X.env) = eval o X.env := by rfl)
    (hfew : ((backTo cpos (starEach (e :: es) X.env)).all (fun x => !x.1) && (backToKw cpos (keywordEach [] X.env)).all (fun x => x.1.isSome)
      && decide ((e :: es).length + ([] : List Keyword).length + (if ([] : List Keyword).isEmpty then 0 else 1) < 30)) = true := by rfl)
    (hline : (apos.endLine == cpos.line) = true := by rfl) (hs : starEach (e :: es) X.env = (false, eval e X.env) :: starEach es X.env := by rfl) (hplain : (backTo cpos (starEach es X.env)).any (·.1) = false := by rfl) :
    PE X (.Call (.Attribute o name apos) (e :: es) [] cpos) (tBM X.K T r to t) := by
  intro pins s σ H Q I h
  refine wpAny_Call_method_late hbase hfew hline rfl (thn (ho pins s σ H _ I h) fun v s1 ⟨x, H1, I1, r1, ty, q1⟩ => ?_)
  obtain ⟨h1, h2⟩ := tyV_is I1 r1 ty
  refine ⟨T, id, pa, slot, hty, h1, h2, ?_⟩
  have hA := ha cpos pins s1 σ H1 _ I1 q1
  rw [hs] at hA ⊢
  refine Calls.callWith_builtin (by show (false || (backTo cpos (starEach es X.env)).any (·.1)) = false; rw [hplain] <;> rfl) (Calls.evalArgs_plain ?_)
  exact thn hA fun us s2 ⟨vs, H2, I2, r2, q2⟩ => hm pins s2 σ H2 x vs v us Q I2 r1 r2 q2
/- xs.append(e), list.index on a module's tuple .. are MtR facts of 06m -/
end
end L2

namespace L2
open PySem PySem.Spec PyProof.Rows

def MtM (X : Cx) (id : String) (r : V → List V → Hp → VK → Prop) : Prop :=
  ∀ (pins : List (Addr × Obj)) (s : Shared) (σ : St) (H : Hp) (x : V) (xs : List V) (v : Value) (us : List Value) (Q : VK), Inv X pins σ H s → RelV x v → Vals xs us → r x xs H Q →
    wpAny (model X.prog X.w) X.A (call (.builtin id) (v :: us)) (EP X pins σ Q) X.xe s

/-! ### lists of values -/
theorem Vals.one : ∀ {x : V} {us : List Value}, Vals [x] us → ∃ u, us = [u] ∧ RelV x u
  | _, _, .cons r .nil => ⟨_, rfl, r⟩
theorem Vals.two : ∀ {x y : V} {us : List Value}, Vals [x, y] us → ∃ u v, us = [u, v] ∧ RelV x u ∧ RelV y v
  | _, _, _, .cons r (.cons q .nil) => ⟨_, _, rfl, r, q⟩
theorem Vals.zero : ∀ {us : List Value}, Vals [] us → us = []
  | _, .nil => rfl
theorem Vals.dropLast {xs : List V} {us : List Value} (h : Vals xs us) : Vals xs.dropLast us.dropLast := by
  induction h with
  | nil => exact .nil
  | cons r t ih =>
    cases t with
    | nil => exact .nil
    | cons q t' => exact .cons r ih
theorem Vals.eraseIdx : ∀ {xs : List V} {us : List Value} (i : Nat), Vals xs us → Vals (xs.eraseIdx i) (us.eraseIdx i)
  | _, _, _, .nil => .nil
  | _, _, 0, .cons _ t => t
  | _, _, i + 1, .cons r t => .cons r (Vals.eraseIdx i t)
theorem Vals.reverse {xs : List V} {us : List Value} (h : Vals xs us) : Vals xs.reverse us.reverse := by
  induction h with
  | nil => exact .nil
  | cons r t ih => rw [List.reverse_cons, List.reverse_cons]; exact Vals.append ih (.cons r .nil)
theorem Vals.rep {xs : List V} {us : List Value} (h : Vals xs us) : ∀ k : Nat, Vals (List.replicate k xs).flatten (List.replicate k us).flatten
  | 0 => .nil
  | k + 1 => by
    rw [List.replicate_succ, List.replicate_succ, List.flatten_cons, List.flatten_cons]
    exact Vals.append h (Vals.rep h k)
theorem erase_last {α : Type} (l : List α) : l.eraseIdx (l.length - 1) = l.dropLast := by
  induction l with
  | nil => rfl
  | cons a r ih =>
    cases r with
    | nil => rfl
    | cons b r =>
      have e : (a :: b :: r).length - 1 = ((b :: r).length - 1) + 1 := by
        have h1 : (a :: b :: r).length = r.length + 2 := rfl
        have h2 : (b :: r).length = r.length + 1 := rfl
        omega
      rw [e, List.eraseIdx_cons_succ, ih]
      all_goals rfl
theorem len_erase {α : Type} : ∀ (l : List α) (i : Nat), (l.eraseIdx i).length ≤ l.length
  | [], _ => Nat.le_refl _
  | _ :: _, 0 => Nat.le_succ _
  | _ :: r, i + 1 => Nat.succ_le_succ (len_erase r i)
theorem foldl_rep (its : List Value) : ∀ (k : Nat) (acc : List Value),
    List.foldl (fun x1 x2 => x1 ++ x2) acc.toArray (List.replicate k its.toArray) = (acc ++ (List.replicate k its).flatten).toArray
  | 0, acc => by simp
  | k + 1, acc => by
    have e : acc.toArray ++ its.toArray = (acc ++ its).toArray := by simp
    have e2 : (acc ++ its) ++ (List.replicate k its).flatten = acc ++ (List.replicate (k + 1) its).flatten := by
      rw [List.replicate_succ, List.flatten_cons, List.append_assoc]
    rw [← e2, ← foldl_rep its k (acc ++ its), ← e, List.replicate_succ, List.foldl_cons]

section
variable {X : Cx} {pins : List (Addr × Obj)} {σ : St} {H : Hp} {s : Shared} {l b : Addr} {xs ys zs : List V}

/-! ### the two steps: a tracked list is rewritten, a new list is laid -/
theorem Inv.lset {its its' : List Value} {n : Nat} {f : Array Value → Array Value} {t' : Nat} (I : Inv X pins σ H s) (hH : H l = some (.lst xs))
    (e : s.heap.get? l = some { cls := .type "list", data := .seq its.toArray n }) (hf : f its.toArray = its'.toArray) (hv : Vals ys its') (hz : ys.length ≤ sizeLine) :
    Inv X pins σ (upd H l (.lst ys)) { s with heap := s.heap.update l (Obj.mapSeq f), toks := t' } := by
  have q := PySem.IsL.update e f
  rw [hf] at q
  refine I.write (x := l) (e := l) (by rw [hH]; exact trivial) (.inl rfl) (fun b' u hb hu => (Heap.get?_update_other s.heap (Obj.mapSeq f) (Ne.symm hb)).trans hu) ⟨_, q⟩ ?_
  exact ⟨hz, its', _, hv, q⟩
theorem Inv.lnew {its : List Value} {t' : Nat} (I : Inv X pins σ H s) (hv : Vals ys its) (hz : ys.length ≤ sizeLine) :
    Inv X pins σ (upd H s.heap.objs.size (.lst ys)) { s with heap := s.heap.push { cls := .type "list", data := .seq its.toArray }, toks := t' } :=
  I.laid (fun _ _ q => Heap.get?_push_of_some _ q) (Nat.le_refl _) ⟨hz, its, 0, hv, Heap.get?_push_size _ rfl⟩
theorem Inv.fresh (I : Inv X pins σ H s) : H s.heap.objs.size = none := I.hok.fresh (Nat.le_refl _)
theorem Inv.lstM (I : Inv X pins σ H s) (hH : H l = some (.lst xs)) : xs.length ≤ sizeLine ∧ ∃ (its : List Value) (n : Nat), Vals xs its ∧ xs.length = its.length ∧ s.heap.get? l = some { cls := .type "list", data := .seq its.toArray n } := by
  obtain ⟨z, its, n, r, e⟩ := I.hok l _ hH
  exact ⟨z, its, n, r, r.length, e⟩

theorem notLongL {n : Nat} (h : n ≤ sizeLine) : Builtin.List.listTooLong n = false := by
  unfold Builtin.List.listTooLong
  exact decide_eq_false (by omega)
end

section
variable {X : Cx}

/-! ### methods -/
def rAppend : V → List V → Hp → VK → Prop := fun x vs H Q => ∃ l xs y, x = .ref l ∧ vs = [y] ∧ H l = some (.lst xs) ∧ xs.length < sizeLine ∧ Q .non (upd H l (.lst (xs ++ [y])))
theorem mt_append : MtM X "list.append" rAppend := by
  intro pins s σ H x vs v us Q I rx rv h
  obtain ⟨l, xs, y, rfl, rfl, hH, hz, q⟩ := h
  cases rx
  obtain ⟨u, rfl, ru⟩ := rv.one
  obtain ⟨z, its, n, r, hl, e⟩ := I.lstM hH
  refine call_meets F.slot_list_append ⟨_, e, rfl⟩ F.entry_list_append (F.args_list_append_2 _ _) (PySem.list_append l its.toArray n u (by rw [List.size_toArray]; omega)) ⟨e, ?_⟩
  refine ⟨.non, _, I.lset (its' := its ++ [u]) hH e (by simp) (r.append (.cons ru .nil)) ?_, rfl, q⟩
  rw [List.length_append, List.length_singleton]
  omega

def rExtend : V → List V → Hp → VK → Prop := fun x vs H Q => ∃ l b xs zs, x = .ref l ∧ vs = [.ref b] ∧ H l = some (.lst xs) ∧ H b = some (.lst zs) ∧ xs.length + zs.length ≤ sizeLine ∧ Q .non (upd H l (.lst (xs ++ zs)))
theorem mt_extend : MtM X "list.extend" rExtend := by
  intro pins s σ H x vs v us Q I rx rv h
  obtain ⟨l, b, xs, zs, rfl, rfl, hH, hB, hz, q⟩ := h
  cases rx
  obtain ⟨u, rfl, ru⟩ := rv.one
  cases ru
  obtain ⟨z, its, n, r, hl, e⟩ := I.lstM hH
  obtain ⟨z2, its2, n2, r2, hl2, e2⟩ := I.lstM hB
  have hsz : its.toArray.size + its2.toArray.size ≤ sizeLine := by rw [List.size_toArray, List.size_toArray]; omega
  have hlong : ¬ (!its.toArray.isEmpty && Builtin.List.listTooLong (its.toArray.size + its2.toArray.size)) = true := by
    rw [notLongL hsz, Bool.and_false]
    exact Bool.false_ne_true
  refine call_meets F.slot_list_extend ⟨_, e, rfl⟩ F.entry_list_extend (F.args_list_extend_2 _ _)
    (AutoSeq1.list_extend_list_list_0 l its.toArray n b its2.toArray n2 hlong (by rw [List.size_toArray]; omega) (by omega)) ⟨e, e2, ?_⟩
  refine ⟨.non, _, I.lset (its' := its ++ its2) hH e (by simp) (r.append r2) ?_, rfl, q⟩
  rw [List.length_append]
  omega

def rPop : V → List V → Hp → VK → Prop := fun x vs H Q => ∃ l xs y, x = .ref l ∧ vs = [] ∧ H l = some (.lst xs) ∧ xs[xs.length - 1]? = some y ∧ Q y (upd H l (.lst xs.dropLast))
theorem mt_pop : MtM X "list.pop" rPop := by
  intro pins s σ H x vs v us Q I rx rv h
  obtain ⟨l, xs, y, rfl, rfl, hH, hy, q⟩ := h
  cases rx
  have hus := rv.zero
  subst hus
  obtain ⟨z, its, n, r, hl, e⟩ := I.lstM hH
  obtain ⟨u, hu, ru⟩ := r.get hy
  have hy' : its.toArray[its.toArray.size - 1]? = some u := by
    show its.toArray[its.length - 1]? = some u
    rw [← Array.getElem?_toList, ← hl]
    exact hu
  refine call_meets F.slot_list_pop ⟨_, e, rfl⟩ F.entry_list_pop (F.args_list_pop_1 _) (MeetsSeq.list_pop_last l its.toArray n u hy' (by rw [List.size_toArray]; omega)) ⟨e, ?_⟩
  refine ⟨y, _, I.lset (its' := its.dropLast) hH e ?_ r.dropLast ?_, ru, q⟩
  · show its.toArray.eraseIdxIfInBounds (its.toArray.size - 1) = its.dropLast.toArray
    rw [List.size_toArray, List.eraseIdxIfInBounds_toArray, erase_last]
  · rw [List.length_dropLast]
    omega

def rPopAt : V → List V → Hp → VK → Prop := fun x vs H Q => ∃ l xs i k y, x = .ref l ∧ vs = [.int i] ∧ H l = some (.lst xs) ∧ -(2 ^ 63) ≤ i ∧ i < 2 ^ 63 ∧ seqIndex? i xs.length = some k ∧ xs[k]? = some y ∧ Q y (upd H l (.lst (xs.eraseIdx k)))
theorem mt_popAt : MtM X "list.pop" rPopAt := by
  intro pins s σ H x vs v us Q I rx rv h
  obtain ⟨l, xs, i, k, y, rfl, rfl, hH, h1, h2, hk, hy, q⟩ := h
  cases rx
  obtain ⟨u, rfl, ru⟩ := rv.one
  obtain ⟨t, rfl⟩ := ru
  obtain ⟨z, its, n, r, hl, e⟩ := I.lstM hH
  obtain ⟨w, hw, rw'⟩ := r.get hy
  refine call_meets F.slot_list_pop ⟨_, e, rfl⟩ F.entry_list_pop (F.args_list_pop_2 _ _)
    (MeetsSeq.list_pop_at l its.toArray n i t k w (fitsIndex_both h1 h2) (by rw [List.size_toArray, ← hl]; exact hk) (by rw [← Array.getElem?_toList]; exact hw) (by rw [List.size_toArray]; omega)) ⟨e, ?_⟩
  refine ⟨y, _, I.lset (its' := its.eraseIdx k) hH e ?_ (r.eraseIdx k) ?_, rw', q⟩
  · show its.toArray.eraseIdxIfInBounds k = (its.eraseIdx k).toArray
    rw [List.eraseIdxIfInBounds_toArray]
  · have := len_erase xs k
    omega

def rReverse : V → List V → Hp → VK → Prop := fun x vs H Q => ∃ l xs, x = .ref l ∧ vs = [] ∧ H l = some (.lst xs) ∧ Q .non (upd H l (.lst xs.reverse))
theorem mt_reverse : MtM X "list.reverse" rReverse := by
  intro pins s σ H x vs v us Q I rx rv h
  obtain ⟨l, xs, rfl, rfl, hH, q⟩ := h
  cases rx
  have hus := rv.zero
  subst hus
  obtain ⟨z, its, n, r, hl, e⟩ := I.lstM hH
  refine call_meets F.slot_list_reverse ⟨_, e, rfl⟩ F.entry_list_reverse (F.args_list_reverse_1 _) (AutoSeq1.list_reverse_list_0 l its.toArray n (by rw [List.size_toArray]; omega)) ⟨e, ?_⟩
  refine ⟨.non, _, I.lset (its' := its.reverse) hH e (by simp) r.reverse ?_, rfl, q⟩
  rw [List.length_reverse]
  omega

def rClear : V → List V → Hp → VK → Prop := fun x vs H Q => ∃ l xs, x = .ref l ∧ vs = [] ∧ H l = some (.lst xs) ∧ Q .non (upd H l (.lst []))
theorem mt_clear : MtM X "list.clear" rClear := by
  intro pins s σ H x vs v us Q I rx rv h
  obtain ⟨l, xs, rfl, rfl, hH, q⟩ := h
  cases rx
  have hus := rv.zero
  subst hus
  obtain ⟨z, its, n, r, hl, e⟩ := I.lstM hH
  refine call_meets F.slot_list_clear ⟨_, e, rfl⟩ F.entry_list_clear (F.args_list_clear_1 _) (AutoSeq1.list_clear_list_0 l its.toArray n (by rw [List.size_toArray]; omega)) ⟨e, ?_⟩
  exact ⟨.non, _, I.lset (its' := []) (ys := []) hH e rfl .nil (Nat.zero_le _), rfl, q⟩

/-! ### list + list, list += list, list * int -/
def rCat : R2 := fun x y H Q => ∃ l b xs zs, x = .ref l ∧ y = .ref b ∧ H l = some (.lst xs) ∧ H b = some (.lst zs) ∧ xs.length + zs.length ≤ sizeLine ∧ ∀ p, H p = none → Q (.ref p) (upd H p (.lst (xs ++ zs)))
theorem op_cat : OpR X (binaryOp .Add) rCat := by
  intro pins s σ H x y v u Q I rx ry h
  obtain ⟨l, b, xs, zs, rfl, rfl, hH, hB, hz, q⟩ := h
  cases rx
  cases ry
  obtain ⟨z, its, n, r, hl, e⟩ := I.lstM hH
  obtain ⟨z2, its2, n2, r2, hl2, e2⟩ := I.lstM hB
  refine PySem.P.add_list e e2 ?_ (by rw [List.size_toArray, List.size_toArray]; omega)
  have ea : its.toArray ++ its2.toArray = (its ++ its2).toArray := by simp
  rw [ea]
  exact ⟨.ref _, _, I.lnew (t' := s.toks) (r.append r2) (by rw [List.length_append]; omega), rfl, q _ I.fresh⟩
/-- a list times an int (a negative one is nothing) -/
def rRep : R2 := fun x y H Q => ∃ l k xs, x = .ref l ∧ y = .int k ∧ H l = some (.lst xs) ∧ -(2 ^ 63) ≤ k ∧ k < 2 ^ 63 ∧ xs.length * k.toNat ≤ sizeLine ∧
  ∀ p, H p = none → Q (.ref p) (upd H p (.lst (List.replicate k.toNat xs).flatten))
theorem len_rep {α : Type} (xs : List α) (k : Nat) : (List.replicate k xs).flatten.length = k * xs.length := by
  induction k with
  | zero => simp
  | succ k ih => rw [List.replicate_succ, List.flatten_cons, List.length_append, ih, Nat.succ_mul, Nat.add_comm]
theorem op_rep : OpR X (binaryOp .Mult) rRep := by
  intro pins s σ H x y v u Q I rx ry h
  obtain ⟨l, k, xs, rfl, rfl, hH, h1, h2, hz, q⟩ := h
  cases rx
  obtain ⟨t, rfl⟩ := ry
  obtain ⟨z, its, n, r, hl, e⟩ := I.lstM hH
  have hlen : its.toArray.size * k.toNat ≤ sizeLine := by rw [List.size_toArray, ← hl]; exact hz
  have hcap : ¬ its.toArray.size * k.toNat > (2 ^ 63 - 1) / 8 := by
    have : (sizeLine : Nat) ≤ (2 ^ 63 - 1) / 8 := by decide
    omega
  have hfit : ¬ (!Builtin.List.listFitsIndex k) = true := by
    rw [fitsIndex_both h1 h2]
    exact Bool.false_ne_true
  have hlong : ¬ Builtin.List.listTooLong (its.toArray.size * k.toNat) = true := by
    rw [notLongL hlen]
    exact Bool.false_ne_true
  have hnew : List.foldl (fun x1 x2 => x1 ++ x2) #[] (List.replicate (if its.toArray.isEmpty = true then 0 else k.toNat) its.toArray) = (List.replicate k.toNat its).flatten.toArray := by
    have f0 : ∀ m : Nat, List.foldl (fun x1 x2 => x1 ++ x2) #[] (List.replicate m its.toArray) = (List.replicate m its).flatten.toArray := fun m => by
      have := foldl_rep its m []
      rw [List.nil_append] at this
      exact this
    rw [f0]
    cases its with
    | nil => simp
    | cons a r' => rw [if_neg (by simp)]
  refine wpAny_binaryOp_repeat_ref (T := "list") (U := "int") (by decide) ⟨_, e, rfl⟩ (fun s' => typeIs_int s' k t) noFill_list_mul F.fills_int_mul F.slot_int_rmul repeat_list F.slot_int_index.lookup
    (call_meets F.slot_int_rmul (typeIs_int s k t) F.entry_int_rmul (F.args_int_rmul_2 _ _) (int___rmul___int_list k t l its.toArray n)
      ⟨e, rfl, ⟨_, e, rfl⟩, call_meets F.slot_list_mul ⟨_, e, rfl⟩ F.entry_list_mul (F.args_list_mul_2 _ _) (AutoListH.list___mul___list_int_3 l its.toArray n k t hfit hcap hlong) ⟨e, ?_⟩⟩)
  rw [hnew]
  exact ⟨.ref _, _, I.lnew (t' := s.toks) (r.rep k.toNat) (by rw [len_rep, Nat.mul_comm]; exact hz), rfl, q _ I.fresh⟩

/-! ### del xs[i] -/
theorem del_list {pins : List (Addr × Obj)} {s : Shared} {σ : St} {H : Hp} {l : Addr} {xs : List V} {i : Int} {t : Tok} {k : Nat} {Q : Unit → Shared → Prop} (I : Inv X pins σ H s) (hH : H l = some (.lst xs))
    (h1 : -(2 ^ 63) ≤ i) (h2 : i < 2 ^ 63) (hk : seqIndex? i xs.length = some k) (h : ∀ s', Inv X pins σ (upd H l (.lst (xs.eraseIdx k))) s' → Q () s') :
    wpAny (model X.prog X.w) X.A (delItem (.ref l) (.int i t)) Q X.xe s := by
  obtain ⟨z, its, n, r, hl, e⟩ := I.lstM hH
  refine PySem.P.delItem_list (k := k) e (fitsIndex_both h1 h2) (by rw [List.size_toArray, ← hl]; exact hk) (h _ ?_) (by rw [List.size_toArray]; omega)
  refine I.lset (its' := its.eraseIdx k) (t' := s.toks) hH e ?_ (r.eraseIdx k) ?_
  · show its.toArray.eraseIdxIfInBounds k = (its.eraseIdx k).toArray
    rw [List.eraseIdxIfInBounds_toArray]
  · have := len_erase xs k
    omega
end

/-! ### xs[a:b] = ys -/
section
variable {prog : Program} {w : World} {A : Around} {E : Value → Shared → Prop} {s : Shared}
theorem splice_eq (its its2 : List Value) (a c : Nat) : its.toArray.extract 0 a ++ its2.toArray ++ its.toArray.extract c its.toArray.size = (its.take a ++ its2 ++ its.drop c).toArray := by
  apply Array.toList_inj.mp
  first
    | (simp
       exact List.take_of_length_le (by simp))
    | simp [List.take_of_length_le]
    | simp
theorem bounds_run {a c n : Nat} (hac : a ≤ c) (hc : c ≤ n) : sliceBounds (some (a : Int)) (some (c : Int)) none n = ((a : Int), (c : Int), 1) := by
  simp only [sliceBounds, Option.getD_none]
  have h1 : ¬ ((a : Int) < 0) := by omega
  have h2 : ¬ ((c : Int) < 0) := by omega
  simp only [h1, h2, if_false, show (1 : Int) > 0 by decide, if_true]
  congr 1
  · omega
  · congr 1; omega
set_option maxRecDepth 100000 in
/-- list.__setitem__ with a slice of step one and another list -/
theorem setItem_slice {l b sl : Addr} {items new : Array Value} {n n2 : Nat} {vl vu : Value} {a c : Nat} {Q : Unit → Shared → Prop}
    (e : s.heap.get? l = some { cls := .type "list", data := .seq items n }) (e2 : s.heap.get? b = some { cls := .type "list", data := .seq new n2 }) (hne : l ≠ b)
    (hs : s.heap.IsSliceOf sl vl vu .none) (pl : IsPart vl (some (a : Int))) (pu : IsPart vu (some (c : Int))) (hac : a ≤ c) (hc : c ≤ items.size)
    (hsz : items.size + new.size ≤ sizeLine) (h : Q () { s with heap := s.heap.update l (Obj.mapSeq fun xs => xs.extract 0 a ++ new ++ xs.extract c xs.size) }) :
    wpAny (model prog w) A (setItem (.ref l) (.ref sl) (.ref b)) Q E s := by
  have hl : s.heap.IsList l items := PySem.IsL.isList e
  have hb : s.heap.IsList b new := PySem.IsL.isList e2
  obtain ⟨os, hos, hcs, hds⟩ := id hs
  have hTs : s.TypeIs (.ref sl) "slice" := ⟨os, hos, hcs⟩
  have hstep : ¬ ((rawPart none == rawInt 0) = true) := Bool.false_ne_true
  have hsame : Builtin.List.listSameRef (.ref l) (.ref b) = false := by
    unfold Builtin.List.listSameRef
    exact beq_eq_false_iff_ne.mpr hne
  have hmax : (max (a : Int) (c : Int)).toNat = c := by omega
  have hz' : ((fun xs : Array Value => xs.extract 0 a ++ new ++ xs.extract c xs.size) items).size ≤ sizeLine + 1 := by
    simp only [Array.size_append, Array.size_extract]
    omega
  unfold setItem
  try with_reducible refine wpAny_holding ?_
  first | refine wpAny_bind (wpAny_pure ?_) | skip
  refine wpAny_bind (wpAny_sequenceKey hl.typeIs (by decide) ?_)
  refine wpAny_bind (wpAny_callSpecial?_slot (name := Str.ofString "__setitem__") hl.typeIs slot_list_setitem
    (wpAny_call_entry slot_list_setitem hl.typeIs entry_list_setitem ?_ (args_list_setitem _ _ _)))
  show wpAny _ _ (Builtin.List.listSubscript? (.ref sl) >>= _) _ _ s
  refine wpAny_bind ?_
  unfold Builtin.List.listSubscript?
  refine wpAny_bind (wpAny_specialOf hTs slice_no_index ?_)
  simp only [Option.isNone_none, if_true]
  refine wpAny_pure ?_
  show wpAny _ _ (typeOf (.ref sl) >>= _) _ _ s
  refine wpAny_bind (wpAny_typeOf hTs ?_)
  first
    | rw [if_neg (by decide)]
    | refine PySem.W.KFB.if_not (by decide) ?_
  rw [listSliceParts_eq]
  refine wpAny_bind (wpAny_bind (wpAny_field hos hds (x := .none) rfl (wpAny_bind (wpAny_listPart .none ?_))))
  rw [if_neg hstep]
  refine wpAny_bind (wpAny_field hos hds (x := vl) rfl (wpAny_bind (wpAny_listPart pl ?_)))
  refine wpAny_bind (wpAny_field hos hds (x := vu) rfl (wpAny_bind (wpAny_listPart pu (wpAny_pure ?_))))
  first
    | simp only [hsame, Bool.false_eq_true, if_false]
    | refine PySem.W.KFB.if_not hsame ?_
    | (dsimp only
       rw [if_neg (by rw [hsame]; exact Bool.false_ne_true)])
  refine wpAny_bind (m := Builtin.List.listAllItems (.ref b) "must assign iterable to extended slice") ?_
  unfold Builtin.List.listAllItems
  refine wpAny_bind (wpAny_typeOf hb.typeIs ?_)
  first
    | refine PySem.W.KFB.if_so (by decide) ?_
    | rw [if_pos (by decide)]
    | simp only [beq_self_eq_true, Bool.true_or, if_true]
  unfold Builtin.List.listItems
  refine wpAny_bind (wpAny_seqItems e2 rfl (wpAny_pure ?_))
  refine wpAny_bind (wpAny_bind (wpAny_seqItems e rfl (wpAny_pure ?_)))
  refine wpAny_bind (wpAny_of_eq ((sliceIndices_raw (some (a : Int)) (some (c : Int)) none items.size (by simp)).trans (congrArg (pure : Int × Int × Int → Sem (Int × Int × Int)) (bounds_run hac hc))) ?_)
  show wpAny _ _ (if ((1 : Int) == 1) = true then _ else _) _ _ s
  rw [if_pos (by decide)]
  refine wpAny_bind (wpAny_rule ?_)
  first
    | simp only [notLongL hsz, Bool.false_eq_true, if_false]
    | refine PySem.W.KFB.if_not (notLongL hsz) ?_
  first | refine wpAny_bind (wpAny_pure ?_) | skip
  show wpAny _ _ (updateSeq l (fun xs => xs.extract 0 ((a : Int)).toNat ++ new ++ xs.extract (max (a : Int) (c : Int)).toNat xs.size) >>= _) _ _ s
  rw [hmax, Int.toNat_natCast]
  refine wpAny_bind (wpAny_updateSeq (hz := Nat.le_trans (Nat.le_add_right _ _) hsz) (_hz' := hz') e rfl ?_)
  refine wpAny_bind (wpAny_letGo ?_)
  first
    | exact wpAny_bind (wpAny_pure (wpAny_pure ⟨.none, rfl, wpAny_pure h⟩))
    | exact wpAny_pure ⟨.none, rfl, wpAny_pure h⟩
end

section
variable {X : Cx}
/-- xs[a:c] = ys of another list, at the value level: sl is the slice object that was just made -/
theorem set_slice {pins : List (Addr × Obj)} {s : Shared} {σ : St} {H : Hp} {l b sl : Addr} {xs ys : List V} {a c : Int} {vl vu : Value} {Q : Unit → Shared → Prop} (I : Inv X pins σ H s)
    (hH : H l = some (.lst xs)) (hB : H b = some (.lst ys)) (hne : l ≠ b) (hs : s.heap.IsSliceOf sl vl vu .none) (ra : RelV (.int a) vl) (rc : RelV (.int c) vu) (h0 : 0 ≤ a) (hac : a ≤ c) (hc : c ≤ xs.length)
    (hz : xs.length + ys.length ≤ sizeLine) (h : ∀ s', Inv X pins σ (upd H l (.lst (xs.take a.toNat ++ ys ++ xs.drop c.toNat))) s' → Q () s') :
    wpAny (model X.prog X.w) X.A (setItem (.ref l) (.ref sl) (.ref b)) Q X.xe s := by
  obtain ⟨ta, rfl⟩ := ra
  obtain ⟨tc, rfl⟩ := rc
  obtain ⟨z, its, n, r, hl, e⟩ := I.lstM hH
  obtain ⟨z2, its2, n2, r2, hl2, e2⟩ := I.lstM hB
  obtain ⟨a', rfl⟩ := Int.eq_ofNat_of_zero_le h0
  obtain ⟨c', rfl⟩ := Int.eq_ofNat_of_zero_le (Int.le_trans h0 hac)
  simp only [Int.toNat_natCast] at h
  refine setItem_slice (a := a') (c := c') e e2 hne hs (.int _ _) (.int _ _) (by omega) (by rw [List.size_toArray]; omega) (by rw [List.size_toArray, List.size_toArray]; omega) (h _ ?_)
  refine I.lset (its' := its.take a' ++ its2 ++ its.drop c') (t' := s.toks) hH e ?_ (Vals.append (Vals.append (r.take _) r2) (r.drop _)) ?_
  · exact splice_eq its its2 a' c'
  · rw [List.length_append, List.length_append, List.length_take, List.length_drop]
    omega
end
end L2

set_option Elab.async false
set_option linter.all false
set_option maxRecDepth 100000
namespace L2
open PySem PySem.Spec PyProof.Rows

/-! ### lists of pairs as tables -/
section
variable {κ : Type} [DecidableEq κ]
def valV (kvs : List (κ × V)) (k : κ) : Option V := (kvs.find? fun kv => decide (kv.1 = k)).map (·.2)
/-- in its place, or at the end -/
def putK (kvs : List (κ × V)) (k : κ) (v : V) : List (κ × V) :=
  if (kvs.any fun kv => decide (kv.1 = k)) = true then kvs.map (fun kv => if kv.1 = k then (kv.1, v) else kv) else kvs ++ [(k, v)]
def dropK (kvs : List (κ × V)) (k : κ) : List (κ × V) := kvs.filter fun kv => decide (kv.1 ≠ k)

theorem valV_nil {k : κ} : valV ([] : List (κ × V)) k = none := rfl
theorem valV_pos {p : κ × V} {r : List (κ × V)} {k : κ} (e : p.1 = k) : valV (p :: r) k = some p.2 := by simp [valV, List.find?_cons, e]
theorem valV_neg {p : κ × V} {r : List (κ × V)} {k : κ} (e : ¬ p.1 = k) : valV (p :: r) k = valV r k := by simp [valV, List.find?_cons, e]
theorem valV_any (k : κ) : ∀ kvs : List (κ × V), (kvs.any fun kv => decide (kv.1 = k)) = (valV kvs k).isSome
  | [] => rfl
  | p :: r => by
    rw [List.any_cons]
    by_cases e : p.1 = k
    · simp only [valV_pos e, decide_eq_true e, Bool.true_or, Option.isSome_some]
    · rw [valV_neg e, decide_eq_false e, Bool.false_or]; exact valV_any k r
theorem valV_map (k j : κ) (y : V) : ∀ kvs : List (κ × V), valV (kvs.map fun kv => if kv.1 = k then (kv.1, y) else kv) j = (valV kvs j).map fun x => if j = k then y else x
  | [] => rfl
  | p :: r => by
    have ih := valV_map k j y r
    rw [List.map_cons]
    by_cases h : p.1 = k
    · rw [if_pos h]
      by_cases e : p.1 = j
      · rw [valV_pos (p := (p.1, y)) e, valV_pos e, Option.map_some, if_pos (e.symm.trans h)]
      · rw [valV_neg (p := (p.1, y)) e, valV_neg e, ih]
    · rw [if_neg h]
      by_cases e : p.1 = j
      · rw [valV_pos (p := p) e, valV_pos e, Option.map_some, if_neg (fun z => h (e.trans z))]
      · rw [valV_neg (p := p) e, valV_neg e, ih]
theorem valV_snoc (k j : κ) (y : V) : ∀ kvs : List (κ × V), valV kvs k = none → valV (kvs ++ [(k, y)]) j = if j = k then some y else valV kvs j
  | [], _ => by
    by_cases e : k = j
    · rw [if_pos e.symm]; exact valV_pos (p := (k, y)) e
    · rw [if_neg (fun z => e z.symm)]; exact valV_neg (p := (k, y)) e
  | p :: r, hn => by
    rw [List.cons_append]
    have hk : ¬ p.1 = k := fun z => by rw [valV_pos z] at hn; cases hn
    rw [valV_neg hk] at hn
    have ih := valV_snoc k j y r hn
    by_cases e : p.1 = j
    · rw [valV_pos e, valV_pos e, if_neg (fun z => hk (e.trans z))]
    · rw [valV_neg e, valV_neg e, ih]
theorem valV_put (kvs : List (κ × V)) (k j : κ) (y : V) : valV (putK kvs k y) j = if j = k then some y else valV kvs j := by
  unfold putK
  by_cases a : (kvs.any fun kv => decide (kv.1 = k)) = true
  · rw [if_pos a, valV_map]
    rw [valV_any] at a
    by_cases e : j = k
    · obtain ⟨x, hx⟩ := Option.isSome_iff_exists.mp a
      rw [if_pos e, e, hx, Option.map_some, if_pos rfl]
    · rw [if_neg e]
      cases valV kvs j with
      | none => rfl
      | some x => rw [Option.map_some, if_neg e]
  · rw [if_neg a]
    refine valV_snoc k j y kvs ?_
    rw [valV_any] at a
    cases q : valV kvs k with
    | none => rfl
    | some x => rw [q] at a; exact (a rfl).elim
theorem length_putK (kvs : List (κ × V)) (k : κ) (v : V) : (putK kvs k v).length ≤ kvs.length + 1 := by
  unfold putK
  split
  · rw [List.length_map]; omega
  · rw [List.length_append, List.length_cons, List.length_nil]; omega
theorem putK_new {kvs : List (κ × V)} {k : κ} (v : V) (h : valV kvs k = none) : putK kvs k v = kvs ++ [(k, v)] := by
  unfold putK
  rw [valV_any, h]
  exact if_neg (by decide)

theorem RelO.isSome_eq {o : Option V} {u : Option Value} (r : RelO o u) : o.isSome = u.isSome := by
  cases o with
  | none => cases u with
    | none => rfl
    | some _ => exact (show False from r).elim
  | some _ => cases u with
    | none => exact (show False from r).elim
    | some _ => rfl
theorem RelO.getD {o : Option V} {u : Option Value} {d : V} {d' : Value} (r : RelO o u) (rd : RelV d d') : RelV (o.getD d) (u.getD d') := by
  cases o with
  | none => cases u with
    | none => exact rd
    | some _ => exact (show False from r).elim
  | some _ => cases u with
    | none => exact (show False from r).elim
    | some _ => exact r

/-- raw tables of the same keys -/
theorem KV.val {kvs : List (κ × V)} {vs : List (κ × Value)} (r : KV kvs vs) (k : κ) : RelO (valV kvs k) (valueAt vs k) := by
  unfold KV at r
  induction r with
  | nil => exact True.intro
  | @cons p q ps qs h t ih =>
    obtain ⟨h1, h2⟩ := h
    by_cases e : p.1 = k
    · have e' : q.1 = k := h1.symm.trans e
      have b : valueAt (q :: qs) k = some q.2 := by simp [valueAt, List.find?_cons, e']
      rw [valV_pos e, b]; exact h2
    · have e' : ¬ q.1 = k := fun z => e (h1.trans z)
      have b : valueAt (q :: qs) k = valueAt qs k := by simp [valueAt, List.find?_cons, e']
      rw [valV_neg e, b]; exact ih
theorem KV.any {kvs : List (κ × V)} {vs : List (κ × Value)} (r : KV kvs vs) (k : κ) : (kvs.any fun kv => decide (kv.1 = k)) = vs.any fun kv => decide (kv.1 = k) := by
  unfold KV at r
  induction r with
  | nil => rfl
  | cons h t ih => rw [List.any_cons, List.any_cons, ih, h.1]
theorem KV.repl {kvs : List (κ × V)} {vs : List (κ × Value)} (r : KV kvs vs) (k : κ) {y : V} {u : Value} (ry : RelV y u) :
    KV (kvs.map fun kv => if kv.1 = k then (kv.1, y) else kv) (vs.map fun kv => if kv.1 = k then (kv.1, u) else kv) := by
  unfold KV at r ⊢
  induction r with
  | nil => exact .nil
  | @cons p q ps qs h t ih =>
    rw [List.map_cons, List.map_cons]
    refine .cons ?_ ih
    obtain ⟨h1, h2⟩ := h
    by_cases e : p.1 = k
    · rw [if_pos e, if_pos (h1.symm.trans e)]; exact ⟨h1, ry⟩
    · rw [if_neg e, if_neg (fun z => e (h1.trans z))]; exact ⟨h1, h2⟩
theorem KV.put {kvs : List (κ × V)} {vs : List (κ × Value)} (r : KV kvs vs) (k : κ) {y : V} {u : Value} (ry : RelV y u) : KV (putK kvs k y) (stored vs k u) := by
  unfold putK stored
  rw [r.any k]
  by_cases e : (vs.any fun kv => decide (kv.1 = k)) = true
  · rw [if_pos e, if_pos e]; exact r.repl k ry
  · rw [if_neg e, if_neg e]; exact Paired.snoc r ⟨rfl, ry⟩
theorem KV.drop {kvs : List (κ × V)} {vs : List (κ × Value)} (r : KV kvs vs) (k : κ) : KV (dropK kvs k) (without vs k) := by
  unfold KV at r ⊢
  unfold dropK without
  induction r with
  | nil => exact .nil
  | @cons p q ps qs h t ih =>
    obtain ⟨h1, h2⟩ := h
    rw [List.filter_cons, List.filter_cons]
    by_cases e : p.1 = k
    · have a : ¬ decide (p.1 ≠ k) = true := by simp [e]
      have b : ¬ decide (q.1 ≠ k) = true := by simp [h1.symm.trans e]
      rw [if_neg a, if_neg b]; exact ih
    · have e' : ¬ q.1 = k := fun z => e (h1.trans z)
      have a : decide (p.1 ≠ k) = true := by simp [e]
      have b : decide (q.1 ≠ k) = true := by simp [e']
      rw [if_pos a, if_pos b]; exact .cons ⟨h1, h2⟩ ih
theorem KV.keys {kvs : List (κ × V)} {vs : List (κ × Value)} (r : KV kvs vs) : kvs.map (·.1) = vs.map (·.1) := by
  unfold KV at r
  induction r with
  | nil => rfl
  | cons h t ih => rw [List.map_cons, List.map_cons, ih, h.1]
theorem KV.length {kvs : List (κ × V)} {vs : List (κ × Value)} (r : KV kvs vs) : kvs.length = vs.length := Paired.length r
theorem dropK_le (kvs : List (κ × V)) (k : κ) : (dropK kvs k).length ≤ kvs.length := List.length_filter_le _ _
end


/-! ### a tracked dict, its keys ints and texts or tuples of these -/
theorem kV_is {P : Program} {w : World} {k : Key} {u : Value} (r : RelV (kV k) u) : (mixKind P w).is k u = true := by
  cases k with
  | inl i => obtain ⟨t, e⟩ := (show ∃ t, u = Value.int i t from r); subst e; exact mixKind_int P w i t
  | inr x => obtain ⟨t, e⟩ := (show ∃ t, u = Value.str x t from r); subst e; exact mixKind_str P w x t
theorem kV_inj {a b : Key} (e : kV a = kV b) : a = b := by
  cases a with
  | inl i => cases b with
    | inl j => have e' : V.int i = V.int j := e; injection e' with e'; rw [e']
    | inr y => exact nomatch (show V.int i = V.str y from e)
  | inr x => cases b with
    | inl j => exact nomatch (show V.str x = V.int j from e)
    | inr y => have e' : V.str x = V.str y := e; injection e' with e'; rw [e']
theorem kVs_inj : ∀ {a b : List Key}, a.map kV = b.map kV → a = b
  | [], [], _ => rfl
  | [], _ :: _, e => by simp at e
  | _ :: _, [], e => by simp at e
  | x :: xs, y :: ys, e => by
    rw [List.map_cons, List.map_cons] at e
    injection e with e1 e2
    rw [kV_inj e1, kVs_inj e2]
theorem items_are {P : Program} {w : World} : ∀ {ks : List Key} {us : List Value}, Vals (ks.map kV) us → ItemsAre (mixKind P w) ks us
  | [], _, r => by rw [List.map_nil] at r; cases r; exact .nil
  | k :: ks, _, r => by
    rw [List.map_cons] at r
    cases r with
    | cons h t => exact .cons (kV_is h) (items_are t)

/-- raw entries of a dict with tuple keys -/
abbrev KT (H : Hp) : List (List Key × V) → List (List Key × Addr × Value) → Prop := Paired fun p q => p.1 = q.1 ∧ H q.2.1 = some (.tup (p.1.map kV)) ∧ RelV p.2 q.2.2
theorem KT.val {H : Hp} {kvs : List (List Key × V)} {xs : List (List Key × Addr × Value)} (r : KT H kvs xs) (k : List Key) : RelO (valV kvs k) ((atKey xs k).map (·.2)) := by
  induction r with
  | nil => exact True.intro
  | @cons p q ps qs h t ih =>
    obtain ⟨h1, _, h2⟩ := h
    by_cases e : p.1 = k
    · have e' : q.1 = k := h1.symm.trans e
      have b : atKey (q :: qs) k = some q.2 := by simp [atKey, List.find?_cons, e']
      rw [valV_pos e, b]; exact h2
    · have e' : ¬ q.1 = k := fun z => e (h1.trans z)
      have b : atKey (q :: qs) k = atKey qs k := by simp [atKey, List.find?_cons, e']
      rw [valV_neg e, b]; exact ih
theorem KT.repl {H : Hp} {kvs : List (List Key × V)} {xs : List (List Key × Addr × Value)} (r : KT H kvs xs) (k : List Key) {y : V} {u : Value} (ry : RelV y u) :
    KT H (kvs.map fun kv => if kv.1 = k then (kv.1, y) else kv) (xs.map (putAt k u)) := by
  induction r with
  | nil => exact .nil
  | @cons p q ps qs h t ih =>
    rw [List.map_cons, List.map_cons]
    refine .cons ?_ ih
    obtain ⟨h1, h2, h3⟩ := h
    unfold putAt
    by_cases e : p.1 = k
    · rw [if_pos e, if_pos (h1.symm.trans e)]; exact ⟨h1, h2, ry⟩
    · rw [if_neg e, if_neg (fun z => e (h1.trans z))]; exact ⟨h1, h2, h3⟩
theorem KT.put {H : Hp} {kvs : List (List Key × V)} {xs : List (List Key × Addr × Value)} (r : KT H kvs xs) (k : List Key) {b : Addr} {y : V} {u : Value} (hb : H b = some (.tup (k.map kV))) (ry : RelV y u) :
    KT H (putK kvs k y) (storedH xs k b u) := by
  have e : (kvs.any fun kv => decide (kv.1 = k)) = (atKey xs k).isSome := by
    rw [valV_any, (r.val k).isSome_eq, Option.isSome_map]
  unfold putK storedH
  rw [e]
  by_cases q : (atKey xs k).isSome = true
  · rw [if_pos q, if_pos q]; exact r.repl k ry
  · rw [if_neg q, if_neg q]; exact Paired.snoc r ⟨rfl, hb, ry⟩
theorem KT.keeps {H H' : Hp} {kvs : List (List Key × V)} {xs : List (List Key × Addr × Value)} (r : KT H kvs xs) (ht : ∀ b ys, H b = some (.tup ys) → H' b = some (.tup ys)) : KT H' kvs xs :=
  Paired.mapP r fun _ _ z => ⟨z.1, ht _ _ z.2.1, z.2.2⟩

section
variable {P : Program} {w : World} {H : Hp} {h : Heap} {a : Addr}
theorem rd_of {u : HO} (ok : HOk P w H h) (e : Rd H a u) : ObjOk P w H h a u := e.ok ok
theorem dk_rd {kvs : List (Key × V)} (ok : HOk P w H h) (e : Rd H a (.dK kvs)) : kvs.length ≤ sizeLine ∧ (a == sysModules) = false ∧ ∃ vs, KV kvs vs ∧ h.DictOf (mixKind P w) a vs :=
  show ObjOk P w H h a (.dK kvs) from rd_of ok e
theorem dk_of {kvs : List (Key × V)} (ok : HOk P w H h) (e : H a = some (.dK kvs)) : kvs.length ≤ sizeLine ∧ (a == sysModules) = false ∧ ∃ vs, KV kvs vs ∧ h.DictOf (mixKind P w) a vs := dk_rd ok (.inl e)
/-- a tracked tuple of ints and texts is a key -/
theorem key_of {ks : List Key} (ok : HOk P w H h) (e : H a = some (.tup (ks.map kV))) : (tupleKind (mixKind P w)).is h ks a := by
  obtain ⟨_, its, r, o, h1, h2, n, h3⟩ := (show ObjOk P w H h a (.tup (ks.map kV)) from ok a _ e)
  exact ⟨o, its.toArray, n, h1, h2, h3, by simpa using items_are r⟩
theorem dt_rd {kvs : List (List Key × V)} (ok : HOk P w H h) (e : Rd H a (.dT kvs)) : kvs.length ≤ sizeLine ∧ (a == sysModules) = false ∧
    ∃ xs, KT H kvs xs ∧ h.DictOfH (tupleKind (mixKind P w)) a xs := by
  obtain ⟨z, y, xs, r, o, es, ep, h1, h2, h3, h4, h5⟩ := (show ObjOk P w H h a (.dT kvs) from rd_of ok e)
  refine ⟨z, y, xs, r, o, es, ep, h1, h2, h3, h4, fun x hx => ?_, h5⟩
  have all : ∀ {l : List (List Key × V)} {m : List (List Key × Addr × Value)}, KT H l m → ∀ x ∈ m, (tupleKind (mixKind P w)).is h x.1 x.2.1 := by
    intro l m q
    induction q with
    | nil => intro x hx; exact nomatch hx
    | @cons p q ps qs hq t ih =>
      intro x hx
      rcases List.mem_cons.mp hx with e | hx
      · subst e
        exact key_of ok (by rw [← hq.1]; exact hq.2.1)
      · exact ih x hx
  exact all r x hx
theorem dt_of {kvs : List (List Key × V)} (ok : HOk P w H h) (e : H a = some (.dT kvs)) : kvs.length ≤ sizeLine ∧ (a == sysModules) = false ∧
    ∃ xs, KT H kvs xs ∧ h.DictOfH (tupleKind (mixKind P w)) a xs := dt_rd ok (.inl e)
end

/-- what the dict at a holds at the key y -/
def DGet (H : Hp) (a : Addr) (y : V) (r : Option V) : Prop :=
  (∃ kvs k, Rd H a (.dK kvs) ∧ y = kV k ∧ r = valV kvs k) ∨ ∃ kvs k b, Rd H a (.dT kvs) ∧ y = .ref b ∧ H b = some (.tup (k.map kV)) ∧ r = valV kvs k
/-- the heap behind a[y] = v -/
def DPut (H : Hp) (a : Addr) (y v : V) (H' : Hp) : Prop :=
  (∃ kvs k, H a = some (.dK kvs) ∧ y = kV k ∧ kvs.length < sizeLine ∧ H' = upd H a (.dK (putK kvs k v))) ∨
  ∃ kvs k b, H a = some (.dT kvs) ∧ y = .ref b ∧ H b = some (.tup (k.map kV)) ∧ kvs.length < sizeLine ∧ H' = upd H a (.dT (putK kvs k v))
theorem DGet.k {H : Hp} {a : Addr} {kvs : List (Key × V)} {k : Key} (e : H a = some (.dK kvs)) : DGet H a (kV k) (valV kvs k) := .inl ⟨kvs, k, .inl e, rfl, rfl⟩
theorem DGet.t {H : Hp} {a b : Addr} {kvs : List (List Key × V)} {k : List Key} (e : H a = some (.dT kvs)) (eb : H b = some (.tup (k.map kV))) : DGet H a (.ref b) (valV kvs k) := .inr ⟨kvs, k, b, .inl e, rfl, eb, rfl⟩
theorem DPut.k {H : Hp} {a : Addr} {kvs : List (Key × V)} {k : Key} {v : V} (e : H a = some (.dK kvs)) (hl : kvs.length < sizeLine) : DPut H a (kV k) v (upd H a (.dK (putK kvs k v))) := .inl ⟨kvs, k, e, rfl, hl, rfl⟩
theorem DPut.t {H : Hp} {a b : Addr} {kvs : List (List Key × V)} {k : List Key} {v : V} (e : H a = some (.dT kvs)) (eb : H b = some (.tup (k.map kV))) (hl : kvs.length < sizeLine) :
    DPut H a (.ref b) v (upd H a (.dT (putK kvs k v))) := .inr ⟨kvs, k, b, e, rfl, eb, hl, rfl⟩


section
variable {X : Cx} {pins : List (Addr × Obj)} {σ : St} {H : Hp} {s : Shared} {a : Addr} {y v : V} {u r : Value} {o : Option V} {A : Around} {E : Value → Shared → Prop}

theorem Inv.big (I : Inv X pins σ H s) : sysModules < s.heap.objs.size := by
  have h : mainGlobals < s.heap.objs.size := (I.mod.glob.keeps I.bk).lt
  exact Nat.lt_trans (by decide) h

/-- d[y], there -/
theorem d_getItem {Q : Value → Shared → Prop} (hu : A.units + 1 < cLine) (I : Inv X pins σ H s) (g : DGet H a y (some v)) (ry : RelV y u) (h : ∀ w' s', Inv X pins σ H s' → RelV v w' → Q w' s') :
    wpAny (model X.prog X.w) A (getItem (.ref a) u) Q E s := by
  rcases g with ⟨kvs, k, e, ey, l⟩ | ⟨kvs, k, b, e, ey, eb, l⟩
  · subst ey
    obtain ⟨z, hd, vs, rel, dd⟩ := dk_rd I.hok e
    obtain ⟨w', hw, rw'⟩ := RelO.some_of (v := v) (o := valueAt vs k) (by rw [l]; exact rel.val k)
    exact wpAny_getItem_of (kV_is ry) dd.mapOf hw (h w' _ (I.tok _) rw')
  · subst ey
    cases (show u = Value.ref b from ry)
    obtain ⟨z, hd, xs, rel, dd⟩ := dt_rd I.hok e
    obtain ⟨w', hw, rw'⟩ := RelO.some_of (v := v) (o := (atKey xs k).map (·.2)) (by rw [l]; exact rel.val k)
    obtain ⟨p, hp, hp2⟩ := Option.map_eq_some_iff.mp hw
    refine wpAny_getItem_heap (tupleKind_room_in1 hu) (key_of I.hok eb) dd hp ?_
    rw [hp2]
    exact h w' _ (I.tok _) rw'
/-- y in d -/
theorem d_in {Q : Value → Shared → Prop} (hu : A.units + 1 < cLine) (I : Inv X pins σ H s) (g : DGet H a y o) (ry : RelV y u) (h : ∀ s', Inv X pins σ H s' → Q (.bool o.isSome) s') :
    wpAny (model X.prog X.w) A (compareOp .In u (.ref a)) Q E s := by
  rcases g with ⟨kvs, k, e, ey, l⟩ | ⟨kvs, k, b, e, ey, eb, l⟩
  · subst ey
    obtain ⟨z, hd, vs, rel, dd⟩ := dk_rd I.hok e
    refine wpAny_in_of (kV_is ry) hd dd.mapOf ?_
    rw [← (rel.val k).isSome_eq, ← l]
    exact h _ (I.tok _)
  · subst ey
    cases (show u = Value.ref b from ry)
    obtain ⟨z, hd, xs, rel, dd⟩ := dt_rd I.hok e
    refine wpAny_in_heap (tupleKind_room_in1 hu) (key_of I.hok eb) hd dd ?_
    have q := (rel.val k).isSome_eq
    rw [Option.isSome_map] at q
    rw [← q, ← l]
    exact h _ (I.tok _)
theorem d_notIn {Q : Value → Shared → Prop} (hu : A.units + 1 < cLine) (I : Inv X pins σ H s) (g : DGet H a y o) (ry : RelV y u) (h : ∀ s', Inv X pins σ H s' → Q (.bool (!o.isSome)) s') :
    wpAny (model X.prog X.w) A (compareOp .NotIn u (.ref a)) Q E s := by
  rcases g with ⟨kvs, k, e, ey, l⟩ | ⟨kvs, k, b, e, ey, eb, l⟩
  · subst ey
    obtain ⟨z, hd, vs, rel, dd⟩ := dk_rd I.hok e
    refine wpAny_notIn_of (kV_is ry) hd dd.mapOf ?_
    rw [← (rel.val k).isSome_eq, ← l]
    exact h _ (I.tok _)
  · subst ey
    cases (show u = Value.ref b from ry)
    obtain ⟨z, hd, xs, rel, dd⟩ := dt_rd I.hok e
    refine wpAny_notIn_heap (tupleKind_room_in1 hu) (key_of I.hok eb) hd dd ?_
    have q := (rel.val k).isSome_eq
    rw [Option.isSome_map] at q
    rw [← q, ← l]
    exact h _ (I.tok _)
/-- a dict's object is replaced -/
theorem d_write {h' : Heap} {t' : Nat} {ob : HO} (I : Inv X pins σ H s) (mu : Mut (H a)) (hs : Heap.SameBut a s.heap h') (he : ∃ q, h'.get? a = some q) (new : ObjOk X.prog X.w (upd H a ob) h' a ob) :
    Inv X pins σ (upd H a ob) { s with heap := h', toks := t' } :=
  I.write (x := a) (e := a) mu (.inl rfl) (fun b q hb z => (hs.2 b hb).trans z) he new
theorem dk_new {P : Program} {w : World} {H' : Hp} {h' : Heap} {kvs : List (Key × V)} {vs : List (Key × Value)} (z : kvs.length ≤ sizeLine) (hd : (a == sysModules) = false) (rel : KV kvs vs) (dd : h'.DictOf (mixKind P w) a vs) :
    ObjOk P w H' h' a (.dK kvs) := ⟨z, hd, vs, rel, dd⟩
/-- d[y] = v -/
theorem d_setItem {H' : Hp} {Q : Unit → Shared → Prop} (hu : A.units + 1 < cLine) (I : Inv X pins σ H s) (g : DPut H a y v H') (ry : RelV y u) (rv : RelV v r) (h : ∀ s', Inv X pins σ H' s' → Q () s') :
    wpAny (model X.prog X.w) A (setItem (.ref a) u r) Q E s := by
  rcases g with ⟨kvs, k, e, ey, l, eH⟩ | ⟨kvs, k, b, e, ey, eb, l, eH⟩
  · subst ey eH
    obtain ⟨z, hd, vs, rel, dd⟩ := dk_of I.hok e
    have hz : vs.length ≤ sizeLine := by rw [← rel.length]; exact z
    have hl : (putK kvs k v).length ≤ sizeLine := by have := length_putK kvs k v; omega
    refine wpAny_setItem_pairs (hsz := hz) (kV_is ry) dd fun h' dd' hs => h _ ?_
    have he : ∃ q, h'.get? a = some q := let ⟨q, _, _, hq, _⟩ := dd'; ⟨q, hq⟩
    exact d_write I (by rw [e]; exact True.intro) hs he (dk_new hl hd (rel.put k rv) dd')
  · subst ey eH
    cases (show u = Value.ref b from ry)
    obtain ⟨z, hd, xs, rel, dd⟩ := dt_of I.hok e
    have hz : xs.length ≤ sizeLine := by rw [← Paired.length rel]; exact z
    have hl : (putK kvs k v).length ≤ sizeLine := by have := length_putK kvs k v; omega
    refine wpAny_setItem_heap (hsz := hz) (tupleKind_room_in1 hu) (key_of I.hok eb) dd fun h' dd' hs => h _ ?_
    obtain ⟨q, es, ep, hq, h2, h3, h4, _, h5⟩ := dd'
    refine d_write I (by rw [e]; exact True.intro) hs ⟨q, hq⟩ ⟨hl, hd, _, (rel.put k eb rv).keeps fun c ys ec => ?_, q, es, ep, hq, h2, h3, h4, h5⟩
    rw [upd_ne (ne_of ec e (fun z => nomatch z))]
    exact ec
end

section
variable {X : Cx} {pins : List (Addr × Obj)} {σ : St} {H : Hp} {s : Shared} {a : Addr} {kvs : List (Key × V)} {k : Key} {u : Value} {A : Around} {E : Value → Shared → Prop}
/-- del d[k] -/
theorem d_delItem {Q : Unit → Shared → Prop} (I : Inv X pins σ H s) (e : H a = some (.dK kvs)) (ry : RelV (kV k) u) (l : (valV kvs k).isSome = true) (h : ∀ s', Inv X pins σ (upd H a (.dK (dropK kvs k))) s' → Q () s') :
    wpAny (model X.prog X.w) A (delItem (.ref a) u) Q E s := by
  obtain ⟨z, hd, vs, rel, dd⟩ := dk_of I.hok e
  refine wpAny_delItem_slot dd.typeIs (by decide) PySem.F.slot_dict_delitem
    (call_meetsIn PySem.F.slot_dict_delitem dd.typeIs PySem.F.entry_dict_delitem (PySem.F.args_dict_delitem_2 _ _) (meets_dict_delitem_pairs (mixKind X.prog X.w) a (kV_is ry)) ⟨vs, dd, by rw [← rel.length]; exact z, by rw [← (rel.val k).isSome_eq]; exact l, fun h' dd' hs => h _ ?_⟩)
  have he : ∃ q, h'.get? a = some q := let ⟨q, _, _, hq, _⟩ := dd'; ⟨q, hq⟩
  exact d_write I (by rw [e]; exact True.intro) hs he (dk_new (Nat.le_trans (dropK_le kvs k) z) hd (rel.drop k) dd')
/-- d.pop(k[, x]), there -/
theorem d_pop {v : V} {more : List Value} {Q : Value → Shared → Prop} (I : Inv X pins σ H s) (e : H a = some (.dK kvs)) (ry : RelV (kV k) u) (l : valV kvs k = some v) (hm : more = [] ∨ ∃ x, more = [x])
    (h : ∀ w' s', Inv X pins σ (upd H a (.dK (dropK kvs k))) s' → RelV v w' → Q w' s') : wpAny (model X.prog X.w) A (call (.builtin "dict.pop") (.ref a :: u :: more)) Q E s := by
  obtain ⟨z, hd, vs, rel, dd⟩ := dk_of I.hok e
  obtain ⟨w', hw, rw'⟩ := RelO.some_of (v := v) (o := valueAt vs k) (by rw [← l]; exact rel.val k)
  have hp : (keyPart u).isSome = true := by
    cases k with
    | inl i => obtain ⟨t, q⟩ := (show ∃ t, u = Value.int i t from ry); subst q; rfl
    | inr x => obtain ⟨t, q⟩ := (show ∃ t, u = Value.str x t from ry); subst q; rfl
  have ha : argsOk "dict.pop" ⟨.ref a :: u :: more, []⟩ := by
    rcases hm with q | ⟨x, q⟩
    · subst q; exact PySem.F.args_dict_pop_2 _ _
    · subst q; exact PySem.F.args_dict_pop_3 _ _ _
  refine call_meetsIn PySem.F.slot_dict_pop dd.typeIs PySem.F.entry_dict_pop ha (meets_dict_pop_there (mixKind X.prog X.w) a (kV_is ry) more hm hp)
    ⟨vs, w', dd, by rw [← rel.length]; exact z, hw, fun h' dd' hs => h w' _ ?_ rw'⟩
  have he : ∃ q, h'.get? a = some q := let ⟨q, _, _, hq, _⟩ := dd'; ⟨q, hq⟩
  exact d_write I (by rw [e]; exact True.intro) hs he (dk_new (Nat.le_trans (dropK_le kvs k) z) hd (rel.drop k) dd')
/-- d.pop(k, x), not there -/
theorem d_popD {r : Value} {Q : Value → Shared → Prop} (I : Inv X pins σ H s) (e : H a = some (.dK kvs)) (ry : RelV (kV k) u) (l : valV kvs k = none) (h : ∀ s', Inv X pins σ H s' → Q r s') :
    wpAny (model X.prog X.w) A (call (.builtin "dict.pop") [.ref a, u, r]) Q E s := by
  obtain ⟨z, hd, vs, rel, dd⟩ := dk_of I.hok e
  have hn : valueAt vs k = none := RelO.none_of (by rw [← l]; exact rel.val k)
  have hp : (keyPart u).isSome = true := by
    cases k with
    | inl i => obtain ⟨t, q⟩ := (show ∃ t, u = Value.int i t from ry); subst q; rfl
    | inr x => obtain ⟨t, q⟩ := (show ∃ t, u = Value.str x t from ry); subst q; rfl
  exact call_meetsIn PySem.F.slot_dict_pop dd.typeIs PySem.F.entry_dict_pop (PySem.F.args_dict_pop_3 _ _ _) (meets_dict_pop_default (mixKind X.prog X.w) a (kV_is ry) hd hp r) ⟨vs, dd, hn, h _ (I.tok _)⟩
/-- d.clear() -/
theorem d_clear {Q : Value → Shared → Prop} (I : Inv X pins σ H s) (e : H a = some (.dK kvs)) (h : ∀ s', Inv X pins σ (upd H a (.dK [])) s' → Q .none s') : wpAny (model X.prog X.w) A (call (.builtin "dict.clear") [.ref a]) Q E s := by
  obtain ⟨z, hd, vs, rel, dd⟩ := dk_of I.hok e
  refine call_meetsIn PySem.F.slot_dict_clear dd.typeIs PySem.F.entry_dict_clear (PySem.F.args_dict_clear_1 _) (meets_dict_clear (mixKind X.prog X.w) a) ⟨vs, dd, by rw [← rel.length]; exact z, fun h' dd' hs => h _ ?_⟩
  have he : ∃ q, h'.get? a = some q := let ⟨q, _, _, hq, _⟩ := dd'; ⟨q, hq⟩
  exact d_write (t' := s.toks) I (by rw [e]; exact True.intro) hs he (dk_new (Nat.zero_le _) hd .nil dd')
/-- len(d) -/
theorem d_len {Q : Value → Shared → Prop} (I : Inv X pins σ H s) (e : Rd H a (.dK kvs)) (h : ∀ t s', Inv X pins σ H s' → Q (.int kvs.length t) s') : wpAny (model X.prog X.w) A (call (.builtin "len") [.ref a]) Q E s := by
  obtain ⟨z, hd, vs, rel, dd⟩ := dk_rd I.hok e
  refine call_len_dict hd dd (by rw [← rel.length]; rw [sizeLine_eq] at z; omega) ?_
  rw [← rel.length]
  exact h _ _ (I.tok _)
/-- if d -/
theorem d_truth {Q : Bool → Shared → Prop} (I : Inv X pins σ H s) (e : Rd H a (.dK kvs)) (h : ∀ s', Inv X pins σ H s' → Q (!kvs.isEmpty) s') : wpAny (model X.prog X.w) A (truthy (.ref a)) Q E s := by
  obtain ⟨z, hd, vs, rel, dd⟩ := dk_rd I.hok e
  refine wpAny_truthy_dict hd dd (by rw [← rel.length]; rw [sizeLine_eq] at z; omega) ?_
  have q : kvs.isEmpty = vs.isEmpty := by cases rel <;> rfl
  rw [← q]
  exact h _ (I.tok _)
end


/-! ### readings and rules -/
/-- the element of a subscription, not a slice -/
def NoSl (i : Expr) : Prop := ∀ ov iv, subscripted i false ov iv = operate [ov, iv] (getItem ov iv)
theorem subD_of {prog : Program} {w : World} {A : Around} {E : Value → Shared → Prop} {s : Shared} {env : Env} {value slice : Expr} {pos : Pos} {T id : String} {Q : Value → Shared → Prop}
    (hl : typeLookup (.type T) "__getitem__" = pure (some (.builtin id))) (hs : NoSl slice)
    (h : wpAny (model prog w) A (eval value env) (fun o s₁ => wpAny (model prog w) A (eval slice env) (fun i s₂ => s₂.TypeIs o T ∧ wpAny (model prog w) A (getItem o i) Q E s₂) E s₁) E s) :
    wpAny (model prog w) A (eval (.Subscript value slice pos) env) Q E s := by
  refine Subscript_ (wpAny_mono h (fun o s₁ h₁ => wpAny_mono h₁ (fun i s₂ h₂ => ?_) fun _ _ x => x) fun _ _ x => x)
  obtain ⟨hT, h₂⟩ := h₂
  unfold subscriptTail
  refine wpAny_bind ?_
  rw [getitemInPython_of_ne hT.not_modules]
  refine wpAny_bind (wpAny_specialOf hT hl ?_)
  have fin : wpAny (model prog w) A (subscripted slice false o i) (fun r s₃ => wpAny (model prog w) A (letTemporaryGo value o r >>= fun _ => pure r) Q E s₃) E s₂ := by
    rw [hs o i]
    exact wpAny_operating (wpAny_mono h₂ (fun r s₃ h₃ => wpAny_bind (wpAny_letTemporaryGo (wpAny_pure h₃))) fun _ _ x => x)
  first
    | exact wpAny_pure (wpAny_bind fin)
    | exact wpAny_bind (wpAny_pure (wpAny_bind fin))
    | exact wpAny_bind fin

theorem dict_typeIs {X : Cx} {pins : List (Addr × Obj)} {σ : St} {H : Hp} {s : Shared} {a : Addr} {y : V} {o : Option V} (I : Inv X pins σ H s) (g : DGet H a y o) : s.TypeIs (.ref a) "dict" := by
  rcases g with ⟨kvs, k, e, _, _⟩ | ⟨kvs, k, b, e, _, _, _⟩
  · obtain ⟨_, _, vs, _, dd⟩ := dk_rd I.hok e
    exact dd.typeIs
  · obtain ⟨_, _, xs, _, dd⟩ := dt_rd I.hok e
    exact dd.typeIs
theorem dict_noDict {X : Cx} {pins : List (Addr × Obj)} {σ : St} {H : Hp} {s : Shared} {a : Addr} {y : V} {o : Option V} (I : Inv X pins σ H s) (g : DGet H a y o) :
    ∀ b, Value.ref a = .ref b → ∃ ob, s.heap.get? b = some ob ∧ ob.dict = none := fun b q => by
  cases q
  rcases g with ⟨kvs, k, e, _, _⟩ | ⟨kvs, k, b, e, _, _, _⟩
  · obtain ⟨_, _, vs, _, ob, _, _, h1, h2, _⟩ := dk_rd I.hok e
    exact ⟨ob, h1, h2.2.1⟩
  · obtain ⟨_, _, xs, _, ob, _, _, h1, h2, _⟩ := dt_rd I.hok e
    exact ⟨ob, h1, h2.2.1⟩

/-- d[y] -/
def tDGet (td ty : TE) : TE := fun σ H Q => td σ H fun x H1 => ty σ H1 fun y H2 => ∃ a v, x = .ref a ∧ DGet H2 a y (some v) ∧ Q v H2
/-- y in d, y not in d -/
def tDIn (ty td : TE) : TE := fun σ H Q => ty σ H fun y H1 => td σ H1 fun x H2 => ∃ a o, x = .ref a ∧ DGet H2 a y o ∧ Q (.bl o.isSome) H2
def tDNotIn (ty td : TE) : TE := fun σ H Q => ty σ H fun y H1 => td σ H1 fun x H2 => ∃ a o, x = .ref a ∧ DGet H2 a y o ∧ Q (.bl (!o.isSome)) H2
/-- d[y] = v -/
def sDPut (td ty tv : TE) : TS := fun D σ H => tv σ H fun v H1 => td σ H1 fun x H2 => ty σ H2 fun y H3 => ∃ a H4, x = .ref a ∧ DPut H3 a y v H4 ∧ D.nx σ H4
/-- d[y] op= v -/
def sDAug (td ty tv : TE) (rd : V → V → Hp → VK → Prop) : TS := fun D σ H => td σ H fun x H1 => ty σ H1 fun y H2 => ∃ a v, x = .ref a ∧ DGet H2 a y (some v) ∧
  tv σ H2 fun y2 H3 => rd v y2 H3 fun z H4 => ∃ H5, DPut H4 a y z H5 ∧ D.nx σ H5
/-- del d[y] -/
def sDDel (td ty : TE) : TS := fun D σ H => td σ H fun x H1 => ty σ H1 fun y H2 => ∃ a kvs k, x = .ref a ∧ H2 a = some (.dK kvs) ∧ y = kV k ∧ (valV kvs k).isSome = true ∧ D.nx σ (upd H2 a (.dK (dropK kvs k)))

section
variable {X : Cx} {o i e value : Expr} {pos pos' tpos : Pos} {td ty tv : TE}
theorem pe_dget (hu : X.A.units + 1 < cLine) (ho : PE X o td) (hi : PE X i ty) (hs : NoSl i) : PE X (.Subscript o i pos) (tDGet td ty) := by
  intro pins s σ H Q I h
  refine subD_of PySem.F.slot_dict_getitem.lookup hs (thn (ho pins s σ H _ I h) fun u s1 ⟨x, H1, I1, rx, q1⟩ => thn (hi pins s1 σ H1 _ I1 q1) fun iv s2 ⟨y, H2, I2, ry, a, v, ex, g, q2⟩ => ?_)
  subst ex
  obtain rfl : u = Value.ref a := rx
  exact ⟨dict_typeIs I2 g, d_getItem hu I2 g ry fun w' s3 I3 rw' => ⟨v, H2, I3, rw', q2⟩⟩
theorem pc_din (hu : X.A.units + 1 < cLine) (hi : PE X i ty) (ho : PE X o td) : PC X .In i o (tDIn ty td) := by
  intro pins s σ H Q I h
  refine thn (hi pins s σ H _ I h) fun iv s1 ⟨y, H1, I1, ry, q1⟩ => thn (ho pins s1 σ H1 _ I1 q1) fun u s2 ⟨x, H2, I2, rx, a, ov, ex, g, q2⟩ => ?_
  subst ex
  obtain rfl : u = Value.ref a := rx
  exact d_in hu I2 g ry fun s3 I3 => ⟨.bl ov.isSome, H2, I3, rfl, q2⟩
theorem pc_dnotin (hu : X.A.units + 1 < cLine) (hi : PE X i ty) (ho : PE X o td) : PC X .NotIn i o (tDNotIn ty td) := by
  intro pins s σ H Q I h
  refine thn (hi pins s σ H _ I h) fun iv s1 ⟨y, H1, I1, ry, q1⟩ => thn (ho pins s1 σ H1 _ I1 q1) fun u s2 ⟨x, H2, I2, rx, a, ov, ex, g, q2⟩ => ?_
  subst ex
  obtain rfl : u = Value.ref a := rx
  exact d_notIn hu I2 g ry fun s3 I3 => ⟨.bl (!ov.isSome), H2, I3, rfl, q2⟩
theorem ps_dput (hu : X.A.units + 1 < cLine) (ho : PE X o td) (hi : PE X i ty) (hv : PE X value tv) (hs : swapsWith value (some (.Subscript o i pos')) pos.line X.env = pure false) :
    PS X (.Assign [.Subscript o i pos'] value pos) (sDPut td ty tv) := by
  intro pins s σ H D I h
  refine wpAny_Assign_Subscript (thn (hv pins s σ H _ I h) fun r s1 ⟨v, H1, I1, rv, q1⟩ => thn (ho pins s1 σ H1 _ I1 q1) fun u s2 ⟨x, H2, I2, rx, q2⟩ => thn (hi pins s2 σ H2 _ I2 q2) fun iv s3 ⟨y, H3, I3, ry, a, H4, ex, g, q3⟩ => ?_) hs
  subst ex
  obtain rfl : u = Value.ref a := rx
  exact d_setItem hu I3 g ry rv fun s4 I4 => ⟨σ, H4, I4, q3⟩
theorem ps_daug {op : Operator} {rd : V → V → Hp → VK → Prop} (hu : X.A.units + 1 < cLine) (ho : PE X o td) (hi : PE X i ty) (hv : PE X value tv) (hop : InOp X op rd)
    (ha : ∀ ov iv new, augStore i ov iv new = (do holding [new, ov, iv] (setItem ov iv new); release [new, ov, iv] []; pure .next)) : PS X (.AugAssign (.Subscript o i tpos) op value pos) (sDAug td ty tv rd) := by
  intro pins s σ H D I h
  refine wpAny_AugAssign_SubscriptAny (thn (ho pins s σ H _ I h) fun u s1 ⟨x, H1, I1, rx, q1⟩ => thn (hi pins s1 σ H1 _ I1 q1) fun iv s2 ⟨y, H2, I2, ry, a, v, ex, g, q2⟩ => ?_) ha
  subst ex
  obtain rfl : u = Value.ref a := rx
  refine d_getItem hu I2 g ry fun w' s3 I3 rw' => thn (hv pins s3 σ H2 _ I3 q2) fun w2 s4 ⟨y2, H3, I4, ry2, q3⟩ => thn (hop pins s4 σ H3 v y2 w' w2 _ I4 rw' ry2 q3) fun w3 s5 ⟨z, H4, I5, rz, H5, g5, q4⟩ => ?_
  exact d_setItem hu I5 g5 ry rz fun s6 I6 => ⟨σ, H5, I6, q4⟩
theorem ps_ddel (ho : PE X o td) (hi : PE X i ty) : PS X (.Delete [.Subscript o i tpos] pos) (sDDel td ty) := by
  intro pins s σ H D I h
  refine wpAny_Delete (wpAny_deleteEach_cons (wpAny_delete_Subscript (thn (ho pins s σ H _ I h) fun u s1 ⟨x, H1, I1, rx, q1⟩ => thn (hi pins s1 σ H1 _ I1 q1) fun iv s2 ⟨y, H2, I2, ry, a, kvs, k, ex, e, ey, l, q2⟩ => ?_)))
  subst ex ey
  obtain rfl : u = Value.ref a := rx
  exact d_delItem I2 e ry l fun s3 I3 => wpAny_deleteEach_nil ⟨σ, _, I3, q2⟩
end


/-! ### displays -/
theorem dk_empty {P : Program} {w : World} {H : Hp} (h : Heap) (hb : sysModules < h.objs.size) : ObjOk P w H (h.push { cls := .type "dict", data := .dict #[] }) h.objs.size (.dK []) :=
  ⟨Nat.zero_le _, beq_eq_false_iff_ne.mpr (Ne.symm (Nat.ne_of_lt hb)), [], .nil, Heap.DictOf.new h⟩
theorem dt_empty {P : Program} {w : World} {H : Hp} (h : Heap) (hb : sysModules < h.objs.size) : ObjOk P w H (h.push { cls := .type "dict", data := .dict #[] }) h.objs.size (.dT []) :=
  ⟨Nat.zero_le _, beq_eq_false_iff_ne.mpr (Ne.symm (Nat.ne_of_lt hb)), [], .nil, _, #[], 0, Heap.get?_push_size _ rfl, ⟨rfl, rfl, rfl⟩, rfl, rfl, List.nodup_nil⟩
/-- {}, to be a dict of the kind that is wanted -/
def tDNewK : TE := fun _ H Q => ∀ p, H p = none → Q (.ref p) (upd H p (.dK []))
def tDNewT : TE := fun _ H Q => ∀ p, H p = none → Q (.ref p) (upd H p (.dT []))
section
variable {X : Cx} {pos : Pos}
theorem pe_dnewK : PE X (.Dict [] [] pos) tDNewK := fun pins s σ H Q I h =>
  wpAny_Dict_empty ⟨.ref s.heap.objs.size, _, I.laid (a := s.heap.objs.size) (o := .dK []) (t' := s.toks) (fun _ _ q => Heap.get?_push_of_some _ q) (Nat.le_refl _) (dk_empty s.heap I.big), rfl, h _ (I.hok.fresh (Nat.le_refl _))⟩
theorem pe_dnewT : PE X (.Dict [] [] pos) tDNewT := fun pins s σ H Q I h =>
  wpAny_Dict_empty ⟨.ref s.heap.objs.size, _, I.laid (a := s.heap.objs.size) (o := .dT []) (t' := s.toks) (fun _ _ q => Heap.get?_push_of_some _ q) (Nat.le_refl _) (dt_empty s.heap I.big), rfl, h _ (I.hok.fresh (Nat.le_refl _))⟩
end

/-- the pairs of a display, from the left -/
def tPairs : List (TE × TE) → St → Hp → (List (V × V) → Hp → Prop) → Prop
  | [], _, H, Q => Q [] H
  | (tk, tv) :: r, σ, H, Q => tk σ H fun x H1 => tv σ H1 fun y H2 => tPairs r σ H2 fun ps H3 => Q ((x, y) :: ps) H3
abbrev VV : List (V × V) → List (Value × Value) → Prop := Paired fun p q => RelV p.1 q.1 ∧ RelV p.2 q.2
def PPs (X : Cx) (pos : Pos) (keys : List (Option Expr)) (values : List Expr) (trs : List (TE × TE)) : Prop :=
  ∀ (pins : List (Addr × Obj)) (s : Shared) (σ : St) (H : Hp) (Q : List (V × V) → Hp → Prop), Inv X pins σ H s → tPairs trs σ H Q →
    wpAny (model X.prog X.w) X.A (evalPairs (pairTrees keys values X.env pos)) (fun vs s' => ∃ ps H', Inv X pins σ H' s' ∧ VV ps vs ∧ Q ps H') X.xe s
theorem pps_nil {X : Cx} {pos : Pos} : PPs X pos [] [] [] := fun pins s σ H Q I h => pairTrees_nil_walk ⟨[], H, I, .nil, h⟩
theorem pps_cons {X : Cx} {pos : Pos} {k v : Expr} {ks : List (Option Expr)} {vs : List Expr} {tk tv : TE} {trs : List (TE × TE)} (hk : PE X k tk) (hv : PE X v tv) (hr : PPs X pos ks vs trs) :
    PPs X pos (some k :: ks) (v :: vs) ((tk, tv) :: trs) := fun pins s σ H Q I h =>
  pairTrees_cons_walk (thn (hk pins s σ H _ I h) fun u s1 ⟨x, H1, I1, rx, q1⟩ => thn (hv pins s1 σ H1 _ I1 q1) fun w2 s2 ⟨y, H2, I2, ry, q2⟩ =>
    thn (hr pins s2 σ H2 _ I2 q2) fun ws s3 ⟨ps, H3, I3, rel, q3⟩ => ⟨(x, y) :: ps, H3, I3, .cons ⟨rx, ry⟩ rel, q3⟩)

def mergeK (kvs more : List (Key × V)) : List (Key × V) := more.foldl (fun acc kv => putK acc kv.1 kv.2) kvs
theorem KV.merge : ∀ {more : List (Key × V)} {rs : List (Key × Value)} {kvs : List (Key × V)} {vs : List (Key × Value)}, KV more rs → KV kvs vs → KV (mergeK kvs more) (merged vs rs) := by
  intro more rs kvs vs r
  unfold KV at r
  induction r generalizing kvs vs with
  | nil => intro q; exact q
  | @cons p q ps qs h t ih =>
    intro r0
    have e : KV (putK kvs p.1 p.2) (stored vs q.1 q.2) := by
      have := r0.put p.1 h.2
      rw [← h.1]; exact this
    exact ih e
theorem length_mergeK : ∀ (more kvs : List (Key × V)), (mergeK kvs more).length ≤ kvs.length + more.length
  | [], kvs => by show kvs.length ≤ kvs.length + 0; omega
  | p :: r, kvs => by
    have h1 := length_mergeK r (putK kvs p.1 p.2)
    have h2 := length_putK kvs p.1 p.2
    show (mergeK (putK kvs p.1 p.2) r).length ≤ _
    rw [List.length_cons]; omega
theorem carries_of {P : Program} {w : World} : ∀ {kvs : List (Key × V)} {ws : List (Value × Value)}, VV (kvs.map fun kv => (kV kv.1, kv.2)) ws → ∃ rs, Carries (mixKind P w) ws rs ∧ KV kvs rs
  | [], _, r => by rw [List.map_nil] at r; cases r; exact ⟨[], True.intro, .nil⟩
  | p :: kvs, _, r => by
    rw [List.map_cons] at r
    cases r with
    | @cons a b as bs h t =>
      obtain ⟨rs, c, q⟩ := carries_of (P := P) (w := w) t
      obtain ⟨b1, b2⟩ := b
      exact ⟨(p.1, b2) :: rs, ⟨kV_is h.1, rfl, c⟩, .cons ⟨rfl, h.2⟩ q⟩
/-- {k: v, ..} with keys ints and texts; the new dict stands empty while the pairs are made -/
def tDisp (trs : List (TE × TE)) : TE := fun σ H Q => ∀ p, H p = none → tPairs trs σ (upd H p (.dK [])) fun ps H2 => H2 p = some (.dK []) ∧ ∃ kvs : List (Key × V), ps = kvs.map (fun kv => (kV kv.1, kv.2)) ∧ kvs.length ≤ 15 ∧ Q (.ref p) (upd H2 p (.dK (mergeK [] kvs)))
theorem pe_disp {X : Cx} {pos : Pos} {keys : List (Option Expr)} {values : List Expr} {trs : List (TE × TE)} (h : PPs X pos keys values trs) (hall : keys.all (·.isSome) = true) (hl : keys.length = values.length) (h0 : keys ≠ [])
    (h15 : keys.length ≤ 15) : PE X (.Dict keys values pos) (tDisp trs) := by
  intro pins s σ H Q I q
  have hn := I.hok.fresh (Nat.le_refl s.heap.objs.size)
  have I1 := I.laid (a := s.heap.objs.size) (o := .dK []) (h' := s.heap.push { cls := .type "dict", data := .dict #[] }) (t' := s.toks) (fun _ _ q => Heap.get?_push_of_some _ q) (Nat.le_refl _) (dk_empty s.heap I.big)
  refine wpAny_Dict_walk (knd := mixKind X.prog X.w) hall hl h0 h15 (thn (h pins _ σ _ _ I1 (q _ hn)) fun ws s2 ⟨ps, H2, I2, rel, e, kvs, ep, lk, q2⟩ => ?_)
  subst ep
  obtain ⟨rs, c, rk⟩ := carries_of (P := X.prog) (w := X.w) rel
  obtain ⟨z, hd, vs0, r0, dd⟩ := dk_of I2.hok e
  cases r0
  refine ⟨rs, c, dd, fun h' dd' hs => ⟨.ref s.heap.objs.size, _, ?_, rfl, q2⟩⟩
  have hz : (mergeK [] kvs).length ≤ sizeLine := by
    have h1 := length_mergeK kvs []
    rw [List.length_nil] at h1
    rw [sizeLine_eq]; omega
  have he : ∃ q, h'.get? s.heap.objs.size = some q := let ⟨q, _, _, hq, _⟩ := dd'; ⟨q, hq⟩
  exact d_write I2 (by rw [e]; exact True.intro) hs he (dk_new hz hd (rk.merge .nil) dd')


/-! ### methods -/
/-- a method call o.m(e) of a built-in, with one argument: what must be seen of the text -/
structure M1 (X : Cx) (o : Expr) (m : Str) (apos : Pos) (e : Expr) (cpos : Pos) : Prop where
  base : attributeBase o m X.env (eval o X.env) = eval o X.env
  few : ((backTo cpos (starEach [e] X.env)).all (fun x => !x.1) && (backToKw cpos (keywordEach [] X.env)).all (fun x => x.1.isSome)
    && decide (([e] : List Expr).length + ([] : List Keyword).length + (if ([] : List Keyword).isEmpty then 0 else 1) < 30)) = true
  line : (apos.endLine == cpos.line) = true
  trees : backTo cpos (starEach [e] X.env) = [(false, eval e X.env)]
structure M2 (X : Cx) (o : Expr) (m : Str) (apos : Pos) (e f : Expr) (cpos : Pos) : Prop where
  base : attributeBase o m X.env (eval o X.env) = eval o X.env
  few : ((backTo cpos (starEach [e, f] X.env)).all (fun x => !x.1) && (backToKw cpos (keywordEach [] X.env)).all (fun x => x.1.isSome)
    && decide (([e, f] : List Expr).length + ([] : List Keyword).length + (if ([] : List Keyword).isEmpty then 0 else 1) < 30)) = true
  line : (apos.endLine == cpos.line) = true
  trees : backTo cpos (starEach [e, f] X.env) = [(false, eval e X.env), (false, eval f X.env)]

/-- a is a dict, whatever its keys -/
def IsD (H : Hp) (a : Addr) : Prop := (∃ kvs, Rd H a (.dK kvs)) ∨ ∃ kvs, Rd H a (.dT kvs)
theorem isD_at {X : Cx} {pins : List (Addr × Obj)} {σ : St} {H : Hp} {s : Shared} {a : Addr} (I : Inv X pins σ H s) (d : IsD H a) :
    s.TypeIs (.ref a) "dict" ∧ (∀ b, Value.ref a = .ref b → ∃ ob, s.heap.get? b = some ob ∧ ob.dict = none) ∧ (a == sysModules) = false := by
  rcases d with ⟨kvs, e⟩ | ⟨kvs, e⟩
  · obtain ⟨_, hd, vs, _, dd⟩ := dk_rd I.hok e
    refine ⟨dd.typeIs, fun b q => ?_, hd⟩
    cases q
    obtain ⟨ob, _, _, h1, h2, _⟩ := dd
    exact ⟨ob, h1, h2.2.1⟩
  · obtain ⟨_, hd, xs, _, dd⟩ := dt_rd I.hok e
    refine ⟨dd.typeIs, fun b q => ?_, hd⟩
    cases q
    obtain ⟨ob, _, _, h1, h2, _⟩ := dd
    exact ⟨ob, h1, h2.2.1⟩

section
variable {X : Cx} {pins : List (Addr × Obj)} {σ : St} {H : Hp} {s : Shared} {a : Addr} {y d : V} {u r : Value} {o : Option V} {A : Around} {E : Value → Shared → Prop}
/-- d.get(y) -/
theorem d_get1 {Q : Value → Shared → Prop} (hu : A.units + 1 < cLine) (I : Inv X pins σ H s) (g : DGet H a y o) (ry : RelV y u) (h : ∀ w' s', Inv X pins σ H s' → RelV (o.getD .non) w' → Q w' s') :
    wpAny (model X.prog X.w) A (call (.builtin "dict.get") [.ref a, u]) Q E s := by
  rcases g with ⟨kvs, k, e, ey, l⟩ | ⟨kvs, k, b, e, ey, eb, l⟩
  · subst ey
    obtain ⟨z, hd, vs, rel, dd⟩ := dk_rd I.hok e
    refine call_meetsIn PySem.F.slot_dict_get dd.typeIs PySem.F.entry_dict_get (PySem.F.args_dict_get_2 _ _) (meets_dict_get (mixKind X.prog X.w) a (kV_is ry) hd) ⟨_, dd.mapOf, h _ _ (I.tok _) ?_⟩
    rw [l]
    exact (rel.val k).getD rfl
  · subst ey
    cases (show u = Value.ref b from ry)
    obtain ⟨z, hd, xs, rel, dd⟩ := dt_rd I.hok e
    refine call_meetsIn PySem.F.slot_dict_get dd.typeIs PySem.F.entry_dict_get (PySem.F.args_dict_get_2 _ _) (meetsH_dict_get (tupleKind (mixKind X.prog X.w)) a b hd) ⟨tupleKind_room_in1 hu, k, xs, key_of I.hok eb, dd, h _ _ (I.tok _) ?_⟩
    rw [l]
    exact (rel.val k).getD rfl
/-- d.get(y, x) -/
theorem d_get2 {Q : Value → Shared → Prop} (hu : A.units + 1 < cLine) (I : Inv X pins σ H s) (g : DGet H a y o) (ry : RelV y u) (rd : RelV d r) (h : ∀ w' s', Inv X pins σ H s' → RelV (o.getD d) w' → Q w' s') :
    wpAny (model X.prog X.w) A (call (.builtin "dict.get") [.ref a, u, r]) Q E s := by
  rcases g with ⟨kvs, k, e, ey, l⟩ | ⟨kvs, k, b, e, ey, eb, l⟩
  · subst ey
    obtain ⟨z, hd, vs, rel, dd⟩ := dk_rd I.hok e
    refine call_meetsIn PySem.F.slot_dict_get dd.typeIs PySem.F.entry_dict_get (PySem.F.args_dict_get_3 _ _ _) (meets_dict_get_default (mixKind X.prog X.w) a (kV_is ry) hd r) ⟨_, dd.mapOf, h _ _ (I.tok _) ?_⟩
    rw [l]
    exact (rel.val k).getD rd
  · subst ey
    cases (show u = Value.ref b from ry)
    obtain ⟨z, hd, xs, rel, dd⟩ := dt_rd I.hok e
    refine call_meetsIn PySem.F.slot_dict_get dd.typeIs PySem.F.entry_dict_get (PySem.F.args_dict_get_3 _ _ _) (meetsH_dict_get_default (tupleKind (mixKind X.prog X.w)) a b hd r) ⟨tupleKind_room_in1 hu, k, xs, key_of I.hok eb, dd, h _ _ (I.tok _) ?_⟩
    rw [l]
    exact (rel.val k).getD rd
end

def tDGet1 (td ty : TE) : TE := fun σ H Q => td σ H fun x H1 => ∃ a, x = .ref a ∧ IsD H1 a ∧ ty σ H1 fun y H2 => ∃ o, DGet H2 a y o ∧ Q (o.getD .non) H2
def tDGet2 (td ty tx : TE) : TE := fun σ H Q => td σ H fun x H1 => ∃ a, x = .ref a ∧ IsD H1 a ∧ ty σ H1 fun y H2 => tx σ H2 fun z H3 => ∃ o, DGet H3 a y o ∧ Q (o.getD z) H3
/-- d.pop(k): there; d.pop(k, x): there or not -/
def tDPop1 (td ty : TE) : TE := fun σ H Q => td σ H fun x H1 => ∃ a, x = .ref a ∧ IsD H1 a ∧ ty σ H1 fun y H2 => ∃ kvs k v, H2 a = some (.dK kvs) ∧ y = kV k ∧ valV kvs k = some v ∧ Q v (upd H2 a (.dK (dropK kvs k)))
def tDPop2 (td ty tx : TE) : TE := fun σ H Q => td σ H fun x H1 => ∃ a, x = .ref a ∧ IsD H1 a ∧ ty σ H1 fun y H2 => tx σ H2 fun z H3 => ∃ kvs k, H3 a = some (.dK kvs) ∧ y = kV k ∧
  (∀ v, valV kvs k = some v → Q v (upd H3 a (.dK (dropK kvs k)))) ∧ (valV kvs k = none → Q z H3)
section
variable {X : Cx} {o e f : Expr} {apos cpos : Pos} {td ty tx : TE}
theorem pe_dget1 (hu : X.A.units + 1 < cLine) (ho : PE X o td) (he : PE X e ty) (m : M1 X o "get" apos e cpos) : PE X (.Call (.Attribute o "get" apos) [e] [] cpos) (tDGet1 td ty) := by
  intro pins s σ H Q I h
  refine wpAny_Call_method m.base m.few m.line PySem.F.plainAttrs_dict PySem.F.slot_dict_get PySem.F.type_dict_get (thn (ho pins s σ H _ I h) fun u s1 ⟨x, H1, I1, rx, a, ex, d, q1⟩ => ?_)
  subst ex
  obtain rfl : u = Value.ref a := rx
  obtain ⟨t1, t2, _⟩ := isD_at I1 d
  refine ⟨t1, t2, ?_⟩
  rw [m.trees]
  refine Calls.callWith_builtin rfl (Calls.evalArgs_plain (Calls.spliced_cons (thn (he pins s1 σ H1 _ I1 q1) fun iv s2 ⟨y, H2, I2, ry, ov, g, q2⟩ => Calls.spliced_nil ?_)))
  exact d_get1 hu I2 g ry fun w' s3 I3 rw' => ⟨_, H2, I3, rw', q2⟩
theorem pe_dget2 (hu : X.A.units + 1 < cLine) (ho : PE X o td) (he : PE X e ty) (hf : PE X f tx) (m : M2 X o "get" apos e f cpos) : PE X (.Call (.Attribute o "get" apos) [e, f] [] cpos) (tDGet2 td ty tx) := by
  intro pins s σ H Q I h
  refine wpAny_Call_method m.base m.few m.line PySem.F.plainAttrs_dict PySem.F.slot_dict_get PySem.F.type_dict_get (thn (ho pins s σ H _ I h) fun u s1 ⟨x, H1, I1, rx, a, ex, d, q1⟩ => ?_)
  subst ex
  obtain rfl : u = Value.ref a := rx
  obtain ⟨t1, t2, _⟩ := isD_at I1 d
  refine ⟨t1, t2, ?_⟩
  rw [m.trees]
  refine Calls.callWith_builtin rfl (Calls.evalArgs_plain (Calls.spliced_cons (thn (he pins s1 σ H1 _ I1 q1) fun iv s2 ⟨y, H2, I2, ry, q2⟩ =>
    Calls.spliced_cons (thn (hf pins s2 σ H2 _ I2 q2) fun fv s3 ⟨z, H3, I3, rz, ov, g, q3⟩ => Calls.spliced_nil ?_))))
  exact d_get2 hu I3 g ry rz fun w' s4 I4 rw' => ⟨_, H3, I4, rw', q3⟩
theorem pe_dpop1 (ho : PE X o td) (he : PE X e ty) (m : M1 X o "pop" apos e cpos) : PE X (.Call (.Attribute o "pop" apos) [e] [] cpos) (tDPop1 td ty) := by
  intro pins s σ H Q I h
  refine wpAny_Call_method m.base m.few m.line PySem.F.plainAttrs_dict PySem.F.slot_dict_pop PySem.F.type_dict_pop (thn (ho pins s σ H _ I h) fun u s1 ⟨x, H1, I1, rx, a, ex, d, q1⟩ => ?_)
  subst ex
  obtain rfl : u = Value.ref a := rx
  obtain ⟨t1, t2, _⟩ := isD_at I1 d
  refine ⟨t1, t2, ?_⟩
  rw [m.trees]
  refine Calls.callWith_builtin rfl (Calls.evalArgs_plain (Calls.spliced_cons (thn (he pins s1 σ H1 _ I1 q1) fun iv s2 ⟨y, H2, I2, ry, kvs, k, v, ea, ey, l, q2⟩ => Calls.spliced_nil ?_)))
  subst ey
  exact d_pop I2 ea ry l (.inl rfl) fun w' s3 I3 rw' => ⟨v, _, I3, rw', q2⟩
theorem pe_dpop2 (ho : PE X o td) (he : PE X e ty) (hf : PE X f tx) (m : M2 X o "pop" apos e f cpos) : PE X (.Call (.Attribute o "pop" apos) [e, f] [] cpos) (tDPop2 td ty tx) := by
  intro pins s σ H Q I h
  refine wpAny_Call_method m.base m.few m.line PySem.F.plainAttrs_dict PySem.F.slot_dict_pop PySem.F.type_dict_pop (thn (ho pins s σ H _ I h) fun u s1 ⟨x, H1, I1, rx, a, ex, d, q1⟩ => ?_)
  subst ex
  obtain rfl : u = Value.ref a := rx
  obtain ⟨t1, t2, _⟩ := isD_at I1 d
  refine ⟨t1, t2, ?_⟩
  rw [m.trees]
  refine Calls.callWith_builtin rfl (Calls.evalArgs_plain (Calls.spliced_cons (thn (he pins s1 σ H1 _ I1 q1) fun iv s2 ⟨y, H2, I2, ry, q2⟩ =>
    Calls.spliced_cons (thn (hf pins s2 σ H2 _ I2 q2) fun fv s3 ⟨z, H3, I3, rz, kvs, k, ea, ey, q3, q4⟩ => Calls.spliced_nil ?_))))
  subst ey
  cases l : valV kvs k with
  | some v => exact d_pop I3 ea ry l (.inr ⟨fv, rfl⟩) fun w' s4 I4 rw' => ⟨v, _, I4, rw', q3 v l⟩
  | none => exact d_popD I3 ea ry l fun s4 I4 => ⟨z, H3, I4, rz, q4 l⟩
end

/-! ### dict(d): a copy -/
section
variable {X : Cx} {pins : List (Addr × Obj)} {σ : St} {H : Hp} {s : Shared} {a : Addr} {kvs : List (Key × V)} {A : Around} {E : Value → Shared → Prop}
theorem d_copyOf {Q : Value → Shared → Prop} (I : Inv X pins σ H s) (e : Rd H a (.dK kvs)) (h : ∀ p s', H p = none → Inv X pins σ (upd H p (.dK kvs)) s' → Q (.ref p) s') : wpAny (model X.prog X.w) A (call (.type "dict") [.ref a]) Q E s := by
  obtain ⟨z, hd, vs, rel, dd⟩ := dk_rd I.hok e
  refine kt_call_dict hd dd (by rw [← rel.length]; exact z) fun h' dd' hs => ?_
  refine h _ _ (I.hok.fresh (Nat.le_refl _)) (I.laid (a := s.heap.objs.size) (o := .dK kvs) (t' := s.toks) (fun b q hq => ?_) (Nat.le_refl _) (dk_new z (beq_eq_false_iff_ne.mpr (Ne.symm (Nat.ne_of_lt I.big))) rel dd'))
  exact (hs.2 b (Nat.ne_of_lt (Heap.lt_size hq))).trans (Heap.get?_push_of_some _ hq)
end


section
variable {X : Cx} {pins : List (Addr × Obj)} {σ : St} {H : Hp} {s : Shared} {a : Addr} {y : V} {u : Value} {A : Around} {E : Value → Shared → Prop}
/-- d[y], not there: a KeyError -/
theorem d_missing {Q : Value → Shared → Prop} (hu : A.units + 1 < cLine) (hh : A.handled = none) (I : Inv X pins σ H s) (g : DGet H a y none) (ry : RelV y u)
    (h : ∀ h' e t', Heap.NewExc s.heap h' e "KeyError" → E (.ref e) { s with heap := h', toks := t' }) : wpAny (model X.prog X.w) A (getItem (.ref a) u) Q E s := by
  rcases g with ⟨kvs, k, e, ey, l⟩ | ⟨kvs, k, b, e, ey, eb, l⟩
  · subst ey
    obtain ⟨z, hd, vs, rel, dd⟩ := dk_rd I.hok e
    have hn : valueAt vs k = none := RelO.none_of (by rw [l]; exact rel.val k)
    exact wpAny_getItem_missing_of (kV_is ry) hd hh dd.mapOf hn fun h' ex ne => h h' ex _ ne
  · subst ey
    cases (show u = Value.ref b from ry)
    obtain ⟨z, hd, xs, rel, dd⟩ := dt_rd I.hok e
    have hn : (atKey xs k).map (·.2) = none := RelO.none_of (by rw [l]; exact rel.val k)
    exact wpAny_getItem_missing_heap (tupleKind_room_in1 hu) (key_of I.hok eb) hd hh dd (Option.map_eq_none_iff.mp hn) fun h' ex ne => h h' ex _ ne
end
end L2

set_option Elab.async false
set_option linter.all false
set_option maxRecDepth 100000
namespace Att
open PySem PySem.W PySem.Calls PyProof.Rows

/-! ### the script -/
theorem ints_of_wellAll {P : Params} {h : Heap} : ∀ (ns : List Int) (vs : List Value), WellAll P h vs (ns.map WData.int) → IntsAre vs ns := by
  intro ns
  induction ns with
  | nil =>
    intro vs w
    rw [List.map_nil] at w
    cases w
    exact .nil
  | cons n ns ih =>
    intro vs w
    rw [List.map_cons] at w
    cases w with
    | cons a b =>
      cases a
      exact .cons _ _ (ih _ b)

theorem script_of {l : OpenLaw} {n : Nat} (hn : l.most = some n) {P : Params} {h : Heap} {args : List WData} {vals : List Value}
    (hpre : l.row.toRowW.claim.pre args = true) (hwl : WellAll P h vals args) :
    ∃ a vs ns, vals = [Value.ref a] ∧ args = [WData.list (ns.map WData.int)] ∧ h.get? a = some { cls := .type "list", data := .seq vs.toArray } ∧ IntsAre vs ns ∧ ns.length ≤ n := by
  have hsh : WShape.hasAll [] args [.list .int] = true := (pre_splitW hpre).1
  have hc : l.pre.holds [] { args := args } = true := (pre_splitW hpre).2
  obtain ⟨d, r, rfl, h1, h2⟩ := hasAllW_cons hsh
  obtain rfl := hasAllW_nil h2
  obtain ⟨xs, rfl, h3⟩ := hasW_list h1
  obtain ⟨ns, rfl⟩ := items_int h3
  have hlen : ns.length ≤ n := by
    unfold OpenLaw.pre at hc
    have h4 : (WTm.not (.lt (.lit (.int (n : Int))) (.len (.arg 0)))).holds [] { args := [.list (ns.map .int)] } = true := by
      have h4 := (holds_andW hc).1
      rw [hn] at h4
      exact h4
    have h5 := condW_of h4 (w_not (w_lt w_lit (w_len_list (w_arg rfl))))
    rw [List.length_map] at h5
    refine Nat.le_of_not_lt fun q => ?_
    have q' : (n : Int) < ((ns.length : Nat) : Int) := by omega
    first
      | (rw [decide_eq_true q'] at h5; exact absurd h5 (by decide))
      | (simp at h5; omega)
  cases hwl with
  | cons w1 w2 =>
    cases w2
    cases w1 with
    | list ho hall => exact ⟨_, _, ns, rfl, rfl, ho, ints_of_wellAll ns _ hall, hlen⟩

theorem post_true (l : OpenLaw) (args : List WData) : l.row.toRowW.claim.post args (.bool true) args = true :=
  postW_of (r := l.row.toRowW) (X := (true == true))
    (show WShape.has [] (.bool true) .bool = true by first | rfl | decide | simp [WShape.has, WShape.arms, WShape.armsAll])
    (show (WTm.eq .res (.lit (.bool true))).value [] { args := args, res := some (.bool true), after := args } = some (.bool (true == true)) from w_eq_bool (w_res rfl) w_lit) rfl

/-! ### the attachment: holds_open's last premise (the goal 'hc' behind k_head) from a wpAny of the law's body -/
theorem attach {l : OpenLaw} {n : Nat} {q : Program} {loose : List Str} {XP : (Str → Option Value) → Heap → Prop} {YP : World → Heap → Prop} {d : DefRec} {x : Str}
    (hn : l.most = some n) (hdf : d.params.defaults = [])
    (hbind : ∀ pm cd doc v : Value, bindArgs (docDef d.name d.params d.body d.scope pm cd doc) ⟨[v], []⟩ = pure [(x, v)])
    (hx : d.scope.names.lookup x = some .local ∨ d.scope.names.lookup x = some .cell)
    (hk : d.scope.kind = .function) (hco : d.scope.isCoroutine = false) (hgen : d.scope.isGenerator = false)
    (body : ∀ (w : World) (s₀ s₁ s : Shared) (mg mb : Str → Option Value) (fa : Addr) (o : Obj) (pm cd doc : Value) (a : Addr) (vs : List Value) (ns : List Int),
      Ground q loose [] XP w s₀ mg mb s₁.heap → YP w s₁.heap →
      s₁.heap.get? fa = some o → o.data = .func (docDef d.name d.params d.body d.scope pm cd doc) → s₁.heap.CodeRec cd d.name → mg d.name = some (.ref fa) →
      s₁.heap.get? a = some { cls := .type "list", data := .seq vs.toArray } → IntsAre vs ns → ns.length ≤ n →
      s.gens = #[] → s.os = s₁.os →
      Fr s₁.heap s₁.heap.objs.size s.heap (bindL (envOfC d.name d.scope s₁.heap.objs.size fa cd).kindOf [(x, .ref a)] fun _ => none) →
      Cl s₁.heap.objs.size (cellsFrom (s₁.heap.objs.size + 1) d.scope.names []) s.heap (bindC (envOfC d.name d.scope s₁.heap.objs.size fa cd).kindOf [(x, .ref a)] fun _ => none) →
      wpAny (model l.prog w) (callerA.deeper (envOfC d.name d.scope s₁.heap.objs.size fa cd)) (execs d.body (envOfC d.name d.scope s₁.heap.objs.size fa cd))
        (fun f s' => f = .ret (.bool true) ∧ OldK s₁.heap s'.heap ∧ s'.os = s₁.os ∧ AllBare s'.gens) (fun _ _ => False) s) :
    WalkO q loose XP YP l.row.toRowW d [] (fun f vs => PySem.call f vs) := by
  intro w s₀ s₁ mg mb G Y fa o pm cd doc dV kV ho hd hcd hD hmg hg args vals as hpre hlay hrd hwl hlo
  obtain rfl : dV = .none := Dflts.none hD hdf
  obtain rfl : kV = .none := Dflts.noKw hD
  obtain ⟨a, vs, ns, rfl, rfl, hobj, hints, hlen⟩ := script_of hn hpre hwl
  refine enter_call ?_
  refine call_cells_ret (o := o) (by rw [depth_caller]; decide) ho (fd_plain hd) G.T.nolimit hcd (hbind pm cd doc (.ref a)) (fun y hy => ?_) (fun h₁ tk F X => ?_) hco hgen hk
  · obtain rfl : y = (x, Value.ref a) := List.mem_singleton.mp hy
    rcases hx with e | e
    · exact .inl e
    · exact .inr ⟨e, cellsFrom_some _ _ _ (.inl e)⟩
  · refine wpAny_mono (body w s₀ s₁ { s₁ with heap := h₁, toks := tk } mg mb fa o pm cd doc a vs ns G Y ho (fd_plain hd) hcd hmg hobj hints hlen hg rfl F X) (fun f s' hq => ?_) (fun _ _ hq => hq)
    obtain ⟨rfl, h2, h3, h4⟩ := hq
    exact ⟨.inl ⟨.bool true, .bool true, [], rfl, fun _ => rfl, .bool true, post_true l _, fun _ => ⟨List.Pairwise.nil, fun _ hm => (nomatch hm)⟩⟩, h2, h3, h4⟩

/-- the same from a codeAny of the CALL (for a layer whose function contracts speak of calls) -/
theorem attach_call {l : OpenLaw} {n : Nat} {q : Program} {loose : List Str} {XP : (Str → Option Value) → Heap → Prop} {YP : World → Heap → Prop} {d : DefRec}
    (hn : l.most = some n) (hdf : d.params.defaults = [])
    (call : ∀ (w : World) (s₀ s₁ : Shared) (mg mb : Str → Option Value) (fa : Addr) (o : Obj) (pm cd doc : Value) (a : Addr) (vs : List Value) (ns : List Int),
      Ground q loose [] XP w s₀ mg mb s₁.heap → YP w s₁.heap →
      s₁.heap.get? fa = some o → o.data = .func (docDef d.name d.params d.body d.scope pm cd doc) → s₁.heap.CodeRec cd d.name → mg d.name = some (.ref fa) →
      s₁.heap.get? a = some { cls := .type "list", data := .seq vs.toArray } → IntsAre vs ns → ns.length ≤ n → s₁.gens = #[] →
      codeAny (model l.prog w) callerA (.call (.ref fa) ⟨[.ref a], []⟩) (fun r s' => r = .ok (.ret (.bool true)) ∧ OldK s₁.heap s'.heap ∧ s'.os = s₁.os ∧ AllBare s'.gens) s₁) :
    WalkO q loose XP YP l.row.toRowW d [] (fun f vs => PySem.call f vs) := by
  intro w s₀ s₁ mg mb G Y fa o pm cd doc dV kV ho hd hcd hD hmg hg args vals as hpre hlay hrd hwl hlo
  obtain rfl : dV = .none := Dflts.none hD hdf
  obtain rfl : kV = .none := Dflts.noKw hD
  obtain ⟨a, vs, ns, rfl, rfl, hobj, hints, hlen⟩ := script_of hn hpre hwl
  refine enter_call (codeAny_mono (call w s₀ s₁ mg mb fa o pm cd doc a vs ns G Y ho (fd_plain hd) hcd hmg hobj hints hlen hg) fun r s' hq => ?_)
  obtain ⟨rfl, h2, h3, h4⟩ := hq
  exact ⟨.inl ⟨.bool true, .bool true, [], rfl, fun _ => rfl, .bool true, post_true l _, fun _ => ⟨List.Pairwise.nil, fun _ hm => (nomatch hm)⟩⟩, h2, h3, h4⟩

/-- the same where the top left finished generators (o_head chose holds_openN): nothing may have changed at all and no generator may be left -/
theorem attachN {l : OpenLaw} {n : Nat} {q : Program} {loose : List Str} {XP : (Str → Option Value) → Heap → Prop} {YP : World → Heap → Prop} {d : DefRec} {x : Str}
    (hn : l.most = some n) (hdf : d.params.defaults = [])
    (hbind : ∀ pm cd doc v : Value, bindArgs (docDef d.name d.params d.body d.scope pm cd doc) ⟨[v], []⟩ = pure [(x, v)])
    (hx : d.scope.names.lookup x = some .local ∨ d.scope.names.lookup x = some .cell)
    (hk : d.scope.kind = .function) (hco : d.scope.isCoroutine = false) (hgen : d.scope.isGenerator = false)
    (body : ∀ (w : World) (s₀ s₁ s : Shared) (mg mb : Str → Option Value) (fa : Addr) (o : Obj) (pm cd doc : Value) (a : Addr) (vs : List Value) (ns : List Int),
      Ground q loose [] XP w s₀ mg mb s₁.heap → YP w s₁.heap →
      s₁.heap.get? fa = some o → o.data = .func (docDef d.name d.params d.body d.scope pm cd doc) → s₁.heap.CodeRec cd d.name → mg d.name = some (.ref fa) →
      s₁.heap.get? a = some { cls := .type "list", data := .seq vs.toArray } → IntsAre vs ns → ns.length ≤ n →
      s.gens = #[] → s.os = s₁.os →
      Fr s₁.heap s₁.heap.objs.size s.heap (bindL (envOfC d.name d.scope s₁.heap.objs.size fa cd).kindOf [(x, .ref a)] fun _ => none) →
      Cl s₁.heap.objs.size (cellsFrom (s₁.heap.objs.size + 1) d.scope.names []) s.heap (bindC (envOfC d.name d.scope s₁.heap.objs.size fa cd).kindOf [(x, .ref a)] fun _ => none) →
      wpAny (model l.prog w) (callerA.deeper (envOfC d.name d.scope s₁.heap.objs.size fa cd)) (execs d.body (envOfC d.name d.scope s₁.heap.objs.size fa cd))
        (fun f s' => f = .ret (.bool true) ∧ (∀ b o, s₁.heap.get? b = some o → s'.heap.get? b = some o) ∧ s'.os = s₁.os ∧ s'.gens = #[]) (fun _ _ => False) s) :
    WalkN q loose XP YP l.row.toRowW d [] (fun f vs => PySem.call f vs) := by
  intro w s₀ s₁ mg mb G Y fa o pm cd doc dV kV ho hd hcd hD hmg hg args vals as hpre hlay hrd hwl hlo
  obtain rfl : dV = .none := Dflts.none hD hdf
  obtain rfl : kV = .none := Dflts.noKw hD
  obtain ⟨a, vs, ns, rfl, rfl, hobj, hints, hlen⟩ := script_of hn hpre hwl
  refine enter_callW ?_
  refine call_cells_ret (o := o) (by rw [depth_caller]; decide) ho (fd_plain hd) G.T.nolimit hcd (hbind pm cd doc (.ref a)) (fun y hy => ?_) (fun h₁ tk F X => ?_) hco hgen hk
  · obtain rfl : y = (x, Value.ref a) := List.mem_singleton.mp hy
    rcases hx with e | e
    · exact .inl e
    · exact .inr ⟨e, cellsFrom_some _ _ _ (.inl e)⟩
  · refine wpAny_mono (body w s₀ s₁ { s₁ with heap := h₁, toks := tk } mg mb fa o pm cd doc a vs ns G Y ho (fd_plain hd) hcd hmg hobj hints hlen hg rfl F X) (fun f s' hq => ?_) (fun _ _ hq => hq)
    obtain ⟨rfl, h2, h3, h4⟩ := hq
    exact ⟨.inl ⟨.bool true, .bool true, [], rfl, fun _ => rfl, .bool true, post_true l _, fun _ => ⟨List.Pairwise.nil, fun _ hm => (nomatch hm)⟩⟩, h2, h3, h4⟩

/-! ### rules over ANY heap (no ledger) from facts about the written part K: the library's own take a ledger (News) for what they write -/
section
variable {prog : Program} {w : World} {A : Around} {E : Value → Shared → Prop} {s : Shared} {K : Frag}

/-- a def of the module, or a method (qual 'C.m'), entered: the frame is the next address; cells behind it -/
theorem call_fn {R : Result → Shared → Prop} {name qual : Str} {params : Arguments} {body : List Stmt} {scope : Scope} {dV kV doc pm cdv ct oc : Value} {an od : Option Addr} {osl : Array (Option Value)} {f : Addr} {args : Args} {binds : List (Str × Value)}
    (X : K.In s.heap) (hlim : s.heap.NoLimit) (ho : K.lookup f = some ⟨oc, od, .func (fnOf name qual params body scope dV kV doc pm an cdv ct), osl⟩) (hcd : codeIn K cdv qual = true) (hroom : A.depth < recursionLimit)
    (hbind : BindsTo s (fnOf name qual params body scope dV kV doc pm an cdv ct) args binds)
    (hkind : (binds.all fun y => scope.names.lookup y.1 == some .local || scope.names.lookup y.1 == some .cell) = true)
    (h : ∀ s₁, InCallC s s.heap.objs.size (bindL (envOfC qual scope s.heap.objs.size f cdv).kindOf binds fun _ => none) (cellsFrom (s.heap.objs.size + 1) scope.names [])
        (bindC (envOfC qual scope s.heap.objs.size f cdv).kindOf binds fun _ => none) s₁ →
      wpAny (model prog w) (A.deeper (envOfC qual scope s.heap.objs.size f cdv)) (execs body (envOfC qual scope s.heap.objs.size f cdv))
        (fun fl s' => R (.ok (.ret (match fl with | .ret v => v | _ => .none))) s')
        (fun e s' => wpAny (model prog w) (A.deeper (envOfC qual scope s.heap.objs.size f cdv)) (leaving (envOfC qual scope s.heap.objs.size f cdv) e) (fun _ s'' => R (.error e) s'') (fun e' s'' => R (.error e') s'') s') s₁)
    (hco : scope.isCoroutine = false) (hgen : scope.isGenerator = false) (hk : scope.kind = .function) : codeAny (model prog w) A (.call (.ref f) args) R s := by
  refine codeAny_call_function hroom (X _ _ ho) rfl hco hgen rfl (codeRec_of X hcd) (hbind _ _ _ _ ?_)
  refine wpAny_newFunctionEnv_cells hk (kindsX hkind _) fun env he s₁ x => ?_
  subst he
  exact ⟨hlim.keeps x.toInCall.keep, codeAny_func (h s₁ x)⟩

/-- C(..): dict at size, instance at size + 1, then __init__ -/
theorem make_obj {R : Result → Shared → Prop} {C fI : Addr} {rest : List Value} {kw : List (Str × Value)}
    (X : K.In s.heap) (hm : makesIn K C = true) (hi : findIn K (.ref C) "__init__" = some (some (.ref fI))) (hf : isFn K (.ref fI) = true)
    (h : codeAny (model prog w) (A.under (.builtin "type.__call__" ⟨.ref C :: rest, kw⟩)) (.call (.ref fI) ⟨.ref (s.heap.objs.size + 1) :: rest, kw⟩) (InitBack (s.heap.objs.size + 1) R)
      { s with heap := (s.heap.push emptyDict).push (instObj C s.heap.objs.size) }) : codeAny (model prog w) A (.call (.ref C) ⟨rest, kw⟩) R s := by
  obtain ⟨hh, g, d, t, os⟩ := s
  exact make_core (makes_of X hm) (looks_findIn X hi) (fun self => bind_fn X self (beq_iff_eq.mp hf)) (.inl rfl) h

/-- x.name where the instance's dict holds the name and the class does not -/
theorem get_field {x C : Addr} {ox : Obj} {es : List DictEntry} {n : Nat} {name : Str} {expr : Bool} {v : Value} {Q : Value → Shared → Prop}
    (X : K.In s.heap) (I : PySem.W.InstAt s.heap x ox C (some (dictOf es n))) (hg : plainGet K C name = true) (hh : hasDictIn K C = true) (ha : findIn K (.ref C) name = some none)
    (hl : getL name es = some (some v)) (hv : handedIn v = true) (h : Q v { s with toks := s.toks + 1 }) : wpAny (model prog w) A (getAttr (.ref x) name expr) Q E s :=
  get_value X I (plainGet_of hg).1 (findObj_own hh ha rfl hl) hv h

/-- x.m(..): the method found in the class -/
theorem get_method {x C f : Addr} {ox : Obj} {es : List DictEntry} {n : Nat} {name : Str} {pl : Sem Bool} {Q : Value × List Value → Shared → Prop}
    (X : K.In s.heap) (I : PySem.W.InstAt s.heap x ox C (some (dictOf es n))) (hg : plainGet K C name = true) (hf : findIn K (.ref C) name = some (some (.ref f))) (ht : isFn K (.ref f) = true)
    (hl : getL name es = some none) (h : Q (.ref f, [.ref x]) s) : wpAny (model prog w) A (getMethod (.ref x) name pl) Q E s :=
  method_fn X I (plainGet_of hg).1 (plainGet_of hg).2 hf (beq_iff_eq.mp ht) (by show (lookIn name (dictOf es n)).map _ = _; rw [lookIn_dict, hl]; rfl) h

/-! the whole heap as the ledger: makes every rule that writes through a ledger a rule over any heap -/
def noObjs (h : Heap) : Heap := { h with objs := #[] }
theorem noObjs_get (h : Heap) (b : Addr) : (noObjs h).get? b = none := by
  cases e : (noObjs h).get? b with
  | none => rfl
  | some o => exact absurd (Heap.lt_size e) (Nat.not_lt_zero _)
def ledger (h : Heap) (L d : Addr) : List (Addr × Obj) := (List.range h.objs.size).filterMap fun a => if a = L ∨ a = d then none else (h.get? a).map fun o => (a, o)
theorem mem_ledger {h : Heap} {L d a : Addr} {o : Obj} : (a, o) ∈ ledger h L d ↔ a ≠ L ∧ a ≠ d ∧ h.get? a = some o := by
  unfold ledger
  rw [List.mem_filterMap]
  constructor
  · rintro ⟨b, _, e⟩
    split at e
    · cases e
    · rename_i hb
      obtain ⟨o', ho, e'⟩ := Option.map_eq_some_iff.mp e
      cases e'
      exact ⟨fun q => hb (.inl q), fun q => hb (.inr q), ho⟩
  · rintro ⟨n1, n2, ho⟩
    refine ⟨a, List.mem_range.mpr (Heap.lt_size ho), ?_⟩
    rw [if_neg (show ¬ (a = L ∨ a = d) from fun q => q.elim n1 n2), ho] <;> rfl
theorem news_ledger {h : Heap} {L d : Addr} {od : Obj} (hne : d ≠ L) (ho : h.get? d = some od) : News (noObjs h) L h ([] ++ (d, od) :: ledger h L d) := by
  rintro ⟨a, o⟩ hp
  rcases List.mem_cons.mp hp with e | hp
  · cases e
    exact ⟨ho, hne, noObjs_get _ _⟩
  · obtain ⟨n1, n2, e⟩ := mem_ledger.mp hp
    exact ⟨e, n1, noObjs_get _ _⟩
theorem fr_all {h : Heap} {L : Addr} {m : Str → Option Value} (n : h.Ns L m) : Fr (noObjs h) L h m :=
  ⟨n, fun b o e => (by rw [noObjs_get] at e; cases e), Nat.zero_le _⟩
/-- Upd of the head entry (for append_K, setItem_K ..) -/
theorem upd_ledger {h : Heap} {L d : Addr} {o o' : Obj} : Upd d o o' ((d, o) :: ledger h L d) ((d, o') :: ledger h L d) :=
  .head fun ⟨_, _⟩ hp => (mem_ledger.mp hp).2.1

/-- x.name = v over any heap: L is any namespace of the heap (the frame's, say): its map stays, its object is not told; all else but the dict stays -/
theorem set_field {x C dx L : Addr} {ox : Obj} {m : Str → Option Value} {es es' : List DictEntry} {n n' : Nat} {name : Str} {v : Value} {Q : Unit → Shared → Prop}
    (X : K.In s.heap) (I : PySem.W.InstAt s.heap x ox C (some (dictOf es n))) (hd : ox.dict = some dx) (hL : s.heap.Ns L m) (hne : dx ≠ L)
    (hs : findIn K (.ref C) "__setattr__" = some (some (.builtin "object.__setattr__"))) (hp : plainOver K C = true) (ht : takerIn K C name = some none) (hh : hasDictIn K C = true) (hl : (getL name es).isSome = true)
    (e : (putL name (PyData.keyHash w.params name) (.str name (s.toks + 1)) v es, putN name es n) = (es', n')) (hz : es'.length ≤ 1000)
    (h : ∀ h' : Heap, h'.Ns L m → h'.get? dx = some (dictOf es' n') → (∀ b o, b ≠ dx → b ≠ L → s.heap.get? b = some o → h'.get? b = some o) → Q () { s with heap := h', toks := s.toks + 2 }) :
    wpAny (model prog w) A (setAttr (.ref x) name v) Q E s := by
  obtain ⟨e1, e2⟩ := Prod.mk.inj e
  have hdx : s.heap.get? dx = some (dictOf es n) := by
    have := I.dict
    rw [hd] at this
    exact this
  refine set_plain X I hs (osa_dict (s := { s with toks := s.toks + 1 }) (h₀ := noObjs s.heap) (L := L) (m := m) (od := dictOf es n) (od' := dictOf es' n') (es := es') (n := n') (pre := []) (post := ledger s.heap L dx)
    (fr_all hL) (news_ledger hne hdx) X I hd hp ht hh hl (fun _ q => nomatch q) (fun ⟨_, _⟩ q => (mem_ledger.mp q).2.1) (by rw [putName_dict, e1, e2]) rfl hz fun h' F' N' => ?_)
  exact h h' F'.ns (N'.get (List.Mem.head _)) fun b o n1 n2 ho => N'.get (List.Mem.tail _ (mem_ledger.mpr ⟨n2, n1, ho⟩))
end
end Att

namespace L2
open PySem PySem.Spec PyProof.Rows

theorem vals_ints : ∀ {vs : List Value} {ns : List Int}, IntsAre vs ns → Vals (ns.map V.int) vs
  | _, _, .nil => .nil
  | _, _, .cons n t h => .cons ⟨t, rfl⟩ (vals_ints h)

/-- nothing is tracked but the script, known to the object (or it is an object of the module) -/
def Only (H : Hp) : Prop := ∀ b, H b = none ∨ ∃ o xs, H b = some (.frz o (.lst xs))

/-- THE HEAD: the law's promise, at the heap behind the top. F, the promise of the law's def, may use that base is part of the heap (so K.In base, base.Ns mainGlobals mg stand in Mod) -/
theorem law_call {P : Program} {w : World} {K : PySem.W.Frag} {mg mb : Str → Option Value} {CX : CXT} {k : Nat} {fa a : Addr} {fd : FuncData} {x : Str} {sp : Sp} {s₁ : Shared} {vs : List Value} {ns : List Int}
    (KX : K.In s₁.heap) (hns : s₁.heap.Ns mainGlobals mg) (hb : s₁.heap.Ns builtinsNs mb) (hbb : ∀ x : Str, x ≠ "__name__" → mb x = bootBuiltins x) (hlim : s₁.heap.NoLimit) (hg : s₁.gens = #[])
    (ha : s₁.heap.get? a = some { cls := .type "list", data := .seq vs.toArray }) (hi : IntsAre vs ns) (hl : ns.length ≤ sizeLine) (hr : Room k callerA)
    (F : ∀ base : Heap, K.In base → base.Ns mainGlobals mg → FnOk P w K mg base CX k fa fd [x] sp) (hbind : ∀ (s : Shared) (u : Value), BindsTo s fd ⟨[u], []⟩ [(x, u)])
    (hsp : ∀ H : Hp, Only H → SqL K H a (ns.map V.int) → sp [.ref a] H (fun v _ => v = .bl true) fun _ _ _ => False)
    (hCX : ∀ H e s', CX [] H s₁ (fun _ _ _ => False) e s' → False) :
    codeAny (model P w) callerA (.call (.ref fa) ⟨[.ref a], []⟩) (fun r s' => r = .ok (.ret (.bool true)) ∧ OldK s₁.heap s'.heap ∧ s'.os = s₁.os ∧ AllBare s'.gens) s₁ := by
  have rv := vals_ints hi
  have lenV := hi.length
  -- from an abstract heap in which nothing but the script may be tracked
  have core : ∀ H : Hp, Only H → SqL K H a (ns.map V.int) → HOk P w H s₁.heap → (∀ b, H b ≠ none → b = a) → (H a ≠ none → K.lookup a = none) →
      codeAny (model P w) callerA (.call (.ref fa) ⟨[.ref a], []⟩) (fun r s' => r = .ok (.ret (.bool true)) ∧ OldK s₁.heap s'.heap ∧ s'.os = s₁.os ∧ AllBare s'.gens) s₁ := by
    intro H hO hS hok hA hK
    have base_of : ∀ {b : Addr} {o : Obj}, s₁.heap.get? b = some o → H b = none → (hidT s₁.heap H).get? b = some o := fun e n => hidT_get e n
    have noA : ∀ {b : Addr} {o : Obj} {es : Array DictEntry} {ep : Nat}, s₁.heap.get? b = some o → o.data = .dict es ep → H b = none := fun {b o es ep} e d => by
      cases q : H b with
      | none => rfl
      | some u =>
        have e' : b = a := hA b (by rw [q]; simp)
        subst e'
        rw [ha] at e; cases e
        have d' : Data.seq vs.toArray _ = Data.dict es ep := d
        cases d'
    have nsK : ∀ {b : Addr} {m : Str → Option Value}, s₁.heap.Ns b m → (hidT s₁.heap H).Ns b m := fun {b m} ⟨o, es, ep, e, d, r⟩ => ⟨o, es, ep, base_of e (noA e d), d, r⟩
    have hKb : K.In (hidT s₁.heap H) := fun b o e => base_of (KX b o e) (by
      cases q : H b with
      | none => rfl
      | some u =>
        have e' : b = a := hA b (by rw [q]; simp)
        subst e'
        rw [hK (by rw [q]; simp)] at e; cases e)
    have hM : Mod K mg (hidT s₁.heap H) := ⟨hKb, nsK hns, ⟨mb, nsK hb, hbb⟩, let ⟨mc, h1, h2⟩ := hlim; ⟨mc, nsK h1, h2⟩⟩
    have e0 : Env0 P w K mg (hidT s₁.heap H) callerA [] s₁ H := ⟨rfl, hM, fun b o e => of_hidT e, Nat.le_of_eq (hidT_size _ _), trivial, fun b hb => absurd (show b ∈ ([] : List Addr) from hb) (by simp), hok, .of_eq hg⟩
    refine codeAny_mono ((F _ hKb (nsK hns)).run callerA [] s₁ H ⟨[.ref a], []⟩ [.ref a] [.ref a] _ _ hr e0 (hbind s₁ (.ref a)) (.cons rfl .nil) (hsp H hO hS)) fun r s' h => ?_
    cases r with
    | error e => exact (hCX H e s' h).elim
    | ok fl =>
      cases fl with
      | next => exact False.elim h
      | brk => exact False.elim h
      | cont => exact False.elim h
      | ret u =>
        obtain ⟨v, H', os, bare, un, hok', r', q⟩ := h
        have q' : v = .bl true := q
        subst q'
        obtain rfl : u = Value.bool true := r'
        refine ⟨rfl, OldK.of_keep fun b o e => ?_, os, bare⟩
        cases q : H b with
        | none => exact un.keep b o e q (by intro z; exact absurd (show b ∈ ([] : List Addr) from z) (by simp)) (by simp)
        | some u =>
          rcases hO b with z | ⟨ob, xs, z⟩
          · rw [q] at z; cases z
          · have z2 := un.frzs b ob _ z
            obtain ⟨e1, _⟩ := hok b _ z
            obtain ⟨e2, _⟩ := hok' b _ z2
            rw [e] at e1; cases e1
            exact e2
  cases hk : K.lookup a with
  | some o =>
    -- the script is one of the module's own objects
    have e := KX a o hk
    rw [ha] at e
    cases e
    refine core (fun _ => none) (fun _ => .inl rfl) (.inr ⟨_, vs.toArray, _, hk, rfl, rfl, rfl, by rw [List.size_toArray, lenV]; exact hl, by simpa using rv⟩) (fun b u z => by have z' : (none : Option HO) = some u := z; cases z') (fun b z => absurd rfl z) fun z => absurd rfl z
  | none =>
    refine core (fun b => if b = a then some (.frz { cls := .type "list", data := .seq vs.toArray } (.lst (ns.map V.int))) else none) (fun b => ?_) (.inl (.inr ⟨{ cls := .type "list", data := .seq vs.toArray }, if_pos rfl⟩)) (fun b u z => ?_) (fun b z => ?_) fun _ => hk
    · by_cases hb : b = a
      · exact .inr ⟨_, _, if_pos hb⟩
      · exact .inl (if_neg hb)
    · by_cases hb : b = a
      · have z' := (if_pos hb).symm.trans z
        cases z'
        subst hb
        exact ⟨ha, by rw [List.length_map]; exact hl, vs, _, rv, ha⟩
      · have z' := (if_neg hb).symm.trans z
        cases z'
    · by_cases hb : b = a
      · exact hb
      · exact absurd (if_neg hb) z
end L2

namespace L2
open PySem PySem.Spec PyProof.Rows

abbrev KOf {K : PySem.W.Frag} {h : Heap} (_ : K.In h) : PySem.W.Frag := K

/-- the goal that k_head leaves (case hc), from the law's promise. F gives the function object fd (K's own) once, then the promise over every base -/
theorem walk_of {l : PySem.W.OpenLaw} {n k : Nat} {q : Program} {loose : List Str} {XP : (Str → Option Value) → Heap → Prop} {YP : World → Heap → Prop} {d : DefRec} {K : Params → PySem.W.Frag} {CX : World → CXT} {sp : World → Sp} {x : Str}
    (hn : l.most = some n) (hn2 : n ≤ sizeLine) (hdf : d.params.defaults = []) (hr : Room k callerA)
    (hY : ∀ (w : World) (h : Heap), YP w h → (K w.params).In h)
    (F : ∀ (w : World) (mg : Str → Option Value) (fa : Addr) (h : Heap), (K w.params).In h → h.Ns mainGlobals mg → mg d.name = some (.ref fa) →
      ∃ fd : FuncData, (∀ (s : Shared) (u : Value), BindsTo s fd ⟨[u], []⟩ [(x, u)]) ∧
        ∀ base : Heap, (K w.params).In base → base.Ns mainGlobals mg → FnOk l.prog w (K w.params) mg base (CX w) k fa fd [x] (sp w))
    (hsp : ∀ (w : World) (H : Hp) (a : Addr) (ns : List Int), ns.length ≤ n → Only H → SqL (K w.params) H a (ns.map V.int) → sp w [.ref a] H (fun v _ => v = .bl true) fun _ _ _ => False)
    (hCX : ∀ (w : World) (H : Hp) (s : Shared) (e : Value) (s' : Shared), CX w [] H s (fun _ _ _ => False) e s' → False) :
    PySem.W.WalkO q loose XP YP l.row.toRowW d [] (fun f vs => PySem.call f vs) := by
  refine Att.attach_call hn hdf fun w s₀ s₁ mg mb fa o pm cd doc a vs ns G Y ho hd hcd hmg hobj hints hlen hg => ?_
  have KX := hY w _ Y
  obtain ⟨fd, hb, hF⟩ := F w mg fa _ KX G.T.g hmg
  exact law_call KX G.T.g G.T.b G.T.builtins G.T.nolimit hg hobj hints (Nat.le_trans hlen hn2) hr hF hb (fun H hO hS => hsp w H a ns hlen hO hS) fun H e s' => hCX w H s₁ e s'
/-- the same where the promise hangs on the written part alone: (sp := My.sp_law), no hole under a binder -/
theorem walk_ofK {l : PySem.W.OpenLaw} {n k : Nat} {q : Program} {loose : List Str} {XP : (Str → Option Value) → Heap → Prop} {YP : World → Heap → Prop} {d : DefRec} {K : Params → PySem.W.Frag} {CX : CXT} {sp : PySem.W.Frag → Sp} {x : Str}
    (hn : l.most = some n) (hn2 : n ≤ sizeLine) (hdf : d.params.defaults = []) (hr : Room k callerA)
    (hY : ∀ (w : World) (h : Heap), YP w h → (K w.params).In h)
    (F : ∀ (w : World) (mg : Str → Option Value) (fa : Addr) (h : Heap), (K w.params).In h → h.Ns mainGlobals mg → mg d.name = some (.ref fa) →
      ∃ fd : FuncData, (∀ (s : Shared) (u : Value), BindsTo s fd ⟨[u], []⟩ [(x, u)]) ∧
        ∀ base : Heap, (K w.params).In base → base.Ns mainGlobals mg → FnOk l.prog w (K w.params) mg base CX k fa fd [x] (sp (K w.params)))
    (hsp : ∀ (K : PySem.W.Frag) (H : Hp) (a : Addr) (ns : List Int), ns.length ≤ n → Only H → SqL K H a (ns.map V.int) → sp K [.ref a] H (fun v _ => v = .bl true) fun _ _ _ => False)
    (hCX : ∀ (H : Hp) (s : Shared) (e : Value) (s' : Shared), CX [] H s (fun _ _ _ => False) e s' → False) :
    PySem.W.WalkO q loose XP YP l.row.toRowW d [] (fun f vs => PySem.call f vs) :=
  walk_of (K := K) (CX := fun _ => CX) (sp := fun w => sp (K w.params)) hn hn2 hdf hr hY F (fun w H a ns h1 h2 h3 => hsp (K w.params) H a ns h1 h2 h3) fun _ H s e s' => hCX H s e s'
end L2

/- THE LAST THEOREM (shape; LID, My.* are yours):
   My.Adr: a structure of the addresses that your layer names (classes, functions); My.Txt K t: a structure (Prop) of the equations over K;
   My.txt_mk : {K} {implicit addresses ..} (e1 : nsIn K mainGlobals "law" = some (some (.ref f))) (e2 : K.lookup f = some ⟨oc, od, .func (fnOf "law" "law" params body scope dV kV doc pm an cdv ct), sl⟩) (e3 : codeIn K cdv "law" = true) .. : ∃ t, My.Txt K t

set_option maxRecDepth 100000 in
set_option maxHeartbeats 0 in
theorem PySem.Challenge.cw_LID_holds : PySem.Challenge.rw_LID.Holds := by
  w_on; o_law; k_head; (case hw => w_witness2)
  k_fill
  refine L2.walk_of (l := PySem.Challenge.rw_LID) (n := 63) (k := 40) (x := "script") (CX := fun w => ..) (sp := fun _ => My.sp_law) rfl (by decide) rfl ⟨rfl, by decide, by decide⟩ (fun w h Y => PySem.W.kIn_of Y) ?F ?S ?C
  case F =>
    intro w mg fa h KX G hmg
    have T : ∃ t, My.Txt (L2.KOf KX) t := by
      dsimp only [L2.KOf]                          -- K must stand as «<heap const> w.params» for k_is
      refine' My.txt_mk ?e1 ?e2 ?e3 ..
      (case e1 => PySem.W.k_is)                    -- in the order: a name -> its address -> its object -> its parts
      (case e2 => PySem.W.k_is)
      ..
    obtain ⟨t, T⟩ := T
    have e0 := hmg.symm.trans (PySem.W.mg_of KX G T.law)
    cases e0                                       -- fa is the law's own address
    exact ⟨_, fun s u => .of_eq rfl, fun base kb nb => My.law_fn T kb nb⟩     -- if «.of_eq rfl» comes too early: refine' ⟨_, ?b, fun base kb nb => My.law_fn T kb nb⟩; exact fun s u => .of_eq rfl
  case S => exact fun w H a ns hl hO hS => ..
  case C => exact ..
(the tactic k_is has no namespace: write k_is) -/

/-! SHORT WORDS over the layer: a def of the text, its body, what a loop and a test want. -/
namespace L2
open PySem PySem.Spec PyProof.Rows

/-! ### the text by places -/
/-- the j-th statement of a class's body -/
def inClass (s : Stmt) (j : Nat) : Stmt := match s with
  | .ClassDef _ _ _ body _ _ _ _ _ _ _ => body.getD j (.Pass ⟨0, 0, 0, 0⟩)
  | _ => .Pass ⟨0, 0, 0, 0⟩
def defArgs (s : Stmt) : Arguments := match s with
  | .FunctionDef _ a _ _ _ _ _ _ _ _ => a
  | _ => { posonlyargs := [], args := [], vararg := none, kwonlyargs := [], kw_defaults := [], kwarg := none, defaults := [] }
def defBody (s : Stmt) : List Stmt := match s with
  | .FunctionDef _ _ b _ _ _ _ _ _ _ => b
  | _ => []
def defScope (s : Stmt) : Scope := match s with
  | .FunctionDef _ _ _ _ _ _ sc _ _ _ => sc
  | _ => { kind := .function, names := [], isGenerator := false, isCoroutine := false }

/-! ### no exception leaves a def -/
abbrev CX0 : CXT := fun _ _ _ _ _ _ => False
abbrev E0 : XK := fun _ _ _ => False
theorem pass0 {X : Cx} : Passes CX0 X E0 := fun _ _ _ _ _ _ _ h => h.elim

/-! ### a def (or method) of the text as it stands behind the top -/
structure Fun (K : PySem.W.Frag) (x qual : Str) (st : Stmt) (f : Addr) (fd : FuncData) : Prop where
  ex : ∃ (oc : Value) (od : Option Addr) (kV doc pm : Value) (an : Option Addr) (cdv ct : Value) (osl : Array (Option Value)),
    fd = PySem.W.fnOf x qual (defArgs st) (defBody st) (defScope st) .none kV doc pm an cdv ct ∧ K.lookup f = some ⟨oc, od, .func fd, osl⟩ ∧ PySem.W.codeIn K cdv qual = true
  kp : PySem.W.keepIn K (.ref f) = true
section
variable {P : Program} {w : World} {K : PySem.W.Frag} {mg : Str → Option Value} {base : Heap}
/-- THE RULE for a def: its body as a term of rules, and the reading of that term -/
theorem Fun.ok {x qual : Str} {st : Stmt} {f : Addr} {fd : FuncData} {N ps : List Str} {k : Nat} {sp : Sp} (F : Fun K x qual st f fd) (S : FnScope N ps (defScope st)) (len : ∀ vs H Q E, sp vs H Q E → vs.length = ps.length)
    (hbody : ∀ (cdv : Value) (A : Around) (outer : List Env) (s : Shared) (H : Hp) (vs : List V) (Q : VK) (E : XK), Room k (A.deeper (envOfC qual (defScope st) s.heap.objs.size f cdv)) → sp vs H Q E →
      ∃ t, PSs (cxOf CX0 P w K mg base N qual (defScope st) f cdv A outer s H E).nox (defBody st) t ∧ t { nx := fun _ H' => Q .non H', rt := Q } (start N vs) H) : FnOk P w K mg base CX0 (k + 1) f fd ps sp := by
  obtain ⟨oc, od, kV, doc, pm, an, cdv, ct, osl, rfl, lk, hcd⟩ := F.ex
  refine fn_of lk hcd S len fun A outer s H vs Q E hr hsp => ?_
  obtain ⟨t, h, q⟩ := hbody cdv A outer s H vs Q E hr hsp
  exact ⟨t, h.nox, q⟩
/-- how its arguments bind (no defaults): h is «fun _ _ _ _ _ _ us hl => match us, hl with | [_, _], _ => rfl», one _ a parameter -/
theorem Fun.binds {x qual : Str} {st : Stmt} {f : Addr} {fd : FuncData} {ps : List Str} (F : Fun K x qual st f fd)
    (h : ∀ (kV doc pm : Value) (an : Option Addr) (cdv ct : Value) (us : List Value), us.length = ps.length → bindArgs (PySem.W.fnOf x qual (defArgs st) (defBody st) (defScope st) .none kV doc pm an cdv ct) ⟨us, []⟩ = pure (ps.zip us)) : Binds K fd ps [] := by
  obtain ⟨oc, od, kV, doc, pm, an, cdv, ct, osl, rfl, lk, hcd⟩ := F.ex
  exact .all (h kV doc pm an cdv ct)
theorem fun_mk {x qual : Str} {st : Stmt} {f : Addr} {oc : Value} {od an : Option Addr} {osl : Array (Option Value)} {kV doc pm cdv ct : Value} (l : K.lookup f = some ⟨oc, od, .func (PySem.W.fnOf x qual (defArgs st) (defBody st) (defScope st) .none kV doc pm an cdv ct), osl⟩)
    (c : PySem.W.codeIn K cdv qual = true) (k : PySem.W.keepIn K (.ref f) = true) : Fun K x qual st f (PySem.W.fnOf x qual (defArgs st) (defBody st) (defScope st) .none kV doc pm an cdv ct) := ⟨⟨oc, od, kV, doc, pm, an, cdv, ct, osl, rfl, l, c⟩, k⟩
end
theorem hu_of {A : Around} {k : Nat} (hr : Room k A) : A.units + 1 < cLine := Nat.lt_of_le_of_lt (Nat.add_le_add_left (by decide : 1 ≤ 64) _) hr.units
theorem small1000 {n : Nat} (h : n ≤ 1000) : n < sizeLine := Nat.lt_of_le_of_lt h (by decide)

/-! ### expressions in short: the name that stands in the i-th slot -/
section
variable {X : Cx}
theorem pv (i : Nat) {x : Str} {pos : Pos} (hN : X.N[i]? = some x := by rfl) (hv : Vis X.env.scope x := by first | exact Or.inl rfl | exact Or.inr (Or.inl rfl) | exact Or.inr (Or.inr rfl)) (hd : (x == ("__debug__" : Str)) = false := by decide)
    (hcd : (x == ("__classdict__" : Str)) = false := by decide) : PE X (.Name x pos) (tVar i) := pe_var hN hv hd hcd
end

/-! ### tests -/
theorem iteF {A B : Prop} (h : B) : if false = true then A else B := by
  rw [if_neg Bool.false_ne_true]
  exact h
theorem iteT {A B : Prop} (h : A) : if true = true then A else B := by
  rw [if_pos rfl]
  exact h
theorem ite2 {c A B : Prop} [Decidable c] (h1 : c → A) (h2 : ¬ c → B) : if c then A else B := by
  by_cases h : c
  · rw [if_pos h]
    exact h1 h
  · rw [if_neg h]
    exact h2 h
theorem iteNS {c A B : Prop} [Decidable c] (hc : c) (h : B) : if (!decide c) = true then A else B := by
  rw [decide_eq_true hc]
  exact iteF h

/-! ### heaps -/
/-- all that was tracked is as it was -/
def Same (H H' : Hp) : Prop := ∀ b o, H b = some o → H' b = some o
theorem Same.refl (H : Hp) : Same H H := fun _ _ h => h
theorem Same.trans {H H1 H2 : Hp} (a : Same H H1) (b : Same H1 H2) : Same H H2 := fun c o h => b c o (a c o h)
theorem Same.free {H H' : Hp} (e : Same H H') {l : Addr} (h : H' l = Option.none) : H l = Option.none := by
  cases q : H l with
  | none => rfl
  | some o =>
    rw [e l o q] at h
    cases h
theorem Same.seq {K : PySem.W.Frag} {H H' : Hp} {a : Addr} {xs : List V} (e : Same H H') (h : SqL K H a xs) : SqL K H' a xs := by
  rcases h with (h | ⟨o, h⟩) | h
  · exact .inl (.inl (e _ _ h))
  · exact .inl (.inr ⟨o, e _ _ h⟩)
  · exact .inr h

end L2

namespace L2
open PySem PySem.Spec PyProof.Rows
section
variable {X : Cx}
/-- len of a dict -/
theorem call_lenD : CallR X (.builtin "len") (fun xs H Q => ∃ a kvs, xs = [V.ref a] ∧ H a = some (.dK kvs) ∧ Q (.int kvs.length) H) := by
  intro pins s σ H xs us Q I r h
  obtain ⟨a, kvs, rfl, ha, q⟩ := h
  obtain ⟨u, rfl, ru⟩ := vals1 r
  cases ru
  exact d_len I (.inl ha) fun t s' I' => ⟨.int kvs.length, H, I', ⟨t, rfl⟩, q⟩
end
/-! ### a dict's pairs: keys that differ -/
section
variable {κ : Type} [DecidableEq κ]
theorem valV_not {kvs : List (κ × V)} {k : κ} (h : valV kvs k = none) : ¬ k ∈ kvs.map (·.1) := by
  intro m
  obtain ⟨p, hp, e⟩ := List.mem_map.mp m
  have q : (kvs.any fun kv => decide (kv.1 = k)) = true := List.any_eq_true.mpr ⟨p, hp, decide_eq_true e⟩
  rw [valV_any, h] at q
  exact absurd q (by simp)
theorem valV_in {kvs : List (κ × V)} {k : κ} {v : V} (h : valV kvs k = some v) : k ∈ kvs.map (·.1) := by
  have q : (kvs.any fun kv => decide (kv.1 = k)) = true := by
    rw [valV_any, h]
    all_goals rfl
  obtain ⟨p, hp, e⟩ := List.any_eq_true.mp q
  exact List.mem_map.mpr ⟨p, hp, of_decide_eq_true e⟩
theorem nd_snoc : ∀ {l : List κ} {k : κ}, l.Nodup → ¬ k ∈ l → (l ++ [k]).Nodup
  | [], k, _, _ => by simp
  | a :: r, k, h, hk => by
    obtain ⟨h1, h2⟩ := List.nodup_cons.mp h
    show (a :: (r ++ [k])).Nodup
    refine List.nodup_cons.mpr ⟨fun m => ?_, nd_snoc h2 fun m => hk (List.mem_cons.mpr (Or.inr m))⟩
    rcases List.mem_append.mp m with q | q
    · exact h1 q
    · exact hk (List.mem_cons.mpr (Or.inl (List.mem_singleton.mp q).symm))
theorem nd_putK {kvs : List (κ × V)} {k : κ} (v : V) (hn : (kvs.map (·.1)).Nodup) (h : valV kvs k = none) : ((putK kvs k v).map (·.1)).Nodup := by
  rw [putK_new v h, List.map_append]
  exact nd_snoc hn (valV_not h)
theorem dropK_pos {p : κ × V} {r : List (κ × V)} {k : κ} (e : p.1 = k) : dropK (p :: r) k = dropK r k := by
  unfold dropK
  rw [List.filter_cons, if_neg (by simp [e])]
theorem dropK_neg {p : κ × V} {r : List (κ × V)} {k : κ} (e : ¬ p.1 = k) : dropK (p :: r) k = p :: dropK r k := by
  unfold dropK
  rw [List.filter_cons, if_pos (by simp [e])]
theorem dropK_no : ∀ {kvs : List (κ × V)} {k : κ}, ¬ k ∈ kvs.map (·.1) → dropK kvs k = kvs
  | [], _, _ => rfl
  | p :: r, k, h => by
    have h' : ¬ k ∈ r.map (·.1) := fun m => by
      obtain ⟨q, hq, e⟩ := List.mem_map.mp m
      exact h (List.mem_map.mpr ⟨q, List.mem_cons.mpr (Or.inr hq), e⟩)
    rw [dropK_neg fun e => h (List.mem_map.mpr ⟨p, List.mem_cons.mpr (Or.inl rfl), e⟩), dropK_no h']
theorem dropK_mem {kvs : List (κ × V)} {k : κ} {p : κ × V} (h : p ∈ dropK kvs k) : p ∈ kvs := (List.mem_filter.mp h).1
theorem nd_dropK : ∀ {kvs : List (κ × V)} {k : κ}, (kvs.map (·.1)).Nodup → ((dropK kvs k).map (·.1)).Nodup
  | [], _, _ => List.nodup_nil
  | p :: r, k, h => by
    have h : (p.1 :: r.map (·.1)).Nodup := h
    obtain ⟨h1, h2⟩ := List.nodup_cons.mp h
    by_cases e : p.1 = k
    · rw [dropK_pos e]
      exact nd_dropK h2
    · rw [dropK_neg e]
      show (p.1 :: (dropK r k).map (·.1)).Nodup
      refine List.nodup_cons.mpr ⟨fun m => h1 ?_, nd_dropK h2⟩
      obtain ⟨q, hq, eq⟩ := List.mem_map.mp m
      exact List.mem_map.mpr ⟨q, dropK_mem hq, eq⟩
theorem dropK_len : ∀ {kvs : List (κ × V)} {k : κ}, (kvs.map (·.1)).Nodup → k ∈ kvs.map (·.1) → (dropK kvs k).length + 1 = kvs.length
  | [], _, _, m => by simp at m
  | p :: r, k, h, m => by
    have h : (p.1 :: r.map (·.1)).Nodup := h
    have m : k = p.1 ∨ k ∈ r.map (·.1) := List.mem_cons.mp m
    obtain ⟨h1, h2⟩ := List.nodup_cons.mp h
    by_cases e : p.1 = k
    · subst e
      rw [dropK_pos rfl, dropK_no h1]
      all_goals rfl
    · have m' : k ∈ r.map (·.1) := m.resolve_left fun z => e z.symm
      have q := dropK_len h2 m'
      rw [dropK_neg e, List.length_cons, List.length_cons]
      omega
end
end L2

set_option Elab.async false
set_option linter.all false
set_option maxRecDepth 100000
set_option maxHeartbeats 4000000
namespace L2
open PySem PySem.Spec PyProof.Rows

/-! ### forgetting what an expression made on its way -/
def simpleO : HO → Prop
  | .dT _ => False
  | .frz _ (.lst _) => True
  | .frz _ _ => False
  | _ => True
/-- no dict with tuple keys is tracked -/
def Clo (H : Hp) : Prop := ∀ a o, H a = some o → simpleO o
theorem sameRefl (H : Hp) : Same H H := fun _ _ h => h
theorem sameUpd {H : Hp} {p : Addr} {o : HO} (h : H p = none) : Same H (upd H p o) := fun b u e => by
  rw [upd_ne (ne_of_none e h)]
  exact e

theorem objOk_back {P : Program} {w : World} {H H' : Hp} {h h0 : Heap} {a : Addr} {o : HO} (s : simpleO o) (y : ObjOk P w H h0 a o) (x : ObjOk P w H' h a o) : ObjOk P w H h a o := by
  cases o with
  | dT kvs => exact s.elim
  | ins C dx fs => exact ⟨y.1, x.2⟩
  | frz ob u =>
    cases u with
    | lst xs => exact ⟨x.1, x.2⟩
    | _ => exact s.elim
  | _ => exact x
theorem hok_back {P : Program} {w : World} {H H' : Hp} {h h0 : Heap} (y : HOk P w H h0) (x : HOk P w H' h) (sm : Same H H') (c : Clo H) : HOk P w H h :=
  fun a o e => objOk_back (c a o e) (y a o e) (x a o (sm a o e))

section
variable {X : Cx} {pins : List (Addr × Obj)} {σ : St} {H H' : Hp} {s s' : Shared}
theorem forget (I : Inv X pins σ H s) (I' : Inv X pins σ H' s') (sm : Same H H') (c : Clo H) : Inv X pins σ H s' where
  ok := I'.ok
  os := I'.os
  bare := I'.bare
  base := ⟨I'.base.keep, I'.base.slot, fun b o q n x => sm.free (I'.base.free b o q n x), I'.base.there, I.base.tups, I.base.frzs, I.base.tbls⟩
  loc := I'.loc
  cell := I'.cell
  free := sm.free I'.free
  freeC := fun x c e => sm.free (I'.freeC x c e)
  pin := fun p hp => let ⟨a, b, r⟩ := I'.pin p hp; ⟨a, sm.free b, r⟩
  hok := hok_back I.hok I'.hok sm c
  len := I'.len
end

def tFg (t : TE) : TE := fun σ H Q => Clo H ∧ t σ H fun v H' => Same H H' ∧ Q v H
theorem pe_fg {X : Cx} {e : Expr} {t : TE} (h : PE X e t) : PE X e (tFg t) := fun pins s σ H Q I hw =>
  thn (h pins s σ H _ I hw.2) fun u s' ⟨v, H', I', r, sm, q⟩ => ⟨v, H, forget I I' sm hw.1, r, q⟩
def tFgT (t : TT) : TT := fun σ H Q => Clo H ∧ t σ H fun v H' => Same H H' ∧ Q v H
theorem pt_fg {X : Cx} {e : Expr} {t : TT} (h : PT X e t) : PT X e (tFgT t) := fun pins s σ H Q I hw =>
  thn (h pins s σ H _ I hw.2) fun u s' ⟨H', I', sm, q⟩ => ⟨H, forget I I' sm hw.1, q⟩
end L2
set_option Elab.async false
set_option linter.all false
set_option maxRecDepth 100000
set_option maxHeartbeats 4000000
/-! ### comprehensions -/
namespace L2
open PySem PySem.Spec PyProof.Rows

theorem lookup_mem {α : Type} {y : Str} {v : α} : ∀ {l : List (Str × α)}, l.lookup y = some v → (y, v) ∈ l
  | [], h => by cases h
  | (n, k) :: r, h => by
    rw [List.lookup_cons] at h
    cases hb : y == n with
    | true =>
      rw [hb] at h
      cases h
      rw [beq_iff_eq.mp hb]
      exact List.mem_cons_self
    | false =>
      rw [hb] at h
      exact List.mem_cons_of_mem _ (lookup_mem h)
theorem lookup_of_nd {α : Type} {y : Str} {v : α} : ∀ {l : List (Str × α)}, (l.map (·.1)).Nodup → (y, v) ∈ l → l.lookup y = some v
  | [], _, h => by cases h
  | (n, k) :: r, hn, h => by
    have hn' : (n :: r.map (·.1)).Nodup := hn
    obtain ⟨h1, h2⟩ := List.nodup_cons.mp hn'
    rw [List.lookup_cons]
    rcases List.mem_cons.mp h with e | e
    · cases e
      simp
    · have hne : (y == n) = false := by
        refine beq_eq_false_iff_ne.mpr fun z => h1 ?_
        rw [← z]
        exact List.mem_map.mpr ⟨(y, v), e, rfl⟩
      rw [hne]
      exact lookup_of_nd h2 e

/-- the relabelled kind -/
def relK (env : Env) (y : Str) (k : NameKind) : NameKind := if (k == NameKind.free && env.scope.kind == .function && env.kindOf y == some .cell) = true then .cell else k
theorem lookup_relabel (scope : Scope) (env : Env) (y : Str) : (relabel scope env).names.lookup y = (scope.names.lookup y).map (relK env y) := by
  show (scope.names.map fun (n, k) => if (k == NameKind.free && env.scope.kind == .function && env.kindOf n == some .cell) = true then (n, NameKind.cell) else (n, k)).lookup y = _
  induction scope.names with
  | nil => rfl
  | cons p r ih =>
    obtain ⟨n, k⟩ := p
    rw [List.map_cons]
    by_cases hc : (k == NameKind.free && env.scope.kind == .function && env.kindOf n == some .cell) = true
    · simp only [if_pos hc, List.lookup_cons]
      cases hb : y == n with
      | true =>
        have e : y = n := beq_iff_eq.mp hb
        subst e
        simp only [Option.map_some, relK, if_pos hc]
      | false => exact ih
    · simp only [if_neg hc, List.lookup_cons]
      cases hb : y == n with
      | true =>
        have e : y = n := beq_iff_eq.mp hb
        subst e
        simp only [Option.map_some, relK, if_neg hc]
      | false => exact ih

theorem closure_go {env : Env} (f : Str × NameKind → List (Str × Addr) → Sem (ForInStep (List (Str × Addr))))
    (hf : ∀ name kind cs, f (name, kind) cs = if (kind == .free) = true then (do let a ← cellOf env name; pure (.yield ((name, a) :: cs))) else pure (.yield cs)) :
    ∀ (names : List (Str × NameKind)) (acc : List (Str × Addr)), (∀ y ∈ names, y.2 = .free → ∃ c, env.cells.lookup y.1 = some c) →
      ∃ cl, (forIn names acc f : Sem (List (Str × Addr))) = pure cl ∧ (∀ y c, cl.lookup y = some c → acc.lookup y = some c ∨ (env.cells.lookup y = some c ∧ (y, NameKind.free) ∈ names)) ∧
        (∀ y, (y, NameKind.free) ∈ names ∨ (acc.lookup y).isSome = true → ∃ c, cl.lookup y = some c)
  | [], acc, _ => ⟨acc, by rw [List.forIn_nil], fun y c e => .inl e, fun y h => by
      rcases h with h | h
      · cases h
      · exact Option.isSome_iff_exists.mp h⟩
  | (name, kind) :: r, acc, h => by
    have hr : ∀ y ∈ r, y.2 = .free → ∃ c, env.cells.lookup y.1 = some c := fun y hy => h y (List.mem_cons_of_mem _ hy)
    by_cases hk : (kind == NameKind.free) = true
    · have e : kind = .free := beq_iff_eq.mp hk
      subst e
      obtain ⟨c0, hc0⟩ := h (name, .free) List.mem_cons_self rfl
      have hc0 : env.cells.lookup name = some c0 := hc0
      obtain ⟨cl, h1, h2, h3⟩ := closure_go f hf r ((name, c0) :: acc) hr
      refine ⟨cl, ?_, fun y c e => ?_, fun y hy => ?_⟩
      · rw [List.forIn_cons, hf, if_pos hk]
        unfold cellOf
        rw [hc0]
        exact h1
      · rcases h2 y c e with q | ⟨q1, q2⟩
        · rw [List.lookup_cons] at q
          cases hb : y == name with
          | true =>
            rw [hb] at q
            cases q
            have e : y = name := beq_iff_eq.mp hb
            subst e
            exact .inr ⟨hc0, List.mem_cons_self⟩
          | false =>
            rw [hb] at q
            exact .inl q
        · exact .inr ⟨q1, List.mem_cons_of_mem _ q2⟩
      · refine h3 y ?_
        rw [List.lookup_cons]
        cases hb : y == name with
        | true => exact .inr rfl
        | false =>
          rcases hy with hy | hy
          · rcases List.mem_cons.mp hy with z | z
            · cases z
              simp at hb
            · exact .inl z
          · exact .inr hy
    · obtain ⟨cl, h1, h2, h3⟩ := closure_go f hf r acc hr
      refine ⟨cl, ?_, fun y c e => (h2 y c e).imp id fun q => ⟨q.1, List.mem_cons_of_mem _ q.2⟩, fun y hy => h3 y (hy.imp (fun hy => ?_) id)⟩
      · rw [List.forIn_cons, hf, if_neg hk]
        exact h1
      · rcases List.mem_cons.mp hy with z | z
        · cases z
          exact absurd rfl hk
        · exact z
theorem closure_ok {scope : Scope} {env : Env} (h : ∀ y ∈ scope.names, y.2 = .free → ∃ c, env.cells.lookup y.1 = some c) :
    ∃ cl, closureFor scope env = pure cl ∧ (∀ y c, cl.lookup y = some c → env.cells.lookup y = some c ∧ (y, NameKind.free) ∈ scope.names) ∧ (∀ y, (y, NameKind.free) ∈ scope.names → ∃ c, cl.lookup y = some c) := by
  have key : ∀ f : Str × NameKind → List (Str × Addr) → Sem (ForInStep (List (Str × Addr))),
      (∀ name kind cs, f (name, kind) cs = if (kind == .free) = true then (do let a ← cellOf env name; pure (.yield ((name, a) :: cs))) else pure (.yield cs)) →
      closureFor scope env = (forIn scope.names [] f >>= fun r => pure r) →
      ∃ cl, closureFor scope env = pure cl ∧ (∀ y c, cl.lookup y = some c → env.cells.lookup y = some c ∧ (y, NameKind.free) ∈ scope.names) ∧ (∀ y, (y, NameKind.free) ∈ scope.names → ∃ c, cl.lookup y = some c) := by
    intro f hf e
    obtain ⟨cl, h1, h2, h3⟩ := closure_go f hf scope.names [] h
    refine ⟨cl, ?_, fun y c q => (h2 y c q).resolve_left (fun z => by cases z), fun y hy => h3 y (.inl hy)⟩
    rw [e, h1]
    rfl
  refine key _ (fun name kind cs => ?_) rfl
  by_cases hk : (kind == NameKind.free) = true
  · simp only [hk, if_true]
  · simp only [hk, if_false]

theorem cells_split : ∀ (names : List (Str × NameKind)) (h : Heap) (acc : List (Str × Addr)) (y : Str) (c : Addr), (cellsFrom h.objs.size names acc).lookup y = some c →
    acc.lookup y = some c ∨ (h.objs.size ≤ c ∧ (y, NameKind.cell) ∈ names ∧ (pushCells h names).IsCell c none)
  | [], _, _, _, _, e => .inl e
  | (name, kind) :: r, h, acc, y, c, e => by
    unfold cellsFrom at e
    unfold pushCells
    by_cases hk : (kind == NameKind.cell) = true
    · rw [if_pos hk] at e ⊢
      have ek : kind = .cell := beq_iff_eq.mp hk
      subst ek
      have sz : (h.push { cls := .type "cell", data := .cell none }).objs.size = h.objs.size + 1 := Heap.size_push ..
      rw [← sz] at e
      rcases cells_split r _ _ y c e with q | ⟨q1, q2, q3⟩
      · rw [List.lookup_cons] at q
        cases hb : y == name with
        | true =>
          rw [hb] at q
          cases q
          have e : y = name := beq_iff_eq.mp hb
          subst e
          exact .inr ⟨Nat.le_refl _, List.mem_cons_self, ⟨_, pushCells_keeps _ _ _ _ (Heap.get?_push_size _ rfl), rfl⟩⟩
        | false =>
          rw [hb] at q
          exact .inl q
      · rw [sz] at q1
        exact .inr ⟨Nat.le_of_succ_le q1, List.mem_cons_of_mem _ q2, q3⟩
    · rw [if_neg hk] at e ⊢
      rcases cells_split r _ _ y c e with q | ⟨q1, q2, q3⟩
      · exact .inl q
      · exact .inr ⟨q1, List.mem_cons_of_mem _ q2, q3⟩
theorem cells_inj : ∀ (names : List (Str × NameKind)) (n : Nat) (acc : List (Str × Addr)), (∀ y z c, acc.lookup y = some c → acc.lookup z = some c → y = z) → (∀ y c, acc.lookup y = some c → c < n) →
    ∀ y z c, (cellsFrom n names acc).lookup y = some c → (cellsFrom n names acc).lookup z = some c → y = z
  | [], _, _, h, _, y, z, c, e1, e2 => h y z c e1 e2
  | (name, kind) :: r, n, acc, h, hl, y, z, c, e1, e2 => by
    unfold cellsFrom at e1 e2
    by_cases hk : (kind == NameKind.cell) = true
    · rw [if_pos hk] at e1 e2
      refine cells_inj r (n + 1) _ (fun y z c q1 q2 => ?_) (fun y c q => ?_) y z c e1 e2
      · rw [List.lookup_cons] at q1 q2
        cases b1 : y == name with
        | true =>
          rw [b1] at q1
          cases q1
          cases b2 : z == name with
          | true => rw [beq_iff_eq.mp b1, beq_iff_eq.mp b2]
          | false =>
            rw [b2] at q2
            exact absurd (hl z _ q2) (Nat.lt_irrefl _)
        | false =>
          rw [b1] at q1
          cases b2 : z == name with
          | true =>
            rw [b2] at q2
            cases q2
            exact absurd (hl y _ q1) (Nat.lt_irrefl _)
          | false =>
            rw [b2] at q2
            exact h y z c q1 q2
      · rw [List.lookup_cons] at q
        cases b : y == name with
        | true =>
          rw [b] at q
          cases q
          exact Nat.lt_succ_self _
        | false =>
          rw [b] at q
          exact Nat.lt_succ_of_lt (hl y c q)
    · rw [if_neg hk] at e1 e2
      exact cells_inj r n acc h hl y z c e1 e2

/-- the namespace of a comprehension -/
theorem newCompEnv {M : Model} {A : Around} {E : Value → Shared → Prop} {s : Shared} {scope : Scope} {env : Env} {cl : List (Str × Addr)} {Q : Env → Shared → Prop}
    (hQ : Q { scope := scope, locals := s.heap.objs.size, globals := env.globals, cells := cellsFrom (s.heap.objs.size + 1) scope.names cl, qual := env.qual, func := none, code := env.code, frame := env.frame, builtins := env.builtins }
      { s with heap := pushCells (s.heap.push { cls := .type "dict", data := .dict #[] }) scope.names }) :
    wpAny M A (newFunctionEnv scope env.globals cl [] env.qual none .none (some env)) Q E s := by
  simp only [newFunctionEnv, Option.isSome_some, if_true]
  refine wpAny_bind (wpAny_alloc ?_)
  refine wpAny_bind (wpAny_layCells _ (fun name kind cells => by cases hkc : kind == NameKind.cell <;> simp [hkc]) _ _ _ _ ?_)
  rw [show ({ s with heap := s.heap.push { cls := .type "dict", data := .dict #[] } } : Shared).heap.objs.size = s.heap.objs.size + 1 from Heap.size_push ..]
  refine wpAny_bind ?_
  rw [List.forIn_nil]
  exact wpAny_pure (wpAny_pure hQ)

section
variable {prog : Program} {w : World} {A : Around} {R : Result → Shared → Prop} {s : Shared}
theorem compLoopG {elt target iter : Expr} {ifs : List Expr} {scope : Scope} {pos : Pos} {it acc : Value} {env : Env} (I : Nat → Shared → Prop)
    (turn : ∀ n s, I n s → wpAny (model prog w) A (pyNext it) (fun r s₁ => match r with
      | none => R (.ok .next) s₁
      | some v => wpAny (model prog w) A (letOwnedTupleGo target it v) (fun _ s₁' => wpAny (model prog w) A (assign target env v) (fun _ s₂ =>
          wpAny (model prog w) A (forIn ifs true fun c r => if r = true then do let ok ← isTrue c env (eval c env); pure (ForInStep.yield ok) else pure (ForInStep.yield r)) (fun ok s₂' =>
            if ok = true then wpAny (model prog w) A (eval elt env) (fun x s₃ =>
              wpAny (model prog w) A (call (.builtin "list.append") [acc, x]) (fun _ s₄ => ∃ m, m < n ∧ I m s₄) (fun _ _ => False) s₃) (fun _ _ => False) s₂'
            else ∃ m, m < n ∧ I m s₂') (fun _ _ => False) s₂) (fun _ _ => False) s₁') (fun _ _ => False) s₁) (fun _ _ => False) s)
    (n : Nat) (h : I n s) : codeAny (model prog w) A (.compLoop (.ListComp elt [⟨target, iter, ifs, 0⟩] scope pos) 0 it acc env) R s := by
  refine codeAny_loop rfl I (fun n s hI => ?_) n h
  show wpAny _ _ ((compTurn (.ListComp elt [⟨target, iter, ifs, 0⟩] scope pos) 0 it acc env).onRaise (fun x => do noteFrame x env; theTreesLotGoes x)) _ _ s
  refine wpAny_noted ?_
  rw [compTurn_list]
  refine wpAny_bind (wpAny_standAt (wpAny_bind (wpAny_mono (turn n s hI) (fun r s₁ h₁ => ?_) fun _ _ h' => h'.elim)))
  cases r with
  | none => exact wpAny_pure h₁
  | some v =>
    refine wpAny_bind (wpAny_mono h₁ (fun _ s₁' h₁' => ?_) fun _ _ h' => h'.elim)
    refine wpAny_bind (wpAny_mono h₁' (fun _ s₂ h₂ => wpAny_bind (wpAny_mono h₂ (fun ok s₃ h₃ => ?_) fun _ _ h' => h'.elim)) fun _ _ h' => h'.elim)
    cases ok with
    | false => exact wpAny_pure ⟨rfl, h₃⟩
    | true =>
      exact wpAny_bind (wpAny_bind (wpAny_mono h₃ (fun x s₄ h₄ => wpAny_bind (wpAny_mono h₄ (fun _ s₅ h₅ => wpAny_pure (wpAny_pure ⟨rfl, h₅⟩)) fun _ _ h' => h'.elim)) fun _ _ h' => h'.elim))
/-- the tests of a comprehension -/
def PIf (X : Cx) (ifs : List Expr) (t : TT) : Prop := ∀ (pins : List (Addr × Obj)) (s : Shared) (σ : St) (H : Hp) (Q : Bool → Hp → Prop), Inv X pins σ H s → t σ H Q →
  wpAny (model X.prog X.w) X.A (forIn ifs true fun c r => if r = true then do let ok ← isTrue c X.env (eval c X.env); pure (ForInStep.yield ok) else pure (ForInStep.yield r)) (TP X pins σ Q) X.xe s
def tAll : TT := fun _ H Q => Q true H
theorem pif_nil {X : Cx} : PIf X [] tAll := fun pins s σ H Q I h => wpAny_tests_nil ⟨H, I, h⟩
theorem pif_one {X : Cx} {c : Expr} {t : TT} (h : PT X c t) : PIf X [c] t := fun pins s σ H Q I hw => wpAny_tests_one (h pins s σ H Q I hw)
end

/-- what must be seen of a comprehension's scope; cap: the names of the frame around that it reads, with their slots; x.. its own names -/
structure CompOk (X : Cx) (scope : Scope) (own : List Str) (cap : List (Str × Nat)) : Prop where
  kind : scope.kind = .function
  nd : (scope.names.map (·.1)).Nodup
  free : ∀ y ∈ scope.names, y.2 = .free → X.env.kindOf y.1 = some .cell ∨ X.env.kindOf y.1 = some .free
  capN : ∀ p ∈ cap, X.N[p.2]? = some p.1 ∧ (p.1, NameKind.free) ∈ scope.names
/-- the values of the names around -/
def capV (σ : St) (cap : List (Str × Nat)) : St := cap.map fun p => (σ[p.2]?).join

/-- the context of a comprehension's block -/
def cxComp (X : Cx) (scope : Scope) (cs : List (Str × Addr)) (C : Addr) (N : List Str) (s0 : Shared) (H0 : Hp) (fp : List Addr) : Cx where
  prog := X.prog
  w := X.w
  K := X.K
  mg := X.mg
  base := X.base
  A := X.A
  N := N
  s₀ := s0
  H₀ := H0
  env := compEnvC scope cs C X.env
  outer := X.stack
  stack := X.stack
  ex := fp
  fn := fun y => decide (scope.names.lookup y = some .cell)
  calm := X.calm
  pn := X.pn
  xe := fun _ _ => False
end L2
set_option Elab.async false
set_option linter.all false
set_option maxRecDepth 100000
set_option maxHeartbeats 4000000
namespace L2
open PySem PySem.Spec PyProof.Rows
section
variable {X : Cx} {pins : List (Addr × Obj)} {σ : St} {H : Hp} {s : Shared}

theorem vis_of_cell {env : Env} {y : Str} (h : env.kindOf y = some .cell ∨ env.kindOf y = some .free) : Vis env.scope y := .inr h

theorem inv_comp {scope : Scope} {own : List Str} {cap : List (Str × Nat)} {cl : List (Str × Addr)} {fp : List Addr} (I : Inv X pins σ H s) (ok : CompOk X scope own cap)
    (hcl : ∀ y c, cl.lookup y = some c → X.env.cells.lookup y = some c ∧ (y, NameKind.free) ∈ scope.names) (hcl2 : ∀ y, (y, NameKind.free) ∈ scope.names → ∃ c, cl.lookup y = some c)
    (f2 : ∀ b ∈ fp, FpOk X pins H b) (fo : ∀ b ∈ fp, b < s.heap.objs.size) :
    Inv (cxComp X scope (cellsFrom (s.heap.objs.size + 1) scope.names cl) s.heap.objs.size (own ++ cap.map (·.1)) s H fp) pins (List.replicate own.length none ++ capV σ cap) H
      { s with heap := pushCells (s.heap.push { cls := .type "dict", data := .dict #[] }) scope.names } := by
  have szC : (s.heap.push { cls := .type "dict", data := .dict #[] }).objs.size = s.heap.objs.size + 1 := Heap.size_push ..
  have kp : ∀ b o, s.heap.get? b = some o → (pushCells (s.heap.push { cls := .type "dict", data := .dict #[] }) scope.names).get? b = some o := fun b o e => pushCells_keeps _ _ b o (Heap.get?_push_of_some _ e)
  have sp : ∀ y c, (cellsFrom (s.heap.objs.size + 1) scope.names cl).lookup y = some c → (X.env.cells.lookup y = some c ∧ (y, NameKind.free) ∈ scope.names) ∨
      (s.heap.objs.size + 1 ≤ c ∧ (y, NameKind.cell) ∈ scope.names ∧ (pushCells (s.heap.push { cls := .type "dict", data := .dict #[] }) scope.names).IsCell c none) := fun y c e => by
    rw [← szC] at e
    rcases cells_split _ _ _ y c e with q | q
    · exact .inl (hcl y c q)
    · rw [szC] at q
      exact .inr q
  have clt : ∀ y c, X.env.cells.lookup y = some c → c < s.heap.objs.size := fun y c e => by
    obtain ⟨v, o, ho, _⟩ := I.cell y c e
    exact Heap.lt_size ho
  have kfree : ∀ y, (y, NameKind.free) ∈ scope.names → scope.names.lookup y = some .free := fun y h => lookup_of_nd ok.nd h
  have kcell : ∀ y, (y, NameKind.cell) ∈ scope.names → scope.names.lookup y = some .cell := fun y h => lookup_of_nd ok.nd h
  have okY : (cxComp X scope (cellsFrom (s.heap.objs.size + 1) scope.names cl) s.heap.objs.size (own ++ cap.map (·.1)) s H fp).Ok := {
    mod := I.ok.mod
    kind := ok.kind
    glob := I.ok.glob
    blt := I.ok.blt
    above := Nat.le_refl _
    inj := fun x y c e1 e2 => cells_inj scope.names (s.heap.objs.size + 1) cl (fun y z c q1 q2 => I.ok.inj y z c (hcl y c q1).1 (hcl z c q2).1) (fun y c q => Nat.lt_succ_of_lt (clt y c (hcl y c q).1)) x y c e1 e2
    has := fun y hy => by
      have hy' : (relabel scope X.env).names.lookup y = some .cell ∨ (relabel scope X.env).names.lookup y = some .free := hy
      rw [lookup_relabel] at hy'
      refine Option.isSome_iff_exists.mp (PySem.W.cellsFrom_some scope.names _ _ ?_)
      cases q : scope.names.lookup y with
      | none =>
        rw [q] at hy'
        rcases hy' with z | z <;> cases z
      | some k =>
        by_cases hk : k = .cell
        · subst hk
          exact .inl rfl
        · by_cases hf : k = .free
          · subst hf
            obtain ⟨c, hc⟩ := hcl2 y (lookup_mem q)
            exact .inr (by rw [hc]; rfl)
          · rw [q] at hy'
            exfalso
            have hb : (k == NameKind.free) = false := by simpa using hf
            rcases hy' with z | z
            · simp [relK, hb] at z
              exact hk z
            · simp [relK, hb] at z
              exact hf z
    cab := fun y c hf e => by
      have hf' : scope.names.lookup y = some .cell := of_decide_eq_true hf
      rcases sp y c e with ⟨_, q⟩ | ⟨q, _⟩
      · rw [kfree y q] at hf'
        cases hf'
      · exact Nat.le_of_succ_le q
    hd := I.ok.hd
    frames := I.ok.frames
    stk := .inl rfl
    exf := fun b hb => ⟨Nat.ne_of_lt (fo b hb), fun x c e z => by
      subst z
      rcases sp x c e with ⟨q, _⟩ | ⟨q, _⟩
      · exact (f2 c hb).2.2.2.2.1 x c q rfl
      · exact absurd (Nat.lt_of_lt_of_le (fo c hb) (Nat.le_of_succ_le q)) (Nat.lt_irrefl _)⟩
    bs := I.bs
    bsz := Nat.le_trans I.ok.bsz I.sz
    noex := fun b o e hb => by
      rcases (f2 b hb).2.2.2.1 with q | q
      · exact I.ok.noex b o e q
      · exact absurd (Nat.lt_of_lt_of_le (Heap.lt_size e) (Nat.le_trans I.ok.bsz q)) (Nat.lt_irrefl _)
    exfs := fun b hb z => by
      rcases List.mem_cons.mp (I.stkSub b z) with q | q
      · exact (f2 b hb).2.1 q
      · exact (f2 b hb).2.2.1 q
    funs := I.stack
    frf := I.stkFree }
  obtain ⟨m, hns, hl⟩ := id I.loc
  refine ⟨okY, rfl, I.bare, Un.kept kp, ⟨fun _ => none, (Heap.Ns.new s.heap (.type "dict")).keeps (pushCells_keeps _ _), fun i x v e1 e2 e3 => ?_⟩, fun y c e => ?_, I.fresh, fun y c e => ?_, fun p hp => ?_, I.hok.kept kp, ?_⟩
  · -- a name around
    have e1 : (own ++ cap.map (·.1))[i]? = some x := e1
    by_cases hi : i < own.length
    · rw [List.getElem?_append_left (by simpa using hi)] at e2
      simp [hi] at e2
    · have hi' : own.length ≤ i := Nat.not_lt.mp hi
      rw [List.getElem?_append_right (by simpa using hi')] at e2
      rw [List.getElem?_append_right hi'] at e1
      rw [List.length_replicate] at e2
      unfold capV at e2
      rw [List.getElem?_map] at e1 e2
      cases q : cap[i - own.length]? with
      | none =>
        rw [q] at e1
        cases e1
      | some p =>
        rw [q] at e1 e2
        obtain ⟨p1, p2⟩ := p
        have e1 : p1 = x := Option.some.inj e1
        subst e1
        have e2 : (σ[p2]?).join = some v := Option.some.inj e2
        have e2 : σ[p2]? = some (some v) := by
          cases z : σ[p2]? with
          | none => rw [z] at e2; cases e2
          | some z' => rw [z] at e2; exact congrArg some e2
        obtain ⟨hN, hfr⟩ := ok.capN (p1, p2) (List.mem_of_getElem? q)
        have hk := ok.free (p1, .free) hfr rfl
        obtain ⟨u, r, L⟩ := hl p2 p1 v hN e2 (vis_of_cell hk)
        refine ⟨u, r, ?_⟩
        rcases L with ⟨k, _⟩ | ⟨_, c, hc, hcell⟩
        · have hk : X.env.kindOf p1 = some .cell ∨ X.env.kindOf p1 = some .free := hk
          rw [k] at hk
          rcases hk with z | z <;> cases z
        · refine .inr ⟨?_, c, ?_, hcell.keeps kp⟩
          · show (relabel scope X.env).names.lookup p1 = some .cell ∨ (relabel scope X.env).names.lookup p1 = some .free
            rw [lookup_relabel, kfree _ hfr, Option.map_some]
            unfold relK
            split
            · exact .inl rfl
            · exact .inr rfl
          · obtain ⟨c', hc'⟩ := hcl2 p1 hfr
            obtain ⟨c2, hc2⟩ := Option.isSome_iff_exists.mp (PySem.W.cellsFrom_some scope.names (s.heap.objs.size + 1) cl (.inr (by rw [hc']; rfl) : scope.names.lookup p1 = some .cell ∨ (cl.lookup p1).isSome = true))
            have hc2' : (cellsFrom (s.heap.objs.size + 1) scope.names cl).lookup p1 = some c2 := hc2
            rcases sp p1 c2 hc2' with ⟨q1, _⟩ | ⟨_, q2, _⟩
            · rw [hc] at q1
              cases q1
              exact hc2'
            · have := kcell p1 q2
              rw [kfree p1 hfr] at this
              cases this
  · rcases sp y c e with ⟨q, _⟩ | ⟨_, _, q⟩
    · obtain ⟨v, hv⟩ := I.cell y c q
      exact ⟨v, hv.keeps kp⟩
    · exact ⟨none, q⟩
  · rcases sp y c e with ⟨q, _⟩ | ⟨q, _⟩
    · exact I.freeC y c q
    · exact I.hok.fresh (Nat.le_of_succ_le q)
  · obtain ⟨a1, a2, a3, a4, a5⟩ := I.pin p hp
    refine ⟨kp _ _ a1, a2, Nat.ne_of_lt (Heap.lt_size a1), fun z => ?_, a5⟩
    rcases List.mem_cons.mp (I.stkSub p.1 z) with q | q
    · exact a3 q
    · exact a4 q
  · show (List.replicate own.length none ++ capV σ cap).length = (own ++ cap.map (·.1)).length
    simp [capV]

/-- behind the block -/
theorem inv_compEnd {scope : Scope} {cs : List (Str × Addr)} {C : Addr} {N : List Str} {fp : List Addr} {τ : St} {H' : Hp} {s' : Shared} {h' : Heap} (I : Inv X pins σ H s) (f2 : ∀ b ∈ fp, FpOk X pins H b)
    (hC : s.heap.objs.size ≤ C) (J : Inv (cxComp X scope cs C N s H fp) pins τ H' s') (hs : Heap.SameBut C s'.heap h') : Inv X pins σ H' { s' with heap := h' } := by
  have u : Un (frs X.stack) fp H H' s.heap s'.heap := J.base
  have ne : ∀ b o, s.heap.get? b = some o → b ≠ C := fun b o e => Nat.ne_of_lt (Nat.lt_of_lt_of_le (Heap.lt_size e) hC)
  refine I.call' (s' := { s' with heap := h' }) (ch := fp) J.os ⟨fun b o e n hf hx => ?_, fun b o e n hf hx => ?_, u.free, fun b o e hx => ?_, u.tups, u.frzs, u.tbls⟩ (fun a o e => ?_) J.bare fun b hb => ⟨(f2 b hb).2.2.2.1, (f2 b hb).2.1, (f2 b hb).2.2.2.2.1, (f2 b hb).2.2.2.2.2⟩
  · exact (hs.2 b (ne b o e)).trans (u.keep b o e n hf hx)
  · obtain ⟨sl, q⟩ := u.slot b o e n hf hx
    exact ⟨sl, (hs.2 b (ne b o e)).trans q⟩
  · obtain ⟨o', q⟩ := u.there b o e hx
    exact ⟨o', (hs.2 b (ne b o e)).trans q⟩
  · refine (J.hok a o e).stay (fun b v hb q => (hs.2 b ?_).trans q) (fun _ q => q) fun _ _ q => q
    rintro rfl
    have fr : H' b = none := J.free
    rcases hb with rfl | hb
    · rw [fr] at e
      cases e
    · rw [fr] at hb
      cases hb
end

/-- [e for x in ..]: W: the turn, a measure, the block's names, the items so far, the heap -/
def tComp (wi : TI) (g : TG) (tt : TT) (te : TE) (k : Nat) (cap : List (Str × Nat)) : TE := fun σ H Q => wi σ H fun J H1 => ∀ acc, H1 acc = none → ∃ W : Nat → Nat → St → List V → Hp → Prop,
  (∃ m, W 0 m (List.replicate k none ++ capV σ cap) [] (upd H1 acc (.lst []))) ∧
  ∀ i m τ ys H, W i m τ ys H → (J.stop i H ∧ Q (.ref acc) H) ∨ (J.go i H ∧ ∀ x H', J.yld i H x H' → g x τ H' fun τ2 H2 => tt τ2 H2 fun b H2' => if b = true then te τ2 H2' fun v H3 =>
    H3 acc = some (.lst ys) ∧ ys.length < sizeLine ∧ ∃ m', m' < m ∧ W (i + 1) m' τ2 (ys ++ [v]) (upd H3 acc (.lst (ys ++ [v]))) else ∃ m', m' < m ∧ W (i + 1) m' τ2 ys H2')

/-- what the block's parts are in every such block -/
structure BlockOk (X : Cx) (scope : Scope) (own : List Str) (cap : List (Str × Nat)) (tg : Expr) (ifs : List Expr) (elt : Expr) (g : TG) (tt : TT) (te : TE) : Prop where
  tgt : ∀ cs C s0 H0 fp, PG (cxComp X scope cs C (own ++ cap.map (·.1)) s0 H0 fp) tg g
  tst : ∀ cs C s0 H0 fp, PIf (cxComp X scope cs C (own ++ cap.map (·.1)) s0 H0 fp) ifs tt
  elm : ∀ cs C s0 H0 fp, PE (cxComp X scope cs C (own ++ cap.map (·.1)) s0 H0 fp) elt te

section
variable {X : Cx} {tg elt iter : Expr} {ifs : List Expr} {tt : TT} {scope : Scope} {pos : Pos} {own : List Str} {cap : List (Str × Nat)} {wi : TI} {g : TG} {te : TE}
/-- the block runs: RR is what is wanted at its end -/
theorem comp_block {pins : List (Addr × Obj)} {σ : St} {H2 : Hp} {s2 : Shared} {Q : VK} {it : Addr} {fp : List Addr} {tn : Nat → Heap → Prop} {J : It} {cl : List (Str × Addr)} {RR : Value → Addr → Result → Shared → Prop}
    (ok : CompOk X scope own cap) (hc : X.calm = true) (B : BlockOk X scope own cap tg ifs elt g tt te)
    (hcl : ∀ y c, cl.lookup y = some c → X.env.cells.lookup y = some c ∧ (y, NameKind.free) ∈ scope.names) (hcl2 : ∀ y, (y, NameKind.free) ∈ scope.names → ∃ c, cl.lookup y = some c)
    (I2 : Inv X pins σ H2 s2) (T : Turn X.prog X.w X.K tg J fp it tn) (st2 : tn 0 s2.heap) (f2 : ∀ b ∈ fp, FpOk X pins H2 b)
    (h : ∀ acc, H2 acc = none → ∃ W : Nat → Nat → St → List V → Hp → Prop, (∃ m, W 0 m (List.replicate own.length none ++ capV σ cap) [] (upd H2 acc (.lst []))) ∧
      ∀ i m τ ys H, W i m τ ys H → (J.stop i H ∧ Q (.ref acc) H) ∨ (J.go i H ∧ ∀ x H', J.yld i H x H' → g x τ H' fun τ2 H2 => tt τ2 H2 fun b H2' => if b = true then te τ2 H2' fun v H3 =>
        H3 acc = some (.lst ys) ∧ ys.length < sizeLine ∧ ∃ m', m' < m ∧ W (i + 1) m' τ2 (ys ++ [v]) (upd H3 acc (.lst (ys ++ [v]))) else ∃ m', m' < m ∧ W (i + 1) m' τ2 ys H2'))
    (hR : ∀ D C H' s', (∀ h', Heap.SameBut C s'.heap h' → Inv X pins σ H' { s' with heap := h' }) → (∃ m, s'.heap.Ns C m) → H' C = none → X.s₀.heap.objs.size ≤ C → C ≠ X.env.locals → (∀ x c, X.env.cells.lookup x = some c → c ≠ C) → (∀ p ∈ X.pn ++ pins, p.1 ≠ C) →
      Q (.ref D) H' → RR (.ref D) C (.ok .next) s') {E : Value → Shared → Prop} :
    wpAny (model X.prog X.w) X.A (newList []) (fun acc s₃ => wpAny (model X.prog X.w) X.A (newFunctionEnv scope X.env.globals cl [] X.env.qual none .none (some X.env)) (fun cenv s₄ =>
      codeAny (model X.prog X.w) X.A (.compStart (.ListComp elt [⟨tg, iter, ifs, 0⟩] scope pos) 0 (.ref it) acc { cenv with scope := relabel scope X.env }) (RR acc cenv.locals) s₄) E s₃) E s2 := by
  refine wpAny_newObj_type ?_
  have fresh : H2 s2.heap.objs.size = none := I2.fresh
  have I3 : Inv X pins σ (upd H2 s2.heap.objs.size (.lst [])) { s2 with heap := s2.heap.push { cls := .type "list", data := .seq ([] : List Value).toArray } } := I2.lnew (its := []) (ys := []) (t' := s2.toks) .nil (Nat.zero_le _)
  have ob2 := T.obj _ _ st2
  have lt2 : ∀ b ∈ fp, b < s2.heap.objs.size := fun b hb => let ⟨o, e, _⟩ := ob2 b hb; Heap.lt_size e
  have f3 : ∀ b ∈ fp, FpOk X pins (upd H2 s2.heap.objs.size (.lst [])) b := fun b hb => ⟨by rw [upd_ne (Nat.ne_of_lt (lt2 b hb))]; exact (f2 b hb).1, (f2 b hb).2⟩
  have kp3 : ∀ b o, s2.heap.get? b = some o → (s2.heap.push { cls := .type "list", data := .seq ([] : List Value).toArray }).get? b = some o := fun b o e => Heap.get?_push_of_some _ e
  generalize hs3 : ({ s2 with heap := s2.heap.push { cls := .type "list", data := .seq ([] : List Value).toArray } } : Shared) = s3 at I3 ⊢
  have k3 : ∀ b o, s2.heap.get? b = some o → s3.heap.get? b = some o := fun b o e => by rw [← hs3]; exact kp3 b o e
  refine newCompEnv ?_
  have lt3 : ∀ b ∈ fp, b < s3.heap.objs.size := fun b hb => let ⟨o, e, _⟩ := ob2 b hb; Heap.lt_size (k3 b o e)
  have I4 := inv_comp (own := own) (cap := cap) (fp := fp) I3 ok hcl hcl2 f3 lt3
  have st4 : tn 0 (pushCells (s3.heap.push { cls := .type "dict", data := .dict #[] }) scope.names) := T.keep _ _ _ st2 fun b _ o e => pushCells_keeps _ _ b o (Heap.get?_push_of_some _ (k3 b o e))
  obtain ⟨W, ⟨m0, w0⟩, turn⟩ := h s2.heap.objs.size fresh
  let Y := cxComp X scope (cellsFrom (s3.heap.objs.size + 1) scope.names cl) s3.heap.objs.size (own ++ cap.map (·.1)) s3 (upd H2 s2.heap.objs.size (.lst [])) fp
  have I4 : Inv Y pins (List.replicate own.length none ++ capV σ cap) (upd H2 s2.heap.objs.size (.lst [])) { s3 with heap := pushCells (s3.heap.push { cls := .type "dict", data := .dict #[] }) scope.names } := I4
  have f4 : ∀ {H' : Hp}, (∀ b ∈ fp, H' b = none) → ∀ b ∈ fp, FpOk Y pins H' b := fun {H'} hn b hb => by
    refine ⟨hn b hb, Nat.ne_of_lt (lt3 b hb), fun z => ?_, .inl hb, (I4.ok.exf b hb).2, (f2 b hb).2.2.2.2.2⟩
    exact I4.ok.exfs b hb z
  have loop : codeAny (model X.prog X.w) X.A (.compLoop (.ListComp elt [⟨tg, iter, ifs, 0⟩] scope pos) 0 (.ref it) (.ref s2.heap.objs.size) Y.env) (RR (.ref s2.heap.objs.size) s3.heap.objs.size)
      { s3 with heap := pushCells (s3.heap.push { cls := .type "dict", data := .dict #[] }) scope.names } := by
    refine compLoopG (fun n s' => ∃ i τ ys H', Inv Y pins τ H' s' ∧ tn i s'.heap ∧ (∀ b ∈ fp, H' b = none) ∧ W i n τ ys H') ?_ m0 ⟨0, _, [], _, I4, st4, fun b hb => (f3 b hb).1, w0⟩
    rintro n s5 ⟨i, τ, ys, H5, I5, st5, fr5, w5⟩
    rcases turn i n τ ys H5 w5 with ⟨stop, q⟩ | ⟨go, step⟩
    · refine thn (T.done Y rfl rfl rfl hc i pins s5 τ H5 (fun _ _ => False) I5 (f4 fr5) st5 stop) fun r s6 ⟨hr, I6⟩ => ?_
      subst hr
      obtain ⟨m, hns, _⟩ := I6.loc
      have hC : X.s₀.heap.objs.size ≤ s3.heap.objs.size := I3.sz
      refine hR _ _ H5 s6 (fun h' hs' => inv_compEnd I3 f3 (Nat.le_refl _) I6 hs') ⟨m, hns⟩ I6.free hC (fun z => ?_) (fun x c e z => ?_) (fun p hp z => ?_) q
      · exact Nat.lt_irrefl _ (z ▸ I3.lt)
      · obtain ⟨v, o, ho, _⟩ := I3.cell x c e
        rw [z] at ho
        exact Nat.lt_irrefl _ (Heap.lt_size ho)
      · have e := (I3.pin p hp).1
        rw [z] at e
        exact Nat.lt_irrefl _ (Heap.lt_size e)
    · refine thn (T.item Y rfl rfl rfl hc i pins s5 τ H5 (fun _ _ => False) I5 (f4 fr5) st5 go) fun r s6 ⟨u, hr, h6⟩ => ?_
      subst hr
      refine thn h6 fun _ s7 ⟨x, H7, I7, r7, y7, st7, fr7⟩ => ?_
      have I7' := I7.pinned (f4 fr7) (T.obj _ _ st7)
      refine thn (B.tgt _ _ _ _ _ _ s7 τ H7 x u _ I7' r7 (step x H7 y7)) fun _ s8 ⟨τ8, H8, I8, q8⟩ => ?_
      refine thn (B.tst _ _ _ _ _ _ s8 τ8 H8 _ I8 q8) fun ok s8' ⟨H8', I8', q8'⟩ => ?_
      have again : ∀ {H' : Hp} {s' : Shared}, Inv Y (pins ++ pinsAt fp s7.heap) τ8 H' s' → Inv Y pins τ8 H' s' ∧ tn (i + 1) s'.heap ∧ ∀ b ∈ fp, H' b = none := fun {H' s'} I' => by
        refine ⟨I'.unpinned, T.keep _ _ _ st7 fun b hb o e => (I'.pin (b, o) (List.mem_append_right _ (List.mem_append_right _ (mem_pinsAt hb e)))).1, fun b hb => ?_⟩
        obtain ⟨o, e, d⟩ := T.obj _ _ st7 b hb
        exact (I'.pin (b, o) (List.mem_append_right _ (List.mem_append_right _ (mem_pinsAt hb e)))).2.1
      cases ok with
      | false =>
        rw [if_neg Bool.false_ne_true] at q8' ⊢
        obtain ⟨m', hm, w9⟩ := q8'
        obtain ⟨z1, z2, z3⟩ := again I8'
        exact ⟨m', hm, i + 1, τ8, ys, H8', z1, z2, z3, w9⟩
      | true =>
        rw [if_pos rfl] at q8' ⊢
        refine thn (B.elm _ _ _ _ _ _ s8' τ8 H8' _ I8' q8') fun v s9 ⟨y, H9, I9, r9, hacc, hlen, m', hm, w9⟩ => ?_
        refine thn (mt_append _ s9 τ8 H9 (.ref s2.heap.objs.size) [y] (.ref s2.heap.objs.size) [v] (fun z H' => z = .non ∧ H' = upd H9 s2.heap.objs.size (.lst (ys ++ [y]))) I9 rfl (.cons r9 .nil) ⟨_, ys, y, rfl, rfl, hacc, hlen, rfl, rfl⟩) fun _ s10 ⟨z, H10, I10, _, _, e10⟩ => ?_
        subst e10
        obtain ⟨z1, z2, z3⟩ := again I10
        exact ⟨m', hm, i + 1, τ8, ys ++ [y], _, z1, z2, z3, w9⟩
  exact codeAny_compStart_list loop (T.self X.A 0 _ _ _ st4 loop)

theorem comp_closure {pins : List (Addr × Obj)} {σ : St} {H : Hp} {s : Shared} (I : Inv X pins σ H s) (ok : CompOk X scope own cap) : ∃ cl, closureFor scope X.env = pure cl ∧ (∀ y c, cl.lookup y = some c → X.env.cells.lookup y = some c ∧ (y, NameKind.free) ∈ scope.names) ∧ (∀ y, (y, NameKind.free) ∈ scope.names → ∃ c, cl.lookup y = some c) :=
  closure_ok fun y hy hk => I.ok.has y.1 (ok.free y hy hk)
theorem comp_names (ok : CompOk X scope own cap) : ∀ x ∈ scope.names, x.2 = .local → scope.names.lookup x.1 = some .local := fun x hx hl => lookup_of_nd ok.nd (by rw [← hl]; exact hx)

/-- a comprehension as an expression -/
theorem pe_comp (ok : CompOk X scope own cap) (hc : X.calm = true) (hi : PI X tg iter wi) (B : BlockOk X scope own cap tg ifs elt g tt te) (hs : ∀ x, foldedSetIterable iter X.env x = pure x := by intro _; rfl) :
    PE X (.ListComp elt [⟨tg, iter, ifs, 0⟩] scope pos) (tComp wi g tt te own.length cap) := by
  intro pins s σ H Q I h
  obtain ⟨cl, hclos, hcl, hcl2⟩ := comp_closure I ok
  rw [eval_ListComp]
  refine wpAny_comprehension_free (use := none) rfl hs hclos ok.kind (comp_names ok) (thn (hi pins s σ H _ I h) fun xv s1 h1 => thn h1 fun itv s2 h2 => ?_)
  obtain ⟨it, fp, tn, J, H2, e, I2, T, st2, f2, hW⟩ := h2
  subst e
  refine comp_block (Q := Q) (RR := fun acc C => compPost (model X.prog X.w) X.A X.xe none (EP X pins σ Q) acc C) ok hc B hcl hcl2 I2 T st2 f2 hW ?_
  rintro D C H' s' hI ⟨m, hm⟩ _ _ _ _ _ q
  exact ⟨m, hm, fun h' hs' => ⟨.ref D, H', hI h' hs', rfl, q⟩⟩

/-- y = [..] -/
theorem ps_setComp {i : Nat} {y : Str} {py spos : Pos} (hN : X.N.Nodup) (hi' : X.N[i]? = some y) (hy : Loc X.env.scope y) (ok : CompOk X scope own cap) (hc : X.calm = true) (hi : PI X tg iter wi) (B : BlockOk X scope own cap tg ifs elt g tt te)
    (hsw : swapsWith (.ListComp elt [⟨tg, iter, ifs, 0⟩] scope pos) (some (.Name y py)) spos.line X.env = pure true := by rfl)
    (hf : X.fn y = true ∨ X.env.scope.names.lookup y = some .local := by first | exact .inl rfl | exact .inr rfl) (hs : ∀ x, foldedSetIterable iter X.env x = pure x := by intro _; rfl) :
    PS X (.Assign [.Name y py] (.ListComp elt [⟨tg, iter, ifs, 0⟩] scope pos) spos) (tAsg (tComp wi g tt te own.length cap) (gName i)) := by
  intro pins s σ H D I h
  obtain ⟨cl, hclos, hcl, hcl2⟩ := comp_closure I ok
  rw [exec_Assign_Name_used _ _ _ _ hsw]
  refine wpAny_bind (wpAny_standAt (wpAny_bind ?_))
  show wpAny _ X.A (do let _ ← comprehension (.ListComp elt [⟨tg, iter, ifs, 0⟩] scope pos) scope X.env _ (newList []) false (eval iter X.env) (some (assign (.Name y py) X.env))) _ _ s
  refine wpAny_bind (wpAny_mono (wpAny_comprehension_free (use := some (assign (.Name y py) X.env)) (Q := fun _ s' => SP X pins D .next s') rfl hs hclos ok.kind (comp_names ok) (thn (hi pins s σ H _ I h) fun xv s1 h1 => thn h1 fun itv s2 h2 => ?_)) (fun _ s' hq => wpAny_pure (wpAny_pure hq)) fun _ _ e => e)
  obtain ⟨it, fp, tn, J, H2, e, I2, T, st2, f2, hW⟩ := h2
  subst e
  refine comp_block (Q := fun v H' => gName i v σ H' D.nx) (RR := fun acc C => compPost (model X.prog X.w) X.A X.xe (some (assign (.Name y py) X.env)) (fun _ s' => SP X pins D .next s') acc C) ok hc B hcl hcl2 I2 T st2 f2 hW ?_
  rintro D' C H' s' hI ⟨m, hm⟩ hHC hC1 hC2 hC3 hC4 q
  have I' : Inv X pins σ H' s' := hI s'.heap (.refl ..)
  show wpAny _ X.A (assign (.Name y py) X.env (.ref D')) _ _ s'
  refine wpAny_assign_Name (store_ok2 I' hN hi' hy (show RelV (.ref D') (.ref D') from rfl) (fun s'' I'' ⟨a, hsa, ha⟩ => ?_) hf)
  have ne : C ≠ a := by
    rcases ha with rfl | ha
    · exact hC2
    · exact fun z => hC3 y a ha z.symm
  refine ⟨m, hm.sameBut hsa ne, fun h' hs' => ?_⟩
  refine ⟨_, H', I''.turned (t' := s''.toks) (h' := h') (it := C) (fun b o hb e => (hs'.2 b hb).trans e) hHC hC2 (.inr hC1) (fun x c e z => hC3 x c e z) hC4, q⟩
end
end L2
set_option Elab.async false
set_option linter.all false
set_option maxRecDepth 100000
set_option maxHeartbeats 4000000
/-! ### enumerate over a list or a tuple, walked by a tuple of names -/
namespace L2
open PySem PySem.Spec PyProof.Rows
section
variable {prog : Program} {w : World} {A : Around} {E : Value → Shared → Prop} {s : Shared}

theorem nextOf_tup_item {it t : Addr} {i : Nat} {items : Array Value} {x : Value} {Q : Value → Shared → Prop} (hit : s.heap.IsTupleIter it t i) (ht : s.heap.IsTuple t items) (hx : items[i]? = some x)
    (hQ : ∀ h', h'.IsTupleIter it t (i + 1) → Heap.SameBut it s.heap h' → Q x { s with heap := h' }) : wpAny (model prog w) A (Builtin.SmallTypes.nextOf (.ref it)) Q E s := by
  obtain ⟨o, ho, hc, hd⟩ := id hit
  obtain ⟨ot, hot, _, nt, hdt⟩ := ht
  unfold Builtin.SmallTypes.nextOf
  refine wpAny_bind (wpAny_callSpecial?_slot (name := Str.ofString "__next__") hit.typeIs F.slot_tuple_iterator_next (wpAny_call_entry F.slot_tuple_iterator_next hit.typeIs F.entry_tuple_iterator_next ?_ (F.args_tuple_iterator_next_1 _)))
  show wpAny _ _ (field (.ref it) 0 >>= _) _ _ s
  refine wpAny_bind (wpAny_field ho hd (x := .ref t) rfl ?_)
  show wpAny _ _ (if (Value.ref t == Value.none) = true then _ else _) _ _ s
  rw [if_neg (fun z : (Value.ref t == Value.none) = true => Bool.false_ne_true z)]
  show wpAny _ _ (field (.ref it) 1 >>= _) _ _ s
  refine wpAny_bind (wpAny_field ho hd (x := .int i 0) rfl ?_)
  show wpAny _ _ (seqItems? (.ref t) >>= _) _ _ s
  refine wpAny_bind (wpAny_seqItems hot hdt ?_)
  simp only [Int.toNat_natCast, hx]
  refine wpAny_bind (wpAny_setField ho hd (by simp) (wpAny_pure ⟨x, rfl, wpAny_pure (hQ _ ⟨_, Heap.get?_update_self _ ho (Obj.isFreed_of_fields (Obj.data_mapFields hd _)), (Obj.cls_mapFields ..).trans hc, ?_⟩ (Heap.SameBut.update ..))⟩))
  rw [Obj.data_mapFields hd]
  simp [rawInt]

theorem nextOf_tup_end {it t : Addr} {i : Nat} {items : Array Value} {Q : Value → Shared → Prop} (hh : A.handled = none) (hit : s.heap.IsTupleIter it t i) (ht : s.heap.IsTuple t items) (hx : items[i]? = none)
    (hE : ∀ h' e, Heap.ExtBut it s.heap h' → (∃ o, h'.get? e = some o ∧ o.cls = .type "StopIteration") → E (.ref e) { s with heap := h' }) : wpAny (model prog w) A (Builtin.SmallTypes.nextOf (.ref it)) Q E s := by
  obtain ⟨o, ho, hc, hd⟩ := id hit
  obtain ⟨ot, hot, _, nt, hdt⟩ := ht
  unfold Builtin.SmallTypes.nextOf
  refine wpAny_bind (wpAny_callSpecial?_slot (name := Str.ofString "__next__") hit.typeIs F.slot_tuple_iterator_next (wpAny_call_entry F.slot_tuple_iterator_next hit.typeIs F.entry_tuple_iterator_next ?_ (F.args_tuple_iterator_next_1 _)))
  show wpAny _ _ (field (.ref it) 0 >>= _) _ _ s
  refine wpAny_bind (wpAny_field ho hd (x := .ref t) rfl ?_)
  show wpAny _ _ (if (Value.ref t == Value.none) = true then _ else _) _ _ s
  rw [if_neg (fun z : (Value.ref t == Value.none) = true => Bool.false_ne_true z)]
  show wpAny _ _ (field (.ref it) 1 >>= _) _ _ s
  refine wpAny_bind (wpAny_field ho hd (x := .int i 0) rfl ?_)
  show wpAny _ _ (seqItems? (.ref t) >>= _) _ _ s
  refine wpAny_bind (wpAny_seqItems hot hdt ?_)
  simp only [Int.toNat_natCast, hx]
  refine wpAny_bind (wpAny_rule (wpAny_bind (wpAny_setField ho hd (by simp) ?_)))
  show wpAny _ _ (newExc (.type "StopIteration") [] >>= _) _ _ _
  refine wpAny_bind ?_
  simp only [newExc, newTuple]
  refine wpAny_bind (wpAny_newObj_type ?_ (by size_fits))
  refine wpAny_bind (m := firstArgMember _ _) (wpAny_of_eq (a := Value.none) (by first | rfl | (simp only [firstArgMember]; rfl)) ?_)
  refine wpAny_newObj_type ?_ (by size_fits)
  simp only [raiseNew]
  refine wpAny_bind (wpAny_handled ?_)
  first | rw [show A.in1.handled = none from hh] | rw [hh]
  exact wpAny_bind (wpAny_pure (wpAny_throw (hE _ _ (((Heap.SameBut.update ..).extBut.push _).push _) ⟨_, Heap.get?_push_size _ rfl, rfl⟩)))

/-- one item more, whatever is walked -/
theorem enum_item {e it : Addr} {i : Nat} {x old : Value} {R : Obj → Prop} {Q : Option Value → Shared → Prop} (he : IsEnum s.heap e it i old) (hne : e ≠ it)
    (hn : ∀ (A' : Around) (E' Q' : Value → Shared → Prop), (∀ h', (∃ o, h'.get? it = some o ∧ R o) → Heap.SameBut it s.heap h' → Q' x { s with heap := h' }) → wpAny (model prog w) A' (Builtin.SmallTypes.nextOf (.ref it)) Q' E' s)
    (hQ : ∀ h', IsEnumOut h' e it ((i : Int) + 1) x s.heap.objs.size → (∃ o, h'.get? it = some o ∧ R o) → h'.get? s.heap.objs.size = some { cls := .type "tuple", data := .seq #[.int i s.toks, x] } → h'.objs.size = s.heap.objs.size + 1 →
      (∀ b o, b ≠ e → b ≠ it → s.heap.get? b = some o → h'.get? b = some o) → Q (some (.ref s.heap.objs.size)) { s with heap := h', toks := s.toks + 1 }) :
    wpAny (model prog w) A (pyNext (.ref e)) Q E s := by
  have hT : s.TypeIs (.ref e) "enumerate" := ⟨_, he, rfl⟩
  unfold pyNext
  refine wpAny_bind (wpAny_attempt (wpAny_callSpecial?_slot (name := Str.ofString "__next__") hT F.slot_enumerate_next (wpAny_call_entry F.slot_enumerate_next hT F.entry_enumerate_next ?_ (F.args_enumerate_next_1 _))))
  obtain ⟨hp, g, d, tk, os⟩ := s
  show wpAny _ _ (field (.ref e) 2 >>= _) _ _ _
  refine wpAny_bind (wpAny_field he rfl (x := .ref it) rfl (wpAny_bind (hn _ _ _ fun h₁ hit₁ hs₁ => ?_)))
  replace hs₁ : Heap.SameBut it hp h₁ := hs₁
  have he₁ : IsEnum h₁ e it i old := (hs₁.2 e hne).trans he
  show wpAny _ _ (field (.ref e) 3 >>= _) _ _ ⟨h₁, g, d, tk, os⟩
  refine wpAny_bind (wpAny_field he₁ rfl (x := rawInt i) rfl ?_)
  show wpAny _ _ (field (.ref e) 4 >>= _) _ _ ⟨h₁, g, d, tk, os⟩
  refine wpAny_bind (wpAny_field he₁ rfl (x := .none) rfl ?_)
  show wpAny _ _ (mkInt i >>= _) _ _ ⟨h₁, g, d, tk, os⟩
  refine wpAny_bind (wpAny_mkInt ?_)
  show wpAny _ _ (setField (.ref e) 3 (rawInt ((i : Int) + 1)) >>= _) _ _ ⟨h₁, g, d, tk + 1, os⟩
  refine wpAny_bind (wpAny_setField_rec he₁ (by simp) fun h₂ he₂ hs₂ => ?_)
  replace hs₂ : Heap.SameBut e h₁ h₂ := hs₂
  replace he₂ : IsEnum h₂ e it ((i : Int) + 1) old := he₂
  show wpAny _ _ (setField (.ref e) 4 .none >>= _) _ _ ⟨h₂, g, d, tk + 1, os⟩
  refine wpAny_bind (wpAny_setField_rec he₂ (by simp) fun h₃ he₃ hs₃ => ?_)
  replace hs₃ : Heap.SameBut e h₂ h₃ := hs₃
  replace he₃ : IsEnum h₃ e it ((i : Int) + 1) old := he₃
  show wpAny _ _ (newTuple [.int i tk, x] >>= _) _ _ ⟨h₃, g, d, tk + 1, os⟩
  refine wpAny_bind (wpAny_newTuple ?_)
  have sz : h₃.objs.size = hp.objs.size := by rw [hs₃.1, hs₂.1, hs₁.1]
  have hel : e < hp.objs.size := Heap.lt_size he
  obtain ⟨h₄, hh₄⟩ : ∃ h₄, h₄ = h₃.push { cls := .type "tuple", data := .seq #[.int i tk, x] } := ⟨_, rfl⟩
  have he₄ : IsEnum h₄ e it ((i : Int) + 1) old := by rw [hh₄]; exact Heap.get?_push_of_some _ he₃
  have ht₄ : h₄.get? hp.objs.size = some { cls := .type "tuple", data := .seq #[.int i tk, x] } := by rw [hh₄, ← sz]; exact Heap.get?_push_size _ rfl
  have hz₄ : h₄.objs.size = hp.objs.size + 1 := by rw [hh₄, Heap.size_push, sz]
  have hk₄ : ∀ b o, b ≠ e → b ≠ it → hp.get? b = some o → h₄.get? b = some o := fun b o hbe hbi hb => by
    rw [hh₄]
    exact Heap.get?_push_of_some _ (hs₃.extBut b o hbe (hs₂.extBut b o hbe (hs₁.extBut b o hbi hb)))
  have hit₄ : ∃ o, h₄.get? it = some o ∧ R o := by
    obtain ⟨o, ho, r⟩ := hit₁
    rw [hh₄]
    exact ⟨o, Heap.get?_push_of_some _ (hs₃.extBut it o (Ne.symm hne) (hs₂.extBut it o (Ne.symm hne) ho)), r⟩
  rw [← hh₄]
  show wpAny _ _ (Builtin.SmallTypes.ownedTupleIsFree (.ref e) >>= _) _ _ ⟨h₄, g, d, tk + 1, os⟩
  rw [sz]
  clear hh₄ he₃ hs₃ he₂ hs₂ he₁ hs₁ hit₁ sz h₃ h₂ h₁
  refine wpAny_bind ?_
  unfold Builtin.SmallTypes.ownedTupleIsFree
  refine wpAny_bind (wpAny_field he₄ rfl (x := .none) rfl (wpAny_pure ?_))
  simp only [if_true]
  refine wpAny_bind (wpAny_rule (wpAny_bind (wpAny_field he₄ rfl (x := old) rfl (wpAny_bind (wpAny_setField_rec he₄ (by simp) fun h₅ he₅ hs₅ => ?_)))))
  replace hs₅ : Heap.SameBut e h₄ h₅ := hs₅
  replace he₅ : IsEnum h₅ e it ((i : Int) + 1) x := he₅
  show wpAny _ _ (Builtin.SmallTypes.ownedTupleHandOut (.ref e) (.ref hp.objs.size) >>= _) _ _ ⟨h₅, g, d, tk + 1, os⟩
  refine wpAny_bind ?_
  unfold Builtin.SmallTypes.ownedTupleHandOut
  refine wpAny_bind (wpAny_setField_rec he₅ (by simp) fun h₆ he₆ hs₆ => ?_)
  replace hs₆ : Heap.SameBut e h₅ h₆ := hs₆
  replace he₆ : IsEnumOut h₆ e it ((i : Int) + 1) x hp.objs.size := he₆
  refine wpAny_setField_rec he₆ (by simp) fun h₇ he₇ hs₇ => ?_
  replace hs₇ : Heap.SameBut e h₆ h₇ := hs₇
  replace he₇ : IsEnumOut h₇ e it ((i : Int) + 1) x hp.objs.size := he₇
  have up : ∀ b o, b ≠ e → h₄.get? b = some o → h₇.get? b = some o := fun b o hb q => hs₇.extBut b o hb (hs₆.extBut b o hb (hs₅.extBut b o hb q))
  refine wpAny_bind (wpAny_letGo (wpAny_pure ⟨_, rfl, wpAny_pure (hQ h₇ he₇ ?_ (up _ _ (Nat.ne_of_gt hel) ht₄) (by rw [hs₇.1, hs₆.1, hs₅.1, hz₄]) fun b o hbe hbi hb => up b o hbe (hk₄ b o hbe hbi hb))⟩))
  obtain ⟨o, ho, r⟩ := hit₄
  exact ⟨o, up it o (Ne.symm hne) ho, r⟩

theorem enum_end {e it : Addr} {i : Nat} {old : Value} {Q : Option Value → Shared → Prop} (he : IsEnum s.heap e it i old)
    (hn : ∀ (A' : Around) (E' Q' : Value → Shared → Prop), A'.handled = A.handled → (∀ h' x, Heap.ExtBut it s.heap h' → (∃ o, h'.get? x = some o ∧ o.cls = .type "StopIteration") → E' (.ref x) { s with heap := h' }) → wpAny (model prog w) A' (Builtin.SmallTypes.nextOf (.ref it)) Q' E' s)
    (hQ : ∀ h', Heap.ExtBut it s.heap h' → Q none { s with heap := h' }) : wpAny (model prog w) A (pyNext (.ref e)) Q E s := by
  have hT : s.TypeIs (.ref e) "enumerate" := ⟨_, he, rfl⟩
  unfold pyNext
  refine wpAny_bind (wpAny_attempt (wpAny_callSpecial?_slot (name := Str.ofString "__next__") hT F.slot_enumerate_next (wpAny_call_entry F.slot_enumerate_next hT F.entry_enumerate_next ?_ (F.args_enumerate_next_1 _))))
  show wpAny _ _ (field (.ref e) 2 >>= _) _ _ _
  refine wpAny_bind (wpAny_field he rfl (x := .ref it) rfl (wpAny_bind (hn _ _ _ rfl fun h' x he' hx' => ?_)))
  obtain ⟨o, ho, hc⟩ := hx'
  exact wpAny_bind (wpAny_isInstance (T := "StopIteration") (b := true) ⟨o, ho, hc⟩ isSubtype_stop (wpAny_pure (hQ _ he')))

set_option maxHeartbeats 4000000 in
theorem meets_enum_newT (t : Addr) (items : Array Value) (n : Nat) (dct : Option Addr) (sl : Array (Option Value)) :
    Meets (Builtin.«enumerate.__new__» ⟨[.type "enumerate", .ref t], []⟩) (fun _ R s => s.heap.get? t = some { cls := .type "tuple", dict := dct, data := .seq items n, slots := sl } ∧
      R (.ok (.ret (.ref (s.heap.push { cls := .type "tuple_iterator", data := .fields #[.ref t, .int 0 0] }).objs.size)))
        { s with heap := (s.heap.push { cls := .type "tuple_iterator", data := .fields #[.ref t, .int 0 0] }).push { cls := .type "enumerate", data := .fields #[.none, .bool false, .ref s.heap.objs.size, rawInt 0, .none, .none] } }) :=
  .of_wp fun prog w A R s h => by
    obtain ⟨hp, g, d, tk, os⟩ := s
    obtain ⟨ht, h⟩ := h
    have hsub := sub_enumerate
    have hT : Heap.IsTuple (Shared.heap ⟨hp, g, d, tk, os⟩) t items := ⟨_, ht, rfl, n, rfl⟩
    wp_walk using AutoSeq1.wpAny_loadPart' ht
    refine wpAny_stack_any fun st => wpAny_pure ?_
    split
    · rename_i c _ _ _ _ _
      cases (c == Value.type "enumerate") <;> (wp_walk using AutoSeq1.wpAny_loadPart' ht, wpAny_pyIter_tuple hT; exact ⟨_, rfl, h⟩)
    · wp_walk using AutoSeq1.wpAny_loadPart' ht, wpAny_pyIter_tuple hT
      exact ⟨_, rfl, h⟩

theorem call_enum_tup {t : Addr} {items : Array Value} {Q : Value → Shared → Prop} (hT : s.heap.IsTuple t items)
    (h : ∀ h', IsEnum h' (s.heap.objs.size + 1) s.heap.objs.size 0 .none → h'.IsTupleIter s.heap.objs.size t 0 → (∀ b o, s.heap.get? b = some o → h'.get? b = some o) → Q (.ref (s.heap.objs.size + 1)) { s with heap := h' }) :
    wpAny (model prog w) A (call (.type "enumerate") [.ref t]) Q E s := by
  obtain ⟨⟨c, dct, dt, sl⟩, hl, hc, n, hd⟩ := hT
  have hc : c = .type "tuple" := hc
  have hd : dt = .seq items n := hd
  subst hc hd
  refine callType_new F.called_enumerate (by decide) (F.typeCall_enumerate_1 _) (F.newCall_enumerate_1 _) (fun obj => F.args_object_init_2 obj _) F.entry_enumerate_new (meets_enum_newT t items n dct sl) ⟨hl, ?_⟩
  have hz : (s.heap.push { cls := .type "tuple_iterator", data := .fields #[.ref t, .int 0 0] }).objs.size = s.heap.objs.size + 1 := Heap.size_push ..
  show _ ∧ _
  rw [hz]
  have q := Heap.get?_push_size (s.heap.push { cls := .type "tuple_iterator", data := .fields #[.ref t, .int 0 0] }) (o := { cls := .type "enumerate", data := .fields #[.none, .bool false, .ref s.heap.objs.size, rawInt 0, .none, .none] }) rfl
  rw [hz] at q
  exact ⟨⟨_, q, rfl⟩, h _ q ⟨_, Heap.get?_push_of_some _ (Heap.get?_push_size _ rfl), rfl, rfl⟩ fun b o x => Heap.get?_push_of_some _ (Heap.get?_push_of_some _ x)⟩
end

theorem hok_add {P : Program} {w : World} {H : Hp} {h : Heap} {p : Addr} {o : HO} (x : HOk P w H h) (hn : H p = none) (new : ObjOk P w (upd H p o) h p o) : HOk P w (upd H p o) h := fun a u e => by
  by_cases q : a = p
  · subst q
    rw [upd_same] at e
    cases e
    exact new
  · rw [upd_ne q] at e
    exact (x a u e).stay (fun _ _ _ z => z) (fun b z => by rw [upd_ne (ne_of_none z hn)]; exact z) fun b xs z => by rw [upd_ne (ne_of_none z hn)]; exact z

/-- what enumerate yields: a new pair -/
def Ite (src : Hp → List V → Prop) : It :=
  ⟨fun i H => ∃ xs x, src H xs ∧ xs[i]? = some x, fun i H x H' => ∃ p y, x = .ref p ∧ H p = none ∧ H' = upd H p (.tup [.int i, y]) ∧ ∀ xs, src H xs → xs[i]? = some y, fun i H => ∃ xs, src H xs ∧ xs.length ≤ i⟩

/-- the two kinds of sources -/
structure Src (P : Program) (w : World) (K : PySem.W.Frag) (a it : Addr) (src : Hp → List V → Prop) (nx : Nat → Obj → Prop) : Prop where
  dat : ∀ i o, nx i o → ∀ v, o.data ≠ .cell v
  item : ∀ (X : Cx), X.prog = P → X.w = w → X.K = K → ∀ (pins : List (Addr × Obj)) (σ : St) (H : Hp) (s : Shared) (xs : List V) (i : Nat) (x : V), Inv X pins σ H s → src H xs → xs[i]? = some x → (∃ o, s.heap.get? it = some o ∧ nx i o) →
    ∃ u, RelV x u ∧ ∀ (A' : Around) (E' Q' : Value → Shared → Prop), (∀ h', (∃ o, h'.get? it = some o ∧ nx (i + 1) o) → Heap.SameBut it s.heap h' → Q' u { s with heap := h' }) → wpAny (model P w) A' (Builtin.SmallTypes.nextOf (.ref it)) Q' E' s
  done : ∀ (X : Cx), X.prog = P → X.w = w → X.K = K → ∀ (pins : List (Addr × Obj)) (σ : St) (H : Hp) (s : Shared) (xs : List V) (i : Nat), Inv X pins σ H s → src H xs → xs.length ≤ i → (∃ o, s.heap.get? it = some o ∧ nx i o) →
    ∀ (A' : Around) (E' Q' : Value → Shared → Prop), A'.handled = none → (∀ h' x, Heap.ExtBut it s.heap h' → (∃ o, h'.get? x = some o ∧ o.cls = .type "StopIteration") → E' (.ref x) { s with heap := h' }) → wpAny (model P w) A' (Builtin.SmallTypes.nextOf (.ref it)) Q' E' s
  inj : ∀ (X : Cx), X.prog = P → X.w = w → X.K = K → ∀ (pins : List (Addr × Obj)) (σ : St) (H : Hp) (s : Shared) (xs ys : List V), Inv X pins σ H s → src H xs → src H ys → xs = ys

theorem src_list {P : Program} {w : World} {K : PySem.W.Frag} (a it : Addr) : Src P w K a it (fun H xs => SqL K H a xs) (fun i o => o.cls = .type "list_iterator" ∧ o.data = .fields #[.ref a, .int i 0]) where
  dat := fun i o h v z => by rw [h.2] at z; cases z
  item := by
    intro X hP hw hK pins σ H s xs i x I hq hx ho
    subst hP hw hK
    obtain ⟨its, rv, p, hz⟩ := I.list hq
    obtain ⟨u, hu, ru⟩ := rv.get hx
    obtain ⟨o, h1, h2, h3⟩ := ho
    exact ⟨u, ru, fun A' E' Q' hQ => wpAny_nextOf_list_item ⟨o, h1, h2, h3⟩ p.isList (by simpa using hu) fun h' st sb => hQ h' st sb⟩
  done := by
    intro X hP hw hK pins σ H s xs i I hq hx ho A' E' Q' hh hE
    subst hP hw hK
    obtain ⟨its, rv, p, hz⟩ := I.list hq
    obtain ⟨o, h1, h2, h3⟩ := ho
    have hl := rv.length
    exact wpAny_nextOf_list_end hh ⟨o, h1, h2, h3⟩ p.isList (by simp; omega) hE
  inj := by
    intro X hP hw hK pins σ H s xs ys I h1 h2
    subst hP hw hK
    exact I.list_inj h1 h2
theorem isTuple_of {h : Heap} {a : Addr} {its : Array Value} (x : IsTup h a its) : h.IsTuple a its := by
  obtain ⟨o, h1, h2, h3⟩ := x
  exact ⟨o, h1, h2, h3⟩
theorem src_tup {P : Program} {w : World} {K : PySem.W.Frag} (a it : Addr) : Src P w K a it (fun H xs => SqT K H a xs) (fun i o => o.cls = .type "tuple_iterator" ∧ o.data = .fields #[.ref a, .int i 0]) where
  dat := fun i o h v z => by rw [h.2] at z; cases z
  item := by
    intro X hP hw hK pins σ H s xs i x I hq hx ho
    subst hP hw hK
    obtain ⟨its, rv, p, hz⟩ := I.tuple hq
    obtain ⟨u, hu, ru⟩ := rv.get hx
    obtain ⟨o, h1, h2, h3⟩ := ho
    exact ⟨u, ru, fun A' E' Q' hQ => nextOf_tup_item ⟨o, h1, h2, h3⟩ (isTuple_of p) (by simpa using hu) fun h' st sb => hQ h' st sb⟩
  done := by
    intro X hP hw hK pins σ H s xs i I hq hx ho A' E' Q' hh hE
    subst hP hw hK
    obtain ⟨its, rv, p, hz⟩ := I.tuple hq
    obtain ⟨o, h1, h2, h3⟩ := ho
    have hl := rv.length
    exact nextOf_tup_end hh ⟨o, h1, h2, h3⟩ (isTuple_of p) (by simp; omega) hE
  inj := by
    intro X hP hw hK pins σ H s xs ys I h1 h2
    subst hP hw hK
    exact I.tuple_inj h1 h2

theorem turn_enum {P : Program} {w : World} {K : PySem.W.Frag} {elts : List Expr} {x1 : Nat} {tp : Pos} {a it e : Addr} {src : Hp → List V → Prop} {nx : Nat → Obj → Prop} (S : Src P w K a it src nx) (hne : e ≠ it) :
    Turn P w K (.Tuple elts x1 tp) (Ite src) [e, it] e (fun i h => (∃ old, IsEnum h e it (i : Nat) old) ∧ ∃ o, h.get? it = some o ∧ nx i o) where
  mem := by simp
  obj := fun i h st b hb => by
    obtain ⟨⟨old, h1⟩, o, h2, h3⟩ := st
    rcases List.mem_cons.mp hb with q | q
    · subst q
      exact ⟨_, h1, fun v z => by cases z⟩
    · have q : b = it := by simpa using q
      subst q
      exact ⟨o, h2, S.dat i o h3⟩
  keep := fun i h h' st k => by
    obtain ⟨⟨old, h1⟩, o, h2, h3⟩ := st
    exact ⟨⟨old, k e (by simp) _ h1⟩, o, k it (by simp) o h2, h3⟩
  item := by
    intro X hP hw hK hc i pins s σ H E I hf st hg
    obtain ⟨xs, x, hq, hx⟩ := hg
    obtain ⟨⟨old, h1⟩, ho⟩ := st
    obtain ⟨u, ru, hnx⟩ := S.item X hP hw hK pins σ H s xs i x I hq hx ho
    have inj := fun ys (hy : src H ys) => S.inj X hP hw hK pins σ H s ys xs I hy hq
    obtain ⟨f0, f1, f2, f3, f4, f5⟩ := hf e (by simp)
    obtain ⟨g0, g1, g2, g3, g4, g5⟩ := hf it (by simp)
    subst hP hw hK
    have hel : e < s.heap.objs.size := Heap.lt_size h1
    refine enum_item h1 hne hnx fun h' k1 k2 k3 k4 k5 => ⟨_, rfl, wpAny_letOwnedTupleGo_enum k1 fun h'' m1 m2 => ?_⟩
    have m2 : Heap.SameBut e h' h'' := m2
    have fr : H s.heap.objs.size = none := I.fresh
    have kp : ∀ b o, b ≠ e → b ≠ it → s.heap.get? b = some o → h''.get? b = some o := fun b o hb hb' q => (m2.2 b hb).trans (k5 b o hb hb' q)
    have tp : h''.get? s.heap.objs.size = some { cls := .type "tuple", data := .seq #[.int i s.toks, u] } := (m2.2 _ (Nat.ne_of_gt hel)).trans k3
    have ok1 : HOk X.prog X.w H h'' := fun b o hb => (I.hok b o hb).stay (fun c v hcb q => kp c v (fun z => by
        subst z
        rcases hcb with z | z
        · subst z
          rw [f0] at hb
          cases hb
        · rw [f0] at z
          cases z) (fun z => by
        subst z
        rcases hcb with z | z
        · subst z
          rw [g0] at hb
          cases hb
        · rw [g0] at z
          cases z) q) (fun _ z => z) fun _ _ z => z
    have ok2 : HOk X.prog X.w (upd H s.heap.objs.size (.tup [.int i, x])) h'' := hok_add ok1 fr ⟨by show 2 ≤ sizeLine; decide, [.int i s.toks, u], .cons ⟨_, rfl⟩ (.cons ru .nil), ⟨_, tp, rfl, _, rfl⟩⟩
    have I2 : Inv X pins σ (upd H s.heap.objs.size (.tup [.int i, x])) { s with heap := h'', toks := s.toks + 1 } := by
      refine I.step (g' := s.gens) (d' := s.drawn) (ch := [e, it]) (fun b hb => ?_) (fun b o _ _ hb q _ => kp b o (fun z => hb (by simp [z])) (fun z => hb (by simp [z])) q) (fun b o _ _ hb q _ => ⟨o.slots, kp b o (fun z => hb (by simp [z])) (fun z => hb (by simp [z])) q⟩)
        (fun b o _ q n => by rw [upd_ne (Nat.ne_of_lt (Heap.lt_size q))]; exact n) (fun b o hb q => ⟨o, kp b o (fun z => hb (by simp [z])) (fun z => hb (by simp [z])) q⟩)
        (fun b ys q => by rw [upd_ne (ne_of_none q fr)]; exact q) (fun b o v q => by rw [upd_ne (ne_of_none q fr)]; exact q) (fun b ps q => ⟨#[], by rw [upd_ne (ne_of_none q fr), Array.append_empty]; exact q⟩)
        (fun m hm => hm.at fun o q => kp _ o (Ne.symm f1) (Ne.symm g1) q) ok2 I.bare
      rcases List.mem_cons.mp hb with z | z
      · subst z
        exact ⟨f3, f1, f4, f5⟩
      · have z : b = it := by simpa using z
        subst z
        exact ⟨g3, g1, g4, g5⟩
    obtain ⟨oi, hoi, ri⟩ := k2
    refine ⟨.ref s.heap.objs.size, _, I2, rfl, ⟨_, x, rfl, fr, rfl, fun ys hy => by rw [inj ys hy]; exact hx⟩, ⟨⟨u, ?_⟩, oi, (m2.2 it (Ne.symm hne)).trans hoi, ri⟩, fun b hb => ?_⟩
    · have m1 : IsEnum h'' e it ((i : Int) + 1) u := m1
      have z : (((i + 1 : Nat)) : Int) = (i : Int) + 1 := by omega
      rw [z]
      exact m1
    · have lt : b < s.heap.objs.size := by
        rcases List.mem_cons.mp hb with z | z
        · rw [z]
          exact hel
        · have z : b = it := by simpa using z
          obtain ⟨o, q, _⟩ := ho
          rw [z]
          exact Heap.lt_size q
      rw [upd_ne (Nat.ne_of_lt lt)]
      exact (hf b hb).1
  done := by
    intro X hP hw hK hc i pins s σ H E I hf st hg
    obtain ⟨xs, hq, hx⟩ := hg
    obtain ⟨⟨old, h1⟩, ho⟩ := st
    have hd := S.done X hP hw hK pins σ H s xs i I hq hx ho
    obtain ⟨g0, g1, g2, g3, g4, g5⟩ := hf it (by simp)
    subst hP hw hK
    exact enum_end h1 (fun A' E' Q' hA hE => hd A' E' Q' (hA.trans (I.ok.hd hc)) hE) fun h' eb => ⟨rfl, I.turned (t' := s.toks) (fun b o hb q => eb b o hb q) g0 g1 g3 g4 g5⟩
  self := fun _ _ _ _ _ st h => by
    obtain ⟨⟨old, h1⟩, _⟩ := st
    exact wpAny_pyIter_enum h1 h

section
variable {X : Cx} {elts : List Expr} {x1 : Nat} {tp p pos : Pos} {l : Expr} {ta : TA}
def iEnumL (K : PySem.W.Frag) (ta : TA) : TI := fun σ H R => ta σ H fun vs H1 => ∃ a xs, vs = [.ref a] ∧ SqL K H1 a xs ∧ R (Ite fun H xs => SqL K H a xs) H1
def iEnumT (K : PySem.W.Frag) (ta : TA) : TI := fun σ H R => ta σ H fun vs H1 => ∃ a xs, vs = [.ref a] ∧ SqT K H1 a xs ∧ R (Ite fun H xs => SqT K H a xs) H1
theorem pi_enumL (hg : Gl X "enumerate") (hm : X.mg "enumerate" = none) (ha : PA X [l] ta) (hs : starEach [l] X.env = [(false, eval l X.env)] := by rfl) : PI X (.Tuple elts x1 tp) (.Call (.Name "enumerate" p) [l] [] pos) (iEnumL X.K ta) := by
  intro pins s σ H R I h
  refine wpAny_Call_Name_kw (ld_blt I hg hm (by decide +kernel : bootBuiltins "enumerate" = some (.type "enumerate")) ?_)
  refine PyProof.Rows.callWith_type1 (thn (ha pos pins s σ H _ I h) fun us s1 ⟨vs, H1, I1, r1, q1⟩ => ?_) hs rfl
  obtain ⟨a, xs, rfl, hq, q⟩ := q1
  obtain ⟨u, rfl, ru⟩ := vals1 r1
  cases ru
  obtain ⟨its, rv, pl, hz⟩ := I1.list hq
  refine call_enumerate_list pl.isList fun h' e1 e2 e3 e4 => wpAny_pyIter_enum e1 ?_
  have I2 : Inv X pins σ H1 { s1 with heap := h' } := I1.kept (t' := s1.toks) e4
  obtain ⟨o, c1, c2, c3⟩ := e2
  refine ⟨_, _, _, _, H1, rfl, I2, turn_enum (src_list a s1.heap.objs.size) (Nat.succ_ne_self _), ⟨⟨_, e1⟩, o, c1, c2, c3⟩, fun b hb => ?_, q⟩
  rcases List.mem_cons.mp hb with z | z
  · subst z
    exact I1.fpOk (Nat.le_succ _) (I1.hok.fresh (Nat.le_succ _))
  · have z : b = s1.heap.objs.size := by simpa using z
    subst z
    exact I1.fpOk (Nat.le_refl _) (I1.hok.fresh (Nat.le_refl _))
theorem pi_enumT (hg : Gl X "enumerate") (hm : X.mg "enumerate" = none) (ha : PA X [l] ta) (hs : starEach [l] X.env = [(false, eval l X.env)] := by rfl) : PI X (.Tuple elts x1 tp) (.Call (.Name "enumerate" p) [l] [] pos) (iEnumT X.K ta) := by
  intro pins s σ H R I h
  refine wpAny_Call_Name_kw (ld_blt I hg hm (by decide +kernel : bootBuiltins "enumerate" = some (.type "enumerate")) ?_)
  refine PyProof.Rows.callWith_type1 (thn (ha pos pins s σ H _ I h) fun us s1 ⟨vs, H1, I1, r1, q1⟩ => ?_) hs rfl
  obtain ⟨a, xs, rfl, hq, q⟩ := q1
  obtain ⟨u, rfl, ru⟩ := vals1 r1
  cases ru
  obtain ⟨its, rv, pl, hz⟩ := I1.tuple hq
  refine call_enum_tup (isTuple_of pl) fun h' e1 e2 e4 => wpAny_pyIter_enum e1 ?_
  have I2 : Inv X pins σ H1 { s1 with heap := h' } := I1.kept (t' := s1.toks) e4
  obtain ⟨o, c1, c2, c3⟩ := e2
  refine ⟨_, _, _, _, H1, rfl, I2, turn_enum (src_tup a s1.heap.objs.size) (Nat.succ_ne_self _), ⟨⟨_, e1⟩, o, c1, c2, c3⟩, fun b hb => ?_, q⟩
  rcases List.mem_cons.mp hb with z | z
  · subst z
    exact I1.fpOk (Nat.le_succ _) (I1.hok.fresh (Nat.le_succ _))
  · have z : b = s1.heap.objs.size := by simpa using z
    subst z
    exact I1.fpOk (Nat.le_refl _) (I1.hok.fresh (Nat.le_refl _))
end
end L2
set_option Elab.async false
set_option linter.all false
set_option maxRecDepth 100000
set_option maxHeartbeats 4000000
/-! ### more of Python's own, and short forms -/
namespace L2
open PySem PySem.Spec PyProof.Rows
section
variable {X : Cx}
theorem call_sorted : CallR X (.builtin "sorted") (fun xs H Q => ∃ (a : Addr) (ns : List Int), xs = [.ref a] ∧ SqL X.K H a (ns.map V.int) ∧ ns.length < 64 ∧ ∀ (p : Addr) (ns' : List Int), H p = none → ns'.Perm ns → ns'.Pairwise (· ≤ ·) → Q (.ref p) (upd H p (.lst (ns'.map V.int)))) := by
  intro pins s σ H xs us Q I r h
  obtain ⟨a, ns, rfl, hq, hl, q⟩ := h
  obtain ⟨u, rfl, ru⟩ := vals1 r
  cases ru
  obtain ⟨its, rv, pl, hz⟩ := I.list hq
  have hi := intsAre_of rv
  have hlen := rv.length
  rw [List.length_map] at hlen
  refine sorted_ints pl.isList hi (by omega) fun out ns' a1 a2 a3 => ?_
  obtain ⟨e, he⟩ := sortedAll_at s.heap its out
  refine ⟨.ref (s.heap.objs.size + 1), _, I.laid (t' := s.toks) (fun b o z => sortedAll_old z) (Nat.le_succ _) ?_, rfl, q _ ns' (I.hok.fresh (Nat.le_succ _)) a2 a3⟩
  refine ⟨?_, out.toList, e, vals_ints a1, by rw [Array.toArray_toList]; exact he⟩
  rw [List.length_map, a2.length_eq]
  exact Nat.le_trans (Nat.le_of_lt hl) (by decide)

/-- the members of set(ns), each once -/
def dd (ns : List Int) : List Int := firstMet (fun i => ns.getD i 0) ns.length
theorem call_set (hc : X.calm = true) : CallR X (.type "set") (fun xs H Q => ∃ (a : Addr) (ns : List Int), xs = [.ref a] ∧ SqL X.K H a (ns.map V.int) ∧ ns.length < 4000 ∧ ∀ p, H p = none → Q (.ref p) (upd H p (.set (fun k => (dd ns).any (· == k)) (dd ns).length))) := by
  intro pins s σ H xs us Q I r h
  obtain ⟨a, ns, rfl, hq, hl, q⟩ := h
  obtain ⟨u, rfl, ru⟩ := vals1 r
  cases ru
  obtain ⟨its, rv, pl, hz⟩ := I.list hq
  have hi := intsAre_of rv
  have hlen := rv.length
  rw [List.length_map] at hlen
  refine call_set_list (I.ok.hd hc) pl.isList (by simpa using hi) (by show its.toArray.size + 1 < 4096; simp; omega) fun h' tk hs kp => ?_
  have e : its.toArray.size = ns.length := by simp [hlen]
  rw [e] at hs
  exact ⟨.ref s.heap.objs.size, _, I.laid (t' := tk) (fun b o z => kp b o (Heap.lt_size z) z) (Nat.le_refl _) (o := .set (fun k => (dd ns).any (· == k)) (dd ns).length) hs, rfl, q _ (I.hok.fresh (Nat.le_refl _))⟩
theorem call_lenS : CallR X (.builtin "len") (fun xs H Q => ∃ a S n, xs = [.ref a] ∧ H a = some (.set S n) ∧ Q (.int n) H) := by
  intro pins s σ H xs us Q I r h
  obtain ⟨a, S, n, rfl, ha, q⟩ := h
  obtain ⟨u, rfl, ru⟩ := vals1 r
  cases ru
  obtain ⟨o, es, ep, t, h1, h2, h3, h4, h5, h6, h7, h8⟩ := (show s.heap.SetOf (intKind X.prog X.w) a S n from I.hok a _ ha)
  subst h8
  exact call_len_set h1 h2 h3 h7 (by have : es.size < 4096 := h6; omega) ⟨.int es.size, H, I.tok _, ⟨_, rfl⟩, q⟩

/-- isinstance(x, T), T one of Python's own -/
theorem call_isinst : CallR X (.builtin "isinstance") (fun xs H Q => ∃ x c t b, xs = [x, .ty c] ∧ TyOf X.K H x t ∧ PySem.W.kitOne X.K t (.type c) = some b ∧ Q (.bl b) H) := by
  intro pins s σ H xs us Q I r h
  obtain ⟨x, c, t, b, rfl, ty, e, q⟩ := h
  obtain ⟨u, v, rfl, ru, rv⟩ := vals2 r
  cases rv
  exact isinst_ok I ru ty e fun tk => ⟨.bl b, H, I.tok tk, rfl, q⟩

theorem op_mulK : OpR X (binaryOp .Mult) (rI (fun i j => IntMulOk i j) fun i j => .int (i * j)) := opI fun i j t u s Q E c h => mul_int h c
end

/-- for i, x in enumerate(..): Pv at a turn's start; the pair is laid at p -/
theorem for_enum {src : Hp → List V → Prop} {xs : List V} {g : TG} {tb : TS} {D : Ends} {σ : St} {H : Hp} (Pv : Nat → St → Hp → Prop) (h0 : Pv 0 σ H) (hl : ∀ i σ H, i ≤ xs.length → Pv i σ H → src H xs)
    (hs : ∀ i x p σ H, xs[i]? = some x → Pv i σ H → H p = none → g (.ref p) σ (upd H p (.tup [.int i, x])) fun σ2 H2 => tb { D with nx := Pv (i + 1), ct := Pv (i + 1), bk := D.nx } σ2 H2) (hd : ∀ σ H, Pv xs.length σ H → D.nx σ H) :
    ∃ W : Nat → Nat → St → Hp → Prop, (∃ m, W 0 m σ H) ∧ ∀ i m σ H, W i m σ H →
      ((Ite src).stop i H ∧ D.nx σ H) ∨ ((Ite src).go i H ∧ ∃ N : St → Hp → Prop, (∀ σ' H', N σ' H' → ∃ m', m' < m ∧ W (i + 1) m' σ' H') ∧ ∀ x H', (Ite src).yld i H x H' → g x σ H' fun σ2 H2 => tb { D with nx := N, ct := N, bk := D.nx } σ2 H2) := by
  refine ⟨fun i m σ H => m = xs.length - i ∧ i ≤ xs.length ∧ Pv i σ H, ⟨xs.length, by omega, Nat.zero_le _, h0⟩, ?_⟩
  rintro i m σ H ⟨rfl, hi, p⟩
  have hq := hl i σ H hi p
  by_cases hn : i < xs.length
  · obtain ⟨x, hx⟩ : ∃ x, xs[i]? = some x := ⟨xs[i], List.getElem?_eq_getElem hn⟩
    refine .inr ⟨⟨xs, x, hq, hx⟩, Pv (i + 1), fun σ' H' n => ⟨_, by omega, rfl, hn, n⟩, ?_⟩
    rintro x' H' ⟨q, y, rfl, hqn, rfl, hy⟩
    have ey := hy xs hq
    rw [hx] at ey
    cases ey
    exact hs i x q σ H hx p hqn
  · have e : i = xs.length := by omega
    subst e
    exact .inl ⟨⟨xs, hq, Nat.le_refl _⟩, hd σ H p⟩
end L2
set_option Elab.async false
set_option linter.all false
set_option maxRecDepth 100000
set_option maxHeartbeats 4000000
/-! ### short words for defs and comprehensions -/
namespace L2
open PySem PySem.Spec PyProof.Rows
/-- relabel by the scope around alone -/
def relabelS (scope sc : Scope) : Scope :=
  { scope with names := scope.names.map fun (n, k) => if (k == .free && sc.kind == .function && sc.names.lookup n == some .cell) then (n, .cell) else (n, k) }
theorem relabel_eq (scope : Scope) (env : Env) : relabel scope env = relabelS scope env.scope := rfl
/-- the checks of a comprehension's scope, by computation -/
def compChk (sc : Scope) (N : List Str) (scope : Scope) (cap : List (Str × Nat)) : Bool :=
  decide (scope.kind = .function) && decide ((scope.names.map (·.1)).Nodup) &&
  (scope.names.all fun y => !(y.2 == .free) || (sc.names.lookup y.1 == some .cell || sc.names.lookup y.1 == some .free)) &&
  (cap.all fun p => (N[p.2]? == some p.1) && scope.names.contains (p.1, NameKind.free))
theorem compOk_mk {X : Cx} {scope : Scope} {own : List Str} {cap : List (Str × Nat)} (sc : Scope) (hsc : X.env.scope = sc) (N : List Str) (hN : X.N = N) (h : compChk sc N scope cap = true) : CompOk X scope own cap := by
  simp only [compChk, Bool.and_eq_true, decide_eq_true_eq] at h
  obtain ⟨⟨⟨h1, h2⟩, h3⟩, h4⟩ := h
  refine ⟨h1, h2, fun y hy hk => ?_, fun p hp => ?_⟩
  · have q := List.all_eq_true.mp h3 y hy
    show X.env.scope.names.lookup y.1 = some .cell ∨ X.env.scope.names.lookup y.1 = some .free
    rw [hsc]
    rw [hk] at q
    simpa using q
  · have q := List.all_eq_true.mp h4 p hp
    rw [Bool.and_eq_true] at q
    rw [hN]
    exact ⟨by simpa using q.1, by simpa using q.2⟩

/-- a def of the text that may be called: where it stands, how it binds, what it promises -/
structure Cal (P : Program) (w : World) (K : PySem.W.Frag) (mg : Str → Option Value) (base : Heap) (k : Nat) (x : Str) (ps : List Str) (sp : Sp) : Prop where
  ex : ∃ f fd, mg x = some (.ref f) ∧ PySem.W.keepIn K (.ref f) = true ∧ Binds K fd ps [] ∧ FnOk P w K mg base CX0 k f fd ps sp
theorem Cal.mono {P : Program} {w : World} {K : PySem.W.Frag} {mg : Str → Option Value} {base : Heap} {j k : Nat} {x : Str} {ps : List Str} {sp : Sp} (C : Cal P w K mg base j x ps sp) (h : j ≤ k) : Cal P w K mg base k x ps sp :=
  let ⟨f, fd, a, b, c, d⟩ := C.ex; ⟨f, fd, a, b, c, d.mono h⟩
/-- a def of the text, as it stands: its address, its object, how it binds -/
structure Dfn (K : PySem.W.Frag) (mg : Str → Option Value) (x : Str) (st : Stmt) (ps : List Str) : Prop where
  ex : ∃ f fd, Fun K x x st f fd ∧ mg x = some (.ref f) ∧ Binds K fd ps []
theorem Dfn.cal {P : Program} {w : World} {K : PySem.W.Frag} {mg : Str → Option Value} {base : Heap} {x : Str} {st : Stmt} {N ps : List Str} {k : Nat} {sp : Sp} (F : Dfn K mg x st ps) (S : FnScope N ps (defScope st)) (len : ∀ vs H Q E, sp vs H Q E → vs.length = ps.length)
    (hbody : ∀ (f : Addr) (cdv : Value) (A : Around) (outer : List Env) (s : Shared) (H : Hp) (vs : List V) (Q : VK) (E : XK), Room k (A.deeper (envOfC x (defScope st) s.heap.objs.size f cdv)) → sp vs H Q E →
      ∃ t, PSs (cxOf CX0 P w K mg base N x (defScope st) f cdv A outer s H E).nox (defBody st) t ∧ t { nx := fun _ H' => Q .non H', rt := Q } (start N vs) H) : Cal P w K mg base (k + 1) x ps sp := by
  obtain ⟨f, fd, F, hm, hb⟩ := F.ex
  exact ⟨f, fd, hm, F.kp, hb, F.ok S len fun cdv A outer s H vs Q E => hbody f cdv A outer s H vs Q E⟩
section
variable {X : Cx} {k : Nat} {x : Str} {ps : List Str} {sp : Sp} {p pos : Pos} {e : Expr} {es : List Expr} {t : TA}
theorem pe_cal (C : Cal X.prog X.w X.K X.mg X.base k x ps sp) (hr : Room k X.A) (hg : Gl X x) (ha : PA X (e :: es) t) (hdb : (x == ("__debug__" : Str)) = false := by decide)
    (he : starEach (e :: es) X.env = (false, eval e X.env) :: starEach es X.env := by rfl) (hpl : (backTo pos (starEach es X.env)).any (·.1) = false := by rfl) : PE X (.Call (.Name x p) (e :: es) [] pos) (tCall sp [] E0 t) := by
  obtain ⟨f, fd, hm, hk, hb, F⟩ := C.ex
  exact pe_call F hr hg hm hk hb .nil pass0 ha hdb he hpl
end
end L2
set_option Elab.async false
set_option linter.all false
set_option maxRecDepth 100000
set_option maxHeartbeats 4000000
/-! ### ways that meet again -/
namespace L2
open PySem PySem.Spec PyProof.Rows
/-- a test whose ways leave the heap as it was: its answer said once -/
def tJ (t : TT) : TT := fun σ H Q => ∃ b, t σ H (fun c H1 => c = b ∧ H1 = H) ∧ Q b H
theorem pt_join {X : Cx} {e : Expr} {t : TT} (h : PT X e t) : PT X e (tJ t) := fun pins s σ H Q I hw => by
  obtain ⟨b, h1, h2⟩ := hw
  refine thn (h pins s σ H _ I h1) fun c s' ⟨H', I', e1, e2⟩ => ?_
  subst e1 e2
  exact ⟨_, I', h2⟩
def tJE (t : TE) : TE := fun σ H Q => ∃ v, t σ H (fun u H1 => u = v ∧ H1 = H) ∧ Q v H
theorem pe_join {X : Cx} {e : Expr} {t : TE} (h : PE X e t) : PE X e (tJE t) := fun pins s σ H Q I hw => by
  obtain ⟨b, h1, h2⟩ := hw
  refine thn (h pins s σ H _ I h1) fun c s' ⟨v, H', I', r, e1, e2⟩ => ?_
  subst e1 e2
  exact ⟨_, _, I', r, h2⟩
/-- if c: x = e -/
def tIfSet (tc : TT) (i : Nat) (te : TE) : TS := fun D σ H => tc σ H fun b H1 => ∃ v, (if b = true then te σ H1 (fun u H2 => u = v ∧ H2 = H1) else σ[i]? = some (some v)) ∧ D.nx (σ.set i (some v)) H1
theorem ps_ifSet {X : Cx} {i : Nat} {x : Str} {c e : Expr} {tc : TT} {te : TE} {px spos pos : Pos} (hN : X.N.Nodup) (hi : X.N[i]? = some x) (hx : Loc X.env.scope x) (hc : PT X c tc) (he : PE X e te)
    (hs : swapsWith e (some (.Name x px)) spos.line X.env = pure false := by rfl) (hf : X.fn x = true ∨ X.env.scope.names.lookup x = some .local := by first | exact .inl rfl | exact .inr rfl) :
    PS X (.If c [.Assign [.Name x px] e spos] [] pos) (tIfSet tc i te) := by
  intro pins s σ H D I h
  refine wpAny_If (thn (hc pins s σ H _ I h) fun b s1 ⟨H1, I1, v, q1, q2⟩ => ?_)
  cases b with
  | true =>
    rw [if_pos rfl] at q1 ⊢
    have hset : PS X (.Assign [.Name x px] e spos) (fun D σ H => te σ H (fun u H2 => u = v ∧ H2 = H) ∧ D.nx (σ.set i (some v)) H) := by
      intro pins s σ H D I h
      refine wpAny_Assign_Name (thn (he pins s σ H _ I h.1) fun u s1 ⟨y, H1, I1, r1, e1, e2⟩ => ?_) hs
      subst e1 e2
      exact store_ok I1 hN hi hx r1 (fun s2 I2 => ⟨_, _, I2, h.2⟩) hf
    exact pss_one hset pins s1 σ H1 D I1 ⟨q1, q2⟩
  | false =>
    rw [if_neg Bool.false_ne_true] at q1 ⊢
    refine wpAny_execs_nil ⟨σ, H1, I1, ?_⟩
    have e : σ.set i (some v) = σ := by
      refine List.ext_getElem? fun j => ?_
      by_cases hj : j = i
      · subst hj
        have : j < σ.length := (List.getElem?_eq_some_iff.mp q1).1
        rw [List.getElem?_set_self this, q1]
      · rw [List.getElem?_set_ne (Ne.symm hj)]
    rw [e] at q2
    exact q2
end L2
set_option Elab.async false
set_option linter.all false
set_option maxRecDepth 100000
set_option maxHeartbeats 4000000
/-! ### deep values: what a Python value is worth, without addresses. A list or dict bears a tag: own (this place alone holds it), bor (a look at one that a name owns), frz (nobody changes it any more) -/
namespace DL
open PySem PySem.Spec PyProof.Rows L2
inductive Tg where | own | bor | frz
  deriving DecidableEq
/-- a dict's key -/
abbrev KT := Sum Key (List Key)
inductive D where
  | non | bl (b : Bool) | int (i : Int) | str (x : Str)
  | tup (xs : List D) | lst (t : Tg) (xs : List D) | dct (t : Tg) (k : Bool) (ks : List KT) (vs : List D)
  | exc (C : Addr)
/-- the names' values -/
abbrev SD := List (Option D)
inductive Res (α : Type) where | ok (a : α) | exn (C : Addr) | bad
def Res.bind {α β : Type} : Res α → (α → Res β) → Res β
  | .ok a, f => f a
  | .exn c, _ => .exn c
  | .bad, _ => .bad
def Res.map {α β : Type} (f : α → β) (r : Res α) : Res β := r.bind fun a => .ok (f a)
@[simp] theorem Res.bind_ok {α β : Type} (a : α) (f : α → Res β) : (Res.ok a).bind f = f a := rfl
@[simp] theorem Res.bind_exn {α β : Type} (c : Addr) (f : α → Res β) : (Res.exn c : Res α).bind f = .exn c := rfl
@[simp] theorem Res.bind_bad {α β : Type} (f : α → Res β) : (Res.bad : Res α).bind f = .bad := rfl
@[simp] theorem Res.map_ok {α β : Type} (a : α) (f : α → β) : Res.map f (Res.ok a) = .ok (f a) := rfl

/-! ### tags -/
def Tg.view : Tg → Tg | .own => .bor | t => t
def Tg.toBor : Tg → Tg | .frz => .bor | t => t
mutual
def D.view : D → D
  | .tup xs => .tup (viewL xs)
  | .lst t xs => .lst t.view (viewL xs)
  | .dct t k ks vs => .dct t.view k ks (viewL vs)
  | d => d
def viewL : List D → List D
  | [] => []
  | d :: r => d.view :: viewL r
end
mutual
def D.frz : D → D
  | .tup xs => .tup (frzL xs)
  | .lst _ xs => .lst .frz (frzL xs)
  | .dct _ k ks vs => .dct .frz k ks (frzL vs)
  | d => d
def frzL : List D → List D
  | [] => []
  | d :: r => d.frz :: frzL r
end
mutual
def D.toBor : D → D
  | .tup xs => .tup (toBorL xs)
  | .lst t xs => .lst t.toBor (toBorL xs)
  | .dct t k ks vs => .dct t.toBor k ks (toBorL vs)
  | d => d
def toBorL : List D → List D
  | [] => []
  | d :: r => d.toBor :: toBorL r
end
mutual
/-- some part is a look at what a name owns -/
def D.hasBor : D → Bool
  | .tup xs => hasBorL xs
  | .lst t xs => decide (t = .bor) || hasBorL xs
  | .dct t _ _ vs => decide (t = .bor) || hasBorL vs
  | _ => false
def hasBorL : List D → Bool
  | [] => false
  | d :: r => d.hasBor || hasBorL r
end
mutual
/-- no list or dict in it -/
def D.pure : D → Bool
  | .tup xs => pureL xs
  | .lst _ _ => false
  | .dct _ _ _ _ => false
  | _ => true
def pureL : List D → Bool
  | [] => true
  | d :: r => d.pure && pureL r
end
mutual
theorem view_pure : ∀ d : D, d.pure = true → d.view = d
  | .non, _ => rfl
  | .bl _, _ => rfl
  | .int _, _ => rfl
  | .str _, _ => rfl
  | .exc _, _ => rfl
  | .tup xs, h => by
    have h : pureL xs = true := h
    show D.tup (viewL xs) = _
    rw [viewL_pure xs h]
  | .lst _ _, h => by cases h
  | .dct _ _ _ _, h => by cases h
theorem viewL_pure : ∀ xs : List D, pureL xs = true → viewL xs = xs
  | [], _ => rfl
  | d :: r, h => by
    have h : (d.pure && pureL r) = true := h
    rw [Bool.and_eq_true] at h
    show d.view :: viewL r = _
    rw [view_pure d h.1, viewL_pure r h.2]
end
mutual
theorem frz_pure : ∀ d : D, d.pure = true → d.frz = d
  | .non, _ => rfl
  | .bl _, _ => rfl
  | .int _, _ => rfl
  | .str _, _ => rfl
  | .exc _, _ => rfl
  | .tup xs, h => by
    have h : pureL xs = true := h
    show D.tup (frzL xs) = _
    rw [frzL_pure xs h]
  | .lst _ _, h => by cases h
  | .dct _ _ _ _, h => by cases h
theorem frzL_pure : ∀ xs : List D, pureL xs = true → frzL xs = xs
  | [], _ => rfl
  | d :: r, h => by
    have h : (d.pure && pureL r) = true := h
    rw [Bool.and_eq_true] at h
    show d.frz :: frzL r = _
    rw [frz_pure d h.1, frzL_pure r h.2]
end
mutual
theorem toBor_pure : ∀ d : D, d.pure = true → d.toBor = d
  | .non, _ => rfl
  | .bl _, _ => rfl
  | .int _, _ => rfl
  | .str _, _ => rfl
  | .exc _, _ => rfl
  | .tup xs, h => by
    have h : pureL xs = true := h
    show D.tup (toBorL xs) = _
    rw [toBorL_pure xs h]
  | .lst _ _, h => by cases h
  | .dct _ _ _ _, h => by cases h
theorem toBorL_pure : ∀ xs : List D, pureL xs = true → toBorL xs = xs
  | [], _ => rfl
  | d :: r, h => by
    have h : (d.pure && pureL r) = true := h
    rw [Bool.and_eq_true] at h
    show d.toBor :: toBorL r = _
    rw [toBor_pure d h.1, toBorL_pure r h.2]
end
mutual
theorem hasBor_pure : ∀ d : D, d.pure = true → d.hasBor = false
  | .non, _ => rfl
  | .bl _, _ => rfl
  | .int _, _ => rfl
  | .str _, _ => rfl
  | .exc _, _ => rfl
  | .tup xs, h => hasBorL_pure xs h
  | .lst _ _, h => by cases h
  | .dct _ _ _ _, h => by cases h
theorem hasBorL_pure : ∀ xs : List D, pureL xs = true → hasBorL xs = false
  | [], _ => rfl
  | d :: r, h => by
    have h : (d.pure && pureL r) = true := h
    rw [Bool.and_eq_true] at h
    show (d.hasBor || hasBorL r) = false
    rw [hasBor_pure d h.1, hasBorL_pure r h.2]
    rfl
end
theorem pureL_of : ∀ {xs : List D}, (∀ d ∈ xs, d.pure = true) → pureL xs = true
  | [], _ => rfl
  | d :: r, h => by
    show (d.pure && pureL r) = true
    rw [h d List.mem_cons_self, pureL_of fun x hx => h x (List.mem_cons_of_mem _ hx)]
    rfl
theorem pureL_mem : ∀ {xs : List D}, pureL xs = true → ∀ d ∈ xs, d.pure = true
  | d :: r, h, x, hx => by
    have h : (d.pure && pureL r) = true := h
    rw [Bool.and_eq_true] at h
    rcases List.mem_cons.mp hx with e | e
    · rw [e]; exact h.1
    · exact pureL_mem h.2 x e
theorem viewL_eq : ∀ xs : List D, viewL xs = xs.map D.view
  | [] => rfl
  | d :: r => by rw [viewL, viewL_eq r]; rfl
theorem frzL_eq : ∀ xs : List D, frzL xs = xs.map D.frz
  | [] => rfl
  | d :: r => by rw [frzL, frzL_eq r]; rfl
theorem toBorL_eq : ∀ xs : List D, toBorL xs = xs.map D.toBor
  | [] => rfl
  | d :: r => by rw [toBorL, toBorL_eq r]; rfl
theorem hasBorL_eq : ∀ xs : List D, hasBorL xs = xs.any D.hasBor
  | [] => rfl
  | d :: r => by rw [hasBorL, hasBorL_eq r]; rfl

/-! ### what represents what -/
/-- the dict at a: its keys, its values -/
def DictAt (H : Hp) (a : Addr) (k : Bool) (ks : List KT) (vs : List V) : Prop :=
  (k = false ∧ ∃ kvs : List (Key × V), H a = some (.dK kvs) ∧ ks = kvs.map (fun p => Sum.inl p.1) ∧ vs = kvs.map (·.2)) ∨
  (k = true ∧ ∃ kvs : List (List Key × V), H a = some (.dT kvs) ∧ ks = kvs.map (fun p => Sum.inr p.1) ∧ vs = kvs.map (·.2))
/-- an exception of the class at C stands at a -/
def ExcAt (H : Hp) (a C : Addr) : Prop := ∃ φ, H a = some (.ext φ) ∧ ∀ h, φ h → ∃ o, h.get? a = some o ∧ o.cls = .ref C
mutual
def Rep (K : PySem.W.Frag) (B : Hp) (S : Addr → Prop) (H : Hp) : D → V → List Addr → Prop
  | .non, v, fp => v = .non ∧ fp = []
  | .bl b, v, fp => v = .bl b ∧ fp = []
  | .int i, v, fp => v = .int i ∧ fp = []
  | .str x, v, fp => v = .str x ∧ fp = []
  | .exc x, v, fp => (∃ a, v = .ref a ∧ ExcAt H a x) ∧ fp = []
  | .tup xs, v, fp => ∃ a vs, v = .ref a ∧ H a = some (.tup vs) ∧ RepL K B S H xs vs fp
  | .lst .own xs, v, fp => ∃ a vs f, v = .ref a ∧ H a = some (.lst vs) ∧ RepL K B S H xs vs f ∧ fp = a :: f
  | .lst .bor xs, v, fp => ∃ a vs, v = .ref a ∧ ((S a ∧ SqL K H a vs) ∨ SqL K B a vs) ∧ RepL K B S H xs vs [] ∧ fp = []
  | .lst .frz xs, v, fp => ∃ a vs, v = .ref a ∧ SqL K B a vs ∧ RepL K B (fun _ => False) H xs vs [] ∧ fp = []
  | .dct .own k ks xs, v, fp => ∃ a vs f, v = .ref a ∧ DictAt H a k ks vs ∧ RepL K B S H xs vs f ∧ fp = a :: f
  | .dct .bor k ks xs, v, fp => ∃ a vs, v = .ref a ∧ ((S a ∧ DictAt H a k ks vs) ∨ DictAt B a k ks vs) ∧ RepL K B S H xs vs [] ∧ fp = []
  | .dct .frz k ks xs, v, fp => ∃ a vs, v = .ref a ∧ DictAt B a k ks vs ∧ RepL K B (fun _ => False) H xs vs [] ∧ fp = []
def RepL (K : PySem.W.Frag) (B : Hp) (S : Addr → Prop) (H : Hp) : List D → List V → List Addr → Prop
  | [], vs, fp => vs = [] ∧ fp = []
  | d :: ds, vs, fp => ∃ v r f g, vs = v :: r ∧ Rep K B S H d v f ∧ RepL K B S H ds r g ∧ fp = f ++ g
end
theorem rd_mono {K : PySem.W.Frag} {H H' : Hp} (s : Same H H') {a : Addr} {xs : List V} (h : SqL K H a xs) : SqL K H' a xs := s.seq h
theorem sqT_mono {K : PySem.W.Frag} {H H' : Hp} (s : Same H H') {a : Addr} {xs : List V} (h : SqT K H a xs) : SqT K H' a xs := by
  rcases h with (h | ⟨o, h⟩) | h
  · exact .inl (.inl (s _ _ h))
  · exact .inl (.inr ⟨o, s _ _ h⟩)
  · exact .inr h
theorem DictAt.mono {H H' : Hp} (s : Same H H') {a : Addr} {k : Bool} {ks : List KT} {vs : List V} (h : DictAt H a k ks vs) : DictAt H' a k ks vs := by
  rcases h with ⟨z, kvs, h, r⟩ | ⟨z, kvs, h, r⟩
  · exact .inl ⟨z, kvs, s _ _ h, r⟩
  · exact .inr ⟨z, kvs, s _ _ h, r⟩
theorem ExcAt.mono {H H' : Hp} (s : Same H H') {a C : Addr} (h : ExcAt H a C) : ExcAt H' a C := let ⟨φ, h, r⟩ := h; ⟨φ, s _ _ h, r⟩
section
variable {K : PySem.W.Frag}
mutual
theorem Rep.mono {B B' H H' : Hp} {S S' : Addr → Prop} (sH : Same H H') (sB : Same B B') (sS : ∀ a, S a → S' a) : ∀ {d : D} {v : V} {fp : List Addr}, Rep K B S H d v fp → Rep K B' S' H' d v fp
  | .non, _, _, h => h
  | .bl _, _, _, h => h
  | .int _, _, _, h => h
  | .str _, _, _, h => h
  | .exc _, _, _, h => let ⟨⟨a, e, z⟩, r⟩ := h; ⟨⟨a, e, z.mono sH⟩, r⟩
  | .tup xs, v, fp, h => let ⟨a, vs, e, q, r⟩ := h; ⟨a, vs, e, sH _ _ q, RepL.mono sH sB sS r⟩
  | .lst .own xs, v, fp, h => let ⟨a, vs, f, e, q, r, z⟩ := h; ⟨a, vs, f, e, sH _ _ q, RepL.mono sH sB sS r, z⟩
  | .lst .bor xs, v, fp, h => let ⟨a, vs, e, q, r, z⟩ := h; ⟨a, vs, e, q.imp (fun y => ⟨sS _ y.1, rd_mono sH y.2⟩) (fun y => rd_mono sB y), RepL.mono sH sB sS r, z⟩
  | .lst .frz xs, v, fp, h => let ⟨a, vs, e, q, r, z⟩ := h; ⟨a, vs, e, rd_mono sB q, RepL.mono sH sB (fun _ x => x) r, z⟩
  | .dct .own k ks xs, v, fp, h => let ⟨a, vs, f, e, q, r, z⟩ := h; ⟨a, vs, f, e, q.mono sH, RepL.mono sH sB sS r, z⟩
  | .dct .bor k ks xs, v, fp, h => let ⟨a, vs, e, q, r, z⟩ := h; ⟨a, vs, e, q.imp (fun y => ⟨sS _ y.1, y.2.mono sH⟩) (fun y => y.mono sB), RepL.mono sH sB sS r, z⟩
  | .dct .frz k ks xs, v, fp, h => let ⟨a, vs, e, q, r, z⟩ := h; ⟨a, vs, e, q.mono sB, RepL.mono sH sB (fun _ x => x) r, z⟩
theorem RepL.mono {B B' H H' : Hp} {S S' : Addr → Prop} (sH : Same H H') (sB : Same B B') (sS : ∀ a, S a → S' a) : ∀ {ds : List D} {vs : List V} {fp : List Addr}, RepL K B S H ds vs fp → RepL K B' S' H' ds vs fp
  | [], _, _, h => h
  | d :: ds, vs, fp, h => let ⟨v, r, f, g, e, h1, h2, z⟩ := h; ⟨v, r, f, g, e, Rep.mono sH sB sS h1, RepL.mono sH sB sS h2, z⟩
end
theorem RepL.length {B H : Hp} {S : Addr → Prop} : ∀ {ds : List D} {vs : List V} {fp : List Addr}, RepL K B S H ds vs fp → ds.length = vs.length
  | [], _, _, h => by rw [h.1]; rfl
  | d :: ds, vs, fp, h => by
    obtain ⟨v, r, f, g, e, h1, h2, z⟩ := h
    rw [e, List.length_cons, List.length_cons, RepL.length h2]
theorem nil_of_append {f g : List Addr} (h : ([] : List Addr) = f ++ g) : f = [] ∧ g = [] := List.append_eq_nil_iff.mp h.symm
/-- an item of a list -/
theorem RepL.get {B H : Hp} {S : Addr → Prop} : ∀ {ds : List D} {vs : List V} {fp : List Addr} {i : Nat} {d : D}, RepL K B S H ds vs fp → ds[i]? = some d → ∃ v f, vs[i]? = some v ∧ Rep K B S H d v f ∧ List.Sublist f fp
  | [], _, _, i, _, _, e => by simp at e
  | d :: ds, vs, fp, 0, d', h, e => by
    obtain ⟨v, r, f, g, e1, h1, h2, z⟩ := h
    have e : d = d' := by simpa using e
    subst e e1 z
    exact ⟨v, f, rfl, h1, List.sublist_append_left _ _⟩
  | d :: ds, vs, fp, i + 1, d', h, e => by
    obtain ⟨v, r, f, g, e1, h1, h2, z⟩ := h
    subst e1 z
    obtain ⟨w, f', a1, a2, a3⟩ := RepL.get (i := i) h2 (by simpa using e)
    exact ⟨w, f', by simpa using a1, a2, a3.trans (List.sublist_append_right _ _)⟩
theorem RepL.append {B H : Hp} {S : Addr → Prop} : ∀ {xs ys : List D} {us vs : List V} {f g : List Addr}, RepL K B S H xs us f → RepL K B S H ys vs g → RepL K B S H (xs ++ ys) (us ++ vs) (f ++ g)
  | [], ys, us, vs, f, g, h, h' => by
    obtain ⟨rfl, rfl⟩ := h
    exact h'
  | d :: ds, ys, us, vs, f, g, h, h' => by
    obtain ⟨v, r, f1, f2, e1, h1, h2, z⟩ := h
    subst e1 z
    exact ⟨v, r ++ vs, f1, f2 ++ g, rfl, h1, RepL.append h2 h', by rw [List.append_assoc]⟩
theorem RepL.one {B H : Hp} {S : Addr → Prop} {d : D} {v : V} {f : List Addr} (h : Rep K B S H d v f) : RepL K B S H [d] [v] f := ⟨v, [], f, [], rfl, h, ⟨rfl, rfl⟩, (List.append_nil _).symm⟩
theorem RepL.split {B H : Hp} {S : Addr → Prop} : ∀ {xs ys : List D} {vs : List V} {f : List Addr}, RepL K B S H (xs ++ ys) vs f → ∃ us ws g h, vs = us ++ ws ∧ f = g ++ h ∧ RepL K B S H xs us g ∧ RepL K B S H ys ws h
  | [], ys, vs, f, h => ⟨[], vs, [], f, rfl, rfl, ⟨rfl, rfl⟩, h⟩
  | d :: ds, ys, vs, f, h => by
    obtain ⟨v, r, f1, f2, e1, h1, h2, z⟩ := h
    subst e1 z
    obtain ⟨us, ws, g, h', e1, e2, a, b⟩ := RepL.split h2
    subst e1 e2
    exact ⟨v :: us, ws, f1 ++ g, h', rfl, by rw [List.append_assoc], ⟨v, us, f1, g, rfl, h1, a, rfl⟩, b⟩
/-- a pure value holds no list -/
theorem pure_fp {B H : Hp} {S : Addr → Prop} : (∀ (d : D) {v : V} {fp : List Addr}, d.pure = true → Rep K B S H d v fp → fp = []) ∧ (∀ (ds : List D) {vs : List V} {fp : List Addr}, pureL ds = true → RepL K B S H ds vs fp → fp = []) := by
  refine ⟨fun d => ?_, fun ds => ?_⟩
  · exact D.rec (motive_1 := fun d => ∀ {v : V} {fp : List Addr}, d.pure = true → Rep K B S H d v fp → fp = []) (motive_2 := fun ds => ∀ {vs : List V} {fp : List Addr}, pureL ds = true → RepL K B S H ds vs fp → fp = [])
      (fun _ h => h.2) (fun _ _ _ _ h => h.2) (fun _ _ _ _ h => h.2) (fun _ _ _ _ h => h.2) (fun xs ih _ _ p h => let ⟨_, _, _, _, r⟩ := h; ih p r) (fun _ _ _ _ _ p => by cases p) (fun _ _ _ _ _ _ _ p => by cases p) (fun _ _ _ _ h => h.2) (fun _ h => h.2)
      (fun d r ih1 ih2 _ _ p h => by
        have p : (d.pure && pureL r) = true := p
        rw [Bool.and_eq_true] at p
        obtain ⟨_, _, _, _, _, h1, h2, z⟩ := h
        rw [z, ih1 p.1 h1, ih2 p.2 h2]; rfl) d
  · exact D.rec_1 (motive_1 := fun d => ∀ {v : V} {fp : List Addr}, d.pure = true → Rep K B S H d v fp → fp = []) (motive_2 := fun ds => ∀ {vs : List V} {fp : List Addr}, pureL ds = true → RepL K B S H ds vs fp → fp = [])
      (fun _ h => h.2) (fun _ _ _ _ h => h.2) (fun _ _ _ _ h => h.2) (fun _ _ _ _ h => h.2) (fun xs ih _ _ p h => let ⟨_, _, _, _, r⟩ := h; ih p r) (fun _ _ _ _ _ p => by cases p) (fun _ _ _ _ _ _ _ p => by cases p) (fun _ _ _ _ h => h.2) (fun _ h => h.2)
      (fun d r ih1 ih2 _ _ p h => by
        have p : (d.pure && pureL r) = true := p
        rw [Bool.and_eq_true] at p
        obtain ⟨_, _, _, _, _, h1, h2, z⟩ := h
        rw [z, ih1 p.1 h1, ih2 p.2 h2]; rfl) ds
end
end DL
set_option Elab.async false
set_option linter.all false
set_option maxRecDepth 100000
set_option maxHeartbeats 4000000
namespace DL
open PySem PySem.Spec PyProof.Rows L2
abbrev No : Addr → Prop := fun _ => False
section
variable {K : PySem.W.Frag}
mutual
theorem Rep.view {B H : Hp} {S : Addr → Prop} : ∀ {d : D} {v : V} {fp : List Addr}, Rep K B No H d v fp → (∀ a ∈ fp, S a) → Rep K B S H d.view v []
  | .non, _, _, h, _ => ⟨h.1, rfl⟩
  | .bl _, _, _, h, _ => ⟨h.1, rfl⟩
  | .int _, _, _, h, _ => ⟨h.1, rfl⟩
  | .str _, _, _, h, _ => ⟨h.1, rfl⟩
  | .exc _, _, _, h, _ => ⟨h.1, rfl⟩
  | .tup xs, v, fp, h, hs => let ⟨a, vs, e, q, r⟩ := h; ⟨a, vs, e, q, RepL.view r hs⟩
  | .lst .own xs, v, fp, h, hs => by
    obtain ⟨a, vs, f, e, q, r, z⟩ := h
    subst z
    exact ⟨a, vs, e, .inl ⟨hs a List.mem_cons_self, SqL.of q⟩, RepL.view r fun b hb => hs b (List.mem_cons_of_mem _ hb), rfl⟩
  | .lst .bor xs, v, fp, h, hs => let ⟨a, vs, e, q, r, z⟩ := h; ⟨a, vs, e, .inr (q.resolve_left fun y => y.1), RepL.view r (fun _ x => by cases x), rfl⟩
  | .lst .frz xs, v, fp, h, hs => let ⟨a, vs, e, q, r, z⟩ := h; ⟨a, vs, e, q, RepL.view (S := No) r (fun _ x => by cases x), rfl⟩
  | .dct .own kd ks xs, v, fp, h, hs => by
    obtain ⟨a, vs, f, e, q, r, z⟩ := h
    subst z
    exact ⟨a, vs, e, .inl ⟨hs a List.mem_cons_self, q⟩, RepL.view r fun b hb => hs b (List.mem_cons_of_mem _ hb), rfl⟩
  | .dct .bor kd ks xs, v, fp, h, hs => let ⟨a, vs, e, q, r, z⟩ := h; ⟨a, vs, e, .inr (q.resolve_left fun y => y.1), RepL.view r (fun _ x => by cases x), rfl⟩
  | .dct .frz kd ks xs, v, fp, h, hs => let ⟨a, vs, e, q, r, z⟩ := h; ⟨a, vs, e, q, RepL.view (S := No) r (fun _ x => by cases x), rfl⟩
theorem RepL.view {B H : Hp} {S : Addr → Prop} : ∀ {ds : List D} {vs : List V} {fp : List Addr}, RepL K B No H ds vs fp → (∀ a ∈ fp, S a) → RepL K B S H (viewL ds) vs []
  | [], _, _, h, _ => ⟨h.1, rfl⟩
  | d :: ds, vs, fp, h, hs => by
    obtain ⟨v, r, f, g, e, h1, h2, z⟩ := h
    subst z
    exact ⟨v, r, [], [], e, Rep.view h1 (fun b hb => hs b (List.mem_append_left _ hb)), RepL.view h2 (fun b hb => hs b (List.mem_append_right _ hb)), rfl⟩
end
theorem sqL_to {B B' H : Hp} {S : Addr → Prop} {a : Addr} {vs : List V} (sB : Same B B') (hs : ∀ a o, S a → H a = some o → B' a = some o) (q : (S a ∧ SqL K H a vs) ∨ SqL K B a vs) : SqL K B' a vs := by
  rcases q with ⟨s, (q | ⟨o, q⟩) | q⟩ | q
  · exact .inl (.inl (hs _ _ s q))
  · exact .inl (.inr ⟨o, hs _ _ s q⟩)
  · exact .inr q
  · exact sB.seq q
theorem dictAt_to {B B' H : Hp} {S : Addr → Prop} {a : Addr} {kd : Bool} {ks : List KT} {vs : List V} (sB : Same B B') (hs : ∀ a o, S a → H a = some o → B' a = some o) (q : (S a ∧ DictAt H a kd ks vs) ∨ DictAt B a kd ks vs) : DictAt B' a kd ks vs := by
  rcases q with ⟨s, ⟨z, kvs, q, r⟩ | ⟨z, kvs, q, r⟩⟩ | q
  · exact .inl ⟨z, kvs, hs _ _ s q, r⟩
  · exact .inr ⟨z, kvs, hs _ _ s q, r⟩
  · exact q.mono sB
mutual
/-- all of it put to rest -/
theorem Rep.frz {B B' H : Hp} {S : Addr → Prop} (sB : Same B B') (hs : ∀ a o, S a → H a = some o → B' a = some o) : ∀ {d : D} {v : V} {fp : List Addr}, Rep K B S H d v fp → (∀ a ∈ fp, ∀ o, H a = some o → B' a = some o) → Rep K B' No H d.frz v []
  | .non, _, _, h, _ => ⟨h.1, rfl⟩
  | .bl _, _, _, h, _ => ⟨h.1, rfl⟩
  | .int _, _, _, h, _ => ⟨h.1, rfl⟩
  | .str _, _, _, h, _ => ⟨h.1, rfl⟩
  | .exc _, _, _, h, _ => ⟨h.1, rfl⟩
  | .tup xs, v, fp, h, hf => let ⟨a, vs, e, q, r⟩ := h; ⟨a, vs, e, q, RepL.frz sB hs r hf⟩
  | .lst .own xs, v, fp, h, hf => by
    obtain ⟨a, vs, f, e, q, r, z⟩ := h
    subst z
    exact ⟨a, vs, e, SqL.of (hf a List.mem_cons_self _ q), RepL.frz sB hs r fun b hb => hf b (List.mem_cons_of_mem _ hb), rfl⟩
  | .lst .bor xs, v, fp, h, hf => let ⟨a, vs, e, q, r, z⟩ := h; ⟨a, vs, e, sqL_to sB hs q, RepL.frz sB hs r (fun _ x => by cases x), rfl⟩
  | .lst .frz xs, v, fp, h, hf => let ⟨a, vs, e, q, r, z⟩ := h; ⟨a, vs, e, rd_mono sB q, RepL.frz sB (fun _ _ x => x.elim) r (fun _ x => by cases x), rfl⟩
  | .dct .own kd ks xs, v, fp, h, hf => by
    obtain ⟨a, vs, f, e, q, r, z⟩ := h
    subst z
    refine ⟨a, vs, e, ?_, RepL.frz sB hs r fun b hb => hf b (List.mem_cons_of_mem _ hb), rfl⟩
    exact dictAt_to (S := fun b => b = a) sB (fun b o eb => by rw [eb]; exact hf a List.mem_cons_self o) (.inl ⟨rfl, q⟩)
  | .dct .bor kd ks xs, v, fp, h, hf => let ⟨a, vs, e, q, r, z⟩ := h; ⟨a, vs, e, dictAt_to sB hs q, RepL.frz sB hs r (fun _ x => by cases x), rfl⟩
  | .dct .frz kd ks xs, v, fp, h, hf => let ⟨a, vs, e, q, r, z⟩ := h; ⟨a, vs, e, q.mono sB, RepL.frz sB (fun _ _ x => x.elim) r (fun _ x => by cases x), rfl⟩
theorem RepL.frz {B B' H : Hp} {S : Addr → Prop} (sB : Same B B') (hs : ∀ a o, S a → H a = some o → B' a = some o) : ∀ {ds : List D} {vs : List V} {fp : List Addr}, RepL K B S H ds vs fp → (∀ a ∈ fp, ∀ o, H a = some o → B' a = some o) → RepL K B' No H (frzL ds) vs []
  | [], _, _, h, _ => ⟨h.1, rfl⟩
  | d :: ds, vs, fp, h, hf => by
    obtain ⟨v, r, f, g, e, h1, h2, z⟩ := h
    subst z
    exact ⟨v, r, [], [], e, Rep.frz sB hs h1 (fun b hb => hf b (List.mem_append_left _ hb)), RepL.frz sB hs h2 (fun b hb => hf b (List.mem_append_right _ hb)), rfl⟩
end
theorem sqL_back {B B' H : Hp} {S : Addr → Prop} {a : Addr} {vs : List V} (sH : Same B H) (hb : ∀ a o, B a = some o → B' a = some o ∨ S a) (q : SqL K B a vs) : (S a ∧ SqL K H a vs) ∨ SqL K B' a vs := by
  rcases q with (q | ⟨o, q⟩) | q
  · exact (hb _ _ q).symm.imp (fun s => ⟨s, SqL.of (sH _ _ q)⟩) fun z => .inl (.inl z)
  · exact (hb _ _ q).symm.imp (fun s => ⟨s, .inl (.inr ⟨o, sH _ _ q⟩)⟩) fun z => .inl (.inr ⟨o, z⟩)
  · exact .inr (.inr q)
theorem dictAt_back {B B' H : Hp} {S : Addr → Prop} {a : Addr} {kd : Bool} {ks : List KT} {vs : List V} (sH : Same B H) (hb : ∀ a o, B a = some o → B' a = some o ∨ S a) (q : DictAt B a kd ks vs) : (S a ∧ DictAt H a kd ks vs) ∨ DictAt B' a kd ks vs := by
  rcases q with ⟨y, kvs, q, r⟩ | ⟨y, kvs, q, r⟩
  · exact (hb _ _ q).symm.imp (fun s => ⟨s, .inl ⟨y, kvs, sH _ _ q, r⟩⟩) fun z => .inl ⟨y, kvs, z, r⟩
  · exact (hb _ _ q).symm.imp (fun s => ⟨s, .inr ⟨y, kvs, sH _ _ q, r⟩⟩) fun z => .inr ⟨y, kvs, z, r⟩
mutual
/-- what was at rest for a callee may be owned by the caller -/
theorem Rep.toBor {B B' H : Hp} {S : Addr → Prop} (sH : Same B H) (hb : ∀ a o, B a = some o → B' a = some o ∨ S a) : ∀ {d : D} {v : V} {fp : List Addr}, Rep K B No H d v fp → Rep K B' S H d.toBor v fp
  | .non, _, _, h => h
  | .bl _, _, _, h => h
  | .int _, _, _, h => h
  | .str _, _, _, h => h
  | .exc _, _, _, h => h
  | .tup xs, v, fp, h => let ⟨a, vs, e, q, r⟩ := h; ⟨a, vs, e, q, RepL.toBor sH hb r⟩
  | .lst .own xs, v, fp, h => let ⟨a, vs, f, e, q, r, z⟩ := h; ⟨a, vs, f, e, q, RepL.toBor sH hb r, z⟩
  | .lst .bor xs, v, fp, h => let ⟨a, vs, e, q, r, z⟩ := h; ⟨a, vs, e, sqL_back sH hb (q.resolve_left fun y => y.1), RepL.toBor sH hb r, z⟩
  | .lst .frz xs, v, fp, h => let ⟨a, vs, e, q, r, z⟩ := h; ⟨a, vs, e, sqL_back sH hb q, RepL.toBor sH hb r, z⟩
  | .dct .own kd ks xs, v, fp, h => let ⟨a, vs, f, e, q, r, z⟩ := h; ⟨a, vs, f, e, q, RepL.toBor sH hb r, z⟩
  | .dct .bor kd ks xs, v, fp, h => let ⟨a, vs, e, q, r, z⟩ := h; ⟨a, vs, e, dictAt_back sH hb (q.resolve_left fun y => y.1), RepL.toBor sH hb r, z⟩
  | .dct .frz kd ks xs, v, fp, h => let ⟨a, vs, e, q, r, z⟩ := h; ⟨a, vs, e, dictAt_back sH hb q, RepL.toBor sH hb r, z⟩
theorem RepL.toBor {B B' H : Hp} {S : Addr → Prop} (sH : Same B H) (hb : ∀ a o, B a = some o → B' a = some o ∨ S a) : ∀ {ds : List D} {vs : List V} {fp : List Addr}, RepL K B No H ds vs fp → RepL K B' S H (toBorL ds) vs fp
  | [], _, _, h => h
  | d :: ds, vs, fp, h => let ⟨v, r, f, g, e, h1, h2, z⟩ := h; ⟨v, r, f, g, e, Rep.toBor sH hb h1, RepL.toBor sH hb h2, z⟩
end
mutual
/-- no look in it: it stands by itself -/
theorem Rep.noBor {B H : Hp} {S : Addr → Prop} : ∀ {d : D} {v : V} {fp : List Addr}, d.hasBor = false → Rep K B S H d v fp → Rep K B No H d v fp
  | .non, _, _, _, h => h
  | .bl _, _, _, _, h => h
  | .int _, _, _, _, h => h
  | .str _, _, _, _, h => h
  | .exc _, _, _, _, h => h
  | .tup xs, v, fp, p, h => let ⟨a, vs, e, q, r⟩ := h; ⟨a, vs, e, q, RepL.noBor (ds := xs) p r⟩
  | .lst .own xs, v, fp, p, h => let ⟨a, vs, f, e, q, r, z⟩ := h; ⟨a, vs, f, e, q, RepL.noBor (ds := xs) (by simpa [D.hasBor] using p) r, z⟩
  | .lst .bor xs, v, fp, p, h => by simp [D.hasBor] at p
  | .lst .frz xs, v, fp, p, h => h
  | .dct .own kd ks xs, v, fp, p, h => let ⟨a, vs, f, e, q, r, z⟩ := h; ⟨a, vs, f, e, q, RepL.noBor (ds := xs) (by simpa [D.hasBor] using p) r, z⟩
  | .dct .bor kd ks xs, v, fp, p, h => by simp [D.hasBor] at p
  | .dct .frz kd ks xs, v, fp, p, h => h
theorem RepL.noBor {B H : Hp} {S : Addr → Prop} : ∀ {ds : List D} {vs : List V} {fp : List Addr}, hasBorL ds = false → RepL K B S H ds vs fp → RepL K B No H ds vs fp
  | [], _, _, _, h => h
  | d :: ds, vs, fp, p, h => by
    obtain ⟨v, r, f, g, e, h1, h2, z⟩ := h
    have p : (d.hasBor || hasBorL ds) = false := p
    rw [Bool.or_eq_false_iff] at p
    exact ⟨v, r, f, g, e, Rep.noBor p.1 h1, RepL.noBor p.2 h2, z⟩
end
/-- a thing that may be written -/
def mutO : HO → Prop
  | .lst _ => True
  | .dK _ => True
  | .dT _ => True
  | _ => False
/-- only what is in M was written -/
structure Keep (H H' : Hp) (M : List Addr) : Prop where
  keep : ∀ a o, H a = some o → a ∉ M → H' a = some o
  muts : ∀ a ∈ M, ∃ o, H a = some o ∧ mutO o
theorem Keep.imm {H H' : Hp} {M : List Addr} (k : Keep H H' M) {a : Addr} {o : HO} (h : H a = some o) (n : ¬ mutO o) : H' a = some o := k.keep a o h fun m => by
  obtain ⟨u, e, z⟩ := k.muts a m
  rw [h] at e
  cases e
  exact n z
mutual
theorem Rep.keep {B H H' : Hp} {M : List Addr} (k : Keep H H' M) : ∀ {d : D} {v : V} {fp : List Addr}, Rep K B No H d v fp → (∀ a ∈ fp, a ∉ M) → Rep K B No H' d v fp
  | .non, _, _, h, _ => h
  | .bl _, _, _, h, _ => h
  | .int _, _, _, h, _ => h
  | .str _, _, _, h, _ => h
  | .exc _, _, _, h, _ => let ⟨⟨a, e, φ, h1, h2⟩, r⟩ := h; ⟨⟨a, e, φ, k.imm h1 (fun x => x), h2⟩, r⟩
  | .tup xs, v, fp, h, hf => by
    obtain ⟨a, vs, e, q, r⟩ := h
    exact ⟨a, vs, e, k.imm q (fun x => x), RepL.keep k r hf⟩
  | .lst .own xs, v, fp, h, hf => by
    obtain ⟨a, vs, f, e, q, r, z⟩ := h
    subst z
    exact ⟨a, vs, f, e, k.keep _ _ q (hf a List.mem_cons_self), RepL.keep k r fun b hb => hf b (List.mem_cons_of_mem _ hb), rfl⟩
  | .lst .bor xs, v, fp, h, hf => let ⟨a, vs, e, q, r, z⟩ := h; ⟨a, vs, e, .inr (q.resolve_left fun y => y.1), RepL.keep k r (fun _ x => by cases x), z⟩
  | .lst .frz xs, v, fp, h, hf => let ⟨a, vs, e, q, r, z⟩ := h; ⟨a, vs, e, q, RepL.keep k r (fun _ x => by cases x), z⟩
  | .dct .own kd ks xs, v, fp, h, hf => by
    obtain ⟨a, vs, f, e, q, r, z⟩ := h
    subst z
    have hm := hf a List.mem_cons_self
    refine ⟨a, vs, f, e, ?_, RepL.keep k r fun b hb => hf b (List.mem_cons_of_mem _ hb), rfl⟩
    rcases q with ⟨y, kvs, q, w⟩ | ⟨y, kvs, q, w⟩
    · exact .inl ⟨y, kvs, k.keep _ _ q hm, w⟩
    · exact .inr ⟨y, kvs, k.keep _ _ q hm, w⟩
  | .dct .bor kd ks xs, v, fp, h, hf => let ⟨a, vs, e, q, r, z⟩ := h; ⟨a, vs, e, .inr (q.resolve_left fun y => y.1), RepL.keep k r (fun _ x => by cases x), z⟩
  | .dct .frz kd ks xs, v, fp, h, hf => let ⟨a, vs, e, q, r, z⟩ := h; ⟨a, vs, e, q, RepL.keep k r (fun _ x => by cases x), z⟩
theorem RepL.keep {B H H' : Hp} {M : List Addr} (k : Keep H H' M) : ∀ {ds : List D} {vs : List V} {fp : List Addr}, RepL K B No H ds vs fp → (∀ a ∈ fp, a ∉ M) → RepL K B No H' ds vs fp
  | [], _, _, h, _ => h
  | d :: ds, vs, fp, h, hf => by
    obtain ⟨v, r, f, g, e, h1, h2, z⟩ := h
    subst z
    exact ⟨v, r, f, g, e, Rep.keep k h1 (fun b hb => hf b (List.mem_append_left _ hb)), RepL.keep k h2 (fun b hb => hf b (List.mem_append_right _ hb)), rfl⟩
end
mutual
/-- what is owned stands and may be written -/
theorem Rep.own {B H : Hp} {S : Addr → Prop} : ∀ {d : D} {v : V} {fp : List Addr}, Rep K B S H d v fp → ∀ a ∈ fp, ∃ o, H a = some o ∧ mutO o
  | .non, _, _, h => by rw [h.2]; intro a m; cases m
  | .bl _, _, _, h => by rw [h.2]; intro a m; cases m
  | .int _, _, _, h => by rw [h.2]; intro a m; cases m
  | .str _, _, _, h => by rw [h.2]; intro a m; cases m
  | .exc _, _, _, h => by rw [h.2]; intro a m; cases m
  | .tup xs, v, fp, h => let ⟨a, vs, e, q, r⟩ := h; RepL.own r
  | .lst .own xs, v, fp, h => by
    obtain ⟨a, vs, f, e, q, r, z⟩ := h
    subst z
    intro b hb
    rcases List.mem_cons.mp hb with e | e
    · subst e; exact ⟨_, q, trivial⟩
    · exact RepL.own r b e
  | .lst .bor xs, v, fp, h => by obtain ⟨a, vs, e, q, r, z⟩ := h; rw [z]; intro a m; cases m
  | .lst .frz xs, v, fp, h => by obtain ⟨a, vs, e, q, r, z⟩ := h; rw [z]; intro a m; cases m
  | .dct .own kd ks xs, v, fp, h => by
    obtain ⟨a, vs, f, e, q, r, z⟩ := h
    subst z
    intro b hb
    rcases List.mem_cons.mp hb with e | e
    · subst e
      rcases q with ⟨y, kvs, q, w⟩ | ⟨y, kvs, q, w⟩
      · exact ⟨_, q, trivial⟩
      · exact ⟨_, q, trivial⟩
    · exact RepL.own r b e
  | .dct .bor kd ks xs, v, fp, h => by obtain ⟨a, vs, e, q, r, z⟩ := h; rw [z]; intro a m; cases m
  | .dct .frz kd ks xs, v, fp, h => by obtain ⟨a, vs, e, q, r, z⟩ := h; rw [z]; intro a m; cases m
theorem RepL.own {B H : Hp} {S : Addr → Prop} : ∀ {ds : List D} {vs : List V} {fp : List Addr}, RepL K B S H ds vs fp → ∀ a ∈ fp, ∃ o, H a = some o ∧ mutO o
  | [], _, _, h => by rw [h.2]; intro a m; cases m
  | d :: ds, vs, fp, h => by
    obtain ⟨v, r, f, g, e, h1, h2, z⟩ := h
    subst z
    intro b hb
    rcases List.mem_append.mp hb with e | e
    · exact Rep.own h1 b e
    · exact RepL.own h2 b e
end

/-! ### the state of a body: H0 the heap at the entry, B0 what of it may be met; B what is at rest; P what the names own; F what is held besides -/
def RepS (K : PySem.W.Frag) (B H : Hp) : SD → L2.St → List Addr → Prop
  | [], σ, P => σ = [] ∧ P = []
  | none :: r, σ, P => ∃ o τ, σ = o :: τ ∧ RepS K B H r τ P
  | some d :: r, σ, P => ∃ v τ f g, σ = some v :: τ ∧ Rep K B No H d v f ∧ RepS K B H r τ g ∧ P = f ++ g
structure SI (K : PySem.W.Frag) (H0 B0 B H : Hp) (σ : L2.St) (τ : SD) (P : List Addr) (F : Addr → Prop) : Prop where
  bh : Same B H
  h0 : Same H0 H
  b0 : Same B0 B
  nb : ∀ a, B a ≠ none → B0 a ≠ none ∨ H0 a = none
  rep : RepS K B H τ σ P
  nd : P.Nodup
  own : ∀ a ∈ P, B a = none ∧ H0 a = none ∧ ¬ F a
  fr : ∀ a, F a → B a = none ∧ H a ≠ none
/-- what a value owns -/
structure Vok (H0 B H : Hp) (P : List Addr) (F : Addr → Prop) (fp : List Addr) : Prop where
  nd : fp.Nodup
  own : ∀ a ∈ fp, B a = none ∧ H0 a = none ∧ H a ≠ none ∧ a ∉ P ∧ ¬ F a
theorem Vok.nil {H0 B H : Hp} {P : List Addr} {F : Addr → Prop} : Vok H0 B H P F [] := ⟨List.nodup_nil, fun a m => by cases m⟩
theorem Vok.sub {H0 B H : Hp} {P : List Addr} {F : Addr → Prop} {fp fq : List Addr} (h : Vok H0 B H P F fp) (s : List.Sublist fq fp) : Vok H0 B H P F fq := ⟨h.nd.sublist s, fun a m => h.own a (s.subset m)⟩
theorem RepS.own {B H : Hp} : ∀ {τ : SD} {σ : L2.St} {P : List Addr}, RepS K B H τ σ P → ∀ a ∈ P, ∃ o, H a = some o ∧ mutO o
  | [], _, _, h => by rw [h.2]; intro a m; cases m
  | none :: r, σ, P, h => by obtain ⟨o, τ, e, h⟩ := h; exact RepS.own h
  | some d :: r, σ, P, h => by
    obtain ⟨v, τ, f, g, e, h1, h2, z⟩ := h
    subst z
    intro b hb
    rcases List.mem_append.mp hb with e | e
    · exact Rep.own h1 b e
    · exact RepS.own h2 b e
theorem RepS.mono {B B' H H' : Hp} (sH : Same H H') (sB : Same B B') : ∀ {τ : SD} {σ : L2.St} {P : List Addr}, RepS K B H τ σ P → RepS K B' H' τ σ P
  | [], _, _, h => h
  | none :: r, σ, P, h => let ⟨o, τ, e, h⟩ := h; ⟨o, τ, e, RepS.mono sH sB h⟩
  | some d :: r, σ, P, h => let ⟨v, τ, f, g, e, h1, h2, z⟩ := h; ⟨v, τ, f, g, e, Rep.mono sH sB (fun _ x => x) h1, RepS.mono sH sB h2, z⟩
theorem RepS.get {B H : Hp} : ∀ {τ : SD} {σ : L2.St} {P : List Addr} {i : Nat} {d : D}, RepS K B H τ σ P → τ[i]? = some (some d) → ∃ v f, σ[i]? = some (some v) ∧ Rep K B No H d v f ∧ List.Sublist f P
  | [], _, _, i, _, _, e => by simp at e
  | none :: r, σ, P, 0, d, h, e => by simp at e
  | none :: r, σ, P, i + 1, d, h, e => by
    obtain ⟨o, τ, e1, h⟩ := h
    subst e1
    obtain ⟨v, f, a1, a2, a3⟩ := RepS.get (i := i) h (by simpa using e)
    exact ⟨v, f, by simpa using a1, a2, a3⟩
  | some d :: r, σ, P, 0, d', h, e => by
    obtain ⟨v, τ, f, g, e1, h1, h2, z⟩ := h
    have e : d = d' := by simpa using e
    subst e e1 z
    exact ⟨v, f, rfl, h1, List.sublist_append_left _ _⟩
  | some d :: r, σ, P, i + 1, d', h, e => by
    obtain ⟨v, τ, f, g, e1, h1, h2, z⟩ := h
    subst e1 z
    obtain ⟨w, f', a1, a2, a3⟩ := RepS.get (i := i) h2 (by simpa using e)
    exact ⟨w, f', by simpa using a1, a2, a3.trans (List.sublist_append_right _ _)⟩
variable {H0 B0 B H : Hp} {σ : L2.St} {τ : SD} {P : List Addr} {F : Addr → Prop}
theorem SI.stands (I : SI K H0 B0 B H σ τ P F) {a : Addr} (h : a ∈ P) : H a ≠ none := by
  obtain ⟨o, e, _⟩ := I.rep.own a h
  rw [e]; exact fun z => by cases z
theorem SI.anti {F' : Addr → Prop} (I : SI K H0 B0 B H σ τ P F) (h : ∀ a, F' a → F a) : SI K H0 B0 B H σ τ P F' :=
  ⟨I.bh, I.h0, I.b0, I.nb, I.rep, I.nd, fun a m => let ⟨x, y, z⟩ := I.own a m; ⟨x, y, fun q => z (h a q)⟩, fun a m => I.fr a (h a m)⟩
/-- the frame with a value's own beside -/
theorem SI.hold {fp : List Addr} (I : SI K H0 B0 B H σ τ P F) (v : Vok H0 B H P F fp) : SI K H0 B0 B H σ τ P (fun a => a ∈ fp ∨ F a) :=
  ⟨I.bh, I.h0, I.b0, I.nb, I.rep, I.nd, fun a m => let ⟨x, y, z⟩ := I.own a m; ⟨x, y, fun q => q.elim (fun r => (v.own a r).2.2.2.1 m) z⟩, fun a m => m.elim (fun r => ⟨(v.own a r).1, (v.own a r).2.2.1⟩) (I.fr a)⟩
/-- the heap grows -/
theorem SI.grow {H' : Hp} (I : SI K H0 B0 B H σ τ P F) (s : Same H H') : SI K H0 B0 B H' σ τ P F :=
  ⟨I.bh.trans s, I.h0.trans s, I.b0, I.nb, I.rep.mono s (fun _ _ x => x), I.nd, I.own, fun a m => ⟨(I.fr a m).1, fun z => (I.fr a m).2 (s.free z)⟩⟩
theorem Vok.grow {H' B' : Hp} {fp : List Addr} (v : Vok H0 B H P F fp) (s : Same H H') (hb : ∀ a ∈ fp, B' a = none) : Vok H0 B' H' P F fp :=
  ⟨v.nd, fun a m => let ⟨x, y, z, p, q⟩ := v.own a m; ⟨hb a m, y, fun n => z (s.free n), p, q⟩⟩
/-- a new address -/
theorem SI.newAt (I : SI K H0 B0 B H σ τ P F) {p : Addr} (h : H p = none) : B p = none ∧ H0 p = none ∧ p ∉ P ∧ ¬ F p :=
  ⟨I.bh.free h, I.h0.free h, fun m => I.stands m h, fun m => (I.fr p m).2 h⟩
end
end DL
set_option Elab.async false
set_option linter.all false
set_option maxRecDepth 100000
set_option maxHeartbeats 4000000
/-! ### readings by deep values -/
namespace DL
open PySem PySem.Spec PyProof.Rows L2
/-- what is wanted of an exception: its class, the names, the heap -/
abbrev XY := Addr → L2.St → Hp → Prop
section
variable (K : PySem.W.Frag) (Y : XY) (H0 B0 B H : Hp) (σ : L2.St) (τ : SD) (P : List Addr) (F : Addr → Prop)
def Out (Q : VK) (d : D) : Prop := ∀ v H' B' fp, SI K H0 B0 B' H' σ τ P F → Same H H' → Same B B' → Rep K B' (· ∈ P) H' d v fp → Vok H0 B' H' P F fp → Q v H'
def OutX (C : Addr) : Prop := ∀ H' B', SI K H0 B0 B' H' σ τ P F → Same H H' → Same B B' → Y C σ H'
def OutL (Q : List V → Hp → Prop) (ds : List D) : Prop := ∀ vs H' B' fp, SI K H0 B0 B' H' σ τ P F → Same H H' → Same B B' → RepL K B' (· ∈ P) H' ds vs fp → Vok H0 B' H' P F fp → Q vs H'
def OutB (Q : Bool → Hp → Prop) (b : Bool) : Prop := ∀ H' B', SI K H0 B0 B' H' σ τ P F → Same H H' → Same B B' → Q b H'
def Goal (Q : VK) : Res D → Prop
  | .ok d => Out K H0 B0 B H σ τ P F Q d
  | .exn C => OutX K Y H0 B0 B H σ τ P F C
  | .bad => False
def GoalL (Q : List V → Hp → Prop) : Res (List D) → Prop
  | .ok d => OutL K H0 B0 B H σ τ P F Q d
  | .exn C => OutX K Y H0 B0 B H σ τ P F C
  | .bad => False
def GoalB (Q : Bool → Hp → Prop) : Res Bool → Prop
  | .ok d => OutB K H0 B0 B H σ τ P F Q d
  | .exn C => OutX K Y H0 B0 B H σ τ P F C
  | .bad => False
end
def tM (K : PySem.W.Frag) (Y : XY) (f : SD → Res D) : TE := fun σ H Q => ∃ H0 B0 B τ P F, SI K H0 B0 B H σ τ P F ∧ Goal K Y H0 B0 B H σ τ P F Q (f τ)
def tML (K : PySem.W.Frag) (Y : XY) (f : SD → Res (List D)) : TA := fun σ H Q => ∃ H0 B0 B τ P F, SI K H0 B0 B H σ τ P F ∧ GoalL K Y H0 B0 B H σ τ P F Q (f τ)
def tMB (K : PySem.W.Frag) (Y : XY) (f : SD → Res Bool) : TT := fun σ H Q => ∃ H0 B0 B τ P F, SI K H0 B0 B H σ τ P F ∧ GoalB K Y H0 B0 B H σ τ P F Q (f τ)
section
variable {K : PySem.W.Frag} {Y : XY} {H0 B0 B H : Hp} {σ : L2.St} {τ : SD} {P : List Addr} {F : Addr → Prop}
theorem OutX.later {H1 B1 : Hp} {F' : Addr → Prop} {C : Addr} (h : OutX K Y H0 B0 B H σ τ P F C) (sH : Same H H1) (sB : Same B B1) (hF : ∀ a, F a → F' a) : OutX K Y H0 B0 B1 H1 σ τ P F' C :=
  fun H' B' I s b => h H' B' (I.anti hF) (sH.trans s) (sB.trans b)
theorem Out.later {H1 B1 : Hp} {Q : VK} {d : D} (h : Out K H0 B0 B H σ τ P F Q d) (sH : Same H H1) (sB : Same B B1) : Out K H0 B0 B1 H1 σ τ P F Q d :=
  fun v H' B' fp I s b r k => h v H' B' fp I (sH.trans s) (sB.trans b) r k
theorem Goal.later {H1 B1 : Hp} {Q : VK} {r : Res D} (h : Goal K Y H0 B0 B H σ τ P F Q r) (sH : Same H H1) (sB : Same B B1) : Goal K Y H0 B0 B1 H1 σ τ P F Q r := by
  cases r with
  | ok d => exact Out.later h sH sB
  | exn C => exact OutX.later h sH sB fun _ x => x
  | bad => exact h
/-- a value that owns nothing, the heap as it is -/
theorem Out.here {Q : VK} {d : D} {v : V} (h : Out K H0 B0 B H σ τ P F Q d) (I : SI K H0 B0 B H σ τ P F) (r : Rep K B (· ∈ P) H d v []) : Q v H := h v H B [] I (Same.refl _) (Same.refl _) r Vok.nil
/-- a value that owns what was owned -/
theorem Out.hereO {Q : VK} {d : D} {v : V} {fp : List Addr} (h : Out K H0 B0 B H σ τ P F Q d) (I : SI K H0 B0 B H σ τ P F) (r : Rep K B (· ∈ P) H d v fp) (k : Vok H0 B H P F fp) : Q v H := h v H B fp I (Same.refl _) (Same.refl _) r k
theorem sameUpd' {p : Addr} {o : HO} (h : H p = none) : Same H (upd H p o) := fun b u e => by
  rw [upd_ne (ne_of_none e h)]; exact e
/-- a new list -/
theorem Out.newL {Q : VK} {ds : List D} {vs : List V} {fp : List Addr} {p : Addr} (h : Out K H0 B0 B H σ τ P F Q (.lst .own ds)) (I : SI K H0 B0 B H σ τ P F) (r : RepL K B (· ∈ P) H ds vs fp) (k : Vok H0 B H P F fp) (hp : H p = none) : Q (.ref p) (upd H p (.lst vs)) := by
  have s := sameUpd' (o := .lst vs) hp
  obtain ⟨n1, n2, n3, n4⟩ := I.newAt hp
  refine h (.ref p) _ B (p :: fp) (I.grow s) s (Same.refl _) ⟨p, vs, fp, rfl, upd_same, r.mono s (Same.refl _) (fun _ x => x), rfl⟩ ⟨List.nodup_cons.mpr ⟨fun m => (k.own p m).2.2.1 hp, k.nd⟩, fun a m => ?_⟩
  rcases List.mem_cons.mp m with e | e
  · subst e
    exact ⟨n1, n2, (by rw [upd_same]; exact Option.some_ne_none _), n3, n4⟩
  · obtain ⟨a1, a2, a3, a4, a5⟩ := k.own a e
    exact ⟨a1, a2, fun z => a3 (s.free z), a4, a5⟩
/-- a new tuple -/
theorem Out.newT {Q : VK} {ds : List D} {vs : List V} {fp : List Addr} {p : Addr} (h : Out K H0 B0 B H σ τ P F Q (.tup ds)) (I : SI K H0 B0 B H σ τ P F) (r : RepL K B (· ∈ P) H ds vs fp) (k : Vok H0 B H P F fp) (hp : H p = none) : Q (.ref p) (upd H p (.tup vs)) := by
  have s := sameUpd' (o := .tup vs) hp
  exact h (.ref p) _ B fp (I.grow s) s (Same.refl _) ⟨p, vs, rfl, upd_same, r.mono s (Same.refl _) (fun _ x => x)⟩ (k.grow s fun a m => (k.own a m).1)
/-- behind a second value the first one is still there -/
theorem Vok.both {H1 B1 : Hp} {f g : List Addr} (k : Vok H0 B H P F f) (sH : Same H H1) (I1 : SI K H0 B0 B1 H1 σ τ P (fun a => a ∈ f ∨ F a)) (k' : Vok H0 B1 H1 P (fun a => a ∈ f ∨ F a) g) : Vok H0 B1 H1 P F (f ++ g) := by
  refine ⟨List.nodup_append.mpr ⟨k.nd, k'.nd, fun a ha b hb e => ?_⟩, fun a m => ?_⟩
  · subst e
    exact (k'.own a hb).2.2.2.2 (.inl ha)
  · rcases List.mem_append.mp m with e | e
    · obtain ⟨a1, a2, a3, a4, a5⟩ := k.own a e
      exact ⟨(I1.fr a (.inl e)).1, a2, (I1.fr a (.inl e)).2, a4, a5⟩
    · obtain ⟨a1, a2, a3, a4, a5⟩ := k'.own a e
      exact ⟨a1, a2, a3, a4, fun z => a5 (.inr z)⟩
theorem Vok.left {f g : List Addr} (k : Vok H0 B H P F (f ++ g)) : Vok H0 B H P F f := k.sub (List.sublist_append_left _ _)
theorem Vok.right {f g : List Addr} (k : Vok H0 B H P F (f ++ g)) : Vok H0 B H P F g := k.sub (List.sublist_append_right _ _)

theorem PE.imp {X : Cx} {e : Expr} {t t' : TE} (h : PE X e t) (hi : ∀ σ H Q, t' σ H Q → t σ H Q) : PE X e t' := fun pins s σ H Q I hw => h pins s σ H Q I (hi σ H Q hw)
theorem PT.imp {X : Cx} {e : Expr} {t t' : TT} (h : PT X e t) (hi : ∀ σ H Q, t' σ H Q → t σ H Q) : PT X e t' := fun pins s σ H Q I hw => h pins s σ H Q I (hi σ H Q hw)
theorem PA.imp {X : Cx} {es : List Expr} {t t' : TA} (h : PA X es t) (hi : ∀ σ H Q, t' σ H Q → t σ H Q) : PA X es t' := fun pos pins s σ H Q I hw => h pos pins s σ H Q I (hi σ H Q hw)
theorem PS.imp {X : Cx} {st : Stmt} {t t' : TS} (h : PS X st t) (hi : ∀ E σ H, t' E σ H → t E σ H) : PS X st t' := fun pins s σ H E I hw => h pins s σ H E I (hi E σ H hw)
theorem PSs.imp {X : Cx} {st : List Stmt} {t t' : TS} (h : PSs X st t) (hi : ∀ E σ H, t' E σ H → t E σ H) : PSs X st t' := fun pins s σ H E I hw => h pins s σ H E I (hi E σ H hw)

/-! sequencing -/
theorem tM.seq {f : SD → Res D} {Q' : V → Hp → Prop} {g : D → Res D} {Q : VK} (I : SI K H0 B0 B H σ τ P F) (h : Goal K Y H0 B0 B H σ τ P F Q ((f τ).bind g))
    (k : ∀ d v H1 B1 fp, f τ = .ok d → SI K H0 B0 B1 H1 σ τ P F → Same H H1 → Same B B1 → Rep K B1 (· ∈ P) H1 d v fp → Vok H0 B1 H1 P F fp → Goal K Y H0 B0 B1 H1 σ τ P F Q (g d) → Q' v H1) : tM K Y f σ H Q' := by
  refine ⟨H0, B0, B, τ, P, F, I, ?_⟩
  cases e : f τ with
  | ok d =>
    rw [e] at h
    intro v H1 B1 fp I1 s1 b1 r1 k1
    exact k d v H1 B1 fp e I1 s1 b1 r1 k1 (Goal.later h s1 b1)
  | exn C => rw [e] at h; exact h
  | bad => rw [e] at h; exact h
/-- two values -/
theorem tM.seq2 {f1 f2 : SD → Res D} {Q' : V → V → Hp → Prop} {g : D → D → Res D} {Q : VK} (I : SI K H0 B0 B H σ τ P F) (h : Goal K Y H0 B0 B H σ τ P F Q ((f1 τ).bind fun x => (f2 τ).bind (g x)))
    (k : ∀ d1 d2 v1 v2 H2 B2 fp1 fp2, f1 τ = .ok d1 → f2 τ = .ok d2 → SI K H0 B0 B2 H2 σ τ P F → Same H H2 → Same B B2 → Rep K B2 (· ∈ P) H2 d1 v1 fp1 → Rep K B2 (· ∈ P) H2 d2 v2 fp2 → Vok H0 B2 H2 P F (fp1 ++ fp2) → Goal K Y H0 B0 B2 H2 σ τ P F Q (g d1 d2) → Q' v1 v2 H2) :
    tM K Y f1 σ H fun x H1 => tM K Y f2 σ H1 fun y H2 => Q' x y H2 := by
  refine tM.seq (g := fun x => (f2 τ).bind (g x)) I h fun d1 v1 H1 B1 fp1 e1 I1 s1 b1 r1 k1 h1 => ?_
  refine ⟨H0, B0, B1, τ, P, _, I1.hold k1, ?_⟩
  cases e : f2 τ with
  | ok d2 =>
    rw [e] at h1
    intro v2 H2 B2 fp2 I2 s2 b2 r2 k2
    exact k d1 d2 v1 v2 H2 B2 fp1 fp2 e1 e (I2.anti fun a x => .inr x) (s1.trans s2) (b1.trans b2) (r1.mono s2 b2 fun _ x => x) r2 (k1.both s2 I2 k2) (Goal.later h1 s2 b2)
  | exn C =>
    rw [e] at h1
    exact OutX.later h1 (Same.refl _) (Same.refl _) fun a x => .inr x
  | bad => rw [e] at h1; exact h1

/-! names, constants -/
def eVar (i : Nat) (τ : SD) : Res D := match τ[i]? with
  | some (some d) => .ok d.view
  | _ => .bad
def eC (d : D) (_ : SD) : Res D := .ok d
theorem qv {X : Cx} (i : Nat) {x : Str} {pos : Pos} (hN : X.N[i]? = some x := by rfl) (hv : Vis X.env.scope x := by first | exact Or.inl rfl | exact Or.inr (Or.inl rfl) | exact Or.inr (Or.inr rfl)) (hd : (x == ("__debug__" : Str)) = false := by decide)
    (hcd : (x == ("__classdict__" : Str)) = false := by decide) : PE X (.Name x pos) (tM X.K Y (eVar i)) := by
  refine PE.imp (pe_var hN hv hd hcd) ?_
  rintro σ H Q ⟨H0, B0, B, τ, P, F, I, h⟩
  unfold eVar at h
  cases e : τ[i]? with
  | none => rw [e] at h; exact h.elim
  | some o =>
    cases o with
    | none => rw [e] at h; exact h.elim
    | some d =>
      rw [e] at h
      obtain ⟨v, f, h1, h2, h3⟩ := I.rep.get e
      exact ⟨v, h1, Out.here h I (h2.view fun a m => h3.subset m)⟩
theorem qc {X : Cx} {e : Expr} {d : D} {v : V} (h : PE X e (tC v)) (hr : ∀ K B S H, Rep K B S H d v []) : PE X e (tM X.K Y (eC d)) := PE.imp h fun σ H Q ⟨H0, B0, B, τ, P, F, I, h⟩ => Out.here h I (hr _ _ _ _)
theorem q_int {X : Cx} {i : Int} {j pos} : PE X (.Constant (.int i) j pos) (tM X.K Y (eC (.int i))) := qc pe_int fun _ _ _ _ => ⟨rfl, rfl⟩
theorem q_bl {X : Cx} {b : Bool} {j pos} : PE X (.Constant (.bool b) j pos) (tM X.K Y (eC (.bl b))) := qc pe_bl fun _ _ _ _ => ⟨rfl, rfl⟩
theorem q_non {X : Cx} {j pos} : PE X (.Constant .none j pos) (tM X.K Y (eC .non)) := qc pe_non fun _ _ _ _ => ⟨rfl, rfl⟩
theorem q_str {X : Cx} {x : Str} {j pos} : PE X (.Constant (.str x) j pos) (tM X.K Y (eC (.str x))) := qc pe_str fun _ _ _ _ => ⟨rfl, rfl⟩
theorem q_gint {X : Cx} {x : Str} {i : Int} {pos : Pos} (hg : Gl X x) (hm : ∃ t, X.mg x = some (.int i t)) (hd : (x == ("__debug__" : Str)) = false := by decide) : PE X (.Name x pos) (tM X.K Y (eC (.int i))) :=
  qc (pe_glob (v := .int i) hg hm.choose_spec ⟨_, rfl⟩ hd) fun _ _ _ _ => ⟨rfl, rfl⟩

/-! operations of two values -/
def OpD (K : PySem.W.Frag) (Y : XY) (r : R2) (g : D → D → Res D) : Prop := ∀ {H0 B0 B H : Hp} {σ : L2.St} {τ : SD} {P : List Addr} {F : Addr → Prop} {d1 d2 : D} {x y : V} {f1 f2 : List Addr} {Q : VK},
  SI K H0 B0 B H σ τ P F → Rep K B (· ∈ P) H d1 x f1 → Rep K B (· ∈ P) H d2 y f2 → Vok H0 B H P F (f1 ++ f2) → Goal K Y H0 B0 B H σ τ P F Q (g d1 d2) → r x y H Q
def eBin (g : D → D → Res D) (a b : SD → Res D) (τ : SD) : Res D := (a τ).bind fun x => (b τ).bind (g x)
theorem OpR.or {X : Cx} {f : Value → Value → Sem Value} {r r' : R2} (h : OpR X f r) (h' : OpR X f r') : OpR X f (fun x y H Q => r x y H Q ∨ r' x y H Q) := by
  intro pins s σ H x y v u Q I rx ry q
  rcases q with q | q
  · exact h pins s σ H x y v u Q I rx ry q
  · exact h' pins s σ H x y v u Q I rx ry q
variable {X : Cx} {a b c : Expr} {fa fb fc : SD → Res D} {pos : Pos}
theorem q_op {op : Operator} {r : R2} {g : D → D → Res D} (ho : OpR X (binaryOp op) r) (hg : OpD X.K Y r g) (ha : PE X a (tM X.K Y fa)) (hb : PE X b (tM X.K Y fb)) : PE X (.BinOp a op b pos) (tM X.K Y (eBin g fa fb)) :=
  PE.imp (pe_op ho ha hb) fun σ H Q ⟨H0, B0, B, τ, P, F, I, h⟩ => tM.seq2 I h fun d1 d2 v1 v2 H2 B2 f1 f2 _ _ I2 _ _ r1 r2 k h2 => hg I2 r1 r2 k h2
theorem q_cmp {op : CmpOp} {r : R2} {g : D → D → Res D} (ho : OpR X (compareOp op) r) (hg : OpD X.K Y r g) (ha : PE X a (tM X.K Y fa)) (hb : PE X b (tM X.K Y fb)) (hm : behindInMarks op b = false) : PE X (.Compare a [op] [b] pos) (tM X.K Y (eBin g fa fb)) :=
  PE.imp (pe_cmpR ho ha hb hm) fun σ H Q ⟨H0, B0, B, τ, P, F, I, h⟩ => tM.seq2 I h fun d1 d2 v1 v2 H2 B2 f1 f2 _ _ I2 _ _ r1 r2 k h2 => hg I2 r1 r2 k h2
theorem q_ix {r : R2} {g : D → D → Res D} (ho : IxR X r) (hg : OpD X.K Y r g) (ha : PE X a (tM X.K Y fa)) (hb : PE X b (tM X.K Y fb)) (hs : PlainIx b) : PE X (.Subscript a b pos) (tM X.K Y (eBin g fa fb)) :=
  PE.imp (pe_ix ho ha hb hs) fun σ H Q ⟨H0, B0, B, τ, P, F, I, h⟩ => tM.seq2 I h fun d1 d2 v1 v2 H2 B2 f1 f2 _ _ I2 _ _ r1 r2 k h2 => hg I2 r1 r2 k h2
/-- a value's truth by its bool -/
def asB : D → Res Bool | .bl b => .ok b | _ => .bad
theorem goalB_of {Q : Bool → Hp → Prop} {r : Res D} (h : GoalB K Y H0 B0 B H σ τ P F Q (r.bind asB)) : Goal K Y H0 B0 B H σ τ P F (fun x H1 => ∃ c, x = .bl c ∧ Q c H1) r := by
  cases r with
  | ok d =>
    intro v H' B' fp I s b r k
    cases d with
    | bl c => obtain ⟨rfl, rfl⟩ := r; exact ⟨c, rfl, h H' B' I s b⟩
    | _ => exact h.elim
  | exn C => exact h
  | bad => exact h
/-- a test of a value that is a bool -/
def eT (f : SD → Res D) (τ : SD) : Res Bool := (f τ).bind asB
theorem qt_val (ha : PE X a (tM X.K Y fa)) (he : ∀ whole, isTrue a X.env whole = (do let v ← whole; standAt a.pos; holding [v] (truthy v)) := by intro _; rfl) : PT X a (tMB X.K Y (eT fa)) :=
  PT.imp (pt_val ha he) fun σ H Q ⟨H0, B0, B, τ, P, F, I, h⟩ => ⟨H0, B0, B, τ, P, F, I, goalB_of h⟩
theorem qt_cmp {op : CmpOp} {r : R2} {g : D → D → Res D} (ho : OpR X (compareOp op) r) (hg : OpD X.K Y r g) (ha : PE X a (tM X.K Y fa)) (hb : PE X b (tM X.K Y fb)) (hm : behindInMarks op b = false) : PT X (.Compare a [op] [b] pos) (tMB X.K Y (eT (eBin g fa fb))) :=
  PT.imp (pt_cmpR ho ha hb hm) fun σ H Q ⟨H0, B0, B, τ, P, F, I, h⟩ => tM.seq2 I (goalB_of h) fun d1 d2 v1 v2 H2 B2 f1 f2 _ _ I2 _ _ r1 r2 k h2 => hg I2 r1 r2 k h2
end
end DL
set_option Elab.async false
set_option linter.all false
set_option maxRecDepth 100000
set_option maxHeartbeats 4000000
namespace DL
open PySem PySem.Spec PyProof.Rows L2
section
variable {K : PySem.W.Frag} {Y : XY} {H0 B0 B H : Hp} {σ : L2.St} {τ : SD} {P : List Addr} {F : Addr → Prop}
/-- what may be read as a list, a tuple -/
theorem Rep.lst (I : SI K H0 B0 B H σ τ P F) {t : Tg} {xs : List D} {v : V} {f : List Addr} (r : Rep K B (· ∈ P) H (.lst t xs) v f) : ∃ a vs g, v = .ref a ∧ SqL K H a vs ∧ RepL K B (· ∈ P) H xs vs g ∧ List.Sublist g f := by
  cases t with
  | own =>
    obtain ⟨a, vs, g, e, q, r, z⟩ := r
    subst z
    exact ⟨a, vs, g, e, SqL.of q, r, List.sublist_cons_self _ _⟩
  | bor =>
    obtain ⟨a, vs, e, q, r, z⟩ := r
    subst z
    exact ⟨a, vs, [], e, q.elim (fun y => y.2) fun y => rd_mono I.bh y, r, List.Sublist.refl _⟩
  | frz =>
    obtain ⟨a, vs, e, q, r, z⟩ := r
    subst z
    exact ⟨a, vs, [], e, rd_mono I.bh q, r.mono (Same.refl _) (Same.refl _) (fun _ x => x.elim), List.Sublist.refl _⟩
theorem Rep.tp {xs : List D} {v : V} {f : List Addr} (r : Rep K B (· ∈ P) H (.tup xs) v f) : ∃ a vs, v = .ref a ∧ SqT K H a vs ∧ RepL K B (· ∈ P) H xs vs f := let ⟨a, vs, e, q, r⟩ := r; ⟨a, vs, e, SqT.of q, r⟩
theorem Rep.int {S : Addr → Prop} {i : Int} {v : V} {f : List Addr} (r : Rep K B S H (.int i) v f) : v = .int i ∧ f = [] := r
theorem Rep.str {S : Addr → Prop} {i : Str} {v : V} {f : List Addr} (r : Rep K B S H (.str i) v f) : v = .str i ∧ f = [] := r
theorem sqL_of {a : Addr} {vs : List V} (h : SqL K H a vs) : SqL K H a vs := h

/-! ### arithmetic -/
variable {X : Cx}
def rCatR (K : PySem.W.Frag) : R2 := fun x y H Q => ∃ l b xs zs, x = .ref l ∧ y = .ref b ∧ SqL K H l xs ∧ SqL K H b zs ∧ xs.length + zs.length ≤ sizeLine ∧ ∀ p, H p = none → Q (.ref p) (upd H p (.lst (xs ++ zs)))
theorem op_catR : OpR X (binaryOp .Add) (rCatR X.K) := by
  intro pins s σ H x y v u Q I rx ry h
  obtain ⟨l, b, xs, zs, rfl, rfl, hH, hB, hz, q⟩ := h
  cases rx
  cases ry
  obtain ⟨its, r, pl, z⟩ := I.list hH
  obtain ⟨its2, r2, pl2, z2⟩ := I.list hB
  obtain ⟨⟨cls, dd, data, sl⟩, ho, hc, n, hd⟩ := id pl.isList
  obtain ⟨⟨cls2, dd2, data2, sl2⟩, ho2, hc2, n2, hd2⟩ := id pl2.isList
  simp only at hc hd hc2 hd2
  subst hc hd hc2 hd2
  have e : its.toArray ++ its2.toArray = (its ++ its2).toArray := by simp
  have l1 := r.length
  have l2 := r2.length
  refine concat_meets ⟨_, ho, rfl⟩ ⟨_, ho2, rfl⟩ noFill_list_add seq_list_add PySem.F.slot_list_add PySem.F.entry_list_add (PySem.F.args_list_add_2 _ _) (list_addW l b its.toArray its2.toArray n n2 dd dd2 sl sl2 (by rw [List.size_toArray, List.size_toArray]; omega)) ⟨ho, ho2, ?_⟩
  rw [e]
  exact ⟨.ref _, _, I.lnew (t' := s.toks) (r.append r2) (by rw [List.length_append]; omega), rfl, q _ I.fresh⟩
def addD : D → D → Res D
  | .int i, .int j => .ok (.int (i + j))
  | .str i, .str j => if i.length + j.length ≤ 16777216 then .ok (.str (i ++ j)) else .bad
  | .lst _ xs, .lst _ ys => if xs.length + ys.length ≤ 16777216 then .ok (.lst .own (xs ++ ys)) else .bad
  | .tup xs, .tup ys => if xs ≠ [] ∧ ys ≠ [] ∧ xs.length + ys.length ≤ 16777216 then .ok (.tup (xs ++ ys)) else .bad
  | _, _ => .bad
theorem isz {n : Nat} (h : n ≤ 16777216) : n ≤ sizeLine := by rw [sizeLine_eq]; exact h
theorem RepL.nil_iff {S : Addr → Prop} {xs : List D} {vs : List V} {f : List Addr} (r : RepL K B S H xs vs f) : vs = [] ↔ xs = [] := by
  have := r.length
  cases xs <;> cases vs <;> simp_all
abbrev rAdd (K : PySem.W.Frag) : R2 := fun x y H Q => rI0 (fun i j => .int (i + j)) x y H Q ∨ ((∃ i j, x = .str i ∧ y = .str j ∧ i.length + j.length ≤ sizeLine ∧ Q (.str (i ++ j)) H) ∨ (rCatR K x y H Q ∨ rCatT K x y H Q))
theorem op_addA : OpR X (binaryOp .Add) (rAdd X.K) := OpR.or op_add (OpR.or op_add_str (OpR.or op_catR op_catT))
theorem d_add : OpD K Y (rAdd K) addD := by
  intro H0 B0 B H σ τ P F d1 d2 x y f1 f2 Q I r1 r2 k h
  unfold addD at h
  split at h
  · obtain ⟨rfl, rfl⟩ := r1
    obtain ⟨rfl, rfl⟩ := r2
    exact .inl ⟨_, _, rfl, rfl, Out.here h I ⟨rfl, rfl⟩⟩
  · obtain ⟨rfl, rfl⟩ := r1
    obtain ⟨rfl, rfl⟩ := r2
    split at h
    · rename_i hl
      exact .inr (.inl ⟨_, _, rfl, rfl, isz hl, Out.here h I ⟨rfl, rfl⟩⟩)
    · exact h.elim
  · obtain ⟨a, vs, g1, rfl, q1, l1, s1⟩ := r1.lst I
    obtain ⟨b, ws, g2, rfl, q2, l2, s2⟩ := r2.lst I
    split at h
    · rename_i hl
      refine .inr (.inr (.inl ⟨_, _, _, _, rfl, rfl, q1, q2, by rw [← l1.length, ← l2.length]; exact isz hl, fun p hp => ?_⟩))
      exact Out.newL h I (l1.append l2) (k.sub (s1.append s2)) hp
    · exact h.elim
  · obtain ⟨a, vs, rfl, q1, l1⟩ := r1.tp
    obtain ⟨b, ws, rfl, q2, l2⟩ := r2.tp
    split at h
    · rename_i hl
      obtain ⟨n1, n2, hl⟩ := hl
      refine .inr (.inr (.inr ⟨_, _, _, _, rfl, rfl, q1, q2, fun z => n1 (l1.nil_iff.mp z), by rw [← l1.length, ← l2.length]; exact isz hl, fun z => absurd (l2.nil_iff.mp z) n2, fun _ p hp => ?_⟩))
      exact Out.newT h I (l1.append l2) k hp
    · exact h.elim
  · exact h.elim
/-- ints alone -/
def iiD (C : Int → Int → Prop) [∀ i j, Decidable (C i j)] (g : Int → Int → D) : D → D → Res D
  | .int i, .int j => if C i j then .ok (g i j) else .bad
  | _, _ => .bad
def ii0 (g : Int → Int → D) : D → D → Res D
  | .int i, .int j => .ok (g i j)
  | _, _ => .bad
theorem d_ii {C : Int → Int → Prop} [∀ i j, Decidable (C i j)] {g : Int → Int → D} {gv : Int → Int → V} (hg : ∀ i j K B S H, Rep K B S H (g i j) (gv i j) []) : OpD K Y (rI C gv) (iiD C g) := by
  intro H0 B0 B H σ τ P F d1 d2 x y f1 f2 Q I r1 r2 k h
  unfold iiD at h
  split at h
  · obtain ⟨rfl, rfl⟩ := r1
    obtain ⟨rfl, rfl⟩ := r2
    split at h
    · rename_i hc
      exact ⟨_, _, rfl, rfl, hc, Out.here h I (hg ..)⟩
    · exact h.elim
  · exact h.elim
theorem d_ii0 {g : Int → Int → D} {gv : Int → Int → V} (hg : ∀ i j K B S H, Rep K B S H (g i j) (gv i j) []) : OpD K Y (rI0 gv) (ii0 g) := by
  intro H0 B0 B H σ τ P F d1 d2 x y f1 f2 Q I r1 r2 k h
  unfold ii0 at h
  split at h
  · obtain ⟨rfl, rfl⟩ := r1
    obtain ⟨rfl, rfl⟩ := r2
    exact ⟨_, _, rfl, rfl, Out.here h I (hg ..)⟩
  · exact h.elim
instance (i j : Int) : Decidable (CDiv i j) := inferInstanceAs (Decidable (_ ∧ _))
instance (i j : Int) : Decidable (CPow i j) := inferInstanceAs (Decidable (_ ∧ _ ∧ _))
instance (i j : Int) : Decidable (CMul i j) := inferInstanceAs (Decidable ((_ ∧ _) ∨ (_ ∧ _)))
/-- a product: one factor small, or both not great -/
def CMulD (i j : Int) : Prop := CMul i j ∨ (i.natAbs < 2 ^ 1024 ∧ j.natAbs < 2 ^ 1024)
instance (i j : Int) : Decidable (CMulD i j) := inferInstanceAs (Decidable (_ ∨ (_ ∧ _)))
theorem bits_1024 {i : Int} (h : i.natAbs < 2 ^ 1024) : Builtin.Int.intBits i ≤ 2 ^ 20 := by
  unfold Builtin.Int.intBits
  split
  · exact Nat.zero_le _
  · by_cases e : i.natAbs = 0
    · rw [e]; decide
    · have := (Nat.log2_lt e).mpr h
      omega
theorem op_mulD : OpR X (binaryOp .Mult) (rI CMulD fun i j => .int (i * j)) := opI fun _ _ _ _ _ _ _ hc q => mul_int q (hc.elim CMul.ok fun z => IntMulOk.of_bits (bits_1024 z.1) (bits_1024 z.2))
abbrev rij (g : Int → Int → Int) : ∀ i j K B S H, Rep K B S H (.int (g i j)) (.int (g i j)) [] := fun _ _ _ _ _ _ => ⟨rfl, rfl⟩
abbrev rib (g : Int → Int → Bool) : ∀ i j K B S H, Rep K B S H (.bl (g i j)) (.bl (g i j)) [] := fun _ _ _ _ _ _ => ⟨rfl, rfl⟩
abbrev subD := ii0 fun i j => .int (i - j)
abbrev mulD := iiD CMulD fun i j => .int (i * j)
abbrev fdivD := iiD CDiv fun i j => .int (i / j)
abbrev modD := iiD (fun _ j => 0 < j) fun i j => .int (i % j)
abbrev powD := iiD CPow fun i j => .int (i ^ j.toNat)
abbrev shrD := iiD (fun _ j => 0 ≤ j) fun i j => .int (i / 2 ^ j.toNat)
abbrev shlD := iiD CPow fun i j => .int (i * 2 ^ j.toNat)
abbrev andD := ii0 fun i j => .int (Builtin.bitAnd i j)
abbrev ltD := ii0 fun i j => .bl (decide (i < j))
abbrev leD := ii0 fun i j => .bl (decide (i ≤ j))
abbrev gtD := ii0 fun i j => .bl (decide (j < i))
abbrev geD := ii0 fun i j => .bl (decide (j ≤ i))
theorem d_sub : OpD K Y (rI0 fun i j => .int (i - j)) subD := d_ii0 (rij _)
theorem d_mul : OpD K Y (rI CMulD fun i j => .int (i * j)) mulD := d_ii (rij _)
theorem d_fdiv : OpD K Y (rI CDiv fun i j => .int (i / j)) fdivD := d_ii (rij _)
theorem d_mod : OpD K Y (rI (fun _ j => 0 < j) fun i j => .int (i % j)) modD := d_ii (rij _)
theorem d_pow : OpD K Y (rI CPow fun i j => .int (i ^ j.toNat)) powD := d_ii (rij fun i j => i ^ j.toNat)
theorem d_shr : OpD K Y (rI (fun _ j => 0 ≤ j) fun i j => .int (i / 2 ^ j.toNat)) shrD := d_ii (rij fun i j => i / 2 ^ j.toNat)
theorem d_shl : OpD K Y (rI CPow fun i j => .int (i * 2 ^ j.toNat)) shlD := d_ii (rij fun i j => i * 2 ^ j.toNat)
theorem d_and : OpD K Y (rI0 fun i j => .int (Builtin.bitAnd i j)) andD := d_ii0 (rij _)
theorem d_lt : OpD K Y (rI0 fun i j => .bl (decide (i < j))) ltD := d_ii0 (rib fun i j => decide (i < j))
theorem d_le : OpD K Y (rI0 fun i j => .bl (decide (i ≤ j))) leD := d_ii0 (rib fun i j => decide (i ≤ j))
theorem d_gt : OpD K Y (rI0 fun i j => .bl (decide (j < i))) gtD := d_ii0 (rib fun i j => decide (j < i))
theorem d_ge : OpD K Y (rI0 fun i j => .bl (decide (j ≤ i))) geD := d_ii0 (rib fun i j => decide (j ≤ i))
end
end DL
set_option Elab.async false
set_option linter.all false
set_option maxRecDepth 100000
set_option maxHeartbeats 4000000
namespace DL
open PySem PySem.Spec PyProof.Rows L2
section
variable {K : PySem.W.Frag} {Y : XY} {H0 B0 B H : Hp} {σ : L2.St} {τ : SD} {P : List Addr} {F : Addr → Prop} {X : Cx} {a b c : Expr} {fa fb fc : SD → Res D} {ga gb : SD → Res Bool} {pos : Pos}
theorem Vok.still {H1 B1 : Hp} {f : List Addr} (k : Vok H0 B H P F f) (sH : Same H H1) (I1 : SI K H0 B0 B1 H1 σ τ P (fun a => a ∈ f ∨ F a)) : Vok H0 B1 H1 P F f := ⟨k.nd, fun a m => let ⟨_, a2, _, a4, a5⟩ := k.own a m; ⟨(I1.fr a (.inl m)).1, a2, (I1.fr a (.inl m)).2, a4, a5⟩⟩
/-! ### equality of plain values -/
/-- flat: no parts -/
def D.flat : D → Bool | .non => true | .bl _ => true | .int _ => true | .str _ => true | _ => false
def flatVal : D → V | .non => .non | .bl b => .bl b | .int i => .int i | .str x => .str x | _ => .non
theorem rep_flat {S : Addr → Prop} {d : D} {v : V} {f : List Addr} (h : d.flat = true) (r : Rep K B S H d v f) : v = flatVal d ∧ f = [] := by
  cases d <;> first | exact absurd (show false = true from h) Bool.false_ne_true | exact r
def eqFlat : D → D → Option Bool
  | .non, .non => some true | .non, .int _ => some false | .int _, .non => some false | .non, .bl _ => some false | .bl _, .non => some false | .non, .str _ => some false | .str _, .non => some false
  | .int i, .int j => some (decide (i = j)) | .bl i, .bl j => some (decide (i = j)) | .str i, .str j => some (decide (i = j))
  | .int _, .str _ => some false | .str _, .int _ => some false | .bl _, .str _ => some false | .str _, .bl _ => some false
  | _, _ => none
theorem eqFlat_ok {S S' : Addr → Prop} {d1 d2 : D} {x y : V} {f1 f2 : List Addr} {r : Bool} (e : eqFlat d1 d2 = some r) (r1 : Rep K B S H d1 x f1) (r2 : Rep K B S' H d2 y f2) : scal x y = true ∧ decide (x = y) = r := by
  cases d1 <;> cases d2 <;> first | (cases e; done) | (obtain ⟨rfl, rfl⟩ := r1; obtain ⟨rfl, rfl⟩ := r2; cases e; first | exact ⟨rfl, rfl⟩ | simp [scal])
def ofO (neg : Bool) : Option Bool → Res D | some b => .ok (.bl (xor neg b)) | none => .bad
def eqD (d1 d2 : D) : Res D := ofO false (eqFlat d1 d2)
def neD (d1 d2 : D) : Res D := ofO true (eqFlat d1 d2)
theorem d_eq : OpD K Y rEq eqD := by
  intro H0 B0 B H σ τ P F d1 d2 x y f1 f2 Q I r1 r2 k h
  unfold eqD at h
  cases e : eqFlat d1 d2 with
  | none => rw [e] at h; exact h.elim
  | some r =>
    rw [e] at h
    obtain ⟨s, z⟩ := eqFlat_ok e r1 r2
    refine ⟨s, ?_⟩
    rw [z]
    exact Out.here h I ⟨by simp, rfl⟩
theorem d_ne : OpD K Y rNe neD := by
  intro H0 B0 B H σ τ P F d1 d2 x y f1 f2 Q I r1 r2 k h
  unfold neD at h
  cases e : eqFlat d1 d2 with
  | none => rw [e] at h; exact h.elim
  | some r =>
    rw [e] at h
    obtain ⟨s, z⟩ := eqFlat_ok e r1 r2
    refine ⟨s, ?_⟩
    rw [z]
    exact Out.here h I ⟨by simp, rfl⟩
/-- is None -/
def isND (neg : Bool) : D → D → Res D
  | .non, .non => .ok (.bl (!neg))
  | _, .non => .ok (.bl neg)
  | _, _ => .bad
def D.isN : D → Bool | .non => true | _ => false
theorem rep_non {S : Addr → Prop} {d : D} {v : V} {f : List Addr} (r : Rep K B S H d v f) : decide (v = .non) = d.isN := by
  cases d with
  | non => rw [r.1]; rfl
  | bl _ => rw [r.1]; rfl
  | int _ => rw [r.1]; rfl
  | str _ => rw [r.1]; rfl
  | exc _ => obtain ⟨⟨a, rfl, _⟩, _⟩ := r; rfl
  | tup _ => obtain ⟨a, _, rfl, _⟩ := r; rfl
  | lst t _ => cases t <;> (obtain ⟨a, _, r⟩ := r; first | (obtain ⟨_, rfl, _⟩ := r; rfl) | (obtain ⟨rfl, _⟩ := r; rfl))
  | dct t _ _ _ => cases t <;> (obtain ⟨a, _, r⟩ := r; first | (obtain ⟨_, rfl, _⟩ := r; rfl) | (obtain ⟨rfl, _⟩ := r; rfl))
theorem d_isN : OpD K Y (fun x y H Q => y = .non ∧ Q (.bl (decide (x = .non))) H) (isND false) := by
  intro H0 B0 B H σ τ P F d1 d2 x y f1 f2 Q I r1 r2 k h
  have e := rep_non r1
  unfold isND at h
  split at h
  · rw [r2.1]; rw [e]; exact ⟨rfl, Out.here h I ⟨rfl, rfl⟩⟩
  · rename_i hn
    rw [r2.1]; rw [e]
    refine ⟨rfl, Out.here h I ⟨?_, rfl⟩⟩
    cases d1 <;> first | rfl | exact (hn rfl).elim
  · exact h.elim
theorem d_notN : OpD K Y (fun x y H Q => y = .non ∧ Q (.bl (!decide (x = .non))) H) (isND true) := by
  intro H0 B0 B H σ τ P F d1 d2 x y f1 f2 Q I r1 r2 k h
  have e := rep_non r1
  unfold isND at h
  split at h
  · rw [r2.1]; rw [e]; exact ⟨rfl, Out.here h I ⟨rfl, rfl⟩⟩
  · rename_i hn
    rw [r2.1]; rw [e]
    refine ⟨rfl, Out.here h I ⟨?_, rfl⟩⟩
    cases d1 <;> first | rfl | exact (hn rfl).elim
  · exact h.elim
/-! ### in -/
def eqF : D → D → Bool
  | .non, .non => true
  | .bl a, .bl b => a == b
  | .bl a, .int b => (if a then 1 else 0) == b
  | .int a, .bl b => a == (if b then 1 else 0)
  | .int a, .int b => a == b
  | .str a, .str b => a == b
  | _, _ => false
def inF (x : D) (xs : List D) : Bool := xs.any fun y => eqF y x
theorem flatV_of {S : Addr → Prop} {d : D} {v : V} {f : List Addr} (h : d.flat = true) (r : Rep K B S H d v f) : flatV v = true := by
  cases d <;> first | exact absurd (show false = true from h) Bool.false_ne_true | (obtain ⟨rfl, _⟩ := r; rfl)
theorem eqV_of {S : Addr → Prop} {d e : D} {v u : V} {f g : List Addr} (h : d.flat = true) (h' : e.flat = true) (r : Rep K B S H d v f) (r' : Rep K B S H e u g) : eqV v u = eqF d e := by
  cases d <;> cases e <;> first | exact absurd (show false = true from h) Bool.false_ne_true | exact absurd (show false = true from h') Bool.false_ne_true | (obtain ⟨rfl, _⟩ := r; obtain ⟨rfl, _⟩ := r'; rfl)
theorem all_flat {S : Addr → Prop} {x : D} {u : V} {g : List Addr} (hx : x.flat = true) (rx : Rep K B S H x u g) : ∀ {xs : List D} {vs : List V} {f : List Addr}, xs.all D.flat = true → RepL K B S H xs vs f → vs.all flatV = true ∧ inV u vs = inF x xs
  | [], vs, f, _, r => by obtain ⟨rfl, _⟩ := r; exact ⟨rfl, rfl⟩
  | d :: ds, vs, f, h, r => by
    obtain ⟨v, w, f1, f2, rfl, r1, r2, _⟩ := r
    rw [List.all_cons, Bool.and_eq_true] at h
    obtain ⟨i1, i2⟩ := all_flat hx rx h.2 r2
    refine ⟨by rw [List.all_cons, flatV_of h.1 r1, i1]; rfl, ?_⟩
    show (eqV v u || inV u w) = (eqF d x || inF x ds)
    rw [i2, eqV_of h.1 hx r1 rx]
def inD (neg : Bool) : D → D → Res D
  | x, .lst _ xs => if x.flat = true ∧ xs.all D.flat = true then .ok (.bl (if neg then !inF x xs else inF x xs)) else .bad
  | x, .tup xs => if x.flat = true ∧ xs.all D.flat = true then .ok (.bl (if neg then !inF x xs else inF x xs)) else .bad
  | _, _ => .bad
theorem d_in (neg : Bool) : OpD K Y (rIn K neg) (inD neg) := by
  intro H0 B0 B H σ τ P F d1 d2 x y f1 f2 Q I r1 r2 k h
  unfold inD at h
  split at h
  · split at h
    · rename_i hc
      obtain ⟨a, vs, g, rfl, q, l, s⟩ := r2.lst I
      obtain ⟨z1, z2⟩ := all_flat hc.1 r1 hc.2 l
      refine ⟨a, vs, rfl, .inl (sqL_of q), flatV_of hc.1 r1, z1, ?_⟩
      rw [z2]
      exact Out.here h I ⟨rfl, rfl⟩
    · exact h.elim
  · split at h
    · rename_i hc
      obtain ⟨a, vs, rfl, q, l⟩ := r2.tp
      obtain ⟨z1, z2⟩ := all_flat hc.1 r1 hc.2 l
      refine ⟨a, vs, rfl, .inr q, flatV_of hc.1 r1, z1, ?_⟩
      rw [z2]
      exact Out.here h I ⟨rfl, rfl⟩
    · exact h.elim
  · exact h.elim
/-! ### items -/
def ixD : D → D → Res D
  | .lst _ xs, .int i => match atI xs i with | some d => .ok d | none => .bad
  | .tup xs, .int i => match atI xs i with | some d => .ok d | none => .bad
  | .str z, .int i => if z.length ≤ 16777216 then match atI z.cps.toList i with | some c => .ok (.str ⟨#[c]⟩) | none => .bad else .bad
  | _, _ => .bad
theorem RepL.atI {S : Addr → Prop} {xs : List D} {vs : List V} {f : List Addr} {i : Int} {d : D} (r : RepL K B S H xs vs f) (e : atI xs i = some d) : ∃ v g, L2.atI vs i = some v ∧ Rep K B S H d v g ∧ List.Sublist g f := by
  unfold L2.atI at e ⊢
  rw [r.length] at e
  cases z : ixN vs.length i with
  | none => rw [z] at e; cases e
  | some j =>
    rw [z] at e
    obtain ⟨v, g, h1, h2, h3⟩ := r.get (i := j) e
    exact ⟨v, g, h1, h2, h3⟩
theorem d_ix : OpD K Y (rIx K) ixD := by
  intro H0 B0 B H σ τ P F d1 d2 x y f1 f2 Q I r1 r2 k h
  unfold ixD at h
  split at h
  · obtain ⟨rfl, rfl⟩ := r2
    obtain ⟨a, vs, g, rfl, q, l, s⟩ := r1.lst I
    split at h
    · rename_i d e
      obtain ⟨v, g', e1, r', s'⟩ := l.atI e
      exact .inl ⟨a, vs, _, v, rfl, rfl, sqL_of q, e1, Out.hereO h I r' (k.left.sub (s'.trans s))⟩
    · exact h.elim
  · obtain ⟨rfl, rfl⟩ := r2
    obtain ⟨a, vs, rfl, q, l⟩ := r1.tp
    split at h
    · rename_i d e
      obtain ⟨v, g', e1, r', s'⟩ := l.atI e
      exact .inr (.inl ⟨a, vs, _, v, rfl, rfl, q, e1, Out.hereO h I r' (k.left.sub s')⟩)
    · exact h.elim
  · obtain ⟨rfl, rfl⟩ := r2
    obtain ⟨rfl, rfl⟩ := r1
    split at h
    · rename_i hl
      split at h
      · rename_i c e
        exact .inr (.inr ⟨_, _, c, rfl, rfl, isz hl, e, Out.here h I ⟨rfl, rfl⟩⟩)
      · exact h.elim
    · exact h.elim
  · exact h.elim
/-! ### and, or, not, if -/
theorem GoalB.later {H1 B1 : Hp} {Q : Bool → Hp → Prop} {r : Res Bool} (h : GoalB K Y H0 B0 B H σ τ P F Q r) (sH : Same H H1) (sB : Same B B1) : GoalB K Y H0 B0 B1 H1 σ τ P F Q r := by
  cases r with
  | ok d => exact fun H' B' I s b => h H' B' I (sH.trans s) (sB.trans b)
  | exn C => exact OutX.later h sH sB fun _ x => x
  | bad => exact h
theorem tMB.seq {f : SD → Res Bool} {Q' : Bool → Hp → Prop} {g : Bool → Res Bool} {Q : Bool → Hp → Prop} (I : SI K H0 B0 B H σ τ P F) (h : GoalB K Y H0 B0 B H σ τ P F Q ((f τ).bind g))
    (k : ∀ d H1 B1, SI K H0 B0 B1 H1 σ τ P F → GoalB K Y H0 B0 B1 H1 σ τ P F Q (g d) → Q' d H1) : tMB K Y f σ H Q' := by
  refine ⟨H0, B0, B, τ, P, F, I, ?_⟩
  cases e : f τ with
  | ok d => rw [e] at h; exact fun H1 B1 I1 s1 b1 => k d H1 B1 I1 (GoalB.later h s1 b1)
  | exn C => rw [e] at h; exact h
  | bad => rw [e] at h; exact h
theorem tMB.seqV {f : SD → Res Bool} {Q' : Bool → Hp → Prop} {g : Bool → Res D} {Q : VK} (I : SI K H0 B0 B H σ τ P F) (h : Goal K Y H0 B0 B H σ τ P F Q ((f τ).bind g))
    (k : ∀ d H1 B1, SI K H0 B0 B1 H1 σ τ P F → Goal K Y H0 B0 B1 H1 σ τ P F Q (g d) → Q' d H1) : tMB K Y f σ H Q' := by
  refine ⟨H0, B0, B, τ, P, F, I, ?_⟩
  cases e : f τ with
  | ok d => rw [e] at h; exact fun H1 B1 I1 s1 b1 => k d H1 B1 I1 (Goal.later h s1 b1)
  | exn C => rw [e] at h; exact h
  | bad => rw [e] at h; exact h
def bNot (f : SD → Res Bool) (τ : SD) : Res Bool := (f τ).bind fun b => .ok (!b)
def bAnd (f g : SD → Res Bool) (τ : SD) : Res Bool := (f τ).bind fun b => if b = true then g τ else .ok false
def bOr (f g : SD → Res Bool) (τ : SD) : Res Bool := (f τ).bind fun b => if b = true then .ok true else g τ
theorem qt_not (ha : PT X a (tMB X.K Y ga)) : PT X (.UnaryOp .Not a pos) (tMB X.K Y (bNot ga)) :=
  PT.imp (pt_not ha) fun σ H Q ⟨H0, B0, B, τ, P, F, I, h⟩ => tMB.seq I h fun d H1 B1 I1 h1 => h1 H1 B1 I1 (Same.refl _) (Same.refl _)
theorem PW.imp {e : Expr} {t t' : TT} (h : PW X e t) (hi : ∀ σ H Q, t' σ H Q → t σ H Q) : PW X e t' := fun wh pins s σ H Q I hw => h wh pins s σ H Q I (hi σ H Q hw)
theorem qw_and1 (ha : PT X a (tMB X.K Y ga)) : PW X (.BoolOp .And [a] pos) (tMB X.K Y ga) := pw_and1 ha
theorem qw_or1 (ha : PT X a (tMB X.K Y ga)) : PW X (.BoolOp .Or [a] pos) (tMB X.K Y ga) := pw_or1 ha
theorem qw_and {rest : List Expr} (ha : PT X a (tMB X.K Y ga)) (hb : PW X (.BoolOp .And (b :: rest) pos) (tMB X.K Y gb)) : PW X (.BoolOp .And (a :: b :: rest) pos) (tMB X.K Y (bAnd ga gb)) :=
  PW.imp (pw_and ha hb) fun σ H Q ⟨H0, B0, B, τ, P, F, I, h⟩ => tMB.seq I h fun d H1 B1 I1 h1 => by
    cases d with
    | true => rw [if_pos rfl] at h1 ⊢; exact ⟨H0, B0, B1, τ, P, F, I1, h1⟩
    | false => rw [if_neg Bool.false_ne_true] at h1 ⊢; exact h1 H1 B1 I1 (Same.refl _) (Same.refl _)
theorem qw_or {rest : List Expr} (ha : PT X a (tMB X.K Y ga)) (hb : PW X (.BoolOp .Or (b :: rest) pos) (tMB X.K Y gb)) : PW X (.BoolOp .Or (a :: b :: rest) pos) (tMB X.K Y (bOr ga gb)) :=
  PW.imp (pw_or ha hb) fun σ H Q ⟨H0, B0, B, τ, P, F, I, h⟩ => tMB.seq I h fun d H1 B1 I1 h1 => by
    cases d with
    | true => rw [if_pos rfl] at h1 ⊢; exact h1 H1 B1 I1 (Same.refl _) (Same.refl _)
    | false => rw [if_neg Bool.false_ne_true] at h1 ⊢; exact ⟨H0, B0, B1, τ, P, F, I1, h1⟩
def eIf (c : SD → Res Bool) (f g : SD → Res D) (τ : SD) : Res D := (c τ).bind fun b => if b = true then f τ else g τ
theorem q_if (hc : PT X c (tMB X.K Y ga)) (ha : PE X a (tM X.K Y fa)) (hb : PE X b (tM X.K Y fb)) : PE X (.IfExp c a b pos) (tM X.K Y (eIf ga fa fb)) :=
  PE.imp (pe_ifExp hc ha hb) fun σ H Q ⟨H0, B0, B, τ, P, F, I, h⟩ => tMB.seqV I h fun d H1 B1 I1 h1 => by
    cases d with
    | true => rw [if_pos rfl] at h1 ⊢; exact ⟨H0, B0, B1, τ, P, F, I1, h1⟩
    | false => rw [if_neg Bool.false_ne_true] at h1 ⊢; exact ⟨H0, B0, B1, τ, P, F, I1, h1⟩
/-- as values, bools -/
def eAnd (f g : SD → Res D) (τ : SD) : Res D := (f τ).bind fun d => (asB d).bind fun b => if b = true then g τ else .ok (.bl false)
def eOr (f g : SD → Res D) (τ : SD) : Res D := (f τ).bind fun d => (asB d).bind fun b => if b = true then .ok (.bl true) else g τ
def eNot (f : SD → Res D) (τ : SD) : Res D := (f τ).bind fun d => (asB d).bind fun b => .ok (.bl (!b))
theorem asB_cases {d : D} {v : V} {f : List Addr} {g : Bool → Res D} {Q : VK} (r : Rep K B (· ∈ P) H d v f) (h : Goal K Y H0 B0 B H σ τ P F Q ((asB d).bind g)) : ∃ c, v = .bl c ∧ f = [] ∧ Goal K Y H0 B0 B H σ τ P F Q (g c) := by
  cases d with
  | bl c => exact ⟨c, r.1, r.2, h⟩
  | _ => exact h.elim
theorem q_one {op} (h : PE X a (tM X.K Y fa)) : PE X (.BoolOp op [a] pos) (tM X.K Y fa) := pe_one h
theorem q_and {rest : List Expr} (ha : PE X a (tM X.K Y fa)) (hb : PE X (.BoolOp .And (b :: rest) pos) (tM X.K Y fb)) : PE X (.BoolOp .And (a :: b :: rest) pos) (tM X.K Y (eAnd fa fb)) :=
  PE.imp (pe_and ha hb) fun σ H Q ⟨H0, B0, B, τ, P, F, I, h⟩ => tM.seq I h fun d v H1 B1 fp _ I1 _ _ r1 _ h1 => by
    obtain ⟨c, rfl, _, h2⟩ := asB_cases r1 h1
    refine ⟨c, rfl, ?_⟩
    cases c with
    | true => rw [if_pos rfl] at h2 ⊢; exact ⟨H0, B0, B1, τ, P, F, I1, h2⟩
    | false => rw [if_neg Bool.false_ne_true] at h2 ⊢; exact Out.here h2 I1 ⟨rfl, rfl⟩
theorem q_or {rest : List Expr} (ha : PE X a (tM X.K Y fa)) (hb : PE X (.BoolOp .Or (b :: rest) pos) (tM X.K Y fb)) : PE X (.BoolOp .Or (a :: b :: rest) pos) (tM X.K Y (eOr fa fb)) :=
  PE.imp (pe_or ha hb) fun σ H Q ⟨H0, B0, B, τ, P, F, I, h⟩ => tM.seq I h fun d v H1 B1 fp _ I1 _ _ r1 _ h1 => by
    obtain ⟨c, rfl, _, h2⟩ := asB_cases r1 h1
    refine ⟨c, rfl, ?_⟩
    cases c with
    | true => rw [if_pos rfl] at h2 ⊢; exact Out.here h2 I1 ⟨rfl, rfl⟩
    | false => rw [if_neg Bool.false_ne_true] at h2 ⊢; exact ⟨H0, B0, B1, τ, P, F, I1, h2⟩
theorem q_not (ha : PE X a (tM X.K Y fa)) : PE X (.UnaryOp .Not a pos) (tM X.K Y (eNot fa)) :=
  PE.imp (pe_not ha) fun σ H Q ⟨H0, B0, B, τ, P, F, I, h⟩ => tM.seq I h fun d v H1 B1 fp _ I1 _ _ r1 _ h1 => by
    obtain ⟨c, rfl, _, h2⟩ := asB_cases r1 h1
    exact ⟨c, rfl, Out.here h2 I1 ⟨rfl, rfl⟩⟩
def eUn (g : D → Res D) (f : SD → Res D) (τ : SD) : Res D := (f τ).bind g
def negD : D → Res D | .int i => .ok (.int (-i)) | _ => .bad
theorem q_neg (ha : PE X a (tM X.K Y fa)) : PE X (.UnaryOp .USub a pos) (tM X.K Y (eUn negD fa)) :=
  PE.imp (pe_un un_neg ha) fun σ H Q ⟨H0, B0, B, τ, P, F, I, h⟩ => tM.seq I h fun d v H1 B1 fp _ I1 _ _ r1 _ h1 => by
    cases d with
    | int i => exact ⟨i, r1.1, Out.here h1 I1 ⟨rfl, rfl⟩⟩
    | _ => exact h1.elim
/-! ### argument lists, displays -/
def aNil (_ : SD) : Res (List D) := .ok []
def aCons (f : SD → Res D) (g : SD → Res (List D)) (τ : SD) : Res (List D) := (f τ).bind fun d => (g τ).bind fun ds => .ok (d :: ds)
variable {e : Expr} {es : List Expr} {fe : SD → Res D} {fs : SD → Res (List D)}
theorem qa_nil : PA X [] (tML X.K Y aNil) := PA.imp pa_nil fun σ H Q ⟨H0, B0, B, τ, P, F, I, h⟩ => h [] H B [] I (Same.refl _) (Same.refl _) ⟨rfl, rfl⟩ Vok.nil
theorem qa_cons (ha : PE X e (tM X.K Y fe)) (hr : PA X es (tML X.K Y fs)) (hs : starEach (e :: es) X.env = (false, eval e X.env) :: starEach es X.env := by rfl) : PA X (e :: es) (tML X.K Y (aCons fe fs)) := by
  refine PA.imp (pa_cons ha hr hs) fun σ H Q ⟨H0, B0, B, τ, P, F, I, h⟩ => ?_
  refine ⟨H0, B0, B, τ, P, F, I, ?_⟩
  unfold aCons at h
  cases z : fe τ with
  | exn C => rw [z] at h; exact h
  | bad => rw [z] at h; exact h
  | ok d =>
    rw [z] at h
    intro v H1 B1 fp I1 s1 b1 r1 k1
    refine ⟨H0, B0, B1, τ, P, _, I1.hold k1, ?_⟩
    cases y : fs τ with
    | exn C => rw [y] at h; exact OutX.later h s1 b1 fun a x => .inr x
    | bad => rw [y] at h; exact h
    | ok ds =>
      rw [y] at h
      intro vs H2 B2 fq I2 s2 b2 r2 k2
      exact h (v :: vs) H2 B2 (fp ++ fq) (I2.anti fun a x => .inr x) (s1.trans s2) (b1.trans b2) ⟨v, vs, fp, fq, rfl, r1.mono s2 b2 (fun _ x => x), r2, rfl⟩ (k1.both s2 I2 k2)
theorem tML.seq {f : SD → Res (List D)} {Q' : List V → Hp → Prop} {g : List D → Res D} {Q : VK} (I : SI K H0 B0 B H σ τ P F) (h : Goal K Y H0 B0 B H σ τ P F Q ((f τ).bind g))
    (k : ∀ ds vs H1 B1 fp, f τ = .ok ds → SI K H0 B0 B1 H1 σ τ P F → Same H H1 → Same B B1 → RepL K B1 (· ∈ P) H1 ds vs fp → Vok H0 B1 H1 P F fp → Goal K Y H0 B0 B1 H1 σ τ P F Q (g ds) → Q' vs H1) : tML K Y f σ H Q' := by
  refine ⟨H0, B0, B, τ, P, F, I, ?_⟩
  cases e : f τ with
  | ok d =>
    rw [e] at h
    intro v H1 B1 fp I1 s1 b1 r1 k1
    exact k d v H1 B1 fp e I1 s1 b1 r1 k1 (Goal.later h s1 b1)
  | exn C => rw [e] at h; exact h
  | bad => rw [e] at h; exact h
def tupD (ds : List D) : Res D := if ds.length ≤ 16777216 then .ok (.tup ds) else .bad
def lstD (ds : List D) : Res D := if ds.length ≤ 16777216 then .ok (.lst .own ds) else .bad
def eA (g : List D → Res D) (f : SD → Res (List D)) (τ : SD) : Res D := (f τ).bind g
theorem q_tup {x1} (h : PA X es (tML X.K Y fs)) : PE X (.Tuple es x1 pos) (tM X.K Y (eA tupD fs)) :=
  PE.imp (pe_tup h) fun σ H Q ⟨H0, B0, B, τ, P, F, I, h⟩ => tML.seq I h fun ds vs H1 B1 fp _ I1 _ _ r1 k1 h1 => by
    unfold tupD at h1
    split at h1
    · rename_i hl
      exact ⟨by rw [← r1.length]; exact isz hl, fun p hp => Out.newT h1 I1 r1 k1 hp⟩
    · exact h1.elim
theorem q_lst (h : PA X es (tML X.K Y fs)) : PE X (.List es pos) (tM X.K Y (eA lstD fs)) :=
  PE.imp (pe_lst h) fun σ H Q ⟨H0, B0, B, τ, P, F, I, h⟩ => tML.seq I h fun ds vs H1 B1 fp _ I1 _ _ r1 k1 h1 => by
    unfold lstD at h1
    split at h1
    · rename_i hl
      exact ⟨by rw [← r1.length]; exact isz hl, fun p hp => Out.newL h1 I1 r1 k1 hp⟩
    · exact h1.elim
/-! ### calls of Python's own -/
def CallD (K : PySem.W.Frag) (Y : XY) (r : List V → Hp → VK → Prop) (g : List D → Res D) : Prop := ∀ {H0 B0 B H : Hp} {σ : L2.St} {τ : SD} {P : List Addr} {F : Addr → Prop} {ds : List D} {vs : List V} {f : List Addr} {Q : VK},
  SI K H0 B0 B H σ τ P F → RepL K B (· ∈ P) H ds vs f → Vok H0 B H P F f → Goal K Y H0 B0 B H σ τ P F Q (g ds) → r vs H Q
theorem q_callB {x : Str} {id : String} {p : Pos} {r : List V → Hp → VK → Prop} {g : List D → Res D} (hc : CallR X (.builtin id) r) (hgd : CallD X.K Y r g) (hg : Gl X x) (hm : X.mg x = none) (hv : bootBuiltins x = some (.builtin id)) (ha : PA X (e :: es) (tML X.K Y fs)) (hn : x ≠ "__name__" := by decide) (hdb : (x == ("__debug__" : Str)) = false := by decide)
    (he : starEach (e :: es) X.env = (false, eval e X.env) :: starEach es X.env := by rfl) (hpl : (backTo pos (starEach es X.env)).any (·.1) = false := by rfl) :
    PE X (.Call (.Name x p) (e :: es) [] pos) (tM X.K Y (eA g fs)) :=
  PE.imp (pe_callB hc hg hm hv ha hn hdb he hpl) fun σ H Q ⟨H0, B0, B, τ, P, F, I, h⟩ => tML.seq I h fun ds vs H1 B1 fp _ I1 _ _ r1 k1 h1 => hgd I1 r1 k1 h1
theorem q_callTy {x : Str} {T : String} {p : Pos} {r : List V → Hp → VK → Prop} {g : List D → Res D} (hc : CallR X (.type T) r) (hgd : CallD X.K Y r g) (hg : Gl X x) (hm : X.mg x = none) (hv : bootBuiltins x = some (.type T)) (ha : PA X (e :: es) (tML X.K Y fs)) (hn : x ≠ "__name__" := by decide) (hdb : (x == ("__debug__" : Str)) = false := by decide)
    (he : starEach (e :: es) X.env = (false, eval e X.env) :: starEach es X.env := by rfl) (hpl : (backTo pos (starEach es X.env)).any (·.1) = false := by rfl) :
    PE X (.Call (.Name x p) (e :: es) [] pos) (tM X.K Y (eA g fs)) :=
  PE.imp (pe_callTy hc hg hm hv ha hn hdb he hpl) fun σ H Q ⟨H0, B0, B, τ, P, F, I, h⟩ => tML.seq I h fun ds vs H1 B1 fp _ I1 _ _ r1 k1 h1 => hgd I1 r1 k1 h1
theorem repL1 {S : Addr → Prop} {d : D} {vs : List V} {f : List Addr} (r : RepL K B S H [d] vs f) : ∃ v, vs = [v] ∧ Rep K B S H d v f := by
  obtain ⟨v, w, f1, f2, rfl, r1, r2, rfl⟩ := r
  obtain ⟨rfl, rfl⟩ := r2
  exact ⟨v, rfl, by rw [List.append_nil]; exact r1⟩
theorem repL2 {S : Addr → Prop} {d e : D} {vs : List V} {f : List Addr} (r : RepL K B S H [d, e] vs f) : ∃ v u f1 f2, vs = [v, u] ∧ f = f1 ++ f2 ∧ Rep K B S H d v f1 ∧ Rep K B S H e u f2 := by
  obtain ⟨v, w, f1, f2, rfl, r1, r2, rfl⟩ := r
  obtain ⟨u, rfl, r3⟩ := repL1 r2
  exact ⟨v, u, f1, f2, rfl, rfl, r1, r3⟩
def lenD : List D → Res D
  | [.lst _ xs] => .ok (.int xs.length)
  | [.tup xs] => .ok (.int xs.length)
  | [.str z] => if z.length ≤ 16777216 then .ok (.int z.length) else .bad
  | _ => .bad
abbrev rLen (K : PySem.W.Frag) : List V → Hp → VK → Prop := fun xs H Q => (∃ p ys, xs = [.ref p] ∧ (SqL K H p ys ∨ SqT K H p ys) ∧ Q (.int ys.length) H) ∨ ∃ z, xs = [.str z] ∧ z.length ≤ sizeLine ∧ Q (.int z.length) H
theorem call_lenA : CallR X (.builtin "len") (rLen X.K) := CallR.or call_len_seq call_len_str
theorem d_len : CallD K Y (rLen K) lenD := by
  intro H0 B0 B H σ τ P F ds vs f Q I r k h
  unfold lenD at h
  split at h
  · obtain ⟨v, rfl, r'⟩ := repL1 r
    obtain ⟨a, ws, g, rfl, q, l, s⟩ := r'.lst I
    refine .inl ⟨a, ws, rfl, .inl (sqL_of q), ?_⟩
    rw [← l.length]
    exact Out.here h I ⟨rfl, rfl⟩
  · obtain ⟨v, rfl, r'⟩ := repL1 r
    obtain ⟨a, ws, rfl, q, l⟩ := r'.tp
    refine .inl ⟨a, ws, rfl, .inr q, ?_⟩
    rw [← l.length]
    exact Out.here h I ⟨rfl, rfl⟩
  · obtain ⟨v, rfl, r'⟩ := repL1 r
    obtain ⟨rfl, rfl⟩ := r'
    split at h
    · rename_i hl
      exact .inr ⟨_, rfl, isz hl, Out.here h I ⟨rfl, rfl⟩⟩
    · exact h.elim
  · exact h.elim
def max2D : List D → Res D | [.int i, .int j] => .ok (.int (if j > i then j else i)) | _ => .bad
def min2D : List D → Res D | [.int i, .int j] => .ok (.int (if j < i then j else i)) | _ => .bad
theorem d_max2 : CallD K Y (fun xs H Q => ∃ i j, xs = [.int i, .int j] ∧ Q (.int (if j > i then j else i)) H) max2D := by
  intro H0 B0 B H σ τ P F ds vs f Q I r k h
  unfold max2D at h
  split at h
  · obtain ⟨v, u, f1, f2, rfl, rfl, ⟨rfl, rfl⟩, ⟨rfl, rfl⟩⟩ := repL2 r
    exact ⟨_, _, rfl, Out.here h I ⟨rfl, rfl⟩⟩
  · exact h.elim
theorem d_min2 : CallD K Y (fun xs H Q => ∃ i j, xs = [.int i, .int j] ∧ Q (.int (if j < i then j else i)) H) min2D := by
  intro H0 B0 B H σ τ P F ds vs f Q I r k h
  unfold min2D at h
  split at h
  · obtain ⟨v, u, f1, f2, rfl, rfl, ⟨rfl, rfl⟩, ⟨rfl, rfl⟩⟩ := repL2 r
    exact ⟨_, _, rfl, Out.here h I ⟨rfl, rfl⟩⟩
  · exact h.elim
def listD : List D → Res D
  | [.lst _ xs] => .ok (.lst .own xs)
  | [.tup xs] => .ok (.lst .own xs)
  | _ => .bad
theorem d_list : CallD K Y (fun xs H Q => ∃ p ys, xs = [.ref p] ∧ (SqL K H p ys ∨ SqT K H p ys) ∧ ∀ l, H l = none → Q (.ref l) (upd H l (.lst ys))) listD := by
  intro H0 B0 B H σ τ P F ds vs f Q I r k h
  unfold listD at h
  split at h
  · obtain ⟨v, rfl, r'⟩ := repL1 r
    obtain ⟨a, ws, g, rfl, q, l, s⟩ := r'.lst I
    exact ⟨a, ws, rfl, .inl (sqL_of q), fun p hp => Out.newL h I l (k.sub s) hp⟩
  · obtain ⟨v, rfl, r'⟩ := repL1 r
    obtain ⟨a, ws, rfl, q, l⟩ := r'.tp
    exact ⟨a, ws, rfl, .inr q, fun p hp => Out.newL h I l k hp⟩
  · exact h.elim
def tupleD : List D → Res D
  | [.lst _ xs] => .ok (.tup xs)
  | [.tup xs] => .ok (.tup xs)
  | _ => .bad
theorem d_tuple : CallD K Y (fun xs H Q => ∃ p ys, xs = [.ref p] ∧ ((SqL K H p ys ∧ ∀ l, H l = none → Q (.ref l) (upd H l (.tup ys))) ∨ (SqT K H p ys ∧ Q (.ref p) H))) tupleD := by
  intro H0 B0 B H σ τ P F ds vs f Q I r k h
  unfold tupleD at h
  split at h
  · obtain ⟨v, rfl, r'⟩ := repL1 r
    obtain ⟨a, ws, g, rfl, q, l, s⟩ := r'.lst I
    exact ⟨a, ws, rfl, .inl ⟨sqL_of q, fun p hp => Out.newT h I l (k.sub s) hp⟩⟩
  · obtain ⟨v, rfl, r'⟩ := repL1 r
    obtain ⟨a, ws, rfl, q, l⟩ := r'.tp
    exact ⟨a, ws, rfl, .inr ⟨q, Out.hereO h I r' k⟩⟩
  · exact h.elim
/-! ### slices -/
def eP (f : SD → Res D) (τ : SD) : Res (Option Int) := (f τ).bind fun d => match d with | .int i => .ok (some i) | _ => .bad
def eP0 (_ : SD) : Res (Option Int) := .ok none
def tMO (K : PySem.W.Frag) (Y : XY) (f : SD → Res (Option Int)) : TO := fun σ H Q => ∃ H0 B0 B τ P F, SI K H0 B0 B H σ τ P F ∧ match f τ with
  | .ok o => ∀ H' B', SI K H0 B0 B' H' σ τ P F → Same H H' → Same B B' → Q o H'
  | .exn C => OutX K Y H0 B0 B H σ τ P F C
  | .bad => False
theorem PO.imp {e : Option Expr} {t t' : TO} (h : PO X e t) (hi : ∀ σ H Q, t' σ H Q → t σ H Q) : PO X e t' := fun pins s σ H Q I hw => h pins s σ H Q I (hi σ H Q hw)
theorem qo_none : PO X none (tMO X.K Y eP0) := PO.imp po_none fun σ H Q ⟨H0, B0, B, τ, P, F, I, h⟩ => h H B I (Same.refl _) (Same.refl _)
theorem qo_some (h : PE X e (tM X.K Y fe)) : PO X (some e) (tMO X.K Y (eP fe)) := by
  refine PO.imp (po_some h) fun σ H Q ⟨H0, B0, B, τ, P, F, I, h⟩ => ?_
  refine ⟨H0, B0, B, τ, P, F, I, ?_⟩
  unfold eP at h
  cases z : fe τ with
  | exn C => rw [z] at h; exact h
  | bad => rw [z] at h; exact h
  | ok d =>
    rw [z] at h
    intro v H1 B1 fp I1 s1 b1 r1 k1
    cases d with
    | int i => exact ⟨i, r1.1, h H1 B1 I1 s1 b1⟩
    | _ => exact h.elim
/-- the items of xs[lo:hi] -/
def cut {α : Type} (xs : List α) (lo hi : Option Int) : List α := (xs.drop (HT.sIx xs.length 0 lo)).take (HT.sIx xs.length xs.length hi - HT.sIx xs.length 0 lo)
theorem RepL.drop {S : Addr → Prop} : ∀ (n : Nat) {xs : List D} {vs : List V} {f : List Addr}, RepL K B S H xs vs f → ∃ g, RepL K B S H (xs.drop n) (vs.drop n) g ∧ List.Sublist g f
  | 0, xs, vs, f, r => ⟨f, r, List.Sublist.refl _⟩
  | n + 1, [], vs, f, r => by
    obtain ⟨rfl, rfl⟩ := r
    exact ⟨[], ⟨rfl, rfl⟩, List.Sublist.refl _⟩
  | n + 1, d :: ds, vs, f, r => by
    obtain ⟨v, w, f1, f2, rfl, r1, r2, rfl⟩ := r
    obtain ⟨g, h1, h2⟩ := RepL.drop n r2
    exact ⟨g, h1, h2.trans (List.sublist_append_right _ _)⟩
theorem RepL.take {S : Addr → Prop} : ∀ (n : Nat) {xs : List D} {vs : List V} {f : List Addr}, RepL K B S H xs vs f → ∃ g, RepL K B S H (xs.take n) (vs.take n) g ∧ List.Sublist g f
  | 0, xs, vs, f, r => ⟨[], ⟨rfl, rfl⟩, List.nil_sublist _⟩
  | n + 1, [], vs, f, r => by
    obtain ⟨rfl, rfl⟩ := r
    exact ⟨[], ⟨rfl, rfl⟩, List.Sublist.refl _⟩
  | n + 1, d :: ds, vs, f, r => by
    obtain ⟨v, w, f1, f2, rfl, r1, r2, rfl⟩ := r
    obtain ⟨g, h1, h2⟩ := RepL.take n r2
    exact ⟨f1 ++ g, ⟨v, _, f1, g, rfl, r1, h1, rfl⟩, List.Sublist.append (List.Sublist.refl _) h2⟩
theorem RepL.cut {S : Addr → Prop} {xs : List D} {vs : List V} {f : List Addr} (r : RepL K B S H xs vs f) (lo hi : Option Int) : ∃ g, RepL K B S H (cut xs lo hi) (cutV vs lo hi) g ∧ List.Sublist g f := by
  unfold DL.cut cutV
  rw [r.length]
  obtain ⟨g, h1, h2⟩ := r.drop (HT.sIx vs.length 0 lo)
  obtain ⟨g', h3, h4⟩ := h1.take (HT.sIx vs.length vs.length hi - HT.sIx vs.length 0 lo)
  exact ⟨g', h3, h4.trans h2⟩
def cutD (d : D) (lo hi : Option Int) : Res D := match d with
  | .lst _ xs => .ok (.lst .own (cut xs lo hi))
  | .tup xs => if HT.sIx xs.length 0 lo = 0 ∧ HT.sIx xs.length xs.length hi = xs.length then .bad else .ok (.tup (cut xs lo hi))
  | _ => .bad
def eCut (f : SD → Res D) (lo hi : SD → Res (Option Int)) (τ : SD) : Res D := (f τ).bind fun d => (lo τ).bind fun l => (hi τ).bind fun u => cutD d l u
theorem q_slice {lo hi : Option Expr} {fl fh : SD → Res (Option Int)} {p2 : Pos} (he : PE X e (tM X.K Y fe)) (hl : PO X lo (tMO X.K Y fl)) (hu : PO X hi (tMO X.K Y fh)) : PE X (.Subscript e (.Slice lo hi none p2) pos) (tM X.K Y (eCut fe fl fh)) := by
  refine PE.imp (pe_slice (SlR.or sl_list sl_tup) he hl hu) fun σ H Q ⟨H0, B0, B, τ, P, F, I, h⟩ => ?_
  refine tM.seq I h fun d v H1 B1 fp _ I1 s1 b1 r1 k1 h1 => ?_
  refine ⟨H0, B0, B1, τ, P, _, I1.hold k1, ?_⟩
  cases z : fl τ with
  | exn C => rw [z] at h1; exact OutX.later h1 (Same.refl _) (Same.refl _) fun a x => .inr x
  | bad => rw [z] at h1; exact h1
  | ok l =>
    rw [z] at h1
    intro H2 B2 I2 s2 b2
    refine ⟨H0, B0, B2, τ, P, _, I2, ?_⟩
    cases y : fh τ with
    | exn C => rw [y] at h1; exact OutX.later h1 s2 b2 fun a x => .inr x
    | bad => rw [y] at h1; exact h1
    | ok u =>
      rw [y] at h1
      intro H3 B3 I3 s3 b3
      have I4 := I3.anti (F' := F) fun a x => .inr x
      have k4 := k1.still (s2.trans s3) I3
      have r4 := r1.mono (s2.trans s3) (b2.trans b3) fun _ x => x
      have h4 : Goal X.K Y H0 B0 B3 H3 σ τ P F Q (cutD d l u) := Goal.later h1 (s2.trans s3) (b2.trans b3)
      unfold cutD at h4
      split at h4
      · obtain ⟨a, vs, g, rfl, q, l', s⟩ := r4.lst I4
        obtain ⟨g', l2, s2⟩ := l'.cut l u
        exact .inl ⟨a, vs, rfl, sqL_of q, fun p hp => Out.newL h4 I4 l2 (k4.sub (s2.trans s)) hp⟩
      · obtain ⟨a, vs, rfl, q, l'⟩ := r4.tp
        obtain ⟨g', l2, s2⟩ := l'.cut l u
        split at h4
        · exact h4.elim
        · rename_i hc
          rw [l'.length] at hc
          exact .inr ⟨a, vs, rfl, q, hc, fun p hp => Out.newT h4 I4 l2 (k4.sub s2) hp⟩
      · exact h4.elim
end
end DL
set_option Elab.async false
set_option linter.all false
set_option maxRecDepth 100000
set_option maxHeartbeats 4000000
/-! ### statements -/
namespace DL
open PySem PySem.Spec PyProof.Rows L2
inductive Fl where | nx (τ : SD) | rt (d : D) | bk (τ : SD) | ct (τ : SD) | ex (C : Addr) (τ : SD) | bad
abbrev SF := SD → Fl
def Tg.unbor : Tg → Tg | .bor => .frz | t => t
mutual
def D.unbor : D → D
  | .tup xs => .tup (unborL xs)
  | .lst t xs => .lst t.unbor (unborL xs)
  | .dct t k ks vs => .dct t.unbor k ks (unborL vs)
  | d => d
def unborL : List D → List D
  | [] => []
  | d :: r => d.unbor :: unborL r
end
mutual
theorem unbor_id : ∀ d : D, d.hasBor = false → d.unbor = d
  | .non, _ => rfl
  | .bl _, _ => rfl
  | .int _, _ => rfl
  | .str _, _ => rfl
  | .exc _, _ => rfl
  | .tup xs, h => by
    have h : hasBorL xs = false := h
    show D.tup (unborL xs) = _
    rw [unborL_id xs h]
  | .lst t xs, h => by
    have h : (decide (t = .bor) || hasBorL xs) = false := h
    rw [Bool.or_eq_false_iff] at h
    show D.lst t.unbor (unborL xs) = _
    rw [unborL_id xs h.2]
    cases t <;> first | rfl | exact absurd h.1 (by decide)
  | .dct t k ks vs, h => by
    have h : (decide (t = .bor) || hasBorL vs) = false := h
    rw [Bool.or_eq_false_iff] at h
    show D.dct t.unbor k ks (unborL vs) = _
    rw [unborL_id vs h.2]
    cases t <;> first | rfl | exact absurd h.1 (by decide)
theorem unborL_id : ∀ xs : List D, hasBorL xs = false → unborL xs = xs
  | [], _ => rfl
  | d :: r, h => by
    have h : (d.hasBor || hasBorL r) = false := h
    rw [Bool.or_eq_false_iff] at h
    show d.unbor :: unborL r = _
    rw [unbor_id d h.1, unborL_id r h.2]
end
section
variable {K : PySem.W.Frag}
mutual
theorem Rep.unbor {B B' H : Hp} {S : Addr → Prop} (sB : Same B B') (hs : ∀ a o, S a → H a = some o → B' a = some o) : ∀ {d : D} {v : V} {fp : List Addr}, Rep K B S H d v fp → Rep K B' No H d.unbor v fp
  | .non, _, _, h => h
  | .bl _, _, _, h => h
  | .int _, _, _, h => h
  | .str _, _, _, h => h
  | .exc _, _, _, h => h
  | .tup xs, v, fp, h => let ⟨a, vs, e, q, r⟩ := h; ⟨a, vs, e, q, RepL.unbor sB hs r⟩
  | .lst .own xs, v, fp, h => let ⟨a, vs, f, e, q, r, z⟩ := h; ⟨a, vs, f, e, q, RepL.unbor sB hs r, z⟩
  | .lst .bor xs, v, fp, h => let ⟨a, vs, e, q, r, z⟩ := h; ⟨a, vs, e, sqL_to sB hs q, RepL.unbor sB hs r, z⟩
  | .lst .frz xs, v, fp, h => let ⟨a, vs, e, q, r, z⟩ := h; ⟨a, vs, e, rd_mono sB q, RepL.unbor sB (fun _ _ x => x.elim) r, z⟩
  | .dct .own kd ks xs, v, fp, h => let ⟨a, vs, f, e, q, r, z⟩ := h; ⟨a, vs, f, e, q, RepL.unbor sB hs r, z⟩
  | .dct .bor kd ks xs, v, fp, h => let ⟨a, vs, e, q, r, z⟩ := h; ⟨a, vs, e, dictAt_to sB hs q, RepL.unbor sB hs r, z⟩
  | .dct .frz kd ks xs, v, fp, h => let ⟨a, vs, e, q, r, z⟩ := h; ⟨a, vs, e, q.mono sB, RepL.unbor sB (fun _ _ x => x.elim) r, z⟩
theorem RepL.unbor {B B' H : Hp} {S : Addr → Prop} (sB : Same B B') (hs : ∀ a o, S a → H a = some o → B' a = some o) : ∀ {ds : List D} {vs : List V} {fp : List Addr}, RepL K B S H ds vs fp → RepL K B' No H (unborL ds) vs fp
  | [], _, _, h => h
  | d :: ds, vs, fp, h => let ⟨v, r, f, g, e, h1, h2, z⟩ := h; ⟨v, r, f, g, e, Rep.unbor sB hs h1, RepL.unbor sB hs h2, z⟩
end
/-- what can't be written is as it was -/
def Imm (H H' : Hp) : Prop := ∀ a o, H a = some o → ¬ mutO o → H' a = some o
theorem Imm.of {H H' : Hp} (s : Same H H') : Imm H H' := fun a o h _ => s a o h
theorem Imm.refl (H : Hp) : Imm H H := fun _ _ h _ => h
theorem Imm.trans {H H1 H2 : Hp} (a : Imm H H1) (b : Imm H1 H2) : Imm H H2 := fun x o h n => b x o (a x o h n) n
/-- behind a statement -/
structure Aft (K : PySem.W.Frag) (H0 B0 B H : Hp) (B' H' : Hp) (σ' : L2.St) (τ' : SD) (P' : List Addr) : Prop where
  si : SI K H0 B0 B' H' σ' τ' P' No
  b : Same B B'
  imm : Imm H H'
/-- behind a return -/
structure RetOk (K : PySem.W.Frag) (H0 B0 B' H' : Hp) (d : D) (v : V) (fp : List Addr) : Prop where
  h0 : Same H0 H'
  b0 : Same B0 B'
  bh : Same B' H'
  nb : ∀ a, B' a ≠ none → B0 a ≠ none ∨ H0 a = none
  rep : Rep K B' No H' d v fp
  nd : fp.Nodup
  own : ∀ a ∈ fp, B' a = none ∧ H0 a = none ∧ H' a ≠ none
def GoalS (K : PySem.W.Frag) (Y : XY) (H0 B0 B H : Hp) (E : Ends) : Fl → Prop
  | .nx τ' => ∀ B' H' σ' P', Aft K H0 B0 B H B' H' σ' τ' P' → E.nx σ' H'
  | .bk τ' => ∀ B' H' σ' P', Aft K H0 B0 B H B' H' σ' τ' P' → E.bk σ' H'
  | .ct τ' => ∀ B' H' σ' P', Aft K H0 B0 B H B' H' σ' τ' P' → E.ct σ' H'
  | .ex C τ' => ∀ B' H' σ' P', Aft K H0 B0 B H B' H' σ' τ' P' → Y C σ' H'
  | .rt d => ∀ B' H' v fp, RetOk K H0 B0 B' H' d v fp → E.rt v H'
  | .bad => False
def tMS (K : PySem.W.Frag) (Y : XY) (g : SF) : TS := fun E σ H => ∃ H0 B0 B τ P, SI K H0 B0 B H σ τ P No ∧ GoalS K Y H0 B0 B H E (g τ)
variable {Y : XY} {H0 B0 B H : Hp} {σ : L2.St} {τ : SD} {P : List Addr} {F : Addr → Prop} {E : Ends}
theorem Aft.refl (I : SI K H0 B0 B H σ τ P No) : Aft K H0 B0 B H B H σ τ P := ⟨I, Same.refl _, Imm.refl _⟩
theorem Aft.grow {B' H' : Hp} (I : SI K H0 B0 B' H' σ τ P No) (sB : Same B B') (sH : Same H H') : Aft K H0 B0 B H B' H' σ τ P := ⟨I, sB, Imm.of sH⟩
theorem Aft.trans {B1 H1 B2 H2 : Hp} {σ1 σ2 : L2.St} {τ1 τ2 : SD} {P1 P2 : List Addr} (a : Aft K H0 B0 B H B1 H1 σ1 τ1 P1) (b : Aft K H0 B0 B1 H1 B2 H2 σ2 τ2 P2) : Aft K H0 B0 B H B2 H2 σ2 τ2 P2 := ⟨b.si, a.b.trans b.b, a.imm.trans b.imm⟩
theorem GoalS.later {B1 H1 : Hp} {σ1 : L2.St} {τ1 : SD} {P1 : List Addr} {r : Fl} (h : GoalS K Y H0 B0 B H E r) (a : Aft K H0 B0 B H B1 H1 σ1 τ1 P1) : GoalS K Y H0 B0 B1 H1 E r := by
  cases r with
  | nx τ' => exact fun B' H' σ' P' b => h B' H' σ' P' (a.trans b)
  | bk τ' => exact fun B' H' σ' P' b => h B' H' σ' P' (a.trans b)
  | ct τ' => exact fun B' H' σ' P' b => h B' H' σ' P' (a.trans b)
  | ex C τ' => exact fun B' H' σ' P' b => h B' H' σ' P' (a.trans b)
  | rt d => exact h
  | bad => exact h
/-! sequences -/
def Fl.andThen (r : Fl) (s : SF) : Fl := match r with | .nx τ => s τ | r => r
def sSeq (a b : SF) (τ : SD) : Fl := (a τ).andThen b
def sNext (τ : SD) : Fl := .nx τ
variable {X : Cx} {st : Stmt} {rest : List Stmt} {g g1 g2 : SF} {pos : Pos}
theorem ss_nil : PSs X [] (tMS X.K Y sNext) := PSs.imp pss_nil fun E σ H ⟨H0, B0, B, τ, P, I, h⟩ => h B H σ P (Aft.refl I)
theorem ss_one (h : PS X st (tMS X.K Y g)) : PSs X [st] (tMS X.K Y g) := pss_one h
theorem ss_cons (h1 : PS X st (tMS X.K Y g1)) (h2 : PSs X rest (tMS X.K Y g2)) : PSs X (st :: rest) (tMS X.K Y (sSeq g1 g2)) := by
  refine PSs.imp (pss_cons h1 h2) fun E σ H ⟨H0, B0, B, τ, P, I, h⟩ => ⟨H0, B0, B, τ, P, I, ?_⟩
  unfold sSeq at h
  cases e : g1 τ with
  | nx τ' => rw [e] at h; exact fun B' H' σ' P' a => ⟨H0, B0, B', τ', P', a.si, GoalS.later h a⟩
  | bk τ' => rw [e] at h; exact h
  | ct τ' => rw [e] at h; exact h
  | ex C τ' => rw [e] at h; exact h
  | rt d => rw [e] at h; exact h
  | bad => rw [e] at h; exact h
theorem s_pass : PS X (.Pass pos) (tMS X.K Y sNext) := PS.imp ps_pass fun E σ H ⟨H0, B0, B, τ, P, I, h⟩ => h B H σ P (Aft.refl I)
def sBreak (τ : SD) : Fl := .bk τ
def sCont (τ : SD) : Fl := .ct τ
theorem s_break : PS X (.Break pos) (tMS X.K Y sBreak) := PS.imp ps_break fun E σ H ⟨H0, B0, B, τ, P, I, h⟩ => h B H σ P (Aft.refl I)
theorem s_cont : PS X (.Continue pos) (tMS X.K Y sCont) := PS.imp ps_continue fun E σ H ⟨H0, B0, B, τ, P, I, h⟩ => h B H σ P (Aft.refl I)
def sNever (_ : SD) : Fl := .bad
theorem s_never : PS X st (tMS X.K Y sNever) := fun _ _ _ _ _ _ ⟨_, _, _, _, _, _, h⟩ => h.elim
/-! an expression by itself, return, if -/
def Res.toFl (τ : SD) (r : Res D) (k : D → Fl) : Fl := match r with | .ok d => k d | .exn C => .ex C τ | .bad => .bad
def Res.toFlB (τ : SD) (r : Res Bool) (k : Bool → Fl) : Fl := match r with | .ok d => k d | .exn C => .ex C τ | .bad => .bad
/-- from a statement's goal to its expression's -/
theorem exprS {f : SD → Res D} {k : D → Fl} {Q : VK} (I : SI K H0 B0 B H σ τ P No) (h : GoalS K Y H0 B0 B H E ((f τ).toFl τ k))
    (c : ∀ d v H1 B1 fp, f τ = .ok d → SI K H0 B0 B1 H1 σ τ P No → Same H H1 → Same B B1 → Rep K B1 (· ∈ P) H1 d v fp → Vok H0 B1 H1 P No fp → GoalS K Y H0 B0 B1 H1 E (k d) → Q v H1) : tM K Y f σ H Q := by
  refine ⟨H0, B0, B, τ, P, No, I, ?_⟩
  cases e : f τ with
  | ok d =>
    rw [e] at h
    intro v H1 B1 fp I1 s1 b1 r1 k1
    exact c d v H1 B1 fp e I1 s1 b1 r1 k1 (GoalS.later h (Aft.grow I1 b1 s1))
  | exn C => rw [e] at h; exact fun H1 B1 I1 s1 b1 => h B1 H1 σ P (Aft.grow I1 b1 s1)
  | bad => rw [e] at h; exact h
theorem testS {f : SD → Res Bool} {k : Bool → Fl} {Q : Bool → Hp → Prop} (I : SI K H0 B0 B H σ τ P No) (h : GoalS K Y H0 B0 B H E ((f τ).toFlB τ k))
    (c : ∀ d H1 B1, f τ = .ok d → SI K H0 B0 B1 H1 σ τ P No → Same H H1 → Same B B1 → GoalS K Y H0 B0 B1 H1 E (k d) → Q d H1) : tMB K Y f σ H Q := by
  refine ⟨H0, B0, B, τ, P, No, I, ?_⟩
  cases e : f τ with
  | ok d => rw [e] at h; exact fun H1 B1 I1 s1 b1 => c d H1 B1 e I1 s1 b1 (GoalS.later h (Aft.grow I1 b1 s1))
  | exn C => rw [e] at h; exact fun H1 B1 I1 s1 b1 => h B1 H1 σ P (Aft.grow I1 b1 s1)
  | bad => rw [e] at h; exact h
variable {e c : Expr} {fe : SD → Res D} {gc : SD → Res Bool}
def sExpr (f : SD → Res D) (τ : SD) : Fl := (f τ).toFl τ fun _ => .nx τ
theorem s_expr (he : PE X e (tM X.K Y fe)) (hs : swapsWith e none pos.line X.env = pure false := by rfl) : PS X (.Expr e pos) (tMS X.K Y (sExpr fe)) :=
  PS.imp (ps_expr he hs) fun E σ H ⟨H0, B0, B, τ, P, I, h⟩ => exprS I h fun d v H1 B1 fp _ I1 _ _ _ _ h1 => h1 B1 H1 σ P (Aft.refl I1)
def sIf (c : SD → Res Bool) (a b : SF) (τ : SD) : Fl := (c τ).toFlB τ fun t => if t = true then a τ else b τ
theorem s_if {a b : List Stmt} (hc : PT X c (tMB X.K Y gc)) (ha : PSs X a (tMS X.K Y g1)) (hb : PSs X b (tMS X.K Y g2)) : PS X (.If c a b pos) (tMS X.K Y (sIf gc g1 g2)) :=
  PS.imp (ps_if hc ha hb) fun E σ H ⟨H0, B0, B, τ, P, I, h⟩ => testS I h fun d H1 B1 _ I1 _ _ h1 => by
    cases d with
    | true => rw [if_pos rfl] at h1 ⊢; exact ⟨H0, B0, B1, τ, P, I1, h1⟩
    | false => rw [if_neg Bool.false_ne_true] at h1 ⊢; exact ⟨H0, B0, B1, τ, P, I1, h1⟩
/-- what is at rest, with the addresses of S -/
noncomputable def atRest (B H : Hp) (S : Addr → Prop) : Hp := fun a => by classical exact if S a then H a else B a
theorem rest_same {S : Addr → Prop} (h : Same B H) : Same B (atRest B H S) := fun a o e => by
  unfold atRest; split
  · exact h a o e
  · exact e
theorem rest_in {S : Addr → Prop} {a : Addr} {o : HO} (s : S a) (h : H a = some o) : atRest B H S a = some o := by unfold atRest; rw [if_pos s]; exact h
theorem rest_up {S : Addr → Prop} (h : Same B H) : Same (atRest B H S) H := fun a o e => by
  unfold atRest at e; split at e
  · exact e
  · exact h a o e
theorem rest_out {S : Addr → Prop} {a : Addr} (s : ¬ S a) : atRest B H S a = B a := by unfold atRest; rw [if_neg s]
def sRet (f : SD → Res D) (τ : SD) : Fl := (f τ).toFl τ fun d => .rt d.unbor
theorem retOk_of {d : D} {v : V} {fp : List Addr} (I : SI K H0 B0 B H σ τ P F) (r : Rep K B (· ∈ P) H d v fp) (k : Vok H0 B H P F fp) : RetOk K H0 B0 (atRest B H (· ∈ P)) H d.unbor v fp where
  h0 := I.h0
  b0 := I.b0.trans (rest_same I.bh)
  bh := rest_up I.bh
  nb := fun a n => by
    by_cases m : a ∈ P
    · exact .inr (I.own a m).2.1
    · rw [rest_out m] at n; exact I.nb a n
  rep := r.unbor (rest_same I.bh) fun a o s h => rest_in s h
  nd := k.nd
  own := fun a m => let ⟨a1, a2, a3, a4, _⟩ := k.own a m; ⟨by rw [rest_out a4]; exact a1, a2, a3⟩
theorem s_ret (he : PE X e (tM X.K Y fe)) : PS X (.Return (some e) pos) (tMS X.K Y (sRet fe)) :=
  PS.imp (ps_ret he) fun E σ H ⟨H0, B0, B, τ, P, I, h⟩ => exprS I h fun d v H1 B1 fp _ I1 _ _ r1 k1 h1 => h1 _ H1 v fp (retOk_of I1 r1 k1)
def sRetN (_ : SD) : Fl := .rt .non
theorem s_retN : PS X (.Return none pos) (tMS X.K Y sRetN) := PS.imp ps_retN fun E σ H ⟨H0, B0, B, τ, P, I, h⟩ => h _ H .non [] (retOk_of (d := .non) I ⟨rfl, rfl⟩ Vok.nil)
/-- return x: the name's own goes along -/
def sRetV (i : Nat) (τ : SD) : Fl := match τ[i]? with | some (some d) => .rt d | _ => .bad
theorem s_retV (i : Nat) {x : Str} {pos' : Pos} (hN : X.N[i]? = some x := by rfl) (hv : Vis X.env.scope x := by first | exact Or.inl rfl | exact Or.inr (Or.inl rfl) | exact Or.inr (Or.inr rfl)) (hd : (x == ("__debug__" : Str)) = false := by decide)
    (hcd : (x == ("__classdict__" : Str)) = false := by decide) : PS X (.Return (some (.Name x pos')) pos) (tMS X.K Y (sRetV i)) := by
  refine PS.imp (ps_ret (pe_var hN hv hd hcd)) fun E σ H ⟨H0, B0, B, τ, P, I, h⟩ => ?_
  unfold sRetV at h
  cases e : τ[i]? with
  | none => rw [e] at h; exact h.elim
  | some o =>
    cases o with
    | none => rw [e] at h; exact h.elim
    | some d =>
      rw [e] at h
      obtain ⟨v, f, h1, h2, h3⟩ := I.rep.get e
      refine ⟨v, h1, h B H v f ⟨I.h0, I.b0, I.bh, I.nb, h2, I.nd.sublist h3, fun a m => ?_⟩⟩
      obtain ⟨a1, a2, a3⟩ := I.own a (h3.subset m)
      exact ⟨a1, a2, I.stands (h3.subset m)⟩
/-! ### a name gets a value -/
theorem RepS.length {B H : Hp} : ∀ {τ : SD} {σ : L2.St} {P : List Addr}, RepS K B H τ σ P → τ.length = σ.length
  | [], _, _, h => by rw [h.1]; rfl
  | none :: r, σ, P, h => by obtain ⟨o, t, rfl, h⟩ := h; rw [List.length_cons, List.length_cons, RepS.length h]
  | some d :: r, σ, P, h => by obtain ⟨v, t, f, g, rfl, _, h, _⟩ := h; rw [List.length_cons, List.length_cons, RepS.length h]
/-- the slots but one -/
theorem RepS.cut {B H : Hp} : ∀ {τ : SD} {σ : L2.St} {P : List Addr} {i : Nat}, RepS K B H τ σ P → i < τ.length → ∃ A f C, P = A ++ f ++ C ∧ (∀ d, τ[i]? = some (some d) → ∃ v, σ[i]? = some (some v) ∧ Rep K B No H d v f) ∧
    ∀ {B' H' : Hp} {d' : D} {v' : V} {f' : List Addr}, (∀ d v g, Rep K B No H d v g → (∀ a ∈ g, a ∈ A ++ C) → Rep K B' No H' d v g) → Rep K B' No H' d' v' f' → RepS K B' H' (τ.set i (some d')) (σ.set i (some v')) (A ++ f' ++ C)
  | [], σ, P, i, h, hi => absurd hi (Nat.not_lt_zero _)
  | none :: r, σ, P, 0, h, hi => by
    obtain ⟨o, t, rfl, h⟩ := h
    refine ⟨[], [], P, rfl, fun d e => by simp at e, fun {B' H' d' v' f'} hm hr => ⟨v', t, f', P, rfl, hr, ?_, rfl⟩⟩
    revert hm
    have key : ∀ {τ : SD} {σ : L2.St} {Q : List Addr}, RepS K B H τ σ Q → (∀ d v g, Rep K B No H d v g → (∀ a ∈ g, a ∈ Q) → Rep K B' No H' d v g) → RepS K B' H' τ σ Q := by
      intro τ
      induction τ with
      | nil => intro σ Q h _; exact h
      | cons o r ih =>
        intro σ Q h hm
        cases o with
        | none => obtain ⟨o, t, e, h⟩ := h; exact ⟨o, t, e, ih h hm⟩
        | some d =>
          obtain ⟨v, t, f, g, e, h1, h2, z⟩ := h
          subst z
          exact ⟨v, t, f, g, e, hm d v f h1 (fun a m => List.mem_append_left _ m), ih h2 (fun d v g' hr hg => hm d v g' hr fun a m => List.mem_append_right _ (hg a m)), rfl⟩
    exact fun hm => key h hm
  | some d :: r, σ, P, 0, h, hi => by
    obtain ⟨v, t, f, g, rfl, h1, h2, rfl⟩ := h
    refine ⟨[], f, g, by simp, fun d' e => ⟨v, rfl, ?_⟩, fun {B' H' d' v' f'} hm hr => ⟨v', t, f', g, rfl, hr, ?_, rfl⟩⟩
    · have e : d = d' := by simpa using e
      subst e
      exact h1
    · have key : ∀ {τ : SD} {σ : L2.St} {Q : List Addr}, RepS K B H τ σ Q → (∀ d v g, Rep K B No H d v g → (∀ a ∈ g, a ∈ Q) → Rep K B' No H' d v g) → RepS K B' H' τ σ Q := by
        intro τ
        induction τ with
        | nil => intro σ Q h _; exact h
        | cons o r ih =>
          intro σ Q h hm
          cases o with
          | none => obtain ⟨o, t, e, h⟩ := h; exact ⟨o, t, e, ih h hm⟩
          | some d =>
            obtain ⟨v, t, f, g, e, h1, h2, z⟩ := h
            subst z
            exact ⟨v, t, f, g, e, hm d v f h1 (fun a m => List.mem_append_left _ m), ih h2 (fun d v g' hr hg => hm d v g' hr fun a m => List.mem_append_right _ (hg a m)), rfl⟩
      exact key h2 hm
  | none :: r, σ, P, i + 1, h, hi => by
    obtain ⟨o, t, rfl, h⟩ := h
    obtain ⟨A, f, C, e, h1, h2⟩ := RepS.cut (i := i) h (by simpa using hi)
    exact ⟨A, f, C, e, fun d z => h1 d (by simpa using z), fun hm hr => ⟨o, _, rfl, h2 hm hr⟩⟩
  | some d :: r, σ, P, i + 1, h, hi => by
    obtain ⟨v, t, f, g, rfl, r1, r2, rfl⟩ := h
    obtain ⟨A, f', C, e, h1, h2⟩ := RepS.cut (i := i) r2 (by simpa using hi)
    subst e
    refine ⟨f ++ A, f', C, by simp, fun d z => h1 d (by simpa using z), fun {B' H' d' v' f''} hm hr => ?_⟩
    refine ⟨v, _, f, A ++ f'' ++ C, rfl, hm d v f r1 fun a m => by simp [m], h2 (fun d v g hr hg => hm d v g hr fun a m => ?_) hr, by simp⟩
    have := hg a m
    simp at this ⊢
    rcases this with z | z
    · exact .inr (.inl z)
    · exact .inr (.inr z)
/-- the slot i gets the value d' of which the addresses are new or were the slot's own; of the heap only the slot's own may have been written -/
theorem SI.put {i : Nat} {H1 : Hp} {d' : D} {v' : V} {f' : List Addr} (I : SI K H0 B0 B H σ τ P F) (hi : i < τ.length) {A f C : List Addr} (eP : P = A ++ f ++ C)
    (put : ∀ {B' H' : Hp} {d' : D} {v' : V} {f' : List Addr}, (∀ d v g, Rep K B No H d v g → (∀ a ∈ g, a ∈ A ++ C) → Rep K B' No H' d v g) → Rep K B' No H' d' v' f' → RepS K B' H' (τ.set i (some d')) (σ.set i (some v')) (A ++ f' ++ C))
    (kp : Keep H H1 f) (r : Rep K B No H1 d' v' f') (nd : f'.Nodup) (own : ∀ a ∈ f', a ∈ f ∨ (B a = none ∧ H0 a = none ∧ H a = none ∧ ¬ F a) ∨ (a ∉ P ∧ B a = none ∧ H0 a = none ∧ ¬ F a)) :
    SI K H0 B0 B H1 (σ.set i (some v')) (τ.set i (some d')) (A ++ f' ++ C) F := by
  have nd0 := I.nd
  rw [eP] at nd0
  have ndA : A.Nodup := (nd0.sublist (by simp)).sublist (List.sublist_append_left A (f ++ C))
  have kb : ∀ a o, B a = some o → a ∉ f := fun a o e m => by
    have := (I.own a (by rw [eP]; simp [m])).1
    rw [e] at this; cases this
  have k0 : ∀ a o, H0 a = some o → a ∉ f := fun a o e m => by
    have := (I.own a (by rw [eP]; simp [m])).2.1
    rw [e] at this; cases this
  have kf : ∀ a, F a → a ∉ f := fun a e m => (I.own a (by rw [eP]; simp [m])).2.2 e
  have notin : ∀ a ∈ f', a ∉ A ∧ a ∉ C := fun a m => by
    rcases own a m with q | q | q
    · rw [List.append_assoc, List.nodup_append] at nd0
      obtain ⟨n1, n2, n3⟩ := nd0
      rw [List.nodup_append] at n2
      exact ⟨fun z => n3 a z a (by simp [q]) rfl, fun z => n2.2.2 a q a z rfl⟩
    · exact ⟨fun z => I.stands (a := a) (by rw [eP]; simp [z]) q.2.2.1, fun z => I.stands (a := a) (by rw [eP]; simp [z]) q.2.2.1⟩
    · exact ⟨fun z => q.1 (by rw [eP]; simp [z]), fun z => q.1 (by rw [eP]; simp [z])⟩
  refine ⟨fun a o e => kp.keep a o (I.bh a o e) (kb a o e), fun a o e => kp.keep a o (I.h0 a o e) (k0 a o e), I.b0, I.nb, ?_, ?_, fun a m => ?_, fun a m => ⟨(I.fr a m).1, fun z => ?_⟩⟩
  · refine put (fun d v g hr hg => hr.keep kp fun a m z => ?_) r
    have h1 := hg a m
    rw [List.append_assoc, List.nodup_append] at nd0
    obtain ⟨n1, n2, n3⟩ := nd0
    rw [List.nodup_append] at n2
    rcases List.mem_append.mp h1 with q | q
    · exact n3 a q a (by simp [z]) rfl
    · exact n2.2.2 a z a q rfl
  · rw [List.append_assoc, List.nodup_append] at nd0 ⊢
    obtain ⟨n1, n2, n3⟩ := nd0
    rw [List.nodup_append] at n2
    refine ⟨n1, List.nodup_append.mpr ⟨nd, n2.2.1, fun a ha b hb e => ?_⟩, fun a ha b hb e => ?_⟩
    · subst e; exact (notin a ha).2 hb
    · subst e
      rcases List.mem_append.mp hb with q | q
      · exact (notin a q).1 ha
      · exact n3 a ha a (by simp [q]) rfl
  · rcases List.mem_append.mp m with q | q
    · rcases List.mem_append.mp q with q | q
      · exact I.own a (by rw [eP]; simp [q])
      · rcases own a q with q | q | q
        · exact I.own a (by rw [eP]; simp [q])
        · exact ⟨q.1, q.2.1, q.2.2.2⟩
        · exact ⟨q.2.1, q.2.2.1, q.2.2.2⟩
    · exact I.own a (by rw [eP]; simp [q])
  · obtain ⟨o, e⟩ := Option.ne_none_iff_exists'.mp (I.fr a m).2
    rw [kp.keep a o e (kf a m)] at z
    cases z
theorem Keep.refl : Keep H H [] := ⟨fun _ _ h _ => h, fun _ m => by cases m⟩
theorem Keep.same {f : List Addr} (h : ∀ a ∈ f, ∃ o, H a = some o ∧ mutO o) : Keep H H f := ⟨fun _ _ h _ => h, h⟩
theorem sublist_mid (A f C : List Addr) : ∀ a ∈ f, a ∈ A ++ f ++ C := fun a m => by simp [m]
/-- a value is laid into the slot i -/
theorem SI.set {d : D} {v : V} {fp : List Addr} (i : Nat) (I : SI K H0 B0 B H σ τ P F) (r : Rep K B No H d v fp) (k : Vok H0 B H P F fp) : ∃ P', SI K H0 B0 B H (σ.set i (some v)) (τ.set i (some d)) P' F ∧ ∀ a ∈ P', a ∈ P ∨ a ∈ fp := by
  by_cases hi : i < τ.length
  · obtain ⟨A, f, C, e, h1, h2⟩ := I.rep.cut hi
    refine ⟨_, I.put hi e h2 (Keep.same fun a m => I.rep.own a (by rw [e]; exact sublist_mid A f C a m)) r k.nd fun a m => .inr (.inr ?_), fun a m => ?_⟩
    · obtain ⟨a1, a2, a3, a4, a5⟩ := k.own a m
      exact ⟨a4, a1, a2, a5⟩
    · rw [e]; simp at m ⊢; rcases m with m | m | m <;> simp [m]
  · have e1 : τ.set i (some d) = τ := List.set_eq_of_length_le (by omega)
    have e2 : σ.set i (some v) = σ := List.set_eq_of_length_le (by rw [← I.rep.length]; omega)
    rw [e1, e2]
    exact ⟨P, I, fun a m => .inl m⟩
def setD (i : Nat) (τ : SD) (d : D) : Fl := if d.hasBor = true then .bad else .nx (τ.set i (some d))
def sSet (i : Nat) (f : SD → Res D) (τ : SD) : Fl := (f τ).toFl τ (setD i τ)
theorem s_set {i : Nat} {x : Str} {pos' : Pos} (hN : X.N.Nodup) (hi : X.N[i]? = some x) (hx : Loc X.env.scope x) (he : PE X e (tM X.K Y fe)) (hs : swapsWith e (some (.Name x pos')) pos.line X.env = pure false := by rfl) (hf : X.fn x = true ∨ X.env.scope.names.lookup x = some .local := by first | exact .inl rfl | exact .inr rfl) :
    PS X (.Assign [.Name x pos'] e pos) (tMS X.K Y (sSet i fe)) :=
  PS.imp (ps_set hN hi hx he hs hf) fun E σ H ⟨H0, B0, B, τ, P, I, h⟩ => exprS I h fun d v H1 B1 fp _ I1 _ _ r1 k1 h1 => by
    unfold setD at h1
    split at h1
    · exact h1.elim
    · rename_i hb
      obtain ⟨P', I', _⟩ := I1.set i (r1.noBor (by simpa using hb)) k1
      exact h1 B1 H1 _ P' ⟨I', Same.refl _, Imm.refl _⟩
/-! ### put to rest -/
def frzS : SD → SD := List.map (Option.map D.frz)
def frzAt (js : List Nat) (τ : SD) : SD := js.foldl (fun t j => match t[j]? with | some (some d) => t.set j (some d.frz) | _ => t) τ
theorem SI.frz1 (j : Nat) {d : D} (I : SI K H0 B0 B H σ τ P No) (hd : τ[j]? = some (some d)) : ∃ B' P', Same B B' ∧ SI K H0 B0 B' H σ (τ.set j (some d.frz)) P' No := by
  have hi : j < τ.length := (List.getElem?_eq_some_iff.mp hd).1
  obtain ⟨A, f, C, e, h1, h2⟩ := I.rep.cut hi
  obtain ⟨v, e1, r1⟩ := h1 d hd
  have sB : Same B (atRest B H (· ∈ f)) := rest_same I.bh
  have nd0 := I.nd
  rw [e] at nd0
  have dis : ∀ a ∈ A ++ C, a ∉ f := fun a m z => by
    rw [List.append_assoc, List.nodup_append] at nd0
    obtain ⟨n1, n2, n3⟩ := nd0
    rw [List.nodup_append] at n2
    rcases List.mem_append.mp m with q | q
    · exact n3 a q a (by simp [z]) rfl
    · exact n2.2.2 a z a q rfl
  have es : σ.set j (some v) = σ := by
    refine List.ext_getElem? fun k => ?_
    by_cases hk : k = j
    · subst hk
      rw [List.getElem?_set_self (List.getElem?_eq_some_iff.mp e1).1, e1]
    · rw [List.getElem?_set_ne (Ne.symm hk)]
  have rr := h2 (B' := atRest B H (· ∈ f)) (H' := H) (d' := d.frz) (v' := v) (f' := []) (fun d v g hr hg => hr.mono (Same.refl _) sB fun _ x => x) (r1.frz sB (fun a o s => s.elim) fun a m o ho => rest_in m ho)
  rw [es] at rr
  refine ⟨atRest B H (· ∈ f), A ++ [] ++ C, sB, rest_up I.bh, I.h0, I.b0.trans sB, fun a n => ?_, rr, ?_, fun a m => ?_, fun a m => m.elim⟩
  · by_cases m : a ∈ f
    · exact .inr (I.own a (by rw [e]; exact sublist_mid A f C a m)).2.1
    · rw [rest_out m] at n; exact I.nb a n
  · rw [List.append_nil]
    refine nd0.sublist ?_
    rw [List.append_assoc]
    exact List.Sublist.append (List.Sublist.refl _) (List.sublist_append_right _ _)
  · rw [List.append_nil] at m
    obtain ⟨a1, a2, a3⟩ := I.own a (by rw [e]; rcases List.mem_append.mp m with q | q <;> simp [q])
    exact ⟨by rw [rest_out (dis a m)]; exact a1, a2, fun x => x⟩
theorem SI.frzAt : ∀ (js : List Nat) {B : Hp} {τ : SD} {P : List Addr}, SI K H0 B0 B H σ τ P No → ∃ B' P', Same B B' ∧ SI K H0 B0 B' H σ (DL.frzAt js τ) P' No
  | [], B, τ, P, I => ⟨B, P, Same.refl _, I⟩
  | j :: js, B, τ, P, I => by
    unfold DL.frzAt
    rw [List.foldl_cons]
    cases e : τ[j]? with
    | none => exact SI.frzAt js I
    | some o =>
      cases o with
      | none => exact SI.frzAt js I
      | some d =>
        obtain ⟨B1, P1, s1, I1⟩ := I.frz1 j e
        obtain ⟨B2, P2, s2, I2⟩ := SI.frzAt js I1
        exact ⟨B2, P2, s1.trans s2, I2⟩
/-- ahead of a statement names may be put to rest -/
def sFrz (js : List Nat) (g : SF) (τ : SD) : Fl := g (frzAt js τ)
theorem s_frz (js : List Nat) (h : PS X st (tMS X.K Y g)) : PS X st (tMS X.K Y (sFrz js g)) := PS.imp h fun E σ H ⟨H0, B0, B, τ, P, I, h⟩ => by
  obtain ⟨B', P', s, I'⟩ := I.frzAt js
  exact ⟨H0, B0, B', _, P', I', GoalS.later h (Aft.grow I' s (Same.refl _))⟩
/-! ### a name's list is changed -/
/-- the slot's list -/
def ownL (τ : SD) (i : Nat) : Option (List D) := match τ[i]? with | some (some (.lst .own xs)) => some xs | _ => none
theorem ownL_some {τ : SD} {i : Nat} {xs : List D} (h : ownL τ i = some xs) : τ[i]? = some (some (.lst .own xs)) := by
  unfold ownL at h
  split at h
  · rename_i e; cases h; exact e
  · cases h
/-- the list at its address is written; the new items -/
theorem SI.mutL {i : Nat} {xs xs' : List D} {gp : List Addr} {a : Addr} {vs vs' : List V} (I : SI K H0 B0 B H σ τ P No) (hi : τ[i]? = some (some (.lst .own xs))) (ev : σ[i]? = some (some (.ref a)))
    (k : Vok H0 B H P No gp)
    (items : ∀ f, H a = some (.lst vs) → RepL K B No H xs vs f → ∃ f', RepL K B No H xs' vs' f' ∧ (∀ b ∈ f', b ∈ f ∨ b ∈ gp) ∧ (f.Nodup → (∀ b ∈ gp, b ∉ f) → f'.Nodup)) (hv : H a = some (.lst vs)) :
    ∃ P', Aft K H0 B0 B H B (upd H a (.lst vs')) σ (τ.set i (some (.lst .own xs'))) P' := by
  have hi' : i < τ.length := (List.getElem?_eq_some_iff.mp hi).1
  obtain ⟨A, f, C, e, h1, h2⟩ := I.rep.cut hi'
  obtain ⟨v, e1, r1⟩ := h1 _ hi
  rw [ev] at e1
  cases e1
  obtain ⟨a', ws, g, ea, hq, rl, ef⟩ := r1
  cases ea
  rw [hv] at hq
  cases hq
  subst ef
  have nd0 := I.nd
  rw [e] at nd0
  have ndf : (a :: g).Nodup := (nd0.sublist (List.sublist_append_left _ _)).sublist (List.sublist_append_right _ _)
  have gdis : ∀ b ∈ gp, b ∉ a :: g := fun b m z => (k.own b m).2.2.2.1 (by rw [e]; exact sublist_mid _ _ _ b z)
  obtain ⟨f', r', s', n'⟩ := items g hv rl
  obtain ⟨na, ng⟩ := List.nodup_cons.mp ndf
  have hna : a ∉ f' := fun m => (s' a m).elim na fun z => gdis a z List.mem_cons_self
  have es : σ.set i (some (.ref a)) = σ := by
    refine List.ext_getElem? fun k => ?_
    by_cases hk : k = i
    · subst hk
      rw [List.getElem?_set_self (List.getElem?_eq_some_iff.mp ev).1, ev]
    · rw [List.getElem?_set_ne (Ne.symm hk)]
  have kp : Keep H (upd H a (.lst vs')) [a] := ⟨fun b o h n => by rw [upd_ne (by simpa using n)]; exact h, fun b m => by
    have : b = a := by simpa using m
    subst this
    exact ⟨_, hv, trivial⟩⟩
  have kpf : Keep H (upd H a (.lst vs')) (a :: g) := ⟨fun b o h n => kp.keep b o h (fun z => n (List.mem_cons.mpr (.inl (List.mem_singleton.mp z)))), fun b m => I.rep.own b (by rw [e]; exact sublist_mid _ _ _ b m)⟩
  have key := I.put (i := i) (H1 := upd H a (.lst vs')) (d' := .lst .own xs') (v' := .ref a) (f' := a :: f') hi' e h2 kpf ⟨a, vs', f', rfl, upd_same, r'.keep kp fun b m => by
      have : b ≠ a := fun z => hna (z ▸ m)
      simpa using this, rfl⟩ (List.nodup_cons.mpr ⟨hna, n' ng fun b m z => gdis b m (List.mem_cons_of_mem _ z)⟩) fun b m => ?_
  · rw [es] at key
    exact ⟨_, key, Same.refl _, fun b o h n => kp.imm h n⟩
  · rcases List.mem_cons.mp m with q | q
    · exact .inl (by simp [q])
    · rcases s' b q with z | z
      · exact .inl (List.mem_cons_of_mem _ z)
      · obtain ⟨a1, a2, a3, a4, a5⟩ := k.own b z
        exact .inr (.inr ⟨a4, a1, a2, a5⟩)
end
end DL
set_option Elab.async false
set_option linter.all false
set_option maxRecDepth 100000
set_option maxHeartbeats 4000000
namespace DL
open PySem PySem.Spec PyProof.Rows L2
section
variable {K : PySem.W.Frag} {Y : XY} {H0 B0 B H : Hp} {σ : L2.St} {τ : SD} {P : List Addr} {F : Addr → Prop} {E : Ends} {X : Cx} {pos : Pos} {e c : Expr} {fe : SD → Res D} {gc : SD → Res Bool}
/-! ### xs.append(e) and its like: the name stands in the slot i -/
theorem SI.listAt {i : Nat} {xs : List D} (I : SI K H0 B0 B H σ τ P F) (h : τ[i]? = some (some (.lst .own xs))) : ∃ a vs, σ[i]? = some (some (.ref a)) ∧ H a = some (.lst vs) ∧ xs.length = vs.length := by
  obtain ⟨v, f, h1, h2, h3⟩ := I.rep.get h
  obtain ⟨a, vs, g, rfl, q, r, z⟩ := h2
  exact ⟨a, vs, h1, q, r.length⟩
def sApp (i : Nat) (f : SD → Res D) (τ : SD) : Fl := match ownL τ i with
  | some xs => (f τ).toFl τ fun d => if d.hasBor = true then .bad else if xs.length < 16777216 then .nx (τ.set i (some (.lst .own (xs ++ [d])))) else .bad
  | none => .bad
theorem s_app (i : Nat) {x : Str} {p1 apos cpos : Pos} (he : PE X e (tM X.K Y fe)) (hN : X.N[i]? = some x := by rfl) (hv : Vis X.env.scope x := by first | exact Or.inl rfl | exact Or.inr (Or.inl rfl) | exact Or.inr (Or.inr rfl)) (hd : (x == ("__debug__" : Str)) = false := by decide) (hcd : (x == ("__classdict__" : Str)) = false := by decide)
    (hbase : attributeBase (.Name x p1) "append" X.env (eval (.Name x p1) X.env) = eval (.Name x p1) X.env := by rfl)
    (hfew : ((backTo cpos (starEach [e] X.env)).all (fun x => !x.1) && (backToKw cpos (keywordEach [] X.env)).all (fun x => x.1.isSome)
      && decide ([e].length + ([] : List Keyword).length + (if ([] : List Keyword).isEmpty then 0 else 1) < 30)) = true := by rfl)
    (hline : (apos.endLine == cpos.line) = true := by rfl) (hs : starEach [e] X.env = (false, eval e X.env) :: starEach [] X.env := by rfl) (hplain : (backTo cpos (starEach [] X.env)).any (·.1) = false := by rfl)
    (hsw : swapsWith (.Call (.Attribute (.Name x p1) "append" apos) [e] [] cpos) none pos.line X.env = pure false := by rfl) :
    PS X (.Expr (.Call (.Attribute (.Name x p1) "append" apos) [e] [] cpos) pos) (tMS X.K Y (sApp i fe)) := by
  refine PS.imp (ps_expr (pe_bm PySem.F.plainAttrs_list PySem.F.slot_list_append PySem.F.type_list_append mt_append (pe_var hN hv hd hcd) (pa_cons he pa_nil hs) hbase hfew hline hs hplain) hsw) fun E σ H ⟨H0, B0, B, τ, P, I, h⟩ => ?_
  unfold sApp at h
  cases z : ownL τ i with
  | none => rw [z] at h; exact h.elim
  | some xs =>
    rw [z] at h
    have hi := ownL_some z
    obtain ⟨a, vs, ea, ha, hl⟩ := I.listAt hi
    refine ⟨.ref a, ea, .inl ⟨rfl, vs, SqL.of ha⟩, exprS I h fun d v H1 B1 fp _ I1 s1 b1 r1 k1 h1 => ?_⟩
    split at h1
    · exact h1.elim
    · rename_i hb
      split at h1
      · rename_i hz
        have ha1 := s1 a _ ha
        refine ⟨a, vs, v, rfl, rfl, ha1, by rw [← hl, sizeLine_eq]; exact hz, ?_⟩
        obtain ⟨P', I'⟩ := I1.mutL (xs' := xs ++ [d]) (vs' := vs ++ [v]) hi ea k1 (fun f _ rl => ⟨f ++ fp, rl.append (RepL.one (r1.noBor (by simpa using hb))), fun b m => List.mem_append.mp m, fun nf dis => List.nodup_append.mpr ⟨nf, k1.nd, fun a ha b hb e => dis b hb (e ▸ ha)⟩⟩) ha1
        exact h1 B1 _ σ P' I'
      · exact h1.elim
def sRev (i : Nat) (τ : SD) : Fl := match ownL τ i with | some xs => .nx (τ.set i (some (.lst .own xs.reverse))) | none => .bad
theorem RepL.reverse {S : Addr → Prop} : ∀ {xs : List D} {vs : List V} {f : List Addr}, RepL K B S H xs vs f → ∃ g, RepL K B S H xs.reverse vs.reverse g ∧ f.Perm g
  | [], vs, f, r => by obtain ⟨rfl, rfl⟩ := r; exact ⟨[], ⟨rfl, rfl⟩, List.Perm.refl _⟩
  | d :: ds, vs, f, r => by
    obtain ⟨v, w, f1, f2, rfl, r1, r2, rfl⟩ := r
    obtain ⟨g, h1, h2⟩ := RepL.reverse r2
    refine ⟨g ++ f1, ?_, List.perm_append_comm.trans (h2.append_right f1)⟩
    rw [List.reverse_cons, List.reverse_cons]
    exact h1.append (RepL.one r1)
theorem s_rev (i : Nat) {x : Str} {p1 apos cpos : Pos} (hN : X.N[i]? = some x := by rfl) (hv : Vis X.env.scope x := by first | exact Or.inl rfl | exact Or.inr (Or.inl rfl) | exact Or.inr (Or.inr rfl)) (hd : (x == ("__debug__" : Str)) = false := by decide) (hcd : (x == ("__classdict__" : Str)) = false := by decide)
    (hbase : attributeBase (.Name x p1) "reverse" X.env (eval (.Name x p1) X.env) = eval (.Name x p1) X.env := by rfl) (hline : (apos.endLine == cpos.line) = true := by rfl)
    (hsw : swapsWith (.Call (.Attribute (.Name x p1) "reverse" apos) [] [] cpos) none pos.line X.env = pure false := by rfl) :
    PS X (.Expr (.Call (.Attribute (.Name x p1) "reverse" apos) [] [] cpos) pos) (tMS X.K Y (sRev i)) := by
  refine PS.imp (ps_expr (pe_bm0 PySem.F.plainAttrs_list PySem.F.slot_list_reverse PySem.F.type_list_reverse mt_reverse (pe_var hN hv hd hcd) hbase hline) hsw) fun E σ H ⟨H0, B0, B, τ, P, I, h⟩ => ?_
  unfold sRev at h
  cases z : ownL τ i with
  | none => rw [z] at h; exact h.elim
  | some xs =>
    rw [z] at h
    have hi := ownL_some z
    obtain ⟨a, vs, ea, ha, hl⟩ := I.listAt hi
    refine ⟨.ref a, ea, .inl ⟨rfl, vs, SqL.of ha⟩, a, vs, rfl, rfl, ha, ?_⟩
    obtain ⟨P', I'⟩ := I.mutL (xs' := xs.reverse) (vs' := vs.reverse) (gp := []) hi ea Vok.nil (fun f _ rl => let ⟨g, h1, h2⟩ := rl.reverse; ⟨g, h1, fun b m => .inl (h2.mem_iff.mpr m), fun nf _ => h2.nodup_iff.mp nf⟩) ha
    exact h B _ σ P' I'
/-! ### what a loop walks -/
/-- the iterator gives these things, one after another, whatever comes meanwhile -/
structure ItD (K : PySem.W.Frag) (J : It) (ds : List D) (B H : Hp) : Prop where
  go : ∀ B' H' i d, Same B B' → Same B' H' → Imm H H' → ds[i]? = some d → J.go i H'
  yld : ∀ B' H' i d x H'', Same B B' → Same B' H' → Imm H H' → ds[i]? = some d → J.yld i H' x H'' → Same H' H'' ∧ Rep K B' No H'' d x []
  stop : ∀ B' H', Same B B' → Same B' H' → Imm H H' → J.stop ds.length H'
/-- .. of the things of a value that owns fp (fl: it looks at what the names own), once that is put to rest -/
def ItAll (K : PySem.W.Frag) (J : It) (ds : List D) (fl : Bool) (B H : Hp) (P fp : List Addr) : Prop :=
  ∀ Bx : Hp, Same B Bx → Same Bx H → (∀ a ∈ fp, ∀ o, H a = some o → Bx a = some o) → (fl = true → ∀ a ∈ P, ∀ o, H a = some o → Bx a = some o) → ItD K J (frzL ds) Bx H
def tMI (K : PySem.W.Frag) (Y : XY) (f : SD → Res (Bool × List D)) : TI := fun σ H R => ∃ H0 B0 B τ P F, SI K H0 B0 B H σ τ P F ∧ match f τ with
  | .ok (fl, ds) => ∀ J H' B' fp, SI K H0 B0 B' H' σ τ P F → Same H H' → Same B B' → Vok H0 B' H' P F fp → ItAll K J ds fl B' H' P fp → R J H'
  | .exn C => OutX K Y H0 B0 B H σ τ P F C
  | .bad => False
theorem PI.imp {tg it : Expr} {t t' : TI} (h : PI X tg it t) (hi : ∀ σ H R, t' σ H R → t σ H R) : PI X tg it t' := fun pins s σ H R I hw => h pins s σ H R I (hi σ H R hw)
/-- over a list or a tuple -/
def itemsD : D → Res (Bool × List D)
  | .lst t xs => .ok ((D.lst t xs).hasBor, xs)
  | .tup xs => .ok ((D.tup xs).hasBor, xs)
  | _ => .bad
def eIt (f : SD → Res D) (τ : SD) : Res (Bool × List D) := (f τ).bind itemsD
theorem pi_seq {tg l : Expr} {tl : TE} (hl : PE X l tl) : PI X tg l (fun σ H R => tl σ H fun x H1 => (∃ a, x = .ref a ∧ (∃ xs, SqL X.K H1 a xs) ∧ R (Itl X.K a) H1) ∨ ∃ a, x = .ref a ∧ (∃ xs, SqT X.K H1 a xs) ∧ R (Itt X.K a) H1) := by
  intro pins s σ H R I h
  refine thn (hl pins s σ H _ I h) fun v s1 ⟨x, H1, I1, r1, q1⟩ => ?_
  rcases q1 with ⟨a, e, ⟨xs, hq⟩, q⟩ | ⟨a, e, ⟨xs, hq⟩, q⟩
  · subst e
    cases r1
    obtain ⟨its, rv, p, hz⟩ := I1.list hq
    refine wpAny_pyIter_list p.isList ?_
    refine ⟨s1.heap.objs.size, [s1.heap.objs.size], _, _, H1, rfl, I1.kept (t' := s1.toks) fun b o e => Heap.get?_push_of_some _ e, turn_list a _, ⟨_, Heap.get?_push_size _ rfl, rfl, rfl⟩, fun b hb => ?_, q⟩
    have e : b = s1.heap.objs.size := by simpa using hb
    subst e
    exact I1.fpOk (Nat.le_refl _) (I1.hok.fresh (Nat.le_refl _))
  · subst e
    cases r1
    obtain ⟨its, rv, p, hz⟩ := I1.tuple hq
    refine wpAny_pyIter_tuple (show s1.heap.IsTuple a its.toArray from p) ?_
    refine ⟨s1.heap.objs.size, [s1.heap.objs.size], _, _, H1, rfl, I1.kept (t' := s1.toks) fun b o e => Heap.get?_push_of_some _ e, turn_tuple a _, ⟨_, Heap.get?_push_size _ rfl, rfl, rfl⟩, fun b hb => ?_, q⟩
    have e : b = s1.heap.objs.size := by simpa using hb
    subst e
    exact I1.fpOk (Nat.le_refl _) (I1.hok.fresh (Nat.le_refl _))
/-- what is owned by a value is put to rest -/
theorem SI.restV {fp : List Addr} (I : SI K H0 B0 B H σ τ P F) (k : Vok H0 B H P F fp) : SI K H0 B0 (atRest B H (· ∈ fp)) H σ τ P F ∧ Same B (atRest B H (· ∈ fp)) := by
  have sB : Same B (atRest B H (· ∈ fp)) := rest_same I.bh
  refine ⟨⟨rest_up I.bh, I.h0, I.b0.trans sB, fun a n => ?_, I.rep.mono (Same.refl _) sB, I.nd, fun a m => ?_, fun a m => ?_⟩, sB⟩
  · by_cases m : a ∈ fp
    · exact .inr (k.own a m).2.1
    · rw [rest_out m] at n; exact I.nb a n
  · obtain ⟨a1, a2, a3⟩ := I.own a m
    exact ⟨by rw [rest_out fun z => (k.own a z).2.2.2.1 m]; exact a1, a2, a3⟩
  · obtain ⟨a1, a2⟩ := I.fr a m
    exact ⟨by rw [rest_out fun z => (k.own a z).2.2.2.2 m]; exact a1, a2⟩
theorem restL (I : SI K H0 B0 B H σ τ P F) {ds : List D} {vs : List V} {fp : List Addr} (r : RepL K B (· ∈ P) H ds vs fp) (hb : hasBorL ds = false) : RepL K (atRest B H (· ∈ fp)) No H (frzL ds) vs [] :=
  RepL.frz (rest_same I.bh) (fun a o s => s.elim) (r.noBor hb) fun a m o h => rest_in m h
mutual
/-- what owns nothing stays -/
theorem Rep.stay {B B' H H' : Hp} (sB : Same B B') (im : Imm H H') : ∀ {d : D} {v : V} {fp : List Addr}, fp = [] → Rep K B No H d v fp → Rep K B' No H' d v fp
  | .non, _, _, _, h => h
  | .bl _, _, _, _, h => h
  | .int _, _, _, _, h => h
  | .str _, _, _, _, h => h
  | .exc _, _, _, _, h => let ⟨⟨a, e, φ, h1, h2⟩, r⟩ := h; ⟨⟨a, e, φ, im _ _ h1 (fun x => x), h2⟩, r⟩
  | .tup xs, v, fp, ef, h => by
    obtain ⟨a, vs, e, q, r⟩ := h
    exact ⟨a, vs, e, im _ _ q (fun x => x), RepL.stay sB im ef r⟩
  | .lst .own xs, v, fp, ef, h => by obtain ⟨a, vs, f, e, q, r, z⟩ := h; rw [ef] at z; cases z
  | .lst .bor xs, v, fp, ef, h => let ⟨a, vs, e, q, r, z⟩ := h; ⟨a, vs, e, .inr (rd_mono sB (q.resolve_left fun y => y.1)), RepL.stay sB im rfl r, z⟩
  | .lst .frz xs, v, fp, ef, h => let ⟨a, vs, e, q, r, z⟩ := h; ⟨a, vs, e, rd_mono sB q, RepL.stay sB im rfl r, z⟩
  | .dct .own kd ks xs, v, fp, ef, h => by obtain ⟨a, vs, f, e, q, r, z⟩ := h; rw [ef] at z; cases z
  | .dct .bor kd ks xs, v, fp, ef, h => let ⟨a, vs, e, q, r, z⟩ := h; ⟨a, vs, e, .inr ((q.resolve_left fun y => y.1).mono sB), RepL.stay sB im rfl r, z⟩
  | .dct .frz kd ks xs, v, fp, ef, h => let ⟨a, vs, e, q, r, z⟩ := h; ⟨a, vs, e, q.mono sB, RepL.stay sB im rfl r, z⟩
theorem RepL.stay {B B' H H' : Hp} (sB : Same B B') (im : Imm H H') : ∀ {ds : List D} {vs : List V} {fp : List Addr}, fp = [] → RepL K B No H ds vs fp → RepL K B' No H' ds vs fp
  | [], _, _, _, h => h
  | d :: ds, vs, fp, ef, h => by
    obtain ⟨v, r, f, g, e, h1, h2, z⟩ := h
    rw [ef] at z
    obtain ⟨z1, z2⟩ := nil_of_append z
    exact ⟨v, r, f, g, e, Rep.stay sB im z1 h1, RepL.stay sB im z2 h2, by rw [ef, z1, z2]; rfl⟩
end
theorem sub_nil {f : List Addr} (h : List.Sublist f []) : f = [] := List.sublist_nil.mp h
theorem itd_list {a : Addr} {ds : List D} {vs : List V} (q : SqL K B a vs) (r : RepL K B No H ds vs []) : ItD K (Itl K a) ds B H where
  go := fun B' H' i d s1 s2 im e => by
    obtain ⟨v, f, h1, _⟩ := r.get e
    exact ⟨vs, v, sqL_of (rd_mono (s1.trans s2) q), h1⟩
  yld := fun B' H' i d x H'' s1 s2 im e y => by
    obtain ⟨rfl, y⟩ := y
    obtain ⟨v, f, h1, h2, h3⟩ := r.get e
    have z := y vs (sqL_of (rd_mono (s1.trans s2) q))
    rw [h1] at z
    cases z
    cases sub_nil h3
    exact ⟨Same.refl _, h2.stay s1 im rfl⟩
  stop := fun B' H' s1 s2 im => ⟨vs, sqL_of (rd_mono (s1.trans s2) q), by rw [r.length]; exact Nat.le_refl _⟩
theorem sqT_imm {a : Addr} {vs : List V} {H' : Hp} (im : Imm H H') (q : SqT K H a vs) : SqT K H' a vs := by
  rcases q with (q | ⟨o, q⟩) | q
  · exact .inl (.inl (im _ _ q (fun x => x)))
  · exact .inl (.inr ⟨o, im _ _ q (fun x => x)⟩)
  · exact .inr q
theorem itd_tup {a : Addr} {ds : List D} {vs : List V} (q : SqT K H a vs) (r : RepL K B No H ds vs []) : ItD K (Itt K a) ds B H where
  go := fun B' H' i d s1 s2 im e => by
    obtain ⟨v, f, h1, _⟩ := r.get e
    exact ⟨vs, v, sqT_imm im q, h1⟩
  yld := fun B' H' i d x H'' s1 s2 im e y => by
    obtain ⟨rfl, y⟩ := y
    obtain ⟨v, f, h1, h2, h3⟩ := r.get e
    have z := y vs (sqT_imm im q)
    rw [h1] at z
    cases z
    cases sub_nil h3
    exact ⟨Same.refl _, h2.stay s1 im rfl⟩
  stop := fun B' H' s1 s2 im => ⟨vs, sqT_imm im q, by rw [r.length]; exact Nat.le_refl _⟩
theorem itd_range {lo : Int} {n : Nat} : ItD K (Itr lo n) ((List.range n).map fun k : Nat => D.int (lo + k)) B H where
  go := fun B' H' i d s1 s2 im e => by
    have := (List.getElem?_eq_some_iff.mp e).1
    show i < n
    simpa using this
  yld := fun B' H' i d x H'' s1 s2 im e y => by
    obtain ⟨rfl, rfl⟩ := y
    have hi := (List.getElem?_eq_some_iff.mp e).1
    rw [List.length_map, List.length_range] at hi
    rw [List.getElem?_map, List.getElem?_range hi] at e
    cases e
    exact ⟨Same.refl _, rfl, rfl⟩
  stop := fun B' H' s1 s2 im => by
    show n ≤ _
    rw [List.length_map, List.length_range]
    exact Nat.le_refl _
theorem frz_for {Bx : Hp} {fp : List Addr} {d : D} {v : V} (r : Rep K B (· ∈ P) H d v fp) (sB : Same B Bx) (h1 : ∀ a ∈ fp, ∀ o, H a = some o → Bx a = some o) (h2 : d.hasBor = true → ∀ a ∈ P, ∀ o, H a = some o → Bx a = some o) : Rep K Bx No H d.frz v [] := by
  by_cases hb : d.hasBor = true
  · exact r.frz sB (fun a o s h => h2 hb a s o h) h1
  · exact (r.noBor (by simpa using hb)).frz sB (fun a o s => s.elim) h1
theorem qi_seq {tg : Expr} (he : PE X e (tM X.K Y fe)) : PI X tg e (tMI X.K Y (eIt fe)) := by
  refine PI.imp (pi_seq he) fun σ H R ⟨H0, B0, B, τ, P, F, I, h⟩ => ⟨H0, B0, B, τ, P, F, I, ?_⟩
  cases z : fe τ with
  | exn C => simp only [eIt, z, Res.bind_exn] at h; exact h
  | bad => simp only [eIt, z, Res.bind_bad] at h
  | ok d =>
    simp only [eIt, z, Res.bind_ok] at h
    intro v H1 B1 fp I1 s1 b1 r1 k1
    cases d with
    | lst t xs =>
      simp only [itemsD] at h
      obtain ⟨a, vs, g, rfl, q, _⟩ := r1.lst I1
      refine .inl ⟨a, rfl, ⟨vs, sqL_of q⟩, h _ H1 _ fp I1 s1 b1 k1 fun Bx sB sH h1 h2 => ?_⟩
      obtain ⟨a', ws, ea, q', rl, _⟩ : Rep X.K Bx No H1 (D.lst .frz (frzL xs)) (.ref a) [] := frz_for r1 sB h1 h2
      cases ea
      exact itd_list q' rl
    | tup xs =>
      simp only [itemsD] at h
      obtain ⟨a, vs, rfl, q, _⟩ := r1.tp
      refine .inr ⟨a, rfl, ⟨vs, q⟩, h _ H1 _ fp I1 s1 b1 k1 fun Bx sB sH h1 h2 => ?_⟩
      obtain ⟨a', ws, ea, q', rl⟩ : Rep X.K Bx No H1 (D.tup (frzL xs)) (.ref a) [] := frz_for r1 sB h1 h2
      cases ea
      exact itd_tup (SqT.of q') rl
    | _ => exact h.elim
theorem frzL_ints (f : Nat → Int) (l : List Nat) : frzL (l.map fun k => D.int (f k)) = l.map fun k => D.int (f k) := by
  induction l with
  | nil => rfl
  | cons a r ih => rw [List.map_cons, frzL, ih]; rfl
def range1D : List D → Res (Bool × List D)
  | [.int j] => if -1000000000 ≤ j ∧ j ≤ 1000000000 then .ok (false, (List.range j.toNat).map fun k : Nat => .int (0 + k)) else .bad
  | _ => .bad
def range2D : List D → Res (Bool × List D)
  | [.int i, .int j] => if -1000000000 ≤ i ∧ i ≤ 1000000000 ∧ -1000000000 ≤ j ∧ j ≤ 1000000000 then .ok (false, (List.range (j - i).toNat).map fun k : Nat => .int (i + k)) else .bad
  | _ => .bad
def eRng1 (f : SD → Res (List D)) (τ : SD) : Res (Bool × List D) := (f τ).bind range1D
def eRng2 (f : SD → Res (List D)) (τ : SD) : Res (Bool × List D) := (f τ).bind range2D
theorem qi_range1 {tg a : Expr} {fs : SD → Res (List D)} {p : Pos} (hg : Gl X "range") (hm : X.mg "range" = none) (ha : PA X [a] (tML X.K Y fs)) (hs : starEach [a] X.env = [(false, eval a X.env)] := by rfl) : PI X tg (.Call (.Name "range" p) [a] [] pos) (tMI X.K Y (eRng1 fs)) := by
  refine PI.imp (pi_range1 hg hm ha hs) fun σ H R ⟨H0, B0, B, τ, P, F, I, h⟩ => ⟨H0, B0, B, τ, P, F, I, ?_⟩
  cases z : fs τ with
  | exn C => simp only [eRng1, z, Res.bind_exn] at h; exact h
  | bad => simp only [eRng1, z, Res.bind_bad] at h
  | ok ds =>
    simp only [eRng1, z, Res.bind_ok] at h
    intro vs H1 B1 fp I1 s1 b1 r1 k1
    cases y : range1D ds with
    | exn C => exfalso; unfold range1D at y; split at y <;> first | (split at y <;> cases y) | cases y
    | bad => rw [y] at h; exact h.elim
    | ok es =>
      rw [y] at h
      unfold range1D at y
      split at y
      · split at y
        · rename_i hc
          cases y
          obtain ⟨v, rfl, rfl, rfl⟩ := repL1 r1
          exact ⟨_, rfl, (by omega), (by omega), h _ H1 B1 [] I1 s1 b1 Vok.nil fun Bx _ _ _ _ => by rw [frzL_ints]; exact itd_range⟩
        · cases y
      · cases y
theorem qi_range2 {tg a b : Expr} {fs : SD → Res (List D)} {p : Pos} (hg : Gl X "range") (hm : X.mg "range" = none) (ha : PA X [a, b] (tML X.K Y fs)) (hs : starEach [a, b] X.env = [(false, eval a X.env), (false, eval b X.env)] := by rfl) (hs2 : starEach [b] X.env = [(false, eval b X.env)] := by rfl) :
    PI X tg (.Call (.Name "range" p) [a, b] [] pos) (tMI X.K Y (eRng2 fs)) := by
  refine PI.imp (pi_range2 hg hm ha hs hs2) fun σ H R ⟨H0, B0, B, τ, P, F, I, h⟩ => ⟨H0, B0, B, τ, P, F, I, ?_⟩
  cases z : fs τ with
  | exn C => simp only [eRng2, z, Res.bind_exn] at h; exact h
  | bad => simp only [eRng2, z, Res.bind_bad] at h
  | ok ds =>
    simp only [eRng2, z, Res.bind_ok] at h
    intro vs H1 B1 fp I1 s1 b1 r1 k1
    cases y : range2D ds with
    | exn C => exfalso; unfold range2D at y; split at y <;> first | (split at y <;> cases y) | cases y
    | bad => rw [y] at h; exact h.elim
    | ok es =>
      rw [y] at h
      unfold range2D at y
      split at y
      · split at y
        · rename_i hc
          cases y
          obtain ⟨v, u, f1, f2, rfl, rfl, ⟨rfl, rfl⟩, ⟨rfl, rfl⟩⟩ := repL2 r1
          exact ⟨_, _, rfl, ⟨by omega, by omega, by omega, by omega⟩, h _ H1 B1 [] I1 s1 b1 Vok.nil fun Bx _ _ _ _ => by rw [frzL_ints]; exact itd_range⟩
        · cases y
      · cases y
/-! ### enumerate -/
def enumD (xs : List D) : List D := xs.mapIdx fun i d => .tup [.int i, d]
def eEnum (f : SD → Res (List D)) (τ : SD) : Res (Bool × List D) := (f τ).bind fun ds => match ds with | [d] => (itemsD d).map fun p => (p.1, enumD p.2) | _ => .bad
theorem frzL_mapIdx (xs : List D) : ∀ (f : Nat → Nat), frzL (xs.mapIdx fun i d => D.tup [.int (f i), d]) = (frzL xs).mapIdx fun i d => D.tup [.int (f i), d] := by
  induction xs with
  | nil => intro f; rfl
  | cons a r ih =>
    intro f
    rw [List.mapIdx_cons, frzL, frzL, List.mapIdx_cons]
    exact congrArg _ (ih fun i => f (i + 1))
theorem frzL_enum (xs : List D) : frzL (enumD xs) = enumD (frzL xs) := frzL_mapIdx xs id
theorem itd_enum {src : Hp → List V → Prop} {ds : List D} {vs : List V} (r : RepL K B No H ds vs []) (q : ∀ B' H' : Hp, Same B B' → Same B' H' → Imm H H' → src H' vs) : ItD K (Ite src) (enumD ds) B H where
  go := fun B' H' i d s1 s2 im e => by
    have hi := (List.getElem?_eq_some_iff.mp e).1
    unfold enumD at hi
    rw [List.length_mapIdx, r.length] at hi
    exact ⟨vs, vs[i], q B' H' s1 s2 im, List.getElem?_eq_getElem hi⟩
  yld := fun B' H' i d x H'' s1 s2 im e y => by
    obtain ⟨p, w, rfl, hp, rfl, hy⟩ := y
    have hi := (List.getElem?_eq_some_iff.mp e).1
    unfold enumD at hi e
    rw [List.length_mapIdx] at hi
    rw [List.getElem?_mapIdx, List.getElem?_eq_getElem hi] at e
    cases e
    have z := hy vs (q B' H' s1 s2 im)
    obtain ⟨v, f, h1, h2, h3⟩ := r.get (List.getElem?_eq_getElem hi)
    rw [z] at h1
    cases h1
    cases sub_nil h3
    have s := sameUpd' (o := .tup [.int i, w]) hp
    exact ⟨s, p, [.int i, w], rfl, upd_same, .int i, [w], [], [], rfl, ⟨rfl, rfl⟩, RepL.one ((h2.stay s1 im rfl).mono s (Same.refl _) (fun _ x => x)), rfl⟩
  stop := fun B' H' s1 s2 im => ⟨vs, q B' H' s1 s2 im, by unfold enumD; rw [List.length_mapIdx, r.length]; exact Nat.le_refl _⟩
/-- enumerate over a list or a tuple -/
theorem pi_enumS {elts : List Expr} {x1 : Nat} {tp p : Pos} {l : Expr} {ta : TA} (hg : Gl X "enumerate") (hm : X.mg "enumerate" = none) (ha : PA X [l] ta) (hs : starEach [l] X.env = [(false, eval l X.env)] := by rfl) :
    PI X (.Tuple elts x1 tp) (.Call (.Name "enumerate" p) [l] [] pos) (fun σ H R => ta σ H fun vs H1 => (∃ a xs, vs = [.ref a] ∧ SqL X.K H1 a xs ∧ R (Ite fun H xs => SqL X.K H a xs) H1) ∨ ∃ a xs, vs = [.ref a] ∧ SqT X.K H1 a xs ∧ R (Ite fun H xs => SqT X.K H a xs) H1) := by
  intro pins s σ H R I h
  refine wpAny_Call_Name_kw (ld_blt I hg hm (by decide +kernel : bootBuiltins "enumerate" = some (.type "enumerate")) ?_)
  refine PyProof.Rows.callWith_type1 (thn (ha pos pins s σ H _ I h) fun us s1 ⟨vs, H1, I1, r1, q1⟩ => ?_) hs rfl
  rcases q1 with ⟨a, xs, rfl, hq, q⟩ | ⟨a, xs, rfl, hq, q⟩
  · obtain ⟨u, rfl, ru⟩ := vals1 r1
    cases ru
    obtain ⟨its, rv, pl, hz⟩ := I1.list hq
    refine call_enumerate_list pl.isList fun h' e1 e2 e3 e4 => wpAny_pyIter_enum e1 ?_
    have I2 : Inv X pins σ H1 { s1 with heap := h' } := I1.kept (t' := s1.toks) e4
    obtain ⟨o, c1, c2, c3⟩ := e2
    refine ⟨_, _, _, _, H1, rfl, I2, turn_enum (src_list a s1.heap.objs.size) (Nat.succ_ne_self _), ⟨⟨_, e1⟩, o, c1, c2, c3⟩, fun b hb => ?_, q⟩
    rcases List.mem_cons.mp hb with z | z
    · subst z
      exact I1.fpOk (Nat.le_succ _) (I1.hok.fresh (Nat.le_succ _))
    · have z : b = s1.heap.objs.size := by simpa using z
      subst z
      exact I1.fpOk (Nat.le_refl _) (I1.hok.fresh (Nat.le_refl _))
  · obtain ⟨u, rfl, ru⟩ := vals1 r1
    cases ru
    obtain ⟨its, rv, pl, hz⟩ := I1.tuple hq
    refine call_enum_tup (isTuple_of pl) fun h' e1 e2 e4 => wpAny_pyIter_enum e1 ?_
    have I2 : Inv X pins σ H1 { s1 with heap := h' } := I1.kept (t' := s1.toks) e4
    obtain ⟨o, c1, c2, c3⟩ := e2
    refine ⟨_, _, _, _, H1, rfl, I2, turn_enum (src_tup a s1.heap.objs.size) (Nat.succ_ne_self _), ⟨⟨_, e1⟩, o, c1, c2, c3⟩, fun b hb => ?_, q⟩
    rcases List.mem_cons.mp hb with z | z
    · subst z
      exact I1.fpOk (Nat.le_succ _) (I1.hok.fresh (Nat.le_succ _))
    · have z : b = s1.heap.objs.size := by simpa using z
      subst z
      exact I1.fpOk (Nat.le_refl _) (I1.hok.fresh (Nat.le_refl _))
theorem qi_enum {elts : List Expr} {x1 : Nat} {tp p : Pos} {l : Expr} {fs : SD → Res (List D)} (hg : Gl X "enumerate") (hm : X.mg "enumerate" = none) (ha : PA X [l] (tML X.K Y fs)) (hs : starEach [l] X.env = [(false, eval l X.env)] := by rfl) :
    PI X (.Tuple elts x1 tp) (.Call (.Name "enumerate" p) [l] [] pos) (tMI X.K Y (eEnum fs)) := by
  refine PI.imp (pi_enumS hg hm ha hs) fun σ H R ⟨H0, B0, B, τ, P, F, I, h⟩ => ⟨H0, B0, B, τ, P, F, I, ?_⟩
  cases z : fs τ with
  | exn C => simp only [eEnum, z, Res.bind_exn] at h; exact h
  | bad => simp only [eEnum, z, Res.bind_bad] at h
  | ok ds =>
    simp only [eEnum, z, Res.bind_ok] at h
    intro vs H1 B1 fp I1 s1 b1 r1 k1
    match ds, r1, h with
    | [d], r1, h =>
      obtain ⟨v, rfl, r1'⟩ := repL1 r1
      simp only at h
      cases d with
      | lst t xs =>
        simp only [itemsD, Res.map_ok] at h
        obtain ⟨a, vs, g, rfl, q, _⟩ := r1'.lst I1
        refine .inl ⟨a, vs, rfl, sqL_of q, h _ H1 _ fp I1 s1 b1 k1 fun Bx sB sH h1 h2 => ?_⟩
        obtain ⟨a', ws, ea, q', rl, _⟩ : Rep X.K Bx No H1 (D.lst .frz (frzL xs)) (.ref a) [] := frz_for r1' sB h1 h2
        cases ea
        rw [frzL_enum]
        exact itd_enum rl fun B' H' z1 z2 _ => sqL_of (rd_mono (z1.trans z2) q')
      | tup xs =>
        simp only [itemsD, Res.map_ok] at h
        obtain ⟨a, vs, rfl, q, _⟩ := r1'.tp
        refine .inr ⟨a, vs, rfl, q, h _ H1 _ fp I1 s1 b1 k1 fun Bx sB sH h1 h2 => ?_⟩
        obtain ⟨a', ws, ea, q', rl⟩ : Rep X.K Bx No H1 (D.tup (frzL xs)) (.ref a) [] := frz_for r1' sB h1 h2
        cases ea
        rw [frzL_enum]
        exact itd_enum rl fun B' H' z1 z2 im => sqT_imm im (SqT.of q')
      | _ => exact h.elim
    | [], r1, h => exact h.elim
    | _ :: _ :: _, r1, h => exact h.elim
/-! ### targets -/
abbrev TGD := D → SD → Option SD
def tMG (K : PySem.W.Frag) (g : TGD) : TG := fun v σ H Q => ∃ H0 B0 B τ P F d fp, SI K H0 B0 B H σ τ P F ∧ Rep K B No H d v fp ∧ Vok H0 B H P F fp ∧ match g d τ with
  | some τ' => ∀ H' σ' P', SI K H0 B0 B H' σ' τ' P' F → H' = H → Q σ' H'
  | none => False
def gN (i : Nat) (d : D) (τ : SD) : Option SD := some (τ.set i (some d))
theorem PG.imp {tg : Expr} {t t' : TG} (h : PG X tg t) (hi : ∀ v σ H Q, t' v σ H Q → t v σ H Q) : PG X tg t' := fun pins s σ H v u Q I r hw => h pins s σ H v u Q I r (hi v σ H Q hw)
theorem g_name {i : Nat} {x : Str} (hN : X.N.Nodup) (hi : X.N[i]? = some x) (hx : Loc X.env.scope x) (hf : X.fn x = true ∨ X.env.scope.names.lookup x = some .local := by first | exact .inl rfl | exact .inr rfl) : PG X (.Name x pos) (tMG X.K (gN i)) :=
  PG.imp (pg_name hN hi hx hf) fun v σ H Q ⟨H0, B0, B, τ, P, F, d, fp, I, r, k, h⟩ => by
    obtain ⟨P', I', _⟩ := I.set i r k
    exact h H _ P' I' rfl
abbrev TGDs := List D → SD → Option SD
def tMGs (K : PySem.W.Frag) (g : TGDs) : TGs := fun vs σ H Q => ∃ H0 B0 B τ P F ds fp, SI K H0 B0 B H σ τ P F ∧ RepL K B No H ds vs fp ∧ Vok H0 B H P F fp ∧ match g ds τ with
  | some τ' => ∀ H' σ' P', SI K H0 B0 B H' σ' τ' P' F → H' = H → Q σ' H'
  | none => False
def gsNil (ds : List D) (τ : SD) : Option SD := match ds with | [] => some τ | _ => none
/-- a name, then others -/
def gsCons (i : Nat) (g : TGDs) (ds : List D) (τ : SD) : Option SD := match ds with | d :: r => g r (τ.set i (some d)) | [] => none
theorem PGs.imp {tgs : List Expr} {t t' : TGs} (h : PGs X tgs t) (hi : ∀ v σ H Q, t' v σ H Q → t v σ H Q) : PGs X tgs t' := fun pins s σ H v u Q I r hw => h pins s σ H v u Q I r (hi v σ H Q hw)
theorem gs_nil : PGs X [] (tMGs X.K gsNil) := PGs.imp pgs_nil fun vs σ H Q ⟨H0, B0, B, τ, P, F, ds, fp, I, r, k, h⟩ => by
  cases ds with
  | nil => exact ⟨r.1, h H σ P I rfl⟩
  | cons d ds => exact h.elim
theorem gs_cons {i : Nat} {x : Str} {es : List Expr} {g : TGDs} (hN : X.N.Nodup) (hi : X.N[i]? = some x) (hx : Loc X.env.scope x) (h2 : PGs X es (tMGs X.K g)) (hf : X.fn x = true ∨ X.env.scope.names.lookup x = some .local := by first | exact .inl rfl | exact .inr rfl)
    (hs : (assignEach (.Name x pos :: es) X.env).map (·.2) = assign (.Name x pos) X.env :: (assignEach es X.env).map (·.2) := by rfl) : PGs X (.Name x pos :: es) (tMGs X.K (gsCons i g)) :=
  PGs.imp (pgs_cons (pg_name hN hi hx hf) h2 hs) fun vs σ H Q ⟨H0, B0, B, τ, P, F, ds, fp, I, r, k, h⟩ => by
    cases ds with
    | nil => exact h.elim
    | cons d ds =>
      obtain ⟨v, w, f1, f2, rfl, r1, r2, rfl⟩ := r
      obtain ⟨P', I', s'⟩ := I.set i r1 k.left
      refine ⟨v, w, rfl, H0, B0, B, _, P', F, ds, f2, I', r2, ⟨k.right.nd, fun a m => ?_⟩, h⟩
      obtain ⟨a1, a2, a3, a4, a5⟩ := k.right.own a m
      refine ⟨a1, a2, a3, fun z => ?_, a5⟩
      rcases s' a z with y | y
      · exact a4 y
      · exact (List.nodup_append.mp k.nd).2.2 a y a m rfl
def gT (n : Nat) (g : TGDs) (d : D) (τ : SD) : Option SD := match d with | .tup ds => if ds.length = n then g ds τ else none | _ => none
theorem g_tup {es : List Expr} {k : Nat} {g : TGDs} {n : Nat} (hc : X.calm = true) (h : PGs X es (tMGs X.K g))
    (hn : (assignEach es X.env).length = n := by rfl) (hst : (assignEach es X.env).findIdx? (·.1) = none := by rfl) : PG X (.Tuple es k pos) (tMG X.K (gT n g)) :=
  PG.imp (pg_tup hc h hn hst) fun v σ H Q ⟨H0, B0, B, τ, P, F, d, fp, I, r, k, h⟩ => by
    cases d with
    | tup ds =>
      obtain ⟨a, vs, rfl, q, rl⟩ := r
      unfold gT at h
      by_cases hl : ds.length = n
      · simp only [hl, if_true] at h
        exact ⟨a, vs, rfl, SqT.of q, by rw [← rl.length]; exact hl, H0, B0, B, τ, P, F, ds, fp, I, rl, k, h⟩
      · simp only [hl, if_false] at h
    | _ => exact h.elim
/-! ### for -/
def forD (tg : TGD) (body : SF) : List D → SF
  | [], τ => .nx τ
  | d :: r, τ => match tg d τ with
    | none => .bad
    | some τ' => match body τ' with
      | .nx t => forD tg body r t
      | .ct t => forD tg body r t
      | .bk t => .nx t
      | o => o
def sFor (js : List Nat) (it : SD → Res (Bool × List D)) (tg : TGD) (body : SF) (τ : SD) : Fl := match it (frzAt js τ) with
  | .ok (false, ds) => forD tg body (frzL ds) (frzAt js τ)
  | .ok (true, _) => .bad
  | .exn C => .ex C (frzAt js τ)
  | .bad => .bad
theorem s_for (js : List Nat) {tg iter : Expr} {body : List Stmt} {it : SD → Res (Bool × List D)} {tgd : TGD} {g : SF} (hp : PassesOwn (model X.prog X.w) X.A X.env X.xe) (hc : X.calm = true) (hi : PI X tg iter (tMI X.K Y it)) (hg : PG X tg (tMG X.K tgd)) (hb : PSs X body (tMS X.K Y g))
    (hs : ∀ x, foldedSetIterable iter X.env x = pure x := by intro _; rfl) : PS X (.For tg iter body [] pos) (tMS X.K Y (sFor js it tgd g)) := by
  refine PS.imp (ps_for hp hc hi hg hb hs) fun E σ H ⟨H0, B0, B, τ, P, I, h⟩ => ?_
  obtain ⟨Bf, Pf, sf, If⟩ := I.frzAt js
  have h : GoalS X.K Y H0 B0 Bf H E (sFor js it tgd g τ) := GoalS.later h (Aft.grow If sf (Same.refl _))
  unfold sFor at h
  refine ⟨H0, B0, Bf, _, Pf, No, If, ?_⟩
  cases z : it (frzAt js τ) with
  | exn C => rw [z] at h; exact fun H1 B1 I1 s1 b1 => h B1 H1 σ Pf (Aft.grow I1 b1 s1)
  | bad => rw [z] at h; exact h.elim
  | ok q =>
    obtain ⟨fl, ds0⟩ := q
    rw [z] at h
    intro J H1 B1' fp I1' s1 b1' k1 JA
    cases fl with
    | true => exact h.elim
    | false =>
    obtain ⟨I1, b2⟩ := I1'.restV k1
    have b1 := b1'.trans b2
    have J1 := JA _ b2 (rest_up I1'.bh) (fun a m o h => rest_in m h) (fun z => Bool.noConfusion z)
    generalize atRest B1' H1 (· ∈ fp) = B1 at I1 b1 J1
    have h : GoalS X.K Y H0 B0 Bf H E (forD tgd g (frzL ds0) (frzAt js τ)) := h
    generalize frzL ds0 = ds at h J1
    have h : GoalS X.K Y H0 B0 B1 H1 E (forD tgd g ds (frzAt js τ)) := GoalS.later h (Aft.grow I1 b1 s1)
    refine ⟨fun i m σ' H' => m = ds.length - i ∧ i ≤ ds.length ∧ ∃ B' τ' P', Aft X.K H0 B0 B1 H1 B' H' σ' τ' P' ∧ GoalS X.K Y H0 B0 B' H' E (forD tgd g (ds.drop i) τ'), ⟨_, rfl, Nat.zero_le _, B1, _, Pf, Aft.refl I1, h⟩, ?_⟩
    rintro i m σ' H' ⟨rfl, hle, B', τ', P', a, gl⟩
    by_cases hlt : i < ds.length
    · obtain ⟨d, hd⟩ : ∃ d, ds[i]? = some d := ⟨ds[i], List.getElem?_eq_getElem hlt⟩
      have hdrop : ds.drop i = d :: ds.drop (i + 1) := by
        rw [List.drop_eq_getElem_cons hlt]
        congr 1
        rw [List.getElem?_eq_getElem hlt] at hd
        exact Option.some.inj hd
      rw [hdrop] at gl
      unfold forD at gl
      refine .inr ⟨J1.go B' H' i d a.b a.si.bh a.imm hd, fun σ2 H2 => ∃ B2 τ2 P2, Aft X.K H0 B0 B1 H1 B2 H2 σ2 τ2 P2 ∧ GoalS X.K Y H0 B0 B2 H2 E (forD tgd g (ds.drop (i + 1)) τ2), fun σ2 H2 w => ⟨_, by omega, rfl, hlt, w⟩, fun x H'' y => ?_⟩
      obtain ⟨sy, ry⟩ := J1.yld B' H' i d x H'' a.b a.si.bh a.imm hd y
      have Iy := a.si.grow sy
      refine ⟨H0, B0, B', τ', P', No, d, [], Iy, ry, Vok.nil, ?_⟩
      cases w : tgd d τ' with
      | none => rw [w] at gl; exact gl.elim
      | some τ2 =>
        rw [w] at gl
        intro H3 σ3 P3 I3 e3
        subst e3
        have ay : Aft X.K H0 B0 B' H' B' H3 σ3 τ2 P3 := ⟨I3, Same.refl _, Imm.of sy⟩
        refine ⟨H0, B0, B', τ2, P3, I3, ?_⟩
        cases u : g τ2 with
        | nx t =>
          simp only [u] at gl
          exact fun B4 H4 σ4 P4 a4 => ⟨B4, t, P4, (a.trans ay).trans a4, GoalS.later gl (ay.trans a4)⟩
        | ct t =>
          simp only [u] at gl
          exact fun B4 H4 σ4 P4 a4 => ⟨B4, t, P4, (a.trans ay).trans a4, GoalS.later gl (ay.trans a4)⟩
        | bk t =>
          simp only [u] at gl
          exact fun B4 H4 σ4 P4 a4 => gl B4 H4 σ4 P4 (ay.trans a4)
        | rt d => simp only [u] at gl; exact gl
        | ex C t => simp only [u] at gl; exact fun B4 H4 σ4 P4 a4 => gl B4 H4 σ4 P4 (ay.trans a4)
        | bad => simp only [u] at gl; exact gl
    · have e : i = ds.length := by omega
      subst e
      rw [List.drop_length] at gl
      exact .inl ⟨J1.stop B' H' a.b a.si.bh a.imm, gl B' H' σ' P' (Aft.refl a.si)⟩
/-! ### while -/
def whileD (c : SD → Res Bool) (body : SF) : Nat → SF
  | 0, _ => .bad
  | n + 1, τ => (c τ).toFlB τ fun b => if b = true then (match body τ with
      | .nx t => whileD c body n t
      | .ct t => whileD c body n t
      | .bk t => .nx t
      | o => o) else .nx τ
noncomputable def sWhile (c : SD → Res Bool) (body : SF) (τ : SD) : Fl := by classical exact if h : ∃ n, whileD c body n τ ≠ .bad then whileD c body h.choose τ else .bad
theorem whileD_mono {c : SD → Res Bool} {body : SF} : ∀ {n : Nat} {τ : SD}, whileD c body n τ ≠ .bad → whileD c body (n + 1) τ = whileD c body n τ
  | 0, _, h => absurd rfl h
  | n + 1, τ, h => by
    rw [whileD] at h
    conv => lhs; rw [whileD]
    conv => rhs; rw [whileD]
    cases e : c τ with
    | exn C => rfl
    | bad => rfl
    | ok b =>
      rw [e] at h
      cases b with
      | false => rfl
      | true =>
        simp only [Res.toFlB, if_true] at h ⊢
        cases u : body τ with
        | nx t => simp only [u] at h ⊢; exact whileD_mono h
        | ct t => simp only [u] at h ⊢; exact whileD_mono h
        | bk t => rfl
        | rt d => rfl
        | ex C t => rfl
        | bad => rfl
theorem whileD_le {c : SD → Res Bool} {body : SF} {n : Nat} {τ : SD} (h : whileD c body n τ ≠ .bad) : ∀ {m : Nat}, n ≤ m → whileD c body m τ = whileD c body n τ := by
  intro m hm
  induction hm with
  | refl => rfl
  | step hm ih => rw [whileD_mono (by rw [ih]; exact h), ih]
theorem sWhile_eq {c : SD → Res Bool} {body : SF} {n : Nat} {τ : SD} (h : whileD c body n τ ≠ .bad) : sWhile c body τ = whileD c body n τ := by
  have ex : ∃ n, whileD c body n τ ≠ .bad := ⟨n, h⟩
  unfold sWhile
  rw [dif_pos ex]
  rcases Nat.le_total n ex.choose with q | q
  · exact whileD_le h q
  · exact (whileD_le ex.choose_spec q).symm
theorem s_while {body : List Stmt} {g : SF} (hp : PassesOwn (model X.prog X.w) X.A X.env X.xe) (hc : PT X c (tMB X.K Y gc)) (hb : PSs X body (tMS X.K Y g)) : PS X (.While c body [] pos) (tMS X.K Y (sWhile gc g)) := by
  refine PS.imp (ps_while hp hc hb) fun E σ H ⟨H0, B0, B, τ, P, I, h⟩ => ?_
  obtain ⟨n, hn⟩ : ∃ n, GoalS X.K Y H0 B0 B H E (whileD gc g n τ) := by
    unfold sWhile at h
    split at h
    · exact ⟨_, h⟩
    · exact h.elim
  refine ⟨fun m σ' H' => ∃ B' τ' P', SI X.K H0 B0 B' H' σ' τ' P' No ∧ GoalS X.K Y H0 B0 B' H' E (whileD gc g m τ'), ⟨n, B, τ, P, I, hn⟩, ?_⟩
  rintro m σ' H' ⟨B', τ', P', I', gl⟩
  cases m with
  | zero => exact gl.elim
  | succ m =>
    rw [whileD] at gl
    refine testS I' gl fun d H1 B1 _ I1 s1 b1 h1 => ?_
    cases d with
    | false => rw [if_neg Bool.false_ne_true] at h1 ⊢; exact h1 B1 H1 σ' P' (Aft.refl I1)
    | true =>
      rw [if_pos rfl] at h1 ⊢
      refine ⟨fun σ2 H2 => ∃ B2 τ2 P2, SI X.K H0 B0 B2 H2 σ2 τ2 P2 No ∧ GoalS X.K Y H0 B0 B2 H2 E (whileD gc g m τ2), fun σ2 H2 w => ⟨m, Nat.lt_succ_self _, w⟩, H0, B0, B1, τ', P', I1, ?_⟩
      cases u : g τ' with
      | nx t => simp only [u] at h1; exact fun B4 H4 σ4 P4 a4 => ⟨B4, t, P4, a4.si, GoalS.later h1 a4⟩
      | ct t => simp only [u] at h1; exact fun B4 H4 σ4 P4 a4 => ⟨B4, t, P4, a4.si, GoalS.later h1 a4⟩
      | bk t => simp only [u] at h1; exact h1
      | rt d => simp only [u] at h1; exact h1
      | ex C t => simp only [u] at h1; exact h1
      | bad => simp only [u] at h1; exact h1
end
end DL
set_option Elab.async false
set_option linter.all false
set_option maxRecDepth 100000
set_option maxHeartbeats 4000000
/-! ### defs of the text -/
namespace DL
open PySem PySem.Spec PyProof.Rows L2
/-- what a def is worth: its answer by its arguments -/
abbrev DF := List D → Res D
def spF (K : PySem.W.Frag) (G : DF) : Sp := fun vs H Q _ => ∃ B0 ds, Same B0 H ∧ RepL K B0 No H ds vs [] ∧ match G ds with
  | .ok d => ∀ B' H' v fp, RetOk K H B0 B' H' d v fp → Q v H'
  | .exn _ => False
  | .bad => False
def Res.noX (r : Res D) : Res D := match r with | .exn _ => .bad | r => r
@[simp] theorem Res.noX_ok (d : D) : (Res.ok d).noX = .ok d := rfl
def callD (G : DF) (ds : List D) : Res D := if hasBorL ds = true then (G (frzL ds)).noX.map D.toBor else (G (frzL ds)).noX
def eCall (G : DF) (fs : SD → Res (List D)) (τ : SD) : Res D := (fs τ).bind (callD G)
section
variable {K : PySem.W.Frag} {Y : XY} {H0 B0 B H : Hp} {σ : L2.St} {τ : SD} {P : List Addr} {F : Addr → Prop} {X : Cx} {pos p : Pos} {e : Expr} {es : List Expr} {fs : SD → Res (List D)}
/-- behind a call the caller stands as it stood; S: what of the names' own the callee may have met -/
theorem SI.called {S : Addr → Prop} {fp : List Addr} {B' H' : Hp} {d : D} {v : V} {fq : List Addr} (I : SI K H0 B0 B H σ τ P F) (k : Vok H0 B H P F fp) (hS : ∀ a, S a → a ∈ P) (r : RetOk K H (atRest B H (fun a => S a ∨ a ∈ fp)) B' H' d v fq) :
    ∃ B'', SI K H0 B0 B'' H' σ τ P F ∧ Same B B'' ∧ Vok H0 B'' H' P F fq ∧ (∀ a o, B' a = some o → B'' a = some o ∨ (S a ∧ a ∈ P)) := by
  classical
  have sP : ∀ a o, B a = some o → a ∉ P := fun a o e m => by
    have := (I.own a m).1
    rw [e] at this; cases this
  have up : ∀ a, B' a ≠ none → B a ≠ none ∨ S a ∨ a ∈ fp ∨ H a = none := fun a n => by
    rcases r.nb a n with q | q
    · by_cases hs : S a ∨ a ∈ fp
      · exact .inr (hs.elim .inl fun z => .inr (.inl z))
      · rw [rest_out hs] at q; exact .inl q
    · exact .inr (.inr (.inr q))
  refine ⟨fun a => if a ∈ P then none else B' a, ?_, fun a o e => ?_, ⟨r.nd, fun a m => ?_⟩, fun a o e => ?_⟩
  · have sB : Same B (fun a => if a ∈ P then none else B' a) := fun a o e => by
      show (if a ∈ P then none else B' a) = some o
      rw [if_neg (sP a o e)]
      exact r.b0 a o (rest_same I.bh a o e)
    refine ⟨fun a o e => ?_, I.h0.trans r.h0, I.b0.trans sB, fun a n => ?_, I.rep.mono r.h0 sB, I.nd, fun a m => ?_, fun a m => ?_⟩
    · have e : (if a ∈ P then none else B' a) = some o := e
      split at e
      · cases e
      · exact r.bh a o e
    · have n : (if a ∈ P then none else B' a) ≠ none := n
      split at n
      · exact absurd rfl n
      · rename_i hp
        rcases up a n with q | q | q | q
        · exact I.nb a q
        · exact absurd (hS a q) hp
        · exact .inr (k.own a q).2.1
        · exact .inr (I.h0.free q)
    · refine ⟨?_, (I.own a m).2⟩
      show (if a ∈ P then none else B' a) = none
      rw [if_pos m]
    · obtain ⟨a1, a2⟩ := I.fr a m
      refine ⟨?_, fun z => a2 (r.h0.free z)⟩
      show (if a ∈ P then none else B' a) = none
      split
      · rfl
      · rename_i hp
        cases e : B' a with
        | none => rfl
        | some o =>
          exfalso
          rcases up a (by rw [e]; exact Option.some_ne_none _) with q | q | q | q
          · exact q a1
          · exact hp (hS a q)
          · exact (k.own a q).2.2.2.2 m
          · exact a2 q
  · show (if a ∈ P then none else B' a) = some o
    rw [if_neg (sP a o e)]
    exact r.b0 a o (rest_same I.bh a o e)
  · obtain ⟨a1, a2, a3⟩ := r.own a m
    obtain ⟨n1, n2, n3, n4⟩ := I.newAt a2
    refine ⟨?_, n2, a3, n3, n4⟩
    show (if a ∈ P then none else B' a) = none
    rw [if_neg n3]; exact a1
  · by_cases hp : a ∈ P
    · rcases up a (by rw [e]; exact Option.some_ne_none _) with q | q | q | q
      · obtain ⟨o', e'⟩ := Option.ne_none_iff_exists'.mp q
        exact absurd hp (sP a o' e')
      · exact .inr ⟨q, hp⟩
      · exact absurd hp (k.own a q).2.2.2.1
      · exact absurd q (I.stands hp)
    · left
      show (if a ∈ P then none else B' a) = some o
      rw [if_neg hp]; exact e
theorem q_cal {k : Nat} {x : Str} {ps : List Str} {G : DF} (C : Cal X.prog X.w X.K X.mg X.base k x ps (spF X.K G)) (hr : Room k X.A) (hg : Gl X x) (ha : PA X (e :: es) (tML X.K Y fs)) (hdb : (x == ("__debug__" : Str)) = false := by decide)
    (he : starEach (e :: es) X.env = (false, eval e X.env) :: starEach es X.env := by rfl) (hpl : (backTo pos (starEach es X.env)).any (·.1) = false := by rfl) : PE X (.Call (.Name x p) (e :: es) [] pos) (tM X.K Y (eCall G fs)) := by
  refine PE.imp (pe_cal C hr hg ha hdb he hpl) fun σ H Q ⟨H0, B0, B, τ, P, F, I, h⟩ => tML.seq I h fun ds vs H1 B1 fp _ I1 s1 b1 r1 k1 h1 => ?_
  rw [List.append_nil]
  unfold callD at h1
  split at h1
  · refine ⟨atRest B1 H1 (fun a => a ∈ P ∨ a ∈ fp), frzL ds, rest_up I1.bh, r1.frz (rest_same I1.bh) (fun a o s h => rest_in (.inl s) h) (fun a m o h => rest_in (.inr m) h), ?_⟩
    cases z : G (frzL ds) with
    | exn c => rw [z] at h1; exact h1.elim
    | bad => rw [z] at h1; exact h1.elim
    | ok d =>
      rw [z] at h1
      intro B' H' v fq r
      obtain ⟨B2, I2, s2, k2, hb⟩ := I1.called k1 (S := fun a => a ∈ P) (fun a s => s) r
      exact h1 v H' B2 fq I2 r.h0 s2 (r.rep.toBor r.bh fun a o e => (hb a o e).imp id fun z => z.2) k2
  · rename_i hb
    have hb : hasBorL ds = false := by simpa using hb
    refine ⟨atRest B1 H1 (fun a => False ∨ a ∈ fp), frzL ds, rest_up I1.bh, (r1.noBor hb).frz (rest_same I1.bh) (fun a o s => s.elim) (fun a m o h => rest_in (.inr m) h), ?_⟩
    cases z : G (frzL ds) with
    | exn c => rw [z] at h1; exact h1.elim
    | bad => rw [z] at h1; exact h1.elim
    | ok d =>
      rw [z] at h1
      intro B' H' v fq r
      obtain ⟨B2, I2, s2, k2, hb⟩ := I1.called k1 (S := fun _ => False) (fun a s => s.elim) r
      refine h1 v H' B2 fq I2 r.h0 s2 ?_ k2
      have sb : Same B' B2 := fun a o e => (hb a o e).resolve_right fun z => z.1
      exact r.rep.mono (Same.refl _) sb fun _ x => x.elim
/-! a def by its body -/
def Fl.out : Fl → Res D
  | .rt d => .ok d
  | .nx _ => .ok .non
  | .ex C _ => .exn C
  | _ => .bad
def runF (n N : Nat) (g : SF) (ds : List D) : Res D := if ds.length = n then (g (ds.map some ++ List.replicate (N - n) none)).out else .bad
theorem repS_start : ∀ {ds : List D} {vs : List V} (m : Nat), RepL K B No H ds vs [] → RepS K B H (ds.map some ++ List.replicate m none) (vs.map some ++ List.replicate m none) []
  | [], vs, m, r => by
    obtain ⟨rfl, _⟩ := r
    induction m with
    | zero => exact ⟨rfl, rfl⟩
    | succ m ih => exact ⟨none, _, rfl, ih⟩
  | d :: ds, vs, m, r => by
    obtain ⟨v, w, f1, f2, rfl, r1, r2, z⟩ := r
    obtain ⟨rfl, rfl⟩ := nil_of_append z
    exact ⟨v, _, [], [], rfl, r1, repS_start m r2, rfl⟩
theorem fnok_of {P : Program} {w : World} {mg : Str → Option Value} {base : Heap} {x : Str} {st : Stmt} {N ps : List Str} {k : Nat} {g : SF} {f : Addr} {fd : FuncData} (D : Fun K x x st f fd) (S : FnScope N ps (defScope st))
    (hbody : ∀ (f : Addr) (cdv : Value) (A : Around) (outer : List Env) (s : Shared) (H : Hp), Room k (A.deeper (envOfC x (defScope st) s.heap.objs.size f cdv)) →
      PSs (cxOf CX0 P w K mg base N x (defScope st) f cdv A outer s H E0).nox (defBody st) (tMS K (fun _ _ _ => False) g)) : FnOk P w K mg base CX0 (k + 1) f fd ps (spF K (runF ps.length N.length g)) := by
  refine D.ok S (fun vs H Q E h => ?_) fun cdv A outer s H vs Q E hr h => ?_
  · obtain ⟨B0, ds, _, r, h⟩ := h
    rw [← r.length]
    unfold runF at h
    by_cases hl : ds.length = ps.length
    · exact hl
    · rw [if_neg hl] at h; exact h.elim
  · obtain ⟨B0, ds, sB, r, h⟩ := h
    unfold runF at h
    by_cases hl : ds.length = ps.length
    · rw [if_pos hl] at h
      have e : L2.start N vs = vs.map some ++ List.replicate (N.length - ps.length) none := by
        unfold L2.start
        rw [← r.length, hl]
      refine ⟨_, hbody f cdv A outer s H hr, H, B0, B0, ds.map some ++ List.replicate (N.length - ps.length) none, [], ⟨sB, Same.refl _, Same.refl _, fun a n => .inl n, by rw [e]; exact repS_start _ r, List.nodup_nil, (fun a m => by cases m), fun a m => m.elim⟩, ?_⟩
      cases z : g (ds.map some ++ List.replicate (N.length - ps.length) none) with
      | rt d => rw [z] at h; exact fun B' H' v fp q => h B' H' v fp q
      | nx t =>
        rw [z] at h
        intro B' H' σ' P' a
        exact h B' H' .non [] ⟨a.si.h0, a.si.b0, a.si.bh, a.si.nb, ⟨rfl, rfl⟩, List.nodup_nil, fun a m => by cases m⟩
      | bk t => rw [z] at h; exact h.elim
      | ct t => rw [z] at h; exact h.elim
      | ex C t => rw [z] at h; exact h.elim
      | bad => rw [z] at h; exact h.elim
    · rw [if_neg hl] at h; exact h.elim
theorem cal_of {P : Program} {w : World} {mg : Str → Option Value} {base : Heap} {x : Str} {st : Stmt} {N ps : List Str} {k : Nat} {g : SF} (D : Dfn K mg x st ps) (S : FnScope N ps (defScope st))
    (hbody : ∀ (f : Addr) (cdv : Value) (A : Around) (outer : List Env) (s : Shared) (H : Hp), Room k (A.deeper (envOfC x (defScope st) s.heap.objs.size f cdv)) →
      PSs (cxOf CX0 P w K mg base N x (defScope st) f cdv A outer s H E0).nox (defBody st) (tMS K (fun _ _ _ => False) g)) : Cal P w K mg base (k + 1) x ps (spF K (runF ps.length N.length g)) := by
  obtain ⟨f, fd, F, hm, hb⟩ := D.ex
  exact ⟨f, fd, hm, F.kp, hb, fnok_of F S hbody⟩
end
end DL
set_option Elab.async false
set_option linter.all false
set_option maxRecDepth 100000
set_option maxHeartbeats 4000000
/-! ### comprehensions -/
namespace DL
open PySem PySem.Spec PyProof.Rows L2
mutual
def D.hasOwn : D → Bool
  | .tup xs => hasOwnL xs
  | .lst t xs => decide (t = .own) || hasOwnL xs
  | .dct t _ _ vs => decide (t = .own) || hasOwnL vs
  | _ => false
def hasOwnL : List D → Bool
  | [] => false
  | d :: r => d.hasOwn || hasOwnL r
end
mutual
theorem hasOwn_pure : ∀ d : D, d.pure = true → d.hasOwn = false
  | .non, _ => rfl
  | .bl _, _ => rfl
  | .int _, _ => rfl
  | .str _, _ => rfl
  | .exc _, _ => rfl
  | .tup xs, h => hasOwnL_pure xs h
  | .lst _ _, h => by cases h
  | .dct _ _ _ _, h => by cases h
theorem hasOwnL_pure : ∀ xs : List D, pureL xs = true → hasOwnL xs = false
  | [], _ => rfl
  | d :: r, h => by
    have h : (d.pure && pureL r) = true := h
    rw [Bool.and_eq_true] at h
    show (d.hasOwn || hasOwnL r) = false
    rw [hasOwn_pure d h.1, hasOwnL_pure r h.2]
    rfl
end
section
variable {K : PySem.W.Frag}
mutual
theorem Rep.noOwn {B H : Hp} {S : Addr → Prop} : ∀ {d : D} {v : V} {fp : List Addr}, d.hasOwn = false → Rep K B S H d v fp → fp = []
  | .non, _, _, _, h => h.2
  | .bl _, _, _, _, h => h.2
  | .int _, _, _, _, h => h.2
  | .str _, _, _, _, h => h.2
  | .exc _, _, _, _, h => h.2
  | .tup xs, v, fp, p, h => let ⟨a, vs, e, q, r⟩ := h; RepL.noOwn (ds := xs) p r
  | .lst .own xs, v, fp, p, h => by simp [D.hasOwn] at p
  | .lst .bor xs, v, fp, p, h => let ⟨a, vs, e, q, r, z⟩ := h; z
  | .lst .frz xs, v, fp, p, h => let ⟨a, vs, e, q, r, z⟩ := h; z
  | .dct .own kd ks xs, v, fp, p, h => by simp [D.hasOwn] at p
  | .dct .bor kd ks xs, v, fp, p, h => let ⟨a, vs, e, q, r, z⟩ := h; z
  | .dct .frz kd ks xs, v, fp, p, h => let ⟨a, vs, e, q, r, z⟩ := h; z
theorem RepL.noOwn {B H : Hp} {S : Addr → Prop} : ∀ {ds : List D} {vs : List V} {fp : List Addr}, hasOwnL ds = false → RepL K B S H ds vs fp → fp = []
  | [], _, _, _, h => h.2
  | d :: ds, vs, fp, p, h => by
    obtain ⟨v, r, f, g, e, h1, h2, z⟩ := h
    have p : (d.hasOwn || hasOwnL ds) = false := p
    rw [Bool.or_eq_false_iff] at p
    rw [z, Rep.noOwn p.1 h1, RepL.noOwn p.2 h2]
    rfl
end
/-- the names around that a comprehension reads: put to rest, and whether one owns something -/
def capD (τ : SD) (cap : List (Str × Nat)) : SD := cap.map fun p => ((τ[p.2]?).join).map D.frz
def capOwn (τ : SD) (cap : List (Str × Nat)) : Bool := cap.any fun p => match (τ[p.2]?).join with | some d => d.hasOwn | none => false
/-- the turns -/
def compD (tg : TGD) (tt : SD → Res Bool) (elt : SD → Res D) : List D → SD → Res (List D)
  | [], _ => .ok []
  | d :: r, τ => match tg d τ with
    | none => .bad
    | some τ' => (tt τ').bind fun b => if b = true then (elt τ').bind fun x => if x.hasBor = true then .bad else (compD tg tt elt r τ').bind fun xs => .ok (x :: xs) else compD tg tt elt r τ'
def eComp (it : SD → Res (Bool × List D)) (tg : TGD) (tt : SD → Res Bool) (elt : SD → Res D) (k : Nat) (cap : List (Str × Nat)) (τ : SD) : Res D := (it τ).bind fun q =>
  match compD tg tt elt (frzL q.2) (List.replicate k none ++ capD τ cap) with
  | .ok xs => if xs.length ≤ 16777216 then .ok (.lst .own (if (q.1 || capOwn τ cap) = true then toBorL xs else xs)) else .bad
  | _ => .bad
variable {Y : XY} {H0 B0 B H : Hp} {σ : L2.St} {τ : SD} {P : List Addr} {F : Addr → Prop} {X : Cx}
/-- the slots of a comprehension's block -/
theorem repS_cap {Bx : Hp} (I : SI K H0 B0 B H σ τ P F) (sB : Same B Bx) (cap : List (Str × Nat)) (hx : capOwn τ cap = true → ∀ a ∈ P, ∀ o, H a = some o → Bx a = some o) : RepS K Bx H (capD τ cap) (capV σ cap) [] := by
  induction cap with
  | nil => exact ⟨rfl, rfl⟩
  | cons p r ih =>
    have ih := ih fun z => hx (by unfold capOwn at z ⊢; rw [List.any_cons, z, Bool.or_true])
    unfold capD capV at ih ⊢
    rw [List.map_cons, List.map_cons]
    cases e : (τ[p.2]?).join with
    | none => exact ⟨_, _, rfl, ih⟩
    | some d =>
      have e' : τ[p.2]? = some (some d) := by
        cases z : τ[p.2]? with
        | none => rw [z] at e; cases e
        | some o => rw [z] at e; exact congrArg some e
      obtain ⟨v, f, h1, h2, h3⟩ := I.rep.get e'
      refine ⟨v, _, [], [], ?_, ?_, ih, rfl⟩
      · rw [h1]; rfl
      · by_cases ho : d.hasOwn = true
        · have hc : capOwn τ (p :: r) = true := by
            unfold capOwn
            rw [List.any_cons, e]
            simp [ho]
          exact h2.frz sB (fun a o s => s.elim) fun a m o h => hx hc a (h3.subset m) o h
        · have hf := h2.noOwn (by simpa using ho)
          subst hf
          exact h2.frz sB (fun a o s => s.elim) fun a m => by cases m
theorem repS_none {Bx : Hp} : ∀ (k : Nat) {τ : SD} {σ : L2.St}, RepS K Bx H τ σ [] → RepS K Bx H (List.replicate k none ++ τ) (List.replicate k none ++ σ) []
  | 0, _, _, h => h
  | k + 1, _, _, h => ⟨none, _, rfl, repS_none k h⟩
/-- an address besides is written -/
theorem SI.writeF {F' : Addr → Prop} {a : Addr} {o o' : HO} (I : SI K H0 B0 B H σ τ P F') (hF : F' a) (hH0 : H0 a = none) (ha : H a = some o) (mu : mutO o) : SI K H0 B0 B (upd H a o') σ τ P F' := by
  have kp : Keep H (upd H a o') [a] := ⟨fun b u h n => by rw [upd_ne (by simpa using n)]; exact h, fun b m => by
    have : b = a := by simpa using m
    subst this
    exact ⟨o, ha, mu⟩⟩
  have kr : ∀ {τ : SD} {σ : L2.St} {P : List Addr}, (∀ b ∈ P, b ≠ a) → RepS K B H τ σ P → RepS K B (upd H a o') τ σ P := by
    intro τ
    induction τ with
    | nil => intro σ P _ h; exact h
    | cons q r ih =>
      intro σ P hp h
      cases q with
      | none => obtain ⟨x, t, e, h⟩ := h; exact ⟨x, t, e, ih hp h⟩
      | some d =>
        obtain ⟨v, t, f, g, e, h1, h2, z⟩ := h
        subst z
        exact ⟨v, t, f, g, e, h1.keep kp fun b m => by
          have := hp b (List.mem_append_left _ m)
          simpa using this, ih (fun b m => hp b (List.mem_append_right _ m)) h2, rfl⟩
  refine ⟨fun b u e => ?_, fun b u e => ?_, I.b0, I.nb, kr (fun b m z => (I.own b m).2.2 (z ▸ hF)) I.rep, I.nd, I.own, fun b m => ⟨(I.fr b m).1, ?_⟩⟩
  · rw [upd_ne]
    · exact I.bh b u e
    · intro z; subst z; rw [(I.fr b hF).1] at e; cases e
  · rw [upd_ne]
    · exact I.h0 b u e
    · intro z; subst z; rw [hH0] at e; cases e
  · by_cases z : b = a
    · subst z; rw [upd_same]; exact Option.some_ne_none _
    · rw [upd_ne z]; exact (I.fr b m).2
/-- no exception -/
abbrev NoY : XY := fun _ _ _ => False
theorem bind_ok {α β : Type} {r : Res α} {f : α → Res β} {b : β} (h : r.bind f = .ok b) : ∃ a, r = .ok a ∧ f a = .ok b := by
  cases r with
  | ok a => exact ⟨a, rfl, h⟩
  | exn C => cases h
  | bad => cases h
/-- the block of a comprehension -/
theorem comp_main {it : SD → Res (Bool × List D)} {tgd : TGD} {tt : SD → Res Bool} {elt : SD → Res D} {k : Nat} {cap : List (Str × Nat)} {Q : VK} (I : SI K H0 B0 B H σ τ P F) (h : Goal K Y H0 B0 B H σ τ P F Q (eComp it tgd tt elt k cap τ)) :
    tComp (tMI K Y it) (tMG K tgd) (tMB K NoY tt) (tM K NoY elt) k cap σ H Q := by
  refine ⟨H0, B0, B, τ, P, F, I, ?_⟩
  unfold eComp at h
  cases z : it τ with
  | exn C => rw [z] at h; exact h
  | bad => rw [z] at h; exact h
  | ok q =>
    obtain ⟨fl, ds⟩ := q
    rw [z] at h
    simp only [Res.bind_ok] at h
    intro J H1 B1 fp I1 s1 b1 k1 JA acc hacc
    have h := Goal.later h s1 b1
    cases zc : compD tgd tt elt (frzL ds) (List.replicate k none ++ capD τ cap) with
    | exn C => rw [zc] at h; exact h.elim
    | bad => rw [zc] at h; exact h.elim
    | ok xs =>
      rw [zc] at h
      simp only at h
      by_cases hxl : xs.length ≤ 16777216
      · rw [if_pos hxl] at h
        let S : Addr → Prop := fun a => (fl || capOwn τ cap) = true ∧ a ∈ P
        let Bx : Hp := atRest B1 H1 (fun a => S a ∨ a ∈ fp)
        have sBx : Same B1 Bx := rest_same I1.bh
        have uBx : Same Bx H1 := rest_up I1.bh
        have J1 : ItD K J (frzL ds) Bx H1 := JA Bx sBx uBx (fun a m o e => rest_in (.inr m) e) (fun hf a m o e => rest_in (.inl ⟨by rw [hf]; rfl, m⟩) e)
        have c0 : RepS K Bx H1 (List.replicate k none ++ capD τ cap) (List.replicate k none ++ capV σ cap) [] := repS_none k (repS_cap I1 sBx cap fun hc a m o e => rest_in (.inl ⟨by rw [hc, Bool.or_true], m⟩) e)
        have sacc : Same H1 (upd H1 acc (.lst [])) := sameUpd' hacc
        have C0 : SI K H1 Bx Bx (upd H1 acc (.lst [])) (List.replicate k none ++ capV σ cap) (List.replicate k none ++ capD τ cap) [] (fun a => a = acc ∨ a ∈ ([] : List Addr)) :=
          ⟨uBx.trans sacc, sacc, Same.refl _, fun a n => .inl n, c0.mono sacc (Same.refl _), List.nodup_nil, (fun a m => by cases m), fun a m => by
            have : a = acc := m.elim id fun z => by cases z
            subst this
            exact ⟨uBx.free hacc, by rw [upd_same]; exact Option.some_ne_none _⟩⟩
        refine ⟨fun i m τv ys H' => m = (frzL ds).length - i ∧ i ≤ (frzL ds).length ∧ ∃ B' τb Pb es fe rest, SI K H1 Bx B' H' τv τb Pb (fun a => a = acc ∨ a ∈ fe) ∧ H' acc = some (.lst ys) ∧ RepL K B' No H' es ys fe ∧ fe.Nodup ∧
            (∀ a ∈ fe, H1 a = none ∧ a ≠ acc) ∧ compD tgd tt elt ((frzL ds).drop i) τb = .ok rest ∧ xs = es ++ rest ∧ acc ∉ fe, ⟨_, rfl, Nat.zero_le _, Bx, _, [], [], [], xs, C0, upd_same, ⟨rfl, rfl⟩, List.nodup_nil, (fun a m => by cases m), zc, rfl, by simp⟩, ?_⟩
        rintro i m τv ys H' ⟨rfl, hle, B', τb, Pb, es, fe, rest, C, ha, re, ndf, own, ec, ex, hna⟩
        have im : Imm H1 H' := Imm.of C.h0
        by_cases hlt : i < (frzL ds).length
        · obtain ⟨d, hd⟩ : ∃ d, (frzL ds)[i]? = some d := ⟨(frzL ds)[i], List.getElem?_eq_getElem hlt⟩
          have hdrop : (frzL ds).drop i = d :: (frzL ds).drop (i + 1) := by
            rw [List.drop_eq_getElem_cons hlt]
            congr 1
            rw [List.getElem?_eq_getElem hlt] at hd
            exact Option.some.inj hd
          rw [hdrop] at ec
          unfold compD at ec
          refine .inr ⟨J1.go B' H' i d C.b0 C.bh im hd, fun x H'' y => ?_⟩
          obtain ⟨sy, ry⟩ := J1.yld B' H' i d x H'' C.b0 C.bh im hd y
          cases w : tgd d τb with
          | none => rw [w] at ec; cases ec
          | some τ2 =>
            rw [w] at ec
            simp only at ec
            refine ⟨H1, Bx, B', τb, Pb, _, d, [], C.grow sy, ry, Vok.nil, ?_⟩
            rw [w]
            intro H3 σ3 P3 I3 e3
            subst e3
            obtain ⟨b, eb, ec⟩ := bind_ok ec
            refine ⟨H1, Bx, B', τ2, P3, _, I3, ?_⟩
            rw [eb]
            intro H4 B4 I4 s4 b4
            have re4 : RepL K B4 No H4 es ys fe := re.mono (sy.trans s4) b4 fun _ x => x
            have ha4 : H4 acc = some (.lst ys) := s4 _ _ (sy _ _ ha)
            cases b with
            | false =>
              rw [if_neg Bool.false_ne_true] at ec ⊢
              exact ⟨_, by omega, rfl, hlt, B4, τ2, P3, es, fe, rest, I4, ha4, re4, ndf, own, ec, ex, hna⟩
            | true =>
              rw [if_pos rfl] at ec ⊢
              obtain ⟨x', ex', ec⟩ := bind_ok ec
              refine ⟨H1, Bx, B4, τ2, P3, _, I4, ?_⟩
              rw [ex']
              intro v H5 B5 fv I5 s5 b5 r5 k5
              by_cases hb : x'.hasBor = true
              · rw [if_pos hb] at ec; cases ec
              · rw [if_neg hb] at ec
                obtain ⟨rest', er', ec⟩ := bind_ok ec
                cases ec
                have hb : x'.hasBor = false := by simpa using hb
                have ha5 : H5 acc = some (.lst ys) := s5 _ _ ha4
                have re5 : RepL K B5 No H5 es ys fe := re4.mono s5 b5 fun _ x => x
                have hlen : ys.length < sizeLine := by
                  rw [← re.length, sizeLine_eq]
                  have := congrArg List.length ex
                  simp at this
                  omega
                refine ⟨ha5, hlen, _, by omega, rfl, hlt, ?_⟩
                have Ih := I5.hold k5
                have fdis : ∀ a ∈ fv, a ∉ fe ∧ a ≠ acc := fun a m => ⟨fun z => (k5.own a m).2.2.2.2 (.inr z), fun z => (k5.own a m).2.2.2.2 (.inl z)⟩
                have Ih2 : SI K H1 Bx B5 H5 σ3 τ2 P3 (fun a => a = acc ∨ a ∈ fe ++ fv) := Ih.anti fun a m => by
                  rcases m with m | m
                  · exact .inr (.inl m)
                  · rcases List.mem_append.mp m with m | m
                    · exact .inr (.inr m)
                    · exact .inl m
                have Iw := Ih2.writeF (o' := .lst (ys ++ [v])) (.inl rfl) hacc ha5 trivial
                have kp : Keep H5 (upd H5 acc (.lst (ys ++ [v]))) [acc] := ⟨fun b u h n => by rw [upd_ne (by simpa using n)]; exact h, fun b m => by
                  have : b = acc := by simpa using m
                  subst this
                  exact ⟨_, ha5, trivial⟩⟩
                refine ⟨B5, τ2, P3, es ++ [x'], fe ++ fv, rest', Iw, upd_same, ?_, List.nodup_append.mpr ⟨ndf, k5.nd, fun a h1 b h2 e => (fdis b h2).1 (e ▸ h1)⟩, fun a m => ?_, er', by rw [ex]; simp, fun m => ?_⟩
                · refine RepL.append (re5.keep kp fun a m z => ?_) (RepL.one ((r5.noBor hb).keep kp fun a m z => ?_))
                  · have : a = acc := by simpa using z
                    exact hna (this ▸ m)
                  · have : a = acc := by simpa using z
                    exact (fdis a m).2 this
                · rcases List.mem_append.mp m with m | m
                  · exact own a m
                  · exact ⟨(k5.own a m).2.1, (fdis a m).2⟩
                · rcases List.mem_append.mp m with m | m
                  · exact hna m
                  · exact (fdis acc m).2 rfl
        · have e : i = (frzL ds).length := by omega
          subst e
          rw [List.drop_length] at ec
          unfold compD at ec
          cases ec
          rw [List.append_nil] at ex
          subst ex
          refine .inl ⟨J1.stop B' H' C.b0 C.bh im, ?_⟩
          have ro : RetOk K H1 Bx B' H' (.lst .own xs) (.ref acc) (acc :: fe) := ⟨C.h0, C.b0, C.bh, C.nb, ⟨acc, ys, fe, rfl, ha, re, rfl⟩, List.nodup_cons.mpr ⟨hna, ndf⟩, fun a m => by
            rcases List.mem_cons.mp m with m | m
            · subst m; exact ⟨(C.fr a (.inl rfl)).1, hacc, (C.fr a (.inl rfl)).2⟩
            · exact ⟨(C.fr a (.inr m)).1, (own a m).1, (C.fr a (.inr m)).2⟩⟩
          obtain ⟨B2, I2, s2, k2, hb⟩ := I1.called k1 (S := S) (fun a s => s.2) ro
          by_cases hl : (fl || capOwn τ cap) = true
          · rw [if_pos hl] at h
            exact h (.ref acc) H' B2 _ I2 C.h0 s2 (ro.rep.toBor ro.bh fun a o e => (hb a o e).imp id fun z => z.2) k2
          · rw [if_neg hl] at h
            have sb : Same B' B2 := fun a o e => (hb a o e).resolve_right fun z => hl z.1.1
            exact h (.ref acc) H' B2 _ I2 C.h0 s2 (ro.rep.mono (Same.refl _) sb fun _ x => x.elim) k2
      · rw [if_neg hxl] at h; exact h.elim
variable {tg elt iter : Expr} {ifs : List Expr} {scope : Scope} {pos : Pos} {own : List Str} {cap : List (Str × Nat)} {it : SD → Res (Bool × List D)} {tgd : TGD} {tt : SD → Res Bool} {fe : SD → Res D}
theorem q_comp (ok : CompOk X scope own cap) (hc : X.calm = true) (hi : PI X tg iter (tMI X.K Y it)) (Bl : BlockOk X scope own cap tg ifs elt (tMG X.K tgd) (tMB X.K NoY tt) (tM X.K NoY fe)) (hs : ∀ x, foldedSetIterable iter X.env x = pure x := by intro _; rfl) :
    PE X (.ListComp elt [⟨tg, iter, ifs, 0⟩] scope pos) (tM X.K Y (eComp it tgd tt fe own.length cap)) :=
  PE.imp (pe_comp ok hc hi Bl hs) fun σ H Q ⟨H0, B0, B, τ, P, F, I, h⟩ => comp_main I h
theorem s_setComp {i : Nat} {y : Str} {py spos : Pos} (hN : X.N.Nodup) (hi' : X.N[i]? = some y) (hy : Loc X.env.scope y) (ok : CompOk X scope own cap) (hc : X.calm = true) (hi : PI X tg iter (tMI X.K Y it)) (Bl : BlockOk X scope own cap tg ifs elt (tMG X.K tgd) (tMB X.K NoY tt) (tM X.K NoY fe))
    (hsw : swapsWith (.ListComp elt [⟨tg, iter, ifs, 0⟩] scope pos) (some (.Name y py)) spos.line X.env = pure true := by rfl)
    (hf : X.fn y = true ∨ X.env.scope.names.lookup y = some .local := by first | exact .inl rfl | exact .inr rfl) (hs : ∀ x, foldedSetIterable iter X.env x = pure x := by intro _; rfl) :
    PS X (.Assign [.Name y py] (.ListComp elt [⟨tg, iter, ifs, 0⟩] scope pos) spos) (tMS X.K Y (sSet i (eComp it tgd tt fe own.length cap))) := by
  refine PS.imp (ps_setComp hN hi' hy ok hc hi Bl hsw hf hs) fun E σ H ⟨H0, B0, B, τ, P, I, h⟩ => ?_
  have key : tM X.K Y (eComp it tgd tt fe own.length cap) σ H (fun x H1 => gName i x σ H1 E.nx) := exprS I h fun d v H1 B1 fp _ I1 _ _ r1 k1 h1 => by
    unfold setD at h1
    split at h1
    · exact h1.elim
    · rename_i hb
      obtain ⟨P', I', _⟩ := I1.set i (r1.noBor (by simpa using hb)) k1
      exact h1 B1 H1 _ P' ⟨I', Same.refl _, Imm.refl _⟩
  obtain ⟨H0', B0', B', τ', P', F', I', h'⟩ := key
  exact comp_main I' h'
def bTrue (_ : SD) : Res Bool := .ok true
theorem qif_nil : PIf X [] (tMB X.K Y bTrue) := fun pins s σ H Q I ⟨H0, B0, B, τ, P, F, I', h⟩ => pif_nil pins s σ H Q I (h H B I' (Same.refl _) (Same.refl _))
theorem qif_one {c : Expr} {gc : SD → Res Bool} (h : PT X c (tMB X.K Y gc)) : PIf X [c] (tMB X.K Y gc) := pif_one h
end
end DL
set_option Elab.async false
set_option linter.all false
set_option maxRecDepth 100000
set_option maxHeartbeats 4000000
namespace DL
open PySem PySem.Spec PyProof.Rows L2
section
variable {K : PySem.W.Frag} {Y : XY} {H0 B0 B H : Hp} {σ : L2.St} {τ : SD} {P : List Addr} {F : Addr → Prop} {X : Cx} {pos p : Pos} {e : Expr} {fe : SD → Res D}
/-! ### isinstance(x, T), T one of Python's own -/
def tyN : D → String | .non => "NoneType" | .bl _ => "bool" | .int _ => "int" | .str _ => "str" | .tup _ => "tuple" | .lst _ _ => "list" | .dct _ _ _ _ => "dict" | .exc _ => ""
def D.isExc : D → Bool | .exc _ => true | _ => false
theorem call_isinstS {T : String} : CallR X (.builtin "isinstance") (fun xs H Q => ∃ x t b, xs = [x, .ty T] ∧ (TyOf X.K H x t ∨ (∃ a vs, x = .ref a ∧ SqT X.K H a vs ∧ t = .type "tuple") ∨ (∃ a vs, x = .ref a ∧ SqL X.K H a vs ∧ t = .type "list")) ∧ PySem.W.kitOne X.K t (.type T) = some b ∧ Q (.bl b) H) := by
  intro pins s σ H xs us Q I r h
  obtain ⟨x, t, b, rfl, ty, e, q⟩ := h
  obtain ⟨u, v, rfl, ru, rv⟩ := vals2 r
  cases rv
  rcases ty with ty | ⟨a, vs, rfl, hq, rfl⟩ | ⟨a, vs, rfl, hq, rfl⟩
  · exact isinst_ok I ru ty e fun tk => ⟨.bl b, H, I.tok tk, rfl, q⟩
  · cases ru
    obtain ⟨its, _, ⟨o, h1, h2, _⟩, _⟩ := I.tuple hq
    exact PySem.W.kia_one PySem.W.kitx_tuple I.kIn ⟨o, h1, h2⟩ e (fun z => nomatch z) fun tk => ⟨.bl b, H, I.tok tk, rfl, q⟩
  · cases ru
    obtain ⟨its, _, pl, _⟩ := I.list hq
    obtain ⟨o, h1, h2, _⟩ := pl.isList
    exact PySem.W.kia_one PySem.W.kitx_list I.kIn ⟨o, h1, h2⟩ e (fun z => nomatch z) fun tk => ⟨.bl b, H, I.tok tk, rfl, q⟩
theorem tyOf_rep {d : D} {v : V} {f : List Addr} (I : SI K H0 B0 B H σ τ P F) (r : Rep K B (· ∈ P) H d v f) (ne : d.isExc = false) : TyOf K H v (.type (tyN d)) ∨ (∃ a vs, v = .ref a ∧ SqT K H a vs ∧ (Value.type (tyN d)) = .type "tuple") ∨ (∃ a vs, v = .ref a ∧ SqL K H a vs ∧ (Value.type (tyN d)) = .type "list") := by
  cases d with
  | non => rw [r.1]; exact .inl .non
  | bl b => rw [r.1]; exact .inl (.bl b)
  | int b => rw [r.1]; exact .inl (.int b)
  | str b => rw [r.1]; exact .inl (.str b)
  | exc _ => cases ne
  | tup xs => obtain ⟨a, vs, rfl, q, _⟩ := r; exact .inr (.inl ⟨a, vs, rfl, SqT.of q, rfl⟩)
  | lst t xs =>
    obtain ⟨a, vs, g, rfl, q, _⟩ := r.lst I
    exact .inr (.inr ⟨a, vs, rfl, q, rfl⟩)
  | dct t k ks xs =>
    have : ∃ a vs, v = .ref a ∧ DictAt H a k ks vs := by
      cases t with
      | own => obtain ⟨a, vs, g, e, q, _⟩ := r; exact ⟨a, vs, e, q⟩
      | bor => obtain ⟨a, vs, e, q, _⟩ := r; exact ⟨a, vs, e, q.elim (fun y => y.2) fun y => y.mono I.bh⟩
      | frz => obtain ⟨a, vs, e, q, _⟩ := r; exact ⟨a, vs, e, q.mono I.bh⟩
    obtain ⟨a, vs, rfl, ⟨_, kvs, q, _⟩ | ⟨_, kvs, q, _⟩⟩ := this
    · exact .inl (.dK q)
    · exact .inl (.dT q)
def isB : D → Bool | .bl _ => true | _ => false
def isI : D → Bool | .bl _ => true | .int _ => true | _ => false
def isS : D → Bool | .str _ => true | _ => false
def isL : D → Bool | .lst _ _ => true | _ => false
def isTp : D → Bool | .tup _ => true | _ => false
def isDc : D → Bool | .dct _ _ _ _ => true | _ => false
/-- g tells what is of the type T -/
def InstOf (T : String) (g : D → Bool) : Prop := ∀ (K : PySem.W.Frag) (d : D), d.isExc = false → PySem.W.kitOne K (.type (tyN d)) (.type T) = some (g d)
theorem inst_bool : InstOf "bool" isB := fun K d h => by cases d <;> first | rfl | cases h
theorem inst_int : InstOf "int" isI := fun K d h => by cases d <;> first | rfl | cases h
theorem inst_str : InstOf "str" isS := fun K d h => by cases d <;> first | rfl | cases h
theorem inst_list : InstOf "list" isL := fun K d h => by cases d <;> first | rfl | cases h
theorem inst_tuple : InstOf "tuple" isTp := fun K d h => by cases d <;> first | rfl | cases h
theorem inst_dict : InstOf "dict" isDc := fun K d h => by cases d <;> first | rfl | cases h
def instD (g : D → Bool) (d : D) : Res D := if d.isExc = true then .bad else .ok (.bl (g d))
theorem q_inst {T : String} {g : D → Bool} {ty : Expr} {pt : Pos} {x : Str} (hI : InstOf T g) (hg : Gl X "isinstance") (hm : X.mg "isinstance" = none) (he : PE X e (tM X.K Y fe)) (hgT : Gl X x) (hmT : X.mg x = none) (hbT : bootBuiltins x = some (.type T))
    (hs : starEach [e, .Name x pt] X.env = (false, eval e X.env) :: starEach [.Name x pt] X.env := by rfl) (hs2 : starEach [.Name x pt] X.env = (false, eval (.Name x pt) X.env) :: starEach [] X.env := by rfl) (hpl : (backTo pos (starEach [.Name x pt] X.env)).any (·.1) = false := by rfl) (hn : x ≠ "__name__" := by decide) (hdb : (x == ("__debug__" : Str)) = false := by decide) :
    PE X (.Call (.Name "isinstance" p) [e, .Name x pt] [] pos) (tM X.K Y (eUn (instD g) fe)) := by
  refine PE.imp (pe_callB (call_isinstS (T := T)) hg hm (by decide +kernel) (pa_cons he (pa_cons (pe_bltn hgT hmT hbT (show RelV (.ty T) _ from rfl) hn hdb) pa_nil hs2) hs) (he := hs) (hpl := hpl)) fun σ H Q ⟨H0, B0, B, τ, P, F, I, h⟩ => ?_
  refine tM.seq (g := instD g) I h fun d v H1 B1 fp _ I1 s1 b1 r1 k1 h1 => ?_
  unfold instD at h1
  split at h1
  · exact h1.elim
  · rename_i hx
    have hx : d.isExc = false := by simpa using hx
    exact ⟨v, _, _, rfl, tyOf_rep I1 r1 hx, hI _ d hx, Out.here h1 I1 ⟨rfl, rfl⟩⟩
/-! ### sorted, len(set(..)) of ints -/
def intsOf : List D → Option (List Int)
  | [] => some []
  | .int i :: r => (intsOf r).map (i :: ·)
  | _ :: _ => none
theorem intsOf_map (ns : List Int) : intsOf (ns.map D.int) = some ns := by
  induction ns with
  | nil => rfl
  | cons n r ih => rw [List.map_cons, intsOf, ih]; rfl
theorem intsOf_eq : ∀ {xs : List D} {ns : List Int}, intsOf xs = some ns → xs = ns.map D.int
  | [], ns, h => by cases h; rfl
  | .int i :: r, ns, h => by
    unfold intsOf at h
    cases e : intsOf r with
    | none => rw [e] at h; cases h
    | some m => rw [e] at h; cases h; rw [List.map_cons, ← intsOf_eq e]
  | .non :: _, _, h => by cases h
  | .bl _ :: _, _, h => by cases h
  | .str _ :: _, _, h => by cases h
  | .tup _ :: _, _, h => by cases h
  | .lst _ _ :: _, _, h => by cases h
  | .dct _ _ _ _ :: _, _, h => by cases h
  | .exc _ :: _, _, h => by cases h
theorem repL_ints {S : Addr → Prop} : ∀ {ns : List Int} {vs : List V} {f : List Addr}, RepL K B S H (ns.map D.int) vs f → vs = ns.map V.int ∧ f = []
  | [], vs, f, r => r
  | n :: ns, vs, f, r => by
    obtain ⟨v, w, f1, f2, rfl, ⟨rfl, rfl⟩, r2, rfl⟩ := r
    obtain ⟨rfl, rfl⟩ := repL_ints r2
    exact ⟨rfl, rfl⟩
theorem ints_repL {S : Addr → Prop} : ∀ (ns : List Int), RepL K B S H (ns.map D.int) (ns.map V.int) []
  | [] => ⟨rfl, rfl⟩
  | n :: ns => ⟨_, _, [], [], rfl, ⟨rfl, rfl⟩, ints_repL ns, rfl⟩
/-- ints in order -/
def sortI (ns : List Int) : List Int := ns.mergeSort (fun a b => decide (a ≤ b))
theorem sortI_perm (ns : List Int) : (sortI ns).Perm ns := List.mergeSort_perm ns _
theorem sortI_sorted (ns : List Int) : (sortI ns).Pairwise (· ≤ ·) := by
  have h := List.pairwise_mergeSort (le := fun a b : Int => decide (a ≤ b)) (fun a b c h1 h2 => by simp at *; omega) (fun a b => by simp; omega) ns
  exact h.imp fun h => by simpa using h
theorem sorted_unique : ∀ {l m : List Int}, l.Perm m → l.Pairwise (· ≤ ·) → m.Pairwise (· ≤ ·) → l = m
  | [], m, hp, _, _ => (List.Perm.nil_eq hp)
  | x :: r, m, hp, h1, h2 => by
    match m, hp, h2 with
    | [], hp, _ => exact absurd hp.length_eq (by simp)
    | y :: r', hp, h2 =>
      obtain ⟨a1, a2⟩ := List.pairwise_cons.mp h1
      obtain ⟨b1, b2⟩ := List.pairwise_cons.mp h2
      have e : x = y := by
        have m1 : x ∈ y :: r' := hp.mem_iff.mp List.mem_cons_self
        have m2 : y ∈ x :: r := hp.mem_iff.mpr List.mem_cons_self
        rcases List.mem_cons.mp m1 with q | q
        · exact q
        · rcases List.mem_cons.mp m2 with q' | q'
          · exact q'.symm
          · have := b1 x q
            have := a1 y q'
            omega
      subst e
      rw [sorted_unique ((List.perm_cons _).mp hp) a2 b2]
def sortedD : List D → Res D
  | [.lst _ xs] => match intsOf xs with | some ns => if ns.length < 64 then .ok (.lst .own ((sortI ns).map D.int)) else .bad | none => .bad
  | _ => .bad
theorem d_sorted : CallD K Y (fun xs H Q => ∃ (a : Addr) (ns : List Int), xs = [.ref a] ∧ SqL K H a (ns.map V.int) ∧ ns.length < 64 ∧ ∀ (p : Addr) (ns' : List Int), H p = none → ns'.Perm ns → ns'.Pairwise (· ≤ ·) → Q (.ref p) (upd H p (.lst (ns'.map V.int)))) sortedD := by
  intro H0 B0 B H σ τ P F ds vs f Q I r k h
  unfold sortedD at h
  split at h
  · obtain ⟨v, rfl, r'⟩ := repL1 r
    obtain ⟨a, ws, g, rfl, q, l, s⟩ := r'.lst I
    split at h
    · rename_i ns e
      split at h
      · rename_i hl
        have ex := intsOf_eq e
        subst ex
        obtain ⟨rfl, rfl⟩ := repL_ints l
        refine ⟨a, ns, rfl, sqL_of q, hl, fun p ns' hp h1 h2 => ?_⟩
        have e2 : ns' = sortI ns := sorted_unique (h1.trans (sortI_perm ns).symm) h2 (sortI_sorted ns)
        subst e2
        exact Out.newL h I (ints_repL _) Vok.nil hp
      · exact h.elim
    · exact h.elim
  · exact h.elim
/-- how many unlike ones -/
def lenSetD : D → Res D
  | .lst _ xs => match intsOf xs with | some ns => if ns.length < 4000 then .ok (.int (dd ns).length) else .bad | none => .bad
  | _ => .bad
theorem q_lenSet {p2 pos2 : Pos} (hg : Gl X "len") (hm : X.mg "len" = none) (hg2 : Gl X "set") (hm2 : X.mg "set" = none) (hc : X.calm = true) (he : PE X e (tM X.K Y fe))
    (hs : starEach [e] X.env = (false, eval e X.env) :: starEach [] X.env := by rfl) (hs2 : starEach [.Call (.Name "set" p2) [e] [] pos2] X.env = (false, eval (.Call (.Name "set" p2) [e] [] pos2) X.env) :: starEach [] X.env := by rfl) (hpl : (backTo pos (starEach [] X.env)).any (·.1) = false := by rfl) (hpl2 : (backTo pos2 (starEach [] X.env)).any (·.1) = false := by rfl) :
    PE X (.Call (.Name "len" p) [.Call (.Name "set" p2) [e] [] pos2] [] pos) (tM X.K Y (eUn lenSetD fe)) := by
  refine PE.imp (pe_callB call_lenS hg hm PySem.boot_len (pa_cons (pe_callTy (call_set hc) hg2 hm2 (by decide +kernel) (pa_cons he pa_nil hs) (he := hs) (hpl := hpl2)) pa_nil hs2) (he := hs2) (hpl := hpl)) fun σ H Q ⟨H0, B0, B, τ, P, F, I, h⟩ => ?_
  refine tM.seq (g := lenSetD) I h fun d v H1 B1 fp _ I1 s1 b1 r1 k1 h1 => ?_
  unfold lenSetD at h1
  split at h1
  · obtain ⟨a, ws, g, rfl, q, l, s⟩ := r1.lst I1
    split at h1
    · rename_i ns e
      split at h1
      · rename_i hl
        have ex := intsOf_eq e
        subst ex
        obtain ⟨rfl, rfl⟩ := repL_ints l
        refine ⟨a, ns, rfl, sqL_of q, hl, fun p hp => ⟨p, _, _, rfl, upd_same, ?_⟩⟩
        have sm := sameUpd' (o := .set (fun k => (dd ns).any (· == k)) (dd ns).length) hp
        exact h1 (.int _) _ B1 [] (I1.grow sm) sm (Same.refl _) ⟨rfl, rfl⟩ Vok.nil
      · exact h1.elim
    · exact h1.elim
  · exact h1.elim
end
end DL
set_option Elab.async false
set_option linter.all false
set_option maxRecDepth 100000
set_option maxHeartbeats 4000000
/-! ### dicts -/
namespace DL
open PySem PySem.Spec PyProof.Rows L2
def keyF : D → Option Key | .int i => some (.inl i) | .str x => some (.inr x) | _ => none
def keyFs : List D → Option (List Key)
  | [] => some []
  | d :: r => (keyF d).bind fun k => (keyFs r).map (k :: ·)
/-- a value as a key -/
def keyK : D → Option KT
  | .int i => some (.inl (.inl i))
  | .str x => some (.inl (.inr x))
  | .tup ds => (keyFs ds).map .inr
  | _ => none
/-- of which kind of dict it is a key -/
def KT.kind : KT → Bool | .inl _ => false | .inr _ => true
def lookD : List KT → List D → KT → Option D
  | k :: ks, d :: ds, q => if k = q then some d else lookD ks ds q
  | _, _, _ => none
def hasK (ks : List KT) (q : KT) : Bool := ks.any fun k => decide (k = q)
def putKs (ks : List KT) (q : KT) : List KT := if hasK ks q = true then ks else ks ++ [q]
def replD : List KT → List D → KT → D → List D
  | k :: ks, d :: ds, q, x => (if k = q then x else d) :: replD ks ds q x
  | _, ds, _, _ => ds
def putVs (ks : List KT) (ds : List D) (q : KT) (d : D) : List D := if hasK ks q = true then replD ks ds q d else ds ++ [d]
section
variable {K : PySem.W.Frag} {Y : XY} {H0 B0 B H : Hp} {σ : L2.St} {τ : SD} {P : List Addr} {F : Addr → Prop} {X : Cx} {pos : Pos}
theorem Rep.dc (I : SI K H0 B0 B H σ τ P F) {t : Tg} {k : Bool} {ks : List KT} {xs : List D} {v : V} {f : List Addr} (r : Rep K B (· ∈ P) H (.dct t k ks xs) v f) : ∃ a vs g, v = .ref a ∧ DictAt H a k ks vs ∧ RepL K B (· ∈ P) H xs vs g ∧ List.Sublist g f := by
  cases t with
  | own =>
    obtain ⟨a, vs, g, e, q, r, z⟩ := r
    subst z
    exact ⟨a, vs, g, e, q, r, List.sublist_cons_self _ _⟩
  | bor =>
    obtain ⟨a, vs, e, q, r, z⟩ := r
    subst z
    exact ⟨a, vs, [], e, q.elim (fun y => y.2) fun y => y.mono I.bh, r, List.Sublist.refl _⟩
  | frz =>
    obtain ⟨a, vs, e, q, r, z⟩ := r
    subst z
    exact ⟨a, vs, [], e, q.mono I.bh, r.mono (Same.refl _) (Same.refl _) (fun _ x => x.elim), List.Sublist.refl _⟩
theorem keyFs_rep {S : Addr → Prop} : ∀ {ds : List D} {k : List Key} {vs : List V} {f : List Addr}, keyFs ds = some k → RepL K B S H ds vs f → vs = k.map kV
  | [], k, vs, f, h, r => by cases h; exact r.1
  | d :: ds, k, vs, f, h, r => by
    obtain ⟨v, w, f1, f2, rfl, r1, r2, _⟩ := r
    unfold keyFs at h
    cases e1 : keyF d with
    | none => rw [e1] at h; cases h
    | some q =>
      rw [e1] at h
      cases e2 : keyFs ds with
      | none => rw [e2] at h; cases h
      | some m =>
        rw [e2] at h
        cases h
        rw [keyFs_rep e2 r2, List.map_cons]
        congr 1
        cases d <;> first | (cases e1; exact r1.1) | cases e1
theorem keyK_l {S : Addr → Prop} {d : D} {k : Key} {v : V} {f : List Addr} (h : keyK d = some (.inl k)) (r : Rep K B S H d v f) : v = kV k := by
  cases d with
  | int i => cases h; exact r.1
  | str i => cases h; exact r.1
  | tup ds =>
    have h : (keyFs ds).map Sum.inr = some (Sum.inl k) := h
    cases e : keyFs ds <;> rw [e] at h <;> cases h
  | _ => cases h
theorem keyK_r {S : Addr → Prop} {d : D} {k : List Key} {v : V} {f : List Addr} (h : keyK d = some (.inr k)) (r : Rep K B S H d v f) : ∃ b, v = .ref b ∧ H b = some (.tup (k.map kV)) := by
  cases d with
  | tup ds =>
    have h : (keyFs ds).map Sum.inr = some (Sum.inr k) := h
    cases e : keyFs ds with
    | none => rw [e] at h; cases h
    | some m =>
      rw [e] at h
      cases h
      obtain ⟨a, vs, rfl, q, rl⟩ := r
      rw [keyFs_rep e rl] at q
      exact ⟨a, rfl, q⟩
  | int i => cases h
  | str i => cases h
  | _ => cases h
/-- look-up by the layer's table and by ours -/
theorem look_some {κ : Type} [DecidableEq κ] (ι : κ → KT) (inj : ∀ a b, ι a = ι b → a = b) {S : Addr → Prop} : ∀ {kvs : List (κ × V)} {xs : List D} {f : List Addr} {k : κ}, RepL K B S H xs (kvs.map (·.2)) f →
    match lookD (kvs.map fun p => ι p.1) xs (ι k) with
    | some d => ∃ v g, valV kvs k = some v ∧ Rep K B S H d v g ∧ List.Sublist g f
    | none => valV kvs k = none
  | [], xs, f, k, r => by cases xs <;> rfl
  | p :: kvs, [], f, k, r => by obtain ⟨h, _⟩ := r; cases h
  | p :: kvs, d :: ds, f, k, r => by
    obtain ⟨v, w, f1, f2, e, r1, r2, rfl⟩ := r
    rw [List.map_cons] at e
    cases e
    rw [List.map_cons, lookD]
    by_cases h : p.1 = k
    · rw [if_pos (congrArg ι h)]
      exact ⟨_, f1, valV_pos h, r1, List.sublist_append_left _ _⟩
    · rw [if_neg fun z => h (inj _ _ z)]
      have ih := look_some ι inj (k := k) r2
      split at ih
      · rename_i d' e'
        obtain ⟨v', g, h1, h2, h3⟩ := ih
        exact ⟨v', g, by rw [valV_neg h]; exact h1, h2, h3.trans (List.sublist_append_right _ _)⟩
      · rename_i e'
        rw [valV_neg h]
        exact ih
/-- what stands at a key -/
theorem dget_ok {a : Addr} {k : Bool} {ks : List KT} {xs : List D} {vs : List V} {g : List Addr} {q : KT} {dk : D} {y : V} {f : List Addr} (hd : DictAt H a k ks vs) (r : RepL K B (· ∈ P) H xs vs g) (hk : keyK dk = some q) (rk : Rep K B (· ∈ P) H dk y f) (hq : q.kind = k) :
    match lookD ks xs q with
    | some d => ∃ v g', DGet H a y (some v) ∧ Rep K B (· ∈ P) H d v g' ∧ List.Sublist g' g
    | none => DGet H a y none := by
  rcases hd with ⟨rfl, kvs, ha, rfl, rfl⟩ | ⟨rfl, kvs, ha, rfl, rfl⟩
  · cases q with
    | inr q => cases hq
    | inl q =>
      have ev := keyK_l hk rk
      subst ev
      have ih := look_some Sum.inl (fun a b h => Sum.inl.inj h) (k := q) r
      split at ih
      · rename_i d e
        rw [e]
        obtain ⟨v, g', h1, h2, h3⟩ := ih
        exact ⟨v, g', h1 ▸ DGet.k ha, h2, h3⟩
      · rename_i e
        rw [e]
        exact ih ▸ DGet.k ha
  · cases q with
    | inl q => cases hq
    | inr q =>
      obtain ⟨b, rfl, hb⟩ := keyK_r hk rk
      have ih := look_some Sum.inr (fun a b h => Sum.inr.inj h) (k := q) r
      split at ih
      · rename_i d e
        rw [e]
        obtain ⟨v, g', h1, h2, h3⟩ := ih
        exact ⟨v, g', h1 ▸ DGet.t ha hb, h2, h3⟩
      · rename_i e
        rw [e]
        exact ih ▸ DGet.t ha hb
/-- {} -/
def eDict (k : Bool) (_ : SD) : Res D := .ok (.dct .own k [] [])
theorem newDict {Q : VK} {k : Bool} {o : HO} {pa : Addr} (h : Out K H0 B0 B H σ τ P F Q (.dct .own k [] [])) (I : SI K H0 B0 B H σ τ P F) (hp : H pa = none) (ho : DictAt (upd H pa o) pa k [] []) : Q (.ref pa) (upd H pa o) := by
  have s := sameUpd' (o := o) hp
  obtain ⟨n1, n2, n3, n4⟩ := I.newAt hp
  refine h (.ref pa) _ B [pa] (I.grow s) s (Same.refl _) ⟨pa, [], [], rfl, ho, ⟨rfl, rfl⟩, rfl⟩ ⟨by simp, fun a m => ?_⟩
  have e : a = pa := by simpa using m
  subst e
  exact ⟨n1, n2, (by rw [upd_same]; exact Option.some_ne_none _), n3, n4⟩
theorem q_dictT : PE X (.Dict [] [] pos) (tM X.K Y (eDict true)) := PE.imp pe_dnewT fun σ H Q ⟨H0, B0, B, τ, P, F, I, h⟩ p hp => newDict h I hp (.inr ⟨rfl, [], upd_same, rfl, rfl⟩)
theorem q_dictK : PE X (.Dict [] [] pos) (tM X.K Y (eDict false)) := PE.imp pe_dnewK fun σ H Q ⟨H0, B0, B, τ, P, F, I, h⟩ p hp => newDict h I hp (.inl ⟨rfl, [], upd_same, rfl, rfl⟩)
/-- k in d -/
def dinD (neg : Bool) (dk dd : D) : Res D := match dd with
  | .dct _ k ks vs => match keyK dk with
    | some q => if q.kind = k then .ok (.bl (xor neg (lookD ks vs q).isSome)) else .bad
    | none => .bad
  | _ => .bad
variable {o i : Expr} {fo fi : SD → Res D}
theorem dinD_ok {neg : Bool} {d1 d2 : D} {y x : V} {f1 f2 : List Addr} {Q : VK} (I : SI K H0 B0 B H σ τ P F) (r1 : Rep K B (· ∈ P) H d1 y f1) (r2 : Rep K B (· ∈ P) H d2 x f2) (h : Goal K Y H0 B0 B H σ τ P F Q (dinD neg d1 d2)) : ∃ a o, x = .ref a ∧ DGet H a y o ∧ Q (.bl (xor neg o.isSome)) H := by
  unfold dinD at h
  split at h
  · split at h
    · rename_i q hk
      split at h
      · rename_i hq
        obtain ⟨a, vs, g, rfl, hd, rl, _⟩ := r2.dc I
        have key := dget_ok hd rl hk r1 hq
        split at key
        · rename_i d e
          rw [e] at h
          obtain ⟨v, g', k1, k2, k3⟩ := key
          exact ⟨a, some v, rfl, k1, Out.here h I ⟨rfl, rfl⟩⟩
        · rename_i e
          rw [e] at h
          exact ⟨a, none, rfl, key, Out.here h I ⟨rfl, rfl⟩⟩
      · exact h.elim
    · exact h.elim
  · exact h.elim
theorem q_din (hu : X.A.units + 1 < cLine) (hi : PE X i (tM X.K Y fi)) (ho : PE X o (tM X.K Y fo)) (h1 : behindInMarks .In o = false := by rfl) : PE X (.Compare i [.In] [o] pos) (tM X.K Y (eBin (dinD false) fi fo)) :=
  PE.imp (pe_cmp (pc_din hu hi ho) h1) fun σ H Q ⟨H0, B0, B, τ, P, F, I, h⟩ => tM.seq2 I h fun d1 d2 v1 v2 H2 B2 f1 f2 _ _ I2 _ _ r1 r2 k h2 => by
    obtain ⟨a, o, e, g, q⟩ := dinD_ok I2 r1 r2 h2
    rw [Bool.false_xor] at q
    exact ⟨a, o, e, g, q⟩
theorem q_dnotin (hu : X.A.units + 1 < cLine) (hi : PE X i (tM X.K Y fi)) (ho : PE X o (tM X.K Y fo)) (h1 : behindInMarks .NotIn o = false := by rfl) : PE X (.Compare i [.NotIn] [o] pos) (tM X.K Y (eBin (dinD true) fi fo)) :=
  PE.imp (pe_cmp (pc_dnotin hu hi ho) h1) fun σ H Q ⟨H0, B0, B, τ, P, F, I, h⟩ => tM.seq2 I h fun d1 d2 v1 v2 H2 B2 f1 f2 _ _ I2 _ _ r1 r2 k h2 => by
    obtain ⟨a, o, e, g, q⟩ := dinD_ok I2 r1 r2 h2
    rw [Bool.true_xor] at q
    exact ⟨a, o, e, g, q⟩
theorem qt_din (hu : X.A.units + 1 < cLine) (hi : PE X i (tM X.K Y fi)) (ho : PE X o (tM X.K Y fo)) (h1 : behindInMarks .In o = false := by rfl) : PT X (.Compare i [.In] [o] pos) (tMB X.K Y (eT (eBin (dinD false) fi fo))) :=
  PT.imp (pt_cmp (pc_din hu hi ho) h1) fun σ H Q ⟨H0, B0, B, τ, P, F, I, h⟩ => tM.seq2 I (goalB_of h) fun d1 d2 v1 v2 H2 B2 f1 f2 _ _ I2 _ _ r1 r2 k h2 => by
    obtain ⟨a, o, e, g, q⟩ := dinD_ok I2 r1 r2 h2
    rw [Bool.false_xor] at q
    exact ⟨a, o, e, g, q⟩
theorem qt_dnotin (hu : X.A.units + 1 < cLine) (hi : PE X i (tM X.K Y fi)) (ho : PE X o (tM X.K Y fo)) (h1 : behindInMarks .NotIn o = false := by rfl) : PT X (.Compare i [.NotIn] [o] pos) (tMB X.K Y (eT (eBin (dinD true) fi fo))) :=
  PT.imp (pt_cmp (pc_dnotin hu hi ho) h1) fun σ H Q ⟨H0, B0, B, τ, P, F, I, h⟩ => tM.seq2 I (goalB_of h) fun d1 d2 v1 v2 H2 B2 f1 f2 _ _ I2 _ _ r1 r2 k h2 => by
    obtain ⟨a, o, e, g, q⟩ := dinD_ok I2 r1 r2 h2
    rw [Bool.true_xor] at q
    exact ⟨a, o, e, g, q⟩
/-- d[k] -/
def dgetD (dd dk : D) : Res D := match dd with
  | .dct _ k ks vs => match keyK dk with
    | some q => if q.kind = k then (match lookD ks vs q with | some d => .ok d | none => .bad) else .bad
    | none => .bad
  | _ => .bad
theorem q_dget (hu : X.A.units + 1 < cLine) (ho : PE X o (tM X.K Y fo)) (hi : PE X i (tM X.K Y fi)) (hs : NoSl i) : PE X (.Subscript o i pos) (tM X.K Y (eBin dgetD fo fi)) :=
  PE.imp (pe_dget hu ho hi hs) fun σ H Q ⟨H0, B0, B, τ, P, F, I, h⟩ => tM.seq2 I h fun d1 d2 v1 v2 H2 B2 f1 f2 _ _ I2 _ _ r1 r2 k h2 => by
    unfold dgetD at h2
    split at h2
    · split at h2
      · rename_i q hk
        split at h2
        · rename_i hq
          obtain ⟨a, vs, g, rfl, hd, rl, sg⟩ := r1.dc I2
          have key := dget_ok hd rl hk r2 hq
          split at key
          · rename_i d e
            rw [e] at h2
            obtain ⟨v, g', k1, k2, k3⟩ := key
            exact ⟨a, v, rfl, k1, Out.hereO h2 I2 k2 (k.left.sub (k3.trans sg))⟩
          · rename_i e
            rw [e] at h2
            exact h2.elim
        · exact h2.elim
      · exact h2.elim
    · exact h2.elim
/-- d.get(k, z) -/
def dget2D (dd dk dz : D) : Res D := match dd with
  | .dct _ k ks vs => match keyK dk with
    | some q => if q.kind = k then .ok ((lookD ks vs q).getD dz) else .bad
    | none => .bad
  | _ => .bad
def eGet2 (a b c : SD → Res D) (τ : SD) : Res D := (a τ).bind fun x => if isDc x = true then (b τ).bind fun y => (c τ).bind (dget2D x y) else .bad
theorem isD_of {a : Addr} {k : Bool} {ks : List KT} {vs : List V} (h : DictAt H a k ks vs) : IsD H a := by
  rcases h with ⟨_, kvs, h, _⟩ | ⟨_, kvs, h, _⟩
  · exact .inl ⟨kvs, .inl h⟩
  · exact .inr ⟨kvs, .inl h⟩
theorem q_dget2 {e f : Expr} {fe ff : SD → Res D} {apos cpos : Pos} (hu : X.A.units + 1 < cLine) (ho : PE X o (tM X.K Y fo)) (he : PE X e (tM X.K Y fe)) (hf : PE X f (tM X.K Y ff)) (m : M2 X o "get" apos e f cpos) : PE X (.Call (.Attribute o "get" apos) [e, f] [] cpos) (tM X.K Y (eGet2 fo fe ff)) := by
  refine PE.imp (pe_dget2 hu ho he hf m) fun σ H Q ⟨H0, B0, B, τ, P, F, I, h⟩ => ?_
  refine tM.seq (g := fun x => if isDc x = true then (fe τ).bind fun y => (ff τ).bind (dget2D x y) else .bad) I h fun d1 v1 H1 B1 fp1 _ I1 s1 b1 r1 k1 h1 => ?_
  by_cases hdc : isDc d1 = true
  · rw [if_pos hdc] at h1
    cases d1 with
    | dct t k ks xs =>
      obtain ⟨a, vs, g, rfl, hd, rl, sg⟩ := r1.dc I1
      refine ⟨a, rfl, isD_of hd, ?_⟩
      have I1h := I1.hold k1
      refine ⟨H0, B0, B1, τ, P, _, I1h, ?_⟩
      cases z : fe τ with
      | exn C => rw [z] at h1; exact OutX.later h1 (Same.refl _) (Same.refl _) fun a x => .inr x
      | bad => rw [z] at h1; exact h1
      | ok d2 =>
        rw [z] at h1
        intro v2 H2 B2 fp2 I2 s2 b2 r2 k2
        have I2h := I2.hold k2
        refine ⟨H0, B0, B2, τ, P, _, I2h, ?_⟩
        cases y : ff τ with
        | exn C => rw [y] at h1; exact OutX.later h1 s2 b2 fun a x => .inr (.inr x)
        | bad => rw [y] at h1; exact h1
        | ok d3 =>
          rw [y] at h1
          intro v3 H3 B3 fp3 I3 s3 b3 r3 k3
          have I4 := I3.anti (F' := F) fun a x => .inr (.inr x)
          have h4 : Goal X.K Y H0 B0 B3 H3 σ τ P F Q (dget2D (.dct t k ks xs) d2 d3) := Goal.later h1 (s2.trans s3) (b2.trans b3)
          have r14 := r1.mono (s2.trans s3) (b2.trans b3) fun _ x => x
          have r24 := r2.mono s3 b3 fun _ x => x
          have k3' : Vok H0 B3 H3 P F fp3 := ⟨k3.nd, fun a m => let ⟨a1, a2, a3, a4, a5⟩ := k3.own a m; ⟨a1, a2, a3, a4, fun z => a5 (.inr (.inr z))⟩⟩
          have k1' : Vok H0 B3 H3 P F fp1 := ⟨k1.nd, fun a m => let ⟨_, a2, _, a4, a5⟩ := k1.own a m; ⟨(I3.fr a (.inr (.inl m))).1, a2, (I3.fr a (.inr (.inl m))).2, a4, a5⟩⟩
          simp only [dget2D] at h4
          split at h4
          · rename_i q hk
            split at h4
            · rename_i hq
              obtain ⟨a', vs', g', e', hd', rl', sg'⟩ := r14.dc I4
              cases e'
              have key := dget_ok hd' rl' hk r24 hq
              split at key
              · rename_i d e
                rw [e] at h4
                obtain ⟨v, g'', q1, q2, q3⟩ := key
                exact ⟨some v, q1, Out.hereO h4 I4 q2 (k1'.sub (q3.trans sg'))⟩
              · rename_i e
                rw [e] at h4
                exact ⟨none, key, Out.hereO h4 I4 r3 k3'⟩
            · exact h4.elim
          · exact h4.elim
    | _ => cases hdc
  · rw [if_neg hdc] at h1; exact h1.elim
/-! ### d[k] = v, the dict in the slot i -/
def ownDc (τ : SD) (i : Nat) : Option (Bool × List KT × List D) := match τ[i]? with | some (some (.dct .own k ks xs)) => some (k, ks, xs) | _ => none
theorem ownDc_some {τ : SD} {i : Nat} {k : Bool} {ks : List KT} {xs : List D} (h : ownDc τ i = some (k, ks, xs)) : τ[i]? = some (some (.dct .own k ks xs)) := by
  unfold ownDc at h
  split at h
  · rename_i e; cases h; exact e
  · cases h
theorem hasK_map {κ : Type} [DecidableEq κ] (ι : κ → KT) (inj : ∀ a b, ι a = ι b → a = b) (k : κ) : ∀ kvs : List (κ × V), hasK (kvs.map fun p => ι p.1) (ι k) = kvs.any fun kv => decide (kv.1 = k)
  | [] => rfl
  | p :: r => by
    have ih := hasK_map ι inj k r
    unfold hasK at ih ⊢
    rw [List.map_cons, List.any_cons, List.any_cons, ih]
    congr 1
    by_cases h : p.1 = k
    · simp [h]
    · rw [decide_eq_false h, decide_eq_false fun z => h (inj _ _ z)]
theorem put_ok {κ : Type} [DecidableEq κ] (ι : κ → KT) (inj : ∀ a b, ι a = ι b → a = b) {kvs : List (κ × V)} {xs : List D} {f fp : List Addr} {k : κ} {d : D} {v : V} (r : RepL K B No H xs (kvs.map (·.2)) f) (rv : Rep K B No H d v fp) (hp : hasK (kvs.map fun p => ι p.1) (ι k) = true → d.pure = true) :
    putKs (kvs.map fun p => ι p.1) (ι k) = (putK kvs k v).map (fun p => ι p.1) ∧ ∃ f', RepL K B No H (putVs (kvs.map fun p => ι p.1) xs (ι k) d) ((putK kvs k v).map (·.2)) f' ∧ (∀ b ∈ f', b ∈ f ∨ b ∈ fp) ∧ (f.Nodup → fp.Nodup → (∀ b ∈ fp, b ∉ f) → f'.Nodup) := by
  unfold putKs putVs putK
  rw [hasK_map ι inj k kvs] at hp ⊢
  by_cases h : (kvs.any fun kv => decide (kv.1 = k)) = true
  · rw [if_pos h, if_pos h, if_pos h]
    have hpu := hp h
    have hfp : fp = [] := pure_fp.1 d hpu rv
    subst hfp
    refine ⟨?_, ?_⟩
    · rw [List.map_map]
      refine List.map_congr_left fun p _ => ?_
      show _ = ι (if p.1 = k then (p.1, v) else p).1
      split <;> rfl
    · have key : ∀ {kvs : List (κ × V)} {xs : List D} {f : List Addr}, RepL K B No H xs (kvs.map (·.2)) f → ∃ f', RepL K B No H (replD (kvs.map fun p => ι p.1) xs (ι k) d) ((kvs.map fun kv => if kv.1 = k then (kv.1, v) else kv).map (·.2)) f' ∧ List.Sublist f' f := by
        intro kvs
        induction kvs with
        | nil => intro xs f r; cases xs with
          | nil => exact ⟨f, r, List.Sublist.refl _⟩
          | cons x xs => obtain ⟨_, _, _, _, e, _⟩ := r; cases e
        | cons p kvs ih =>
          intro xs f r
          cases xs with
          | nil => obtain ⟨e, _⟩ := r; cases e
          | cons x xs =>
            obtain ⟨u, w, f1, f2, e, r1, r2, rfl⟩ := r
            rw [List.map_cons] at e
            cases e
            obtain ⟨g, h1, h2⟩ := ih r2
            rw [List.map_cons, List.map_cons, List.map_cons, replD]
            by_cases hk : p.1 = k
            · rw [if_pos hk, if_pos (congrArg ι hk)]
              exact ⟨g, ⟨v, _, [], g, rfl, rv, h1, rfl⟩, h2.trans (List.sublist_append_right _ _)⟩
            · rw [if_neg hk, if_neg fun z => hk (inj _ _ z)]
              exact ⟨f1 ++ g, ⟨_, _, f1, g, rfl, r1, h1, rfl⟩, List.Sublist.append (List.Sublist.refl _) h2⟩
      obtain ⟨g, h1, h2⟩ := key r
      exact ⟨g, h1, fun b m => .inl (h2.subset m), fun n _ _ => n.sublist h2⟩
  · rw [if_neg h, if_neg h, if_neg h]
    refine ⟨by rw [List.map_append]; rfl, f ++ fp, ?_, fun b m => List.mem_append.mp m, fun n1 n2 n3 => List.nodup_append.mpr ⟨n1, n2, fun a ha b hb e => n3 b hb (e ▸ ha)⟩⟩
    rw [List.map_append]
    exact r.append (RepL.one rv)
/-- the dict at its address is written -/
theorem SI.mutD {i : Nat} {k : Bool} {ks ks' : List KT} {xs xs' : List D} {gp : List Addr} {a : Addr} {o' : HO} (I : SI K H0 B0 B H σ τ P No) (hi : τ[i]? = some (some (.dct .own k ks xs))) (ev : σ[i]? = some (some (.ref a))) (kv : Vok H0 B H P No gp) (mu : ∃ o, H a = some o ∧ mutO o)
    (items : ∀ vs f, DictAt H a k ks vs → RepL K B No H xs vs f → ∃ vs' f', DictAt (upd H a o') a k ks' vs' ∧ RepL K B No H xs' vs' f' ∧ (∀ b ∈ f', b ∈ f ∨ b ∈ gp) ∧ (f.Nodup → (∀ b ∈ gp, b ∉ f) → f'.Nodup)) :
    ∃ P', Aft K H0 B0 B H B (upd H a o') σ (τ.set i (some (.dct .own k ks' xs'))) P' := by
  have hi' : i < τ.length := (List.getElem?_eq_some_iff.mp hi).1
  obtain ⟨A, f, C, e, h1, h2⟩ := I.rep.cut hi'
  obtain ⟨v, e1, r1⟩ := h1 _ hi
  rw [ev] at e1
  cases e1
  obtain ⟨a', ws, g, ea, hq, rl, ef⟩ := r1
  cases ea
  subst ef
  have nd0 := I.nd
  rw [e] at nd0
  have ndf : (a :: g).Nodup := (nd0.sublist (List.sublist_append_left _ _)).sublist (List.sublist_append_right _ _)
  have gdis : ∀ b ∈ gp, b ∉ a :: g := fun b m z => (kv.own b m).2.2.2.1 (by rw [e]; exact sublist_mid _ _ _ b z)
  obtain ⟨vs', f', dq', r', s', n'⟩ := items ws g hq rl
  obtain ⟨na, ng⟩ := List.nodup_cons.mp ndf
  have hna : a ∉ f' := fun m => (s' a m).elim na fun z => gdis a z List.mem_cons_self
  have es : σ.set i (some (.ref a)) = σ := by
    refine List.ext_getElem? fun k => ?_
    by_cases hk : k = i
    · subst hk
      rw [List.getElem?_set_self (List.getElem?_eq_some_iff.mp ev).1, ev]
    · rw [List.getElem?_set_ne (Ne.symm hk)]
  have kp : Keep H (upd H a o') [a] := ⟨fun b o h n => by rw [upd_ne (by simpa using n)]; exact h, fun b m => by
    have : b = a := by simpa using m
    subst this
    exact mu⟩
  have kpf : Keep H (upd H a o') (a :: g) := ⟨fun b o h n => kp.keep b o h (fun z => n (List.mem_cons.mpr (.inl (List.mem_singleton.mp z)))), fun b m => I.rep.own b (by rw [e]; exact sublist_mid _ _ _ b m)⟩
  have key := I.put (i := i) (H1 := upd H a o') (d' := .dct .own k ks' xs') (v' := .ref a) (f' := a :: f') hi' e h2 kpf ⟨a, vs', f', rfl, dq', r'.keep kp fun b m => by
      have : b ≠ a := fun z => hna (z ▸ m)
      simpa using this, rfl⟩ (List.nodup_cons.mpr ⟨hna, n' ng fun b m z => gdis b m (List.mem_cons_of_mem _ z)⟩) fun b m => ?_
  · rw [es] at key
    exact ⟨_, key, Same.refl _, fun b o h n => kp.imm h n⟩
  · rcases List.mem_cons.mp m with q | q
    · exact .inl (by simp [q])
    · rcases s' b q with z | z
      · exact .inl (List.mem_cons_of_mem _ z)
      · obtain ⟨a1, a2, a3, a4, a5⟩ := kv.own b z
        exact .inr (.inr ⟨a4, a1, a2, a5⟩)
/-- the value first, then the key -/
def sDput (i : Nat) (fk fv : SD → Res D) (τ : SD) : Fl := (fv τ).toFl τ fun d => match ownDc τ i with
  | some (k, ks, xs) => (fk τ).toFl τ fun dk => match keyK dk with
    | some q => if q.kind = k ∧ d.hasBor = false ∧ ks.length < 16777216 ∧ (hasK ks q = true → d.pure = true) then .nx (τ.set i (some (.dct .own k (putKs ks q) (putVs ks xs q d)))) else .bad
    | none => .bad
  | none => .bad
theorem s_dput (i : Nat) {x : Str} {p1 pos' : Pos} {ke value : Expr} {fk fv : SD → Res D} (hu : X.A.units + 1 < cLine) (hk : PE X ke (tM X.K Y fk)) (hv : PE X value (tM X.K Y fv)) (hN : X.N[i]? = some x := by rfl) (hvi : Vis X.env.scope x := by first | exact Or.inl rfl | exact Or.inr (Or.inl rfl) | exact Or.inr (Or.inr rfl)) (hd : (x == ("__debug__" : Str)) = false := by decide) (hcd : (x == ("__classdict__" : Str)) = false := by decide)
    (hs : swapsWith value (some (.Subscript (.Name x p1) ke pos')) pos.line X.env = pure false := by rfl) : PS X (.Assign [.Subscript (.Name x p1) ke pos'] value pos) (tMS X.K Y (sDput i fk fv)) := by
  refine PS.imp (ps_dput hu (pe_var hN hvi hd hcd) hk hv hs) fun E σ H ⟨H0, B0, B, τ, P, I, h⟩ => ?_
  refine exprS I h fun d v H1 B1 fp _ I1 s1 b1 r1 k1 h1 => ?_
  cases z : ownDc τ i with
  | none => rw [z] at h1; exact h1.elim
  | some t =>
    obtain ⟨k, ks, xs⟩ := t
    rw [z] at h1
    have hi := ownDc_some z
    obtain ⟨w, f, e1, r2, sf⟩ := I1.rep.get hi
    obtain ⟨a, ws, g, rfl, dq, rl, ef⟩ := r2
    refine ⟨.ref a, e1, ?_⟩
    refine ⟨H0, B0, B1, τ, P, _, I1.hold k1, ?_⟩
    simp only at h1
    cases y : fk τ with
    | exn C => rw [y] at h1; exact fun H2 B2 I2 s2 b2 => h1 B2 H2 σ P (Aft.grow (I2.anti fun _ x => x.elim) b2 s2)
    | bad => rw [y] at h1; exact h1
    | ok dk =>
      rw [y] at h1
      intro vk H2 B2 fq I2 s2 b2 rk kk
      have I3 : SI X.K H0 B0 B2 H2 σ τ P No := I2.anti fun _ x => x.elim
      have h2 := GoalS.later h1 (Aft.grow I3 b2 s2)
      simp only [Res.toFl] at h2
      cases hkk : keyK dk with
      | none => rw [hkk] at h2; exact h2.elim
      | some q =>
        rw [hkk] at h2
        simp only at h2
        split at h2
        · rename_i hc
          obtain ⟨c1, c2, c3, c4⟩ := hc
          have kv : Vok H0 B2 H2 P No fp := ⟨k1.nd, fun a m => let ⟨_, a2, _, a4, a5⟩ := k1.own a m; ⟨(I2.fr a (.inl m)).1, a2, (I2.fr a (.inl m)).2, a4, a5⟩⟩
          have rd := (r1.noBor c2).mono s2 b2 fun _ x => x
          have dq2 := dq.mono s2
          have rl2 := rl.mono s2 b2 fun _ x => x
          have mu : ∃ o, H2 a = some o ∧ mutO o := by
            rcases dq2 with ⟨_, kvs, q, _⟩ | ⟨_, kvs, q, _⟩
            · exact ⟨_, q, trivial⟩
            · exact ⟨_, q, trivial⟩
          rcases dq2 with ⟨rfl, kvs, ha, hks, hws⟩ | ⟨rfl, kvs, ha, hks, hws⟩
          · cases q with
            | inr q => cases c1
            | inl q =>
              have ev := keyK_l hkk rk
              subst ev
              subst hks hws
              obtain ⟨P', A'⟩ := I3.mutD (o' := .dK (putK kvs q v)) (ks' := putKs (kvs.map fun p => Sum.inl p.1) (.inl q)) (xs' := putVs (kvs.map fun p => Sum.inl p.1) xs (.inl q) d) hi e1 kv mu fun vs f hda hr => by
                rcases hda with ⟨_, kvs', q1, q2, q3⟩ | ⟨q0, _⟩
                · rw [ha] at q1
                  cases q1
                  subst q3
                  obtain ⟨p1, f', p2, p3, p4⟩ := put_ok Sum.inl (fun a b h => Sum.inl.inj h) (k := q) hr rd c4
                  exact ⟨_, f', .inl ⟨rfl, _, upd_same, p1, rfl⟩, p2, p3, fun n1 n2 => p4 n1 kv.nd n2⟩
                · cases q0
              exact ⟨a, _, rfl, DPut.k ha (by rw [sizeLine_eq]; simpa using c3), h2 B2 _ σ P' A'⟩
          · cases q with
            | inl q => cases c1
            | inr q =>
              obtain ⟨b, rfl, hb⟩ := keyK_r hkk rk
              subst hks hws
              obtain ⟨P', A'⟩ := I3.mutD (o' := .dT (putK kvs q v)) (ks' := putKs (kvs.map fun p => Sum.inr p.1) (.inr q)) (xs' := putVs (kvs.map fun p => Sum.inr p.1) xs (.inr q) d) hi e1 kv mu fun vs f hda hr => by
                rcases hda with ⟨q0, _⟩ | ⟨_, kvs', q1, q2, q3⟩
                · cases q0
                · rw [ha] at q1
                  cases q1
                  subst q3
                  obtain ⟨p1, f', p2, p3, p4⟩ := put_ok Sum.inr (fun a b h => Sum.inr.inj h) (k := q) hr rd c4
                  exact ⟨_, f', .inr ⟨rfl, _, upd_same, p1, rfl⟩, p2, p3, fun n1 n2 => p4 n1 kv.nd n2⟩
              exact ⟨a, _, rfl, DPut.t ha hb (by rw [sizeLine_eq]; simpa using c3), h2 B2 _ σ P' A'⟩
        · exact h2.elim
end
end DL
set_option Elab.async false
set_option linter.all false
set_option maxRecDepth 100000
set_option maxHeartbeats 4000000
/-! ### from the text to the law -/
namespace DL
open PySem PySem.Spec PyProof.Rows L2
section
variable {P : Program} {w : World} {K : PySem.W.Frag} {mg : Str → Option Value} {base : Heap}
theorem cal_bad {x : Str} {st : Stmt} {ps : List Str} {k : Nat} (D : Dfn K mg x st ps) : Cal P w K mg base k x ps (spF K fun _ => .bad) := by
  obtain ⟨f, fd, F, hm, hb⟩ := D.ex
  exact ⟨f, fd, hm, F.kp, hb, fun vs H Q E h => by obtain ⟨_, _, _, _, h⟩ := h; exact h.elim, fun A outer s H args us vs Q E hr he hbd hv h => by obtain ⟨_, _, _, _, h⟩ := h; exact h.elim⟩
theorem cal_of2 {x : Str} {st : Stmt} {N ps : List Str} {k n m : Nat} {g : SF} (D : Dfn K mg x st ps) (S : FnScope N ps (defScope st)) (hn : ps.length = n) (hm : N.length = m)
    (hbody : ∀ (f : Addr) (cdv : Value) (A : Around) (outer : List Env) (s : Shared) (H : Hp), Room k (A.deeper (envOfC x (defScope st) s.heap.objs.size f cdv)) →
      PSs (cxOf CX0 P w K mg base N x (defScope st) f cdv A outer s H E0).nox (defBody st) (tMS K (fun _ _ _ => False) g)) : Cal P w K mg base (k + 1) x ps (spF K (runF n m g)) := by
  subst hn hm
  exact cal_of D S hbody
theorem fnok_of2 {x : Str} {st : Stmt} {N ps : List Str} {k n m : Nat} {g : SF} {f : Addr} {fd : FuncData} (D : Fun K x x st f fd) (S : FnScope N ps (defScope st)) (hn : ps.length = n) (hm : N.length = m)
    (hbody : ∀ (f : Addr) (cdv : Value) (A : Around) (outer : List Env) (s : Shared) (H : Hp), Room k (A.deeper (envOfC x (defScope st) s.heap.objs.size f cdv)) →
      PSs (cxOf CX0 P w K mg base N x (defScope st) f cdv A outer s H E0).nox (defBody st) (tMS K (fun _ _ _ => False) g)) : FnOk P w K mg base CX0 (k + 1) f fd ps (spF K (runF n m g)) := by
  subst hn hm
  exact fnok_of D S hbody
theorem dfn_mk {h : Heap} {x : Str} {st : Stmt} {ps : List Str} {f : Addr} {oc : Value} {od an : Option Addr} {osl : Array (Option Value)} {kV doc pm cdv ct : Value} (KX : K.In h) (G : h.Ns mainGlobals mg) (a : PySem.W.nsIn K mainGlobals x = some (some (.ref f)))
    (l : K.lookup f = some ⟨oc, od, .func (PySem.W.fnOf x x (defArgs st) (defBody st) (defScope st) .none kV doc pm an cdv ct), osl⟩) (c : PySem.W.codeIn K cdv x = true) (k : PySem.W.keepIn K (.ref f) = true)
    (hb : ∀ (kV doc pm : Value) (an : Option Addr) (cdv ct : Value) (us : List Value), us.length = ps.length → bindArgs (PySem.W.fnOf x x (defArgs st) (defBody st) (defScope st) .none kV doc pm an cdv ct) ⟨us, []⟩ = pure (ps.zip us)) : Dfn K mg x st ps :=
  ⟨f, _, fun_mk l c k, PySem.W.mg_of KX G a, (fun_mk l c k).binds hb⟩
/-- the law's promise -/
theorem law_sp {G : DF} {H : Hp} {a : Addr} {ns : List Int} (hS : SqL K H a (ns.map V.int)) (h : G [.lst .frz (ns.map D.int)] = .ok (.bl true)) : spF K G [.ref a] H (fun v _ => v = .bl true) fun _ _ _ => False := by
  refine ⟨H, [.lst .frz (ns.map D.int)], Same.refl _, RepL.one ⟨a, _, rfl, hS, ints_repL ns, rfl⟩, ?_⟩
  rw [h]
  exact fun B' H' v fp r => r.rep.1
end
end DL
set_option Elab.async false
set_option linter.all false
set_option maxRecDepth 100000
set_option maxHeartbeats 4000000
namespace KL
open PySem PySem.Spec PyProof.Rows L2 DL
def top (i : Nat) : Stmt := PySem.Challenge.pw_modulewood_k01_nets_made.main.body.getD i (.Pass ⟨0, 0, 0, 0⟩)
structure Txt (mg : Str → Option Value) : Prop where
  b_bool : mg "bool" = none
  b_enumerate : mg "enumerate" = none
  b_int : mg "int" = none
  b_isinstance : mg "isinstance" = none
  b_len : mg "len" = none
  b_list : mg "list" = none
  b_max : mg "max" = none
  b_min : mg "min" = none
  b_range : mg "range" = none
  b_set : mg "set" = none
  b_sorted : mg "sorted" = none
  b_str : mg "str" = none
  b_tuple : mg "tuple" = none
  g_MOST_PLACES : ∃ t, mg "MOST_PLACES" = some (.int 24 t)
section
variable {P : Program} {w : World} {K : PySem.W.Frag} {mg : Str → Option Value} {base : Heap}
abbrev s_require_place : Stmt := top 7
theorem sc_require_place : FnScope ["places", "place"] ["places", "place"] (defScope s_require_place) := ⟨rfl, rfl, rfl, by decide +kernel, rfl, by decide +kernel, by decide +kernel⟩
def g_require_place : SF := sIf (eT (eBin (inD true) (eVar 1) (eVar 0))) sNever sNext
def G_require_place : DF := runF 2 2 g_require_place
theorem ok_require_place (T : Txt mg)  (F : Dfn K mg "require_place" s_require_place ["places", "place"]) : Cal P w K mg base 1 "require_place" ["places", "place"] (spF K G_require_place) := cal_of2 (k := 0) (n := 2) (m := 2) (g := g_require_place) F sc_require_place rfl rfl fun f cdv A outer s H hr => by
  have hu := hu_of hr
  exact ss_one (s_if (qt_cmp op_notIn_seq (d_in true) (qv 1) (qv 0) (by with_unfolding_all rfl))
        (ss_one s_never)
        (ss_nil))

abbrev s_require_two : Stmt := top 8
theorem sc_require_two : FnScope ["places", "one", "other"] ["places", "one", "other"] (defScope s_require_two) := ⟨rfl, rfl, rfl, by decide +kernel, rfl, by decide +kernel, by decide +kernel⟩
def g_require_two : SF := sSeq (sExpr (eCall G_require_place (aCons (eVar 0) (aCons (eVar 1) aNil)))) (sSeq (sExpr (eCall G_require_place (aCons (eVar 0) (aCons (eVar 2) aNil)))) (sIf (eT (eBin eqD (eVar 1) (eVar 2))) sNever sNext))
def G_require_two : DF := runF 3 3 g_require_two
theorem ok_require_two (T : Txt mg) (C_require_place : Cal P w K mg base 1 "require_place" ["places", "place"] (spF K G_require_place)) (F : Dfn K mg "require_two" s_require_two ["places", "one", "other"]) : Cal P w K mg base 2 "require_two" ["places", "one", "other"] (spF K G_require_two) := cal_of2 (k := 1) (n := 3) (m := 3) (g := g_require_two) F sc_require_two rfl rfl fun f cdv A outer s H hr => by
  have hu := hu_of hr
  exact ss_cons (s_expr (q_cal C_require_place (hr.mono (by decide)) rfl (qa_cons (qv 0) (qa_cons (qv 1) qa_nil))))
        (ss_cons (s_expr (q_cal C_require_place (hr.mono (by decide)) rfl (qa_cons (qv 0) (qa_cons (qv 2) qa_nil))))
        (ss_one (s_if (qt_cmp op_eq d_eq (qv 1) (qv 2) (nomark _))
        (ss_one s_never)
        (ss_nil))))

abbrev s_pair : Stmt := top 11
theorem sc_pair : FnScope ["one", "other"] ["one", "other"] (defScope s_pair) := ⟨rfl, rfl, rfl, by decide +kernel, rfl, by decide +kernel, by decide +kernel⟩
def g_pair : SF := sRet (eIf (eT (eBin gtD (eVar 0) (eVar 1))) (eA tupD (aCons (eVar 0) (aCons (eVar 1) aNil))) (eA tupD (aCons (eVar 1) (aCons (eVar 0) aNil))))
def G_pair : DF := runF 2 2 g_pair
theorem ok_pair (T : Txt mg)  (F : Dfn K mg "pair" s_pair ["one", "other"]) : Cal P w K mg base 1 "pair" ["one", "other"] (spF K G_pair) := cal_of2 (k := 0) (n := 2) (m := 2) (g := g_pair) F sc_pair rfl rfl fun f cdv A outer s H hr => by
  have hu := hu_of hr
  exact ss_one (s_ret (q_if (qt_cmp op_gt d_gt (qv 0) (qv 1) (nomark _)) (q_tup (qa_cons (qv 0) (qa_cons (qv 1) qa_nil))) (q_tup (qa_cons (qv 1) (qa_cons (qv 0) qa_nil)))))

abbrev s_net_with : Stmt := top 12
theorem sc_net_with : FnScope ["places", "colours", "rising", "rows", "i", "place"] ["places", "colours"] (defScope s_net_with) := ⟨rfl, rfl, rfl, by decide +kernel, rfl, by decide +kernel, by decide +kernel⟩
def g_net_with_e1 : SD → Res D := eGet2 (eVar 1) (eCall G_pair (aCons (eVar 2) (aCons (eVar 0) aNil))) (eC (.int 0))
def g_net_with_b2 : SF := sApp 3 (eA tupleD (aCons (eComp (eIt (eCut (eVar 2) eP0 (eP (eVar 4)))) (gN 0) bTrue g_net_with_e1 1 [("colours", 1), ("place", 5)]) aNil))
def g_net_with : SF := sSeq (sSet 2 (eA sortedD (aCons (eVar 0) aNil))) (sSeq (sSet 3 (eA lstD aNil)) (sSeq (sFor [2] (eEnum (aCons (eVar 2) aNil)) (gT 2 (gsCons 4 (gsCons 5 gsNil))) g_net_with_b2) (sRet (eA tupD (aCons (eA tupleD (aCons (eVar 2) aNil)) (aCons (eA tupleD (aCons (eVar 3) aNil)) aNil))))))
def G_net_with : DF := runF 2 6 g_net_with
theorem ok_net_with (T : Txt mg) (C_pair : Cal P w K mg base 1 "pair" ["one", "other"] (spF K G_pair)) (F : Dfn K mg "net_with" s_net_with ["places", "colours"]) : Cal P w K mg base 2 "net_with" ["places", "colours"] (spF K G_net_with) := cal_of2 (k := 1) (n := 2) (m := 6) (g := g_net_with) F sc_net_with rfl rfl fun f cdv A outer s H hr => by
  have hu := hu_of hr
  exact ss_cons (s_set (i := 2) sc_net_with.nd rfl (by first | exact Or.inl rfl | exact Or.inr rfl) (q_callB call_sorted d_sorted rfl T.b_sorted (by decide +kernel) (qa_cons (qv 0) qa_nil)))
        (ss_cons (s_set (i := 3) sc_net_with.nd rfl (by first | exact Or.inl rfl | exact Or.inr rfl) (q_lst qa_nil))
        (ss_cons (s_for [2] PassesOwn.never rfl (qi_enum rfl T.b_enumerate (qa_cons (qv 2) qa_nil)) (g_tup rfl (gs_cons (i := 4) sc_net_with.nd rfl (by first | exact Or.inl rfl | exact Or.inr rfl) (gs_cons (i := 5) sc_net_with.nd rfl (by first | exact Or.inl rfl | exact Or.inr rfl) gs_nil)))
        (ss_one (s_app 3 (q_callTy call_tuple_of d_tuple rfl T.b_tuple (by decide +kernel) (qa_cons (q_comp (own := ["ahead"]) (cap := [("colours", 1), ("place", 5)]) (compOk_mk _ rfl _ rfl (by kernel_rfl)) rfl (qi_seq (q_slice (qv 2) qo_none (qo_some (qv 4)))) ⟨fun _ _ _ _ _ => g_name (i := 0) (show (["ahead", "colours", "place"] : List Str).Nodup by decide +kernel) rfl (by first | exact Or.inl rfl | exact Or.inr rfl), fun _ _ _ _ _ => qif_nil, fun _ _ _ _ _ => q_dget2 hu (qv 1) (q_cal C_pair (hr.mono (by decide)) rfl (qa_cons (qv 2) (qa_cons (qv 0) qa_nil))) q_int ⟨rfl, rfl, rfl, rfl⟩⟩) qa_nil)))))
        (ss_one (s_ret (q_tup (qa_cons (q_callTy call_tuple_of d_tuple rfl T.b_tuple (by decide +kernel) (qa_cons (qv 2) qa_nil)) (qa_cons (q_callTy call_tuple_of d_tuple rfl T.b_tuple (by decide +kernel) (qa_cons (qv 3) qa_nil)) qa_nil)))))))

abbrev s_net_from : Stmt := top 13
theorem sc_net_from : FnScope ["places", "ties", "colours", "one", "other", "tint", "ends"] ["places", "ties"] (defScope s_net_from) := ⟨rfl, rfl, rfl, by decide +kernel, rfl, by decide +kernel, by decide +kernel⟩
def g_net_from_b1 : SF := sSeq (sExpr (eCall G_require_two (aCons (eVar 0) (aCons (eVar 3) (aCons (eVar 4) aNil))))) (sSeq (sSet 6 (eCall G_pair (aCons (eVar 3) (aCons (eVar 4) aNil)))) (sSeq (sIf (eT (eBin (dinD false) (eVar 6) (eVar 2))) sNever sNext) (sDput 2 (eVar 6) (eVar 5))))
def g_net_from : SF := sSeq (sIf (bOr (eT (eBin eqD (eA lenD (aCons (eVar 0) aNil)) (eC (.int 0)))) (eT (eBin gtD (eA lenD (aCons (eVar 0) aNil)) (eC (.int 24))))) sNever sNext) (sSeq (sIf (eT (eBin neD (eUn lenSetD (eVar 0)) (eA lenD (aCons (eVar 0) aNil)))) sNever sNext) (sSeq (sSet 2 (eDict true)) (sSeq (sFor [1] (eIt (eVar 1)) (gT 3 (gsCons 3 (gsCons 4 (gsCons 5 gsNil)))) g_net_from_b1) (sRet (eCall G_net_with (aCons (eVar 0) (aCons (eVar 2) aNil)))))))
def G_net_from : DF := runF 2 7 g_net_from
theorem ok_net_from (T : Txt mg) (C_require_two : Cal P w K mg base 2 "require_two" ["places", "one", "other"] (spF K G_require_two)) (C_pair : Cal P w K mg base 1 "pair" ["one", "other"] (spF K G_pair)) (C_net_with : Cal P w K mg base 2 "net_with" ["places", "colours"] (spF K G_net_with)) (F : Dfn K mg "net_from" s_net_from ["places", "ties"]) : Cal P w K mg base 3 "net_from" ["places", "ties"] (spF K G_net_from) := cal_of2 (k := 2) (n := 2) (m := 7) (g := g_net_from) F sc_net_from rfl rfl fun f cdv A outer s H hr => by
  have hu := hu_of hr
  exact ss_cons (s_if (L2.PW.pt (qw_or (qt_cmp op_eq d_eq (q_callB call_lenA d_len rfl T.b_len PySem.boot_len (qa_cons (qv 0) qa_nil)) q_int (nomark _)) (qw_or1 (qt_cmp op_gt d_gt (q_callB call_lenA d_len rfl T.b_len PySem.boot_len (qa_cons (qv 0) qa_nil)) (q_gint rfl T.g_MOST_PLACES) (nomark _)))))
        (ss_one s_never)
        (ss_nil))
        (ss_cons (s_if (qt_cmp op_ne d_ne (q_lenSet rfl T.b_len rfl T.b_set rfl (qv 0)) (q_callB call_lenA d_len rfl T.b_len PySem.boot_len (qa_cons (qv 0) qa_nil)) (nomark _))
        (ss_one s_never)
        (ss_nil))
        (ss_cons (s_set (i := 2) sc_net_from.nd rfl (by first | exact Or.inl rfl | exact Or.inr rfl) q_dictT)
        (ss_cons (s_for [1] PassesOwn.never rfl (qi_seq (qv 1)) (g_tup rfl (gs_cons (i := 3) sc_net_from.nd rfl (by first | exact Or.inl rfl | exact Or.inr rfl) (gs_cons (i := 4) sc_net_from.nd rfl (by first | exact Or.inl rfl | exact Or.inr rfl) (gs_cons (i := 5) sc_net_from.nd rfl (by first | exact Or.inl rfl | exact Or.inr rfl) gs_nil))))
        (ss_cons (s_expr (q_cal C_require_two (hr.mono (by decide)) rfl (qa_cons (qv 0) (qa_cons (qv 3) (qa_cons (qv 4) qa_nil)))))
        (ss_cons (s_set (i := 6) sc_net_from.nd rfl (by first | exact Or.inl rfl | exact Or.inr rfl) (q_cal C_pair (hr.mono (by decide)) rfl (qa_cons (qv 3) (qa_cons (qv 4) qa_nil))))
        (ss_cons (s_if (qt_din hu (qv 6) (qv 2))
        (ss_one s_never)
        (ss_nil))
        (ss_one (s_dput 2 hu (qv 6) (qv 5)))))))
        (ss_one (s_ret (q_cal C_net_with (hr.mono (by decide)) rfl (qa_cons (qv 0) (qa_cons (qv 2) qa_nil))))))))

abbrev s__law_cell : Stmt := top 15
theorem sc__law_cell : FnScope ["_law_script", "_law_k"] ["_law_script", "_law_k"] (defScope s__law_cell) := ⟨rfl, rfl, rfl, by decide +kernel, rfl, by decide +kernel, by decide +kernel⟩
def g__law_cell : SF := sSeq (sIf (eT (eBin ltD (eVar 1) (eA lenD (aCons (eVar 0) aNil)))) (sRet (eBin ixD (eVar 0) (eVar 1))) sNext) (sRet (eC (.int 0)))
def G__law_cell : DF := runF 2 2 g__law_cell
theorem ok__law_cell (T : Txt mg)  (F : Dfn K mg "_law_cell" s__law_cell ["_law_script", "_law_k"]) : Cal P w K mg base 1 "_law_cell" ["_law_script", "_law_k"] (spF K G__law_cell) := cal_of2 (k := 0) (n := 2) (m := 2) (g := g__law_cell) F sc__law_cell rfl rfl fun f cdv A outer s H hr => by
  have hu := hu_of hr
  exact ss_cons (s_if (qt_cmp op_lt d_lt (qv 1) (q_callB call_lenA d_len rfl T.b_len PySem.boot_len (qa_cons (qv 0) qa_nil)) (nomark _))
        (ss_one (s_ret (q_ix ix_seq d_ix (qv 0) (qv 1) (fun _ _ => rfl))))
        (ss_nil))
        (ss_one (s_ret q_int))

abbrev s__law_like : Stmt := top 16
theorem sc__law_like : FnScope ["_law_found", "_law_due", "_law_k"] ["_law_found", "_law_due"] (defScope s__law_like) := ⟨rfl, rfl, rfl, by decide +kernel, rfl, by decide +kernel, by decide +kernel⟩
def g__law_like_b1 (R__law_like : DF) : SF := sIf (bNot (eT (eCall R__law_like (aCons (eBin ixD (eVar 0) (eVar 2)) (aCons (eBin ixD (eVar 1) (eVar 2)) aNil))))) (sRet (eC (.bl false))) sNext
def g__law_like (R__law_like : DF) : SF := sSeq (sIf (eT (eBin (isND false) (eVar 1) (eC .non))) (sRet (eBin (isND false) (eVar 0) (eC .non))) sNext) (sSeq (sIf (eT (eUn (instD isB) (eVar 1))) (sRet (eAnd (eUn (instD isB) (eVar 0)) (eBin eqD (eVar 0) (eVar 1)))) sNext) (sSeq (sIf (eT (eUn (instD isI) (eVar 1))) (sRet (eAnd (eUn (instD isI) (eVar 0)) (eAnd (eNot (eUn (instD isB) (eVar 0))) (eBin eqD (eVar 0) (eVar 1))))) sNext) (sSeq (sIf (eT (eUn (instD isS) (eVar 1))) (sRet (eAnd (eUn (instD isS) (eVar 0)) (eBin eqD (eVar 0) (eVar 1)))) sNext) (sSeq (sIf (bAnd (eT (eUn (instD isL) (eVar 1))) (bNot (eT (eUn (instD isL) (eVar 0))))) (sRet (eC (.bl false))) sNext) (sSeq (sIf (bAnd (eT (eUn (instD isTp) (eVar 1))) (bNot (eT (eUn (instD isTp) (eVar 0))))) (sRet (eC (.bl false))) sNext) (sSeq (sIf (eT (eBin neD (eA lenD (aCons (eVar 0) aNil)) (eA lenD (aCons (eVar 1) aNil)))) (sRet (eC (.bl false))) sNext) (sSeq (sFor [] (eRng1 (aCons (eA lenD (aCons (eVar 1) aNil)) aNil)) (gN 2) ((g__law_like_b1 R__law_like))) (sRet (eC (.bl true))))))))))
def G__law_like : Nat → DF
  | 0 => fun _ => .bad
  | n + 1 => runF 2 3 (g__law_like (G__law_like n))
theorem ok__law_like (T : Txt mg)  (F : Dfn K mg "_law_like" s__law_like ["_law_found", "_law_due"]) : ∀ n : Nat, Cal P w K mg base (n + 1) "_law_like" ["_law_found", "_law_due"] (spF K (G__law_like n))
  | 0 => cal_bad F
  | n + 1 => cal_of2 (k := n + 1) (n := 2) (m := 3) (g := g__law_like (G__law_like n)) F sc__law_like rfl rfl fun f cdv A outer s H hr => by
    have C__law_like := ok__law_like T  F n
    have hu := hu_of hr
    exact ss_cons (s_if (qt_cmp op_isN d_isN (qv 1) q_non (nomark _))
        (ss_one (s_ret (q_cmp op_isN d_isN (qv 0) q_non (nomark _))))
        (ss_nil))
        (ss_cons (s_if (qt_val (q_inst (ty := .Name "bool" ⟨0, 0, 0, 0⟩) inst_bool rfl T.b_isinstance (qv 1) rfl T.b_bool (by decide +kernel)))
        (ss_one (s_ret (q_and (q_inst (ty := .Name "bool" ⟨0, 0, 0, 0⟩) inst_bool rfl T.b_isinstance (qv 0) rfl T.b_bool (by decide +kernel)) (q_one (q_cmp op_eq d_eq (qv 0) (qv 1) (nomark _))))))
        (ss_nil))
        (ss_cons (s_if (qt_val (q_inst (ty := .Name "int" ⟨0, 0, 0, 0⟩) inst_int rfl T.b_isinstance (qv 1) rfl T.b_int (by decide +kernel)))
        (ss_one (s_ret (q_and (q_inst (ty := .Name "int" ⟨0, 0, 0, 0⟩) inst_int rfl T.b_isinstance (qv 0) rfl T.b_int (by decide +kernel)) (q_and (q_not (q_inst (ty := .Name "bool" ⟨0, 0, 0, 0⟩) inst_bool rfl T.b_isinstance (qv 0) rfl T.b_bool (by decide +kernel))) (q_one (q_cmp op_eq d_eq (qv 0) (qv 1) (nomark _)))))))
        (ss_nil))
        (ss_cons (s_if (qt_val (q_inst (ty := .Name "str" ⟨0, 0, 0, 0⟩) inst_str rfl T.b_isinstance (qv 1) rfl T.b_str (by decide +kernel)))
        (ss_one (s_ret (q_and (q_inst (ty := .Name "str" ⟨0, 0, 0, 0⟩) inst_str rfl T.b_isinstance (qv 0) rfl T.b_str (by decide +kernel)) (q_one (q_cmp op_eq d_eq (qv 0) (qv 1) (nomark _))))))
        (ss_nil))
        (ss_cons (s_if (L2.PW.pt (qw_and (qt_val (q_inst (ty := .Name "list" ⟨0, 0, 0, 0⟩) inst_list rfl T.b_isinstance (qv 1) rfl T.b_list (by decide +kernel))) (qw_and1 (qt_not (qt_val (q_inst (ty := .Name "list" ⟨0, 0, 0, 0⟩) inst_list rfl T.b_isinstance (qv 0) rfl T.b_list (by decide +kernel)))))))
        (ss_one (s_ret q_bl))
        (ss_nil))
        (ss_cons (s_if (L2.PW.pt (qw_and (qt_val (q_inst (ty := .Name "tuple" ⟨0, 0, 0, 0⟩) inst_tuple rfl T.b_isinstance (qv 1) rfl T.b_tuple (by decide +kernel))) (qw_and1 (qt_not (qt_val (q_inst (ty := .Name "tuple" ⟨0, 0, 0, 0⟩) inst_tuple rfl T.b_isinstance (qv 0) rfl T.b_tuple (by decide +kernel)))))))
        (ss_one (s_ret q_bl))
        (ss_nil))
        (ss_cons (s_if (qt_cmp op_ne d_ne (q_callB call_lenA d_len rfl T.b_len PySem.boot_len (qa_cons (qv 0) qa_nil)) (q_callB call_lenA d_len rfl T.b_len PySem.boot_len (qa_cons (qv 1) qa_nil)) (nomark _))
        (ss_one (s_ret q_bl))
        (ss_nil))
        (ss_cons (s_for [] PassesOwn.never rfl (qi_range1 rfl T.b_range (qa_cons (q_callB call_lenA d_len rfl T.b_len PySem.boot_len (qa_cons (qv 1) qa_nil)) qa_nil)) (g_name (i := 2) sc__law_like.nd rfl (by first | exact Or.inl rfl | exact Or.inr rfl))
        (ss_one (s_if (qt_not (qt_val (q_cal C__law_like (hr.mono (by omega)) rfl (qa_cons (q_ix ix_seq d_ix (qv 0) (qv 2) (fun _ _ => rfl)) (qa_cons (q_ix ix_seq d_ix (qv 1) (qv 2) (fun _ _ => rfl)) qa_nil)))))
        (ss_one (s_ret q_bl))
        (ss_nil))))
        (ss_one (s_ret q_bl)))))))))

abbrev s__law_many : Stmt := top 17
theorem sc__law_many : FnScope ["_law_cell_here"] ["_law_cell_here"] (defScope s__law_many) := ⟨rfl, rfl, rfl, by decide +kernel, rfl, by decide +kernel, by decide +kernel⟩
def g__law_many : SF := sSeq (sIf (eT (eBin eqD (eBin modD (eBin fdivD (eVar 0) (eC (.int 9))) (eC (.int 8))) (eC (.int 1)))) (sRet (eBin addD (eC (.int 1)) (eBin modD (eBin fdivD (eVar 0) (eC (.int 72))) (eC (.int 24))))) sNext) (sRet (eBin addD (eC (.int 1)) (eBin modD (eVar 0) (eC (.int 9)))))
def G__law_many : DF := runF 1 1 g__law_many
theorem ok__law_many (T : Txt mg)  (F : Dfn K mg "_law_many" s__law_many ["_law_cell_here"]) : Cal P w K mg base 1 "_law_many" ["_law_cell_here"] (spF K G__law_many) := cal_of2 (k := 0) (n := 1) (m := 1) (g := g__law_many) F sc__law_many rfl rfl fun f cdv A outer s H hr => by
  have hu := hu_of hr
  exact ss_cons (s_if (qt_cmp op_eq d_eq (q_op op_mod d_mod (q_op op_fdiv d_fdiv (qv 0) q_int) q_int) q_int (nomark _))
        (ss_one (s_ret (q_op op_addA d_add q_int (q_op op_mod d_mod (q_op op_fdiv d_fdiv (qv 0) q_int) q_int))))
        (ss_nil))
        (ss_one (s_ret (q_op op_addA d_add q_int (q_op op_mod d_mod (qv 0) q_int))))

abbrev s__law_mix : Stmt := top 18
theorem sc__law_mix : FnScope ["_law_script", "_law_at", "_law_k", "_law_many_here"] ["_law_script", "_law_at", "_law_k"] (defScope s__law_mix) := ⟨rfl, rfl, rfl, by decide +kernel, rfl, by decide +kernel, by decide +kernel⟩
def g__law_mix : SF := sSeq (sSet 3 (eA max2D (aCons (eC (.int 1)) (aCons (eBin subD (eA lenD (aCons (eVar 0) aNil)) (eVar 1)) aNil)))) (sRet (eBin modD (eBin addD (eBin addD (eBin mulD (eCall G__law_cell (aCons (eVar 0) (aCons (eBin addD (eVar 1) (eBin modD (eVar 2) (eVar 3))) aNil))) (eC (.int 48271))) (eBin mulD (eVar 2) (eC (.int 16807)))) (eC (.int 11))) (eC (.int 2147483647))))
def G__law_mix : DF := runF 3 4 g__law_mix
theorem ok__law_mix (T : Txt mg) (C__law_cell : Cal P w K mg base 1 "_law_cell" ["_law_script", "_law_k"] (spF K G__law_cell)) (F : Dfn K mg "_law_mix" s__law_mix ["_law_script", "_law_at", "_law_k"]) : Cal P w K mg base 2 "_law_mix" ["_law_script", "_law_at", "_law_k"] (spF K G__law_mix) := cal_of2 (k := 1) (n := 3) (m := 4) (g := g__law_mix) F sc__law_mix rfl rfl fun f cdv A outer s H hr => by
  have hu := hu_of hr
  exact ss_cons (s_set (i := 3) sc__law_mix.nd rfl (by first | exact Or.inl rfl | exact Or.inr rfl) (q_callB (call_max2 rfl) d_max2 rfl T.b_max (by decide +kernel) (qa_cons q_int (qa_cons (q_op op_sub d_sub (q_callB call_lenA d_len rfl T.b_len PySem.boot_len (qa_cons (qv 0) qa_nil)) (qv 1)) qa_nil))))
        (ss_one (s_ret (q_op op_mod d_mod (q_op op_addA d_add (q_op op_addA d_add (q_op op_mulD d_mul (q_cal C__law_cell (hr.mono (by decide)) rfl (qa_cons (qv 0) (qa_cons (q_op op_addA d_add (qv 1) (q_op op_mod d_mod (qv 2) (qv 3))) qa_nil))) q_int) (q_op op_mulD d_mul (qv 2) q_int)) q_int) q_int)))

abbrev s__law_places : Stmt := top 19
theorem sc__law_places : FnScope ["_law_script", "_law_at", "_law_many_here", "_law_head", "_law_step", "_law_number", "_law_places_here", "_law_k"] ["_law_script", "_law_at", "_law_many_here"] (defScope s__law_places) := ⟨rfl, rfl, rfl, by decide +kernel, rfl, by decide +kernel, by decide +kernel⟩
def g__law_places_b1 : SF := sSeq (sApp 6 (eVar 5)) (sSet 5 (eBin addD (eBin addD (eVar 5) (eC (.int 1))) (eBin modD (eBin fdivD (eVar 4) (eBin addD (eVar 7) (eC (.int 1)))) (eBin ixD (eA lstD (aCons (eC (.int 1)) (aCons (eC (.int 3)) (aCons (eBin powD (eC (.int 10)) (eC (.int 29))) aNil)))) (eBin modD (eVar 4) (eC (.int 3)))))))
def g__law_places : SF := sSeq (sSet 3 (eCall G__law_cell (aCons (eVar 0) (aCons (eVar 1) aNil)))) (sSeq (sSet 4 (eCall G__law_cell (aCons (eVar 0) (aCons (eBin addD (eVar 1) (eC (.int 1))) aNil)))) (sSeq (sSet 5 (eBin modD (eBin fdivD (eVar 3) (eC (.int 2))) (eC (.int 4)))) (sSeq (sIf (eT (eBin eqD (eBin modD (eVar 3) (eC (.int 2))) (eC (.int 1)))) (sSet 5 (eBin modD (eBin fdivD (eVar 3) (eC (.int 2))) (eBin mulD (eBin powD (eC (.int 10)) (eC (.int 64))) (eBin powD (eC (.int 10)) (eC (.int 64)))))) sNext) (sSeq (sSet 6 (eA lstD aNil)) (sSeq (sFor [] (eRng1 (aCons (eVar 2) aNil)) (gN 7) g__law_places_b1) (sRetV 6))))))
def G__law_places : DF := runF 3 8 g__law_places
theorem ok__law_places (T : Txt mg) (C__law_cell : Cal P w K mg base 1 "_law_cell" ["_law_script", "_law_k"] (spF K G__law_cell)) (F : Dfn K mg "_law_places" s__law_places ["_law_script", "_law_at", "_law_many_here"]) : Cal P w K mg base 2 "_law_places" ["_law_script", "_law_at", "_law_many_here"] (spF K G__law_places) := cal_of2 (k := 1) (n := 3) (m := 8) (g := g__law_places) F sc__law_places rfl rfl fun f cdv A outer s H hr => by
  have hu := hu_of hr
  exact ss_cons (s_set (i := 3) sc__law_places.nd rfl (by first | exact Or.inl rfl | exact Or.inr rfl) (q_cal C__law_cell (hr.mono (by decide)) rfl (qa_cons (qv 0) (qa_cons (qv 1) qa_nil))))
        (ss_cons (s_set (i := 4) sc__law_places.nd rfl (by first | exact Or.inl rfl | exact Or.inr rfl) (q_cal C__law_cell (hr.mono (by decide)) rfl (qa_cons (qv 0) (qa_cons (q_op op_addA d_add (qv 1) q_int) qa_nil))))
        (ss_cons (s_set (i := 5) sc__law_places.nd rfl (by first | exact Or.inl rfl | exact Or.inr rfl) (q_op op_mod d_mod (q_op op_fdiv d_fdiv (qv 3) q_int) q_int))
        (ss_cons (s_if (qt_cmp op_eq d_eq (q_op op_mod d_mod (qv 3) q_int) q_int (nomark _))
        (ss_one (s_set (i := 5) sc__law_places.nd rfl (by first | exact Or.inl rfl | exact Or.inr rfl) (q_op op_mod d_mod (q_op op_fdiv d_fdiv (qv 3) q_int) (q_op op_mulD d_mul (q_op op_pow d_pow q_int q_int) (q_op op_pow d_pow q_int q_int)))))
        (ss_nil))
        (ss_cons (s_set (i := 6) sc__law_places.nd rfl (by first | exact Or.inl rfl | exact Or.inr rfl) (q_lst qa_nil))
        (ss_cons (s_for [] PassesOwn.never rfl (qi_range1 rfl T.b_range (qa_cons (qv 2) qa_nil)) (g_name (i := 7) sc__law_places.nd rfl (by first | exact Or.inl rfl | exact Or.inr rfl))
        (ss_cons (s_app 6 (qv 5))
        (ss_one (s_set (i := 5) sc__law_places.nd rfl (by first | exact Or.inl rfl | exact Or.inr rfl) (q_op op_addA d_add (q_op op_addA d_add (qv 5) q_int) (q_op op_mod d_mod (q_op op_fdiv d_fdiv (qv 4) (q_op op_addA d_add (qv 7) q_int)) (q_ix ix_seq d_ix (q_lst (qa_cons q_int (qa_cons q_int (qa_cons (q_op op_pow d_pow q_int q_int) qa_nil)))) (q_op op_mod d_mod (qv 4) q_int) (fun _ _ => rfl))))))))
        (ss_one (s_retV 6)))))))

abbrev s__law_shade : Stmt := top 20
theorem sc__law_shade : FnScope ["_law_script", "_law_at", "_law_k", "_law_j", "_law_head", "_law_blocks", "_law_one", "_law_other", "_law_number", "_law_shades"] ["_law_script", "_law_at", "_law_k", "_law_j"] (defScope s__law_shade) := ⟨rfl, rfl, rfl, by decide +kernel, rfl, by decide +kernel, by decide +kernel⟩
def g__law_shade : SF := sSeq (sSet 4 (eCall G__law_cell (aCons (eVar 0) (aCons (eBin addD (eVar 1) (eC (.int 2))) aNil)))) (sSeq (sSet 5 (eBin addD (eC (.int 1)) (eBin modD (eBin fdivD (eVar 4) (eC (.int 4))) (eC (.int 4))))) (sSeq (sSet 6 (eBin modD (eBin fdivD (eCall G__law_mix (aCons (eVar 0) (aCons (eBin addD (eVar 1) (eC (.int 4))) (aCons (eBin addD (eC (.int 300)) (eVar 2)) aNil)))) (eC (.int 3))) (eVar 5))) (sSeq (sSet 7 (eBin modD (eBin fdivD (eCall G__law_mix (aCons (eVar 0) (aCons (eBin addD (eVar 1) (eC (.int 4))) (aCons (eBin addD (eC (.int 300)) (eVar 3)) aNil)))) (eC (.int 3))) (eVar 5))) (sSeq (sSet 8 (eBin fdivD (eCall G__law_mix (aCons (eVar 0) (aCons (eBin addD (eVar 1) (eC (.int 4))) (aCons (eBin addD (eBin fdivD (eBin mulD (eVar 2) (eBin subD (eVar 2) (eC (.int 1)))) (eC (.int 2))) (eVar 3)) aNil)))) (eC (.int 5)))) (sSeq (sIf (bAnd (eT (eBin ltD (eBin modD (eVar 4) (eC (.int 4))) (eC (.int 2)))) (eT (eBin neD (eVar 6) (eVar 7)))) (sSet 8 (eBin fdivD (eCall G__law_mix (aCons (eVar 0) (aCons (eBin addD (eVar 1) (eC (.int 4))) (aCons (eBin addD (eBin addD (eC (.int 400)) (eBin mulD (eC (.int 4)) (eA max2D (aCons (eVar 6) (aCons (eVar 7) aNil))))) (eA min2D (aCons (eVar 6) (aCons (eVar 7) aNil)))) aNil)))) (eC (.int 5)))) sNext) (sSeq (sIf (bAnd (eT (eBin eqD (eBin modD (eVar 4) (eC (.int 4))) (eC (.int 1)))) (eT (eBin eqD (eBin addD (eBin fdivD (eBin mulD (eVar 2) (eBin subD (eVar 2) (eC (.int 1)))) (eC (.int 2))) (eVar 3)) (eBin modD (eBin fdivD (eVar 4) (eC (.int 32))) (eC (.int 36)))))) (sSet 8 (eBin addD (eVar 8) (eC (.int 1)))) sNext) (sSeq (sIf (bAnd (eT (eBin eqD (eBin modD (eVar 4) (eC (.int 4))) (eC (.int 2)))) (eT (eBin eqD (eBin modD (eBin fdivD (eVar 4) (eC (.int 4))) (eC (.int 2))) (eC (.int 1))))) (sRet (eBin modD (eVar 8) (eBin powD (eC (.int 10)) (eC (.int 8))))) sNext) (sSeq (sSet 9 (eA lstD (aCons (eC (.int 0)) (aCons (eBin addD (eC (.int 1)) (eBin modD (eCall G__law_cell (aCons (eVar 0) (aCons (eBin addD (eVar 1) (eC (.int 3))) aNil))) (eBin mulD (eBin powD (eC (.int 10)) (eC (.int 64))) (eBin powD (eC (.int 10)) (eC (.int 64)))))) (aCons (eBin modD (eBin fdivD (eCall G__law_cell (aCons (eVar 0) (aCons (eBin addD (eVar 1) (eC (.int 3))) aNil))) (eC (.int 9))) (eC (.int 5))) aNil))))) (sRet (eBin ixD (eVar 9) (eBin modD (eVar 8) (eBin addD (eC (.int 2)) (eBin modD (eBin fdivD (eVar 4) (eC (.int 16))) (eC (.int 2)))))))))))))))
def G__law_shade : DF := runF 4 10 g__law_shade
theorem ok__law_shade (T : Txt mg) (C__law_cell : Cal P w K mg base 1 "_law_cell" ["_law_script", "_law_k"] (spF K G__law_cell)) (C__law_mix : Cal P w K mg base 2 "_law_mix" ["_law_script", "_law_at", "_law_k"] (spF K G__law_mix)) (F : Dfn K mg "_law_shade" s__law_shade ["_law_script", "_law_at", "_law_k", "_law_j"]) : Cal P w K mg base 3 "_law_shade" ["_law_script", "_law_at", "_law_k", "_law_j"] (spF K G__law_shade) := cal_of2 (k := 2) (n := 4) (m := 10) (g := g__law_shade) F sc__law_shade rfl rfl fun f cdv A outer s H hr => by
  have hu := hu_of hr
  exact ss_cons (s_set (i := 4) sc__law_shade.nd rfl (by first | exact Or.inl rfl | exact Or.inr rfl) (q_cal C__law_cell (hr.mono (by decide)) rfl (qa_cons (qv 0) (qa_cons (q_op op_addA d_add (qv 1) q_int) qa_nil))))
        (ss_cons (s_set (i := 5) sc__law_shade.nd rfl (by first | exact Or.inl rfl | exact Or.inr rfl) (q_op op_addA d_add q_int (q_op op_mod d_mod (q_op op_fdiv d_fdiv (qv 4) q_int) q_int)))
        (ss_cons (s_set (i := 6) sc__law_shade.nd rfl (by first | exact Or.inl rfl | exact Or.inr rfl) (q_op op_mod d_mod (q_op op_fdiv d_fdiv (q_cal C__law_mix (hr.mono (by decide)) rfl (qa_cons (qv 0) (qa_cons (q_op op_addA d_add (qv 1) q_int) (qa_cons (q_op op_addA d_add q_int (qv 2)) qa_nil)))) q_int) (qv 5)))
        (ss_cons (s_set (i := 7) sc__law_shade.nd rfl (by first | exact Or.inl rfl | exact Or.inr rfl) (q_op op_mod d_mod (q_op op_fdiv d_fdiv (q_cal C__law_mix (hr.mono (by decide)) rfl (qa_cons (qv 0) (qa_cons (q_op op_addA d_add (qv 1) q_int) (qa_cons (q_op op_addA d_add q_int (qv 3)) qa_nil)))) q_int) (qv 5)))
        (ss_cons (s_set (i := 8) sc__law_shade.nd rfl (by first | exact Or.inl rfl | exact Or.inr rfl) (q_op op_fdiv d_fdiv (q_cal C__law_mix (hr.mono (by decide)) rfl (qa_cons (qv 0) (qa_cons (q_op op_addA d_add (qv 1) q_int) (qa_cons (q_op op_addA d_add (q_op op_fdiv d_fdiv (q_op op_mulD d_mul (qv 2) (q_op op_sub d_sub (qv 2) q_int)) q_int) (qv 3)) qa_nil)))) q_int))
        (ss_cons (s_if (L2.PW.pt (qw_and (qt_cmp op_lt d_lt (q_op op_mod d_mod (qv 4) q_int) q_int (nomark _)) (qw_and1 (qt_cmp op_ne d_ne (qv 6) (qv 7) (nomark _)))))
        (ss_one (s_set (i := 8) sc__law_shade.nd rfl (by first | exact Or.inl rfl | exact Or.inr rfl) (q_op op_fdiv d_fdiv (q_cal C__law_mix (hr.mono (by decide)) rfl (qa_cons (qv 0) (qa_cons (q_op op_addA d_add (qv 1) q_int) (qa_cons (q_op op_addA d_add (q_op op_addA d_add q_int (q_op op_mulD d_mul q_int (q_callB (call_max2 rfl) d_max2 rfl T.b_max (by decide +kernel) (qa_cons (qv 6) (qa_cons (qv 7) qa_nil))))) (q_callB (call_min2 rfl) d_min2 rfl T.b_min (by decide +kernel) (qa_cons (qv 6) (qa_cons (qv 7) qa_nil)))) qa_nil)))) q_int)))
        (ss_nil))
        (ss_cons (s_if (L2.PW.pt (qw_and (qt_cmp op_eq d_eq (q_op op_mod d_mod (qv 4) q_int) q_int (nomark _)) (qw_and1 (qt_cmp op_eq d_eq (q_op op_addA d_add (q_op op_fdiv d_fdiv (q_op op_mulD d_mul (qv 2) (q_op op_sub d_sub (qv 2) q_int)) q_int) (qv 3)) (q_op op_mod d_mod (q_op op_fdiv d_fdiv (qv 4) q_int) q_int) (nomark _)))))
        (ss_one (s_set (i := 8) sc__law_shade.nd rfl (by first | exact Or.inl rfl | exact Or.inr rfl) (q_op op_addA d_add (qv 8) q_int)))
        (ss_nil))
        (ss_cons (s_if (L2.PW.pt (qw_and (qt_cmp op_eq d_eq (q_op op_mod d_mod (qv 4) q_int) q_int (nomark _)) (qw_and1 (qt_cmp op_eq d_eq (q_op op_mod d_mod (q_op op_fdiv d_fdiv (qv 4) q_int) q_int) q_int (nomark _)))))
        (ss_one (s_ret (q_op op_mod d_mod (qv 8) (q_op op_pow d_pow q_int q_int))))
        (ss_nil))
        (ss_cons (s_set (i := 9) sc__law_shade.nd rfl (by first | exact Or.inl rfl | exact Or.inr rfl) (q_lst (qa_cons q_int (qa_cons (q_op op_addA d_add q_int (q_op op_mod d_mod (q_cal C__law_cell (hr.mono (by decide)) rfl (qa_cons (qv 0) (qa_cons (q_op op_addA d_add (qv 1) q_int) qa_nil))) (q_op op_mulD d_mul (q_op op_pow d_pow q_int q_int) (q_op op_pow d_pow q_int q_int)))) (qa_cons (q_op op_mod d_mod (q_op op_fdiv d_fdiv (q_cal C__law_cell (hr.mono (by decide)) rfl (qa_cons (qv 0) (qa_cons (q_op op_addA d_add (qv 1) q_int) qa_nil))) q_int) q_int) qa_nil)))))
        (ss_one (s_ret (q_ix ix_seq d_ix (qv 9) (q_op op_mod d_mod (qv 8) (q_op op_addA d_add q_int (q_op op_mod d_mod (q_op op_fdiv d_fdiv (qv 4) q_int) q_int))) (fun _ _ => rfl))))))))))))

abbrev s__law_net : Stmt := top 21
theorem sc__law_net : FnScope ["_law_script", "_law_at", "_law_many_here", "_law_rows"] ["_law_script", "_law_at", "_law_many_here"] (defScope s__law_net) := ⟨rfl, rfl, rfl, by decide +kernel, rfl, by decide +kernel, by decide +kernel⟩
def g__law_net_e1 : SD → Res D := eCall G__law_shade (aCons (eVar 1) (aCons (eVar 2) (aCons (eVar 3) (aCons (eVar 0) aNil))))
def g__law_net_e2 : SD → Res D := eA tupleD (aCons (eComp (eRng1 (aCons (eVar 0) aNil)) (gN 0) bTrue g__law_net_e1 1 [("_law_script", 1), ("_law_at", 2), ("_law_k", 0)]) aNil)
def g__law_net : SF := sSeq (sSet 3 (eComp (eRng1 (aCons (eVar 2) aNil)) (gN 0) bTrue g__law_net_e2 1 [("_law_script", 0), ("_law_at", 1)])) (sRet (eA tupD (aCons (eA tupleD (aCons (eCall G__law_places (aCons (eVar 0) (aCons (eVar 1) (aCons (eVar 2) aNil)))) aNil)) (aCons (eA tupleD (aCons (eVar 3) aNil)) aNil))))
def G__law_net : DF := runF 3 4 g__law_net
theorem ok__law_net (T : Txt mg) (C__law_places : Cal P w K mg base 2 "_law_places" ["_law_script", "_law_at", "_law_many_here"] (spF K G__law_places)) (C__law_shade : Cal P w K mg base 3 "_law_shade" ["_law_script", "_law_at", "_law_k", "_law_j"] (spF K G__law_shade)) (F : Dfn K mg "_law_net" s__law_net ["_law_script", "_law_at", "_law_many_here"]) : Cal P w K mg base 4 "_law_net" ["_law_script", "_law_at", "_law_many_here"] (spF K G__law_net) := cal_of2 (k := 3) (n := 3) (m := 4) (g := g__law_net) F sc__law_net rfl rfl fun f cdv A outer s H hr => by
  have hu := hu_of hr
  exact ss_cons (s_setComp (i := 3) sc__law_net.nd rfl (by first | exact Or.inl rfl | exact Or.inr rfl) (own := ["_law_k"]) (cap := [("_law_script", 0), ("_law_at", 1)]) (compOk_mk _ rfl _ rfl (by kernel_rfl)) rfl (qi_range1 rfl T.b_range (qa_cons (qv 2) qa_nil)) ⟨fun _ _ _ _ _ => g_name (i := 0) (show (["_law_k", "_law_script", "_law_at"] : List Str).Nodup by decide +kernel) rfl (by first | exact Or.inl rfl | exact Or.inr rfl), fun _ _ _ _ _ => qif_nil, fun _ _ _ _ _ => q_callTy call_tuple_of d_tuple rfl T.b_tuple (by decide +kernel) (qa_cons (q_comp (own := ["_law_j"]) (cap := [("_law_script", 1), ("_law_at", 2), ("_law_k", 0)]) (compOk_mk _ rfl _ rfl (by kernel_rfl)) rfl (qi_range1 rfl T.b_range (qa_cons (qv 0) qa_nil)) ⟨fun _ _ _ _ _ => g_name (i := 0) (show (["_law_j", "_law_script", "_law_at", "_law_k"] : List Str).Nodup by decide +kernel) rfl (by first | exact Or.inl rfl | exact Or.inr rfl), fun _ _ _ _ _ => qif_nil, fun _ _ _ _ _ => q_cal C__law_shade (hr.mono (by decide)) rfl (qa_cons (qv 1) (qa_cons (qv 2) (qa_cons (qv 3) (qa_cons (qv 0) qa_nil))))⟩) qa_nil)⟩)
        (ss_one (s_ret (q_tup (qa_cons (q_callTy call_tuple_of d_tuple rfl T.b_tuple (by decide +kernel) (qa_cons (q_cal C__law_places (hr.mono (by decide)) rfl (qa_cons (qv 0) (qa_cons (qv 1) (qa_cons (qv 2) qa_nil)))) qa_nil)) (qa_cons (q_callTy call_tuple_of d_tuple rfl T.b_tuple (by decide +kernel) (qa_cons (qv 3) qa_nil)) qa_nil)))))

abbrev s__law_ties : Stmt := top 22
theorem sc__law_ties : FnScope ["_law_script", "_law_net_here", "_law_ties_here", "_law_k", "_law_place", "_law_j", "_law_number"] ["_law_script", "_law_net_here"] (defScope s__law_ties) := ⟨rfl, rfl, rfl, by decide +kernel, rfl, by decide +kernel, by decide +kernel⟩
def g__law_ties_b1 : SF := sSeq (sSet 6 (eCall G__law_mix (aCons (eVar 0) (aCons (eC (.int 1)) (aCons (eBin addD (eBin mulD (eVar 3) (eC (.int 24))) (eVar 5)) aNil))))) (sIf (bOr (eT (eBin gtD (eBin ixD (eBin ixD (eBin ixD (eVar 1) (eC (.int 1))) (eVar 3)) (eVar 5)) (eC (.int 0)))) (eT (eBin eqD (eBin modD (eVar 6) (eC (.int 3))) (eC (.int 0))))) (sIf (eT (eBin eqD (eBin modD (eBin fdivD (eVar 6) (eC (.int 3))) (eC (.int 2))) (eC (.int 0)))) (sApp 2 (eA tupD (aCons (eVar 4) (aCons (eBin ixD (eBin ixD (eVar 1) (eC (.int 0))) (eVar 5)) (aCons (eBin ixD (eBin ixD (eBin ixD (eVar 1) (eC (.int 1))) (eVar 3)) (eVar 5)) aNil))))) (sApp 2 (eA tupD (aCons (eBin ixD (eBin ixD (eVar 1) (eC (.int 0))) (eVar 5)) (aCons (eVar 4) (aCons (eBin ixD (eBin ixD (eBin ixD (eVar 1) (eC (.int 1))) (eVar 3)) (eVar 5)) aNil)))))) sNext)
def g__law_ties_b2 : SF := sFor [] (eRng1 (aCons (eVar 3) aNil)) (gN 5) g__law_ties_b1
def g__law_ties : SF := sSeq (sSet 2 (eA lstD aNil)) (sSeq (sFor [1] (eEnum (aCons (eBin ixD (eVar 1) (eC (.int 0))) aNil)) (gT 2 (gsCons 3 (gsCons 4 gsNil))) g__law_ties_b2) (sRetV 2))
def G__law_ties : DF := runF 2 7 g__law_ties
theorem ok__law_ties (T : Txt mg) (C__law_mix : Cal P w K mg base 2 "_law_mix" ["_law_script", "_law_at", "_law_k"] (spF K G__law_mix)) (F : Dfn K mg "_law_ties" s__law_ties ["_law_script", "_law_net_here"]) : Cal P w K mg base 3 "_law_ties" ["_law_script", "_law_net_here"] (spF K G__law_ties) := cal_of2 (k := 2) (n := 2) (m := 7) (g := g__law_ties) F sc__law_ties rfl rfl fun f cdv A outer s H hr => by
  have hu := hu_of hr
  exact ss_cons (s_set (i := 2) sc__law_ties.nd rfl (by first | exact Or.inl rfl | exact Or.inr rfl) (q_lst qa_nil))
        (ss_cons (s_for [1] PassesOwn.never rfl (qi_enum rfl T.b_enumerate (qa_cons (q_ix ix_seq d_ix (qv 1) q_int (fun _ _ => rfl)) qa_nil)) (g_tup rfl (gs_cons (i := 3) sc__law_ties.nd rfl (by first | exact Or.inl rfl | exact Or.inr rfl) (gs_cons (i := 4) sc__law_ties.nd rfl (by first | exact Or.inl rfl | exact Or.inr rfl) gs_nil)))
        (ss_one (s_for [] PassesOwn.never rfl (qi_range1 rfl T.b_range (qa_cons (qv 3) qa_nil)) (g_name (i := 5) sc__law_ties.nd rfl (by first | exact Or.inl rfl | exact Or.inr rfl))
        (ss_cons (s_set (i := 6) sc__law_ties.nd rfl (by first | exact Or.inl rfl | exact Or.inr rfl) (q_cal C__law_mix (hr.mono (by decide)) rfl (qa_cons (qv 0) (qa_cons q_int (qa_cons (q_op op_addA d_add (q_op op_mulD d_mul (qv 3) q_int) (qv 5)) qa_nil)))))
        (ss_one (s_if (L2.PW.pt (qw_or (qt_cmp op_gt d_gt (q_ix ix_seq d_ix (q_ix ix_seq d_ix (q_ix ix_seq d_ix (qv 1) q_int (fun _ _ => rfl)) (qv 3) (fun _ _ => rfl)) (qv 5) (fun _ _ => rfl)) q_int (nomark _)) (qw_or1 (qt_cmp op_eq d_eq (q_op op_mod d_mod (qv 6) q_int) q_int (nomark _)))))
        (ss_one (s_if (qt_cmp op_eq d_eq (q_op op_mod d_mod (q_op op_fdiv d_fdiv (qv 6) q_int) q_int) q_int (nomark _))
        (ss_one (s_app 2 (q_tup (qa_cons (qv 4) (qa_cons (q_ix ix_seq d_ix (q_ix ix_seq d_ix (qv 1) q_int (fun _ _ => rfl)) (qv 5) (fun _ _ => rfl)) (qa_cons (q_ix ix_seq d_ix (q_ix ix_seq d_ix (q_ix ix_seq d_ix (qv 1) q_int (fun _ _ => rfl)) (qv 3) (fun _ _ => rfl)) (qv 5) (fun _ _ => rfl)) qa_nil))))))
        (ss_one (s_app 2 (q_tup (qa_cons (q_ix ix_seq d_ix (q_ix ix_seq d_ix (qv 1) q_int (fun _ _ => rfl)) (qv 5) (fun _ _ => rfl)) (qa_cons (qv 4) (qa_cons (q_ix ix_seq d_ix (q_ix ix_seq d_ix (q_ix ix_seq d_ix (qv 1) q_int (fun _ _ => rfl)) (qv 3) (fun _ _ => rfl)) (qv 5) (fun _ _ => rfl)) qa_nil))))))))
        (ss_nil)))))))
        (ss_one (s_retV 2)))

abbrev s__law_turned : Stmt := top 23
theorem sc__law_turned : FnScope ["_law_row", "_law_cell_here", "_law_at", "_law_turned_here"] ["_law_row", "_law_cell_here"] (defScope s__law_turned) := ⟨rfl, rfl, rfl, by decide +kernel, rfl, by decide +kernel, by decide +kernel⟩
def g__law_turned : SF := sSeq (sIf (eT (eBin eqD (eA lenD (aCons (eVar 0) aNil)) (eC (.int 0)))) (sRet (eA lstD aNil)) sNext) (sSeq (sSet 2 (eBin modD (eBin fdivD (eVar 1) (eC (.int 2))) (eA lenD (aCons (eVar 0) aNil)))) (sSeq (sSet 3 (eBin addD (eCut (eVar 0) (eP (eVar 2)) eP0) (eCut (eVar 0) eP0 (eP (eVar 2))))) (sSeq (sIf (eT (eBin eqD (eBin modD (eVar 1) (eC (.int 2))) (eC (.int 1)))) (sRev 3) sNext) (sRetV 3))))
def G__law_turned : DF := runF 2 4 g__law_turned
theorem ok__law_turned (T : Txt mg)  (F : Dfn K mg "_law_turned" s__law_turned ["_law_row", "_law_cell_here"]) : Cal P w K mg base 1 "_law_turned" ["_law_row", "_law_cell_here"] (spF K G__law_turned) := cal_of2 (k := 0) (n := 2) (m := 4) (g := g__law_turned) F sc__law_turned rfl rfl fun f cdv A outer s H hr => by
  have hu := hu_of hr
  exact ss_cons (s_if (qt_cmp op_eq d_eq (q_callB call_lenA d_len rfl T.b_len PySem.boot_len (qa_cons (qv 0) qa_nil)) q_int (nomark _))
        (ss_one (s_ret (q_lst qa_nil)))
        (ss_nil))
        (ss_cons (s_set (i := 2) sc__law_turned.nd rfl (by first | exact Or.inl rfl | exact Or.inr rfl) (q_op op_mod d_mod (q_op op_fdiv d_fdiv (qv 1) q_int) (q_callB call_lenA d_len rfl T.b_len PySem.boot_len (qa_cons (qv 0) qa_nil))))
        (ss_cons (s_set (i := 3) sc__law_turned.nd rfl (by first | exact Or.inl rfl | exact Or.inr rfl) (q_op op_addA d_add (q_slice (qv 0) (qo_some (qv 2)) qo_none) (q_slice (qv 0) qo_none (qo_some (qv 2)))))
        (ss_cons (s_if (qt_cmp op_eq d_eq (q_op op_mod d_mod (qv 1) q_int) q_int (nomark _))
        (ss_one (s_rev 3))
        (ss_nil))
        (ss_one (s_retV 3)))))

abbrev s_law : Stmt := top 24
theorem sc_law : FnScope ["_law_script", "_law_net_here", "_law_places_here", "_law_ties_here", "_law_handed"] ["_law_script"] (defScope s_law) := ⟨rfl, rfl, rfl, by decide +kernel, rfl, by decide +kernel, by decide +kernel⟩
def g_law : SF := sSeq (sSet 1 (eCall G__law_net (aCons (eVar 0) (aCons (eC (.int 1)) (aCons (eCall G__law_many (aCons (eCall G__law_cell (aCons (eVar 0) (aCons (eC (.int 0)) aNil))) aNil)) aNil))))) (sSeq (sSet 2 (eCall G__law_turned (aCons (eA listD (aCons (eBin ixD (eVar 1) (eC (.int 0))) aNil)) (aCons (eCall G__law_cell (aCons (eVar 0) (aCons (eC (.int 3)) aNil))) aNil)))) (sSeq (sSet 3 (eCall G__law_turned (aCons (eCall G__law_ties (aCons (eVar 0) (aCons (eVar 1) aNil))) (aCons (eCall G__law_cell (aCons (eVar 0) (aCons (eC (.int 5)) aNil))) aNil)))) (sSeq (sSet 4 (eA lstD (aCons (eA listD (aCons (eVar 2) aNil)) (aCons (eA listD (aCons (eVar 3) aNil)) aNil)))) (sSeq (sIf (bNot (eT (eCall (G__law_like 4) (aCons (eCall G_net_from (aCons (eBin ixD (eVar 4) (eC (.int 0))) (aCons (eBin ixD (eVar 4) (eC (.int 1))) aNil))) (aCons (eVar 1) aNil))))) (sRet (eC (.bl false))) sNext) (sSeq (sIf (bOr (bNot (eT (eCall (G__law_like 4) (aCons (eBin ixD (eVar 4) (eC (.int 0))) (aCons (eVar 2) aNil))))) (bNot (eT (eCall (G__law_like 4) (aCons (eBin ixD (eVar 4) (eC (.int 1))) (aCons (eVar 3) aNil)))))) (sRet (eC (.bl false))) sNext) (sSeq (sRev 2) (sSeq (sRev 3) (sRet (eCall (G__law_like 4) (aCons (eCall G_net_from (aCons (eVar 2) (aCons (eVar 3) aNil))) (aCons (eVar 1) aNil)))))))))))
def G_law : DF := runF 1 5 g_law
theorem fn_law {f : Addr} {fd : FuncData} (T : Txt mg) (C_net_from : Cal P w K mg base 3 "net_from" ["places", "ties"] (spF K G_net_from)) (C__law_cell : Cal P w K mg base 1 "_law_cell" ["_law_script", "_law_k"] (spF K G__law_cell)) (C__law_like : Cal P w K mg base 5 "_law_like" ["_law_found", "_law_due"] (spF K (G__law_like 4))) (C__law_many : Cal P w K mg base 1 "_law_many" ["_law_cell_here"] (spF K G__law_many)) (C__law_net : Cal P w K mg base 4 "_law_net" ["_law_script", "_law_at", "_law_many_here"] (spF K G__law_net)) (C__law_ties : Cal P w K mg base 3 "_law_ties" ["_law_script", "_law_net_here"] (spF K G__law_ties)) (C__law_turned : Cal P w K mg base 1 "_law_turned" ["_law_row", "_law_cell_here"] (spF K G__law_turned)) (F : Fun K "law" "law" s_law f fd) : FnOk P w K mg base CX0 6 f fd ["_law_script"] (spF K G_law) := fnok_of2 (k := 5) (n := 1) (m := 5) (g := g_law) F sc_law rfl rfl fun f cdv A outer s H hr => by
  have hu := hu_of hr
  exact ss_cons (s_set (i := 1) sc_law.nd rfl (by first | exact Or.inl rfl | exact Or.inr rfl) (q_cal C__law_net (hr.mono (by decide)) rfl (qa_cons (qv 0) (qa_cons q_int (qa_cons (q_cal C__law_many (hr.mono (by decide)) rfl (qa_cons (q_cal C__law_cell (hr.mono (by decide)) rfl (qa_cons (qv 0) (qa_cons q_int qa_nil))) qa_nil)) qa_nil)))))
        (ss_cons (s_set (i := 2) sc_law.nd rfl (by first | exact Or.inl rfl | exact Or.inr rfl) (q_cal C__law_turned (hr.mono (by decide)) rfl (qa_cons (q_callTy call_list_of d_list rfl T.b_list (by decide +kernel) (qa_cons (q_ix ix_seq d_ix (qv 1) q_int (fun _ _ => rfl)) qa_nil)) (qa_cons (q_cal C__law_cell (hr.mono (by decide)) rfl (qa_cons (qv 0) (qa_cons q_int qa_nil))) qa_nil))))
        (ss_cons (s_set (i := 3) sc_law.nd rfl (by first | exact Or.inl rfl | exact Or.inr rfl) (q_cal C__law_turned (hr.mono (by decide)) rfl (qa_cons (q_cal C__law_ties (hr.mono (by decide)) rfl (qa_cons (qv 0) (qa_cons (qv 1) qa_nil))) (qa_cons (q_cal C__law_cell (hr.mono (by decide)) rfl (qa_cons (qv 0) (qa_cons q_int qa_nil))) qa_nil))))
        (ss_cons (s_set (i := 4) sc_law.nd rfl (by first | exact Or.inl rfl | exact Or.inr rfl) (q_lst (qa_cons (q_callTy call_list_of d_list rfl T.b_list (by decide +kernel) (qa_cons (qv 2) qa_nil)) (qa_cons (q_callTy call_list_of d_list rfl T.b_list (by decide +kernel) (qa_cons (qv 3) qa_nil)) qa_nil))))
        (ss_cons (s_if (qt_not (qt_val (q_cal C__law_like (hr.mono (by decide)) rfl (qa_cons (q_cal C_net_from (hr.mono (by decide)) rfl (qa_cons (q_ix ix_seq d_ix (qv 4) q_int (fun _ _ => rfl)) (qa_cons (q_ix ix_seq d_ix (qv 4) q_int (fun _ _ => rfl)) qa_nil))) (qa_cons (qv 1) qa_nil)))))
        (ss_one (s_ret q_bl))
        (ss_nil))
        (ss_cons (s_if (L2.PW.pt (qw_or (qt_not (qt_val (q_cal C__law_like (hr.mono (by decide)) rfl (qa_cons (q_ix ix_seq d_ix (qv 4) q_int (fun _ _ => rfl)) (qa_cons (qv 2) qa_nil))))) (qw_or1 (qt_not (qt_val (q_cal C__law_like (hr.mono (by decide)) rfl (qa_cons (q_ix ix_seq d_ix (qv 4) q_int (fun _ _ => rfl)) (qa_cons (qv 3) qa_nil))))))))
        (ss_one (s_ret q_bl))
        (ss_nil))
        (ss_cons (s_rev 2)
        (ss_cons (s_rev 3)
        (ss_one (s_ret (q_cal C__law_like (hr.mono (by decide)) rfl (qa_cons (q_cal C_net_from (hr.mono (by decide)) rfl (qa_cons (qv 2) (qa_cons (qv 3) qa_nil))) (qa_cons (qv 1) qa_nil))))))))))))

end
end KL
set_option linter.all false
/-! ### the law's inputs, as plain functions -/
namespace M
def cell (ns : List Int) (k : Int) : Int := ns.getD k.toNat 0
def many (c : Int) : Int := if c / 9 % 8 = 1 then 1 + c / 72 % 24 else 1 + c % 9
theorem many_pos (c : Int) : 1 ≤ many c ∧ many c ≤ 24 := by
  unfold many
  split <;> omega
def maxI (i j : Int) : Int := if j > i then j else i
def minI (i j : Int) : Int := if j < i then j else i
def mix (ns : List Int) (at_ k : Int) : Int := (cell ns (at_ + k % maxI 1 ((ns.length : Int) - at_)) * 48271 + k * 16807 + 11) % 2147483647
theorem mix_nn (ns : List Int) (a k : Int) : 0 ≤ mix ns a k := Int.emod_nonneg _ (by decide)
/-- the greatest number that a place may begin with, and a colour -/
def num0 (big : Int) (ns : List Int) (a : Int) : Int := if cell ns a % 2 = 1 then cell ns a / 2 % big else cell ns a / 2 % 4
def gap (ns : List Int) (a : Int) : Int := ([1, 3, 100000000000000000000000000000] : List Int).getD (cell ns (a + 1) % 3).toNat 0
def place (big : Int) (ns : List Int) (a : Int) : Nat → Int
  | 0 => num0 big ns a
  | k + 1 => place big ns a k + 1 + cell ns (a + 1) / ((k : Int) + 1) % gap ns a
theorem place_zero (big : Int) (ns : List Int) (a : Int) : place big ns a 0 = if cell ns a % 2 = 1 then cell ns a / 2 % big else cell ns a / 2 % 4 := rfl
def places (big : Int) (ns : List Int) (a : Int) (n : Nat) : List Int := (List.range n).map (place big ns a)
theorem gap_pos (ns : List Int) (a : Int) : 0 < gap ns a := by
  unfold gap
  have h1 : 0 ≤ cell ns (a + 1) % 3 := Int.emod_nonneg _ (by decide)
  have h2 : cell ns (a + 1) % 3 < 3 := Int.emod_lt_of_pos _ (by decide)
  have h : cell ns (a + 1) % 3 = 0 ∨ cell ns (a + 1) % 3 = 1 ∨ cell ns (a + 1) % 3 = 2 := by omega
  rcases h with h | h | h <;> rw [h] <;> decide
theorem num0_nn {big : Int} (hb : 0 < big) (ns : List Int) (a : Int) : 0 ≤ num0 big ns a := by
  unfold num0
  split
  · exact Int.emod_nonneg _ (by omega)
  · omega
theorem place_lt {big : Int} (ns : List Int) (a : Int) (k : Nat) : place big ns a k < place big ns a (k + 1) := by
  show place big ns a k < place big ns a k + 1 + cell ns (a + 1) / ((k : Int) + 1) % gap ns a
  have h : 0 ≤ cell ns (a + 1) / ((k : Int) + 1) % gap ns a := Int.emod_nonneg _ (by have := gap_pos ns a; omega)
  omega
theorem place_mono {big : Int} (ns : List Int) (a : Int) : ∀ {j k : Nat}, j < k → place big ns a j < place big ns a k
  | j, k + 1, h => by
    have h2 := place_lt (big := big) ns a k
    by_cases e : j = k
    · subst e
      exact h2
    · exact Int.lt_trans (place_mono ns a (by omega)) h2
theorem place_nn {big : Int} (hb : 0 < big) (ns : List Int) (a : Int) : ∀ k, 0 ≤ place big ns a k
  | 0 => num0_nn hb ns a
  | k + 1 => by
    have h1 := place_nn hb ns a k
    have h2 := place_lt (big := big) ns a k
    omega
theorem place_inj {big : Int} (ns : List Int) (a : Int) {j k : Nat} (h : place big ns a j = place big ns a k) : j = k := by
  rcases Nat.lt_trichotomy j k with q | q | q
  · have := place_mono (big := big) ns a q
    omega
  · exact q
  · have := place_mono (big := big) ns a q
    omega
def num1 (ns : List Int) (a k j : Int) : Int :=
  if cell ns (a + 2) % 4 < 2 ∧ mix ns (a + 4) (300 + k) / 3 % (1 + cell ns (a + 2) / 4 % 4) ≠ mix ns (a + 4) (300 + j) / 3 % (1 + cell ns (a + 2) / 4 % 4)
  then mix ns (a + 4) (400 + 4 * maxI (mix ns (a + 4) (300 + k) / 3 % (1 + cell ns (a + 2) / 4 % 4)) (mix ns (a + 4) (300 + j) / 3 % (1 + cell ns (a + 2) / 4 % 4)) +
    minI (mix ns (a + 4) (300 + k) / 3 % (1 + cell ns (a + 2) / 4 % 4)) (mix ns (a + 4) (300 + j) / 3 % (1 + cell ns (a + 2) / 4 % 4))) / 5
  else mix ns (a + 4) (k * (k - 1) / 2 + j) / 5
def num2 (ns : List Int) (a k j : Int) : Int := if cell ns (a + 2) % 4 = 1 ∧ k * (k - 1) / 2 + j = cell ns (a + 2) / 32 % 36 then num1 ns a k j + 1 else num1 ns a k j
def shade (big : Int) (ns : List Int) (a k j : Int) : Int :=
  if cell ns (a + 2) % 4 = 2 ∧ cell ns (a + 2) / 4 % 2 = 1 then num2 ns a k j % 100000000
  else ([0, 1 + cell ns (a + 3) % big, cell ns (a + 3) / 9 % 5] : List Int).getD (num2 ns a k j % (2 + cell ns (a + 2) / 16 % 2)).toNat 0
theorem shade_nn {big : Int} (hb : 0 < big) (ns : List Int) (a k j : Int) : 0 ≤ shade big ns a k j := by
  unfold shade
  split
  · exact Int.emod_nonneg _ (by decide)
  · have h1 : 0 ≤ cell ns (a + 3) % big := Int.emod_nonneg _ (by omega)
    have h2 : 0 ≤ cell ns (a + 3) / 9 % 5 := Int.emod_nonneg _ (by decide)
    generalize (num2 ns a k j % (2 + cell ns (a + 2) / 16 % 2)).toNat = n
    match n with
    | 0 => exact Int.le_refl 0
    | 1 => show 0 ≤ 1 + cell ns (a + 3) % big; omega
    | 2 => exact h2
    | n + 3 => exact Int.le_refl 0
def rows (big : Int) (ns : List Int) (a : Int) (n : Nat) : List (List Int) := (List.range n).map fun (k : Nat) => (List.range k).map fun (j : Nat) => shade big ns a (k : Int) (j : Int)

/-! ### nets from ties -/
def keyOf (o t : Int) : Int × Int := if o > t then (o, t) else (t, o)
theorem keyOf_comm (o t : Int) : keyOf o t = keyOf t o := by
  unfold keyOf
  by_cases h : o > t
  · rw [if_pos h, if_neg (by omega)]
  · by_cases h2 : t > o
    · rw [if_neg h, if_pos h2]
    · have e : o = t := by omega
      rw [e]
abbrev Tie := Int × Int × Int
def tkey (t : Tie) : Int × Int := keyOf t.1 t.2.1
/-- the colour that the ties give -/
def col (ts : List Tie) (k : Int × Int) : Int := ((ts.find? fun t => decide (tkey t = k)).map (·.2.2)).getD 0
theorem col_mem : ∀ {ts : List Tie} {t : Tie}, (ts.map tkey).Nodup → t ∈ ts → col ts (tkey t) = t.2.2
  | [], _, _, h => by cases h
  | a :: r, t, hn, h => by
    have hn' : (tkey a :: r.map tkey).Nodup := hn
    obtain ⟨h1, h2⟩ := List.nodup_cons.mp hn'
    by_cases e : tkey a = tkey t
    · rcases List.mem_cons.mp h with q | q
      · subst q
        simp [col]
      · exact absurd (List.mem_map.mpr ⟨t, q, e.symm⟩) h1
    · have q : t ∈ r := (List.mem_cons.mp h).resolve_left fun z => e (by rw [z])
      have ih := col_mem h2 q
      unfold col at ih ⊢
      rw [List.find?_cons_of_neg (by simpa using e)]
      exact ih
theorem col_none {ts : List Tie} {k : Int × Int} (h : ∀ t ∈ ts, tkey t ≠ k) : col ts k = 0 := by
  unfold col
  rw [List.find?_eq_none.mpr (fun t ht => by simpa using h t ht)]
  rfl
/-- the rows of the net over the rising places -/
def rowsOf (ps : List Int) (ts : List Tie) : List (List Int) := (List.range ps.length).map fun i => (ps.take i).map fun q => col ts (keyOf (ps.getD i 0) q)

/-! ### the law's ties -/
def drawn (ns : List Int) (k j : Nat) : Int := mix ns 1 ((k : Int) * 24 + (j : Int))
def tieAt (big : Int) (ns : List Int) (a : Int) (k j : Nat) : Tie :=
  if drawn ns k j / 3 % 2 = 0 then (place big ns a k, place big ns a j, shade big ns a k j) else (place big ns a j, place big ns a k, shade big ns a k j)
def isTie (big : Int) (ns : List Int) (a : Int) (k j : Nat) : Bool := decide (0 < shade big ns a k j) || decide (drawn ns k j % 3 = 0)
def tiesRow (big : Int) (ns : List Int) (a : Int) (k : Nat) (m : Nat) : List Tie := ((List.range m).filter (isTie big ns a k)).map (tieAt big ns a k)
def ties (big : Int) (ns : List Int) (a : Int) : Nat → List Tie
  | 0 => []
  | n + 1 => ties big ns a n ++ tiesRow big ns a n n
theorem tkey_tieAt (big : Int) (ns : List Int) (a : Int) {k j : Nat} (h : j < k) : tkey (tieAt big ns a k j) = (place big ns a k, place big ns a j) := by
  have q := place_mono (big := big) ns a h
  unfold tieAt
  split
  · unfold tkey keyOf
    rw [if_pos q]
  · unfold tkey keyOf
    rw [if_neg (by show ¬ place big ns a j > place big ns a k; omega)]
theorem mem_ties {big : Int} {ns : List Int} {a : Int} {t : Tie} : ∀ {n : Nat}, t ∈ ties big ns a n ↔ ∃ k j, j < k ∧ k < n ∧ isTie big ns a k j = true ∧ t = tieAt big ns a k j
  | 0 => by
    constructor
    · intro h
      cases h
    · rintro ⟨k, j, _, h, _⟩
      exact absurd h (Nat.not_lt_zero _)
  | n + 1 => by
    unfold ties
    rw [List.mem_append, mem_ties]
    constructor
    · rintro (⟨k, j, h1, h2, h3, h4⟩ | h)
      · exact ⟨k, j, h1, by omega, h3, h4⟩
      · obtain ⟨j, hj, e⟩ := List.mem_map.mp h
        obtain ⟨h1, h2⟩ := List.mem_filter.mp hj
        exact ⟨n, j, List.mem_range.mp h1, Nat.lt_succ_self _, h2, e.symm⟩
    · rintro ⟨k, j, h1, h2, h3, h4⟩
      by_cases e : k = n
      · subst e
        exact .inr (List.mem_map.mpr ⟨j, List.mem_filter.mpr ⟨List.mem_range.mpr h1, h3⟩, h4.symm⟩)
      · exact .inl ⟨k, j, h1, by omega, h3, h4⟩
theorem nodup_row (big : Int) (ns : List Int) (a : Int) (k : Nat) : ∀ {m : Nat}, m ≤ k → ((tiesRow big ns a k m).map tkey).Nodup
  | 0, _ => List.nodup_nil
  | m + 1, h => by
    have ih := nodup_row big ns a k (m := m) (by omega)
    unfold tiesRow at ih ⊢
    rw [List.range_succ, List.filter_append, List.map_append, List.map_append]
    refine List.nodup_append.mpr ⟨ih, ?_, ?_⟩
    · by_cases q : isTie big ns a k m = true
      · simp [q]
      · simp [q]
    · intro x hx y hy e
      subst e
      rw [List.map_map] at hx
      obtain ⟨j, hj, e1⟩ := List.mem_map.mp hx
      have hj1 := List.mem_range.mp (List.mem_filter.mp hj).1
      rw [List.map_map] at hy
      obtain ⟨j', hj', e2⟩ := List.mem_map.mp hy
      have e3 : j' = m := by simpa using (List.mem_filter.mp hj').1
      have e4 : tkey (tieAt big ns a k j) = tkey (tieAt big ns a k j') := e1.trans e2.symm
      rw [tkey_tieAt big ns a (show j < k by omega), tkey_tieAt big ns a (show j' < k by omega)] at e4
      have := place_inj ns a (Prod.mk.inj e4).2
      omega
theorem nodup_ties (big : Int) (ns : List Int) (a : Int) : ∀ n : Nat, ((ties big ns a n).map tkey).Nodup
  | 0 => List.nodup_nil
  | n + 1 => by
    unfold ties
    rw [List.map_append]
    refine List.nodup_append.mpr ⟨nodup_ties big ns a n, nodup_row big ns a n (Nat.le_refl _), ?_⟩
    intro x hx y hy e
    subst e
    obtain ⟨t, ht, e1⟩ := List.mem_map.mp hx
    obtain ⟨k, j, h1, h2, _, rfl⟩ := mem_ties.mp ht
    unfold tiesRow at hy
    rw [List.map_map] at hy
    obtain ⟨j', hj', e2⟩ := List.mem_map.mp hy
    have h3 := List.mem_range.mp (List.mem_filter.mp hj').1
    have e4 : tkey (tieAt big ns a k j) = tkey (tieAt big ns a n j') := e1.trans e2.symm
    rw [tkey_tieAt big ns a h1, tkey_tieAt big ns a h3] at e4
    have := place_inj ns a (Prod.mk.inj e4).1
    omega
theorem col_ties {big : Int} (hb : 0 < big) (ns : List Int) (a : Int) {n k j : Nat} (h1 : j < k) (h2 : k < n) {ts : List Tie} (hp : ts.Perm (ties big ns a n)) :
    col ts (keyOf (place big ns a k) (place big ns a j)) = shade big ns a k j := by
  have q := place_mono (big := big) ns a h1
  have ek : keyOf (place big ns a k) (place big ns a j) = (place big ns a k, place big ns a j) := by
    unfold keyOf
    rw [if_pos q]
  have nd : (ts.map tkey).Nodup := (hp.map tkey).nodup_iff.mpr (nodup_ties big ns a n)
  rw [ek]
  by_cases h3 : isTie big ns a k j = true
  · have hm : tieAt big ns a k j ∈ ts := hp.mem_iff.mpr (mem_ties.mpr ⟨k, j, h1, h2, h3, rfl⟩)
    have e := col_mem nd hm
    rw [tkey_tieAt big ns a h1] at e
    rw [e]
    unfold tieAt
    split <;> rfl
  · have h4 : ¬ 0 < shade big ns a k j := fun z => h3 (by unfold isTie; simp [z])
    have h5 := shade_nn hb ns a (k : Int) (j : Int)
    have e : shade big ns a k j = 0 := by omega
    rw [e]
    refine col_none fun t ht z => h3 ?_
    obtain ⟨k', j', g1, g2, g3, rfl⟩ := mem_ties.mp (hp.mem_iff.mp ht)
    rw [tkey_tieAt big ns a g1] at z
    have e1 := place_inj ns a (Prod.mk.inj z).1
    have e2 := place_inj ns a (Prod.mk.inj z).2
    subst e1 e2
    exact g3
theorem places_len (big : Int) (ns : List Int) (a : Int) (n : Nat) : (places big ns a n).length = n := by simp [places]
theorem places_sorted (big : Int) (ns : List Int) (a : Int) (n : Nat) : (places big ns a n).Pairwise (· < ·) := by
  unfold places
  rw [List.pairwise_map]
  exact List.pairwise_lt_range.imp fun h => place_mono ns a h
theorem rowsOf_ties {big : Int} (hb : 0 < big) (ns : List Int) (a : Int) (n : Nat) {ts : List Tie} (hp : ts.Perm (ties big ns a n)) : rowsOf (places big ns a n) ts = rows big ns a n := by
  unfold rowsOf rows
  rw [places_len]
  refine List.map_congr_left fun k hk => ?_
  have hk := List.mem_range.mp hk
  have e : (places big ns a n).take k = (List.range k).map (place big ns a) := by
    unfold places
    rw [← List.map_take, List.take_range, Nat.min_eq_left (Nat.le_of_lt hk)]
  rw [e, List.map_map]
  refine List.map_congr_left fun j hj => ?_
  have hj := List.mem_range.mp hj
  have e2 : (places big ns a n).getD k 0 = place big ns a k := by
    unfold places
    simp [hk]
  show col ts (keyOf ((places big ns a n).getD k 0) (place big ns a j)) = _
  rw [e2]
  exact col_ties hb ns a hj hk hp
/-- two rising lists of the same numbers are one -/
theorem sorted_eq : ∀ {l l' : List Int}, l.Perm l' → l.Pairwise (· ≤ ·) → l'.Pairwise (· < ·) → l = l'
  | [], l', hp, _, _ => (List.Perm.nil_eq hp)
  | x :: r, l', hp, h1, h2 => by
    match l', hp, h2 with
    | [], hp, _ => exact absurd hp.length_eq (by simp)
    | y :: r', hp, h2 =>
      obtain ⟨a1, a2⟩ := List.pairwise_cons.mp h1
      obtain ⟨b1, b2⟩ := List.pairwise_cons.mp h2
      have e : x = y := by
        have m1 : x ∈ y :: r' := hp.mem_iff.mp List.mem_cons_self
        have m2 : y ∈ x :: r := hp.mem_iff.mpr List.mem_cons_self
        rcases List.mem_cons.mp m1 with q | q
        · exact q
        · rcases List.mem_cons.mp m2 with q' | q'
          · exact q'.symm
          · have := b1 x q
            have := a1 y q'
            omega
      subst e
      rw [sorted_eq ((List.perm_cons _).mp hp) a2 b2]
/-! ### a row turned -/
def turned {α : Type} (row : List α) (c : Int) : List α :=
  if row.length = 0 then [] else
  let a := (c / 2 % (row.length : Int)).toNat
  let t := row.drop a ++ row.take a
  if c % 2 = 1 then t.reverse else t
theorem turned_perm {α : Type} (row : List α) (c : Int) : (turned row c).Perm row := by
  unfold turned
  split
  · rename_i h
    rw [List.length_eq_zero_iff.mp h]
  · have q : ((row.drop (c / 2 % (row.length : Int)).toNat) ++ row.take (c / 2 % (row.length : Int)).toNat).Perm row := by
      refine List.perm_append_comm.trans ?_
      rw [List.take_append_drop]
    dsimp only
    split
    · exact (List.reverse_perm _).trans q
    · exact q
end M
set_option linter.all false
namespace N2
/-! ### nets from ties -/
def keyOf (o t : Int) : Int × Int := if o > t then (o, t) else (t, o)
theorem keyOf_comm (o t : Int) : keyOf o t = keyOf t o := by
  unfold keyOf
  by_cases h : o > t
  · rw [if_pos h, if_neg (by omega)]
  · by_cases h2 : t > o
    · rw [if_neg h, if_pos h2]
    · have e : o = t := by omega
      rw [e]
abbrev Tie := Int × Int × Int
def tkey (t : Tie) : Int × Int := keyOf t.1 t.2.1
/-- the colour that the ties give -/
def col (ts : List Tie) (k : Int × Int) : Int := ((ts.find? fun t => decide (tkey t = k)).map (·.2.2)).getD 0
theorem col_mem : ∀ {ts : List Tie} {t : Tie}, (ts.map tkey).Nodup → t ∈ ts → col ts (tkey t) = t.2.2
  | [], _, _, h => by cases h
  | a :: r, t, hn, h => by
    have hn' : (tkey a :: r.map tkey).Nodup := hn
    obtain ⟨h1, h2⟩ := List.nodup_cons.mp hn'
    by_cases e : tkey a = tkey t
    · rcases List.mem_cons.mp h with q | q
      · subst q
        simp [col]
      · exact absurd (List.mem_map.mpr ⟨t, q, e.symm⟩) h1
    · have q : t ∈ r := (List.mem_cons.mp h).resolve_left fun z => e (by rw [z])
      have ih := col_mem h2 q
      unfold col at ih ⊢
      rw [List.find?_cons_of_neg (by simpa using e)]
      exact ih
theorem col_none {ts : List Tie} {k : Int × Int} (h : ∀ t ∈ ts, tkey t ≠ k) : col ts k = 0 := by
  unfold col
  rw [List.find?_eq_none.mpr (fun t ht => by simpa using h t ht)]
  rfl
/-- the rows of the net over the rising places -/
def rowsOf (ps : List Int) (ts : List Tie) : List (List Int) := (List.range ps.length).map fun i => (ps.take i).map fun q => col ts (keyOf (ps.getD i 0) q)

/-! ### the law's ties -/
/-- a drawn net: its places, its colours by place, a number drawn for each two -/
structure Dr where
  pl : Nat → Int
  sh : Nat → Nat → Int
  dr : Nat → Nat → Int
  mono : ∀ {j k : Nat}, j < k → pl j < pl k
  nn : ∀ k j : Nat, 0 ≤ sh k j
theorem pl_inj (d : Dr) {j k : Nat} (h : d.pl j = d.pl k) : j = k := by
  rcases Nat.lt_trichotomy j k with q | q | q
  · have := d.mono q
    omega
  · exact q
  · have := d.mono q
    omega
def places (d : Dr) (n : Nat) : List Int := (List.range n).map d.pl
def rows (d : Dr) (n : Nat) : List (List Int) := (List.range n).map fun k => (List.range k).map fun j => d.sh k j
def tieAt (d : Dr) (k j : Nat) : Tie :=
  if d.dr k j / 3 % 2 = 0 then (d.pl k, d.pl j, d.sh k j) else (d.pl j, d.pl k, d.sh k j)
def isTie (d : Dr) (k j : Nat) : Bool := decide (0 < d.sh k j) || decide (d.dr k j % 3 = 0)
def tiesRow (d : Dr) (k : Nat) (m : Nat) : List Tie := ((List.range m).filter (isTie d k)).map (tieAt d k)
def ties (d : Dr) : Nat → List Tie
  | 0 => []
  | n + 1 => ties d n ++ tiesRow d n n
theorem tkey_tieAt (d : Dr) {k j : Nat} (h : j < k) : tkey (tieAt d k j) = (d.pl k, d.pl j) := by
  have q := d.mono h
  unfold tieAt
  split
  · unfold tkey keyOf
    rw [if_pos q]
  · unfold tkey keyOf
    rw [if_neg (by show ¬ d.pl j > d.pl k; omega)]
theorem mem_ties {d : Dr} {t : Tie} : ∀ {n : Nat}, t ∈ ties d n ↔ ∃ k j, j < k ∧ k < n ∧ isTie d k j = true ∧ t = tieAt d k j
  | 0 => by
    constructor
    · intro h
      cases h
    · rintro ⟨k, j, _, h, _⟩
      exact absurd h (Nat.not_lt_zero _)
  | n + 1 => by
    unfold ties
    rw [List.mem_append, mem_ties]
    constructor
    · rintro (⟨k, j, h1, h2, h3, h4⟩ | h)
      · exact ⟨k, j, h1, by omega, h3, h4⟩
      · obtain ⟨j, hj, e⟩ := List.mem_map.mp h
        obtain ⟨h1, h2⟩ := List.mem_filter.mp hj
        exact ⟨n, j, List.mem_range.mp h1, Nat.lt_succ_self _, h2, e.symm⟩
    · rintro ⟨k, j, h1, h2, h3, h4⟩
      by_cases e : k = n
      · subst e
        exact .inr (List.mem_map.mpr ⟨j, List.mem_filter.mpr ⟨List.mem_range.mpr h1, h3⟩, h4.symm⟩)
      · exact .inl ⟨k, j, h1, by omega, h3, h4⟩
theorem nodup_row (d : Dr) (k : Nat) : ∀ {m : Nat}, m ≤ k → ((tiesRow d k m).map tkey).Nodup
  | 0, _ => List.nodup_nil
  | m + 1, h => by
    have ih := nodup_row d k (m := m) (by omega)
    unfold tiesRow at ih ⊢
    rw [List.range_succ, List.filter_append, List.map_append, List.map_append]
    refine List.nodup_append.mpr ⟨ih, ?_, ?_⟩
    · by_cases q : isTie d k m = true
      · simp [q]
      · simp [q]
    · intro x hx y hy e
      subst e
      rw [List.map_map] at hx
      obtain ⟨j, hj, e1⟩ := List.mem_map.mp hx
      have hj1 := List.mem_range.mp (List.mem_filter.mp hj).1
      rw [List.map_map] at hy
      obtain ⟨j', hj', e2⟩ := List.mem_map.mp hy
      have e3 : j' = m := by simpa using (List.mem_filter.mp hj').1
      have e4 : tkey (tieAt d k j) = tkey (tieAt d k j') := e1.trans e2.symm
      rw [tkey_tieAt d (show j < k by omega), tkey_tieAt d (show j' < k by omega)] at e4
      have := pl_inj d (Prod.mk.inj e4).2
      omega
theorem nodup_ties (d : Dr) : ∀ n : Nat, ((ties d n).map tkey).Nodup
  | 0 => List.nodup_nil
  | n + 1 => by
    unfold ties
    rw [List.map_append]
    refine List.nodup_append.mpr ⟨nodup_ties d n, nodup_row d n (Nat.le_refl _), ?_⟩
    intro x hx y hy e
    subst e
    obtain ⟨t, ht, e1⟩ := List.mem_map.mp hx
    obtain ⟨k, j, h1, h2, _, rfl⟩ := mem_ties.mp ht
    unfold tiesRow at hy
    rw [List.map_map] at hy
    obtain ⟨j', hj', e2⟩ := List.mem_map.mp hy
    have h3 := List.mem_range.mp (List.mem_filter.mp hj').1
    have e4 : tkey (tieAt d k j) = tkey (tieAt d n j') := e1.trans e2.symm
    rw [tkey_tieAt d h1, tkey_tieAt d h3] at e4
    have := pl_inj d (Prod.mk.inj e4).1
    omega
theorem col_ties (d : Dr) {n k j : Nat} (h1 : j < k) (h2 : k < n) {ts : List Tie} (hp : ts.Perm (ties d n)) :
    col ts (keyOf (d.pl k) (d.pl j)) = d.sh k j := by
  have q := d.mono h1
  have ek : keyOf (d.pl k) (d.pl j) = (d.pl k, d.pl j) := by
    unfold keyOf
    rw [if_pos q]
  have nd : (ts.map tkey).Nodup := (hp.map tkey).nodup_iff.mpr (nodup_ties d n)
  rw [ek]
  by_cases h3 : isTie d k j = true
  · have hm : tieAt d k j ∈ ts := hp.mem_iff.mpr (mem_ties.mpr ⟨k, j, h1, h2, h3, rfl⟩)
    have e := col_mem nd hm
    rw [tkey_tieAt d h1] at e
    rw [e]
    unfold tieAt
    split <;> rfl
  · have h4 : ¬ 0 < d.sh k j := fun z => h3 (by unfold isTie; simp [z])
    have h5 := d.nn k j
    have e : d.sh k j = 0 := by omega
    rw [e]
    refine col_none fun t ht z => h3 ?_
    obtain ⟨k', j', g1, g2, g3, rfl⟩ := mem_ties.mp (hp.mem_iff.mp ht)
    rw [tkey_tieAt d g1] at z
    have e1 := pl_inj d (Prod.mk.inj z).1
    have e2 := pl_inj d (Prod.mk.inj z).2
    subst e1 e2
    exact g3
theorem places_len (d : Dr) (n : Nat) : (places d n).length = n := by simp [places]
theorem places_sorted (d : Dr) (n : Nat) : (places d n).Pairwise (· < ·) := by
  unfold places
  rw [List.pairwise_map]
  exact List.pairwise_lt_range.imp fun h => d.mono h
theorem rowsOf_ties (d : Dr) (n : Nat) {ts : List Tie} (hp : ts.Perm (ties d n)) : rowsOf (places d n) ts = rows d n := by
  unfold rowsOf rows
  rw [places_len]
  refine List.map_congr_left fun k hk => ?_
  have hk := List.mem_range.mp hk
  have e : (places d n).take k = (List.range k).map (d.pl) := by
    unfold places
    rw [← List.map_take, List.take_range, Nat.min_eq_left (Nat.le_of_lt hk)]
  rw [e, List.map_map]
  refine List.map_congr_left fun j hj => ?_
  have hj := List.mem_range.mp hj
  have e2 : (places d n).getD k 0 = d.pl k := by
    unfold places
    simp [hk]
  show col ts (keyOf ((places d n).getD k 0) (d.pl j)) = _
  rw [e2]
  exact col_ties d hj hk hp
/-- two rising lists of the same numbers are one -/
theorem sorted_eq : ∀ {l l' : List Int}, l.Perm l' → l.Pairwise (· ≤ ·) → l'.Pairwise (· < ·) → l = l'
  | [], l', hp, _, _ => (List.Perm.nil_eq hp)
  | x :: r, l', hp, h1, h2 => by
    match l', hp, h2 with
    | [], hp, _ => exact absurd hp.length_eq (by simp)
    | y :: r', hp, h2 =>
      obtain ⟨a1, a2⟩ := List.pairwise_cons.mp h1
      obtain ⟨b1, b2⟩ := List.pairwise_cons.mp h2
      have e : x = y := by
        have m1 : x ∈ y :: r' := hp.mem_iff.mp List.mem_cons_self
        have m2 : y ∈ x :: r := hp.mem_iff.mpr List.mem_cons_self
        rcases List.mem_cons.mp m1 with q | q
        · exact q
        · rcases List.mem_cons.mp m2 with q' | q'
          · exact q'.symm
          · have := b1 x q
            have := a1 y q'
            omega
      subst e
      rw [sorted_eq ((List.perm_cons _).mp hp) a2 b2]
/-! ### a row turned -/
def turned {α : Type} (row : List α) (c : Int) : List α :=
  if row.length = 0 then [] else
  let a := (c / 2 % (row.length : Int)).toNat
  let t := row.drop a ++ row.take a
  if c % 2 = 1 then t.reverse else t
theorem turned_perm {α : Type} (row : List α) (c : Int) : (turned row c).Perm row := by
  unfold turned
  split
  · rename_i h
    rw [List.length_eq_zero_iff.mp h]
  · have q : ((row.drop (c / 2 % (row.length : Int)).toNat) ++ row.take (c / 2 % (row.length : Int)).toNat).Perm row := by
      refine List.perm_append_comm.trans ?_
      rw [List.take_append_drop]
    dsimp only
    split
    · exact (List.reverse_perm _).trans q
    · exact q
end N2
set_option Elab.async false
set_option linter.all false
set_option maxRecDepth 100000
set_option maxHeartbeats 4000000
/-! ### reckoning with deep values -/
namespace DL
open PySem PySem.Spec PyProof.Rows L2
theorem pure_ints (ns : List Int) : pureL (ns.map D.int) = true := pureL_of fun d hd => by obtain ⟨n, _, rfl⟩ := List.mem_map.mp hd; rfl
@[simp] theorem view_ints (ns : List Int) : viewL (ns.map D.int) = ns.map D.int := viewL_pure _ (pure_ints ns)
@[simp] theorem frz_ints (ns : List Int) : frzL (ns.map D.int) = ns.map D.int := frzL_pure _ (pure_ints ns)
@[simp] theorem bor_ints (ns : List Int) : hasBorL (ns.map D.int) = false := hasBorL_pure _ (pure_ints ns)
@[simp] theorem own_ints (ns : List Int) : hasOwnL (ns.map D.int) = false := hasOwnL_pure _ (pure_ints ns)
@[simp] theorem toBor_ints (ns : List Int) : toBorL (ns.map D.int) = ns.map D.int := toBorL_pure _ (pure_ints ns)
@[simp] theorem unbor_ints (ns : List Int) : unborL (ns.map D.int) = ns.map D.int := unborL_id _ (bor_ints ns)
@[simp] theorem ints_map (ns : List Int) : intsOf (ns.map D.int) = some ns := intsOf_map ns
@[simp] theorem andThen_nx (τ : SD) (s : SF) : (Fl.nx τ).andThen s = s τ := rfl
@[simp] theorem andThen_rt (d : D) (s : SF) : (Fl.rt d).andThen s = .rt d := rfl
@[simp] theorem andThen_bk (τ : SD) (s : SF) : (Fl.bk τ).andThen s = .bk τ := rfl
@[simp] theorem andThen_ct (τ : SD) (s : SF) : (Fl.ct τ).andThen s = .ct τ := rfl
@[simp] theorem andThen_ex (C : PySem.Addr) (τ : SD) (s : SF) : (Fl.ex C τ).andThen s = .ex C τ := rfl
@[simp] theorem andThen_bad (s : SF) : Fl.bad.andThen s = .bad := rfl
@[simp] theorem toFl_ok (τ : SD) (d : D) (k : D → Fl) : (Res.ok d).toFl τ k = k d := rfl
@[simp] theorem toFl_exn (τ : SD) (C : PySem.Addr) (k : D → Fl) : (Res.exn C : Res D).toFl τ k = .ex C τ := rfl
@[simp] theorem toFl_bad (τ : SD) (k : D → Fl) : (Res.bad : Res D).toFl τ k = .bad := rfl
@[simp] theorem toFlB_ok (τ : SD) (d : Bool) (k : Bool → Fl) : (Res.ok d).toFlB τ k = k d := rfl
@[simp] theorem toFlB_exn (τ : SD) (C : PySem.Addr) (k : Bool → Fl) : (Res.exn C : Res Bool).toFlB τ k = .ex C τ := rfl
@[simp] theorem toFlB_bad (τ : SD) (k : Bool → Fl) : (Res.bad : Res Bool).toFlB τ k = .bad := rfl
@[simp] theorem noX_bad : (Res.bad : Res D).noX = .bad := rfl
@[simp] theorem out_rt (d : D) : (Fl.rt d).out = .ok d := rfl
@[simp] theorem out_nx (τ : SD) : (Fl.nx τ).out = .ok .non := rfl
@[simp] theorem out_ex (C : PySem.Addr) (τ : SD) : (Fl.ex C τ).out = .exn C := rfl
@[simp] theorem out_bad : Fl.bad.out = .bad := rfl
theorem eBin_ok {g : D → D → Res D} {a b : SD → Res D} {τ : SD} {x y : D} (ha : a τ = .ok x) (hb : b τ = .ok y) : eBin g a b τ = g x y := by unfold eBin; rw [ha, hb]; rfl
theorem if_nx {c : SD → Res Bool} {a b : SF} {τ : SD} {t : Bool} (h : c τ = .ok t) : sIf c a b τ = if t = true then a τ else b τ := by unfold sIf; rw [h]; rfl
theorem range1_nat {n : Nat} (h : n ≤ 1000000000) : range1D [.int n] = .ok (false, (List.range n).map fun k : Nat => .int k) := by
  have h1 : -1000000000 ≤ (n : Int) ∧ (n : Int) ≤ 1000000000 := by omega
  simp [range1D, h1]
theorem range2_nat {m n : Nat} (hm : m ≤ 1000000000) (h : n ≤ 1000000000) : range2D [.int m, .int n] = .ok (false, (List.range (n - m)).map fun k : Nat => .int (m + k)) := by
  have h1 : -1000000000 ≤ (m : Int) ∧ (m : Int) ≤ 1000000000 ∧ -1000000000 ≤ (n : Int) ∧ (n : Int) ≤ 1000000000 := by omega
  have h2 : ((n : Int) - m).toNat = n - m := by omega
  simp [range2D, h1, h2]
/-! one statement after another -/
theorem seq_nx {a b : SF} {τ τ' : SD} (h : a τ = .nx τ') : sSeq a b τ = b τ' := by unfold sSeq; rw [h]; rfl
theorem seq_ex {a b : SF} {τ : SD} (Q : Fl → Prop) (τ' : SD) (h : a τ = .nx τ') (k : Q (b τ')) : Q (sSeq a b τ) := by rw [seq_nx h]; exact k
theorem set_nx {i : Nat} {e : SD → Res D} {τ : SD} {d : D} (h : e τ = .ok d) (hb : d.hasBor = false) : sSet i e τ = .nx (τ.set i (some d)) := by
  unfold sSet setD
  rw [h, toFl_ok, hb]
  rfl
/-- x = e, by what holds of the value -/
theorem seq_set {i : Nat} {e : SD → Res D} {b : SF} {τ : SD} (Q : Fl → Prop) (d : D) (h : e τ = .ok d) (hb : d.hasBor = false) (k : Q (b (τ.set i (some d)))) : Q (sSeq (sSet i e) b τ) := seq_ex Q _ (set_nx h hb) k
/-- if c: x = e -/
theorem seq_ifset {c : SD → Res Bool} {i : Nat} {e : SD → Res D} {b : SF} {τ : SD} (Q : Fl → Prop) (Pd : D → Prop) (hc : ∃ t, c τ = .ok t ∧ (t = true → ∃ d, e τ = .ok d ∧ d.hasBor = false ∧ Pd d)) (h0 : ∃ d, τ[i]? = some (some d) ∧ Pd d) (k : ∀ d, Pd d → Q (b (τ.set i (some d)))) : Q (sSeq (sIf c (sSet i e) sNext) b τ) := by
  obtain ⟨t, h1, h2⟩ := hc
  cases t with
  | true =>
    obtain ⟨d, h3, h4, h5⟩ := h2 rfl
    refine seq_ex Q (τ.set i (some d)) ?_ (k d h5)
    unfold sIf
    rw [h1, toFlB_ok, if_pos rfl]
    exact set_nx h3 h4
  | false =>
    obtain ⟨d, h3, h5⟩ := h0
    have es : τ.set i (some d) = τ := by
      refine List.ext_getElem? fun k => ?_
      by_cases hk : k = i
      · subst hk
        rw [List.getElem?_set_self (List.getElem?_eq_some_iff.mp h3).1, h3]
      · rw [List.getElem?_set_ne (Ne.symm hk)]
    refine seq_ex Q (τ.set i (some d)) ?_ (k d h5)
    unfold sIf
    rw [h1, toFlB_ok, if_neg Bool.false_ne_true, es]
    rfl
/-- if c: return .. -/
theorem seq_ifret {c : SD → Res Bool} {a b : SF} {τ : SD} (Q : Fl → Prop) (hc : ∃ t, c τ = .ok t ∧ (t = true → ∃ d, a τ = .rt d ∧ Q (.rt d)) ∧ (t = false → Q (b τ))) : Q (sSeq (sIf c a sNext) b τ) := by
  obtain ⟨t, h1, h2, h3⟩ := hc
  cases t with
  | true =>
    obtain ⟨d, h4, h5⟩ := h2 rfl
    have : sSeq (sIf c a sNext) b τ = .rt d := by
      unfold sSeq sIf
      rw [h1, toFlB_ok, if_pos rfl, h4]
      rfl
    rw [this]
    exact h5
  | false =>
    refine seq_ex Q τ ?_ (h3 rfl)
    unfold sIf
    rw [h1, toFlB_ok, if_neg Bool.false_ne_true]
    rfl
/-- an item -/
theorem atI_of {α : Type} {xs : List α} {i : Int} {j : Nat} {v : α} (hi : i = j) (h : xs[j]? = some v) : atI xs i = some v := by subst hi; exact atI_nat h
/-- a loop by its states -/
theorem forD_eq {tg : TGD} {body : SF} (st : Nat → SD) : ∀ {ds : List D} (i : Nat), (∀ j d, ds[j]? = some d → ∃ τ', tg d (st (i + j)) = some τ' ∧ body τ' = .nx (st (i + j + 1))) → forD tg body ds (st i) = .nx (st (i + ds.length))
  | [], i, _ => rfl
  | d :: r, i, h => by
    obtain ⟨τ', h1, h2⟩ := h 0 d rfl
    unfold forD
    simp only [Nat.add_zero] at h1 h2
    rw [h1]
    simp only [h2]
    have ih := forD_eq st (ds := r) (i + 1) fun j e he => by
      have := h (j + 1) e (by simpa using he)
      rw [show i + (j + 1) = i + 1 + j by omega] at this
      exact this
    rw [ih, List.length_cons]
    congr 2
    omega
/-- .. that may leave: the first turn that does not go on -/
theorem forD_inv {tg : TGD} {body : SF} (Pv : Nat → SD → Prop) : ∀ {ds : List D} (i : Nat) (τ : SD), Pv i τ → (∀ j d τ, ds[j]? = some d → Pv (i + j) τ → ∃ τ' t, tg d τ = some τ' ∧ (body τ' = .nx t ∨ body τ' = .ct t) ∧ Pv (i + j + 1) t) → ∃ t, forD tg body ds τ = .nx t ∧ Pv (i + ds.length) t
  | [], i, τ, h0, _ => ⟨τ, rfl, h0⟩
  | d :: r, i, τ, h0, h => by
    obtain ⟨τ', t, h1, h2, h3⟩ := h 0 d τ rfl h0
    have ih := forD_inv Pv (ds := r) (i + 1) t h3 fun j e τ he hp => by
      have := h (j + 1) e τ (by simpa using he) (by rw [show i + (j + 1) = i + 1 + j by omega]; exact hp)
      rw [show i + (j + 1) = i + 1 + j by omega] at this
      exact this
    obtain ⟨u, h4, h5⟩ := ih
    refine ⟨u, ?_, by rw [List.length_cons, show i + (r.length + 1) = i + 1 + r.length by omega]; exact h5⟩
    unfold forD
    rw [h1]
    rcases h2 with h2 | h2 <;> (simp only [h2]; exact h4)
/-- a comprehension of one name -/
theorem compD_one {tt : SD → Res Bool} {elt : SD → Res D} {caps : SD} (p : D → Bool) (f : D → D) : ∀ {ds : List D} (o : Option D), (∀ d ∈ ds, tt (some d :: caps) = .ok (p d)) → (∀ d ∈ ds, p d = true → elt (some d :: caps) = .ok (f d) ∧ (f d).hasBor = false) → compD (gN 0) tt elt ds (o :: caps) = .ok ((ds.filter p).map f)
  | [], o, _, _ => rfl
  | d :: r, o, ht, he => by
    have ih := compD_one p f (ds := r) (some d) (fun e m => ht e (List.mem_cons_of_mem _ m)) fun e m => he e (List.mem_cons_of_mem _ m)
    unfold compD
    simp only [gN, List.set_cons_zero]
    rw [ht d List.mem_cons_self]
    simp only [Res.bind_ok]
    by_cases hp : p d = true
    · obtain ⟨h1, h2⟩ := he d List.mem_cons_self hp
      simp only [hp, if_true, h1, Res.bind_ok, h2, Bool.false_eq_true, if_false, ih]
      rw [List.filter_cons_of_pos hp, List.map_cons]
    · simp only [hp, if_false, ih, Bool.false_eq_true]
      rw [List.filter_cons_of_neg hp]
theorem compD_all {elt : SD → Res D} {caps : SD} (f : D → D) {ds : List D} (o : Option D) (he : ∀ d ∈ ds, elt (some d :: caps) = .ok (f d) ∧ (f d).hasBor = false) : compD (gN 0) bTrue elt ds (o :: caps) = .ok (ds.map f) := by
  have := compD_one (tt := bTrue) (fun _ => true) f o (fun d _ => rfl) fun d m _ => he d m
  rw [List.filter_eq_self.mpr fun _ _ => rfl] at this
  exact this
/-- a call whose answer holds no list -/
theorem callD_pure {G : DF} {ds : List D} {d : D} (h : G (frzL ds) = .ok d) (hp : d.pure = true) : callD G ds = .ok d := by
  unfold callD
  rw [h]
  split
  · simp [toBor_pure d hp]
  · rfl
theorem callD_own {G : DF} {ds : List D} {d : D} (h : G (frzL ds) = .ok d) (hb : hasBorL ds = false) : callD G ds = .ok d := by
  unfold callD
  rw [h, hb]
  rfl
theorem eCall_pure {G : DF} {fs : SD → Res (List D)} {τ : SD} {ds : List D} {d : D} (ha : fs τ = .ok ds) (h : G (frzL ds) = .ok d) (hp : d.pure = true) : eCall G fs τ = .ok d := by
  unfold eCall; rw [ha]; exact callD_pure h hp
theorem eCall_own {G : DF} {fs : SD → Res (List D)} {τ : SD} {ds : List D} {d : D} (ha : fs τ = .ok ds) (h : G (frzL ds) = .ok d) (hb : hasBorL ds = false) : eCall G fs τ = .ok d := by
  unfold eCall; rw [ha]; exact callD_own h hb
theorem eComp_all {it : SD → Res (Bool × List D)} {elt : SD → Res D} {cap : List (PySem.Str × Nat)} {τ : SD} {fl : Bool} {ds : List D} (f : D → D) (hit : it τ = .ok (fl, ds)) (he : ∀ d ∈ frzL ds, elt (some d :: capD τ cap) = .ok (f d) ∧ (f d).pure = true) (hl : ds.length ≤ 16777216) :
    eComp it (gN 0) bTrue elt 1 cap τ = .ok (.lst .own ((frzL ds).map f)) := by
  have hp : pureL ((frzL ds).map f) = true := pureL_of fun d m => by
    obtain ⟨x, hx, rfl⟩ := List.mem_map.mp m
    exact (he x hx).2
  have hl' : ((frzL ds).map f).length ≤ 16777216 := by rw [List.length_map, frzL_eq, List.length_map]; exact hl
  have hc : compD (gN 0) bTrue elt (frzL ds) (List.replicate 1 none ++ capD τ cap) = .ok ((frzL ds).map f) := compD_all f none fun d m => ⟨(he d m).1, hasBor_pure _ (he d m).2⟩
  unfold eComp
  rw [hit, Res.bind_ok]
  simp only [hc, if_pos hl', toBorL_pure _ hp, ite_self]
theorem eComp_if {it : SD → Res (Bool × List D)} {tt : SD → Res Bool} {elt : SD → Res D} {cap : List (PySem.Str × Nat)} {τ : SD} {fl : Bool} {ds : List D} (p : D → Bool) (f : D → D) (hit : it τ = .ok (fl, ds)) (ht : ∀ d ∈ frzL ds, tt (some d :: capD τ cap) = .ok (p d)) (he : ∀ d ∈ frzL ds, p d = true → elt (some d :: capD τ cap) = .ok (f d) ∧ (f d).pure = true) (hl : ds.length ≤ 16777216) :
    eComp it (gN 0) tt elt 1 cap τ = .ok (.lst .own (((frzL ds).filter p).map f)) := by
  have hp : pureL (((frzL ds).filter p).map f) = true := pureL_of fun d m => by
    obtain ⟨x, hx, rfl⟩ := List.mem_map.mp m
    obtain ⟨h1, h2⟩ := List.mem_filter.mp hx
    exact (he x h1 h2).2
  have hl' : (((frzL ds).filter p).map f).length ≤ 16777216 := by
    rw [List.length_map]
    refine Nat.le_trans (List.length_filter_le _ _) ?_
    rw [frzL_eq, List.length_map]; exact hl
  have hc : compD (gN 0) tt elt (frzL ds) (List.replicate 1 none ++ capD τ cap) = .ok (((frzL ds).filter p).map f) := compD_one p f none ht fun d m hp => ⟨(he d m hp).1, hasBor_pure _ (he d m hp).2⟩
  unfold eComp
  rw [hit, Res.bind_ok]
  simp only [hc, if_pos hl', toBorL_pure _ hp, ite_self]
/-! slices by a place -/
theorem sIx_nat (n d a : Nat) : HT.sIx n d (some (a : Int)) = min a n := by
  unfold HT.sIx
  have h : ¬ (a : Int) < 0 := by omega
  simp only [h, if_false]
  omega
theorem cut_from {α : Type} (xs : List α) (a : Nat) : cut xs (some (a : Int)) none = xs.drop a := by
  unfold cut
  rw [sIx_nat, show HT.sIx xs.length xs.length none = xs.length from rfl]
  by_cases h : a ≤ xs.length
  · rw [Nat.min_eq_left h, List.take_of_length_le (by simp)]
  · rw [List.drop_eq_nil_of_le (by omega : xs.length ≤ a), List.drop_eq_nil_of_le (by omega), List.take_nil]
theorem cut_to {α : Type} (xs : List α) (a : Nat) : cut xs none (some (a : Int)) = xs.take a := by
  unfold cut
  rw [sIx_nat, show HT.sIx xs.length 0 none = 0 from rfl, List.drop_zero, Nat.sub_zero]
  by_cases h : a ≤ xs.length
  · rw [Nat.min_eq_left h]
  · rw [Nat.min_eq_right (by omega), List.take_of_length_le (Nat.le_refl _), List.take_of_length_le (by omega)]
theorem bor_own {xs : List D} (h : pureL xs = true) : (D.lst .own xs).hasBor = false := by
  show (false || hasBorL xs) = false
  rw [hasBorL_pure xs h]; rfl
theorem eA_ok {g : List D → Res D} {f : SD → Res (List D)} {τ : SD} {ds : List D} (h : f τ = .ok ds) : eA g f τ = g ds := by unfold eA; rw [h]; rfl
theorem aCons_ok {f : SD → Res D} {g : SD → Res (List D)} {τ : SD} {d : D} {ds : List D} (h1 : f τ = .ok d) (h2 : g τ = .ok ds) : aCons f g τ = .ok (d :: ds) := by unfold aCons; rw [h1, h2]; rfl
theorem aOne {f : SD → Res D} {τ : SD} {d : D} (h1 : f τ = .ok d) : aCons f aNil τ = .ok [d] := aCons_ok h1 rfl
theorem ret_rt {e : SD → Res D} {τ : SD} {d : D} (h : e τ = .ok d) (hb : d.hasBor = false) : sRet e τ = .rt d := by unfold sRet; rw [h, toFl_ok, unbor_id d hb]
theorem var_pure {i : Nat} {τ : SD} {d : D} (h : τ[i]? = some (some d)) (hp : d.pure = true) : eVar i τ = .ok d := by unfold eVar; rw [h]; simp [view_pure d hp]
theorem var_frz {i : Nat} {τ : SD} {xs : List D} (h : τ[i]? = some (some (.lst .frz xs))) (hp : pureL xs = true) : eVar i τ = .ok (.lst .frz xs) := by unfold eVar; rw [h]; simp [D.view, Tg.view, viewL_pure xs hp]
theorem var_own {i : Nat} {τ : SD} {xs : List D} (h : τ[i]? = some (some (.lst .own xs))) (hp : pureL xs = true) : eVar i τ = .ok (.lst .bor xs) := by unfold eVar; rw [h]; simp [D.view, Tg.view, viewL_pure xs hp]
end DL
set_option Elab.async false
set_option linter.all false
set_option maxRecDepth 100000
set_option maxHeartbeats 1000000
namespace KL
open DL
abbrev S (ns : List Int) : D := .lst .frz (ns.map D.int)
theorem cell_at {ns : List Int} {k : Int} (h0 : 0 ≤ k) (h1 : k < ns.length) : L2.atI (ns.map D.int) k = some (.int (M.cell ns k)) := by
  refine atI_of (j := k.toNat) (by omega) ?_
  have hn : k.toNat < ns.length := by omega
  unfold M.cell
  simp [hn]
theorem cell_out {ns : List Int} {k : Int} (h1 : ¬ k < ns.length) : M.cell ns k = 0 := by
  unfold M.cell
  rw [List.getD_eq_getElem?_getD, List.getElem?_eq_none (by omega)]
  rfl
theorem cell_eq (ns : List Int) {k : Int} (h : 0 ≤ k) : G__law_cell [S ns, .int k] = .ok (.int (M.cell ns k)) := by
  by_cases h1 : k < ns.length
  · simp [G__law_cell, g__law_cell, runF, sSeq, sIf, sSet, sRet, sRetV, sRetN, sNext, sExpr, sApp, sRev, sFrz, sDput, sFor, sNever, eT, eBin, eVar, eC, eA, eUn, eAnd, eOr, eNot, eIf, eCut, eP, eP0, eIt, eRng1, eRng2, eEnum, eCall, callD, eGet2, eDict, eComp, aCons, aNil, bNot, bAnd, bOr, bTrue, lenD, max2D, min2D, listD, tupleD, tupD, lstD, itemsD, enumD, ii0, iiD, L2.CDiv, L2.CPow, addD, eqD, neD, ofO, eqFlat, isND, asB, negD, D.view, viewL, Tg.view, D.frz, frzL, D.hasBor, hasBorL, D.hasOwn, hasOwnL, D.toBor, toBorL, Tg.toBor, setD, D.unbor, unborL, Tg.unbor, D.pure, pureL, ownL, ownDc, gN, gT, gsCons, gsNil, instD, D.isExc, isB, isI, isS, isL, isTp, isDc, frzAt, capD, capOwn, sortedD, lenSetD, cutD, dinD, dgetD, dget2D, keyK, keyF, keyFs, KT.kind, ixD, frzL_ints, h1, cell_at h h1]
  · simp [G__law_cell, g__law_cell, runF, sSeq, sIf, sSet, sRet, sRetV, sRetN, sNext, sExpr, sApp, sRev, sFrz, sDput, sFor, sNever, eT, eBin, eVar, eC, eA, eUn, eAnd, eOr, eNot, eIf, eCut, eP, eP0, eIt, eRng1, eRng2, eEnum, eCall, callD, eGet2, eDict, eComp, aCons, aNil, bNot, bAnd, bOr, bTrue, lenD, max2D, min2D, listD, tupleD, tupD, lstD, itemsD, enumD, ii0, iiD, L2.CDiv, L2.CPow, addD, eqD, neD, ofO, eqFlat, isND, asB, negD, D.view, viewL, Tg.view, D.frz, frzL, D.hasBor, hasBorL, D.hasOwn, hasOwnL, D.toBor, toBorL, Tg.toBor, setD, D.unbor, unborL, Tg.unbor, D.pure, pureL, ownL, ownDc, gN, gT, gsCons, gsNil, instD, D.isExc, isB, isI, isS, isL, isTp, isDc, frzAt, capD, capOwn, sortedD, lenSetD, cutD, dinD, dgetD, dget2D, keyK, keyF, keyFs, KT.kind, ixD, frzL_ints, h1, cell_out h1]
theorem many_eq (c : Int) : G__law_many [.int c] = .ok (.int (M.many c)) := by
  unfold M.many
  by_cases h1 : c / 9 % 8 = 1
  · simp [G__law_many, g__law_many, runF, sSeq, sIf, sSet, sRet, sRetV, sRetN, sNext, sExpr, sApp, sRev, sFrz, sDput, sFor, sNever, eT, eBin, eVar, eC, eA, eUn, eAnd, eOr, eNot, eIf, eCut, eP, eP0, eIt, eRng1, eRng2, eEnum, eCall, callD, eGet2, eDict, eComp, aCons, aNil, bNot, bAnd, bOr, bTrue, lenD, max2D, min2D, listD, tupleD, tupD, lstD, itemsD, enumD, ii0, iiD, L2.CDiv, L2.CPow, addD, eqD, neD, ofO, eqFlat, isND, asB, negD, D.view, viewL, Tg.view, D.frz, frzL, D.hasBor, hasBorL, D.hasOwn, hasOwnL, D.toBor, toBorL, Tg.toBor, setD, D.unbor, unborL, Tg.unbor, D.pure, pureL, ownL, ownDc, gN, gT, gsCons, gsNil, instD, D.isExc, isB, isI, isS, isL, isTp, isDc, frzAt, capD, capOwn, sortedD, lenSetD, cutD, dinD, dgetD, dget2D, keyK, keyF, keyFs, KT.kind, ixD, frzL_ints, h1, L2.CDiv]
  · simp [G__law_many, g__law_many, runF, sSeq, sIf, sSet, sRet, sRetV, sRetN, sNext, sExpr, sApp, sRev, sFrz, sDput, sFor, sNever, eT, eBin, eVar, eC, eA, eUn, eAnd, eOr, eNot, eIf, eCut, eP, eP0, eIt, eRng1, eRng2, eEnum, eCall, callD, eGet2, eDict, eComp, aCons, aNil, bNot, bAnd, bOr, bTrue, lenD, max2D, min2D, listD, tupleD, tupD, lstD, itemsD, enumD, ii0, iiD, L2.CDiv, L2.CPow, addD, eqD, neD, ofO, eqFlat, isND, asB, negD, D.view, viewL, Tg.view, D.frz, frzL, D.hasBor, hasBorL, D.hasOwn, hasOwnL, D.toBor, toBorL, Tg.toBor, setD, D.unbor, unborL, Tg.unbor, D.pure, pureL, ownL, ownDc, gN, gT, gsCons, gsNil, instD, D.isExc, isB, isI, isS, isL, isTp, isDc, frzAt, capD, capOwn, sortedD, lenSetD, cutD, dinD, dgetD, dget2D, keyK, keyF, keyFs, KT.kind, ixD, frzL_ints, h1, L2.CDiv]
theorem maxI_pos (x : Int) : 0 < M.maxI 1 x := by
  unfold M.maxI
  split <;> omega
theorem mul_r {i j : Int} (h : -(2 ^ 64) < j ∧ j < 2 ^ 64) : CMulD i j := .inl (.inr h)
theorem mul_l {i j : Int} (h : -(2 ^ 64) < i ∧ i < 2 ^ 64) : CMulD i j := .inl (.inl h)
theorem mix_eq (ns : List Int) {a k : Int} (ha : 0 ≤ a) (hk : 0 ≤ k) : G__law_mix [S ns, .int a, .int k] = .ok (.int (M.mix ns a k)) := by
  have h1 := maxI_pos ((ns.length : Int) - a)
  have h2 : 0 ≤ a + k % M.maxI 1 ((ns.length : Int) - a) := Int.add_nonneg ha (Int.emod_nonneg _ (by omega))
  have c1 : CMulD (M.cell ns (a + k % M.maxI 1 ((ns.length : Int) - a))) 48271 := mul_r (by decide)
  have c2 : CMulD k 16807 := mul_r (by decide)
  have e := cell_eq ns h2
  unfold M.maxI at *
  simp [G__law_mix, g__law_mix, runF, sSeq, sIf, sSet, sRet, sRetV, sRetN, sNext, sExpr, sApp, sRev, sFrz, sDput, sFor, sNever, eT, eBin, eVar, eC, eA, eUn, eAnd, eOr, eNot, eIf, eCut, eP, eP0, eIt, eRng1, eRng2, eEnum, eCall, callD, eGet2, eDict, eComp, aCons, aNil, bNot, bAnd, bOr, bTrue, lenD, max2D, min2D, listD, tupleD, tupD, lstD, itemsD, enumD, ii0, iiD, L2.CDiv, L2.CPow, addD, eqD, neD, ofO, eqFlat, isND, asB, negD, D.view, viewL, Tg.view, D.frz, frzL, D.hasBor, hasBorL, D.hasOwn, hasOwnL, D.toBor, toBorL, Tg.toBor, setD, D.unbor, unborL, Tg.unbor, D.pure, pureL, ownL, ownDc, gN, gT, gsCons, gsNil, instD, D.isExc, isB, isI, isS, isL, isTp, isDc, frzAt, capD, capOwn, sortedD, lenSetD, cutD, dinD, dgetD, dget2D, keyK, keyF, keyFs, KT.kind, ixD, frzL_ints, h1, e, c1, c2, M.mix, M.maxI]
/-- the greatest number -/
def big : Int := 10 ^ 64 * 10 ^ 64
theorem big_pos : 0 < big := by decide
theorem pow64 : powD (.int 10) (.int 64) = .ok (.int (10 ^ 64)) := by rfl
theorem mul64 : mulD (.int (10 ^ 64)) (.int (10 ^ 64)) = .ok (.int big) := by rfl
theorem bigE (τ : SD) : eBin mulD (eBin powD (eC (.int 10)) (eC (.int 64))) (eBin powD (eC (.int 10)) (eC (.int 64))) τ = .ok (.int big) := by
  simp only [eBin, eC, Res.bind_ok, pow64, mul64]
theorem mod_big (i : Int) : modD (.int i) (.int big) = .ok (.int (i % big)) := by
  have := big_pos
  simp [iiD, this]
theorem gap_at (ns : List Int) (a : Int) : L2.atI [D.int 1, D.int 3, D.int 100000000000000000000000000000] (M.cell ns (a + 1) % 3) = some (.int (M.gap ns a)) := by
  unfold M.gap
  have h1 : 0 ≤ M.cell ns (a + 1) % 3 := Int.emod_nonneg _ (by decide)
  have h2 : M.cell ns (a + 1) % 3 < 3 := Int.emod_lt_of_pos _ (by decide)
  have h : M.cell ns (a + 1) % 3 = 0 ∨ M.cell ns (a + 1) % 3 = 1 ∨ M.cell ns (a + 1) % 3 = 2 := by omega
  rcases h with h | h | h <;> rw [h] <;> rfl
def stP (ns : List Int) (a : Int) (n i : Nat) : SD := [some (S ns), some (.int a), some (.int n), some (.int (M.cell ns a)), some (.int (M.cell ns (a + 1))), some (.int (M.place big ns a i)), some (.lst .own ((M.places big ns a i).map D.int)), if i = 0 then none else some (.int ((i : Int) - 1))]
theorem places_succ (ns : List Int) (a : Int) (i : Nat) : M.places big ns a (i + 1) = M.places big ns a i ++ [M.place big ns a i] := by
  unfold M.places
  rw [List.range_succ, List.map_append]
  rfl
theorem places_turn (ns : List Int) {a : Int} {n i : Nat} (hi : i < 24) (o : Option D) : g__law_places_b1 [some (S ns), some (.int a), some (.int n), some (.int (M.cell ns a)), some (.int (M.cell ns (a + 1))), some (.int (M.place big ns a i)), some (.lst .own ((M.places big ns a i).map D.int)), some (.int (i : Int))] = .nx (stP ns a n (i + 1)) := by
  have h1 : (M.places big ns a i).length < 16777216 := by rw [M.places_len]; omega
  have h2 := M.gap_pos ns a
  have h3 : (0 : Int) < (i : Int) + 1 ∧ (i : Int) + 1 < 1073741824 := by omega
  have h4 := gap_at ns a
  simp [g__law_places_b1, runF, sSeq, sIf, sSet, sRet, sRetV, sRetN, sNext, sExpr, sApp, sRev, sFrz, sDput, sFor, sNever, eT, eBin, eVar, eC, eA, eUn, eAnd, eOr, eNot, eIf, eCut, eP, eP0, eIt, eRng1, eRng2, eEnum, eCall, callD, eGet2, eDict, eComp, aCons, aNil, bNot, bAnd, bOr, bTrue, lenD, max2D, min2D, listD, tupleD, tupD, lstD, itemsD, enumD, ii0, iiD, L2.CDiv, L2.CPow, addD, eqD, neD, ofO, eqFlat, isND, asB, negD, D.view, viewL, Tg.view, D.frz, frzL, D.hasBor, hasBorL, D.hasOwn, hasOwnL, D.toBor, toBorL, Tg.toBor, setD, D.unbor, unborL, Tg.unbor, D.pure, pureL, ownL, ownDc, gN, gT, gsCons, gsNil, instD, D.isExc, isB, isI, isS, isL, isTp, isDc, frzAt, capD, capOwn, sortedD, lenSetD, cutD, dinD, dgetD, dget2D, keyK, keyF, keyFs, KT.kind, ixD, frzL_ints, h1, h2, h3, h4, stP, places_succ, M.place]
theorem places_loop (ns : List Int) {a : Int} {n : Nat} (hn : n ≤ 24) : forD (gN 7) g__law_places_b1 ((List.range n).map fun k : Nat => D.int (k : Int)) (stP ns a n 0) = .nx (stP ns a n n) := by
  have key := forD_eq (tg := gN 7) (body := g__law_places_b1) (stP ns a n) (ds := (List.range n).map fun k : Nat => D.int (k : Int)) 0 fun j d hd => by
    have hj : j < n := by
      have := (List.getElem?_eq_some_iff.mp hd).1
      simpa using this
    have ed : d = .int (j : Int) := by
      rw [List.getElem?_map, List.getElem?_range hj] at hd
      exact (Option.some.inj hd).symm
    subst ed
    rw [Nat.zero_add]
    exact ⟨_, rfl, places_turn ns (by omega) none⟩
  rw [List.length_map, List.length_range, Nat.zero_add] at key
  exact key
theorem places_s3 (ns : List Int) {a : Int} {n : Nat} : (sIf (eT (eBin eqD (eBin modD (eVar 3) (eC (.int 2))) (eC (.int 1)))) (sSet 5 (eBin modD (eBin fdivD (eVar 3) (eC (.int 2))) (eBin mulD (eBin powD (eC (.int 10)) (eC (.int 64))) (eBin powD (eC (.int 10)) (eC (.int 64)))))) sNext) [some (S ns), some (.int a), some (.int n), some (.int (M.cell ns a)), some (.int (M.cell ns (a + 1))), some (.int (M.cell ns a / 2 % 4)), none, none] = .nx [some (S ns), some (.int a), some (.int n), some (.int (M.cell ns a)), some (.int (M.cell ns (a + 1))), some (.int (M.place big ns a 0)), none, none] := by
  have e3 := M.place_zero big ns a
  rw [e3]
  generalize hbig : big = bg
  by_cases h1 : M.cell ns a % 2 = 1
  · rw [if_pos h1, if_nx (t := true) (by simp [runF, sSeq, sIf, sSet, sRet, sRetV, sRetN, sNext, sExpr, sApp, sRev, sFrz, sDput, sFor, sNever, eT, eBin, eVar, eC, eA, eUn, eAnd, eOr, eNot, eIf, eCut, eP, eP0, eIt, eRng1, eRng2, eEnum, eCall, callD, eGet2, eDict, eComp, aCons, aNil, bNot, bAnd, bOr, bTrue, lenD, max2D, min2D, listD, tupleD, tupD, lstD, itemsD, enumD, ii0, iiD, L2.CDiv, L2.CPow, addD, eqD, neD, ofO, eqFlat, isND, asB, negD, D.view, viewL, Tg.view, D.frz, frzL, D.hasBor, hasBorL, D.hasOwn, hasOwnL, D.toBor, toBorL, Tg.toBor, setD, D.unbor, unborL, Tg.unbor, D.pure, pureL, ownL, ownDc, gN, gT, gsCons, gsNil, instD, D.isExc, isB, isI, isS, isL, isTp, isDc, frzAt, capD, capOwn, sortedD, lenSetD, cutD, dinD, dgetD, dget2D, keyK, keyF, keyFs, KT.kind, ixD, frzL_ints, h1]), if_pos rfl, ← hbig]
    exact set_nx ((eBin_ok (x := .int (M.cell ns a / 2)) (by simp [runF, sSeq, sIf, sSet, sRet, sRetV, sRetN, sNext, sExpr, sApp, sRev, sFrz, sDput, sFor, sNever, eT, eBin, eVar, eC, eA, eUn, eAnd, eOr, eNot, eIf, eCut, eP, eP0, eIt, eRng1, eRng2, eEnum, eCall, callD, eGet2, eDict, eComp, aCons, aNil, bNot, bAnd, bOr, bTrue, lenD, max2D, min2D, listD, tupleD, tupD, lstD, itemsD, enumD, ii0, iiD, L2.CDiv, L2.CPow, addD, eqD, neD, ofO, eqFlat, isND, asB, negD, D.view, viewL, Tg.view, D.frz, frzL, D.hasBor, hasBorL, D.hasOwn, hasOwnL, D.toBor, toBorL, Tg.toBor, setD, D.unbor, unborL, Tg.unbor, D.pure, pureL, ownL, ownDc, gN, gT, gsCons, gsNil, instD, D.isExc, isB, isI, isS, isL, isTp, isDc, frzAt, capD, capOwn, sortedD, lenSetD, cutD, dinD, dgetD, dget2D, keyK, keyF, keyFs, KT.kind, ixD, frzL_ints]) (bigE _)).trans (mod_big _)) rfl
  · rw [if_neg h1, if_nx (t := false) (by simp [runF, sSeq, sIf, sSet, sRet, sRetV, sRetN, sNext, sExpr, sApp, sRev, sFrz, sDput, sFor, sNever, eT, eBin, eVar, eC, eA, eUn, eAnd, eOr, eNot, eIf, eCut, eP, eP0, eIt, eRng1, eRng2, eEnum, eCall, callD, eGet2, eDict, eComp, aCons, aNil, bNot, bAnd, bOr, bTrue, lenD, max2D, min2D, listD, tupleD, tupD, lstD, itemsD, enumD, ii0, iiD, L2.CDiv, L2.CPow, addD, eqD, neD, ofO, eqFlat, isND, asB, negD, D.view, viewL, Tg.view, D.frz, frzL, D.hasBor, hasBorL, D.hasOwn, hasOwnL, D.toBor, toBorL, Tg.toBor, setD, D.unbor, unborL, Tg.unbor, D.pure, pureL, ownL, ownDc, gN, gT, gsCons, gsNil, instD, D.isExc, isB, isI, isS, isL, isTp, isDc, frzAt, capD, capOwn, sortedD, lenSetD, cutD, dinD, dgetD, dget2D, keyK, keyF, keyFs, KT.kind, ixD, frzL_ints, h1]), if_neg Bool.false_ne_true]
    rfl
theorem places_s5 (ns : List Int) {a : Int} {n : Nat} (hn : n ≤ 24) : sFor [] (eRng1 (aCons (eVar 2) aNil)) (gN 7) g__law_places_b1 (stP ns a n 0) = .nx (stP ns a n n) := by
  have loop := places_loop ns (a := a) hn
  have e : (stP ns a n 0)[2]? = some (some (.int n)) := rfl
  have hr := range1_nat (n := n) (by omega)
  simp [sFor, frzAt, eRng1, aCons, eVar, aNil, e, hr, D.view, frzL_ints, loop]
theorem places_eq (ns : List Int) {a : Int} {n : Nat} (ha : 0 ≤ a) (hn : n ≤ 24) : G__law_places [S ns, .int a, .int n] = .ok (.lst .own ((M.places big ns a n).map D.int)) := by
  have e1 := cell_eq ns ha
  have e2 := cell_eq ns (show 0 ≤ a + 1 by omega)
  suffices h : g__law_places [some (S ns), some (.int a), some (.int n), none, none, none, none, none] = .rt (.lst .own ((M.places big ns a n).map D.int)) by
    simp [G__law_places, runF, List.replicate, h]
  unfold g__law_places
  rw [seq_nx (set_nx (d := .int (M.cell ns a)) (by simp [runF, sSeq, sIf, sSet, sRet, sRetV, sRetN, sNext, sExpr, sApp, sRev, sFrz, sDput, sFor, sNever, eT, eBin, eVar, eC, eA, eUn, eAnd, eOr, eNot, eIf, eCut, eP, eP0, eIt, eRng1, eRng2, eEnum, eCall, callD, eGet2, eDict, eComp, aCons, aNil, bNot, bAnd, bOr, bTrue, lenD, max2D, min2D, listD, tupleD, tupD, lstD, itemsD, enumD, ii0, iiD, L2.CDiv, L2.CPow, addD, eqD, neD, ofO, eqFlat, isND, asB, negD, D.view, viewL, Tg.view, D.frz, frzL, D.hasBor, hasBorL, D.hasOwn, hasOwnL, D.toBor, toBorL, Tg.toBor, setD, D.unbor, unborL, Tg.unbor, D.pure, pureL, ownL, ownDc, gN, gT, gsCons, gsNil, instD, D.isExc, isB, isI, isS, isL, isTp, isDc, frzAt, capD, capOwn, sortedD, lenSetD, cutD, dinD, dgetD, dget2D, keyK, keyF, keyFs, KT.kind, ixD, frzL_ints, e1]) rfl)]
  rw [seq_nx (set_nx (d := .int (M.cell ns (a + 1))) (by simp [runF, sSeq, sIf, sSet, sRet, sRetV, sRetN, sNext, sExpr, sApp, sRev, sFrz, sDput, sFor, sNever, eT, eBin, eVar, eC, eA, eUn, eAnd, eOr, eNot, eIf, eCut, eP, eP0, eIt, eRng1, eRng2, eEnum, eCall, callD, eGet2, eDict, eComp, aCons, aNil, bNot, bAnd, bOr, bTrue, lenD, max2D, min2D, listD, tupleD, tupD, lstD, itemsD, enumD, ii0, iiD, L2.CDiv, L2.CPow, addD, eqD, neD, ofO, eqFlat, isND, asB, negD, D.view, viewL, Tg.view, D.frz, frzL, D.hasBor, hasBorL, D.hasOwn, hasOwnL, D.toBor, toBorL, Tg.toBor, setD, D.unbor, unborL, Tg.unbor, D.pure, pureL, ownL, ownDc, gN, gT, gsCons, gsNil, instD, D.isExc, isB, isI, isS, isL, isTp, isDc, frzAt, capD, capOwn, sortedD, lenSetD, cutD, dinD, dgetD, dget2D, keyK, keyF, keyFs, KT.kind, ixD, frzL_ints, e2]) rfl)]
  rw [seq_nx (set_nx (d := .int (M.cell ns a / 2 % 4)) (by simp [runF, sSeq, sIf, sSet, sRet, sRetV, sRetN, sNext, sExpr, sApp, sRev, sFrz, sDput, sFor, sNever, eT, eBin, eVar, eC, eA, eUn, eAnd, eOr, eNot, eIf, eCut, eP, eP0, eIt, eRng1, eRng2, eEnum, eCall, callD, eGet2, eDict, eComp, aCons, aNil, bNot, bAnd, bOr, bTrue, lenD, max2D, min2D, listD, tupleD, tupD, lstD, itemsD, enumD, ii0, iiD, L2.CDiv, L2.CPow, addD, eqD, neD, ofO, eqFlat, isND, asB, negD, D.view, viewL, Tg.view, D.frz, frzL, D.hasBor, hasBorL, D.hasOwn, hasOwnL, D.toBor, toBorL, Tg.toBor, setD, D.unbor, unborL, Tg.unbor, D.pure, pureL, ownL, ownDc, gN, gT, gsCons, gsNil, instD, D.isExc, isB, isI, isS, isL, isTp, isDc, frzAt, capD, capOwn, sortedD, lenSetD, cutD, dinD, dgetD, dget2D, keyK, keyF, keyFs, KT.kind, ixD, frzL_ints]) rfl)]
  simp only [List.set_cons_succ, List.set_cons_zero]
  rw [seq_nx (places_s3 ns)]
  rw [seq_nx (set_nx (d := .lst .own []) (by simp [runF, sSeq, sIf, sSet, sRet, sRetV, sRetN, sNext, sExpr, sApp, sRev, sFrz, sDput, sFor, sNever, eT, eBin, eVar, eC, eA, eUn, eAnd, eOr, eNot, eIf, eCut, eP, eP0, eIt, eRng1, eRng2, eEnum, eCall, callD, eGet2, eDict, eComp, aCons, aNil, bNot, bAnd, bOr, bTrue, lenD, max2D, min2D, listD, tupleD, tupD, lstD, itemsD, enumD, ii0, iiD, L2.CDiv, L2.CPow, addD, eqD, neD, ofO, eqFlat, isND, asB, negD, D.view, viewL, Tg.view, D.frz, frzL, D.hasBor, hasBorL, D.hasOwn, hasOwnL, D.toBor, toBorL, Tg.toBor, setD, D.unbor, unborL, Tg.unbor, D.pure, pureL, ownL, ownDc, gN, gT, gsCons, gsNil, instD, D.isExc, isB, isI, isS, isL, isTp, isDc, frzAt, capD, capOwn, sortedD, lenSetD, cutD, dinD, dgetD, dget2D, keyK, keyF, keyFs, KT.kind, ixD, frzL_ints]) rfl)]
  simp only [List.set_cons_succ, List.set_cons_zero]
  exact (seq_nx (places_s5 ns (a := a) hn)).trans rfl
theorem three_at {x y z : Int} {i : Int} (h0 : 0 ≤ i) (h1 : i < 3) (hx : 0 ≤ x) (hy : 0 ≤ y) (hz : 0 ≤ z) : ∃ v, 0 ≤ v ∧ L2.atI [D.int x, D.int y, D.int z] i = some (.int v) := by
  have h : i = 0 ∨ i = 1 ∨ i = 2 := by omega
  rcases h with h | h | h
  · exact ⟨x, hx, by rw [h]; rfl⟩
  · exact ⟨y, hy, by rw [h]; rfl⟩
  · exact ⟨z, hz, by rw [h]; rfl⟩
/-- an int from 0 on -/
def NnD (d : D) : Prop := ∃ v : Int, 0 ≤ v ∧ d = .int v
def RtNn (r : Fl) : Prop := ∃ v : Int, 0 ≤ v ∧ r = .rt (.int v)
theorem shade_ex (ns : List Int) {a k j : Int} (ha : 0 ≤ a) (hk : 0 ≤ k) (hk2 : k ≤ 24) (hj : 0 ≤ j) (hj2 : j ≤ 24) : ∃ v, 0 ≤ v ∧ G__law_shade [S ns, .int a, .int k, .int j] = .ok (.int v) := by
  have e2 := cell_eq ns (show 0 ≤ a + 2 by omega)
  have e3 := cell_eq ns (show 0 ≤ a + 3 by omega)
  have ha4 : 0 ≤ a + 4 := by omega
  have m1 := mix_eq ns ha4 (show 0 ≤ 300 + k by omega)
  have m2 := mix_eq ns ha4 (show 0 ≤ 300 + j by omega)
  have hkk : 0 ≤ k * (k - 1) / 2 := by
    have : 0 ≤ k * (k - 1) := by
      by_cases h : k = 0
      · rw [h]; decide
      · exact Int.mul_nonneg hk (by omega)
    omega
  have m3 := mix_eq ns ha4 (show 0 ≤ k * (k - 1) / 2 + j by omega)
  have n3 := M.mix_nn ns (a + 4) (k * (k - 1) / 2 + j)
  have c1 : CMulD k (k - 1) := mul_l (by omega)
  have m4 := fun {x : Int} (h : 0 ≤ x) => mix_eq ns ha4 h
  have n4 := M.mix_nn ns (a + 4)
  generalize hcell : M.cell ns (a + 2) = hd at *
  generalize M.cell ns (a + 3) = c3 at *
  generalize M.mix ns (a + 4) (300 + k) = x1 at *
  generalize M.mix ns (a + 4) (300 + j) = x2 at *
  generalize M.mix ns (a + 4) (k * (k - 1) / 2 + j) = x3 at *
  have hb : 0 < 1 + hd / 4 % 4 := by omega
  have ho0 : 0 ≤ x1 / 3 % (1 + hd / 4 % 4) := Int.emod_nonneg _ (by omega)
  have ht0 : 0 ≤ x2 / 3 % (1 + hd / 4 % 4) := Int.emod_nonneg _ (by omega)
  suffices h : RtNn (g__law_shade [some (S ns), some (.int a), some (.int k), some (.int j), none, none, none, none, none, none]) by
    obtain ⟨v, hv, e⟩ := h
    refine ⟨v, hv, ?_⟩
    simp [G__law_shade, runF, List.replicate, e]
  unfold g__law_shade
  refine seq_set RtNn (.int hd) (by simp [runF, sSeq, sIf, sSet, sRet, sRetV, sRetN, sNext, sExpr, sApp, sRev, sFrz, sDput, sFor, sNever, eT, eBin, eVar, eC, eA, eUn, eAnd, eOr, eNot, eIf, eCut, eP, eP0, eIt, eRng1, eRng2, eEnum, eCall, callD, eGet2, eDict, eComp, aCons, aNil, bNot, bAnd, bOr, bTrue, lenD, max2D, min2D, listD, tupleD, tupD, lstD, itemsD, enumD, ii0, iiD, L2.CDiv, L2.CPow, addD, eqD, neD, ofO, eqFlat, isND, asB, negD, D.view, viewL, Tg.view, D.frz, frzL, D.hasBor, hasBorL, D.hasOwn, hasOwnL, D.toBor, toBorL, Tg.toBor, setD, D.unbor, unborL, Tg.unbor, D.pure, pureL, ownL, ownDc, gN, gT, gsCons, gsNil, instD, D.isExc, isB, isI, isS, isL, isTp, isDc, frzAt, capD, capOwn, sortedD, lenSetD, cutD, dinD, dgetD, dget2D, keyK, keyF, keyFs, KT.kind, ixD, frzL_ints, e2]) rfl ?_
  refine seq_set RtNn (.int (1 + hd / 4 % 4)) (by simp [runF, sSeq, sIf, sSet, sRet, sRetV, sRetN, sNext, sExpr, sApp, sRev, sFrz, sDput, sFor, sNever, eT, eBin, eVar, eC, eA, eUn, eAnd, eOr, eNot, eIf, eCut, eP, eP0, eIt, eRng1, eRng2, eEnum, eCall, callD, eGet2, eDict, eComp, aCons, aNil, bNot, bAnd, bOr, bTrue, lenD, max2D, min2D, listD, tupleD, tupD, lstD, itemsD, enumD, ii0, iiD, L2.CDiv, L2.CPow, addD, eqD, neD, ofO, eqFlat, isND, asB, negD, D.view, viewL, Tg.view, D.frz, frzL, D.hasBor, hasBorL, D.hasOwn, hasOwnL, D.toBor, toBorL, Tg.toBor, setD, D.unbor, unborL, Tg.unbor, D.pure, pureL, ownL, ownDc, gN, gT, gsCons, gsNil, instD, D.isExc, isB, isI, isS, isL, isTp, isDc, frzAt, capD, capOwn, sortedD, lenSetD, cutD, dinD, dgetD, dget2D, keyK, keyF, keyFs, KT.kind, ixD, frzL_ints]) rfl ?_
  refine seq_set RtNn (.int (x1 / 3 % (1 + hd / 4 % 4))) (by simp [runF, sSeq, sIf, sSet, sRet, sRetV, sRetN, sNext, sExpr, sApp, sRev, sFrz, sDput, sFor, sNever, eT, eBin, eVar, eC, eA, eUn, eAnd, eOr, eNot, eIf, eCut, eP, eP0, eIt, eRng1, eRng2, eEnum, eCall, callD, eGet2, eDict, eComp, aCons, aNil, bNot, bAnd, bOr, bTrue, lenD, max2D, min2D, listD, tupleD, tupD, lstD, itemsD, enumD, ii0, iiD, L2.CDiv, L2.CPow, addD, eqD, neD, ofO, eqFlat, isND, asB, negD, D.view, viewL, Tg.view, D.frz, frzL, D.hasBor, hasBorL, D.hasOwn, hasOwnL, D.toBor, toBorL, Tg.toBor, setD, D.unbor, unborL, Tg.unbor, D.pure, pureL, ownL, ownDc, gN, gT, gsCons, gsNil, instD, D.isExc, isB, isI, isS, isL, isTp, isDc, frzAt, capD, capOwn, sortedD, lenSetD, cutD, dinD, dgetD, dget2D, keyK, keyF, keyFs, KT.kind, ixD, frzL_ints, m1, hb]) rfl ?_
  refine seq_set RtNn (.int (x2 / 3 % (1 + hd / 4 % 4))) (by simp [runF, sSeq, sIf, sSet, sRet, sRetV, sRetN, sNext, sExpr, sApp, sRev, sFrz, sDput, sFor, sNever, eT, eBin, eVar, eC, eA, eUn, eAnd, eOr, eNot, eIf, eCut, eP, eP0, eIt, eRng1, eRng2, eEnum, eCall, callD, eGet2, eDict, eComp, aCons, aNil, bNot, bAnd, bOr, bTrue, lenD, max2D, min2D, listD, tupleD, tupD, lstD, itemsD, enumD, ii0, iiD, L2.CDiv, L2.CPow, addD, eqD, neD, ofO, eqFlat, isND, asB, negD, D.view, viewL, Tg.view, D.frz, frzL, D.hasBor, hasBorL, D.hasOwn, hasOwnL, D.toBor, toBorL, Tg.toBor, setD, D.unbor, unborL, Tg.unbor, D.pure, pureL, ownL, ownDc, gN, gT, gsCons, gsNil, instD, D.isExc, isB, isI, isS, isL, isTp, isDc, frzAt, capD, capOwn, sortedD, lenSetD, cutD, dinD, dgetD, dget2D, keyK, keyF, keyFs, KT.kind, ixD, frzL_ints, m2, hb]) rfl ?_
  generalize x1 / 3 % (1 + hd / 4 % 4) = one at *
  generalize x2 / 3 % (1 + hd / 4 % 4) = other at *
  refine seq_set RtNn (.int (x3 / 5)) (by simp [runF, sSeq, sIf, sSet, sRet, sRetV, sRetN, sNext, sExpr, sApp, sRev, sFrz, sDput, sFor, sNever, eT, eBin, eVar, eC, eA, eUn, eAnd, eOr, eNot, eIf, eCut, eP, eP0, eIt, eRng1, eRng2, eEnum, eCall, callD, eGet2, eDict, eComp, aCons, aNil, bNot, bAnd, bOr, bTrue, lenD, max2D, min2D, listD, tupleD, tupD, lstD, itemsD, enumD, ii0, iiD, L2.CDiv, L2.CPow, addD, eqD, neD, ofO, eqFlat, isND, asB, negD, D.view, viewL, Tg.view, D.frz, frzL, D.hasBor, hasBorL, D.hasOwn, hasOwnL, D.toBor, toBorL, Tg.toBor, setD, D.unbor, unborL, Tg.unbor, D.pure, pureL, ownL, ownDc, gN, gT, gsCons, gsNil, instD, D.isExc, isB, isI, isS, isL, isTp, isDc, frzAt, capD, capOwn, sortedD, lenSetD, cutD, dinD, dgetD, dget2D, keyK, keyF, keyFs, KT.kind, ixD, frzL_ints, m3, c1]) rfl ?_
  refine seq_ifset RtNn NnD ⟨decide (hd % 4 < 2) && !decide (one = other), by by_cases q : hd % 4 < 2 <;> simp [runF, sSeq, sIf, sSet, sRet, sRetV, sRetN, sNext, sExpr, sApp, sRev, sFrz, sDput, sFor, sNever, eT, eBin, eVar, eC, eA, eUn, eAnd, eOr, eNot, eIf, eCut, eP, eP0, eIt, eRng1, eRng2, eEnum, eCall, callD, eGet2, eDict, eComp, aCons, aNil, bNot, bAnd, bOr, bTrue, lenD, max2D, min2D, listD, tupleD, tupD, lstD, itemsD, enumD, ii0, iiD, L2.CDiv, L2.CPow, addD, eqD, neD, ofO, eqFlat, isND, asB, negD, D.view, viewL, Tg.view, D.frz, frzL, D.hasBor, hasBorL, D.hasOwn, hasOwnL, D.toBor, toBorL, Tg.toBor, setD, D.unbor, unborL, Tg.unbor, D.pure, pureL, ownL, ownDc, gN, gT, gsCons, gsNil, instD, D.isExc, isB, isI, isS, isL, isTp, isDc, frzAt, capD, capOwn, sortedD, lenSetD, cutD, dinD, dgetD, dget2D, keyK, keyF, keyFs, KT.kind, ixD, frzL_ints, q], fun _ => ?_⟩ ⟨.int (x3 / 5), rfl, _, by omega, rfl⟩ ?_
  · have hx : 0 ≤ 400 + 4 * (if other > one then other else one) + (if other < one then other else one) := by split <;> split <;> omega
    have c2 : CMulD 4 (if other > one then other else one) := mul_l (by decide)
    refine ⟨.int (M.mix ns (a + 4) (400 + 4 * (if other > one then other else one) + (if other < one then other else one)) / 5), by simp [runF, sSeq, sIf, sSet, sRet, sRetV, sRetN, sNext, sExpr, sApp, sRev, sFrz, sDput, sFor, sNever, eT, eBin, eVar, eC, eA, eUn, eAnd, eOr, eNot, eIf, eCut, eP, eP0, eIt, eRng1, eRng2, eEnum, eCall, callD, eGet2, eDict, eComp, aCons, aNil, bNot, bAnd, bOr, bTrue, lenD, max2D, min2D, listD, tupleD, tupD, lstD, itemsD, enumD, ii0, iiD, L2.CDiv, L2.CPow, addD, eqD, neD, ofO, eqFlat, isND, asB, negD, D.view, viewL, Tg.view, D.frz, frzL, D.hasBor, hasBorL, D.hasOwn, hasOwnL, D.toBor, toBorL, Tg.toBor, setD, D.unbor, unborL, Tg.unbor, D.pure, pureL, ownL, ownDc, gN, gT, gsCons, gsNil, instD, D.isExc, isB, isI, isS, isL, isTp, isDc, frzAt, capD, capOwn, sortedD, lenSetD, cutD, dinD, dgetD, dget2D, keyK, keyF, keyFs, KT.kind, ixD, frzL_ints, m4 hx, c2], rfl, _, ?_, rfl⟩
    have := n4 (400 + 4 * (if other > one then other else one) + (if other < one then other else one))
    omega
  · rintro _ ⟨v1, hv1, rfl⟩
    refine seq_ifset RtNn NnD ⟨decide (hd % 4 = 1) && decide (k * (k - 1) / 2 + j = hd / 32 % 36), by by_cases q : hd % 4 = 1 <;> simp [runF, sSeq, sIf, sSet, sRet, sRetV, sRetN, sNext, sExpr, sApp, sRev, sFrz, sDput, sFor, sNever, eT, eBin, eVar, eC, eA, eUn, eAnd, eOr, eNot, eIf, eCut, eP, eP0, eIt, eRng1, eRng2, eEnum, eCall, callD, eGet2, eDict, eComp, aCons, aNil, bNot, bAnd, bOr, bTrue, lenD, max2D, min2D, listD, tupleD, tupD, lstD, itemsD, enumD, ii0, iiD, L2.CDiv, L2.CPow, addD, eqD, neD, ofO, eqFlat, isND, asB, negD, D.view, viewL, Tg.view, D.frz, frzL, D.hasBor, hasBorL, D.hasOwn, hasOwnL, D.toBor, toBorL, Tg.toBor, setD, D.unbor, unborL, Tg.unbor, D.pure, pureL, ownL, ownDc, gN, gT, gsCons, gsNil, instD, D.isExc, isB, isI, isS, isL, isTp, isDc, frzAt, capD, capOwn, sortedD, lenSetD, cutD, dinD, dgetD, dget2D, keyK, keyF, keyFs, KT.kind, ixD, frzL_ints, q, c1], fun _ => ⟨.int (v1 + 1), by simp [runF, sSeq, sIf, sSet, sRet, sRetV, sRetN, sNext, sExpr, sApp, sRev, sFrz, sDput, sFor, sNever, eT, eBin, eVar, eC, eA, eUn, eAnd, eOr, eNot, eIf, eCut, eP, eP0, eIt, eRng1, eRng2, eEnum, eCall, callD, eGet2, eDict, eComp, aCons, aNil, bNot, bAnd, bOr, bTrue, lenD, max2D, min2D, listD, tupleD, tupD, lstD, itemsD, enumD, ii0, iiD, L2.CDiv, L2.CPow, addD, eqD, neD, ofO, eqFlat, isND, asB, negD, D.view, viewL, Tg.view, D.frz, frzL, D.hasBor, hasBorL, D.hasOwn, hasOwnL, D.toBor, toBorL, Tg.toBor, setD, D.unbor, unborL, Tg.unbor, D.pure, pureL, ownL, ownDc, gN, gT, gsCons, gsNil, instD, D.isExc, isB, isI, isS, isL, isTp, isDc, frzAt, capD, capOwn, sortedD, lenSetD, cutD, dinD, dgetD, dget2D, keyK, keyF, keyFs, KT.kind, ixD, frzL_ints], rfl, _, by omega, rfl⟩⟩ ⟨.int v1, rfl, _, hv1, rfl⟩ ?_
    rintro _ ⟨v2, hv2, rfl⟩
    refine seq_ifret RtNn ⟨decide (hd % 4 = 2) && decide (hd / 4 % 2 = 1), by by_cases q : hd % 4 = 2 <;> simp [runF, sSeq, sIf, sSet, sRet, sRetV, sRetN, sNext, sExpr, sApp, sRev, sFrz, sDput, sFor, sNever, eT, eBin, eVar, eC, eA, eUn, eAnd, eOr, eNot, eIf, eCut, eP, eP0, eIt, eRng1, eRng2, eEnum, eCall, callD, eGet2, eDict, eComp, aCons, aNil, bNot, bAnd, bOr, bTrue, lenD, max2D, min2D, listD, tupleD, tupD, lstD, itemsD, enumD, ii0, iiD, L2.CDiv, L2.CPow, addD, eqD, neD, ofO, eqFlat, isND, asB, negD, D.view, viewL, Tg.view, D.frz, frzL, D.hasBor, hasBorL, D.hasOwn, hasOwnL, D.toBor, toBorL, Tg.toBor, setD, D.unbor, unborL, Tg.unbor, D.pure, pureL, ownL, ownDc, gN, gT, gsCons, gsNil, instD, D.isExc, isB, isI, isS, isL, isTp, isDc, frzAt, capD, capOwn, sortedD, lenSetD, cutD, dinD, dgetD, dget2D, keyK, keyF, keyFs, KT.kind, ixD, frzL_ints, q], fun _ => ⟨.int (v2 % 100000000), by simp [runF, sSeq, sIf, sSet, sRet, sRetV, sRetN, sNext, sExpr, sApp, sRev, sFrz, sDput, sFor, sNever, eT, eBin, eVar, eC, eA, eUn, eAnd, eOr, eNot, eIf, eCut, eP, eP0, eIt, eRng1, eRng2, eEnum, eCall, callD, eGet2, eDict, eComp, aCons, aNil, bNot, bAnd, bOr, bTrue, lenD, max2D, min2D, listD, tupleD, tupD, lstD, itemsD, enumD, ii0, iiD, L2.CDiv, L2.CPow, addD, eqD, neD, ofO, eqFlat, isND, asB, negD, D.view, viewL, Tg.view, D.frz, frzL, D.hasBor, hasBorL, D.hasOwn, hasOwnL, D.toBor, toBorL, Tg.toBor, setD, D.unbor, unborL, Tg.unbor, D.pure, pureL, ownL, ownDc, gN, gT, gsCons, gsNil, instD, D.isExc, isB, isI, isS, isL, isTp, isDc, frzAt, capD, capOwn, sortedD, lenSetD, cutD, dinD, dgetD, dget2D, keyK, keyF, keyFs, KT.kind, ixD, frzL_ints], _, Int.emod_nonneg _ (by decide), rfl⟩, fun _ => ?_⟩
    have big0 : 0 ≤ c3 % big := Int.emod_nonneg _ (by have := big_pos; omega)
    refine seq_set RtNn (.lst .own [.int 0, .int (1 + c3 % big), .int (c3 / 9 % 5)]) ?_ rfl ?_
    · have q1 : eBin addD (eC (.int 1)) (eBin modD (eCall G__law_cell (aCons (eVar 0) (aCons (eBin addD (eVar 1) (eC (.int 3))) aNil))) (eBin mulD (eBin powD (eC (.int 10)) (eC (.int 64))) (eBin powD (eC (.int 10)) (eC (.int 64))))) [some (S ns), some (.int a), some (.int k), some (.int j), some (.int hd), some (.int (1 + hd / 4 % 4)), some (.int one), some (.int other), some (.int v2), none] = .ok (.int (1 + c3 % big)) :=
        eBin_ok (x := .int 1) rfl ((eBin_ok (x := .int c3) (by simp [runF, sSeq, sIf, sSet, sRet, sRetV, sRetN, sNext, sExpr, sApp, sRev, sFrz, sDput, sFor, sNever, eT, eBin, eVar, eC, eA, eUn, eAnd, eOr, eNot, eIf, eCut, eP, eP0, eIt, eRng1, eRng2, eEnum, eCall, callD, eGet2, eDict, eComp, aCons, aNil, bNot, bAnd, bOr, bTrue, lenD, max2D, min2D, listD, tupleD, tupD, lstD, itemsD, enumD, ii0, iiD, L2.CDiv, L2.CPow, addD, eqD, neD, ofO, eqFlat, isND, asB, negD, D.view, viewL, Tg.view, D.frz, frzL, D.hasBor, hasBorL, D.hasOwn, hasOwnL, D.toBor, toBorL, Tg.toBor, setD, D.unbor, unborL, Tg.unbor, D.pure, pureL, ownL, ownDc, gN, gT, gsCons, gsNil, instD, D.isExc, isB, isI, isS, isL, isTp, isDc, frzAt, capD, capOwn, sortedD, lenSetD, cutD, dinD, dgetD, dget2D, keyK, keyF, keyFs, KT.kind, ixD, frzL_ints, e3]) (bigE _)).trans (mod_big _))
      simp only [eA, aCons, List.set_cons_succ, List.set_cons_zero]
      rw [q1]
      simp [runF, sSeq, sIf, sSet, sRet, sRetV, sRetN, sNext, sExpr, sApp, sRev, sFrz, sDput, sFor, sNever, eT, eBin, eVar, eC, eA, eUn, eAnd, eOr, eNot, eIf, eCut, eP, eP0, eIt, eRng1, eRng2, eEnum, eCall, callD, eGet2, eDict, eComp, aCons, aNil, bNot, bAnd, bOr, bTrue, lenD, max2D, min2D, listD, tupleD, tupD, lstD, itemsD, enumD, ii0, iiD, L2.CDiv, L2.CPow, addD, eqD, neD, ofO, eqFlat, isND, asB, negD, D.view, viewL, Tg.view, D.frz, frzL, D.hasBor, hasBorL, D.hasOwn, hasOwnL, D.toBor, toBorL, Tg.toBor, setD, D.unbor, unborL, Tg.unbor, D.pure, pureL, ownL, ownDc, gN, gT, gsCons, gsNil, instD, D.isExc, isB, isI, isS, isL, isTp, isDc, frzAt, capD, capOwn, sortedD, lenSetD, cutD, dinD, dgetD, dget2D, keyK, keyF, keyFs, KT.kind, ixD, frzL_ints, e3]
    · have hm : 0 < 2 + hd / 16 % 2 := by omega
      obtain ⟨v, hv, e⟩ := three_at (x := 0) (y := 1 + c3 % big) (z := c3 / 9 % 5) (i := v2 % (2 + hd / 16 % 2)) (Int.emod_nonneg _ (by omega)) (by have := Int.emod_lt_of_pos v2 hm; omega) (by decide) (by omega) (by omega)
      exact ⟨v, hv, by simp [runF, sSeq, sIf, sSet, sRet, sRetV, sRetN, sNext, sExpr, sApp, sRev, sFrz, sDput, sFor, sNever, eT, eBin, eVar, eC, eA, eUn, eAnd, eOr, eNot, eIf, eCut, eP, eP0, eIt, eRng1, eRng2, eEnum, eCall, callD, eGet2, eDict, eComp, aCons, aNil, bNot, bAnd, bOr, bTrue, lenD, max2D, min2D, listD, tupleD, tupD, lstD, itemsD, enumD, ii0, iiD, L2.CDiv, L2.CPow, addD, eqD, neD, ofO, eqFlat, isND, asB, negD, D.view, viewL, Tg.view, D.frz, frzL, D.hasBor, hasBorL, D.hasOwn, hasOwnL, D.toBor, toBorL, Tg.toBor, setD, D.unbor, unborL, Tg.unbor, D.pure, pureL, ownL, ownDc, gN, gT, gsCons, gsNil, instD, D.isExc, isB, isI, isS, isL, isTp, isDc, frzAt, capD, capOwn, sortedD, lenSetD, cutD, dinD, dgetD, dget2D, keyK, keyF, keyFs, KT.kind, ixD, frzL_ints, hm, e]⟩
end KL
set_option Elab.async false
set_option linter.all false
set_option maxRecDepth 100000
set_option maxHeartbeats 2000000
namespace KL
open DL
/-- a net as a value -/
def netD (ps : List Int) (rows : List (List Int)) : D := .tup [.tup (ps.map .int), .tup (rows.map fun r => .tup (r.map .int))]
theorem pure_rows (rows : List (List Int)) : pureL (rows.map fun r => D.tup (r.map .int)) = true := pureL_of fun d m => by obtain ⟨r, _, rfl⟩ := List.mem_map.mp m; exact pure_ints r
theorem net_pure (ps : List Int) (rows : List (List Int)) : (netD ps rows).pure = true := by
  simp [netD, D.pure, pureL, pure_ints, pure_rows]
noncomputable def sh (ns : List Int) (k j : Nat) : Int := by
  classical
  exact if h : k ≤ 24 ∧ j ≤ 24 then (shade_ex ns (a := 1) (k := k) (j := j) (by decide) (by omega) (by omega) (by omega) (by omega)).choose else 0
theorem sh_nn (ns : List Int) (k j : Nat) : 0 ≤ sh ns k j := by
  unfold sh
  split
  · rename_i h
    exact (shade_ex ns (a := 1) (k := k) (j := j) (by decide) (by omega) (by omega) (by omega) (by omega)).choose_spec.1
  · exact Int.le_refl 0
theorem sh_eq (ns : List Int) {k j : Nat} (hk : k ≤ 24) (hj : j ≤ 24) : G__law_shade [S ns, .int 1, .int k, .int j] = .ok (.int (sh ns k j)) := by
  unfold sh
  rw [dif_pos ⟨hk, hj⟩]
  exact (shade_ex ns (a := 1) (k := k) (j := j) (by decide) (by omega) (by omega) (by omega) (by omega)).choose_spec.2
/-- the drawn net -/
noncomputable def dN (ns : List Int) : N2.Dr where
  pl := M.place big ns 1
  sh := sh ns
  dr := fun k j => M.mix ns 1 ((k : Int) * 24 + (j : Int))
  mono := fun h => M.place_mono ns 1 h
  nn := sh_nn ns
theorem mem_ints {n : Nat} {d : D} (h : d ∈ (List.range n).map fun k : Nat => D.int (k : Int)) : ∃ k : Nat, k < n ∧ d = .int k := by
  obtain ⟨k, hk, rfl⟩ := List.mem_map.mp h
  exact ⟨k, List.mem_range.mp hk, rfl⟩
def natOf : D → Nat | .int i => i.toNat | _ => 0
theorem net_row (ns : List Int) {k : Nat} (hk : k < 24) : g__law_net_e2 [some (.int k), some (S ns), some (.int 1)] = .ok (.tup (((List.range k).map fun j => (dN ns).sh k j).map D.int)) := by
  have hr := range1_nat (n := k) (by omega)
  have hc := eComp_all (it := eRng1 (aCons (eVar 0) aNil)) (elt := g__law_net_e1) (cap := [("_law_script", 1), ("_law_at", 2), ("_law_k", 0)]) (τ := [some (.int k), some (S ns), some (.int 1)]) (fl := false) (ds := (List.range k).map fun k : Nat => D.int (k : Int)) (fun d => .int ((dN ns).sh k (natOf d)))
    (by simp [eRng1, aCons, aNil, eVar, D.view, hr]) (fun d hd => by
      rw [frzL_ints] at hd
      obtain ⟨j, hj, rfl⟩ := mem_ints hd
      refine ⟨?_, rfl⟩
      have e := sh_eq ns (k := k) (j := j) (by omega) (by omega)
      simp [g__law_net_e1, runF, sSeq, sIf, sSet, sRet, sRetV, sRetN, sNext, sExpr, sApp, sRev, sFrz, sDput, sFor, sNever, eT, eBin, eVar, eC, eA, eUn, eAnd, eOr, eNot, eIf, eCut, eP, eP0, eIt, eRng1, eRng2, eEnum, eCall, callD, eGet2, eDict, eComp, aCons, aNil, bNot, bAnd, bOr, bTrue, lenD, max2D, min2D, listD, tupleD, tupD, lstD, itemsD, enumD, ii0, iiD, L2.CDiv, L2.CPow, addD, eqD, neD, ofO, eqFlat, isND, asB, negD, D.view, viewL, Tg.view, D.frz, frzL, D.hasBor, hasBorL, D.hasOwn, hasOwnL, D.toBor, toBorL, Tg.toBor, setD, D.unbor, unborL, Tg.unbor, D.pure, pureL, ownL, ownDc, gN, gT, gsCons, gsNil, instD, D.isExc, isB, isI, isS, isL, isTp, isDc, frzAt, capD, capOwn, sortedD, lenSetD, cutD, dinD, dgetD, dget2D, keyK, keyF, keyFs, KT.kind, ixD, frzL_ints, e, natOf, dN]) (by simp; omega)
  unfold g__law_net_e2
  simp only [eA, aCons, aNil, hc, Res.bind_ok, tupleD, frzL_ints]
  simp [natOf]
theorem net_eq (ns : List Int) {n : Nat} (hn : n ≤ 24) : G__law_net [S ns, .int 1, .int n] = .ok (netD (N2.places (dN ns) n) (N2.rows (dN ns) n)) := by
  have hr := range1_nat (n := n) (by omega)
  have hp := places_eq ns (a := 1) (n := n) (by decide) hn
  have hc := eComp_all (it := eRng1 (aCons (eVar 2) aNil)) (elt := g__law_net_e2) (cap := [("_law_script", 0), ("_law_at", 1)]) (τ := [some (S ns), some (.int 1), some (.int n), none]) (fl := false) (ds := (List.range n).map fun k : Nat => D.int (k : Int)) (fun d => .tup (((List.range (natOf d)).map fun j => (dN ns).sh (natOf d) j).map D.int))
    (by simp [eRng1, aCons, aNil, eVar, D.view, hr]) (fun d hd => by
      rw [frzL_ints] at hd
      obtain ⟨k, hk, rfl⟩ := mem_ints hd
      refine ⟨?_, pure_ints _⟩
      have e := net_row ns (k := k) (by omega)
      simpa [capD, D.frz, natOf] using e) (by simp; omega)
  rw [frzL_ints] at hc
  have hpu : pureL (((List.range n).map fun k : Nat => D.int (k : Int)).map fun d => D.tup (((List.range (natOf d)).map fun j => (dN ns).sh (natOf d) j).map D.int)) = true := pureL_of fun d m => by
    obtain ⟨x, _, rfl⟩ := List.mem_map.mp m
    exact pure_ints _
  suffices h : g__law_net [some (S ns), some (.int 1), some (.int n), none] = .rt (netD (N2.places (dN ns) n) (N2.rows (dN ns) n)) by
    simp [G__law_net, runF, List.replicate, h]
  unfold g__law_net
  have z : netD (N2.places (dN ns) n) (N2.rows (dN ns) n) = .tup [.tup ((M.places big ns 1 n).map D.int), .tup (((List.range n).map fun k : Nat => D.int (k : Int)).map fun d => D.tup (((List.range (natOf d)).map fun j => (dN ns).sh (natOf d) j).map D.int))] := by
    unfold netD N2.rows
    simp [List.map_map, natOf, Function.comp_def]
    rfl
  have hnp := net_pure (N2.places (dN ns) n) (N2.rows (dN ns) n)
  rw [z] at hnp ⊢
  generalize (((List.range n).map fun k : Nat => D.int (k : Int)).map fun d => D.tup (((List.range (natOf d)).map fun j => (dN ns).sh (natOf d) j).map D.int)) = R at *
  rw [seq_nx (set_nx hc (bor_own hpu))]
  have q1 : eCall G__law_places (aCons (eVar 0) (aCons (eVar 1) (aCons (eVar 2) aNil))) [some (S ns), some (.int 1), some (.int n), some (.lst .own R)] = .ok (.lst .own ((M.places big ns 1 n).map D.int)) := eCall_own (ds := [S ns, .int 1, .int n]) (by simp [aCons, aNil, eVar, D.view, Tg.view]) (by simpa [frzL, D.frz] using hp) (by simp [hasBorL, D.hasBor])
  have q2 : eVar 3 [some (S ns), some (.int 1), some (.int n), some (.lst .own R)] = .ok (.lst .bor R) := var_own rfl hpu
  exact ret_rt ((eA_ok (aCons_ok ((eA_ok (aOne q1)).trans rfl) (aOne ((eA_ok (aOne q2)).trans rfl)))).trans (by simp [tupD])) (hasBor_pure _ hnp)
end KL
set_option Elab.async false
set_option linter.all false
set_option maxRecDepth 100000
set_option maxHeartbeats 2000000
namespace KL
open DL
/-! ### ties -/
theorem mod_ok {f : SD → Res D} {τ : SD} {a b : Int} (h : f τ = .ok (.int a)) (hb : 0 < b) : eBin modD f (eC (.int b)) τ = .ok (.int (a % b)) := by
  rw [eBin_ok h (show eC (.int b) τ = .ok (.int b) from rfl)]
  simp [iiD, hb]
theorem fdiv_ok {f : SD → Res D} {τ : SD} {a b : Int} (h : f τ = .ok (.int a)) (hb : 0 < b ∧ b < 1073741824) : eBin fdivD f (eC (.int b)) τ = .ok (.int (a / b)) := by
  rw [eBin_ok h (show eC (.int b) τ = .ok (.int b) from rfl)]
  simp [iiD, L2.CDiv, hb]
theorem eqi_ok {f g : SD → Res D} {τ : SD} {a b : Int} (h : f τ = .ok (.int a)) (h2 : g τ = .ok (.int b)) : eT (eBin eqD f g) τ = .ok (decide (a = b)) := by
  unfold eT
  rw [eBin_ok h h2]
  simp [eqD, eqFlat, ofO, asB]
theorem nei_ok {f g : SD → Res D} {τ : SD} {a b : Int} (h : f τ = .ok (.int a)) (h2 : g τ = .ok (.int b)) : eT (eBin neD f g) τ = .ok (!decide (a = b)) := by
  unfold eT
  rw [eBin_ok h h2]
  simp [neD, eqFlat, ofO, asB]
theorem gti_ok {f g : SD → Res D} {τ : SD} {a b : Int} (h : f τ = .ok (.int a)) (h2 : g τ = .ok (.int b)) : eT (eBin gtD f g) τ = .ok (decide (b < a)) := by
  unfold eT
  rw [eBin_ok h h2]
  rfl
theorem or_ok {f g : SD → Res Bool} {τ : SD} {a b : Bool} (h : f τ = .ok a) (h2 : g τ = .ok b) : bOr f g τ = .ok (a || b) := by
  unfold bOr
  rw [h]
  cases a
  · exact h2
  · rfl
theorem run_rt {n N : Nat} {g : SF} {ds : List D} {τ : SD} {d : D} (hl : ds.length = n) (ht : ds.map some ++ List.replicate (N - n) none = τ) (h : g τ = .rt d) : runF n N g ds = .ok d := by
  unfold runF
  rw [if_pos hl, ht, h]
  rfl
def tieD (t : N2.Tie) : D := .tup [.int t.1, .int t.2.1, .int t.2.2]
theorem pure_ties (ts : List N2.Tie) : pureL (ts.map tieD) = true := pureL_of fun d m => by obtain ⟨t, _, rfl⟩ := List.mem_map.mp m; rfl
/-- the net as a value -/
def nN (d : N2.Dr) (n : Nat) : D := netD (N2.places d n) (N2.rows d n)
theorem nN_pure (d : N2.Dr) (n : Nat) : (nN d n).pure = true := net_pure _ _
theorem ix_ok {f g : SD → Res D} {τ : SD} {x y : D} {r : Res D} (h1 : f τ = .ok x) (h2 : g τ = .ok y) (h3 : ixD x y = r) : eBin ixD f g τ = r := (eBin_ok h1 h2).trans h3
theorem ix_tup {xs : List D} {i : Int} {j : Nat} {d : D} (hi : i = j) (h : xs[j]? = some d) : ixD (.tup xs) (.int i) = .ok d := by
  simp [ixD, atI_of hi h]
theorem ix_lst {t : Tg} {xs : List D} {i : Int} {j : Nat} {d : D} (hi : i = j) (h : xs[j]? = some d) : ixD (.lst t xs) (.int i) = .ok d := by
  simp [ixD, atI_of hi h]
theorem row_at (d : N2.Dr) {n k : Nat} (h : k < n) : ((N2.rows d n).map fun r => D.tup (r.map .int))[k]? = some (.tup (((List.range k).map fun j => d.sh k j).map D.int)) := by
  unfold N2.rows
  simp [h]
theorem col_at (d : N2.Dr) {k j : Nat} (h : j < k) : ((((List.range k).map fun j => d.sh k j).map D.int))[j]? = some (.int (d.sh k j)) := by
  simp [h]
theorem place_at (d : N2.Dr) {n k : Nat} (h : k < n) : ((N2.places d n).map D.int)[k]? = some (.int (d.pl k)) := by
  unfold N2.places
  simp [h]
theorem nN_0 {d : N2.Dr} {n : Nat} {τ : SD} {f : SD → Res D} (h1 : f τ = .ok (nN d n)) : eBin ixD f (eC (.int 0)) τ = .ok (.tup ((N2.places d n).map .int)) :=
  ix_ok h1 (show eC (.int 0) τ = .ok (.int 0) from rfl) (by unfold nN netD; exact ix_tup (j := 0) rfl rfl)
theorem nN_1 {d : N2.Dr} {n : Nat} {τ : SD} {f : SD → Res D} (h1 : f τ = .ok (nN d n)) : eBin ixD f (eC (.int 1)) τ = .ok (.tup ((N2.rows d n).map fun r => .tup (r.map .int))) :=
  ix_ok h1 (show eC (.int 1) τ = .ok (.int 1) from rfl) (by unfold nN netD; exact ix_tup (j := 1) rfl rfl)
theorem net_colour {d : N2.Dr} {n k j : Nat} {τ : SD} {f g h : SD → Res D} (hj : j < k) (hk : k < n) (h1 : f τ = .ok (nN d n)) (h2 : g τ = .ok (.int k)) (h3 : h τ = .ok (.int j)) : eBin ixD (eBin ixD (eBin ixD f (eC (.int 1))) g) h τ = .ok (.int (d.sh k j)) :=
  ix_ok (ix_ok (nN_1 h1) h2 (ix_tup rfl (row_at d hk))) h3 (ix_tup rfl (col_at d hj))
theorem net_place {d : N2.Dr} {n j : Nat} {τ : SD} {f h : SD → Res D} (hj : j < n) (h1 : f τ = .ok (nN d n)) (h3 : h τ = .ok (.int j)) : eBin ixD (eBin ixD f (eC (.int 0))) h τ = .ok (.int (d.pl j)) :=
  ix_ok (nN_0 h1) h3 (ix_tup rfl (place_at d hj))
theorem app_nx {i : Nat} {f : SD → Res D} {τ : SD} {xs : List D} {d : D} (h1 : τ[i]? = some (some (.lst .own xs))) (h2 : f τ = .ok d) (hp : d.hasBor = false) (hl : xs.length < 16777216) : sApp i f τ = .nx (τ.set i (some (.lst .own (xs ++ [d])))) := by
  unfold sApp
  have e : ownL τ i = some xs := by unfold ownL; rw [h1]
  rw [e]
  simp [h2, hp, hl]
theorem tup3 {f g h : SD → Res D} {τ : SD} {a b c : Int} (h1 : f τ = .ok (.int a)) (h2 : g τ = .ok (.int b)) (h3 : h τ = .ok (.int c)) : eA tupD (aCons f (aCons g (aCons h aNil))) τ = .ok (tieD (a, b, c)) := by
  rw [eA_ok (aCons_ok h1 (aCons_ok h2 (aOne h3)))]
  rfl
theorem int_nb (i : Int) : (D.int i).hasBor = false := rfl
theorem tie_nb (t : N2.Tie) : (tieD t).hasBor = false := hasBor_pure _ rfl
/-- the arm of one tie -/
theorem ties_arm {d : N2.Dr} {n k j : Nat} {τ : SD} {acc : List N2.Tie} (hj : j < k) (hk : k < n) (hl : acc.length ≤ 1000)
    (v1 : eVar 1 τ = .ok (nN d n)) (v3 : eVar 3 τ = .ok (.int k)) (v4 : eVar 4 τ = .ok (.int (d.pl k))) (v5 : eVar 5 τ = .ok (.int j)) (v6 : eVar 6 τ = .ok (.int (d.dr k j))) (hz : τ[2]? = some (some (.lst .own (acc.map tieD)))) :
    sIf (bOr (eT (eBin gtD (eBin ixD (eBin ixD (eBin ixD (eVar 1) (eC (.int 1))) (eVar 3)) (eVar 5)) (eC (.int 0)))) (eT (eBin eqD (eBin modD (eVar 6) (eC (.int 3))) (eC (.int 0))))) (sIf (eT (eBin eqD (eBin modD (eBin fdivD (eVar 6) (eC (.int 3))) (eC (.int 2))) (eC (.int 0)))) (sApp 2 (eA tupD (aCons (eVar 4) (aCons (eBin ixD (eBin ixD (eVar 1) (eC (.int 0))) (eVar 5)) (aCons (eBin ixD (eBin ixD (eBin ixD (eVar 1) (eC (.int 1))) (eVar 3)) (eVar 5)) aNil))))) (sApp 2 (eA tupD (aCons (eBin ixD (eBin ixD (eVar 1) (eC (.int 0))) (eVar 5)) (aCons (eVar 4) (aCons (eBin ixD (eBin ixD (eBin ixD (eVar 1) (eC (.int 1))) (eVar 3)) (eVar 5)) aNil)))))) sNext τ =
      .nx (τ.set 2 (some (.lst .own ((acc ++ if N2.isTie d k j = true then [N2.tieAt d k j] else []).map tieD)))) := by
  have ec := net_colour hj hk v1 v3 v5
  have ep := net_place (n := n) (by omega : j < n) v1 v5
  have e0 : eC (.int 0) τ = .ok (.int 0) := rfl
  have t1 := or_ok (gti_ok ec e0) (eqi_ok (mod_ok v6 (by decide : (0 : Int) < 3)) e0)
  rw [if_nx t1]
  have hlen : (acc.map tieD).length < 16777216 := by rw [List.length_map]; omega
  by_cases h1 : N2.isTie d k j = true
  · rw [if_pos h1]
    unfold N2.isTie at h1
    rw [if_pos h1, if_nx (eqi_ok (mod_ok (fdiv_ok v6 (by decide : (0 : Int) < 3 ∧ (3 : Int) < 1073741824)) (by decide : (0 : Int) < 2)) e0)]
    unfold N2.tieAt
    by_cases h2 : d.dr k j / 3 % 2 = 0
    · rw [if_pos (decide_eq_true h2), if_pos h2, app_nx hz (tup3 v4 ep ec) (tie_nb _) hlen, List.map_append]
      rfl
    · rw [if_neg (by simpa using h2), if_neg h2, app_nx hz (tup3 ep v4 ec) (tie_nb _) hlen, List.map_append]
      rfl
  · rw [if_neg h1]
    unfold N2.isTie at h1
    rw [if_neg h1, List.append_nil]
    have es : τ.set 2 (some (.lst .own (acc.map tieD))) = τ := by
      refine List.ext_getElem? fun k => ?_
      by_cases hk : k = 2
      · subst hk
        rw [List.getElem?_set_self (List.getElem?_eq_some_iff.mp hz).1, hz]
      · rw [List.getElem?_set_ne (Ne.symm hk)]
    rw [es]
    rfl
def tSt (ns : List Int) (N : D) (acc : List N2.Tie) (a b c e : Option D) : SD := [some (S ns), some N, some (.lst .own (acc.map tieD)), a, b, c, e]
theorem ties_turn (ns : List Int) (d : N2.Dr) {n k j : Nat} (hm : G__law_mix [S ns, .int 1, .int ((k : Int) * 24 + (j : Int))] = .ok (.int (d.dr k j))) (hj : j < k) (hk : k < n) (acc : List N2.Tie) (hl : acc.length ≤ 1000) (o6 : Option D) :
    g__law_ties_b1 (tSt ns (nN d n) acc (some (.int k)) (some (.int (d.pl k))) (some (.int j)) o6) =
      .nx (tSt ns (nN d n) (acc ++ if N2.isTie d k j = true then [N2.tieAt d k j] else []) (some (.int k)) (some (.int (d.pl k))) (some (.int j)) (some (.int (d.dr k j)))) := by
  have hnp := nN_pure d n
  generalize hN : nN d n = N at *
  unfold g__law_ties_b1
  have hs : eCall G__law_mix (aCons (eVar 0) (aCons (eC (.int 1)) (aCons (eBin addD (eBin mulD (eVar 3) (eC (.int 24))) (eVar 5)) aNil))) (tSt ns N acc (some (.int k)) (some (.int (d.pl k))) (some (.int j)) o6) = .ok (.int (d.dr k j)) := by
    generalize d.dr k j = q at *
    refine eCall_own (ds := [S ns, .int 1, .int ((k : Int) * 24 + (j : Int))]) (aCons_ok (var_frz rfl (pure_ints ns)) (aCons_ok rfl (aOne ?_))) (by simpa [frzL, D.frz] using hm) (by simp [hasBorL, D.hasBor])
    have c1 : CMulD (k : Int) 24 := mul_r (by decide)
    have m1 : eBin mulD (eVar 3) (eC (.int 24)) (tSt ns N acc (some (.int k)) (some (.int (d.pl k))) (some (.int j)) o6) = .ok (.int ((k : Int) * 24)) := by
      rw [eBin_ok (x := .int k) (y := .int 24) rfl rfl]
      simp [mulD, iiD, c1]
    exact (eBin_ok m1 (y := .int j) rfl).trans rfl
  rw [seq_nx (set_nx hs rfl)]
  rw [ties_arm (d := d) (n := n) (k := k) (j := j) (acc := acc) hj hk hl (by rw [hN]; exact var_pure rfl hnp) rfl rfl rfl rfl rfl]
  rfl
theorem row_succ (d : N2.Dr) (k j : Nat) : N2.tiesRow d k (j + 1) = N2.tiesRow d k j ++ if N2.isTie d k j = true then [N2.tieAt d k j] else [] := by
  unfold N2.tiesRow
  rw [List.range_succ, List.filter_append, List.map_append]
  by_cases h : N2.isTie d k j = true
  · simp [h]
  · simp [h]
theorem row_len (d : N2.Dr) (k m : Nat) : (N2.tiesRow d k m).length ≤ m := by
  unfold N2.tiesRow
  rw [List.length_map]
  exact Nat.le_trans (List.length_filter_le _ _) (by simp)
theorem ties_len (d : N2.Dr) : ∀ n : Nat, (N2.ties d n).length ≤ n * n
  | 0 => Nat.zero_le _
  | n + 1 => by
    unfold N2.ties
    have h1 := ties_len d n
    have h2 := row_len d n n
    rw [List.length_append]
    have : (n + 1) * (n + 1) = n * n + n + n + 1 := by rw [Nat.add_mul, Nat.mul_add]; omega
    omega
/-- the inner loop -/
theorem ties_in (ns : List Int) (d : N2.Dr) {n k : Nat} (hm : ∀ j : Nat, G__law_mix [S ns, .int 1, .int ((k : Int) * 24 + (j : Int))] = .ok (.int (d.dr k j))) (hk : k < n) (hn : n ≤ 24) (acc : List N2.Tie) (hl : acc.length ≤ 900) (o5 o6 : Option D) :
    ∃ p5 p6, g__law_ties_b2 (tSt ns (nN d n) acc (some (.int k)) (some (.int (d.pl k))) o5 o6) = .nx (tSt ns (nN d n) (acc ++ N2.tiesRow d k k) (some (.int k)) (some (.int (d.pl k))) p5 p6) := by
  have hr := range1_nat (n := k) (by omega)
  obtain ⟨t, h1, p5, p6, h2⟩ := forD_inv (tg := gN 5) (body := g__law_ties_b1) (fun i t => ∃ p5 p6, t = tSt ns (nN d n) (acc ++ N2.tiesRow d k i) (some (.int k)) (some (.int (d.pl k))) p5 p6) (ds := (List.range k).map fun j : Nat => D.int (j : Int)) 0 (tSt ns (nN d n) acc (some (.int k)) (some (.int (d.pl k))) o5 o6)
    ⟨o5, o6, by simp [N2.tiesRow]⟩ (fun j x t hx hp => by
      obtain ⟨q5, q6, rfl⟩ := hp
      rw [Nat.zero_add]
      have hj : j < k := by
        have := (List.getElem?_eq_some_iff.mp hx).1
        simpa using this
      have ex : x = .int j := by
        simp [hj] at hx
        exact hx.symm
      subst ex
      have hl2 : (acc ++ N2.tiesRow d k j).length ≤ 1000 := by
        have := row_len d k j
        rw [List.length_append]
        omega
      have e := ties_turn ns d (hm j) hj hk (acc ++ N2.tiesRow d k j) hl2 q6
      refine ⟨_, _, rfl, .inl e, some (.int j), some (.int (d.dr k j)), ?_⟩
      rw [row_succ, List.append_assoc])
  refine ⟨p5, p6, ?_⟩
  rw [List.length_map, List.length_range, Nat.zero_add] at h2
  rw [← h2, ← h1]
  unfold g__law_ties_b2 sFor
  have hi : eRng1 (aCons (eVar 3) aNil) (frzAt [] (tSt ns (nN d n) acc (some (.int k)) (some (.int (d.pl k))) o5 o6)) = .ok (false, (List.range k).map fun j : Nat => D.int (j : Int)) := by
    unfold eRng1
    rw [aOne (d := .int k) rfl, Res.bind_ok, hr]
  rw [hi]
  have : frzL ((List.range k).map fun j : Nat => D.int (j : Int)) = (List.range k).map fun j : Nat => D.int (j : Int) := frzL_ints _ _
  simp only [this]
  rfl

theorem frz_1 (ns : List Int) {N : D} (hN : N.pure = true) (acc : List N2.Tie) (a b c e : Option D) : frzAt [1] (tSt ns N acc a b c e) = tSt ns N acc a b c e := by
  show (tSt ns N acc a b c e).set 1 (some N.frz) = _
  rw [frz_pure N hN]
  rfl
theorem ties_out (ns : List Int) (d : N2.Dr) {n : Nat} (hm : ∀ k j : Nat, G__law_mix [S ns, .int 1, .int ((k : Int) * 24 + (j : Int))] = .ok (.int (d.dr k j))) (hn : n ≤ 24) :
    ∃ p3 p4 p5 p6, sFor [1] (eEnum (aCons (eBin ixD (eVar 1) (eC (.int 0))) aNil)) (gT 2 (gsCons 3 (gsCons 4 gsNil))) g__law_ties_b2 (tSt ns (nN d n) [] none none none none) = .nx (tSt ns (nN d n) (N2.ties d n) p3 p4 p5 p6) := by
  obtain ⟨t, h1, p3, p4, p5, p6, h2⟩ := forD_inv (tg := gT 2 (gsCons 3 (gsCons 4 gsNil))) (body := g__law_ties_b2) (fun i t => ∃ p3 p4 p5 p6, t = tSt ns (nN d n) (N2.ties d i) p3 p4 p5 p6) (ds := enumD ((N2.places d n).map D.int)) 0 (tSt ns (nN d n) [] none none none none)
    ⟨none, none, none, none, rfl⟩ (fun k x t hx hp => by
      obtain ⟨q3, q4, q5, q6, rfl⟩ := hp
      rw [Nat.zero_add]
      have hk : k < n := by
        have := (List.getElem?_eq_some_iff.mp hx).1
        simpa [enumD, N2.places] using this
      have ex : x = .tup [.int k, .int (d.pl k)] := by
        simp [enumD, N2.places, hk] at hx
        exact hx.symm
      subst ex
      have hl : (N2.ties d k).length ≤ 900 := by
        have h1 := ties_len d k
        have h2 : k * k ≤ 24 * 24 := Nat.mul_le_mul (by omega) (by omega)
        omega
      obtain ⟨r5, r6, e⟩ := ties_in ns d (hm k) hk hn (N2.ties d k) hl q5 q6
      exact ⟨_, _, rfl, .inl e, _, _, r5, r6, rfl⟩)
  have hlen : (enumD ((N2.places d n).map D.int)).length = n := by simp [enumD, N2.places]
  rw [hlen, Nat.zero_add] at h2
  refine ⟨p3, p4, p5, p6, ?_⟩
  rw [← h2, ← h1]
  unfold sFor
  rw [frz_1 ns (nN_pure d n)]
  have hi : eEnum (aCons (eBin ixD (eVar 1) (eC (.int 0))) aNil) (tSt ns (nN d n) [] none none none none) = .ok (false, enumD ((N2.places d n).map D.int)) := by
    unfold eEnum
    rw [aOne (nN_0 (var_pure rfl (nN_pure d n))), Res.bind_ok]
    simp [itemsD, D.hasBor, Res.map, hasBorL_pure _ (pure_ints _)]
  rw [hi]
  have : frzL (enumD ((N2.places d n).map D.int)) = enumD ((N2.places d n).map D.int) := by rw [frzL_enum, frz_ints]
  simp only [this]
theorem ties_eq (ns : List Int) (d : N2.Dr) {n : Nat} (hm : ∀ k j : Nat, G__law_mix [S ns, .int 1, .int ((k : Int) * 24 + (j : Int))] = .ok (.int (d.dr k j))) (hn : n ≤ 24) : G__law_ties [S ns, nN d n] = .ok (.lst .own ((N2.ties d n).map tieD)) := by
  obtain ⟨p3, p4, p5, p6, h⟩ := ties_out ns d hm hn
  have e : g__law_ties [some (S ns), some (nN d n), none, none, none, none, none] = .rt (.lst .own ((N2.ties d n).map tieD)) := by
    unfold g__law_ties
    rw [seq_nx (set_nx (d := .lst .own []) rfl rfl)]
    have : List.set [some (S ns), some (nN d n), none, none, none, none, none] 2 (some (D.lst .own [])) = tSt ns (nN d n) [] none none none none := rfl
    rw [this, seq_nx h]
    rfl
  exact run_rt rfl rfl e
/-! ### a row turned -/
theorem len_ok {f : SD → Res D} {τ : SD} {t : Tg} {xs : List D} (h : f τ = .ok (.lst t xs)) : eA lenD (aCons f aNil) τ = .ok (.int xs.length) := by
  rw [eA_ok (aOne h)]
  rfl
theorem turned_eq (xs : List D) (c : Int) (hp : pureL xs = true) (hl : xs.length ≤ 1000) : G__law_turned [.lst .frz xs, .int c] = .ok (.lst .own (N2.turned xs c)) := by
  suffices g : g__law_turned [some (.lst .frz xs), some (.int c), none, none] = .rt (.lst .own (N2.turned xs c)) from run_rt rfl rfl g
  have e0 : ∀ τ : SD, eC (.int 0) τ = .ok (.int 0) := fun _ => rfl
  unfold g__law_turned N2.turned
  by_cases h : xs.length = 0
  · rw [if_pos h]
    have q : sIf (eT (eBin eqD (eA lenD (aCons (eVar 0) aNil)) (eC (.int 0)))) (sRet (eA lstD aNil)) sNext [some (.lst .frz xs), some (.int c), none, none] = .rt (.lst .own []) := by
      rw [if_nx (eqi_ok (len_ok (var_frz rfl hp)) (e0 _)), if_pos (by simp [h])]
      rfl
    unfold sSeq
    rw [q]
    rfl
  · rw [if_neg h]
    have q : sIf (eT (eBin eqD (eA lenD (aCons (eVar 0) aNil)) (eC (.int 0)))) (sRet (eA lstD aNil)) sNext [some (.lst .frz xs), some (.int c), none, none] = .nx [some (.lst .frz xs), some (.int c), none, none] := by
      rw [if_nx (eqi_ok (len_ok (var_frz rfl hp)) (e0 _)), if_neg (by simp; exact fun z => h (by simp [z]))]
      rfl
    rw [seq_nx q]
    have hpos : (0 : Int) < xs.length := by omega
    have m0 := Int.emod_nonneg (c / 2) (by omega : (xs.length : Int) ≠ 0)
    have q2 : eBin modD (eBin fdivD (eVar 1) (eC (.int 2))) (eA lenD (aCons (eVar 0) aNil)) [some (.lst .frz xs), some (.int c), none, none] = .ok (.int (c / 2 % (xs.length : Int)).toNat) := by
      rw [eBin_ok (fdiv_ok (a := c) rfl (by decide : (0 : Int) < 2 ∧ (2 : Int) < 1073741824)) (len_ok (var_frz rfl hp)), Int.toNat_of_nonneg m0]
      show (if (0 : Int) < xs.length then _ else _) = _
      exact if_pos hpos
    generalize (c / 2 % (xs.length : Int)).toNat = a at q2
    rw [seq_nx (set_nx q2 rfl)]
    show sSeq _ _ [some (.lst .frz xs), some (.int c), some (.int a), none] = _
    have v0 : eVar 0 [some (.lst .frz xs), some (.int c), some (.int (a : Int)), none] = .ok (.lst .frz xs) := var_frz rfl hp
    have pd : pureL (xs.drop a ++ xs.take a) = true := pureL_of fun d m => by
      rcases List.mem_append.mp m with m | m
      · exact pureL_mem hp d (List.mem_of_mem_drop m)
      · exact pureL_mem hp d (List.mem_of_mem_take m)
    have q3 : eBin addD (eCut (eVar 0) (eP (eVar 2)) eP0) (eCut (eVar 0) eP0 (eP (eVar 2))) [some (.lst .frz xs), some (.int c), some (.int (a : Int)), none] = .ok (.lst .own (xs.drop a ++ xs.take a)) := by
      have z1 : eCut (eVar 0) (eP (eVar 2)) eP0 [some (.lst .frz xs), some (.int c), some (.int (a : Int)), none] = .ok (.lst .own (xs.drop a)) := by
        unfold eCut
        rw [v0]
        show cutD (.lst .frz xs) (some (a : Int)) none = _
        simp [cutD, cut_from]
      have z2 : eCut (eVar 0) eP0 (eP (eVar 2)) [some (.lst .frz xs), some (.int c), some (.int (a : Int)), none] = .ok (.lst .own (xs.take a)) := by
        unfold eCut
        rw [v0]
        show cutD (.lst .frz xs) none (some (a : Int)) = _
        simp [cutD, cut_to]
      have hle : (xs.drop a).length + (xs.take a).length ≤ 16777216 := by
        rw [List.length_drop, List.length_take]
        omega
      rw [eBin_ok z1 z2]
      show (if (xs.drop a).length + (xs.take a).length ≤ 16777216 then _ else _) = _
      exact if_pos hle
    rw [seq_nx (set_nx q3 (bor_own pd))]
    show sSeq _ _ [some (.lst .frz xs), some (.int c), some (.int a), some (.lst .own (xs.drop a ++ xs.take a))] = _
    dsimp only
    generalize xs.drop a ++ xs.take a = ys at *
    have q4 := eqi_ok (τ := [some (.lst .frz xs), some (.int c), some (.int (a : Int)), some (.lst .own ys)]) (g := eC (.int 1)) (mod_ok (f := eVar 1) (a := c) rfl (by decide : (0 : Int) < 2)) rfl
    by_cases h2 : c % 2 = 1
    · have q5 : sIf (eT (eBin eqD (eBin modD (eVar 1) (eC (.int 2))) (eC (.int 1)))) (sRev 3) sNext [some (.lst .frz xs), some (.int c), some (.int (a : Int)), some (.lst .own ys)] = .nx [some (.lst .frz xs), some (.int c), some (.int (a : Int)), some (.lst .own ys.reverse)] := by
        rw [if_nx q4, if_pos (decide_eq_true h2)]
        rfl
      rw [seq_nx q5, if_pos h2]
      rfl
    · have q5 : sIf (eT (eBin eqD (eBin modD (eVar 1) (eC (.int 2))) (eC (.int 1)))) (sRev 3) sNext [some (.lst .frz xs), some (.int c), some (.int (a : Int)), some (.lst .own ys)] = .nx [some (.lst .frz xs), some (.int c), some (.int (a : Int)), some (.lst .own ys)] := by
        rw [if_nx q4, if_neg (by simpa using h2)]
        rfl
      rw [seq_nx q5, if_neg h2]
      rfl
/-! ### a pair -/
theorem pair_eq (o t : Int) : G_pair [.int o, .int t] = .ok (.tup [.int (N2.keyOf o t).1, .int (N2.keyOf o t).2]) := by
  unfold N2.keyOf
  refine run_rt rfl rfl (ret_rt ?_ rfl)
  unfold eIf
  rw [gti_ok (a := o) (b := t) rfl rfl]
  by_cases h : o > t
  · simp [h, eA, aCons, aNil, eVar, tupD, D.view]
  · have h' : ¬ t < o := h
    simp [h', eA, aCons, aNil, eVar, tupD, D.view]
end KL
set_option Elab.async false
set_option linter.all false
set_option maxRecDepth 100000
set_option maxHeartbeats 2000000
namespace KL
open DL
def intOf : D → Int | .int i => i | _ => 0
/-! ### the colours' dict -/
def kt (k : Int × Int) : KT := .inr [.inl k.1, .inl k.2]
theorem kt_inj {a b : Int × Int} : kt a = kt b ↔ a = b := by
  constructor
  · intro h
    cases a
    cases b
    simp only [kt, Sum.inr.injEq, List.cons.injEq, Sum.inl.injEq, and_true] at h
    obtain ⟨h1, h2⟩ := h
    subst h1 h2
    rfl
  · intro h
    rw [h]
def ksOf (ts : List N2.Tie) : List KT := ts.map fun t => kt (N2.tkey t)
def vsOf (ts : List N2.Tie) : List D := ts.map fun t => D.int t.2.2
theorem vs_pure (ts : List N2.Tie) : pureL (vsOf ts) = true := pureL_of fun d m => by obtain ⟨t, _, rfl⟩ := List.mem_map.mp m; rfl
theorem look_eq : ∀ (ts : List N2.Tie) (k : Int × Int), lookD (ksOf ts) (vsOf ts) (kt k) = (ts.find? fun t => decide (N2.tkey t = k)).map fun t => D.int t.2.2
  | [], _ => rfl
  | t :: r, k => by
    have ih := look_eq r k
    show (if kt (N2.tkey t) = kt k then some (D.int t.2.2) else lookD (ksOf r) (vsOf r) (kt k)) = _
    by_cases h : N2.tkey t = k
    · rw [if_pos (kt_inj.mpr h), List.find?_cons_of_pos (by simpa using h)]
      rfl
    · rw [if_neg fun z => h (kt_inj.mp z), List.find?_cons_of_neg (by simpa using h), ih]
theorem look_col (ts : List N2.Tie) (k : Int × Int) : (lookD (ksOf ts) (vsOf ts) (kt k)).getD (.int 0) = .int (N2.col ts k) := by
  rw [look_eq]
  unfold N2.col
  cases ts.find? fun t => decide (N2.tkey t = k) <;> rfl
theorem look_none {ts : List N2.Tie} {k : Int × Int} (h : k ∉ ts.map N2.tkey) : lookD (ksOf ts) (vsOf ts) (kt k) = none := by
  rw [look_eq, List.find?_eq_none.mpr fun t ht z => h (List.mem_map.mpr ⟨t, ht, by simpa using z⟩)]
  rfl
theorem has_none {ts : List N2.Tie} {k : Int × Int} (h : k ∉ ts.map N2.tkey) : hasK (ksOf ts) (kt k) = false := by
  unfold hasK ksOf
  rw [List.any_eq_false]
  intro x hx z
  obtain ⟨t, ht, rfl⟩ := List.mem_map.mp hx
  exact h (List.mem_map.mpr ⟨t, ht, kt_inj.mp (by simpa using z)⟩)
theorem keyK_pair (a b : Int) : keyK (.tup [.int a, .int b]) = some (kt (a, b)) := rfl
/-! ### a net of places and colours -/
theorem nw_elt (ts : List N2.Tie) (p q : Int) : g_net_with_e1 [some (.int q), some (.dct .frz true (ksOf ts) (vsOf ts)), some (.int p)] = .ok (.int (N2.col ts (N2.keyOf p q))) := by
  unfold g_net_with_e1 eGet2
  have v : eVar 1 [some (.int q), some (.dct .frz true (ksOf ts) (vsOf ts)), some (.int p)] = .ok (.dct .frz true (ksOf ts) (vsOf ts)) := by
    show Res.ok (D.dct .frz true (ksOf ts) (viewL (vsOf ts))) = _
    rw [viewL_pure _ (vs_pure ts)]
  have c : eCall G_pair (aCons (eVar 2) (aCons (eVar 0) aNil)) [some (.int q), some (.dct .frz true (ksOf ts) (vsOf ts)), some (.int p)] = .ok (.tup [.int (N2.keyOf p q).1, .int (N2.keyOf p q).2]) :=
    eCall_own (ds := [.int p, .int q]) (aCons_ok rfl (aOne rfl)) (pair_eq p q) rfl
  rw [v, Res.bind_ok, if_pos (show isDc (D.dct .frz true (ksOf ts) (vsOf ts)) = true from rfl), c, Res.bind_ok]
  show (if (kt (N2.keyOf p q)).kind = true then Res.ok ((lookD (ksOf ts) (vsOf ts) (kt (N2.keyOf p q))).getD (.int 0)) else .bad) = _
  rw [if_pos (show (kt (N2.keyOf p q)).kind = true from rfl), look_col]
def nwSt (qs ps : List Int) (ts : List N2.Tie) (acc : List (List Int)) (a b : Option D) : SD := [some (.lst .frz (qs.map .int)), some (.dct .frz true (ksOf ts) (vsOf ts)), some (.lst .frz (ps.map .int)), some (.lst .own (acc.map fun r => .tup (r.map .int))), a, b]
theorem nw_body (qs ps : List Int) (ts : List N2.Tie) (acc : List (List Int)) {i : Nat} {p : Int} (hi : i ≤ ps.length) (hl : ps.length ≤ 24) (ha : acc.length ≤ 24) :
    g_net_with_b2 (nwSt qs ps ts acc (some (.int i)) (some (.int p))) = .nx (nwSt qs ps ts (acc ++ [(ps.take i).map fun q => N2.col ts (N2.keyOf p q)]) (some (.int i)) (some (.int p))) := by
  have hc := eComp_all (it := eIt (eCut (eVar 2) eP0 (eP (eVar 4)))) (elt := g_net_with_e1) (cap := [("colours", 1), ("place", 5)]) (τ := nwSt qs ps ts acc (some (.int i)) (some (.int p))) (fl := false) (ds := (ps.take i).map D.int) (fun d => .int (N2.col ts (N2.keyOf p (intOf d))))
    (by
      have z : eCut (eVar 2) eP0 (eP (eVar 4)) (nwSt qs ps ts acc (some (.int i)) (some (.int p))) = .ok (.lst .own ((ps.take i).map D.int)) := by
        unfold eCut
        rw [var_frz (xs := ps.map .int) rfl (pure_ints _)]
        show cutD (.lst .frz (ps.map .int)) none (some (i : Int)) = _
        simp [cutD, cut_to, List.map_take]
      unfold eIt
      rw [z]
      show Res.ok ((D.lst .own ((ps.take i).map D.int)).hasBor, _) = _
      rw [bor_own (pure_ints _)])
    (fun d hd => by
      rw [frz_ints] at hd
      obtain ⟨q, hq, rfl⟩ := List.mem_map.mp hd
      refine ⟨?_, rfl⟩
      have e := nw_elt ts p q
      have : capD (nwSt qs ps ts acc (some (.int i)) (some (.int p))) [("colours", 1), ("place", 5)] = [some (.dct .frz true (ksOf ts) (vsOf ts)), some (.int p)] := by
        show [some (D.dct .frz true (ksOf ts) (frzL (vsOf ts))), some (.int p)] = _
        rw [frzL_pure _ (vs_pure ts)]
      rw [this]
      exact e) (by rw [List.length_map, List.length_take]; omega)
  unfold g_net_with_b2
  rw [app_nx (xs := acc.map fun r => .tup (r.map .int)) (d := .tup (((ps.take i).map fun q => N2.col ts (N2.keyOf p q)).map .int)) rfl ?_ (hasBor_pure _ (pure_ints _)) (by rw [List.length_map]; omega)]
  · unfold nwSt
    rw [List.map_append]
    rfl
  · rw [eA_ok (aOne hc)]
    show Res.ok (D.tup _) = _
    rw [frz_ints, List.map_map, List.map_map]
    rfl

theorem with_eq (qs ps : List Int) (ts : List N2.Tie) (hp : qs.Perm ps) (hs : ps.Pairwise (· < ·)) (hl : ps.length ≤ 24) : G_net_with [.lst .frz (qs.map .int), .dct .frz true (ksOf ts) (vsOf ts)] = .ok (netD ps (N2.rowsOf ps ts)) := by
  have hso : sortI qs = ps := N2.sorted_eq ((sortI_perm qs).trans hp) (sortI_sorted qs) hs
  have hql : qs.length ≤ 24 := by rw [hp.length_eq]; exact hl
  refine run_rt rfl rfl ?_
  show g_net_with [some (.lst .frz (qs.map .int)), some (.dct .frz true (ksOf ts) (vsOf ts)), none, none, none, none] = _
  unfold g_net_with
  have q1 : eA sortedD (aCons (eVar 0) aNil) [some (.lst .frz (qs.map .int)), some (.dct .frz true (ksOf ts) (vsOf ts)), none, none, none, none] = .ok (.lst .own (ps.map .int)) := by
    rw [eA_ok (aOne (var_frz rfl (pure_ints qs)))]
    show (match intsOf (qs.map D.int) with | some ns => if ns.length < 64 then Res.ok (D.lst .own ((sortI ns).map D.int)) else .bad | none => .bad) = _
    rw [intsOf_map]
    show (if qs.length < 64 then Res.ok (D.lst .own ((sortI qs).map D.int)) else .bad) = _
    rw [if_pos (by omega), hso]
  rw [seq_nx (set_nx q1 (bor_own (pure_ints _))), seq_nx (set_nx (d := .lst .own []) rfl rfl)]
  have key : ∃ a b, sFor [2] (eEnum (aCons (eVar 2) aNil)) (gT 2 (gsCons 4 (gsCons 5 gsNil))) g_net_with_b2 [some (.lst .frz (qs.map .int)), some (.dct .frz true (ksOf ts) (vsOf ts)), some (.lst .own (ps.map .int)), some (.lst .own []), none, none] = .nx (nwSt qs ps ts (N2.rowsOf ps ts) a b) := by
    obtain ⟨t, h1, a, b, h2⟩ := forD_inv (tg := gT 2 (gsCons 4 (gsCons 5 gsNil))) (body := g_net_with_b2) (fun i t => ∃ a b, t = nwSt qs ps ts ((List.range i).map fun i => (ps.take i).map fun q => N2.col ts (N2.keyOf (ps.getD i 0) q)) a b) (ds := enumD (ps.map D.int)) 0 (nwSt qs ps ts [] none none) ⟨none, none, rfl⟩ (fun k x t hx hp => by
      obtain ⟨q3, q4, rfl⟩ := hp
      rw [Nat.zero_add]
      have hk : k < ps.length := by
        have := (List.getElem?_eq_some_iff.mp hx).1
        simpa [enumD] using this
      have ex : x = .tup [.int k, .int (ps.getD k 0)] := by
        simp [enumD, hk] at hx
        rw [← hx]
        simp [hk]
      subst ex
      have e := nw_body qs ps ts ((List.range k).map fun i => (ps.take i).map fun q => N2.col ts (N2.keyOf (ps.getD i 0) q)) (i := k) (p := ps.getD k 0) (by omega) hl (by simp; omega)
      refine ⟨_, _, rfl, .inl e, some (.int k), some (.int (ps.getD k 0)), ?_⟩
      rw [List.range_succ, List.map_append]
      rfl)
    have hlen : (enumD (ps.map D.int)).length = ps.length := by simp [enumD]
    rw [hlen, Nat.zero_add] at h2
    refine ⟨a, b, ?_⟩
    unfold N2.rowsOf
    rw [← h2, ← h1]
    unfold sFor
    have hf : frzAt [2] [some (.lst .frz (qs.map .int)), some (.dct .frz true (ksOf ts) (vsOf ts)), some (.lst .own (ps.map .int)), some (.lst .own []), none, none] = nwSt qs ps ts [] none none := by
      show [some (D.lst .frz (qs.map .int)), some (.dct .frz true (ksOf ts) (vsOf ts)), some (.lst .frz (frzL (ps.map .int))), some (.lst .own []), none, none] = _
      rw [frz_ints]
      rfl
    rw [hf]
    have hi : eEnum (aCons (eVar 2) aNil) (nwSt qs ps ts [] none none) = .ok (false, enumD (ps.map D.int)) := by
      unfold eEnum
      rw [aOne (var_frz (xs := ps.map .int) rfl (pure_ints ps)), Res.bind_ok]
      simp [itemsD, D.hasBor, Res.map]
    rw [hi]
    have : frzL (enumD (ps.map D.int)) = enumD (ps.map D.int) := by rw [frzL_enum, frz_ints]
    simp only [this]
  obtain ⟨a, b, key⟩ := key
  show sSeq _ _ [some (.lst .frz (qs.map .int)), some (.dct .frz true (ksOf ts) (vsOf ts)), some (.lst .own (ps.map .int)), some (.lst .own []), none, none] = _
  rw [seq_nx key]
  have v2 : eVar 2 (nwSt qs ps ts (N2.rowsOf ps ts) a b) = .ok (.lst .frz (ps.map .int)) := var_frz rfl (pure_ints ps)
  have v3 : eVar 3 (nwSt qs ps ts (N2.rowsOf ps ts) a b) = .ok (.lst .bor ((N2.rowsOf ps ts).map fun r => .tup (r.map .int))) := var_own rfl (pure_rows _)
  exact ret_rt ((eA_ok (aCons_ok ((eA_ok (aOne v2)).trans rfl) (aOne ((eA_ok (aOne v3)).trans rfl)))).trans rfl) (hasBor_pure _ (net_pure ps (N2.rowsOf ps ts)))
/-! ### how many unlike ones -/
theorem fold_len : ∀ (ns acc : List Int), (acc ++ ns).Nodup → (ns.foldl PyProof.Rows.step_dedup acc).length = acc.length + ns.length
  | [], acc, _ => rfl
  | x :: r, acc, h => by
    rw [List.foldl_cons]
    have hx : acc.any (· == x) = false := by
      rw [List.any_eq_false]
      intro y hy z
      have e : y = x := by simpa using z
      subst e
      exact (List.nodup_append.mp h).2.2 y hy y List.mem_cons_self rfl
    have e : PyProof.Rows.step_dedup acc x = acc ++ [x] := by
      unfold PyProof.Rows.step_dedup
      rw [if_neg (by rw [hx]; exact Bool.false_ne_true)]
    rw [e, fold_len r (acc ++ [x]) (by simpa using h)]
    simp
    omega
theorem dd_len {ns : List Int} (h : ns.Nodup) : (L2.dd ns).length = ns.length := by
  unfold L2.dd PyProof.Rows.firstMet
  have e : (List.range ns.length).map (fun i => ns.getD i 0) = ns := by
    refine List.ext_getElem (by simp) fun i h1 h2 => ?_
    simp
    rw [List.getElem?_eq_getElem h2]
    rfl
  rw [e, fold_len ns [] (by simpa using h)]
  simp

/-! ### a net of places and ties -/
theorem in_ok {x : Int} {t : Tg} {qs : List Int} (h : x ∈ qs) : inD true (.int x) (.lst t (qs.map .int)) = .ok (.bl false) := by
  have h1 : (qs.map D.int).all D.flat = true := by simp [D.flat]
  have h2 : inF (.int x) (qs.map D.int) = true := by
    unfold inF
    rw [List.any_eq_true]
    exact ⟨.int x, List.mem_map.mpr ⟨x, h, rfl⟩, by simp [eqF]⟩
  show (if (D.int x).flat = true ∧ (qs.map D.int).all D.flat = true then Res.ok (D.bl (if true then !inF (.int x) (qs.map .int) else inF (.int x) (qs.map .int))) else .bad) = _
  rw [if_pos ⟨rfl, h1⟩, h2]
  rfl
theorem run_nx {n N : Nat} {g : SF} {ds : List D} {τ t : SD} (hl : ds.length = n) (ht : ds.map some ++ List.replicate (N - n) none = τ) (h : g τ = .nx t) : runF n N g ds = .ok .non := by
  unfold runF
  rw [if_pos hl, ht, h]
  rfl
theorem eT_ok {f : SD → Res D} {τ : SD} {b : Bool} (h : f τ = .ok (.bl b)) : eT f τ = .ok b := by
  unfold eT
  rw [h]
  rfl
theorem if_f {c : SD → Res Bool} {a b : SF} {τ : SD} (h : c τ = .ok false) : sIf c a b τ = b τ := by rw [if_nx h]; rfl
theorem if_t {c : SD → Res Bool} {a b : SF} {τ : SD} (h : c τ = .ok true) : sIf c a b τ = a τ := by rw [if_nx h]; rfl
theorem place_eq {qs : List Int} {x : Int} (h : x ∈ qs) : G_require_place [.lst .frz (qs.map .int), .int x] = .ok .non := by
  refine run_nx (t := [some (.lst .frz (qs.map .int)), some (.int x)]) rfl rfl ?_
  show g_require_place [some (.lst .frz (qs.map .int)), some (.int x)] = .nx _
  unfold g_require_place
  rw [if_f (eT_ok ((eBin_ok (x := .int x) rfl (var_frz rfl (pure_ints qs))).trans (in_ok h)))]
  rfl
theorem expr_nx {f : SD → Res D} {τ : SD} {d : D} (h : f τ = .ok d) : sExpr f τ = .nx τ := by
  unfold sExpr
  rw [h]
  rfl
theorem two_eq {qs : List Int} {x y : Int} (h : x ∈ qs) (h2 : y ∈ qs) (hn : x ≠ y) : G_require_two [.lst .frz (qs.map .int), .int x, .int y] = .ok .non := by
  refine run_nx (t := [some (.lst .frz (qs.map .int)), some (.int x), some (.int y)]) rfl rfl ?_
  show g_require_two [some (.lst .frz (qs.map .int)), some (.int x), some (.int y)] = .nx _
  unfold g_require_two
  have v0 : eVar 0 [some (.lst .frz (qs.map .int)), some (.int x), some (.int y)] = .ok (.lst .frz (qs.map .int)) := var_frz rfl (pure_ints qs)
  have c1 : eCall G_require_place (aCons (eVar 0) (aCons (eVar 1) aNil)) [some (.lst .frz (qs.map .int)), some (.int x), some (.int y)] = .ok .non := eCall_own (ds := [.lst .frz (qs.map .int), .int x]) (aCons_ok v0 (aOne rfl)) (by simpa [frzL, D.frz] using place_eq h) (by simp [hasBorL, D.hasBor])
  have c2 : eCall G_require_place (aCons (eVar 0) (aCons (eVar 2) aNil)) [some (.lst .frz (qs.map .int)), some (.int x), some (.int y)] = .ok .non := eCall_own (ds := [.lst .frz (qs.map .int), .int y]) (aCons_ok v0 (aOne rfl)) (by simpa [frzL, D.frz] using place_eq h2) (by simp [hasBorL, D.hasBor])
  rw [seq_nx (expr_nx c1), seq_nx (expr_nx c2)]
  have t := eqi_ok (f := eVar 1) (g := eVar 2) (τ := [some (.lst .frz (qs.map .int)), some (.int x), some (.int y)]) (a := x) (b := y) rfl rfl
  rw [decide_eq_false hn] at t
  rw [if_f t]
  rfl
def nfSt (qs : List Int) (T ts : List N2.Tie) (a b c e : Option D) : SD := [some (.lst .frz (qs.map .int)), some (.lst .frz (T.map tieD)), some (.dct .own true (ksOf ts) (vsOf ts)), a, b, c, e]
theorem put_nx {i : Nat} {fk fv : SD → Res D} {τ : SD} {k : Bool} {ks : List KT} {xs : List D} {d dk : D} {q : KT} (hv : fv τ = .ok d) (ho : τ[i]? = some (some (.dct .own k ks xs))) (hk : fk τ = .ok dk) (hq : keyK dk = some q) (hc : q.kind = k ∧ d.hasBor = false ∧ ks.length < 16777216) (hn : hasK ks q = false) :
    sDput i fk fv τ = .nx (τ.set i (some (.dct .own k (ks ++ [q]) (xs ++ [d])))) := by
  unfold sDput
  have e : ownDc τ i = some (k, ks, xs) := by unfold ownDc; rw [ho]
  rw [hv, toFl_ok, e]
  show (fk τ).toFl τ _ = _
  rw [hk, toFl_ok, hq]
  show (if q.kind = k ∧ d.hasBor = false ∧ ks.length < 16777216 ∧ (hasK ks q = true → d.pure = true) then _ else _) = _
  rw [if_pos ⟨hc.1, hc.2.1, hc.2.2, fun z => absurd (hn.symm.trans z) Bool.false_ne_true⟩]
  unfold putKs putVs
  rw [hn]
  rfl
theorem nf_body (qs : List Int) (T ts : List N2.Tie) (x y z : Int) (e : Option D) (h1 : x ∈ qs) (h2 : y ∈ qs) (hn : x ≠ y) (hk : N2.keyOf x y ∉ ts.map N2.tkey) (hl : ts.length ≤ 1000) :
    g_net_from_b1 (nfSt qs T ts (some (.int x)) (some (.int y)) (some (.int z)) e) = .nx (nfSt qs T (ts ++ [(x, y, z)]) (some (.int x)) (some (.int y)) (some (.int z)) (some (.tup [.int (N2.keyOf x y).1, .int (N2.keyOf x y).2]))) := by
  unfold g_net_from_b1
  have c1 : eCall G_require_two (aCons (eVar 0) (aCons (eVar 3) (aCons (eVar 4) aNil))) (nfSt qs T ts (some (.int x)) (some (.int y)) (some (.int z)) e) = .ok .non := eCall_own (ds := [.lst .frz (qs.map .int), .int x, .int y]) (aCons_ok (var_frz rfl (pure_ints qs)) (aCons_ok rfl (aOne rfl))) (by simpa [frzL, D.frz] using two_eq h1 h2 hn) (by simp [hasBorL, D.hasBor])
  have c2 : eCall G_pair (aCons (eVar 3) (aCons (eVar 4) aNil)) (nfSt qs T ts (some (.int x)) (some (.int y)) (some (.int z)) e) = .ok (.tup [.int (N2.keyOf x y).1, .int (N2.keyOf x y).2]) := eCall_own (ds := [.int x, .int y]) (aCons_ok rfl (aOne rfl)) (pair_eq x y) rfl
  rw [seq_nx (expr_nx c1), seq_nx (set_nx c2 rfl)]
  show sSeq _ _ (nfSt qs T ts (some (.int x)) (some (.int y)) (some (.int z)) (some (.tup [.int (N2.keyOf x y).1, .int (N2.keyOf x y).2]))) = _
  have c3 : eT (eBin (dinD false) (eVar 6) (eVar 2)) (nfSt qs T ts (some (.int x)) (some (.int y)) (some (.int z)) (some (.tup [.int (N2.keyOf x y).1, .int (N2.keyOf x y).2]))) = .ok false := by
    refine eT_ok ((eBin_ok (x := .tup [.int (N2.keyOf x y).1, .int (N2.keyOf x y).2]) (y := .dct .bor true (ksOf ts) (vsOf ts)) rfl ?_).trans ?_)
    · show Res.ok (D.dct .bor true (ksOf ts) (viewL (vsOf ts))) = _
      rw [viewL_pure _ (vs_pure ts)]
    · show (if (kt (N2.keyOf x y)).kind = true then Res.ok (D.bl (xor false (lookD (ksOf ts) (vsOf ts) (kt (N2.keyOf x y))).isSome)) else .bad) = _
      rw [if_pos (show (kt (N2.keyOf x y)).kind = true from rfl), look_none hk]
      rfl
  have c4 : sIf (eT (eBin (dinD false) (eVar 6) (eVar 2))) sNever sNext (nfSt qs T ts (some (.int x)) (some (.int y)) (some (.int z)) (some (.tup [.int (N2.keyOf x y).1, .int (N2.keyOf x y).2]))) = .nx (nfSt qs T ts (some (.int x)) (some (.int y)) (some (.int z)) (some (.tup [.int (N2.keyOf x y).1, .int (N2.keyOf x y).2]))) := by
    rw [if_f c3]
    rfl
  rw [seq_nx c4, put_nx (d := .int z) (dk := .tup [.int (N2.keyOf x y).1, .int (N2.keyOf x y).2]) (q := kt (N2.keyOf x y)) (k := true) (ks := ksOf ts) (xs := vsOf ts) rfl rfl rfl rfl ⟨rfl, rfl, by unfold ksOf; rw [List.length_map]; omega⟩ (has_none hk)]
  unfold nfSt ksOf vsOf
  rw [List.map_append, List.map_append]
  rfl

theorem from_loop (qs : List Int) (T : List N2.Tie) (hT : ∀ t ∈ T, t.1 ∈ qs ∧ t.2.1 ∈ qs ∧ t.1 ≠ t.2.1) (hnd : (T.map N2.tkey).Nodup) (hTl : T.length ≤ 1000) :
    ∃ a b c e, sFor [1] (eIt (eVar 1)) (gT 3 (gsCons 3 (gsCons 4 (gsCons 5 gsNil)))) g_net_from_b1 (nfSt qs T [] none none none none) = .nx (nfSt qs T T a b c e) := by
  obtain ⟨t, h1, a, b, c, e, h2⟩ := forD_inv (tg := gT 3 (gsCons 3 (gsCons 4 (gsCons 5 gsNil)))) (body := g_net_from_b1) (fun i t => ∃ a b c e, t = nfSt qs T (T.take i) a b c e) (ds := T.map tieD) 0 (nfSt qs T [] none none none none) ⟨none, none, none, none, rfl⟩ (fun k x t hx hp => by
    obtain ⟨q3, q4, q5, q6, rfl⟩ := hp
    rw [Nat.zero_add]
    have hk : k < T.length := by
      have := (List.getElem?_eq_some_iff.mp hx).1
      simpa using this
    have ex : x = tieD T[k] := by
      simp [hk] at hx
      exact hx.symm
    subst ex
    obtain ⟨g1, g2, g3⟩ := hT T[k] (List.getElem_mem hk)
    have hs : T.take (k + 1) = T.take k ++ [T[k]] := by simp
    have hnk : N2.keyOf T[k].1 T[k].2.1 ∉ (T.take k).map N2.tkey := by
      have z : ((T.take (k + 1)).map N2.tkey).Nodup := List.Nodup.sublist ((List.take_sublist _ _).map _) hnd
      rw [hs, List.map_append] at z
      intro m
      exact (List.nodup_append.mp z).2.2 _ m (N2.tkey T[k]) (by simp) rfl
    have e := nf_body qs T (T.take k) T[k].1 T[k].2.1 T[k].2.2 q6 g1 g2 g3 hnk (by rw [List.length_take]; omega)
    refine ⟨_, _, rfl, .inl e, some (.int T[k].1), some (.int T[k].2.1), some (.int T[k].2.2), some (.tup [.int (N2.keyOf T[k].1 T[k].2.1).1, .int (N2.keyOf T[k].1 T[k].2.1).2]), ?_⟩
    rw [hs])
  rw [List.length_map, Nat.zero_add, List.take_of_length_le (Nat.le_refl _)] at h2
  refine ⟨a, b, c, e, ?_⟩
  rw [← h2, ← h1]
  unfold sFor
  have hz : frzL (T.map tieD) = T.map tieD := frzL_pure _ (pure_ties T)
  have hf : frzAt [1] (nfSt qs T [] none none none none) = nfSt qs T [] none none none none := by
    show [some (D.lst .frz (qs.map .int)), some (.lst .frz (frzL (T.map tieD))), some (.dct .own true [] []), none, none, none, none] = _
    rw [hz]
    rfl
  rw [hf]
  have hi : eIt (eVar 1) (nfSt qs T [] none none none none) = .ok (false, T.map tieD) := by
    unfold eIt
    rw [var_frz (xs := T.map tieD) rfl (pure_ties T), Res.bind_ok]
    show Res.ok ((false || hasBorL (T.map tieD)), _) = _
    rw [hasBorL_pure _ (pure_ties T)]
    rfl
  rw [hi]
  simp only [hz]
theorem from_eq (qs ps : List Int) (T : List N2.Tie) (hp : qs.Perm ps) (hs : ps.Pairwise (· < ·)) (h0 : 0 < ps.length) (hl : ps.length ≤ 24) (hT : ∀ t ∈ T, t.1 ∈ qs ∧ t.2.1 ∈ qs ∧ t.1 ≠ t.2.1) (hnd : (T.map N2.tkey).Nodup) (hTl : T.length ≤ 1000) :
    G_net_from [.lst .frz (qs.map .int), .lst .frz (T.map tieD)] = .ok (netD ps (N2.rowsOf ps T)) := by
  refine run_rt (τ := [some (.lst .frz (qs.map .int)), some (.lst .frz (T.map tieD)), none, none, none, none, none]) rfl rfl ?_
  have hql := hp.length_eq
  have hqn : qs.Nodup := hp.nodup_iff.mpr (hs.imp fun h => by omega)
  have v0 : eVar 0 [some (.lst .frz (qs.map .int)), some (.lst .frz (T.map tieD)), none, none, none, none, none] = .ok (.lst .frz (qs.map .int)) := var_frz rfl (pure_ints qs)
  have l0 := len_ok v0
  rw [List.length_map] at l0
  unfold g_net_from
  have c1 : sIf (bOr (eT (eBin eqD (eA lenD (aCons (eVar 0) aNil)) (eC (.int 0)))) (eT (eBin gtD (eA lenD (aCons (eVar 0) aNil)) (eC (.int 24))))) sNever sNext [some (.lst .frz (qs.map .int)), some (.lst .frz (T.map tieD)), none, none, none, none, none] = .nx [some (.lst .frz (qs.map .int)), some (.lst .frz (T.map tieD)), none, none, none, none, none] := by
    have t := or_ok (eqi_ok l0 (g := eC (.int 0)) (b := 0) rfl) (gti_ok l0 (g := eC (.int 24)) (b := 24) rfl)
    rw [decide_eq_false (by omega), decide_eq_false (by omega)] at t
    rw [if_f t]
    rfl
  have c2 : sIf (eT (eBin neD (eUn lenSetD (eVar 0)) (eA lenD (aCons (eVar 0) aNil)))) sNever sNext [some (.lst .frz (qs.map .int)), some (.lst .frz (T.map tieD)), none, none, none, none, none] = .nx [some (.lst .frz (qs.map .int)), some (.lst .frz (T.map tieD)), none, none, none, none, none] := by
    have z : eUn lenSetD (eVar 0) [some (.lst .frz (qs.map .int)), some (.lst .frz (T.map tieD)), none, none, none, none, none] = .ok (.int qs.length) := by
      unfold eUn
      rw [v0, Res.bind_ok]
      show (match intsOf (qs.map D.int) with | some ns => if ns.length < 4000 then Res.ok (D.int (L2.dd ns).length) else .bad | none => .bad) = _
      rw [intsOf_map]
      show (if qs.length < 4000 then Res.ok (D.int (L2.dd qs).length) else .bad) = _
      rw [if_pos (by omega), dd_len hqn]
    have t := nei_ok z l0
    rw [decide_eq_true rfl] at t
    rw [if_f t]
    rfl
  rw [seq_nx c1, seq_nx c2, seq_nx (set_nx (d := .dct .own true [] []) rfl rfl)]
  obtain ⟨a, b, c, e, h⟩ := from_loop qs T hT hnd hTl
  show sSeq _ _ (nfSt qs T [] none none none none) = _
  rw [seq_nx h]
  refine ret_rt (eCall_pure (ds := [.lst .frz (qs.map .int), .dct .bor true (ksOf T) (vsOf T)]) (aCons_ok (var_frz rfl (pure_ints qs)) (aOne ?_)) ?_ (net_pure _ _)) (hasBor_pure _ (net_pure _ _))
  · show Res.ok (D.dct .bor true (ksOf T) (viewL (vsOf T))) = _
    rw [viewL_pure _ (vs_pure T)]
  · show G_net_with [.lst .frz (frzL (qs.map .int)), .dct .frz true (ksOf T) (frzL (vsOf T))] = _
    rw [frz_ints, frzL_pure _ (vs_pure T)]
    exact with_eq qs ps T hp hs hl
/-! ### like itself -/
/-- how deep -/
inductive Lk : Nat → D → Prop
  | int (n : Nat) (i : Int) : Lk (n + 1) (.int i)
  | tup (n : Nat) {xs : List D} : (∀ d ∈ xs, Lk n d) → pureL xs = true → xs.length ≤ 1000 → Lk (n + 1) (.tup xs)
  | lst (n : Nat) {xs : List D} : (∀ d ∈ xs, Lk n d) → pureL xs = true → xs.length ≤ 1000 → Lk (n + 1) (.lst .frz xs)
theorem and_f {f g : SD → Res Bool} {τ : SD} (h : f τ = .ok false) : bAnd f g τ = .ok false := by unfold bAnd; rw [h]; rfl
theorem and_t {f g : SD → Res Bool} {τ : SD} {b : Bool} (h : f τ = .ok true) (h2 : g τ = .ok b) : bAnd f g τ = .ok b := by unfold bAnd; rw [h, Res.bind_ok, if_pos rfl, h2]
theorem not_ok {f : SD → Res Bool} {τ : SD} {b : Bool} (h : f τ = .ok b) : bNot f τ = .ok (!b) := by unfold bNot; rw [h]; rfl
theorem if_rt {c : SD → Res Bool} {a b s : SF} {τ : SD} {d : D} (h : c τ = .ok true) (h2 : a τ = .rt d) : sSeq (sIf c a b) s τ = .rt d := by
  unfold sSeq
  rw [if_t h, h2]
  rfl
theorem if_go {c : SD → Res Bool} {a s : SF} {τ : SD} (h : c τ = .ok false) : sSeq (sIf c a sNext) s τ = s τ := by
  refine seq_nx ?_
  rw [if_f h]
  rfl
theorem eand_t {f g : SD → Res D} {τ : SD} (h : f τ = .ok (.bl true)) : eAnd f g τ = g τ := by unfold eAnd; rw [h]; rfl
theorem like_int (n : Nat) (i : Int) : G__law_like (n + 1) [.int i, .int i] = .ok (.bl true) := by
  refine run_rt (τ := [some (.int i), some (.int i), none]) rfl rfl ?_
  unfold g__law_like
  rw [if_go rfl, if_go rfl]
  refine if_rt rfl (ret_rt ?_ rfl)
  rw [eand_t rfl, eand_t rfl, eBin_ok (x := .int i) (y := .int i) rfl rfl]
  simp [eqD, eqFlat, ofO]
theorem like_loop (n : Nat) {x : D} {xs : List D} (hv : ∀ τ : SD, x.view = x ∧ ∀ (j : Nat) (d : D), xs[j]? = some d → ixD x (.int j) = .ok d) (hlen : eA lenD (aCons (eVar 1) aNil) [some x, some x, none] = .ok (.int xs.length)) (hp : pureL xs = true) (hl : xs.length ≤ 1000) (ih : ∀ d ∈ xs, G__law_like n [d, d] = .ok (.bl true)) :
    sSeq (sFor [] (eRng1 (aCons (eA lenD (aCons (eVar 1) aNil)) aNil)) (gN 2) (g__law_like_b1 (G__law_like n))) (sRet (eC (.bl true))) [some x, some x, none] = .rt (.bl true) := by
  obtain ⟨t, h1, a, h2⟩ := forD_inv (tg := gN 2) (body := g__law_like_b1 (G__law_like n)) (fun i t => ∃ a, t = [some x, some x, a]) (ds := (List.range xs.length).map fun j : Nat => D.int (j : Int)) 0 [some x, some x, none] ⟨none, rfl⟩ (fun k d t hx hp' => by
    obtain ⟨a, rfl⟩ := hp'
    have hk : k < xs.length := by
      have := (List.getElem?_eq_some_iff.mp hx).1
      simpa using this
    have ex : d = .int k := by
      simp [hk] at hx
      exact hx.symm
    subst ex
    refine ⟨[some x, some x, some (.int k)], [some x, some x, some (.int k)], rfl, .inl ?_, some (.int k), rfl⟩
    have hd : xs[k]? = some xs[k] := List.getElem?_eq_getElem hk
    have e0 : eBin ixD (eVar 0) (eVar 2) [some x, some x, some (.int k)] = .ok xs[k] := ix_ok (x := x) (y := .int k) (by show Res.ok x.view = _; rw [(hv []).1]) rfl ((hv []).2 k _ hd)
    have e1 : eBin ixD (eVar 1) (eVar 2) [some x, some x, some (.int k)] = .ok xs[k] := ix_ok (x := x) (y := .int k) (by show Res.ok x.view = _; rw [(hv []).1]) rfl ((hv []).2 k _ hd)
    have hpd := pureL_mem hp xs[k] (List.getElem_mem hk)
    have c : eCall (G__law_like n) (aCons (eBin ixD (eVar 0) (eVar 2)) (aCons (eBin ixD (eVar 1) (eVar 2)) aNil)) [some x, some x, some (.int k)] = .ok (.bl true) := eCall_pure (ds := [xs[k], xs[k]]) (aCons_ok e0 (aOne e1)) (by
      show G__law_like n [xs[k].frz, xs[k].frz] = _
      rw [frz_pure _ hpd]
      exact ih _ (List.getElem_mem hk)) rfl
    unfold g__law_like_b1
    rw [if_f (not_ok (eT_ok c))]
    rfl)
  have hi : eRng1 (aCons (eA lenD (aCons (eVar 1) aNil)) aNil) (frzAt [] [some x, some x, none]) = .ok (false, (List.range xs.length).map fun j : Nat => D.int (j : Int)) := by
    unfold eRng1
    rw [show frzAt [] [some x, some x, none] = [some x, some x, none] from rfl, aOne hlen, Res.bind_ok, range1_nat (by omega)]
  have hf : sFor [] (eRng1 (aCons (eA lenD (aCons (eVar 1) aNil)) aNil)) (gN 2) (g__law_like_b1 (G__law_like n)) [some x, some x, none] = .nx t := by
    unfold sFor
    rw [hi]
    have : frzL ((List.range xs.length).map fun j : Nat => D.int (j : Int)) = (List.range xs.length).map fun j : Nat => D.int (j : Int) := frzL_ints _ _
    simp only [this]
    exact h1
  rw [seq_nx hf]
  rfl
end KL
set_option Elab.async false
set_option linter.all false
set_option maxRecDepth 100000
set_option maxHeartbeats 2000000
namespace KL
open DL
theorem like_tup (n : Nat) {xs : List D} (hp : pureL xs = true) (hl : xs.length ≤ 1000) (ih : ∀ d ∈ xs, G__law_like n [d, d] = .ok (.bl true)) : G__law_like (n + 1) [.tup xs, .tup xs] = .ok (.bl true) := by
  refine run_rt (τ := [some (.tup xs), some (.tup xs), none]) rfl rfl ?_
  have hv : (D.tup xs).view = .tup xs := by show D.tup (viewL xs) = _; rw [viewL_pure _ hp]
  have v0 : eVar 0 [some (.tup xs), some (.tup xs), none] = .ok (.tup xs) := by show Res.ok (D.tup xs).view = _; rw [hv]
  have v1 : eVar 1 [some (.tup xs), some (.tup xs), none] = .ok (.tup xs) := by show Res.ok (D.tup xs).view = _; rw [hv]
  have l0 : eA lenD (aCons (eVar 0) aNil) [some (.tup xs), some (.tup xs), none] = .ok (.int xs.length) := by rw [eA_ok (aOne v0)]; rfl
  have l1 : eA lenD (aCons (eVar 1) aNil) [some (.tup xs), some (.tup xs), none] = .ok (.int xs.length) := by rw [eA_ok (aOne v1)]; rfl
  have ne := nei_ok l0 l1
  rw [decide_eq_true rfl] at ne
  unfold g__law_like
  rw [if_go rfl, if_go rfl, if_go rfl, if_go rfl, if_go (and_f rfl), if_go (and_t rfl rfl), if_go ne]
  exact like_loop n (fun _ => ⟨hv, fun j d h => ix_tup rfl h⟩) l1 hp hl ih
theorem like_lst (n : Nat) {xs : List D} (hp : pureL xs = true) (hl : xs.length ≤ 1000) (ih : ∀ d ∈ xs, G__law_like n [d, d] = .ok (.bl true)) : G__law_like (n + 1) [.lst .frz xs, .lst .frz xs] = .ok (.bl true) := by
  refine run_rt (τ := [some (.lst .frz xs), some (.lst .frz xs), none]) rfl rfl ?_
  have hv : (D.lst .frz xs).view = .lst .frz xs := by show D.lst .frz (viewL xs) = _; rw [viewL_pure _ hp]
  have v0 : eVar 0 [some (.lst .frz xs), some (.lst .frz xs), none] = .ok (.lst .frz xs) := var_frz rfl hp
  have v1 : eVar 1 [some (.lst .frz xs), some (.lst .frz xs), none] = .ok (.lst .frz xs) := var_frz rfl hp
  have l0 := len_ok v0
  have l1 := len_ok v1
  have ne := nei_ok l0 l1
  rw [decide_eq_true rfl] at ne
  unfold g__law_like
  rw [if_go rfl, if_go rfl, if_go rfl, if_go rfl, if_go (and_t rfl rfl), if_go (and_f rfl), if_go ne]
  exact like_loop n (fun _ => ⟨hv, fun j d h => ix_lst rfl h⟩) l1 hp hl ih
theorem like_eq : ∀ {n : Nat} {d : D}, Lk n d → G__law_like n [d, d] = .ok (.bl true)
  | _, _, .int n i => like_int n i
  | _, _, .tup n h hp hl => like_tup n hp hl fun d m => like_eq (h d m)
  | _, _, .lst n h hp hl => like_lst n hp hl fun d m => like_eq (h d m)
theorem lk_ints (n : Nat) (is : List Int) : ∀ d ∈ is.map D.int, Lk (n + 1) d := fun d m => by
  obtain ⟨i, _, rfl⟩ := List.mem_map.mp m
  exact .int n i
theorem lk_net (d : N2.Dr) {n : Nat} (hn : n ≤ 24) : Lk 4 (nN d n) := by
  unfold nN netD
  refine .tup 3 (fun x m => ?_) (by simp [D.pure, pureL, pure_ints, pure_rows]) (Nat.le_of_ble_eq_true rfl)
  rcases List.mem_cons.mp m with rfl | m
  · exact .tup 2 (lk_ints 1 _) (pure_ints _) (by simp [N2.places]; omega)
  · rcases List.mem_cons.mp m with rfl | m
    · refine .tup 2 (fun r hr => ?_) (pure_rows _) (by simp [N2.rows]; omega)
      obtain ⟨row, hrow, rfl⟩ := List.mem_map.mp hr
      unfold N2.rows at hrow
      obtain ⟨k, hk, rfl⟩ := List.mem_map.mp hrow
      have := List.mem_range.mp hk
      exact .tup 1 (lk_ints 0 _) (pure_ints _) (by simp; omega)
    · cases m
theorem lk_places (qs : List Int) (h : qs.length ≤ 1000) : Lk 4 (.lst .frz (qs.map .int)) := .lst 3 (lk_ints 2 _) (pure_ints _) (by simpa using h)
theorem lk_ties (T : List N2.Tie) (h : T.length ≤ 1000) : Lk 4 (.lst .frz (T.map tieD)) := .lst 3 (fun x m => by
  obtain ⟨t, _, rfl⟩ := List.mem_map.mp m
  exact .tup 2 (lk_ints 1 [t.1, t.2.1, t.2.2]) rfl (Nat.le_of_ble_eq_true rfl)) (pure_ties _) (by simpa using h)
theorem turned_map {α β : Type} (f : α → β) (xs : List α) (c : Int) : N2.turned (xs.map f) c = (N2.turned xs c).map f := by
  unfold N2.turned
  rw [List.length_map]
  split
  · rfl
  · dsimp only
    split
    · rw [List.map_reverse, List.map_append, List.map_drop, List.map_take]
    · rw [List.map_append, List.map_drop, List.map_take]
theorem from_net (d : N2.Dr) {n : Nat} (h1 : 1 ≤ n) (hn : n ≤ 24) {qs : List Int} {T : List N2.Tie} (hq : qs.Perm (N2.places d n)) (hT : T.Perm (N2.ties d n)) : G_net_from [.lst .frz (qs.map .int), .lst .frz (T.map tieD)] = .ok (nN d n) := by
  have e := from_eq qs (N2.places d n) T hq (N2.places_sorted d n) (by rw [N2.places_len]; omega) (by rw [N2.places_len]; omega) (fun t ht => by
    obtain ⟨k, j, g1, g2, _, rfl⟩ := N2.mem_ties.mp (hT.mem_iff.mp ht)
    have mk : d.pl k ∈ qs := hq.mem_iff.mpr (List.mem_map.mpr ⟨k, List.mem_range.mpr g2, rfl⟩)
    have mj : d.pl j ∈ qs := hq.mem_iff.mpr (List.mem_map.mpr ⟨j, List.mem_range.mpr (by omega), rfl⟩)
    have q := d.mono g1
    unfold N2.tieAt
    split
    · exact ⟨mk, mj, by show d.pl k ≠ d.pl j; omega⟩
    · exact ⟨mj, mk, by show d.pl j ≠ d.pl k; omega⟩) ((hT.map N2.tkey).nodup_iff.mpr (N2.nodup_ties d n)) (by
      rw [hT.length_eq]
      have h1 := ties_len d n
      have h2 : n * n ≤ 24 * 24 := Nat.mul_le_mul hn hn
      omega)
  rw [N2.rowsOf_ties d n hT] at e
  exact e
theorem list_ok {f : SD → Res D} {τ : SD} {t : Tg} {xs : List D} (h : f τ = .ok (.lst t xs)) : eA listD (aCons f aNil) τ = .ok (.lst .own xs) := by
  rw [eA_ok (aOne h)]
  rfl
def lSt (ns : List Int) (N : D) (qs : List Int) (T : List N2.Tie) (q2 : List Int) (T2 : List N2.Tie) : SD := [some (S ns), some N, some (.lst .own (qs.map .int)), some (.lst .own (T.map tieD)), some (.lst .own [.lst .own (q2.map .int), .lst .own (T2.map tieD)])]
section
variable {ns : List Int} {d : N2.Dr} {n : Nat} {qs q2 : List Int} {T T2 : List N2.Tie}
theorem c_var1 : eVar 1 (lSt ns (nN d n) qs T q2 T2) = .ok (nN d n) := var_pure rfl (nN_pure d n)
theorem c_var2 : eVar 2 (lSt ns (nN d n) qs T q2 T2) = .ok (.lst .bor (qs.map .int)) := var_own rfl (pure_ints _)
theorem c_var3 : eVar 3 (lSt ns (nN d n) qs T q2 T2) = .ok (.lst .bor (T.map tieD)) := var_own rfl (pure_ties _)
theorem c_var4 : eVar 4 (lSt ns (nN d n) qs T q2 T2) = .ok (.lst .bor [.lst .bor (q2.map .int), .lst .bor (T2.map tieD)]) := by
  show Res.ok (D.lst .bor [.lst .bor (viewL (q2.map .int)), .lst .bor (viewL (T2.map tieD))]) = _
  rw [view_ints, viewL_pure _ (pure_ties _)]
theorem c_40 : eBin ixD (eVar 4) (eC (.int 0)) (lSt ns (nN d n) qs T q2 T2) = .ok (.lst .bor (q2.map .int)) := ix_ok c_var4 (y := .int 0) rfl (ix_lst (j := 0) rfl rfl)
theorem c_41 : eBin ixD (eVar 4) (eC (.int 1)) (lSt ns (nN d n) qs T q2 T2) = .ok (.lst .bor (T2.map tieD)) := ix_ok c_var4 (y := .int 1) rfl (ix_lst (j := 1) rfl rfl)
theorem c_from {τ : SD} {f g : SD → Res D} (h1 : 1 ≤ n) (hn : n ≤ 24) (hq : qs.Perm (N2.places d n)) (hT : T.Perm (N2.ties d n)) (hf : f τ = .ok (.lst .bor (qs.map .int))) (hg : g τ = .ok (.lst .bor (T.map tieD))) : eCall G_net_from (aCons f (aCons g aNil)) τ = .ok (nN d n) :=
  eCall_pure (aCons_ok hf (aOne hg)) (by
    show G_net_from [.lst .frz (frzL (qs.map .int)), .lst .frz (frzL (T.map tieD))] = _
    rw [frz_ints, frzL_pure _ (pure_ties T)]
    exact from_net d h1 hn hq hT) (nN_pure d n)
theorem c_like_net {τ : SD} {f g : SD → Res D} (hn : n ≤ 24) (hf : f τ = .ok (nN d n)) (hg : g τ = .ok (nN d n)) : eCall (G__law_like 4) (aCons f (aCons g aNil)) τ = .ok (.bl true) :=
  eCall_pure (aCons_ok hf (aOne hg)) (by
    show G__law_like 4 [(nN d n).frz, (nN d n).frz] = _
    rw [frz_pure _ (nN_pure d n)]
    exact like_eq (lk_net d hn)) rfl
theorem c_like_lst {τ : SD} {f g : SD → Res D} {xs : List D} {t1 t2 : Tg} (hp : pureL xs = true) (hk : Lk 4 (.lst .frz xs)) (hf : f τ = .ok (.lst t1 xs)) (hg : g τ = .ok (.lst t2 xs)) : eCall (G__law_like 4) (aCons f (aCons g aNil)) τ = .ok (.bl true) :=
  eCall_pure (aCons_ok hf (aOne hg)) (by
    show G__law_like 4 [.lst .frz (frzL xs), .lst .frz (frzL xs)] = _
    rw [frzL_pure _ hp]
    exact like_eq hk) rfl
theorem rev_nx {i : Nat} {τ : SD} {xs : List D} (h : τ[i]? = some (some (.lst .own xs))) : sRev i τ = .nx (τ.set i (some (.lst .own xs.reverse))) := by
  unfold sRev
  have e : ownL τ i = some xs := by unfold ownL; rw [h]
  rw [e]
theorem c_cell {τ : SD} {k : Int} (h : τ[0]? = some (some (S ns))) (hk : 0 ≤ k) : eCall G__law_cell (aCons (eVar 0) (aCons (eC (.int k)) aNil)) τ = .ok (.int (M.cell ns k)) :=
  eCall_own (ds := [S ns, .int k]) (aCons_ok (var_frz h (pure_ints ns)) (aOne rfl)) (by simpa [frzL, D.frz] using cell_eq ns hk) (by simp [hasBorL, D.hasBor])
end
theorem law_gen (ns : List Int) (d : N2.Dr) {n : Nat} (h1 : 1 ≤ n) (hn : n ≤ 24) (hm : (n : Int) = M.many (M.cell ns 0)) (hnet : G__law_net [S ns, .int 1, .int n] = .ok (nN d n)) (hti : G__law_ties [S ns, nN d n] = .ok (.lst .own ((N2.ties d n).map tieD))) : G_law [S ns] = .ok (.bl true) := by
  refine run_rt (τ := [some (S ns), none, none, none, none]) rfl rfl ?_
  unfold g_law
  have z1 : eCall G__law_net (aCons (eVar 0) (aCons (eC (.int 1)) (aCons (eCall G__law_many (aCons (eCall G__law_cell (aCons (eVar 0) (aCons (eC (.int 0)) aNil))) aNil)) aNil))) [some (S ns), none, none, none, none] = .ok (nN d n) := by
    refine eCall_own (ds := [S ns, .int 1, .int n]) (aCons_ok (var_frz rfl (pure_ints ns)) (aCons_ok rfl (aOne ?_))) (by simpa [frzL, D.frz] using hnet) (by simp [hasBorL, D.hasBor])
    rw [hm]
    exact eCall_own (ds := [.int (M.cell ns 0)]) (aOne (c_cell rfl (by decide))) (many_eq _) rfl
  rw [seq_nx (set_nx z1 (hasBor_pure _ (nN_pure d n)))]
  show sSeq _ _ [some (S ns), some (nN d n), none, none, none] = _
  have z2 : eCall G__law_turned (aCons (eA listD (aCons (eBin ixD (eVar 1) (eC (.int 0))) aNil)) (aCons (eCall G__law_cell (aCons (eVar 0) (aCons (eC (.int 3)) aNil))) aNil)) [some (S ns), some (nN d n), none, none, none] = .ok (.lst .own ((N2.turned (N2.places d n) (M.cell ns 3)).map .int)) := by
    refine eCall_own (ds := [.lst .own ((N2.places d n).map .int), .int (M.cell ns 3)]) (aCons_ok ?_ (aOne (c_cell rfl (by decide)))) ?_ (by simp [hasBorL, D.hasBor])
    · rw [eA_ok (aOne (nN_0 (var_pure rfl (nN_pure d n))))]
      rfl
    · show G__law_turned [.lst .frz (frzL ((N2.places d n).map .int)), .int (M.cell ns 3)] = _
      rw [frz_ints, turned_eq _ _ (pure_ints _) (by rw [List.length_map, N2.places_len]; omega), turned_map]
  have hq : (N2.turned (N2.places d n) (M.cell ns 3)).Perm (N2.places d n) := N2.turned_perm _ _
  generalize N2.turned (N2.places d n) (M.cell ns 3) = qs at z2 hq
  rw [seq_nx (set_nx z2 (bor_own (pure_ints _)))]
  show sSeq _ _ [some (S ns), some (nN d n), some (.lst .own (qs.map .int)), none, none] = _
  have hlt : (N2.ties d n).length ≤ 1000 := by
    have h1 := ties_len d n
    have h2 : n * n ≤ 24 * 24 := Nat.mul_le_mul hn hn
    omega
  have z3 : eCall G__law_turned (aCons (eCall G__law_ties (aCons (eVar 0) (aCons (eVar 1) aNil))) (aCons (eCall G__law_cell (aCons (eVar 0) (aCons (eC (.int 5)) aNil))) aNil)) [some (S ns), some (nN d n), some (.lst .own (qs.map .int)), none, none] = .ok (.lst .own ((N2.turned (N2.ties d n) (M.cell ns 5)).map tieD)) := by
    refine eCall_own (ds := [.lst .own ((N2.ties d n).map tieD), .int (M.cell ns 5)]) (aCons_ok ?_ (aOne (c_cell rfl (by decide)))) ?_ (by simp [hasBorL, D.hasBor, hasBorL_pure _ (pure_ties _)])
    · refine eCall_own (ds := [S ns, nN d n]) (aCons_ok (var_frz rfl (pure_ints ns)) (aOne (var_pure rfl (nN_pure d n)))) ?_ (by simp [hasBorL, D.hasBor, hasBor_pure _ (nN_pure d n)])
      show G__law_ties [.lst .frz (frzL (ns.map .int)), (nN d n).frz] = _
      rw [frz_ints, frz_pure _ (nN_pure d n)]
      exact hti
    · show G__law_turned [.lst .frz (frzL ((N2.ties d n).map tieD)), .int (M.cell ns 5)] = _
      rw [frzL_pure _ (pure_ties _), turned_eq _ _ (pure_ties _) (by rw [List.length_map]; exact hlt), turned_map]
  have hT : (N2.turned (N2.ties d n) (M.cell ns 5)).Perm (N2.ties d n) := N2.turned_perm _ _
  generalize N2.turned (N2.ties d n) (M.cell ns 5) = T at z3 hT
  rw [seq_nx (set_nx z3 (bor_own (pure_ties _)))]
  show sSeq _ _ [some (S ns), some (nN d n), some (.lst .own (qs.map .int)), some (.lst .own (T.map tieD)), none] = _
  have z4 : eA lstD (aCons (eA listD (aCons (eVar 2) aNil)) (aCons (eA listD (aCons (eVar 3) aNil)) aNil)) [some (S ns), some (nN d n), some (.lst .own (qs.map .int)), some (.lst .own (T.map tieD)), none] = .ok (.lst .own [.lst .own (qs.map .int), .lst .own (T.map tieD)]) := by
    rw [eA_ok (aCons_ok (list_ok (var_own rfl (pure_ints qs))) (aOne (list_ok (var_own rfl (pure_ties T)))))]
    rfl
  have b4 : (D.lst .own [.lst .own (qs.map .int), .lst .own (T.map tieD)]).hasBor = false := by
    show (false || ((D.lst .own (qs.map .int)).hasBor || ((D.lst .own (T.map tieD)).hasBor || false))) = false
    rw [bor_own (pure_ints _), bor_own (pure_ties _)]
    rfl
  rw [seq_nx (set_nx z4 b4)]
  show sSeq _ _ (lSt ns (nN d n) qs T qs T) = _
  have hql : qs.length ≤ 1000 := by rw [hq.length_eq, N2.places_len]; omega
  have hTl : T.length ≤ 1000 := by rw [hT.length_eq]; exact hlt
  have t1 := not_ok (eT_ok (c_like_net hn (c_from h1 hn hq hT (c_40 (ns := ns) (qs := qs) (T := T)) c_41) c_var1))
  rw [if_go t1]
  have t2 := or_ok (not_ok (eT_ok (c_like_lst (pure_ints qs) (lk_places qs hql) (c_40 (ns := ns) (d := d) (n := n) (qs := qs) (T := T) (T2 := T)) c_var2))) (not_ok (eT_ok (c_like_lst (pure_ties T) (lk_ties T hTl) c_41 c_var3)))
  rw [if_go t2, seq_nx (rev_nx (xs := qs.map .int) rfl)]
  rw [seq_nx (rev_nx (xs := T.map tieD) rfl)]
  rw [← List.map_reverse, ← List.map_reverse]
  show sRet _ (lSt ns (nN d n) qs.reverse T.reverse qs T) = _
  exact ret_rt (c_like_net hn (c_from h1 hn ((List.reverse_perm _).trans hq) ((List.reverse_perm _).trans hT) c_var2 c_var3) c_var1) rfl
theorem law_true (ns : List Int) (hl : ns.length ≤ 63) : G_law [.lst .frz (ns.map D.int)] = .ok (.bl true) := by
  obtain ⟨n, hn⟩ : ∃ n : Nat, (n : Int) = M.many (M.cell ns 0) := ⟨(M.many (M.cell ns 0)).toNat, by have := M.many_pos (M.cell ns 0); omega⟩
  have hb := M.many_pos (M.cell ns 0)
  rw [← hn] at hb
  have hn24 : n ≤ 24 := by omega
  have hnet := net_eq ns (n := n) hn24
  have hti := ties_eq ns (dN ns) (n := n) (fun k j => mix_eq ns (by decide) (by omega)) hn24
  exact law_gen ns (dN ns) (by omega) hn24 hn hnet hti
end KL
namespace KL
open PySem PySem.Spec PyProof.Rows L2 DL
theorem txt_mk {K : PySem.W.Frag} {h : Heap} {mg : Str → Option Value} (X : K.In h) (G : h.Ns mainGlobals mg) (z_bool : PySem.W.nsIn K mainGlobals "bool" = some none) (z_enumerate : PySem.W.nsIn K mainGlobals "enumerate" = some none) (z_int : PySem.W.nsIn K mainGlobals "int" = some none) (z_isinstance : PySem.W.nsIn K mainGlobals "isinstance" = some none) (z_len : PySem.W.nsIn K mainGlobals "len" = some none) (z_list : PySem.W.nsIn K mainGlobals "list" = some none) (z_max : PySem.W.nsIn K mainGlobals "max" = some none) (z_min : PySem.W.nsIn K mainGlobals "min" = some none) (z_range : PySem.W.nsIn K mainGlobals "range" = some none) (z_set : PySem.W.nsIn K mainGlobals "set" = some none) (z_sorted : PySem.W.nsIn K mainGlobals "sorted" = some none) (z_str : PySem.W.nsIn K mainGlobals "str" = some none) (z_tuple : PySem.W.nsIn K mainGlobals "tuple" = some none) {t_MOST_PLACES : Tok} (y_MOST_PLACES : PySem.W.nsIn K mainGlobals "MOST_PLACES" = some (some (.int 24 t_MOST_PLACES))) : Txt mg :=
  ⟨PySem.W.mg_none_of X G z_bool, PySem.W.mg_none_of X G z_enumerate, PySem.W.mg_none_of X G z_int, PySem.W.mg_none_of X G z_isinstance, PySem.W.mg_none_of X G z_len, PySem.W.mg_none_of X G z_list, PySem.W.mg_none_of X G z_max, PySem.W.mg_none_of X G z_min, PySem.W.mg_none_of X G z_range, PySem.W.mg_none_of X G z_set, PySem.W.mg_none_of X G z_sorted, PySem.W.mg_none_of X G z_str, PySem.W.mg_none_of X G z_tuple, ⟨_, PySem.W.mg_of X G y_MOST_PLACES⟩⟩
theorem all_ok {l : PySem.W.OpenLaw} {w : World} {K : PySem.W.Frag} {h : Heap} {mg : Str → Option Value} {fa : Addr} (X : K.In h) (G : h.Ns mainGlobals mg) (hfa : mg "law" = some (.ref fa)) (T : Txt mg)
    (D_require_place : Dfn K mg "require_place" s_require_place ["places", "place"])
    (D_require_two : Dfn K mg "require_two" s_require_two ["places", "one", "other"])
    (D_pair : Dfn K mg "pair" s_pair ["one", "other"])
    (D_net_with : Dfn K mg "net_with" s_net_with ["places", "colours"])
    (D_net_from : Dfn K mg "net_from" s_net_from ["places", "ties"])
    (D__law_cell : Dfn K mg "_law_cell" s__law_cell ["_law_script", "_law_k"])
    (D__law_like : Dfn K mg "_law_like" s__law_like ["_law_found", "_law_due"])
    (D__law_many : Dfn K mg "_law_many" s__law_many ["_law_cell_here"])
    (D__law_mix : Dfn K mg "_law_mix" s__law_mix ["_law_script", "_law_at", "_law_k"])
    (D__law_places : Dfn K mg "_law_places" s__law_places ["_law_script", "_law_at", "_law_many_here"])
    (D__law_shade : Dfn K mg "_law_shade" s__law_shade ["_law_script", "_law_at", "_law_k", "_law_j"])
    (D__law_net : Dfn K mg "_law_net" s__law_net ["_law_script", "_law_at", "_law_many_here"])
    (D__law_ties : Dfn K mg "_law_ties" s__law_ties ["_law_script", "_law_net_here"])
    (D__law_turned : Dfn K mg "_law_turned" s__law_turned ["_law_row", "_law_cell_here"])
    {f : Addr} {oc : Value} {od an : Option Addr} {osl : Array (Option Value)} {kV doc pm cdv ct : Value} (a : PySem.W.nsIn K mainGlobals "law" = some (some (.ref f)))
    (lk : K.lookup f = some ⟨oc, od, .func (PySem.W.fnOf "law" "law" (defArgs s_law) (defBody s_law) (defScope s_law) .none kV doc pm an cdv ct), osl⟩) (c : PySem.W.codeIn K cdv "law" = true) (k : PySem.W.keepIn K (.ref f) = true) :
    ∃ fd : FuncData, (∀ (s : Shared) (v : Value), BindsTo s fd ⟨[v], []⟩ [("_law_script", v)]) ∧ ∀ base : Heap, K.In base → base.Ns mainGlobals mg → FnOk l.prog w K mg base CX0 6 fa fd ["_law_script"] (spF K G_law) := by
  have e := hfa.symm.trans (PySem.W.mg_of X G a)
  cases e
  refine ⟨PySem.W.fnOf "law" "law" (defArgs s_law) (defBody s_law) (defScope s_law) .none kV doc pm an cdv ct, fun s v => .of_eq rfl, fun base _ _ => ?_⟩
  have C_require_place := ok_require_place (P := l.prog) (w := w) (base := base) T  D_require_place
  have C_require_two := ok_require_two (P := l.prog) (w := w) (base := base) T C_require_place D_require_two
  have C_pair := ok_pair (P := l.prog) (w := w) (base := base) T  D_pair
  have C_net_with := ok_net_with (P := l.prog) (w := w) (base := base) T C_pair D_net_with
  have C_net_from := ok_net_from (P := l.prog) (w := w) (base := base) T C_require_two C_pair C_net_with D_net_from
  have C__law_cell := ok__law_cell (P := l.prog) (w := w) (base := base) T  D__law_cell
  have C__law_like := ok__law_like (P := l.prog) (w := w) (base := base) T  D__law_like 4
  have C__law_many := ok__law_many (P := l.prog) (w := w) (base := base) T  D__law_many
  have C__law_mix := ok__law_mix (P := l.prog) (w := w) (base := base) T C__law_cell D__law_mix
  have C__law_places := ok__law_places (P := l.prog) (w := w) (base := base) T C__law_cell D__law_places
  have C__law_shade := ok__law_shade (P := l.prog) (w := w) (base := base) T C__law_cell C__law_mix D__law_shade
  have C__law_net := ok__law_net (P := l.prog) (w := w) (base := base) T C__law_places C__law_shade D__law_net
  have C__law_ties := ok__law_ties (P := l.prog) (w := w) (base := base) T C__law_mix D__law_ties
  have C__law_turned := ok__law_turned (P := l.prog) (w := w) (base := base) T  D__law_turned
  exact fn_law T C_net_from C__law_cell C__law_like C__law_many C__law_net C__law_ties C__law_turned (fun_mk (st := s_law) lk c k)
end KL
open PySem PySem.W PyProof.Rows
set_option maxRecDepth 100000 in
set_option maxHeartbeats 0 in
theorem PySem.Challenge.cw_modulewood_k01_nets_made_holds : PySem.Challenge.rw_modulewood_k01_nets_made.Holds := by
  w_on; o_law; k_head; (case hw => w_witness2)
  k_fill
  refine L2.walk_of (l := PySem.Challenge.rw_modulewood_k01_nets_made) (n := 63) (k := 6) (x := "_law_script") (CX := fun _ => L2.CX0) (sp := fun w => DL.spF _ KL.G_law) rfl (by decide) rfl ⟨rfl, by decide, by decide⟩ (fun w h Y => PySem.W.kIn_of Y) ?F (fun w H a ns hl _ hS => DL.law_sp hS (KL.law_true ns hl)) fun _ _ _ _ _ z => z
  case F =>
    intro w mg fa h KX G hmg
    have T : KL.Txt mg := by
      refine' KL.txt_mk KX G ?z0 ?z1 ?z2 ?z3 ?z4 ?z5 ?z6 ?z7 ?z8 ?z9 ?z10 ?z11 ?z12 ?z13
      (case z0 => k_is)
      (case z1 => k_is)
      (case z2 => k_is)
      (case z3 => k_is)
      (case z4 => k_is)
      (case z5 => k_is)
      (case z6 => k_is)
      (case z7 => k_is)
      (case z8 => k_is)
      (case z9 => k_is)
      (case z10 => k_is)
      (case z11 => k_is)
      (case z12 => k_is)
      (case z13 => k_is)
    have D_require_place : L2.Dfn (L2.KOf KX) mg "require_place" KL.s_require_place ["places", "place"] := by
      dsimp only [L2.KOf]
      refine' DL.dfn_mk KX G ?a ?l ?c ?k (fun _ _ _ _ _ _ us hl => match us, hl with | [_, _], _ => rfl)
      (case a => k_is); (case l => k_is); (case c => k_is); (case k => k_is)
    have D_require_two : L2.Dfn (L2.KOf KX) mg "require_two" KL.s_require_two ["places", "one", "other"] := by
      dsimp only [L2.KOf]
      refine' DL.dfn_mk KX G ?a ?l ?c ?k (fun _ _ _ _ _ _ us hl => match us, hl with | [_, _, _], _ => rfl)
      (case a => k_is); (case l => k_is); (case c => k_is); (case k => k_is)
    have D_pair : L2.Dfn (L2.KOf KX) mg "pair" KL.s_pair ["one", "other"] := by
      dsimp only [L2.KOf]
      refine' DL.dfn_mk KX G ?a ?l ?c ?k (fun _ _ _ _ _ _ us hl => match us, hl with | [_, _], _ => rfl)
      (case a => k_is); (case l => k_is); (case c => k_is); (case k => k_is)
    have D_net_with : L2.Dfn (L2.KOf KX) mg "net_with" KL.s_net_with ["places", "colours"] := by
      dsimp only [L2.KOf]
      refine' DL.dfn_mk KX G ?a ?l ?c ?k (fun _ _ _ _ _ _ us hl => match us, hl with | [_, _], _ => rfl)
      (case a => k_is); (case l => k_is); (case c => k_is); (case k => k_is)
    have D_net_from : L2.Dfn (L2.KOf KX) mg "net_from" KL.s_net_from ["places", "ties"] := by
      dsimp only [L2.KOf]
      refine' DL.dfn_mk KX G ?a ?l ?c ?k (fun _ _ _ _ _ _ us hl => match us, hl with | [_, _], _ => rfl)
      (case a => k_is); (case l => k_is); (case c => k_is); (case k => k_is)
    have D__law_cell : L2.Dfn (L2.KOf KX) mg "_law_cell" KL.s__law_cell ["_law_script", "_law_k"] := by
      dsimp only [L2.KOf]
      refine' DL.dfn_mk KX G ?a ?l ?c ?k (fun _ _ _ _ _ _ us hl => match us, hl with | [_, _], _ => rfl)
      (case a => k_is); (case l => k_is); (case c => k_is); (case k => k_is)
    have D__law_like : L2.Dfn (L2.KOf KX) mg "_law_like" KL.s__law_like ["_law_found", "_law_due"] := by
      dsimp only [L2.KOf]
      refine' DL.dfn_mk KX G ?a ?l ?c ?k (fun _ _ _ _ _ _ us hl => match us, hl with | [_, _], _ => rfl)
      (case a => k_is); (case l => k_is); (case c => k_is); (case k => k_is)
    have D__law_many : L2.Dfn (L2.KOf KX) mg "_law_many" KL.s__law_many ["_law_cell_here"] := by
      dsimp only [L2.KOf]
      refine' DL.dfn_mk KX G ?a ?l ?c ?k (fun _ _ _ _ _ _ us hl => match us, hl with | [_], _ => rfl)
      (case a => k_is); (case l => k_is); (case c => k_is); (case k => k_is)
    have D__law_mix : L2.Dfn (L2.KOf KX) mg "_law_mix" KL.s__law_mix ["_law_script", "_law_at", "_law_k"] := by
      dsimp only [L2.KOf]
      refine' DL.dfn_mk KX G ?a ?l ?c ?k (fun _ _ _ _ _ _ us hl => match us, hl with | [_, _, _], _ => rfl)
      (case a => k_is); (case l => k_is); (case c => k_is); (case k => k_is)
    have D__law_places : L2.Dfn (L2.KOf KX) mg "_law_places" KL.s__law_places ["_law_script", "_law_at", "_law_many_here"] := by
      dsimp only [L2.KOf]
      refine' DL.dfn_mk KX G ?a ?l ?c ?k (fun _ _ _ _ _ _ us hl => match us, hl with | [_, _, _], _ => rfl)
      (case a => k_is); (case l => k_is); (case c => k_is); (case k => k_is)
    have D__law_shade : L2.Dfn (L2.KOf KX) mg "_law_shade" KL.s__law_shade ["_law_script", "_law_at", "_law_k", "_law_j"] := by
      dsimp only [L2.KOf]
      refine' DL.dfn_mk KX G ?a ?l ?c ?k (fun _ _ _ _ _ _ us hl => match us, hl with | [_, _, _, _], _ => rfl)
      (case a => k_is); (case l => k_is); (case c => k_is); (case k => k_is)
    have D__law_net : L2.Dfn (L2.KOf KX) mg "_law_net" KL.s__law_net ["_law_script", "_law_at", "_law_many_here"] := by
      dsimp only [L2.KOf]
      refine' DL.dfn_mk KX G ?a ?l ?c ?k (fun _ _ _ _ _ _ us hl => match us, hl with | [_, _, _], _ => rfl)
      (case a => k_is); (case l => k_is); (case c => k_is); (case k => k_is)
    have D__law_ties : L2.Dfn (L2.KOf KX) mg "_law_ties" KL.s__law_ties ["_law_script", "_law_net_here"] := by
      dsimp only [L2.KOf]
      refine' DL.dfn_mk KX G ?a ?l ?c ?k (fun _ _ _ _ _ _ us hl => match us, hl with | [_, _], _ => rfl)
      (case a => k_is); (case l => k_is); (case c => k_is); (case k => k_is)
    have D__law_turned : L2.Dfn (L2.KOf KX) mg "_law_turned" KL.s__law_turned ["_law_row", "_law_cell_here"] := by
      dsimp only [L2.KOf]
      refine' DL.dfn_mk KX G ?a ?l ?c ?k (fun _ _ _ _ _ _ us hl => match us, hl with | [_, _], _ => rfl)
      (case a => k_is); (case l => k_is); (case c => k_is); (case k => k_is)
    refine' KL.all_ok KX G hmg T D_require_place D_require_two D_pair D_net_with D_net_from D__law_cell D__law_like D__law_many D__law_mix D__law_places D__law_shade D__law_net D__law_ties D__law_turned ?a ?l ?c ?k
    (case a => k_is); (case l => k_is); (case c => k_is); (case k => k_is)
