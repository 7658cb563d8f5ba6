import PyProof.Rows.All
import Wide.All
import OpenK.AllK
import Wide.FinOn
import Lean
import PyProof.EqAt
import PyProof.EqKinds
import PyProof.TupleCall
import PySem.Challenge.RW_bytetongue_k82_in_step_by_pairs
set_option Elab.async false
set_option linter.all false
set_option maxRecDepth 100000
/-! THE HAND LAYER, for ints, bools, texts, own classes, LISTS and tuples (index, slices, in, append, pop ..), calls, loops. Paste it whole ahead of your own text; what your proof does not reach may be deleted. -/
namespace L2
open PySem PySem.Spec PyProof.Rows

/-- a key: an int or a str -/
abbrev Key := Sum Int Str
def keyIs : Key → Value → Bool
  | .inl k, v => Value.isInt k v
  | .inr x, v => Value.isStrOf x v
def keyH (w : World) : Key → Int
  | .inl k => hashInt k
  | .inr x => hashStr w x
theorem keyIs_shape : ∀ {k : Key} {v : Value}, keyIs k v = true → (∃ i t, k = Sum.inl i ∧ v = Value.int i t) ∨ (∃ x t, k = Sum.inr x ∧ v = Value.str x t)
  | .inl i, v, h => by
    obtain ⟨t, e⟩ := Value.isInt_shape (k := i) (v := v) h
    exact .inl ⟨i, t, rfl, e⟩
  | .inr x, v, h => by
    obtain ⟨t, e⟩ := Value.isStrOf_shape (x := x) (v := v) h
    exact .inr ⟨x, t, rfl, e⟩
theorem keyIs_int (i : Int) (t : Tok) : keyIs (.inl i) (.int i t) = true := by simp [keyIs, Value.isInt]
theorem keyIs_str (x : Str) (t : Tok) : keyIs (.inr x) (.str x t) = true := by simp [keyIs, Value.isStrOf]
theorem key_ll (a b : Int) : decide ((Sum.inl a : Key) = Sum.inl b) = (a == b) := by
  by_cases e : a = b
  · subst e; simp
  · have h : ¬ (Sum.inl a : Key) = Sum.inl b := fun q => e (Sum.inl.inj q)
    rw [decide_eq_false h]
    exact (beq_eq_false_iff_ne.mpr e).symm
theorem key_rr (a b : Str) : decide ((Sum.inr a : Key) = Sum.inr b) = decide (a = b) := by
  by_cases e : a = b
  · subst e; simp
  · have h : ¬ (Sum.inr a : Key) = Sum.inr b := fun q => e (Sum.inr.inj q)
    rw [decide_eq_false h, decide_eq_false e]
theorem key_lr (a : Int) (b : Str) : decide ((Sum.inl a : Key) = Sum.inr b) = false := decide_eq_false (fun q => nomatch q)
theorem key_rl (a : Str) (b : Int) : decide ((Sum.inr a : Key) = Sum.inl b) = false := decide_eq_false (fun q => nomatch q)

def mixKind (prog : Program) (w : World) : PySem.KeyKind prog w Key where
  is := keyIs
  hash := keyH w
  inj := fun v a b ha hb => by
    rcases keyIs_shape ha with ⟨i, t, rfl, rfl⟩ | ⟨x, t, rfl, rfl⟩
    · rcases keyIs_shape hb with ⟨j, u, rfl, e⟩ | ⟨y, u, rfl, e⟩
      · injection e with e1 _; rw [e1]
      · exact nomatch e
    · rcases keyIs_shape hb with ⟨j, u, rfl, e⟩ | ⟨y, u, rfl, e⟩
      · exact nomatch e
      · injection e with e1 _; rw [e1]
  byValue := fun k v h => by
    rcases keyIs_shape h with ⟨i, t, rfl, rfl⟩ | ⟨x, t, rfl, rfl⟩ <;> rfl
  pyHash := fun hv h => by
    rcases keyIs_shape hv with ⟨i, t, rfl, rfl⟩ | ⟨x, t, rfl, rfl⟩
    · exact wpAny_pyHash_int h
    · exact wpAny_pyHash_str h
  eqBool := fun hu hv h => by
    rcases keyIs_shape hu with ⟨i, t, rfl, rfl⟩ | ⟨x, t, rfl, rfl⟩
    · rcases keyIs_shape hv with ⟨j, u, rfl, rfl⟩ | ⟨y, u, rfl, rfl⟩
      · rw [key_ll] at h; exact wpAny_eqBool_int h
      · rw [key_lr] at h; exact SeqAt.EqAt.int_str i t y u _ _ _ _ h
    · rcases keyIs_shape hv with ⟨j, u, rfl, rfl⟩ | ⟨y, u, rfl, rfl⟩
      · rw [key_rl] at h; exact SeqAt.EqAt.str_int x t j u _ _ _ _ h
      · rw [key_rr] at h; exact wpAny_eqBool_str h
  «strs» := fun k x t v h => by
    rcases keyIs_shape h with ⟨i, u, rfl, e⟩ | ⟨y, u, rfl, e⟩
    · exact nomatch e
    · injection e with e1 _
      subst e1
      cases v <;> rfl

theorem mixKind_int (prog : Program) (w : World) (i : Int) (t : Tok) : (mixKind prog w).is (.inl i) (.int i t) = true := keyIs_int i t
theorem mixKind_str (prog : Program) (w : World) (x : Str) (t : Tok) : (mixKind prog w).is (.inr x) (.str x t) = true := keyIs_str x t
end L2

namespace L2
open PySem PySem.Spec PyProof.Rows

/-- a value, without the heap -/
inductive V where
  | non | bl (b : Bool) | int (i : Int) | str (x : Str) | byt (b : Array UInt8) | flt (b : UInt64) | ref (a : Addr) | ty (n : String)
  deriving DecidableEq

def RelV : V → Value → Prop
  | .non, u => u = Value.none
  | .bl b, u => u = Value.bool b
  | .int i, u => ∃ t, u = Value.int i t
  | .str x, u => ∃ t, u = Value.str x t
  | .byt b, u => ∃ t, u = Value.bytes b t
  | .flt b, u => ∃ t, u = Value.float b t
  | .ref a, u => u = Value.ref a
  | .ty n, u => u = Value.type n

abbrev Vals : List V → List Value → Prop := Paired RelV
theorem Vals.length {xs : List V} {us : List Value} (r : Vals xs us) : xs.length = us.length := Paired.length r
theorem Vals.get : ∀ {xs : List V} {us : List Value} {i : Nat} {x : V}, Vals xs us → xs[i]? = some x → ∃ u, us[i]? = some u ∧ RelV x u
  | _, _, _, _, .nil, e => by simp at e
  | _, _, 0, _, .cons r _, e => by simp at e; subst e; exact ⟨_, rfl, r⟩
  | _, _, i + 1, x, .cons _ t, e => by
    obtain ⟨u, h1, h2⟩ := Vals.get (i := i) (x := x) t (by simpa using e)
    exact ⟨u, by simpa using h1, h2⟩
theorem Vals.set {x : V} {u : Value} (r : RelV x u) : ∀ {xs : List V} {us : List Value} (i : Nat), Vals xs us → Vals (xs.set i x) (us.set i u)
  | _, _, _, .nil => .nil
  | _, _, 0, .cons _ t => .cons r t
  | _, _, i + 1, .cons q t => .cons q (Vals.set r i t)
theorem Vals.append : ∀ {xs ys : List V} {us ws : List Value}, Vals xs us → Vals ys ws → Vals (xs ++ ys) (us ++ ws)
  | _, _, _, _, .nil, s => s
  | _, _, _, _, .cons r t, s => .cons r (Vals.append t s)
theorem Vals.take : ∀ {xs : List V} {us : List Value} (n : Nat), Vals xs us → Vals (xs.take n) (us.take n)
  | _, _, 0, _ => .nil
  | _, _, _ + 1, .nil => .nil
  | _, _, n + 1, .cons r t => .cons r (Vals.take n t)
theorem Vals.drop : ∀ {xs : List V} {us : List Value} (n : Nat), Vals xs us → Vals (xs.drop n) (us.drop n)
  | _, _, 0, r => r
  | _, _, _ + 1, .nil => .nil
  | _, _, n + 1, .cons _ t => Vals.drop n t
theorem Vals.none_of : ∀ {xs : List V} {us : List Value} {i : Nat}, Vals xs us → xs[i]? = none → us[i]? = none := fun {xs us i} r e => by
  have h1 := r.length
  have h2 : xs.length ≤ i := List.getElem?_eq_none_iff.mp e
  exact List.getElem?_eq_none_iff.mpr (by omega)

def RelO : Option V → Option Value → Prop
  | some v, some u => RelV v u
  | none, none => True
  | _, _ => False
def KV {κ : Type} : List (κ × V) → List (κ × Value) → Prop := Paired fun (p : κ × V) (q : κ × Value) => p.1 = q.1 ∧ RelV p.2 q.2

/-- a key of a dict (00_mix): an int or a text -/
def kV : Key → V
  | .inl i => .int i
  | .inr x => .str x

/-- what stands at a tracked address -/
inductive HO where
  /-- a list -/
  | lst (xs : List V)
  /-- a tuple (never changes) -/
  | tup (xs : List V)
  /-- a dict whose keys are ints and texts; one whose keys are tuples of ints and texts (the empty one is both) -/
  | dK (kvs : List (Key × V)) | dT (kvs : List (List Key × V))
  /-- a set of ints: its members, its size -/
  | set (S : Int → Bool) (n : Nat)
  /-- an instance of the class at C, its dict at dx, its attributes -/
  | ins (C dx : Addr) (fs : List (Str × V))
  /-- the dict of the instance at x -/
  | own (x : Addr)
  /-- the dict of an exception -/
  | xd (fs : List (Str × V))
  /-- a bound method, f of x -/
  | met (f x : Addr)
  /-- a range object lo, lo + 1, .. below hi -/
  | rng (lo hi : Int)
  /-- a thing that is known to the object (the script; a dict while a loop walks it): read, never written while it is so -/
  | frz (o : Obj) (u : HO)
  /-- a code object's table -/
  | tbl (ps : Array Value)
  /-- any other thing, by what is true of its one object (a def of one's own: SetO a S n := HO.ext fun h => ..) -/
  | ext (φ : Heap → Prop)

abbrev Hp := Addr → Option HO
def upd (H : Hp) (a : Addr) (o : HO) : Hp := fun b => if b = a then some o else H b
theorem upd_same {H : Hp} {a : Addr} {o : HO} : upd H a o a = some o := by unfold upd; rw [if_pos rfl]
theorem upd_ne {H : Hp} {a b : Addr} {o : HO} (h : b ≠ a) : upd H a o b = H b := by unfold upd; rw [if_neg h]
/-- two objects of different content stand apart -/
theorem ne_of {H : Hp} {a b : Addr} {o u : HO} (h : H a = some o) (h' : H b = some u) (d : o ≠ u) : a ≠ b := by
  intro e; subst e; rw [h] at h'; exact d (Option.some.inj h')
theorem ne_of_none {H : Hp} {a b : Addr} {o : HO} (h : H a = some o) (h' : H b = none) : a ≠ b := by
  intro e; subst e; rw [h] at h'; cases h'

section
variable (P : Program) (w : World)
def ObjOk (H : Hp) (h : Heap) (a : Addr) : HO → Prop
  | .lst xs => xs.length ≤ sizeLine ∧ ∃ (its : List Value) (n : Nat), Vals xs its ∧ h.get? a = some { cls := .type "list", data := .seq its.toArray n }
  | .tup xs => xs.length ≤ sizeLine ∧ ∃ its : List Value, Vals xs its ∧ IsTup h a its.toArray
  | .dK kvs => kvs.length ≤ sizeLine ∧ (a == sysModules) = false ∧ ∃ vs, KV kvs vs ∧ h.DictOf (mixKind P w) a vs
  | .dT kvs => kvs.length ≤ sizeLine ∧ (a == sysModules) = false ∧ ∃ xs : List (List Key × Addr × Value),
      Paired (fun (p : List Key × V) (q : List Key × Addr × Value) => p.1 = q.1 ∧ H q.2.1 = some (.tup (p.1.map kV)) ∧ RelV p.2 q.2.2) kvs xs ∧
      ∃ o es ep, h.get? a = some o ∧ o.ExactDict ∧ o.data = .dict es ep ∧ es.toList = xs.map (entryOfKey (tupleKind (mixKind P w))) ∧ (xs.map (·.1)).Nodup
  | .set S n => h.SetOf (intKind P w) a S n
  | .ins C dx fs => H dx = some (.own a) ∧ fs.length ≤ 1000 ∧ dx ≠ a ∧ h.get? a = some (PySem.W.instObj C dx) ∧
      ∃ mA, h.Ns1 dx mA ∧ (∀ f, RelO (fs.lookup f) (mA f)) ∧ PySem.Within mA (fs.map (·.1))
  | .own _ => ∃ o, h.get? a = some o
  | .xd fs => ∃ mA, h.Ns1 a mA ∧ ∀ f, RelO (fs.lookup f) (mA f)
  | .rng lo hi => ∃ t u v, h.get? a = some { cls := .type "range", data := .fields #[.int lo t, .int hi u, .int 1 v] }
  | .frz o u => h.get? a = some o ∧ ObjOk H h a u
  | .tbl ps => h.get? a = some { cls := .none, data := .fields ps }
  | .met f x => h.get? a = some (PySem.W.methodObj (.ref f) (.ref x))
  | .ext φ => φ h ∧ (∃ o, h.get? a = some o) ∧ ∀ h1 h2 : Heap, φ h1 → (∀ o, h1.get? a = some o → h2.get? a = some o) → φ h2
/-- the abstract heap is held -/
def HOk (H : Hp) (h : Heap) : Prop := ∀ a o, H a = some o → ObjOk P w H h a o
end

section
variable {P : Program} {w : World} {H H' : Hp} {h h' : Heap} {a : Addr} {o : HO}
theorem ObjOk.lt (x : ObjOk P w H h a o) : a < h.objs.size := by
  cases o with
  | lst xs => obtain ⟨_, _, _, _, e⟩ := x; exact Heap.lt_size e
  | tup xs => obtain ⟨_, _, _, p⟩ := x; exact p.lt
  | dK kvs => obtain ⟨_, _, _, _, o, _, _, e, _⟩ := x; exact Heap.lt_size e
  | dT kvs => obtain ⟨_, _, _, _, o, _, _, e, _⟩ := x; exact Heap.lt_size e
  | set S n => obtain ⟨o, _, _, _, e, _⟩ := x; exact Heap.lt_size e
  | ins C dx fs => obtain ⟨_, _, _, e, _⟩ := x; exact Heap.lt_size e
  | own y => obtain ⟨_, e⟩ := x; exact Heap.lt_size e
  | xd fs => obtain ⟨_, ⟨_, _, _, e, _⟩, _⟩ := x; exact Heap.lt_size e
  | rng lo hi => obtain ⟨_, _, _, e⟩ := x; exact Heap.lt_size e
  | frz ob u => obtain ⟨e, _⟩ := x; exact Heap.lt_size e
  | tbl ps => exact Heap.lt_size (show h.get? a = some _ from x)
  | met f y => exact Heap.lt_size (show h.get? a = some _ from x)
  | ext φ => obtain ⟨_, ⟨_, e⟩, _⟩ := x; exact Heap.lt_size e
theorem Paired.mapP {α β : Type} {F G : α → β → Prop} : ∀ {l₁ : List α} {l₂ : List β}, Paired F l₁ l₂ → (∀ a b, F a b → G a b) → Paired G l₁ l₂
  | _, _, .nil, _ => .nil
  | _, _, .cons r t, f => .cons (f _ _ r) (Paired.mapP t f)
/-- what an object's description leans on: its own object, its own dict, the tuples -/
theorem ObjOk.stay (x : ObjOk P w H h a o) (k : ∀ b u, (b = a ∨ H b = some (.own a)) → h.get? b = some u → h'.get? b = some u)
    (ho : ∀ b, H b = some (.own a) → H' b = some (.own a)) (ht : ∀ b xs, H b = some (.tup xs) → H' b = some (.tup xs)) : ObjOk P w H' h' a o := by
  induction o with
  | lst xs => obtain ⟨z, its, n, r, e⟩ := x; exact ⟨z, its, n, r, k _ _ (.inl rfl) e⟩
  | tup xs => obtain ⟨z, its, r, ob, e, c⟩ := x; exact ⟨z, its, r, ob, k _ _ (.inl rfl) e, c⟩
  | dK kvs => obtain ⟨z, y, vs, r, ob, es, ep, e, c⟩ := x; exact ⟨z, y, vs, r, ob, es, ep, k _ _ (.inl rfl) e, c⟩
  | dT kvs =>
    obtain ⟨z, y, xs, r, ob, es, ep, e, c⟩ := x
    exact ⟨z, y, xs, Paired.mapP r fun p q z => ⟨z.1, ht _ _ z.2.1, z.2.2⟩, ob, es, ep, k _ _ (.inl rfl) e, c⟩
  | set S n => obtain ⟨ob, es, ep, t, e, c⟩ := x; exact ⟨ob, es, ep, t, k _ _ (.inl rfl) e, c⟩
  | ins C dx fs =>
    obtain ⟨d, z, ne, e, mA, ⟨od, es, ep, e2, c⟩, r⟩ := x
    exact ⟨ho _ d, z, ne, k _ _ (.inl rfl) e, mA, ⟨od, es, ep, k _ _ (.inr d) e2, c⟩, r⟩
  | own y => obtain ⟨ob, e⟩ := x; exact ⟨ob, k _ _ (.inl rfl) e⟩
  | xd fs => obtain ⟨mA, ⟨od, es, ep, e, c⟩, r⟩ := x; exact ⟨mA, ⟨od, es, ep, k _ _ (.inl rfl) e, c⟩, r⟩
  | rng lo hi => obtain ⟨t, u, v, e⟩ := x; exact ⟨t, u, v, k _ _ (.inl rfl) e⟩
  | frz ob u ih => obtain ⟨e, q⟩ := x; exact ⟨k _ _ (.inl rfl) e, ih q⟩
  | tbl ps =>
    have e : h.get? a = some { cls := .none, data := .fields ps } := x
    show h'.get? a = some { cls := .none, data := .fields ps }
    exact k a _ (.inl rfl) e
  | met f y =>
    have e : h.get? a = some (PySem.W.methodObj (.ref f) (.ref y)) := x
    show h'.get? a = some (PySem.W.methodObj (.ref f) (.ref y))
    exact k a _ (.inl rfl) e
  | ext φ => obtain ⟨p, ⟨o, e⟩, st⟩ := x; exact ⟨st _ _ p fun o q => k _ _ (.inl rfl) q, ⟨o, k _ _ (.inl rfl) e⟩, st⟩
theorem HOk.lt (x : HOk P w H h) (e : H a = some o) : a < h.objs.size := (x a o e).lt
theorem HOk.fresh (x : HOk P w H h) (e : h.objs.size ≤ a) : H a = none := by
  cases q : H a with
  | none => rfl
  | some u => exact absurd (Nat.lt_of_lt_of_le (x.lt q) e) (Nat.lt_irrefl _)
/-- every object of the heap is kept -/
theorem HOk.kept (x : HOk P w H h) (k : ∀ b u, h.get? b = some u → h'.get? b = some u) : HOk P w H h' := fun a o e =>
  (x a o e).stay (fun b u _ q => k b u q) (fun _ q => q) fun _ _ q => q
/-- a new object is laid and tracked -/
theorem HOk.laid (x : HOk P w H h) (k : ∀ b u, h.get? b = some u → h'.get? b = some u) (hp : h.objs.size ≤ a) (new : ObjOk P w (upd H a o) h' a o) : HOk P w (upd H a o) h' := fun b u e => by
  have hn := x.fresh hp
  by_cases hb : b = a
  · subst hb; rw [upd_same] at e; cases e; exact new
  · rw [upd_ne hb] at e
    exact (x b u e).stay (fun c v _ q => k c v q) (fun c q => by rw [upd_ne (ne_of_none q hn)]; exact q) fun c xs q => by rw [upd_ne (ne_of_none q hn)]; exact q
end

/-- what may be read as u: it is u, or a known u -/
def Rd (H : Hp) (a : Addr) (u : HO) : Prop := H a = some u ∨ ∃ o, H a = some (.frz o u)
theorem Rd.of {H : Hp} {a : Addr} {u : HO} (h : H a = some u) : Rd H a u := .inl h
theorem Rd.ok {P : Program} {w : World} {H : Hp} {h : Heap} {a : Addr} {u : HO} (r : Rd H a u) (x : HOk P w H h) : ObjOk P w H h a u := by
  rcases r with r | ⟨o, r⟩
  · exact x a u r
  · obtain ⟨_, q⟩ := x a _ r
    exact q
/-- what may be written -/
def Mut : Option HO → Prop
  | some (.lst _) => True
  | some (.dK _) => True
  | some (.dT _) => True
  | some (.set _ _) => True
  | some (.ins _ _ _) => True
  | some (.ext _) => True
  | _ => False
section
variable {P : Program} {w : World} {H : Hp} {h h' : Heap} {x e : Addr} {o' : HO}
/-- the object at e is changed: x itself, or the dict of the instance x -/
theorem HOk.write (ok : HOk P w H h) (mu : Mut (H x)) (he : e = x ∨ H e = some (.own x)) (k : ∀ b u, b ≠ e → h.get? b = some u → h'.get? b = some u) (heo : ∃ u, h'.get? e = some u)
    (new : ObjOk P w (upd H x o') h' x o') : HOk P w (upd H x o') h' := fun b u q => by
  have nown : ∀ c y, H c = some (.own y) → c ≠ x := fun c y r z => by subst z; rw [r] at mu; exact mu
  have ntup : ∀ c xs, H c = some (.tup xs) → c ≠ x := fun c xs r z => by subst z; rw [r] at mu; exact mu
  by_cases hb : b = x
  · subst hb; rw [upd_same] at q; cases q; exact new
  · rw [upd_ne hb] at q
    by_cases hbe : b = e
    · have q' : H b = some (.own x) := by
        rcases he with z | z
        · exact absurd (hbe.trans z) hb
        · rw [hbe]; exact z
      rw [q] at q'; cases q'
      obtain ⟨v, hv⟩ := heo
      exact ⟨v, by rw [hbe]; exact hv⟩
    · refine (ok b u q).stay (fun c v hc r => k c v ?_ r) (fun c r => by rw [upd_ne (nown c b r)]; exact r) fun c xs r => by rw [upd_ne (ntup c xs r)]; exact r
      rcases hc with rfl | hc
      · exact hbe
      · rintro rfl
        rcases he with z | z
        · exact nown c b hc z
        · rw [hc] at z; cases z; exact hb rfl
end

/-! ### kept unless tracked; of the frames at fs (the callers') the slots may change (an exception that passes writes there); of the records at ex (iterators) nothing is said -/
structure Un (fs ex : List Addr) (H H' : Hp) (h h' : Heap) : Prop where
  keep : ∀ b o, h.get? b = some o → H b = none → b ∉ fs → b ∉ ex → h'.get? b = some o
  slot : ∀ b o, h.get? b = some o → H b = none → b ∈ fs → b ∉ ex → ∃ sl, h'.get? b = some { o with slots := sl }
  free : ∀ b o, h.get? b = some o → H b = none → b ∉ ex → H' b = none
  there : ∀ b o, h.get? b = some o → b ∉ ex → ∃ o', h'.get? b = some o'
  tups : ∀ b xs, H b = some (.tup xs) → H' b = some (.tup xs)
  frzs : ∀ b o u, H b = some (.frz o u) → H' b = some (.frz o u)
  tbls : ∀ b ps, H b = some (.tbl ps) → ∃ more, H' b = some (.tbl (ps ++ more))
section
variable {fs fs' ex ex' : List Addr} {H H1 H2 : Hp} {h h1 h2 h' : Heap} {a x e : Addr} {o : HO}
theorem Un.any (u : Un fs ex H H1 h h1) {b : Addr} {ob : Obj} (q : h.get? b = some ob) (n : H b = none) (hx : b ∉ ex) : ∃ sl, h1.get? b = some { ob with slots := sl } := by
  by_cases hb : b ∈ fs
  · exact u.slot b ob q n hb hx
  · exact ⟨ob.slots, u.keep b ob q n hb hx⟩
theorem Un.trans (a : Un fs ex H H1 h h1) (b : Un fs ex H1 H2 h1 h2) : Un fs ex H H2 h h2 where
  keep := fun c ob q n hc hx => b.keep c ob (a.keep c ob q n hc hx) (a.free c ob q n hx) hc hx
  slot := fun c ob q n hc hx => by
    obtain ⟨sl, e1⟩ := a.slot c ob q n hc hx
    obtain ⟨sl', e2⟩ := b.slot c _ e1 (a.free c ob q n hx) hc hx
    exact ⟨sl', e2⟩
  free := fun c ob q n hx => by
    obtain ⟨o', e1⟩ := a.there c ob q hx
    exact b.free c o' e1 (a.free c ob q n hx) hx
  there := fun c ob q hx => by
    obtain ⟨o', e1⟩ := a.there c ob q hx
    exact b.there c o' e1 hx
  tups := fun c xs q => b.tups c xs (a.tups c xs q)
  frzs := fun c ob xs q => b.frzs c ob xs (a.frzs c ob xs q)
  tbls := fun c ps q => by
    obtain ⟨m1, e1⟩ := a.tbls c ps q
    obtain ⟨m2, e2⟩ := b.tbls c _ e1
    exact ⟨m1 ++ m2, by rw [e2, Array.append_assoc]⟩
theorem Un.kept (k : ∀ b u, h.get? b = some u → h'.get? b = some u) : Un fs ex H H h h' :=
  ⟨fun b ob q _ _ _ => k b ob q, fun b ob q _ _ _ => ⟨ob.slots, k b ob q⟩, fun _ _ _ n _ => n, fun b ob q _ => ⟨ob, k b ob q⟩, fun _ _ q => q, fun _ _ _ q => q, fun _ ps q => ⟨#[], by rw [q]; simp⟩⟩
theorem Un.refl : Un fs ex H H h h := Un.kept fun _ _ q => q
theorem Un.laid (k : ∀ b u, h.get? b = some u → h'.get? b = some u) (hp : h.objs.size ≤ a) (hn : H a = none) : Un fs ex H (upd H a o) h h' where
  keep := fun b u q _ _ _ => k b u q
  slot := fun b u q _ _ _ => ⟨u.slots, k b u q⟩
  free := fun b u q n _ => by rw [upd_ne (Nat.ne_of_lt (Nat.lt_of_lt_of_le (Heap.lt_size q) hp))]; exact n
  there := fun b u q _ => ⟨u, k b u q⟩
  tups := fun b xs q => by rw [upd_ne (ne_of_none q hn)]; exact q
  frzs := fun b u xs q => by rw [upd_ne (ne_of_none q hn)]; exact q
  tbls := fun b ps q => ⟨#[], by rw [upd_ne (ne_of_none q hn), q]; simp⟩
theorem Un.write (mu : Mut (H x)) (he : e = x ∨ H e = some (.own x)) (k : ∀ b u, b ≠ e → h.get? b = some u → h'.get? b = some u) (heo : ∃ u, h'.get? e = some u) : Un fs ex H (upd H x o) h h' := by
  have hx : ∀ b, H b = none → b ≠ x := fun b n z => by subst z; rw [n] at mu; exact mu
  have hb : ∀ b, H b = none → b ≠ e := fun b n z => by
    subst z
    rcases he with r | r
    · exact hx b n r
    · rw [n] at r; cases r
  have hm : ∀ b u, H b = some u → ¬ Mut (some u) → b ≠ x := fun b u q nm z => by subst z; rw [q] at mu; exact nm mu
  refine ⟨fun b u q n _ _ => k b u (hb b n) q, fun b u q n _ _ => ⟨u.slots, k b u (hb b n) q⟩, fun b u q n _ => by rw [upd_ne (hx b n)]; exact n, fun b u q _ => ?_,
    fun b xs q => by rw [upd_ne (hm b _ q fun z => z)]; exact q, fun b u xs q => by rw [upd_ne (hm b _ q fun z => z)]; exact q, fun b ps q => ⟨#[], by rw [upd_ne (hm b _ q fun z => z), q]; simp⟩⟩
  by_cases hbe : b = e
  · subst hbe; exact heo
  · exact ⟨u, k b u hbe q⟩
theorem Un.mono (u : Un fs ex H H1 h h1) (hs : ∀ b ∈ fs, b ∈ fs') (hx : ∀ b ∈ ex, b ∈ ex') : Un fs' ex' H H1 h h1 :=
  ⟨fun b ob q n hb he => u.keep b ob q n (fun z => hb (hs b z)) fun z => he (hx b z), fun _ _ q n _ he => u.any q n fun z => he (hx _ z), fun b ob q n he => u.free b ob q n fun z => he (hx b z), fun b ob q he => u.there b ob q fun z => he (hx b z), u.tups, u.frzs, u.tbls⟩
end

/-! ### the heap without what is tracked -/
def trk (h : Heap) (H : Hp) : List Addr := (List.range h.objs.size).filter fun a => (H a).isSome
def hidT (h : Heap) (H : Hp) : Heap := PySem.W.hideAll h (trk h H)
theorem hidT_size (h : Heap) (H : Hp) : (hidT h H).objs.size = h.objs.size := PySem.W.hideAll_size _ _
theorem hidT_get {h : Heap} {H : Hp} {b : Addr} {o : Obj} (e : h.get? b = some o) (n : H b = none) : (hidT h H).get? b = some o :=
  PySem.W.hideAll_get _ e fun hm => by
    have q : (H b).isSome = true := (List.mem_filter.mp hm).2
    rw [n] at q; simp at q
theorem of_hidT {h : Heap} {H : Hp} {b : Addr} {o : Obj} (e : (hidT h H).get? b = some o) : h.get? b = some o ∧ H b = none := by
  have e' : h.get? b = some o := PySem.W.of_hideAll (trk h H) e
  refine ⟨e', ?_⟩
  cases q : H b with
  | none => rfl
  | some x =>
    have hm : b ∈ trk h H := List.mem_filter.mpr ⟨List.mem_range.mpr (Heap.lt_size e'), by simp [q]⟩
    have z : (hidT h H).get? b = none := PySem.W.hideAll_none (trk h H) hm
    rw [z] at e; cases e

/-! ### OpenK's ledger, filled with every new object but one -/
def allNews (g h : Heap) (L : Addr) : List (Addr × Obj) := (List.range h.objs.size).filterMap fun a => if a = L ∨ (g.get? a).isSome = true then none else (h.get? a).map fun o => (a, o)
def rest (g h : Heap) (L d : Addr) : List (Addr × Obj) := (allNews g h L).filter fun p => decide (p.1 ≠ d)
end L2

namespace L2
open PySem PySem.Spec PyProof.Rows

/-- the module's facts, over the base: the heap at the law's entry without what is tracked there -/
structure Mod (K : PySem.W.Frag) (mg : Str → Option Value) (base : Heap) : Prop where
  kin : K.In base
  glob : base.Ns mainGlobals mg
  blt : ∃ mb, base.Ns builtinsNs mb ∧ ∀ x : Str, x ≠ "__name__" → mb x = bootBuiltins x
  nolimit : base.NoLimit

/-- the context: a def's body (or a comprehension's block) running. base: fixed through the whole law; s₀, H₀: the entry; outer: the frames whose slots others may change (a def's callers); stack: all frames that run;
   ex: iterators that were made ahead of the entry and are walked here (a comprehension's); fn: the names whose cells were made at the entry (a def: all; a comprehension's block: its own); calm: not within an except suite; pn: pins that every state bears; xe: what is wanted of an exception that leaves the code -/
structure Cx where
  prog : Program
  w : World
  K : PySem.W.Frag
  mg : Str → Option Value
  base : Heap
  A : Around
  N : List Str
  s₀ : Shared
  H₀ : Hp
  env : Env
  outer : List Env
  stack : List Env
  ex : List Addr
  fn : Str → Bool
  calm : Bool
  pn : List (Addr × Obj)
  xe : Value → Shared → Prop
/-- the callers' frames -/
def frs (l : List Env) : List Addr := l.filterMap (·.frame)
abbrev Cx.fs (X : Cx) : List Addr := frs X.outer

def Vis (sc : Scope) (x : Str) : Prop := sc.names.lookup x = some .local ∨ sc.names.lookup x = some .cell ∨ sc.names.lookup x = some .free
def Loc (sc : Scope) (x : Str) : Prop := sc.names.lookup x = some .local ∨ sc.names.lookup x = some .cell
def Look (env : Env) (h : Heap) (m : Str → Option Value) (x : Str) (u : Value) : Prop :=
  (env.kindOf x = some .local ∧ m x = some u) ∨ ((env.kindOf x = some .cell ∨ env.kindOf x = some .free) ∧ ∃ c, env.cells.lookup x = some c ∧ h.IsCell c (some u))

structure Cx.Ok (X : Cx) : Prop where
  mod : Mod X.K X.mg X.base
  kind : X.env.scope.kind = .function
  glob : X.env.globals = mainGlobals
  blt : X.env.builtins = builtinsNs
  above : X.s₀.heap.objs.size ≤ X.env.locals
  inj : ∀ x y c, X.env.cells.lookup x = some c → X.env.cells.lookup y = some c → x = y
  has : ∀ x, (X.env.kindOf x = some .cell ∨ X.env.kindOf x = some .free) → ∃ c, X.env.cells.lookup x = some c
  cab : ∀ x c, X.fn x = true → X.env.cells.lookup x = some c → X.s₀.heap.objs.size ≤ c
  hd : X.calm = true → X.A.handled = none
  frames : X.A.frames = some X.stack
  stk : X.stack = X.outer ∨ (X.stack = X.env :: X.outer ∧ X.env.frame = some X.env.locals)
  exf : ∀ b ∈ X.ex, b ≠ X.env.locals ∧ ∀ x c, X.env.cells.lookup x = some c → c ≠ b
  bs : ∀ b o, X.base.get? b = some o → X.s₀.heap.get? b = some o ∧ X.H₀ b = none
  bsz : X.base.objs.size ≤ X.s₀.heap.objs.size
  noex : ∀ b o, X.base.get? b = some o → b ∉ X.ex
  exfs : ∀ b ∈ X.ex, b ∉ X.fs
  funs : X.s₀.heap.FunFrames X.base X.outer
  frf : ∀ b ∈ X.fs, X.H₀ b = none

structure Inv (X : Cx) (pins : List (Addr × Obj)) (σ : List (Option V)) (H : Hp) (s : Shared) : Prop where
  ok : X.Ok
  os : s.os = X.s₀.os
  bare : AllBare s.gens
  base : Un X.fs X.ex X.H₀ H X.s₀.heap s.heap
  loc : ∃ m, s.heap.Ns X.env.locals m ∧ ∀ (i : Nat) (x : Str) (v : V), X.N[i]? = some x → σ[i]? = some (some v) → Vis X.env.scope x → ∃ u, RelV v u ∧ Look X.env s.heap m x u
  cell : ∀ x c, X.env.cells.lookup x = some c → ∃ v, s.heap.IsCell c v
  free : H X.env.locals = none
  freeC : ∀ x c, X.env.cells.lookup x = some c → H c = none
  pin : ∀ p ∈ X.pn ++ pins, s.heap.get? p.1 = some p.2 ∧ H p.1 = none ∧ p.1 ≠ X.env.locals ∧ p.1 ∉ X.fs ∧ ∀ v, p.2.data ≠ .cell v
  hok : HOk X.prog X.w H s.heap
  len : σ.length = X.N.length

section
variable {X : Cx} {pins : List (Addr × Obj)} {σ : List (Option V)} {H H' : Hp} {s : Shared} {h' : Heap}

theorem Cx.Ok.nofr (ok : X.Ok) {b : Addr} {o : Obj} (e : X.base.get? b = some o) : b ∉ X.fs := fun hb => by
  have := (ok.funs.mem hb).1
  rw [e] at this; cases this
theorem Inv.bs (I : Inv X pins σ H s) : ∀ b o, X.base.get? b = some o → s.heap.get? b = some o ∧ H b = none := fun b o e =>
  ⟨I.base.keep b o (I.ok.bs b o e).1 (I.ok.bs b o e).2 (I.ok.nofr e) (I.ok.noex b o e), I.base.free b o (I.ok.bs b o e).1 (I.ok.bs b o e).2 (I.ok.noex b o e)⟩
theorem Inv.bk (I : Inv X pins σ H s) : ∀ b o, X.base.get? b = some o → s.heap.get? b = some o := fun b o e => (I.bs b o e).1
theorem Inv.mod (I : Inv X pins σ H s) : Mod X.K X.mg X.base := I.ok.mod
theorem Inv.kIn (I : Inv X pins σ H s) : X.K.In s.heap := I.ok.mod.kin.keeps I.bk
theorem Inv.nolimit (I : Inv X pins σ H s) : s.heap.NoLimit := I.ok.mod.nolimit.keeps I.bk
theorem Inv.lt (I : Inv X pins σ H s) : X.env.locals < s.heap.objs.size := let ⟨_, hn, _⟩ := I.loc; hn.lt
theorem Inv.sz (I : Inv X pins σ H s) : X.s₀.heap.objs.size ≤ s.heap.objs.size := Nat.le_trans I.ok.above (Nat.le_of_lt I.lt)
theorem Inv.nofs (I : Inv X pins σ H s) {a : Addr} (h : s.heap.objs.size ≤ a) : a ∉ X.fs := fun hb => by
  obtain ⟨_, o, ho, _⟩ := I.ok.funs.mem hb
  exact absurd (Nat.lt_of_lt_of_le (Heap.lt_size ho) (Nat.le_trans I.sz h)) (Nat.lt_irrefl _)
theorem Inv.cne (I : Inv X pins σ H s) : ∀ x c, X.env.cells.lookup x = some c → c ≠ X.env.locals := fun x c e z => by
  obtain ⟨v, o, ho, hd⟩ := I.cell x c e
  obtain ⟨m, ⟨o', es, ep, ho', hd', _⟩, _⟩ := I.loc
  rw [z, ho'] at ho; cases ho; rw [hd'] at hd; cases hd
theorem Inv.funs (I : Inv X pins σ H s) : s.heap.FunFrames X.base X.outer := by
  have all : ∀ (l : List Env), (∀ b ∈ frs l, b ∈ X.fs) → X.s₀.heap.FunFrames X.base l → s.heap.FunFrames X.base l := by
    intro l
    induction l with
    | nil => intro _ _; trivial
    | cons env r ih =>
      intro hs hl
      obtain ⟨hk, ⟨L, o, hf, hn, ho, hd⟩, hr⟩ := hl
      have hL : L ∈ X.fs := hs L (by unfold frs; rw [List.filterMap_cons, hf]; exact List.mem_cons_self)
      obtain ⟨sl, e⟩ := I.base.slot L o ho (I.ok.frf L hL) hL fun z => I.ok.exfs L z hL
      exact ⟨hk, ⟨L, _, hf, hn, e, hd⟩, ih (fun b hb => hs b (by unfold frs; rw [List.filterMap_cons, hf]; exact List.mem_cons_of_mem _ hb)) hr⟩
  exact all X.outer (fun _ hb => hb) I.ok.funs

/-- the frames that run, for a call -/
theorem Inv.stack (I : Inv X pins σ H s) : s.heap.FunFrames X.base X.stack := by
  rcases I.ok.stk with e | ⟨e, hf⟩
  · rw [e]; exact I.funs
  · rw [e]
    obtain ⟨m, hn, _⟩ := I.loc
    refine .cons (by rw [I.ok.kind]; decide) hf hn ?_ I.funs
    exact Heap.get?_none_of_le (Nat.le_trans I.ok.bsz I.ok.above)
theorem Inv.stkSub (I : Inv X pins σ H s) : ∀ b ∈ frs X.stack, b ∈ X.env.locals :: X.fs := fun b hb => by
  rcases I.ok.stk with e | ⟨e, hf⟩
  · rw [e] at hb; exact List.mem_cons_of_mem _ hb
  · rw [e] at hb
    unfold frs at hb
    rw [List.filterMap_cons, hf] at hb
    exact hb
theorem Inv.stkFree (I : Inv X pins σ H s) : ∀ b ∈ frs X.stack, H b = none := fun b hb => by
  rcases List.mem_cons.mp (I.stkSub b hb) with e | hb
  · rw [e]; exact I.free
  · obtain ⟨_, o, ho, _⟩ := I.ok.funs.mem hb
    exact I.base.free b o ho (I.ok.frf b hb) fun z => I.ok.exfs b z hb

/-- THE STEP: the untracked objects but the frame and the records at ch are kept (the callers' frames up to slots), the frame's map is kept, the new abstract heap is held -/
theorem Inv.step {g' : Array GenState} {t' : Nat} {d' : Drawn} {ch : List Addr} (I : Inv X pins σ H s)
    (hch : ∀ b ∈ ch, (b ∈ X.ex ∨ X.s₀.heap.objs.size ≤ b) ∧ b ≠ X.env.locals ∧ (∀ x c, X.env.cells.lookup x = some c → c ≠ b) ∧ ∀ p ∈ X.pn ++ pins, p.1 ≠ b)
    (keep : ∀ b o, b ≠ X.env.locals → b ∉ X.fs → b ∉ ch → s.heap.get? b = some o → H b = none → h'.get? b = some o)
    (slot : ∀ b o, b ≠ X.env.locals → b ∈ X.fs → b ∉ ch → s.heap.get? b = some o → H b = none → ∃ sl, h'.get? b = some { o with slots := sl }) (free : ∀ b o, b ∉ ch → s.heap.get? b = some o → H b = none → H' b = none)
    (there : ∀ b o, b ∉ ch → s.heap.get? b = some o → ∃ o', h'.get? b = some o')
    (tups : ∀ b xs, H b = some (.tup xs) → H' b = some (.tup xs)) (frzs : ∀ b o u, H b = some (.frz o u) → H' b = some (.frz o u)) (tbls : ∀ b ps, H b = some (.tbl ps) → ∃ more, H' b = some (.tbl (ps ++ more)))
    (ns : ∀ m, s.heap.Ns X.env.locals m → h'.Ns X.env.locals m) (hok : HOk X.prog X.w H' h') (hg : AllBare g') :
    Inv X pins σ H' { s with heap := h', gens := g', drawn := d', toks := t' } := by
  have neL : ∀ b o, X.s₀.heap.get? b = some o → b ≠ X.env.locals := fun b o e => Nat.ne_of_lt (Nat.lt_of_lt_of_le (Heap.lt_size e) I.ok.above)
  have neC : ∀ b o, X.s₀.heap.get? b = some o → b ∉ X.ex → b ∉ ch := fun b o e hx hb => by
    rcases (hch b hb).1 with z | z
    · exact hx z
    · exact absurd (Nat.lt_of_lt_of_le (Heap.lt_size e) z) (Nat.lt_irrefl _)
  have cellK : ∀ x c, X.env.cells.lookup x = some c → ∀ v, s.heap.IsCell c v → h'.IsCell c v := fun x c e v ⟨o, ho, hd⟩ => by
    have nch : c ∉ ch := fun z => (hch c z).2.2.1 x c e rfl
    by_cases hc : c ∈ X.fs
    · obtain ⟨sl, q⟩ := slot c o (I.cne x c e) hc nch ho (I.freeC x c e)
      exact ⟨_, q, hd⟩
    · exact ⟨o, keep c o (I.cne x c e) hc nch ho (I.freeC x c e), hd⟩
  refine ⟨I.ok, I.os, hg, ⟨fun b o e n hb hx => ?_, fun b o e n hb hx => ?_, fun b o e n hx => ?_, fun b o e hx => ?_, fun b xs e => tups b xs (I.base.tups b xs e), fun b o xs e => frzs b o xs (I.base.frzs b o xs e), fun b ps e => ?_⟩, ?_, fun x c e => ?_, ?_, fun x c e => ?_, fun p hp => ?_, hok, I.len⟩
  · exact keep b o (neL b o e) hb (neC b o e hx) (I.base.keep b o e n hb hx) (I.base.free b o e n hx)
  · obtain ⟨sl, e1⟩ := I.base.slot b o e n hb hx
    obtain ⟨sl', e2⟩ := slot b _ (neL b o e) hb (neC b o e hx) e1 (I.base.free b o e n hx)
    exact ⟨sl', e2⟩
  · obtain ⟨o', e1⟩ := I.base.there b o e hx
    exact free b o' (neC b o e hx) e1 (I.base.free b o e n hx)
  · obtain ⟨o', e1⟩ := I.base.there b o e hx
    exact there b o' (neC b o e hx) e1
  · obtain ⟨m1, e1⟩ := I.base.tbls b ps e
    obtain ⟨m2, e2⟩ := tbls b _ e1
    exact ⟨m1 ++ m2, by rw [e2, Array.append_assoc]⟩
  · obtain ⟨m, hn, hl⟩ := I.loc
    refine ⟨m, ns m hn, fun i x v e1 e2 e3 => ?_⟩
    obtain ⟨u, r, l⟩ := hl i x v e1 e2 e3
    refine ⟨u, r, ?_⟩
    rcases l with l | ⟨k, c, e, z⟩
    · exact .inl l
    · exact .inr ⟨k, c, e, cellK x c e _ z⟩
  · obtain ⟨v, z⟩ := I.cell x c e
    exact ⟨v, cellK x c e v z⟩
  · obtain ⟨m, ⟨o, _, _, ho, _⟩, _⟩ := I.loc
    exact free _ o (fun z => (hch _ z).2.1 rfl) ho I.free
  · obtain ⟨v, o, ho, hd⟩ := I.cell x c e
    exact free c o (fun z => (hch c z).2.2.1 x c e rfl) ho (I.freeC x c e)
  · obtain ⟨e, n, ne, nf, d⟩ := I.pin p hp
    have nch : p.1 ∉ ch := fun z => (hch p.1 z).2.2.2 p hp rfl
    exact ⟨keep p.1 p.2 ne nf nch e n, free p.1 p.2 nch e n, ne, nf, d⟩
/-- .. where the frame's own object is kept too -/
theorem Inv.un {t' : Nat} (I : Inv X pins σ H s) (u : Un X.fs [] H H' s.heap h') (hok : HOk X.prog X.w H' h') : Inv X pins σ H' { s with heap := h', toks := t' } := by
  obtain ⟨m, ⟨o, es, ep, ho, r⟩, _⟩ := id I.loc
  obtain ⟨sl, hL⟩ := u.any ho I.free (by simp)
  exact I.step (g' := s.gens) (d' := s.drawn) (ch := []) (fun _ z => nomatch z) (fun b o _ hb _ e n => u.keep b o e n hb (by simp)) (fun b o _ hb _ e n => u.slot b o e n hb (by simp)) (fun b o _ e n => u.free b o e n (by simp)) (fun b o _ e => u.there b o e (by simp)) u.tups u.frzs u.tbls (fun m' hm => by
    obtain ⟨o', es', ep', ho', r'⟩ := hm
    rw [ho] at ho'; cases ho'
    exact ⟨_, es', ep', hL, r'⟩) hok I.bare
/-- behind a call (or a comprehension's block): the slots of this frame may have changed too, the records at ch may have turned -/
theorem Inv.call {g' : Array GenState} {t' : Nat} {d' : Drawn} {ch : List Addr} (I : Inv X pins σ H s) (u : Un (frs X.stack) ch H H' s.heap h') (hok : HOk X.prog X.w H' h') (hg : AllBare g')
    (hch : ∀ b ∈ ch, (b ∈ X.ex ∨ X.s₀.heap.objs.size ≤ b) ∧ b ≠ X.env.locals ∧ (∀ x c, X.env.cells.lookup x = some c → c ≠ b) ∧ ∀ p ∈ X.pn ++ pins, p.1 ≠ b) :
    Inv X pins σ H' { s with heap := h', gens := g', drawn := d', toks := t' } := by
  obtain ⟨m, ⟨o, es, ep, ho, r⟩, _⟩ := id I.loc
  obtain ⟨sl, hL⟩ := u.any ho I.free fun z => (hch _ z).2.1 rfl
  exact I.step (ch := ch) hch (fun b o hL hb hc e n => u.keep b o e n (fun z => (List.mem_cons.mp (I.stkSub b z)).elim hL hb) hc) (fun b o _ _ hc e n => u.any e n hc) (fun b o hc e n => u.free b o e n hc) (fun b o hc e => u.there b o e hc) u.tups u.frzs u.tbls (fun m' hm => by
    obtain ⟨o', es', ep', ho', r'⟩ := hm
    rw [ho] at ho'; cases ho'
    exact ⟨_, es', ep', hL, r'⟩) hok hg
/-- an untracked record of ours (an iterator) has turned -/
theorem Inv.turned {t' : Nat} {it : Addr} (I : Inv X pins σ H s) (k : ∀ b o, b ≠ it → s.heap.get? b = some o → h'.get? b = some o) (hn : H it = none) (hL : it ≠ X.env.locals)
    (h1 : it ∈ X.ex ∨ X.s₀.heap.objs.size ≤ it) (h2 : ∀ x c, X.env.cells.lookup x = some c → c ≠ it) (h3 : ∀ p ∈ X.pn ++ pins, p.1 ≠ it) : Inv X pins σ H { s with heap := h', toks := t' } := by
  have nit : ∀ b u, H b = some u → b ≠ it := fun b u e z => by rw [z, hn] at e; cases e
  refine I.step (g' := s.gens) (d' := s.drawn) (ch := [it]) (fun b hb => ?_) (fun b o _ _ hc e _ => k b o (fun z => hc (by simp [z])) e) (fun b o _ _ hc e _ => ⟨o.slots, k b o (fun z => hc (by simp [z])) e⟩) (fun _ _ _ _ n => n)
    (fun b o hc e => ⟨o, k b o (fun z => hc (by simp [z])) e⟩) (fun _ _ e => e) (fun _ _ _ e => e) (fun b ps e => ⟨#[], by rw [e]; simp⟩) (fun m hm => ?_) (fun b u e => ?_) I.bare
  · have e : b = it := by simpa using hb
    subst e
    exact ⟨h1, hL, h2, h3⟩
  · obtain ⟨o, es, ep, ho, r⟩ := hm
    exact ⟨o, es, ep, k _ o (Ne.symm hL) ho, r⟩
  · refine (I.hok b u e).stay (fun c v hc q => k c v ?_ q) (fun _ q => q) fun _ _ q => q
    rcases hc with z | z
    · rw [z]; exact nit b u e
    · exact nit c _ z
theorem Inv.tok (I : Inv X pins σ H s) (t : Nat) : Inv X pins σ H { s with toks := t } := I.un (h' := s.heap) (t' := t) Un.refl I.hok
/-- all objects kept -/
theorem Inv.kept {t' : Nat} (I : Inv X pins σ H s) (k : ∀ b u, s.heap.get? b = some u → h'.get? b = some u) : Inv X pins σ H { s with heap := h', toks := t' } := I.un (Un.kept k) (I.hok.kept k)
/-- a new object laid and tracked -/
theorem Inv.laid {a : Addr} {o : HO} {t' : Nat} (I : Inv X pins σ H s) (k : ∀ b u, s.heap.get? b = some u → h'.get? b = some u) (hp : s.heap.objs.size ≤ a) (new : ObjOk X.prog X.w (upd H a o) h' a o) :
    Inv X pins σ (upd H a o) { s with heap := h', toks := t' } := I.un (Un.laid k hp (I.hok.fresh hp)) (I.hok.laid k hp new)
/-- an object written -/
theorem Inv.write {x e : Addr} {o : HO} {t' : Nat} (I : Inv X pins σ H s) (mu : Mut (H x)) (he : e = x ∨ H e = some (.own x)) (k : ∀ b u, b ≠ e → s.heap.get? b = some u → h'.get? b = some u) (heo : ∃ u, h'.get? e = some u)
    (new : ObjOk X.prog X.w (upd H x o) h' x o) : Inv X pins σ (upd H x o) { s with heap := h', toks := t' } := I.un (Un.write mu he k heo) (I.hok.write mu he k heo new)
theorem Inv.pins_of {pins' : List (Addr × Obj)} (I : Inv X pins σ H s) (h : ∀ p ∈ pins', s.heap.get? p.1 = some p.2 ∧ H p.1 = none ∧ p.1 ≠ X.env.locals ∧ p.1 ∉ X.fs ∧ ∀ v, p.2.data ≠ .cell v) : Inv X pins' σ H s :=
  ⟨I.ok, I.os, I.bare, I.base, I.loc, I.cell, I.free, I.freeC, fun p hp => (List.mem_append.mp hp).elim (fun z => I.pin p (List.mem_append_left _ z)) (h p), I.hok, I.len⟩

theorem nodup_ix {N : List Str} (hN : N.Nodup) {i j : Nat} {x : Str} (a : N[i]? = some x) (b : N[j]? = some x) : i = j := by
  obtain ⟨h1, e1⟩ := List.getElem?_eq_some_iff.mp a
  obtain ⟨h2, e2⟩ := List.getElem?_eq_some_iff.mp b
  exact (List.getElem_inj hN).mp (e1.trans e2.symm)

/-- a name is stored; what changed -/
theorem store_ok2 {M : Model} {A : Around} {E : Value → Shared → Prop} {i : Nat} {x : Str} {v : V} {u : Value} {Q : Unit → Shared → Prop} (I : Inv X pins σ H s) (hN : X.N.Nodup) (hi : X.N[i]? = some x) (hx : Loc X.env.scope x) (r : RelV v u)
    (h : ∀ s', Inv X pins (σ.set i (some v)) H s' → (∃ a, Heap.SameBut a s.heap s'.heap ∧ (a = X.env.locals ∨ X.env.cells.lookup x = some a)) → Q () s') (hf : X.fn x = true ∨ X.env.scope.names.lookup x = some .local := by first | exact .inl rfl | exact .inr rfl | assumption) : wpAny M A (storeName X.env x u) Q E s := by
  obtain ⟨m, hn, hl⟩ := id I.loc
  have hcls : (X.env.scope.kind == .class || (X.env.scope.kind == .module && X.env.locals != X.env.globals)) = false := by rw [I.ok.kind]; rfl
  have hiσ : i < σ.length := by rw [I.len]; exact (List.getElem?_eq_some_iff.mp hi).1
  have cne := I.cne
  have tracked : ∀ {a : Addr} {h' : Heap}, (∃ o, s.heap.get? a = some o ∧ H a = none) → Heap.SameBut a s.heap h' → HOk X.prog X.w H h' := fun {a h'} ha hs b ob e => by
    obtain ⟨_, _, hfree⟩ := ha
    refine (I.hok b ob e).stay (fun c w' hc q => (hs.2 c ?_).trans q) (fun _ q => q) fun _ _ q => q
    rintro rfl
    rcases hc with rfl | hc
    · rw [hfree] at e; cases e
    · rw [hfree] at hc; cases hc
  rcases hx with hk | hk
  · refine wpAny_storeName_local hk hn (fun h' hn' hs => ?_) hcls
    obtain ⟨oL, _, _, hoL, _⟩ := id hn
    refine h _ ⟨I.ok, I.os, I.bare, ⟨fun b o e n hb hx => ?_, fun b o e n hb hx => ?_, I.base.free, fun b o e hx => ?_, I.base.tups, I.base.frzs, I.base.tbls⟩, ⟨_, hn', fun j y v' e1 e2 e3 => ?_⟩, fun y c e => ?_, I.free, I.freeC, fun p hp => ?_, tracked ⟨oL, hoL, I.free⟩ hs, by simpa using I.len⟩ ⟨_, hs, .inl rfl⟩
    · exact (hs.2 b (Nat.ne_of_lt (Nat.lt_of_lt_of_le (Heap.lt_size e) I.ok.above))).trans (I.base.keep b o e n hb hx)
    · obtain ⟨sl, e1⟩ := I.base.slot b o e n hb hx
      exact ⟨sl, (hs.2 b (Nat.ne_of_lt (Nat.lt_of_lt_of_le (Heap.lt_size e) I.ok.above))).trans e1⟩
    · obtain ⟨o', e1⟩ := I.base.there b o e hx
      exact ⟨o', (hs.2 b (Nat.ne_of_lt (Nat.lt_of_lt_of_le (Heap.lt_size e) I.ok.above))).trans e1⟩
    · by_cases hj : j = i
      · subst hj
        rw [hi] at e1; cases e1
        rw [List.getElem?_set_self hiσ] at e2
        cases e2
        exact ⟨u, r, .inl ⟨hk, by simp⟩⟩
      · rw [List.getElem?_set_ne (Ne.symm hj)] at e2
        obtain ⟨u', r', q⟩ := hl j y v' e1 e2 e3
        refine ⟨u', r', ?_⟩
        rcases q with ⟨k, e⟩ | ⟨k, c, e, z⟩
        · refine .inl ⟨k, ?_⟩
          have : y ≠ x := fun e => hj (nodup_ix hN e1 (e ▸ hi))
          simp [this, e]
        · exact .inr ⟨k, c, e, z.sameBut hs (cne y c e)⟩
    · obtain ⟨w', z⟩ := I.cell y c e
      exact ⟨w', z.sameBut hs (cne y c e)⟩
    · obtain ⟨e, n, ne, nf, d⟩ := I.pin p hp
      exact ⟨(hs.2 p.1 ne).trans e, n, ne, nf, d⟩
  · have hfn : X.fn x = true := by
      rcases hf with z | z
      · exact z
      · rw [z] at hk; cases hk
    obtain ⟨c, hc⟩ := I.ok.has x (.inl hk)
    obtain ⟨w', z⟩ := I.cell x c hc
    refine wpAny_storeName_cell I.ok.kind hk hc z (fun h' hc' hs => ?_)
    obtain ⟨oc, hoc, hocd⟩ := id z
    refine h { s with heap := h' } ⟨I.ok, I.os, I.bare, ⟨fun b o e n hb hx => ?_, fun b o e n hb hx => ?_, I.base.free, fun b o e hx => ?_, I.base.tups, I.base.frzs, I.base.tbls⟩, ⟨m, hn.sameBut hs (Ne.symm (cne x c hc)), fun j y v' e1 e2 e3 => ?_⟩, fun y c' e => ?_, I.free, I.freeC, fun p hp => ?_, tracked ⟨oc, hoc, I.freeC x c hc⟩ hs, by simpa using I.len⟩ ⟨c, hs, .inr hc⟩
    · exact (hs.2 b (Nat.ne_of_lt (Nat.lt_of_lt_of_le (Heap.lt_size e) (I.ok.cab x c hfn hc)))).trans (I.base.keep b o e n hb hx)
    · obtain ⟨sl, e1⟩ := I.base.slot b o e n hb hx
      exact ⟨sl, (hs.2 b (Nat.ne_of_lt (Nat.lt_of_lt_of_le (Heap.lt_size e) (I.ok.cab x c hfn hc)))).trans e1⟩
    · obtain ⟨o', e1⟩ := I.base.there b o e hx
      exact ⟨o', (hs.2 b (Nat.ne_of_lt (Nat.lt_of_lt_of_le (Heap.lt_size e) (I.ok.cab x c hfn hc)))).trans e1⟩
    · by_cases hj : j = i
      · subst hj
        rw [hi] at e1; cases e1
        rw [List.getElem?_set_self hiσ] at e2
        cases e2
        exact ⟨u, r, .inr ⟨.inl hk, c, hc, hc'⟩⟩
      · rw [List.getElem?_set_ne (Ne.symm hj)] at e2
        obtain ⟨u', r', q⟩ := hl j y v' e1 e2 e3
        refine ⟨u', r', ?_⟩
        rcases q with q | ⟨k, c', e, z'⟩
        · exact .inl q
        · refine .inr ⟨k, c', e, z'.sameBut hs ?_⟩
          rintro rfl
          exact hj (nodup_ix hN e1 (I.ok.inj _ _ _ e hc ▸ hi))
    · by_cases hcc : c' = c
      · subst hcc; exact ⟨_, hc'⟩
      · obtain ⟨w2, z2⟩ := I.cell y c' e
        exact ⟨w2, z2.sameBut hs hcc⟩
    · obtain ⟨e, n, ne, nf, d⟩ := I.pin p hp
      refine ⟨(hs.2 p.1 ?_).trans e, n, ne, nf, d⟩
      intro q
      rw [q, hoc] at e
      have q' : oc = p.2 := Option.some.inj e
      exact d w' (by rw [← q']; exact hocd)
theorem store_ok {M : Model} {A : Around} {E : Value → Shared → Prop} {i : Nat} {x : Str} {v : V} {u : Value} {Q : Unit → Shared → Prop} (I : Inv X pins σ H s) (hN : X.N.Nodup) (hi : X.N[i]? = some x) (hx : Loc X.env.scope x) (r : RelV v u)
    (h : ∀ s', Inv X pins (σ.set i (some v)) H s' → Q () s') (hf : X.fn x = true ∨ X.env.scope.names.lookup x = some .local := by first | exact .inl rfl | exact .inr rfl | assumption) : wpAny M A (storeName X.env x u) Q E s :=
  store_ok2 I hN hi hx r (fun s' I' _ => h s' I') hf
/-- behind a call or a block, the state as it is -/
theorem Inv.call' {s' : Shared} {ch : List Addr} (I : Inv X pins σ H s) (ho : s'.os = s.os) (u : Un (frs X.stack) ch H H' s.heap s'.heap) (hok : HOk X.prog X.w H' s'.heap) (hg : AllBare s'.gens)
    (hch : ∀ b ∈ ch, (b ∈ X.ex ∨ X.s₀.heap.objs.size ≤ b) ∧ b ≠ X.env.locals ∧ (∀ x c, X.env.cells.lookup x = some c → c ≠ b) ∧ ∀ p ∈ X.pn ++ pins, p.1 ≠ b) : Inv X pins σ H' s' := by
  obtain ⟨h', g', d', t', o'⟩ := s'
  have e : o' = s.os := ho
  subst e
  exact I.call (g' := g') (t' := t') (d' := d') u hok hg hch
end

/-! ### the judgements -/
/-- an exception: its class, its own dict's address (where it has one), the abstract heap behind it -/
abbrev XK := Value → Option Addr → Hp → Prop
abbrev St := List (Option V)
abbrev VK := V → Hp → Prop
/-- an expression's reading; a test's; an argument list's -/
abbrev TE := St → Hp → VK → Prop
abbrev TT := St → Hp → (Bool → Hp → Prop) → Prop
abbrev TA := St → Hp → (List V → Hp → Prop) → Prop
/-- what is wanted behind a statement -/
structure Ends where
  nx : St → Hp → Prop
  rt : VK
  bk : St → Hp → Prop := fun _ _ => False
  ct : St → Hp → Prop := fun _ _ => False
abbrev TS := Ends → St → Hp → Prop

def EP (X : Cx) (pins : List (Addr × Obj)) (σ : St) (Q : VK) (u : Value) (s' : Shared) : Prop := ∃ v H', Inv X pins σ H' s' ∧ RelV v u ∧ Q v H'
def TP (X : Cx) (pins : List (Addr × Obj)) (σ : St) (Q : Bool → Hp → Prop) (b : Bool) (s' : Shared) : Prop := ∃ H', Inv X pins σ H' s' ∧ Q b H'
def AP (X : Cx) (pins : List (Addr × Obj)) (σ : St) (Q : List V → Hp → Prop) (us : List Value) (s' : Shared) : Prop := ∃ vs H', Inv X pins σ H' s' ∧ Vals vs us ∧ Q vs H'
def SP (X : Cx) (pins : List (Addr × Obj)) (D : Ends) (f : Flow) (s' : Shared) : Prop :=
  match f with
  | .next => ∃ σ' H', Inv X pins σ' H' s' ∧ D.nx σ' H'
  | .brk => ∃ σ' H', Inv X pins σ' H' s' ∧ D.bk σ' H'
  | .cont => ∃ σ' H', Inv X pins σ' H' s' ∧ D.ct σ' H'
  | .ret u => ∃ v σ' H', Inv X pins σ' H' s' ∧ RelV v u ∧ D.rt v H'

def PE (X : Cx) (e : Expr) (t : TE) : Prop :=
  ∀ (pins : List (Addr × Obj)) (s : Shared) (σ : St) (H : Hp) (Q : VK), Inv X pins σ H s → t σ H Q → wpAny (model X.prog X.w) X.A (eval e X.env) (EP X pins σ Q) X.xe s
def PT (X : Cx) (e : Expr) (t : TT) : Prop :=
  ∀ (pins : List (Addr × Obj)) (s : Shared) (σ : St) (H : Hp) (Q : Bool → Hp → Prop), Inv X pins σ H s → t σ H Q → wpAny (model X.prog X.w) X.A (isTrue e X.env (eval e X.env)) (TP X pins σ Q) X.xe s
/-- a test whatever its 'whole' is (and, or) -/
def PW (X : Cx) (e : Expr) (t : TT) : Prop :=
  ∀ (whole : Sem Value) (pins : List (Addr × Obj)) (s : Shared) (σ : St) (H : Hp) (Q : Bool → Hp → Prop), Inv X pins σ H s → t σ H Q → wpAny (model X.prog X.w) X.A (isTrue e X.env whole) (TP X pins σ Q) X.xe s
theorem PW.pt {X : Cx} {e : Expr} {t : TT} (h : PW X e t) : PT X e t := h _
/-- an argument list (no star), from the left -/
def PA (X : Cx) (es : List Expr) (t : TA) : Prop :=
  ∀ (pos : Pos) (pins : List (Addr × Obj)) (s : Shared) (σ : St) (H : Hp) (Q : List V → Hp → Prop), Inv X pins σ H s → t σ H Q → wpAny (model X.prog X.w) X.A (spliced (backTo pos (starEach es X.env))) (AP X pins σ Q) X.xe s
def PS (X : Cx) (st : Stmt) (t : TS) : Prop :=
  ∀ (pins : List (Addr × Obj)) (s : Shared) (σ : St) (H : Hp) (D : Ends), Inv X pins σ H s → t D σ H → wpAny (model X.prog X.w) X.A (exec st X.env) (SP X pins D) X.xe s
def PSs (X : Cx) (st : List Stmt) (t : TS) : Prop :=
  ∀ (pins : List (Addr × Obj)) (s : Shared) (σ : St) (H : Hp) (D : Ends), Inv X pins σ H s → t D σ H → wpAny (model X.prog X.w) X.A (execs st X.env) (SP X pins D) X.xe s
/-- weaken the end -/
theorem thn {α : Type} {t : Sem α} {Q Q' : α → Shared → Prop} {M : Model} {A : Around} {E : Value → Shared → Prop} {s : Shared} (h : wpAny M A t Q E s) (hQ : ∀ a s, Q a s → Q' a s) : wpAny M A t Q' E s := wpAny_mono h hQ fun _ _ x => x
end L2

namespace L2
open PySem PySem.Spec PyProof.Rows
section
variable {X : Cx}

/-! ### names and constants -/
def tVar (i : Nat) : TE := fun σ H Q => ∃ v, σ[i]? = some (some v) ∧ Q v H
def tC (v : V) : TE := fun _ H Q => Q v H
theorem pe_var {i : Nat} {x : Str} {pos : Pos} (hN : X.N[i]? = some x) (hv : Vis X.env.scope x) (hd : (x == ("__debug__" : Str)) = false := by decide) (hcd : (x == ("__classdict__" : Str)) = false := by decide) : PE X (.Name x pos) (tVar i) := by
  intro pins s σ H Q I h
  obtain ⟨v, e, h⟩ := h
  obtain ⟨m, hn, hl⟩ := I.loc
  obtain ⟨u, r, l⟩ := hl i x v hN e hv
  have fin : EP X pins σ Q u s := ⟨v, H, I, r, h⟩
  rcases l with ⟨hk, hm⟩ | ⟨hk, c, hc, hcell⟩
  · exact wpAny_Name (wpAny_loadName_local I.ok.kind hk hn hm fin) hd
  · rcases hk with hk | hk
    · exact wpAny_Name (wpAny_loadName_cell I.ok.kind hk hc hcell fin) hd
    · exact wpAny_Name (wpAny_loadName_free I.ok.kind hk hc hcell fin hcd) hd
theorem pe_int {i j pos} : PE X (.Constant (.int i) j pos) (tC (.int i)) := fun _ _ _ H _ I h => wpAny_Constant_int ⟨.int i, H, I.tok _, ⟨_, rfl⟩, h⟩
theorem pe_bl {b j pos} : PE X (.Constant (.bool b) j pos) (tC (.bl b)) := fun _ _ _ H _ I h => Constant_bool ⟨.bl b, H, I, rfl, h⟩
theorem pe_non {j pos} : PE X (.Constant .none j pos) (tC .non) := fun _ _ _ H _ I h => Constant_none ⟨.non, H, I, rfl, h⟩
theorem pe_str {x j pos} : PE X (.Constant (.str x) j pos) (tC (.str x)) := fun _ _ _ H _ I h => Calls.Constant_str ⟨.str x, H, I.tok _, ⟨_, rfl⟩, h⟩

/-- a global name of the def -/
def Gl (X : Cx) (x : Str) : Prop := X.env.kindOf x = some .globalImplicit
theorem ld_glob {E : Value → Shared → Prop} {pins : List (Addr × Obj)} {s : Shared} {σ : St} {H : Hp} {x : Str} {u : Value} {pos : Pos} {Q : Value → Shared → Prop} (I : Inv X pins σ H s) (hg : Gl X x) (hm : X.mg x = some u) (h : Q u s)
    (hd : (x == ("__debug__" : Str)) = false := by decide) : wpAny (model X.prog X.w) X.A (eval (.Name x pos) X.env) Q E s :=
  Calls.Name_function_global I.ok.kind hg (Calls.loadGlobal_global (by rw [I.ok.glob]; exact I.mod.glob.keeps I.bk) hm h) hd
theorem ld_blt {E : Value → Shared → Prop} {pins : List (Addr × Obj)} {s : Shared} {σ : St} {H : Hp} {x : Str} {u : Value} {pos : Pos} {Q : Value → Shared → Prop} (I : Inv X pins σ H s) (hg : Gl X x) (hm : X.mg x = none) (hv : bootBuiltins x = some u) (h : Q u s)
    (hn : x ≠ "__name__" := by decide) (hd : (x == ("__debug__" : Str)) = false := by decide) : wpAny (model X.prog X.w) X.A (eval (.Name x pos) X.env) Q E s := by
  obtain ⟨mb, h1, h2⟩ := I.mod.blt
  exact Calls.Name_function_global I.ok.kind hg (Calls.loadGlobal_builtin (by rw [I.ok.glob]; exact I.mod.glob.keeps I.bk) hm (by rw [I.ok.blt]; exact h1.keeps I.bk) ((h2 x hn).trans hv) h) hd
/-- a module's constant, a class, a function, as a value -/
theorem pe_glob {x : Str} {v : V} {u : Value} {pos : Pos} (hg : Gl X x) (hm : X.mg x = some u) (r : RelV v u) (hd : (x == ("__debug__" : Str)) = false := by decide) : PE X (.Name x pos) (tC v) :=
  fun _ _ _ H _ I h => ld_glob I hg hm ⟨v, H, I, r, h⟩ hd
theorem pe_bltn {x : Str} {v : V} {u : Value} {pos : Pos} (hg : Gl X x) (hm : X.mg x = none) (hv : bootBuiltins x = some u) (r : RelV v u) (hn : x ≠ "__name__" := by decide) (hd : (x == ("__debug__" : Str)) = false := by decide) : PE X (.Name x pos) (tC v) :=
  fun _ _ _ H _ I h => ld_blt I hg hm hv ⟨v, H, I, r, h⟩ hn hd

/-! ### arithmetic -/
variable {a b : Expr} {ta tb : TE} {pos : Pos}
/-! ### comparisons -/
/-! ### and, or, not -/
variable {tA tB' : TT} {rest : List Expr}
def tAnd (t u : TT) : TT := fun σ H Q => t σ H fun c H1 => if c = true then u σ H1 Q else Q false H1
def tOr (t u : TT) : TT := fun σ H Q => t σ H fun c H1 => if c = true then Q true H1 else u σ H1 Q
def tNot (t : TT) : TT := fun σ H Q => t σ H fun c H1 => Q (!c) H1
theorem pw_and1 (ha : PT X a tA) : PW X (.BoolOp .And [a] pos) tA := by
  intro wh pins s σ H Q I h
  refine isTrue_and (thn (ha pins s σ H Q I h) fun c s1 e => ?_)
  cases c with
  | true => exact isTrue_and_nil e
  | false => exact e
theorem pw_or1 (ha : PT X a tA) : PW X (.BoolOp .Or [a] pos) tA := by
  intro wh pins s σ H Q I h
  refine isTrue_or (thn (ha pins s σ H Q I h) fun c s1 e => ?_)
  cases c with
  | false => exact isTrue_or_nil e
  | true => exact e
theorem pw_and (ha : PT X a tA) (hb : PW X (.BoolOp .And (b :: rest) pos) tB') : PW X (.BoolOp .And (a :: b :: rest) pos) (tAnd tA tB') := by
  intro wh pins s σ H Q I h
  refine isTrue_and (thn (ha pins s σ H _ I h) fun c s1 ⟨H1, I1, q1⟩ => ?_)
  cases c with
  | true => exact hb wh pins s1 σ H1 Q I1 q1
  | false => exact ⟨H1, I1, q1⟩
theorem pw_or (ha : PT X a tA) (hb : PW X (.BoolOp .Or (b :: rest) pos) tB') : PW X (.BoolOp .Or (a :: b :: rest) pos) (tOr tA tB') := by
  intro wh pins s σ H Q I h
  refine isTrue_or (thn (ha pins s σ H _ I h) fun c s1 ⟨H1, I1, q1⟩ => ?_)
  cases c with
  | true => exact ⟨H1, I1, q1⟩
  | false => exact hb wh pins s1 σ H1 Q I1 q1
theorem pt_not (ha : PT X a tA) : PT X (.UnaryOp .Not a pos) (tNot tA) := by
  intro pins s σ H Q I h
  exact isTrue_not (ha pins s σ H (fun c H1 => Q (!c) H1) I h)
theorem pe_one {op} {t : TE} (h : PE X a t) : PE X (.BoolOp op [a] pos) t := fun pins s σ H Q I hw => BoolOp_one (h pins s σ H Q I hw)
/-- a if t else b -/
def tIf (t : TT) (ta tb : TE) : TE := fun σ H Q => t σ H fun c H1 => if c = true then ta σ H1 Q else tb σ H1 Q
theorem pe_ifExp {c : Expr} (hc : PT X c tA) (ha : PE X a ta) (hb : PE X b tb) : PE X (.IfExp c a b pos) (tIf tA ta tb) := by
  intro pins s σ H Q I h
  refine wpAny_IfExp (thn (hc pins s σ H _ I h) fun d s1 ⟨H1, I1, q1⟩ => ?_)
  cases d with
  | true => exact ha pins s1 σ H1 Q I1 q1
  | false => exact hb pins s1 σ H1 Q I1 q1
end
end L2

namespace L2
open PySem PySem.Spec PyProof.Rows

/-! ### a list, a tuple that is read: tracked, frozen, or an object of the module -/
def SqL (K : PySem.W.Frag) (H : Hp) (a : Addr) (xs : List V) : Prop :=
  Rd H a (.lst xs) ∨
    ∃ (o : Obj) (its : Array Value) (n : Nat), K.lookup a = some o ∧ o.cls = .type "list" ∧ o.dict = none ∧ o.data = .seq its n ∧ its.size ≤ sizeLine ∧ Vals xs its.toList
def SqT (K : PySem.W.Frag) (H : Hp) (a : Addr) (xs : List V) : Prop :=
  Rd H a (.tup xs) ∨
    ∃ (o : Obj) (its : Array Value) (n : Nat), K.lookup a = some o ∧ o.cls = .type "tuple" ∧ o.data = .seq its n ∧ its.size ≤ sizeLine ∧ Vals xs its.toList
def absV : Value → Option V
  | .none => some .non
  | .bool b => some (.bl b)
  | .int i _ => some (.int i)
  | .str x _ => some (.str x)
  | .bytes b _ => some (.byt b)
  | .float b _ => some (.flt b)
  | .ref a => some (.ref a)
  | .type n => some (.ty n)
  | _ => none
theorem RelV.abs {x : V} {u : Value} (r : RelV x u) : absV u = some x := by
  cases x with
  | non => cases r; rfl
  | bl _ => cases r; rfl
  | int _ => obtain ⟨t, rfl⟩ := r; rfl
  | str _ => obtain ⟨t, rfl⟩ := r; rfl
  | byt _ => obtain ⟨t, rfl⟩ := r; rfl
  | flt _ => obtain ⟨t, rfl⟩ := r; rfl
  | ref _ => cases r; rfl
  | ty _ => cases r; rfl
theorem RelV.inj {x y : V} {u : Value} (r : RelV x u) (q : RelV y u) : x = y := Option.some.inj (r.abs.symm.trans q.abs)
theorem Vals.inj : ∀ {xs ys : List V} {us : List Value}, Vals xs us → Vals ys us → xs = ys
  | _, _, _, .nil, .nil => rfl
  | _, _, _, .cons r t, .cons r' t' => by rw [r.inj r', Vals.inj t t']
section
variable {X : Cx} {pins : List (Addr × Obj)} {σ : St} {H : Hp} {s : Shared} {a : Addr} {xs ys : List V}
theorem SqL.of {K : PySem.W.Frag} (h : H a = some (.lst xs)) : SqL K H a xs := .inl (.inl h)
theorem SqT.of {K : PySem.W.Frag} (h : H a = some (.tup xs)) : SqT K H a xs := .inl (.inl h)
theorem Inv.list (I : Inv X pins σ H s) (h : SqL X.K H a xs) : ∃ its : List Value, Vals xs its ∧ PlainL s.heap a its.toArray ∧ xs.length ≤ sizeLine := by
  rcases h with h | ⟨o, its, n, hk, hc, hd, hs, hz, r⟩
  · obtain ⟨z, its, n, r, e⟩ := h.ok I.hok
    exact ⟨its, r, ⟨_, n, e, rfl, rfl, rfl⟩, z⟩
  · refine ⟨its.toList, r, ⟨o, n, I.kIn a o hk, hc, hd, by simpa using hs⟩, ?_⟩
    have e := r.length
    simp only [Array.length_toList] at e
    omega
theorem Inv.tuple (I : Inv X pins σ H s) (h : SqT X.K H a xs) : ∃ its : List Value, Vals xs its ∧ IsTup s.heap a its.toArray ∧ xs.length ≤ sizeLine := by
  rcases h with h | ⟨o, its, n, hk, hc, hs, hz, r⟩
  · obtain ⟨z, its, r, p⟩ := h.ok I.hok
    exact ⟨its, r, p, z⟩
  · refine ⟨its.toList, r, ⟨o, I.kIn a o hk, hc, n, by simpa using hs⟩, ?_⟩
    have e := r.length
    simp only [Array.length_toList] at e
    omega
theorem Inv.list_inj (I : Inv X pins σ H s) (h : SqL X.K H a xs) (h' : SqL X.K H a ys) : xs = ys := by
  obtain ⟨its, r, ⟨o, n, e, _, _, d⟩, _⟩ := I.list h
  obtain ⟨its', r', ⟨o', n', e', _, _, d'⟩, _⟩ := I.list h'
  rw [e] at e'; cases e'
  rw [d] at d'
  injection d' with d1 _
  have : its = its' := by simpa using congrArg Array.toList d1
  subst this
  exact r.inj r'
theorem Inv.tuple_inj (I : Inv X pins σ H s) (h : SqT X.K H a xs) (h' : SqT X.K H a ys) : xs = ys := by
  obtain ⟨its, r, ⟨o, e, _, n, d⟩, _⟩ := I.tuple h
  obtain ⟨its', r', ⟨o', e', _, n', d'⟩, _⟩ := I.tuple h'
  rw [e] at e'; cases e'
  rw [d] at d'
  injection d' with d1 _
  have : its = its' := by simpa using congrArg Array.toList d1
  subst this
  exact r.inj r'
end

/-! ### another wish about exceptions -/
abbrev Cx.wish (X : Cx) (E : Value → Shared → Prop) : Cx := { X with xe := E }
/-- no exception leaves -/
abbrev Cx.nox (X : Cx) : Cx := X.wish fun _ _ => False
theorem Cx.Ok.wish {X : Cx} (ok : X.Ok) (E : Value → Shared → Prop) : (X.wish E).Ok :=
  ⟨ok.mod, ok.kind, ok.glob, ok.blt, ok.above, ok.inj, ok.has, ok.cab, ok.hd, ok.frames, ok.stk, ok.exf, ok.bs, ok.bsz, ok.noex, ok.exfs, ok.funs, ok.frf⟩
theorem Cx.Ok.unwish {X : Cx} {E : Value → Shared → Prop} (ok : (X.wish E).Ok) : X.Ok :=
  ⟨ok.mod, ok.kind, ok.glob, ok.blt, ok.above, ok.inj, ok.has, ok.cab, ok.hd, ok.frames, ok.stk, ok.exf, ok.bs, ok.bsz, ok.noex, ok.exfs, ok.funs, ok.frf⟩
section
variable {X : Cx} {pins : List (Addr × Obj)} {σ : St} {H : Hp} {s : Shared} {E : Value → Shared → Prop}
theorem Inv.wish (I : Inv X pins σ H s) (E : Value → Shared → Prop) : Inv (X.wish E) pins σ H s := ⟨I.ok.wish E, I.os, I.bare, I.base, I.loc, I.cell, I.free, I.freeC, I.pin, I.hok, I.len⟩
theorem Inv.unwish (I : Inv (X.wish E) pins σ H s) : Inv X pins σ H s := ⟨I.ok.unwish, I.os, I.bare, I.base, I.loc, I.cell, I.free, I.freeC, I.pin, I.hok, I.len⟩
theorem SP.unwish {D : Ends} {f : Flow} {s' : Shared} (h : SP (X.wish E) pins D f s') : SP X pins D f s' := by
  cases f with
  | next => obtain ⟨σ', H', I, q⟩ := h; exact ⟨σ', H', I.unwish, q⟩
  | brk => obtain ⟨σ', H', I, q⟩ := h; exact ⟨σ', H', I.unwish, q⟩
  | cont => obtain ⟨σ', H', I, q⟩ := h; exact ⟨σ', H', I.unwish, q⟩
  | ret u => obtain ⟨v, σ', H', I, r, q⟩ := h; exact ⟨v, σ', H', I.unwish, r, q⟩
theorem PE.nox {e : Expr} {t : TE} (h : PE X.nox e t) : PE X e t := fun pins s σ H Q I hw =>
  wpAny_mono (h pins s σ H Q (I.wish _) hw) (fun _ _ ⟨v, H', I', r, q⟩ => ⟨v, H', I'.unwish, r, q⟩) fun _ _ z => False.elim z
theorem PT.nox {e : Expr} {t : TT} (h : PT X.nox e t) : PT X e t := fun pins s σ H Q I hw =>
  wpAny_mono (h pins s σ H Q (I.wish _) hw) (fun _ _ ⟨H', I', q⟩ => ⟨H', I'.unwish, q⟩) fun _ _ z => False.elim z
theorem PSs.nox {st : List Stmt} {t : TS} (h : PSs X.nox st t) : PSs X st t := fun pins s σ H D I hw =>
  wpAny_mono (h pins s σ H D (I.wish _) hw) (fun _ _ q => q.unwish) fun _ _ z => False.elim z
end

/-! ### blocks and small statements -/
section
variable {X : Cx} {st : Stmt} {rest : List Stmt} {t u : TS} {e : Expr} {te : TE} {pos : Pos}
def tNext : TS := fun D σ H => D.nx σ H
def tSeq (t u : TS) : TS := fun D σ H => t { D with nx := u D } σ H
theorem pss_nil : PSs X [] tNext := fun _ _ σ H _ I h => wpAny_execs_nil ⟨σ, H, I, h⟩
theorem pss_cons (h1 : PS X st t) (h2 : PSs X rest u) : PSs X (st :: rest) (tSeq t u) := by
  intro pins s σ H D I h
  refine wpAny_execs_cons (thn (h1 pins s σ H { D with nx := u D } I h) fun f s1 q => ?_)
  cases f with
  | next =>
    obtain ⟨σ', H', I', q⟩ := q
    exact h2 pins s1 σ' H' D I' q
  | ret v => exact q
  | brk => exact q
  | cont => exact q
theorem pss_one (h1 : PS X st t) : PSs X [st] t := by
  intro pins s σ H D I h
  refine wpAny_execs_cons (thn (h1 pins s σ H D I h) fun f s1 q => ?_)
  cases f with
  | next => exact wpAny_execs_nil q
  | ret v => exact q
  | brk => exact q
  | cont => exact q
/-- in a def's body nothing is shown -/
theorem Inv.quiet {pins : List (Addr × Obj)} {σ : St} {H : Hp} {s : Shared} (I : Inv X pins σ H s) : interactive X.env = false := by simp [interactive, I.ok.kind]
/-- an expression whose value is dropped -/
def tDrop (te : TE) : TS := fun D σ H => te σ H fun _ H1 => D.nx σ H1
theorem ps_expr (he : PE X e te) (hs : swapsWith e none pos.line X.env = pure false := by rfl) : PS X (.Expr e pos) (tDrop te) := by
  intro pins s σ H D I h
  exact wpAny_Expr_any (thn (he pins s σ H _ I h) fun v s1 ⟨x, H1, I1, r1, q1⟩ => ⟨σ, H1, I1, q1⟩) I.quiet hs
def tRet (te : TE) : TS := fun D σ H => te σ H D.rt
theorem ps_ret (he : PE X e te) : PS X (.Return (some e) pos) (tRet te) := by
  intro pins s σ H D I h
  exact wpAny_Return_some (thn (he pins s σ H _ I h) fun v s1 ⟨x, H1, I1, r1, q1⟩ => ⟨x, σ, H1, I1, r1, q1⟩)
def tIfS (c : TT) (t u : TS) : TS := fun D σ H => c σ H fun b H1 => if b = true then t D σ H1 else u D σ H1
theorem ps_if {c : Expr} {a b : List Stmt} {tc : TT} (hc : PT X c tc) (ha : PSs X a t) (hb : PSs X b u) : PS X (.If c a b pos) (tIfS tc t u) := by
  intro pins s σ H D I h
  refine wpAny_If (thn (hc pins s σ H _ I h) fun d s1 ⟨H1, I1, q1⟩ => ?_)
  cases d with
  | true => exact ha pins s1 σ H1 D I1 q1
  | false => exact hb pins s1 σ H1 D I1 q1
/-- code that the proof never comes to -/
def tNever : TS := fun _ _ _ => False
theorem ps_never : PS X st tNever := fun _ _ _ _ _ _ h => h.elim
end

/-! ### targets -/
abbrev TG := V → St → Hp → (St → Hp → Prop) → Prop
abbrev TGs := List V → St → Hp → (St → Hp → Prop) → Prop
def PG (X : Cx) (target : Expr) (t : TG) : Prop :=
  ∀ (pins : List (Addr × Obj)) (s : Shared) (σ : St) (H : Hp) (v : V) (u : Value) (Q : St → Hp → Prop), Inv X pins σ H s → RelV v u → t v σ H Q →
    wpAny (model X.prog X.w) X.A (assign target X.env u) (fun _ s' => ∃ σ' H', Inv X pins σ' H' s' ∧ Q σ' H') X.xe s
/-- several targets, one after another -/
def PGs (X : Cx) (ts : List Expr) (t : TGs) : Prop :=
  ∀ (pins : List (Addr × Obj)) (s : Shared) (σ : St) (H : Hp) (vs : List V) (us : List Value) (Q : St → Hp → Prop), Inv X pins σ H s → Vals vs us → t vs σ H Q →
    wpAny (model X.prog X.w) X.A (assignInOrder ((assignEach ts X.env).map (·.2)) us) (fun _ s' => ∃ σ' H', Inv X pins σ' H' s' ∧ Q σ' H') X.xe s
/-- a op= b, by values -/
abbrev TIp := V → V → Hp → VK → Prop
def PIp (X : Cx) (op : Operator) (t : TIp) : Prop :=
  ∀ (pins : List (Addr × Obj)) (s : Shared) (σ : St) (H : Hp) (x y : V) (v u : Value) (Q : VK), Inv X pins σ H s → RelV x v → RelV y u → t x y H Q →
    wpAny (model X.prog X.w) X.A (inplaceOp op v u) (EP X pins σ Q) X.xe s
section
variable {X : Cx} {pos : Pos}
def gName (i : Nat) : TG := fun v σ H Q => Q (σ.set i (some v)) H
theorem pg_name {i : Nat} {x : Str} (hN : X.N.Nodup) (hi : X.N[i]? = some x) (hx : Loc X.env.scope x) (hf : X.fn x = true ∨ X.env.scope.names.lookup x = some .local := by first | exact .inl rfl | exact .inr rfl | assumption) : PG X (.Name x pos) (gName i) := by
  intro pins s σ H v u Q I r h
  exact wpAny_assign_Name (store_ok I hN hi hx r (fun s' I' => ⟨_, H, I', h⟩) hf)
def gNil : TGs := fun vs σ H Q => vs = [] ∧ Q σ H
def gCons (t : TG) (u : TGs) : TGs := fun vs σ H Q => ∃ v r, vs = v :: r ∧ t v σ H fun σ' H' => u r σ' H' Q
theorem pgs_nil : PGs X [] gNil := by
  intro pins s σ H vs us Q I r h
  obtain ⟨e, h⟩ := h
  subst e
  cases r
  exact assignInOrder_nil ⟨σ, H, I, h⟩
theorem pgs_cons {e : Expr} {es : List Expr} {t : TG} {u : TGs} (h1 : PG X e t) (h2 : PGs X es u)
    (hs : (assignEach (e :: es) X.env).map (·.2) = assign e X.env :: (assignEach es X.env).map (·.2) := by rfl) : PGs X (e :: es) (gCons t u) := by
  intro pins s σ H vs us Q I r h
  obtain ⟨v, vr, e1, h⟩ := h
  subst e1
  cases r with
  | cons r rr =>
    rw [hs]
    refine assignInOrder_cons (thn (h1 pins s σ H _ _ _ I r h) fun _ s1 ⟨σ1, H1, I1, q1⟩ => ?_)
    exact h2 pins s1 σ1 H1 _ _ Q I1 rr q1
/-- (a, b, ..) = a tuple of that length -/
def gTup (K : PySem.W.Frag) (n : Nat) (t : TGs) : TG := fun v σ H Q => ∃ a xs, v = .ref a ∧ SqT K H a xs ∧ xs.length = n ∧ t xs σ H Q
theorem pg_tup {es : List Expr} {k : Nat} {t : TGs} {n : Nat} (hc : X.calm = true) (h : PGs X es t)
    (hn : (assignEach es X.env).length = n := by rfl) (hst : (assignEach es X.env).findIdx? (·.1) = none := by rfl) : PG X (.Tuple es k pos) (gTup X.K n t) := by
  intro pins s σ H v u Q I r hw
  obtain ⟨a, xs, e1, hq, hl, hw⟩ := hw
  subst e1
  cases r
  obtain ⟨its, rv, ht, hz⟩ := I.tuple hq
  refine assign_Tuple_tuple (I.ok.hd hc) ht (by simp [hn, ← hl, rv.length]) hst fun h' hx => ?_
  have I1 : Inv X pins σ H { s with heap := h' } := I.kept (t' := s.toks) fun b o e => hx b o (Nat.ne_of_lt (Heap.lt_size e)) e
  exact h pins _ σ H xs _ Q I1 (by simpa using rv) hw
/-- target = value -/
def tAsg (te : TE) (g : TG) : TS := fun D σ H => te σ H fun x H1 => g x σ H1 D.nx
/-- name = value -/
theorem ps_set {i : Nat} {x : Str} {e : Expr} {te : TE} {pos' : Pos} (hN : X.N.Nodup) (hi : X.N[i]? = some x) (hx : Loc X.env.scope x) (he : PE X e te) (hs : swapsWith e (some (.Name x pos')) pos.line X.env = pure false := by rfl) (hf : X.fn x = true ∨ X.env.scope.names.lookup x = some .local := by first | exact .inl rfl | exact .inr rfl | assumption) :
    PS X (.Assign [.Name x pos'] e pos) (tAsg te (gName i)) := by
  intro pins s σ H D I h
  refine wpAny_Assign_Name (thn (he pins s σ H _ I h) fun v s1 ⟨y, H1, I1, r1, q1⟩ => ?_) hs
  exact store_ok I1 hN hi hx r1 (fun s2 I2 => ⟨_, H1, I2, q1⟩) hf
/-- name op= e -/
def tAug (i : Nat) (te : TE) (ti : TIp) : TS := fun D σ H => ∃ x, σ[i]? = some (some x) ∧ te σ H fun y H1 => ti x y H1 fun z H2 => D.nx (σ.set i (some z)) H2
theorem ps_aug {i : Nat} {x : Str} {e : Expr} {te : TE} {op : Operator} {ti : TIp} {pos' : Pos} (hN : X.N.Nodup) (hi : X.N[i]? = some x) (hx : Loc X.env.scope x) (he : PE X e te) (ho : PIp X op ti) (hf : X.fn x = true ∨ X.env.scope.names.lookup x = some .local := by first | exact .inl rfl | exact .inr rfl | assumption) :
    PS X (.AugAssign (.Name x pos') op e pos) (tAug i te ti) := by
  intro pins s σ H D I h
  obtain ⟨v, e1, h⟩ := h
  obtain ⟨m, hn, hl⟩ := I.loc
  have vis : Vis X.env.scope x := by rcases hx with k | k; exact .inl k; exact .inr (.inl k)
  obtain ⟨u, r, l⟩ := hl i x v hi e1 vis
  refine wpAny_AugAssign_Name ?_
  have go : wpAny (model X.prog X.w) X.A (eval e X.env) (fun w s₂ => wpAny (model X.prog X.w) X.A (inplaceOp op u w) (fun r s₃ => wpAny (model X.prog X.w) X.A (storeName X.env x r) (fun _ => SP X pins D .next) X.xe s₃) X.xe s₂) X.xe s := by
    refine thn (he pins s σ H _ I h) fun w s1 ⟨y, H1, I1, r1, q1⟩ => ?_
    refine thn (ho pins s1 σ H1 v y u w _ I1 r r1 q1) fun z s2 ⟨zv, H2, I2, r2, q2⟩ => ?_
    exact store_ok I2 hN hi hx r2 (fun s3 I3 => ⟨_, H2, I3, q2⟩) hf
  rcases l with ⟨hk, hm⟩ | ⟨hk, c, hc, hcell⟩
  · exact wpAny_loadName_local I.ok.kind hk hn hm go
  · rcases hk with hk | hk
    · exact wpAny_loadName_cell I.ok.kind hk hc hcell go
    · rcases hx with k | k
      · have : X.env.scope.names.lookup x = some .free := hk
        rw [k] at this; cases this
      · have : X.env.scope.names.lookup x = some .free := hk
        rw [k] at this; cases this
end

/-! ### while -/
section
variable {X : Cx} {pos : Pos}
end

/-! ### what a loop or a comprehension walks -/
/-- at turn i: it yields x (the heap may grow), or it stops -/
structure It where
  go : Nat → Hp → Prop
  yld : Nat → Hp → V → Hp → Prop
  stop : Nat → Hp → Prop
/-- the iterator's own objects may turn: they are not the frame's, not pinned, younger than the entry (or a comprehension's own) -/
def FpOk (X : Cx) (pins : List (Addr × Obj)) (H : Hp) (b : Addr) : Prop :=
  H b = none ∧ b ≠ X.env.locals ∧ b ∉ X.fs ∧ (b ∈ X.ex ∨ X.s₀.heap.objs.size ≤ b) ∧ (∀ x c, X.env.cells.lookup x = some c → c ≠ b) ∧ ∀ p ∈ X.pn ++ pins, p.1 ≠ b
theorem Inv.fpOk {X : Cx} {pins : List (Addr × Obj)} {σ : St} {H H' : Hp} {s : Shared} {b : Addr} (I : Inv X pins σ H s) (hb : s.heap.objs.size ≤ b) (hn : H' b = none) : FpOk X pins H' b := by
  refine ⟨hn, Nat.ne_of_gt (Nat.lt_of_lt_of_le I.lt hb), I.nofs hb, .inr (Nat.le_trans I.sz hb), fun x c e z => ?_, fun p hp z => ?_⟩
  · obtain ⟨v, q⟩ := I.cell x c e
    exact absurd (Nat.lt_of_lt_of_le q.lt (by rw [z]; exact hb)) (Nat.lt_irrefl _)
  · exact absurd (Nat.lt_of_lt_of_le (Heap.lt_size (I.pin p hp).1) (by rw [z]; exact hb)) (Nat.lt_irrefl _)
structure Turn (P : Program) (w : World) (K : PySem.W.Frag) (tg : Expr) (J : It) (fp : List Addr) (it : Addr) (tn : Nat → Heap → Prop) : Prop where
  mem : it ∈ fp
  obj : ∀ i h, tn i h → ∀ b ∈ fp, ∃ o, h.get? b = some o ∧ ∀ v, o.data ≠ .cell v
  keep : ∀ i h h', tn i h → (∀ b ∈ fp, ∀ o, h.get? b = some o → h'.get? b = some o) → tn i h'
  item : ∀ (X : Cx), X.prog = P → X.w = w → X.K = K → X.calm = true → ∀ (i : Nat) (pins : List (Addr × Obj)) (s : Shared) (σ : St) (H : Hp) (E : Value → Shared → Prop), Inv X pins σ H s → (∀ b ∈ fp, FpOk X pins H b) → tn i s.heap → J.go i H →
    wpAny (model P w) X.A (pyNext (.ref it)) (fun r s1 => ∃ u, r = some u ∧
      wpAny (model P w) X.A (letOwnedTupleGo tg (.ref it) u) (fun _ s2 => ∃ x H', Inv X pins σ H' s2 ∧ RelV x u ∧ J.yld i H x H' ∧ tn (i + 1) s2.heap ∧ ∀ b ∈ fp, H' b = none) E s1) E s
  done : ∀ (X : Cx), X.prog = P → X.w = w → X.K = K → X.calm = true → ∀ (i : Nat) (pins : List (Addr × Obj)) (s : Shared) (σ : St) (H : Hp) (E : Value → Shared → Prop), Inv X pins σ H s → (∀ b ∈ fp, FpOk X pins H b) → tn i s.heap → J.stop i H →
    wpAny (model P w) X.A (pyNext (.ref it)) (fun r s1 => r = none ∧ Inv X pins σ H s1) E s
  self : ∀ (A : Around) (i : Nat) (s : Shared) (Q : Value → Shared → Prop) (E : Value → Shared → Prop), tn i s.heap → Q (.ref it) s → wpAny (model P w) A (pyIter (.ref it)) Q E s
abbrev TI := St → Hp → (It → Hp → Prop) → Prop
/-- an iterator has come -/
def PIE (X : Cx) (pins : List (Addr × Obj)) (σ : St) (tg : Expr) (R : It → Hp → Prop) (itv : Value) (s2 : Shared) : Prop :=
  ∃ (it : Addr) (fp : List Addr) (tn : Nat → Heap → Prop) (J : It) (H' : Hp), itv = .ref it ∧ Inv X pins σ H' s2 ∧ Turn X.prog X.w X.K tg J fp it tn ∧ tn 0 s2.heap ∧ (∀ b ∈ fp, FpOk X pins H' b) ∧ R J H'
def PI (X : Cx) (tg iter : Expr) (wi : TI) : Prop :=
  ∀ (pins : List (Addr × Obj)) (s : Shared) (σ : St) (H : Hp) (R : It → Hp → Prop), Inv X pins σ H s → wi σ H R →
    wpAny (model X.prog X.w) X.A (eval iter X.env) (fun v s1 => wpAny (model X.prog X.w) X.A (pyIter v) (PIE X pins σ tg R) X.xe s1) X.xe s

/-- the step ahead of the store is nothing for an iterator that keeps no tuple -/
theorem go_of {M : Model} {A : Around} {E : Value → Shared → Prop} {s : Shared} {tg : Expr} {it : Addr} {u : Value} {o : Obj} {n : String} {vs : Array Value} {Q : Unit → Shared → Prop} (ho : s.heap.get? it = some o) (hc : o.cls = .type n) (hd : o.data = .fields vs)
    (hn : ["enumerate", "zip", "dict_itemiterator", "dict_reverseitemiterator", "odict_iterator", "itertools.zip_longest", "itertools.pairwise"].contains n = false) (hQ : Q () s) : wpAny M A (letOwnedTupleGo tg (.ref it) u) Q E s := by
  unfold letOwnedTupleGo
  cases tg <;> first
    | exact wpAny_pure hQ
    | (cases u <;> first
        | exact wpAny_pure hQ
        | (refine wpAny_bind (wpAny_load ho ?_)
           rw [hc, hd]
           show wpAny M A (if (["enumerate", "zip", "dict_itemiterator", "dict_reverseitemiterator", "odict_iterator", "itertools.zip_longest", "itertools.pairwise"].contains n && vs[0]? == some (rawInt _)) = true then _ else _) Q E s
           rw [if_neg (by intro h; rw [hn, Bool.false_and] at h; cases h)]
           exact wpAny_pure hQ))

/-- the list at a, as it stands at each turn (a loop may append to it) -/
def Itl (K : PySem.W.Frag) (a : Addr) : It :=
  ⟨fun i H => ∃ xs x, SqL K H a xs ∧ xs[i]? = some x, fun i H x H' => H' = H ∧ ∀ xs, SqL K H a xs → xs[i]? = some x, fun i H => ∃ xs, SqL K H a xs ∧ xs.length ≤ i⟩
def Itt (K : PySem.W.Frag) (a : Addr) : It :=
  ⟨fun i H => ∃ xs x, SqT K H a xs ∧ xs[i]? = some x, fun i H x H' => H' = H ∧ ∀ xs, SqT K H a xs → xs[i]? = some x, fun i H => ∃ xs, SqT K H a xs ∧ xs.length ≤ i⟩
/-- lo, lo + 1, .. (n of them) -/
def Itr (lo : Int) (n : Nat) : It := ⟨fun i _ => i < n, fun i H x H' => H' = H ∧ x = .int (lo + i), fun i _ => n ≤ i⟩
theorem turn_list {P : Program} {w : World} {K : PySem.W.Frag} {tg : Expr} (a it : Addr) : Turn P w K tg (Itl K a) [it] it (fun i h => h.IsListIter it a i) where
  mem := by simp
  obj := fun i h st b hb => by
    have e : b = it := by simpa using hb
    subst e
    obtain ⟨o, e, c, d⟩ := st
    exact ⟨o, e, fun v z => by rw [d] at z; cases z⟩
  keep := fun i h h' st k => st.at fun o e => k it (by simp) o e
  item := by
    intro X hP hw hK hc i pins s σ H E I hf st hg
    subst hP hw hK
    obtain ⟨xs, x, hq, hx⟩ := hg
    obtain ⟨its, rv, p, hz⟩ := I.list hq
    obtain ⟨u, hu, ru⟩ := rv.get hx
    obtain ⟨f0, f1, f2, f3, f4, f5⟩ := hf it (by simp)
    refine wpAny_pyNext_list_item st p.isList (x := u) (by simpa using hu) fun h' st' sb => ?_
    have I1 : Inv X pins σ H { s with heap := h' } := I.turned (t' := s.toks) (fun b o hb e => (sb.2 b hb).trans e) f0 f1 f3 f4 f5
    obtain ⟨o, e, c, d⟩ := id st'
    exact ⟨u, rfl, go_of (s := { s with heap := h' }) e c d (by decide) ⟨x, H, I1, ru, ⟨rfl, fun ys hy => by rw [I.list_inj hy hq]; exact hx⟩, st', fun b hb => (hf b hb).1⟩⟩
  done := by
    intro X hP hw hK hc i pins s σ H E I hf st hg
    subst hP hw hK
    obtain ⟨xs, hq, hx⟩ := hg
    obtain ⟨its, rv, p, hz⟩ := I.list hq
    obtain ⟨f0, f1, f2, f3, f4, f5⟩ := hf it (by simp)
    have hl := rv.length
    exact wpAny_pyNext_list_end (I.ok.hd hc) st p.isList (by simp; omega) fun h' eb => ⟨rfl, I.turned (t' := s.toks) (fun b o hb e => eb b o hb e) f0 f1 f3 f4 f5⟩
  self := fun _ _ _ _ _ st h => wpAny_pyIter_listiter st h
theorem turn_tuple {P : Program} {w : World} {K : PySem.W.Frag} {tg : Expr} (a it : Addr) : Turn P w K tg (Itt K a) [it] it (fun i h => h.IsTupleIter it a i) where
  mem := by simp
  obj := fun i h st b hb => by
    have e : b = it := by simpa using hb
    subst e
    obtain ⟨o, e, c, d⟩ := st
    exact ⟨o, e, fun v z => by rw [d] at z; cases z⟩
  keep := fun i h h' st k => st.at fun o e => k it (by simp) o e
  item := by
    intro X hP hw hK hc i pins s σ H E I hf st hg
    subst hP hw hK
    obtain ⟨xs, x, hq, hx⟩ := hg
    obtain ⟨its, rv, p, hz⟩ := I.tuple hq
    obtain ⟨u, hu, ru⟩ := rv.get hx
    obtain ⟨f0, f1, f2, f3, f4, f5⟩ := hf it (by simp)
    refine wpAny_pyNext_tuple_item st (show s.heap.IsTuple a its.toArray from p) (x := u) (by simpa using hu) fun h' st' sb => ?_
    have I1 : Inv X pins σ H { s with heap := h' } := I.turned (t' := s.toks) (fun b o hb e => (sb.2 b hb).trans e) f0 f1 f3 f4 f5
    obtain ⟨o, e, c, d⟩ := id st'
    exact ⟨u, rfl, go_of (s := { s with heap := h' }) e c d (by decide) ⟨x, H, I1, ru, ⟨rfl, fun ys hy => by rw [I.tuple_inj hy hq]; exact hx⟩, st', fun b hb => (hf b hb).1⟩⟩
  done := by
    intro X hP hw hK hc i pins s σ H E I hf st hg
    subst hP hw hK
    obtain ⟨xs, hq, hx⟩ := hg
    obtain ⟨its, rv, p, hz⟩ := I.tuple hq
    obtain ⟨f0, f1, f2, f3, f4, f5⟩ := hf it (by simp)
    have hl := rv.length
    exact wpAny_pyNext_tuple_end (I.ok.hd hc) st (show s.heap.IsTuple a its.toArray from p) (by simp; omega) fun h' eb => ⟨rfl, I.turned (t' := s.toks) (fun b o hb e => eb b o hb e) f0 f1 f3 f4 f5⟩
  self := fun _ _ _ _ _ st h => wpAny_pyIter_tupleiter st h
theorem turn_range {P : Program} {w : World} {K : PySem.W.Frag} {tg : Expr} (it : Addr) (lo : Int) (n : Nat) : Turn P w K tg (Itr lo n) [it] it (fun i h => IsRangeIter h it (lo + (i : Nat) * 1) ((n : Int) - (i : Nat)) 1) where
  mem := by simp
  obj := fun i h st b hb => by
    have e : b = it := by simpa using hb
    subst e
    exact ⟨_, st, fun v z => by
      have z' : Data.fields _ = Data.cell v := z
      cases z'⟩
  keep := fun i h h' st k => k it (by simp) _ st
  item := by
    intro X hP hw hK hc i pins s σ H E I hf st hg
    subst hP hw hK
    obtain ⟨f0, f1, f2, f3, f4, f5⟩ := hf it (by simp)
    have W := Walks.range (prog := X.prog) (w := X.w) (I.ok.hd hc) it lo 1 n
    refine W.item i s _ _ hg st fun v h' tk hv st' kk => ?_
    obtain ⟨t, rfl⟩ := hv
    have I1 : Inv X pins σ H { s with heap := h', toks := tk } := I.turned (fun b o hb e => kk b o (by simpa using hb) e) f0 f1 f3 f4 f5
    refine ⟨_, rfl, go_of (s := { s with heap := h', toks := tk }) (n := "range_iterator") st' rfl rfl (by decide) ⟨.int (lo + i), H, I1, ⟨t, ?_⟩, ⟨rfl, rfl⟩, st', fun b hb => (hf b hb).1⟩⟩
    rw [Int.mul_one]
  done := by
    intro X hP hw hK hc i pins s σ H E I hf st hg
    subst hP hw hK
    obtain ⟨f0, f1, f2, f3, f4, f5⟩ := hf it (by simp)
    exact wpAny_pyNext_range_end (I.ok.hd hc) st (by have : n ≤ i := hg; omega) fun h' eb => ⟨rfl, I.turned (t' := s.toks) (fun b o hb e => eb b o hb e) f0 f1 f3 f4 f5⟩
  self := fun _ _ _ _ _ st h => wpAny_pyIter_rangeiter st h
end L2

namespace L2
open PySem PySem.Spec PyProof.Rows
section
variable {X : Cx} {tg : Expr}
def iList (K : PySem.W.Frag) (tl : TE) : TI := fun σ H R => tl σ H fun x H1 => ∃ a, x = .ref a ∧ (∃ xs, SqL K H1 a xs) ∧ R (Itl K a) H1
def iTup (K : PySem.W.Frag) (tl : TE) : TI := fun σ H R => tl σ H fun x H1 => ∃ a, x = .ref a ∧ (∃ xs, SqT K H1 a xs) ∧ R (Itt K a) H1
theorem pi_list {l : Expr} {tl : TE} (hl : PE X l tl) : PI X tg l (iList X.K tl) := by
  intro pins s σ H R I h
  refine thn (hl pins s σ H _ I h) fun v s1 ⟨x, H1, I1, r1, q1⟩ => ?_
  obtain ⟨a, e, ⟨xs, hq⟩, q⟩ := q1
  subst e
  cases r1
  obtain ⟨its, rv, p, hz⟩ := I1.list hq
  refine wpAny_pyIter_list p.isList ?_
  refine ⟨s1.heap.objs.size, [s1.heap.objs.size], _, _, H1, rfl, I1.kept (t' := s1.toks) fun b o e => Heap.get?_push_of_some _ e, turn_list a _, ⟨_, Heap.get?_push_size _ rfl, rfl, rfl⟩, fun b hb => ?_, q⟩
  have e : b = s1.heap.objs.size := by simpa using hb
  subst e
  exact I1.fpOk (Nat.le_refl _) (I1.hok.fresh (Nat.le_refl _))
theorem pi_tup {l : Expr} {tl : TE} (hl : PE X l tl) : PI X tg l (iTup X.K tl) := by
  intro pins s σ H R I h
  refine thn (hl pins s σ H _ I h) fun v s1 ⟨x, H1, I1, r1, q1⟩ => ?_
  obtain ⟨a, e, ⟨xs, hq⟩, q⟩ := q1
  subst e
  cases r1
  obtain ⟨its, rv, p, hz⟩ := I1.tuple hq
  refine wpAny_pyIter_tuple (show s1.heap.IsTuple a its.toArray from p) ?_
  refine ⟨s1.heap.objs.size, [s1.heap.objs.size], _, _, H1, rfl, I1.kept (t' := s1.toks) fun b o e => Heap.get?_push_of_some _ e, turn_tuple a _, ⟨_, Heap.get?_push_size _ rfl, rfl, rfl⟩, fun b hb => ?_, q⟩
  have e : b = s1.heap.objs.size := by simpa using hb
  subst e
  exact I1.fpOk (Nat.le_refl _) (I1.hok.fresh (Nat.le_refl _))
/-- a range object just made, walked -/
theorem range_it {pins : List (Addr × Obj)} {σ : St} {H : Hp} {s : Shared} {R : It → Hp → Prop} {E : Value → Shared → Prop} {lo hi : Int} {t u v : Tok} {tk : Nat} (I : Inv X pins σ H s) (h1 : -(2 ^ 62) ≤ lo) (h2 : lo < 2 ^ 62) (h3 : -(2 ^ 62) ≤ hi) (h4 : hi < 2 ^ 62)
    (q : R (Itr lo (hi - lo).toNat) H) : wpAny (model X.prog X.w) X.A (pyIter (.ref s.heap.objs.size)) (PIE X pins σ tg R) E { s with heap := s.heap.push { cls := .type "range", data := .fields #[.int lo t, .int hi u, .int 1 v] }, toks := tk } := by
  refine wpAny_pyIter_range (IsRange.new ..) (small_one h1 h2 h3 h4) ?_
  have I1 : Inv X pins σ H { s with heap := s.heap.push { cls := .type "range", data := .fields #[.int lo t, .int hi u, .int 1 v] }, toks := tk } := I.kept fun b o e => Heap.get?_push_of_some _ e
  refine ⟨(s.heap.push { cls := .type "range", data := .fields #[.int lo t, .int hi u, .int 1 v] }).objs.size, [(s.heap.push { cls := .type "range", data := .fields #[.int lo t, .int hi u, .int 1 v] }).objs.size], _, _, H, rfl,
    I1.kept (t' := tk) fun b o e => Heap.get?_push_of_some _ e, turn_range _ lo (hi - lo).toNat, ?_, fun b hb => ?_, q⟩
  · have e1 : lo + ((0 : Nat) : Int) * 1 = lo := by simp
    have e2 : (((hi - lo).toNat : Nat) : Int) - ((0 : Nat) : Int) = Builtin.Range.rangeSize lo hi 1 := by rw [rangeSize_one]; split <;> omega
    show IsRangeIter _ _ (lo + ((0 : Nat) : Int) * 1) ((((hi - lo).toNat : Nat) : Int) - ((0 : Nat) : Int)) 1
    rw [e1, e2]
    exact Heap.get?_push_size _ rfl
  · have e : b = (s.heap.push { cls := .type "range", data := .fields #[.int lo t, .int hi u, .int 1 v] }).objs.size := by simpa using hb
    subst e
    exact I1.fpOk (Nat.le_refl _) (I1.hok.fresh (Nat.le_refl _))
def iRng1 (ta : TA) : TI := fun σ H R => ta σ H fun vs H1 => ∃ j : Int, vs = [.int j] ∧ -(2 ^ 62) ≤ j ∧ j < 2 ^ 62 ∧ R (Itr 0 j.toNat) H1
theorem pi_range1 {a : Expr} {ta : TA} {p pos : Pos} (hg : Gl X "range") (hm : X.mg "range" = none) (ha : PA X [a] ta) (hs : starEach [a] X.env = [(false, eval a X.env)] := by rfl) : PI X tg (.Call (.Name "range" p) [a] [] pos) (iRng1 ta) := by
  intro pins s σ H R I h
  refine Call_ (ld_blt I hg hm boot_range (PyProof.Rows.callWith_type1 (thn (ha pos pins s σ H _ I h) fun us s1 ⟨vs, H1, I1, r1, q1⟩ => ?_) hs rfl))
  obtain ⟨j, e, q1, q2, q⟩ := q1
  subst e
  cases r1 with
  | cons r rr =>
    cases rr
    obtain ⟨t, rfl⟩ := r
    exact call_range_1 (range_it I1 (by omega) (by omega) q1 q2 (by simpa using q))
/-! ### for -/
/-- W: the invariant by the turn and a measure; N: what the body is to reach -/
def tFor (wi : TI) (g : TG) (tb : TS) : TS := fun D σ H => wi σ H fun J H1 => ∃ W : Nat → Nat → St → Hp → Prop, (∃ m, W 0 m σ H1) ∧ ∀ i m σ H, W i m σ H →
  (J.stop i H ∧ D.nx σ H) ∨ (J.go i H ∧ ∃ N : St → Hp → Prop, (∀ σ' H', N σ' H' → ∃ m', m' < m ∧ W (i + 1) m' σ' H') ∧ ∀ x H', J.yld i H x H' → g x σ H' fun σ2 H2 => tb { D with nx := N, ct := N, bk := D.nx } σ2 H2)
/-- the records at fp as they stand -/
def pinsAt (fp : List Addr) (h : Heap) : List (Addr × Obj) := fp.filterMap fun b => (h.get? b).map fun o => (b, o)
theorem mem_pinsAt {fp : List Addr} {h : Heap} {b : Addr} {o : Obj} (hb : b ∈ fp) (e : h.get? b = some o) : (b, o) ∈ pinsAt fp h := List.mem_filterMap.mpr ⟨b, hb, by rw [e]; rfl⟩
theorem of_pinsAt {fp : List Addr} {h : Heap} {p : Addr × Obj} (hp : p ∈ pinsAt fp h) : p.1 ∈ fp ∧ h.get? p.1 = some p.2 := by
  obtain ⟨b, hb, e⟩ := List.mem_filterMap.mp hp
  cases q : h.get? b with
  | none => rw [q] at e; cases e
  | some o =>
    rw [q] at e
    have e' : (b, o) = p := Option.some.inj e
    subst e'
    exact ⟨hb, q⟩
theorem Inv.pinned {pins : List (Addr × Obj)} {σ : St} {H : Hp} {s : Shared} {fp : List Addr} (I : Inv X pins σ H s) (hf : ∀ b ∈ fp, FpOk X pins H b) (ho : ∀ b ∈ fp, ∃ o, s.heap.get? b = some o ∧ ∀ v, o.data ≠ .cell v) : Inv X (pins ++ pinsAt fp s.heap) σ H s :=
  I.pins_of fun p hp => (List.mem_append.mp hp).elim (fun z => I.pin p (List.mem_append_right _ z)) fun z => by
    obtain ⟨hb, e⟩ := of_pinsAt z
    obtain ⟨f0, f1, f2, _⟩ := hf p.1 hb
    obtain ⟨o, e', d⟩ := ho p.1 hb
    rw [e] at e'; cases e'
    exact ⟨e, f0, f1, f2, d⟩
theorem Inv.unpinned {pins pl : List (Addr × Obj)} {σ : St} {H : Hp} {s : Shared} (I : Inv X (pins ++ pl) σ H s) : Inv X pins σ H s := I.pins_of fun p hp => I.pin p (List.mem_append_right _ (List.mem_append_left _ hp))
theorem ps_for {iter : Expr} {body : List Stmt} {wi : TI} {g : TG} {tb : TS} {pos : Pos} (hp : PassesOwn (model X.prog X.w) X.A X.env X.xe) (hc : X.calm = true) (hi : PI X tg iter wi) (hg : PG X tg g) (hb : PSs X body tb)
    (hs : ∀ x, foldedSetIterable iter X.env x = pure x := by intro _; rfl) : PS X (.For tg iter body [] pos) (tFor wi g tb) := by
  intro pins s σ H D I h
  refine wpAny_For (thn (hi pins s σ H _ I h) fun v s1 h1 => thn h1 fun itv s2 h2 => ?_) hs
  obtain ⟨it, fp, tn, J, H2, e, I2, T, st2, f2, W, ⟨m0, w0⟩, turn⟩ := h2
  subst e
  -- what stays true of the iterator's objects through the loop
  have stat : ∀ {H' : Hp}, (∀ b ∈ fp, H' b = none) → ∀ b ∈ fp, FpOk X pins H' b := fun hn b hb => ⟨hn b hb, (f2 b hb).2⟩
  refine codeAny_forLoop_any (fun n s' => ∃ i σ' H', Inv X pins σ' H' s' ∧ tn i s'.heap ∧ (∀ b ∈ fp, H' b = none) ∧ W i n σ' H') ?_ m0 ⟨0, σ, H2, I2, st2, fun b hb => (f2 b hb).1, w0⟩
  rintro n s3 ⟨i, σ3, H3, I3, st3, fr3, w3⟩
  rcases turn i n σ3 H3 w3 with ⟨stop, qn⟩ | ⟨go, N, hN, step⟩
  · refine wpAny_passesOwn hp (thn (T.done X rfl rfl rfl hc i pins s3 σ3 H3 X.xe I3 (stat fr3) st3 stop) fun r s4 ⟨hr, I4⟩ => ?_)
    subst hr
    exact wpAny_execs_nil ⟨σ3, H3, I4, qn⟩
  · refine wpAny_passesOwn hp (thn (T.item X rfl rfl rfl hc i pins s3 σ3 H3 X.xe I3 (stat fr3) st3 go) fun r s4 ⟨u, hr, h4⟩ => ?_)
    subst hr
    refine wpAny_passesOwn hp (thn h4 fun _ s5 ⟨x, H5, I5, r5, y5, st5, fr5⟩ => ?_)
    have I5' := I5.pinned (stat fr5) (T.obj _ _ st5)
    refine wpAny_passesOwn hp (thn (hg _ s5 σ3 H5 x u _ I5' r5 (step x H5 y5)) fun _ s6 ⟨σ6, H6, I6, q6⟩ => ?_)
    refine wpAny_passesOwn hp (thn (hb _ s6 σ6 H6 _ I6 q6) fun f s7 q7 => ?_)
    have again : ∀ {σ7 : St} {H7 : Hp}, Inv X (pins ++ pinsAt fp s5.heap) σ7 H7 s7 → N σ7 H7 → ∃ m, m < n ∧ ∃ i σ' H', Inv X pins σ' H' s7 ∧ tn i s7.heap ∧ (∀ b ∈ fp, H' b = none) ∧ W i m σ' H' := fun {σ7 H7} I7 n7 => by
      obtain ⟨m', hm, w7⟩ := hN σ7 H7 n7
      refine ⟨m', hm, i + 1, σ7, H7, I7.unpinned, T.keep _ _ _ st5 fun b hb o e => (I7.pin (b, o) (List.mem_append_right _ (List.mem_append_right _ (mem_pinsAt hb e)))).1, fun b hb => ?_, w7⟩
      obtain ⟨o, e, d⟩ := T.obj _ _ st5 b hb
      exact (I7.pin (b, o) (List.mem_append_right _ (List.mem_append_right _ (mem_pinsAt hb e)))).2.1
    cases f with
    | next => obtain ⟨σ7, H7, I7, n7⟩ := q7; exact again I7 n7
    | cont => obtain ⟨σ7, H7, I7, n7⟩ := q7; exact again I7 n7
    | brk => obtain ⟨σ7, H7, I7, q7⟩ := q7; exact ⟨σ7, H7, I7.unpinned, q7⟩
    | ret v => obtain ⟨x7, σ7, H7, I7, r7, q7⟩ := q7; exact ⟨x7, σ7, H7, I7.unpinned, r7, q7⟩
end

/-! ### the forms one uses -/
/-- over a list that the body leaves as it is -/
theorem for_list {K : PySem.W.Frag} {a : Addr} {xs : List V} {g : TG} {tb : TS} {D : Ends} {σ : St} {H : Hp} (Pv : Nat → St → Hp → Prop) (h0 : Pv 0 σ H) (hl : ∀ i σ H, i ≤ xs.length → Pv i σ H → SqL K H a xs)
    (hs : ∀ i x σ H, xs[i]? = some x → Pv i σ H → g x σ H fun σ2 H2 => tb { D with nx := Pv (i + 1), ct := Pv (i + 1), bk := D.nx } σ2 H2) (hd : ∀ σ H, Pv xs.length σ H → D.nx σ H) :
    ∃ W : Nat → Nat → St → Hp → Prop, (∃ m, W 0 m σ H) ∧ ∀ i m σ H, W i m σ H →
      ((Itl K a).stop i H ∧ D.nx σ H) ∨ ((Itl K a).go i H ∧ ∃ N : St → Hp → Prop, (∀ σ' H', N σ' H' → ∃ m', m' < m ∧ W (i + 1) m' σ' H') ∧ ∀ x H', (Itl K a).yld i H x H' → g x σ H' fun σ2 H2 => tb { D with nx := N, ct := N, bk := D.nx } σ2 H2) := by
  refine ⟨fun i m σ H => m = xs.length - i ∧ i ≤ xs.length ∧ Pv i σ H, ⟨xs.length, by simp, Nat.zero_le _, h0⟩, ?_⟩
  rintro i m σ H ⟨rfl, hi, p⟩
  have q := hl i σ H hi p
  by_cases hlt : i < xs.length
  · refine .inr ⟨⟨xs, xs[i], q, by simp [hlt]⟩, Pv (i + 1), fun σ' H' p' => ⟨xs.length - (i + 1), by omega, rfl, hlt, p'⟩, fun x H' y => ?_⟩
    obtain ⟨e, y⟩ := y
    subst e
    exact hs i x σ _ (y xs q) p
  · have e : i = xs.length := by omega
    subst e
    exact .inl ⟨⟨xs, q, Nat.le_refl _⟩, hd σ H p⟩
theorem for_tup {K : PySem.W.Frag} {a : Addr} {xs : List V} {g : TG} {tb : TS} {D : Ends} {σ : St} {H : Hp} (Pv : Nat → St → Hp → Prop) (h0 : Pv 0 σ H) (hl : ∀ i σ H, i ≤ xs.length → Pv i σ H → SqT K H a xs)
    (hs : ∀ i x σ H, xs[i]? = some x → Pv i σ H → g x σ H fun σ2 H2 => tb { D with nx := Pv (i + 1), ct := Pv (i + 1), bk := D.nx } σ2 H2) (hd : ∀ σ H, Pv xs.length σ H → D.nx σ H) :
    ∃ W : Nat → Nat → St → Hp → Prop, (∃ m, W 0 m σ H) ∧ ∀ i m σ H, W i m σ H →
      ((Itt K a).stop i H ∧ D.nx σ H) ∨ ((Itt K a).go i H ∧ ∃ N : St → Hp → Prop, (∀ σ' H', N σ' H' → ∃ m', m' < m ∧ W (i + 1) m' σ' H') ∧ ∀ x H', (Itt K a).yld i H x H' → g x σ H' fun σ2 H2 => tb { D with nx := N, ct := N, bk := D.nx } σ2 H2) := by
  refine ⟨fun i m σ H => m = xs.length - i ∧ i ≤ xs.length ∧ Pv i σ H, ⟨xs.length, by simp, Nat.zero_le _, h0⟩, ?_⟩
  rintro i m σ H ⟨rfl, hi, p⟩
  have q := hl i σ H hi p
  by_cases hlt : i < xs.length
  · refine .inr ⟨⟨xs, xs[i], q, by simp [hlt]⟩, Pv (i + 1), fun σ' H' p' => ⟨xs.length - (i + 1), by omega, rfl, hlt, p'⟩, fun x H' y => ?_⟩
    obtain ⟨e, y⟩ := y
    subst e
    exact hs i x σ _ (y xs q) p
  · have e : i = xs.length := by omega
    subst e
    exact .inl ⟨⟨xs, q, Nat.le_refl _⟩, hd σ H p⟩
theorem for_range {lo : Int} {n : Nat} {g : TG} {tb : TS} {D : Ends} {σ : St} {H : Hp} (Pv : Nat → St → Hp → Prop) (h0 : Pv 0 σ H)
    (hs : ∀ i σ H, i < n → Pv i σ H → g (.int (lo + i)) σ H fun σ2 H2 => tb { D with nx := Pv (i + 1), ct := Pv (i + 1), bk := D.nx } σ2 H2) (hd : ∀ σ H, Pv n σ H → D.nx σ H) :
    ∃ W : Nat → Nat → St → Hp → Prop, (∃ m, W 0 m σ H) ∧ ∀ i m σ H, W i m σ H →
      ((Itr lo n).stop i H ∧ D.nx σ H) ∨ ((Itr lo n).go i H ∧ ∃ N : St → Hp → Prop, (∀ σ' H', N σ' H' → ∃ m', m' < m ∧ W (i + 1) m' σ' H') ∧ ∀ x H', (Itr lo n).yld i H x H' → g x σ H' fun σ2 H2 => tb { D with nx := N, ct := N, bk := D.nx } σ2 H2) := by
  refine ⟨fun i m σ H => m = n - i ∧ i ≤ n ∧ Pv i σ H, ⟨n, by simp, Nat.zero_le _, h0⟩, ?_⟩
  rintro i m σ H ⟨rfl, hi, p⟩
  by_cases hlt : i < n
  · refine .inr ⟨hlt, Pv (i + 1), fun σ' H' p' => ⟨n - (i + 1), by omega, rfl, hlt, p'⟩, fun x H' y => ?_⟩
    obtain ⟨e, y⟩ := y
    subst e y
    exact hs i σ _ hlt p
  · have e : i = n := by omega
    subst e
    exact .inl ⟨Nat.le_refl _, hd σ H p⟩
end L2

namespace L2
open PySem PySem.Spec PyProof.Rows

abbrev R2 := V → V → Hp → VK → Prop
/-- a two-place operation on values: f is binaryOp op, inplaceOp op or compareOp op -/
def OpR (X : Cx) (f : Value → Value → Sem Value) (r : R2) : Prop :=
  ∀ (pins : List (Addr × Obj)) (s : Shared) (σ : St) (H : Hp) (x y : V) (v u : Value) (Q : VK), Inv X pins σ H s → RelV x v → RelV y u → r x y H Q →
    wpAny (model X.prog X.w) X.A (f v u) (EP X pins σ Q) X.xe s
/-- a one-place operation -/
def UnR (X : Cx) (f : Value → Sem Value) (r : V → Hp → VK → Prop) : Prop :=
  ∀ (pins : List (Addr × Obj)) (s : Shared) (σ : St) (H : Hp) (x : V) (v : Value) (Q : VK), Inv X pins σ H s → RelV x v → r x H Q →
    wpAny (model X.prog X.w) X.A (f v) (EP X pins σ Q) X.xe s
/-- a call of a value that is known (a builtin, a type) with values -/
def CallR (X : Cx) (f : Value) (r : List V → Hp → VK → Prop) : Prop :=
  ∀ (pins : List (Addr × Obj)) (s : Shared) (σ : St) (H : Hp) (xs : List V) (us : List Value) (Q : VK), Inv X pins σ H s → Vals xs us → r xs H Q →
    wpAny (model X.prog X.w) X.A (call f us) (EP X pins σ Q) X.xe s
/-- a value's truth -/
def TruR (X : Cx) (r : V → Hp → (Bool → Hp → Prop) → Prop) : Prop :=
  ∀ (pins : List (Addr × Obj)) (s : Shared) (σ : St) (H : Hp) (x : V) (v : Value) (Q : Bool → Hp → Prop), Inv X pins σ H s → RelV x v → r x H Q →
    wpAny (model X.prog X.w) X.A (truthy v) (TP X pins σ Q) X.xe s

def tOp (r : R2) (ta tb : TE) : TE := fun σ H Q => ta σ H fun x H1 => tb σ H1 fun y H2 => r x y H2 Q
def tUn (r : V → Hp → VK → Prop) (ta : TE) : TE := fun σ H Q => ta σ H fun x H1 => r x H1 Q
/-- ints in, under C, and a value out -/
def rI (C : Int → Int → Prop) (g : Int → Int → V) : R2 := fun x y H Q => ∃ i j, x = .int i ∧ y = .int j ∧ C i j ∧ Q (g i j) H
def rI0 (g : Int → Int → V) : R2 := fun x y H Q => ∃ i j, x = .int i ∧ y = .int j ∧ Q (g i j) H
def rU (g : Int → V) : V → Hp → VK → Prop := fun x H Q => ∃ i, x = .int i ∧ Q (g i) H

section
variable {X : Cx} {a b c : Expr} {ta tb tc : TE} {pos : Pos}

theorem binT (ha : PE X a ta) (hb : PE X b tb) {pins : List (Addr × Obj)} {s : Shared} {σ : St} {H : Hp} {R : V → V → Hp → Prop} (I : Inv X pins σ H s)
    (h : ta σ H fun x H1 => tb σ H1 fun y H2 => R x y H2) {Q : Value → Shared → Prop} {f : Value → Value → Sem Value}
    (hf : ∀ v u s2 x y H2, Inv X pins σ H2 s2 → RelV x v → RelV y u → R x y H2 → wpAny (model X.prog X.w) X.A (f v u) Q X.xe s2) :
    wpAny (model X.prog X.w) X.A (eval a X.env) (fun v s₁ => wpAny (model X.prog X.w) X.A (eval b X.env) (fun u s₂ => wpAny (model X.prog X.w) X.A (f v u) Q X.xe s₂) X.xe s₁) X.xe s := by
  refine thn (ha pins s σ H _ I h) fun v s1 ⟨x, H1, I1, r1, q1⟩ => ?_
  refine thn (hb pins s1 σ H1 _ I1 q1) fun u s2 ⟨y, H2, I2, r2, q2⟩ => ?_
  exact hf v u s2 x y H2 I2 r1 r2 q2

theorem pe_op {op : Operator} {r : R2} (ho : OpR X (binaryOp op) r) (ha : PE X a ta) (hb : PE X b tb) : PE X (.BinOp a op b pos) (tOp r ta tb) := by
  intro pins s σ H Q I h
  exact wpAny_BinOp (binT ha hb I h fun v u s2 x y H2 I2 rx ry q => ho pins s2 σ H2 x y v u Q I2 rx ry q)
theorem pe_un {op : UnaryOp} {r : V → Hp → VK → Prop} (ho : UnR X (unaryOp op) r) (ha : PE X a ta) : PE X (.UnaryOp op a pos) (tUn r ta) := by
  intro pins s σ H Q I h
  exact UnaryOp_ (thn (ha pins s σ H _ I h) fun v s1 ⟨x, H1, I1, r1, q1⟩ => ho pins s1 σ H1 x v Q I1 r1 q1)
/-! ### ints -/
theorem opI {f : Value → Value → Sem Value} {C : Int → Int → Prop} {g : Int → Int → Int}
    (rule : ∀ (i j : Int) (t u : Tok) (s : Shared) (Q : Value → Shared → Prop) (E : Value → Shared → Prop), C i j → Q (.int (g i j) s.toks) { s with toks := s.toks + 1 } → wpAny (model X.prog X.w) X.A (f (.int i t) (.int j u)) Q E s) :
    OpR X f (rI C fun i j => .int (g i j)) := by
  intro pins s σ H x y v u Q I rx ry h
  obtain ⟨i, j, rfl, rfl, hc, q⟩ := h
  obtain ⟨t, rfl⟩ := rx
  obtain ⟨t', rfl⟩ := ry
  exact rule i j t t' s _ _ hc ⟨.int (g i j), H, I.tok _, ⟨_, rfl⟩, q⟩
theorem opI0 {f : Value → Value → Sem Value} {g : Int → Int → Int}
    (rule : ∀ (i j : Int) (t u : Tok) (s : Shared) (Q : Value → Shared → Prop) (E : Value → Shared → Prop), Q (.int (g i j) s.toks) { s with toks := s.toks + 1 } → wpAny (model X.prog X.w) X.A (f (.int i t) (.int j u)) Q E s) :
    OpR X f (rI0 fun i j => .int (g i j)) := by
  intro pins s σ H x y v u Q I rx ry h
  obtain ⟨i, j, rfl, rfl, q⟩ := h
  obtain ⟨t, rfl⟩ := rx
  obtain ⟨t', rfl⟩ := ry
  exact rule i j t t' s _ _ ⟨.int (g i j), H, I.tok _, ⟨_, rfl⟩, q⟩
theorem opB0 {f : Value → Value → Sem Value} {g : Int → Int → Bool}
    (rule : ∀ (i j : Int) (t u : Tok) (s : Shared) (Q : Value → Shared → Prop) (E : Value → Shared → Prop), Q (.bool (g i j)) s → wpAny (model X.prog X.w) X.A (f (.int i t) (.int j u)) Q E s) :
    OpR X f (rI0 fun i j => .bl (g i j)) := by
  intro pins s σ H x y v u Q I rx ry h
  obtain ⟨i, j, rfl, rfl, q⟩ := h
  obtain ⟨t, rfl⟩ := rx
  obtain ⟨t', rfl⟩ := ry
  exact rule i j t t' s _ _ ⟨.bl (g i j), H, I, rfl, q⟩

def CDiv (i j : Int) : Prop := 0 < j ∧ j < 1073741824
def CMul (i j : Int) : Prop := (-(2 ^ 64) < i ∧ i < 2 ^ 64) ∨ (-(2 ^ 64) < j ∧ j < 2 ^ 64)
theorem CMul.ok {i j : Int} (h : CMul i j) : IntMulOk i j := by
  rcases h with ⟨h1, h2⟩ | ⟨h1, h2⟩
  · exact .of_left (intBits_le_64 h1 h2)
  · exact .of_right (intBits_le_64 h1 h2)
theorem two_pow_nn (k : Nat) : (0 : Int) ≤ 2 ^ k := by
  rw [two_pow_cast]
  exact Int.natCast_nonneg _

theorem op_add : OpR X (binaryOp .Add) (rI0 fun i j => .int (i + j)) := opI0 fun _ _ _ _ _ _ _ q => add_int q
theorem op_sub : OpR X (binaryOp .Sub) (rI0 fun i j => .int (i - j)) := opI0 fun _ _ _ _ _ _ _ q => sub_int q
theorem op_mul : OpR X (binaryOp .Mult) (rI CMul fun i j => .int (i * j)) := opI fun _ _ _ _ _ _ _ hc q => mul_int q hc.ok
/-- // by a positive divisor -/
theorem op_fdiv : OpR X (binaryOp .FloorDiv) (rI CDiv fun i j => .int (i / j)) := opI fun i j _ _ _ _ _ hc q => by
  have h1 : (0 : Int) < j := hc.1
  have h2 : j < 1073741824 := hc.2
  exact floordiv_int (by omega) (by rw [Int.fdiv_eq_ediv_of_nonneg i (by omega)]; exact q) (.inl (PyProof.noPylong_small (by omega)))
/-- % by a positive divisor of any size -/
theorem op_mod : OpR X (binaryOp .Mod) (rI (fun _ j => 0 < j) fun i j => .int (i % j)) := opI fun i j _ _ _ _ _ hc q => by
  have h1 : (0 : Int) < j := hc
  exact mod_int' (by omega) (by rw [Int.fmod_eq_emod_of_nonneg i (by omega)]; exact q)
theorem op_shr : OpR X (binaryOp .RShift) (rI (fun _ j => 0 ≤ j) fun i j => .int (i / 2 ^ j.toNat)) := opI fun i j _ _ _ _ _ hc q =>
  rshift_int hc (by rw [Int.fdiv_eq_ediv_of_nonneg i (two_pow_nn _)]; exact q)
theorem iop_sub : OpR X (inplaceOp .Sub) (rI0 fun i j => .int (i - j)) := opI0 fun _ _ _ _ _ _ _ q => isub_int q
theorem unI {f : Value → Sem Value} {g : Int → Int}
    (rule : ∀ (i : Int) (t : Tok) (s : Shared) (Q : Value → Shared → Prop) (E : Value → Shared → Prop), Q (.int (g i) s.toks) { s with toks := s.toks + 1 } → wpAny (model X.prog X.w) X.A (f (.int i t)) Q E s) :
    UnR X f (rU fun i => .int (g i)) := by
  intro pins s σ H x v Q I rx h
  obtain ⟨i, rfl, q⟩ := h
  obtain ⟨t, rfl⟩ := rx
  exact rule i t s _ _ ⟨.int (g i), H, I.tok _, ⟨_, rfl⟩, q⟩
theorem un_neg : UnR X (unaryOp .USub) (rU fun i => .int (-i)) := unI fun _ _ _ _ _ q => neg_int q
/-! ### bools among ints: n += (a < b) -/
end

/-! ### comparisons -/
/-- the scalars that == tells apart as data does -/
def scal : V → V → Bool
  | .non, .non => true | .non, .int _ => true | .int _, .non => true | .non, .bl _ => true | .bl _, .non => true | .non, .str _ => true | .str _, .non => true
  | .int _, .int _ => true | .bl _, .bl _ => true | .str _, .str _ => true | .byt _, .byt _ => true
  | .int _, .str _ => true | .str _, .int _ => true | .bl _, .str _ => true | .str _, .bl _ => true
  | _, _ => false
def rEq : R2 := fun x y H Q => scal x y = true ∧ Q (.bl (decide (x = y))) H
def rNe : R2 := fun x y H Q => scal x y = true ∧ Q (.bl (!decide (x = y))) H

theorem dec_int {i j : Int} : decide (V.int i = V.int j) = (i == j) := by
  rw [Bool.eq_iff_iff]
  simp
theorem dec_bl {i j : Bool} : decide (V.bl i = V.bl j) = (i == j) := by
  rw [Bool.eq_iff_iff]
  simp
theorem dec_str {i j : Str} : decide (V.str i = V.str j) = (i == j) := by
  rw [Bool.eq_iff_iff]
  simp
theorem dec_byt {i j : Array UInt8} : decide (V.byt i = V.byt j) = (i.toList == j.toList) := by
  rw [Bool.eq_iff_iff]
  cases i
  cases j
  simp

section
variable {X : Cx} {a b c : Expr} {ta tb tc : TE} {pos : Pos}
theorem fin_bl {pins : List (Addr × Obj)} {σ : St} {H : Hp} {s : Shared} {Q : VK} {k k' : Bool} (I : Inv X pins σ H s) (q : Q (.bl k) H) (e : k = k') : EP X pins σ Q (.bool k') s := by
  subst e
  exact ⟨.bl k, H, I, rfl, q⟩
theorem op_eq : OpR X (compareOp .Eq) rEq := by
  intro pins s σ H x y v u Q I rx ry h
  obtain ⟨hs, q⟩ := h
  cases x with
  | non =>
    cases rx
    cases y with
    | non => cases ry; exact PySem.EqNone.eq_none_none (fin_bl I q (by simp))
    | bl j => cases ry; exact PySem.EqNone.eq_none_bool (fin_bl I q (by simp))
    | int j => obtain ⟨t', rfl⟩ := ry; exact PySem.EqNone.eq_none_int (fin_bl I q (by simp))
    | str j => obtain ⟨t', rfl⟩ := ry; exact PySem.EqNone.eq_none_str (fin_bl I q (by simp))
    | _ => exact absurd (show false = true from hs) Bool.false_ne_true
  | bl i =>
    cases rx
    cases y with
    | non => cases ry; exact PySem.EqNone.eq_bool_none (fin_bl I q (by simp))
    | bl j => cases ry; exact eq_bool (fin_bl I q dec_bl)
    | str j => obtain ⟨t', rfl⟩ := ry; exact PySem.EqMixed.eq_bool_str (fin_bl I q (by simp))
    | _ => exact absurd (show false = true from hs) Bool.false_ne_true
  | int i =>
    obtain ⟨t, rfl⟩ := rx
    cases y with
    | non => cases ry; exact PySem.EqNone.eq_int_none (fin_bl I q (by simp))
    | int j => obtain ⟨t', rfl⟩ := ry; exact eq_int (fin_bl I q dec_int)
    | str j => obtain ⟨t', rfl⟩ := ry; exact PySem.EqMixed.eq_int_str (fin_bl I q (by simp))
    | _ => exact absurd (show false = true from hs) Bool.false_ne_true
  | str i =>
    obtain ⟨t, rfl⟩ := rx
    cases y with
    | non => cases ry; exact PySem.EqNone.eq_str_none (fin_bl I q (by simp))
    | bl j => cases ry; exact PySem.EqMixed.eq_str_bool (fin_bl I q (by simp))
    | int j => obtain ⟨t', rfl⟩ := ry; exact PySem.EqMixed.eq_str_int (fin_bl I q (by simp))
    | str j => obtain ⟨t', rfl⟩ := ry; exact eq_str (fin_bl I q dec_str)
    | _ => exact absurd (show false = true from hs) Bool.false_ne_true
  | byt i =>
    obtain ⟨t, rfl⟩ := rx
    cases y with
    | byt j => obtain ⟨t', rfl⟩ := ry; exact PySem.W.eq_bytes (fin_bl I q dec_byt)
    | _ => exact absurd (show false = true from hs) Bool.false_ne_true
  | _ => cases y <;> exact absurd (show false = true from hs) Bool.false_ne_true
theorem op_ne : OpR X (compareOp .NotEq) rNe := by
  intro pins s σ H x y v u Q I rx ry h
  obtain ⟨hs, q⟩ := h
  cases x with
  | non =>
    cases rx
    cases y with
    | non => cases ry; exact PySem.EqNone.ne_none_none (fin_bl I q (by simp))
    | bl j => cases ry; exact PySem.EqNone.ne_none_bool (fin_bl I q (by simp))
    | int j => obtain ⟨t', rfl⟩ := ry; exact PySem.EqNone.ne_none_int (fin_bl I q (by simp))
    | str j => obtain ⟨t', rfl⟩ := ry; exact PySem.EqNone.ne_none_str (fin_bl I q (by simp))
    | _ => exact absurd (show false = true from hs) Bool.false_ne_true
  | bl i =>
    cases rx
    cases y with
    | non => cases ry; exact PySem.EqNone.ne_bool_none (fin_bl I q (by simp))
    | bl j => cases ry; exact ne_bool (fin_bl I q (congrArg not dec_bl))
    | str j => obtain ⟨t', rfl⟩ := ry; exact PySem.EqMixed.ne_bool_str (fin_bl I q (by simp))
    | _ => exact absurd (show false = true from hs) Bool.false_ne_true
  | int i =>
    obtain ⟨t, rfl⟩ := rx
    cases y with
    | non => cases ry; exact PySem.EqNone.ne_int_none (fin_bl I q (by simp))
    | int j => obtain ⟨t', rfl⟩ := ry; exact ne_int (fin_bl I q (congrArg not dec_int))
    | str j => obtain ⟨t', rfl⟩ := ry; exact PySem.EqMixed.ne_int_str (fin_bl I q (by simp))
    | _ => exact absurd (show false = true from hs) Bool.false_ne_true
  | str i =>
    obtain ⟨t, rfl⟩ := rx
    cases y with
    | non => cases ry; exact PySem.EqNone.ne_str_none (fin_bl I q (by simp))
    | bl j => cases ry; exact PySem.EqMixed.ne_str_bool (fin_bl I q (by simp))
    | int j => obtain ⟨t', rfl⟩ := ry; exact PySem.EqMixed.ne_str_int (fin_bl I q (by simp))
    | str j => obtain ⟨t', rfl⟩ := ry; exact ne_str (fin_bl I q (congrArg not dec_str))
    | _ => exact absurd (show false = true from hs) Bool.false_ne_true
  | byt i =>
    obtain ⟨t, rfl⟩ := rx
    cases y with
    | byt j => obtain ⟨t', rfl⟩ := ry; exact PySem.W.ne_bytes (fin_bl I q (congrArg not dec_byt))
    | _ => exact absurd (show false = true from hs) Bool.false_ne_true
  | _ => cases y <;> exact absurd (show false = true from hs) Bool.false_ne_true

theorem op_lt : OpR X (compareOp .Lt) (rI0 fun i j => .bl (decide (i < j))) := opB0 fun _ _ _ _ _ _ _ q => lt_int q
theorem op_le : OpR X (compareOp .LtE) (rI0 fun i j => .bl (decide (i ≤ j))) := opB0 fun _ _ _ _ _ _ _ q => le_int q
theorem op_gt : OpR X (compareOp .Gt) (rI0 fun i j => .bl (decide (j < i))) := opB0 fun _ _ _ _ _ _ _ q => gt_int q
theorem op_ge : OpR X (compareOp .GtE) (rI0 fun i j => .bl (decide (j ≤ i))) := opB0 fun _ _ _ _ _ _ _ q => ge_int q
/-- is None, is not None: the right side a value none -/
theorem op_isN : OpR X (compareOp .Is) (fun x y H Q => y = .non ∧ Q (.bl (decide (x = .non))) H) := by
  intro pins s σ H x y v u Q I rx ry h
  obtain ⟨rfl, q⟩ := h
  cases ry
  refine is_none_gen (fin_bl I q ?_)
  cases x <;> first
    | (cases rx; rfl)
    | (obtain ⟨t, rfl⟩ := rx; rfl)
theorem op_notN : OpR X (compareOp .IsNot) (fun x y H Q => y = .non ∧ Q (.bl (!decide (x = .non))) H) := by
  intro pins s σ H x y v u Q I rx ry h
  obtain ⟨rfl, q⟩ := h
  cases ry
  refine isnot_none_gen (fin_bl I q ?_)
  cases x <;> first
    | (cases rx; rfl)
    | (obtain ⟨t, rfl⟩ := rx; rfl)

/-- two rules for one operation: by cases -/
theorem OpR.or {f : Value → Value → Sem Value} {r r' : R2} (h : OpR X f r) (h' : OpR X f r') : OpR X f (fun x y H Q => r x y H Q ∨ r' x y H Q) := by
  intro pins s σ H x y v u Q I rx ry q
  rcases q with q | q
  · exact h pins s σ H x y v u Q I rx ry q
  · exact h' pins s σ H x y v u Q I rx ry q

theorem nomark (b : Expr) {op : CmpOp} (h : op ≠ .In := by decide) (h2 : op ≠ .NotIn := by decide) : behindInMarks op b = false := by
  have e1 : (op == CmpOp.In) = false := by cases op <;> first | rfl | exact absurd rfl h
  have e2 : (op == CmpOp.NotIn) = false := by cases op <;> first | rfl | exact absurd rfl h2
  cases b <;> simp [behindInMarks, e1, e2]
/-- a comparison as a value; hm: nomark b, or (for in, not in) by with_unfolding_all rfl -/
theorem pe_cmpR {op : CmpOp} {r : R2} (ho : OpR X (compareOp op) r) (ha : PE X a ta) (hb : PE X b tb) (hm : behindInMarks op b = false) : PE X (.Compare a [op] [b] pos) (tOp r ta tb) := by
  intro pins s σ H Q I h
  exact wpAny_Compare1 (binT ha hb I h fun v u s2 x y H2 I2 rx ry q => ho pins s2 σ H2 x y v u Q I2 rx ry q) hm
/-! ### truth -/
/-- a value's truth by the abstract heap -/
def TruV (K : PySem.W.Frag) (x : V) (H : Hp) (k : Bool) : Prop :=
  match x with
  | .non => k = false
  | .bl b => k = b
  | .int i => k = (i != 0)
  | .str y => y.length ≤ sizeLine ∧ k = ((y.length : Int) != 0)
  | .byt y => y.size ≤ sizeLine ∧ k = ((y.size : Int) != 0)
  | .ref p => (∃ xs, SqL K H p xs ∧ k = !xs.isEmpty) ∨ (∃ xs, SqT K H p xs ∧ k = !xs.isEmpty) ∨ ∃ kvs, H p = some (.dK kvs) ∧ k = !kvs.isEmpty
  | _ => False
theorem isEmpty_kv {κ : Type} {kvs : List (κ × V)} {vs : List (κ × Value)} (r : KV kvs vs) : (!vs.isEmpty) = !kvs.isEmpty := by
  cases r <;> rfl
theorem isEmpty_of {xs : List V} {its : List Value} (r : Vals xs its) : (!its.toArray.isEmpty) = !xs.isEmpty := by
  cases r <;> simp
theorem line63 : (sizeLine : Nat) < 2 ^ 63 := by rw [sizeLine_eq]; decide
theorem tru_ok : TruR X (fun x H Q => ∃ k, TruV X.K x H k ∧ Q k H) := by
  intro pins s σ H x v Q I rx h
  obtain ⟨k, e, q⟩ := h
  have hl := line63
  have hs : sizeLine = 16777216 := sizeLine_eq
  cases x with
  | non =>
    cases rx
    have e' : k = false := e
    subst e'
    exact truthy_none ⟨H, I, q⟩
  | bl b =>
    cases rx
    have e' : k = b := e
    subst e'
    exact wpAny_truthy_bool ⟨H, I, q⟩
  | int i =>
    obtain ⟨t, rfl⟩ := rx
    have e' : k = (i != 0) := e
    subst e'
    exact PySem.P.truthy_int ⟨H, I, q⟩
  | str y =>
    obtain ⟨t, rfl⟩ := rx
    obtain ⟨hy, e'⟩ : y.length ≤ sizeLine ∧ k = ((y.length : Int) != 0) := e
    subst e'
    exact PySem.P.truthy_str (by omega) ⟨H, I.tok _, q⟩
  | byt y =>
    obtain ⟨t, rfl⟩ := rx
    obtain ⟨hy, e'⟩ : y.size ≤ sizeLine ∧ k = ((y.size : Int) != 0) := e
    subst e'
    exact PySem.W.truthy_bytes (by omega) ⟨H, I.tok _, q⟩
  | ref p =>
    cases rx
    have e' : (∃ xs, SqL X.K H p xs ∧ k = !xs.isEmpty) ∨ (∃ xs, SqT X.K H p xs ∧ k = !xs.isEmpty) ∨ ∃ kvs, H p = some (.dK kvs) ∧ k = !kvs.isEmpty := e
    rcases e' with ⟨xs, hx, e'⟩ | ⟨xs, hx, e'⟩ | ⟨kvs, hx, e'⟩
    · subst e'
      obtain ⟨its, r, pl, hz⟩ := I.list hx
      have hlen := r.length
      exact wpAny_truthy_list pl.isList (by simp only [List.size_toArray]; omega) ⟨H, I.tok _, by rw [isEmpty_of r]; exact q⟩
    · subst e'
      obtain ⟨its, r, pl, hz⟩ := I.tuple hx
      have hlen := r.length
      exact truthy_tuple pl (by simp only [List.size_toArray]; omega) ⟨H, I.tok _, by rw [isEmpty_of r]; exact q⟩
    · subst e'
      obtain ⟨hz, hS, vs, r, m⟩ : kvs.length ≤ sizeLine ∧ (p == sysModules) = false ∧ ∃ vs, KV kvs vs ∧ s.heap.DictOf (mixKind X.prog X.w) p vs := I.hok p _ hx
      have hlen : kvs.length = vs.length := Paired.length r
      exact wpAny_truthy_dict hS m (by omega) ⟨H, I.tok _, by rw [isEmpty_kv r]; exact q⟩
  | _ => exact (show False from e).elim
/-! ### strs and bytes -/
/-! ### scalar builtins, by CallR -/
theorem vals1 {x : V} {us : List Value} (r : Vals [x] us) : ∃ u, us = [u] ∧ RelV x u := by
  cases r with
  | cons r1 r2 => cases r2; exact ⟨_, rfl, r1⟩
theorem vals2 {x y : V} {us : List Value} (r : Vals [x, y] us) : ∃ u w', us = [u, w'] ∧ RelV x u ∧ RelV y w' := by
  cases r with
  | cons r1 r2 =>
    cases r2 with
    | cons r3 r4 => cases r4; exact ⟨_, _, rfl, r1, r3⟩
theorem call_int1 : CallR X (.type "int") (fun xs H Q => (∃ i, xs = [.int i] ∧ Q (.int i) H) ∨ ∃ k, xs = [.bl k] ∧ Q (.int (if k then 1 else 0)) H) := by
  intro pins s σ H xs us Q I r h
  rcases h with ⟨i, rfl, q⟩ | ⟨k, rfl, q⟩
  · obtain ⟨u, rfl, t, rfl⟩ := vals1 r
    exact call_int_int ⟨.int i, H, I, ⟨_, rfl⟩, q⟩
  · obtain ⟨u, rfl, r1⟩ := vals1 r
    cases r1
    exact call_int_bool ⟨.int (if k then 1 else 0), H, I.tok _, ⟨_, rfl⟩, q⟩
end
end L2

namespace L2
open PySem PySem.Spec PyProof.Rows

/-! ### an instance, its attributes a map -/
structure ObjM (h : Heap) (x dx C : Addr) (mA : Str → Option Value) : Prop where
  obj : h.get? x = some (PySem.W.instObj C dx)
  ns : h.Ns1 dx mA
  ne : dx ≠ x

theorem lookIn_ns {h : Heap} {dx : Addr} {mA : Str → Option Value} (n : h.Ns1 dx mA) : ∃ od, h.get? dx = some od ∧ ∀ name, PySem.W.lookIn name od = some (mA name) := by
  obtain ⟨o, es, ep, ho, hd, hk, _, hm⟩ := n
  refine ⟨o, ho, fun name => ?_⟩
  have e := hm name
  unfold nsFind findBy at e
  rw [← Array.find?_toList] at e
  unfold PySem.W.lookIn
  rw [hd]
  dsimp only
  split
  · rename_i y q
    rw [q] at e
    exact congrArg some e
  · rename_i q
    rw [q] at e
    have a : es.toList.any (·.refKey) = false := by
      rw [List.any_eq_false]
      intro y hy
      obtain ⟨z, t, hkey⟩ := hk y (Array.mem_toList_iff.mp hy)
      simp [DictEntry.refKey, hkey]
    have a' : ¬ es.toList.any (·.refKey) = true := by rw [a]; exact Bool.false_ne_true
    rw [if_neg a']
    exact congrArg some e

theorem ObjM.look {h : Heap} {x dx C : Addr} {mA : Str → Option Value} (I : ObjM h x dx C mA) : ∃ od, PySem.W.InstAt h x (PySem.W.instObj C dx) C (some od) ∧ ∀ name, PySem.W.lookIn name od = some (mA name) :=
  let ⟨od, ho, hl⟩ := lookIn_ns I.ns
  ⟨od, ⟨I.obj, rfl, rfl, ho⟩, hl⟩

section
variable {prog : Program} {w : World} {A : Around} {E : Value → Shared → Prop} {s : Shared} {K : PySem.W.Frag} {x dx C f : Addr} {mA : Str → Option Value} {name : Str} {v : Value}

theorem get_map {expr : Bool} {Q : Value → Shared → Prop} (X : K.In s.heap) (I : ObjM s.heap x dx C mA) (hg : PySem.W.plainGet K C name = true) (hh : PySem.W.hasDictIn K C = true)
    (ha : PySem.W.findIn K (.ref C) name = some none) (hv : mA name = some v) (hv' : PySem.W.handedIn v = true) (h : Q v { s with toks := s.toks + 1 }) :
    wpAny (model prog w) A (getAttr (.ref x) name expr) Q E s := by
  obtain ⟨od, J, hl⟩ := I.look
  exact PySem.W.get_value X J (PySem.W.plainGet_of hg).1 (PySem.W.findObj_own hh ha rfl (by rw [hl, hv])) hv' h

theorem get_meth {pl : Sem Bool} {Q : Value × List Value → Shared → Prop} (X : K.In s.heap) (I : ObjM s.heap x dx C mA) (hg : PySem.W.plainGet K C name = true)
    (hf : PySem.W.findIn K (.ref C) name = some (some (.ref f))) (ht : PySem.W.isFn K (.ref f) = true) (hv : mA name = none) (h : Q (.ref f, [.ref x]) s) :
    wpAny (model prog w) A (getMethod (.ref x) name pl) Q E s := by
  obtain ⟨od, J, hl⟩ := I.look
  exact PySem.W.method_fn X J (PySem.W.plainGet_of hg).1 (PySem.W.plainGet_of hg).2 hf (beq_iff_eq.mp ht) (by show (PySem.W.lookIn name od).map (·.isSome) = some false; rw [hl, hv]; rfl) h

theorem set_map {ns : List Str} {Q : Unit → Shared → Prop} (X : K.In s.heap) (I : ObjM s.heap x dx C mA)
    (hs : PySem.W.findIn K (.ref C) "__setattr__" = some (some (.builtin "object.__setattr__"))) (hp : PySem.W.plainOver K C = true) (ht : PySem.W.takerIn K C name = some none) (hh : PySem.W.hasDictIn K C = true)
    (hw : PySem.Within mA ns) (hsz : ns.length ≤ sizeLine)
    (h : ∀ h', ObjM h' x dx C (fun y => if y = name then some v else mA y) → Heap.SameBut dx s.heap h' → Q () { s with heap := h', toks := s.toks + 2 }) :
    wpAny (model prog w) A (setAttr (.ref x) name v) Q E s := by
  obtain ⟨od, J, hl⟩ := I.look
  refine PySem.W.set_plain X J hs (PySem.W.osa_open (s := { s with toks := s.toks + 1 }) (r := none) X J hp ht fun b => ?_)
  obtain ⟨cd, hc, hd'⟩ := PySem.W.any_some hh
  have hx : s.heap.get? x = some ⟨.ref C, some dx, .plain, #[]⟩ := I.obj
  refine wpAny_bind (wpAny_pure (wpAny_bind (wpAny_bind (wpAny_loadPart hx (wpAny_bind (PySem.W.Looks.here (s := { s with toks := s.toks + 1 }) (PySem.W.looks_clsIn X hc) ?_))))))
  rw [hd']
  refine wpAny_pure (a := some dx) (wpAny_bind (wpAny_pure (wpAny_bind ?_)))
  refine wpAny_nsSet1 (s := { s with toks := s.toks + 1 }) I.ns fun h' hn2 hs2 => ?_
  obtain ⟨oD, esD, epD, hoD, hdD, hcD⟩ := hn2.count (PySem.Within.cons name v hw)
  refine wpAny_bind (wpAny_lookBehind hoD (by rw [hdD]; exact pastItsLine_dict (Nat.le_trans hcD (by rw [List.length_cons]; omega))) ?_)
  exact wpAny_pure (h _ ⟨(hs2.2 _ (Ne.symm I.ne)).trans I.obj, hn2, I.ne⟩ hs2)

/-- C(..): the dict at the heap's end, the instance behind it; then its __init__ -/
theorem make_map {R : Result → Shared → Prop} {vs : List Value} {kw : List (Str × Value)} (X : K.In s.heap) (hm : PySem.W.makesIn K C = true)
    (hi : PySem.W.findIn K (.ref C) "__init__" = some (some (.ref f))) (hf : PySem.W.typeIn K (.ref f) = some (.type "function"))
    (h : codeAny (model prog w) (A.under (.builtin "type.__call__" ⟨.ref C :: vs, kw⟩)) (.call (.ref f) ⟨.ref (s.heap.objs.size + 1) :: vs, kw⟩) (PySem.W.InitBack (s.heap.objs.size + 1) R)
      { s with heap := (s.heap.push PySem.W.emptyDict).push (PySem.W.instObj C s.heap.objs.size) }) :
    codeAny (model prog w) A (.call (.ref C) ⟨vs, kw⟩) R s := by
  obtain ⟨hh, g, d, t, os⟩ := s
  exact PySem.W.make_core (PySem.W.makes_of X hm) (PySem.W.looks_findIn X hi) (fun self => PySem.W.bind_fn X self hf) (.inl rfl) h
end

/-! ### the attributes as a list of pairs -/
def putF (f : Str) (v : V) : List (Str × V) → List (Str × V)
  | [] => [(f, v)]
  | (g, x) :: r => if g = f then (g, v) :: r else (g, x) :: putF f v r
theorem lookup_putF (f g : Str) (v : V) : ∀ fs : List (Str × V), (putF f v fs).lookup g = if g = f then some v else fs.lookup g
  | [] => by
    show List.lookup g [(f, v)] = _
    by_cases h : g = f
    · have hb : (g == f) = true := beq_iff_eq.mpr h
      simp only [List.lookup, hb, if_pos h]
    · have hb : (g == f) = false := beq_eq_false_iff_ne.mpr h
      simp only [List.lookup, hb, if_neg h]
  | (k, x) :: r => by
    have ih := lookup_putF f g v r
    rw [show putF f v ((k, x) :: r) = (if k = f then (k, v) :: r else (k, x) :: putF f v r) from rfl]
    by_cases hk : k = f
    · rw [if_pos hk]
      by_cases h : g = k
      · have hb : (g == k) = true := beq_iff_eq.mpr h
        simp only [List.lookup, hb, if_pos (h.trans hk)]
      · have hb : (g == k) = false := beq_eq_false_iff_ne.mpr h
        simp only [List.lookup, hb, if_neg (fun e : g = f => h (e.trans hk.symm))]
    · rw [if_neg hk]
      by_cases h : g = k
      · have hb : (g == k) = true := beq_iff_eq.mpr h
        simp only [List.lookup, hb, if_neg (fun e : g = f => hk (h.symm.trans e))]
      · have hb : (g == k) = false := beq_eq_false_iff_ne.mpr h
        simp only [List.lookup, hb]
        exact ih
theorem keys_putF (f : Str) (v : V) : ∀ fs : List (Str × V), f ∈ (putF f v fs).map (·.1) ∧ ∀ g, g ∈ fs.map (·.1) → g ∈ (putF f v fs).map (·.1)
  | [] => ⟨by simp [putF], fun g h => by simp at h⟩
  | (k, x) :: r => by
    obtain ⟨i1, i2⟩ := keys_putF f v r
    rw [show putF f v ((k, x) :: r) = (if k = f then (k, v) :: r else (k, x) :: putF f v r) from rfl]
    by_cases hk : k = f
    · rw [if_pos hk]
      subst hk
      exact ⟨by simp, fun g h => by simpa using h⟩
    · rw [if_neg hk]
      refine ⟨?_, fun g h => ?_⟩
      · rw [List.map_cons]
        exact List.mem_cons_of_mem _ i1
      · rw [List.map_cons] at h ⊢
        rcases List.mem_cons.mp h with e | e
        · exact List.mem_cons.mpr (.inl e)
        · exact List.mem_cons_of_mem _ (i2 g e)
theorem length_putF (f : Str) (v : V) : ∀ fs : List (Str × V), (putF f v fs).length ≤ fs.length + 1
  | [] => by simp [putF]
  | (k, x) :: r => by
    have ih := length_putF f v r
    rw [show putF f v ((k, x) :: r) = (if k = f then (k, v) :: r else (k, x) :: putF f v r) from rfl]
    by_cases hk : k = f
    · rw [if_pos hk, List.length_cons, List.length_cons]; omega
    · rw [if_neg hk, List.length_cons, List.length_cons]; omega

theorem RelO.some_of {v : V} {o : Option Value} (r : RelO (some v) o) : ∃ u, o = some u ∧ RelV v u := by
  cases o with
  | none => exact (show False from r).elim
  | some u => exact ⟨u, rfl, r⟩
theorem RelO.none_of {o : Option Value} (r : RelO none o) : o = none := by
  cases o with
  | none => rfl
  | some u => exact (show False from r).elim
theorem handed_of {v : V} {u : Value} (r : RelV v u) : PySem.W.handedIn u = true := by
  cases v with
  | non => cases (show u = Value.none from r); rfl
  | bl b => cases (show u = Value.bool b from r); rfl
  | int i => obtain ⟨t, e⟩ := (show ∃ t, u = Value.int i t from r); cases e; rfl
  | str x => obtain ⟨t, e⟩ := (show ∃ t, u = Value.str x t from r); cases e; rfl
  | byt b => obtain ⟨t, e⟩ := (show ∃ t, u = Value.bytes b t from r); cases e; rfl
  | flt b => obtain ⟨t, e⟩ := (show ∃ t, u = Value.float b t from r); cases e; rfl
  | ref a => cases (show u = Value.ref a from r); rfl
  | ty n => cases (show u = Value.type n from r); rfl

section
variable {P : Program} {w : World} {H H' : Hp} {h h' : Heap} {a C dx : Addr} {fs fs' : List (Str × V)}
theorem ins_get (hok : HOk P w H h) (e : H a = some (.ins C dx fs)) : ∃ mA, ObjM h a dx C mA ∧ (∀ f, RelO (fs.lookup f) (mA f)) ∧ PySem.Within mA (fs.map (·.1)) ∧ fs.length ≤ 1000 ∧ H dx = some (.own a) := by
  obtain ⟨d, z, ne, ob, mA, n, r, q⟩ := (show ObjOk P w H h a (.ins C dx fs) from hok a _ e)
  exact ⟨mA, ⟨ob, n, ne⟩, r, q, z, d⟩
end

/-! ### what of the text a class must have -/
structure Cls (K : PySem.W.Frag) (C : Addr) : Prop where
  pg : PySem.W.plainGet K C Str.empty = true
  hd : PySem.W.hasDictIn K C = true
  po : PySem.W.plainOver K C = true
  sa : PySem.W.findIn K (.ref C) "__setattr__" = some (some (.builtin "object.__setattr__"))
theorem Cls.get {K : PySem.W.Frag} {C : Addr} (c : Cls K C) (f : Str) : PySem.W.plainGet K C f = true := c.pg
/-- no class of it has the name -/
def NoAttr (K : PySem.W.Frag) (C : Addr) (f : Str) : Prop := PySem.W.findIn K (.ref C) f = some none
theorem NoAttr.taker {K : PySem.W.Frag} {C : Addr} {f : Str} (n : NoAttr K C f) : PySem.W.takerIn K C f = some none := by
  unfold PySem.W.takerIn
  rw [show PySem.W.findIn K (.ref C) f = some none from n]
  rfl
/-- a constant of the class -/
structure Con (K : PySem.W.Frag) (C : Addr) (f : Str) (v : V) (u : Value) : Prop where
  at_ : PySem.W.findIn K (.ref C) f = some (some u)
  rel : RelV v u
  get : PySem.W.specialIn K u "__get__" = some none
  cp : PySem.W.copiedNames.contains f = false
/-- a method: a plain def of the class or of one above it -/
structure Meth (K : PySem.W.Frag) (C : Addr) (m : Str) (f : Addr) : Prop where
  at_ : PySem.W.findIn K (.ref C) m = some (some (.ref f))
  fn : PySem.W.isFn K (.ref f) = true
  kp : PySem.W.keepIn K (.ref f) = true

section
variable {X : Cx} {pins : List (Addr × Obj)} {σ : St} {H : Hp} {s : Shared} {a C dx : Addr} {fs : List (Str × V)} {f : Str} {v : V} {A : Around} {E : Value → Shared → Prop}

theorem getattr_ok {b : Bool} {Q : Value → Shared → Prop} (I : Inv X pins σ H s) (e : H a = some (.ins C dx fs)) (c : Cls X.K C) (n : NoAttr X.K C f) (l : fs.lookup f = some v)
    (h : ∀ u s', Inv X pins σ H s' → RelV v u → Q u s') : wpAny (model X.prog X.w) A (getAttr (.ref a) f b) Q E s := by
  obtain ⟨mA, O, r, _, _, _⟩ := ins_get I.hok e
  obtain ⟨u, hu, ru⟩ := RelO.some_of (v := v) (o := mA f) (by rw [← l]; exact r f)
  exact get_map I.kIn O (c.get f) c.hd n hu (handed_of ru) (h u _ (I.tok _) ru)

theorem getmeth_ok {m : Str} {g : Addr} {pl : Sem Bool} {Q : Value × List Value → Shared → Prop} (I : Inv X pins σ H s) (e : H a = some (.ins C dx fs)) (c : Cls X.K C) (k : Meth X.K C m g) (l : fs.lookup m = none)
    (h : Q (.ref g, [.ref a]) s) : wpAny (model X.prog X.w) A (getMethod (.ref a) m pl) Q E s := by
  obtain ⟨mA, O, r, _, _, _⟩ := ins_get I.hok e
  have hn : mA m = none := RelO.none_of (by rw [← l]; exact r m)
  exact get_meth I.kIn O (c.get m) k.at_ k.fn hn h

theorem setattr_ok {y : V} {u : Value} {Q : Unit → Shared → Prop} (I : Inv X pins σ H s) (e : H a = some (.ins C dx fs)) (c : Cls X.K C) (n : NoAttr X.K C f) (hl : fs.length < 1000) (ry : RelV y u)
    (h : ∀ s', Inv X pins σ (upd H a (.ins C dx (putF f y fs))) s' → Q () s') : wpAny (model X.prog X.w) A (setAttr (.ref a) f u) Q E s := by
  obtain ⟨mA, O, r, wi, _, ho⟩ := ins_get I.hok e
  have hz : (fs.map (·.1)).length ≤ sizeLine := by rw [List.length_map, sizeLine_eq]; omega
  refine set_map I.kIn O c.sa c.po n.taker c.hd wi hz fun h' O' sb => h _ ?_
  have hd : ∃ o, h'.get? dx = some o := let ⟨o, _, _, e', _⟩ := O'.ns; ⟨o, e'⟩
  refine I.write (x := a) (e := dx) (by rw [e]; exact True.intro) (.inr ho) (fun b q hb z => (sb.2 b hb).trans z) hd ?_
  refine ⟨by rw [upd_ne O.ne]; exact ho, ?_, O.ne, O'.obj, _, O'.ns, fun g => ?_, fun g hg => ?_⟩
  · have := length_putF f y fs; omega
  · show RelO ((putF f y fs).lookup g) (if g = f then some u else mA g)
    rw [lookup_putF]
    by_cases q : g = f
    · rw [if_pos q, if_pos q]; exact ry
    · rw [if_neg q, if_neg q]; exact r g
  · by_cases q : g = f
    · rw [q]; exact (keys_putF f y fs).1
    · refine (keys_putF f y fs).2 g (wi g fun z => hg ?_)
      show (if g = f then some u else mA g) = none
      rw [if_neg q]; exact z

/-- a new instance, tracked, without attributes -/
theorem Inv.made (I : Inv X pins σ H s) : Inv X pins σ (upd (upd H s.heap.objs.size (.own (s.heap.objs.size + 1))) (s.heap.objs.size + 1) (.ins C s.heap.objs.size []))
    { s with heap := (s.heap.push PySem.W.emptyDict).push (PySem.W.instObj C s.heap.objs.size) } := by
  have e1 : (s.heap.push PySem.W.emptyDict).get? s.heap.objs.size = some PySem.W.emptyDict := Heap.get?_push_size s.heap rfl
  have e2 : ((s.heap.push PySem.W.emptyDict).push (PySem.W.instObj C s.heap.objs.size)).get? (s.heap.objs.size + 1) = some (PySem.W.instObj C s.heap.objs.size) := by
    have := Heap.get?_push_size (s.heap.push PySem.W.emptyDict) (o := PySem.W.instObj C s.heap.objs.size) rfl
    rwa [Heap.size_push] at this
  have e3 : (s.heap.push PySem.W.emptyDict).Ns s.heap.objs.size (fun _ => none) := ⟨PySem.W.emptyDict, #[], _, e1, rfl, (fun e he => absurd he (by simp)), fun _ => rfl⟩
  have I1 := I.laid (a := s.heap.objs.size) (o := .own (s.heap.objs.size + 1)) (h' := s.heap.push PySem.W.emptyDict) (t' := s.toks) (fun b u q => Heap.get?_push_of_some _ q) (Nat.le_refl _) ⟨_, e1⟩
  refine I1.laid (a := s.heap.objs.size + 1) (o := .ins C s.heap.objs.size []) (t' := s.toks) (fun b u q => Heap.get?_push_of_some _ q) (Nat.le_of_eq (Heap.size_push _ _)) ?_
  have ne : s.heap.objs.size ≠ s.heap.objs.size + 1 := Nat.ne_of_lt (Nat.lt_succ_self _)
  refine ⟨by rw [upd_ne ne, upd_same], Nat.zero_le _, ne, e2, fun _ => none, (Heap.Ns1.of_empty e3).at fun o q => Heap.get?_push_of_some _ q, fun _ => True.intro, fun y hy => absurd rfl hy⟩

/-- e.f where nothing but the object is asked: through attributeBase (super) and the last hold -/
theorem attr_of {prog : Program} {w : World} {env : Env} {e : Expr} {f : Str} {pos : Pos} {s : Shared} {Q : Value → Shared → Prop} (hb : attributeBase e f env (eval e env) = eval e env)
    (h : wpAny (model prog w) A (eval e env) (fun o s₁ => wpAny (model prog w) A (getAttr o f true) Q E s₁) E s) : wpAny (model prog w) A (eval (.Attribute e f pos) env) Q E s :=
  Attribute_any_ h (by rw [arm_eval_Attribute, hb])
end

/-! ### readings and rules -/
/-- e.f, an attribute of the instance -/
def tFld (K : PySem.W.Frag) (ta : TE) (f : Str) : TE := fun σ H Q => ta σ H fun x H1 => ∃ a C dx fs v, x = .ref a ∧ H1 a = some (.ins C dx fs) ∧ Cls K C ∧ NoAttr K C f ∧ fs.lookup f = some v ∧ Q v H1
/-- e.f = value -/
def sFld (K : PySem.W.Frag) (ta tv : TE) (f : Str) : TS := fun D σ H => tv σ H fun y H1 => ta σ H1 fun x H2 => ∃ a C dx fs, x = .ref a ∧ H2 a = some (.ins C dx fs) ∧ Cls K C ∧ NoAttr K C f ∧ fs.length < 1000 ∧
  D.nx σ (upd H2 a (.ins C dx (putF f y fs)))
section
variable {X : Cx} {o e value : Expr} {f : Str} {pos pos' tpos : Pos} {ta tv : TE}
theorem pe_fld (he : PE X e ta) (hb : attributeBase e f X.env (eval e X.env) = eval e X.env) : PE X (.Attribute e f pos) (tFld X.K ta f) := by
  intro pins s σ H Q I h
  refine attr_of hb (thn (he pins s σ H _ I h) fun u s1 ⟨x, H1, I1, rx, a, C, dx, fs, v, ex, ea, c, n, l, q⟩ => ?_)
  subst ex
  obtain rfl : u = Value.ref a := rx
  exact getattr_ok I1 ea c n l fun u' s2 I2 ru => ⟨v, H1, I2, ru, q⟩
theorem ps_fld (ha : PE X o ta) (hv : PE X value tv) (hs : swapsWith value (some (.Attribute o f pos')) pos.line X.env = pure false) : PS X (.Assign [.Attribute o f pos'] value pos) (sFld X.K ta tv f) := by
  intro pins s σ H D I h
  refine plainObj_wpAny_Assign_Attribute (thn (hv pins s σ H _ I h) fun u s1 ⟨y, H1, I1, ry, q⟩ => thn (ha pins s1 σ H1 _ I1 q) fun ov s2 ⟨x, H2, I2, rx, a, C, dx, fs, ex, ea, c, n, l, q2⟩ => ?_) hs
  subst ex
  obtain rfl : ov = Value.ref a := rx
  exact setattr_ok I2 ea c n l ry fun s3 I3 => ⟨σ, _, I3, q2⟩
end

/-! ### isinstance -/
section
variable {X : Cx} {pins : List (Addr × Obj)} {σ : St} {H : Hp} {s : Shared} {A : Around} {E : Value → Shared → Prop} {Q : Value → Shared → Prop} {c : Value} {b : Bool}
/-- the type of a value, as the fragment's deciders take it; for an instance its class -/
inductive TyOf (K : PySem.W.Frag) (H : Hp) : V → Value → Prop where
  | non : TyOf K H .non (.type "NoneType")
  | bl (x : Bool) : TyOf K H (.bl x) (.type "bool")
  | int (i : Int) : TyOf K H (.int i) (.type "int")
  | str (x : Str) : TyOf K H (.str x) (.type "str")
  | flt (x : UInt64) : TyOf K H (.flt x) (.type "float")
  | lst {a : Addr} {xs : List V} (e : H a = some (.lst xs)) : TyOf K H (.ref a) (.type "list")
  | frz {a : Addr} {o : Obj} {xs : List V} (e : H a = some (.frz o (.lst xs))) : TyOf K H (.ref a) (.type "list")
  | tup {a : Addr} {xs : List V} (e : H a = some (.tup xs)) : TyOf K H (.ref a) (.type "tuple")
  | dK {a : Addr} {kvs : List (Key × V)} (e : H a = some (.dK kvs)) : TyOf K H (.ref a) (.type "dict")
  | dT {a : Addr} {kvs : List (List Key × V)} (e : H a = some (.dT kvs)) : TyOf K H (.ref a) (.type "dict")
  | ins {a C dx : Addr} {fs : List (Str × V)} (e : H a = some (.ins C dx fs)) (cl : Cls K C) (ha : PySem.W.findIn K (.ref C) "__class__" = some (some (.builtin "object.__class__")))
      (hn : PySem.W.specialIn K (.builtin "object.__class__") "__get__" = some (some (.builtin "getset_descriptor.__get__"))) (htk : PySem.W.takesIn K (.builtin "object.__class__") = some true)
      (hm : PySem.W.mroIn K C (.type "object") = some true) : TyOf K H (.ref a) (.ref C)
/-- isinstance(x, c) for one class c, a built-in or an own one: kitOne's answer -/
theorem isinst_ok {x : V} {u t : Value} (I : Inv X pins σ H s) (rx : RelV x u) (ty : TyOf X.K H x t) (e : PySem.W.kitOne X.K t c = some b) (h : ∀ tk, Q (.bool b) { s with toks := tk }) :
    wpAny (model X.prog X.w) A (call (.builtin "isinstance") [u, c]) Q E s := by
  cases ty with
  | non => cases (show u = Value.none from rx); exact PySem.W.kia_one PySem.W.kitx_none I.kIn True.intro e (fun z => nomatch z) h
  | bl y => cases (show u = Value.bool y from rx); exact PySem.W.kia_one PySem.W.kitx_bool I.kIn True.intro e (fun z => nomatch z) h
  | int i => obtain ⟨t, q⟩ := (show ∃ t, u = Value.int i t from rx); cases q; exact PySem.W.kia_one PySem.W.kitx_int I.kIn True.intro e (fun z => nomatch z) h
  | str y => obtain ⟨t, q⟩ := (show ∃ t, u = Value.str y t from rx); cases q; exact PySem.W.kia_one PySem.W.kitx_str I.kIn True.intro e (fun z => nomatch z) h
  | flt y => obtain ⟨t, q⟩ := (show ∃ t, u = Value.float y t from rx); cases q; exact PySem.W.kia_one PySem.W.kitx_float I.kIn True.intro e (fun z => nomatch z) h
  | @lst a xs ea =>
    cases (show u = Value.ref a from rx)
    obtain ⟨_, _, n, _, h1⟩ := (show ObjOk X.prog X.w H s.heap a (.lst xs) from I.hok a _ ea)
    exact PySem.W.kia_one PySem.W.kitx_list I.kIn ⟨_, h1, rfl⟩ e (fun z => nomatch z) h
  | @frz a ob xs ea =>
    cases (show u = Value.ref a from rx)
    obtain ⟨_, _, _, n, _, h1⟩ := (show ObjOk X.prog X.w H s.heap a (.frz ob (.lst xs)) from I.hok a _ ea)
    exact PySem.W.kia_one PySem.W.kitx_list I.kIn ⟨_, h1, rfl⟩ e (fun z => nomatch z) h
  | @tup a xs ea =>
    cases (show u = Value.ref a from rx)
    obtain ⟨_, _, _, p⟩ := (show ObjOk X.prog X.w H s.heap a (.tup xs) from I.hok a _ ea)
    obtain ⟨o, h1, h2, _⟩ := p
    exact PySem.W.kia_one PySem.W.kitx_tuple I.kIn ⟨o, h1, h2⟩ e (fun z => nomatch z) h
  | @dK a kvs ea =>
    cases (show u = Value.ref a from rx)
    obtain ⟨_, _, vs, _, p⟩ := (show ObjOk X.prog X.w H s.heap a (.dK kvs) from I.hok a _ ea)
    obtain ⟨o, es, ep, h1, h2, _⟩ := p
    exact PySem.W.kia_one PySem.W.kitx_dict I.kIn ⟨o, h1, h2.1⟩ e (fun z => nomatch z) h
  | @dT a kvs ea =>
    cases (show u = Value.ref a from rx)
    obtain ⟨_, _, xs, _, o, es, ep, h1, h2, _⟩ := (show ObjOk X.prog X.w H s.heap a (.dT kvs) from I.hok a _ ea)
    exact PySem.W.kia_one PySem.W.kitx_dict I.kIn ⟨o, h1, h2.1⟩ e (fun z => nomatch z) h
  | @ins a C dx fs ea cl ha hn htk hm =>
    cases (show u = Value.ref a from rx)
    obtain ⟨mA, O, _⟩ := ins_get I.hok ea
    obtain ⟨od, J, _⟩ := O.look
    exact PySem.W.kia_one (PySem.W.kitx_own (cl.get _) cl.hd ha hn htk hm) I.kIn J e (fun z => nomatch z) h
end
end L2

namespace L2
open PySem PySem.Spec PyProof.Rows

/-! ### room -/
structure Room (k : Nat) (A : Around) : Prop where
  hd : A.handled = none
  dp : A.depth + 3 * k + 5 < recursionLimit
  un : A.units + 16 * k + 200 < cLine
theorem Room.mono {j k : Nat} {A : Around} (r : Room k A) (h : j ≤ k) : Room j A := ⟨r.hd, by have := r.dp; omega, by have := r.un; omega⟩
theorem Room.deeper {k : Nat} {A : Around} (r : Room (k + 1) A) (env : Env) : Room k (A.deeper env) :=
  ⟨r.hd, by have := r.dp; show A.depth + 1 + 3 * k + 5 < _; omega, by have := r.un; show A.units + 3 + 16 * k + 200 < _; omega⟩
theorem Room.in1 {k : Nat} {A : Around} (r : Room (k + 1) A) : Room k A.in1 :=
  ⟨r.hd, by have := r.dp; show A.depth + 3 * k + 5 < _; omega, by have := r.un; show A.units + 1 + 16 * k + 200 < _; omega⟩
theorem make_depth {A : Around} {C : Addr} {us : List Value} {kw : List (Str × Value)} : (A.under (.builtin "type.__call__" ⟨.ref C :: us, kw⟩)).depth = A.depth + 1 := by
  first | rfl | simp [Around.under, Code.weight, Code.isCreation, Code.isGuard, Code.isCaller, Code.frames, Code.isFrame, guardIds]
theorem make_units {A : Around} {C : Addr} {us : List Value} {kw : List (Str × Value)} : (A.under (.builtin "type.__call__" ⟨.ref C :: us, kw⟩)).units = A.units + 1 := by
  first | rfl | simp [Around.under, Code.cUnits, Code.frames, Code.isFrame]
theorem Room.make {k : Nat} {A : Around} (r : Room (k + 1) A) (C : Addr) (us : List Value) (kw : List (Str × Value)) : Room k (A.under (.builtin "type.__call__" ⟨.ref C :: us, kw⟩)) :=
  ⟨r.hd, by have := r.dp; rw [make_depth]; omega, by have := r.un; rw [make_units]; omega⟩
theorem Room.depth {k : Nat} {A : Around} (r : Room k A) : A.depth < recursionLimit := by have := r.dp; omega
theorem Room.units {k : Nat} {A : Around} (r : Room k A) : A.units + 64 < cLine := by have := r.un; omega
/-! ### argument lists and displays -/
def tNil : TA := fun _ H Q => Q [] H
def tCons (ta : TE) (tr : TA) : TA := fun σ H Q => ta σ H fun x H1 => tr σ H1 fun xs H2 => Q (x :: xs) H2
section
variable {X : Cx} {e : Expr} {es : List Expr} {te : TE} {t : TA} {pos : Pos}
theorem pa_nil : PA X [] tNil := fun _ _ _ _ H Q I h => Calls.spliced_nil ⟨[], H, I, .nil, h⟩
theorem pa_cons (ha : PE X e te) (hr : PA X es t) (hs : starEach (e :: es) X.env = (false, eval e X.env) :: starEach es X.env := by rfl) : PA X (e :: es) (tCons te t) := by
  intro pos pins s σ H Q I h
  rw [hs]
  show wpAny _ _ (spliced ((false, eval e X.env) :: backTo pos (starEach es X.env))) _ _ s
  refine Calls.spliced_cons (thn (ha pins s σ H _ I h) fun u s1 ⟨x, H1, I1, r1, q1⟩ => ?_)
  exact thn (hr pos pins s1 σ H1 _ I1 q1) fun us s2 ⟨xs, H2, I2, r2, q2⟩ => ⟨x :: xs, H2, I2, .cons r1 r2, q2⟩

end

/-! ### what a def promises -/
/-- a def's promise: the bound arguments in the parameters' order, the heap, the wanted end, the wanted exception -/
abbrev Sp := List V → Hp → VK → XK → Prop
/-- how an exception lies behind a call (file 08 gives it): the callers' frames, abstract heap and state ahead of the call, the wish, the exception, the state -/
abbrev CXT := List Env → Hp → Shared → XK → Value → Shared → Prop

/-- the state at a call -/
structure Env0 (P : Program) (w : World) (K : PySem.W.Frag) (mg : Str → Option Value) (base : Heap) (A : Around) (outer : List Env) (s : Shared) (H : Hp) : Prop where
  frames : A.frames = some outer
  mod : Mod K mg base
  bs : ∀ b o, base.get? b = some o → s.heap.get? b = some o ∧ H b = none
  bsz : base.objs.size ≤ s.heap.objs.size
  funs : s.heap.FunFrames base outer
  frf : ∀ b ∈ frs outer, H b = none
  hok : HOk P w H s.heap
  bare : AllBare s.gens
/-- a call's end -/
def CE (outer : List Env) (P : Program) (w : World) (H : Hp) (s : Shared) (Q : VK) (u : Value) (s' : Shared) : Prop :=
  ∃ v H', s'.os = s.os ∧ AllBare s'.gens ∧ Un (frs outer) [] H H' s.heap s'.heap ∧ HOk P w H' s'.heap ∧ RelV v u ∧ Q v H'
def CR (CX : CXT) (outer : List Env) (P : Program) (w : World) (H : Hp) (s : Shared) (Q : VK) (E : XK) (r : Result) (s' : Shared) : Prop :=
  match r with
  | .ok (.ret u) => CE outer P w H s Q u s'
  | .ok _ => False
  | .error e => CX outer H s E e s'
structure FnOk (P : Program) (w : World) (K : PySem.W.Frag) (mg : Str → Option Value) (base : Heap) (CX : CXT) (k : Nat) (f : Addr) (fd : FuncData) (ps : List Str) (sp : Sp) : Prop where
  len : ∀ vs H Q E, sp vs H Q E → vs.length = ps.length
  run : ∀ (A : Around) (outer : List Env) (s : Shared) (H : Hp) (args : Args) (us : List Value) (vs : List V) (Q : VK) (E : XK), Room k A → Env0 P w K mg base A outer s H → BindsTo s fd args (ps.zip us) → Vals vs us → sp vs H Q E →
    codeAny (model P w) A (.call (.ref f) args) (CR CX outer P w H s Q E) s
theorem FnOk.mono {P : Program} {w : World} {K : PySem.W.Frag} {mg : Str → Option Value} {base : Heap} {CX : CXT} {j k : Nat} {f : Addr} {fd : FuncData} {ps : List Str} {sp : Sp} (F : FnOk P w K mg base CX j f fd ps sp) (h : j ≤ k) :
    FnOk P w K mg base CX k f fd ps sp := ⟨F.len, fun A outer s H args us vs Q E hr => F.run A outer s H args us vs Q E (hr.mono h)⟩
/-- a weaker promise -/
theorem FnOk.imp {P : Program} {w : World} {K : PySem.W.Frag} {mg : Str → Option Value} {base : Heap} {CX : CXT} {k : Nat} {f : Addr} {fd : FuncData} {ps : List Str} {sp sp' : Sp} (F : FnOk P w K mg base CX k f fd ps sp)
    (h : ∀ vs H Q E, sp' vs H Q E → sp vs H Q E) : FnOk P w K mg base CX k f fd ps sp' :=
  ⟨fun vs H Q E q => F.len vs H Q E (h _ _ _ _ q), fun A outer s H args us vs Q E hr he hb hv hs => F.run A outer s H args us vs Q E hr he hb hv (h _ _ _ _ hs)⟩

theorem Env0.make {P : Program} {w : World} {K : PySem.W.Frag} {mg : Str → Option Value} {base : Heap} {A : Around} {outer : List Env} {s : Shared} {H : Hp} (e : Env0 P w K mg base A outer s H) (C : Addr) (us : List Value) (kw : List (Str × Value)) :
    Env0 P w K mg base (A.under (.builtin "type.__call__" ⟨.ref C :: us, kw⟩)) outer s H := ⟨by first | exact e.frames | (simpa [Around.under, Code.envs, Code.isFrame, pushEnvs] using e.frames), e.mod, e.bs, e.bsz, e.funs, e.frf, e.hok, e.bare⟩
theorem Env0.in1 {P : Program} {w : World} {K : PySem.W.Frag} {mg : Str → Option Value} {base : Heap} {A : Around} {outer : List Env} {s : Shared} {H : Hp} (e : Env0 P w K mg base A outer s H) :
    Env0 P w K mg base A.in1 outer s H := ⟨e.frames, e.mod, e.bs, e.bsz, e.funs, e.frf, e.hok, e.bare⟩

section
variable {X : Cx} {pins : List (Addr × Obj)} {σ : St} {H : Hp} {s s' : Shared}
/-- from a body: what a callee wants -/
theorem Inv.env0 (I : Inv X pins σ H s) : Env0 X.prog X.w X.K X.mg X.base X.A X.stack s H :=
  ⟨I.ok.frames, I.ok.mod, I.bs, Nat.le_trans I.ok.bsz I.sz, I.stack, I.stkFree, I.hok, I.bare⟩
/-- behind a call -/
theorem Inv.after {Q : VK} {u : Value} (I : Inv X pins σ H s) (h : CE X.stack X.prog X.w H s Q u s') : EP X pins σ Q u s' := by
  obtain ⟨v, H', os, bare, un, hok, r, q⟩ := h
  obtain ⟨hh, g, d, t, os'⟩ := s'
  obtain rfl : os' = s.os := os
  exact ⟨v, H', I.call (h' := hh) (g' := g) (d' := d) (t' := t) (ch := []) un hok bare (fun b z => absurd z (by simp)), r, q⟩
end

/-! ### calls -/
/-- f(..): the written arguments, then the defaults dvs; E: what is wanted of an exception -/
def tCall (sp : Sp) (dvs : List V) (E : XK) (t : TA) : TE := fun σ H Q => t σ H fun vs H1 => sp (vs ++ dvs) H1 Q E
/-- o.m(..) of an instance of the class at C -/
def tMeth (C : Addr) (m : Str) (sp : Sp) (dvs : List V) (E : XK) (ta : TE) (t : TA) : TE := fun σ H Q => ta σ H fun x H1 => ∃ a dx fs, x = .ref a ∧ H1 a = some (.ins C dx fs) ∧ fs.lookup m = none ∧
  t σ H1 fun vs H2 => sp (x :: (vs ++ dvs)) H2 Q E
/-- C(..): a new instance and its dict, then __init__ -/
def tMake (C : Addr) (sp : Sp) (dvs : List V) (E : XK) (t : TA) : TE := fun σ H Q => t σ H fun vs H1 => ∀ x dx, H1 x = none → H1 dx = none → dx ≠ x →
  sp (.ref x :: (vs ++ dvs)) (upd (upd H1 dx (.own x)) x (.ins C dx [])) (fun v H2 => v = .non ∧ Q (.ref x) H2) E

/-- how the parameters are bound: us the positional arguments, kw the keywords' values by name, ds the defaults that fill up -/
def Binds (K : PySem.W.Frag) (fd : FuncData) (ps : List Str) (ds : List Value) : Prop :=
  ∀ (s : Shared) (us : List Value), K.In s.heap → (us ++ ds).length = ps.length → BindsTo s fd ⟨us, []⟩ (ps.zip (us ++ ds))
/-- every parameter is given -/
theorem Binds.all {K : PySem.W.Frag} {fd : FuncData} {ps : List Str} (h : ∀ us : List Value, us.length = ps.length → bindArgs fd ⟨us, []⟩ = pure (ps.zip us)) : Binds K fd ps [] := fun s us _ hl => by
  rw [List.append_nil] at hl ⊢
  exact .of_eq (h us hl)

/-- an exception of a callee reaches what this body wants of exceptions -/
def Passes (CX : CXT) (X : Cx) (E : XK) : Prop := ∀ (pins : List (Addr × Obj)) (σ : St) (H : Hp) (s : Shared) (e : Value) (s' : Shared), Inv X pins σ H s → CX X.stack H s E e s' → X.xe e s'

section
variable {X : Cx} {CX : CXT} {k : Nat} {f C : Addr} {fd : FuncData} {ps : List Str} {sp : Sp} {dvs : List V} {ds : List Value} {E : XK} {x m : Str} {p pos apos : Pos} {e o : Expr} {es : List Expr} {ta : TE} {t : TA}

/-- the callee runs -/
theorem run_fn {pins : List (Addr × Obj)} {σ : St} {H : Hp} {s : Shared} {Q : VK} {us : List Value} {vs : List V} (F : FnOk X.prog X.w X.K X.mg X.base CX k f fd ps sp) (hr : Room k X.A) (hb : Binds X.K fd ps ds) (hd : Vals dvs ds) (hx : Passes CX X E)
    (I : Inv X pins σ H s) (r : Vals vs us) (h : sp (vs ++ dvs) H Q E) : wpAny (model X.prog X.w) X.A (call (.ref f) us) (EP X pins σ Q) X.xe s := by
  have r2 : Vals (vs ++ dvs) (us ++ ds) := r.append hd
  have hl : (us ++ ds).length = ps.length := by rw [← r2.length]; exact F.len _ _ _ _ h
  refine wpAny_call (codeAny_mono (F.run X.A X.stack s H ⟨us, []⟩ (us ++ ds) (vs ++ dvs) Q E hr I.env0 (hb s us I.kIn hl) r2 h) fun r s' hq => ?_)
  cases r with
  | error e => exact hx pins σ H s e s' I hq
  | ok fl =>
    cases fl with
    | ret u => exact I.after hq
    | next => exact False.elim hq
    | brk => exact False.elim hq
    | cont => exact False.elim hq

theorem pe_call (F : FnOk X.prog X.w X.K X.mg X.base CX k f fd ps sp) (hr : Room k X.A) (hg : Gl X x) (hm : X.mg x = some (.ref f)) (hk : PySem.W.keepIn X.K (.ref f) = true) (hb : Binds X.K fd ps ds) (hd : Vals dvs ds) (hx : Passes CX X E)
    (ha : PA X (e :: es) t) (hdb : (x == ("__debug__" : Str)) = false := by decide) (he : starEach (e :: es) X.env = (false, eval e X.env) :: starEach es X.env := by rfl) (hpl : (backTo pos (starEach es X.env)).any (·.1) = false := by rfl) :
    PE X (.Call (.Name x p) (e :: es) [] pos) (tCall sp dvs E t) := by
  intro pins s σ H Q I h
  refine wpAny_Call_Name_kw (ld_glob I hg hm ?_ hdb)
  refine PySem.W.callWith_K (h₀ := X.base) I.ok.mod.kin hk (thn (ha pos pins s σ H _ I h) fun us s1 ⟨vs, H1, I1, r, q⟩ => ⟨I1.kIn, ?_⟩) he hpl
  exact run_fn F hr hb hd hx I1 r q
/-- o.m(e, ..) -/
theorem pe_meth {pl : Sem Bool} (he : PE X o ta) (c : Cls X.K C) (hm : Meth X.K C m f) (F : FnOk X.prog X.w X.K X.mg X.base CX k f fd ps sp) (hr : Room k X.A) (hb : Binds X.K fd ps ds) (hd : Vals dvs ds) (hx : Passes CX X E) (ha : PA X (e :: es) t)
    (hst : starEach (e :: es) X.env = (false, eval e X.env) :: starEach es X.env := by rfl) (hpl : (backTo pos (starEach es X.env)).any (·.1) = false := by rfl)
    (ht : eval (.Call (.Attribute o m apos) (e :: es) [] pos) X.env = (do
      let ov ← eval o X.env
      standAt apos.atName
      let (f, first) ← holding [ov] (getMethod ov m pl)
      callWith pos f first (backTo pos (starEach (e :: es) X.env)) (backToKw pos (keywordEach [] X.env))) := by rfl) :
    PE X (.Call (.Attribute o m apos) (e :: es) [] pos) (tMeth C m sp dvs E ta t) := by
  intro pins s σ H Q I h
  refine PySem.W.methodCall_KW (pl := pl) (thn (he pins s σ H _ I h) fun u s1 ⟨x, H1, I1, rx, a, dx, fs, ex, ea, l, q⟩ => ?_) ht
  subst ex
  obtain rfl : u = Value.ref a := rx
  refine getmeth_ok I1 ea c hm l ?_
  refine PySem.W.callWith_K (first := [.ref a]) (h₀ := X.base) I.ok.mod.kin hm.kp (thn (ha pos pins s1 σ H1 _ I1 q) fun us s2 ⟨vs, H2, I2, r, q2⟩ => ⟨I2.kIn, ?_⟩) hst hpl
  exact run_fn (us := .ref a :: us) (vs := .ref a :: vs) F hr hb hd hx I2 (.cons rfl r) q2
/-- o.m() -/
theorem pe_meth0 {pl : Sem Bool} (he : PE X o ta) (c : Cls X.K C) (hm : Meth X.K C m f) (F : FnOk X.prog X.w X.K X.mg X.base CX k f fd ps sp) (hr : Room k X.A) (hb : Binds X.K fd ps ds) (hd : Vals dvs ds) (hx : Passes CX X E)
    (ht : eval (.Call (.Attribute o m apos) [] [] pos) X.env = (do
      let ov ← eval o X.env
      standAt apos.atName
      let (f, first) ← holding [ov] (getMethod ov m pl)
      callWith pos f first (backTo pos (starEach [] X.env)) (backToKw pos (keywordEach [] X.env))) := by rfl) :
    PE X (.Call (.Attribute o m apos) [] [] pos) (tMeth C m sp dvs E ta tNil) := by
  intro pins s σ H Q I h
  refine PySem.W.methodCall_KW (pl := pl) (thn (he pins s σ H _ I h) fun u s1 ⟨x, H1, I1, rx, a, dx, fs, ex, ea, l, q⟩ => ?_) ht
  subst ex
  obtain rfl : u = Value.ref a := rx
  refine getmeth_ok I1 ea c hm l ?_
  exact PySem.W.callWith_K0 (first := [.ref a]) I1.kIn hm.kp (run_fn (us := [.ref a]) (vs := [.ref a]) F hr hb hd hx I1 (.cons rfl .nil) q)

/-- what a class must have to be made -/
structure Mk (K : PySem.W.Frag) (C f : Addr) : Prop where
  makes : PySem.W.makesIn K C = true
  init : PySem.W.findIn K (.ref C) "__init__" = some (some (.ref f))
  fn : PySem.W.isFn K (.ref f) = true
  kp : PySem.W.keepIn K (.ref C) = true

theorem run_make {pins : List (Addr × Obj)} {σ : St} {H : Hp} {s : Shared} {Q : VK} {us : List Value} {vs : List V} (M : Mk X.K C f) (F : FnOk X.prog X.w X.K X.mg X.base CX k f fd ps sp) (hr : Room (k + 1) X.A) (hb : Binds X.K fd ps ds) (hd : Vals dvs ds)
    (hx : Passes CX X E) (I : Inv X pins σ H s) (r : Vals vs us)
    (h : ∀ x dx, H x = none → H dx = none → dx ≠ x → sp (.ref x :: (vs ++ dvs)) (upd (upd H dx (.own x)) x (.ins C dx [])) (fun v H2 => v = .non ∧ Q (.ref x) H2) E) :
    wpAny (model X.prog X.w) X.A (call (.ref C) us) (EP X pins σ Q) X.xe s := by
  have hq := h (s.heap.objs.size + 1) s.heap.objs.size (I.hok.fresh (Nat.le_succ _)) (I.hok.fresh (Nat.le_refl _)) (Nat.ne_of_lt (Nat.lt_succ_self _))
  have I2 := Inv.made (C := C) I
  have r2 : Vals (V.ref (s.heap.objs.size + 1) :: (vs ++ dvs)) (Value.ref (s.heap.objs.size + 1) :: (us ++ ds)) := .cons rfl (r.append hd)
  have hl : (Value.ref (s.heap.objs.size + 1) :: us ++ ds).length = ps.length := by
    have e := r2.length
    rw [F.len _ _ _ _ hq] at e
    exact e.symm
  refine wpAny_call (make_map (f := f) I.kIn M.makes M.init (beq_iff_eq.mp M.fn) (codeAny_mono (F.run _ X.stack _ _ ⟨Value.ref (s.heap.objs.size + 1) :: us, []⟩ (Value.ref (s.heap.objs.size + 1) :: (us ++ ds)) _ _ E (hr.make C us [])
    (I2.env0.make C us []) (hb _ (Value.ref (s.heap.objs.size + 1) :: us) I2.kIn hl) r2 hq) fun r s' hq' => ?_))
  cases r with
  | error e => exact hx pins σ _ _ e s' I2 hq'
  | ok fl =>
    cases fl with
    | ret u =>
      obtain ⟨v, H', I3, rv, ev, q3⟩ := I2.after hq'
      subst ev
      exact ⟨rv, ⟨V.ref (s.heap.objs.size + 1), H', I3, rfl, q3⟩⟩
    | next => exact False.elim hq'
    | brk => exact False.elim hq'
    | cont => exact False.elim hq'
theorem pe_make (M : Mk X.K C f) (F : FnOk X.prog X.w X.K X.mg X.base CX k f fd ps sp) (hr : Room (k + 1) X.A) (hg : Gl X x) (hm : X.mg x = some (.ref C)) (hb : Binds X.K fd ps ds) (hd : Vals dvs ds) (hx : Passes CX X E)
    (ha : PA X (e :: es) t) (hdb : (x == ("__debug__" : Str)) = false := by decide) (he : starEach (e :: es) X.env = (false, eval e X.env) :: starEach es X.env := by rfl) (hpl : (backTo pos (starEach es X.env)).any (·.1) = false := by rfl) :
    PE X (.Call (.Name x p) (e :: es) [] pos) (tMake C sp dvs E t) := by
  intro pins s σ H Q I h
  refine wpAny_Call_Name_kw (ld_glob I hg hm ?_ hdb)
  refine PySem.W.callWith_K (h₀ := X.base) I.ok.mod.kin M.kp (thn (ha pos pins s σ H _ I h) fun us s1 ⟨vs, H1, I1, r, q⟩ => ⟨I1.kIn, ?_⟩) he hpl
  exact run_make M F hr hb hd hx I1 r q
theorem pe_make0 (M : Mk X.K C f) (F : FnOk X.prog X.w X.K X.mg X.base CX k f fd ps sp) (hr : Room (k + 1) X.A) (hg : Gl X x) (hm : X.mg x = some (.ref C)) (hb : Binds X.K fd ps ds) (hd : Vals dvs ds) (hx : Passes CX X E)
    (hdb : (x == ("__debug__" : Str)) = false := by decide) : PE X (.Call (.Name x p) [] [] pos) (tMake C sp dvs E tNil) := by
  intro pins s σ H Q I h
  refine wpAny_Call_Name_kw (ld_glob I hg hm ?_ hdb)
  exact PySem.W.callWith_K0 I.kIn M.kp (run_make (us := []) M F hr hb hd hx I .nil h)
end

/-! ### keywords -/
section
variable {X : Cx} {CX : CXT} {k : Nat} {f C : Addr} {fd : FuncData} {ps ks : List Str} {sp : Sp} {E : XK} {x m : Str} {p pos apos kpos : Pos} {e o : Expr} {es : List Expr} {kws : List Keyword} {te ta : TE} {t tk : TA} {nm : Option Str}
/-- how a call with keywords binds: g puts the positional values us and the keywords' values ws (names ks) in the parameters' order, defaults among them -/
structure KBinds (K : PySem.W.Frag) (fd : FuncData) (ps ks : List Str) (g : List Value → List Value → List Value) (gV : List V → List V → List V) : Prop where
  to : ∀ (s : Shared) (us ws : List Value), K.In s.heap → (g us ws).length = ps.length → BindsTo s fd ⟨us, ks.zip ws⟩ (ps.zip (g us ws))
  rel : ∀ {vs : List V} {us : List Value} {zs : List V} {ws : List Value}, Vals vs us → Vals zs ws → Vals (gV vs zs) (g us ws)
variable {g : List Value → List Value → List Value} {gV : List V → List V → List V}
end

/-! ### a def's body keeps its promise -/
/-- names: the parameters first -/
structure FnScope (N P : List Str) (sc : Scope) : Prop where
  kind : sc.kind = .function
  co : sc.isCoroutine = false
  gen : sc.isGenerator = false
  nd : N.Nodup
  pre : N.take P.length = P
  par : ∀ x ∈ P, sc.names.lookup x = some .local ∨ sc.names.lookup x = some .cell
  nofree : ∀ y ∈ sc.names, y.2 ≠ .free

theorem bindL_out {kindOf : Str → Option NameKind} {x : Str} : ∀ {binds : List (Str × Value)} {m : Str → Option Value}, (∀ v, (x, v) ∉ binds) → bindL kindOf binds m x = m x
  | [], _, _ => rfl
  | (n, v) :: r, m, h => by
    unfold bindL
    rw [bindL_out fun w hw => h w (List.mem_cons_of_mem _ hw)]
    split
    · have : x ≠ n := by rintro rfl; exact h v List.mem_cons_self
      simp [this]
    · rfl
theorem bindC_out {kindOf : Str → Option NameKind} {x : Str} : ∀ {binds : List (Str × Value)} {m : Str → Option Value}, (∀ v, (x, v) ∉ binds) → bindC kindOf binds m x = m x
  | [], _, _ => rfl
  | (n, v) :: r, m, h => by
    unfold bindC
    rw [bindC_out fun w hw => h w (List.mem_cons_of_mem _ hw)]
    split
    · rfl
    · have : x ≠ n := by rintro rfl; exact h v List.mem_cons_self
      simp [this]
theorem bindL_get {kindOf : Str → Option NameKind} {x : Str} {v : Value} : ∀ {P : List Str} {vs : List Value} {i : Nat} {m : Str → Option Value}, P.Nodup → P[i]? = some x → vs[i]? = some v → kindOf x = some .local →
    bindL kindOf (P.zip vs) m x = some v
  | [], _, _, _, _, h, _, _ => by simp at h
  | _ :: _, [], _, _, _, _, h, _ => by simp at h
  | p :: P, w :: vs, 0, m, nd, h1, h2, hk => by
    simp at h1 h2; subst h1; subst h2
    show bindL kindOf ((p, w) :: P.zip vs) m p = _
    unfold bindL
    rw [bindL_out fun v hv => (List.nodup_cons.mp nd).1 (List.of_mem_zip hv).1, if_pos hk]
    simp
  | p :: P, w :: vs, i + 1, m, nd, h1, h2, hk => by
    show bindL kindOf ((p, w) :: P.zip vs) m x = _
    unfold bindL
    exact bindL_get (i := i) (List.nodup_cons.mp nd).2 (by simpa using h1) (by simpa using h2) hk
theorem bindC_get {kindOf : Str → Option NameKind} {x : Str} {v : Value} : ∀ {P : List Str} {vs : List Value} {i : Nat} {m : Str → Option Value}, P.Nodup → P[i]? = some x → vs[i]? = some v → kindOf x ≠ some .local →
    bindC kindOf (P.zip vs) m x = some v
  | [], _, _, _, _, h, _, _ => by simp at h
  | _ :: _, [], _, _, _, _, h, _ => by simp at h
  | p :: P, w :: vs, 0, m, nd, h1, h2, hk => by
    simp at h1 h2; subst h1; subst h2
    show bindC kindOf ((p, w) :: P.zip vs) m p = _
    unfold bindC
    rw [bindC_out fun v hv => (List.nodup_cons.mp nd).1 (List.of_mem_zip hv).1, if_neg hk]
    simp
  | p :: P, w :: vs, i + 1, m, nd, h1, h2, hk => by
    show bindC kindOf ((p, w) :: P.zip vs) m x = _
    unfold bindC
    exact bindC_get (i := i) (List.nodup_cons.mp nd).2 (by simpa using h1) (by simpa using h2) hk

/-- the names' values at the entry -/
def start (N : List Str) (vs : List V) : St := vs.map some ++ List.replicate (N.length - vs.length) none

/-- the context of a def's body, at its entry; an exception leaves the frame, then lies as CX says -/
def cxOf (CX : CXT) (P : Program) (w : World) (K : PySem.W.Frag) (mg : Str → Option Value) (base : Heap) (N : List Str) (qual : Str) (scope : Scope) (f : Addr) (cd : Value) (A : Around) (outer : List Env) (s : Shared) (H : Hp) (E : XK) : Cx where
  prog := P
  w := w
  K := K
  mg := mg
  base := base
  A := A.deeper (envOfC qual scope s.heap.objs.size f cd)
  N := N
  s₀ := s
  H₀ := H
  env := envOfC qual scope s.heap.objs.size f cd
  outer := outer
  stack := envOfC qual scope s.heap.objs.size f cd :: outer
  ex := []
  calm := true
  fn := fun _ => true
  pn := []
  xe := fun e s' => wpAny (model P w) (A.deeper (envOfC qual scope s.heap.objs.size f cd)) (leaving (envOfC qual scope s.heap.objs.size f cd) e) (fun _ s'' => CX outer H s E e s'') (fun e' s'' => CX outer H s E e' s'') s'

theorem cell_has {sc : Scope} {n : Nat} {x : Str} (h : sc.names.lookup x = some .cell) : ∃ c, (cellsFrom n sc.names []).lookup x = some c := by
  have q := PySem.W.cellsFrom_some sc.names n [] (.inl h)
  exact Option.isSome_iff_exists.mp q

theorem inv_start {CX : CXT} {P : Program} {w : World} {K : PySem.W.Frag} {mg : Str → Option Value} {base : Heap} {N ps : List Str} {qual : Str} {scope : Scope} {f : Addr} {cd : Value} {A : Around} {outer : List Env} {s s1 : Shared} {H : Hp} {E : XK} {us : List Value} {vs : List V}
    (S : FnScope N ps scope) (hd : A.handled = none) (e0 : Env0 P w K mg base A outer s H) (hl : vs.length = ps.length) (r : Vals vs us)
    (x : InCallC s s.heap.objs.size (bindL (envOfC qual scope s.heap.objs.size f cd).kindOf (ps.zip us) fun _ => none) (cellsFrom (s.heap.objs.size + 1) scope.names []) (bindC (envOfC qual scope s.heap.objs.size f cd).kindOf (ps.zip us) fun _ => none) s1) :
    Inv (cxOf CX P w K mg base N qual scope f cd A outer s H E) [] (start N vs) H s1 := by
  have hpl : ps.length ≤ N.length := by have := congrArg List.length S.pre; rw [List.length_take] at this; omega
  obtain ⟨h1, tk, rfl, hk⟩ := x.done
  have noA : ∀ b : Addr, b ∉ (cxOf CX P w K mg base N qual scope f cd A outer s H E).ex := fun b z => absurd (show b ∈ ([] : List Addr) from z) (by simp)
  refine ⟨⟨e0.mod, S.kind, rfl, rfl, Nat.le_refl _, fun y z c h1 h2 => ?_, fun y hy => ?_, fun y c _ h => ?_, fun _ => hd, Around.frames_deeper e0.frames, .inr ⟨rfl, rfl⟩, fun b z => absurd z (noA b), e0.bs, e0.bsz, fun b _ _ => noA b, fun b z => absurd z (noA b), e0.funs, e0.frf⟩,
    rfl, e0.bare, Un.kept hk, ⟨_, x.toInCall.ns, fun i y v h1 h2 h3 => ?_⟩, fun y c h => ⟨_, x.cell y c h⟩, e0.hok.fresh (Nat.le_refl _), fun y c h => ?_, fun p hp => absurd (show p ∈ ([] : List (Addr × Obj)) from hp) (by simp), e0.hok.kept hk, ?_⟩
  · exact name_of_addr x.apart (PySem.mem_of_lookup h1) (PySem.mem_of_lookup h2)
  · have hy : scope.names.lookup y = some .cell ∨ scope.names.lookup y = some .free := hy
    rcases hy with hy | hy
    · exact cell_has hy
    · exact absurd rfl (S.nofree _ (PySem.mem_of_lookup hy))
  · exact Nat.le_of_lt (x.above y c (PySem.mem_of_lookup h))
  · have hi : i < vs.length := by
      unfold start at h2
      by_cases hi : i < vs.length
      · exact hi
      · rw [List.getElem?_append_right (by simpa using hi)] at h2
        rw [List.getElem?_replicate] at h2
        split at h2 <;> cases h2
    have ha : vs[i]? = some v := by
      unfold start at h2
      rw [List.getElem?_append_left (by simpa using hi), List.getElem?_map] at h2
      cases e : vs[i]? with
      | none => rw [e] at h2; cases h2
      | some a => rw [e] at h2; cases h2; rfl
    obtain ⟨u, hu, rv⟩ := r.get ha
    have hp : ps[i]? = some y := by
      rw [← S.pre, List.getElem?_take_of_lt (by omega)]; exact h1
    have ndP : ps.Nodup := by rw [← S.pre]; exact S.nd.sublist (List.take_sublist _ _)
    refine ⟨u, rv, ?_⟩
    rcases S.par y (List.mem_of_getElem? hp) with k | k
    · exact .inl ⟨k, bindL_get ndP hp hu k⟩
    · obtain ⟨c, e⟩ := cell_has (n := s.heap.objs.size + 1) k
      refine .inr ⟨.inl k, c, e, ?_⟩
      have q := x.cell y c e
      rw [bindC_get ndP hp hu (by show scope.names.lookup y ≠ _; rw [k]; decide)] at q
      exact q
  · exact e0.hok.fresh (Nat.le_of_lt (x.above y c (PySem.mem_of_lookup h)))
  · unfold start
    show _ = N.length
    rw [List.length_append, List.length_map, List.length_replicate]
    omega

/-- THE RULE: a def (or a method) of the text, by its body. The body's reading t is chosen for each entry; it is run at the parameters' values -/
theorem fn_of {CX : CXT} {P : Program} {w : World} {K : PySem.W.Frag} {mg : Str → Option Value} {base : Heap} {k : Nat} {f : Addr} {name qual : Str} {params : Arguments} {body : List Stmt} {scope : Scope} {dV kV doc pm cdv ct oc : Value} {an od : Option Addr}
    {osl : Array (Option Value)} {N ps : List Str} {sp : Sp} (lk : K.lookup f = some ⟨oc, od, .func (PySem.W.fnOf name qual params body scope dV kV doc pm an cdv ct), osl⟩) (hcd : PySem.W.codeIn K cdv qual = true) (S : FnScope N ps scope)
    (len : ∀ vs H Q E, sp vs H Q E → vs.length = ps.length)
    (hbody : ∀ (A : Around) (outer : List Env) (s : Shared) (H : Hp) (vs : List V) (Q : VK) (E : XK), Room k (A.deeper (envOfC qual scope s.heap.objs.size f cdv)) → sp vs H Q E →
      ∃ t, PSs (cxOf CX P w K mg base N qual scope f cdv A outer s H E) body t ∧ t { nx := fun _ H' => Q .non H', rt := Q } (start N vs) H) :
    FnOk P w K mg base CX (k + 1) f (PySem.W.fnOf name qual params body scope dV kV doc pm an cdv ct) ps sp := by
  refine ⟨len, fun A outer s H args us vs Q E hr e0 hb r hsp => ?_⟩
  have hl := len _ _ _ _ hsp
  have KX : K.In s.heap := e0.mod.kin.keeps fun b o e => (e0.bs b o e).1
  have lim : s.heap.NoLimit := e0.mod.nolimit.keeps fun b o e => (e0.bs b o e).1
  have hkind : ∀ y ∈ ps.zip us, scope.names.lookup y.1 = some .local ∨ (scope.names.lookup y.1 = some .cell ∧ ((cellsFrom (s.heap.objs.size + 1) scope.names []).lookup y.1).isSome = true) := fun ⟨n, v⟩ hy => by
    rcases S.par n (List.of_mem_zip hy).1 with q | q
    · exact .inl q
    · exact .inr ⟨q, PySem.W.cellsFrom_some _ _ _ (.inl q)⟩
  refine codeAny_call_function hr.depth (KX _ _ lk) rfl S.co S.gen rfl (PySem.W.codeRec_of KX hcd) (hb _ _ _ _ ?_)
  refine wpAny_newFunctionEnv_cells S.kind hkind fun env he s1 x => ?_
  subst he
  refine ⟨lim.keeps x.toInCall.keep, codeAny_func ?_⟩
  obtain ⟨t, ht, hq⟩ := hbody A outer s H vs Q E (hr.deeper _) hsp
  have I : Inv (cxOf CX P w K mg base N qual scope f cdv A outer s H E) [] (start N vs) H s1 := inv_start S hr.hd e0 hl r x
  refine wpAny_mono (ht [] s1 (start N vs) H _ I hq) (fun fl s' hs => ?_) fun e s' hs => hs
  have fin : ∀ {σ' : St} {H' : Hp} {v : V} {u : Value}, Inv (cxOf CX P w K mg base N qual scope f cdv A outer s H E) [] σ' H' s' → RelV v u → Q v H' → CE outer P w H s Q u s' :=
    fun {σ' H' v u} J rv q => ⟨v, H', J.os, J.bare, J.base, J.hok, rv, q⟩
  cases fl with
  | ret u =>
    obtain ⟨v, σ', H', J, rv, q⟩ := hs
    exact fin J rv q
  | next =>
    obtain ⟨σ', H', J, q⟩ := hs
    exact fin (v := V.non) (u := Value.none) J rfl q
  | brk =>
    obtain ⟨_, _, _, q⟩ := hs
    exact False.elim q
  | cont =>
    obtain ⟨_, _, _, q⟩ := hs
    exact False.elim q
end L2

namespace L2
open PySem PySem.Spec PyProof.Rows
section
variable {X : Cx} {x : Str} {p pos : Pos} {e : Expr} {es : List Expr} {t : TA} {id T : String} {r : List V → Hp → VK → Prop}

def tCB (r : List V → Hp → VK → Prop) (t : TA) : TE := fun σ H Q => t σ H fun vs H1 => r vs H1 Q
/-- f(e, ..), f a built-in function -/
theorem pe_callB (hc : CallR X (.builtin id) r) (hg : Gl X x) (hm : X.mg x = none) (hv : bootBuiltins x = some (.builtin id)) (ha : PA X (e :: es) t) (hn : x ≠ "__name__" := by decide) (hdb : (x == ("__debug__" : Str)) = false := by decide)
    (he : starEach (e :: es) X.env = (false, eval e X.env) :: starEach es X.env := by rfl) (hpl : (backTo pos (starEach es X.env)).any (·.1) = false := by rfl) : PE X (.Call (.Name x p) (e :: es) [] pos) (tCB r t) := by
  intro pins s σ H Q I h
  refine wpAny_Call_Name_kw (ld_blt I hg hm hv ?_ hn hdb)
  exact PyProof.Rows.callWith_builtin1 (thn (ha pos pins s σ H _ I h) fun us s1 ⟨vs, H1, I1, r1, q1⟩ => hc pins s1 σ H1 vs us Q I1 r1 q1) he hpl
/-- T(e, ..), T a built-in type -/
theorem pe_callTy (hc : CallR X (.type T) r) (hg : Gl X x) (hm : X.mg x = none) (hv : bootBuiltins x = some (.type T)) (ha : PA X (e :: es) t) (hn : x ≠ "__name__" := by decide) (hdb : (x == ("__debug__" : Str)) = false := by decide)
    (he : starEach (e :: es) X.env = (false, eval e X.env) :: starEach es X.env := by rfl) (hpl : (backTo pos (starEach es X.env)).any (·.1) = false := by rfl) : PE X (.Call (.Name x p) (e :: es) [] pos) (tCB r t) := by
  intro pins s σ H Q I h
  refine wpAny_Call_Name_kw (ld_blt I hg hm hv ?_ hn hdb)
  exact PyProof.Rows.callWith_type1 (thn (ha pos pins s σ H _ I h) fun us s1 ⟨vs, H1, I1, r1, q1⟩ => hc pins s1 σ H1 vs us Q I1 r1 q1) he hpl
end
end L2

namespace L2
open PySem PySem.Spec PyProof.Rows

/-! ### lists of pairs as tables -/
section
variable {κ : Type} [DecidableEq κ]
def valV (kvs : List (κ × V)) (k : κ) : Option V := (kvs.find? fun kv => decide (kv.1 = k)).map (·.2)
/-- in its place, or at the end -/
def putK (kvs : List (κ × V)) (k : κ) (v : V) : List (κ × V) :=
  if (kvs.any fun kv => decide (kv.1 = k)) = true then kvs.map (fun kv => if kv.1 = k then (kv.1, v) else kv) else kvs ++ [(k, v)]
def dropK (kvs : List (κ × V)) (k : κ) : List (κ × V) := kvs.filter fun kv => decide (kv.1 ≠ k)

theorem valV_pos {p : κ × V} {r : List (κ × V)} {k : κ} (e : p.1 = k) : valV (p :: r) k = some p.2 := by simp [valV, List.find?_cons, e]
theorem valV_neg {p : κ × V} {r : List (κ × V)} {k : κ} (e : ¬ p.1 = k) : valV (p :: r) k = valV r k := by simp [valV, List.find?_cons, e]
theorem valV_any (k : κ) : ∀ kvs : List (κ × V), (kvs.any fun kv => decide (kv.1 = k)) = (valV kvs k).isSome
  | [] => rfl
  | p :: r => by
    rw [List.any_cons]
    by_cases e : p.1 = k
    · simp only [valV_pos e, decide_eq_true e, Bool.true_or, Option.isSome_some]
    · rw [valV_neg e, decide_eq_false e, Bool.false_or]; exact valV_any k r
theorem RelO.isSome_eq {o : Option V} {u : Option Value} (r : RelO o u) : o.isSome = u.isSome := by
  cases o with
  | none => cases u with
    | none => rfl
    | some _ => exact (show False from r).elim
  | some _ => cases u with
    | none => exact (show False from r).elim
    | some _ => rfl
theorem RelO.getD {o : Option V} {u : Option Value} {d : V} {d' : Value} (r : RelO o u) (rd : RelV d d') : RelV (o.getD d) (u.getD d') := by
  cases o with
  | none => cases u with
    | none => exact rd
    | some _ => exact (show False from r).elim
  | some _ => cases u with
    | none => exact (show False from r).elim
    | some _ => exact r

/-- raw tables of the same keys -/
theorem KV.val {kvs : List (κ × V)} {vs : List (κ × Value)} (r : KV kvs vs) (k : κ) : RelO (valV kvs k) (valueAt vs k) := by
  unfold KV at r
  induction r with
  | nil => exact True.intro
  | @cons p q ps qs h t ih =>
    obtain ⟨h1, h2⟩ := h
    by_cases e : p.1 = k
    · have e' : q.1 = k := h1.symm.trans e
      have b : valueAt (q :: qs) k = some q.2 := by simp [valueAt, List.find?_cons, e']
      rw [valV_pos e, b]; exact h2
    · have e' : ¬ q.1 = k := fun z => e (h1.trans z)
      have b : valueAt (q :: qs) k = valueAt qs k := by simp [valueAt, List.find?_cons, e']
      rw [valV_neg e, b]; exact ih
theorem KV.any {kvs : List (κ × V)} {vs : List (κ × Value)} (r : KV kvs vs) (k : κ) : (kvs.any fun kv => decide (kv.1 = k)) = vs.any fun kv => decide (kv.1 = k) := by
  unfold KV at r
  induction r with
  | nil => rfl
  | cons h t ih => rw [List.any_cons, List.any_cons, ih, h.1]
theorem KV.repl {kvs : List (κ × V)} {vs : List (κ × Value)} (r : KV kvs vs) (k : κ) {y : V} {u : Value} (ry : RelV y u) :
    KV (kvs.map fun kv => if kv.1 = k then (kv.1, y) else kv) (vs.map fun kv => if kv.1 = k then (kv.1, u) else kv) := by
  unfold KV at r ⊢
  induction r with
  | nil => exact .nil
  | @cons p q ps qs h t ih =>
    rw [List.map_cons, List.map_cons]
    refine .cons ?_ ih
    obtain ⟨h1, h2⟩ := h
    by_cases e : p.1 = k
    · rw [if_pos e, if_pos (h1.symm.trans e)]; exact ⟨h1, ry⟩
    · rw [if_neg e, if_neg (fun z => e (h1.trans z))]; exact ⟨h1, h2⟩
theorem KV.put {kvs : List (κ × V)} {vs : List (κ × Value)} (r : KV kvs vs) (k : κ) {y : V} {u : Value} (ry : RelV y u) : KV (putK kvs k y) (stored vs k u) := by
  unfold putK stored
  rw [r.any k]
  by_cases e : (vs.any fun kv => decide (kv.1 = k)) = true
  · rw [if_pos e, if_pos e]; exact r.repl k ry
  · rw [if_neg e, if_neg e]; exact Paired.snoc r ⟨rfl, ry⟩
theorem KV.drop {kvs : List (κ × V)} {vs : List (κ × Value)} (r : KV kvs vs) (k : κ) : KV (dropK kvs k) (without vs k) := by
  unfold KV at r ⊢
  unfold dropK without
  induction r with
  | nil => exact .nil
  | @cons p q ps qs h t ih =>
    obtain ⟨h1, h2⟩ := h
    rw [List.filter_cons, List.filter_cons]
    by_cases e : p.1 = k
    · have a : ¬ decide (p.1 ≠ k) = true := by simp [e]
      have b : ¬ decide (q.1 ≠ k) = true := by simp [h1.symm.trans e]
      rw [if_neg a, if_neg b]; exact ih
    · have e' : ¬ q.1 = k := fun z => e (h1.trans z)
      have a : decide (p.1 ≠ k) = true := by simp [e]
      have b : decide (q.1 ≠ k) = true := by simp [e']
      rw [if_pos a, if_pos b]; exact .cons ⟨h1, h2⟩ ih
theorem KV.keys {kvs : List (κ × V)} {vs : List (κ × Value)} (r : KV kvs vs) : kvs.map (·.1) = vs.map (·.1) := by
  unfold KV at r
  induction r with
  | nil => rfl
  | cons h t ih => rw [List.map_cons, List.map_cons, ih, h.1]
theorem KV.length {kvs : List (κ × V)} {vs : List (κ × Value)} (r : KV kvs vs) : kvs.length = vs.length := Paired.length r
end


/-! ### a tracked dict, its keys ints and texts or tuples of these -/
theorem kV_is {P : Program} {w : World} {k : Key} {u : Value} (r : RelV (kV k) u) : (mixKind P w).is k u = true := by
  cases k with
  | inl i => obtain ⟨t, e⟩ := (show ∃ t, u = Value.int i t from r); subst e; exact mixKind_int P w i t
  | inr x => obtain ⟨t, e⟩ := (show ∃ t, u = Value.str x t from r); subst e; exact mixKind_str P w x t
/-- raw entries of a dict with tuple keys -/
abbrev KT (H : Hp) : List (List Key × V) → List (List Key × Addr × Value) → Prop := Paired fun p q => p.1 = q.1 ∧ H q.2.1 = some (.tup (p.1.map kV)) ∧ RelV p.2 q.2.2
theorem KT.val {H : Hp} {kvs : List (List Key × V)} {xs : List (List Key × Addr × Value)} (r : KT H kvs xs) (k : List Key) : RelO (valV kvs k) ((atKey xs k).map (·.2)) := by
  induction r with
  | nil => exact True.intro
  | @cons p q ps qs h t ih =>
    obtain ⟨h1, _, h2⟩ := h
    by_cases e : p.1 = k
    · have e' : q.1 = k := h1.symm.trans e
      have b : atKey (q :: qs) k = some q.2 := by simp [atKey, List.find?_cons, e']
      rw [valV_pos e, b]; exact h2
    · have e' : ¬ q.1 = k := fun z => e (h1.trans z)
      have b : atKey (q :: qs) k = atKey qs k := by simp [atKey, List.find?_cons, e']
      rw [valV_neg e, b]; exact ih
theorem KT.repl {H : Hp} {kvs : List (List Key × V)} {xs : List (List Key × Addr × Value)} (r : KT H kvs xs) (k : List Key) {y : V} {u : Value} (ry : RelV y u) :
    KT H (kvs.map fun kv => if kv.1 = k then (kv.1, y) else kv) (xs.map (putAt k u)) := by
  induction r with
  | nil => exact .nil
  | @cons p q ps qs h t ih =>
    rw [List.map_cons, List.map_cons]
    refine .cons ?_ ih
    obtain ⟨h1, h2, h3⟩ := h
    unfold putAt
    by_cases e : p.1 = k
    · rw [if_pos e, if_pos (h1.symm.trans e)]; exact ⟨h1, h2, ry⟩
    · rw [if_neg e, if_neg (fun z => e (h1.trans z))]; exact ⟨h1, h2, h3⟩
theorem KT.put {H : Hp} {kvs : List (List Key × V)} {xs : List (List Key × Addr × Value)} (r : KT H kvs xs) (k : List Key) {b : Addr} {y : V} {u : Value} (hb : H b = some (.tup (k.map kV))) (ry : RelV y u) :
    KT H (putK kvs k y) (storedH xs k b u) := by
  have e : (kvs.any fun kv => decide (kv.1 = k)) = (atKey xs k).isSome := by
    rw [valV_any, (r.val k).isSome_eq, Option.isSome_map]
  unfold putK storedH
  rw [e]
  by_cases q : (atKey xs k).isSome = true
  · rw [if_pos q, if_pos q]; exact r.repl k ry
  · rw [if_neg q, if_neg q]; exact Paired.snoc r ⟨rfl, hb, ry⟩
theorem KT.keeps {H H' : Hp} {kvs : List (List Key × V)} {xs : List (List Key × Addr × Value)} (r : KT H kvs xs) (ht : ∀ b ys, H b = some (.tup ys) → H' b = some (.tup ys)) : KT H' kvs xs :=
  Paired.mapP r fun _ _ z => ⟨z.1, ht _ _ z.2.1, z.2.2⟩

section
variable {P : Program} {w : World} {H : Hp} {h : Heap} {a : Addr}
end

/-- what the dict at a holds at the key y -/
def DGet (H : Hp) (a : Addr) (y : V) (r : Option V) : Prop :=
  (∃ kvs k, Rd H a (.dK kvs) ∧ y = kV k ∧ r = valV kvs k) ∨ ∃ kvs k b, Rd H a (.dT kvs) ∧ y = .ref b ∧ H b = some (.tup (k.map kV)) ∧ r = valV kvs k
/-- the heap behind a[y] = v -/
def DPut (H : Hp) (a : Addr) (y v : V) (H' : Hp) : Prop :=
  (∃ kvs k, H a = some (.dK kvs) ∧ y = kV k ∧ kvs.length < sizeLine ∧ H' = upd H a (.dK (putK kvs k v))) ∨
  ∃ kvs k b, H a = some (.dT kvs) ∧ y = .ref b ∧ H b = some (.tup (k.map kV)) ∧ kvs.length < sizeLine ∧ H' = upd H a (.dT (putK kvs k v))
theorem DGet.k {H : Hp} {a : Addr} {kvs : List (Key × V)} {k : Key} (e : H a = some (.dK kvs)) : DGet H a (kV k) (valV kvs k) := .inl ⟨kvs, k, .inl e, rfl, rfl⟩
theorem DGet.t {H : Hp} {a b : Addr} {kvs : List (List Key × V)} {k : List Key} (e : H a = some (.dT kvs)) (eb : H b = some (.tup (k.map kV))) : DGet H a (.ref b) (valV kvs k) := .inr ⟨kvs, k, b, .inl e, rfl, eb, rfl⟩
theorem DPut.k {H : Hp} {a : Addr} {kvs : List (Key × V)} {k : Key} {v : V} (e : H a = some (.dK kvs)) (hl : kvs.length < sizeLine) : DPut H a (kV k) v (upd H a (.dK (putK kvs k v))) := .inl ⟨kvs, k, e, rfl, hl, rfl⟩
theorem DPut.t {H : Hp} {a b : Addr} {kvs : List (List Key × V)} {k : List Key} {v : V} (e : H a = some (.dT kvs)) (eb : H b = some (.tup (k.map kV))) (hl : kvs.length < sizeLine) :
    DPut H a (.ref b) v (upd H a (.dT (putK kvs k v))) := .inr ⟨kvs, k, b, e, rfl, eb, hl, rfl⟩


section
variable {X : Cx} {pins : List (Addr × Obj)} {σ : St} {H : Hp} {s : Shared} {a : Addr} {y v : V} {u r : Value} {o : Option V} {A : Around} {E : Value → Shared → Prop}

theorem Inv.big (I : Inv X pins σ H s) : sysModules < s.heap.objs.size := by
  have h : mainGlobals < s.heap.objs.size := (I.mod.glob.keeps I.bk).lt
  exact Nat.lt_trans (by decide) h

/-- a dict's object is replaced -/
theorem d_write {h' : Heap} {t' : Nat} {ob : HO} (I : Inv X pins σ H s) (mu : Mut (H a)) (hs : Heap.SameBut a s.heap h') (he : ∃ q, h'.get? a = some q) (new : ObjOk X.prog X.w (upd H a ob) h' a ob) :
    Inv X pins σ (upd H a ob) { s with heap := h', toks := t' } :=
  I.write (x := a) (e := a) mu (.inl rfl) (fun b q hb z => (hs.2 b hb).trans z) he new
end

section
variable {X : Cx} {pins : List (Addr × Obj)} {σ : St} {H : Hp} {s : Shared} {a : Addr} {kvs : List (Key × V)} {k : Key} {u : Value} {A : Around} {E : Value → Shared → Prop}
end


/-! ### readings and rules -/
/-- the element of a subscription, not a slice -/
def NoSl (i : Expr) : Prop := ∀ ov iv, subscripted i false ov iv = operate [ov, iv] (getItem ov iv)
theorem subD_of {prog : Program} {w : World} {A : Around} {E : Value → Shared → Prop} {s : Shared} {env : Env} {value slice : Expr} {pos : Pos} {T id : String} {Q : Value → Shared → Prop}
    (hl : typeLookup (.type T) "__getitem__" = pure (some (.builtin id))) (hs : NoSl slice)
    (h : wpAny (model prog w) A (eval value env) (fun o s₁ => wpAny (model prog w) A (eval slice env) (fun i s₂ => s₂.TypeIs o T ∧ wpAny (model prog w) A (getItem o i) Q E s₂) E s₁) E s) :
    wpAny (model prog w) A (eval (.Subscript value slice pos) env) Q E s := by
  refine Subscript_ (wpAny_mono h (fun o s₁ h₁ => wpAny_mono h₁ (fun i s₂ h₂ => ?_) fun _ _ x => x) fun _ _ x => x)
  obtain ⟨hT, h₂⟩ := h₂
  unfold subscriptTail
  refine wpAny_bind ?_
  rw [getitemInPython_of_ne hT.not_modules]
  refine wpAny_bind (wpAny_specialOf hT hl ?_)
  have fin : wpAny (model prog w) A (subscripted slice false o i) (fun r s₃ => wpAny (model prog w) A (letTemporaryGo value o r >>= fun _ => pure r) Q E s₃) E s₂ := by
    rw [hs o i]
    exact wpAny_operating (wpAny_mono h₂ (fun r s₃ h₃ => wpAny_bind (wpAny_letTemporaryGo (wpAny_pure h₃))) fun _ _ x => x)
  first
    | exact wpAny_pure (wpAny_bind fin)
    | exact wpAny_bind (wpAny_pure (wpAny_bind fin))
    | exact wpAny_bind fin

section
variable {X : Cx} {o i e value : Expr} {pos pos' tpos : Pos} {td ty tv : TE}
end


/-! ### displays -/
section
variable {X : Cx} {pos : Pos}
end

/-! ### methods -/
/-- a method call o.m(e) of a built-in, with one argument: what must be seen of the text -/
structure M1 (X : Cx) (o : Expr) (m : Str) (apos : Pos) (e : Expr) (cpos : Pos) : Prop where
  base : attributeBase o m X.env (eval o X.env) = eval o X.env
  few : ((backTo cpos (starEach [e] X.env)).all (fun x => !x.1) && (backToKw cpos (keywordEach [] X.env)).all (fun x => x.1.isSome)
    && decide (([e] : List Expr).length + ([] : List Keyword).length + (if ([] : List Keyword).isEmpty then 0 else 1) < 30)) = true
  line : (apos.endLine == cpos.line) = true
  trees : backTo cpos (starEach [e] X.env) = [(false, eval e X.env)]
structure M2 (X : Cx) (o : Expr) (m : Str) (apos : Pos) (e f : Expr) (cpos : Pos) : Prop where
  base : attributeBase o m X.env (eval o X.env) = eval o X.env
  few : ((backTo cpos (starEach [e, f] X.env)).all (fun x => !x.1) && (backToKw cpos (keywordEach [] X.env)).all (fun x => x.1.isSome)
    && decide (([e, f] : List Expr).length + ([] : List Keyword).length + (if ([] : List Keyword).isEmpty then 0 else 1) < 30)) = true
  line : (apos.endLine == cpos.line) = true
  trees : backTo cpos (starEach [e, f] X.env) = [(false, eval e X.env), (false, eval f X.env)]

section
variable {X : Cx} {pins : List (Addr × Obj)} {σ : St} {H : Hp} {s : Shared} {a : Addr} {y d : V} {u r : Value} {o : Option V} {A : Around} {E : Value → Shared → Prop}
end

section
variable {X : Cx} {o e f : Expr} {apos cpos : Pos} {td ty tx : TE}
end

/-! ### dict(d): a copy -/
section
variable {X : Cx} {pins : List (Addr × Obj)} {σ : St} {H : Hp} {s : Shared} {a : Addr} {kvs : List (Key × V)} {A : Around} {E : Value → Shared → Prop}
end


section
variable {X : Cx} {pins : List (Addr × Obj)} {σ : St} {H : Hp} {s : Shared} {a : Addr} {y : V} {u : Value} {A : Around} {E : Value → Shared → Prop}
end
end L2

namespace HT
open PySem PyProof.Rows

/-- t < u of tuples of ints -/
def lexLt : List Int → List Int → Bool
  | [], [] => false
  | [], _ :: _ => true
  | _ :: _, [] => false
  | x :: xs, y :: ys => if x = y then lexLt xs ys else decide (x < y)
section
open PySem.SeqAt
open PySem.AutoSeq1 (wpAny_loadPart')
open PySem.MeetsSeq PySem.MeetsSeq2 PySem.MeetsSeq3

end

section
variable {prog : Program} {w : World} {A : Around} {E : Value → Shared → Prop} {s : Shared}

/-- t + u, t not empty -/
theorem cat_tup {t b : Addr} {vs ws : List Value} {Q : Value → Shared → Prop} (ht : IsTup s.heap t vs.toArray) (hb : IsTup s.heap b ws.toArray) (hv : vs ≠ [])
    (h1 : ws = [] → Q (.ref t) s) (h2 : ws ≠ [] → Q (.ref s.heap.objs.size) { s with heap := s.heap.push { cls := .type "tuple", data := .seq (vs ++ ws).toArray } })
    (hsz : vs.length + ws.length ≤ sizeLine) : wpAny (model prog w) A (binaryOp .Add (.ref t) (.ref b)) Q E s := by
  obtain ⟨⟨cls, dd, data, sl⟩, ho, hc, n, hd⟩ := id ht
  obtain ⟨⟨cls2, dd2, data2, sl2⟩, ho2, hc2, n2, hd2⟩ := id hb
  simp only at hc hd hc2 hd2
  subst hc hd hc2 hd2
  have e : vs.toArray ++ ws.toArray = (vs ++ ws).toArray := by simp
  by_cases hw : ws = []
  · exact concat_meets ⟨_, ho, rfl⟩ ⟨_, ho2, rfl⟩ noFill_tuple_add seq_tuple_add PySem.F.slot_tuple_add PySem.F.entry_tuple_add (PySem.F.args_tuple_add_2 _ _)
      (tuple_addW1 t b vs.toArray ws.toArray n n2 dd dd2 sl sl2 (by simpa using hv) (by simp [hw])) ⟨ho, ho2, h1 hw⟩
  · refine concat_meets ⟨_, ho, rfl⟩ ⟨_, ho2, rfl⟩ noFill_tuple_add seq_tuple_add PySem.F.slot_tuple_add PySem.F.entry_tuple_add (PySem.F.args_tuple_add_2 _ _)
      (tuple_addW2 t b vs.toArray ws.toArray n n2 dd dd2 sl sl2 (by simpa using hv) (by simpa using hw) (by rw [List.size_toArray, List.size_toArray]; exact hsz)) ⟨ho, ho2, ?_⟩
    rw [e]
    exact h2 hw

/-! ### t[a:b], not the whole -/
/-- a slice's bound as a place among n (d where it is left out) -/
def sIx (n d : Nat) : Option Int → Nat
  | none => d
  | some v => if v < 0 then (v + (n : Int)).toNat else min v.toNat n
end
end HT

namespace L2
open PySem PySem.Spec PyProof.Rows

/-! ### the parts of a slice -/
abbrev TO := St → Hp → (Option Int → Hp → Prop) → Prop
/-- a slice's part (left out, or an int) -/
def PO (X : Cx) (e : Option Expr) (t : TO) : Prop :=
  ∀ (pins : List (Addr × Obj)) (s : Shared) (σ : St) (H : Hp) (Q : Option Int → Hp → Prop), Inv X pins σ H s → t σ H Q →
    wpAny (model X.prog X.w) X.A (evalPart e X.env) (fun u s' => ∃ o H', Inv X pins σ H' s' ∧ IsPart u o ∧ Q o H') X.xe s
def tNoPart : TO := fun _ H Q => Q none H
def tPart (t : TE) : TO := fun σ H Q => t σ H fun x H1 => ∃ i, x = .int i ∧ Q (some i) H1

section
variable {X : Cx} {e : Expr} {te : TE} {lo hi : Option Expr} {tl th : TO} {pos p2 : Pos}

theorem po_none : PO X none tNoPart := by
  intro pins s σ H Q I h
  rw [evalPart_none]
  exact wpAny_pure ⟨none, H, I, .none, h⟩
theorem po_some (h : PE X e te) : PO X (some e) (tPart te) := by
  intro pins s σ H Q I hw
  rw [evalPart_some]
  refine thn (h pins s σ H _ I hw) fun u s1 ⟨x, H1, I1, r1, q1⟩ => ?_
  obtain ⟨i, rfl, q⟩ := q1
  obtain ⟨t, rfl⟩ := r1
  exact ⟨some i, H1, I1, .int i t, q⟩

/-- what a slice of a value is, by values: the slice object stands at sl -/
def SlR (X : Cx) (r : V → Option Int → Option Int → Hp → VK → Prop) : Prop :=
  ∀ (pins : List (Addr × Obj)) (s : Shared) (σ : St) (H : Hp) (x : V) (v vl vu : Value) (lo hi : Option Int) (sl : Addr) (Q : VK), Inv X pins σ H s → RelV x v → s.heap.IsSliceOf sl vl vu .none → IsPart vl lo → IsPart vu hi → r x lo hi H Q →
    ∃ T id, typeLookup (.type T) "__getitem__" = pure (some (.builtin id)) ∧ s.TypeIs v T ∧ wpAny (model X.prog X.w) X.A (getItem v (.ref sl)) (EP X pins σ Q) X.xe s
theorem SlR.or {r r' : V → Option Int → Option Int → Hp → VK → Prop} (h : SlR X r) (h' : SlR X r') : SlR X (fun x lo hi H Q => r x lo hi H Q ∨ r' x lo hi H Q) := by
  intro pins s σ H x v vl vu lo hi sl Q I rx hs pl pu q
  rcases q with q | q
  · exact h pins s σ H x v vl vu lo hi sl Q I rx hs pl pu q
  · exact h' pins s σ H x v vl vu lo hi sl Q I rx hs pl pu q
def tSl (r : V → Option Int → Option Int → Hp → VK → Prop) (te : TE) (tl th : TO) : TE := fun σ H Q => te σ H fun x H1 => tl σ H1 fun l H2 => th σ H2 fun u H3 => r x l u H3 Q
/-- a[lo:hi], any a -/
theorem pe_slice {r : V → Option Int → Option Int → Hp → VK → Prop} (hr : SlR X r) (he : PE X e te) (hl : PO X lo tl) (hu : PO X hi th) : PE X (.Subscript e (.Slice lo hi none p2) pos) (tSl r te tl th) := by
  intro pins s σ H Q I h
  refine Subscript_ (thn (he pins s σ H _ I h) fun v s1 ⟨x, H1, I1, r1, q1⟩ => ?_)
  refine wpAny_Slice (thn (hl pins s1 σ H1 _ I1 q1) fun vl s2 ⟨l, H2, I2, pl, q2⟩ => thn (hu pins s2 σ H2 _ I2 q2) fun vu s3 ⟨u, H3, I3, pu, q3⟩ => ?_)
  rw [evalPart_none]
  refine wpAny_pure ?_
  have I4 : Inv X pins σ H3 { s3 with heap := s3.heap.push { cls := .type "slice", data := .fields #[vl, vu, .none] } } := I3.kept (t' := s3.toks) fun b ob q => Heap.get?_push_of_some _ q
  obtain ⟨T, id, hT, ht, hg⟩ := hr pins { s3 with heap := s3.heap.push { cls := .type "slice", data := .fields #[vl, vu, .none] } } σ H3 x v vl vu l u s3.heap.objs.size Q I4 r1 (Heap.IsSliceOf.new ..) pl pu q3
  show wpAny (model X.prog X.w) X.A (subscriptTail e (.Slice lo hi none p2) v (.ref s3.heap.objs.size)) (EP X pins σ Q) X.xe { s3 with heap := s3.heap.push { cls := .type "slice", data := .fields #[vl, vu, .none] } }
  exact tail_any (ops := [.ref s3.heap.objs.size, v]) ht hT hg (by with_unfolding_all rfl)

/-- the items of xs[lo:hi] -/
def cutV (xs : List V) (lo hi : Option Int) : List V := (xs.drop (HT.sIx xs.length 0 lo)).take (HT.sIx xs.length xs.length hi - HT.sIx xs.length 0 lo)
theorem cutV_length (xs : List V) (lo hi : Option Int) : (cutV xs lo hi).length ≤ xs.length := by
  unfold cutV
  rw [List.length_take, List.length_drop]
  omega
/-! ### t < u, t + u -/
/-- t + u, t not empty: u empty gives t itself -/
def rCatT (K : PySem.W.Frag) : R2 := fun x y H Q => ∃ a b xs ys, x = .ref a ∧ y = .ref b ∧ SqT K H a xs ∧ SqT K H b ys ∧ xs ≠ [] ∧ xs.length + ys.length ≤ sizeLine ∧
  (ys = [] → Q (.ref a) H) ∧ (ys ≠ [] → ∀ p, H p = none → Q (.ref p) (upd H p (.tup (xs ++ ys))))
theorem Vals.nil_iff {xs : List V} {us : List Value} (r : Vals xs us) : us = [] ↔ xs = [] := by
  cases r with
  | nil => simp
  | cons _ _ => simp
theorem op_catT : OpR X (binaryOp .Add) (rCatT X.K) := by
  intro pins s σ H x y v u Q I rx ry h
  obtain ⟨a, b, xs, ys, rfl, rfl, ha, hb, hx, hz, q1, q2⟩ := h
  cases rx
  cases ry
  obtain ⟨its, r1, p1, _⟩ := I.tuple ha
  obtain ⟨its2, r2, p2, _⟩ := I.tuple hb
  refine HT.cat_tup p1 p2 (fun z => hx (r1.nil_iff.mp z)) (fun z => ⟨.ref a, H, I, rfl, q1 (r2.nil_iff.mp z)⟩) (fun z => ?_) (by rw [← r1.length, ← r2.length]; exact hz)
  refine ⟨.ref s.heap.objs.size, _, I.laid (t' := s.toks) (o := .tup (xs ++ ys)) (fun b ob q => Heap.get?_push_of_some _ q) (Nat.le_refl _) ?_, rfl, q2 (fun w => z (r2.nil_iff.mpr w)) _ (I.hok.fresh (Nat.le_refl _))⟩
  exact ⟨by rw [List.length_append]; exact hz, _, r1.append r2, IsTup.new _ _⟩
end
end L2

namespace L2
open PySem PySem.Spec PyProof.Rows

/-! ### places -/
/-- the place that an index of any sign means -/
def ixN (n : Nat) (i : Int) : Option Nat := if 0 ≤ i then (if i < n then some i.toNat else none) else if -(n : Int) ≤ i then some (i + n).toNat else none
def atI {α : Type} (xs : List α) (i : Int) : Option α := (ixN xs.length i).bind fun j => xs[j]?
theorem ixN_seq {n : Nat} {i : Int} {j : Nat} (h : ixN n i = some j) : seqIndex? i n = some j ∧ j < n ∧ -(n : Int) ≤ i ∧ i < n := by
  unfold ixN at h
  by_cases h0 : 0 ≤ i
  · rw [if_pos h0] at h
    by_cases h1 : i < n
    · rw [if_pos h1] at h
      have e : i.toNat = j := Option.some.inj h
      exact ⟨by rw [seqIndex_of h0 h1, e], by omega, by omega, h1⟩
    · rw [if_neg h1] at h; cases h
  · rw [if_neg h0] at h
    by_cases h1 : -(n : Int) ≤ i
    · rw [if_pos h1] at h
      have e : (i + n).toNat = j := Option.some.inj h
      exact ⟨by rw [seqIndex_neg (by omega) h1, e], by omega, h1, by omega⟩
    · rw [if_neg h1] at h; cases h
theorem atI_get {α : Type} {xs : List α} {i : Int} {v : α} (h : atI xs i = some v) : ∃ j, seqIndex? i xs.length = some j ∧ xs[j]? = some v ∧ j < xs.length ∧ -(xs.length : Int) ≤ i ∧ i < xs.length := by
  unfold atI at h
  cases e : ixN xs.length i with
  | none => rw [e] at h; cases h
  | some j =>
    rw [e] at h
    obtain ⟨h1, h2, h3, h4⟩ := ixN_seq e
    exact ⟨j, h1, h, h2, h3, h4⟩
theorem atI_nat {α : Type} {xs : List α} {j : Nat} {v : α} (h : xs[j]? = some v) : atI xs (j : Int) = some v := by
  have hj : j < xs.length := (List.getElem?_eq_some_iff.mp h).1
  have e : ixN xs.length (j : Int) = some j := by
    unfold ixN
    rw [if_pos (by omega), if_pos (by omega)]; simp
  unfold atI; rw [e]; exact h
theorem atI_last {α : Type} (xs : List α) (v : α) : atI (xs ++ [v]) (-1) = some v := by
  have hl : (xs ++ [v]).length = xs.length + 1 := by simp
  have e : ixN (xs ++ [v]).length (-1) = some xs.length := by
    unfold ixN
    rw [hl, if_neg (by decide), if_pos (by omega)]
    congr 1
    omega
  unfold atI
  rw [e]
  show (xs ++ [v])[xs.length]? = some v
  simp

/-! ### what may be subscripted -/
/-- what stands as an index of a plain subscript -/
def PlainIx (b : Expr) : Prop := ∀ o i, subscripted b false o i = operate [o, i] (getItem o i)
/-- a subscript by values -/
def IxR (X : Cx) (r : R2) : Prop :=
  ∀ (value slice : Expr) (pins : List (Addr × Obj)) (s : Shared) (σ : St) (H : Hp) (x y : V) (v u : Value) (Q : VK), Inv X pins σ H s → RelV x v → RelV y u → r x y H Q →
    subscripted slice false v u = operate [v, u] (getItem v u) → wpAny (model X.prog X.w) X.A (subscriptTail value slice v u) (EP X pins σ Q) X.xe s
/-- a call of a builtin's method by values: the receiver, the arguments -/
def MtR (X : Cx) (id : String) (r : V → List V → Hp → VK → Prop) : Prop :=
  ∀ (pins : List (Addr × Obj)) (s : Shared) (σ : St) (H : Hp) (x : V) (xs : List V) (v : Value) (us : List Value) (Q : VK), Inv X pins σ H s → RelV x v → Vals xs us → r x xs H Q →
    wpAny (model X.prog X.w) X.A (call (.builtin id) (v :: us)) (EP X pins σ Q) X.xe s
section
variable {X : Cx} {a b : Expr} {ta tb : TE} {pos : Pos}
theorem IxR.or {r r' : R2} (h : IxR X r) (h' : IxR X r') : IxR X (fun x y H Q => r x y H Q ∨ r' x y H Q) := by
  intro value slice pins s σ H x y v u Q I rx ry q hs
  rcases q with q | q
  · exact h value slice pins s σ H x y v u Q I rx ry q hs
  · exact h' value slice pins s σ H x y v u Q I rx ry q hs
theorem MtR.or {id : String} {r r' : V → List V → Hp → VK → Prop} (h : MtR X id r) (h' : MtR X id r') : MtR X id (fun x xs H Q => r x xs H Q ∨ r' x xs H Q) := by
  intro pins s σ H x xs v us Q I rx rs q
  rcases q with q | q
  · exact h pins s σ H x xs v us Q I rx rs q
  · exact h' pins s σ H x xs v us Q I rx rs q
/-- a[b] -/
theorem pe_ix {r : R2} (hr : IxR X r) (ha : PE X a ta) (hb : PE X b tb) (hs : PlainIx b) : PE X (.Subscript a b pos) (tOp r ta tb) := by
  intro pins s σ H Q I h
  exact Subscript_ (binT ha hb I h fun v u s2 x y H2 I2 rx ry q => hr a b pins s2 σ H2 x y v u Q I2 rx ry q (hs _ _))

def rIxL (K : PySem.W.Frag) : R2 := fun x y H Q => ∃ p xs i v, x = .ref p ∧ y = .int i ∧ SqL K H p xs ∧ atI xs i = some v ∧ Q v H
def rIxT (K : PySem.W.Frag) : R2 := fun x y H Q => ∃ p xs i v, x = .ref p ∧ y = .int i ∧ SqT K H p xs ∧ atI xs i = some v ∧ Q v H
theorem ix_list : IxR X (rIxL X.K) := by
  intro value slice pins s σ H x y v u Q I rx ry h hs
  obtain ⟨p, xs, i, z, rfl, rfl, hq, he, q⟩ := h
  cases rx
  obtain ⟨t, rfl⟩ := ry
  obtain ⟨its, r, pl, hz⟩ := I.list hq
  obtain ⟨j, h1, h2, h3, h4, h5⟩ := atI_get he
  obtain ⟨w, ew, rw'⟩ := r.get h2
  have hl := r.length
  have hn := line63
  have fin : EP X pins σ Q w s := ⟨z, H, I, rw', q⟩
  by_cases h0 : 0 ≤ i
  · have hj : i.toNat = j := by
      rw [seqIndex_of h0 h5] at h1
      exact Option.some.inj h1
    exact item_listR pl.isList h0 (by omega) (by rw [hj]; simpa using ew) fin hs
  · have hj : (i + (its.toArray.size : Int)).toNat = j := by
      rw [seqIndex_neg (by omega) h4] at h1
      rw [List.size_toArray, ← hl]
      exact Option.some.inj h1
    exact subscriptTail_builtinR (x := w) pl.isList.typeIs slot_list_getitem.lookup
      (wpAny_getItem_list_neg (Q := fun r s' => r = w ∧ EP X pins σ Q r s') pl.isList (by omega) (by rw [List.size_toArray] <;> omega) (by omega) (by rw [hj]; simpa using ew) ⟨rfl, fin⟩) hs
theorem ix_tup : IxR X (rIxT X.K) := by
  intro value slice pins s σ H x y v u Q I rx ry h hs
  obtain ⟨p, xs, i, z, rfl, rfl, hq, he, q⟩ := h
  cases rx
  obtain ⟨t, rfl⟩ := ry
  obtain ⟨its, r, pl, hz⟩ := I.tuple hq
  obtain ⟨j, h1, h2, h3, h4, h5⟩ := atI_get he
  obtain ⟨w, ew, rw'⟩ := r.get h2
  have hl := r.length
  have hn := line63
  have fin : EP X pins σ Q w s := ⟨z, H, I, rw', q⟩
  exact subscriptTail_builtinR (x := w) pl.typeIs slot_tuple_getitem.lookup
    (getItem_tuple (j := j) (Q := fun r s' => r = w ∧ EP X pins σ Q r s') pl (by omega) (by omega) (by rw [List.size_toArray, ← hl]; exact h1) (by simpa using ew) ⟨rfl, fin⟩) hs
/-! ### xs[i] = v, any sign -/
theorem Inv.lst {pins : List (Addr × Obj)} {σ : St} {H : Hp} {s : Shared} {p : Addr} {xs : List V} (I : Inv X pins σ H s) (h : H p = some (.lst xs)) :
    ∃ (its : List Value) (n : Nat), Vals xs its ∧ s.heap.get? p = some { cls := .type "list", data := .seq its.toArray n } ∧ xs.length ≤ sizeLine := by
  obtain ⟨z, its, n, r, e⟩ := I.hok p _ h
  exact ⟨its, n, r, e, z⟩
/-! ### slices -/
theorem slice_bounds (lo hi : Option Int) (n : Nat) : (sliceBounds lo hi none n).1 = ((HT.sIx n 0 lo : Nat) : Int) ∧ (sliceBounds lo hi none n).2.1 = ((HT.sIx n n hi : Nat) : Int) ∧ (sliceBounds lo hi none n).2.2 = 1 := by
  refine ⟨?_, ?_, rfl⟩
  · cases lo with
    | none => simp [sliceBounds, HT.sIx]
    | some i =>
      simp only [sliceBounds, HT.sIx, Option.getD_none, show (1 : Int) > 0 by decide, if_true]
      by_cases h : i < 0
      · simp only [h, if_true] <;> omega
      · simp only [h, if_false] <;> omega
  · cases hi with
    | none => simp [sliceBounds, HT.sIx]
    | some i =>
      simp only [sliceBounds, HT.sIx, Option.getD_none, show (1 : Int) > 0 by decide, if_true]
      by_cases h : i < 0
      · simp only [h, if_true] <;> omega
      · simp only [h, if_false] <;> omega
theorem slicePick_cut (its : List Value) (lo hi : Option Int) : slicePick its.toArray lo hi none = ((its.drop (HT.sIx its.length 0 lo)).take (HT.sIx its.length its.length hi - HT.sIx its.length 0 lo)).toArray := by
  obtain ⟨h1, h2, h3⟩ := slice_bounds lo hi its.toArray.size
  unfold slicePick
  rw [h1, h2, h3]
  simp only [sliceRange_one, pick_run, List.size_toArray] <;> rfl
/-- xs[lo:hi] of a list: a new list -/
def rSlL (K : PySem.W.Frag) : V → Option Int → Option Int → Hp → VK → Prop := fun x lo hi H Q => ∃ a xs, x = .ref a ∧ SqL K H a xs ∧ ∀ p, H p = none → Q (.ref p) (upd H p (.lst (cutV xs lo hi)))
theorem sl_list : SlR X (rSlL X.K) := by
  intro pins s σ H x v vl vu lo hi sl Q I rx hs pl pu h
  obtain ⟨a, xs, rfl, hx, q⟩ := h
  cases rx
  obtain ⟨its, r, ht, hz⟩ := I.list hx
  have hlen := r.length
  refine ⟨"list", _, slot_list_getitem.lookup, ht.isList.typeIs, ?_⟩
  refine wpAny_getItem_list_slice ht.isList hs pl pu .none (by simp) ?_ (by rw [List.size_toArray] <;> omega)
  rw [slicePick_cut, ← hlen]
  refine ⟨.ref s.heap.objs.size, _, I.laid (t' := s.toks) (o := .lst (cutV xs lo hi)) (fun b ob q => Heap.get?_push_of_some _ q) (Nat.le_refl _) ?_, rfl, q _ (I.hok.fresh (Nat.le_refl _))⟩
  exact ⟨Nat.le_trans (cutV_length xs lo hi) hz, _, 0, (r.drop (HT.sIx xs.length 0 lo)).take (HT.sIx xs.length xs.length hi - HT.sIx xs.length 0 lo), Heap.get?_push_size _ rfl⟩

/-! ### in, not in: flat items -/
def flatV : V → Bool
  | .non => true
  | .bl _ => true
  | .int _ => true
  | .str _ => true
  | _ => false
/-- == of flat values -/
def eqV : V → V → Bool
  | .non, .non => true
  | .bl a, .bl b => a == b
  | .bl a, .int b => (if a then 1 else 0) == b
  | .int a, .bl b => a == (if b then 1 else 0)
  | .int a, .int b => a == b
  | .str a, .str b => a == b
  | _, _ => false
theorem eqAt_V {A : Around} {s : Shared} {y x : V} {u v : Value} (ry : RelV y u) (rx : RelV x v) (fy : flatV y = true) (fx : flatV x = true) : SeqAt.EqAt A s u v (eqV y x) := by
  cases y with
  | non =>
    cases ry
    cases x with
    | non => cases rx; exact SeqAt.EqAt.same _
    | bl b => cases rx; exact SeqAt.EqAt.none_bool b
    | int b => obtain ⟨t, rfl⟩ := rx; exact SeqAt.EqAt.none_int b t
    | str b => obtain ⟨t, rfl⟩ := rx; exact SeqAt.EqAt.none_str b t
    | _ => exact absurd (show false = true from fx) Bool.false_ne_true
  | bl a =>
    cases ry
    cases x with
    | non => cases rx; exact SeqAt.EqAt.bool_none a
    | bl b => cases rx; exact SeqAt.EqAt.bool_bool a b
    | int b => obtain ⟨t, rfl⟩ := rx; exact SeqAt.EqAt.bool_int a b t
    | str b => obtain ⟨t, rfl⟩ := rx; exact SeqAt.EqAt.bool_str a b t
    | _ => exact absurd (show false = true from fx) Bool.false_ne_true
  | int a =>
    obtain ⟨t', rfl⟩ := ry
    cases x with
    | non => cases rx; exact SeqAt.EqAt.int_none a t'
    | bl b => cases rx; exact SeqAt.EqAt.int_bool a t' b
    | int b => obtain ⟨t, rfl⟩ := rx; exact SeqAt.EqAt.int_int a t' b t
    | str b => obtain ⟨t, rfl⟩ := rx; exact SeqAt.EqAt.int_str a t' b t
    | _ => exact absurd (show false = true from fx) Bool.false_ne_true
  | str a =>
    obtain ⟨t', rfl⟩ := ry
    cases x with
    | non => cases rx; exact SeqAt.EqAt.str_none a t'
    | bl b => cases rx; exact SeqAt.EqAt.str_bool a t' b
    | int b => obtain ⟨t, rfl⟩ := rx; exact SeqAt.EqAt.str_int a t' b t
    | str b => obtain ⟨t, rfl⟩ := rx; exact SeqAt.EqAt.str_str a t' b t
    | _ => exact absurd (show false = true from fx) Bool.false_ne_true
  | _ => exact absurd (show false = true from fy) Bool.false_ne_true
/-- the items' answers, read off the values (a value's own answer does not lean on its token) -/
def eqU (x : V) (u : Value) : Bool := match u with
  | .none => eqV .non x
  | .bool b => eqV (.bl b) x
  | .int i _ => eqV (.int i) x
  | .str z _ => eqV (.str z) x
  | _ => false
theorem eqU_of {x y : V} {u : Value} (r : RelV y u) (f : flatV y = true) : eqU x u = eqV y x := by
  cases y with
  | non => cases r; rfl
  | bl b => cases r; rfl
  | int i => obtain ⟨t, rfl⟩ := r; rfl
  | str z => obtain ⟨t, rfl⟩ := r; rfl
  | _ => exact absurd (show false = true from f) Bool.false_ne_true
theorem any_eqU {x : V} : ∀ {xs : List V} {us : List Value}, Vals xs us → xs.all flatV = true → us.any (eqU x) = xs.any fun y => eqV y x
  | _, _, .nil, _ => rfl
  | y :: xs, u :: us, .cons r t, f => by
    rw [List.all_cons, Bool.and_eq_true] at f
    rw [List.any_cons, List.any_cons, eqU_of r f.1, any_eqU t f.2]
theorem mem_eqAt {A : Around} {s : Shared} {x : V} {v : Value} (rx : RelV x v) (fx : flatV x = true) : ∀ {xs : List V} {us : List Value}, Vals xs us → xs.all flatV = true → ∀ u ∈ us, SeqAt.EqAt A s u v (eqU x u)
  | _, _, .nil, _ => fun u hu => by cases hu
  | y :: xs, u :: us, .cons r t, f => fun u' hu => by
    rw [List.all_cons, Bool.and_eq_true] at f
    rcases List.mem_cons.mp hu with rfl | hu
    · rw [eqU_of r f.1]; exact eqAt_V r rx f.1 fx
    · exact mem_eqAt rx fx t f.2 u' hu
def inV (x : V) (xs : List V) : Bool := xs.any fun y => eqV y x
/-- x in a list or tuple of flat items -/
def rIn (K : PySem.W.Frag) (neg : Bool) : R2 := fun x y H Q => ∃ p xs, y = .ref p ∧ (SqL K H p xs ∨ SqT K H p xs) ∧ flatV x = true ∧ xs.all flatV = true ∧ Q (.bl (if neg then !inV x xs else inV x xs)) H
theorem op_notIn_seq : OpR X (compareOp .NotIn) (rIn X.K true) := by
  intro pins s σ H x y v u Q I rx ry h
  obtain ⟨p, xs, rfl, hq, fx, fs, q⟩ := h
  cases ry
  rcases hq with hq | hq
  · obtain ⟨its, r, pl, hz⟩ := I.list hq
    refine SeqAt.notIn_listAt (eqU x) pl.isList (fun w hw => mem_eqAt rx fx r fs w (by simpa using hw)) ⟨.bl _, H, I, rfl, ?_⟩
    rw [show its.toArray.any (eqU x) = its.any (eqU x) by simp, any_eqU r fs]
    exact q
  · obtain ⟨its, r, pl, hz⟩ := I.tuple hq
    refine SeqAt.notIn_tupleAt (eqU x) pl (fun w hw => mem_eqAt rx fx r fs w (by simpa using hw)) ⟨.bl _, H, I, rfl, ?_⟩
    rw [show its.toArray.any (eqU x) = its.any (eqU x) by simp, any_eqU r fs]
    exact q
/-! ### len, list(x), tuple(x) of any list or tuple that is read -/
theorem call_len_seq : CallR X (.builtin "len") (fun xs H Q => ∃ p ys, xs = [.ref p] ∧ (SqL X.K H p ys ∨ SqT X.K H p ys) ∧ Q (.int ys.length) H) := by
  intro pins s σ H xs us Q I r h
  obtain ⟨p, ys, rfl, hq, q⟩ := h
  obtain ⟨u, rfl, rx⟩ := vals1 r
  cases rx
  have hn := line63
  rcases hq with hq | hq
  · obtain ⟨its, r', pl, hz⟩ := I.list hq
    have hlen := r'.length
    exact Calls.call_len_list pl.isList (by simp only [List.size_toArray] <;> omega) ⟨.int ys.length, H, I.tok _, ⟨s.toks + 1, by rw [List.size_toArray, hlen]⟩, q⟩
  · obtain ⟨its, r', pl, hz⟩ := I.tuple hq
    have hlen := r'.length
    exact len_tuple pl (by simp only [List.size_toArray] <;> omega) ⟨.int ys.length, H, I.tok _, ⟨s.toks + 1, by rw [List.size_toArray, hlen]⟩, q⟩
theorem CallR.or {f : Value} {r r' : List V → Hp → VK → Prop} (h : CallR X f r) (h' : CallR X f r') : CallR X f (fun xs H Q => r xs H Q ∨ r' xs H Q) := by
  intro pins s σ H xs us Q I rs q
  rcases q with q | q
  · exact h pins s σ H xs us Q I rs q
  · exact h' pins s σ H xs us Q I rs q
theorem call_list_of : CallR X (.type "list") (fun xs H Q => ∃ p ys, xs = [.ref p] ∧ (SqL X.K H p ys ∨ SqT X.K H p ys) ∧ ∀ l, H l = none → Q (.ref l) (upd H l (.lst ys))) := by
  intro pins s σ H xs us Q I r h
  obtain ⟨p, ys, rfl, hq, q⟩ := h
  obtain ⟨u, rfl, rx⟩ := vals1 r
  cases rx
  have fin : ∀ (its : List Value), Vals ys its → ys.length ≤ sizeLine → ∀ (h' : Heap) (c' : Nat), (∀ b o', s.heap.get? b = some o' → h'.get? b = some o') →
      h'.get? s.heap.objs.size = some { cls := .type "list", dict := none, data := .seq its.toArray c', slots := #[] } → EP X pins σ Q (.ref s.heap.objs.size) { s with heap := h' } := fun its r' hz h' c' kp e =>
    ⟨.ref s.heap.objs.size, _, I.laid (t' := s.toks) kp (Nat.le_refl _) (show ObjOk X.prog X.w _ h' _ (.lst ys) from ⟨hz, its, c', r', e⟩), rfl, q _ (I.hok.fresh (Nat.le_refl _))⟩
  rcases hq with hq | hq
  · obtain ⟨its, r', pl, hz⟩ := I.list hq
    have hlen := r'.length
    obtain ⟨o, ho, hc, n, hd⟩ := pl.isList
    exact call_list_seq p (.inl rfl) ho hc hd (fun h' c' kp e => fin its r' hz h' c' kp e) (by simp only [List.size_toArray] <;> omega)
  · obtain ⟨its, r', pl, hz⟩ := I.tuple hq
    have hlen := r'.length
    obtain ⟨o, ho, hc, n, hd⟩ := pl
    exact call_list_seq p (.inr rfl) ho hc hd (fun h' c' kp e => fin its r' hz h' c' kp e) (by simp only [List.size_toArray] <;> omega)
theorem call_tuple_of : CallR X (.type "tuple") (fun xs H Q => ∃ p ys, xs = [.ref p] ∧ ((SqL X.K H p ys ∧ ∀ l, H l = none → Q (.ref l) (upd H l (.tup ys))) ∨ (SqT X.K H p ys ∧ Q (.ref p) H))) := by
  intro pins s σ H xs us Q I r h
  obtain ⟨p, ys, rfl, h⟩ := h
  obtain ⟨u, rfl, rx⟩ := vals1 r
  cases rx
  rcases h with ⟨hq, q⟩ | ⟨hq, q⟩
  · obtain ⟨its, r', pl, hz⟩ := I.list hq
    have hlen := r'.length
    refine call_tuple_list pl.isList (fun h' kp => ?_) (by simp only [List.size_toArray] <;> omega)
    have I1 : Inv X pins σ H { s with heap := h' } := I.kept (t' := s.toks) kp
    have I2 : Inv X pins σ (upd H h'.objs.size (.tup ys)) { s with heap := h'.push { cls := .type "tuple", data := .seq its.toArray } } :=
      I1.laid (t' := s.toks) (fun b o e => Heap.get?_push_of_some _ e) (Nat.le_refl _) (show ObjOk X.prog X.w _ _ _ (.tup ys) from ⟨hz, its, r', IsTup.new _ _⟩)
    exact ⟨.ref h'.objs.size, _, I2, rfl, q _ (I1.hok.fresh (Nat.le_refl _))⟩
  · obtain ⟨its, r', pl, hz⟩ := I.tuple hq
    exact call_tuple_same pl ⟨.ref p, H, I, rfl, q⟩

/-! ### the call of a builtin's method: o.m(..) -/
/-- the value is of that builtin type -/
def tyV (K : PySem.W.Frag) (T : String) (x : V) (H : Hp) : Prop := match x with
  | .str _ => T = "str"
  | .int _ => T = "int"
  | .ref p => (T = "list" ∧ ∃ xs, SqL K H p xs) ∨ (T = "tuple" ∧ ∃ o, K.lookup p = some o ∧ o.cls = .type "tuple" ∧ o.dict = none) ∨
      (T = "dict" ∧ ((∃ kvs, H p = some (.dK kvs)) ∨ ∃ kvs, H p = some (.dT kvs))) ∨ (T = "set" ∧ ∃ S n, H p = some (.set S n))
  | _ => False
theorem tyV_is {pins : List (Addr × Obj)} {σ : St} {H : Hp} {s : Shared} {T : String} {x : V} {v : Value} (I : Inv X pins σ H s) (r : RelV x v) (ty : tyV X.K T x H) :
    s.TypeIs v T ∧ ∀ a, v = .ref a → ∃ ob, s.heap.get? a = some ob ∧ ob.dict = none := by
  cases x with
  | str z =>
    obtain ⟨t, rfl⟩ := r
    cases (show T = "str" from ty)
    exact ⟨typeIs_str s z t, fun _ e => nomatch e⟩
  | int i =>
    obtain ⟨t, rfl⟩ := r
    cases (show T = "int" from ty)
    exact ⟨typeIs_int s i t, fun _ e => nomatch e⟩
  | ref p =>
    cases r
    rcases ty with ⟨rfl, xs, hq⟩ | ⟨rfl, o, hk, hc, hd⟩ | ⟨rfl, hk⟩ | ⟨rfl, S, n, hk⟩
    · obtain ⟨its, _, pl, _⟩ := I.list hq
      refine ⟨pl.isList.typeIs, fun a e => ?_⟩
      cases e
      obtain ⟨o, n, e, c, hd, _⟩ := pl
      exact ⟨o, e, hd⟩
    · refine ⟨⟨o, I.kIn p o hk, hc⟩, fun a e => ?_⟩
      cases e
      exact ⟨o, I.kIn _ o hk, hd⟩
    · have z : ∃ o, s.heap.get? p = some o ∧ o.ExactDict := by
        rcases hk with ⟨kvs, hk⟩ | ⟨kvs, hk⟩
        · obtain ⟨_, _, _, _, o, _, _, e, ex, _⟩ := I.hok p _ hk
          exact ⟨o, e, ex⟩
        · obtain ⟨_, _, _, _, o, _, _, e, ex, _⟩ := I.hok p _ hk
          exact ⟨o, e, ex⟩
      obtain ⟨o, e, ex⟩ := z
      refine ⟨⟨o, e, ex.1⟩, fun a e2 => ?_⟩
      cases e2
      exact ⟨o, e, ex.2.1⟩
    · obtain ⟨o, _, _, _, e, ex, _⟩ := I.hok p _ hk
      refine ⟨⟨o, e, ex.1⟩, fun a e2 => ?_⟩
      cases e2
      exact ⟨o, e, ex.2.1⟩
  | _ => exact False.elim ty
def tBM0 (K : PySem.W.Frag) (T : String) (r : V → List V → Hp → VK → Prop) (to : TE) : TE := fun σ H Q => to σ H fun x H1 => tyV K T x H1 ∧ r x [] H1 Q
def tBM (K : PySem.W.Frag) (T : String) (r : V → List V → Hp → VK → Prop) (to : TE) (t : TA) : TE := fun σ H Q => to σ H fun x H1 => tyV K T x H1 ∧ t σ H1 fun xs H2 => r x xs H2 Q
variable {o e : Expr} {es : List Expr} {to : TE} {t : TA} {name : Str} {apos cpos : Pos} {T id : String} {r : V → List V → Hp → VK → Prop}
theorem pe_bm0 (pa : PlainAttrs T) (slot : Slot T name id) (hty : typeOf (.builtin id) = pure (.type "method_descriptor")) (hm : MtR X id r) (ho : PE X o to)
    (hbase : attributeBase o name X.env (eval o X.env) = eval o X.env := by rfl) (hline : (apos.endLine == cpos.line) = true := by rfl) : PE X (.Call (.Attribute o name apos) [] [] cpos) (tBM0 X.K T r to) := by
  intro pins s σ H Q I h
  refine wpAny_Call_method0_late hbase hline (thn (ho pins s σ H _ I h) fun v s1 ⟨x, H1, I1, r1, ty, q1⟩ => ?_)
  obtain ⟨h1, h2⟩ := tyV_is I1 r1 ty
  exact ⟨T, id, pa, slot, hty, h1, h2, Calls.callWith_builtin rfl (PySem.evalArgs_none (hm pins s1 σ H1 x [] v [] Q I1 r1 .nil q1))⟩
theorem pe_bm (pa : PlainAttrs T) (slot : Slot T name id) (hty : typeOf (.builtin id) = pure (.type "method_descriptor")) (hm : MtR X id r) (ho : PE X o to) (ha : PA X (e :: es) t)
    (hbase : attributeBase o name X.env (eval o X.env) = eval o X.env := by rfl)
    (hfew : ((backTo cpos (starEach (e :: es) X.env)).all (fun x => !x.1) && (backToKw cpos (keywordEach [] X.env)).all (fun x => x.1.isSome)
      && decide ((e :: es).length + ([] : List Keyword).length + (if ([] : List Keyword).isEmpty then 0 else 1) < 30)) = true := by rfl)
    (hline : (apos.endLine == cpos.line) = true := by rfl) (hs : starEach (e :: es) X.env = (false, eval e X.env) :: starEach es X.env := by rfl) (hplain : (backTo cpos (starEach es X.env)).any (·.1) = false := by rfl) :
    PE X (.Call (.Attribute o name apos) (e :: es) [] cpos) (tBM X.K T r to t) := by
  intro pins s σ H Q I h
  refine wpAny_Call_method_late hbase hfew hline rfl (thn (ho pins s σ H _ I h) fun v s1 ⟨x, H1, I1, r1, ty, q1⟩ => ?_)
  obtain ⟨h1, h2⟩ := tyV_is I1 r1 ty
  refine ⟨T, id, pa, slot, hty, h1, h2, ?_⟩
  have hA := ha cpos pins s1 σ H1 _ I1 q1
  rw [hs] at hA ⊢
  refine Calls.callWith_builtin (by show (false || (backTo cpos (starEach es X.env)).any (·.1)) = false; rw [hplain] <;> rfl) (Calls.evalArgs_plain ?_)
  exact thn hA fun us s2 ⟨vs, H2, I2, r2, q2⟩ => hm pins s2 σ H2 x vs v us Q I2 r1 r2 q2
/- xs.append(e), list.index on a module's tuple .. are MtR facts of 06m -/
end
end L2

namespace L2
open PySem PySem.Spec PyProof.Rows

def MtM (X : Cx) (id : String) (r : V → List V → Hp → VK → Prop) : Prop :=
  ∀ (pins : List (Addr × Obj)) (s : Shared) (σ : St) (H : Hp) (x : V) (xs : List V) (v : Value) (us : List Value) (Q : VK), Inv X pins σ H s → RelV x v → Vals xs us → r x xs H Q →
    wpAny (model X.prog X.w) X.A (call (.builtin id) (v :: us)) (EP X pins σ Q) X.xe s

/-! ### lists of values -/
theorem Vals.one : ∀ {x : V} {us : List Value}, Vals [x] us → ∃ u, us = [u] ∧ RelV x u
  | _, _, .cons r .nil => ⟨_, rfl, r⟩
theorem Vals.zero : ∀ {us : List Value}, Vals [] us → us = []
  | _, .nil => rfl
theorem Vals.dropLast {xs : List V} {us : List Value} (h : Vals xs us) : Vals xs.dropLast us.dropLast := by
  induction h with
  | nil => exact .nil
  | cons r t ih =>
    cases t with
    | nil => exact .nil
    | cons q t' => exact .cons r ih
theorem Vals.reverse {xs : List V} {us : List Value} (h : Vals xs us) : Vals xs.reverse us.reverse := by
  induction h with
  | nil => exact .nil
  | cons r t ih => rw [List.reverse_cons, List.reverse_cons]; exact Vals.append ih (.cons r .nil)
theorem Vals.rep {xs : List V} {us : List Value} (h : Vals xs us) : ∀ k : Nat, Vals (List.replicate k xs).flatten (List.replicate k us).flatten
  | 0 => .nil
  | k + 1 => by
    rw [List.replicate_succ, List.replicate_succ, List.flatten_cons, List.flatten_cons]
    exact Vals.append h (Vals.rep h k)
theorem foldl_rep (its : List Value) : ∀ (k : Nat) (acc : List Value),
    List.foldl (fun x1 x2 => x1 ++ x2) acc.toArray (List.replicate k its.toArray) = (acc ++ (List.replicate k its).flatten).toArray
  | 0, acc => by simp
  | k + 1, acc => by
    have e : acc.toArray ++ its.toArray = (acc ++ its).toArray := by simp
    have e2 : (acc ++ its) ++ (List.replicate k its).flatten = acc ++ (List.replicate (k + 1) its).flatten := by
      rw [List.replicate_succ, List.flatten_cons, List.append_assoc]
    rw [← e2, ← foldl_rep its k (acc ++ its), ← e, List.replicate_succ, List.foldl_cons]

section
variable {X : Cx} {pins : List (Addr × Obj)} {σ : St} {H : Hp} {s : Shared} {l b : Addr} {xs ys zs : List V}

/-! ### the two steps: a tracked list is rewritten, a new list is laid -/
theorem Inv.lset {its its' : List Value} {n : Nat} {f : Array Value → Array Value} {t' : Nat} (I : Inv X pins σ H s) (hH : H l = some (.lst xs))
    (e : s.heap.get? l = some { cls := .type "list", data := .seq its.toArray n }) (hf : f its.toArray = its'.toArray) (hv : Vals ys its') (hz : ys.length ≤ sizeLine) :
    Inv X pins σ (upd H l (.lst ys)) { s with heap := s.heap.update l (Obj.mapSeq f), toks := t' } := by
  have q := PySem.IsL.update e f
  rw [hf] at q
  refine I.write (x := l) (e := l) (by rw [hH]; exact trivial) (.inl rfl) (fun b' u hb hu => (Heap.get?_update_other s.heap (Obj.mapSeq f) (Ne.symm hb)).trans hu) ⟨_, q⟩ ?_
  exact ⟨hz, its', _, hv, q⟩
theorem Inv.lnew {its : List Value} {t' : Nat} (I : Inv X pins σ H s) (hv : Vals ys its) (hz : ys.length ≤ sizeLine) :
    Inv X pins σ (upd H s.heap.objs.size (.lst ys)) { s with heap := s.heap.push { cls := .type "list", data := .seq its.toArray }, toks := t' } :=
  I.laid (fun _ _ q => Heap.get?_push_of_some _ q) (Nat.le_refl _) ⟨hz, its, 0, hv, Heap.get?_push_size _ rfl⟩
theorem Inv.fresh (I : Inv X pins σ H s) : H s.heap.objs.size = none := I.hok.fresh (Nat.le_refl _)
theorem Inv.lstM (I : Inv X pins σ H s) (hH : H l = some (.lst xs)) : xs.length ≤ sizeLine ∧ ∃ (its : List Value) (n : Nat), Vals xs its ∧ xs.length = its.length ∧ s.heap.get? l = some { cls := .type "list", data := .seq its.toArray n } := by
  obtain ⟨z, its, n, r, e⟩ := I.hok l _ hH
  exact ⟨z, its, n, r, r.length, e⟩

theorem notLongL {n : Nat} (h : n ≤ sizeLine) : Builtin.List.listTooLong n = false := by
  unfold Builtin.List.listTooLong
  exact decide_eq_false (by omega)
end

section
variable {X : Cx}

/-! ### methods -/
def rAppend : V → List V → Hp → VK → Prop := fun x vs H Q => ∃ l xs y, x = .ref l ∧ vs = [y] ∧ H l = some (.lst xs) ∧ xs.length < sizeLine ∧ Q .non (upd H l (.lst (xs ++ [y])))
theorem mt_append : MtM X "list.append" rAppend := by
  intro pins s σ H x vs v us Q I rx rv h
  obtain ⟨l, xs, y, rfl, rfl, hH, hz, q⟩ := h
  cases rx
  obtain ⟨u, rfl, ru⟩ := rv.one
  obtain ⟨z, its, n, r, hl, e⟩ := I.lstM hH
  refine call_meets F.slot_list_append ⟨_, e, rfl⟩ F.entry_list_append (F.args_list_append_2 _ _) (PySem.list_append l its.toArray n u (by rw [List.size_toArray]; omega)) ⟨e, ?_⟩
  refine ⟨.non, _, I.lset (its' := its ++ [u]) hH e (by simp) (r.append (.cons ru .nil)) ?_, rfl, q⟩
  rw [List.length_append, List.length_singleton]
  omega

def rExtend : V → List V → Hp → VK → Prop := fun x vs H Q => ∃ l b xs zs, x = .ref l ∧ vs = [.ref b] ∧ H l = some (.lst xs) ∧ H b = some (.lst zs) ∧ xs.length + zs.length ≤ sizeLine ∧ Q .non (upd H l (.lst (xs ++ zs)))
theorem mt_extend : MtM X "list.extend" rExtend := by
  intro pins s σ H x vs v us Q I rx rv h
  obtain ⟨l, b, xs, zs, rfl, rfl, hH, hB, hz, q⟩ := h
  cases rx
  obtain ⟨u, rfl, ru⟩ := rv.one
  cases ru
  obtain ⟨z, its, n, r, hl, e⟩ := I.lstM hH
  obtain ⟨z2, its2, n2, r2, hl2, e2⟩ := I.lstM hB
  have hsz : its.toArray.size + its2.toArray.size ≤ sizeLine := by rw [List.size_toArray, List.size_toArray]; omega
  have hlong : ¬ (!its.toArray.isEmpty && Builtin.List.listTooLong (its.toArray.size + its2.toArray.size)) = true := by
    rw [notLongL hsz, Bool.and_false]
    exact Bool.false_ne_true
  refine call_meets F.slot_list_extend ⟨_, e, rfl⟩ F.entry_list_extend (F.args_list_extend_2 _ _)
    (AutoSeq1.list_extend_list_list_0 l its.toArray n b its2.toArray n2 hlong (by rw [List.size_toArray]; omega) (by omega)) ⟨e, e2, ?_⟩
  refine ⟨.non, _, I.lset (its' := its ++ its2) hH e (by simp) (r.append r2) ?_, rfl, q⟩
  rw [List.length_append]
  omega

/-! ### list + list, list += list, list * int -/
/-- a list times an int (a negative one is nothing) -/
def rRep : R2 := fun x y H Q => ∃ l k xs, x = .ref l ∧ y = .int k ∧ H l = some (.lst xs) ∧ -(2 ^ 63) ≤ k ∧ k < 2 ^ 63 ∧ xs.length * k.toNat ≤ sizeLine ∧
  ∀ p, H p = none → Q (.ref p) (upd H p (.lst (List.replicate k.toNat xs).flatten))
theorem len_rep {α : Type} (xs : List α) (k : Nat) : (List.replicate k xs).flatten.length = k * xs.length := by
  induction k with
  | zero => simp
  | succ k ih => rw [List.replicate_succ, List.flatten_cons, List.length_append, ih, Nat.succ_mul, Nat.add_comm]
theorem op_rep : OpR X (binaryOp .Mult) rRep := by
  intro pins s σ H x y v u Q I rx ry h
  obtain ⟨l, k, xs, rfl, rfl, hH, h1, h2, hz, q⟩ := h
  cases rx
  obtain ⟨t, rfl⟩ := ry
  obtain ⟨z, its, n, r, hl, e⟩ := I.lstM hH
  have hlen : its.toArray.size * k.toNat ≤ sizeLine := by rw [List.size_toArray, ← hl]; exact hz
  have hcap : ¬ its.toArray.size * k.toNat > (2 ^ 63 - 1) / 8 := by
    have : (sizeLine : Nat) ≤ (2 ^ 63 - 1) / 8 := by decide
    omega
  have hfit : ¬ (!Builtin.List.listFitsIndex k) = true := by
    rw [fitsIndex_both h1 h2]
    exact Bool.false_ne_true
  have hlong : ¬ Builtin.List.listTooLong (its.toArray.size * k.toNat) = true := by
    rw [notLongL hlen]
    exact Bool.false_ne_true
  have hnew : List.foldl (fun x1 x2 => x1 ++ x2) #[] (List.replicate (if its.toArray.isEmpty = true then 0 else k.toNat) its.toArray) = (List.replicate k.toNat its).flatten.toArray := by
    have f0 : ∀ m : Nat, List.foldl (fun x1 x2 => x1 ++ x2) #[] (List.replicate m its.toArray) = (List.replicate m its).flatten.toArray := fun m => by
      have := foldl_rep its m []
      rw [List.nil_append] at this
      exact this
    rw [f0]
    cases its with
    | nil => simp
    | cons a r' => rw [if_neg (by simp)]
  refine wpAny_binaryOp_repeat_ref (T := "list") (U := "int") (by decide) ⟨_, e, rfl⟩ (fun s' => typeIs_int s' k t) noFill_list_mul F.fills_int_mul F.slot_int_rmul repeat_list F.slot_int_index.lookup
    (call_meets F.slot_int_rmul (typeIs_int s k t) F.entry_int_rmul (F.args_int_rmul_2 _ _) (int___rmul___int_list k t l its.toArray n)
      ⟨e, rfl, ⟨_, e, rfl⟩, call_meets F.slot_list_mul ⟨_, e, rfl⟩ F.entry_list_mul (F.args_list_mul_2 _ _) (AutoListH.list___mul___list_int_3 l its.toArray n k t hfit hcap hlong) ⟨e, ?_⟩⟩)
  rw [hnew]
  exact ⟨.ref _, _, I.lnew (t' := s.toks) (r.rep k.toNat) (by rw [len_rep, Nat.mul_comm]; exact hz), rfl, q _ I.fresh⟩

/-! ### del xs[i] -/
end

/-! ### xs[a:b] = ys -/
section
variable {prog : Program} {w : World} {A : Around} {E : Value → Shared → Prop} {s : Shared}
theorem bounds_run {a c n : Nat} (hac : a ≤ c) (hc : c ≤ n) : sliceBounds (some (a : Int)) (some (c : Int)) none n = ((a : Int), (c : Int), 1) := by
  simp only [sliceBounds, Option.getD_none]
  have h1 : ¬ ((a : Int) < 0) := by omega
  have h2 : ¬ ((c : Int) < 0) := by omega
  simp only [h1, h2, if_false, show (1 : Int) > 0 by decide, if_true]
  congr 1
  · omega
  · congr 1; omega
set_option maxRecDepth 100000 in
/-- list.__setitem__ with a slice of step one and another list -/
theorem setItem_slice {l b sl : Addr} {items new : Array Value} {n n2 : Nat} {vl vu : Value} {a c : Nat} {Q : Unit → Shared → Prop}
    (e : s.heap.get? l = some { cls := .type "list", data := .seq items n }) (e2 : s.heap.get? b = some { cls := .type "list", data := .seq new n2 }) (hne : l ≠ b)
    (hs : s.heap.IsSliceOf sl vl vu .none) (pl : IsPart vl (some (a : Int))) (pu : IsPart vu (some (c : Int))) (hac : a ≤ c) (hc : c ≤ items.size)
    (hsz : items.size + new.size ≤ sizeLine) (h : Q () { s with heap := s.heap.update l (Obj.mapSeq fun xs => xs.extract 0 a ++ new ++ xs.extract c xs.size) }) :
    wpAny (model prog w) A (setItem (.ref l) (.ref sl) (.ref b)) Q E s := by
  have hl : s.heap.IsList l items := PySem.IsL.isList e
  have hb : s.heap.IsList b new := PySem.IsL.isList e2
  obtain ⟨os, hos, hcs, hds⟩ := id hs
  have hTs : s.TypeIs (.ref sl) "slice" := ⟨os, hos, hcs⟩
  have hstep : ¬ ((rawPart none == rawInt 0) = true) := Bool.false_ne_true
  have hsame : Builtin.List.listSameRef (.ref l) (.ref b) = false := by
    unfold Builtin.List.listSameRef
    exact beq_eq_false_iff_ne.mpr hne
  have hmax : (max (a : Int) (c : Int)).toNat = c := by omega
  have hz' : ((fun xs : Array Value => xs.extract 0 a ++ new ++ xs.extract c xs.size) items).size ≤ sizeLine + 1 := by
    simp only [Array.size_append, Array.size_extract]
    omega
  unfold setItem
  try with_reducible refine wpAny_holding ?_
  first | refine wpAny_bind (wpAny_pure ?_) | skip
  refine wpAny_bind (wpAny_sequenceKey hl.typeIs (by decide) ?_)
  refine wpAny_bind (wpAny_callSpecial?_slot (name := Str.ofString "__setitem__") hl.typeIs slot_list_setitem
    (wpAny_call_entry slot_list_setitem hl.typeIs entry_list_setitem ?_ (args_list_setitem _ _ _)))
  show wpAny _ _ (Builtin.List.listSubscript? (.ref sl) >>= _) _ _ s
  refine wpAny_bind ?_
  unfold Builtin.List.listSubscript?
  refine wpAny_bind (wpAny_specialOf hTs slice_no_index ?_)
  simp only [Option.isNone_none, if_true]
  refine wpAny_pure ?_
  show wpAny _ _ (typeOf (.ref sl) >>= _) _ _ s
  refine wpAny_bind (wpAny_typeOf hTs ?_)
  first
    | rw [if_neg (by decide)]
    | refine PySem.W.KFB.if_not (by decide) ?_
  rw [listSliceParts_eq]
  refine wpAny_bind (wpAny_bind (wpAny_field hos hds (x := .none) rfl (wpAny_bind (wpAny_listPart .none ?_))))
  rw [if_neg hstep]
  refine wpAny_bind (wpAny_field hos hds (x := vl) rfl (wpAny_bind (wpAny_listPart pl ?_)))
  refine wpAny_bind (wpAny_field hos hds (x := vu) rfl (wpAny_bind (wpAny_listPart pu (wpAny_pure ?_))))
  first
    | simp only [hsame, Bool.false_eq_true, if_false]
    | refine PySem.W.KFB.if_not hsame ?_
    | (dsimp only
       rw [if_neg (by rw [hsame]; exact Bool.false_ne_true)])
  refine wpAny_bind (m := Builtin.List.listAllItems (.ref b) "must assign iterable to extended slice") ?_
  unfold Builtin.List.listAllItems
  refine wpAny_bind (wpAny_typeOf hb.typeIs ?_)
  first
    | refine PySem.W.KFB.if_so (by decide) ?_
    | rw [if_pos (by decide)]
    | simp only [beq_self_eq_true, Bool.true_or, if_true]
  unfold Builtin.List.listItems
  refine wpAny_bind (wpAny_seqItems e2 rfl (wpAny_pure ?_))
  refine wpAny_bind (wpAny_bind (wpAny_seqItems e rfl (wpAny_pure ?_)))
  refine wpAny_bind (wpAny_of_eq ((sliceIndices_raw (some (a : Int)) (some (c : Int)) none items.size (by simp)).trans (congrArg (pure : Int × Int × Int → Sem (Int × Int × Int)) (bounds_run hac hc))) ?_)
  show wpAny _ _ (if ((1 : Int) == 1) = true then _ else _) _ _ s
  rw [if_pos (by decide)]
  refine wpAny_bind (wpAny_rule ?_)
  first
    | simp only [notLongL hsz, Bool.false_eq_true, if_false]
    | refine PySem.W.KFB.if_not (notLongL hsz) ?_
  first | refine wpAny_bind (wpAny_pure ?_) | skip
  show wpAny _ _ (updateSeq l (fun xs => xs.extract 0 ((a : Int)).toNat ++ new ++ xs.extract (max (a : Int) (c : Int)).toNat xs.size) >>= _) _ _ s
  rw [hmax, Int.toNat_natCast]
  refine wpAny_bind (wpAny_updateSeq (hz := Nat.le_trans (Nat.le_add_right _ _) hsz) (_hz' := hz') e rfl ?_)
  refine wpAny_bind (wpAny_letGo ?_)
  first
    | exact wpAny_bind (wpAny_pure (wpAny_pure ⟨.none, rfl, wpAny_pure h⟩))
    | exact wpAny_pure ⟨.none, rfl, wpAny_pure h⟩
end

section
variable {X : Cx}
end
end L2

namespace Att
open PySem PySem.W PySem.Calls PyProof.Rows

/-! ### the script -/
theorem ints_of_wellAll {P : Params} {h : Heap} : ∀ (ns : List Int) (vs : List Value), WellAll P h vs (ns.map WData.int) → IntsAre vs ns := by
  intro ns
  induction ns with
  | nil =>
    intro vs w
    rw [List.map_nil] at w
    cases w
    exact .nil
  | cons n ns ih =>
    intro vs w
    rw [List.map_cons] at w
    cases w with
    | cons a b =>
      cases a
      exact .cons _ _ (ih _ b)

theorem script_of {l : OpenLaw} {n : Nat} (hn : l.most = some n) {P : Params} {h : Heap} {args : List WData} {vals : List Value}
    (hpre : l.row.toRowW.claim.pre args = true) (hwl : WellAll P h vals args) :
    ∃ a vs ns, vals = [Value.ref a] ∧ args = [WData.list (ns.map WData.int)] ∧ h.get? a = some { cls := .type "list", data := .seq vs.toArray } ∧ IntsAre vs ns ∧ ns.length ≤ n := by
  have hsh : WShape.hasAll [] args [.list .int] = true := (pre_splitW hpre).1
  have hc : l.pre.holds [] { args := args } = true := (pre_splitW hpre).2
  obtain ⟨d, r, rfl, h1, h2⟩ := hasAllW_cons hsh
  obtain rfl := hasAllW_nil h2
  obtain ⟨xs, rfl, h3⟩ := hasW_list h1
  obtain ⟨ns, rfl⟩ := items_int h3
  have hlen : ns.length ≤ n := by
    unfold OpenLaw.pre at hc
    have h4 : (WTm.not (.lt (.lit (.int (n : Int))) (.len (.arg 0)))).holds [] { args := [.list (ns.map .int)] } = true := by
      have h4 := (holds_andW hc).1
      rw [hn] at h4
      exact h4
    have h5 := condW_of h4 (w_not (w_lt w_lit (w_len_list (w_arg rfl))))
    rw [List.length_map] at h5
    refine Nat.le_of_not_lt fun q => ?_
    have q' : (n : Int) < ((ns.length : Nat) : Int) := by omega
    first
      | (rw [decide_eq_true q'] at h5; exact absurd h5 (by decide))
      | (simp at h5; omega)
  cases hwl with
  | cons w1 w2 =>
    cases w2
    cases w1 with
    | list ho hall => exact ⟨_, _, ns, rfl, rfl, ho, ints_of_wellAll ns _ hall, hlen⟩

theorem post_true (l : OpenLaw) (args : List WData) : l.row.toRowW.claim.post args (.bool true) args = true :=
  postW_of (r := l.row.toRowW) (X := (true == true))
    (show WShape.has [] (.bool true) .bool = true by first | rfl | decide | simp [WShape.has, WShape.arms, WShape.armsAll])
    (show (WTm.eq .res (.lit (.bool true))).value [] { args := args, res := some (.bool true), after := args } = some (.bool (true == true)) from w_eq_bool (w_res rfl) w_lit) rfl

/-! ### the attachment: holds_open's last premise (the goal 'hc' behind k_head) from a wpAny of the law's body -/
/-- the same from a codeAny of the CALL (for a layer whose function contracts speak of calls) -/
theorem attach_call {l : OpenLaw} {n : Nat} {q : Program} {loose : List Str} {XP : (Str → Option Value) → Heap → Prop} {YP : World → Heap → Prop} {d : DefRec}
    (hn : l.most = some n) (hdf : d.params.defaults = [])
    (call : ∀ (w : World) (s₀ s₁ : Shared) (mg mb : Str → Option Value) (fa : Addr) (o : Obj) (pm cd doc : Value) (a : Addr) (vs : List Value) (ns : List Int),
      Ground q loose [] XP w s₀ mg mb s₁.heap → YP w s₁.heap →
      s₁.heap.get? fa = some o → o.data = .func (docDef d.name d.params d.body d.scope pm cd doc) → s₁.heap.CodeRec cd d.name → mg d.name = some (.ref fa) →
      s₁.heap.get? a = some { cls := .type "list", data := .seq vs.toArray } → IntsAre vs ns → ns.length ≤ n → s₁.gens = #[] →
      codeAny (model l.prog w) callerA (.call (.ref fa) ⟨[.ref a], []⟩) (fun r s' => r = .ok (.ret (.bool true)) ∧ OldK s₁.heap s'.heap ∧ s'.os = s₁.os ∧ AllBare s'.gens) s₁) :
    WalkO q loose XP YP l.row.toRowW d [] (fun f vs => PySem.call f vs) := by
  intro w s₀ s₁ mg mb G Y fa o pm cd doc dV kV ho hd hcd hD hmg hg args vals as hpre hlay hrd hwl hlo
  obtain rfl : dV = .none := Dflts.none hD hdf
  obtain rfl : kV = .none := Dflts.noKw hD
  obtain ⟨a, vs, ns, rfl, rfl, hobj, hints, hlen⟩ := script_of hn hpre hwl
  refine enter_call (codeAny_mono (call w s₀ s₁ mg mb fa o pm cd doc a vs ns G Y ho (fd_plain hd) hcd hmg hobj hints hlen hg) fun r s' hq => ?_)
  obtain ⟨rfl, h2, h3, h4⟩ := hq
  exact ⟨.inl ⟨.bool true, .bool true, [], rfl, fun _ => rfl, .bool true, post_true l _, fun _ => ⟨List.Pairwise.nil, fun _ hm => (nomatch hm)⟩⟩, h2, h3, h4⟩

/-! ### rules over ANY heap (no ledger) from facts about the written part K: the library's own take a ledger (News) for what they write -/
section
variable {prog : Program} {w : World} {A : Around} {E : Value → Shared → Prop} {s : Shared} {K : Frag}

/-! the whole heap as the ledger: makes every rule that writes through a ledger a rule over any heap -/
end
end Att

namespace L2
open PySem PySem.Spec PyProof.Rows

theorem vals_ints : ∀ {vs : List Value} {ns : List Int}, IntsAre vs ns → Vals (ns.map V.int) vs
  | _, _, .nil => .nil
  | _, _, .cons n t h => .cons ⟨t, rfl⟩ (vals_ints h)

/-- nothing is tracked but the script, known to the object (or it is an object of the module) -/
def Only (H : Hp) : Prop := ∀ b, H b = none ∨ ∃ o xs, H b = some (.frz o (.lst xs))

/-- THE HEAD: the law's promise, at the heap behind the top. F, the promise of the law's def, may use that base is part of the heap (so K.In base, base.Ns mainGlobals mg stand in Mod) -/
theorem law_call {P : Program} {w : World} {K : PySem.W.Frag} {mg mb : Str → Option Value} {CX : CXT} {k : Nat} {fa a : Addr} {fd : FuncData} {x : Str} {sp : Sp} {s₁ : Shared} {vs : List Value} {ns : List Int}
    (KX : K.In s₁.heap) (hns : s₁.heap.Ns mainGlobals mg) (hb : s₁.heap.Ns builtinsNs mb) (hbb : ∀ x : Str, x ≠ "__name__" → mb x = bootBuiltins x) (hlim : s₁.heap.NoLimit) (hg : s₁.gens = #[])
    (ha : s₁.heap.get? a = some { cls := .type "list", data := .seq vs.toArray }) (hi : IntsAre vs ns) (hl : ns.length ≤ sizeLine) (hr : Room k callerA)
    (F : ∀ base : Heap, K.In base → base.Ns mainGlobals mg → FnOk P w K mg base CX k fa fd [x] sp) (hbind : ∀ (s : Shared) (u : Value), BindsTo s fd ⟨[u], []⟩ [(x, u)])
    (hsp : ∀ H : Hp, Only H → SqL K H a (ns.map V.int) → sp [.ref a] H (fun v _ => v = .bl true) fun _ _ _ => False)
    (hCX : ∀ H e s', CX [] H s₁ (fun _ _ _ => False) e s' → False) :
    codeAny (model P w) callerA (.call (.ref fa) ⟨[.ref a], []⟩) (fun r s' => r = .ok (.ret (.bool true)) ∧ OldK s₁.heap s'.heap ∧ s'.os = s₁.os ∧ AllBare s'.gens) s₁ := by
  have rv := vals_ints hi
  have lenV := hi.length
  -- from an abstract heap in which nothing but the script may be tracked
  have core : ∀ H : Hp, Only H → SqL K H a (ns.map V.int) → HOk P w H s₁.heap → (∀ b, H b ≠ none → b = a) → (H a ≠ none → K.lookup a = none) →
      codeAny (model P w) callerA (.call (.ref fa) ⟨[.ref a], []⟩) (fun r s' => r = .ok (.ret (.bool true)) ∧ OldK s₁.heap s'.heap ∧ s'.os = s₁.os ∧ AllBare s'.gens) s₁ := by
    intro H hO hS hok hA hK
    have base_of : ∀ {b : Addr} {o : Obj}, s₁.heap.get? b = some o → H b = none → (hidT s₁.heap H).get? b = some o := fun e n => hidT_get e n
    have noA : ∀ {b : Addr} {o : Obj} {es : Array DictEntry} {ep : Nat}, s₁.heap.get? b = some o → o.data = .dict es ep → H b = none := fun {b o es ep} e d => by
      cases q : H b with
      | none => rfl
      | some u =>
        have e' : b = a := hA b (by rw [q]; simp)
        subst e'
        rw [ha] at e; cases e
        have d' : Data.seq vs.toArray _ = Data.dict es ep := d
        cases d'
    have nsK : ∀ {b : Addr} {m : Str → Option Value}, s₁.heap.Ns b m → (hidT s₁.heap H).Ns b m := fun {b m} ⟨o, es, ep, e, d, r⟩ => ⟨o, es, ep, base_of e (noA e d), d, r⟩
    have hKb : K.In (hidT s₁.heap H) := fun b o e => base_of (KX b o e) (by
      cases q : H b with
      | none => rfl
      | some u =>
        have e' : b = a := hA b (by rw [q]; simp)
        subst e'
        rw [hK (by rw [q]; simp)] at e; cases e)
    have hM : Mod K mg (hidT s₁.heap H) := ⟨hKb, nsK hns, ⟨mb, nsK hb, hbb⟩, let ⟨mc, h1, h2⟩ := hlim; ⟨mc, nsK h1, h2⟩⟩
    have e0 : Env0 P w K mg (hidT s₁.heap H) callerA [] s₁ H := ⟨rfl, hM, fun b o e => of_hidT e, Nat.le_of_eq (hidT_size _ _), trivial, fun b hb => absurd (show b ∈ ([] : List Addr) from hb) (by simp), hok, .of_eq hg⟩
    refine codeAny_mono ((F _ hKb (nsK hns)).run callerA [] s₁ H ⟨[.ref a], []⟩ [.ref a] [.ref a] _ _ hr e0 (hbind s₁ (.ref a)) (.cons rfl .nil) (hsp H hO hS)) fun r s' h => ?_
    cases r with
    | error e => exact (hCX H e s' h).elim
    | ok fl =>
      cases fl with
      | next => exact False.elim h
      | brk => exact False.elim h
      | cont => exact False.elim h
      | ret u =>
        obtain ⟨v, H', os, bare, un, hok', r', q⟩ := h
        have q' : v = .bl true := q
        subst q'
        obtain rfl : u = Value.bool true := r'
        refine ⟨rfl, OldK.of_keep fun b o e => ?_, os, bare⟩
        cases q : H b with
        | none => exact un.keep b o e q (by intro z; exact absurd (show b ∈ ([] : List Addr) from z) (by simp)) (by simp)
        | some u =>
          rcases hO b with z | ⟨ob, xs, z⟩
          · rw [q] at z; cases z
          · have z2 := un.frzs b ob _ z
            obtain ⟨e1, _⟩ := hok b _ z
            obtain ⟨e2, _⟩ := hok' b _ z2
            rw [e] at e1; cases e1
            exact e2
  cases hk : K.lookup a with
  | some o =>
    -- the script is one of the module's own objects
    have e := KX a o hk
    rw [ha] at e
    cases e
    refine core (fun _ => none) (fun _ => .inl rfl) (.inr ⟨_, vs.toArray, _, hk, rfl, rfl, rfl, by rw [List.size_toArray, lenV]; exact hl, by simpa using rv⟩) (fun b u z => by have z' : (none : Option HO) = some u := z; cases z') (fun b z => absurd rfl z) fun z => absurd rfl z
  | none =>
    refine core (fun b => if b = a then some (.frz { cls := .type "list", data := .seq vs.toArray } (.lst (ns.map V.int))) else none) (fun b => ?_) (.inl (.inr ⟨{ cls := .type "list", data := .seq vs.toArray }, if_pos rfl⟩)) (fun b u z => ?_) (fun b z => ?_) fun _ => hk
    · by_cases hb : b = a
      · exact .inr ⟨_, _, if_pos hb⟩
      · exact .inl (if_neg hb)
    · by_cases hb : b = a
      · have z' := (if_pos hb).symm.trans z
        cases z'
        subst hb
        exact ⟨ha, by rw [List.length_map]; exact hl, vs, _, rv, ha⟩
      · have z' := (if_neg hb).symm.trans z
        cases z'
    · by_cases hb : b = a
      · exact hb
      · exact absurd (if_neg hb) z
end L2

namespace L2
open PySem PySem.Spec PyProof.Rows

abbrev KOf {K : PySem.W.Frag} {h : Heap} (_ : K.In h) : PySem.W.Frag := K

/-- the goal that k_head leaves (case hc), from the law's promise. F gives the function object fd (K's own) once, then the promise over every base -/
theorem walk_of {l : PySem.W.OpenLaw} {n k : Nat} {q : Program} {loose : List Str} {XP : (Str → Option Value) → Heap → Prop} {YP : World → Heap → Prop} {d : DefRec} {K : Params → PySem.W.Frag} {CX : World → CXT} {sp : World → Sp} {x : Str}
    (hn : l.most = some n) (hn2 : n ≤ sizeLine) (hdf : d.params.defaults = []) (hr : Room k callerA)
    (hY : ∀ (w : World) (h : Heap), YP w h → (K w.params).In h)
    (F : ∀ (w : World) (mg : Str → Option Value) (fa : Addr) (h : Heap), (K w.params).In h → h.Ns mainGlobals mg → mg d.name = some (.ref fa) →
      ∃ fd : FuncData, (∀ (s : Shared) (u : Value), BindsTo s fd ⟨[u], []⟩ [(x, u)]) ∧
        ∀ base : Heap, (K w.params).In base → base.Ns mainGlobals mg → FnOk l.prog w (K w.params) mg base (CX w) k fa fd [x] (sp w))
    (hsp : ∀ (w : World) (H : Hp) (a : Addr) (ns : List Int), ns.length ≤ n → Only H → SqL (K w.params) H a (ns.map V.int) → sp w [.ref a] H (fun v _ => v = .bl true) fun _ _ _ => False)
    (hCX : ∀ (w : World) (H : Hp) (s : Shared) (e : Value) (s' : Shared), CX w [] H s (fun _ _ _ => False) e s' → False) :
    PySem.W.WalkO q loose XP YP l.row.toRowW d [] (fun f vs => PySem.call f vs) := by
  refine Att.attach_call hn hdf fun w s₀ s₁ mg mb fa o pm cd doc a vs ns G Y ho hd hcd hmg hobj hints hlen hg => ?_
  have KX := hY w _ Y
  obtain ⟨fd, hb, hF⟩ := F w mg fa _ KX G.T.g hmg
  exact law_call KX G.T.g G.T.b G.T.builtins G.T.nolimit hg hobj hints (Nat.le_trans hlen hn2) hr hF hb (fun H hO hS => hsp w H a ns hlen hO hS) fun H e s' => hCX w H s₁ e s'
end L2

/- THE LAST THEOREM (shape; LID, My.* are yours):
   My.Adr: a structure of the addresses that your layer names (classes, functions); My.Txt K t: a structure (Prop) of the equations over K;
   My.txt_mk : {K} {implicit addresses ..} (e1 : nsIn K mainGlobals "law" = some (some (.ref f))) (e2 : K.lookup f = some ⟨oc, od, .func (fnOf "law" "law" params body scope dV kV doc pm an cdv ct), sl⟩) (e3 : codeIn K cdv "law" = true) .. : ∃ t, My.Txt K t

set_option maxRecDepth 100000 in
set_option maxHeartbeats 0 in
theorem PySem.Challenge.cw_LID_holds : PySem.Challenge.rw_LID.Holds := by
  w_on; o_law; k_head; (case hw => w_witness2)
  k_fill
  refine L2.walk_of (l := PySem.Challenge.rw_LID) (n := 63) (k := 40) (x := "script") (CX := fun w => ..) (sp := fun _ => My.sp_law) rfl (by decide) rfl ⟨rfl, by decide, by decide⟩ (fun w h Y => PySem.W.kIn_of Y) ?F ?S ?C
  case F =>
    intro w mg fa h KX G hmg
    have T : ∃ t, My.Txt (L2.KOf KX) t := by
      dsimp only [L2.KOf]                          -- K must stand as «<heap const> w.params» for k_is
      refine' My.txt_mk ?e1 ?e2 ?e3 ..
      (case e1 => PySem.W.k_is)                    -- in the order: a name -> its address -> its object -> its parts
      (case e2 => PySem.W.k_is)
      ..
    obtain ⟨t, T⟩ := T
    have e0 := hmg.symm.trans (PySem.W.mg_of KX G T.law)
    cases e0                                       -- fa is the law's own address
    exact ⟨_, fun s u => .of_eq rfl, fun base kb nb => My.law_fn T kb nb⟩     -- if «.of_eq rfl» comes too early: refine' ⟨_, ?b, fun base kb nb => My.law_fn T kb nb⟩; exact fun s u => .of_eq rfl
  case S => exact fun w H a ns hl hO hS => ..
  case C => exact ..
(the tactic k_is has no namespace: write k_is) -/

/-! SHORT WORDS over the layer: a def of the text, its body, what a loop and a test want. -/
namespace L2
open PySem PySem.Spec PyProof.Rows

/-! ### the text by places -/
/-- the j-th statement of a class's body -/
def inClass (s : Stmt) (j : Nat) : Stmt := match s with
  | .ClassDef _ _ _ body _ _ _ _ _ _ _ => body.getD j (.Pass ⟨0, 0, 0, 0⟩)
  | _ => .Pass ⟨0, 0, 0, 0⟩
def defArgs (s : Stmt) : Arguments := match s with
  | .FunctionDef _ a _ _ _ _ _ _ _ _ => a
  | _ => { posonlyargs := [], args := [], vararg := none, kwonlyargs := [], kw_defaults := [], kwarg := none, defaults := [] }
def defBody (s : Stmt) : List Stmt := match s with
  | .FunctionDef _ _ b _ _ _ _ _ _ _ => b
  | _ => []
def defScope (s : Stmt) : Scope := match s with
  | .FunctionDef _ _ _ _ _ _ sc _ _ _ => sc
  | _ => { kind := .function, names := [], isGenerator := false, isCoroutine := false }

/-! ### no exception leaves a def -/
abbrev CX0 : CXT := fun _ _ _ _ _ _ => False
abbrev E0 : XK := fun _ _ _ => False
theorem pass0 {X : Cx} : Passes CX0 X E0 := fun _ _ _ _ _ _ _ h => h.elim

/-! ### a def (or method) of the text as it stands behind the top -/
structure Fun (K : PySem.W.Frag) (x qual : Str) (st : Stmt) (f : Addr) (fd : FuncData) : Prop where
  ex : ∃ (oc : Value) (od : Option Addr) (kV doc pm : Value) (an : Option Addr) (cdv ct : Value) (osl : Array (Option Value)),
    fd = PySem.W.fnOf x qual (defArgs st) (defBody st) (defScope st) .none kV doc pm an cdv ct ∧ K.lookup f = some ⟨oc, od, .func fd, osl⟩ ∧ PySem.W.codeIn K cdv qual = true
  kp : PySem.W.keepIn K (.ref f) = true
section
variable {P : Program} {w : World} {K : PySem.W.Frag} {mg : Str → Option Value} {base : Heap}
/-- THE RULE for a def: its body as a term of rules, and the reading of that term -/
theorem Fun.ok {x qual : Str} {st : Stmt} {f : Addr} {fd : FuncData} {N ps : List Str} {k : Nat} {sp : Sp} (F : Fun K x qual st f fd) (S : FnScope N ps (defScope st)) (len : ∀ vs H Q E, sp vs H Q E → vs.length = ps.length)
    (hbody : ∀ (cdv : Value) (A : Around) (outer : List Env) (s : Shared) (H : Hp) (vs : List V) (Q : VK) (E : XK), Room k (A.deeper (envOfC qual (defScope st) s.heap.objs.size f cdv)) → sp vs H Q E →
      ∃ t, PSs (cxOf CX0 P w K mg base N qual (defScope st) f cdv A outer s H E).nox (defBody st) t ∧ t { nx := fun _ H' => Q .non H', rt := Q } (start N vs) H) : FnOk P w K mg base CX0 (k + 1) f fd ps sp := by
  obtain ⟨oc, od, kV, doc, pm, an, cdv, ct, osl, rfl, lk, hcd⟩ := F.ex
  refine fn_of lk hcd S len fun A outer s H vs Q E hr hsp => ?_
  obtain ⟨t, h, q⟩ := hbody cdv A outer s H vs Q E hr hsp
  exact ⟨t, h.nox, q⟩
/-- how its arguments bind (no defaults): h is «fun _ _ _ _ _ _ us hl => match us, hl with | [_, _], _ => rfl», one _ a parameter -/
theorem Fun.binds {x qual : Str} {st : Stmt} {f : Addr} {fd : FuncData} {ps : List Str} (F : Fun K x qual st f fd)
    (h : ∀ (kV doc pm : Value) (an : Option Addr) (cdv ct : Value) (us : List Value), us.length = ps.length → bindArgs (PySem.W.fnOf x qual (defArgs st) (defBody st) (defScope st) .none kV doc pm an cdv ct) ⟨us, []⟩ = pure (ps.zip us)) : Binds K fd ps [] := by
  obtain ⟨oc, od, kV, doc, pm, an, cdv, ct, osl, rfl, lk, hcd⟩ := F.ex
  exact .all (h kV doc pm an cdv ct)
theorem fun_mk {x qual : Str} {st : Stmt} {f : Addr} {oc : Value} {od an : Option Addr} {osl : Array (Option Value)} {kV doc pm cdv ct : Value} (l : K.lookup f = some ⟨oc, od, .func (PySem.W.fnOf x qual (defArgs st) (defBody st) (defScope st) .none kV doc pm an cdv ct), osl⟩)
    (c : PySem.W.codeIn K cdv qual = true) (k : PySem.W.keepIn K (.ref f) = true) : Fun K x qual st f (PySem.W.fnOf x qual (defArgs st) (defBody st) (defScope st) .none kV doc pm an cdv ct) := ⟨⟨oc, od, kV, doc, pm, an, cdv, ct, osl, rfl, l, c⟩, k⟩
end
/-! ### expressions in short: the name that stands in the i-th slot -/
section
variable {X : Cx}
end

/-! ### tests -/
theorem iteT {A B : Prop} (h : A) : if true = true then A else B := by
  rw [if_pos rfl]
  exact h
theorem ite2 {c A B : Prop} [Decidable c] (h1 : c → A) (h2 : ¬ c → B) : if c then A else B := by
  by_cases h : c
  · rw [if_pos h]
    exact h1 h
  · rw [if_neg h]
    exact h2 h
/-! ### heaps -/
/-- all that was tracked is as it was -/
def Same (H H' : Hp) : Prop := ∀ b o, H b = some o → H' b = some o
theorem Same.refl (H : Hp) : Same H H := fun _ _ h => h
theorem Same.trans {H H1 H2 : Hp} (a : Same H H1) (b : Same H1 H2) : Same H H2 := fun c o h => b c o (a c o h)
theorem Same.free {H H' : Hp} (e : Same H H') {l : Addr} (h : H' l = Option.none) : H l = Option.none := by
  cases q : H l with
  | none => rfl
  | some o =>
    rw [e l o q] at h
    cases h
theorem Same.seq {K : PySem.W.Frag} {H H' : Hp} {a : Addr} {xs : List V} (e : Same H H') (h : SqL K H a xs) : SqL K H' a xs := by
  rcases h with (h | ⟨o, h⟩) | h
  · exact .inl (.inl (e _ _ h))
  · exact .inl (.inr ⟨o, e _ _ h⟩)
  · exact .inr h
section
variable {X : Cx}
end
/-! ### a dict's pairs: keys that differ -/
section
variable {κ : Type} [DecidableEq κ]
end
end L2

set_option maxHeartbeats 4000000
/-! OWN EXTENSION 1 over the hand layer: readings that reduce by themselves (a match on the value), equality of data, isinstance, calls by a bundle. -/
namespace HT
open PySem PyProof.Rows
section
open PySem.SeqAt
open PySem.AutoSeq1 (wpAny_loadPart')
open PySem.MeetsSeq PySem.MeetsSeq2 PySem.MeetsSeq3 PySem.SeqRoads2
end
section
variable {prog : Program} {w : World} {A : Around} {E : Value → Shared → Prop} {s : Shared}
end
end HT

namespace L2
open PySem PySem.Spec PyProof.Rows

/-! ### weaker readings -/
theorem PE.imp {X : Cx} {e : Expr} {t t' : TE} (h : PE X e t) (k : ∀ σ H Q, t' σ H Q → t σ H Q) : PE X e t' := fun pins s σ H Q I q => h pins s σ H Q I (k σ H Q q)
theorem PT.imp {X : Cx} {e : Expr} {t t' : TT} (h : PT X e t) (k : ∀ σ H Q, t' σ H Q → t σ H Q) : PT X e t' := fun pins s σ H Q I q => h pins s σ H Q I (k σ H Q q)
theorem OpR.imp {X : Cx} {f : Value → Value → Sem Value} {r r' : R2} (h : OpR X f r) (k : ∀ x y H Q, r' x y H Q → r x y H Q) : OpR X f r' := fun pins s σ H x y v u Q I rx ry q => h pins s σ H x y v u Q I rx ry (k x y H Q q)
theorem CallR.imp {X : Cx} {f : Value} {r r' : List V → Hp → VK → Prop} (h : CallR X f r) (k : ∀ xs H Q, r' xs H Q → r xs H Q) : CallR X f r' := fun pins s σ H xs us Q I rs q => h pins s σ H xs us Q I rs (k xs H Q q)
theorem IxR.imp {X : Cx} {r r' : R2} (h : IxR X r) (k : ∀ x y H Q, r' x y H Q → r x y H Q) : IxR X r' := fun value slice pins s σ H x y v u Q I rx ry q hs => h value slice pins s σ H x y v u Q I rx ry (k x y H Q q) hs

/-! ### growth -/
theorem Same.new {H : Hp} {p : Addr} {o : HO} (h : H p = none) : Same H (upd H p o) := fun b u e => by rw [upd_ne (ne_of_none e h)]; exact e
/-- a new object o stands at p; all else is as it was -/
structure Gro (H : Hp) (p : Addr) (o : HO) (H' : Hp) : Prop where
  nw : H p = none
  sm : Same H H'
  at_ : H' p = some o
theorem Gro.mk' {H : Hp} {p : Addr} {o : HO} (h : H p = none) : Gro H p o (upd H p o) := ⟨h, Same.new h, upd_same⟩
theorem Gro.lst {K : PySem.W.Frag} {H H' : Hp} {p : Addr} {xs : List V} (g : Gro H p (.lst xs) H') : SqL K H' p xs := .of g.at_
theorem Gro.tup {K : PySem.W.Frag} {H H' : Hp} {p : Addr} {xs : List V} (g : Gro H p (.tup xs) H') : SqT K H' p xs := .of g.at_
/-- what was none ahead may be written behind -/
theorem Same.put {H H' : Hp} {p : Addr} {o : HO} (s : Same H H') (h : H p = none) : Same H (upd H' p o) := fun b u e => by
  rw [upd_ne (ne_of_none e h)]
  exact s b u e
/-! ### names -/
def mV (i : Nat) : TE := fun σ H Q => match σ[i]? with
  | some (some v) => Q v H
  | _ => False
theorem vv (i : Nat) {X : Cx} {x : Str} {pos : Pos} (hN : X.N[i]? = some x := by rfl) (hv : Vis X.env.scope x := by first | exact Or.inl rfl | exact Or.inr (Or.inl rfl) | exact Or.inr (Or.inr rfl)) (hd : (x == ("__debug__" : Str)) = false := by decide)
    (hcd : (x == ("__classdict__" : Str)) = false := by decide) : PE X (.Name x pos) (mV i) := (pe_var hN hv hd hcd).imp fun σ H Q q => by
  unfold mV at q
  split at q
  · exact ⟨_, by assumption, q⟩
  · exact q.elim

/-! ### and, or, not -/
section
variable {X : Cx} {a b : Expr} {ta tb : TE} {pos : Pos} {rest : List Expr}
def mAnd (ta tb : TE) : TE := fun σ H Q => ta σ H fun x H1 => match x with
  | .bl c => if c = true then tb σ H1 Q else Q (.bl false) H1
  | _ => False
def mOr (ta tb : TE) : TE := fun σ H Q => ta σ H fun x H1 => match x with
  | .bl c => if c = true then Q (.bl true) H1 else tb σ H1 Q
  | _ => False
def mNot (ta : TE) : TE := fun σ H Q => ta σ H fun x H1 => match x with
  | .bl c => Q (.bl (!c)) H1
  | _ => False
theorem me_and (ha : PE X a ta) (hb : PE X (.BoolOp .And (b :: rest) pos) tb) : PE X (.BoolOp .And (a :: b :: rest) pos) (mAnd ta tb) := by
  intro pins s σ H Q I h
  refine BoolOp_and (thn (ha pins s σ H _ I h) fun v s1 ⟨x, H1, I1, r1, q1⟩ => ?_)
  cases x with
  | bl c =>
    cases r1
    refine wpAny_truthy_bool ?_
    cases c with
    | true => exact hb pins s1 σ H1 Q I1 q1
    | false => exact ⟨.bl false, H1, I1, rfl, q1⟩
  | _ => exact False.elim q1
theorem me_or (ha : PE X a ta) (hb : PE X (.BoolOp .Or (b :: rest) pos) tb) : PE X (.BoolOp .Or (a :: b :: rest) pos) (mOr ta tb) := by
  intro pins s σ H Q I h
  refine BoolOp_or (thn (ha pins s σ H _ I h) fun v s1 ⟨x, H1, I1, r1, q1⟩ => ?_)
  cases x with
  | bl c =>
    cases r1
    refine wpAny_truthy_bool ?_
    cases c with
    | false => exact hb pins s1 σ H1 Q I1 q1
    | true => exact ⟨.bl true, H1, I1, rfl, q1⟩
  | _ => exact False.elim q1
theorem me_not (ha : PE X a ta) : PE X (.UnaryOp .Not a pos) (mNot ta) := by
  intro pins s σ H Q I h
  refine UnaryOp_ (thn (ha pins s σ H _ I h) fun v s1 ⟨x, H1, I1, r1, q1⟩ => ?_)
  cases x with
  | bl c =>
    cases r1
    exact not_of (wpAny_truthy_bool ⟨.bl (!c), H1, I1, rfl, q1⟩)
  | _ => exact False.elim q1
/-- a value that is a bool, as a test -/
def mB (t : TE) : TT := fun σ H Q => t σ H fun x H1 => match x with
  | .bl c => Q c H1
  | _ => False
theorem mt_val {e : Expr} {t : TE} (h : PE X e t) (he : ∀ whole, isTrue e X.env whole = (do let v ← whole; standAt e.pos; holding [v] (truthy v)) := by intro _; rfl) : PT X e (mB t) := by
  intro pins s σ H Q I hw
  refine isTrue_plain (thn (h pins s σ H _ I hw) fun v s1 ⟨x, H1, I1, r1, q1⟩ => ?_) (he _)
  cases x with
  | bl c =>
    cases r1
    exact wpAny_truthy_bool ⟨H1, I1, q1⟩
  | _ => exact False.elim q1
theorem mt_cmp {op : CmpOp} {r : R2} (ho : OpR X (compareOp op) r) (ha : PE X a ta) (hb : PE X b tb) (hm : behindInMarks op b = false) : PT X (.Compare a [op] [b] pos) (mB (tOp r ta tb)) := by
  intro pins s σ H Q I h
  refine wpAny_isTrue_Compare1 (thn (ha pins s σ H _ I h) fun v s1 ⟨x, H1, I1, r1, q1⟩ => thn (hb pins s1 σ H1 _ I1 q1) fun u s2 ⟨y, H2, I2, r2, q2⟩ =>
    thn (ho pins s2 σ H2 x y v u _ I2 r1 r2 q2) fun c s3 ⟨z, H3, I3, r3, q3⟩ => ?_) hm
  cases z with
  | bl k =>
    cases r3
    exact wpAny_truthy_bool ⟨H3, I3, q3⟩
  | _ => exact False.elim q3
/-- a op1 b op2 c -/
def mChain (r r' : R2) (ta tb tc : TE) : TE := fun σ H Q => ta σ H fun x H1 => tb σ H1 fun y H2 => r x y H2 fun z H3 => match z with
  | .bl k => if k = true then tc σ H3 fun w' H4 => r' y w' H4 Q else Q (.bl false) H3
  | _ => False
theorem me_chain {c : Expr} {tc : TE} {op op' : CmpOp} {r r' : R2} (ho : OpR X (compareOp op) r) (ho' : OpR X (compareOp op') r') (ha : PE X a ta) (hb : PE X b tb) (hc : PE X c tc)
    (hm : lastMarks [op, op'] [b, c] = false := by with_unfolding_all rfl) : PE X (.Compare a [op, op'] [b, c] pos) (mChain r r' ta tb tc) := by
  intro pins s σ H Q I h
  refine Compare_chain (thn (ha pins s σ H _ I h) fun v s1 ⟨x, H1, I1, r1, q1⟩ => chain_link (thn (hb pins s1 σ H1 _ I1 q1) fun u s2 ⟨y, H2, I2, r2, q2⟩ =>
    thn (ho pins s2 σ H2 x y v u _ I2 r1 r2 q2) fun d s3 ⟨z, H3, I3, r3, q3⟩ => ?_)) hm
  cases z with
  | bl k =>
    cases r3
    refine wpAny_truthy_bool ?_
    cases k with
    | false => exact ite_ff ⟨.bl false, H3, I3, rfl, q3⟩
    | true => exact ite_tt (chain_last (thn (hc pins s3 σ H3 _ I3 q3) fun w' s4 ⟨z', H4, I4, r4, q4⟩ => ho' pins s4 σ H4 y z' u w' Q I4 r2 r4 q4))
  | _ => exact False.elim q3
theorem mt_chain {c : Expr} {tc : TE} {op op' : CmpOp} {r r' : R2} (ho : OpR X (compareOp op) r) (ho' : OpR X (compareOp op') r') (ha : PE X a ta) (hb : PE X b tb) (hc : PE X c tc)
    (hm : lastMarks [op, op'] [b, c] = false := by with_unfolding_all rfl) : PT X (.Compare a [op, op'] [b, c] pos) (mB (mChain r r' ta tb tc)) := by
  intro pins s σ H Q I h
  refine isTrue_chain (thn (ha pins s σ H _ I h) fun v s1 ⟨x, H1, I1, r1, q1⟩ => test_link (thn (hb pins s1 σ H1 _ I1 q1) fun u s2 ⟨y, H2, I2, r2, q2⟩ =>
    thn (ho pins s2 σ H2 x y v u _ I2 r1 r2 q2) fun d s3 ⟨z, H3, I3, r3, q3⟩ => ?_)) hm
  cases z with
  | bl k =>
    cases r3
    refine wpAny_truthy_bool ?_
    cases k with
    | false => exact ite_ff ⟨H3, I3, q3⟩
    | true =>
      refine ite_tt (test_last (thn (hc pins s3 σ H3 _ I3 q3) fun w' s4 ⟨z', H4, I4, r4, q4⟩ => thn (ho' pins s4 σ H4 y z' u w' _ I4 r2 r4 q4) fun d' s5 ⟨z2, H5, I5, r5, q5⟩ => ?_))
      cases z2 with
      | bl k2 =>
        cases r5
        exact wpAny_truthy_bool ⟨H5, I5, q5⟩
      | _ => exact False.elim q5
  | _ => exact False.elim q3
/-- any value's truth -/
def mTru (K : PySem.W.Frag) (t : TE) : TT := fun σ H Q => t σ H fun x H1 => match x with
  | .non => Q false H1
  | .bl c => Q c H1
  | .int i => Q (i != 0) H1
  | .ref p => ∃ xs, (SqL K H1 p xs ∨ SqT K H1 p xs) ∧ Q (!xs.isEmpty) H1
  | _ => False
theorem mt_tru {e : Expr} {t : TE} (h : PE X e t) (he : ∀ whole, isTrue e X.env whole = (do let v ← whole; standAt e.pos; holding [v] (truthy v)) := by intro _; rfl) : PT X e (mTru X.K t) := by
  intro pins s σ H Q I hw
  refine isTrue_plain (thn (h pins s σ H _ I hw) fun v s1 ⟨x, H1, I1, r1, q1⟩ => ?_) (he _)
  cases x with
  | non => exact tru_ok pins s1 σ H1 _ v Q I1 r1 ⟨false, rfl, q1⟩
  | bl c => exact tru_ok pins s1 σ H1 _ v Q I1 r1 ⟨c, rfl, q1⟩
  | int i => exact tru_ok pins s1 σ H1 _ v Q I1 r1 ⟨i != 0, rfl, q1⟩
  | ref p =>
    obtain ⟨xs, hx, q1⟩ := q1
    rcases hx with hx | hx
    · exact tru_ok pins s1 σ H1 _ v Q I1 r1 ⟨_, .inl ⟨xs, hx, rfl⟩, q1⟩
    · exact tru_ok pins s1 σ H1 _ v Q I1 r1 ⟨_, .inr (.inl ⟨xs, hx, rfl⟩), q1⟩
  | _ => exact False.elim q1
end

/-! ### arithmetic -/
section
variable {X : Cx} {a b : Expr} {ta tb : TE} {pos : Pos}
/-- an int on both sides, under C -/
def gI (C : Int → Int → Prop) (g : Int → Int → V) : R2 := fun x y H Q => match x, y with
  | .int i, .int j => C i j ∧ Q (g i j) H
  | _, _ => False
def gI0 (g : Int → Int → V) : R2 := fun x y H Q => match x, y with
  | .int i, .int j => Q (g i j) H
  | _, _ => False
theorem gI0_of {f : Value → Value → Sem Value} {g : Int → Int → V} (h : OpR X f (rI0 g)) : OpR X f (gI0 g) := h.imp fun x y H Q q => by
  cases x <;> cases y <;> first | exact False.elim q | exact ⟨_, _, rfl, rfl, q⟩
theorem gI_of {f : Value → Value → Sem Value} {C : Int → Int → Prop} {g : Int → Int → V} (h : OpR X f (rI C g)) : OpR X f (gI C g) := h.imp fun x y H Q q => by
  cases x <;> cases y <;> first | exact False.elim q | exact ⟨_, _, rfl, rfl, q.1, q.2⟩
theorem g_sub : OpR X (binaryOp .Sub) (gI0 fun i j => .int (i - j)) := gI0_of op_sub
theorem g_shr : OpR X (binaryOp .RShift) (gI (fun _ j => 0 ≤ j) fun i j => .int (i / 2 ^ j.toNat)) := gI_of op_shr
theorem g_lt : OpR X (compareOp .Lt) (gI0 fun i j => .bl (decide (i < j))) := gI0_of op_lt
theorem g_le : OpR X (compareOp .LtE) (gI0 fun i j => .bl (decide (i ≤ j))) := gI0_of op_le
theorem g_gt : OpR X (compareOp .Gt) (gI0 fun i j => .bl (decide (j < i))) := gI0_of op_gt
theorem g_ge : OpR X (compareOp .GtE) (gI0 fun i j => .bl (decide (j ≤ i))) := gI0_of op_ge
/-- // and % by a written number -/
def mFd (j : Int) (ta : TE) : TE := fun σ H Q => ta σ H fun x H1 => match x with
  | .int i => Q (.int (i / j)) H1
  | _ => False
def mMd (j : Int) (ta : TE) : TE := fun σ H Q => ta σ H fun x H1 => match x with
  | .int i => Q (.int (i % j)) H1
  | _ => False
theorem me_fd {j : Int} {k : Nat} {p : Pos} (ha : PE X a ta) (hj : 0 < j ∧ j < 1073741824 := by decide) : PE X (.BinOp a .FloorDiv (.Constant (.int j) k p) pos) (mFd j ta) := by
  intro pins s σ H Q I h
  refine wpAny_BinOp (thn (ha pins s σ H _ I h) fun v s1 ⟨x, H1, I1, r1, q1⟩ => ?_)
  refine thn (pe_int pins s1 σ H1 (fun y H2 => y = .int j ∧ H2 = H1) I1 ⟨rfl, rfl⟩) fun u s2 ⟨y, H2, I2, r2, e1, e2⟩ => ?_
  subst e1 e2
  cases x with
  | int i => exact op_fdiv pins s2 σ H2 (.int i) (.int j) v u Q I2 r1 r2 ⟨i, j, rfl, rfl, hj, q1⟩
  | _ => exact False.elim q1
theorem me_md {j : Int} {k : Nat} {p : Pos} (ha : PE X a ta) (hj : 0 < j := by decide) : PE X (.BinOp a .Mod (.Constant (.int j) k p) pos) (mMd j ta) := by
  intro pins s σ H Q I h
  refine wpAny_BinOp (thn (ha pins s σ H _ I h) fun v s1 ⟨x, H1, I1, r1, q1⟩ => ?_)
  refine thn (pe_int pins s1 σ H1 (fun y H2 => y = .int j ∧ H2 = H1) I1 ⟨rfl, rfl⟩) fun u s2 ⟨y, H2, I2, r2, e1, e2⟩ => ?_
  subst e1 e2
  cases x with
  | int i => exact op_mod pins s2 σ H2 (.int i) (.int j) v u Q I2 r1 r2 ⟨i, j, rfl, rfl, hj, q1⟩
  | _ => exact False.elim q1
theorem un_negM : UnR X (unaryOp .USub) (fun x H Q => match x with | .int i => Q (.int (-i)) H | _ => False) := by
  intro pins s σ H x v Q I rx q
  cases x with
  | int i => exact un_neg pins s σ H _ v Q I rx ⟨i, rfl, q⟩
  | _ => exact False.elim q
end

/-! ### + and * of numbers and of lists -/
section
variable {X : Cx}
theorem cat_seq {pins : List (Addr × Obj)} {s : Shared} {σ : St} {H : Hp} {l b : Addr} {xs zs : List V} {Q : VK} (I : Inv X pins σ H s) (hl : SqL X.K H l xs) (hb : SqL X.K H b zs) (hz : xs.length + zs.length ≤ sizeLine)
    (q : ∀ p H', Gro H p (.lst (xs ++ zs)) H' → Q (.ref p) H') : wpAny (model X.prog X.w) X.A (binaryOp .Add (.ref l) (.ref b)) (EP X pins σ Q) X.xe s := by
  obtain ⟨its, r, pl, _⟩ := I.list hl
  obtain ⟨its2, r2, pl2, _⟩ := I.list hb
  have e1 := r.length
  have e2 := r2.length
  obtain ⟨⟨cls, dd, data, sl⟩, ho, hc, n, hd⟩ := pl.isList
  obtain ⟨⟨cls2, dd2, data2, sl2⟩, ho2, hc2, n2, hd2⟩ := pl2.isList
  simp only at hc hd hc2 hd2
  subst hc hd hc2 hd2
  have ea : its.toArray ++ its2.toArray = (its ++ its2).toArray := by simp
  refine concat_meets ⟨_, ho, rfl⟩ ⟨_, ho2, rfl⟩ noFill_list_add seq_list_add PySem.F.slot_list_add PySem.F.entry_list_add (PySem.F.args_list_add_2 _ _) (list_addW l b its.toArray its2.toArray n n2 dd dd2 sl sl2 (by rw [List.size_toArray, List.size_toArray]; omega)) ⟨ho, ho2, ?_⟩
  rw [ea]
  exact ⟨.ref _, _, I.lnew (t' := s.toks) (r.append r2) (by rw [List.length_append]; omega), rfl, q _ _ (.mk' I.fresh)⟩
def gAdd (K : PySem.W.Frag) : R2 := fun x y H Q => match x, y with
  | .int i, .int j => Q (.int (i + j)) H
  | .ref l, .ref b => ∃ xs zs, SqL K H l xs ∧ SqL K H b zs ∧ xs.length + zs.length ≤ sizeLine ∧ ∀ p H', Gro H p (.lst (xs ++ zs)) H' → Q (.ref p) H'
  | _, _ => False
theorem g_add : OpR X (binaryOp .Add) (gAdd X.K) := by
  intro pins s σ H x y v u Q I rx ry q
  cases x with
  | int i =>
    cases y with
    | int j => exact op_add pins s σ H _ _ v u Q I rx ry ⟨i, j, rfl, rfl, q⟩
    | _ => exact False.elim q
  | ref l =>
    cases y with
    | ref b =>
      obtain ⟨xs, zs, h1, h2, h3, q⟩ := q
      cases rx
      cases ry
      exact cat_seq I h1 h2 h3 q
    | _ => exact False.elim q
  | _ => exact False.elim q
def gMul : R2 := fun x y H Q => match x, y with
  | .int i, .int j => CMul i j ∧ Q (.int (i * j)) H
  | .ref l, .int k => ∃ xs, H l = some (.lst xs) ∧ -(2 ^ 63) ≤ k ∧ k < 2 ^ 63 ∧ xs.length * k.toNat ≤ sizeLine ∧ ∀ p H', Gro H p (.lst (List.replicate k.toNat xs).flatten) H' → Q (.ref p) H'
  | _, _ => False
theorem g_mul : OpR X (binaryOp .Mult) gMul := by
  intro pins s σ H x y v u Q I rx ry q
  cases x with
  | int i =>
    cases y with
    | int j => exact op_mul pins s σ H _ _ v u Q I rx ry ⟨i, j, rfl, rfl, q.1, q.2⟩
    | _ => exact False.elim q
  | ref l =>
    cases y with
    | int k =>
      obtain ⟨xs, h1, h2, h3, h4, q⟩ := q
      exact op_rep pins s σ H _ _ v u Q I rx ry ⟨l, k, xs, rfl, rfl, h1, h2, h3, h4, fun p hp => q p _ (.mk' hp)⟩
    | _ => exact False.elim q
  | _ => exact False.elim q

/-! ### is -/
def isB (x : V) (c : Bool) : Bool := match x with
  | .bl d => d == c
  | _ => false
theorem rel_plainIs {x : V} {v : Value} {c : Bool} (r : RelV x v) (hf : ∀ f, x ≠ .ty f) : plainIs v (.bool c) = true ∧ (v == Value.bool c) = isB x c := by
  cases x with
  | non => cases r; exact ⟨rfl, rfl⟩
  | bl d => cases r; exact ⟨rfl, by cases d <;> cases c <;> rfl⟩
  | int _ => obtain ⟨t, rfl⟩ := r; exact ⟨rfl, rfl⟩
  | str _ => obtain ⟨t, rfl⟩ := r; exact ⟨rfl, rfl⟩
  | byt _ => obtain ⟨t, rfl⟩ := r; exact ⟨rfl, rfl⟩
  | flt _ => obtain ⟨t, rfl⟩ := r; exact ⟨rfl, rfl⟩
  | ref _ => cases r; exact ⟨rfl, rfl⟩
  | ty f => exact absurd rfl (hf f)
/-- is, is not: None, True or False on the right -/
def gIs (neg : Bool) : R2 := fun x y H Q => match y with
  | .non => Q (.bl (if neg then !decide (x = .non) else decide (x = .non))) H
  | .bl c => (∀ f, x ≠ .ty f) ∧ Q (.bl (if neg then !isB x c else isB x c)) H
  | _ => False
theorem g_is : OpR X (compareOp .Is) (gIs false) := by
  intro pins s σ H x y v u Q I rx ry q
  cases y with
  | non => exact op_isN pins s σ H x _ v u Q I rx ry ⟨rfl, q⟩
  | bl c =>
    cases ry
    obtain ⟨h1, h2⟩ := rel_plainIs (c := c) rx q.1
    exact wpAny_is_plain h1 ⟨.bl _, H, I, by rw [h2]; rfl, q.2⟩
  | _ => exact False.elim q
theorem g_isnot : OpR X (compareOp .IsNot) (gIs true) := by
  intro pins s σ H x y v u Q I rx ry q
  cases y with
  | non => exact op_notN pins s σ H x _ v u Q I rx ry ⟨rfl, q⟩
  | bl c =>
    cases ry
    obtain ⟨h1, h2⟩ := rel_plainIs (c := c) rx q.1
    exact wpAny_isNot_plain h1 ⟨.bl _, H, I, by rw [h2]; rfl, q.2⟩
  | _ => exact False.elim q
end

/-! ### data: a value that == reads to its bottom -/
def DataV (K : PySem.W.Frag) (H : Hp) (d : PyData) (x : V) : Prop := ∀ (X : Cx) (pins : List (Addr × Obj)) (σ : St) (s : Shared) (u : Value), X.K = K → Inv X pins σ H s → RelV x u → ∃ as, Reads s.heap u d as
def DataVs (K : PySem.W.Frag) (H : Hp) (ds : List PyData) (xs : List V) : Prop := ∀ (X : Cx) (pins : List (Addr × Obj)) (σ : St) (s : Shared) (us : List Value), X.K = K → Inv X pins σ H s → Vals xs us → ∃ as, ReadsAll s.heap us ds as
section
variable {K : PySem.W.Frag} {H : Hp}
theorem DataV.non : DataV K H .none .non := fun _ _ _ _ _ _ _ r => by cases r; exact ⟨_, .none⟩
theorem DataV.bl (b : Bool) : DataV K H (.bool b) (.bl b) := fun _ _ _ _ _ _ _ r => by cases r; exact ⟨_, .bool b⟩
theorem DataV.int (i : Int) : DataV K H (.int i) (.int i) := fun _ _ _ _ _ _ _ r => by obtain ⟨t, rfl⟩ := r; exact ⟨_, .int i t⟩
theorem DataV.str (x : Str) : DataV K H (.str x) (.str x) := fun _ _ _ _ _ _ _ r => by obtain ⟨t, rfl⟩ := r; exact ⟨_, .str x t⟩
theorem DataVs.nil : DataVs K H [] [] := fun _ _ _ _ _ _ _ r => by cases r; exact ⟨_, .nil⟩
theorem DataVs.cons {d : PyData} {ds : List PyData} {x : V} {xs : List V} (a : DataV K H d x) (b : DataVs K H ds xs) : DataVs K H (d :: ds) (x :: xs) := fun X pins σ s us e I r => by
  cases r with
  | cons r1 r2 =>
    obtain ⟨as, ha⟩ := a X pins σ s _ e I r1
    obtain ⟨bs, hb⟩ := b X pins σ s _ e I r2
    exact ⟨_, .cons ha hb⟩
theorem DataV.lst {ds : List PyData} {p : Addr} {xs : List V} (h : SqL K H p xs) (b : DataVs K H ds xs) : DataV K H (.list ds) (.ref p) := fun X pins σ s u e I r => by
  cases r
  subst e
  obtain ⟨its, rv, ⟨o, n, ho, hc, _, hd⟩, _⟩ := I.list h
  obtain ⟨as, ha⟩ := b X pins σ s its rfl I rv
  exact ⟨_, .list ho hc hd (by simpa using ha)⟩
theorem DataV.tup {ds : List PyData} {p : Addr} {xs : List V} (h : SqT K H p xs) (b : DataVs K H ds xs) : DataV K H (.tuple ds) (.ref p) := fun X pins σ s u e I r => by
  cases r
  subst e
  obtain ⟨its, rv, ⟨o, ho, hc, n, hd⟩, _⟩ := I.tuple h
  obtain ⟨as, ha⟩ := b X pins σ s its rfl I rv
  exact ⟨_, .tuple ho hc hd (by simpa using ha)⟩
theorem DataVs.ints : ∀ ns : List Int, DataVs K H (ns.map PyData.int) (ns.map V.int)
  | [] => .nil
  | n :: ns => .cons (.int n) (DataVs.ints ns)
end
open SeqAt (shaped)
/-- == and != of two data; of two numbers by themselves -/
def gEq (K : PySem.W.Frag) (neg : Bool) : R2 := fun x y H Q => match x, y with
  | .int i, .int j => Q (.bl (if neg then !decide (i = j) else decide (i = j))) H
  | .bl a, .bl b => Q (.bl (if neg then !(a == b) else a == b)) H
  | _, _ => ∃ d e, DataV K H d x ∧ DataV K H e y ∧ shaped d = true ∧ shaped e = true ∧ Q (.bl (if neg then !d.eqv e else d.eqv e)) H
section
variable {X : Cx}
theorem eq_data {pins : List (Addr × Obj)} {s : Shared} {σ : St} {H : Hp} {x y : V} {v u : Value} {Q : VK} {neg : Bool} (hu : X.A.units + 64 < cLine) (I : Inv X pins σ H s) (rx : RelV x v) (ry : RelV y u)
    (q : ∃ d e, DataV X.K H d x ∧ DataV X.K H e y ∧ shaped d = true ∧ shaped e = true ∧ Q (.bl (if neg then !d.eqv e else d.eqv e)) H) :
    wpAny (model X.prog X.w) X.A (compareOp (if neg then .NotEq else .Eq) v u) (EP X pins σ Q) X.xe s := by
  obtain ⟨d, e, hd, he, h1, h2, q⟩ := q
  obtain ⟨as, ra⟩ := hd X pins σ s v rfl I rx
  obtain ⟨bs, rb⟩ := he X pins σ s u rfl I ry
  cases neg with
  | true => exact ne_dataH ra rb h1 h2 hu ⟨.bl _, H, I, rfl, q⟩
  | false => exact eq_dataH ra rb h1 h2 hu ⟨.bl _, H, I, rfl, q⟩
theorem dec_intI {i j : Int} : decide (V.int i = V.int j) = decide (i = j) := by simp
theorem g_eq (hu : X.A.units + 64 < cLine) : OpR X (compareOp .Eq) (gEq X.K false) := by
  intro pins s σ H x y v u Q I rx ry q
  have D := fun q' => eq_data (neg := false) (Q := Q) hu I rx ry q'
  cases x with
  | int i =>
    cases y with
    | int j => exact op_eq pins s σ H _ _ v u Q I rx ry ⟨rfl, by rw [dec_intI]; exact q⟩
    | _ => exact D q
  | bl i =>
    cases y with
    | bl j => exact op_eq pins s σ H _ _ v u Q I rx ry ⟨rfl, by rw [dec_bl]; exact q⟩
    | _ => exact D q
  | _ => exact D q
theorem g_ne (hu : X.A.units + 64 < cLine) : OpR X (compareOp .NotEq) (gEq X.K true) := by
  intro pins s σ H x y v u Q I rx ry q
  have D := fun q' => eq_data (neg := true) (Q := Q) hu I rx ry q'
  cases x with
  | int i =>
    cases y with
    | int j => exact op_ne pins s σ H _ _ v u Q I rx ry ⟨rfl, by rw [dec_intI]; exact q⟩
    | _ => exact D q
  | bl i =>
    cases y with
    | bl j => exact op_ne pins s σ H _ _ v u Q I rx ry ⟨rfl, by rw [dec_bl]; exact q⟩
    | _ => exact D q
  | _ => exact D q

/-! ### in, not in -/
def gIn (K : PySem.W.Frag) (neg : Bool) : R2 := fun x y H Q => match y with
  | .ref p => ∃ xs, (SqL K H p xs ∨ SqT K H p xs) ∧ flatV x = true ∧ xs.all flatV = true ∧ Q (.bl (if neg then !inV x xs else inV x xs)) H
  | _ => False
theorem g_notin : OpR X (compareOp .NotIn) (gIn X.K true) := op_notIn_seq.imp fun x y H Q q => by
  cases y with
  | ref p => obtain ⟨xs, h1, h2, h3, q⟩ := q; exact ⟨p, xs, rfl, h1, h2, h3, q⟩
  | _ => exact False.elim q

/-! ### items and cuts -/
def gIx (K : PySem.W.Frag) : R2 := fun x y H Q => match x, y with
  | .ref p, .int i => ∃ xs v, (SqL K H p xs ∨ SqT K H p xs) ∧ atI xs i = some v ∧ Q v H
  | _, _ => False
theorem g_ix : IxR X (gIx X.K) := (ix_list.or ix_tup).imp fun x y H Q q => by
  cases x with
  | ref p =>
    cases y with
    | int i =>
      obtain ⟨xs, v, h1, h2, q⟩ := q
      rcases h1 with h1 | h1
      · exact .inl ⟨p, xs, i, v, rfl, rfl, h1, h2, q⟩
      · exact .inr ⟨p, xs, i, v, rfl, rfl, h1, h2, q⟩
    | _ => exact False.elim q
  | _ => exact False.elim q
theorem atI_in {α : Type} {xs : List α} {i : Int} (h0 : 0 ≤ i) (h1 : i < xs.length) : ∃ v, v ∈ xs ∧ atI xs i = some v ∧ xs[i.toNat]? = some v := by
  have hl : i.toNat < xs.length := by omega
  refine ⟨xs[i.toNat], List.getElem_mem hl, ?_, by simp [hl]⟩
  have e : xs[i.toNat]? = some xs[i.toNat] := by simp [hl]
  have := atI_nat e
  rwa [Int.toNat_of_nonneg h0] at this
def gSl (K : PySem.W.Frag) : V → Option Int → Option Int → Hp → VK → Prop := fun x lo hi H Q => match x with
  | .ref a => ∃ xs, SqL K H a xs ∧ ∀ p H', Gro H p (.lst (cutV xs lo hi)) H' → Q (.ref p) H'
  | _ => False
theorem g_sl : SlR X (gSl X.K) := by
  intro pins s σ H x v vl vu lo hi sl Q I rx hs pl pu q
  cases x with
  | ref a => obtain ⟨xs, h1, q⟩ := q; exact sl_list pins s σ H _ v vl vu lo hi sl Q I rx hs pl pu ⟨a, xs, rfl, h1, fun p hp => q p _ (.mk' hp)⟩
  | _ => exact False.elim q

/-! ### calls of builtins -/
def gLen (K : PySem.W.Frag) : List V → Hp → VK → Prop := fun xs H Q => match xs with
  | [.ref p] => ∃ ys, (SqL K H p ys ∨ SqT K H p ys) ∧ Q (.int ys.length) H
  | _ => False
theorem c_len : CallR X (.builtin "len") (gLen X.K) := call_len_seq.imp fun xs H Q q => by
  unfold gLen at q
  split at q
  · obtain ⟨ys, h1, q⟩ := q
    exact ⟨_, ys, rfl, h1, q⟩
  · exact q.elim
def gList (K : PySem.W.Frag) : List V → Hp → VK → Prop := fun xs H Q => match xs with
  | [.ref p] => ∃ ys, (SqL K H p ys ∨ SqT K H p ys) ∧ ∀ l H', Gro H l (.lst ys) H' → Q (.ref l) H'
  | _ => False
theorem c_list : CallR X (.type "list") (gList X.K) := call_list_of.imp fun xs H Q q => by
  unfold gList at q
  split at q
  · obtain ⟨ys, h1, q⟩ := q
    exact ⟨_, ys, rfl, h1, fun l hl => q l _ (.mk' hl)⟩
  · exact q.elim
def gInt : List V → Hp → VK → Prop := fun xs H Q => match xs with
  | [.int i] => Q (.int i) H
  | [.bl k] => Q (.int (if k then 1 else 0)) H
  | _ => False
theorem c_int : CallR X (.type "int") gInt := call_int1.imp fun xs H Q q => by
  unfold gInt at q
  split at q
  · exact .inl ⟨_, rfl, q⟩
  · exact .inr ⟨_, rfl, q⟩
  · exact q.elim
/-- isinstance of one class that the module or the builtins name -/
def gInst (K : PySem.W.Frag) : List V → Hp → VK → Prop := fun xs H Q => match xs with
  | [x, .ty T] => ∃ t b, TyOf K H x t ∧ PySem.W.kitOne K t (.type T) = some b ∧ Q (.bl b) H
  | [x, .ref C] => ∃ t b, TyOf K H x t ∧ PySem.W.kitOne K t (.ref C) = some b ∧ Q (.bl b) H
  | _ => False
theorem c_inst : CallR X (.builtin "isinstance") (gInst X.K) := by
  intro pins s σ H xs us Q I r q
  unfold gInst at q
  split at q
  · obtain ⟨t, b, h1, h2, q⟩ := q
    obtain ⟨u, w', rfl, r1, r2⟩ := vals2 r
    cases r2
    exact isinst_ok I r1 h1 h2 fun tk => ⟨.bl b, H, I.tok _, rfl, q⟩
  · obtain ⟨t, b, h1, h2, q⟩ := q
    obtain ⟨u, w', rfl, r1, r2⟩ := vals2 r
    cases r2
    exact isinst_ok I r1 h1 h2 fun tk => ⟨.bl b, H, I.tok _, rfl, q⟩
  · exact q.elim
/-- a built-in type as a value -/
theorem bty {x : Str} {T : String} {pos : Pos} (hg : Gl X x) (hm : X.mg x = none) (hv : bootBuiltins x = some (.type T)) (hn : x ≠ "__name__" := by decide) (hd : (x == ("__debug__" : Str)) = false := by decide) : PE X (.Name x pos) (tC (.ty T)) :=
  pe_bltn hg hm hv rfl hn hd
end

/-! ### arguments and displays without stars, cheaply -/
def isStar : Expr → Bool
  | .Starred _ _ => true
  | _ => false
theorem star_cons {e : Expr} {es : List Expr} {env : Env} (h : isStar e = false) : starEach (e :: es) env = (false, eval e env) :: starEach es env := by
  cases e <;> first | rfl | cases h
def noStar : List Expr → Bool
  | [] => true
  | e :: r => !isStar e && noStar r
theorem noStar_any {env : Env} {pos : Pos} : ∀ {es : List Expr}, noStar es = true → (backTo pos (starEach es env)).any (·.1) = false
  | [], _ => rfl
  | e :: r, h => by
    have h' : (!isStar e && noStar r) = true := h
    rw [Bool.and_eq_true] at h'
    have h1 : isStar e = false := by simpa using h'.1
    rw [star_cons h1]
    show (false || (backTo pos (starEach r env)).any (·.1)) = false
    rw [Bool.false_or]
    exact noStar_any h'.2
theorem noStar_head {e : Expr} {es : List Expr} (h : noStar (e :: es) = true) : isStar e = false ∧ noStar es = true := by
  have h' : (!isStar e && noStar es) = true := h
  rw [Bool.and_eq_true] at h'
  exact ⟨by simpa using h'.1, h'.2⟩
theorem pa_c {X : Cx} {e : Expr} {es : List Expr} {te : TE} {t : TA} (ha : PE X e te) (hr : PA X es t) (hs : isStar e = false := by rfl) : PA X (e :: es) (tCons te t) := pa_cons ha hr (star_cons hs)
/-- a list of written constants -/
def constOf : Expr → Option V
  | .Constant (.int i) _ _ => some (.int i)
  | .Constant (.bool b) _ _ => some (.bl b)
  | .Constant .none _ _ => some .non
  | .Constant (.str x) _ _ => some (.str x)
  | _ => none
def constsOf : List Expr → Option (List V)
  | [] => some []
  | e :: r => match constOf e, constsOf r with
    | some v, some vs => some (v :: vs)
    | _, _ => none
def tConsts (vs : List V) : TA := fun _ H Q => Q vs H
theorem pe_const {X : Cx} {e : Expr} {v : V} (h : constOf e = some v) : PE X e (tC v) := by
  unfold constOf at h
  split at h
  · cases h; exact pe_int
  · cases h; exact pe_bl
  · cases h; exact pe_non
  · cases h; exact pe_str
  · cases h
theorem const_star {e : Expr} {v : V} (h : constOf e = some v) : isStar e = false := by
  cases e <;> first | rfl | cases h
theorem pa_const {X : Cx} : ∀ {es : List Expr} {vs : List V}, constsOf es = some vs → PA X es (tConsts vs)
  | [], vs, h => by
    cases h
    exact pa_nil
  | e :: r, vs, h => by
    unfold constsOf at h
    split at h
    · rename_i v ws h1 h2
      cases h
      exact pa_c (pe_const h1) (pa_const h2) (const_star h1)
    · cases h

/-! ### displays -/
section
variable {X : Cx} {es : List Expr} {t : TA} {pos : Pos}
def mTup (t : TA) : TE := fun σ H Q => t σ H fun xs H1 => xs.length ≤ sizeLine ∧ ∀ p H', Gro H1 p (.tup xs) H' → Q (.ref p) H'
def mLst (t : TA) : TE := fun σ H Q => t σ H fun xs H1 => xs.length ≤ sizeLine ∧ ∀ p H', Gro H1 p (.lst xs) H' → Q (.ref p) H'
theorem me_tup {x1} (h : PA X es t) : PE X (.Tuple es x1 pos) (mTup t) := by
  intro pins s σ H Q I hq
  refine wpAny_Tuple_spliced (thn (h pos pins s σ H _ I hq) fun us s1 ⟨xs, H1, I1, r, z, q⟩ => ⟨by rw [← r.length]; exact z, ?_⟩)
  have hf : H1 s1.heap.objs.size = none := I1.hok.fresh (Nat.le_refl _)
  refine ⟨.ref s1.heap.objs.size, upd H1 s1.heap.objs.size (.tup xs), I1.laid (t' := s1.toks) (fun b u e => Heap.get?_push_of_some _ e) (Nat.le_refl _) ?_, rfl, q _ _ (.mk' hf)⟩
  exact ⟨z, us, r, ⟨_, Heap.get?_push_size _ rfl, rfl, _, rfl⟩⟩
theorem me_lst (h : PA X es t) : PE X (.List es pos) (mLst t) := by
  intro pins s σ H Q I hq
  refine wpAny_List_spliced (thn (h pos pins s σ H _ I hq) fun us s1 ⟨xs, H1, I1, r, z, q⟩ => ⟨by rw [← r.length]; exact z, ?_⟩)
  have hf : H1 s1.heap.objs.size = none := I1.hok.fresh (Nat.le_refl _)
  refine ⟨.ref s1.heap.objs.size, upd H1 s1.heap.objs.size (.lst xs), I1.laid (t' := s1.toks) (fun b u e => Heap.get?_push_of_some _ e) (Nat.le_refl _) ?_, rfl, q _ _ (.mk' hf)⟩
  exact ⟨z, us, 0, r, Heap.get?_push_size _ rfl⟩
end
theorem fitB {Q : VK} {H : Hp} {a b : Bool} (k : Q (.bl a) H) (e : a = b) : Q (.bl b) H := e ▸ k

/-! ### the kinds of plain things -/
def isIntV : V → Bool
  | .int _ => true
  | .bl _ => true
  | _ => false
def isBlV : V → Bool
  | .bl _ => true
  | _ => false
/-- a plain thing: None, a truth, a number, a text, a list, a tuple, a dict -/
inductive Knd (K : PySem.W.Frag) (H : Hp) : V → Prop where
  | non : Knd K H .non
  | bl (b : Bool) : Knd K H (.bl b)
  | int (i : Int) : Knd K H (.int i)
  | str (x : Str) : Knd K H (.str x)
  | lst {a : Addr} {xs : List V} (e : H a = some (.lst xs)) : Knd K H (.ref a)
  | tup {a : Addr} {xs : List V} (e : H a = some (.tup xs)) : Knd K H (.ref a)
  | dK {a : Addr} {kvs : List (Key × V)} (e : H a = some (.dK kvs)) : Knd K H (.ref a)
theorem Knd.mono {K : PySem.W.Frag} {H H' : Hp} {v : V} (k : Knd K H v) (s : Same H H') : Knd K H' v := by
  cases k with
  | non => exact .non
  | bl b => exact .bl b
  | int i => exact .int i
  | str x => exact .str x
  | lst e => exact .lst (s _ _ e)
  | tup e => exact .tup (s _ _ e)
  | dK e => exact .dK (s _ _ e)
theorem Knd.noTy {K : PySem.W.Frag} {H : Hp} {v : V} (k : Knd K H v) : ∀ f, v ≠ .ty f := by
  intro f e
  subst e
  cases k
theorem Knd.isInt {K : PySem.W.Frag} {H : Hp} {v : V} (k : Knd K H v) : ∃ ty, TyOf K H v ty ∧ PySem.W.kitOne K ty (.type "int") = some (isIntV v) := by
  cases k with
  | non => exact ⟨_, .non, by with_unfolding_all rfl⟩
  | bl b => exact ⟨_, .bl b, by with_unfolding_all rfl⟩
  | int i => exact ⟨_, .int i, by with_unfolding_all rfl⟩
  | str x => exact ⟨_, .str x, by with_unfolding_all rfl⟩
  | lst e => exact ⟨_, .lst e, by with_unfolding_all rfl⟩
  | tup e => exact ⟨_, .tup e, by with_unfolding_all rfl⟩
  | dK e => exact ⟨_, .dK e, by with_unfolding_all rfl⟩
theorem Knd.isBl {K : PySem.W.Frag} {H : Hp} {v : V} (k : Knd K H v) : ∃ ty, TyOf K H v ty ∧ PySem.W.kitOne K ty (.type "bool") = some (isBlV v) := by
  cases k with
  | non => exact ⟨_, .non, by with_unfolding_all rfl⟩
  | bl b => exact ⟨_, .bl b, by with_unfolding_all rfl⟩
  | int i => exact ⟨_, .int i, by with_unfolding_all rfl⟩
  | str x => exact ⟨_, .str x, by with_unfolding_all rfl⟩
  | lst e => exact ⟨_, .lst e, by with_unfolding_all rfl⟩
  | tup e => exact ⟨_, .tup e, by with_unfolding_all rfl⟩
  | dK e => exact ⟨_, .dK e, by with_unfolding_all rfl⟩
/-- a written list is not too long -/
theorem sz {n : Nat} (h : Nat.ble n 1000 = true) : n ≤ sizeLine := Nat.le_trans (Nat.le_of_ble_eq_true h) (by decide)
theorem szl {n : Nat} (h : n ≤ 100000) : n ≤ sizeLine := Nat.le_trans h (by decide)
theorem szlt {n : Nat} (h : n ≤ 100000) : n < sizeLine := Nat.lt_of_le_of_lt h (by decide)

/-! ### < of two lists of numbers -/
section
variable {X : Cx}
/-! ### all, any of a list of truths -/
theorem range_get (bs : List Bool) : (List.range bs.length).map (fun i => (bs[i]?).getD false) = bs := by
  apply List.ext_getElem
  · simp
  · intro i h1 h2
    simp [List.getElem?_eq_getElem h2]
theorem range_all (bs : List Bool) : ((List.range bs.length).all fun i => (bs[i]?).getD false) = bs.all id := by
  conv => rhs; rw [← range_get bs]
  rw [List.all_map]
  rfl
def gAll (K : PySem.W.Frag) (one : Bool) : List V → Hp → VK → Prop := fun xs H Q => match xs with
  | [.ref p] => ∃ bs : List Bool, SqL K H p (bs.map V.bl) ∧ Q (.bl (if one then bs.any id else bs.all id)) H
  | _ => False
theorem bools_truth {prog : Program} {w : World} {A : Around} {bs : List Bool} {its : List Value} (r : Vals (bs.map V.bl) its) : TruthOf prog w A (fun i v => its.toArray[i]? = some v) fun i => (bs[i]?).getD false := fun i v s Q E hP hQ => by
  dsimp only at hP hQ
  have hi : i < its.length := by
    have := (Array.getElem?_eq_some_iff.mp hP).1
    simpa using this
  have hl := r.length
  rw [List.length_map] at hl
  have hb : i < bs.length := by omega
  obtain ⟨u, hu, ru⟩ := r.get (i := i) (x := V.bl bs[i]) (by simp [hb])
  have e : its.toArray[i]? = some u := by simpa using hu
  rw [e] at hP
  cases hP
  cases ru
  rw [List.getElem?_eq_getElem hb] at hQ
  exact wpAny_truthy_bool hQ
theorem c_all (hc : X.calm = true) : CallR X (.builtin "all") (gAll X.K false) := by
  intro pins s σ H xs us Q I r q
  unfold gAll at q
  split at q
  · rename_i p
    obtain ⟨bs, hq, q⟩ := q
    obtain ⟨u, rfl, rx⟩ := vals1 r
    cases rx
    obtain ⟨its, rv, pl, _⟩ := I.list hq
    have hl := rv.length
    rw [List.length_map] at hl
    have hne : p ≠ s.heap.objs.size := by
      obtain ⟨o, n, e, _⟩ := pl
      exact Nat.ne_of_lt (Heap.lt_size e)
    refine call_all_walk (wpAny_pyIter_list pl.isList ⟨s.heap.objs.size, _, _, _, _, _, fun i => (bs[i]?).getD false, rfl, Walks.list (A := X.A.in1) (show X.A.in1.handled = none from I.ok.hd hc) s.heap.objs.size p hne its.toArray, ⟨⟨_, Heap.get?_push_size _ rfl, rfl, rfl⟩, ?_⟩, bools_truth rv, fun h' tk k => ?_⟩)
    · exact pl.isList.at fun o e => Heap.get?_push_of_some _ e
    · refine ⟨.bl _, H, I.kept (h' := h') (t' := tk) fun b o e => k b o (fun z => ?_) (Heap.get?_push_of_some _ e), ?_, q⟩
      · have e' : b = s.heap.objs.size := by simpa using z
        exact absurd (Heap.lt_size e) (by rw [e']; exact Nat.lt_irrefl _)
      · show Value.bool _ = Value.bool _
        rw [List.size_toArray, ← hl, range_all]
        rfl
  · exact q.elim
def gTupF (K : PySem.W.Frag) : List V → Hp → VK → Prop := fun xs H Q => match xs with
  | [.ref p] => ∃ ys, SqL K H p ys ∧ ∀ l H', Gro H l (.tup ys) H' → Q (.ref l) H'
  | _ => False
theorem c_tuple : CallR X (.type "tuple") (gTupF X.K) := call_tuple_of.imp fun xs H Q q => by
  unfold gTupF at q
  split at q
  · obtain ⟨ys, h1, q⟩ := q
    exact ⟨_, ys, rfl, .inl ⟨h1, fun l hl => q l _ (.mk' hl)⟩⟩
  · exact q.elim

/-! ### methods of lists -/
def gApp : V → List V → Hp → VK → Prop := fun x vs H Q => match x, vs with
  | .ref l, [y] => ∃ xs, H l = some (.lst xs) ∧ xs.length < sizeLine ∧ Q .non (upd H l (.lst (xs ++ [y])))
  | _, _ => False
theorem mg_append : MtR X "list.append" gApp := by
  intro pins s σ H x vs v us Q I rx rv q
  unfold gApp at q
  split at q
  · obtain ⟨xs, h1, h2, q⟩ := q
    exact mt_append pins s σ H _ _ v us Q I rx rv ⟨_, xs, _, rfl, rfl, h1, h2, q⟩
  · exact q.elim
def gExt (K : PySem.W.Frag) : V → List V → Hp → VK → Prop := fun x vs H Q => match x, vs with
  | .ref l, [.ref b] => ∃ xs zs, H l = some (.lst xs) ∧ H b = some (.lst zs) ∧ xs.length + zs.length ≤ sizeLine ∧ Q .non (upd H l (.lst (xs ++ zs)))
  | _, _ => False
theorem mg_extend : MtR X "list.extend" (gExt X.K) := by
  intro pins s σ H x vs v us Q I rx rv q
  unfold gExt at q
  split at q
  · obtain ⟨xs, zs, h1, h2, h3, q⟩ := q
    exact mt_extend pins s σ H _ _ v us Q I rx rv ⟨_, _, xs, zs, rfl, rfl, h1, h2, h3, q⟩
  · exact q.elim
end

/-! ### a def by its bundle -/
/-- a def of the module: its name, its address, how it binds, its promise -/
structure Has (P : Program) (w : World) (K : PySem.W.Frag) (mg : Str → Option Value) (base : Heap) (x : Str) (k : Nat) (f : Addr) (fd : FuncData) (ps : List Str) (sp : Sp) : Prop where
  gm : mg x = some (.ref f)
  kp : PySem.W.keepIn K (.ref f) = true
  b : Binds K fd ps []
  ok : FnOk P w K mg base CX0 k f fd ps sp
section
variable {X : Cx} {k j : Nat} {f : Addr} {fd : FuncData} {ps : List Str} {sp : Sp} {x : Str} {p pos : Pos} {e : Expr} {es : List Expr} {t : TA}
theorem cal (F : Has X.prog X.w X.K X.mg X.base x j f fd ps sp) (hr : Room k X.A) (ha : PA X (e :: es) t) (hj : j ≤ k := by decide) (hg : Gl X x := by rfl)
    (hdb : (x == ("__debug__" : Str)) = false := by decide) (hn : noStar (e :: es) = true := by rfl) :
    PE X (.Call (.Name x p) (e :: es) [] pos) (tCall sp [] E0 t) := pe_call F.ok (hr.mono hj) hg F.gm F.kp F.b .nil pass0 ha hdb (star_cons (noStar_head hn).1) (noStar_any (noStar_head hn).2)
theorem calB {id : String} {r : List V → Hp → VK → Prop} (hc : CallR X (.builtin id) r) (hm : X.mg x = none) (hv : bootBuiltins x = some (.builtin id)) (ha : PA X (e :: es) t) (hg : Gl X x := by rfl) (hx : x ≠ "__name__" := by decide) (hdb : (x == ("__debug__" : Str)) = false := by decide)
    (hn : noStar (e :: es) = true := by rfl) : PE X (.Call (.Name x p) (e :: es) [] pos) (tCB r t) := pe_callB hc hg hm hv ha hx hdb (star_cons (noStar_head hn).1) (noStar_any (noStar_head hn).2)
theorem calTy {T : String} {r : List V → Hp → VK → Prop} (hc : CallR X (.type T) r) (hm : X.mg x = none) (hv : bootBuiltins x = some (.type T)) (ha : PA X (e :: es) t) (hg : Gl X x := by rfl) (hx : x ≠ "__name__" := by decide) (hdb : (x == ("__debug__" : Str)) = false := by decide)
    (hn : noStar (e :: es) = true := by rfl) : PE X (.Call (.Name x p) (e :: es) [] pos) (tCB r t) := pe_callTy hc hg hm hv ha hx hdb (star_cons (noStar_head hn).1) (noStar_any (noStar_head hn).2)
/-- a number of the module -/
theorem gi {n : Int} {u : Tok} (hm : X.mg x = some (.int n u)) (hg : Gl X x := by rfl) (hd : (x == ("__debug__" : Str)) = false := by decide) : PE X (.Name x pos) (tC (.int n)) := pe_glob hg hm ⟨u, rfl⟩ hd
end
end L2

/-! OWN EXTENSION 2: comprehensions of one clause. -/
namespace L2
open PySem PySem.Spec PyProof.Rows

/-- the cells that a comprehension's block closes over -/
def clOf (cells : List (Str × Addr)) : List (Str × NameKind) → List (Str × Addr) → List (Str × Addr)
  | [], acc => acc
  | (n, k) :: r, acc => clOf cells r (if (k == NameKind.free) = true then (n, (cells.lookup n).getD 0) :: acc else acc)
theorem closureFor_of {scope : Scope} {env : Env} (h : ∀ n, (n, NameKind.free) ∈ scope.names → ∃ c, env.cells.lookup n = some c) : closureFor scope env = pure (clOf env.cells scope.names []) := by
  unfold closureFor
  have key : ∀ (l : List (Str × NameKind)) (acc : List (Str × Addr)), (∀ n, (n, NameKind.free) ∈ l → ∃ c, env.cells.lookup n = some c) →
      (forIn l acc (fun x __s => match x with
          | (name, kind) =>
            if (kind == NameKind.free) = true then do
              let __do_lift ← cellOf env name
              pure (ForInStep.yield ((name, __do_lift) :: __s))
            else pure (ForInStep.yield __s)) : Sem (List (Str × Addr))) = pure (clOf env.cells l acc) := by
    intro l
    induction l with
    | nil => intro acc _; rfl
    | cons x r ih =>
      intro acc hf
      obtain ⟨n, k⟩ := x
      have hr : ∀ n, (n, NameKind.free) ∈ r → ∃ c, env.cells.lookup n = some c := fun n hn => hf n (List.mem_cons_of_mem _ hn)
      rw [List.forIn_cons]
      by_cases hk : (k == NameKind.free) = true
      · have hk' : k = NameKind.free := by simpa using hk
        subst hk'
        obtain ⟨c, hc⟩ := hf n List.mem_cons_self
        have e : cellOf env n = pure c := by unfold cellOf; rw [hc]
        show (if (NameKind.free == NameKind.free) = true then _ else _) >>= _ = _
        rw [if_pos hk, e]
        show (forIn r ((n, c) :: acc) _ : Sem (List (Str × Addr))) = _
        rw [ih _ hr]
        show _ = pure (clOf env.cells r (if (NameKind.free == NameKind.free) = true then (n, (List.lookup n env.cells).getD 0) :: acc else acc))
        rw [if_pos hk, hc]
        rfl
      · show (if (k == NameKind.free) = true then _ else _) >>= _ = _
        rw [if_neg hk]
        show (forIn r acc _ : Sem (List (Str × Addr))) = _
        rw [ih _ hr]
        show _ = pure (clOf env.cells r (if (k == NameKind.free) = true then _ else acc))
        rw [if_neg hk]
  show (forIn scope.names [] _ >>= _ : Sem (List (Str × Addr))) = _
  rw [key _ _ h]
  rfl
theorem clOf_lookup {cells : List (Str × Addr)} : ∀ (l : List (Str × NameKind)) (acc : List (Str × Addr)) (x : Str) (c : Addr), (clOf cells l acc).lookup x = some c → (∀ n, (n, NameKind.free) ∈ l → ∃ c, cells.lookup n = some c) → ((x, NameKind.free) ∈ l ∧ cells.lookup x = some c) ∨ acc.lookup x = some c
  | [], acc, x, c, h, _ => .inr h
  | (n, k) :: r, acc, x, c, h, hf => by
    have hr : ∀ n, (n, NameKind.free) ∈ r → ∃ c, cells.lookup n = some c := fun n hn => hf n (List.mem_cons_of_mem _ hn)
    rcases clOf_lookup r _ x c h hr with ⟨h1, h2⟩ | h1
    · exact .inl ⟨List.mem_cons_of_mem _ h1, h2⟩
    · by_cases hk : (k == NameKind.free) = true
      · rw [if_pos hk] at h1
        have hk' : k = NameKind.free := by simpa using hk
        subst hk'
        obtain ⟨c', hc⟩ := hf n List.mem_cons_self
        rw [hc] at h1
        rw [List.lookup_cons] at h1
        by_cases e : (x == n) = true
        · rw [e] at h1
          have e' : x = n := by simpa using e
          subst e'
          have : c' = c := Option.some.inj h1
          subst this
          exact .inl ⟨List.mem_cons_self, hc⟩
        · have e' : (x == n) = false := by simpa using e
          rw [e'] at h1
          exact .inr h1
      · rw [if_neg hk] at h1
        exact .inr h1
theorem clOf_has {cells : List (Str × Addr)} : ∀ (l : List (Str × NameKind)) (acc : List (Str × Addr)) (x : Str), ((x, NameKind.free) ∈ l ∨ ∃ c, acc.lookup x = some c) → ∃ c, (clOf cells l acc).lookup x = some c
  | [], acc, x, h => by
    rcases h with h | h
    · cases h
    · exact h
  | (n, k) :: r, acc, x, h => by
    unfold clOf
    refine clOf_has r _ x ?_
    rcases h with h | ⟨c, h⟩
    · rcases List.mem_cons.mp h with e | e
      · cases e
        exact .inr ⟨_, by simp; rfl⟩
      · exact .inl e
    · refine .inr ?_
      by_cases hk : (k == NameKind.free) = true
      · rw [if_pos hk, List.lookup_cons]
        cases (x == n)
        · exact ⟨c, h⟩
        · exact ⟨_, rfl⟩
      · rw [if_neg hk]
        exact ⟨c, h⟩


section
variable {prog : Program} {w : World} {A : Around} {s : Shared} {R : Result → Shared → Prop}
/-- one clause, any target, any tests; nothing is raised -/
theorem compLoop_any {elt target iter : Expr} {ifs : List Expr} {scope : Scope} {pos : Pos} {it acc : Value} {env : Env} (I : Nat → Shared → Prop)
    (turn : ∀ n s, I n s → wpAny (model prog w) A (pyNext it) (fun r s₁ => match r with
      | none => R (.ok .next) s₁
      | some v => wpAny (model prog w) A (letOwnedTupleGo target it v) (fun _ s₁' => wpAny (model prog w) A (assign target env v) (fun _ s₂ =>
          wpAny (model prog w) A (forIn ifs true fun c r => if r = true then do let ok ← isTrue c env (eval c env); pure (ForInStep.yield ok) else pure (ForInStep.yield r)) (fun ok s₃ =>
            if ok = true then wpAny (model prog w) A (eval elt env) (fun x s₄ =>
              wpAny (model prog w) A (call (.builtin "list.append") [acc, x]) (fun _ s₅ => ∃ m, m < n ∧ I m s₅) (fun _ _ => False) s₄) (fun _ _ => False) s₃
            else ∃ m, m < n ∧ I m s₃) (fun _ _ => False) s₂) (fun _ _ => False) s₁') (fun _ _ => False) s₁) (fun _ _ => False) s)
    (n : Nat) (h : I n s) :
    codeAny (model prog w) A (.compLoop (.ListComp elt [⟨target, iter, ifs, 0⟩] scope pos) 0 it acc env) R s := by
  refine codeAny_loop rfl I (fun n s hI => ?_) n h
  show wpAny _ A ((compTurn (.ListComp elt [⟨target, iter, ifs, 0⟩] scope pos) 0 it acc env).onRaise (fun x => do noteFrame x env; theTreesLotGoes x)) _ _ s
  refine wpAny_noted ?_
  rw [compTurn_list]
  refine wpAny_bind (wpAny_standAt (wpAny_bind (wpAny_mono (turn n s hI) (fun r s₁ h₁ => ?_) fun _ _ h' => h'.elim)))
  cases r with
  | none => exact wpAny_pure h₁
  | some v =>
    refine wpAny_bind (wpAny_mono h₁ (fun _ s₁' h₁' => ?_) fun _ _ h' => h'.elim)
    refine wpAny_bind (wpAny_mono h₁' (fun _ s₂ h₂ => wpAny_bind (wpAny_mono h₂ (fun ok s₃ h₃ => ?_) fun _ _ h' => h'.elim)) fun _ _ h' => h'.elim)
    cases ok with
    | false => exact wpAny_pure ⟨rfl, h₃⟩
    | true =>
      exact wpAny_bind (wpAny_bind (wpAny_mono h₃ (fun x s₄ h₄ => wpAny_bind (wpAny_mono h₄ (fun _ s₅ h₅ => wpAny_pure (wpAny_pure ⟨rfl, h₅⟩)) fun _ _ h' => h'.elim)) fun _ _ h' => h'.elim))
end

/-- the context of a comprehension's block: its own names first, then those that it takes from around it -/
def cxComp (X : Cx) (Nc : List Str) (scope : Scope) (C : Addr) (s : Shared) (H : Hp) (fp : List Addr) : Cx where
  prog := X.prog
  w := X.w
  K := X.K
  mg := X.mg
  base := X.base
  A := X.A
  N := Nc
  s₀ := s
  H₀ := H
  env := compEnvC scope (clOf X.env.cells scope.names []) C X.env
  outer := X.stack
  stack := X.stack
  ex := fp
  fn := fun _ => false
  calm := X.calm
  pn := X.pn
  xe := fun _ _ => False

/-- the tests of a clause -/
def PTs (X : Cx) (ifs : List Expr) (t : TT) : Prop :=
  ∀ (pins : List (Addr × Obj)) (s : Shared) (σ : St) (H : Hp) (Q : Bool → Hp → Prop), Inv X pins σ H s → t σ H Q →
    wpAny (model X.prog X.w) X.A (forIn ifs true fun c r => if r = true then do let ok ← isTrue c X.env (eval c X.env); pure (ForInStep.yield ok) else pure (ForInStep.yield r)) (TP X pins σ Q) X.xe s
def tTrue : TT := fun _ H Q => Q true H
theorem pts_nil {X : Cx} : PTs X [] tTrue := fun _ _ _ H _ I h => wpAny_tests_nil ⟨H, I, h⟩
theorem HOk.adopt {P : Program} {w : World} {H : Hp} {h : Heap} {a : Addr} {o : HO} (x : HOk P w H h) (hn : H a = none) (new : ObjOk P w (upd H a o) h a o) : HOk P w (upd H a o) h := fun b u e => by
  by_cases hb : b = a
  · subst hb; rw [upd_same] at e; cases e; exact new
  · rw [upd_ne hb] at e
    exact (x b u e).stay (fun c v _ q => q) (fun c q => by rw [upd_ne (ne_of_none q hn)]; exact q) fun c xs q => by rw [upd_ne (ne_of_none q hn)]; exact q

/-- the turns of a comprehension, from the iterator J on; W: turn, measure, the items so far, the block's names, the heap -/
def CompW (J : It) (H1 : Hp) (σ0 : St) (g : TG) (tt : TT) (te : TE) (Q : VK) : Prop := ∃ W : Nat → Nat → List V → St → Hp → Prop,
  (∃ m, W 0 m [] σ0 H1) ∧ ∀ i m ys σ1 H2, W i m ys σ1 H2 →
    (J.stop i H2 ∧ ys.length ≤ sizeLine ∧ ∀ p H', Gro H2 p (.lst ys) H' → Q (.ref p) H') ∨
    (J.go i H2 ∧ ys.length < sizeLine ∧ ∃ Nx : List V → St → Hp → Prop, (∀ ys' σ' H', Nx ys' σ' H' → ∃ m', m' < m ∧ W (i + 1) m' ys' σ' H') ∧
      ∀ x H', J.yld i H2 x H' → g x σ1 H' fun σ2 H3 => tt σ2 H3 fun b H4 => if b = true then te σ2 H4 fun y H5 => Nx (ys ++ [y]) σ2 H5 else Nx ys σ2 H4)
/-- what a comprehension is worth: nv own names, caps the slots of those from around -/
def tComp (nv : Nat) (caps : List Nat) (wi : TI) (g : TG) (tt : TT) (te : TE) : TE := fun σ H Q => wi σ H fun J H1 => CompW J H1 (List.replicate nv none ++ caps.map fun j => (σ[j]?).join) g tt te Q

/-- what of a comprehension's scope is asked -/
structure CompScope (X : Cx) (Nc : List Str) (nv : Nat) (caps : List Nat) (scope : Scope) : Prop where
  kind : scope.kind = .function
  nocell : ∀ y ∈ scope.names, y.2 ≠ .cell
  names : ∀ y ∈ scope.names, y.2 = .local → scope.names.lookup y.1 = some .local
  free : ∀ n, (n, NameKind.free) ∈ scope.names → X.env.kindOf n = some .cell ∨ X.env.kindOf n = some .free
  len : Nc.length = nv + caps.length
  cap : ∀ k j, caps[k]? = some j → ∃ x, Nc[nv + k]? = some x ∧ X.N[j]? = some x ∧ scope.names.lookup x = some .free

/-- the same, as a check that computes -/
def compChk (fns : List (Str × NameKind)) (N Nc : List Str) (nv : Nat) (caps : List Nat) (sc : Scope) : Bool :=
  (sc.kind == .function) && (sc.names.all fun y => !(y.2 == .cell)) && (sc.names.all fun y => !(y.2 == .local) || sc.names.lookup y.1 == some .local) &&
  (sc.names.all fun y => !(y.2 == .free) || (fns.lookup y.1 == some .cell || fns.lookup y.1 == some .free)) && (Nc.length == nv + caps.length) &&
  ((List.range caps.length).all fun k => match caps[k]?, Nc[nv + k]? with
    | some j, some x => N[j]? == some x && sc.names.lookup x == some .free
    | _, _ => false)
theorem CompScope.of {X : Cx} {fns : List (Str × NameKind)} {N Nc : List Str} {nv : Nat} {caps : List Nat} {sc : Scope} (hf : X.env.scope.names = fns) (hN : X.N = N) (h : compChk fns N Nc nv caps sc = true) : CompScope X Nc nv caps sc := by
  unfold compChk at h
  simp only [Bool.and_eq_true] at h
  obtain ⟨⟨⟨⟨⟨h1, h2⟩, h3⟩, h4⟩, h5⟩, h6⟩ := h
  refine ⟨by simpa using h1, fun y hy e => ?_, fun y hy e => ?_, fun n hn => ?_, by simpa using h5, fun k j e => ?_⟩
  · have := List.all_eq_true.mp h2 y hy
    rw [e] at this
    simp at this
  · have := List.all_eq_true.mp h3 y hy
    rw [e] at this
    simpa using this
  · have := List.all_eq_true.mp h4 _ hn
    show X.env.scope.names.lookup n = some .cell ∨ X.env.scope.names.lookup n = some .free
    rw [hf]
    simpa using this
  · have hk : k < caps.length := (List.getElem?_eq_some_iff.mp e).1
    have := List.all_eq_true.mp h6 k (List.mem_range.mpr hk)
    rw [e] at this
    cases ex : Nc[nv + k]? with
    | none => rw [ex] at this; simp at this
    | some x =>
      rw [ex] at this
      simp only [Bool.and_eq_true] at this
      exact ⟨x, rfl, by rw [hN]; simpa using this.1, by simpa using this.2⟩

theorem lookup_relabel_kind {env : Env} : ∀ {names : List (Str × NameKind)} {x : Str} {k : NameKind},
    (names.map fun (n, k) => if (k == NameKind.free && env.scope.kind == .function && env.kindOf n == some .cell) then (n, NameKind.cell) else (n, k)).lookup x = some k →
    ∃ k0, names.lookup x = some k0 ∧ (k = k0 ∨ (k0 = .free ∧ k = .cell))
  | [], _, _, h => by simp at h
  | (n, k0) :: r, x, k, h => by
    have h' : List.lookup x ((if (k0 == NameKind.free && env.scope.kind == .function && env.kindOf n == some .cell) = true then (n, NameKind.cell) else (n, k0)) ::
        r.map fun (n, k) => if (k == NameKind.free && env.scope.kind == .function && env.kindOf n == some .cell) then (n, NameKind.cell) else (n, k)) = some k := h
    cases hx : x == n with
    | true =>
      refine ⟨k0, by simp [List.lookup_cons, hx], ?_⟩
      by_cases hc : (k0 == NameKind.free && env.scope.kind == .function && env.kindOf n == some .cell) = true
      · rw [if_pos hc, List.lookup_cons, hx] at h'
        have : NameKind.cell = k := Option.some.inj h'
        refine .inr ⟨?_, this.symm⟩
        rw [Bool.and_eq_true, Bool.and_eq_true] at hc
        simpa using hc.1.1
      · rw [if_neg hc, List.lookup_cons, hx] at h'
        exact .inl (Option.some.inj h').symm
    | false =>
      have h2 : (r.map fun (n, k) => if (k == NameKind.free && env.scope.kind == .function && env.kindOf n == some .cell) then (n, NameKind.cell) else (n, k)).lookup x = some k := by
        by_cases hc : (k0 == NameKind.free && env.scope.kind == .function && env.kindOf n == some .cell) = true
        · rw [if_pos hc, List.lookup_cons, hx] at h'
          exact h'
        · rw [if_neg hc, List.lookup_cons, hx] at h'
          exact h'
      obtain ⟨k1, h3, h4⟩ := lookup_relabel_kind h2
      exact ⟨k1, by simp [List.lookup_cons, hx, h3], h4⟩
theorem addr_ne {a b n : Addr} (h : a < n) (h' : n ≤ b) : a ≠ b := Nat.ne_of_lt (Nat.lt_of_lt_of_le h h')
theorem lookup_mem_pair {α β : Type} [BEq α] [LawfulBEq α] : ∀ {l : List (α × β)} {x : α} {k : β}, l.lookup x = some k → (x, k) ∈ l
  | [], _, _, h => by simp at h
  | (n, k0) :: r, x, k, h => by
    cases hx : x == n with
    | true =>
      simp only [List.lookup_cons, hx] at h
      cases h
      have e : x = n := by simpa using hx
      subst e
      exact List.mem_cons_self
    | false =>
      simp only [List.lookup_cons, hx] at h
      exact List.mem_cons_of_mem _ (lookup_mem_pair h)

section
variable {X : Cx} {elt tg iter : Expr} {ifs : List Expr} {scope : Scope} {Nc : List Str} {nv : Nat} {caps : List Nat}
/-- the block's start -/
theorem inv_comp {pins : List (Addr × Obj)} {σ : St} {H : Hp} {s : Shared} {fp : List Addr} {h₁ : Heap} {tk : Nat} {D C : Addr} {m : Str → Option Value} (S : CompScope X Nc nv caps scope) (I : Inv X pins σ H s)
    (hf : ∀ b ∈ fp, FpOk X pins H b) (hfl : ∀ b ∈ fp, b < s.heap.objs.size) (hD : s.heap.objs.size ≤ D) (hC : s.heap.objs.size ≤ C) (hDC : D ≠ C) (hn : h₁.Ns C m) {oD : Obj} (hDo : h₁.get? D = some oD) (hDd : ∀ v, oD.data ≠ .cell v) (old : ∀ b o, s.heap.get? b = some o → h₁.get? b = some o) :
    Inv (cxComp X Nc scope C s H fp) (pins ++ [(D, oD)]) (List.replicate nv none ++ caps.map fun j => (σ[j]?).join) H { s with heap := h₁, toks := tk } := by
  have hcells : ∀ n, (n, NameKind.free) ∈ scope.names → ∃ c, X.env.cells.lookup n = some c := fun n hm => I.ok.has n (S.free n hm)
  have clX : ∀ x c, (clOf X.env.cells scope.names []).lookup x = some c → (x, NameKind.free) ∈ scope.names ∧ X.env.cells.lookup x = some c := fun x c e => by
    rcases clOf_lookup _ _ _ _ e hcells with h | h
    · exact h
    · simp at h
  have frm : ∀ b ∈ frs X.stack, b < s.heap.objs.size := fun b hb => by
    obtain ⟨_, o, ho, _⟩ := I.stack.mem hb
    exact Heap.lt_size ho
  have cellLt : ∀ x c, X.env.cells.lookup x = some c → c < s.heap.objs.size := fun x c e => by
    obtain ⟨v, q⟩ := I.cell x c e
    exact q.lt
  refine ⟨⟨I.ok.mod, S.kind, I.ok.glob, I.ok.blt, hC, fun x y c e1 e2 => I.ok.inj x y c (clX x c e1).2 (clX y c e2).2, fun x hx => ?_, fun x c z => absurd z (by show ¬ (false = true); decide), I.ok.hd, I.ok.frames, .inl rfl, fun b hb => ⟨?_, fun x c e z => ?_⟩, fun b o e => I.bs b o e, Nat.le_trans I.ok.bsz I.sz, fun b o e hb => ?_, fun b hb z => ?_, I.stack, I.stkFree⟩,
    rfl, I.bare, Un.kept old, ⟨m, hn, fun i x v h1 h2 h3 => ?_⟩, fun x c e => ?_, I.hok.fresh hC, fun x c e => I.freeC x c (clX x c e).2, fun p hp => ?_, I.hok.kept old, ?_⟩
  · -- a cell or free name of the block has its cell
    have hx' : (relabel scope X.env).names.lookup x = some .cell ∨ (relabel scope X.env).names.lookup x = some .free := hx
    have hm : (x, NameKind.free) ∈ scope.names := by
      rcases hx' with hx' | hx'
      · obtain ⟨k0, e, z⟩ := lookup_relabel_kind hx'
        rcases z with z | ⟨z, _⟩
        · subst z; exact absurd rfl (S.nocell _ (lookup_mem_pair e))
        · subst z; exact lookup_mem_pair e
      · obtain ⟨k0, e, z⟩ := lookup_relabel_kind hx'
        rcases z with z | ⟨_, z⟩
        · subst z; exact lookup_mem_pair e
        · cases z
    exact clOf_has _ _ _ (.inl hm)
  · exact Nat.ne_of_lt (Nat.lt_of_lt_of_le (hfl b hb) hC)
  · exact (hf b hb).2.2.2.2.1 x c (clX x c e).2 z
  · have hx := (hf b hb).2.2.2.1
    rcases hx with z | z
    · exact I.ok.noex b o e z
    · exact absurd (Nat.lt_of_lt_of_le (Nat.lt_of_lt_of_le (Heap.lt_size e) I.ok.bsz) z) (Nat.lt_irrefl _)
  · rcases List.mem_cons.mp (I.stkSub b z) with q | q
    · exact (hf b hb).2.1 q
    · exact (hf b hb).2.2.1 q
  · -- the names' values
    have hi : nv ≤ i := by
      refine Nat.le_of_not_lt fun hlt => ?_
      rw [List.getElem?_append_left (by simpa using hlt), List.getElem?_replicate, if_pos hlt] at h2
      cases h2
    obtain ⟨k, rfl⟩ := Nat.le.dest hi
    rw [List.getElem?_append_right (by simp)] at h2
    simp only [List.length_replicate, Nat.add_sub_cancel_left, List.getElem?_map] at h2
    cases ek : caps[k]? with
    | none => rw [ek] at h2; cases h2
    | some j =>
      rw [ek] at h2
      have h2' : (σ[j]?).join = some v := Option.some.inj h2
      have hσ : σ[j]? = some (some v) := by
        cases e : σ[j]? with
        | none => rw [e] at h2'; cases h2'
        | some z => rw [e] at h2'; cases z with
          | none => cases h2'
          | some z => have : z = v := Option.some.inj h2'; rw [this]
      obtain ⟨y, e1, e2, e3⟩ := S.cap k j ek
      have h1' : Nc[nv + k]? = some x := h1
      rw [e1] at h1'
      cases h1'
      have hm := lookup_mem_pair e3
      have hk := S.free x hm
      obtain ⟨m0, hn0, hl⟩ := I.loc
      obtain ⟨u, ru, lk⟩ := hl j x v e2 hσ (by
        rcases hk with z | z
        · exact .inr (.inl z)
        · exact .inr (.inr z))
      refine ⟨u, ru, ?_⟩
      rcases lk with ⟨z, _⟩ | ⟨_, c, hc, hcell⟩
      · rcases hk with z' | z' <;> rw [z] at z' <;> cases z'
      · refine .inr ⟨?_, c, ?_, hcell.keeps old⟩
        · rcases h3 with z | z | z
          · exfalso
            obtain ⟨k0, e, z'⟩ := lookup_relabel_kind (show (relabel scope X.env).names.lookup x = some .local from z)
            rw [e3] at e
            cases e
            rcases z' with z' | ⟨_, z'⟩ <;> cases z'
          · exact .inl z
          · exact .inr z
        · obtain ⟨c', hc'⟩ := clOf_has (cells := X.env.cells) scope.names [] x (.inl hm)
          rw [(clX x c' hc').2] at hc
          cases hc
          exact hc'
  · obtain ⟨v, z⟩ := I.cell x c (clX x c e).2
    exact ⟨v, z.keeps old⟩
  · -- pins
    have hp' : p ∈ X.pn ++ (pins ++ [(D, oD)]) := hp
    rw [← List.append_assoc] at hp'
    rcases List.mem_append.mp hp' with z | z
    · obtain ⟨e, n, ne, nf, d⟩ := I.pin p z
      have hlt := Heap.lt_size e
      refine ⟨old _ _ e, n, Nat.ne_of_lt (Nat.lt_of_lt_of_le hlt hC), fun q => ?_, d⟩
      rcases List.mem_cons.mp (I.stkSub p.1 q) with q | q
      · exact ne q
      · exact nf q
    · have e : p = (D, oD) := by simpa using z
      subst e
      exact ⟨hDo, I.hok.fresh hD, hDC, fun q => absurd (Nat.lt_of_lt_of_le (frm _ q) hD) (Nat.lt_irrefl _), hDd⟩
  · show (List.replicate nv none ++ caps.map fun j => (σ[j]?).join).length = Nc.length
    rw [List.length_append, List.length_replicate, List.length_map, S.len]

abbrev lobj (its : List Value) (n : Nat) : Obj := { cls := .type "list", data := .seq its.toArray n }
theorem lobj_cell (its : List Value) (n : Nat) : ∀ v, (lobj its n).data ≠ .cell v := fun v z => by
  have z' : Data.seq its.toArray n = Data.cell v := z
  cases z'
/-- the block, from the iterator on -/
theorem comp_block {g : TG} {tt : TT} {te : TE} {pos : Pos} {pins : List (Addr × Obj)} {σ : St} {H : Hp} {s : Shared} {Q : VK} {E : Value → Shared → Prop} {RR : Value → Addr → Result → Shared → Prop} (hc : X.calm = true) (S : CompScope X Nc nv caps scope)
    (hg : ∀ C s H fp, PG (cxComp X Nc scope C s H fp) tg g) (ht : ∀ C s H fp, PTs (cxComp X Nc scope C s H fp) ifs tt) (he : ∀ C s H fp, PE (cxComp X Nc scope C s H fp) elt te)
    {it : Addr} {fp : List Addr} {tn : Nat → Heap → Prop} {J : It} (I : Inv X pins σ H s) (T : Turn X.prog X.w X.K tg J fp it tn) (st : tn 0 s.heap) (hf : ∀ b ∈ fp, FpOk X pins H b)
    {W : Nat → Nat → List V → St → Hp → Prop} {m0 : Nat} (w0 : W 0 m0 [] (List.replicate nv none ++ caps.map fun j => (σ[j]?).join) H)
    (turn : ∀ i m ys σ1 H2, W i m ys σ1 H2 → (J.stop i H2 ∧ ys.length ≤ sizeLine ∧ ∀ p H', Gro H2 p (.lst ys) H' → Q (.ref p) H') ∨
      (J.go i H2 ∧ ys.length < sizeLine ∧ ∃ Nx : List V → St → Hp → Prop, (∀ ys' σ' H', Nx ys' σ' H' → ∃ m', m' < m ∧ W (i + 1) m' ys' σ' H') ∧
        ∀ x H', J.yld i H2 x H' → g x σ1 H' fun σ2 H3 => tt σ2 H3 fun b H4 => if b = true then te σ2 H4 fun y H5 => Nx (ys ++ [y]) σ2 H5 else Nx ys σ2 H4))
    (hRR : ∀ (D C : Addr) (s1 : Shared) (H' : Hp), Inv X pins σ H' s1 → FpOk X pins H' C → (∃ m, s1.heap.Ns C m) → Q (.ref D) H' → RR (.ref D) C (.ok .next) s1) :
    wpAny (model X.prog X.w) X.A (newList []) (fun acc s₃ => wpAny (model X.prog X.w) X.A (newFunctionEnv scope X.env.globals (clOf X.env.cells scope.names []) [] X.env.qual none .none (some X.env)) (fun cenv s₄ =>
      codeAny (model X.prog X.w) X.A (.compStart (.ListComp elt [⟨tg, iter, ifs, 0⟩] scope pos) 0 (.ref it) acc { cenv with scope := relabel scope X.env }) (RR acc cenv.locals) s₄) E s₃) E s := by
  refine wpAny_newObj_type (wpAny_newFunctionEnv S.nocell (by intro y hy; simp at hy) (fun h₁ hns₁ hsb₁ => ?_) S.kind)
  dsimp only at hns₁ hsb₁ ⊢
  generalize hH2 : s.heap.push { cls := .type "list", dict := none, data := .seq ([] : List Value).toArray } = h2 at hns₁ hsb₁ ⊢
  have hC : h2.objs.size = s.heap.objs.size + 1 := by rw [← hH2, Heap.size_push]
  have hDC : s.heap.objs.size ≠ h2.objs.size := by rw [hC]; exact Nat.ne_of_lt (Nat.lt_succ_self _)
  have hCle : s.heap.objs.size ≤ h2.objs.size := by rw [hC]; exact Nat.le_succ _
  have old : ∀ b o, s.heap.get? b = some o → h₁.get? b = some o := fun b o e => hsb₁.extBut b o (Nat.ne_of_lt (Nat.lt_of_lt_of_le (Heap.lt_size e) hCle)) (Heap.get?_push_of_some _ (hH2 ▸ Heap.get?_push_of_some _ e))
  have hacc : h₁.get? s.heap.objs.size = some (lobj [] 0) := hsb₁.extBut _ _ hDC (Heap.get?_push_of_some _ (hH2 ▸ Heap.get?_push_size _ rfl))
  have hfl : ∀ b ∈ fp, b < s.heap.objs.size := fun b hb => by
    obtain ⟨o, ho, _⟩ := T.obj _ _ st b hb
    exact Heap.lt_size ho
  have frm : ∀ b ∈ frs X.stack, b < s.heap.objs.size := fun b hb => by
    obtain ⟨_, o, ho, _⟩ := I.stack.mem hb
    exact Heap.lt_size ho
  have cellLt : ∀ x c, X.env.cells.lookup x = some c → c < s.heap.objs.size := fun x c e => by
    obtain ⟨v, q⟩ := I.cell x c e
    exact q.lt
  have hcells : ∀ n, (n, NameKind.free) ∈ scope.names → ∃ c, X.env.cells.lookup n = some c := fun n hm => I.ok.has n (S.free n hm)
  have clX : ∀ x c, (clOf X.env.cells scope.names []).lookup x = some c → X.env.cells.lookup x = some c := fun x c e => by
    rcases clOf_lookup _ _ _ _ e hcells with h | h
    · exact h.2
    · simp at h
  have pinLt : ∀ p ∈ X.pn ++ pins, p.1 < s.heap.objs.size := fun p hp => Heap.lt_size (I.pin p hp).1
  generalize hDD : s.heap.objs.size = D at hacc hDC ⊢
  generalize hCC : h2.objs.size = C at hDC hCle hns₁ hsb₁ ⊢
  have leD : s.heap.objs.size ≤ D := Nat.le_of_eq hDD
  have leC : s.heap.objs.size ≤ C := by omega
  -- an iterator's record may turn in the block
  have fpc : ∀ {H1 : Hp} (o : Obj), (∀ b ∈ fp, H1 b = none) → ∀ b ∈ fp, FpOk (cxComp X Nc scope C s H fp) (pins ++ [(D, o)]) H1 b := fun {H1} o hn b hb => by
    refine ⟨hn b hb, Nat.ne_of_lt (Nat.lt_of_lt_of_le (hfl b hb) leC), fun z => ?_, .inl hb, fun x c e z => (hf b hb).2.2.2.2.1 x c (clX x c e) z, fun p hp => ?_⟩
    · rcases List.mem_cons.mp (I.stkSub b z) with q | q
      · exact (hf b hb).2.1 q
      · exact (hf b hb).2.2.1 q
    · have hp' : p ∈ X.pn ++ (pins ++ [(D, o)]) := hp
      rw [← List.append_assoc] at hp'
      rcases List.mem_append.mp hp' with z | z
      · exact (hf b hb).2.2.2.2.2 p z
      · have e : p = (D, o) := by simpa using z
        subst e
        exact fun q => addr_ne (hfl b hb) leD q.symm
  have loop : ∀ s₃ : Shared, s₃ = { s with heap := h₁, toks := s.toks + ([] : List (Str × Value)).length } →
      codeAny (model X.prog X.w) X.A (.compLoop (.ListComp elt [⟨tg, iter, ifs, 0⟩] scope pos) 0 (.ref it) (.ref D) (compEnvC scope (clOf X.env.cells scope.names []) C X.env)) (RR (.ref D) C) s₃ := by
    rintro s₃ rfl
    refine compLoop_any (fun n s' => ∃ (i : Nat) (ys : List V) (its : List Value) (nn : Nat) (σ1 : St) (H1 : Hp), Inv (cxComp X Nc scope C s H fp) (pins ++ [(D, lobj its nn)]) σ1 H1 s' ∧ tn i s'.heap ∧ (∀ b ∈ fp, H1 b = none) ∧ Vals ys its ∧ W i n ys σ1 H1) ?_ m0
      ⟨0, [], [], 0, _, H, inv_comp S I hf hfl leD leC hDC hns₁ hacc (lobj_cell _ _) old, T.keep _ _ _ st fun b _ o e => old b o e, fun b hb => (hf b hb).1, .nil, w0⟩
    rintro n s' ⟨i, ys, its, nn, σ1, H1, I1, st1, fr1, rv, w1⟩
    have pinD : ∀ {σ' : St} {H' : Hp} {s'' : Shared} {pl : List (Addr × Obj)}, Inv (cxComp X Nc scope C s H fp) ((pins ++ [(D, lobj its nn)]) ++ pl) σ' H' s'' → s''.heap.get? D = some (lobj its nn) ∧ H' D = none := fun {σ' H' s'' pl} I' => by
      have z := I'.pin (D, lobj its nn) (List.mem_append_right _ (List.mem_append_left _ (List.mem_append_right _ (by simp))))
      exact ⟨z.1, z.2.1⟩
    rcases turn i n ys σ1 H1 w1 with ⟨stop, hz, q⟩ | ⟨go, hz, Nx, hNx, step⟩
    · refine thn (T.done (cxComp X Nc scope C s H fp) rfl rfl rfl hc i _ s' σ1 H1 _ I1 (fpc _ fr1) st1 stop) fun r s4 ⟨hr, I4⟩ => ?_
      subst hr
      obtain ⟨eD, nD⟩ := pinD (pl := []) (by rw [List.append_nil]; exact I4)
      obtain ⟨m, hnC, _⟩ := I4.loc
      have u4 : Un (frs X.stack) fp H H1 s.heap s4.heap := I4.base
      have dNone : s.heap.get? D = none := Heap.get?_none_of_le (Nat.le_of_eq hDD)
      have noD : ∀ b o, s.heap.get? b = some o → b ≠ D := fun b o e z => by rw [z, dNone] at e; cases e
      have u5 : Un (frs X.stack) fp H (upd H1 D (.lst ys)) s.heap s4.heap := by
        refine ⟨u4.keep, u4.slot, fun b o e n hx => ?_, u4.there, fun b xs e => ?_, fun b o u e => ?_, fun b ps e => ?_⟩
        · rw [upd_ne (noD b o e)]
          exact u4.free b o e n hx
        · have z := u4.tups b xs e
          rw [upd_ne (ne_of_none z nD)]
          exact z
        · have z := u4.frzs b o u e
          rw [upd_ne (ne_of_none z nD)]
          exact z
        · obtain ⟨more, z⟩ := u4.tbls b ps e
          exact ⟨more, by rw [upd_ne (ne_of_none z nD)]; exact z⟩
      have hok : HOk X.prog X.w (upd H1 D (.lst ys)) s4.heap := HOk.adopt I4.hok nD ⟨hz, its, nn, rv, eD⟩
      have IX : Inv X pins σ (upd H1 D (.lst ys)) s4 := I.call' I4.os u5 hok I4.bare fun b hb => ⟨(hf b hb).2.2.2.1, (hf b hb).2.1, (hf b hb).2.2.2.2.1, (hf b hb).2.2.2.2.2⟩
      have fpC : FpOk X pins (upd H1 D (.lst ys)) C := by
        have hl : X.env.locals < s.heap.objs.size := I.lt
        exact ⟨by rw [upd_ne (Ne.symm hDC)]; exact I4.free, (addr_ne hl leC).symm, I.nofs leC, .inr (Nat.le_trans I.sz leC), fun x c e z => addr_ne (cellLt x c e) leC z, fun p hp z => addr_ne (pinLt p hp) leC z⟩
      exact hRR D C s4 _ IX fpC ⟨m, hnC⟩ (q D _ (.mk' nD))
    · refine thn (T.item (cxComp X Nc scope C s H fp) rfl rfl rfl hc i _ s' σ1 H1 _ I1 (fpc _ fr1) st1 go) fun r s4 ⟨u, hr, h4⟩ => ?_
      subst hr
      refine thn h4 fun _ s5 ⟨x, H5, I5, r5, y5, st5, fr5⟩ => ?_
      have I5' := I5.pinned (fpc _ fr5) (T.obj _ _ st5)
      have back : ∀ {σ7 : St} {H7 : Hp} {s7 : Shared}, Inv (cxComp X Nc scope C s H fp) ((pins ++ [(D, lobj its nn)]) ++ pinsAt fp s5.heap) σ7 H7 s7 → tn (i + 1) s7.heap ∧ ∀ b ∈ fp, H7 b = none := fun {σ7 H7 s7} I7 => by
        refine ⟨T.keep _ _ _ st5 fun b hb o e => (I7.pin (b, o) (List.mem_append_right _ (List.mem_append_right _ (mem_pinsAt hb e)))).1, fun b hb => ?_⟩
        obtain ⟨o, e, d⟩ := T.obj _ _ st5 b hb
        exact (I7.pin (b, o) (List.mem_append_right _ (List.mem_append_right _ (mem_pinsAt hb e)))).2.1
      refine thn (hg _ _ _ _ _ s5 σ1 H5 x u _ I5' r5 (step x H5 y5)) fun _ s6 ⟨σ6, H6, I6, q6⟩ => ?_
      refine thn (ht _ _ _ _ _ s6 σ6 H6 _ I6 q6) fun b s7 ⟨H7, I7, q7⟩ => ?_
      cases b with
      | false =>
        obtain ⟨m', hm, w7⟩ := hNx _ _ _ q7
        obtain ⟨t7, f7⟩ := back I7
        exact ⟨m', hm, i + 1, ys, its, nn, σ6, H7, I7.unpinned, t7, f7, rv, w7⟩
      | true =>
        refine thn (he _ _ _ _ _ s7 σ6 H7 _ I7 q7) fun yv s8 ⟨y, H8, I8, r8, n8⟩ => ?_
        obtain ⟨m', hm, w8⟩ := hNx _ _ _ n8
        obtain ⟨t8, f8⟩ := back I8
        obtain ⟨eD, nD⟩ := pinD I8
        have hlen := rv.length
        refine call_meets F.slot_list_append ⟨_, eD, rfl⟩ F.entry_list_append (F.args_list_append_2 _ _) (PySem.list_append D its.toArray nn yv (by rw [List.size_toArray]; omega)) ⟨eD, ?_⟩
        have ea : its.toArray.push yv = (its ++ [yv]).toArray := by simp
        obtain ⟨n9, e9⟩ : ∃ n9, (s8.heap.update D (Obj.mapSeq (·.push yv))).get? D = some (lobj (its ++ [yv]) n9) := ⟨_, by
          have z := PySem.IsL.update eD (·.push yv)
          rw [ea] at z
          exact z⟩
        have keep9 : ∀ b o, b ≠ D → s8.heap.get? b = some o → (s8.heap.update D (Obj.mapSeq (·.push yv))).get? b = some o := fun b o hb e => (Heap.get?_update_other _ _ (Ne.symm hb)).trans e
        have nfp : ∀ b ∈ fp, b ≠ D := fun b hb z => addr_ne (hfl b hb) leD z
        have I8u : Inv (cxComp X Nc scope C s H fp) pins σ6 H8 s8 := I8.pins_of fun p hp => I8.pin p (List.mem_append_right _ (List.mem_append_left _ (List.mem_append_left _ hp)))
        have I9 := I8u.turned (t' := s8.toks) (it := D) keep9 nD hDC (.inr leD) (fun x c e z => addr_ne (cellLt x c (clX x c e)) leD z) (fun p hp z => addr_ne (pinLt p hp) leD z)
        have t9 : tn (i + 1) (s8.heap.update D (Obj.mapSeq (·.push yv))) := T.keep _ _ _ t8 fun b hb o e => keep9 b o (nfp b hb) e
        refine ⟨m', hm, i + 1, ys ++ [y], its ++ [yv], n9, σ6, H8, I9.pins_of fun p hp => ?_, t9, f8, rv.append (.cons r8 .nil), w8⟩
        rcases List.mem_append.mp hp with z | z
        · exact I9.pin p (List.mem_append_right _ z)
        · have e : p = (D, lobj (its ++ [yv]) n9) := by simpa using z
          subst e
          exact ⟨e9, nD, hDC, fun q => addr_ne (frm _ q) leD rfl, lobj_cell _ _⟩
  have st' := fun (s₃ : Shared) (e : s₃ = { s with heap := h₁, toks := s.toks + ([] : List (Str × Value)).length }) => loop s₃ e
  exact codeAny_compStart_list (loop _ rfl) (T.self _ 0 _ _ _ (T.keep _ _ _ st fun b _ o e => old b o e) (loop _ rfl))

/-- [elt for tg in iter if ..] as a value -/
theorem pe_comp {wi : TI} {g : TG} {tt : TT} {te : TE} {pos : Pos} (hc : X.calm = true) (S : CompScope X Nc nv caps scope) (hi : PI X tg iter wi)
    (hg : ∀ C s H fp, PG (cxComp X Nc scope C s H fp) tg g) (ht : ∀ C s H fp, PTs (cxComp X Nc scope C s H fp) ifs tt) (he : ∀ C s H fp, PE (cxComp X Nc scope C s H fp) elt te)
    (hs : ∀ x, foldedSetIterable iter X.env x = pure x := by intro _; rfl) : PE X (.ListComp elt [⟨tg, iter, ifs, 0⟩] scope pos) (tComp nv caps wi g tt te) := by
  intro pins s σ H Q I h
  rw [eval_ListComp]
  have hcells : ∀ n, (n, NameKind.free) ∈ scope.names → ∃ c, X.env.cells.lookup n = some c := fun n hm => I.ok.has n (S.free n hm)
  refine wpAny_comprehension_free (use := none) rfl hs (closureFor_of hcells) S.kind S.names (thn (hi pins s σ H _ I h) fun v s1 h1 => thn h1 fun itv s2 h2 => ?_)
  obtain ⟨it, fp, tn, J, H2, rfl, I2, T, st2, f2, W, ⟨m0, w0⟩, turn⟩ := h2
  refine comp_block (RR := fun acc C => compPost (model X.prog X.w) X.A X.xe none (EP X pins σ Q) acc C) hc S hg ht he I2 T st2 f2 w0 turn fun D C s4 H4 I4 fC hn q => ?_
  obtain ⟨m, hn⟩ := hn
  refine ⟨m, hn, fun h' sb => ?_⟩
  obtain ⟨f0, f1, f2', f3, f4, f5⟩ := fC
  exact ⟨.ref D, H4, I4.turned (t' := s4.toks) (it := C) (fun b o hb e => sb.extBut b o hb e) f0 f1 f3 f4 f5, rfl, q⟩
end

/-! ### the forms one uses: N is what the next turn wants -/
/-- over a tuple -/
theorem comp_tup {K : PySem.W.Frag} {a : Addr} {xs : List V} {cs : St} {tt : TT} {te : TE} {H : Hp} {Q : VK} (Pv : Nat → List V → Hp → Prop) (h0 : Pv 0 [] H) (hl : ∀ i ys H, i ≤ xs.length → Pv i ys H → SqT K H a xs ∧ ys.length ≤ i) (hz : xs.length ≤ sizeLine)
    (hs : ∀ i x ys H (N : List V → Hp → Prop), xs[i]? = some x → Pv i ys H → (∀ ys' H', Pv (i + 1) ys' H' → N ys' H') → tt (some x :: cs) H fun b H4 => if b = true then te (some x :: cs) H4 fun y H5 => N (ys ++ [y]) H5 else N ys H4)
    (hd : ∀ ys H p H', Pv xs.length ys H → Gro H p (.lst ys) H' → Q (.ref p) H') :
    CompW (Itt K a) H (List.replicate 1 none ++ cs) (gName 0) tt te Q := by
  refine ⟨fun i m ys σ H => m = xs.length - i ∧ i ≤ xs.length ∧ Pv i ys H ∧ ∃ v0, σ = v0 :: cs, ⟨xs.length, by simp, Nat.zero_le _, h0, none, rfl⟩, ?_⟩
  rintro i m ys σ H2 ⟨rfl, hi, p, v0, rfl⟩
  obtain ⟨q, ql⟩ := hl i ys H2 hi p
  by_cases hlt : i < xs.length
  · refine .inr ⟨⟨xs, xs[i], q, by simp [hlt]⟩, by omega, fun ys' σ' H' => Pv (i + 1) ys' H' ∧ ∃ v0, σ' = v0 :: cs, fun ys' σ' H' ⟨p', e⟩ => ⟨xs.length - (i + 1), by omega, rfl, hlt, p', e⟩, fun x H' y => ?_⟩
    obtain ⟨e, y⟩ := y
    subst e
    exact hs i x ys H' (fun ys' H' => Pv (i + 1) ys' H' ∧ ∃ v0, some x :: cs = v0 :: cs) (y xs q) p fun _ _ z => ⟨z, _, rfl⟩
  · have e : i = xs.length := by omega
    subst e
    exact .inl ⟨⟨xs, q, Nat.le_refl _⟩, by omega, fun p' H' g => hd ys H2 p' H' p g⟩
end L2

/-! OWN EXTENSION 3: plain mathematics of lists, and readings that lean on it. -/
namespace L2
open PySem PySem.Spec PyProof.Rows
/-! lists and orders, plain mathematics -/
def cutL {α : Type} (xs : List α) (lo hi : Option Int) : List α := (xs.drop (HT.sIx xs.length 0 lo)).take (HT.sIx xs.length xs.length hi - HT.sIx xs.length 0 lo)
theorem cutL_map {α β : Type} (f : α → β) (xs : List α) (lo hi : Option Int) : cutL (xs.map f) lo hi = (cutL xs lo hi).map f := by
  unfold cutL
  rw [List.length_map, List.map_take, List.map_drop]
theorem cutL_from {α : Type} (xs : List α) (k : Nat) : cutL xs (some (k : Int)) none = xs.drop k := by
  unfold cutL HT.sIx
  have h : ¬ ((k : Int) < 0) := by omega
  dsimp only
  rw [if_neg h, Int.toNat_natCast]
  by_cases hk : k ≤ xs.length
  · rw [Nat.min_eq_left hk]
    exact List.take_of_length_le (by simp)
  · rw [Nat.min_eq_right (by omega), List.drop_length, List.take_nil, List.drop_eq_nil_of_le (by omega)]
theorem cutL_mid {α : Type} (xs : List α) (k m : Nat) : cutL xs (some (k : Int)) (some ((k : Int) + (m : Int))) = (xs.drop k).take m := by
  unfold cutL HT.sIx
  have h : ¬ ((k : Int) < 0) := by omega
  have h' : ¬ ((k : Int) + (m : Int) < 0) := by omega
  have e : ((k : Int) + (m : Int)).toNat = k + m := by omega
  dsimp only
  rw [if_neg h, if_neg h', Int.toNat_natCast, e]
  by_cases hk : k ≤ xs.length
  · rw [Nat.min_eq_left hk]
    by_cases hm : k + m ≤ xs.length
    · rw [Nat.min_eq_left hm, Nat.add_sub_cancel_left]
    · rw [Nat.min_eq_right (by omega), List.take_of_length_le (by simp), List.take_of_length_le (by simp; omega)]
  · rw [Nat.min_eq_right (by omega : xs.length ≤ k), List.drop_length, List.take_nil, List.drop_eq_nil_of_le (by omega), List.take_nil]
/-- the order of two lists of numbers -/
def ahd (ns ms : List Int) : Int := if ns = ms then 0 else if HT.lexLt ns ms = true then -1 else 1
theorem cutV_ints (ns : List Int) (lo hi : Option Int) : cutV (ns.map V.int) lo hi = (cutL ns lo hi).map V.int := cutL_map _ _ _ _

/-! ### == of two lists of numbers -/
theorem eqv_ints (ns ms : List Int) : PyData.eqv (.list (ns.map PyData.int)) (.list (ms.map PyData.int)) = decide (ns = ms) := by
  show PyData.eqvAll _ _ = _
  exact PySem.W.ked_eqvAll ns ms
/-! ### more of the order -/
end L2

/-! OWN EXTENSION 4: the judgements as structures (the unifier need not look inside them), and the rules again. -/
namespace L2
open PySem PySem.Spec PyProof.Rows
structure QE (X : Cx) (e : Expr) (t : TE) : Prop where
  h : PE X e t
structure QT (X : Cx) (e : Expr) (t : TT) : Prop where
  h : PT X e t
structure QW (X : Cx) (e : Expr) (t : TT) : Prop where
  h : PW X e t
structure QA (X : Cx) (es : List Expr) (t : TA) : Prop where
  h : PA X es t
structure QS (X : Cx) (st : Stmt) (t : TS) : Prop where
  h : PS X st t
structure QSs (X : Cx) (st : List Stmt) (t : TS) : Prop where
  h : PSs X st t
structure QG (X : Cx) (e : Expr) (t : TG) : Prop where
  h : PG X e t
structure QGs (X : Cx) (es : List Expr) (t : TGs) : Prop where
  h : PGs X es t
structure QI (X : Cx) (tg e : Expr) (t : TI) : Prop where
  h : PI X tg e t
structure QO (X : Cx) (e : Option Expr) (t : TO) : Prop where
  h : PO X e t
structure QTs (X : Cx) (es : List Expr) (t : TT) : Prop where
  h : PTs X es t
section
variable {X : Cx} {a b c e o : Expr} {es rest : List Expr} {pos p p2 : Pos} {ta tb tc te to : TE} {tA tB' tt : TT} {t tk : TA}
/-! names, constants -/
theorem q_pe_int {i j pos} : QE X (.Constant (.int i) j pos) (tC (.int i)) := ⟨pe_int⟩
theorem q_pe_bl {b j pos} : QE X (.Constant (.bool b) j pos) (tC (.bl b)) := ⟨pe_bl⟩
theorem q_pe_non {j pos} : QE X (.Constant .none j pos) (tC .non) := ⟨pe_non⟩
theorem q_pe_str {x j pos} : QE X (.Constant (.str x) j pos) (tC (.str x)) := ⟨pe_str⟩
theorem q_vv (i : Nat) {x : Str} (hN : X.N[i]? = some x := by rfl) (hv : Vis X.env.scope x := by first | exact Or.inl rfl | exact Or.inr (Or.inl rfl) | exact Or.inr (Or.inr rfl)) (hd : (x == ("__debug__" : Str)) = false := by decide)
    (hcd : (x == ("__classdict__" : Str)) = false := by decide) : QE X (.Name x pos) (mV i) := ⟨vv i hN hv hd hcd⟩
theorem q_gi {x : Str} {n : Int} {u : Tok} (hm : X.mg x = some (.int n u)) (hg : Gl X x := by rfl) (hd : (x == ("__debug__" : Str)) = false := by decide) : QE X (.Name x pos) (tC (.int n)) := ⟨gi hm hg hd⟩
theorem q_pe_glob {x : Str} {v : V} {u : Value} (hg : Gl X x) (hm : X.mg x = some u) (r : RelV v u) (hd : (x == ("__debug__" : Str)) = false := by decide) : QE X (.Name x pos) (tC v) := ⟨pe_glob hg hm r hd⟩
theorem q_bty {x : Str} {T : String} (hg : Gl X x) (hm : X.mg x = none) (hv : bootBuiltins x = some (.type T)) (hn : x ≠ "__name__" := by decide) (hd : (x == ("__debug__" : Str)) = false := by decide) : QE X (.Name x pos) (tC (.ty T)) := ⟨bty hg hm hv hn hd⟩
/-! arithmetic, comparisons, truths -/
theorem q_me_fd {j : Int} {k : Nat} (ha : QE X a ta) (hj : 0 < j ∧ j < 1073741824 := by decide) : QE X (.BinOp a .FloorDiv (.Constant (.int j) k p) pos) (mFd j ta) := ⟨me_fd ha.h hj⟩
theorem q_me_md {j : Int} {k : Nat} (ha : QE X a ta) (hj : 0 < j := by decide) : QE X (.BinOp a .Mod (.Constant (.int j) k p) pos) (mMd j ta) := ⟨me_md ha.h hj⟩
theorem q_pe_op {op : Operator} {r : R2} (ho : OpR X (binaryOp op) r) (ha : QE X a ta) (hb : QE X b tb) : QE X (.BinOp a op b pos) (tOp r ta tb) := ⟨pe_op ho ha.h hb.h⟩
theorem q_pe_un {op : UnaryOp} {r : V → Hp → VK → Prop} (ho : UnR X (unaryOp op) r) (ha : QE X a ta) : QE X (.UnaryOp op a pos) (tUn r ta) := ⟨pe_un ho ha.h⟩
theorem q_me_not (ha : QE X a ta) : QE X (.UnaryOp .Not a pos) (mNot ta) := ⟨me_not ha.h⟩
theorem q_me_and (ha : QE X a ta) (hb : QE X (.BoolOp .And (b :: rest) pos) tb) : QE X (.BoolOp .And (a :: b :: rest) pos) (mAnd ta tb) := ⟨me_and ha.h hb.h⟩
theorem q_me_or (ha : QE X a ta) (hb : QE X (.BoolOp .Or (b :: rest) pos) tb) : QE X (.BoolOp .Or (a :: b :: rest) pos) (mOr ta tb) := ⟨me_or ha.h hb.h⟩
theorem q_pe_one {op} (h : QE X a ta) : QE X (.BoolOp op [a] pos) ta := ⟨pe_one h.h⟩
theorem q_pe_cmpR {op : CmpOp} {r : R2} (ho : OpR X (compareOp op) r) (ha : QE X a ta) (hb : QE X b tb) (hm : behindInMarks op b = false) : QE X (.Compare a [op] [b] pos) (tOp r ta tb) := ⟨pe_cmpR ho ha.h hb.h hm⟩
theorem q_me_chain {op op' : CmpOp} {r r' : R2} (ho : OpR X (compareOp op) r) (ho' : OpR X (compareOp op') r') (ha : QE X a ta) (hb : QE X b tb) (hc : QE X c tc)
    (hm : lastMarks [op, op'] [b, c] = false := by with_unfolding_all rfl) : QE X (.Compare a [op, op'] [b, c] pos) (mChain r r' ta tb tc) := ⟨me_chain ho ho' ha.h hb.h hc.h hm⟩
theorem q_pe_ifExp (hc : QT X c tA) (ha : QE X a ta) (hb : QE X b tb) : QE X (.IfExp c a b pos) (tIf tA ta tb) := ⟨pe_ifExp hc.h ha.h hb.h⟩
theorem q_PW_pt (h : QW X e tt) : QT X e tt := ⟨PW.pt h.h⟩
theorem q_pw_and1 (ha : QT X a tA) : QW X (.BoolOp .And [a] pos) tA := ⟨pw_and1 ha.h⟩
theorem q_pw_or1 (ha : QT X a tA) : QW X (.BoolOp .Or [a] pos) tA := ⟨pw_or1 ha.h⟩
theorem q_pw_and (ha : QT X a tA) (hb : QW X (.BoolOp .And (b :: rest) pos) tB') : QW X (.BoolOp .And (a :: b :: rest) pos) (tAnd tA tB') := ⟨pw_and ha.h hb.h⟩
theorem q_pw_or (ha : QT X a tA) (hb : QW X (.BoolOp .Or (b :: rest) pos) tB') : QW X (.BoolOp .Or (a :: b :: rest) pos) (tOr tA tB') := ⟨pw_or ha.h hb.h⟩
theorem q_pt_not (ha : QT X a tA) : QT X (.UnaryOp .Not a pos) (tNot tA) := ⟨pt_not ha.h⟩
theorem q_mt_cmp {op : CmpOp} {r : R2} (ho : OpR X (compareOp op) r) (ha : QE X a ta) (hb : QE X b tb) (hm : behindInMarks op b = false) : QT X (.Compare a [op] [b] pos) (mB (tOp r ta tb)) := ⟨mt_cmp ho ha.h hb.h hm⟩
theorem q_mt_chain {op op' : CmpOp} {r r' : R2} (ho : OpR X (compareOp op) r) (ho' : OpR X (compareOp op') r') (ha : QE X a ta) (hb : QE X b tb) (hc : QE X c tc)
    (hm : lastMarks [op, op'] [b, c] = false := by with_unfolding_all rfl) : QT X (.Compare a [op, op'] [b, c] pos) (mB (mChain r r' ta tb tc)) := ⟨mt_chain ho ho' ha.h hb.h hc.h hm⟩
theorem q_mt_val (h : QE X e te) (he : ∀ whole, isTrue e X.env whole = (do let v ← whole; standAt e.pos; holding [v] (truthy v)) := by intro _; rfl) : QT X e (mB te) := ⟨mt_val h.h he⟩
theorem q_mt_tru (h : QE X e te) (he : ∀ whole, isTrue e X.env whole = (do let v ← whole; standAt e.pos; holding [v] (truthy v)) := by intro _; rfl) : QT X e (mTru X.K te) := ⟨mt_tru h.h he⟩
/-! arguments, displays, items -/
theorem q_pa_nil : QA X [] tNil := ⟨pa_nil⟩
theorem q_pa_c (ha : QE X e te) (hr : QA X es t) (hs : isStar e = false := by rfl) : QA X (e :: es) (tCons te t) := ⟨pa_c ha.h hr.h hs⟩
theorem q_pa_const {vs : List V} (h : constsOf es = some vs) : QA X es (tConsts vs) := ⟨pa_const h⟩
theorem q_me_lst (h : QA X es t) : QE X (.List es pos) (mLst t) := ⟨me_lst h.h⟩
theorem q_me_tup {x1} (h : QA X es t) : QE X (.Tuple es x1 pos) (mTup t) := ⟨me_tup h.h⟩
theorem q_po_none : QO X none tNoPart := ⟨po_none⟩
theorem q_po_some (h : QE X e te) : QO X (some e) (tPart te) := ⟨po_some h.h⟩
theorem q_pe_slice {r : V → Option Int → Option Int → Hp → VK → Prop} {lo hi : Option Expr} {tl th : TO} (hr : SlR X r) (he : QE X e te) (hl : QO X lo tl) (hu : QO X hi th) : QE X (.Subscript e (.Slice lo hi none p2) pos) (tSl r te tl th) := ⟨pe_slice hr he.h hl.h hu.h⟩
theorem q_pe_ix {r : R2} (hr : IxR X r) (ha : QE X a ta) (hb : QE X b tb) (hs : PlainIx b) : QE X (.Subscript a b pos) (tOp r ta tb) := ⟨pe_ix hr ha.h hb.h hs⟩
/-! calls -/
section
variable {k j : Nat} {f : Addr} {fd : FuncData} {ps : List Str} {sp : Sp} {x : Str}
theorem q_cal (F : Has X.prog X.w X.K X.mg X.base x j f fd ps sp) (hr : Room k X.A) (ha : QA X (e :: es) t) (hj : j ≤ k := by decide) (hg : Gl X x := by rfl)
    (hdb : (x == ("__debug__" : Str)) = false := by decide) (hn : noStar (e :: es) = true := by rfl) : QE X (.Call (.Name x p) (e :: es) [] pos) (tCall sp [] E0 t) := ⟨cal F hr ha.h hj hg hdb hn⟩
theorem q_calB {id : String} {r : List V → Hp → VK → Prop} (hc : CallR X (.builtin id) r) (hm : X.mg x = none) (hv : bootBuiltins x = some (.builtin id)) (ha : QA X (e :: es) t) (hg : Gl X x := by rfl) (hx : x ≠ "__name__" := by decide) (hdb : (x == ("__debug__" : Str)) = false := by decide)
    (hn : noStar (e :: es) = true := by rfl) : QE X (.Call (.Name x p) (e :: es) [] pos) (tCB r t) := ⟨calB hc hm hv ha.h hg hx hdb hn⟩
theorem q_calTy {T : String} {r : List V → Hp → VK → Prop} (hc : CallR X (.type T) r) (hm : X.mg x = none) (hv : bootBuiltins x = some (.type T)) (ha : QA X (e :: es) t) (hg : Gl X x := by rfl) (hx : x ≠ "__name__" := by decide) (hdb : (x == ("__debug__" : Str)) = false := by decide)
    (hn : noStar (e :: es) = true := by rfl) : QE X (.Call (.Name x p) (e :: es) [] pos) (tCB r t) := ⟨calTy hc hm hv ha.h hg hx hdb hn⟩
end
section
variable {name : Str} {apos cpos : Pos} {T id : String} {r : V → List V → Hp → VK → Prop}
theorem q_pe_bm0 (pa : PlainAttrs T) (slot : Slot T name id) (hty : typeOf (.builtin id) = pure (.type "method_descriptor")) (hm : MtR X id r) (ho : QE X o to)
    (hbase : attributeBase o name X.env (eval o X.env) = eval o X.env := by rfl) (hline : (apos.endLine == cpos.line) = true := by rfl) : QE X (.Call (.Attribute o name apos) [] [] cpos) (tBM0 X.K T r to) := ⟨pe_bm0 pa slot hty hm ho.h hbase hline⟩
theorem noStar_all {env : Env} {pos : Pos} : ∀ {es : List Expr}, noStar es = true → (backTo pos (starEach es env)).all (fun x => !x.1) = true
  | [], _ => rfl
  | e :: r, h => by
    obtain ⟨h1, h2⟩ := noStar_head h
    rw [star_cons h1]
    show (!false && (backTo pos (starEach r env)).all (fun x => !x.1)) = true
    rw [noStar_all h2]
    rfl
theorem q_pe_bm (pa : PlainAttrs T) (slot : Slot T name id) (hty : typeOf (.builtin id) = pure (.type "method_descriptor")) (hm : MtR X id r) (ho : QE X o to) (ha : QA X (e :: es) t)
    (hbase : attributeBase o name X.env (eval o X.env) = eval o X.env := by rfl) (hn : noStar (e :: es) = true := by rfl) (hf : decide ((e :: es).length + 0 + 0 < 30) = true := by rfl)
    (hline : (apos.endLine == cpos.line) = true := by rfl) : QE X (.Call (.Attribute o name apos) (e :: es) [] cpos) (tBM X.K T r to t) :=
  ⟨pe_bm pa slot hty hm ho.h ha.h hbase (by rw [noStar_all hn]; exact hf) hline (star_cons (noStar_head hn).1) (noStar_any (noStar_head hn).2)⟩
end
/-! statements -/
section
variable {st : Stmt} {sts ss2 : List Stmt} {s t1 u1 : TS} {tg it : Expr} {g : TG} {gs : TGs} {wi : TI}
theorem q_pss_nil : QSs X [] tNext := ⟨pss_nil⟩
theorem q_pss_cons (h1 : QS X st t1) (h2 : QSs X sts u1) : QSs X (st :: sts) (tSeq t1 u1) := ⟨pss_cons h1.h h2.h⟩
theorem q_pss_one (h1 : QS X st t1) : QSs X [st] t1 := ⟨pss_one h1.h⟩
theorem q_ps_never : QS X st tNever := ⟨ps_never⟩
theorem q_ps_ret (he : QE X e te) : QS X (.Return (some e) pos) (tRet te) := ⟨ps_ret he.h⟩
theorem q_ps_expr (he : QE X e te) (hs : swapsWith e none pos.line X.env = pure false := by rfl) : QS X (.Expr e pos) (tDrop te) := ⟨ps_expr he.h hs⟩
theorem q_ps_if (hc : QT X c tA) (ha : QSs X sts t1) (hb : QSs X ss2 u1) : QS X (.If c sts ss2 pos) (tIfS tA t1 u1) := ⟨ps_if hc.h ha.h hb.h⟩
theorem q_ps_set {i : Nat} {x : Str} {pos' : Pos} (hN : X.N.Nodup) (hi : X.N[i]? = some x) (hx : Loc X.env.scope x) (he : QE X e te) (hs : swapsWith e (some (.Name x pos')) pos.line X.env = pure false := by rfl) (hf : X.fn x = true ∨ X.env.scope.names.lookup x = some .local := by first | exact .inl rfl | exact .inr rfl | assumption) :
    QS X (.Assign [.Name x pos'] e pos) (tAsg te (gName i)) := ⟨ps_set hN hi hx he.h hs hf⟩
theorem q_pg_name {i : Nat} {x : Str} (hN : X.N.Nodup) (hi : X.N[i]? = some x) (hx : Loc X.env.scope x) (hf : X.fn x = true ∨ X.env.scope.names.lookup x = some .local := by first | exact .inl rfl | exact .inr rfl | assumption) : QG X (.Name x pos) (gName i) := ⟨pg_name hN hi hx hf⟩
theorem q_pgs_nil : QGs X [] gNil := ⟨pgs_nil⟩
theorem q_pgs_cons (h1 : QG X e g) (h2 : QGs X es gs) (hs : (assignEach (e :: es) X.env).map (·.2) = assign e X.env :: (assignEach es X.env).map (·.2) := by rfl) : QGs X (e :: es) (gCons g gs) := ⟨pgs_cons h1.h h2.h hs⟩
theorem q_pg_tup {k n : Nat} (hc : X.calm = true) (h : QGs X es gs) (hn : (assignEach es X.env).length = n := by rfl) (hst : (assignEach es X.env).findIdx? (·.1) = none := by rfl) : QG X (.Tuple es k pos) (gTup X.K n gs) := ⟨pg_tup hc h.h hn hst⟩
theorem q_pi_list {l : Expr} {tl : TE} (hl : QE X l tl) : QI X tg l (iList X.K tl) := ⟨pi_list hl.h⟩
theorem q_pi_tup {l : Expr} {tl : TE} (hl : QE X l tl) : QI X tg l (iTup X.K tl) := ⟨pi_tup hl.h⟩
theorem q_pi_range1 (hg : Gl X "range") (hm : X.mg "range" = none) (ha : QA X [a] t) (hs : isStar a = false := by rfl) : QI X tg (.Call (.Name "range" p) [a] [] pos) (iRng1 t) := ⟨pi_range1 hg hm ha.h (star_cons hs)⟩
theorem q_ps_for {body : List Stmt} {tb1 : TS} (hp : PassesOwn (model X.prog X.w) X.A X.env X.xe) (hc : X.calm = true) (hi : QI X tg it wi) (hg : QG X tg g) (hb : QSs X body tb1)
    (hs : ∀ x, foldedSetIterable it X.env x = pure x := by intro _; rfl) : QS X (.For tg it body [] pos) (tFor wi g tb1) := ⟨ps_for hp hc hi.h hg.h hb.h hs⟩
/-! comprehensions -/
theorem q_pts_nil : QTs X [] tTrue := ⟨pts_nil⟩
theorem q_pe_comp {scope : Scope} {Nc : List Str} {nv : Nat} {caps : List Nat} {ifs : List Expr} (hc : X.calm = true) (S : CompScope X Nc nv caps scope) (hi : QI X tg it wi)
    (hg : ∀ C s H fp, QG (cxComp X Nc scope C s H fp) tg g) (ht : ∀ C s H fp, QTs (cxComp X Nc scope C s H fp) ifs tt) (he : ∀ C s H fp, QE (cxComp X Nc scope C s H fp) e te)
    (hs : ∀ x, foldedSetIterable it X.env x = pure x := by intro _; rfl) : QE X (.ListComp e [⟨tg, it, ifs, 0⟩] scope pos) (tComp nv caps wi g tt te) :=
  ⟨pe_comp hc S hi.h (fun C s H fp => (hg C s H fp).h) (fun C s H fp => (ht C s H fp).h) (fun C s H fp => (he C s H fp).h) hs⟩
end
end
/-! the readings with the written part named (a comprehension's block has another context, the same K) -/
section
variable {X : Cx} {K : PySem.W.Frag} {a b c e o : Expr} {es rest : List Expr} {pos p p2 : Pos} {ta tb tc te to : TE} {tA tB' tt : TT} {t tk : TA}
theorem g_ixK (h : X.K = K) : IxR X (gIx K) := by subst h; exact g_ix
theorem g_slK (h : X.K = K) : SlR X (gSl K) := by subst h; exact g_sl
theorem g_addK (h : X.K = K) : OpR X (binaryOp .Add) (gAdd K) := by subst h; exact g_add
theorem g_eqK (h : X.K = K) (hu : X.A.units + 64 < cLine) : OpR X (compareOp .Eq) (gEq K false) := by subst h; exact g_eq hu
theorem g_neK (h : X.K = K) (hu : X.A.units + 64 < cLine) : OpR X (compareOp .NotEq) (gEq K true) := by subst h; exact g_ne hu
theorem g_notinK (h : X.K = K) : OpR X (compareOp .NotIn) (gIn K true) := by subst h; exact g_notin
theorem c_lenK (h : X.K = K) : CallR X (.builtin "len") (gLen K) := by subst h; exact c_len
theorem c_listK (h : X.K = K) : CallR X (.type "list") (gList K) := by subst h; exact c_list
theorem c_tupleK (h : X.K = K) : CallR X (.type "tuple") (gTupF K) := by subst h; exact c_tuple
theorem c_allK (h : X.K = K) (hc : X.calm = true) : CallR X (.builtin "all") (gAll K false) := by subst h; exact c_all hc
theorem c_instK (h : X.K = K) : CallR X (.builtin "isinstance") (gInst K) := by subst h; exact c_inst
theorem mg_extendK (h : X.K = K) : MtR X "list.extend" (gExt K) := by subst h; exact mg_extend
theorem q_mt_truK (h : X.K = K) (q : QE X e te) (he : ∀ whole, isTrue e X.env whole = (do let v ← whole; standAt e.pos; holding [v] (truthy v)) := by intro _; rfl) : QT X e (mTru K te) := by subst h; exact q_mt_tru q he
theorem q_pi_listK {tg l : Expr} {tl : TE} (h : X.K = K) (hl : QE X l tl) : QI X tg l (iList K tl) := by subst h; exact q_pi_list hl
theorem q_pi_tupK {tg l : Expr} {tl : TE} (h : X.K = K) (hl : QE X l tl) : QI X tg l (iTup K tl) := by subst h; exact q_pi_tup hl
theorem q_pg_tupK {k n : Nat} {gs : TGs} (h : X.K = K) (hc : X.calm = true) (q : QGs X es gs) (hn : (assignEach es X.env).length = n := by rfl) (hst : (assignEach es X.env).findIdx? (·.1) = none := by rfl) : QG X (.Tuple es k pos) (gTup K n gs) := by subst h; exact q_pg_tup hc q hn hst
theorem q_pe_bmK {name : Str} {apos cpos : Pos} {T id : String} {r : V → List V → Hp → VK → Prop} (h : X.K = K) (pa : PlainAttrs T) (slot : Slot T name id) (hty : typeOf (.builtin id) = pure (.type "method_descriptor")) (hm : MtR X id r) (ho : QE X o to) (ha : QA X (e :: es) t)
    (hbase : attributeBase o name X.env (eval o X.env) = eval o X.env := by rfl) (hn : noStar (e :: es) = true := by rfl) (hf : decide ((e :: es).length + 0 + 0 < 30) = true := by rfl)
    (hline : (apos.endLine == cpos.line) = true := by rfl) : QE X (.Call (.Attribute o name apos) (e :: es) [] cpos) (tBM K T r to t) := by subst h; exact q_pe_bm pa slot hty hm ho ha hbase hn hf hline
theorem q_pe_bm0K {name : Str} {apos cpos : Pos} {T id : String} {r : V → List V → Hp → VK → Prop} (h : X.K = K) (pa : PlainAttrs T) (slot : Slot T name id) (hty : typeOf (.builtin id) = pure (.type "method_descriptor")) (hm : MtR X id r) (ho : QE X o to)
    (hbase : attributeBase o name X.env (eval o X.env) = eval o X.env := by rfl) (hline : (apos.endLine == cpos.line) = true := by rfl) : QE X (.Call (.Attribute o name apos) [] [] cpos) (tBM0 K T r to) := by subst h; exact q_pe_bm0 pa slot hty hm ho hbase hline
end
/-- the rule for a def -/
theorem Fun.okQ {P : Program} {w : World} {K : PySem.W.Frag} {mg : Str → Option Value} {base : Heap} {x qual : Str} {st : Stmt} {f : Addr} {fd : FuncData} {N ps : List Str} {k : Nat} {sp : Sp} (F : Fun K x qual st f fd) (S : FnScope N ps (defScope st)) (len : ∀ vs H Q E, sp vs H Q E → vs.length = ps.length)
    (hbody : ∀ (cdv : Value) (A : Around) (outer : List Env) (s : Shared) (H : Hp) (vs : List V) (Q : VK) (E : XK), Room k (A.deeper (envOfC qual (defScope st) s.heap.objs.size f cdv)) → sp vs H Q E →
      ∃ t, QSs (cxOf CX0 P w K mg base N qual (defScope st) f cdv A outer s H E).nox (defBody st) t ∧ t { nx := fun _ H' => Q .non H', rt := Q } (start N vs) H) : FnOk P w K mg base CX0 (k + 1) f fd ps sp :=
  F.ok S len fun cdv A outer s H vs Q E hr h => let ⟨t, q, r⟩ := hbody cdv A outer s H vs Q E hr h; ⟨t, q.h, r⟩
end L2

/-! OWN EXTENSION 5: enumerate, zip, range of three, sum, list(reversed(..)), bit_length, shifts and masks, tuples of the module. -/
namespace L2
open PySem PySem.Spec PyProof.Rows
section
variable {X : Cx} {pins : List (Addr × Obj)} {σ : St} {H : Hp} {s : Shared} {h' : Heap}
theorem Inv.turnedL {t' : Nat} {fp : List Addr} (I : Inv X pins σ H s) (k : ∀ b o, b ∉ fp → s.heap.get? b = some o → h'.get? b = some o) (hf : ∀ b ∈ fp, FpOk X pins H b) : Inv X pins σ H { s with heap := h', toks := t' } := by
  have nit : ∀ b u, H b = some u → b ∉ fp := fun b u e z => by rw [(hf b z).1] at e; cases e
  refine I.step (g' := s.gens) (d' := s.drawn) (ch := fp) (fun b hb => ?_) (fun b o _ _ hc e _ => k b o hc e) (fun b o _ _ hc e _ => ⟨o.slots, k b o hc e⟩) (fun _ _ _ _ n => n) (fun b o hc e => ⟨o, k b o hc e⟩) (fun _ _ e => e) (fun _ _ _ e => e) (fun b ps e => ⟨#[], by rw [e]; simp⟩) (fun m hm => ?_) (fun b u e => ?_) I.bare
  · obtain ⟨f0, f1, f2, f3, f4, f5⟩ := hf b hb
    exact ⟨f3, f1, f4, f5⟩
  · obtain ⟨o, es, ep, ho, r⟩ := hm
    exact ⟨o, es, ep, k _ o (fun z => (hf _ z).2.1 rfl) ho, r⟩
  · refine (I.hok b u e).stay (fun c v hc q => k c v ?_ q) (fun _ q => q) fun _ _ q => q
    rcases hc with z | z
    · rw [z]; exact nit b u e
    · exact nit c _ z
theorem Inv.turnedN {t' : Nat} {fp : List Addr} {T : Addr} {ob : HO} (I : Inv X pins σ H s) (k : ∀ b o, b ∉ fp → s.heap.get? b = some o → h'.get? b = some o) (hf : ∀ b ∈ fp, FpOk X pins H b) (hT : s.heap.objs.size ≤ T)
    (new : ObjOk X.prog X.w (upd H T ob) h' T ob) : Inv X pins σ (upd H T ob) { s with heap := h', toks := t' } := by
  have I1 : Inv X pins σ H { s with heap := h', toks := t' } := I.turnedL k hf
  have hn : H T = none := I.hok.fresh hT
  have ne : ∀ b u, H b = some u → b ≠ T := fun b u e z => by rw [z, hn] at e; cases e
  refine I.step (g' := s.gens) (d' := s.drawn) (ch := fp) (fun b hb => ?_) (fun b o _ _ hc e _ => k b o hc e) (fun b o _ _ hc e _ => ⟨o.slots, k b o hc e⟩) (fun b o _ e n => ?_) (fun b o hc e => ⟨o, k b o hc e⟩) (fun b xs e => by rw [upd_ne (ne b _ e)]; exact e) (fun b o u e => by rw [upd_ne (ne b _ e)]; exact e) (fun b ps e => ⟨#[], by rw [upd_ne (ne b _ e), e]; simp⟩) (fun m hm => ?_) (I1.hok.adopt hn new) I.bare
  · obtain ⟨f0, f1, f2, f3, f4, f5⟩ := hf b hb
    exact ⟨f3, f1, f4, f5⟩
  · rw [upd_ne (fun z => absurd (Nat.lt_of_lt_of_le (Heap.lt_size e) (by rw [z]; exact hT)) (Nat.lt_irrefl _))]
    exact n
  · obtain ⟨o, es, ep, ho, r⟩ := hm
    exact ⟨o, es, ep, k _ o (fun z => (hf _ z).2.1 rfl) ho, r⟩
end
/-! ### enumerate of a list -/
section
variable {X : Cx} {tg : Expr} {es : List Expr} {kk : Nat} {pp : Pos}
end
end L2
/-! ### list(reversed(list)) -/
namespace L2
open PySem PySem.Spec PyProof.Rows
theorem rv_no_len : typeLookup (.type "list_reverseiterator") "__len__" = pure none := by rw [typeLookup_type, builtinLookup_eq_fast]; kernel_rfl
theorem rv_hint_look : typeLookup (.type "list_reverseiterator") "__length_hint__" = pure (some (.builtin "list_reverseiterator.__length_hint__")) := by rw [typeLookup_type, builtinLookup_eq_fast]; kernel_rfl
section
variable {prog : Program} {w : World} {A : Around} {E : Value → Shared → Prop} {s : Shared} {r : Addr}
theorem rv_hint {Q : Bool → Shared → Prop} (hT : s.TypeIs (.ref r) "list_reverseiterator") (h : Q false s) : wpAny (model prog w) A (Builtin.List.listLengthHint (.ref r)) Q E s := by
  unfold Builtin.List.listLengthHint
  refine wpAny_bind (wpAny_specialOf hT rv_no_len ?_)
  show wpAny _ A (specialOf (Value.ref r) (Str.ofString "__length_hint__") >>= _) _ _ _
  refine wpAny_bind (wpAny_specialOf hT rv_hint_look ?_)
  generalize hid : ("list_reverseiterator.__length_hint__" : String) = id0
  wp_delta
  rw [show splitId id0 = some ("list_reverseiterator", "__length_hint__") from by subst hid; decide +kernel]
  subst hid
  refine wpAny_bind (wpAny_isInstance (T := "list_reverseiterator") (b := true) hT (by rw [isSubtype_type]; kernel_rfl) ?_)
  refine wpAny_ite_split (fun hab => absurd hab (by decide)) (fun _ => ?_)
  refine wpAny_ite_split (fun _ => ?_) (fun hab => absurd (by decide +kernel) hab)
  refine wpAny_ite_split (fun hab => absurd hab (by decide +kernel)) (fun _ => ?_)
  exact wpAny_pure h
theorem rv_extend {R : Result → Shared → Prop} {l : Addr} {items : Array Value} (hh : A.handled = none) (S : Addr) (res : Value) (c₀ : Nat) (hne : l ≠ r) (hSr : S ≠ r) (hSl : S ≠ l) (hit : s.heap.IsRevIter r l ((items.size : Int) - 1)) (hl : s.heap.IsList l items)
    (hS : s.heap.get? S = some { cls := .type "list", data := .seq #[] c₀ })
    (hR : ∀ h' tk acc' c', (∀ b o, b ≠ S → b ≠ r → s.heap.get? b = some o → h'.get? b = some o) → h'.get? S = some { cls := .type "list", dict := none, data := .seq acc' c', slots := #[] } → ItemsOf (fun i v => items[items.size - 1 - i]? = some v) acc' items.size → R (.ok (.ret res)) { s with heap := h', toks := tk }) (hn : items.size ≤ sizeLine) :
    wpAny (model prog w) A.in1 (Builtin.List.listExtendWith (.ref S) (.ref r) res)
      (fun fin s' => match fin with | .done f => R (.ok f) s' | .again c' => c'.quiet = true ∧ codeAny (model prog w) A c' R s') (fun e s' => R (.error e) s') s := by
  have W := (Walks.listRev (prog := prog) (w := w) (A := A.in1) hh r l hne items)
  have hSf : S ∉ [r, l] := by simp [hSr, hSl]
  unfold Builtin.List.listExtendWith
  refine wpAny_bind (wpAny_typeOf (T := "list_reverseiterator") hit.typeIs ?_)
  have h1 : Builtin.List.listSameRef (.ref S) (.ref r) = false := by simp [Builtin.List.listSameRef, hSr]
  have h2 : (Value.type "list_reverseiterator" == Value.type "list") = false := by decide
  have h3 : (Value.type "list_reverseiterator" == Value.type "tuple") = false := by decide
  simp only [h1, h2, h3, Bool.or_false, Bool.false_eq_true, if_false]
  refine wpAny_bind (wpAny_pyIter_revIter hit ?_)
  refine wpAny_bind (wpAny_holding (rv_hint hit.typeIs ?_))
  refine wpAny_ite_split (fun hab => absurd hab (by decide +kernel)) (fun _ => wpAny_pure ⟨plainId_quiet PySem.F.plain_extend_loop _, ?_⟩)
  refine codeAny_extend_loopS W.toS hn S hSf res items.size 0 _ #[] c₀ rfl (Nat.zero_le _) ⟨Nat.zero_le _, by simpa using hit, hl⟩ hS (ItemsOf.nil _) fun s' acc' c' hm hS' hacc => ?_
  rw [Moved.eq_with hm]
  refine hR s'.heap s'.toks acc' c' (fun b o hb hbr e => hm.heap b o (fun hmem => ?_) e) hS' hacc
  rcases List.mem_cons.mp hmem with e' | hmem
  · exact hb e'
  · exact hbr (List.mem_singleton.mp hmem)
theorem rv_call {l : Addr} {items : Array Value} {Q : Value → Shared → Prop} (hh : A.handled = none) (hne : l ≠ r) (hit : s.heap.IsRevIter r l ((items.size : Int) - 1)) (hl : s.heap.IsList l items) (hn : items.size ≤ sizeLine)
    (hQ : ∀ h' tk acc' c', (∀ b o, b ≠ r → s.heap.get? b = some o → h'.get? b = some o) → h'.get? s.heap.objs.size = some { cls := .type "list", dict := none, data := .seq acc' c', slots := #[] } → ItemsOf (fun i v => items[items.size - 1 - i]? = some v) acc' items.size → Q (.ref s.heap.objs.size) { s with heap := h', toks := tk }) :
    wpAny (model prog w) A (call (.type "list") [.ref r]) Q E s := by
  refine callType_codes (Q₁ := fun obj s₁ => obj = .ref s.heap.objs.size ∧ s₁ = { s with heap := s.heap.push { cls := .type "list", data := .seq #[] } }) PySem.F.called_list (PySem.F.typeCall_list_1 _) PySem.F.entry_list_init
    (code_list_new _ ⟨rfl, rfl⟩) fun obj s₁ h₁ => ?_
  obtain ⟨rfl, rfl⟩ := h₁
  have hS : (s.heap.push { cls := .type "list", data := .seq #[] }).get? s.heap.objs.size = some { cls := .type "list", data := .seq #[] } := Heap.get?_push_size _ rfl
  have lr : r < s.heap.objs.size := by obtain ⟨o, e, _⟩ := hit; exact Heap.lt_size e
  have ll : l < s.heap.objs.size := by obtain ⟨o, e, _⟩ := hl; exact Heap.lt_size e
  refine ⟨⟨_, hS, rfl⟩, PySem.F.args_list_init_2 _ _, ?_⟩
  show wpAny _ _ (do let old ← Builtin.List.listItems (.ref s.heap.objs.size); Builtin.List.listUpdate (.ref s.heap.objs.size) (fun _ => #[]); letGo old.toList.reverse; Builtin.List.listExtendWith (.ref s.heap.objs.size) (.ref r) .none) _ _ _
  refine wpAny_bind ?_
  unfold Builtin.List.listItems
  refine wpAny_bind (wpAny_seqItems hS rfl (wpAny_pure ?_))
  show wpAny _ _ (updateSeq s.heap.objs.size (fun _ => #[]) >>= fun _ => letGo (#[] : Array Value).toList.reverse >>= fun _ => Builtin.List.listExtendWith (.ref s.heap.objs.size) (.ref r) .none) _ _ _
  refine wpAny_bind (wpAny_updateSeq hS rfl ?_)
  have hS₂ := Heap.get?_update_self (Obj.mapSeq (fun _ => (#[] : Array Value))) hS rfl
  have oth : ∀ b o, b ≠ s.heap.objs.size → s.heap.get? b = some o → ((s.heap.push { cls := .type "list", data := .seq #[] }).update s.heap.objs.size (Obj.mapSeq (fun _ => (#[] : Array Value)))).get? b = some o :=
    fun b o hb e => (Heap.get?_update_other _ _ (Ne.symm hb)).trans (Heap.get?_push_of_some _ e)
  refine wpAny_bind (wpAny_letGo ?_)
  refine rv_extend (A := A.in1) hh _ .none _ hne (Nat.ne_of_gt lr) (Nat.ne_of_gt ll) (hit.at fun o e => oth r o (Nat.ne_of_lt lr) e) (hl.at fun o e => oth l o (Nat.ne_of_lt ll) e) hS₂ (fun h' tk acc' c' hk hS' hacc => ?_) hn
  exact ⟨rfl, hQ h' tk acc' c' (fun b o hb e => hk b o (Nat.ne_of_lt (Heap.lt_size e)) hb (oth b o (Nat.ne_of_lt (Heap.lt_size e)) e)) hS' hacc⟩
end
/-- reversed(list), handed to list(..) at once -/
def tRev (K : PySem.W.Frag) (ta : TA) : TE := fun σ H Q => ta σ H fun vs H1 => ∃ a xs, vs = [.ref a] ∧ SqL K H1 a xs ∧ ∀ p H', Gro H1 p (.lst xs.reverse) H' → Q (.ref p) H'
theorem me_rev {X : Cx} {a : Expr} {ta : TA} {p1 p2 pos pos2 : Pos} (hc : X.calm = true) (hg1 : Gl X "list") (hm1 : X.mg "list" = none) (hg2 : Gl X "reversed") (hm2 : X.mg "reversed" = none) (ha : PA X [a] ta) (hs : starEach [a] X.env = [(false, eval a X.env)] := by rfl)
    (hs1 : starEach [.Call (.Name "reversed" p2) [a] [] pos2] X.env = [(false, eval (.Call (.Name "reversed" p2) [a] [] pos2) X.env)] := by rfl) : PE X (.Call (.Name "list" p1) [.Call (.Name "reversed" p2) [a] [] pos2] [] pos) (tRev X.K ta) := by
  intro pins s σ H Q I h
  refine Call_ (ld_blt I hg1 hm1 boot_list (PyProof.Rows.callWith_type1 ?_ hs1 rfl))
  rw [hs1]
  refine Calls.spliced_cons (Call_ (ld_blt I hg2 hm2 boot_reversed (PyProof.Rows.callWith_type1 (thn (ha pos2 pins s σ H _ I h) fun us s1 ⟨vs, H1, I1, r1, q1⟩ => ?_) hs rfl)))
  obtain ⟨l, xs, e, hq, q⟩ := q1
  subst e
  cases r1 with
  | cons r rr =>
    cases rr
    cases r
    obtain ⟨its, rv, pl, hz⟩ := I1.list hq
    have hlen := rv.length
    refine call_reversed_list pl.isList (Calls.spliced_nil ?_)
    have ll : l < s1.heap.objs.size := by obtain ⟨o, _, e, _⟩ := pl; exact Heap.lt_size e
    have I2 : Inv X pins σ H1 { s1 with heap := s1.heap.push (revObj l ((its.toArray.size : Int) - 1)) } := I1.kept (t' := s1.toks) fun b o e => Heap.get?_push_of_some _ e
    refine rv_call (s := { s1 with heap := s1.heap.push (revObj l ((its.toArray.size : Int) - 1)) }) (items := its.toArray) (I.ok.hd hc) (Nat.ne_of_lt ll) ⟨_, Heap.get?_push_size _ rfl, rfl, rfl⟩ (pl.isList.at fun o e => Heap.get?_push_of_some _ e) (by rw [List.size_toArray, ← hlen]; exact hz) fun h' tk acc' c' hk hS hacc => ?_
    have hacc2 : acc'.toList = its.reverse := by
      refine List.ext_getElem? fun i => ?_
      have hn : acc'.size = its.length := hacc.1.trans List.size_toArray
      have hi : ∀ i v, acc'[i]? = some v → its.toArray[its.length - 1 - i]? = some v := fun i v e => by
        have z := hacc.2 i v e
        rwa [List.size_toArray] at z
      by_cases hlt : i < its.length
      · have hia : i < acc'.size := by omega
        have e1 := hi i acc'[i] (Array.getElem?_eq_getElem hia)
        rw [List.getElem?_reverse hlt, Array.getElem?_toList, Array.getElem?_eq_getElem hia, ← e1]
        simp
      · rw [List.getElem?_eq_none (by rw [Array.length_toList]; omega), List.getElem?_eq_none (by rw [List.length_reverse]; omega)]
    have rr : Vals xs.reverse its.reverse := rv.reverse
    refine ⟨.ref _, _, ?_, rfl, q _ _ (.mk' I2.fresh)⟩
    refine I1.turnedN (s := s1) (fp := [s1.heap.objs.size]) (t' := tk) (fun b o hb e => hk b o (fun z => hb (by simp [z])) (Heap.get?_push_of_some _ e)) (fun b hb => ?_) ?_ ⟨by rw [List.length_reverse]; exact hz, its.reverse, c', rr, ?_⟩
    · have e : b = s1.heap.objs.size := by simpa using hb
      subst e
      exact I1.fpOk (Nat.le_refl _) I1.fresh
    · exact Nat.le_trans (Nat.le_succ _) (Nat.le_of_eq (Heap.size_push _ _).symm)
    · have e : acc' = its.reverse.toArray := by rw [← hacc2]
      rw [← e]
      exact hS
end L2
/-! ### range of three -/
namespace L2
open PySem PySem.Spec PyProof.Rows
/-- lo, lo + c, .. (n of them) -/
def Itr3 (lo c : Int) (n : Nat) : It := ⟨fun i _ => i < n, fun i H x H' => H' = H ∧ x = .int (lo + i * c), fun i _ => n ≤ i⟩
theorem turn_range3 {P : Program} {w : World} {K : PySem.W.Frag} {tg : Expr} (it : Addr) (lo c : Int) (n : Nat) : Turn P w K tg (Itr3 lo c n) [it] it (fun i h => IsRangeIter h it (lo + (i : Nat) * c) ((n : Int) - (i : Nat)) c) where
  mem := by simp
  obj := fun i h st b hb => by
    have e : b = it := by simpa using hb
    subst e
    exact ⟨_, st, fun v z => by
      have z' : Data.fields _ = Data.cell v := z
      cases z'⟩
  keep := fun i h h' st k => k it (by simp) _ st
  item := by
    intro X hP hw hK hc i pins s σ H E I hf st hg
    subst hP hw hK
    obtain ⟨f0, f1, f2, f3, f4, f5⟩ := hf it (by simp)
    have W := Walks.range (prog := X.prog) (w := X.w) (I.ok.hd hc) it lo c n
    refine W.item i s _ _ hg st fun v h' tk hv st' kk => ?_
    obtain ⟨t, rfl⟩ := hv
    have I1 : Inv X pins σ H { s with heap := h', toks := tk } := I.turned (fun b o hb e => kk b o (by simpa using hb) e) f0 f1 f3 f4 f5
    exact ⟨_, rfl, go_of (s := { s with heap := h', toks := tk }) (n := "range_iterator") st' rfl rfl (by decide) ⟨.int (lo + i * c), H, I1, ⟨t, rfl⟩, ⟨rfl, rfl⟩, st', fun b hb => (hf b hb).1⟩⟩
  done := by
    intro X hP hw hK hc i pins s σ H E I hf st hg
    subst hP hw hK
    obtain ⟨f0, f1, f2, f3, f4, f5⟩ := hf it (by simp)
    exact wpAny_pyNext_range_end (I.ok.hd hc) st (by have : n ≤ i := hg; omega) fun h' eb => ⟨rfl, I.turned (t' := s.toks) (fun b o hb e => eb b o hb e) f0 f1 f3 f4 f5⟩
  self := fun _ _ _ _ _ st h => wpAny_pyIter_rangeiter st h
/-- range(0, n, c), c a small number -/
def iRng3 (ta : TA) : TI := fun σ H R => ta σ H fun vs H1 => ∃ (n c : Nat), vs = [.int 0, .int (n : Int), .int (c : Int)] ∧ n ≤ 1000000000 ∧ 0 < c ∧ c ≤ 1000000 ∧ R (Itr3 0 (c : Int) ((n + (c - 1)) / c)) H1
theorem small3 {n c : Nat} (hn : n ≤ 1000000000) (h0 : 0 < c) (hc : c ≤ 1000000) : Builtin.Range.rangeSize 0 (n : Int) (c : Int) = (((n + (c - 1)) / c : Nat) : Int) ∧ Builtin.Range.small 0 (n : Int) (c : Int) = true := by
  have e : Builtin.Range.rangeSize 0 (n : Int) (c : Int) = (((n + (c - 1)) / c : Nat) : Int) := by
    rw [rangeSize_pos (by omega) (by omega)]
    rw [Int.natCast_ediv]
    congr 1
    omega
  refine ⟨e, ?_⟩
  have hle : (n + (c - 1)) / c ≤ n + (c - 1) := Nat.div_le_self _ _
  have hmul : (((n + (c - 1)) / c : Nat) : Int) * (c : Int) ≤ n + (c - 1) := by
    have := Nat.div_mul_le_self (n + (c - 1)) c
    rw [← Int.natCast_mul]
    omega
  unfold Builtin.Range.small
  rw [e]
  generalize (n + (c - 1)) / c = k at hle hmul ⊢
  simp only [Builtin.Range.rangeFitsLong, Bool.and_eq_true, Bool.or_eq_true, decide_eq_true_eq, beq_iff_eq]
  refine ⟨by omega, Or.inr ?_⟩
  rw [if_pos (by omega)]
  simp only [Bool.and_eq_true, decide_eq_true_eq]
  omega
section
variable {X : Cx} {tg : Expr}
theorem pi_range3 {a b d : Expr} {ta : TA} {p pos : Pos} (hg : Gl X "range") (hm : X.mg "range" = none) (ha : PA X [a, b, d] ta) (hs : starEach [a, b, d] X.env = (false, eval a X.env) :: starEach [b, d] X.env := by rfl) (hpl : (backTo pos (starEach [b, d] X.env)).any (·.1) = false := by rfl) :
    PI X tg (.Call (.Name "range" p) [a, b, d] [] pos) (iRng3 ta) := by
  intro pins s σ H R I h
  refine Call_ (ld_blt I hg hm boot_range (PyProof.Rows.callWith_type1 (thn (ha pos pins s σ H _ I h) fun us s1 ⟨vs, H1, I1, r1, q1⟩ => ?_) hs hpl))
  obtain ⟨n, c, e, q1, q2, q3, q⟩ := q1
  subst e
  cases r1 with
  | cons r rr =>
    cases rr with
    | cons r' rr =>
      cases rr with
      | cons r'' rr =>
        cases rr
        obtain ⟨t, rfl⟩ := r
        obtain ⟨t', rfl⟩ := r'
        obtain ⟨t'', rfl⟩ := r''
        obtain ⟨e, sm⟩ := small3 q1 q2 q3
        refine call_range_3 (by omega) ?_ (Or.inl (PyProof.noPylong_small (by omega)))
        refine wpAny_pyIter_range (IsRange.new ..) sm ?_
        have I2 : Inv X pins σ H1 { s1 with heap := s1.heap.push { cls := .type "range", data := .fields #[.int 0 t, .int n t', .int c t''] }, toks := s1.toks } := I1.kept fun b o e => Heap.get?_push_of_some _ e
        refine ⟨_, [_], _, _, H1, rfl, I2.kept (t' := s1.toks) fun b o e => Heap.get?_push_of_some _ e, turn_range3 _ 0 (c : Int) ((n + (c - 1)) / c), ?_, fun b hb => ?_, q⟩
        · show IsRangeIter _ _ (0 + ((0 : Nat) : Int) * _) ((((n + (c - 1)) / c : Nat) : Int) - ((0 : Nat) : Int)) _
          have e1 : (0 : Int) + ((0 : Nat) : Int) * (c : Int) = 0 := by simp
          have e2 : ((((n + (c - 1)) / c : Nat) : Int) - ((0 : Nat) : Int)) = Builtin.Range.rangeSize 0 (n : Int) (c : Int) := by rw [e]; simp
          rw [e1, e2]
          exact Heap.get?_push_size _ rfl
        · have e := List.mem_singleton.mp hb
          subst e
          exact I2.fpOk (Nat.le_refl _) (I2.hok.fresh (Nat.le_refl _))
end
/-! ### sum of a list of numbers -/
/-! ### shifts, masks, bits -/
def CShl (i j : Int) : Prop := 0 ≤ j ∧ (Builtin.Int.intBits i : Int) + j ≤ 2 ^ 27
theorem g_shlB {X : Cx} : OpR X (binaryOp .LShift) (gI CShl fun i j => .int (i * 2 ^ j.toNat)) := gI_of (opI fun _ _ _ _ _ _ _ hc q => lshift_int hc.1 hc.2 q)
def gBits : V → List V → Hp → VK → Prop := fun x vs H Q => match x, vs with
  | .int i, [] => Q (.int (Builtin.Int.intBits i)) H
  | _, _ => False
theorem mg_bits {X : Cx} : MtR X "int.bit_length" gBits := by
  intro pins s σ H x vs v us Q I rx rs q
  unfold gBits at q
  split at q
  · obtain ⟨t, rfl⟩ := rx
    cases rs
    exact call_int_bit_length ⟨.int _, H, I.tok _, ⟨_, rfl⟩, q⟩
  · exact q.elim
end L2
/-! ### zip of two lists -/
namespace L2
open PySem PySem.Spec PyProof.Rows
end L2
/-! ### comprehensions over pairs; the rules again for the structures -/
namespace L2
open PySem PySem.Spec PyProof.Rows
section
variable {X : Cx} {K : PySem.W.Frag} {a b c e o : Expr} {es rest : List Expr} {pos p p2 pos2 : Pos} {t : TA} {kk : Nat}
theorem q_me_revK (h : X.K = K) (hc : X.calm = true) (hm1 : X.mg "list" = none) (hm2 : X.mg "reversed" = none) (ha : QA X [a] t) (hg1 : Gl X "list" := by rfl) (hg2 : Gl X "reversed" := by rfl) (hs : isStar a = false := by rfl) :
    QE X (.Call (.Name "list" p) [.Call (.Name "reversed" p2) [a] [] pos2] [] pos) (tRev K t) := by subst h; exact ⟨me_rev hc hg1 hm1 hg2 hm2 ha.h (star_cons hs) (star_cons rfl)⟩
theorem q_pi_range3 {tg : Expr} (hg : Gl X "range") (hm : X.mg "range" = none) (ha : QA X [a, b, c] t) (hs : isStar a = false := by rfl) (hs2 : isStar b = false := by rfl) (hs3 : isStar c = false := by rfl) : QI X tg (.Call (.Name "range" p) [a, b, c] [] pos) (iRng3 t) :=
  ⟨pi_range3 hg hm ha.h (star_cons hs) (by rw [star_cons hs2, star_cons hs3]; rfl)⟩
end
/-! ### tuples of the module -/
def intsAre : List Int → List Value → Bool
  | [], [] => true
  | n :: r, .int m _ :: u => n == m && intsAre r u
  | _, _ => false
theorem intsAre.vals : ∀ {ns : List Int} {us : List Value}, intsAre ns us = true → Vals (ns.map V.int) us
  | [], [], _ => .nil
  | n :: r, .int m _ :: u, h => by
    have h' : (n == m && intsAre r u) = true := h
    rw [Bool.and_eq_true, beq_iff_eq] at h'
    obtain ⟨rfl, h2⟩ := h'
    exact .cons ⟨_, rfl⟩ (intsAre.vals h2)
theorem tupK {K : PySem.W.Frag} {a : Addr} {od : Option Addr} {its : Array Value} {n : Nat} {sl : Array (Option Value)} {ns : List Int} (h : K.lookup a = some ⟨.type "tuple", od, .seq its n, sl⟩) (hv : intsAre ns its.toList = true) (hz : its.size ≤ 1000 := by decide) (H : Hp) : SqT K H a (ns.map V.int) :=
  .inr ⟨_, its, n, h, rfl, rfl, sz (Nat.ble_eq_true_of_le hz), intsAre.vals hv⟩
end L2

/-! OWN EXTENSION 6: numbers in parts, letters: the reckoning. -/
namespace L2
open PySem PySem.Spec PyProof.Rows
theorem Gro.after {H H1 H2 : Hp} {p : Addr} {o : HO} (s : Same H H1) (g : Gro H1 p o H2) : Gro H p o H2 := ⟨s.free g.nw, s.trans g.sm, g.at_⟩
theorem Gro.then {H H1 H2 : Hp} {p : Addr} {o : HO} (g : Gro H p o H1) (s : Same H1 H2) : Gro H p o H2 := ⟨g.nw, g.sm.trans s, s _ _ g.at_⟩
def tog (b : Nat) (ps : List Int) : Int := ps.foldl (fun a p => a * 2 ^ b + p) 0
theorem tog_fold (b : Nat) : ∀ (ps : List Int) (a : Int), ps.foldl (fun a p => a * 2 ^ b + p) a = a * 2 ^ (b * ps.length) + tog b ps
  | [], a => by simp [tog]
  | p :: r, a => by
    unfold tog
    rw [List.foldl_cons, List.foldl_cons, tog_fold b r, tog_fold b r, List.length_cons, Nat.mul_succ, Int.pow_add]
    generalize (2 : Int) ^ (b * r.length) = X
    generalize (2 : Int) ^ b = Y
    rw [Int.add_mul, Int.add_mul, Int.mul_assoc, Int.mul_comm Y X]
    omega
theorem tog_append (b : Nat) (ps qs : List Int) : tog b (ps ++ qs) = tog b ps * 2 ^ (b * qs.length) + tog b qs := by
  conv => lhs; unfold tog
  rw [List.foldl_append, tog_fold b qs]
  rfl
theorem tog_snoc (b : Nat) (ps : List Int) (p : Int) : tog b (ps ++ [p]) = tog b ps * 2 ^ b + p := by
  rw [tog_append]
  simp [tog]
theorem two_pos (k : Nat) : (0 : Int) < 2 ^ k := Int.pow_pos (by decide)
theorem tog_lt {b : Nat} : ∀ {ps : List Int}, (∀ p ∈ ps, 0 ≤ p ∧ p < 2 ^ b) → 0 ≤ tog b ps ∧ tog b ps < 2 ^ (b * ps.length) := by
  intro ps h
  induction ps with
  | nil => simp [tog]
  | cons p r ih =>
    have h1 := h p (.head _)
    have h2 := ih fun q hq => h q (.tail _ hq)
    have e : tog b (p :: r) = p * 2 ^ (b * r.length) + tog b r := by
      have := tog_append b [p] r
      simpa [tog] using this
    rw [e, List.length_cons, Nat.mul_succ, Int.pow_add]
    have hp := two_pos (b * r.length)
    generalize (2 : Int) ^ (b * r.length) = X at *
    generalize (2 : Int) ^ b = Y at *
    have m1 : 0 ≤ p * X := Int.mul_nonneg h1.1 (Int.le_of_lt hp)
    have m2 : p * X + X ≤ X * Y := by
      have : (p + 1) * X ≤ Y * X := Int.mul_le_mul_of_nonneg_right (by omega) (Int.le_of_lt hp)
      rw [Int.add_mul, Int.one_mul] at this
      rw [Int.mul_comm X Y]
      exact this
    omega
def prts (b many : Nat) (n : Int) : List Int := (List.range many).map fun i => n / 2 ^ (b * (many - 1 - i)) % 2 ^ b
theorem prts_rev (b many : Nat) (n : Int) : ((List.range many).map fun i => n / 2 ^ (b * i) % 2 ^ b).reverse = prts b many n := by
  refine List.ext_getElem? fun i => ?_
  by_cases h : i < many
  · rw [List.getElem?_reverse (by simpa using h)]
    simp [prts, h, show many - 1 - i < many by omega]
  · rw [List.getElem?_eq_none (by simp; omega), List.getElem?_eq_none (by simp [prts]; omega)]
theorem div_step (n : Int) (b j : Nat) : n / 2 ^ (b * j) / 2 ^ b = n / 2 ^ (b * (j + 1)) := by
  rw [Int.ediv_ediv_of_nonneg (Int.le_of_lt (two_pos _)), ← Int.pow_add, Nat.mul_succ]
theorem mod_step (x : Int) (b : Nat) : x - x / 2 ^ b * 2 ^ b = x % 2 ^ b := by
  rw [Int.emod_def, Int.mul_comm]
/-! letters -/
abbrev Byts (r : List Int) : Prop := ∀ p ∈ r, 0 ≤ p ∧ p < 256
/-! comprehensions whose items are told ahead: rs -/
theorem take_snoc {α : Type} {rs : List α} {i : Nat} {y : α} (h : rs[i]? = some y) : rs.take (i + 1) = rs.take i ++ [y] := by rw [List.take_add_one, h]; rfl
theorem ints_at {ns : List Int} {i : Nat} {x : V} (h : (ns.map V.int)[i]? = some x) : ∃ p, ns[i]? = some p ∧ x = .int p := by
  rw [List.getElem?_map] at h
  cases e : ns[i]? with
  | none => rw [e] at h; cases h
  | some p => rw [e] at h; cases h; exact ⟨p, rfl, rfl⟩
end L2

/-! OWN EXTENSION 7: the order of letters; letters back to bytes; slices with a step. -/
namespace L2
open PySem PySem.Spec PyProof.Rows
end L2
namespace L2
open PySem PySem.Spec PyProof.Rows
section
variable {X : Cx} {e : Expr} {te : TE} {lo hi st : Option Expr} {tl th ts : TO} {pos p2 : Pos} {se : Expr}
end
/-- a middle for a statement and the rest: the rest is met once -/
theorem seq_nx {t u : TS} {D : Ends} {σ : St} {H : Hp} (M : St → Hp → Prop) (h1 : ∀ nx : St → Hp → Prop, (∀ σ' H', M σ' H' → nx σ' H') → t { D with nx := nx } σ H) (h2 : ∀ σ' H', M σ' H' → u D σ' H') : tSeq t u D σ H := h1 (u D) h2
end L2

/-! OWN EXTENSION 8: index in a tuple; letters back to bytes. -/
/-! ### index in a tuple of the module -/
namespace L2
open PySem PySem.Spec PyProof.Rows
open AutoSeq1 (wpAny_loadPart')
open SeqAt (EqAt)
end L2
namespace L2
open PySem PySem.Spec PyProof.Rows
end L2
/-! ### != of a list and its copy; a display of one pair -/
namespace L2
open PySem PySem.Spec PyProof.Rows
def plainV : V → Bool
  | .flt _ => false
  | .byt _ => false
  | .ty _ => false
  | _ => true
theorem Knd.plain {K : PySem.W.Frag} {H : Hp} {v : V} (k : Knd K H v) : plainV v = true := by cases k <;> rfl
end L2

/-! OWN EXTENSION 9: classes: methods, making, fields; letters in pieces. -/
namespace L2
open PySem PySem.Spec PyProof.Rows
structure HasM (P : Program) (w : World) (K : PySem.W.Frag) (mg : Str → Option Value) (base : Heap) (C : Addr) (m : Str) (k : Nat) (f : Addr) (fd : FuncData) (ps : List Str) (sp : Sp) : Prop where
  c : Cls K C
  mt : Meth K C m f
  b : Binds K fd ps []
  ok : FnOk P w K mg base CX0 k f fd ps sp
structure HasK (P : Program) (w : World) (K : PySem.W.Frag) (mg : Str → Option Value) (base : Heap) (x : Str) (C : Addr) (k : Nat) (f : Addr) (fd : FuncData) (ps : List Str) (sp : Sp) : Prop where
  g : mg x = some (.ref C)
  mkx : Mk K C f
  b : Binds K fd ps []
  ok : FnOk P w K mg base CX0 k f fd ps sp
section
variable {X : Cx} {K : PySem.W.Frag} {k j : Nat} {f C : Addr} {fd : FuncData} {ps : List Str} {sp : Sp} {x m : Str} {p pos apos pos' : Pos} {e o value : Expr} {es : List Expr} {ta tv : TE} {t : TA}
theorem passes0 {X : Cx} : Passes CX0 X E0 := fun _ _ _ _ _ _ _ z => z.elim
theorem q_meth {pl : Sem Bool} (F : HasM X.prog X.w X.K X.mg X.base C m j f fd ps sp) (hr : Room k X.A) (ho : QE X o ta) (ha : QA X (e :: es) t) (hj : j ≤ k := by decide) (hn : noStar (e :: es) = true := by rfl)
    (ht : eval (.Call (.Attribute o m apos) (e :: es) [] pos) X.env = (do
      let ov ← eval o X.env
      standAt apos.atName
      let (f, first) ← holding [ov] (getMethod ov m pl)
      callWith pos f first (backTo pos (starEach (e :: es) X.env)) (backToKw pos (keywordEach [] X.env))) := by rfl) :
    QE X (.Call (.Attribute o m apos) (e :: es) [] pos) (tMeth C m sp [] E0 ta t) :=
  ⟨pe_meth (pl := pl) ho.h F.c F.mt F.ok (hr.mono hj) F.b .nil passes0 ha.h (star_cons (noStar_head hn).1) (noStar_any (noStar_head hn).2) ht⟩
theorem q_meth0 {pl : Sem Bool} (F : HasM X.prog X.w X.K X.mg X.base C m j f fd ps sp) (hr : Room k X.A) (ho : QE X o ta) (hj : j ≤ k := by decide)
    (ht : eval (.Call (.Attribute o m apos) [] [] pos) X.env = (do
      let ov ← eval o X.env
      standAt apos.atName
      let (f, first) ← holding [ov] (getMethod ov m pl)
      callWith pos f first (backTo pos (starEach [] X.env)) (backToKw pos (keywordEach [] X.env))) := by rfl) :
    QE X (.Call (.Attribute o m apos) [] [] pos) (tMeth C m sp [] E0 ta tNil) :=
  ⟨pe_meth0 (pl := pl) ho.h F.c F.mt F.ok (hr.mono hj) F.b .nil passes0 ht⟩
theorem q_fldK {f : Str} (h : X.K = K) (he : QE X e ta) (hb : attributeBase e f X.env (eval e X.env) = eval e X.env := by rfl) : QE X (.Attribute e f pos) (tFld K ta f) := by subst h; exact ⟨pe_fld he.h hb⟩
theorem q_ps_fldK {f : Str} (h : X.K = K) (ha : QE X o ta) (hv : QE X value tv) (hs : swapsWith value (some (.Attribute o f pos')) pos.line X.env = pure false := by rfl) : QS X (.Assign [.Attribute o f pos'] value pos) (sFld K ta tv f) := by subst h; exact ⟨ps_fld ha.h hv.h hs⟩
end
/-! letters in pieces -/
end L2

/-! OWN EXTENSION A: a class without __init__, defs with a default, a module's dict of tuples. -/
namespace L2
open PySem PySem.Spec PyProof.Rows
/-! ### making -/
structure Mk0 (K : PySem.W.Frag) (C : Addr) : Prop where
  makes : PySem.W.makesIn K C = true
  init : PySem.W.findIn K (.ref C) "__init__" = some (some (.builtin "object.__init__"))
  kp : PySem.W.keepIn K (.ref C) = true
section
variable {X : Cx} {C : Addr} {x : Str} {p pos : Pos}
end
/-! ### defs with a default -/
structure FunD (K : PySem.W.Frag) (x qual : Str) (st : Stmt) (f : Addr) (fd : FuncData) (vs : List Value) : Prop where
  ex : ∃ (oc : Value) (od : Option Addr) (kV doc pm : Value) (an : Option Addr) (cdv ct : Value) (osl : Array (Option Value)) (d : Addr) (dc : Value) (dd : Option Addr) (n : Nat) (dsl : Array (Option Value)),
    fd = PySem.W.fnOf x qual (defArgs st) (defBody st) (defScope st) (.ref d) kV doc pm an cdv ct ∧ K.lookup f = some ⟨oc, od, .func fd, osl⟩ ∧ PySem.W.codeIn K cdv qual = true ∧ K.lookup d = some ⟨dc, dd, .seq vs.toArray n, dsl⟩
  kp : PySem.W.keepIn K (.ref f) = true
section
variable {P : Program} {w : World} {K : PySem.W.Frag} {mg : Str → Option Value} {base : Heap} {x qual : Str} {st : Stmt} {f : Addr} {fd : FuncData} {N ps : List Str} {k : Nat} {sp : Sp} {vs : List Value}
theorem FunD.okQ (F : FunD K x qual st f fd vs) (S : FnScope N ps (defScope st)) (len : ∀ vs H Q E, sp vs H Q E → vs.length = ps.length)
    (hbody : ∀ (cdv : Value) (A : Around) (outer : List Env) (s : Shared) (H : Hp) (vs : List V) (Q : VK) (E : XK), Room k (A.deeper (envOfC qual (defScope st) s.heap.objs.size f cdv)) → sp vs H Q E →
      ∃ t, QSs (cxOf CX0 P w K mg base N qual (defScope st) f cdv A outer s H E).nox (defBody st) t ∧ t { nx := fun _ H' => Q .non H', rt := Q } (start N vs) H) : FnOk P w K mg base CX0 (k + 1) f fd ps sp := by
  obtain ⟨oc, od, kV, doc, pm, an, cdv, ct, osl, d, dc, dd, n, dsl, rfl, lk, hcd, _⟩ := F.ex
  refine fn_of lk hcd S len fun A outer s H vs Q E hr hsp => ?_
  obtain ⟨t, h, q⟩ := hbody cdv A outer s H vs Q E hr hsp
  exact ⟨t, h.h.nox, q⟩
theorem funD_mk {oc dc : Value} {od an dd : Option Addr} {osl dsl : Array (Option Value)} {kV doc pm cdv ct : Value} {d : Addr} {n : Nat} (l : K.lookup f = some ⟨oc, od, .func (PySem.W.fnOf x qual (defArgs st) (defBody st) (defScope st) (.ref d) kV doc pm an cdv ct), osl⟩)
    (c : PySem.W.codeIn K cdv qual = true) (k : PySem.W.keepIn K (.ref f) = true) (ld : K.lookup d = some ⟨dc, dd, .seq vs.toArray n, dsl⟩) : FunD K x qual st f (PySem.W.fnOf x qual (defArgs st) (defBody st) (defScope st) (.ref d) kV doc pm an cdv ct) vs :=
  ⟨⟨oc, od, kV, doc, pm, an, cdv, ct, osl, d, dc, dd, n, dsl, rfl, l, c, ld⟩, k⟩
/-- us the given ones -/
theorem FunD.binds {ds : List Value} (F : FunD K x qual st f fd vs)
    (h : ∀ (d : Addr) (kV doc pm : Value) (an : Option Addr) (cdv ct : Value) (us : List Value), (us ++ ds).length = ps.length → ∃ kk : Option (Array Value) → Sem (List (Str × Value)),
      bindArgs (PySem.W.fnOf x qual (defArgs st) (defBody st) (defScope st) (.ref d) kV doc pm an cdv ct) ⟨us, []⟩ = seqItems? (.ref d) >>= kk ∧ kk (some vs.toArray) = pure (ps.zip (us ++ ds))) : Binds K fd ps ds := by
  obtain ⟨oc, od, kV, doc, pm, an, cdv, ct, osl, d, dc, dd, n, dsl, rfl, lk, hcd, ld⟩ := F.ex
  intro s us KX hl
  obtain ⟨kk, h1, h2⟩ := h d kV doc pm an cdv ct us hl
  exact BindsTo.of_defaults (T := d) rfl (KX _ _ ld) rfl h1 h2
end
structure HasMD (P : Program) (w : World) (K : PySem.W.Frag) (mg : Str → Option Value) (base : Heap) (C : Addr) (m : Str) (k : Nat) (f : Addr) (fd : FuncData) (ps : List Str) (dvs : List V) (sp : Sp) : Prop where
  c : Cls K C
  mt : Meth K C m f
  b : ∃ ds, Binds K fd ps ds ∧ Vals dvs ds
  ok : FnOk P w K mg base CX0 k f fd ps sp
section
variable {X : Cx} {k j : Nat} {f C : Addr} {fd : FuncData} {ps : List Str} {sp : Sp} {m : Str} {pos apos : Pos} {e o : Expr} {es : List Expr} {ta : TE} {t : TA} {dvs : List V}
theorem q_methD {pl : Sem Bool} (F : HasMD X.prog X.w X.K X.mg X.base C m j f fd ps dvs sp) (hr : Room k X.A) (ho : QE X o ta) (ha : QA X (e :: es) t) (hj : j ≤ k := by decide) (hn : noStar (e :: es) = true := by rfl)
    (ht : eval (.Call (.Attribute o m apos) (e :: es) [] pos) X.env = (do
      let ov ← eval o X.env
      standAt apos.atName
      let (f, first) ← holding [ov] (getMethod ov m pl)
      callWith pos f first (backTo pos (starEach (e :: es) X.env)) (backToKw pos (keywordEach [] X.env))) := by rfl) :
    QE X (.Call (.Attribute o m apos) (e :: es) [] pos) (tMeth C m sp dvs E0 ta t) := by
  obtain ⟨ds, hb, hd⟩ := F.b
  exact ⟨pe_meth (pl := pl) ho.h F.c F.mt F.ok (hr.mono hj) hb hd passes0 ha.h (star_cons (noStar_head hn).1) (noStar_any (noStar_head hn).2) ht⟩
end
/-! ### a dict of the module: numbers to tuples -/
def vI : Value → Option Int
  | .int k _ => some k
  | _ => none
def vR : Value → Option Addr
  | .ref a => some a
  | _ => none
theorem vI_some {v : Value} {k : Int} (h : vI v = some k) : ∃ t, v = .int k t := by
  cases v <;> cases h
  exact ⟨_, rfl⟩
theorem vR_some {v : Value} {a : Addr} (h : vR v = some a) : v = .ref a := by
  cases v <;> cases h
  rfl
def dictOf : List DictEntry → Option (List (Int × Addr))
  | [] => some []
  | e :: r => (vI e.key).bind fun k => (vR e.val).bind fun a => if e.hash == hashInt k then (dictOf r).bind fun l => some ((k, a) :: l) else none
theorem dictOf.pairs {P : Program} {w : World} : ∀ {es : List DictEntry} {m : List (Int × Addr)}, dictOf es = some m →
    (∀ e ∈ es, ∃ k, (mixKind P w).is k e.key = true ∧ e.hash = (mixKind P w).hash k) ∧ Pairs (mixKind P w) es (m.map fun p => ((Sum.inl p.1 : Key), Value.ref p.2))
  | [], m, h => by cases h; exact ⟨fun _ z => (nomatch z), .nil⟩
  | e :: r, m, h => by
    obtain ⟨k, h1, h⟩ := Option.bind_eq_some_iff.mp h
    obtain ⟨a, h2, h⟩ := Option.bind_eq_some_iff.mp h
    obtain ⟨tk, h1⟩ := vI_some h1
    have h2 := vR_some h2
    by_cases c : e.hash == hashInt k
    · rw [if_pos c] at h
      obtain ⟨l, q, h⟩ := Option.bind_eq_some_iff.mp h
      cases h
      obtain ⟨i1, i2⟩ := dictOf.pairs (P := P) (w := w) q
      have ek : (mixKind P w).is (.inl k) e.key = true := by rw [h1]; exact mixKind_int P w k tk
      refine ⟨fun x hx => ?_, .cons ek h2 i2⟩
      cases hx with
      | head => exact ⟨.inl k, ek, eq_of_beq c⟩
      | tail _ z => exact i1 x z
    · rw [if_neg c] at h; cases h
structure DctK (K : PySem.W.Frag) (a : Addr) (m : List (Int × Addr)) : Prop where
  ex : ∃ es ep, K.lookup a = some ⟨.type "dict", none, .dict es ep, #[]⟩ ∧ dictOf es.toList = some m
  nd : (m.map (·.1)).Nodup
  ns : (a == sysModules) = false
theorem DctK.rd {K : PySem.W.Frag} {a : Addr} {m : List (Int × Addr)} {P : Program} {w : World} {h : Heap} (D : DctK K a m) (X : K.In h) : h.DictOf (mixKind P w) a (m.map fun p => ((Sum.inl p.1 : Key), Value.ref p.2)) := by
  obtain ⟨es, ep, l, e⟩ := D.ex
  obtain ⟨i1, i2⟩ := dictOf.pairs (P := P) (w := w) e
  refine ⟨_, es, ep, X _ _ l, ⟨rfl, rfl, rfl⟩, rfl, fun e he => i1 e (Array.mem_toList_iff.mpr he), i2, ?_⟩
  rw [List.map_map]
  have : (((fun x => x.1) ∘ fun p : Int × Addr => ((Sum.inl p.1 : Key), Value.ref p.2)) : Int × Addr → Key) = (fun i : Int => (Sum.inl i : Key)) ∘ (·.1) := rfl
  rw [this, ← List.map_map]
  exact List.Pairwise.map _ (fun a b (z : a ≠ b) (q : (Sum.inl a : Key) = Sum.inl b) => z (Sum.inl.inj q)) D.nd
section
variable {X : Cx} {K : PySem.W.Frag} {a : Addr} {m : List (Int × Addr)} {e f : Expr} {x : Str} {p apos cpos : Pos} {ty tx : TE}
end
end L2

/-! OWN EXTENSION B: exceptions: how one lies, leaves a def, is caught. -/
namespace L2
open PySem PySem.Spec PyProof.Rows
/-! ### an exception's object -/
/-- its class, its dict, no entry yet or one that is not in flight; q: it was raised where one was handled, else it has no context -/
structure XAt (h : Heap) (e C : Addr) (od : Option Addr) (tb : Value) (oe : Obj) (vs : Array Value) (q : Bool := false) : Prop where
  at_ : h.get? e = some oe
  cls : oe.cls = .ref C
  dict : oe.dict = od
  data : oe.data = .fields vs
  size : vs.size = 6
  tb1 : vs[1]? = some tb
  cx : q = false → vs[2]? = some .none
def TbAt (h : Heap) (e T : Addr) (fl : Value) : Prop := ∃ oT ts, h.get? T = some oT ∧ oT.data = .fields ts ∧ ts[3]? = some fl ∧ T ≠ e
section
variable {M : Model} {A : Around} {E : Value → Shared → Prop} {s : Shared}
/-- what a frame's note leaves -/
structure Noted (l : List Env) (e C T' : Addr) (od : Option Addr) (tb fl : Value) (h h' : Heap) (q : Bool := false) : Prop where
  keep : ∀ b o, h.get? b = some o → b ≠ e → .ref b ≠ tb → b ∉ frs l → h'.get? b = some o
  slot : ∀ b o, h.get? b = some o → b ∈ frs l → ∃ sl, h'.get? b = some { o with slots := sl }
  there : ∀ b o, h.get? b = some o → ∃ o', h'.get? b = some o'
  new : h.objs.size ≤ T'
  size : h.objs.size ≤ h'.objs.size
  exc : ∃ oe vs, XAt h' e C od (.ref T') oe vs q
  ent : TbAt h' e T' fl
/-- the tracebacks' head: none yet, or not in flight -/
def TbOk (h : Heap) (e : Addr) (tb : Value) : Prop := tb = .none ∨ ∃ T, tb = .ref T ∧ TbAt h e T .none
end
/-! ### how an exception lies behind a call -/
def xφ (e C : Addr) (od : Option Addr) (q : Bool) : Heap → Prop := fun h => ∃ tb oe vs, XAt h e C od tb oe vs q
/-- an exception; a new one -/
def XO (e C : Addr) (od : Option Addr) (q : Bool := false) : HO := .ext (xφ e C od q)
theorem XAt.keeps {h h' : Heap} {e C : Addr} {od : Option Addr} {tb : Value} {oe : Obj} {vs : Array Value} {q : Bool} (x : XAt h e C od tb oe vs q) (k : ∀ o, h.get? e = some o → h'.get? e = some o) : XAt h' e C od tb oe vs q := ⟨k _ x.at_, x.cls, x.dict, x.data, x.size, x.tb1, x.cx⟩
section
variable {P : Program} {w : World} {H : Hp} {h : Heap} {e C : Addr} {od : Option Addr}
theorem xo_ok {tb : Value} {oe : Obj} {vs : Array Value} {q : Bool} (x : XAt h e C od tb oe vs q) : ObjOk P w H h e (XO e C od q) :=
  ⟨⟨tb, oe, vs, x⟩, ⟨oe, x.at_⟩, fun _ _ ⟨tb, oe, vs, y⟩ k => ⟨tb, oe, vs, y.keeps k⟩⟩
end
/-- how an exception lies: its object is tracked, made within the call; E is told its class and its object -/
def CX1 (P : Program) (w : World) : CXT := fun outer H s E v s' => ∃ (e C T : Addr) (od : Option Addr) (q : Bool) (H' : Hp) (oe : Obj) (vs : Array Value), v = .ref e ∧ s'.os = s.os ∧ AllBare s'.gens ∧
  Un (frs outer) [] H H' s.heap s'.heap ∧ HOk P w H' s'.heap ∧ H' e = some (XO e C od q) ∧ s.heap.get? e = none ∧ s.heap.objs.size ≤ T ∧ s.heap.objs.size ≤ s'.heap.objs.size ∧ H' T = none ∧
  XAt s'.heap e C od (.ref T) oe vs q ∧ TbAt s'.heap e T .none ∧ E (.ref C) (some e) H'
theorem ObjOk.there {P : Program} {w : World} {H : Hp} {h : Heap} {a : Addr} {o : HO} (x : ObjOk P w H h a o) : ∃ u, h.get? a = some u := by
  cases o with
  | lst xs => obtain ⟨_, _, _, _, e⟩ := x; exact ⟨_, e⟩
  | tup xs => obtain ⟨_, _, _, ob, e, _⟩ := x; exact ⟨_, e⟩
  | dK kvs => obtain ⟨_, _, _, _, ob, _, _, e, _⟩ := x; exact ⟨_, e⟩
  | dT kvs => obtain ⟨_, _, _, _, ob, _, _, e, _⟩ := x; exact ⟨_, e⟩
  | set S n => obtain ⟨ob, _, _, _, e, _⟩ := x; exact ⟨_, e⟩
  | ins C dx fs => obtain ⟨_, _, _, e, _⟩ := x; exact ⟨_, e⟩
  | own y => exact x
  | xd fs => obtain ⟨_, ⟨_, _, _, e, _⟩, _⟩ := x; exact ⟨_, e⟩
  | rng lo hi => obtain ⟨_, _, _, e⟩ := x; exact ⟨_, e⟩
  | frz ob u => obtain ⟨e, _⟩ := x; exact ⟨_, e⟩
  | tbl ps => exact ⟨_, show h.get? a = some _ from x⟩
  | met f y => exact ⟨_, show h.get? a = some _ from x⟩
  | ext φ => exact x.2.1
/-- an exception has come up to this body: the state is the body's, the object is tracked -/
def Flew (X : Cx) (pins : List (Addr × Obj)) (Es : St → XK) (v : Value) (s' : Shared) : Prop := ∃ (σ : St) (H' : Hp) (e C : Addr) (od : Option Addr) (q : Bool) (tb : Value) (oe : Obj) (vs : Array Value), v = .ref e ∧ Inv X pins σ H' s' ∧
  H' e = some (XO e C od q) ∧ XAt s'.heap e C od tb oe vs q ∧ TbOk s'.heap e tb ∧ (∀ T, tb = .ref T → H' T = none ∧ X.s₀.heap.objs.size ≤ T ∧ ∀ p ∈ X.pn ++ pins, p.1 ≠ T) ∧ (X.ex = [] → X.s₀.heap.get? e = none) ∧ Es σ (.ref C) (some e) H'
structure Lets (X : Cx) (Es : St → XK) : Prop where
  up : ∀ pins v s', Flew X pins Es v s' → X.xe v s'
section
variable {X : Cx} {pins : List (Addr × Obj)} {σ : St} {H : Hp} {s s' : Shared} {Es : St → XK} {v : Value}
/-- the heap behind a frame's note -/
theorem Noted.hok {P : Program} {w : World} {l : List Env} {e C T' : Addr} {od : Option Addr} {tb fl : Value} {h h' : Heap} {qq : Bool} (N : Noted l e C T' od tb fl h h' qq) (ok : HOk P w H h) (hx : H e = some (XO e C od qq)) (ht : ∀ T, tb = .ref T → H T = none)
    (hf : ∀ b ∈ frs l, H b = none) : HOk P w H h' := fun b o q => by
  have kp : ∀ c u ou, H c = some u → c ≠ e → h.get? c = some ou → h'.get? c = some ou := fun c u ou z n y => N.keep c ou y n (fun y2 => by rw [ht c y2.symm] at z; cases z) fun m => by rw [hf c m] at z; cases z
  by_cases n : b = e
  · subst n
    rw [hx] at q; cases q
    obtain ⟨oe, vs, x⟩ := N.exc
    exact xo_ok x
  · refine (ok b o q).stay (fun c u hc y => ?_) (fun _ z => z) fun _ _ z => z
    rcases hc with rfl | hc
    · exact kp c o u q n y
    · refine kp c _ u hc (fun z => ?_) y
      rw [z, hx] at hc; cases hc
theorem FunFrames.turn {base h h' : Heap} : ∀ {l : List Env}, h.FunFrames base l → (∀ b o, h.get? b = some o → b ∈ frs l → ∃ sl, h'.get? b = some { o with slots := sl }) → h'.FunFrames base l
  | [], _, _ => trivial
  | env :: r, ⟨hk, ⟨L, o, hf, hn, ho, hd⟩, hr⟩, k => by
    obtain ⟨sl, e⟩ := k L o ho (by unfold frs; rw [List.filterMap_cons, hf]; exact List.mem_cons_self)
    exact ⟨hk, ⟨L, _, hf, hn, e, hd⟩, FunFrames.turn hr fun b o q m => k b o q (by unfold frs; rw [List.filterMap_cons, hf]; exact List.mem_cons_of_mem _ m)⟩
end
/-! ### defs that may raise -/
section
variable {P : Program} {w : World} {K : PySem.W.Frag} {mg : Str → Option Value} {base : Heap} {x qual : Str} {st : Stmt} {f : Addr} {fd : FuncData} {N ps : List Str} {k : Nat} {sp : Sp} {ds : List Value}
theorem Fun.okX (F : Fun K x qual st f fd) (S : FnScope N ps (defScope st)) (len : ∀ vs H Q E, sp vs H Q E → vs.length = ps.length)
    (hbody : ∀ (cdv : Value) (A : Around) (outer : List Env) (s : Shared) (H : Hp) (vs : List V) (Q : VK) (E : XK), Room k (A.deeper (envOfC qual (defScope st) s.heap.objs.size f cdv)) → sp vs H Q E →
      ∃ t, QSs (cxOf (CX1 P w) P w K mg base N qual (defScope st) f cdv A outer s H E) (defBody st) t ∧ t { nx := fun _ H' => Q .non H', rt := Q } (start N vs) H) : FnOk P w K mg base (CX1 P w) (k + 1) f fd ps sp := by
  obtain ⟨oc, od, kV, doc, pm, an, cdv, ct, osl, rfl, lk, hcd⟩ := F.ex
  exact fn_of lk hcd S len fun A outer s H vs Q E hr hsp => let ⟨t, h, q⟩ := hbody cdv A outer s H vs Q E hr hsp; ⟨t, h.h, q⟩
theorem FunD.okX (F : FunD K x qual st f fd ds) (S : FnScope N ps (defScope st)) (len : ∀ vs H Q E, sp vs H Q E → vs.length = ps.length)
    (hbody : ∀ (cdv : Value) (A : Around) (outer : List Env) (s : Shared) (H : Hp) (vs : List V) (Q : VK) (E : XK), Room k (A.deeper (envOfC qual (defScope st) s.heap.objs.size f cdv)) → sp vs H Q E →
      ∃ t, QSs (cxOf (CX1 P w) P w K mg base N qual (defScope st) f cdv A outer s H E) (defBody st) t ∧ t { nx := fun _ H' => Q .non H', rt := Q } (start N vs) H) : FnOk P w K mg base (CX1 P w) (k + 1) f fd ps sp := by
  obtain ⟨oc, od, kV, doc, pm, an, cdv, ct, osl, d, dc, dd, n, dsl, rfl, lk, hcd, _⟩ := F.ex
  exact fn_of lk hcd S len fun A outer s H vs Q E hr hsp => let ⟨t, h, q⟩ := hbody cdv A outer s H vs Q E hr hsp; ⟨t, h.h, q⟩
end
/-! ### calls that may raise -/
structure HasX (P : Program) (w : World) (K : PySem.W.Frag) (mg : Str → Option Value) (base : Heap) (x : Str) (k : Nat) (f : Addr) (fd : FuncData) (ps : List Str) (dvs : List V) (sp : Sp) : Prop where
  g : mg x = some (.ref f)
  kp : PySem.W.keepIn K (.ref f) = true
  b : ∃ ds, Binds K fd ps ds ∧ Vals dvs ds
  ok : FnOk P w K mg base (CX1 P w) k f fd ps sp
structure HasMX (P : Program) (w : World) (K : PySem.W.Frag) (mg : Str → Option Value) (base : Heap) (C : Addr) (m : Str) (k : Nat) (f : Addr) (fd : FuncData) (ps : List Str) (dvs : List V) (sp : Sp) : Prop where
  c : Cls K C
  mt : Meth K C m f
  b : ∃ ds, Binds K fd ps ds ∧ Vals dvs ds
  ok : FnOk P w K mg base (CX1 P w) k f fd ps sp
structure HasKX (P : Program) (w : World) (K : PySem.W.Frag) (mg : Str → Option Value) (base : Heap) (x : Str) (C : Addr) (k : Nat) (f : Addr) (fd : FuncData) (ps : List Str) (dvs : List V) (sp : Sp) : Prop where
  g : mg x = some (.ref C)
  mkx : Mk K C f
  b : ∃ ds, Binds K fd ps ds ∧ Vals dvs ds
  ok : FnOk P w K mg base (CX1 P w) k f fd ps sp
section
variable {X : Cx} {k j : Nat} {f C : Addr} {fd : FuncData} {ps : List Str} {sp : Sp} {x m : Str} {p pos apos : Pos} {e o : Expr} {es : List Expr} {ta : TE} {t : TA} {dvs : List V} {ds : List Value} {Es : St → XK}
end
end L2

/-! OWN EXTENSION L: raising, catching. -/
namespace L2
open PySem PySem.Spec PyProof.Rows
section
variable {X : Cx} {pins : List (Addr × Obj)} {σ : St} {H : Hp} {s : Shared} {h' : Heap}
/-- a new thing, at a place where nothing was, is tracked -/
theorem Inv.adopt {e : Addr} {o : HO} {t' : Nat} (I : Inv X pins σ H s) (k : ∀ b u, s.heap.get? b = some u → h'.get? b = some u) (he : s.heap.get? e = none) (new : ObjOk X.prog X.w (upd H e o) h' e o) : Inv X pins σ (upd H e o) { s with heap := h', toks := t' } := by
  have hn : H e = none := by
    cases q : H e with
    | none => rfl
    | some u => obtain ⟨z, y⟩ := ObjOk.there (I.hok e u q); rw [he] at y; cases y
  have ne : ∀ b u, s.heap.get? b = some u → b ≠ e := fun b u q z => by rw [z, he] at q; cases q
  refine I.un ⟨fun b u q _ _ _ => k b u q, fun b u q _ _ _ => ⟨u.slots, k b u q⟩, fun b u q n _ => by rw [upd_ne (ne b u q)]; exact n, fun b u q _ => ⟨u, k b u q⟩, fun b xs q => by rw [upd_ne (ne_of_none q hn)]; exact q, fun b u xs q => by rw [upd_ne (ne_of_none q hn)]; exact q, fun b ps q => ⟨#[], by rw [upd_ne (ne_of_none q hn), q]; simp⟩⟩ fun b u q => ?_
  by_cases hb : b = e
  · subst hb; rw [upd_same] at q; cases q; exact new
  · rw [upd_ne hb] at q
    exact (I.hok b u q).stay (fun c v _ z => k c v z) (fun c z => by rw [upd_ne (ne_of_none z hn)]; exact z) fun c xs z => by rw [upd_ne (ne_of_none z hn)]; exact z
end
section
variable {X : Cx} {Es : St → XK} {C : Addr} {x : Str} {np cpos pos : Pos} {a : Expr} {es : List Expr} {t : TA}
end
end L2

/-! OWN EXTENSION M: try. -/
namespace L2
open PySem PySem.Spec PyProof.Rows
section
variable {X : Cx} {pins : List (Addr × Obj)} {σ : St} {H : Hp} {s : Shared} {h' : Heap}
/-! ### contexts -/
abbrev Cx.tryc (X : Cx) (pn : List (Addr × Obj)) (W : Value → Shared → Prop) : Cx := { X with pn := pn, xe := W }
abbrev Cx.hand (X : Cx) (e : Addr) (W : Value → Shared → Prop) : Cx := { X with A := X.A.mark (some (.ref e)), calm := false, xe := W }
theorem Cx.Ok.tryc {pn : List (Addr × Obj)} {W : Value → Shared → Prop} (ok : X.Ok) : (X.tryc pn W).Ok :=
  ⟨ok.mod, ok.kind, ok.glob, ok.blt, ok.above, ok.inj, ok.has, ok.cab, ok.hd, ok.frames, ok.stk, ok.exf, ok.bs, ok.bsz, ok.noex, ok.exfs, ok.funs, ok.frf⟩
theorem Cx.Ok.untry {pn : List (Addr × Obj)} {W : Value → Shared → Prop} (ok : (X.tryc pn W).Ok) : X.Ok :=
  ⟨ok.mod, ok.kind, ok.glob, ok.blt, ok.above, ok.inj, ok.has, ok.cab, ok.hd, ok.frames, ok.stk, ok.exf, ok.bs, ok.bsz, ok.noex, ok.exfs, ok.funs, ok.frf⟩
theorem Inv.tryc {W : Value → Shared → Prop} (I : Inv X pins σ H s) : Inv (X.tryc (X.pn ++ pins) W) [] σ H s :=
  ⟨I.ok.tryc, I.os, I.bare, I.base, I.loc, I.cell, I.free, I.freeC, fun p hp => I.pin p (by simpa using hp), I.hok, I.len⟩
theorem Inv.untry {W : Value → Shared → Prop} {pins' : List (Addr × Obj)} (I : Inv (X.tryc (X.pn ++ pins) W) pins' σ H s) : Inv X pins σ H s :=
  ⟨I.ok.untry, I.os, I.bare, I.base, I.loc, I.cell, I.free, I.freeC, fun p hp => I.pin p (List.mem_append_left _ hp), I.hok, I.len⟩
theorem Inv.hand {e : Addr} {W : Value → Shared → Prop} (I : Inv X pins σ H s) : Inv (X.hand e W) pins σ H s :=
  ⟨⟨I.ok.mod, I.ok.kind, I.ok.glob, I.ok.blt, I.ok.above, I.ok.inj, I.ok.has, I.ok.cab, (fun z => nomatch z), I.ok.frames, I.ok.stk, I.ok.exf, I.ok.bs, I.ok.bsz, I.ok.noex, I.ok.exfs, I.ok.funs, I.ok.frf⟩, I.os, I.bare, I.base, I.loc, I.cell, I.free, I.freeC, I.pin, I.hok, I.len⟩
theorem SP.untry {W : Value → Shared → Prop} {D : Ends} {f : Flow} (h : SP (X.tryc (X.pn ++ pins) W) [] D f s) : SP X pins D f s := by
  cases f with
  | next => obtain ⟨σ', H', I, q⟩ := h; exact ⟨σ', H', I.untry, q⟩
  | brk => obtain ⟨σ', H', I, q⟩ := h; exact ⟨σ', H', I.untry, q⟩
  | cont => obtain ⟨σ', H', I, q⟩ := h; exact ⟨σ', H', I.untry, q⟩
  | ret u => obtain ⟨v, σ', H', I, r, q⟩ := h; exact ⟨v, σ', H', I.untry, r, q⟩
end
/-! ### the rule -/
section
variable {X : Cx} {y n : Str} {np hpos pos : Pos} {body suite : List Stmt} {b₀ : Stmt} {Cy : Addr} {tb : (St → XK) → TS} {th : TS} {j : Nat}
end
end L2

/-! OWN EXTENSION O: one call, several classes; making with a default. -/
namespace L2
open PySem PySem.Spec PyProof.Rows
structure HasKD (P : Program) (w : World) (K : PySem.W.Frag) (mg : Str → Option Value) (base : Heap) (x : Str) (C : Addr) (k : Nat) (f : Addr) (fd : FuncData) (ps : List Str) (dvs : List V) (sp : Sp) : Prop where
  g : mg x = some (.ref C)
  mkx : Mk K C f
  b : ∃ ds, Binds K fd ps ds ∧ Vals dvs ds
  ok : FnOk P w K mg base CX0 k f fd ps sp
section
variable {X : Cx} {k j : Nat} {f C : Addr} {fd : FuncData} {ps : List Str} {sp : Sp} {x : Str} {p pos : Pos} {e : Expr} {es : List Expr} {t : TA} {dvs : List V}
theorem q_makeD (F : HasKD X.prog X.w X.K X.mg X.base x C j f fd ps dvs sp) (hr : Room k X.A) (ha : QA X (e :: es) t) (hj : j + 1 ≤ k := by decide) (hg : Gl X x := by rfl) (hdb : (x == ("__debug__" : Str)) = false := by decide) (hn : noStar (e :: es) = true := by rfl) :
    QE X (.Call (.Name x p) (e :: es) [] pos) (tMake C sp dvs E0 t) := by
  obtain ⟨ds, hb, hd⟩ := F.b
  exact ⟨pe_make F.mkx F.ok (hr.mono hj) hg F.g hb hd passes0 ha.h hdb (star_cons (noStar_head hn).1) (noStar_any (noStar_head hn).2)⟩
theorem q_makeD0 (F : HasKD X.prog X.w X.K X.mg X.base x C j f fd ps dvs sp) (hr : Room k X.A) (hj : j + 1 ≤ k := by decide) (hg : Gl X x := by rfl) (hdb : (x == ("__debug__" : Str)) = false := by decide) :
    QE X (.Call (.Name x p) [] [] pos) (tMake C sp dvs E0 tNil) := by
  obtain ⟨ds, hb, hd⟩ := F.b
  exact ⟨pe_make0 F.mkx F.ok (hr.mono hj) hg F.g hb hd passes0 hdb⟩
end
end L2

/-! OWN EXTENSION YM: a, b = x, y of two local names (the layer's ps_par as a structure). -/
namespace L2
open PySem PySem.Spec PyProof.Rows
end L2

/-! OWN EXTENSION YN: a dict whose keys are tuples of a number and a tuple of numbers. -/
namespace L2
open PySem PySem.Spec PyProof.Rows
section
variable {prog : Program} {w : World}
/-- a spot as a key -/
def IsSpt (prog : Program) (w : World) (h : Heap) (k : Int × List Int) (a : Addr) : Prop :=
  ∃ (o : Obj) (t b n : Nat), h.get? a = some o ∧ o.cls = .type "tuple" ∧ o.data = .seq #[.int k.1 t, .ref b] n ∧ IsTupleKey (intKind prog w) h k.2 b
theorem IsSpt.ty {s : Shared} {k : Int × List Int} {a : Addr} (x : IsSpt prog w s.heap k a) : s.TypeIs (.ref a) "tuple" := by
  obtain ⟨o, t, b, n, h1, h2, _⟩ := x
  exact ⟨o, h1, h2⟩
theorem IsSpt.one {h : Heap} {a : Addr} {x y : Int × List Int} (hx : IsSpt prog w h x a) (hy : IsSpt prog w h y a) : x = y := by
  obtain ⟨o, t, b, n, h1, _, h3, h4⟩ := hx
  obtain ⟨o', t', b', n', g1, _, g3, g4⟩ := hy
  rw [h1] at g1; cases g1
  rw [h3] at g3
  injection g3 with e _
  injection e with e
  injection e with e1 e2
  injection e1 with e1 _
  injection e2 with e2 _
  injection e2 with e2
  subst e2
  exact Prod.ext e1 (h4.inj g4)
theorem IsSpt.stay {h h' : Heap} {k : Int × List Int} {a d : Addr} {o : Obj} {es : Array DictEntry} {ep : Nat} (x : IsSpt prog w h k a) (ho : h.get? d = some o) (hd : o.data = .dict es ep) (sb : Heap.SameBut d h h') : IsSpt prog w h' k a := by
  obtain ⟨u, t, b, n, h1, h2, h3, h4⟩ := x
  refine ⟨u, t, b, n, (sb.2 a ?_).trans h1, h2, h3, h4.keeps ho hd sb⟩
  intro z
  subst z
  rw [h1] at ho; cases ho
  rw [hd] at h3; cases h3
variable {A : Around} {E : Value → Shared → Prop} {s : Shared}
def sptHash (prog : Program) (w : World) (k : Int × List Int) : Int := reduceHash (Builtin.Tuple.tupleHashOf [(intKind prog w).hash k.1, tupleKeyHash (intKind prog w) k.2])
theorem spt_hash {k : Int × List Int} {a : Addr} {Q : Int → Shared → Prop} (hu : A.units + 8 < cLine) (hk : IsSpt prog w s.heap k a) (q : Q (sptHash prog w k) { s with toks := s.toks + (k.2.length + 3) }) : wpAny (model prog w) A (pyHash (.ref a)) Q E s := by
  have ty := hk.ty
  obtain ⟨o, t, b, n, h1, h2, h3, h4⟩ := hk
  unfold pyHash
  first | unfold pyHashByItsType | skip
  first | refine wpAny_bind (wpAny_cRoomFor_or (.inr (by omega)) ?_) | skip
  refine wpAny_bind (wpAny_specialOf ty PySem.F.slot_tuple_hash.lookup ?_)
  show wpAny _ _ (if (some (Value.builtin "tuple.__hash__") == some Value.none) = true then _ else _) _ _ _
  rw [if_neg (by rw [beq_builtin_none]; decide)]
  refine wpAny_bind (wpAny_specialOf ty PySem.F.slot_tuple_hash.lookup ?_)
  show wpAny _ _ (callSpecialIfBoundUnlessNone? (.ref a) "__hash__" _ >>= _) _ _ _
  refine wpAny_bind (wpAny_callSpecialIfBoundUnlessNone?_slot ty PySem.F.slot_tuple_hash (wpAny_call_entry PySem.F.slot_tuple_hash ty PySem.F.entry_tuple_hash ?_ (PySem.F.args_tuple_hash_1 _)))
  show wpAny _ _ (Builtin.Tuple.tupleItemsOf (.ref a) >>= _) _ _ _
  refine wpAny_bind (wpAny_tupleItemsOf h1 h3 ?_)
  refine wpAny_bind ?_
  rw [← Array.forIn_toList]
  rw [List.forIn_cons]
  refine wpAny_bind (wpAny_bind ((intKind prog w).pyHash (k := k.1) (by exact (beq_self_eq_true k.1)) ?_))
  first
    | refine wpAny_pure ?_
    | refine wpAny_bind (wpAny_pure (wpAny_pure ?_))
  dsimp only
  rw [List.forIn_cons]
  refine wpAny_bind (wpAny_bind (wpAny_pyHash_tuple (knd := intKind prog w) (ks := k.2) ?_ h4 ?_))
  · show A.units + 1 < cLine
    omega
  first
    | refine wpAny_pure ?_
    | refine wpAny_bind (wpAny_pure (wpAny_pure ?_))
  dsimp only
  rw [List.forIn_nil]
  refine wpAny_pure ?_
  refine wpAny_ret_mkInt ?_
  have e : ((#[].push ((intKind prog w).hash k.1)).push (tupleKeyHash (intKind prog w) k.2)).toList = [(intKind prog w).hash k.1, tupleKeyHash (intKind prog w) k.2] := rfl
  rw [e]
  generalize eH : Builtin.Tuple.tupleHashOf [(intKind prog w).hash k.1, tupleKeyHash (intKind prog w) k.2] = N
  have q' : Q (reduceHash N) { s with toks := s.toks + (k.2.length + 3) } := by rw [← eH]; exact q
  unfold reduceHash at q'
  have et : s.toks + 1 + (k.2.length + 1) + 1 = s.toks + (k.2.length + 3) := by omega
  show wpAny _ _ (if (decide (-(2 : Int) ^ 63 ≤ N) && decide (N < 2 ^ 63)) = true then _ else _) _ _ { s with toks := s.toks + 1 + (k.2.length + 1) + 1 }
  rw [et]
  split
  · rename_i c
    rw [if_pos c] at q'
    exact wpAny_pure q'
  · rename_i c
    rw [if_neg c] at q'
    exact wpAny_bind (wpAny_rule (wpAny_pure q'))
theorem spt_eqT {x y : Int × List Int} {a b : Addr} {P : Fin → Shared → Prop} (hu : A.units + 4 < cLine) (hx : IsSpt prog w s.heap x a) (hy : IsSpt prog w s.heap y b) (q : P (.done (.ret (.bool (decide (x = y))))) s) :
    wpAny (model prog w) A (Builtin.«tuple.__eq__» ⟨[.ref a, .ref b], []⟩) P E s := by
  have ty := hy.ty
  obtain ⟨o, t, c, n, h1, h2, h3, h4⟩ := hx
  obtain ⟨o', t', c', n', g1, g2, g3, g4⟩ := hy
  show wpAny _ _ (isInstance (.ref b) (.type "tuple") >>= _) _ _ _
  refine wpAny_bind (wpAny_isInstance ty isSubtype_tuple_tuple ?_)
  simp only [Bool.not_true, Bool.false_eq_true, if_false]
  refine wpAny_bind (wpAny_tupleItemsOf h1 h3 ?_)
  refine wpAny_bind (wpAny_tupleItemsOf g1 g3 ?_)
  refine wpAny_bind ?_
  show wpAny _ _ (forIn [(Value.int x.1 t, Value.int y.1 t'), (Value.ref c, Value.ref c')] _ _) _ _ _
  rw [List.forIn_cons]
  refine wpAny_bind (wpAny_bind ((intKind prog w).eqBool (a := x.1) (b := y.1) (by exact (beq_self_eq_true x.1)) (by exact (beq_self_eq_true y.1)) ?_))
  by_cases e1 : x.1 = y.1
  · rw [decide_eq_true e1]
    simp only [Bool.not_true, Bool.false_eq_true, if_false]
    refine wpAny_pure ?_
    dsimp only
    rw [List.forIn_cons]
    refine wpAny_bind (wpAny_bind (wpAny_eqBool_tuple (knd := intKind prog w) (x := x.2) (y := y.2) (by omega) h4 g4 ?_))
    by_cases e2 : x.2 = y.2
    · rw [decide_eq_true e2]
      simp only [Bool.not_true, Bool.false_eq_true, if_false]
      refine wpAny_pure ?_
      dsimp only
      rw [List.forIn_nil]
      refine wpAny_pure (wpAny_pure ?_)
      rw [decide_eq_true (Prod.ext e1 e2)] at q
      exact q
    · rw [decide_eq_false e2]
      simp only [Bool.not_false, if_true]
      rw [decide_eq_false (fun z => e2 (by rw [z]))] at q
      exact wpAny_bind (wpAny_pure (wpAny_pure (wpAny_pure (wpAny_pure q))))
  · rw [decide_eq_false e1]
    simp only [Bool.not_false, if_true]
    rw [decide_eq_false (fun z => e1 (by rw [z]))] at q
    exact wpAny_bind (wpAny_pure (wpAny_pure (wpAny_pure (wpAny_pure q))))
theorem spt_eq {x y : Int × List Int} {a b : Addr} {Q : Bool → Shared → Prop} (hu : A.units + 8 < cLine) (hx : IsSpt prog w s.heap x a) (hy : IsSpt prog w s.heap y b) (q : Q (decide (x = y)) s) : wpAny (model prog w) A (eqBool (.ref a) (.ref b)) Q E s := by
  unfold eqBool
  try with_reducible refine wpAny_holding ?_
  show wpAny _ _ (if (Value.ref a == Value.ref b) = true then _ else _) _ _ _
  by_cases e : (Value.ref a == Value.ref b) = true
  · rw [if_pos e]
    have z : a = b := by
      have := eq_of_beq e
      injection this
    subst z
    obtain rfl := hx.one hy
    rw [decide_eq_true rfl] at q
    exact wpAny_bind (wpAny_rule (wpAny_pure q))
  · rw [if_neg e]
    exact wpAny_bind (wpAny_richCompare_same_room (op := .Eq) hx.ty hy.ty PySem.F.slot_tuple_eq (wpAny_call_entry PySem.F.slot_tuple_eq hx.ty PySem.F.entry_tuple_eq (spt_eqT (by show A.units + 1 + 4 < cLine; omega) hx hy ⟨_, rfl, nofun, wpAny_truthy_bool q⟩) (PySem.F.args_tuple_eq_2 _ _)) (by omega))
theorem quiet_tup (n : Nat) {ks : List Int} {a : Addr} {Q : Bool → Shared → Prop} (hk : IsTupleKey (intKind prog w) s.heap ks a) (q : Q true s) : wpAny (model prog w) A (eqIsQuiet (n + 1) (.ref a)) Q E s := by
  have ty := hk.typeIs
  obtain ⟨o, its, m, h1, _, h3, h4⟩ := hk
  unfold eqIsQuiet
  refine wpAny_bind (wpAny_specialOf ty PySem.F.slot_tuple_eq.lookup ?_)
  show wpAny _ _ (isInstance (.ref a) (.type "tuple") >>= _) _ _ _
  refine wpAny_bind (wpAny_isInstance ty isSubtype_tuple_tuple ?_)
  simp only [Bool.not_true, Bool.false_eq_true, if_false]
  refine wpAny_bind (wpAny_seqItems h1 h3 ?_)
  refine wpAny_bind ?_
  show wpAny _ _ (forIn its _ _) _ _ _
  rw [← Array.forIn_toList]
  refine wpAny_forIn_list _ (fun l r s' => r.1 = none ∧ s' = s ∧ ∀ v ∈ l, carriedByValue v = true) _ ?_ ?_ _ _ ⟨rfl, rfl, h4.byValue⟩
  · rintro v l r s' ⟨hr, rfl, al⟩
    rw [eqIsQuiet_byValue _ (al v (List.mem_cons_self ..))]
    refine wpAny_bind (wpAny_pure ?_)
    simp only [Bool.not_true, Bool.false_eq_true, if_false]
    exact wpAny_pure ⟨rfl, rfl, fun u z => al u (List.mem_cons_of_mem _ z)⟩
  · rintro ⟨r1, r2⟩ s' ⟨hr, rfl, _⟩
    obtain rfl : r1 = none := hr
    exact wpAny_pure q
theorem spt_quiet {k : Int × List Int} {a : Addr} {Q : Bool → Shared → Prop} (hk : IsSpt prog w s.heap k a) (q : Q true s) : wpAny (model prog w) A (eqIsQuiet 8 (.ref a)) Q E s := by
  have ty := hk.ty
  obtain ⟨o, t, b, n, h1, h2, h3, h4⟩ := hk
  unfold eqIsQuiet
  refine wpAny_bind (wpAny_specialOf ty PySem.F.slot_tuple_eq.lookup ?_)
  show wpAny _ _ (isInstance (.ref a) (.type "tuple") >>= _) _ _ _
  refine wpAny_bind (wpAny_isInstance ty isSubtype_tuple_tuple ?_)
  simp only [Bool.not_true, Bool.false_eq_true, if_false]
  refine wpAny_bind (wpAny_seqItems h1 h3 ?_)
  refine wpAny_bind ?_
  show wpAny _ _ (forIn #[Value.int k.1 t, Value.ref b] _ _) _ _ _
  rw [← Array.forIn_toList]
  rw [List.forIn_cons, eqIsQuiet_byValue _ (show carriedByValue (Value.int k.1 t) = true from rfl)]
  refine wpAny_bind (wpAny_bind (wpAny_pure ?_))
  simp only [Bool.not_true, Bool.false_eq_true, if_false]
  refine wpAny_pure ?_
  dsimp only
  rw [List.forIn_cons]
  refine wpAny_bind (wpAny_bind (quiet_tup 6 h4 ?_))
  simp only [Bool.not_true, Bool.false_eq_true, if_false]
  refine wpAny_pure ?_
  dsimp only
  rw [List.forIn_nil]
  exact wpAny_pure (wpAny_pure q)
/-- such keys -/
def sptKind (prog : Program) (w : World) : HeapKind prog w (Int × List Int) where
  is := IsSpt prog w
  hash := sptHash prog w
  draws := fun k => k.2.length + 3
  room := fun A => A.units + 8 < cLine
  inj := fun x y => x.one y
  keeps := fun x ho hd sb => x.stay ho hd sb
  pyHash := fun hu hk q => spt_hash hu hk q
  eqBool := fun hu hx hy q => spt_eq hu hx hy q
  quiet := fun hk q => spt_quiet hk q
end
/-! ### a dict by its entries, walked -/
structure Raw (h : Heap) (d : Addr) (es : Array DictEntry) (ep : Nat) : Prop where
  big : (d == sysModules) = false
  obj : ∃ o, h.get? d = some o ∧ o.ExactDict ∧ o.data = .dict es ep
theorem Raw.ty {s : Shared} {d : Addr} {es : Array DictEntry} {ep : Nat} (r : Raw s.heap d es ep) : s.TypeIs (.ref d) "dict" := by
  obtain ⟨o, e, c, _⟩ := r.obj
  exact ⟨o, e, c.1⟩
theorem Raw.to {h h' : Heap} {d : Addr} {es : Array DictEntry} {ep : Nat} (r : Raw h d es ep) (k : ∀ o, h.get? d = some o → h'.get? d = some o) : Raw h' d es ep := by
  obtain ⟨b, o, e, c⟩ := r
  exact ⟨b, o, k o e, c⟩
theorem Raw.lt {h : Heap} {d : Addr} {es : Array DictEntry} {ep : Nat} (r : Raw h d es ep) : d < h.objs.size := by
  obtain ⟨o, e, _⟩ := r.obj
  exact Heap.lt_size e
section
variable {prog : Program} {w : World} {A : Around} {E : Value → Shared → Prop} {s : Shared} {it d : Addr} {i ep : Nat} {es : Array DictEntry}
theorem raw_iter {Q : Value → Shared → Prop} (r : Raw s.heap d es ep) (q : Q (.ref s.heap.objs.size) { s with heap := s.heap.push { cls := .type "dict_keyiterator", data := .fields #[.ref d, .int 0 0, .int es.size 0, .int ep 0] } }) : wpAny (model prog w) A (pyIter (.ref d)) Q E s := by
  have ty := r.ty
  obtain ⟨o, e1, e2, e3⟩ := r.obj
  refine wpAny_pyIter_slot ty PySem.F.slot_dict_iter (wpAny_call_entry PySem.F.slot_dict_iter ty PySem.F.entry_dict_iter ?_ (PySem.F.args_dict_iter_1 _))
  unfold Builtin.«dict.__iter__» Builtin.Dict.dictSlotNone
  refine wpAny_bind (wpAny_bind (wpAny_notOrdered_dict ty ?_))
  show wpAny _ _ (pure (Value.ref d)) _ _ _
  refine wpAny_pure ?_
  show wpAny _ _ (Builtin.Dict.showsAll d >>= _) _ _ _
  unfold Builtin.Dict.showsAll
  rw [if_neg (by rw [r.big]; decide)]
  refine wpAny_bind (wpAny_pure (wpAny_bind (wpAny_dictEntries e1 e3 (wpAny_bind (wpAny_dictEpoch e1 e3 ?_)))))
  refine wpAny_bind (wpAny_newObj_type (wpAny_pure ⟨_, rfl, "dict_keyiterator", _, ⟨_, Heap.get?_push_size _ rfl, rfl⟩, PySem.F.slot_dict_keyiterator_next.lookup, ?_⟩))
  exact q
theorem raw_item {e : DictEntry} {Q : Option Value → Shared → Prop} (ki : s.heap.IsKeyIter it d i es.size ep) (r : Raw s.heap d es ep) (he : es[i]? = some e)
    (q : ∀ h', h'.IsKeyIter it d (i + 1) es.size ep → Heap.SameBut it s.heap h' → Q (some e.key) { s with heap := h' }) : wpAny (model prog w) A (pyNext (.ref it)) Q E s := by
  obtain ⟨o, k1, k2, k3⟩ := id ki
  obtain ⟨u, e1, e2, e3⟩ := r.obj
  unfold pyNext
  refine wpAny_bind (wpAny_attempt (wpAny_callSpecial?_slot (name := Str.ofString "__next__") ki.typeIs PySem.F.slot_dict_keyiterator_next (wpAny_call_entry PySem.F.slot_dict_keyiterator_next ki.typeIs PySem.F.entry_dict_keyiterator_next ?_ (PySem.F.args_dict_keyiterator_next_1 _))))
  refine wpAny_bind (wpAny_pure (wpAny_bind (wpAny_bind ?_)))
  first | refine wpAny_bind (wpAny_typeNameOfWhole_keyiter ki.typeIs (wpAny_pure ?_)) | refine wpAny_bind (wpAny_typeNameOf_keyiter ki.typeIs (wpAny_pure ?_))
  refine wpAny_bind (wpAny_fieldsOf k1 k3 ?_)
  simp only [show Builtin.Dict_items.ownsTuple "dict_keyiterator" = false by decide, Bool.false_eq_true, if_false]
  show wpAny _ _ (if (Value.ref d == Value.none) = true then _ else _) _ _ _
  rw [if_neg (by intro z; cases z)]
  refine wpAny_bind (wpAny_pure (wpAny_bind (wpAny_dictEntries e1 e3 ?_)))
  rw [if_neg (by simp)]
  refine wpAny_bind (wpAny_pure (wpAny_bind (wpAny_dictEpoch e1 e3 ?_)))
  rw [if_neg (by simp)]
  refine wpAny_pure ?_
  simp only [show ¬ ((i : Int) < 0) by omega, if_false, Int.toNat_natCast, he]
  refine wpAny_bind ?_
  first | refine wpAny_bind (wpAny_typeNameOfWhole_keyiter ki.typeIs (wpAny_pure ?_)) | refine wpAny_bind (wpAny_typeNameOf_keyiter ki.typeIs (wpAny_pure ?_))
  refine wpAny_bind (wpAny_isOneOf_keyiter ki.typeIs ?_)
  show wpAny _ _ (setField (.ref it) 1 (rawInt ((i : Int) + 1)) >>= _) _ _ _
  refine wpAny_bind (wpAny_setField k1 k3 (by simp) ?_)
  have nx : (s.heap.update it (Obj.mapFields (·.setIfInBounds 1 (rawInt ((i : Int) + 1))))).IsKeyIter it d (i + 1) es.size ep := ⟨_, Heap.get?_update_self _ k1 (Obj.isFreed_of_fields (Obj.data_mapFields k3 _)), (Obj.cls_mapFields ..).trans k2, by rw [Obj.data_mapFields k3]; simp [rawInt]⟩
  refine wpAny_bind (wpAny_holding (wpAny_bind (wpAny_isOneOf_keyiter (s := { s with heap := s.heap.update it (Obj.mapFields (·.setIfInBounds 1 (rawInt ((i : Int) + 1)))) }) nx.typeIs ?_)))
  show wpAny _ _ (pure e.key) _ _ _
  exact wpAny_pure (wpAny_pure ⟨_, rfl, wpAny_pure (q _ nx (Heap.SameBut.update ..))⟩)
theorem raw_end {Q : Option Value → Shared → Prop} (hh : A.handled = none) (ki : s.heap.IsKeyIter it d i es.size ep) (r : Raw s.heap d es ep) (he : es.size ≤ i) (q : ∀ h', Heap.ExtBut it s.heap h' → Q none { s with heap := h' }) : wpAny (model prog w) A (pyNext (.ref it)) Q E s := by
  obtain ⟨o, k1, k2, k3⟩ := id ki
  obtain ⟨u, e1, e2, e3⟩ := r.obj
  unfold pyNext
  refine wpAny_bind (wpAny_attempt (wpAny_callSpecial?_slot (name := Str.ofString "__next__") ki.typeIs PySem.F.slot_dict_keyiterator_next (wpAny_call_entry PySem.F.slot_dict_keyiterator_next ki.typeIs PySem.F.entry_dict_keyiterator_next ?_ (PySem.F.args_dict_keyiterator_next_1 _))))
  refine wpAny_bind (wpAny_pure (wpAny_bind (wpAny_bind ?_)))
  first | refine wpAny_bind (wpAny_typeNameOfWhole_keyiter ki.typeIs (wpAny_pure ?_)) | refine wpAny_bind (wpAny_typeNameOf_keyiter ki.typeIs (wpAny_pure ?_))
  refine wpAny_bind (wpAny_fieldsOf k1 k3 ?_)
  simp only [show Builtin.Dict_items.ownsTuple "dict_keyiterator" = false by decide, Bool.false_eq_true, if_false]
  show wpAny _ _ (if (Value.ref d == Value.none) = true then _ else _) _ _ _
  rw [if_neg (by intro z; cases z)]
  refine wpAny_bind (wpAny_pure (wpAny_bind (wpAny_dictEntries e1 e3 ?_)))
  rw [if_neg (by simp)]
  refine wpAny_bind (wpAny_pure (wpAny_bind (wpAny_dictEpoch e1 e3 ?_)))
  rw [if_neg (by simp)]
  refine wpAny_pure ?_
  simp only [show ¬ ((i : Int) < 0) by omega, if_false, Int.toNat_natCast, Array.getElem?_eq_none he]
  refine wpAny_bind ?_
  first | refine wpAny_bind (wpAny_typeNameOfWhole_keyiter ki.typeIs (wpAny_pure ?_)) | refine wpAny_bind (wpAny_typeNameOf_keyiter ki.typeIs (wpAny_pure ?_))
  show wpAny _ _ (setField (.ref it) 0 .none >>= _) _ _ _
  refine wpAny_bind (wpAny_setField k1 k3 (by simp) ?_)
  show wpAny _ _ (newExc (.type "StopIteration") [] >>= _) _ _ _
  refine wpAny_bind ?_
  simp only [newExc, newTuple]
  refine wpAny_bind (wpAny_newObj_type ?_ (by size_fits))
  refine wpAny_bind (m := firstArgMember _ _) (wpAny_of_eq (a := Value.none) (by first | rfl | (simp only [firstArgMember]; rfl)) (wpAny_newObj_type ?_ (by size_fits)))
  simp only [raiseNew]
  refine wpAny_bind (wpAny_handled ?_)
  rw [show A.in1.handled = none from hh]
  refine wpAny_bind (wpAny_pure (wpAny_throw ?_))
  refine wpAny_bind (wpAny_isInstance (T := "StopIteration") (b := true) ⟨_, Heap.get?_push_size _ rfl, by rfl⟩ isSubtype_stop ?_)
  exact wpAny_pure (q _ (((Heap.SameBut.update ..).extBut.push _).push _))
end
/-! ### such a dict among the tracked things -/
abbrev Spt := Int × List Int
def sptE (x : Spt × Addr × Value) : DictEntry := ⟨reduceHash (Builtin.Tuple.tupleHashOf [hashInt x.1.1, reduceHash (Builtin.Tuple.tupleHashOf (x.1.2.map hashInt))]), .ref x.2.1, x.2.2⟩
theorem sptE_eq (P : Program) (w : World) : entryOfKey (sptKind P w) = sptE := rfl
def DNo (a : Addr) (xs : List (Spt × Addr × Value)) (ep : Nat) : HO := .ext fun h => Raw h a (xs.map sptE).toArray ep
/-- the tuple at p is the spot k -/
def KyA (H : Hp) (k : Spt) (p : Addr) : Prop := ∃ b, H p = some (.tup [.int k.1, .ref b]) ∧ H b = some (.tup (k.2.map V.int))
abbrev KN : List (Spt × Addr × V) → List (Spt × Addr × Value) → Prop := Paired fun p q => p.1 = q.1 ∧ p.2.1 = q.2.1 ∧ RelV p.2.2 q.2.2
structure DN (H : Hp) (a : Addr) (kvs : List (Spt × Addr × V)) : Prop where
  ex : ∃ xs ep, H a = some (DNo a xs ep) ∧ KN kvs xs
  key : ∀ x ∈ kvs, KyA H x.1 x.2.1
  nd : (kvs.map (·.1)).Nodup
  le : kvs.length ≤ sizeLine
theorem KyA.same {H H' : Hp} {k : Spt} {p : Addr} (s : Same H H') (h : KyA H k p) : KyA H' k p := by
  obtain ⟨b, h1, h2⟩ := h
  exact ⟨b, s _ _ h1, s _ _ h2⟩
theorem DN.same {H H' : Hp} {a : Addr} {kvs : List (Spt × Addr × V)} (s : Same H H') (d : DN H a kvs) : DN H' a kvs := by
  obtain ⟨⟨xs, ep, h1, h2⟩, k, n, l⟩ := d
  exact ⟨⟨xs, ep, s _ _ h1, h2⟩, fun x hx => (k x hx).same s, n, l⟩
def valN (kvs : List (Spt × Addr × V)) (k : Spt) : Option V := (kvs.find? fun x => decide (x.1 = k)).map (·.2.2)
def putN (kvs : List (Spt × Addr × V)) (k : Spt) (b : Addr) (v : V) : List (Spt × Addr × V) :=
  if (valN kvs k).isSome then kvs.map (fun x => if x.1 = k then (x.1, x.2.1, v) else x) else kvs ++ [(k, b, v)]
theorem KN.val {kvs : List (Spt × Addr × V)} {xs : List (Spt × Addr × Value)} (r : KN kvs xs) (k : Spt) : RelO (valN kvs k) ((atKey xs k).map (·.2)) := by
  induction r with
  | nil => exact True.intro
  | @cons p q ps qs h t ih =>
    obtain ⟨h1, _, h2⟩ := h
    by_cases e : p.1 = k
    · have e' : q.1 = k := h1.symm.trans e
      have b : atKey (q :: qs) k = some q.2 := by simp [atKey, List.find?_cons, e']
      have c : valN (p :: ps) k = some p.2.2 := by simp [valN, List.find?_cons, e]
      rw [b, c]
      exact h2
    · have e' : ¬ q.1 = k := fun z => e (h1.trans z)
      have b : atKey (q :: qs) k = atKey qs k := by simp [atKey, List.find?_cons, e']
      have c : valN (p :: ps) k = valN ps k := by simp [valN, List.find?_cons, e]
      rw [b, c]
      exact ih
theorem KN.put {kvs : List (Spt × Addr × V)} {xs : List (Spt × Addr × Value)} (r : KN kvs xs) (k : Spt) {b : Addr} {y : V} {u : Value} (ry : RelV y u) : KN (putN kvs k b y) (storedH xs k b u) := by
  have e : (valN kvs k).isSome = (atKey xs k).isSome := by rw [(r.val k).isSome_eq, Option.isSome_map]
  unfold putN storedH
  rw [e]
  split
  · induction r with
    | nil => exact .nil
    | @cons p q ps qs h t ih =>
      rw [List.map_cons, List.map_cons]
      have all : ∀ {l m}, KN l m → KN (l.map fun x => if x.1 = k then (x.1, x.2.1, y) else x) (m.map (putAt k u)) := by
        intro l m r
        induction r with
        | nil => exact .nil
        | @cons p q ps qs h t ih =>
          rw [List.map_cons, List.map_cons]
          refine .cons ?_ ih
          obtain ⟨h1, h2, h3⟩ := h
          unfold putAt
          by_cases z : p.1 = k
          · rw [if_pos z, if_pos (h1.symm.trans z)]; exact ⟨h1, h2, ry⟩
          · rw [if_neg z, if_neg (fun y => z (h1.trans y))]; exact ⟨h1, h2, h3⟩
      exact all (.cons h t)
  · exact Paired.snoc r ⟨rfl, rfl, ry⟩
theorem KN.keys {kvs : List (Spt × Addr × V)} {xs : List (Spt × Addr × Value)} (r : KN kvs xs) : kvs.map (·.1) = xs.map (·.1) := by
  induction r with
  | nil => rfl
  | cons h t ih => rw [List.map_cons, List.map_cons, ih, h.1]
theorem kn_nth : ∀ {kvs : List (Spt × Addr × V)} {xs : List (Spt × Addr × Value)}, KN kvs xs → ∀ {i : Nat} {a : Spt × Addr × V} {b : Spt × Addr × Value}, kvs[i]? = some a → xs[i]? = some b → a.1 = b.1 ∧ a.2.1 = b.2.1 ∧ RelV a.2.2 b.2.2
  | _, _, .nil, _, _, _, h, _ => by simp at h
  | _, _, .cons r t, 0, _, _, h, h' => by simp at h h'; subst h; subst h'; exact r
  | _, _, .cons r t, i + 1, _, _, h, h' => kn_nth t (i := i) (by simpa using h) (by simpa using h')
theorem putN_keys (kvs : List (Spt × Addr × V)) (k : Spt) (b : Addr) (v : V) : ∀ x ∈ putN kvs k b v, (∃ y ∈ kvs, y.1 = x.1 ∧ y.2.1 = x.2.1) ∨ x = (k, b, v) := by
  intro x hx
  unfold putN at hx
  split at hx
  · obtain ⟨y, hy, rfl⟩ := List.mem_map.mp hx
    refine .inl ⟨y, hy, ?_⟩
    split <;> exact ⟨rfl, rfl⟩
  · rcases List.mem_append.mp hx with z | z
    · exact .inl ⟨x, z, rfl, rfl⟩
    · exact .inr (List.mem_singleton.mp z)
theorem putN_len (kvs : List (Spt × Addr × V)) (k : Spt) (b : Addr) (v : V) : (putN kvs k b v).length ≤ kvs.length + 1 := by
  unfold putN
  split <;> simp
theorem spt_ok {P : Program} {w : World} {H : Hp} {h : Heap} {k : Spt} {p : Addr} (ok : HOk P w H h) (e : KyA H k p) : IsSpt P w h k p := by
  obtain ⟨b, h1, h2⟩ := e
  obtain ⟨_, its, r, o, a1, a2, n, a3⟩ := (show ObjOk P w H h p (.tup [.int k.1, .ref b]) from ok p _ h1)
  obtain ⟨_, its2, r2, o2, b1, b2, n2, b3⟩ := (show ObjOk P w H h b (.tup (k.2.map V.int)) from ok b _ h2)
  cases r with
  | cons c r => cases r with
    | cons c2 r => cases r with
      | nil =>
        obtain ⟨t, rfl⟩ := c
        cases c2
        refine ⟨o, t, b, n, a1, a2, a3, o2, its2.toArray, n2, b1, b2, b3, ?_⟩
        have all : ∀ {ks : List Int} {us : List Value}, Vals (ks.map V.int) us → ItemsAre (intKind P w) ks us := by
          intro ks
          induction ks with
          | nil => intro us r; cases r; exact .nil
          | cons k ks ih =>
            intro us r
            cases r with
            | cons a b =>
              obtain ⟨t, rfl⟩ := a
              exact .cons (by exact beq_self_eq_true k) (ih b)
        simpa using all r2
section
variable {X : Cx} {pins : List (Addr × Obj)} {σ : St} {H : Hp} {s : Shared} {a b : Addr} {kvs : List (Spt × Addr × V)} {k : Spt} {v : V} {A : Around} {E : Value → Shared → Prop}
theorem dn_at (I : Inv X pins σ H s) (d : DN H a kvs) : ∃ xs ep, H a = some (DNo a xs ep) ∧ KN kvs xs ∧ Raw s.heap a (xs.map sptE).toArray ep ∧ s.heap.DictOfH (sptKind X.prog X.w) a xs := by
  obtain ⟨⟨xs, ep, h1, h2⟩, ky, nd, le⟩ := d
  obtain ⟨r, _⟩ := I.hok a _ h1
  obtain ⟨o, e1, e2, e3⟩ := r.obj
  refine ⟨xs, ep, h1, h2, r, o, _, ep, e1, e2, e3, by rw [sptE_eq], fun x hx => ?_, by rw [← h2.keys]; exact nd⟩
  have all : ∀ {l m}, KN l m → (∀ x ∈ l, KyA H x.1 x.2.1) → ∀ x ∈ m, IsSpt X.prog X.w s.heap x.1 x.2.1 := by
    intro l m r
    induction r with
    | nil => intro _ x hx; cases hx
    | @cons p q ps qs h t ih =>
      intro al x hx
      rcases List.mem_cons.mp hx with z | z
      · subst z
        rw [← h.1, ← h.2.1]
        exact spt_ok I.hok (al p (List.mem_cons_self ..))
      · exact ih (fun y hy => al y (List.mem_cons_of_mem _ hy)) x z
  exact all h2 ky x hx
theorem dn_get {Q : Value → Shared → Prop} (hu : A.units + 16 < cLine) (I : Inv X pins σ H s) (d : DN H a kvs) (ky : KyA H k b) (e : valN kvs k = some v) (q : ∀ w' s', Inv X pins σ H s' → RelV v w' → Q w' s') : wpAny (model X.prog X.w) A (getItem (.ref a) (.ref b)) Q E s := by
  obtain ⟨xs, ep, h1, h2, r, dd⟩ := dn_at I d
  obtain ⟨w', hw, rw'⟩ := RelO.some_of (v := v) (o := (atKey xs k).map (·.2)) (by rw [← e]; exact h2.val k)
  obtain ⟨p, hp, hp2⟩ := Option.map_eq_some_iff.mp hw
  refine wpAny_getItem_heap (knd := sptKind X.prog X.w) (by show A.units + 1 + 8 < cLine; omega) (spt_ok I.hok ky) dd hp ?_
  rw [hp2]
  exact q w' _ (I.tok _) rw'
theorem dn_get2 {d0 : V} {r0 : Value} {Q : Value → Shared → Prop} (hu : A.units + 16 < cLine) (I : Inv X pins σ H s) (d : DN H a kvs) (ky : KyA H k b) (rd : RelV d0 r0) (q : ∀ w' s', Inv X pins σ H s' → RelV ((valN kvs k).getD d0) w' → Q w' s') : wpAny (model X.prog X.w) A (call (.builtin "dict.get") [.ref a, .ref b, r0]) Q E s := by
  obtain ⟨xs, ep, h1, h2, r, dd⟩ := dn_at I d
  refine call_meetsIn PySem.F.slot_dict_get dd.typeIs PySem.F.entry_dict_get (PySem.F.args_dict_get_3 _ _ _) (meetsH_dict_get_default (sptKind X.prog X.w) a b r.big r0) ⟨by show A.units + 1 + 8 < cLine; omega, k, xs, spt_ok I.hok ky, dd, q _ _ (I.tok _) ?_⟩
  exact (h2.val k).getD rd
theorem dn_put {u : Value} {Q : Unit → Shared → Prop} (hu : A.units + 16 < cLine) (I : Inv X pins σ H s) (d : DN H a kvs) (ky : KyA H k b) (hl : kvs.length < sizeLine) (rv : RelV v u) (q : ∀ H' s', Inv X pins σ H' s' → DN H' a (putN kvs k b v) → (∀ c, c ≠ a → H' c = H c) → Q () s') : wpAny (model X.prog X.w) A (setItem (.ref a) (.ref b) u) Q E s := by
  obtain ⟨xs, ep, h1, h2, r, dd⟩ := dn_at I d
  have hz : xs.length ≤ sizeLine := by rw [← Paired.length h2]; exact d.le
  refine wpAny_setItem_heap (hsz := hz) (knd := sptKind X.prog X.w) (by show A.units + 1 + 8 < cLine; omega) (spt_ok I.hok ky) dd fun h' dd' hs => ?_
  obtain ⟨o, es, ep', e1, e2, e3, e4, e5, e6⟩ := dd'
  have nk : ∀ c ys, H c = some (.tup ys) → c ≠ a := fun c ys z y => by subst y; rw [h1] at z; cases z
  have es' : es = ((storedH xs k b u).map sptE).toArray := by
    rw [sptE_eq] at e4
    rw [← e4, Array.toArray_toList]
  have I' : Inv X pins σ (upd H a (DNo a (storedH xs k b u) ep')) { s with heap := h', toks := s.toks + (sptKind X.prog X.w).draws k } := by
    refine d_write I (by rw [h1]; exact True.intro) hs ⟨o, e1⟩ ⟨⟨r.big, o, e1, e2, by rw [e3, es']⟩, ⟨o, e1⟩, fun g1 g2 f kk => f.to kk⟩
  refine q _ _ I' ⟨⟨_, ep', upd_same, h2.put k rv⟩, fun x hx => ?_, ?_, ?_⟩ fun c hc => upd_ne hc
  · have ky' : KyA H x.1 x.2.1 := by
      rcases putN_keys kvs k b v x hx with ⟨y, hy, z1, z2⟩ | z
      · rw [← z1, ← z2]; exact d.key y hy
      · rw [z]; exact ky
    obtain ⟨c, c1, c2⟩ := ky'
    exact ⟨c, by rw [upd_ne (nk _ _ c1)]; exact c1, by rw [upd_ne (nk _ _ c2)]; exact c2⟩
  · rw [(h2.put k rv).keys]; exact e6
  · have := putN_len kvs k b v; omega
end
/-! ### readings and rules -/
def mDicN : TE := fun _ H Q => ∀ p H', Gro H p (DNo p [] 0) H' → Q (.ref p) H'
theorem DN.new {H H' : Hp} {p : Addr} (g : Gro H p (DNo p [] 0) H') : DN H' p [] := ⟨⟨[], 0, g.at_, .nil⟩, fun _ hx => (nomatch hx), List.nodup_nil, Nat.zero_le _⟩
def tDGetN (td ty : TE) : TE := fun σ H Q => td σ H fun x H1 => ty σ H1 fun y H2 => ∃ a b kvs k v, x = .ref a ∧ y = .ref b ∧ DN H2 a kvs ∧ KyA H2 k b ∧ valN kvs k = some v ∧ Q v H2
def tDGetN2 (td ty tx : TE) : TE := fun σ H Q => td σ H fun x H1 => ∃ a kv0, x = .ref a ∧ DN H1 a kv0 ∧ ty σ H1 fun y H2 => tx σ H2 fun z H3 => ∃ b kvs k, y = .ref b ∧ DN H3 a kvs ∧ KyA H3 k b ∧ Q ((valN kvs k).getD z) H3
def sDPutN (td ty tv : TE) : TS := fun D σ H => tv σ H fun v H1 => td σ H1 fun x H2 => ty σ H2 fun y H3 => ∃ a b kvs k, x = .ref a ∧ y = .ref b ∧ DN H3 a kvs ∧ KyA H3 k b ∧ kvs.length < sizeLine ∧ ∀ H4, DN H4 a (putN kvs k b v) → (∀ c, c ≠ a → H4 c = H3 c) → D.nx σ H4
/-- walked by its keys -/
def Itn (d : Addr) (o : HO) (kvs : List (Spt × Addr × V)) : It :=
  ⟨fun i H => H d = some o ∧ i < kvs.length, fun i H x H' => H' = H ∧ ∃ k b v, kvs[i]? = some (k, b, v) ∧ x = .ref b, fun i H => H d = some o ∧ kvs.length ≤ i⟩
def iDn (td : TE) : TI := fun σ H R => td σ H fun x H1 => ∃ d kvs, x = .ref d ∧ DN H1 d kvs ∧ ∀ o, H1 d = some o → R (Itn d o kvs) H1
def gListN : List V → Hp → VK → Prop := fun us H Q => ∃ a kvs, us = [.ref a] ∧ DN H a kvs ∧ ∀ p H', Gro H p (.lst (kvs.map fun x => V.ref x.2.1)) H' → Q (.ref p) H'
theorem turn_dn {P : Program} {w : World} {K : PySem.W.Frag} {tg : Expr} (d it : Addr) (xs : List (Spt × Addr × Value)) (ep : Nat) (kvs : List (Spt × Addr × V)) (kn : KN kvs xs) : Turn P w K tg (Itn d (DNo d xs ep) kvs) [it] it (fun i h => h.IsKeyIter it d i (xs.map sptE).toArray.size ep) where
  mem := by simp
  obj := fun i h st b hb => by
    have e : b = it := by simpa using hb
    subst e
    obtain ⟨o, e, c, d⟩ := st
    exact ⟨o, e, fun v z => by rw [d] at z; cases z⟩
  keep := fun i h h' st k => st.at fun o e => k it (by simp) o e
  item := by
    intro X hP hw hK hc i pins s σ H E I hf st hg
    subst hP hw hK
    obtain ⟨hq, hi⟩ := hg
    obtain ⟨r, _⟩ := I.hok d _ hq
    obtain ⟨f0, f1, f2, f3, f4, f5⟩ := hf it (by simp)
    have hl := Paired.length kn
    obtain ⟨⟨k, b, v⟩, hkv⟩ : ∃ y, kvs[i]? = some y := ⟨_, List.getElem?_eq_getElem hi⟩
    obtain ⟨⟨k', b', u⟩, hxs⟩ : ∃ y, xs[i]? = some y := ⟨_, List.getElem?_eq_getElem (by omega)⟩
    obtain ⟨z1, z2, z3⟩ := kn_nth kn hkv hxs
    have z2' : b = b' := z2
    subst z2'
    refine raw_item (e := sptE (k', b, u)) st r (by rw [List.getElem?_toArray, List.getElem?_map, hxs]; rfl) fun h' st' sb => ?_
    have I1 : Inv X pins σ H { s with heap := h' } := I.turned (t' := s.toks) (fun b o hb e => (sb.2 b hb).trans e) f0 f1 f3 f4 f5
    obtain ⟨o, e, c, dd⟩ := id st'
    exact ⟨.ref b, rfl, go_of (s := { s with heap := h' }) e c dd (by decide) ⟨.ref b, H, I1, rfl, ⟨rfl, k, b, v, hkv, rfl⟩, st', fun b hb => (hf b hb).1⟩⟩
  done := by
    intro X hP hw hK hc i pins s σ H E I hf st hg
    subst hP hw hK
    obtain ⟨hq, hi⟩ := hg
    obtain ⟨r, _⟩ := I.hok d _ hq
    obtain ⟨f0, f1, f2, f3, f4, f5⟩ := hf it (by simp)
    have hl := Paired.length kn
    exact raw_end (I.ok.hd hc) st r (by simp; omega) fun h' eb => ⟨rfl, I.turned (t' := s.toks) (fun b o hb e => eb b o hb e) f0 f1 f3 f4 f5⟩
  self := fun _ _ _ _ _ st h => wpAny_pyIter_keyiter st h
theorem raw_src {P : Program} {w : World} (d : Addr) (es : Array DictEntry) (ep : Nat) : PySem.W.KdlSrc P w "dict" d d es.size (fun i v => ∃ e, es[i]? = some e ∧ v = e.key) (fun h => Raw h d es ep) where
  type := fun _ r => r.ty
  there := fun _ r => ⟨r.lt, r.lt⟩
  keep := fun _ _ r k => r.to fun o e => k d (.inl rfl) o e
  notList := by decide
  notTuple := by decide
  hint := fun _ _ _ _ r q => PySem.W.kdl_hint_dict r.ty q
  iter := fun A s hh r => ⟨_, fun i h => h.IsKeyIter s.heap.objs.size d i es.size ep ∧ Raw h d es ep, (fun _ _ q => raw_iter r q), {
    sub := fun b hb => by simp at hb; simp [hb]
    frame := fun _ _ _ st hk => ⟨st.1.at fun o e => hk _ (by simp) o e, st.2.to fun o e => hk d (by simp) o e⟩
    item := fun i s1 Q E hi st hQ => by
      obtain ⟨e, he⟩ : ∃ e, es[i]? = some e := ⟨_, Array.getElem?_eq_getElem hi⟩
      refine raw_item st.1 st.2 he fun h' st' sb => hQ _ h' s1.toks ⟨e, he, rfl⟩ ⟨st', st.2.to fun o z => (sb.2 d (Nat.ne_of_lt r.lt)).trans z⟩ fun b o hb z => (sb.2 b (fun y => hb (by simp [y]))).trans z
    done := fun s1 Q E st hQ => raw_end hh st.1 st.2 (Nat.le_refl _) fun h' eb => hQ h' s1.toks fun b o hb z => eb b o (fun y => hb (by simp [y])) z
    self := fun _ _ _ _ st q => wpAny_pyIter_keyiter st.1 q }, ⟨⟨_, Heap.get?_push_size _ rfl, rfl, rfl⟩, r.to fun o e => Heap.get?_push_of_some _ e⟩⟩
section
variable {X : Cx} {K : PySem.W.Frag} {o i e f value tg l : Expr} {td ty tx tv tl : TE} {pos pos' apos cpos : Pos}
theorem q_me_dicN : QE X (.Dict [] [] pos) mDicN := ⟨fun pins s σ H Q I h => by
  refine wpAny_Dict_empty ⟨.ref s.heap.objs.size, _, I.laid (a := s.heap.objs.size) (o := DNo s.heap.objs.size [] 0) (t' := s.toks) (fun _ _ q => Heap.get?_push_of_some _ q) (Nat.le_refl _) ?_, rfl, h _ _ (.mk' (I.hok.fresh (Nat.le_refl _)))⟩
  refine ⟨⟨beq_eq_false_iff_ne.mpr (Ne.symm (Nat.ne_of_lt I.big)), _, Heap.get?_push_size _ rfl, ⟨rfl, rfl, rfl⟩, rfl⟩, ⟨_, Heap.get?_push_size _ rfl⟩, fun g1 g2 f kk => f.to kk⟩⟩
theorem q_dgetN (hu : X.A.units + 64 < cLine) (ho : QE X o td) (hi : QE X i ty) (hs : NoSl i := by intro _ _; rfl) : QE X (.Subscript o i pos) (tDGetN td ty) := ⟨fun pins s σ H Q I h => by
  refine subD_of PySem.F.slot_dict_getitem.lookup hs (thn (ho.h pins s σ H _ I h) fun u s1 ⟨x, H1, I1, rx, q1⟩ => thn (hi.h pins s1 σ H1 _ I1 q1) fun iv s2 ⟨y, H2, I2, ry, a, b, kvs, k, v, ex, ey, d, ky, ev, q2⟩ => ?_)
  subst ex ey
  obtain rfl : u = Value.ref a := rx
  obtain rfl : iv = Value.ref b := ry
  obtain ⟨xs, ep, _, _, r, _⟩ := dn_at I2 d
  exact ⟨r.ty, dn_get (by omega) I2 d ky ev fun w' s3 I3 rw' => ⟨v, H2, I3, rw', q2⟩⟩⟩
theorem q_dget2N (hu : X.A.units + 64 < cLine) (ho : QE X o td) (he : QE X e ty) (hf : QE X f tx) (hb : attributeBase o "get" X.env (eval o X.env) = eval o X.env := by rfl)
    (hw : ((backTo cpos (starEach [e, f] X.env)).all (fun x => !x.1) && (backToKw cpos (keywordEach [] X.env)).all (fun x => x.1.isSome)
      && decide (([e, f] : List Expr).length + ([] : List Keyword).length + (if ([] : List Keyword).isEmpty then 0 else 1) < 30)) = true := by rfl)
    (hl : (apos.endLine == cpos.line) = true := by rfl) (ht : backTo cpos (starEach [e, f] X.env) = [(false, eval e X.env), (false, eval f X.env)] := by rfl) :
    QE X (.Call (.Attribute o "get" apos) [e, f] [] cpos) (tDGetN2 td ty tx) := ⟨fun pins s σ H Q I h => by
  refine wpAny_Call_method hb hw hl PySem.F.plainAttrs_dict PySem.F.slot_dict_get PySem.F.type_dict_get (thn (ho.h pins s σ H _ I h) fun u s1 ⟨x, H1, I1, rx, a, kv0, ex, d, q1⟩ => ?_)
  subst ex
  obtain rfl : u = Value.ref a := rx
  obtain ⟨xs, ep, _, _, r, _⟩ := dn_at I1 d
  refine ⟨r.ty, fun b z => ?_, ?_⟩
  · cases z
    obtain ⟨ob, e1, e2, _⟩ := r.obj
    exact ⟨ob, e1, e2.2.1⟩
  rw [ht]
  refine Calls.callWith_builtin rfl (Calls.evalArgs_plain (Calls.spliced_cons (thn (he.h pins s1 σ H1 _ I1 q1) fun iv s2 ⟨y, H2, I2, ry, q2⟩ =>
    Calls.spliced_cons (thn (hf.h pins s2 σ H2 _ I2 q2) fun fv s3 ⟨z, H3, I3, rz, b, kvs, k, ey, d3, ky, q3⟩ => Calls.spliced_nil ?_))))
  subst ey
  obtain rfl : iv = Value.ref b := ry
  exact dn_get2 (by omega) I3 d3 ky rz fun w' s4 I4 rw' => ⟨_, H3, I4, rw', q3⟩⟩
theorem q_dputN (hu : X.A.units + 64 < cLine) (ho : QE X o td) (hi : QE X i ty) (hv : QE X value tv) (hs : swapsWith value (some (.Subscript o i pos')) pos.line X.env = pure false := by rfl) : QS X (.Assign [.Subscript o i pos'] value pos) (sDPutN td ty tv) := ⟨fun pins s σ H D I h => by
  refine wpAny_Assign_Subscript (thn (hv.h pins s σ H _ I h) fun r s1 ⟨v, H1, I1, rv, q1⟩ => thn (ho.h pins s1 σ H1 _ I1 q1) fun u s2 ⟨x, H2, I2, rx, q2⟩ => thn (hi.h pins s2 σ H2 _ I2 q2) fun iv s3 ⟨y, H3, I3, ry, a, b, kvs, k, ex, ey, d, ky, lt, q3⟩ => ?_) hs
  subst ex ey
  obtain rfl : u = Value.ref a := rx
  obtain rfl : iv = Value.ref b := ry
  exact dn_put (by omega) I3 d ky lt rv fun H4 s4 I4 d4 k4 => ⟨σ, H4, I4, q3 H4 d4 k4⟩⟩
theorem q_pi_dn (hl : QE X l tl) : QI X tg l (iDn tl) := ⟨fun pins s σ H R I h => by
  refine thn (hl.h pins s σ H _ I h) fun v s1 ⟨x, H1, I1, r1, d, kvs, ex, dn, q⟩ => ?_
  subst ex
  obtain rfl : v = Value.ref d := r1
  obtain ⟨xs, ep, h1, h2, r, _⟩ := dn_at I1 dn
  refine raw_iter r ?_
  refine ⟨s1.heap.objs.size, [s1.heap.objs.size], _, Itn d (DNo d xs ep) kvs, H1, rfl, I1.kept (t' := s1.toks) fun b o e => Heap.get?_push_of_some _ e, turn_dn d _ xs ep kvs h2, ⟨_, Heap.get?_push_size _ rfl, rfl, rfl⟩, fun b hb => ?_, q _ h1⟩
  have e : b = s1.heap.objs.size := by simpa using hb
  subst e
  exact I1.fpOk (Nat.le_refl _) (I1.hok.fresh (Nat.le_refl _))⟩
theorem for_dn {d : Addr} {o : HO} {kvs : List (Spt × Addr × V)} {g : TG} {tb : TS} {D : Ends} {σ : St} {H : Hp} (Pv : Nat → St → Hp → Prop) (h0 : Pv 0 σ H) (hl : ∀ i σ H, i ≤ kvs.length → Pv i σ H → H d = some o)
    (hs : ∀ i k b v σ H, kvs[i]? = some (k, b, v) → Pv i σ H → g (.ref b) σ H fun σ2 H2 => tb { D with nx := Pv (i + 1), ct := Pv (i + 1), bk := D.nx } σ2 H2) (hd : ∀ σ H, Pv kvs.length σ H → D.nx σ H) :
    ∃ W : Nat → Nat → St → Hp → Prop, (∃ m, W 0 m σ H) ∧ ∀ i m σ H, W i m σ H →
      ((Itn d o kvs).stop i H ∧ D.nx σ H) ∨ ((Itn d o kvs).go i H ∧ ∃ N : St → Hp → Prop, (∀ σ' H', N σ' H' → ∃ m', m' < m ∧ W (i + 1) m' σ' H') ∧ ∀ x H', (Itn d o kvs).yld i H x H' → g x σ H' fun σ2 H2 => tb { D with nx := N, ct := N, bk := D.nx } σ2 H2) := by
  refine ⟨fun i m σ H => m = kvs.length - i ∧ i ≤ kvs.length ∧ Pv i σ H, ⟨kvs.length, by simp, Nat.zero_le _, h0⟩, ?_⟩
  rintro i m σ H ⟨rfl, hi, p⟩
  have q := hl i σ H hi p
  by_cases hlt : i < kvs.length
  · refine .inr ⟨⟨q, hlt⟩, Pv (i + 1), fun σ' H' p' => ⟨kvs.length - (i + 1), by omega, rfl, hlt, p'⟩, fun x H' y => ?_⟩
    obtain ⟨rfl, k, b, v, y, rfl⟩ := y
    exact hs i k b v σ H' y p
  · have e : i = kvs.length := by omega
    subst e
    exact .inl ⟨⟨q, Nat.le_refl _⟩, hd σ H p⟩
theorem c_listN (hc : X.calm = true) : CallR X (.type "list") gListN := by
  intro pins s σ H us vs Q I r q
  obtain ⟨a, kvs, rfl, d, q⟩ := q
  cases r with
  | cons r1 r2 => cases r2 with
    | nil =>
      cases r1
      obtain ⟨xs, ep, h1, h2, rw', _⟩ := dn_at I d
      have hl := Paired.length h2
      have sz : (xs.map sptE).toArray.size = kvs.length := by simp [hl]
      refine PySem.W.kdl_call (raw_src a _ ep) (I.ok.hd hc) rw' (by rw [sz]; exact d.le) fun h' tk acc c hk hD ha => ?_
      have hn := I.hok.fresh (Nat.le_refl s.heap.objs.size)
      refine ⟨.ref s.heap.objs.size, upd H s.heap.objs.size (.lst (kvs.map fun x => V.ref x.2.1)), I.laid (a := s.heap.objs.size) (o := .lst (kvs.map fun x => V.ref x.2.1)) (t' := tk) hk (Nat.le_refl _) ⟨by rw [List.length_map]; exact d.le, acc.toList, c, ?_, by rw [Array.toArray_toList]; exact hD⟩, rfl, q _ _ (.mk' hn)⟩
      obtain ⟨ha1, ha2⟩ := ha
      have go : ∀ (ys : List (Spt × Addr × V)) (zs : List (Spt × Addr × Value)) (us : List Value) (_ : KN ys zs) (_ : us.length = zs.length) (_ : ∀ (j : Nat) (v : Value), us[j]? = some v → ∃ z : Spt × Addr × Value, zs[j]? = some z ∧ v = Value.ref z.2.1), Vals (ys.map fun x => V.ref x.2.1) us := by
        intro ys zs us kn
        induction kn generalizing us with
        | nil =>
          intro l _
          obtain rfl := List.eq_nil_of_length_eq_zero l
          exact .nil
        | @cons p q ps qs h t ih =>
          intro l al
          cases us with
          | nil => simp at l
          | cons u us =>
            obtain ⟨z, e1, e2⟩ := al 0 u rfl
            simp at e1
            subst e1
            refine .cons ?_ (ih us (by simpa using l) fun j v hj => ?_)
            · rw [e2]
              show Value.ref q.2.1 = Value.ref p.2.1
              rw [h.2.1]
            · obtain ⟨z, e1, e2⟩ := al (j + 1) v (by simpa using hj)
              exact ⟨z, by simpa using e1, e2⟩
      refine go kvs xs acc.toList h2 (by rw [Array.length_toList, ha1, sz, hl]) fun j v hj => ?_
      obtain ⟨e, e1, e2⟩ := ha2 j v (by rw [← Array.getElem?_toList]; exact hj)
      rw [List.getElem?_toArray, List.getElem?_map] at e1
      obtain ⟨z, z1, z2⟩ := Option.map_eq_some_iff.mp e1
      exact ⟨z, z1, by rw [e2, ← z2]; rfl⟩
end
/-! ### t + u of tuples, n -= e, a walk over reversed(list) -/
section
variable {prog : Program} {w : World} {A : Around} {E : Value → Shared → Prop} {s : Shared}
theorem cat_nil {t b : Addr} {ws : Array Value} {Q : Value → Shared → Prop} (ht : IsTup s.heap t #[]) (hb : IsTup s.heap b ws) (q : Q (.ref b) s) : wpAny (model prog w) A (binaryOp .Add (.ref t) (.ref b)) Q E s := by
  obtain ⟨⟨c1, d1, e1, l1⟩, o1, z1, n1, y1⟩ := ht
  obtain ⟨⟨c2, d2, e2, l2⟩, o2, z2, n2, y2⟩ := hb
  simp only at z1 y1 z2 y2
  subst z1 y1 z2 y2
  exact concat_meets ⟨_, o1, rfl⟩ ⟨_, o2, rfl⟩ noFill_tuple_add seq_tuple_add PySem.F.slot_tuple_add PySem.F.entry_tuple_add (PySem.F.args_tuple_add_2 _ _) (tuple_addW0 t b #[] ws n1 n2 d1 d2 l1 l2 rfl) ⟨o1, o2, q⟩
end
def gCatT (K : PySem.W.Frag) : R2 := fun x y H Q => ∃ a b xs ys, x = .ref a ∧ y = .ref b ∧ H a = some (.tup xs) ∧ H b = some (.tup ys) ∧ xs.length + ys.length ≤ sizeLine ∧ ∀ p H', Same H H' → H' p = some (.tup (xs ++ ys)) → Q (.ref p) H'
def Itv (K : PySem.W.Frag) (a : Addr) (n : Nat) : It :=
  ⟨fun i H => ∃ xs, SqL K H a xs ∧ xs.length = n ∧ i < n, fun i H x H' => H' = H ∧ ∀ xs, SqL K H a xs → xs.length = n → xs.reverse[i]? = some x, fun i H => ∃ xs, SqL K H a xs ∧ xs.length = n ∧ n ≤ i⟩
def iRev (K : PySem.W.Frag) (ta : TA) : TI := fun σ H R => ta σ H fun vs H1 => ∃ a xs, vs = [.ref a] ∧ SqL K H1 a xs ∧ R (Itv K a xs.length) H1
theorem turn_rev {P : Program} {w : World} {K : PySem.W.Frag} {tg : Expr} (a it : Addr) (n : Nat) (ne : a ≠ it) : Turn P w K tg (Itv K a n) [it] it (fun i h => i ≤ n ∧ h.IsRevIter it a ((n : Int) - 1 - (i : Int))) where
  mem := by simp
  obj := fun i h st b hb => by
    have e : b = it := by simpa using hb
    subst e
    obtain ⟨_, o, e, c, d⟩ := st
    exact ⟨o, e, fun v z => by rw [d] at z; cases z⟩
  keep := fun i h h' st k => ⟨st.1, st.2.at fun o e => k it (by simp) o e⟩
  item := by
    intro X hP hw hK hc i pins s σ H E I hf st hg
    subst hP hw hK
    obtain ⟨xs, hq, rfl, hi⟩ := hg
    obtain ⟨its, rv, p, hz⟩ := I.list hq
    obtain ⟨f0, f1, f2, f3, f4, f5⟩ := hf it (by simp)
    have hl := rv.length
    have W := Walks.listRev (prog := X.prog) (w := X.w) (I.ok.hd hc) it a ne its.toArray
    have sz : its.toArray.size = xs.length := by rw [List.size_toArray]; exact hl.symm
    refine W.item i s _ _ (by rw [sz]; exact hi) ⟨by rw [sz]; exact st.1, by rw [sz]; exact st.2, p.isList⟩ fun v h' tk hv st' kk => ?_
    have I1 : Inv X pins σ H { s with heap := h', toks := tk } := I.turned (fun b o hb e => kk b o (by simpa using hb) e) f0 f1 f3 f4 f5
    obtain ⟨st1, st2, _⟩ := st'
    rw [sz] at st1 st2 hv
    obtain ⟨o, e, c, d⟩ := id st2
    have hx : xs[xs.length - 1 - i]? = some (xs[xs.length - 1 - i]'(by omega)) := List.getElem?_eq_getElem _
    obtain ⟨u, hu, ru⟩ := rv.get hx
    have ev : v = u := by
      rw [List.getElem?_toArray, hu] at hv
      exact (Option.some.inj hv).symm
    subst ev
    refine ⟨v, rfl, go_of (s := { s with heap := h', toks := tk }) e c d (by decide) ⟨_, H, I1, ru, ⟨rfl, fun ys hy ly => ?_⟩, ⟨st1, st2⟩, fun b hb => (hf b hb).1⟩⟩
    rw [I.list_inj hy hq, List.getElem?_reverse hi]
    exact hx
  done := by
    intro X hP hw hK hc i pins s σ H E I hf st hg
    subst hP hw hK
    obtain ⟨xs, hq, rfl, hi⟩ := hg
    obtain ⟨its, rv, p, hz⟩ := I.list hq
    obtain ⟨f0, f1, f2, f3, f4, f5⟩ := hf it (by simp)
    have hl := rv.length
    have W := Walks.listRev (prog := X.prog) (w := X.w) (I.ok.hd hc) it a ne its.toArray
    have sz : its.toArray.size = xs.length := by rw [List.size_toArray]; exact hl.symm
    obtain ⟨st1, st2⟩ := st
    have ei : i = xs.length := by omega
    rw [ei] at st2
    exact W.done s _ _ ⟨Nat.le_refl _, by rw [sz]; exact st2, p.isList⟩ fun h' tk kk => ⟨rfl, I.turned (fun b o hb e => kk b o (by simpa using hb) e) f0 f1 f3 f4 f5⟩
  self := fun _ _ _ _ _ st h => wpAny_pyIter_revIter st.2 h
section
variable {X : Cx} {K : PySem.W.Frag} {a e tg : Expr} {ta : TA} {te : TE} {p pos pos' : Pos}
theorem g_catTK (h : X.K = K) : OpR X (binaryOp .Add) (gCatT K) := by
  subst h
  intro pins s σ H x y v u Q I rx ry q
  obtain ⟨a, b, xs, ys, rfl, rfl, ha, hb, hz, q⟩ := q
  by_cases hx : xs = []
  · subst hx
    cases rx
    cases ry
    obtain ⟨its, r1, p1, _⟩ := I.tuple (.of ha)
    obtain ⟨its2, r2, p2, _⟩ := I.tuple (.of hb)
    cases r1
    exact cat_nil p1 p2 ⟨.ref b, H, I, rfl, q b H (Same.refl _) hb⟩
  · refine op_catT pins s σ H _ _ v u Q I rx ry ⟨a, b, xs, ys, rfl, rfl, .of ha, .of hb, hx, hz, fun z => ?_, fun _ l hl => q l _ (Same.new hl) upd_same⟩
    subst z
    exact q a H (Same.refl _) (by rw [List.append_nil]; exact ha)
theorem q_ps_augS {i : Nat} {x : Str} (hN : X.N.Nodup) (hi : X.N[i]? = some x) (hx : Loc X.env.scope x) (he : QE X e te) (hf : X.fn x = true ∨ X.env.scope.names.lookup x = some .local := by first | exact .inl rfl | exact .inr rfl | assumption) : QS X (.AugAssign (.Name x pos') .Sub e pos) (tAug i te (rI0 fun i j => .int (i - j))) := ⟨ps_aug hN hi hx he.h (fun pins s σ H x y v u Q I rx ry q => iop_sub pins s σ H x y v u Q I rx ry q) hf⟩
theorem q_pi_revK (h : X.K = K) (hg : Gl X "reversed") (hm : X.mg "reversed" = none) (ha : QA X [a] ta) (hs : isStar a = false := by rfl) : QI X tg (.Call (.Name "reversed" p) [a] [] pos) (iRev K ta) := ⟨by
  subst h
  intro pins s σ H R I h
  have hs' : starEach [a] X.env = [(false, eval a X.env)] := star_cons hs
  refine Call_ (ld_blt I hg hm boot_reversed (PyProof.Rows.callWith_type1 (thn (ha.h pos pins s σ H _ I h) fun us s1 ⟨vs, H1, I1, r1, q1⟩ => ?_) hs' rfl))
  obtain ⟨l, xs, rfl, hq, q⟩ := q1
  cases r1 with
  | cons r rr =>
    cases rr
    cases r
    obtain ⟨its, rv, pl, hz⟩ := I1.list hq
    have hl := rv.length
    have sz : its.toArray.size = xs.length := by rw [List.size_toArray]; exact hl.symm
    have ll : l < s1.heap.objs.size := by obtain ⟨o, _, e, _⟩ := pl; exact Heap.lt_size e
    refine call_reversed_list pl.isList ?_
    have I2 : Inv X pins σ H1 { s1 with heap := s1.heap.push (revObj l ((its.toArray.size : Int) - 1)) } := I1.kept (t' := s1.toks) fun b o e => Heap.get?_push_of_some _ e
    refine wpAny_pyIter_revIter ⟨_, Heap.get?_push_size _ rfl, rfl, rfl⟩ ⟨s1.heap.objs.size, [s1.heap.objs.size], _, _, H1, rfl, I2, turn_rev l _ xs.length (Nat.ne_of_lt ll), ⟨Nat.zero_le _, ?_⟩, fun b hb => ?_, q⟩
    · refine ⟨_, Heap.get?_push_size _ rfl, rfl, ?_⟩
      rw [sz]
      simp [revObj]
    · have e : b = s1.heap.objs.size := by simpa using hb
      subst e
      exact I1.fpOk (Nat.le_refl _) (I1.hok.fresh (Nat.le_refl _))⟩
theorem for_rev {a : Addr} {xs : List V} {g : TG} {tb : TS} {D : Ends} {σ : St} {H : Hp} (Pv : Nat → St → Hp → Prop) (h0 : Pv 0 σ H) (hl : ∀ i σ H, i ≤ xs.length → Pv i σ H → SqL K H a xs)
    (hs : ∀ i x σ H, xs.reverse[i]? = some x → Pv i σ H → g x σ H fun σ2 H2 => tb { D with nx := Pv (i + 1), ct := Pv (i + 1), bk := D.nx } σ2 H2) (hd : ∀ σ H, Pv xs.length σ H → D.nx σ H) :
    ∃ W : Nat → Nat → St → Hp → Prop, (∃ m, W 0 m σ H) ∧ ∀ i m σ H, W i m σ H →
      ((Itv K a xs.length).stop i H ∧ D.nx σ H) ∨ ((Itv K a xs.length).go i H ∧ ∃ N : St → Hp → Prop, (∀ σ' H', N σ' H' → ∃ m', m' < m ∧ W (i + 1) m' σ' H') ∧ ∀ x H', (Itv K a xs.length).yld i H x H' → g x σ H' fun σ2 H2 => tb { D with nx := N, ct := N, bk := D.nx } σ2 H2) := by
  refine ⟨fun i m σ H => m = xs.length - i ∧ i ≤ xs.length ∧ Pv i σ H, ⟨xs.length, by simp, Nat.zero_le _, h0⟩, ?_⟩
  rintro i m σ H ⟨rfl, hi, p⟩
  have q := hl i σ H hi p
  by_cases hlt : i < xs.length
  · refine .inr ⟨⟨xs, q, rfl, hlt⟩, Pv (i + 1), fun σ' H' p' => ⟨xs.length - (i + 1), by omega, rfl, hlt, p'⟩, fun x H' y => ?_⟩
    obtain ⟨rfl, y⟩ := y
    exact hs i x σ H' (y xs q rfl) p
  · have e : i = xs.length := by omega
    subst e
    exact .inl ⟨⟨xs, q, rfl, Nat.le_refl _⟩, hd σ H p⟩
end
end L2

/-! OWN EXTENSION W: a dict of the module with texts as keys; defs of the module with defaults; a try that is never left by an error; tuples of texts. -/
namespace L2
open PySem PySem.Spec PyProof.Rows
def strOf? : Value → Option Str
  | .str x _ => some x
  | _ => none
def refOf? : Value → Option Addr
  | .ref a => some a
  | _ => none
theorem strOf?.eq {v : Value} {x : Str} (h : strOf? v = some x) : ∃ t, v = .str x t := by
  cases v <;> first | (cases h; exact ⟨_, rfl⟩) | cases h
theorem refOf?.eq {v : Value} {a : Addr} (h : refOf? v = some a) : v = .ref a := by
  cases v <;> first | (cases h; rfl) | cases h
def dictOfS : List DictEntry → Option (List (Int × Str × Addr))
  | [] => some []
  | e :: r => (strOf? e.key).bind fun x => (refOf? e.val).bind fun a => (dictOfS r).map fun l => (e.hash, x, a) :: l
theorem dictOfS.pairs {P : Program} {w : World} : ∀ {es : List DictEntry} {m : List (Int × Str × Addr)}, dictOfS es = some m → (∀ p ∈ m, p.1 = hashStr w p.2.1) →
    (∀ e ∈ es, ∃ k, (mixKind P w).is k e.key = true ∧ e.hash = (mixKind P w).hash k) ∧ Pairs (mixKind P w) es (m.map fun p => ((Sum.inr p.2.1 : Key), Value.ref p.2.2))
  | [], m, h, _ => by cases h; exact ⟨fun _ z => (nomatch z), .nil⟩
  | e :: r, m, h, hs => by
    unfold dictOfS at h
    obtain ⟨x, hx, h⟩ := Option.bind_eq_some_iff.mp h
    obtain ⟨a, ha, h⟩ := Option.bind_eq_some_iff.mp h
    obtain ⟨l, hl, h⟩ := Option.map_eq_some_iff.mp h
    subst h
    obtain ⟨tk, ek⟩ := strOf?.eq hx
    obtain ⟨i1, i2⟩ := dictOfS.pairs (P := P) (w := w) hl fun p hp => hs p (List.mem_cons_of_mem _ hp)
    have kk : (mixKind P w).is (.inr x) e.key = true := by rw [ek]; exact mixKind_str P w x tk
    refine ⟨fun e' he => ?_, .cons kk (refOf?.eq ha) i2⟩
    rcases List.mem_cons.mp he with rfl | he
    · exact ⟨.inr x, kk, hs _ List.mem_cons_self⟩
    · exact i1 e' he
structure DctS (K : PySem.W.Frag) (w : World) (a : Addr) (m : List (Int × Str × Addr)) : Prop where
  ex : ∃ es ep, K.lookup a = some ⟨.type "dict", none, .dict es ep, #[]⟩ ∧ dictOfS es.toList = some m
  hs : ∀ p ∈ m, p.1 = hashStr w p.2.1
  nd : (m.map (·.2.1)).Nodup
  ns : (a == sysModules) = false
theorem DctS.rd {K : PySem.W.Frag} {a : Addr} {m : List (Int × Str × Addr)} {P : Program} {w : World} {h : Heap} (D : DctS K w a m) (X : K.In h) : h.DictOf (mixKind P w) a (m.map fun p => ((Sum.inr p.2.1 : Key), Value.ref p.2.2)) := by
  obtain ⟨es, ep, l, e⟩ := D.ex
  obtain ⟨i1, i2⟩ := dictOfS.pairs (P := P) (w := w) e D.hs
  refine ⟨_, es, ep, X _ _ l, ⟨rfl, rfl, rfl⟩, rfl, fun e he => i1 e (Array.mem_toList_iff.mpr he), i2, ?_⟩
  rw [List.map_map]
  have : (((fun x => x.1) ∘ fun p : Int × Str × Addr => ((Sum.inr p.2.1 : Key), Value.ref p.2.2)) : Int × Str × Addr → Key) = (fun i : Str => (Sum.inr i : Key)) ∘ (·.2.1) := rfl
  rw [this, ← List.map_map]
  exact List.Pairwise.map _ (fun a b (z : a ≠ b) (q : (Sum.inr a : Key) = Sum.inr b) => z (Sum.inr.inj q)) D.nd
def gotS (m : List (Int × Str × Addr)) (z : Str) : Option Addr := (m.find? fun p => decide (p.2.1 = z)).map (·.2.2)
theorem gotS_val : ∀ (m : List (Int × Str × Addr)) (z : Str), valueAt (m.map fun p => ((Sum.inr p.2.1 : Key), Value.ref p.2.2)) (Sum.inr z) = (gotS m z).map Value.ref
  | [], z => rfl
  | p :: m, z => by
    have ih := gotS_val m z
    unfold gotS valueAt at ih ⊢
    rw [List.map_cons, List.find?_cons, List.find?_cons]
    by_cases c : p.2.1 = z
    · have c' : (Sum.inr p.2.1 : Key) = Sum.inr z := congrArg _ c
      simp only [decide_eq_true c, decide_eq_true c', Option.map_some]
    · have c' : ¬ (Sum.inr p.2.1 : Key) = Sum.inr z := fun q => c (Sum.inr.inj q)
      simp only [decide_eq_false c, decide_eq_false c']
      exact ih
def gInS (a : Addr) (m : List (Int × Str × Addr)) (neg : Bool) : R2 := fun x y H Q => ∃ z, x = .str z ∧ y = .ref a ∧ Q (.bl (if neg then !(gotS m z).isSome else (gotS m z).isSome)) H
section
variable {X : Cx} {K : PySem.W.Frag} {w : World} {a : Addr} {m : List (Int × Str × Addr)}
theorem g_notinS (h : X.K = K) (hw : X.w = w) (D : DctS K w a m) : OpR X (compareOp .NotIn) (gInS a m true) := by
  subst h hw
  intro pins s σ H x y v u Q I rx ry q
  obtain ⟨z, rfl, rfl, q⟩ := q
  obtain rfl : u = Value.ref a := ry
  refine wpAny_notIn_of (kV_is (k := .inr z) rx) D.ns (D.rd (P := X.prog) (w := X.w) I.kIn).mapOf ?_
  rw [gotS_val, Option.isSome_map]
  exact ⟨.bl _, H, I.tok _, rfl, q⟩
theorem q_dixS {i : Expr} {ti : TE} {x : Str} {p pos : Pos} (h : X.K = K) (hw : X.w = w) (D : DctS K w a m) (hg : Gl X x) (hm : X.mg x = some (.ref a)) (hi : QE X i ti) (hs : NoSl i := by intro _ _; rfl) (hd : (x == ("__debug__" : Str)) = false := by decide) :
    QE X (.Subscript (.Name x p) i pos) (fun σ H Q => ti σ H fun y H1 => ∃ z b, y = .str z ∧ gotS m z = some b ∧ Q (.ref b) H1) := ⟨by
  subst h hw
  intro pins s σ H Q I h
  have ho : PE X (.Name x p) (tC (.ref a)) := (q_pe_glob (v := .ref a) hg hm rfl hd).h
  refine subD_of PySem.F.slot_dict_getitem.lookup hs (thn (ho pins s σ H (fun v H' => v = .ref a ∧ ti σ H' fun y H1 => ∃ z b, y = .str z ∧ gotS m z = some b ∧ Q (.ref b) H1) I ⟨rfl, h⟩) fun u s1 ⟨x, H1, I1, rx, ex, q1⟩ => thn (hi.h pins s1 σ H1 _ I1 q1) fun iv s2 ⟨y, H2, I2, ry, z, b, ey, g, q2⟩ => ?_)
  subst ex ey
  obtain rfl : u = Value.ref a := rx
  have dd := D.rd (P := X.prog) (w := X.w) I2.kIn
  exact ⟨dd.typeIs, wpAny_getItem_of (kV_is (k := .inr z) ry) dd.mapOf (by rw [gotS_val, g]; rfl) ⟨.ref b, H2, I2.tok _, rfl, q2⟩⟩⟩
end
/-! ### defs of the module with defaults -/
structure HasD (P : Program) (w : World) (K : PySem.W.Frag) (mg : Str → Option Value) (base : Heap) (x : Str) (k : Nat) (f : Addr) (fd : FuncData) (ps : List Str) (dvs : List V) (sp : Sp) : Prop where
  g : mg x = some (.ref f)
  kp : PySem.W.keepIn K (.ref f) = true
  b : ∃ ds, Binds K fd ps ds ∧ Vals dvs ds
  ok : FnOk P w K mg base CX0 k f fd ps sp
section
variable {X : Cx} {k j : Nat} {f : Addr} {fd : FuncData} {ps : List Str} {sp : Sp} {x : Str} {p pos : Pos} {e : Expr} {es : List Expr} {t : TA} {dvs : List V}
end
/-! ### tuples of texts, of tuples -/
def strsAre : List Str → List Value → Bool
  | [], [] => true
  | n :: r, .str m _ :: u => decide (n = m) && strsAre r u
  | _, _ => false
theorem strsAre.vals : ∀ {ns : List Str} {us : List Value}, strsAre ns us = true → Vals (ns.map V.str) us
  | [], [], _ => .nil
  | n :: r, .str m _ :: u, h => by
    have h' : (decide (n = m) && strsAre r u) = true := h
    rw [Bool.and_eq_true, decide_eq_true_eq] at h'
    obtain ⟨rfl, h2⟩ := h'
    exact .cons ⟨_, rfl⟩ (strsAre.vals h2)
def refsOf : List Value → Option (List Addr)
  | [] => some []
  | .ref m :: u => (match refsOf u with | some l => some (m :: l) | none => none)
  | _ => none
theorem refsOf.vals : ∀ {us : List Value} {ns : List Addr}, refsOf us = some ns → Vals (ns.map V.ref) us
  | [], ns, h => by cases h; exact .nil
  | .ref m :: u, ns, h => by
    unfold refsOf at h
    cases q : refsOf u with
    | none => rw [q] at h; cases h
    | some l => rw [q] at h; cases h; exact .cons rfl (refsOf.vals q)
theorem tupR {K : PySem.W.Frag} {a : Addr} {od : Option Addr} {its : Array Value} {n : Nat} {sl : Array (Option Value)} {ns : List Addr} (h : K.lookup a = some ⟨.type "tuple", od, .seq its n, sl⟩) (hv : refsOf its.toList = some ns) (hz : its.size ≤ 1000 := by decide) (H : Hp) : SqT K H a (ns.map V.ref) :=
  .inr ⟨_, its, n, h, rfl, rfl, sz (Nat.ble_eq_true_of_le hz), refsOf.vals hv⟩
end L2
namespace L2
open PySem
/-! ### a comprehension over range(0, n, c) -/
theorem comp_range3 {lo c : Int} {n : Nat} {cs : St} {tt : TT} {te : TE} {H : Hp} {Q : VK} (Pv : Nat → List V → Hp → Prop) (h0 : Pv 0 [] H) (hl : ∀ i ys H, i ≤ n → Pv i ys H → ys.length ≤ i) (hz : n ≤ sizeLine)
    (hs : ∀ i ys H (N : List V → Hp → Prop), i < n → Pv i ys H → (∀ ys' H', Pv (i + 1) ys' H' → N ys' H') → tt (some (.int (lo + i * c)) :: cs) H fun b H4 => if b = true then te (some (.int (lo + i * c)) :: cs) H4 fun y H5 => N (ys ++ [y]) H5 else N ys H4)
    (hd : ∀ ys H p H', Pv n ys H → Gro H p (.lst ys) H' → Q (.ref p) H') :
    CompW (Itr3 lo c n) H (List.replicate 1 none ++ cs) (gName 0) tt te Q := by
  refine ⟨fun i m ys σ H => m = n - i ∧ i ≤ n ∧ Pv i ys H ∧ ∃ v0, σ = v0 :: cs, ⟨n, by simp, Nat.zero_le _, h0, none, rfl⟩, ?_⟩
  rintro i m ys σ H2 ⟨rfl, hi, p, v0, rfl⟩
  have ql := hl i ys H2 hi p
  by_cases hlt : i < n
  · refine .inr ⟨hlt, by omega, fun ys' σ' H' => Pv (i + 1) ys' H' ∧ ∃ v0, σ' = v0 :: cs, fun ys' σ' H' ⟨p', e⟩ => ⟨n - (i + 1), by omega, rfl, hlt, p', e⟩, fun x H' y => ?_⟩
    obtain ⟨e, y⟩ := y
    subst e y
    exact hs i ys H' (fun ys' H' => Pv (i + 1) ys' H' ∧ ∃ v0, some (V.int (lo + i * c)) :: cs = v0 :: cs) hlt p fun _ _ z => ⟨z, _, rfl⟩
  · have e : i = n := by omega
    subst e
    exact .inl ⟨Nat.le_refl _, by omega, fun p' H' g => hd ys H2 p' H' p g⟩
theorem comp_toR3 {lo c : Int} {n : Nat} {cs : St} {te : TE} {H : Hp} {Q : VK} (rs : List V) (hl : rs.length = n) (hz : n ≤ sizeLine)
    (hs : ∀ (i : Nat) y H' (N : VK), i < n → rs[i]? = some y → Same H H' → (∀ H'', Same H' H'' → N y H'') → te (some (.int (lo + i * c)) :: cs) H' N) (hd : ∀ p H', Gro H p (.lst rs) H' → Q (.ref p) H') :
    CompW (Itr3 lo c n) H (List.replicate 1 none ++ cs) (gName 0) tTrue te Q := by
  refine comp_range3 (fun i ys H' => Same H H' ∧ ys = rs.take i) ⟨Same.refl _, rfl⟩ (fun i ys H' hi z => by rw [z.2, List.length_take]; omega) hz (fun i ys H' N hi z hN => ?_) fun ys H' p H'' z g => ?_
  · obtain ⟨s, rfl⟩ := z
    have hi' : i < rs.length := by omega
    have hy : rs[i]? = some rs[i] := List.getElem?_eq_getElem hi'
    simp only [tTrue, if_true]
    exact hs i _ H' _ hi hy s fun H'' s' => hN _ _ ⟨s.trans s', by rw [take_snoc hy]⟩
  · obtain ⟨s, rfl⟩ := z
    rw [← hl, List.take_length] at g
    exact hd p H'' (g.after s)
end L2

--@kinds
--@texts
--@tups law:_law_found
--@ndicts spots_behind:spots spots_behind:behind layers_along:layer spots_ahead:layer in_step:layers[-1]
--@catt spot_behind:spot[1]
namespace My
open PySem L2
/-! ### the text by places -/
def top (i : Nat) : Stmt := PySem.Challenge.pw_bytetongue_k82_in_step_by_pairs.main.body.getD i (.Pass ⟨0, 0, 0, 0⟩)
abbrev s_spot_behind : Stmt := top 2
abbrev s_spots_behind : Stmt := top 3
abbrev s_layers_along : Stmt := top 4
abbrev s_spots_ahead : Stmt := top 5
abbrev s_in_step : Stmt := top 6
abbrev s_check_room : Stmt := top 12
abbrev s_parted : Stmt := top 13
abbrev s_together : Stmt := top 14
abbrev s_is_number : Stmt := top 23
abbrev s_is_head : Stmt := top 24
abbrev s_is_tail : Stmt := top 25
abbrev s_is_seen_byte : Stmt := top 26
abbrev s_is_sign : Stmt := top 27
abbrev s_sign_of : Stmt := top 34
abbrev s_PairTongue_init : Stmt := inClass (top 35) 0
abbrev s_PairTongue_unit : Stmt := inClass (top 35) 1
abbrev s_PairTongue_turned : Stmt := inClass (top 35) 3
abbrev s_PairTongue_row_of : Stmt := inClass (top 35) 4
abbrev s_PairTongue_units_in : Stmt := inClass (top 35) 5
abbrev s_PairTongue_whole : Stmt := inClass (top 35) 7
abbrev s_PairTongue_fill : Stmt := inClass (top 35) 8
abbrev s_PairTongue_spots : Stmt := inClass (top 35) 9
abbrev s_Tongue_look : Stmt := inClass (top 29) 6
abbrev s_z_pick : Stmt := top 37
abbrev s_z_plain : Stmt := top 38
abbrev s_z_unit : Stmt := top 39
abbrev s_z_units : Stmt := top 40
abbrev s_z_two_by_two : Stmt := top 41
abbrev s_z_due : Stmt := top 42
abbrev s_law : Stmt := top 43
theorem sc_spot_behind : FnScope ["tongue", "spot", "unit", "begun", "found"] ["tongue", "spot", "unit"] (defScope s_spot_behind) := ⟨rfl, rfl, rfl, by decide +kernel, rfl, by decide +kernel, by decide +kernel⟩
theorem sc_spots_behind : FnScope ["tongue", "spots", "unit", "behind", "spot", "goal"] ["tongue", "spots", "unit"] (defScope s_spots_behind) := ⟨rfl, rfl, rfl, by decide +kernel, rfl, by decide +kernel, by decide +kernel⟩
theorem sc_layers_along : FnScope ["tongue", "units", "layer", "page", "begun", "layers", "unit"] ["tongue", "units"] (defScope s_layers_along) := ⟨rfl, rfl, rfl, by decide +kernel, rfl, by decide +kernel, by decide +kernel⟩
theorem sc_spots_ahead : FnScope ["layer", "spots", "found", "spot"] ["layer", "spots"] (defScope s_spots_ahead) := ⟨rfl, rfl, rfl, by decide +kernel, rfl, by decide +kernel, by decide +kernel⟩
theorem sc_in_step : FnScope ["tongue", "row", "size", "layers", "many", "spots", "least", "layer"] ["tongue", "row"] (defScope s_in_step) := ⟨rfl, rfl, rfl, by decide +kernel, rfl, by decide +kernel, by decide +kernel⟩
theorem sc_check_room : FnScope ["number", "bits"] ["number", "bits"] (defScope s_check_room) := ⟨rfl, rfl, rfl, by decide +kernel, rfl, by decide +kernel, by decide +kernel⟩
theorem sc_parted : FnScope ["number", "bits", "many", "rising", "step", "higher"] ["number", "bits", "many"] (defScope s_parted) := ⟨rfl, rfl, rfl, by decide +kernel, rfl, by decide +kernel, by decide +kernel⟩
theorem sc_together : FnScope ["parts", "bits", "number", "part"] ["parts", "bits"] (defScope s_together) := ⟨rfl, rfl, rfl, by decide +kernel, rfl, by decide +kernel, by decide +kernel⟩
theorem sc_is_number : FnScope ["thing"] ["thing"] (defScope s_is_number) := ⟨rfl, rfl, rfl, by decide +kernel, rfl, by decide +kernel, by decide +kernel⟩
theorem sc_is_head : FnScope ["number"] ["number"] (defScope s_is_head) := ⟨rfl, rfl, rfl, by decide +kernel, rfl, by decide +kernel, by decide +kernel⟩
theorem sc_is_tail : FnScope ["number"] ["number"] (defScope s_is_tail) := ⟨rfl, rfl, rfl, by decide +kernel, rfl, by decide +kernel, by decide +kernel⟩
theorem sc_is_seen_byte : FnScope ["thing"] ["thing"] (defScope s_is_seen_byte) := ⟨rfl, rfl, rfl, by decide +kernel, rfl, by decide +kernel, by decide +kernel⟩
theorem sc_is_sign : FnScope ["thing"] ["thing"] (defScope s_is_sign) := ⟨rfl, rfl, rfl, by decide +kernel, rfl, by decide +kernel, by decide +kernel⟩
theorem sc_sign_of : FnScope ["units"] ["units"] (defScope s_sign_of) := ⟨rfl, rfl, rfl, by decide +kernel, rfl, by decide +kernel, by decide +kernel⟩
theorem sc_PairTongue_init : FnScope ["self", "order"] ["self", "order"] (defScope s_PairTongue_init) := ⟨rfl, rfl, rfl, by decide +kernel, rfl, by decide +kernel, by decide +kernel⟩
theorem sc_PairTongue_unit : FnScope ["self"] ["self"] (defScope s_PairTongue_unit) := ⟨rfl, rfl, rfl, by decide +kernel, rfl, by decide +kernel, by decide +kernel⟩
theorem sc_PairTongue_turned : FnScope ["self", "pair"] ["self", "pair"] (defScope s_PairTongue_turned) := ⟨rfl, rfl, rfl, by decide +kernel, rfl, by decide +kernel, by decide +kernel⟩
theorem sc_PairTongue_row_of : FnScope ["self", "units", "row", "number"] ["self", "units"] (defScope s_PairTongue_row_of) := ⟨rfl, rfl, rfl, by decide +kernel, rfl, by decide +kernel, by decide +kernel⟩
theorem sc_PairTongue_units_in : FnScope ["self", "row"] ["self", "row"] (defScope s_PairTongue_units_in) := ⟨rfl, rfl, rfl, by decide +kernel, rfl, by decide +kernel, by decide +kernel⟩
theorem sc_PairTongue_whole : FnScope ["self", "row", "page", "sign"] ["self", "row", "page"] (defScope s_PairTongue_whole) := ⟨rfl, rfl, rfl, by decide +kernel, rfl, by decide +kernel, by decide +kernel⟩
theorem sc_PairTongue_fill : FnScope ["self", "row", "page", "rest"] ["self", "row", "page"] (defScope s_PairTongue_fill) := ⟨rfl, rfl, rfl, by decide +kernel, rfl, by decide +kernel, by decide +kernel⟩
theorem sc_PairTongue_spots : FnScope ["self"] ["self"] (defScope s_PairTongue_spots) := ⟨rfl, rfl, rfl, by decide +kernel, rfl, by decide +kernel, by decide +kernel⟩
theorem sc_Tongue_look : FnScope ["self", "begun", "page", "found"] ["self", "begun", "page"] (defScope s_Tongue_look) := ⟨rfl, rfl, rfl, by decide +kernel, rfl, by decide +kernel, by decide +kernel⟩
theorem sc_z_pick : FnScope ["_law_script", "_law_k"] ["_law_script", "_law_k"] (defScope s_z_pick) := ⟨rfl, rfl, rfl, by decide +kernel, rfl, by decide +kernel, by decide +kernel⟩
theorem sc_z_plain : FnScope ["_law_found"] ["_law_found"] (defScope s_z_plain) := ⟨rfl, rfl, rfl, by decide +kernel, rfl, by decide +kernel, by decide +kernel⟩
theorem sc_z_unit : FnScope ["_law_cell"] ["_law_cell"] (defScope s_z_unit) := ⟨rfl, rfl, rfl, by decide +kernel, rfl, by decide +kernel, by decide +kernel⟩
theorem sc_z_units : FnScope ["_law_script", "_law_units_here", "_law_cell", "_law_unit_here"] ["_law_script"] (defScope s_z_units) := ⟨rfl, rfl, rfl, by decide +kernel, rfl, by decide +kernel, by decide +kernel⟩
theorem sc_z_two_by_two : FnScope ["_law_units_here", "_law_head", "_law_unit_here", "_law_tail"] ["_law_units_here"] (defScope s_z_two_by_two) := ⟨rfl, rfl, rfl, by decide +kernel, rfl, by decide +kernel, by decide +kernel⟩
theorem sc_z_due : FnScope ["_law_units_here", "_law_many"] ["_law_units_here"] (defScope s_z_due) := ⟨rfl, rfl, rfl, by decide +kernel, rfl, by decide +kernel, by decide +kernel⟩
theorem sc_law : FnScope ["_law_script", "_law_units_here", "_law_low", "_law_row", "_law_unit_here", "_law_kept", "_law_found"] ["_law_script"] (defScope s_law) := ⟨rfl, rfl, rfl, by decide +kernel, rfl, by decide +kernel, by decide +kernel⟩
set_option genInjectivity false in
structure Adr where
  a_spot_behind : Addr
  f_spot_behind : FuncData
  a_spots_behind : Addr
  f_spots_behind : FuncData
  a_layers_along : Addr
  f_layers_along : FuncData
  a_spots_ahead : Addr
  f_spots_ahead : FuncData
  a_in_step : Addr
  f_in_step : FuncData
  a_check_room : Addr
  f_check_room : FuncData
  a_parted : Addr
  f_parted : FuncData
  a_together : Addr
  f_together : FuncData
  a_is_number : Addr
  f_is_number : FuncData
  a_is_head : Addr
  f_is_head : FuncData
  a_is_tail : Addr
  f_is_tail : FuncData
  a_is_seen_byte : Addr
  f_is_seen_byte : FuncData
  a_is_sign : Addr
  f_is_sign : FuncData
  a_sign_of : Addr
  f_sign_of : FuncData
  a_PairTongue_init : Addr
  f_PairTongue_init : FuncData
  ud_PairTongue_init_0 : Tok
  a_PairTongue_unit : Addr
  f_PairTongue_unit : FuncData
  a_PairTongue_turned : Addr
  f_PairTongue_turned : FuncData
  a_PairTongue_row_of : Addr
  f_PairTongue_row_of : FuncData
  a_PairTongue_units_in : Addr
  f_PairTongue_units_in : FuncData
  a_PairTongue_whole : Addr
  f_PairTongue_whole : FuncData
  ud_PairTongue_whole_0 : Tok
  a_PairTongue_fill : Addr
  f_PairTongue_fill : FuncData
  ud_PairTongue_fill_0 : Tok
  a_PairTongue_spots : Addr
  f_PairTongue_spots : FuncData
  a_Tongue_look : Addr
  f_Tongue_look : FuncData
  ud_Tongue_look_0 : Tok
  a_z_pick : Addr
  f_z_pick : FuncData
  a_z_plain : Addr
  f_z_plain : FuncData
  a_z_unit : Addr
  f_z_unit : FuncData
  a_z_units : Addr
  f_z_units : FuncData
  a_z_two_by_two : Addr
  f_z_two_by_two : FuncData
  a_z_due : Addr
  f_z_due : FuncData
  a_law : Addr
  f_law : FuncData
  c_PairTongue : Addr
  u_BYTE_BITS : Tok
  a_FILLS : Addr
  h_FILLS_0 : Int
  a_FILLS_0 : Addr
  a_FILLS_0_0 : Addr
  a_FILLS_0_1 : Addr
  a_FILLS_0_2 : Addr
  a_FILLS_0_3 : Addr
  a_FILLS_0_4 : Addr
  h_FILLS_1 : Int
  a_FILLS_1 : Addr
  a_FILLS_1_0 : Addr
  a_FILLS_1_1 : Addr
  a_FILLS_1_2 : Addr
  a_FILLS_1_3 : Addr
  a_FILLS_1_4 : Addr
  u_FIRST_HEAD : Tok
  u_FIRST_SEEN : Tok
  u_FIRST_TAIL : Tok
  u_FIRST_WIDE : Tok
  u_HALF_BITS : Tok
  u_LAST_SEEN : Tok
  u_LAST_SIGN : Tok
  u_LAST_TAIL : Tok
structure Txt (w : World) (K : PySem.W.Frag) (mg : Str → Option Value) (t : Adr) : Prop where
  F_spot_behind : Fun K "spot_behind" "spot_behind" s_spot_behind t.a_spot_behind t.f_spot_behind
  b_spot_behind : Binds K t.f_spot_behind ["tongue", "spot", "unit"] []
  g_spot_behind : mg "spot_behind" = some (.ref t.a_spot_behind)
  F_spots_behind : Fun K "spots_behind" "spots_behind" s_spots_behind t.a_spots_behind t.f_spots_behind
  b_spots_behind : Binds K t.f_spots_behind ["tongue", "spots", "unit"] []
  g_spots_behind : mg "spots_behind" = some (.ref t.a_spots_behind)
  F_layers_along : Fun K "layers_along" "layers_along" s_layers_along t.a_layers_along t.f_layers_along
  b_layers_along : Binds K t.f_layers_along ["tongue", "units"] []
  g_layers_along : mg "layers_along" = some (.ref t.a_layers_along)
  F_spots_ahead : Fun K "spots_ahead" "spots_ahead" s_spots_ahead t.a_spots_ahead t.f_spots_ahead
  b_spots_ahead : Binds K t.f_spots_ahead ["layer", "spots"] []
  g_spots_ahead : mg "spots_ahead" = some (.ref t.a_spots_ahead)
  F_in_step : Fun K "in_step" "in_step" s_in_step t.a_in_step t.f_in_step
  b_in_step : Binds K t.f_in_step ["tongue", "row"] []
  g_in_step : mg "in_step" = some (.ref t.a_in_step)
  F_check_room : Fun K "check_room" "check_room" s_check_room t.a_check_room t.f_check_room
  b_check_room : Binds K t.f_check_room ["number", "bits"] []
  g_check_room : mg "check_room" = some (.ref t.a_check_room)
  F_parted : Fun K "parted" "parted" s_parted t.a_parted t.f_parted
  b_parted : Binds K t.f_parted ["number", "bits", "many"] []
  g_parted : mg "parted" = some (.ref t.a_parted)
  F_together : Fun K "together" "together" s_together t.a_together t.f_together
  b_together : Binds K t.f_together ["parts", "bits"] []
  g_together : mg "together" = some (.ref t.a_together)
  F_is_number : Fun K "is_number" "is_number" s_is_number t.a_is_number t.f_is_number
  b_is_number : Binds K t.f_is_number ["thing"] []
  g_is_number : mg "is_number" = some (.ref t.a_is_number)
  F_is_head : Fun K "is_head" "is_head" s_is_head t.a_is_head t.f_is_head
  b_is_head : Binds K t.f_is_head ["number"] []
  g_is_head : mg "is_head" = some (.ref t.a_is_head)
  F_is_tail : Fun K "is_tail" "is_tail" s_is_tail t.a_is_tail t.f_is_tail
  b_is_tail : Binds K t.f_is_tail ["number"] []
  g_is_tail : mg "is_tail" = some (.ref t.a_is_tail)
  F_is_seen_byte : Fun K "is_seen_byte" "is_seen_byte" s_is_seen_byte t.a_is_seen_byte t.f_is_seen_byte
  b_is_seen_byte : Binds K t.f_is_seen_byte ["thing"] []
  g_is_seen_byte : mg "is_seen_byte" = some (.ref t.a_is_seen_byte)
  F_is_sign : Fun K "is_sign" "is_sign" s_is_sign t.a_is_sign t.f_is_sign
  b_is_sign : Binds K t.f_is_sign ["thing"] []
  g_is_sign : mg "is_sign" = some (.ref t.a_is_sign)
  F_sign_of : Fun K "sign_of" "sign_of" s_sign_of t.a_sign_of t.f_sign_of
  b_sign_of : Binds K t.f_sign_of ["units"] []
  g_sign_of : mg "sign_of" = some (.ref t.a_sign_of)
  F_PairTongue_init : FunD K "__init__" "PairTongue.__init__" s_PairTongue_init t.a_PairTongue_init t.f_PairTongue_init [.str "high" t.ud_PairTongue_init_0]
  bd_PairTongue_init : Binds K t.f_PairTongue_init ["self", "order"] [.str "high" t.ud_PairTongue_init_0]
  b_PairTongue_init : Binds K t.f_PairTongue_init ["self", "order"] []
  F_PairTongue_unit : Fun K "unit" "PairTongue.unit" s_PairTongue_unit t.a_PairTongue_unit t.f_PairTongue_unit
  b_PairTongue_unit : Binds K t.f_PairTongue_unit ["self"] []
  F_PairTongue_turned : Fun K "turned" "PairTongue.turned" s_PairTongue_turned t.a_PairTongue_turned t.f_PairTongue_turned
  b_PairTongue_turned : Binds K t.f_PairTongue_turned ["self", "pair"] []
  F_PairTongue_row_of : Fun K "row_of" "PairTongue.row_of" s_PairTongue_row_of t.a_PairTongue_row_of t.f_PairTongue_row_of
  b_PairTongue_row_of : Binds K t.f_PairTongue_row_of ["self", "units"] []
  F_PairTongue_units_in : Fun K "units_in" "PairTongue.units_in" s_PairTongue_units_in t.a_PairTongue_units_in t.f_PairTongue_units_in
  b_PairTongue_units_in : Binds K t.f_PairTongue_units_in ["self", "row"] []
  F_PairTongue_whole : FunD K "whole" "PairTongue.whole" s_PairTongue_whole t.a_PairTongue_whole t.f_PairTongue_whole [.int 0 t.ud_PairTongue_whole_0]
  bd_PairTongue_whole : Binds K t.f_PairTongue_whole ["self", "row", "page"] [.int 0 t.ud_PairTongue_whole_0]
  b_PairTongue_whole : Binds K t.f_PairTongue_whole ["self", "row", "page"] []
  F_PairTongue_fill : FunD K "fill" "PairTongue.fill" s_PairTongue_fill t.a_PairTongue_fill t.f_PairTongue_fill [.int 0 t.ud_PairTongue_fill_0]
  bd_PairTongue_fill : Binds K t.f_PairTongue_fill ["self", "row", "page"] [.int 0 t.ud_PairTongue_fill_0]
  b_PairTongue_fill : Binds K t.f_PairTongue_fill ["self", "row", "page"] []
  F_PairTongue_spots : Fun K "spots" "PairTongue.spots" s_PairTongue_spots t.a_PairTongue_spots t.f_PairTongue_spots
  b_PairTongue_spots : Binds K t.f_PairTongue_spots ["self"] []
  F_Tongue_look : FunD K "look" "Tongue.look" s_Tongue_look t.a_Tongue_look t.f_Tongue_look [.int 0 t.ud_Tongue_look_0]
  bd_Tongue_look : Binds K t.f_Tongue_look ["self", "begun", "page"] [.int 0 t.ud_Tongue_look_0]
  b_Tongue_look : Binds K t.f_Tongue_look ["self", "begun", "page"] []
  F_z_pick : Fun K "_law_pick" "_law_pick" s_z_pick t.a_z_pick t.f_z_pick
  b_z_pick : Binds K t.f_z_pick ["_law_script", "_law_k"] []
  g_z_pick : mg "_law_pick" = some (.ref t.a_z_pick)
  F_z_plain : Fun K "_law_plain" "_law_plain" s_z_plain t.a_z_plain t.f_z_plain
  b_z_plain : Binds K t.f_z_plain ["_law_found"] []
  g_z_plain : mg "_law_plain" = some (.ref t.a_z_plain)
  F_z_unit : Fun K "_law_unit" "_law_unit" s_z_unit t.a_z_unit t.f_z_unit
  b_z_unit : Binds K t.f_z_unit ["_law_cell"] []
  g_z_unit : mg "_law_unit" = some (.ref t.a_z_unit)
  F_z_units : Fun K "_law_units" "_law_units" s_z_units t.a_z_units t.f_z_units
  b_z_units : Binds K t.f_z_units ["_law_script"] []
  g_z_units : mg "_law_units" = some (.ref t.a_z_units)
  F_z_two_by_two : Fun K "_law_two_by_two" "_law_two_by_two" s_z_two_by_two t.a_z_two_by_two t.f_z_two_by_two
  b_z_two_by_two : Binds K t.f_z_two_by_two ["_law_units_here"] []
  g_z_two_by_two : mg "_law_two_by_two" = some (.ref t.a_z_two_by_two)
  F_z_due : Fun K "_law_due" "_law_due" s_z_due t.a_z_due t.f_z_due
  b_z_due : Binds K t.f_z_due ["_law_units_here"] []
  g_z_due : mg "_law_due" = some (.ref t.a_z_due)
  F_law : Fun K "law" "law" s_law t.a_law t.f_law
  b_law : Binds K t.f_law ["_law_script"] []
  g_law : mg "law" = some (.ref t.a_law)
  gc_PairTongue : mg "PairTongue" = some (.ref t.c_PairTongue)
  cls_PairTongue : Cls K t.c_PairTongue
  mk_PairTongue : Mk K t.c_PairTongue t.a_PairTongue_init
  mt_PairTongue_unit : Meth K t.c_PairTongue "unit" t.a_PairTongue_unit
  mt_PairTongue_turned : Meth K t.c_PairTongue "turned" t.a_PairTongue_turned
  mt_PairTongue_row_of : Meth K t.c_PairTongue "row_of" t.a_PairTongue_row_of
  mt_PairTongue_units_in : Meth K t.c_PairTongue "units_in" t.a_PairTongue_units_in
  mt_PairTongue_whole : Meth K t.c_PairTongue "whole" t.a_PairTongue_whole
  mt_PairTongue_fill : Meth K t.c_PairTongue "fill" t.a_PairTongue_fill
  mt_PairTongue_spots : Meth K t.c_PairTongue "spots" t.a_PairTongue_spots
  mt_PairTongue_look : Meth K t.c_PairTongue "look" t.a_Tongue_look
  na_PairTongue_order : NoAttr K t.c_PairTongue "order"
  ty_PairTongue : ∀ H a dx fs, H a = some (.ins t.c_PairTongue dx fs) → TyOf K H (.ref a) (.ref t.c_PairTongue)
  c_BYTE_BITS : mg "BYTE_BITS" = some (.int 8 t.u_BYTE_BITS)
  c_FILLS : mg "FILLS" = some (.ref t.a_FILLS)
  d_FILLS : DctS K w t.a_FILLS [(t.h_FILLS_0, "high", t.a_FILLS_0), (t.h_FILLS_1, "low", t.a_FILLS_1)]
  q_FILLS_0 : ∀ H, SqT K H t.a_FILLS_0 (([t.a_FILLS_0_0, t.a_FILLS_0_1, t.a_FILLS_0_2, t.a_FILLS_0_3, t.a_FILLS_0_4] : List Addr).map V.ref)
  q_FILLS_0_0 : ∀ H, SqT K H t.a_FILLS_0_0 (([] : List Int).map V.int)
  q_FILLS_0_1 : ∀ H, SqT K H t.a_FILLS_0_1 (([0] : List Int).map V.int)
  q_FILLS_0_2 : ∀ H, SqT K H t.a_FILLS_0_2 (([0, 0] : List Int).map V.int)
  q_FILLS_0_3 : ∀ H, SqT K H t.a_FILLS_0_3 (([220, 0] : List Int).map V.int)
  q_FILLS_0_4 : ∀ H, SqT K H t.a_FILLS_0_4 (([0, 220, 0] : List Int).map V.int)
  q_FILLS_1 : ∀ H, SqT K H t.a_FILLS_1 (([t.a_FILLS_1_0, t.a_FILLS_1_1, t.a_FILLS_1_2, t.a_FILLS_1_3, t.a_FILLS_1_4] : List Addr).map V.ref)
  q_FILLS_1_0 : ∀ H, SqT K H t.a_FILLS_1_0 (([] : List Int).map V.int)
  q_FILLS_1_1 : ∀ H, SqT K H t.a_FILLS_1_1 (([0] : List Int).map V.int)
  q_FILLS_1_2 : ∀ H, SqT K H t.a_FILLS_1_2 (([220] : List Int).map V.int)
  q_FILLS_1_3 : ∀ H, SqT K H t.a_FILLS_1_3 (([0, 0] : List Int).map V.int)
  q_FILLS_1_4 : ∀ H, SqT K H t.a_FILLS_1_4 (([0, 220] : List Int).map V.int)
  c_FIRST_HEAD : mg "FIRST_HEAD" = some (.int 55296 t.u_FIRST_HEAD)
  c_FIRST_SEEN : mg "FIRST_SEEN" = some (.int 61184 t.u_FIRST_SEEN)
  c_FIRST_TAIL : mg "FIRST_TAIL" = some (.int 56320 t.u_FIRST_TAIL)
  c_FIRST_WIDE : mg "FIRST_WIDE" = some (.int 65536 t.u_FIRST_WIDE)
  c_HALF_BITS : mg "HALF_BITS" = some (.int 10 t.u_HALF_BITS)
  c_LAST_SEEN : mg "LAST_SEEN" = some (.int 61439 t.u_LAST_SEEN)
  c_LAST_SIGN : mg "LAST_SIGN" = some (.int 1114111 t.u_LAST_SIGN)
  c_LAST_TAIL : mg "LAST_TAIL" = some (.int 57343 t.u_LAST_TAIL)
  n_all : mg "all" = none
  n_bool : mg "bool" = none
  n_int : mg "int" = none
  n_isinstance : mg "isinstance" = none
  n_len : mg "len" = none
  n_list : mg "list" = none
  n_range : mg "range" = none
  n_reversed : mg "reversed" = none
  n_str : mg "str" = none
  n_tuple : mg "tuple" = none
/-! ### what the text reckons -/
def isNum : V → Bool
  | .int _ => true
  | _ => false
def wthn (v : V) (lo hi : Int) : Bool := match v with
  | .int i => decide (lo ≤ i) && decide (i ≤ hi)
  | _ => false
def isSig (v : V) : Bool := wthn v 0 1114111 && !(wthn v 55296 57343) && !(wthn v 61184 61439)
theorem isNum_int {v : V} (h : isNum v = true) : ∃ i, v = .int i := by
  cases v <;> first | exact ⟨_, rfl⟩ | cases h
/-- a thing goes in, a truth comes out -/
def sp1 (f : V → Bool) (K : PySem.W.Frag) : Sp := fun vs H Q _ => ∃ v, vs = [v] ∧ Knd K H v ∧ Q (.bl (f v)) H
def spI (f : Int → Bool) : Sp := fun vs H Q _ => ∃ i, vs = [.int i] ∧ Q (.bl (f i)) H
theorem len1 {f : V → Bool} {K : PySem.W.Frag} {x : Str} : ∀ vs H Q E, sp1 f K vs H Q E → vs.length = [x].length := fun vs H Q E h => by
  obtain ⟨v, rfl, _⟩ := h
  rfl
theorem lenI {f : Int → Bool} {x : Str} : ∀ vs H Q E, spI f vs H Q E → vs.length = [x].length := fun vs H Q E h => by
  obtain ⟨v, rfl, _⟩ := h
  rfl
def Sg (n : Int) : Prop := 0 ≤ n ∧ n ≤ 1114111 ∧ ¬ (55296 ≤ n ∧ n ≤ 57343) ∧ ¬ (61184 ≤ n ∧ n ≤ 61439)
def unitsOf (n : Int) : List Int := if n < 65536 then [n] else [55296 + (n - 65536) / 1024, 56320 + (n - 65536) % 1024]
def ub (h : Bool) (m : Int) : List Int := if h then [m / 256, m % 256] else [m % 256, m / 256]
def ordOf (h : Bool) : Str := if h then "high" else "low"
theorem ub_len (h : Bool) (m : Int) : (ub h m).length = 2 := by unfold ub; cases h <;> rfl
theorem units_in {n u : Int} (h : Sg n) (hu : u ∈ unitsOf n) : 0 ≤ u ∧ u < 65536 := by
  obtain ⟨h0, h1, _, _⟩ := h
  unfold unitsOf at hu
  by_cases c : n < 65536
  · rw [if_pos c] at hu; simp at hu; omega
  · rw [if_neg c] at hu; simp at hu; omega
theorem flat_len (h : Bool) (us : List Int) : (us.flatMap (ub h)).length = 2 * us.length := by
  induction us with
  | nil => rfl
  | cons a r ih => rw [List.flatMap_cons, List.length_append, ub_len, ih, List.length_cons]; omega
/-- a unit of two bytes -/
def u2 (h : Bool) (x y : Int) : Int := if h then x * 256 + y else y * 256 + x
def unitsIn (h : Bool) : List Int → List Int
  | x :: y :: r => u2 h x y :: unitsIn h r
  | _ => []
def signOf : List Int → Option Int
  | [u] => if isSig (.int u) then some u else none
  | [u, v] => if (55296 ≤ u ∧ u < 56320) ∧ 56320 ≤ v ∧ v ≤ 57343 then some (65536 + ((u - 55296) * 1024 + (v - 56320))) else none
  | _ => none
def whl (h : Bool) (r : List Int) : Option Int := if r.length = 2 ∨ r.length = 4 then signOf (unitsIn h r) else none
def oV (o : Option Int) : V := o.elim .non V.int
def fills (h : Bool) : List (List Int) := if h then [[], [0], [0, 0], [220, 0], [0, 220, 0]] else [[], [0], [220], [0, 0], [0, 220]]
def Byts (r : List Int) : Prop := ∀ b ∈ r, 0 ≤ b ∧ b ≤ 255
theorem Byts.app {r s : List Int} (a : Byts r) (b : Byts s) : Byts (r ++ s) := fun x hx => by
  rcases List.mem_append.mp hx with h | h
  · exact a x h
  · exact b x h
theorem fills_byts {h : Bool} {f : List Int} (hf : f ∈ fills h) : Byts f := by
  unfold fills at hf
  cases h <;> simp at hf <;> rcases hf with rfl | rfl | rfl | rfl | rfl <;> intro x hx <;> simp at hx <;> omega
theorem fills_len {h : Bool} {f : List Int} (hf : f ∈ fills h) : f.length ≤ 3 := by
  unfold fills at hf
  cases h <;> simp at hf <;> rcases hf with rfl | rfl | rfl | rfl | rfl <;> decide
end My
namespace My
open PySem L2
section
variable {P : Program} {w : World} {K : PySem.W.Frag} {mg : Str → Option Value} {base : Heap} {t : Adr}
def spRoom : Sp := fun vs H Q _ => ∃ (n : Int) (b : Nat), vs = [.int n, .int (b : Int)] ∧ 0 ≤ n ∧ n < 2 ^ b ∧ Q .non H
theorem h_check_room (T : Txt w K mg t) : Has P w K mg base "check_room" 1 t.a_check_room t.f_check_room ["number", "bits"] spRoom := by
  refine ⟨T.g_check_room, T.F_check_room.kp, T.b_check_room, T.F_check_room.okQ sc_check_room (fun vs H Q E h => by obtain ⟨n, b, rfl, _⟩ := h; rfl) fun cdv A outer s H vs Q E hr h => ?_⟩
  obtain ⟨n, b, rfl, h0, h1, k⟩ := h
  refine ⟨_, (q_pss_one (q_ps_if (q_PW_pt (q_pw_or (q_mt_cmp g_lt (q_vv 0) q_pe_int (nomark _)) (q_pw_or1 (q_mt_cmp g_gt (q_pe_bm0K (K := K) rfl PySem.F.plainAttrs_int PySem.F.slot_int_bit_length PySem.F.type_int_bit_length mg_bits (q_vv 0)) (q_vv 1) (nomark _))))) (q_pss_one q_ps_never) q_pss_nil)), ?_⟩
  refine ite2 (fun e => absurd (of_decide_eq_true e) (by omega)) (fun _ => ?_)
  refine ⟨rfl, ?_⟩
  have hb : Builtin.Int.intBits n ≤ b := intBits_le_iff.mpr (by
    have : (n.natAbs : Int) < ((2 ^ b : Nat) : Int) := by rw [Int.natAbs_of_nonneg h0, Int.natCast_pow]; exact h1
    exact Int.ofNat_lt.mp this)
  refine ite2 (fun e => absurd (of_decide_eq_true e) (by omega)) (fun _ => ?_)
  exact k
def spParted : Sp := fun vs H Q _ => ∃ (n : Int) (b m : Nat), vs = [.int n, .int (b : Int), .int (m : Int)] ∧ 0 ≤ n ∧ n < 2 ^ (b * m) ∧ b ≤ 1000 ∧ m ≤ 1000 ∧ ∀ p H', Gro H p (.lst ((prts b m n).map V.int)) H' → Q (.ref p) H'
theorem h_parted (T : Txt w K mg t) : Has P w K mg base "parted" 2 t.a_parted t.f_parted ["number", "bits", "many"] spParted := by
  refine ⟨T.g_parted, T.F_parted.kp, T.b_parted, T.F_parted.okQ sc_parted (fun vs H Q E h => by obtain ⟨n, b, m, rfl, _⟩ := h; rfl) fun cdv A outer s H vs Q E hr h => ?_⟩
  obtain ⟨n, b, m, rfl, h0, h1, hb, hm, k⟩ := h
  refine ⟨_, (q_pss_cons (q_ps_expr (q_cal (h_check_room T) hr (q_pa_c (q_vv 0) (q_pa_c (q_pe_op g_mul (q_vv 1) (q_vv 2)) q_pa_nil))))
      (q_pss_cons (q_ps_set (i := 3) sc_parted.nd rfl (.inl rfl) (q_me_lst q_pa_nil))
      (q_pss_cons (q_ps_for PassesOwn.never rfl (q_pi_range1 rfl T.n_range (q_pa_c (q_vv 2) q_pa_nil)) (q_pg_name (i := 4) sc_parted.nd rfl (.inl rfl)) (q_pss_cons (q_ps_set (i := 5) sc_parted.nd rfl (.inl rfl) (q_pe_op g_shr (q_vv 0) (q_vv 1)))
      (q_pss_cons (q_ps_expr (q_pe_bmK (K := K) rfl PySem.F.plainAttrs_list PySem.F.slot_list_append PySem.F.type_list_append mg_append (q_vv 3) (q_pa_c (q_pe_op g_sub (q_vv 0) (q_pe_op g_shlB (q_vv 5) (q_vv 1))) q_pa_nil)))
      (q_pss_one (q_ps_set (i := 0) sc_parted.nd rfl (.inl rfl) (q_vv 5))))))
      (q_pss_one (q_ps_ret (q_me_revK (K := K) rfl rfl T.n_list T.n_reversed (q_pa_c (q_vv 3) q_pa_nil))))))), ?_⟩
  have two64 : (2 : Int) ^ 64 = 18446744073709551616 := by decide
  refine ⟨Or.inl ⟨by omega, by omega⟩, ?_⟩
  refine ⟨n, b * m, by rw [Int.natCast_mul]; rfl, h0, h1, ?_⟩
  refine ⟨sz rfl, fun p1 H1 g1 => ?_⟩
  refine ⟨(m : Int), rfl, by omega, by omega, ?_⟩
  refine for_range (lo := 0) (n := ((m : Nat) : Int).toNat) (fun i σ H' => Same H H' ∧ H' p1 = some (.lst (((List.range i).map fun i => n / 2 ^ (b * i) % 2 ^ b).map V.int)) ∧ ∃ v4 v5, σ = [some (.int (n / 2 ^ (b * i))), some (.int b), some (.int m), some (.ref p1), v4, v5])
    ⟨g1.sm, g1.at_, _, _, by simp; rfl⟩ ?_ ?_
  · rintro i σ H2 hi ⟨s2, h2, v4, v5, rfl⟩
    have hi' : i < m := by simpa using hi
    refine ⟨by omega, ?_⟩
    refine ⟨.inl ⟨rfl, _, .of h2⟩, ?_⟩
    have hq : 0 ≤ n / 2 ^ (b * i) / 2 ^ b ∧ n / 2 ^ (b * i) / 2 ^ b ≤ n := by
      have z1 : 0 ≤ n / 2 ^ (b * i) := Int.ediv_nonneg h0 (Int.le_of_lt (two_pos _))
      exact ⟨Int.ediv_nonneg z1 (Int.le_of_lt (two_pos _)), Int.le_trans (Int.ediv_le_self _ z1) (Int.ediv_le_self _ h0)⟩
    have hbits : Builtin.Int.intBits (n / 2 ^ (b * i) / 2 ^ b) ≤ b * m := intBits_le_iff.mpr (by
      have : ((n / 2 ^ (b * i) / 2 ^ b).natAbs : Int) < ((2 ^ (b * m) : Nat) : Int) := by rw [Int.natAbs_of_nonneg hq.1, Int.natCast_pow]; exact Int.lt_of_le_of_lt hq.2 h1
      exact Int.ofNat_lt.mp this)
    have hbm : b * m ≤ 1000000 := Nat.mul_le_mul hb hm
    refine ⟨⟨by omega, show ((Builtin.Int.intBits (n / 2 ^ (b * i) / 2 ^ b) : Nat) : Int) + (b : Int) ≤ 2 ^ 27 by omega⟩, ?_⟩
    refine ⟨_, h2, szlt (by simp; omega), ?_⟩
    refine ⟨s2.put g1.nw, ?_, ?_⟩
    · rw [upd_same, List.range_succ, List.map_append, List.map_append]
      have := mod_step (n / 2 ^ (b * i)) b
      exact congrArg (fun z => some (HO.lst (_ ++ [V.int z]))) this
    · rw [← div_step n b i]
      exact ⟨_, _, rfl⟩
  · rintro σ H2 ⟨s2, h2, v4, v5, rfl⟩
    refine ⟨p1, _, rfl, .of h2, fun p3 H3 g3 => ?_⟩
    have e : ((List.map V.int ((List.range ((m : Nat) : Int).toNat).map fun i => n / 2 ^ (b * i) % 2 ^ b))).reverse = (prts b m n).map V.int := by
      rw [← List.map_reverse, Int.toNat_natCast, prts_rev]
    rw [e] at g3
    exact k _ _ (g3.after s2)
def spTog (K : PySem.W.Frag) : Sp := fun vs H Q _ => ∃ (a : Addr) (ps : List Int) (b : Nat), vs = [.ref a, .int (b : Int)] ∧ SqL K H a (ps.map V.int) ∧ (∀ p ∈ ps, 0 ≤ p ∧ p < 2 ^ b) ∧ b ≤ 1000 ∧ ps.length ≤ 1000 ∧ Q (.int (tog b ps)) H
theorem h_together (T : Txt w K mg t) : Has P w K mg base "together" 2 t.a_together t.f_together ["parts", "bits"] (spTog K) := by
  refine ⟨T.g_together, T.F_together.kp, T.b_together, T.F_together.okQ sc_together (fun vs H Q E h => by obtain ⟨a, ps, b, rfl, _⟩ := h; rfl) fun cdv A outer s H vs Q E hr h => ?_⟩
  obtain ⟨a, ps, b, rfl, h1, h2, hb, hl, k⟩ := h
  refine ⟨_, (q_pss_cons (q_ps_set (i := 2) sc_together.nd rfl (.inl rfl) q_pe_int)
      (q_pss_cons (q_ps_for PassesOwn.never rfl (q_pi_listK (K := K) rfl (q_vv 0)) (q_pg_name (i := 3) sc_together.nd rfl (.inl rfl)) (q_pss_cons (q_ps_expr (q_cal (h_check_room T) hr (q_pa_c (q_vv 3) (q_pa_c (q_vv 1) q_pa_nil))))
      (q_pss_one (q_ps_set (i := 2) sc_together.nd rfl (.inl rfl) (q_pe_op (g_addK (K := K) rfl) (q_pe_op g_shlB (q_vv 2) (q_vv 1)) (q_vv 3))))))
      (q_pss_one (q_ps_ret (q_vv 2))))), ?_⟩
  refine ⟨a, rfl, ⟨_, h1⟩, for_list (K := K) (a := a) (xs := ps.map V.int) (fun i σ H' => H' = H ∧ ∃ v3, σ = [some (.ref a), some (.int b), some (.int (tog b (ps.take i))), v3]) ⟨rfl, _, rfl⟩ (fun i σ H' _ z => by rw [z.1]; exact h1) ?_ ?_⟩
  · rintro i x σ H2 hi ⟨rfl, v3, rfl⟩
    obtain ⟨p, hp, rfl⟩ : ∃ p, ps[i]? = some p ∧ x = .int p := by
      rw [List.getElem?_map] at hi
      cases e : ps[i]? with
      | none => rw [e] at hi; cases hi
      | some p => rw [e] at hi; cases hi; exact ⟨p, rfl, rfl⟩
    have hpm := h2 p (List.mem_of_getElem? hp)
    refine ⟨p, b, rfl, hpm.1, hpm.2, ?_⟩
    have hi' : i < ps.length := (List.getElem?_eq_some_iff.mp hp).1
    have ht := tog_lt (b := b) (ps := ps.take i) fun q hq => h2 q (List.mem_of_mem_take hq)
    have hbits : Builtin.Int.intBits (tog b (ps.take i)) ≤ b * (ps.take i).length := intBits_le_iff.mpr (by
      have : ((tog b (ps.take i)).natAbs : Int) < ((2 ^ (b * (ps.take i).length) : Nat) : Int) := by rw [Int.natAbs_of_nonneg ht.1, Int.natCast_pow]; exact ht.2
      exact Int.ofNat_lt.mp this)
    have hl2 : (ps.take i).length ≤ 1000 := by rw [List.length_take]; omega
    have hbm : b * (ps.take i).length ≤ 1000000 := Nat.mul_le_mul hb hl2
    refine ⟨⟨by omega, show ((Builtin.Int.intBits (tog b (ps.take i)) : Nat) : Int) + (b : Int) ≤ 2 ^ 27 by omega⟩, ?_⟩
    refine ⟨rfl, ?_⟩
    have e : ps.take (i + 1) = ps.take i ++ [p] := by rw [List.take_add_one, hp]; rfl
    rw [e, tog_snoc]
    exact ⟨_, rfl⟩
  · rintro σ H2 ⟨rfl, v3, rfl⟩
    rw [List.length_map, List.take_length]
    exact k
theorem h_is_number (T : Txt w K mg t) : Has P w K mg base "is_number" 1 t.a_is_number t.f_is_number ["thing"] (sp1 isNum K) := by
  refine ⟨T.g_is_number, T.F_is_number.kp, T.b_is_number, T.F_is_number.okQ sc_is_number len1 fun cdv A outer s H vs Q E hr h => ?_⟩
  obtain ⟨v, rfl, kd, k⟩ := h
  refine ⟨_, (q_pss_one (q_ps_ret (q_me_and (q_calB (c_instK (K := K) rfl) T.n_isinstance PyProof.Rows.boot_isinstance (q_pa_c (q_vv 0) (q_pa_c (q_bty rfl T.n_int PyProof.Rows.boot_int) q_pa_nil))) (q_pe_one (q_me_not (q_calB (c_instK (K := K) rfl) T.n_isinstance PyProof.Rows.boot_isinstance (q_pa_c (q_vv 0) (q_pa_c (q_bty rfl T.n_bool PyProof.Rows.boot_bool) q_pa_nil)))))))), ?_⟩
  obtain ⟨ty, hty, e0⟩ := kd.isInt
  refine ⟨ty, _, hty, e0, ?_⟩
  refine ite2 (fun e => ?_) (fun e => ?_)
  · obtain ⟨ty, hty, e0⟩ := kd.isBl
    refine ⟨ty, _, hty, e0, ?_⟩
    exact fitB k (by cases v <;> simp_all [isNum, isIntV, isBlV])
  · exact fitB k (by cases v <;> simp_all [isNum, isIntV])
theorem h_is_head (T : Txt w K mg t) : Has P w K mg base "is_head" 1 t.a_is_head t.f_is_head ["number"] (spI fun i => decide (55296 ≤ i) && decide (i < 56320)) := by
  refine ⟨T.g_is_head, T.F_is_head.kp, T.b_is_head, T.F_is_head.okQ sc_is_head lenI fun cdv A outer s H vs Q E hr h => ?_⟩
  obtain ⟨i, rfl, k⟩ := h
  refine ⟨_, (q_pss_one (q_ps_ret (q_me_chain g_le g_lt (q_gi T.c_FIRST_HEAD) (q_vv 0) (q_gi T.c_FIRST_TAIL)))), ?_⟩
  refine ite2 (fun e1 => ?_) (fun e1 => ?_)
  · exact fitB k (by simp at *; omega)
  · exact fitB k (by simp at *; omega)
theorem h_is_tail (T : Txt w K mg t) : Has P w K mg base "is_tail" 1 t.a_is_tail t.f_is_tail ["number"] (spI fun i => decide (56320 ≤ i) && decide (i ≤ 57343)) := by
  refine ⟨T.g_is_tail, T.F_is_tail.kp, T.b_is_tail, T.F_is_tail.okQ sc_is_tail lenI fun cdv A outer s H vs Q E hr h => ?_⟩
  obtain ⟨i, rfl, k⟩ := h
  refine ⟨_, (q_pss_one (q_ps_ret (q_me_chain g_le g_le (q_gi T.c_FIRST_TAIL) (q_vv 0) (q_gi T.c_LAST_TAIL)))), ?_⟩
  refine ite2 (fun e1 => ?_) (fun e1 => ?_)
  · exact fitB k (by simp at *; omega)
  · exact fitB k (by simp at *; omega)
theorem h_is_seen_byte (T : Txt w K mg t) : Has P w K mg base "is_seen_byte" 2 t.a_is_seen_byte t.f_is_seen_byte ["thing"] (sp1 (fun v => wthn v 61184 61439) K) := by
  refine ⟨T.g_is_seen_byte, T.F_is_seen_byte.kp, T.b_is_seen_byte, T.F_is_seen_byte.okQ sc_is_seen_byte len1 fun cdv A outer s H vs Q E hr h => ?_⟩
  obtain ⟨v, rfl, kd, k⟩ := h
  refine ⟨_, (q_pss_one (q_ps_ret (q_me_and (q_cal (h_is_number T) hr (q_pa_c (q_vv 0) q_pa_nil)) (q_pe_one (q_me_chain g_le g_le (q_gi T.c_FIRST_SEEN) (q_vv 0) (q_gi T.c_LAST_SEEN)))))), ?_⟩
  refine ⟨v, rfl, kd, ?_⟩
  refine ite2 (fun e => ?_) (fun e => ?_)
  · obtain ⟨i, rfl⟩ := isNum_int e
    refine ite2 (fun e1 => ?_) (fun e1 => ?_)
    · exact fitB k (by simp [wthn] at *; omega)
    · exact fitB k (by simp [wthn] at *; omega)
  · exact fitB k (by cases v <;> simp_all [isNum, wthn])
theorem h_is_sign (T : Txt w K mg t) : Has P w K mg base "is_sign" 3 t.a_is_sign t.f_is_sign ["thing"] (sp1 isSig K) := by
  refine ⟨T.g_is_sign, T.F_is_sign.kp, T.b_is_sign, T.F_is_sign.okQ sc_is_sign len1 fun cdv A outer s H vs Q E hr h => ?_⟩
  obtain ⟨v, rfl, kd, k⟩ := h
  refine ⟨_, (q_pss_cons (q_ps_if (q_PW_pt (q_pw_or (q_pt_not (q_mt_val (q_cal (h_is_number T) hr (q_pa_c (q_vv 0) q_pa_nil)))) (q_pw_or1 (q_pt_not (q_mt_chain g_le g_le q_pe_int (q_vv 0) (q_gi T.c_LAST_SIGN)))))) (q_pss_one (q_ps_ret q_pe_bl)) q_pss_nil)
      (q_pss_one (q_ps_ret (q_me_not (q_me_or (q_cal (h_is_head T) hr (q_pa_c (q_vv 0) q_pa_nil)) (q_me_or (q_cal (h_is_tail T) hr (q_pa_c (q_vv 0) q_pa_nil)) (q_pe_one (q_cal (h_is_seen_byte T) hr (q_pa_c (q_vv 0) q_pa_nil))))))))), ?_⟩
  refine ⟨v, rfl, kd, ?_⟩
  refine ite2 (fun e => ?_) (fun e => ?_)
  · refine iteT ?_
    exact fitB k (by cases v <;> simp_all [isNum, wthn, isSig])
  · obtain ⟨i, rfl⟩ := isNum_int (v := v) (by simpa using e)
    refine ite2 (fun e1 => ?_) (fun e1 => ?_)
    · refine ite2 (fun e2 => ?_) (fun e2 => ?_)
      · exact fitB k (by simp [isSig, wthn] at *; omega)
      · refine ⟨i, rfl, ?_⟩
        refine ite2 (fun e3 => ?_) (fun e3 => ?_)
        · exact fitB k (by simp [isSig, wthn] at *; omega)
        · refine ⟨i, rfl, ?_⟩
          refine ite2 (fun e4 => ?_) (fun e4 => ?_)
          · exact fitB k (by simp [isSig, wthn] at *; omega)
          · refine ⟨_, rfl, kd, ?_⟩
            exact fitB k (by rw [Bool.eq_iff_iff]; simp [isSig, wthn] at *; omega)
    · refine iteT ?_
      exact fitB k (by simp [isSig, wthn] at *; omega)
def spSo (K : PySem.W.Frag) : Sp := fun vs H Q _ => ∃ (a : Addr) (us : List Int), vs = [.ref a] ∧ SqL K H a (us.map V.int) ∧ us.length ≤ 2 ∧ ∀ H', Same H H' → Q (oV (signOf us)) H'
theorem two_of : ∀ {us : List Int}, us.length = 2 → ∃ u v, us = [u, v]
  | [u, v], _ => ⟨u, v, rfl⟩
theorem tog10 (x y : Int) : tog 10 [x, y] = x * 1024 + y := by
  show (0 * 2 ^ 10 + x) * 2 ^ 10 + y = _
  have : (2 : Int) ^ 10 = 1024 := by decide
  rw [this]
  omega
theorem h_sign_of (T : Txt w K mg t) : Has P w K mg base "sign_of" 4 t.a_sign_of t.f_sign_of ["units"] (spSo K) := by
  refine ⟨T.g_sign_of, T.F_sign_of.kp, T.b_sign_of, T.F_sign_of.okQ sc_sign_of (fun vs H Q E h => by obtain ⟨a, us, rfl, _⟩ := h; rfl) fun cdv A outer s H vs Q E hr h => ?_⟩
  obtain ⟨a, us, rfl, ha, hl, k⟩ := h
  have hu := hr.units
  obtain ⟨o, eo⟩ : ∃ o, o = signOf us := ⟨_, rfl⟩
  rw [← eo] at k
  obtain ⟨L, eL⟩ : ∃ L : Int, L = ((us.map V.int).length : Int) := ⟨_, rfl⟩
  have eL2 : L = (us.length : Int) := by rw [eL, List.length_map]
  refine ⟨_, (q_pss_cons (q_ps_if (q_PW_pt (q_pw_and (q_mt_cmp (g_eqK (K := K) rfl hu) (q_calB (c_lenK (K := K) rfl) T.n_len PySem.boot_len (q_pa_c (q_vv 0) q_pa_nil)) q_pe_int (nomark _)) (q_pw_and1 (q_mt_val (q_cal (h_is_sign T) hr (q_pa_c (q_pe_ix (g_ixK (K := K) rfl) (q_vv 0) q_pe_int (fun _ _ => rfl)) q_pa_nil)))))) (q_pss_one (q_ps_ret (q_pe_ix (g_ixK (K := K) rfl) (q_vv 0) q_pe_int (fun _ _ => rfl)))) q_pss_nil)
      (q_pss_cons (q_ps_if (q_PW_pt (q_pw_and (q_mt_cmp (g_eqK (K := K) rfl hu) (q_calB (c_lenK (K := K) rfl) T.n_len PySem.boot_len (q_pa_c (q_vv 0) q_pa_nil)) q_pe_int (nomark _)) (q_pw_and (q_mt_val (q_cal (h_is_head T) hr (q_pa_c (q_pe_ix (g_ixK (K := K) rfl) (q_vv 0) q_pe_int (fun _ _ => rfl)) q_pa_nil))) (q_pw_and1 (q_mt_val (q_cal (h_is_tail T) hr (q_pa_c (q_pe_ix (g_ixK (K := K) rfl) (q_vv 0) q_pe_int (fun _ _ => rfl)) q_pa_nil))))))) (q_pss_one (q_ps_ret (q_pe_op (g_addK (K := K) rfl) (q_gi T.c_FIRST_WIDE) (q_cal (h_together T) hr (q_pa_c (q_me_lst (q_pa_c (q_pe_op g_sub (q_pe_ix (g_ixK (K := K) rfl) (q_vv 0) q_pe_int (fun _ _ => rfl)) (q_gi T.c_FIRST_HEAD)) (q_pa_c (q_pe_op g_sub (q_pe_ix (g_ixK (K := K) rfl) (q_vv 0) q_pe_int (fun _ _ => rfl)) (q_gi T.c_FIRST_TAIL)) q_pa_nil))) (q_pa_c (q_gi T.c_HALF_BITS) q_pa_nil)))))) q_pss_nil)
      (q_pss_one (q_ps_ret q_pe_non)))), ?_⟩
  have second : ∀ {Q1 : Prop} {Q2 : Prop} {b : Bool}, (b = true → Q1) → (b = false → Q2) → if b = true then Q1 else Q2 := fun {Q1 Q2 b} x y => by
    cases b with
    | true => exact x rfl
    | false => exact y rfl
  refine ⟨_, .inl ha, ?_⟩
  rw [← eL]
  refine ite2 (fun e => ?_) (fun e => ?_)
  · have e : L = 1 := of_decide_eq_true e
    obtain ⟨u, rfl⟩ : ∃ u, us = [u] := List.length_eq_one_iff.mp (by omega)
    refine ⟨_, .int u, .inl ha, atI_nat (j := 0) rfl, ?_⟩
    refine ⟨.int u, rfl, .int u, ?_⟩
    refine ite2 (fun e1 => ?_) (fun e1 => ?_)
    · refine ⟨_, .int u, .inl ha, atI_nat (j := 0) rfl, ?_⟩
      have es : o = some u := eo.trans (if_pos e1)
      subst es
      exact k _ (Same.refl _)
    · have es : o = none := eo.trans (if_neg e1)
      subst es
      refine ⟨_, .inl ha, ?_⟩
      rw [← eL]
      refine ite2 (fun e2 => absurd (of_decide_eq_true e2) (by omega)) (fun _ => ?_)
      exact k _ (Same.refl _)
  have e : ¬ L = 1 := fun z => e (decide_eq_true z)
  refine ⟨_, .inl ha, ?_⟩
  rw [← eL]
  refine ite2 (fun e2 => ?_) (fun e2 => ?_)
  · have e2 : L = 2 := of_decide_eq_true e2
    obtain ⟨u, v, rfl⟩ : ∃ u v, us = [u, v] := two_of (by omega)
    refine ⟨_, .int u, .inl ha, atI_nat (j := 0) rfl, ?_⟩
    refine ⟨u, rfl, ?_⟩
    refine ite2 (fun e1 => ?_) (fun e1 => ?_)
    · simp only [Bool.and_eq_true, decide_eq_true_eq] at e1
      refine ⟨_, .int v, .inl ha, atI_nat (j := 1) rfl, ?_⟩
      refine ⟨v, rfl, ?_⟩
      refine ite2 (fun e2 => ?_) (fun e2 => ?_)
      · simp only [Bool.and_eq_true, decide_eq_true_eq] at e2
        have es : o = some (65536 + ((u - 55296) * 1024 + (v - 56320))) := eo.trans (if_pos ⟨e1, e2⟩)
        subst es
        refine ⟨_, .int u, .inl ha, atI_nat (j := 0) rfl, ?_⟩
        refine ⟨_, .int v, .inl ha, atI_nat (j := 1) rfl, ?_⟩
        refine ⟨sz rfl, fun p1 H1 g1 => ?_⟩
        have et := tog10 (u - 55296) (v - 56320)
        have g2 : SqL K H1 p1 (([u - 55296, v - 56320] : List Int).map V.int) := g1.lst
        obtain ⟨ps, e5⟩ : ∃ ps : List Int, ps = [u - 55296, v - 56320] := ⟨_, rfl⟩
        rw [← e5] at g2 et
        have e10 : (2 : Int) ^ 10 = 1024 := by decide
        refine ⟨p1, ps, 10, rfl, g2, ?_, by decide, by rw [e5]; simp, ?_⟩
        · intro x hx
          rw [e5] at hx
          simp at hx
          rcases hx with rfl | rfl <;> omega
        · rw [et]
          exact k _ g1.sm
      · have es : o = none := eo.trans (if_neg fun z => e2 (by simp; exact z.2))
        subst es
        exact k _ (Same.refl _)
    · have es : o = none := eo.trans (if_neg fun z => e1 (by simp; exact z.1))
      subst es
      exact k _ (Same.refl _)
  · have e2 : ¬ L = 2 := fun z => e2 (decide_eq_true z)
    have z0 : us = [] := List.length_eq_zero_iff.mp (by omega)
    subst z0
    subst eo
    exact k _ (Same.refl _)
def Po (t : Adr) (H : Hp) (o : Addr) (h : Bool) : Prop := ∃ dx, H o = some (.ins t.c_PairTongue dx [("order", .str (ordOf h))])
theorem Po.mono {H H' : Hp} {o : Addr} {h : Bool} (p : Po t H o h) (s : Same H H') : Po t H' o h := let ⟨dx, z⟩ := p; ⟨dx, s _ _ z⟩
def spInit (t : Adr) : Sp := fun vs H Q _ => ∃ (x dx : Addr) (h : Bool), vs = [.ref x, .str (ordOf h)] ∧ H x = some (.ins t.c_PairTongue dx []) ∧ Q .non (upd H x (.ins t.c_PairTongue dx [("order", .str (ordOf h))]))
theorem ok_init (T : Txt w K mg t) : FnOk P w K mg base CX0 1 t.a_PairTongue_init t.f_PairTongue_init ["self", "order"] (spInit t) := by
  refine T.F_PairTongue_init.okQ sc_PairTongue_init (fun vs H Q E h => by obtain ⟨x, dx, v, rfl, _⟩ := h; rfl) fun cdv A outer s H vs Q E hr h => ?_
  obtain ⟨x, dx, h, rfl, hx, k⟩ := h
  refine ⟨_, (q_pss_cons (q_ps_if (q_PW_pt (q_pw_or (q_pt_not (q_mt_val (q_calB (c_instK (K := K) rfl) T.n_isinstance PyProof.Rows.boot_isinstance (q_pa_c (q_vv 1) (q_pa_c (q_bty rfl T.n_str PyProof.Rows.boot_str) q_pa_nil))))) (q_pw_or1 (q_mt_cmp (g_notinS (K := K) rfl rfl T.d_FILLS) (q_vv 1) (q_pe_glob (v := .ref t.a_FILLS) rfl T.c_FILLS rfl) (by with_unfolding_all rfl))))) (q_pss_one q_ps_never) q_pss_nil)
      (q_pss_one (q_ps_fldK (K := K) rfl (q_vv 0) (q_vv 1)))), ?_⟩
  refine ⟨_, _, .str _, by with_unfolding_all rfl, ?_⟩
  refine ⟨_, rfl, rfl, ?_⟩
  refine ite2 (fun e => absurd e (by cases h <;> simp [gotS, ordOf])) (fun _ => ?_)
  exact ⟨x, _, dx, _, rfl, hx, T.cls_PairTongue, T.na_PairTongue_order, by decide, k⟩
theorem hk_PairTongue_0 (T : Txt w K mg t) : HasKD P w K mg base "PairTongue" t.c_PairTongue 1 t.a_PairTongue_init t.f_PairTongue_init ["self", "order"] [] (spInit t) := ⟨T.gc_PairTongue, T.mk_PairTongue, ⟨[], T.b_PairTongue_init, .nil⟩, ok_init T⟩
end
end My
namespace My
open PySem L2
section
variable {P : Program} {w : World} {K : PySem.W.Frag} {mg : Str → Option Value} {base : Heap} {t : Adr}
def spTurn (t : Adr) : Sp := fun vs H Q _ => ∃ (o a : Addr) (h : Bool) (x y : Int), vs = [.ref o, .ref a] ∧ Po t H o h ∧ H a = some (.lst [.int x, .int y]) ∧ ∀ p H', Same H H' → H' p = some (.lst ((if h then [x, y] else [y, x]).map V.int)) → Q (.ref p) H'
theorem h_PairTongue_turned (T : Txt w K mg t) : HasM P w K mg base t.c_PairTongue "turned" 1 t.a_PairTongue_turned t.f_PairTongue_turned ["self", "pair"] (spTurn t) := by
  refine ⟨T.cls_PairTongue, T.mt_PairTongue_turned, T.b_PairTongue_turned, T.F_PairTongue_turned.okQ sc_PairTongue_turned (fun vs H Q E h => by obtain ⟨o, a, h, x, y, rfl, _⟩ := h; rfl) fun cdv A outer s H vs Q E hr h => ?_⟩
  obtain ⟨o, a, h, x, y, rfl, ⟨dx, ho⟩, ha, k⟩ := h
  have hu := hr.units
  refine ⟨_, (q_pss_one (q_ps_ret (q_pe_ifExp (q_mt_cmp (g_eqK (K := K) rfl hu) (q_fldK (K := K) rfl (q_vv 0)) q_pe_str (nomark _)) (q_vv 1) (q_me_lst (q_pa_c (q_pe_ix (g_ixK (K := K) rfl) (q_vv 1) q_pe_int (fun _ _ => rfl)) (q_pa_c (q_pe_ix (g_ixK (K := K) rfl) (q_vv 1) q_pe_int (fun _ _ => rfl)) q_pa_nil)))))), ?_⟩
  refine ⟨o, _, dx, _, _, rfl, ho, T.cls_PairTongue, T.na_PairTongue_order, rfl, ?_⟩
  cases h with
  | true =>
    refine ⟨_, _, DataV.str _, DataV.str _, by decide +kernel, by decide +kernel, ?_⟩
    refine ite2 (fun _ => ?_) (fun e => absurd (by decide +kernel) e)
    exact k _ _ (Same.refl _) ha
  | false =>
    refine ⟨_, _, DataV.str _, DataV.str _, by decide +kernel, by decide +kernel, ?_⟩
    refine ite2 (fun e => absurd e (by decide +kernel)) (fun _ => ?_)
    refine ⟨_, .int y, .inl (.of ha), atI_nat (j := 1) rfl, ?_⟩
    refine ⟨_, .int x, .inl (.of ha), atI_nat (j := 0) rfl, ?_⟩
    exact ⟨sz rfl, fun p H' g => k _ _ g.sm g.at_⟩
def spRowOf (K : PySem.W.Frag) (t : Adr) : Sp := fun vs H Q _ => ∃ (o a : Addr) (h : Bool) (us : List Int), vs = [.ref o, .ref a] ∧ Po t H o h ∧ SqL K H a (us.map V.int) ∧ us.length ≤ 10 ∧ (∀ u ∈ us, 0 ≤ u ∧ u < 65536) ∧ ∀ p H', Gro H p (.lst ((us.flatMap (ub h)).map V.int)) H' → Q (.ref p) H'
theorem h_PairTongue_row_of (T : Txt w K mg t) : HasM P w K mg base t.c_PairTongue "row_of" 3 t.a_PairTongue_row_of t.f_PairTongue_row_of ["self", "units"] (spRowOf K t) := by
  refine ⟨T.cls_PairTongue, T.mt_PairTongue_row_of, T.b_PairTongue_row_of, T.F_PairTongue_row_of.okQ sc_PairTongue_row_of (fun vs H Q E h => by obtain ⟨o, a, h, us, rfl, _⟩ := h; rfl) fun cdv A outer s H vs Q E hr h => ?_⟩
  obtain ⟨o, a, h, us, rfl, po, ha, hl, hb, k⟩ := h
  have hu := hr.units
  refine ⟨_, (q_pss_cons (q_ps_set (i := 2) sc_PairTongue_row_of.nd rfl (.inl rfl) (q_me_lst q_pa_nil))
      (q_pss_cons (q_ps_for PassesOwn.never rfl (q_pi_listK (K := K) rfl (q_vv 1)) (q_pg_name (i := 3) sc_PairTongue_row_of.nd rfl (.inl rfl)) (q_pss_one (q_ps_expr (q_pe_bmK (K := K) rfl PySem.F.plainAttrs_list PySem.F.slot_list_extend PySem.F.type_list_extend (mg_extendK (K := K) rfl) (q_vv 2) (q_pa_c (q_meth (h_PairTongue_turned T) hr (q_vv 0) (q_pa_c (q_cal (h_parted T) hr (q_pa_c (q_vv 3) (q_pa_c (q_gi T.c_BYTE_BITS) (q_pa_c q_pe_int q_pa_nil)))) q_pa_nil)) q_pa_nil)))))
      (q_pss_one (q_ps_ret (q_vv 2))))), ?_⟩
  refine ⟨sz rfl, fun p1 H1 g1 => ?_⟩
  refine ⟨a, rfl, ⟨_, g1.sm.seq ha⟩, for_list (K := K) (a := a) (xs := us.map V.int) (fun i σ H' => Same H H' ∧ H' p1 = some (.lst (((us.take i).flatMap (ub h)).map V.int)) ∧ ∃ v3, σ = [some (.ref o), some (.ref a), some (.ref p1), v3]) ⟨g1.sm, g1.at_, _, rfl⟩ (fun i σ H' _ z => z.1.seq ha) ?_ ?_⟩
  · rintro i x σ H2 hx ⟨s2, h2, v3, rfl⟩
    obtain ⟨u, hux, rfl⟩ := ints_at hx
    have hub := hb u (List.mem_of_getElem? hux)
    have hi : i < us.length := (List.getElem?_eq_some_iff.mp hux).1
    obtain ⟨dx, ho⟩ := po
    have two16 : (2 : Int) ^ (8 * 2) = 65536 := by decide
    refine ⟨.inl ⟨rfl, _, .of h2⟩, ?_⟩
    refine ⟨o, dx, _, rfl, s2 _ _ ho, rfl, ?_⟩
    refine ⟨u, 8, 2, rfl, hub.1, by omega, by decide, by decide, fun p2 H3 g3 => ?_⟩
    have ep : prts 8 2 u = [u / 256, u % 256] := by
      have : u / 256 % 256 = u / 256 := by omega
      simp [prts, List.range_succ, this]
    rw [ep] at g3
    refine ⟨o, p2, h, u / 256, u % 256, rfl, ⟨dx, g3.sm _ _ (s2 _ _ ho)⟩, g3.at_, fun p3 H4 s4 h4 => ?_⟩
    have h24 := s4 _ _ (g3.sm _ _ h2)
    have el : ((us.take i).flatMap (ub h)).length = 2 * (us.take i).length := flat_len h _
    have el2 : (us.take i).length ≤ 10 := by rw [List.length_take]; omega
    refine ⟨_, _, h24, h4, szl (by rw [List.length_map, List.length_map, el]; cases h <;> simp <;> omega), ?_⟩
    refine ⟨(s2.trans (g3.sm.trans s4)).put g1.nw, ?_, _, rfl⟩
    rw [upd_same]
    have e : us.take (i + 1) = us.take i ++ [u] := by rw [List.take_add_one, hux]; rfl
    rw [e, List.flatMap_append, List.map_append]
    simp [ub]
  · rintro σ H2 ⟨s2, h2, v3, rfl⟩
    rw [List.length_map, List.take_length] at h2
    exact k _ _ ⟨g1.nw, s2, h2⟩
end
end My
namespace My
open PySem L2
section
variable {P : Program} {w : World} {K : PySem.W.Frag} {mg : Str → Option Value} {base : Heap} {t : Adr}
def spUin (K : PySem.W.Frag) (t : Adr) : Sp := fun vs H Q _ => ∃ (o a : Addr) (h : Bool) (r : List Int), vs = [.ref o, .ref a] ∧ Po t H o h ∧ SqL K H a (r.map V.int) ∧ (r.length = 2 ∨ r.length = 4) ∧ Byts r ∧ ∀ p H', Gro H p (.lst ((unitsIn h r).map V.int)) H' → Q (.ref p) H'
theorem h_PairTongue_units_in (T : Txt w K mg t) : HasM P w K mg base t.c_PairTongue "units_in" 3 t.a_PairTongue_units_in t.f_PairTongue_units_in ["self", "row"] (spUin K t) := by
  refine ⟨T.cls_PairTongue, T.mt_PairTongue_units_in, T.b_PairTongue_units_in, T.F_PairTongue_units_in.okQ sc_PairTongue_units_in (fun vs H Q E h => by obtain ⟨o, a, h, r, rfl, _⟩ := h; rfl) fun cdv A outer s H vs Q E hr h => ?_⟩
  obtain ⟨o, a, h, r, rfl, po, ha, hl, hb, k⟩ := h
  have hu := hr.units
  refine ⟨_, (q_pss_one (q_ps_ret (q_pe_comp rfl (CompScope.of (fns := (defScope s_PairTongue_units_in).names) (N := ["self", "row"]) (Nc := ["at", "self", "row"]) (nv := 1) (caps := [0, 1]) rfl rfl (by decide +kernel)) (q_pi_range3 rfl T.n_range (q_pa_c q_pe_int (q_pa_c (q_calB (c_lenK (K := K) rfl) T.n_len PySem.boot_len (q_pa_c (q_vv 1) q_pa_nil)) (q_pa_c q_pe_int q_pa_nil)))) (fun _ _ _ _ => (q_pg_name (i := 0) (show List.Nodup (["at", "self", "row"] : List Str) by decide +kernel) rfl (Or.inl rfl) (Or.inr rfl))) (fun _ _ _ _ => q_pts_nil) (fun _ _ _ _ => (q_cal (h_together T) hr (q_pa_c (q_meth (h_PairTongue_turned T) hr (q_vv 1) (q_pa_c (q_pe_slice (g_slK (K := K) rfl) (q_vv 2) (q_po_some (q_vv 0)) (q_po_some (q_pe_op (g_addK (K := K) rfl) (q_vv 0) q_pe_int))) q_pa_nil)) (q_pa_c (q_gi T.c_BYTE_BITS) q_pa_nil))))))), ?_⟩
  refine ⟨_, .inl ha, ?_⟩
  refine ⟨r.length, 2, by rw [List.length_map]; rfl, by omega, by decide, by decide, ?_⟩
  have hn : (unitsIn h r).length = (r.length + (2 - 1)) / 2 := by
    match r, hl with
    | [x, y], _ => simp [unitsIn]
    | [x, y, z, v], _ => simp [unitsIn]
  refine comp_toR3 (cs := [some (.ref o), some (.ref a)]) ((unitsIn h r).map V.int) (by rw [List.length_map, hn]) (szl (by omega)) (fun i y H2 N hi hy s2 hN => ?_) k
  obtain ⟨x1, x2, ec, m1, m2, rfl⟩ : ∃ x1 x2, cutL r (some ((0 : Int) + (i : Int) * ((2 : Nat) : Int))) (some ((0 : Int) + (i : Int) * ((2 : Nat) : Int) + 2)) = [x1, x2] ∧ x1 ∈ r ∧ x2 ∈ r ∧ y = .int (u2 h x1 x2) := by
    match r, hl, hi, hy with
    | [x, z], _, hi, hy =>
      have : i = 0 := by simp at hi; omega
      subst this
      cases hy
      exact ⟨x, z, rfl, by simp, by simp, rfl⟩
    | [x, z, v, u], _, hi, hy =>
      have : i = 0 ∨ i = 1 := by simp at hi; omega
      rcases this with rfl | rfl
      · cases hy
        exact ⟨x, z, rfl, by simp, by simp, rfl⟩
      · cases hy
        exact ⟨v, u, rfl, by simp, by simp, rfl⟩
  obtain ⟨dx, ho⟩ := po.mono s2
  refine ⟨o, dx, _, rfl, ho, rfl, ?_⟩
  refine ⟨_, rfl, _, rfl, _, s2.seq ha, fun p3 H3 g3 => ?_⟩
  rw [cutV_ints, ec] at g3
  refine ⟨o, p3, h, x1, x2, rfl, ⟨dx, g3.sm _ _ ho⟩, g3.at_, fun p4 H4 s4 h4 => ?_⟩
  have b1 := hb x1 m1
  have b2 := hb x2 m2
  have e8 : (2 : Int) ^ 8 = 256 := by decide
  refine ⟨p4, if h then [x1, x2] else [x2, x1], 8, rfl, .of h4, ?_, by decide, by cases h <;> simp, ?_⟩
  · intro q hq
    cases h <;> simp at hq <;> rcases hq with rfl | rfl <;> omega
  · have et : tog 8 (if h then [x1, x2] else [x2, x1]) = u2 h x1 x2 := by cases h <;> simp [tog, u2]
    rw [et]
    exact hN _ (g3.sm.trans s4)
theorem units_in_len (h : Bool) : ∀ r : List Int, r.length = 2 ∨ r.length = 4 → (unitsIn h r).length ≤ 2
  | [_, _], _ => by simp [unitsIn]
  | [_, _, _, _], _ => by simp [unitsIn]
def spWh (K : PySem.W.Frag) (t : Adr) : Sp := fun vs H Q _ => ∃ (o a : Addr) (h : Bool) (r : List Int), vs = [.ref o, .ref a, .int 0] ∧ Po t H o h ∧ SqL K H a (r.map V.int) ∧ Byts r ∧ r.length ≤ 1000 ∧ (∀ n, whl h r = some n → ∀ p H', Gro H p (.tup [.int n, .int 0]) H' → Q (.ref p) H') ∧ (whl h r = none → ∀ H', Same H H' → Q .non H')
theorem ok_whole (T : Txt w K mg t) : FnOk P w K mg base CX0 5 t.a_PairTongue_whole t.f_PairTongue_whole ["self", "row", "page"] (spWh K t) := by
  refine T.F_PairTongue_whole.okQ sc_PairTongue_whole (fun vs H Q E h => by obtain ⟨o, a, h, r, rfl, _⟩ := h; rfl) fun cdv A outer s H vs Q E hr h => ?_
  obtain ⟨o, a, h, r, rfl, po, ha, hb, hl, k1, k2⟩ := h
  have hu := hr.units
  refine ⟨_, (q_pss_cons (q_ps_if (q_mt_cmp (g_notinK (K := K) rfl) (q_calB (c_lenK (K := K) rfl) T.n_len PySem.boot_len (q_pa_c (q_vv 1) q_pa_nil)) (q_me_tup (q_pa_c q_pe_int (q_pa_c q_pe_int q_pa_nil))) (by with_unfolding_all rfl)) (q_pss_one (q_ps_ret q_pe_non)) q_pss_nil)
      (q_pss_cons (q_ps_set (i := 3) sc_PairTongue_whole.nd rfl (.inl rfl) (q_cal (h_sign_of T) hr (q_pa_c (q_meth (h_PairTongue_units_in T) hr (q_vv 0) (q_pa_c (q_vv 1) q_pa_nil)) q_pa_nil)))
      (q_pss_one (q_ps_ret (q_pe_ifExp (q_mt_cmp g_is (q_vv 3) q_pe_non (nomark _)) q_pe_non (q_me_tup (q_pa_c (q_vv 3) (q_pa_c (q_vv 2) q_pa_nil)))))))), ?_⟩
  refine ⟨_, .inl ha, ?_⟩
  refine ⟨sz rfl, fun p1 H1 g1 => ?_⟩
  refine ⟨_, .inr g1.tup, rfl, rfl, ?_⟩
  have ei : inV (.int ((r.map V.int).length : Int)) [V.int 2, V.int 4] = decide (r.length = 2 ∨ r.length = 4) := by
    rw [List.length_map, Bool.eq_iff_iff]
    simp [inV, eqV]
    omega
  refine ite2 (fun e => ?_) (fun e => ?_)
  · have e : (!inV (.int ((r.map V.int).length : Int)) [V.int 2, V.int 4]) = true := e
    rw [ei] at e
    have c : ¬ (r.length = 2 ∨ r.length = 4) := by simpa using e
    exact k2 (if_neg c) _ g1.sm
  have e : ¬ (!inV (.int ((r.map V.int).length : Int)) [V.int 2, V.int 4]) = true := e
  rw [ei] at e
  have c : r.length = 2 ∨ r.length = 4 := by simp at e; omega
  have ew : whl h r = signOf (unitsIn h r) := if_pos c
  obtain ⟨dx, ho⟩ := po.mono g1.sm
  refine ⟨o, dx, _, rfl, ho, rfl, ?_⟩
  refine ⟨o, a, h, r, rfl, ⟨dx, ho⟩, g1.sm.seq ha, c, hb, fun p2 H2 g2 => ?_⟩
  refine ⟨p2, unitsIn h r, rfl, g2.lst, units_in_len h r c, fun H3 s3 => ?_⟩
  have sA := g1.sm.trans (g2.sm.trans s3)
  rw [ew] at k1 k2
  cases es : signOf (unitsIn h r) with
  | none => exact k2 es _ sA
  | some n => exact ⟨sz rfl, fun p4 H4 g4 => k1 n es p4 H4 (g4.after sA)⟩
theorem h_PairTongue_whole_0 (T : Txt w K mg t) : HasMD P w K mg base t.c_PairTongue "whole" 5 t.a_PairTongue_whole t.f_PairTongue_whole ["self", "row", "page"] [] (spWh K t) :=
  ⟨T.cls_PairTongue, T.mt_PairTongue_whole, ⟨_, T.b_PairTongue_whole, .nil⟩, ok_whole T⟩
def fil (h : Bool) (r : List Int) : Option (List Int) := (fills h).find? fun f => (whl h (r ++ f)).isSome
def spFil (K : PySem.W.Frag) (t : Adr) : Sp := fun vs H Q _ => ∃ (o a : Addr) (h : Bool) (r : List Int), vs = [.ref o, .ref a, .int 0] ∧ Po t H o h ∧ SqL K H a (r.map V.int) ∧ Byts r ∧ r.length ≤ 900 ∧ (∀ f, fil h r = some f → ∀ p H', Gro H p (.lst (f.map V.int)) H' → Q (.ref p) H') ∧ (fil h r = none → ∀ H', Same H H' → Q .non H')
def fAdr (t : Adr) (h : Bool) : List Addr := if h then [t.a_FILLS_0_0, t.a_FILLS_0_1, t.a_FILLS_0_2, t.a_FILLS_0_3, t.a_FILLS_0_4] else [t.a_FILLS_1_0, t.a_FILLS_1_1, t.a_FILLS_1_2, t.a_FILLS_1_3, t.a_FILLS_1_4]
theorem f_at (T : Txt w K mg t) (h : Bool) {i : Nat} {x : V} (hx : ((fAdr t h).map V.ref)[i]? = some x) : ∃ b f, x = .ref b ∧ (fills h)[i]? = some f ∧ ∀ H, SqT K H b (f.map V.int) := by
  cases h with
  | true =>
    match i, hx with
    | 0, hx => cases hx; exact ⟨_, _, rfl, rfl, T.q_FILLS_0_0⟩
    | 1, hx => cases hx; exact ⟨_, _, rfl, rfl, T.q_FILLS_0_1⟩
    | 2, hx => cases hx; exact ⟨_, _, rfl, rfl, T.q_FILLS_0_2⟩
    | 3, hx => cases hx; exact ⟨_, _, rfl, rfl, T.q_FILLS_0_3⟩
    | 4, hx => cases hx; exact ⟨_, _, rfl, rfl, T.q_FILLS_0_4⟩
  | false =>
    match i, hx with
    | 0, hx => cases hx; exact ⟨_, _, rfl, rfl, T.q_FILLS_1_0⟩
    | 1, hx => cases hx; exact ⟨_, _, rfl, rfl, T.q_FILLS_1_1⟩
    | 2, hx => cases hx; exact ⟨_, _, rfl, rfl, T.q_FILLS_1_2⟩
    | 3, hx => cases hx; exact ⟨_, _, rfl, rfl, T.q_FILLS_1_3⟩
    | 4, hx => cases hx; exact ⟨_, _, rfl, rfl, T.q_FILLS_1_4⟩
theorem find_at {α : Type} {p : α → Bool} : ∀ {l : List α} {i : Nat} {f : α}, l[i]? = some f → (∀ g ∈ l.take i, p g = false) → p f = true → l.find? p = some f
  | a :: r, 0, f, h, _, hp => by cases h; rw [List.find?_cons, hp]
  | a :: r, i + 1, f, h, hn, hp => by
    rw [List.find?_cons, hn a (by simp)]
    exact find_at (l := r) (i := i) h (fun g hg => hn g (by simp [hg])) hp
theorem ok_fill (T : Txt w K mg t) : FnOk P w K mg base CX0 6 t.a_PairTongue_fill t.f_PairTongue_fill ["self", "row", "page"] (spFil K t) := by
  refine T.F_PairTongue_fill.okQ sc_PairTongue_fill (fun vs H Q E h => by obtain ⟨o, a, h, r, rfl, _⟩ := h; rfl) fun cdv A outer s H vs Q E hr h => ?_
  obtain ⟨o, a, h, r, rfl, po, ha, hb, hl, k1, k2⟩ := h
  have hu := hr.units
  refine ⟨_, (q_pss_cons (q_ps_for PassesOwn.never rfl (q_pi_tupK (K := K) rfl (q_dixS (K := K) rfl rfl T.d_FILLS rfl T.c_FILLS (q_fldK (K := K) rfl (q_vv 0)))) (q_pg_name (i := 3) sc_PairTongue_fill.nd rfl (.inl rfl)) (q_pss_one (q_ps_if (q_mt_cmp g_isnot (q_methD (h_PairTongue_whole_0 T) hr (q_vv 0) (q_pa_c (q_pe_op (g_addK (K := K) rfl) (q_vv 1) (q_calTy (c_listK (K := K) rfl) T.n_list PyProof.Rows.boot_list (q_pa_c (q_vv 3) q_pa_nil))) (q_pa_c (q_vv 2) q_pa_nil))) q_pe_non (nomark _)) (q_pss_one (q_ps_ret (q_calTy (c_listK (K := K) rfl) T.n_list PyProof.Rows.boot_list (q_pa_c (q_vv 3) q_pa_nil)))) q_pss_nil)))
      (q_pss_one (q_ps_ret q_pe_non))), ?_⟩
  obtain ⟨dx, ho⟩ := id po
  refine ⟨o, _, dx, _, _, rfl, ho, T.cls_PairTongue, T.na_PairTongue_order, rfl, ?_⟩
  obtain ⟨F, eF, qF⟩ : ∃ F, gotS [(t.h_FILLS_0, "high", t.a_FILLS_0), (t.h_FILLS_1, "low", t.a_FILLS_1)] (ordOf h) = some F ∧ ∀ H, SqT K H F ((fAdr t h).map V.ref) := by
    cases h with
    | true => exact ⟨_, by simp [gotS, ordOf], T.q_FILLS_0⟩
    | false => exact ⟨t.a_FILLS_1, by simp [gotS, ordOf, show ¬ (("high" : Str) = "low") by decide], T.q_FILLS_1⟩
  refine ⟨_, F, rfl, eF, ?_⟩
  have eL : ((fAdr t h).map V.ref).length = (fills h).length := by cases h <;> rfl
  refine ⟨_, rfl, ⟨_, qF _⟩, for_tup (K := K) (a := F) (xs := (fAdr t h).map V.ref) (fun i σ H' => Same H H' ∧ (∀ g ∈ (fills h).take i, (whl h (r ++ g)).isSome = false) ∧ ∃ v3, σ = [some (.ref o), some (.ref a), some (.int 0), v3]) ⟨Same.refl _, fun g z => by simp at z, _, rfl⟩ (fun i σ H' _ z => qF _) ?_ ?_⟩
  · rintro i x σ H2 hx ⟨s2, hn, v3, rfl⟩
    obtain ⟨b, f, rfl, hf, qb⟩ := f_at T h hx
    have hm := List.mem_of_getElem? hf
    have hfl := fills_len hm
    refine ⟨o, dx, _, rfl, s2 _ _ ho, rfl, ?_⟩
    refine ⟨_, .inr (qb _), fun p3 H3 g3 => ?_⟩
    have s3 := s2.trans g3.sm
    refine ⟨_, _, s3.seq ha, g3.lst, szl (by rw [List.length_map, List.length_map]; omega), fun p4 H4 g4 => ?_⟩
    rw [← List.map_append] at g4
    have s4 := s3.trans g4.sm
    refine ⟨o, p4, h, r ++ f, rfl, ⟨dx, s4 _ _ ho⟩, g4.lst, hb.app (fills_byts hm), by rw [List.length_append]; omega, fun n hw p5 H5 g5 => ?_, fun hw H5 s5 => ?_⟩
    · have ef : fil h r = some f := find_at hf hn (by rw [hw]; rfl)
      exact ⟨_, .inr (qb _), fun p6 H6 g6 => k1 f ef p6 H6 (g6.after (s4.trans g5.sm))⟩
    · refine ⟨s4.trans s5, fun g hg => ?_, _, rfl⟩
      rw [List.take_add_one, hf] at hg
      rcases List.mem_append.mp hg with hg | hg
      · exact hn g hg
      · have : g = f := by simpa using hg
        rw [this, hw]; rfl
  · rintro σ H2 ⟨s2, hn, v3, rfl⟩
    rw [eL, List.take_length] at hn
    exact k2 (List.find?_eq_none.mpr fun g hg => by rw [hn g hg]; simp) _ s2
theorem h_PairTongue_fill_0 (T : Txt w K mg t) : HasMD P w K mg base t.c_PairTongue "fill" 6 t.a_PairTongue_fill t.f_PairTongue_fill ["self", "row", "page"] [] (spFil K t) :=
  ⟨T.cls_PairTongue, T.mt_PairTongue_fill, ⟨_, T.b_PairTongue_fill, .nil⟩, ok_fill T⟩
def spSpots (t : Adr) : Sp := fun vs H Q _ => ∃ (o : Addr) (h : Bool), vs = [.ref o] ∧ Po t H o h ∧ ∀ p q1 q2 b1 b2 H', Same H H' → H p = none → H b1 = none → H b2 = none → b1 ≠ b2 → p ≠ b1 → p ≠ b2 → H' p = some (.lst [.ref q1, .ref q2]) → H' q1 = some (.tup [.int 0, .ref b1]) → H' q2 = some (.tup [.int 0, .ref b2]) → H' b1 = some (.lst []) → H' b2 = some (.lst ((ub h 55296).map V.int)) → Q (.ref p) H'
theorem h_PairTongue_spots (T : Txt w K mg t) : HasM P w K mg base t.c_PairTongue "spots" 4 t.a_PairTongue_spots t.f_PairTongue_spots ["self"] (spSpots t) := by
  refine ⟨T.cls_PairTongue, T.mt_PairTongue_spots, T.b_PairTongue_spots, T.F_PairTongue_spots.okQ sc_PairTongue_spots (fun vs H Q E h => by obtain ⟨o, h, rfl, _⟩ := h; rfl) fun cdv A outer s H vs Q E hr h => ?_⟩
  obtain ⟨o, h, rfl, po, k⟩ := h
  have hu := hr.units
  refine ⟨_, (q_pss_one (q_ps_ret (q_me_lst (q_pa_c (q_me_tup (q_pa_c q_pe_int (q_pa_c (q_me_lst q_pa_nil) q_pa_nil))) (q_pa_c (q_me_tup (q_pa_c q_pe_int (q_pa_c (q_meth (h_PairTongue_row_of T) hr (q_vv 0) (q_pa_c (q_me_lst (q_pa_c (q_gi T.c_FIRST_HEAD) q_pa_nil)) q_pa_nil)) q_pa_nil))) q_pa_nil))))), ?_⟩
  refine ⟨sz rfl, fun b1 H1 g1 => ?_⟩
  refine ⟨sz rfl, fun q1 H2 g2 => ?_⟩
  have s2 := g1.sm.trans g2.sm
  obtain ⟨dx, ho⟩ := id (po.mono s2)
  refine ⟨o, dx, _, rfl, ho, rfl, ?_⟩
  refine ⟨sz rfl, fun p3 H3 g3 => ?_⟩
  refine ⟨o, p3, h, [55296], rfl, ⟨dx, g3.sm _ _ ho⟩, g3.lst, by decide, fun u hu => by simp at hu; omega, fun b2 H4 g4 => ?_⟩
  refine ⟨sz rfl, fun q2 H5 g5 => ?_⟩
  refine ⟨sz rfl, fun p H6 g6 => ?_⟩
  have e4 : ([55296] : List Int).flatMap (ub h) = ub h 55296 := by simp
  rw [e4] at g4
  have s4 := s2.trans (g3.sm.trans g4.sm)
  have s5 := s4.trans g5.sm
  have b1_5 := g5.sm _ _ (g4.sm _ _ (g3.sm _ _ (g2.sm _ _ g1.at_)))
  have b2_5 := g5.sm _ _ g4.at_
  refine k p q1 q2 b1 b2 H6 (s5.trans g6.sm) (g6.after s5).nw g1.nw (g4.after (s2.trans g3.sm)).nw ?_ ?_ ?_ g6.at_ (g6.sm _ _ (g5.sm _ _ (g4.sm _ _ (g3.sm _ _ g2.at_)))) (g6.sm _ _ g5.at_) (g6.sm _ _ b1_5) (g6.sm _ _ b2_5)
  · exact ne_of_none (g3.sm _ _ (g2.sm _ _ g1.at_)) g4.nw
  · exact (ne_of_none b1_5 g6.nw).symm
  · exact (ne_of_none b2_5 g6.nw).symm
end
end My
namespace My
open PySem L2
section
variable {P : Program} {w : World} {K : PySem.W.Frag} {mg : Str → Option Value} {base : Heap} {t : Adr}
def lsg (u : Int) : Bool := !(decide (55296 ≤ u) && decide (u ≤ 57343)) && !(decide (61184 ≤ u) && decide (u ≤ 61439))
def lhd (u : Int) : Bool := decide (55296 ≤ u) && decide (u ≤ 56319)
def ltl (u : Int) : Bool := decide (56320 ≤ u) && decide (u ≤ 57343)
def lwh (h : Bool) : List Int → Bool
  | [x, y] => lsg (u2 h x y)
  | [x, y, z, v] => lhd (u2 h x y) && ltl (u2 h z v)
  | _ => false
def lbg (h : Bool) : List Int → Bool
  | [] => true
  | [x] => !h || (!(decide (220 ≤ x) && decide (x ≤ 223)) && !decide (x = 239))
  | [x, y] => lhd (u2 h x y) || lwh h [x, y]
  | [x, y, z] => lhd (u2 h x y) && (!h || (decide (220 ≤ z) && decide (z ≤ 223)))
  | r => lwh h r
theorem u2_in (h : Bool) {x y : Int} (hx : 0 ≤ x ∧ x ≤ 255) (hy : 0 ≤ y ∧ y ≤ 255) : 0 ≤ u2 h x y ∧ u2 h x y ≤ 65535 := by
  unfold u2; cases h <;> simp <;> omega
theorem sig_lsg {u : Int} (h0 : 0 ≤ u) (h1 : u ≤ 65535) : isSig (.int u) = lsg u := by
  rw [Bool.eq_iff_iff]
  unfold isSig wthn lsg
  simp
  omega
theorem whl2 (h : Bool) {x y : Int} (hx : 0 ≤ x ∧ x ≤ 255) (hy : 0 ≤ y ∧ y ≤ 255) : (whl h [x, y]).isSome = lsg (u2 h x y) := by
  obtain ⟨a, b⟩ := u2_in h hx hy
  show (if _ then signOf [u2 h x y] else none).isSome = _
  rw [if_pos (.inl rfl)]
  show (if _ then _ else _ : Option Int).isSome = _
  rw [sig_lsg a b]
  cases lsg (u2 h x y) <;> rfl
theorem whl4 (h : Bool) (x y z v : Int) : (whl h [x, y, z, v]).isSome = (lhd (u2 h x y) && ltl (u2 h z v)) := by
  show (if _ then signOf [u2 h x y, u2 h z v] else none).isSome = _
  rw [if_pos (.inr rfl)]
  show (if _ then _ else _ : Option Int).isSome = _
  generalize u2 h x y = a
  generalize u2 h z v = b
  by_cases c : (55296 ≤ a ∧ a < 56320) ∧ 56320 ≤ b ∧ b ≤ 57343
  · rw [if_pos c]
    unfold lhd ltl
    have : (decide (55296 ≤ a) && decide (a ≤ 56319) && (decide (56320 ≤ b) && decide (b ≤ 57343))) = true := by simp; omega
    rw [this]; rfl
  · rw [if_neg c]
    unfold lhd ltl
    have : (decide (55296 ≤ a) && decide (a ≤ 56319) && (decide (56320 ≤ b) && decide (b ≤ 57343))) = false := by
      rw [Bool.eq_false_iff]; intro z; apply c; simp at z; omega
    rw [this]; rfl
theorem whl_no (h : Bool) {r : List Int} (a : r.length ≠ 2) (b : r.length ≠ 4) : (whl h r).isSome = false := by
  unfold whl
  rw [if_neg (by omega)]; rfl
theorem lwh_eq (h : Bool) : ∀ {r : List Int}, Byts r → lwh h r = (whl h r).isSome
  | [], _ => rfl
  | [_], _ => rfl
  | [x, y], hb => (whl2 h (hb x (by simp)) (hb y (by simp))).symm
  | [_, _, _], _ => rfl
  | [x, y, z, v], _ => (whl4 h x y z v).symm
  | _ :: _ :: _ :: _ :: _ :: r, _ => (whl_no h (by simp) (by simp)).symm
def filB (h : Bool) (r : List Int) : Bool := (fills h).any fun f => (whl h (r ++ f)).isSome
theorem fil_any (h : Bool) (r : List Int) : (fil h r).isSome = filB h r := by
  unfold fil filB
  rw [Bool.eq_iff_iff, List.find?_isSome]
  simp
theorem lbg_eq (h : Bool) {r : List Int} (hb : Byts r) : lbg h r = (fil h r).isSome := by
  rw [fil_any]
  have b0 : (0 : Int) ≤ 0 ∧ (0 : Int) ≤ 255 := by decide
  have b220 : (0 : Int) ≤ 220 ∧ (220 : Int) ≤ 255 := by decide
  match r, hb with
  | [], _ => cases h <;> decide
  | [x], hb =>
    have bx := hb x (by simp)
    cases h with
    | true =>
      show _ = ((whl true [x]).isSome || ((whl true [x, 0]).isSome || ((whl true [x, 0, 0]).isSome || ((whl true [x, 220, 0]).isSome || ((whl true [x, 0, 220, 0]).isSome || false)))))
      rw [whl_no true (r := [x]) (by simp) (by simp), whl2 true bx b0, whl_no true (r := [x, 0, 0]) (by simp) (by simp), whl_no true (r := [x, 220, 0]) (by simp) (by simp), whl4, Bool.eq_iff_iff]
      simp [lbg, lsg, lhd, ltl, u2]
      omega
    | false =>
      show _ = ((whl false [x]).isSome || ((whl false [x, 0]).isSome || ((whl false [x, 220]).isSome || ((whl false [x, 0, 0]).isSome || ((whl false [x, 0, 220]).isSome || false)))))
      rw [whl2 false bx b0, Bool.eq_iff_iff]
      simp [lbg, lsg, u2]
      omega
  | [x, y], hb =>
    have bx := hb x (by simp)
    have bz := hb y (by simp)
    cases h with
    | true =>
      show _ = ((whl true [x, y]).isSome || ((whl true [x, y, 0]).isSome || ((whl true [x, y, 0, 0]).isSome || ((whl true [x, y, 220, 0]).isSome || ((whl true [x, y, 0, 220, 0]).isSome || false)))))
      rw [whl2 true bx bz, whl_no true (r := [x, y, 0]) (by simp) (by simp), whl_no true (r := [x, y, 0, 220, 0]) (by simp) (by simp), whl4, whl4, Bool.eq_iff_iff]
      simp [lbg, lwh, ltl, u2]
      generalize lhd (x * 256 + y) = p
      generalize lsg (x * 256 + y) = q
      cases p <;> cases q <;> simp
    | false =>
      show _ = ((whl false [x, y]).isSome || ((whl false [x, y, 0]).isSome || ((whl false [x, y, 220]).isSome || ((whl false [x, y, 0, 0]).isSome || ((whl false [x, y, 0, 220]).isSome || false)))))
      rw [whl2 false bx bz, whl_no false (r := [x, y, 0]) (by simp) (by simp), whl_no false (r := [x, y, 220]) (by simp) (by simp), whl4, whl4, Bool.eq_iff_iff]
      simp [lbg, lwh, ltl, u2]
      generalize lhd (y * 256 + x) = p
      generalize lsg (y * 256 + x) = q
      cases p <;> cases q <;> simp
  | [x, y, z], hb =>
    have bz := hb z (by simp)
    cases h with
    | true =>
      show _ = ((whl true [x, y, z]).isSome || ((whl true [x, y, z, 0]).isSome || ((whl true [x, y, z, 0, 0]).isSome || ((whl true [x, y, z, 220, 0]).isSome || ((whl true [x, y, z, 0, 220, 0]).isSome || false)))))
      rw [whl_no true (r := [x, y, z]) (by simp) (by simp), whl_no true (r := [x, y, z, 0, 0]) (by simp) (by simp), whl_no true (r := [x, y, z, 220, 0]) (by simp) (by simp), whl_no true (r := [x, y, z, 0, 220, 0]) (by simp) (by simp), whl4, Bool.eq_iff_iff]
      simp [lbg, ltl, u2]
      intro _
      omega
    | false =>
      show _ = ((whl false [x, y, z]).isSome || ((whl false [x, y, z, 0]).isSome || ((whl false [x, y, z, 220]).isSome || ((whl false [x, y, z, 0, 0]).isSome || ((whl false [x, y, z, 0, 220]).isSome || false)))))
      rw [whl_no false (r := [x, y, z]) (by simp) (by simp), whl_no false (r := [x, y, z, 0, 0]) (by simp) (by simp), whl_no false (r := [x, y, z, 0, 220]) (by simp) (by simp), whl4, whl4, Bool.eq_iff_iff]
      simp [lbg, ltl, u2]
      generalize lhd (y * 256 + x) = p
      cases p <;> simp
      omega
  | x :: y :: z :: v :: r, hb =>
    have e : lbg h (x :: y :: z :: v :: r) = lwh h (x :: y :: z :: v :: r) := by cases r <;> rfl
    rw [e, lwh_eq h hb]
    have no : ∀ f : List Int, f ≠ [] → (whl h (x :: y :: z :: v :: (r ++ f))).isSome = false := fun f hf => whl_no h (by simp) (by
      have := List.length_pos_iff.mpr hf
      intro z
      simp only [List.length_cons, List.length_append] at z
      omega)
    unfold filB fills
    cases h <;> simp [no]
end
end My
namespace My
open PySem L2
section
variable {P : Program} {w : World} {K : PySem.W.Frag} {mg : Str → Option Value} {base : Heap} {t : Adr}
def spLook (K : PySem.W.Frag) (t : Adr) : Sp := fun vs H Q _ => ∃ (o a : Addr) (h : Bool) (r : List Int), vs = [.ref o, .ref a, .int 0] ∧ Po t H o h ∧ SqL K H a (r.map V.int) ∧ Byts r ∧ r.length ≤ 900 ∧
  (∀ n, whl h r = some n → ∀ p H', Gro H p (.tup [.str "sign", .int n, .int 0]) H' → Q (.ref p) H') ∧ (whl h r = none → fil h r = none → ∀ p H', Gro H p (.tup [.str "none", .non, .int 0]) H' → Q (.ref p) H') ∧
  (whl h r = none → fil h r ≠ none → ∀ p H', Gro H p (.tup [.str "more", .non, .int 0]) H' → Q (.ref p) H')
theorem ok_look (T : Txt w K mg t) : FnOk P w K mg base CX0 7 t.a_Tongue_look t.f_Tongue_look ["self", "begun", "page"] (spLook K t) := by
  refine T.F_Tongue_look.okQ sc_Tongue_look (fun vs H Q E h => by obtain ⟨o, a, h, r, rfl, _⟩ := h; rfl) fun cdv A outer s H vs Q E hr h => ?_
  obtain ⟨o, a, h, r, rfl, po, ha, hb, hl, k1, k2, k3⟩ := h
  have hu := hr.units
  refine ⟨_, (q_pss_cons (q_ps_set (i := 3) sc_Tongue_look.nd rfl (.inl rfl) (q_methD (h_PairTongue_whole_0 T) hr (q_vv 0) (q_pa_c (q_vv 1) (q_pa_c (q_vv 2) q_pa_nil))))
      (q_pss_cons (q_ps_if (q_mt_cmp g_isnot (q_vv 3) q_pe_non (nomark _)) (q_pss_one (q_ps_ret (q_me_tup (q_pa_c q_pe_str (q_pa_c (q_pe_ix (g_ixK (K := K) rfl) (q_vv 3) q_pe_int (fun _ _ => rfl)) (q_pa_c (q_pe_ix (g_ixK (K := K) rfl) (q_vv 3) q_pe_int (fun _ _ => rfl)) q_pa_nil)))))) q_pss_nil)
      (q_pss_cons (q_ps_if (q_mt_cmp g_is (q_methD (h_PairTongue_fill_0 T) hr (q_vv 0) (q_pa_c (q_vv 1) (q_pa_c (q_vv 2) q_pa_nil))) q_pe_non (nomark _)) (q_pss_one (q_ps_ret (q_me_tup (q_pa_c q_pe_str (q_pa_c q_pe_non (q_pa_c (q_vv 2) q_pa_nil)))))) q_pss_nil)
      (q_pss_one (q_ps_ret (q_me_tup (q_pa_c q_pe_str (q_pa_c q_pe_non (q_pa_c (q_vv 2) q_pa_nil))))))))), ?_⟩
  obtain ⟨dx, ho⟩ := id po
  refine ⟨o, dx, _, rfl, ho, rfl, ?_⟩
  refine ⟨o, a, h, r, rfl, po, ha, hb, by omega, fun n y p H' g => ?_, fun y H2 s2 => ?_⟩
  · refine ⟨_, .int n, .inr g.tup, atI_nat (j := 0) rfl, ?_⟩
    refine ⟨_, .int 0, .inr g.tup, atI_nat (j := 1) rfl, ?_⟩
    exact ⟨sz rfl, fun p3 H3 g3 => k1 n y p3 H3 (g3.after g.sm)⟩
  · refine ⟨o, dx, _, rfl, s2 _ _ ho, rfl, ?_⟩
    refine ⟨o, a, h, r, rfl, po.mono s2, s2.seq ha, hb, hl, fun f y2 p H' g => ?_, fun y2 H3 s3 => ?_⟩
    · exact ⟨sz rfl, fun p3 H3 g3 => k3 y (by rw [y2]; simp) p3 H3 (g3.after (s2.trans g.sm))⟩
    · exact ⟨sz rfl, fun p3 H4 g3 => k2 y y2 p3 H4 (g3.after (s2.trans s3))⟩
theorem h_PairTongue_look_0 (T : Txt w K mg t) : HasMD P w K mg base t.c_PairTongue "look" 7 t.a_Tongue_look t.f_Tongue_look ["self", "begun", "page"] [] (spLook K t) :=
  ⟨T.cls_PairTongue, T.mt_PairTongue_look, ⟨_, T.b_Tongue_look, .nil⟩, ok_look T⟩
theorem hk_PairTongue_1 (T : Txt w K mg t) : HasKD P w K mg base "PairTongue" t.c_PairTongue 1 t.a_PairTongue_init t.f_PairTongue_init ["self", "order"] [.str (ordOf true)] (spInit t) := ⟨T.gc_PairTongue, T.mk_PairTongue, ⟨_, T.bd_PairTongue_init, .cons ⟨_, rfl⟩ .nil⟩, ok_init T⟩
theorem h_PairTongue_unit (T : Txt w K mg t) : HasM P w K mg base t.c_PairTongue "unit" 1 t.a_PairTongue_unit t.f_PairTongue_unit ["self"] (fun vs H Q _ => ∃ o, vs = [o] ∧ Q (.int 2) H) := by
  refine ⟨T.cls_PairTongue, T.mt_PairTongue_unit, T.b_PairTongue_unit, T.F_PairTongue_unit.okQ sc_PairTongue_unit (fun vs H Q E h => by obtain ⟨o, rfl, _⟩ := h; rfl) fun cdv A outer s H vs Q E hr h => ?_⟩
  obtain ⟨o, rfl, k⟩ := h
  exact ⟨_, (q_pss_one (q_ps_ret q_pe_int)), k⟩
end
end My
namespace My
open PySem L2
theorem set_nx {i : Nat} {v : V} {σ : St} {H : Hp} {Q : St → Hp → Prop} (h : Q (σ.set i (some v)) H) : gName i v σ H Q := h
/-- a spot as it is told -/
def SpL (H : Hp) (k : Spt) (v : V) : Prop := ∃ a l, v = .ref a ∧ H a = some (.tup [.int k.1, .ref l]) ∧ H l = some (.lst (k.2.map V.int))
theorem SpL.same {H H' : Hp} (s : Same H H') (k : Spt) (v : V) (h : SpL H k v) : SpL H' k v := by
  obtain ⟨a, l, rfl, h1, h2⟩ := h
  exact ⟨a, l, rfl, s _ _ h1, s _ _ h2⟩
class Od where
  h : Bool
section
variable [O : Od]
def spots0 : List Spt := [(0, []), (0, ub O.h 55296)]
open Classical in
noncomputable def nx (k : Spt) (u : List Int) : Option Spt := if Byts (k.2 ++ u) ∧ (k.2 ++ u).length ≤ 900 then (if (whl O.h (k.2 ++ u)).isSome then some (0, []) else if (fil O.h (k.2 ++ u)).isSome then some (0, k.2 ++ u) else none) else none
def Gd (k : Spt) : Prop := k.1 = 0 ∧ k.2.length ≤ 10 ∧ Byts k.2
def Ug (u : List Int) : Prop := u.length ≤ 100 ∧ Byts u
end
section
variable {P : Program} {w : World} {K : PySem.W.Frag} {mg : Str → Option Value} {base : Heap} {t : Adr}
variable [O : Od]
def TO (t : Adr) (H : Hp) (o : Addr) : Prop := Po t H o O.h
theorem TO.same {H H' : Hp} {o : Addr} (s : Same H H') (h : TO t H o) : TO t H' o := Po.mono h s
theorem fil_len {h : Bool} {r : List Int} (e : (fil h r).isSome = true) : r.length ≤ 4 := by
  rw [fil_any] at e
  unfold filB at e
  obtain ⟨f, _, hf⟩ := List.any_eq_true.mp e
  unfold whl at hf
  by_cases c : (r ++ f).length = 2 ∨ (r ++ f).length = 4
  · rw [List.length_append] at c
    omega
  · rw [if_neg c] at hf
    cases hf
theorem nx_gd {k k' : Spt} {u : List Int} (h : nx k u = some k') : Gd k' := by
  unfold nx at h
  split at h
  · rename_i c
    split at h
    · cases h; exact ⟨rfl, Nat.zero_le _, fun _ z => (nomatch z)⟩
    · split at h
      · rename_i c2
        cases h
        exact ⟨rfl, Nat.le_trans (fil_len c2) (by decide), c.1⟩
      · cases h
  · cases h
def spSB (K : PySem.W.Frag) (t : Adr) : Sp := fun vs H Q _ => ∃ (o p u : Addr) (k : Spt) (us : List Int), vs = [.ref o, .ref p, .ref u] ∧ TO t H o ∧ KyA H k p ∧ H u = some (.tup (us.map V.int)) ∧ Gd k ∧ Ug us ∧
  (nx k us = none → ∀ H', Same H H' → Q .non H') ∧ ∀ k' q H', nx k us = some k' → Same H H' → KyA H' k' q → Q (.ref q) H'
theorem h_spot_behind (T : Txt w K mg t) : Has P w K mg base "spot_behind" 8 t.a_spot_behind t.f_spot_behind ["tongue", "spot", "unit"] (spSB K t) := by
  refine ⟨T.g_spot_behind, T.F_spot_behind.kp, T.b_spot_behind, T.F_spot_behind.okQ sc_spot_behind (fun vs H Q E h => by obtain ⟨o, p, u, k, us, rfl, _⟩ := h; rfl) fun cdv A outer s H vs Q E hr h => ?_⟩
  obtain ⟨o, p, u, k, us, rfl, ho, ⟨b, hp, hb⟩, hus, ⟨gd1, gd2, gd3⟩, ⟨hl, hby⟩, kn, ks⟩ := h
  have hu := hr.units
  obtain ⟨kp, kb⟩ := k
  obtain rfl : kp = 0 := gd1
  have gd2 : kb.length ≤ 10 := gd2
  have by2 : Byts (kb ++ us) := gd3.app hby
  have ln : (kb ++ us).length ≤ 900 := by simp; omega
  have enx : nx (0, kb) us = if (whl O.h (kb ++ us)).isSome then some (0, []) else if (fil O.h (kb ++ us)).isSome then some (0, kb ++ us) else none := by
    unfold nx
    rw [if_pos ⟨by2, ln⟩]
  refine ⟨_, (q_pss_cons (q_ps_set (i := 3) sc_spot_behind.nd rfl (.inl rfl) (q_pe_op (g_catTK (K := K) rfl) (q_pe_ix (g_ixK (K := K) rfl) (q_vv 1) q_pe_int (fun _ _ => rfl)) (q_vv 2)))
      (q_pss_cons (q_ps_set (i := 4) sc_spot_behind.nd rfl (.inl rfl) (q_methD (h_PairTongue_look_0 T) hr (q_vv 0) (q_pa_c (q_calTy (c_listK (K := K) rfl) T.n_list PyProof.Rows.boot_list (q_pa_c (q_vv 3) q_pa_nil)) (q_pa_c (q_pe_ix (g_ixK (K := K) rfl) (q_vv 1) q_pe_int (fun _ _ => rfl)) q_pa_nil))))
      (q_pss_cons (q_ps_if (q_mt_cmp (g_eqK (K := K) rfl hu) (q_pe_ix (g_ixK (K := K) rfl) (q_vv 4) q_pe_int (fun _ _ => rfl)) q_pe_str (nomark _)) (q_pss_one (q_ps_ret q_pe_non)) q_pss_nil)
      (q_pss_one (q_ps_ret (q_me_tup (q_pa_c (q_pe_ix (g_ixK (K := K) rfl) (q_vv 4) q_pe_int (fun _ _ => rfl)) (q_pa_c (q_pe_ifExp (q_mt_cmp (g_eqK (K := K) rfl hu) (q_pe_ix (g_ixK (K := K) rfl) (q_vv 4) q_pe_int (fun _ _ => rfl)) q_pe_str (nomark _)) (q_me_tup q_pa_nil) (q_vv 3)) q_pa_nil)))))))), ?_⟩
  refine ⟨_, .ref b, .inr (.of hp), atI_nat (j := 1) rfl, ?_⟩
  refine ⟨b, u, _, _, rfl, rfl, hb, hus, szl (by simp; omega), fun bg H1 s1 hbg => ?_⟩
  rw [← List.map_append] at hbg
  have hbg : H1 bg = some (.tup ((kb ++ us).map V.int)) := hbg
  obtain ⟨dx, ho'⟩ := id ho
  refine set_nx ?_
  dsimp only
  refine seq_nx (fun σ' H' => ∃ (pf : Addr) (x : Str) (n : V), σ' = [some (.ref o), some (.ref p), some (.ref u), some (.ref bg), some (.ref pf)] ∧ Same H1 H' ∧ H' pf = some (.tup [.str x, n, .int 0]) ∧ ((x = "sign" ∧ (whl O.h (kb ++ us)).isSome = true) ∨ (x = "none" ∧ (whl O.h (kb ++ us)).isSome = false ∧ (fil O.h (kb ++ us)).isSome = false) ∨ (x = "more" ∧ (whl O.h (kb ++ us)).isSome = false ∧ (fil O.h (kb ++ us)).isSome = true))) (fun nx hn => ?_) ?_
  · refine ⟨o, dx, _, rfl, s1 _ _ ho', rfl, ?_⟩
    refine ⟨_, .inr (.of hbg), fun lb H2 g2 => ?_⟩
    refine ⟨_, .int 0, .inr (.of (g2.sm _ _ (s1 _ _ hp))), atI_nat (j := 0) rfl, ?_⟩
    refine ⟨o, lb, O.h, kb ++ us, rfl, Po.mono ho (s1.trans g2.sm), g2.lst, by2, ln, fun n y pf HC gC => hn _ _ ⟨pf, "sign", _, rfl, g2.sm.trans gC.sm, gC.at_, .inl ⟨rfl, by rw [y]; rfl⟩⟩, fun y y2 pf HC gC => hn _ _ ⟨pf, "none", _, rfl, g2.sm.trans gC.sm, gC.at_, .inr (.inl ⟨rfl, by rw [y]; rfl, by rw [y2]; rfl⟩)⟩, fun y y2 pf HC gC => hn _ _ ⟨pf, "more", _, rfl, g2.sm.trans gC.sm, gC.at_, .inr (.inr ⟨rfl, by rw [y]; rfl, Option.isSome_iff_ne_none.mpr y2⟩)⟩⟩
  rintro σ' H2 ⟨pf, x, n, rfl, s2, hpf, hx⟩
  have hok : PyData.strOk x = true := by
    rcases hx with ⟨z, _⟩ | ⟨z, _⟩ | ⟨z, _⟩ <;> rw [z] <;> decide +kernel
  refine ⟨_, .str x, .inr (.of hpf), atI_nat (j := 0) rfl, ?_⟩
  refine ⟨_, _, DataV.str x, DataV.str _, by simp [SeqAt.shaped, PyData.canLay0, PyData.depth, hok], by decide +kernel, ?_⟩
  refine ite2 (fun e => ?_) (fun e => ?_)
  · have ex : x = "none" := by simpa [PyData.eqv] using e
    refine kn ?_ _ (s1.trans s2)
    rcases hx with ⟨z, _⟩ | ⟨_, y1, y2⟩ | ⟨z, _⟩
    · exact absurd (z.symm.trans ex) (by decide)
    · rw [enx, y1, y2]; rfl
    · exact absurd (z.symm.trans ex) (by decide)
  · refine ⟨_, .int 0, .inr (.of hpf), atI_nat (j := 2) rfl, ?_⟩
    refine ⟨_, .str x, .inr (.of hpf), atI_nat (j := 0) rfl, ?_⟩
    refine ⟨_, _, DataV.str x, DataV.str _, by simp [SeqAt.shaped, PyData.canLay0, PyData.depth, hok], by decide +kernel, ?_⟩
    refine ite2 (fun e2 => ?_) (fun e2 => ?_)
    · have ex : x = "sign" := by simpa [PyData.eqv] using e2
      have y : (whl O.h (kb ++ us)).isSome = true := by
        rcases hx with ⟨_, y⟩ | ⟨z, _⟩ | ⟨z, _⟩
        · exact y
        · exact absurd (z.symm.trans ex) (by decide)
        · exact absurd (z.symm.trans ex) (by decide)
      refine ⟨sz rfl, fun q0 H3 g3 => ?_⟩
      refine ⟨sz rfl, fun q1 H4 g4 => ks (0, []) q1 H4 (by rw [enx, y]; rfl) (s1.trans (s2.trans (g3.sm.trans g4.sm))) ⟨q0, g4.at_, g4.sm _ _ g3.at_⟩⟩
    · have ex : x ≠ "sign" := fun z => e2 (by rw [z]; decide +kernel)
      have ex2 : x ≠ "none" := fun z => e (by rw [z]; decide +kernel)
      obtain ⟨y1, y2⟩ : (whl O.h (kb ++ us)).isSome = false ∧ (fil O.h (kb ++ us)).isSome = true := by
        rcases hx with ⟨z, _⟩ | ⟨z, _⟩ | ⟨_, y⟩
        · exact absurd z ex
        · exact absurd z ex2
        · exact y
      refine ⟨sz rfl, fun q1 H4 g4 => ks (0, kb ++ us) q1 H4 (by rw [enx, y1, y2]; rfl) (s1.trans (s2.trans g4.sm)) ⟨bg, g4.at_, g4.sm _ _ (s2 _ _ hbg)⟩⟩
end
end My
namespace My
open PySem L2
section
variable [O : Od]
/-! ### layers -/
def KyV (H : Hp) (k : Spt) (v : V) : Prop := ∃ p, v = .ref p ∧ KyA H k p
def LyV (H : Hp) (v : V) (ks : List Spt) : Prop := ∃ l vs, v = .ref l ∧ H l = some (.lst vs) ∧ Paired (KyV H) ks vs
def Lyr (H : Hp) (d : Addr) (ly : List (Spt × List Spt)) : Prop := ∃ kvs, DN H d kvs ∧ Paired (fun (x : Spt × Addr × V) (y : Spt × List Spt) => x.1 = y.1 ∧ LyV H x.2.2 y.2) kvs ly
theorem KyV.same {H H' : Hp} (s : Same H H') (k : Spt) (v : V) (h : KyV H k v) : KyV H' k v := by
  obtain ⟨p, rfl, h⟩ := h
  exact ⟨p, rfl, h.same s⟩
theorem LyV.same {H H' : Hp} (s : Same H H') {v : V} {ks : List Spt} (h : LyV H v ks) : LyV H' v ks := by
  obtain ⟨l, vs, rfl, h1, h2⟩ := h
  exact ⟨l, vs, rfl, s _ _ h1, Paired.mapP h2 fun k v => KyV.same s k v⟩
theorem Lyr.same {H H' : Hp} (s : Same H H') {d : Addr} {ly : List (Spt × List Spt)} (h : Lyr H d ly) : Lyr H' d ly := by
  obtain ⟨kvs, h1, h2⟩ := h
  exact ⟨kvs, h1.same s, Paired.mapP h2 fun x y z => ⟨z.1, z.2.same s⟩⟩
theorem dn_ext {H : Hp} {d : Addr} {kvs : List (Spt × Addr × V)} (h : DN H d kvs) : ∃ φ, H d = some (.ext φ) := by
  obtain ⟨⟨xs, ep, h, _⟩, _⟩ := h
  exact ⟨_, h⟩
theorem ky_put {H H' : Hp} {d : Addr} (e : ∃ φ, H d = some (.ext φ)) (s : ∀ c, c ≠ d → H' c = H c) {k : Spt} {p : Addr} (h : KyA H k p) : KyA H' k p := by
  obtain ⟨φ, e⟩ := e
  obtain ⟨b, h1, h2⟩ := h
  refine ⟨b, by rw [s _ (ne_of h1 e (by intro z; cases z))]; exact h1, by rw [s _ (ne_of h2 e (by intro z; cases z))]; exact h2⟩
theorem ly_put {H H' : Hp} {d : Addr} (e : ∃ φ, H d = some (.ext φ)) (s : ∀ c, c ≠ d → H' c = H c) {v : V} {ks : List Spt} (h : LyV H v ks) : LyV H' v ks := by
  obtain ⟨l, vs, rfl, h1, h2⟩ := h
  obtain ⟨φ, e'⟩ := id e
  refine ⟨l, vs, rfl, by rw [s _ (ne_of h1 e' (by intro z; cases z))]; exact h1, Paired.mapP h2 fun k v z => ?_⟩
  obtain ⟨p, rfl, z⟩ := z
  exact ⟨p, rfl, ky_put e s z⟩
theorem same_put {H H1 H' : Hp} {d : Addr} (s0 : Same H H1) (hd : H d = none) (s : ∀ c, c ≠ d → H' c = H1 c) : Same H H' := fun b o h => by
  rw [s b (ne_of_none h hd)]
  exact s0 _ _ h
def getF (ly : List (Spt × List Spt)) (k : Spt) : Option (List Spt) := (ly.find? fun x => decide (x.1 = k)).map (·.2)
def putF (ly : List (Spt × List Spt)) (k : Spt) (l : List Spt) : List (Spt × List Spt) := if (getF ly k).isSome then ly.map (fun x => if x.1 = k then (x.1, l) else x) else ly ++ [(k, l)]
noncomputable def stepB (u : List Int) (ly : List (Spt × List Spt)) (k : Spt) : List (Spt × List Spt) := match nx k u with
  | none => ly
  | some g => putF ly g ((getF ly g).getD [] ++ [k])
noncomputable def beh (ks : List Spt) (u : List Int) : List (Spt × List Spt) := ks.foldl (stepB u) []
theorem ly_get {H : Hp} {kvs : List (Spt × Addr × V)} {ly : List (Spt × List Spt)} (r : Paired (fun (x : Spt × Addr × V) (y : Spt × List Spt) => x.1 = y.1 ∧ LyV H x.2.2 y.2) kvs ly) (k : Spt) : (valN kvs k = none ∧ getF ly k = none) ∨ ∃ v l, valN kvs k = some v ∧ getF ly k = some l ∧ LyV H v l := by
  induction r with
  | nil => exact .inl ⟨rfl, rfl⟩
  | @cons p q ps qs h t ih =>
    by_cases e : p.1 = k
    · have e' : q.1 = k := h.1.symm.trans e
      exact .inr ⟨p.2.2, q.2, by simp [valN, List.find?_cons, e], by simp [getF, List.find?_cons, e'], h.2⟩
    · have e' : ¬ q.1 = k := fun z => e (h.1.trans z)
      have a : valN (p :: ps) k = valN ps k := by simp [valN, List.find?_cons, e]
      have b : getF (q :: qs) k = getF qs k := by simp [getF, List.find?_cons, e']
      rw [a, b]
      exact ih
theorem ly_putF {H H' : Hp} {kvs : List (Spt × Addr × V)} {ly : List (Spt × List Spt)} (r : Paired (fun (x : Spt × Addr × V) (y : Spt × List Spt) => x.1 = y.1 ∧ LyV H x.2.2 y.2) kvs ly) (k : Spt) (b : Addr) {v : V} {l : List Spt} (up : ∀ {v ks}, LyV H v ks → LyV H' v ks) (hv : LyV H' v l) :
    Paired (fun (x : Spt × Addr × V) (y : Spt × List Spt) => x.1 = y.1 ∧ LyV H' x.2.2 y.2) (putN kvs k b v) (putF ly k l) := by
  have e : (valN kvs k).isSome = (getF ly k).isSome := by
    rcases ly_get r k with ⟨a, b⟩ | ⟨v, l, a, b, _⟩ <;> rw [a, b] <;> rfl
  unfold putN putF
  rw [e]
  split
  · rename_i c
    clear e c
    induction r with
    | nil => exact .nil
    | @cons p q ps qs h t ih =>
      rw [List.map_cons, List.map_cons]
      refine .cons ?_ ih
      by_cases e : p.1 = k
      · rw [if_pos e, if_pos (h.1.symm.trans e)]; exact ⟨h.1, hv⟩
      · rw [if_neg e, if_neg (fun z => e (h.1.trans z))]; exact ⟨h.1, up h.2⟩
  · exact Paired.snoc (Paired.mapP r fun x y z => ⟨z.1, up z.2⟩) ⟨rfl, hv⟩
/-- what a layer behind is -/
structure Chr (u : List Int) (ks : List Spt) (ly : List (Spt × List Spt)) : Prop where
  nd : (ly.map (·.1)).Nodup
  mem : ∀ g l, (g, l) ∈ ly → l ≠ [] ∧ l.Nodup ∧ l.length ≤ ks.length ∧ ∀ k, k ∈ l ↔ k ∈ ks ∧ nx k u = some g
  all : ∀ k g, k ∈ ks → nx k u = some g → ∃ l, (g, l) ∈ ly
  len : ly.length ≤ ks.length
theorem getF_some {ly : List (Spt × List Spt)} {k : Spt} {l : List Spt} (h : getF ly k = some l) : (k, l) ∈ ly := by
  unfold getF at h
  obtain ⟨x, h1, h2⟩ := Option.map_eq_some_iff.mp h
  have e : x.1 = k := by simpa using List.find?_some h1
  rw [← e, ← h2]
  exact List.mem_of_find?_eq_some h1
theorem getF_none {ly : List (Spt × List Spt)} {k : Spt} (h : getF ly k = none) : ∀ l, (k, l) ∉ ly := by
  unfold getF at h
  rw [Option.map_eq_none_iff, List.find?_eq_none] at h
  intro l hl
  simpa using h _ hl
theorem Chr.step {u : List Int} {ks : List Spt} {ly : List (Spt × List Spt)} (c : Chr u ks ly) {k : Spt} (hk : k ∉ ks) : Chr u (ks ++ [k]) (stepB u ly k) := by
  unfold stepB
  cases hn : nx k u with
  | none =>
    refine ⟨c.nd, fun g l h => ?_, fun k' g h1 h2 => ?_, by have := c.len; simp; omega⟩
    · obtain ⟨a1, a2, a3, a4⟩ := c.mem g l h
      refine ⟨a1, a2, by simp; omega, fun k' => ?_⟩
      rw [a4, List.mem_append, List.mem_singleton]
      constructor
      · rintro ⟨x, y⟩; exact ⟨.inl x, y⟩
      · rintro ⟨x | x, y⟩
        · exact ⟨x, y⟩
        · rw [x, hn] at y; cases y
    · rcases List.mem_append.mp h1 with z | z
      · exact c.all k' g z h2
      · rw [List.mem_singleton.mp z, hn] at h2; cases h2
  | some g0 =>
    show Chr u (ks ++ [k]) (putF ly g0 ((getF ly g0).getD [] ++ [k]))
    cases hg : getF ly g0 with
    | none =>
      have no := getF_none hg
      have e : putF ly g0 ((none : Option (List Spt)).getD [] ++ [k]) = ly ++ [(g0, [k])] := by unfold putF; rw [hg]; rfl
      rw [e]
      refine ⟨?_, fun g l h => ?_, fun k' g h1 h2 => ?_, by have := c.len; simp; omega⟩
      · rw [List.map_append]
        refine List.nodup_append.mpr ⟨c.nd, by simp, fun a ha b hb => ?_⟩
        rintro rfl
        obtain ⟨x, hx, rfl⟩ := List.mem_map.mp ha
        have : x.1 = g0 := by simpa using hb
        exact no x.2 (by rw [← this]; exact hx)
      · rcases List.mem_append.mp h with z | z
        · obtain ⟨a1, a2, a3, a4⟩ := c.mem g l z
          refine ⟨a1, a2, by simp; omega, fun k' => ?_⟩
          rw [a4, List.mem_append, List.mem_singleton]
          constructor
          · rintro ⟨x, y⟩; exact ⟨.inl x, y⟩
          · rintro ⟨x | x, y⟩
            · exact ⟨x, y⟩
            · rw [x, hn] at y; cases y; exact absurd z (no l)
        · have z' := List.mem_singleton.mp z
          injection z' with z1 z2
          subst z1 z2
          refine ⟨by simp, by simp, by simp, fun k' => ?_⟩
          rw [List.mem_append, List.mem_singleton]
          constructor
          · rintro rfl; exact ⟨.inr rfl, hn⟩
          · rintro ⟨x | x, y⟩
            · obtain ⟨l, hl⟩ := c.all k' _ x y
              exact absurd hl (no l)
            · exact x
      · rcases List.mem_append.mp h1 with z | z
        · obtain ⟨l, hl⟩ := c.all k' g z h2
          exact ⟨l, List.mem_append_left _ hl⟩
        · rw [List.mem_singleton.mp z, hn] at h2
          cases h2
          exact ⟨[k], List.mem_append_right _ (List.mem_singleton.mpr rfl)⟩
    | some l0 =>
      have yes := getF_some hg
      have e : putF ly g0 ((some l0).getD [] ++ [k]) = ly.map fun x => if x.1 = g0 then (x.1, l0 ++ [k]) else x := by unfold putF; rw [hg]; rfl
      rw [e]
      obtain ⟨b1, b2, b3, b4⟩ := c.mem g0 l0 yes
      refine ⟨?_, fun g l h => ?_, fun k' g h1 h2 => ?_, by have := c.len; simp; omega⟩
      · rw [List.map_map]
        have : ((fun x : Spt × List Spt => x.1) ∘ fun x : Spt × List Spt => if x.1 = g0 then (x.1, l0 ++ [k]) else x) = fun x => x.1 := by
          funext x
          simp only [Function.comp]
          split <;> rfl
        rw [this]
        exact c.nd
      · obtain ⟨x, hx, ex⟩ := List.mem_map.mp h
        by_cases e1 : x.1 = g0
        · rw [if_pos e1] at ex
          injection ex with z1 z2
          subst z1 z2
          rw [e1] at *
          refine ⟨by simp, ?_, by simp; omega, fun k' => ?_⟩
          · refine List.nodup_append.mpr ⟨b2, by simp, fun a ha b hb => ?_⟩
            rintro rfl
            exact hk ((List.mem_singleton.mp hb) ▸ ((b4 a).mp ha).1)
          · rw [List.mem_append, List.mem_singleton, List.mem_append, List.mem_singleton, b4]
            constructor
            · rintro (⟨x, y⟩ | rfl)
              · exact ⟨.inl x, y⟩
              · exact ⟨.inr rfl, hn⟩
            · rintro ⟨x | x, y⟩
              · exact .inl ⟨x, y⟩
              · exact .inr x
        · rw [if_neg e1] at ex
          subst ex
          obtain ⟨a1, a2, a3, a4⟩ := c.mem g l hx
          refine ⟨a1, a2, by simp; omega, fun k' => ?_⟩
          rw [a4, List.mem_append, List.mem_singleton]
          constructor
          · rintro ⟨x, y⟩; exact ⟨.inl x, y⟩
          · rintro ⟨x | x, y⟩
            · exact ⟨x, y⟩
            · rw [x, hn] at y; cases y; exact absurd rfl e1
      · rcases List.mem_append.mp h1 with z | z
        · obtain ⟨l, hl⟩ := c.all k' g z h2
          by_cases e1 : g = g0
          · exact ⟨_, List.mem_map.mpr ⟨_, hl, by rw [if_pos e1]⟩⟩
          · exact ⟨l, List.mem_map.mpr ⟨_, hl, by rw [if_neg e1]⟩⟩
        · rw [List.mem_singleton.mp z, hn] at h2
          cases h2
          exact ⟨_, List.mem_map.mpr ⟨_, yes, by rw [if_pos rfl]⟩⟩
theorem Chr.nil (u : List Int) : Chr u [] [] := ⟨List.nodup_nil, fun _ _ h => (nomatch h), fun _ _ h => (nomatch h), Nat.le_refl _⟩
theorem chr_fold {u : List Int} : ∀ (ks ks1 : List Spt) (ly : List (Spt × List Spt)), Chr u ks1 ly → (ks1 ++ ks).Nodup → Chr u (ks1 ++ ks) (ks.foldl (stepB u) ly)
  | [], ks1, ly, c, _ => by rw [List.append_nil]; exact c
  | k :: ks, ks1, ly, c, nd => by
    have hk : k ∉ ks1 := fun z => (List.nodup_append.mp nd).2.2 k z k (List.mem_cons_self ..) rfl
    have := chr_fold ks (ks1 ++ [k]) (stepB u ly k) (c.step hk) (by rw [List.append_assoc]; exact nd)
    rw [List.append_assoc] at this
    exact this
theorem beh_chr {u : List Int} {ks : List Spt} (nd : ks.Nodup) : Chr u ks (beh ks u) := chr_fold ks [] [] (Chr.nil u) nd
end
end My
namespace My
open PySem L2
section
variable [O : Od]
section
variable {P : Program} {w : World} {K : PySem.W.Frag} {mg : Str → Option Value} {base : Heap} {t : Adr}
theorem ly_keys {H : Hp} {kvs : List (Spt × Addr × V)} {ly : List (Spt × List Spt)} (r : Paired (fun (x : Spt × Addr × V) (y : Spt × List Spt) => x.1 = y.1 ∧ LyV H x.2.2 y.2) kvs ly) : kvs.map (·.1) = ly.map (·.1) := by
  induction r with
  | nil => rfl
  | cons h t ih => rw [List.map_cons, List.map_cons, ih, h.1]
theorem beh_len {ks : List Spt} {u : List Int} (nd : ks.Nodup) : (beh ks u).length ≤ ks.length := (beh_chr nd).len
theorem beh_get {ks : List Spt} {u : List Int} (nd : ks.Nodup) (g : Spt) : ((getF (beh ks u) g).getD []).length ≤ ks.length := by
  cases h : getF (beh ks u) g with
  | none => exact Nat.zero_le _
  | some l => exact ((beh_chr nd).mem g l (getF_some h)).2.2.1
/-- without the lists of H -/
def hidL (H H' : Hp) : Hp := fun b => match H b with
  | some (.lst _) => none
  | _ => H' b
theorem hidL_to (H H' : Hp) : Same (hidL H H') H' := fun b o h => by
  unfold hidL at h
  split at h
  · cases h
  · exact h
theorem hidL_at {H H' : Hp} {b : Addr} {o : HO} (h : H' b = some o) (n : ∀ xs, H b ≠ some (.lst xs)) : hidL H H' b = some o := by
  unfold hidL
  split
  · rename_i xs e
    exact absurd e (n xs)
  · exact h
theorem hidL_mono {H H1 H2 : Hp} (s : Same H1 H2) : Same (hidL H H1) (hidL H H2) := fun b o h => by
  refine hidL_at (s _ _ (hidL_to _ _ _ _ h)) fun xs e => ?_
  unfold hidL at h
  rw [e] at h
  cases h
theorem hidL_ne {H H1 H2 : Hp} {d : Addr} (s : ∀ c, c ≠ d → H2 c = H1 c) : ∀ c, c ≠ d → hidL H H2 c = hidL H H1 c := fun c hc => by
  unfold hidL
  rw [s c hc]
theorem ky_hid {H H' : Hp} (s : Same H H') {k : Spt} {p : Addr} (h : KyA H' k p) : KyA (hidL H H') k p := by
  obtain ⟨b, h1, h2⟩ := h
  refine ⟨b, hidL_at h1 fun xs e => ?_, hidL_at h2 fun xs e => ?_⟩
  · rw [s _ _ e] at h1; cases h1
  · rw [s _ _ e] at h2; cases h2
theorem dn_hid {H H' : Hp} (s : Same H H') {d : Addr} (hd : H d = none) {kvs : List (Spt × Addr × V)} (h : DN H' d kvs) : DN (hidL H H') d kvs := by
  obtain ⟨⟨xs, ep, h1, h2⟩, ky, nd, le⟩ := h
  exact ⟨⟨xs, ep, hidL_at h1 (fun xs e => by rw [hd] at e; cases e), h2⟩, fun x hx => ky_hid s (ky x hx), nd, le⟩
def spSsB (K : PySem.W.Frag) (t : Adr) : Sp := fun vs H Q _ => ∃ (o d0 ua : Addr) (ly0 : List (Spt × List Spt)) (us : List Int), vs = [.ref o, .ref d0, .ref ua] ∧ TO t H o ∧ Lyr H d0 ly0 ∧ (∀ x ∈ ly0, Gd x.1) ∧ H ua = some (.tup (us.map V.int)) ∧ Ug us ∧ ly0.length ≤ 1000 ∧
  ∀ d H', Same H H' → Lyr (hidL H H') d (beh (ly0.map (·.1)) us) → Q (.ref d) H'
theorem h_spots_behind (T : Txt w K mg t) : Has P w K mg base "spots_behind" 9 t.a_spots_behind t.f_spots_behind ["tongue", "spots", "unit"] (spSsB K t) := by
  refine ⟨T.g_spots_behind, T.F_spots_behind.kp, T.b_spots_behind, T.F_spots_behind.okQ sc_spots_behind (fun vs H Q E h => by obtain ⟨o, d0, ua, ly0, us, rfl, _⟩ := h; rfl) fun cdv A outer s H vs Q E hr h => ?_⟩
  obtain ⟨o, d0, ua, ly0, us, rfl, ho, ⟨kv0, dn0, pr0⟩, hgd, hua, hul, hll, kq⟩ := h
  have hu := hr.units
  have ek := ly_keys pr0
  have hl0 := Paired.length pr0
  rw [← ek] at kq
  obtain ⟨ks0, eks⟩ : ∃ ks0, ks0 = kv0.map (·.1) := ⟨_, rfl⟩
  rw [← eks] at kq ek
  have nd0 : ks0.Nodup := by rw [eks]; exact dn0.nd
  have lk0 : ks0.length = kv0.length := by rw [eks, List.length_map]
  have gd0 : ∀ k ∈ ks0, Gd k := fun k hk => by
    rw [ek] at hk
    obtain ⟨x, hx, rfl⟩ := List.mem_map.mp hk
    exact hgd x hx
  refine ⟨_, (q_pss_cons (q_ps_set (i := 3) sc_spots_behind.nd rfl (.inl rfl) q_me_dicN)
      (q_pss_cons (q_ps_for PassesOwn.never rfl (q_pi_dn (q_vv 1)) (q_pg_name (i := 4) sc_spots_behind.nd rfl (.inl rfl)) (q_pss_cons (q_ps_set (i := 5) sc_spots_behind.nd rfl (.inl rfl) (q_cal (h_spot_behind T) hr (q_pa_c (q_vv 0) (q_pa_c (q_vv 4) (q_pa_c (q_vv 2) q_pa_nil)))))
      (q_pss_one (q_ps_if (q_mt_cmp g_isnot (q_vv 5) q_pe_non (nomark _)) (q_pss_one (q_dputN hu (q_vv 3) (q_vv 5) (q_pe_op (g_addK (K := K) rfl) (q_dget2N hu (q_vv 3) (q_vv 5) (q_me_lst q_pa_nil)) (q_me_lst (q_pa_c (q_vv 4) q_pa_nil))))) q_pss_nil))))
      (q_pss_one (q_ps_ret (q_vv 3))))), ?_⟩
  intro d H1 g1
  have hd := g1.nw
  refine set_nx ?_
  refine ⟨d0, kv0, rfl, dn0.same g1.sm, fun o0 ho0 => ?_⟩
  have ho0H : H d0 = some o0 := by
    obtain ⟨φ, e⟩ := dn_ext dn0
    rw [g1.sm _ _ e] at ho0
    rw [e, ← ho0]
  refine for_dn (fun i σ H' => Same H H' ∧ Lyr (hidL H H') d (beh (ks0.take i) us) ∧ ∃ v4 v5, σ = [some (.ref o), some (.ref d0), some (.ref ua), some (.ref d), v4, v5]) ?_ (fun i σ H' _ z => z.1 _ _ ho0H) ?_ ?_
  · exact ⟨g1.sm, ⟨[], dn_hid g1.sm hd (DN.new g1), .nil⟩, _, _, rfl⟩
  · rintro i k b v σ H2 hi ⟨s2, ly2, v4, v5, rfl⟩
    have hil : i < kv0.length := (List.getElem?_eq_some_iff.mp hi).1
    have hki : ks0[i]? = some k := by rw [eks, List.getElem?_map, hi]; rfl
    have et : ks0.take (i + 1) = ks0.take i ++ [k] := by rw [List.take_add_one, hki]; rfl
    have eb : beh (ks0.take (i + 1)) us = stepB us (beh (ks0.take i) us) k := by
      unfold beh
      rw [et, List.foldl_append]
      rfl
    have ndt : (ks0.take i).Nodup := nd0.sublist (List.take_sublist _ _)
    have ky := dn0.key _ (List.mem_of_getElem? hi)
    refine set_nx ?_
    refine ⟨o, b, ua, k, us, rfl, ho.same s2, ky.same s2, s2 _ _ hua, gd0 k (List.mem_of_getElem? hki), hul, fun en H3 s3 => ?_, fun g q H3 en s3 kg => ?_⟩
    · refine set_nx ?_
      refine ⟨s2.trans s3, ?_, _, _, rfl⟩
      rw [eb]
      unfold stepB
      rw [en]
      exact ly2.same (hidL_mono s3)
    · refine set_nx ?_
      obtain ⟨kv3, dn3', pr3⟩ := ly2.same (hidL_mono s3)
      have dn3 := dn3'.same (hidL_to _ _)
      have l3 := Paired.length pr3
      have lb := beh_len (u := us) ndt
      rw [List.length_take] at lb
      refine ⟨d, kv3, rfl, dn3, ?_⟩
      refine ⟨sz rfl, fun l0 H4 g4 => ?_⟩
      refine ⟨q, kv3, g, rfl, dn3.same g4.sm, kg.same g4.sm, ?_⟩
      obtain ⟨l, vs, el, hl, pl⟩ : LyV H4 ((valN kv3 g).getD (.ref l0)) ((getF (beh (ks0.take i) us) g).getD []) := by
        rcases ly_get pr3 g with ⟨a, b⟩ | ⟨v, l, a, b, c⟩
        · rw [a, b]; exact ⟨l0, [], rfl, g4.at_, .nil⟩
        · rw [a, b]; exact (c.same (hidL_to _ _)).same g4.sm
      rw [el]
      refine ⟨sz rfl, fun l1 H5 g5 => ?_⟩
      have lv := Paired.length pl
      have lg := beh_get (u := us) ndt g
      rw [List.length_take] at lg
      refine ⟨vs, _, .of (g5.sm _ _ hl), g5.lst, szl (by simp; omega), fun l2 H6 g6 => ?_⟩
      have s36 : Same H3 H6 := g4.sm.trans (g5.sm.trans g6.sm)
      refine ⟨d, q, kv3, g, rfl, rfl, dn3.same s36, kg.same s36, szlt (by omega), fun H7 dn7 k7 => ?_⟩
      have s06 := s2.trans (s3.trans s36)
      have s7 := same_put s06 hd k7
      have ex6 : ∃ φ, hidL H H6 d = some (.ext φ) := dn_ext (dn_hid s06 hd (dn3.same s36))
      refine ⟨s7, ?_, _, _, rfl⟩
      rw [eb]
      unfold stepB
      rw [en]
      refine ⟨_, dn_hid s7 hd dn7, ?_⟩
      refine ly_putF (H := hidL H H6) (Paired.mapP pr3 fun x y z => ⟨z.1, z.2.same (hidL_mono s36)⟩) g q (fun z => ly_put ex6 (hidL_ne k7) z) (ly_put ex6 (hidL_ne k7) ?_)
      have nl : ∀ xs, H l2 ≠ some (.lst xs) := fun xs e => by
        have := (s2.trans (s3.trans (g4.sm.trans g5.sm))) _ _ e
        rw [g6.nw] at this
        cases this
      refine ⟨l2, _, rfl, hidL_at g6.at_ nl, Paired.snoc (Paired.mapP pl fun k v z => ?_) ⟨b, rfl, ky_hid s06 (ky.same s06)⟩⟩
      obtain ⟨p, rfl, z'⟩ := KyV.same (g5.sm.trans g6.sm) k v z
      exact ⟨p, rfl, ky_hid s06 z'⟩
  · rintro σ H2 ⟨s2, ly2, v4, v5, rfl⟩
    rw [List.take_of_length_le (by omega)] at ly2
    exact kq d H2 s2 ly2
end
end
end My
namespace My
open PySem L2
section
variable [O : Od]
/-! ### all layers -/
structure LyOk (ly : List (Spt × List Spt)) : Prop where
  nd : (ly.map (·.1)).Nodup
  gd : ∀ x ∈ ly, Gd x.1
  len : ly.length ≤ 500
theorem LyOk.beh {ly : List (Spt × List Spt)} (h : LyOk ly) (u : List Int) : LyOk (beh (ly.map (·.1)) u) := by
  have c := beh_chr (u := u) h.nd
  refine ⟨c.nd, fun x hx => ?_, ?_⟩
  · obtain ⟨a1, _, _, a4⟩ := c.mem x.1 x.2 hx
    obtain ⟨k, r, e⟩ := List.exists_cons_of_ne_nil a1
    exact nx_gd ((a4 k).mp (by rw [e]; exact List.mem_cons_self ..)).2
  · have := c.len
    have := h.len
    rw [List.length_map] at *
    omega
def lay0 : List (Spt × List Spt) := spots0.map fun k => (k, [])
noncomputable def layAt (units : List (List Int)) (i : Nat) : List (Spt × List Spt) := (units.take i).foldl (fun ly u => beh (ly.map (·.1)) u) lay0
theorem layAt_succ {units : List (List Int)} {i : Nat} {u : List Int} (h : units[i]? = some u) : layAt units (i + 1) = beh ((layAt units i).map (·.1)) u := by
  unfold layAt
  rw [List.take_add_one, h]
  show List.foldl _ _ (_ ++ [u]) = _
  rw [List.foldl_append]
  rfl
theorem spots_nd : spots0.Nodup := by
  unfold spots0
  cases O.h <;> decide
theorem lay0_ok : LyOk lay0 := by
  refine ⟨?_, fun x hx => ?_, ?_⟩
  · unfold lay0
    rw [List.map_map]
    have : ((fun x : Spt × List Spt => x.1) ∘ fun k => ((k, []) : Spt × List Spt)) = id := rfl
    rw [this, List.map_id]
    exact spots_nd
  · obtain ⟨k, hk, rfl⟩ := List.mem_map.mp hx
    rcases List.mem_cons.mp hk with rfl | hk
    · exact ⟨rfl, Nat.zero_le _, fun _ z => (nomatch z)⟩
    · obtain rfl := List.mem_singleton.mp hk
      refine ⟨rfl, by show (ub O.h 55296).length ≤ 10; rw [ub_len]; decide, ?_⟩
      show Byts (ub O.h 55296)
      unfold ub Byts
      cases O.h <;> decide
  · show 2 ≤ 500
    decide
theorem layAt_ok (units : List (List Int)) : ∀ i, LyOk (layAt units i)
  | 0 => by unfold layAt; rw [List.take_zero]; exact lay0_ok
  | i + 1 => by
    cases h : units[i]? with
    | some u => rw [layAt_succ h]; exact (layAt_ok units i).beh u
    | none =>
      have e : layAt units (i + 1) = layAt units i := by
        unfold layAt
        rw [List.take_add_one, h]
        simp
      rw [e]
      exact layAt_ok units i
def hid (H : Hp) (a : Addr) : Hp := fun b => if b = a then none else H b
theorem hid_at {H : Hp} {a b : Addr} {o : HO} (h : H b = some o) (n : b ≠ a) : hid H a b = some o := by unfold hid; rw [if_neg n]; exact h
theorem hid_to (H : Hp) (a : Addr) : Same (hid H a) H := fun b o h => by
  unfold hid at h
  split at h
  · cases h
  · exact h
theorem hid_new {H H' : Hp} {a : Addr} (s : Same H H') (n : H a = none) : Same H (hid H' a) := fun b o h => hid_at (s _ _ h) (ne_of_none h n)
theorem hid_mono {H H' : Hp} {a : Addr} (s : Same H H') : Same (hid H a) (hid H' a) := fun b o h => by
  refine hid_at (s _ _ (hid_to _ _ _ _ h)) fun e => ?_
  unfold hid at h
  rw [if_pos e] at h
  cases h
theorem hid_upd {H : Hp} {a : Addr} {o : HO} : hid (upd H a o) a = hid H a := by
  funext b
  unfold hid
  split
  · rfl
  · rename_i n
    exact upd_ne n
theorem hidL_hid {H H' : Hp} {a : Addr} {xs : List V} (h : H a = some (.lst xs)) : Same (hidL H H') (hid H' a) := fun b o z => by
  refine hid_at (hidL_to _ _ _ _ z) fun e => ?_
  subst e
  unfold hidL at z
  rw [h] at z
  cases z
def UnV (H : Hp) (u : List Int) (v : V) : Prop := ∃ p, v = .ref p ∧ H p = some (.tup (u.map V.int)) ∧ Ug u
def LyW (H : Hp) (ly : List (Spt × List Spt)) (v : V) : Prop := ∃ d, v = .ref d ∧ Lyr H d ly
theorem LyW.same {H H' : Hp} (s : Same H H') (ly : List (Spt × List Spt)) (v : V) (h : LyW H ly v) : LyW H' ly v := by
  obtain ⟨d, rfl, h⟩ := h
  exact ⟨d, rfl, h.same s⟩
theorem Paired.at' {α β : Type} {F : α → β → Prop} : ∀ {l₁ : List α} {l₂ : List β}, Paired F l₁ l₂ → ∀ {i : Nat} {b : β}, l₂[i]? = some b → ∃ a, l₁[i]? = some a ∧ F a b
  | _, _, .nil, _, _, h => by simp at h
  | _, _, .cons r t, 0, _, h => by simp at h; subst h; exact ⟨_, rfl, r⟩
  | _, _, .cons r t, i + 1, _, h => by simpa using Paired.at' t (i := i) (by simpa using h)
section
variable {P : Program} {w : World} {K : PySem.W.Frag} {mg : Str → Option Value} {base : Heap} {t : Adr}
def spLA (K : PySem.W.Frag) (t : Adr) : Sp := fun vs H Q _ => ∃ (o ul : Addr) (units : List (List Int)) (us : List V), vs = [.ref o, .ref ul] ∧ TO t H o ∧ H ul = some (.lst us) ∧ Paired (UnV H) units us ∧ units.length ≤ 1000 ∧
  ∀ p ds H', Same H H' → H' p = some (.lst ds) → Paired (LyW H') ((List.range (units.length + 1)).map (layAt units)) ds → Q (.ref p) H'
theorem h_layers_along (T : Txt w K mg t) : Has P w K mg base "layers_along" 10 t.a_layers_along t.f_layers_along ["tongue", "units"] (spLA K t) := by
  refine ⟨T.g_layers_along, T.F_layers_along.kp, T.b_layers_along, T.F_layers_along.okQ sc_layers_along (fun vs H Q E h => by obtain ⟨o, ul, units, us, rfl, _⟩ := h; rfl) fun cdv A outer s H vs Q E hr h => ?_⟩
  obtain ⟨o, ul, units, us, rfl, ho, hul, hus, hlu, kq⟩ := h
  have hu := hr.units
  have hlen := Paired.length hus
  refine ⟨_, (q_pss_cons (q_ps_set (i := 2) sc_layers_along.nd rfl (.inl rfl) q_me_dicN)
      (q_pss_cons (q_ps_for PassesOwn.never rfl (q_pi_listK (K := K) rfl (q_meth0 (h_PairTongue_spots T) hr (q_vv 0))) (q_pg_tupK (K := K) rfl rfl (q_pgs_cons (q_pg_name (i := 3) sc_layers_along.nd rfl (.inl rfl)) (q_pgs_cons (q_pg_name (i := 4) sc_layers_along.nd rfl (.inl rfl)) q_pgs_nil))) (q_pss_one (q_dputN hu (q_vv 2) (q_me_tup (q_pa_c (q_vv 3) (q_pa_c (q_calTy (c_tupleK (K := K) rfl) T.n_tuple PyProof.Rows.boot_tuple (q_pa_c (q_vv 4) q_pa_nil)) q_pa_nil))) (q_me_lst q_pa_nil))))
      (q_pss_cons (q_ps_set (i := 5) sc_layers_along.nd rfl (.inl rfl) (q_me_lst (q_pa_c (q_vv 2) q_pa_nil)))
      (q_pss_cons (q_ps_for PassesOwn.never rfl (q_pi_listK (K := K) rfl (q_vv 1)) (q_pg_name (i := 6) sc_layers_along.nd rfl (.inl rfl)) (q_pss_cons (q_ps_set (i := 2) sc_layers_along.nd rfl (.inl rfl) (q_cal (h_spots_behind T) hr (q_pa_c (q_vv 0) (q_pa_c (q_vv 2) (q_pa_c (q_vv 6) q_pa_nil)))))
      (q_pss_one (q_ps_expr (q_pe_bmK (K := K) rfl PySem.F.plainAttrs_list PySem.F.slot_list_append PySem.F.type_list_append mg_append (q_vv 5) (q_pa_c (q_vv 2) q_pa_nil))))))
      (q_pss_one (q_ps_ret (q_vv 5))))))), ?_⟩
  intro d H1 g1
  have hd := g1.nw
  refine set_nx ?_
  obtain ⟨dx, ho'⟩ := id ho
  refine ⟨o, dx, _, rfl, g1.sm _ _ ho', rfl, ?_⟩
  refine ⟨o, O.h, rfl, Po.mono ho g1.sm, fun sp q1 q2 b1 b2 H2 s2 _ _ _ _ _ _ hsp hq1 hq2 hb1 hb2 => ?_⟩
  obtain ⟨ss, ess⟩ : ∃ ss, ss = [V.ref q1, V.ref q2] := ⟨_, rfl⟩
  have pss : Paired (SpL H2) spots0 ss := by rw [ess]; exact .cons ⟨q1, b1, rfl, hq1, hb1⟩ (.cons ⟨q2, b2, rfl, hq2, hb2⟩ .nil)
  rw [← ess] at hsp
  refine ⟨sp, rfl, ⟨_, .of hsp⟩, ?_⟩
  have lss := Paired.length pss
  have nd0 := spots_nd (O := O)
  refine for_list (K := K) (a := sp) (xs := ss) (fun i σ H' => Same H H' ∧ H' sp = some (.lst ss) ∧ Paired (SpL H') spots0 ss ∧ Lyr H' d ((spots0.take i).map fun k => (k, [])) ∧ ∃ v3 v4 v5 v6, σ = [some (.ref o), some (.ref ul), some (.ref d), v3, v4, v5, v6]) ?_ (fun i σ H' _ z => .of z.2.1) ?_ ?_
  · exact ⟨g1.sm.trans s2, hsp, pss, ⟨[], (DN.new g1).same s2, .nil⟩, _, _, _, _, rfl⟩
  · rintro i x σ H3 hx ⟨s3, hsp3, pss3, ly3, v3, v4, v5, v6, rfl⟩
    obtain ⟨k, hk, a, l, rfl, ha, hl⟩ := Paired.at' pss3 hx
    refine ⟨a, _, rfl, .of ha, rfl, ?_⟩
    refine ⟨_, _, rfl, ?_⟩
    refine set_nx ?_
    refine ⟨_, _, rfl, ?_⟩
    refine set_nx ?_
    refine ⟨rfl, ?_⟩
    refine ⟨sz rfl, fun l0 H4 g4 => ?_⟩
    refine ⟨_, .of (g4.sm _ _ hl), fun tb H5 g5 => ?_⟩
    refine ⟨sz rfl, fun kt H6 g6 => ?_⟩
    have s36 := g4.sm.trans (g5.sm.trans g6.sm)
    obtain ⟨kv6, dn6, pr6⟩ := ly3.same s36
    have ky : KyA H6 k kt := ⟨tb, g6.at_, g6.sm _ _ g5.at_⟩
    have lk := Paired.length pr6
    rw [List.length_map, List.length_take] at lk
    have hi : i < spots0.length := (List.getElem?_eq_some_iff.mp hk).1
    refine ⟨d, kt, kv6, k, rfl, rfl, dn6, ky, szlt (by have : (spots0 (O := O)).length = 2 := rfl; omega), fun H7 dn7 k7 => ?_⟩
    have ex6 := dn_ext dn6
    obtain ⟨φ, ex6'⟩ := id ex6
    have st : ∀ {b : Addr} {ob : HO}, H6 b = some ob → (∀ φ, ob ≠ .ext φ) → H7 b = some ob := fun {b ob} h z => by
      rw [k7 b (ne_of h ex6' (z φ))]
      exact h
    refine ⟨same_put (s3.trans s36) hd k7, st (s36 _ _ hsp3) (by intro φ z; cases z), Paired.mapP pss3 fun k v z => ?_, ?_, _, _, _, _, rfl⟩
    · obtain ⟨a, l, rfl, z1, z2⟩ := z
      exact ⟨a, l, rfl, st (s36 _ _ z1) (by intro φ z; cases z), st (s36 _ _ z2) (by intro φ z; cases z)⟩
    · have e1 : (spots0.take (i + 1)).map (fun k => ((k, []) : Spt × List Spt)) = putF ((spots0.take i).map fun k => (k, [])) k [] := by
        have no : getF ((spots0.take i).map fun k => ((k, []) : Spt × List Spt)) k = none := by
          cases h : getF ((spots0.take i).map fun k => ((k, []) : Spt × List Spt)) k with
          | none => rfl
          | some l =>
            obtain ⟨k', h1, h2⟩ := List.mem_map.mp (getF_some h)
            injection h2 with h2 _
            subst h2
            obtain ⟨j, hj⟩ := List.getElem?_of_mem h1
            have hj2 := (List.getElem?_eq_some_iff.mp hj).1
            rw [List.length_take] at hj2
            rw [List.getElem?_take_of_lt (by omega)] at hj
            have := (List.getElem?_inj (by omega) nd0).mp (hj.trans hk.symm)
            omega
        unfold putF
        rw [no, List.take_add_one, hk]
        simp
      rw [e1]
      exact ⟨_, dn7, ly_putF (H := H6) pr6 k kt (fun z => ly_put ex6 k7 z) ⟨l0, [], rfl, st (g6.sm _ _ (g5.sm _ _ g4.at_)) (by intro φ z; cases z), .nil⟩⟩
  · rintro σ H3 ⟨s3, hsp3, pss3, ly3, v3, v4, v5, v6, rfl⟩
    rw [← lss, List.take_length] at ly3
    refine ⟨sz rfl, fun ls H4 g4 => ?_⟩
    refine set_nx ?_
    refine ⟨ul, rfl, ⟨_, .of (g4.sm _ _ (s3 _ _ hul))⟩, ?_⟩
    have hls := g4.nw
    refine for_list (K := K) (a := ul) (xs := us) (fun i σ H' => Same H (hid H' ls) ∧ (∃ ds, H' ls = some (.lst ds) ∧ Paired (LyW (hid H' ls)) ((List.range (i + 1)).map (layAt units)) ds) ∧ ∃ dc v3 v4 v6, σ = [some (.ref o), some (.ref ul), some (.ref dc), v3, v4, some (.ref ls), v6] ∧ Lyr (hid H' ls) dc (layAt units i)) ?_ (fun i σ H' _ z => .of (hid_to _ _ _ _ (z.1 _ _ hul))) ?_ ?_
    · have e0 : layAt units 0 = lay0 := by unfold layAt; rw [List.take_zero]; rfl
      have s34 := hid_new g4.sm hls
      exact ⟨s3.trans s34, ⟨_, g4.at_, .cons ⟨d, rfl, by rw [e0]; exact ly3.same s34⟩ .nil⟩, d, _, _, _, rfl, by rw [e0]; exact ly3.same s34⟩
    · rintro i x σ H5 hx ⟨s5, ⟨ds, hds, pds⟩, dc, v3, v4, v6, rfl, ldc⟩
      obtain ⟨u, hui, p, rfl, hp, hpl⟩ := Paired.at' hus hx
      have ok := layAt_ok units i
      refine set_nx ?_
      have s5' := s5.trans (hid_to _ _)
      refine ⟨o, dc, p, layAt units i, u, rfl, ho.same s5', ldc.same (hid_to _ _), ok.gd, s5' _ _ hp, hpl, Nat.le_trans ok.len (by decide), fun d' H6 s6 ld6 => ?_⟩
      rw [← layAt_succ hui] at ld6
      have ld6 := ld6.same (hidL_hid hds)
      refine set_nx ?_
      refine ⟨.inl ⟨rfl, _, .of (s6 _ _ hds)⟩, ?_⟩
      have lds := Paired.length pds
      rw [List.length_map, List.length_range] at lds
      have hil : i < us.length := (List.getElem?_eq_some_iff.mp hx).1
      refine ⟨_, s6 _ _ hds, szlt (by omega), ?_⟩
      have s56 := hid_mono (a := ls) s6
      refine ⟨by rw [hid_upd]; exact s5.trans s56, ⟨_, upd_same, ?_⟩, d', _, _, _, rfl, by rw [hid_upd]; exact ld6⟩
      rw [hid_upd, List.range_succ, List.map_append]
      exact Paired.snoc (Paired.mapP pds fun ly v => LyW.same s56 ly v) ⟨d', rfl, ld6⟩
    · rintro σ H5 ⟨s5, ⟨ds, hds, pds⟩, dc, v3, v4, v6, rfl, ldc⟩
      rw [← hlen] at pds
      exact kq ls ds H5 (s5.trans (hid_to _ _)) hds (Paired.mapP pds fun ly v => LyW.same (hid_to _ _) ly v)
end
end
end My
namespace My
open PySem L2
section
variable [O : Od]
theorem pair_app {α β : Type} {F : α → β → Prop} : ∀ {l₁ m₁ : List α} {l₂ m₂ : List β}, Paired F l₁ l₂ → Paired F m₁ m₂ → Paired F (l₁ ++ m₁) (l₂ ++ m₂)
  | _, _, _, _, .nil, h => h
  | _, _, _, _, .cons r t, h => .cons r (pair_app t h)
theorem szm {n : Nat} (h : n ≤ 1000000) : n ≤ sizeLine := Nat.le_trans h (by decide)
theorem nd_le : ∀ (l m : List Spt), l.Nodup → (∀ x ∈ l, x ∈ m) → l.length ≤ m.length
  | [], _, _, _ => Nat.zero_le _
  | x :: l, m, nd, h => by
    obtain ⟨n1, n2⟩ := List.nodup_cons.mp nd
    have hx := h x (List.mem_cons_self ..)
    have := nd_le l (m.erase x) n2 fun y hy => (List.mem_erase_of_ne (show y ≠ x from fun e => n1 (e ▸ hy))).mpr (h y (List.mem_cons_of_mem _ hy))
    rw [List.length_erase_of_mem hx] at this
    have := List.length_pos_of_mem hx
    simp only [List.length_cons]
    omega
noncomputable def run : Spt → List (List Int) → Option Spt
  | k, [] => some k
  | k, u :: us => (nx k u).bind fun g => run g us
/-- those of a layer from which all goes on -/
def Liv (units : List (List Int)) (i : Nat) (k : Spt) : Prop := k ∈ (layAt units i).map (·.1) ∧ (run k (units.drop i)).isSome = true
def Sng (units : List (List Int)) (i : Nat) (p : Int) : Prop := ∀ k, Liv units i k ↔ k = (p, [])
def ahd (ly : List (Spt × List Spt)) (ks : List Spt) : List Spt := ks.flatMap fun k => (getF ly k).getD []
theorem mem_keys {ly : List (Spt × List Spt)} {k : Spt} (h : k ∈ ly.map (·.1)) : ∃ l, getF ly k = some l := by
  obtain ⟨x, hx, rfl⟩ := List.mem_map.mp h
  cases e : getF ly x.1 with
  | some l => exact ⟨l, rfl⟩
  | none => exact absurd hx (getF_none e x.2)
theorem ahd_liv {units : List (List Int)} {i : Nat} {u : List Int} (hu : units[i]? = some u) {ks : List Spt} (nd : ks.Nodup) (h : ∀ k, k ∈ ks ↔ Liv units (i + 1) k) : (ahd (layAt units (i + 1)) ks).Nodup ∧ ∀ k, k ∈ ahd (layAt units (i + 1)) ks ↔ Liv units i k := by
  have ok := layAt_ok units i
  have c : Chr u ((layAt units i).map (·.1)) (layAt units (i + 1)) := by rw [layAt_succ hu]; exact beh_chr ok.nd
  have got : ∀ g l, getF (layAt units (i + 1)) g = some l → l.Nodup ∧ ∀ k, k ∈ l ↔ k ∈ (layAt units i).map (·.1) ∧ nx k u = some g := fun g l e => by
    obtain ⟨_, a2, _, a4⟩ := c.mem g l (getF_some e)
    exact ⟨a2, a4⟩
  have ed : units.drop i = u :: units.drop (i + 1) := by
    have hlt := (List.getElem?_eq_some_iff.mp hu).1
    rw [List.drop_eq_getElem_cons hlt]
    congr 1
    exact (List.getElem?_eq_some_iff.mp hu).2
  have mem : ∀ g k, k ∈ (getF (layAt units (i + 1)) g).getD [] → k ∈ (layAt units i).map (·.1) ∧ nx k u = some g := fun g k hk => by
    cases e : getF (layAt units (i + 1)) g with
    | none => rw [e] at hk; cases hk
    | some l => rw [e] at hk; exact ((got g l e).2 k).mp hk
  have nds : ∀ ks : List Spt, ks.Nodup → (ks.flatMap fun k => (getF (layAt units (i + 1)) k).getD []).Nodup := by
    intro ks nd
    induction ks with
    | nil => exact List.nodup_nil
    | cons g ks ih =>
      obtain ⟨n1, n2⟩ := List.nodup_cons.mp nd
      rw [List.flatMap_cons]
      refine List.nodup_append.mpr ⟨?_, ih n2, fun a ha b hb => ?_⟩
      · cases e : getF (layAt units (i + 1)) g with
        | none => exact List.nodup_nil
        | some l => exact (got g l e).1
      · rintro rfl
        obtain ⟨g', hg', hb⟩ := List.mem_flatMap.mp hb
        have := (mem g a ha).2.symm.trans (mem g' a hb).2
        injection this with this
        exact n1 (this ▸ hg')
  refine ⟨nds ks nd, fun k => ?_⟩
  · unfold ahd
    rw [List.mem_flatMap]
    constructor
    · rintro ⟨g, hg, hk⟩
      obtain ⟨k1, k2⟩ := mem g k hk
      refine ⟨k1, ?_⟩
      rw [ed]
      show ((nx k u).bind _).isSome = true
      rw [k2]
      exact ((h g).mp hg).2
    · rintro ⟨k1, k2⟩
      rw [ed] at k2
      have k2 : ((nx k u).bind fun g => run g (units.drop (i + 1))).isSome = true := k2
      cases e : nx k u with
      | none => rw [e] at k2; cases k2
      | some g =>
        rw [e] at k2
        obtain ⟨l, hl⟩ := c.all k g k1 e
        have hg : g ∈ (layAt units (i + 1)).map (·.1) := List.mem_map.mpr ⟨_, hl, rfl⟩
        obtain ⟨l', hl'⟩ := mem_keys hg
        refine ⟨g, (h g).mpr ⟨hg, k2⟩, ?_⟩
        rw [hl']
        exact ((got g l' hl').2 k).mpr ⟨k1, e⟩
section
variable {P : Program} {w : World} {K : PySem.W.Frag} {mg : Str → Option Value} {base : Heap} {t : Adr}
def spSA (K : PySem.W.Frag) : Sp := fun vs H Q _ => ∃ (d sl : Addr) (ly : List (Spt × List Spt)) (ks : List Spt) (us : List V), vs = [.ref d, .ref sl] ∧ Lyr H d ly ∧ H sl = some (.lst us) ∧ Paired (KyV H) ks us ∧ (∀ k ∈ ks, ∃ l, getF ly k = some l ∧ l.length ≤ 500) ∧ ks.length ≤ 500 ∧
  ∀ p us' H', Same H H' → H' p = some (.lst us') → Paired (KyV H') (ahd ly ks) us' → Q (.ref p) H'
theorem h_spots_ahead (T : Txt w K mg t) : Has P w K mg base "spots_ahead" 1 t.a_spots_ahead t.f_spots_ahead ["layer", "spots"] (spSA K) := by
  refine ⟨T.g_spots_ahead, T.F_spots_ahead.kp, T.b_spots_ahead, T.F_spots_ahead.okQ sc_spots_ahead (fun vs H Q E h => by obtain ⟨d, sl, ly, ks, us, rfl, _⟩ := h; rfl) fun cdv A outer s H vs Q E hr h => ?_⟩
  obtain ⟨d, sl, ly, ks, us, rfl, hd, hsl, pks, hget, hkl, kq⟩ := h
  have hu := hr.units
  have lks := Paired.length pks
  refine ⟨_, (q_pss_cons (q_ps_set (i := 2) sc_spots_ahead.nd rfl (.inl rfl) (q_me_lst q_pa_nil))
      (q_pss_cons (q_ps_for PassesOwn.never rfl (q_pi_listK (K := K) rfl (q_vv 1)) (q_pg_name (i := 3) sc_spots_ahead.nd rfl (.inl rfl)) (q_pss_one (q_ps_expr (q_pe_bmK (K := K) rfl PySem.F.plainAttrs_list PySem.F.slot_list_extend PySem.F.type_list_extend (mg_extendK (K := K) rfl) (q_vv 2) (q_pa_c (q_dgetN hu (q_vv 0) (q_vv 3)) q_pa_nil)))))
      (q_pss_one (q_ps_ret (q_vv 2))))), ?_⟩
  refine ⟨sz rfl, fun f H1 g1 => ?_⟩
  refine set_nx ?_
  refine ⟨sl, rfl, ⟨_, .of (g1.sm _ _ hsl)⟩, ?_⟩
  have hf := g1.nw
  refine for_list (K := K) (a := sl) (xs := us) (fun i σ H' => Same H H' ∧ (∃ ys, H' f = some (.lst ys) ∧ Paired (KyV H) (ahd ly (ks.take i)) ys ∧ ys.length ≤ i * 500) ∧ ∃ v3, σ = [some (.ref d), some (.ref sl), some (.ref f), v3]) ?_ (fun i σ H' _ z => .of (z.1 _ _ hsl)) ?_ ?_
  · exact ⟨g1.sm, ⟨[], g1.at_, .nil, Nat.zero_le _⟩, _, rfl⟩
  · rintro i x σ H2 hx ⟨s2, ⟨ys, hys, pys, lys⟩, v3, rfl⟩
    obtain ⟨k, hk, p, rfl, ky⟩ := Paired.at' pks hx
    obtain ⟨l, hl, hll⟩ := hget k (List.mem_of_getElem? hk)
    obtain ⟨kv, dn, pr⟩ := hd
    obtain ⟨v, l', e1, e2, la, vs, rfl, hla, pla⟩ : ∃ v l', valN kv k = some v ∧ getF ly k = some l' ∧ LyV H v l' := by
      rcases ly_get pr k with ⟨_, z⟩ | z
      · rw [hl] at z; cases z
      · exact z
    rw [hl] at e2
    cases e2
    have hil : i < us.length := (List.getElem?_eq_some_iff.mp hx).1
    have lvs := Paired.length pla
    refine set_nx ?_
    refine ⟨.inl ⟨rfl, _, .of hys⟩, ?_⟩
    refine ⟨d, p, kv, k, _, rfl, rfl, dn.same s2, ky.same s2, e1, ?_⟩
    refine ⟨ys, vs, hys, s2 _ _ hla, szm (by omega), ?_⟩
    refine ⟨same_put s2 hf (fun c hc => upd_ne hc), ⟨_, upd_same, ?_, ?_⟩, _, rfl⟩
    · have e : ahd ly (ks.take (i + 1)) = ahd ly (ks.take i) ++ l := by
        unfold ahd
        rw [List.take_add_one, hk]
        show List.flatMap _ (_ ++ [k]) = _
        rw [List.flatMap_append]
        simp [hl]
      rw [e]
      exact pair_app pys pla
    · rw [List.length_append]; omega
  · rintro σ H2 ⟨s2, ⟨ys, hys, pys, lys⟩, v3, rfl⟩
    rw [← lks, List.take_length] at pys
    exact kq f ys H2 s2 hys (Paired.mapP pys fun k v => KyV.same s2 k v)
end
end
end My
namespace My
open PySem L2
section
variable [O : Od]
def SZ : Nat := 2
theorem comp_r3 {lo c : Int} {n : Nat} {cs : St} {tt : TT} {te : TE} {H : Hp} {Q : VK} (Pv : Nat → List V → Hp → Prop) (h0 : Pv 0 [] H) (hl : ∀ i ys H, i ≤ n → Pv i ys H → ys.length ≤ i) (hz : n ≤ sizeLine)
    (hs : ∀ i ys H (N : List V → Hp → Prop), i < n → Pv i ys H → (∀ ys' H', Pv (i + 1) ys' H' → N ys' H') → tt (some (.int (lo + i * c)) :: cs) H fun b H4 => if b = true then te (some (.int (lo + i * c)) :: cs) H4 fun y H5 => N (ys ++ [y]) H5 else N ys H4)
    (hd : ∀ ys H p H', Pv n ys H → Gro H p (.lst ys) H' → Q (.ref p) H') :
    CompW (Itr3 lo c n) H (List.replicate 1 none ++ cs) (gName 0) tt te Q := by
  refine ⟨fun i m ys σ H => m = n - i ∧ i ≤ n ∧ Pv i ys H ∧ ∃ v0, σ = v0 :: cs, ⟨n, by simp, Nat.zero_le _, h0, none, rfl⟩, ?_⟩
  rintro i m ys σ H2 ⟨rfl, hi, p, v0, rfl⟩
  have ql := hl i ys H2 hi p
  by_cases hlt : i < n
  · refine .inr ⟨hlt, by omega, fun ys' σ' H' => Pv (i + 1) ys' H' ∧ ∃ v0, σ' = v0 :: cs, fun ys' σ' H' ⟨p', e⟩ => ⟨n - (i + 1), by omega, rfl, hlt, p', e⟩, fun x H' y => ?_⟩
    obtain ⟨e, y⟩ := y
    subst e y
    exact hs i ys H' (fun ys' H' => Pv (i + 1) ys' H' ∧ ∃ v0, some (V.int (lo + i * c)) :: cs = v0 :: cs) hlt p fun _ _ z => ⟨z, _, rfl⟩
  · have e : i = n := by omega
    subst e
    exact .inl ⟨Nat.le_refl _, by omega, fun p' H' g => hd ys H2 p' H' p g⟩
def untsOf (row : List Int) : List (List Int) := (List.range ((row.length + (SZ - 1)) / SZ)).map fun i => (row.drop (i * SZ)).take SZ
theorem unts_len {row : List Int} {n : Nat} (h : row.length = n * SZ) : (untsOf row).length = n := by
  unfold untsOf
  rw [List.length_map, List.length_range, h, Nat.mul_comm, Nat.mul_add_div (by decide), Nat.div_eq_of_lt (by decide)]
  rfl
def Lst (H : Hp) (units : List (List Int)) (n j : Nat) (v : V) : Prop := (v = .non ∧ ∀ i p, n < i + j → i ≤ n → ¬ Sng units i p) ∨ ∃ (a : Addr) (i : Nat) (p : Int), v = .ref a ∧ H a = some (.tup [.int ((i : Int) * (SZ : Int)), .int p]) ∧ n < i + j ∧ i ≤ n ∧ Sng units i p ∧ ∀ i' p', n < i' + j → i' < i → ¬ Sng units i' p'
theorem Lst.same {H H' : Hp} (s : Same H H') {units : List (List Int)} {n j : Nat} {v : V} (h : Lst H units n j v) : Lst H' units n j v := by
  rcases h with h | ⟨a, i, p, rfl, h1, h2⟩
  · exact .inl h
  · exact .inr ⟨a, i, p, rfl, s _ _ h1, h2⟩
theorem Lst.no {H : Hp} {units : List (List Int)} {n j : Nat} {v : V} (h : Lst H units n j v) (hj : j ≤ n) (no : ∀ p, ¬ Sng units (n - j) p) : Lst H units n (j + 1) v := by
  rcases h with ⟨rfl, h⟩ | ⟨a, i, p, rfl, h1, h2, h3, h4, h5⟩
  · refine .inl ⟨rfl, fun i p a b => ?_⟩
    by_cases c : n < i + j
    · exact h i p c b
    · have : i = n - j := by omega
      rw [this]; exact no p
  · refine .inr ⟨a, i, p, rfl, h1, by omega, h3, h4, fun i' p' a b => ?_⟩
    by_cases c : n < i' + j
    · exact h5 i' p' c b
    · have : i' = n - j := by omega
      rw [this]; exact no p'
theorem lay_len {units : List (List Int)} : ∀ {i : Nat} {k : Spt} {l : List Spt}, getF (layAt units i) k = some l → l.length ≤ 500
  | 0, k, l, h => by
    have e0 : layAt units 0 = lay0 := by unfold layAt; rw [List.take_zero]; rfl
    rw [e0] at h
    obtain ⟨k', _, e⟩ := List.mem_map.mp (getF_some h)
    injection e with _ e
    rw [← e]
    exact Nat.zero_le _
  | i + 1, k, l, h => by
    cases hu : units[i]? with
    | some u =>
      rw [layAt_succ hu] at h
      have ok := layAt_ok units i
      have := ((beh_chr (u := u) ok.nd).mem k l (getF_some h)).2.2.1
      have := ok.len
      rw [List.length_map] at *
      omega
    | none =>
      have e : layAt units (i + 1) = layAt units i := by
        unfold layAt
        rw [List.take_add_one, hu]
        simp
      rw [e] at h
      exact lay_len h
end
section
variable {P : Program} {w : World} {K : PySem.W.Frag} {mg : Str → Option Value} {base : Heap} {t : Adr}
def spIS (K : PySem.W.Frag) (t : Adr) : Sp := fun vs H Q _ => ∃ (O : Od) (o r : Addr) (row : List Int) (n : Nat), vs = [.ref o, .ref r] ∧ Byts row ∧ TO t H o ∧ SqL K H r (row.map V.int) ∧ row.length = n * SZ ∧ n ≤ 900 ∧ ∀ v H', Same H H' → Lst H' (untsOf row) n (n + 1) v → Q v H'
theorem h_in_step (T : Txt w K mg t) : Has P w K mg base "in_step" 11 t.a_in_step t.f_in_step ["tongue", "row"] (spIS K t) := by
  refine ⟨T.g_in_step, T.F_in_step.kp, T.b_in_step, T.F_in_step.okQ sc_in_step (fun vs H Q E h => by obtain ⟨O, o, r, row, n, rfl, _⟩ := h; rfl) fun cdv A outer s H vs Q E hr h => ?_⟩
  obtain ⟨O, o, r, row, n, rfl, hby, ho, hr1, hn, hnl, kq⟩ := h
  have hu := hr.units
  have ul := unts_len hn
  obtain ⟨units, eu⟩ : ∃ units, units = untsOf row := ⟨_, rfl⟩
  rw [← eu] at kq ul
  refine ⟨_, (q_pss_cons (q_ps_set (i := 2) sc_in_step.nd rfl (.inr rfl) (q_meth0 (h_PairTongue_unit T) hr (q_vv 0)))
      (q_pss_cons (q_ps_set (i := 3) sc_in_step.nd rfl (.inl rfl) (q_cal (h_layers_along T) hr (q_pa_c (q_vv 0) (q_pa_c (q_pe_comp rfl (CompScope.of (fns := (defScope s_in_step).names) (N := ["tongue", "row", "size", "layers", "many", "spots", "least", "layer"]) (Nc := ["at", "row", "size"]) (nv := 1) (caps := [1, 2]) rfl rfl (by decide +kernel)) (q_pi_range3 rfl T.n_range (q_pa_c q_pe_int (q_pa_c (q_calB (c_lenK (K := K) rfl) T.n_len PySem.boot_len (q_pa_c (q_vv 1) q_pa_nil)) (q_pa_c (q_vv 2) q_pa_nil)))) (fun _ _ _ _ => (q_pg_name (i := 0) (show List.Nodup (["at", "row", "size"] : List Str) by decide +kernel) rfl (Or.inl rfl) (Or.inr rfl))) (fun _ _ _ _ => q_pts_nil) (fun _ _ _ _ => (q_calTy (c_tupleK (K := K) rfl) T.n_tuple PyProof.Rows.boot_tuple (q_pa_c (q_pe_slice (g_slK (K := K) rfl) (q_vv 1) (q_po_some (q_vv 0)) (q_po_some (q_pe_op (g_addK (K := K) rfl) (q_vv 0) (q_vv 2)))) q_pa_nil)))) q_pa_nil))))
      (q_pss_cons (q_ps_set (i := 4) sc_in_step.nd rfl (.inl rfl) (q_calB (c_lenK (K := K) rfl) T.n_len PySem.boot_len (q_pa_c (q_vv 1) q_pa_nil)))
      (q_pss_cons (q_ps_set (i := 5) sc_in_step.nd rfl (.inl rfl) (q_calTy (c_listN rfl) T.n_list PyProof.Rows.boot_list (q_pa_c (q_pe_ix (g_ixK (K := K) rfl) (q_vv 3) (q_pe_un un_negM q_pe_int) (fun _ _ => rfl)) q_pa_nil)))
      (q_pss_cons (q_ps_set (i := 6) sc_in_step.nd rfl (.inl rfl) q_pe_non)
      (q_pss_cons (q_ps_for PassesOwn.never rfl (q_pi_revK (K := K) rfl rfl T.n_reversed (q_pa_c (q_vv 3) q_pa_nil)) (q_pg_name (i := 7) sc_in_step.nd rfl (.inl rfl)) (q_pss_cons (q_ps_if (q_PW_pt (q_pw_and (q_mt_cmp (g_eqK (K := K) rfl hu) (q_calB (c_lenK (K := K) rfl) T.n_len PySem.boot_len (q_pa_c (q_vv 5) q_pa_nil)) q_pe_int (nomark _)) (q_pw_and1 (q_pt_not (q_mt_truK (K := K) rfl (q_pe_ix (g_ixK (K := K) rfl) (q_pe_ix (g_ixK (K := K) rfl) (q_vv 5) q_pe_int (fun _ _ => rfl)) q_pe_int (fun _ _ => rfl))))))) (q_pss_one (q_ps_set (i := 6) sc_in_step.nd rfl (.inl rfl) (q_me_tup (q_pa_c (q_vv 4) (q_pa_c (q_pe_ix (g_ixK (K := K) rfl) (q_pe_ix (g_ixK (K := K) rfl) (q_vv 5) q_pe_int (fun _ _ => rfl)) q_pe_int (fun _ _ => rfl)) q_pa_nil))))) q_pss_nil)
      (q_pss_cons (q_ps_set (i := 5) sc_in_step.nd rfl (.inl rfl) (q_cal (h_spots_ahead T) hr (q_pa_c (q_vv 7) (q_pa_c (q_vv 5) q_pa_nil))))
      (q_pss_one (q_ps_augS (i := 4) sc_in_step.nd rfl (.inl rfl) (q_vv 2))))))
      (q_pss_one (q_ps_ret (q_vv 6))))))))), ?_⟩
  obtain ⟨dx, ho'⟩ := id ho
  refine ⟨o, dx, _, rfl, ho', rfl, ?_⟩
  refine ⟨_, rfl, ?_⟩
  refine set_nx ?_
  refine ⟨_, .inl hr1, ?_⟩
  have hL : ((row.map V.int).length : Int) = ((n * SZ : Nat) : Int) := by rw [List.length_map, hn]
  refine ⟨n * SZ, SZ, by rw [← hL]; rfl, by unfold SZ; omega, by decide, by decide, ?_⟩
  have en : (n * SZ + (SZ - 1)) / SZ = n := by rw [Nat.mul_comm, Nat.mul_add_div (by decide), Nat.div_eq_of_lt (by decide)]; rfl
  rw [en]
  refine comp_r3 (lo := 0) (c := (SZ : Int)) (n := n) (cs := [some (.ref r), some (.int (SZ : Int))]) (fun i ys H' => Same H H' ∧ i ≤ n ∧ Paired (UnV H') (units.take i) ys) ⟨Same.refl _, Nat.zero_le _, .nil⟩ (fun i ys H' _ z => ?_) (szl (by omega)) (fun i ys H' N hi z hN => ?_) fun ys H2 p H3 z g3 => ?_
  · have := Paired.length z.2.2
    rw [List.length_take] at this
    omega
  · obtain ⟨s1, i1, pu⟩ := z
    simp only [tTrue, if_true]
    refine ⟨_, rfl, _, rfl, _, s1.seq hr1, fun p1 H1 g1 => ?_⟩
    have ec : cutV (row.map V.int) (some (0 + (i : Int) * (SZ : Int))) (some (0 + (i : Int) * (SZ : Int) + (SZ : Int))) = ((row.drop (i * SZ)).take SZ).map V.int := by
      rw [cutV_ints]
      have : (0 : Int) + (i : Int) * (SZ : Int) = ((i * SZ : Nat) : Int) := by simp
      rw [this, cutL_mid]
    rw [ec] at g1
    refine ⟨_, g1.lst, fun p2 H4 g4 => hN _ _ ⟨s1.trans (g1.sm.trans g4.sm), hi, ?_⟩⟩
    have hui : units[i]? = some ((row.drop (i * SZ)).take SZ) := by
      rw [eu]
      unfold untsOf
      rw [List.getElem?_map, hn, en, List.getElem?_range hi]
      rfl
    rw [List.take_add_one, hui]
    refine Paired.snoc (Paired.mapP pu fun u v z => ?_) ⟨p2, rfl, g4.at_, ?_⟩
    · obtain ⟨p, rfl, z1, z2⟩ := z
      exact ⟨p, rfl, (g1.sm.trans g4.sm) _ _ z1, z2⟩
    · refine ⟨?_, fun x hx => hby x (List.mem_of_mem_drop (List.mem_of_mem_take hx))⟩
      rw [List.length_take]
      have : SZ ≤ 100 := by decide
      omega
  · obtain ⟨s2, _, pu⟩ := z
    rw [List.take_of_length_le (by omega)] at pu
    refine ⟨o, p, units, ys, rfl, ho.same (s2.trans g3.sm), g3.at_, Paired.mapP pu fun u v z => ?_, by omega, fun ls ds H4 s4 hls pls => ?_⟩
    · obtain ⟨p, rfl, z1, z2⟩ := z
      exact ⟨p, rfl, g3.sm _ _ z1, z2⟩
    rw [ul] at pls
    have s04 := s2.trans (g3.sm.trans s4)
    refine set_nx ?_
    refine ⟨_, .inl (s04.seq hr1), ?_⟩
    refine set_nx ?_
    have lds := Paired.length pls
    rw [List.length_map, List.length_range] at lds
    obtain ⟨dl, hdl⟩ : ∃ dl, ds[n]? = some dl := ⟨_, List.getElem?_eq_getElem (by omega)⟩
    have lay : ∀ i v, ds[i]? = some v → LyW H4 (layAt units i) v := fun i v hv => by
      obtain ⟨ly, h1, h2⟩ := Paired.at' pls hv
      rw [List.getElem?_map] at h1
      obtain ⟨j, h3, h4⟩ := Option.map_eq_some_iff.mp h1
      have hj := (List.getElem?_eq_some_iff.mp hv).1
      rw [List.getElem?_range (by omega)] at h3
      cases h3
      rw [h4]; exact h2
    obtain ⟨dn, rfl, kvn, dnn, prn⟩ := lay n dl hdl
    refine ⟨_, .ref dn, .inl (.of hls), ?_, ?_⟩
    · have e : ixN ds.length (-1) = some n := by
        unfold ixN
        rw [if_neg (by decide), if_pos (by omega)]
        congr 1
        omega
      unfold atI
      rw [e]
      exact hdl
    refine ⟨dn, kvn, rfl, dnn, fun sp H5 g5 => ?_⟩
    refine set_nx ?_
    refine set_nx ?_
    refine ⟨ls, ds, rfl, .of (g5.sm _ _ hls), ?_⟩
    have hm0 : ((row.map V.int).length : Int) = ((n : Int) - ((0 : Nat) : Int)) * (SZ : Int) := by rw [hL]; simp
    refine for_rev (K := K) (a := ls) (xs := ds) (fun j σ H' => Same H4 H' ∧ ∃ sp lv v7, σ = [some (.ref o), some (.ref r), some (.int (SZ : Int)), some (.ref ls), some (.int (((n : Int) - (j : Int)) * (SZ : Int))), some (.ref sp), some lv, v7] ∧ (j ≤ n → ∃ us ks, H' sp = some (.lst us) ∧ Paired (KyV H') ks us ∧ ks.Nodup ∧ ∀ k, k ∈ ks ↔ Liv units (n - j) k) ∧ Lst H' units n j lv) ?_ (fun i σ H' _ z => .of (z.1 _ _ hls)) ?_ ?_
    · refine ⟨g5.sm, sp, .non, _, by rw [← hm0]; rfl, fun _ => ⟨_, kvn.map (·.1), g5.at_, ?_, dnn.nd, fun k => ?_⟩, .inl ⟨rfl, fun i p a b => by omega⟩⟩
      · have all : ∀ l : List (Spt × Addr × V), (∀ x ∈ l, KyA H5 x.1 x.2.1) → Paired (KyV H5) (l.map (·.1)) (l.map fun x => V.ref x.2.1) := by
          intro l
          induction l with
          | nil => intro _; exact .nil
          | cons x l ih => intro h; exact .cons ⟨_, rfl, h x (List.mem_cons_self ..)⟩ (ih fun y hy => h y (List.mem_cons_of_mem _ hy))
        exact all kvn fun x hx => (dnn.key x hx).same g5.sm
      · rw [ly_keys prn]
        unfold Liv
        rw [Nat.sub_zero, List.drop_of_length_le (by omega)]
        exact ⟨fun h => ⟨h, rfl⟩, fun h => h.1⟩
    · rintro j x σ H6 hx ⟨s6, sp, lv, v7, rfl, hks, hlst⟩
      have hj : j < ds.length := by
        have := (List.getElem?_eq_some_iff.mp hx).1
        rw [List.length_reverse] at this
        exact this
      rw [List.getElem?_reverse hj] at hx
      have ei : ds.length - 1 - j = n - j := by omega
      rw [ei] at hx
      obtain ⟨d, rfl, lyd⟩ := lay (n - j) x hx
      obtain ⟨us, ks, hsp, pks, ndk, hliv⟩ := hks (by omega)
      have lks := Paired.length pks
      refine set_nx ?_
      refine seq_nx (fun σ' H' => Same H6 H' ∧ ∃ lv, σ' = [some (.ref o), some (.ref r), some (.int (SZ : Int)), some (.ref ls), some (.int (((n : Int) - (j : Int)) * (SZ : Int))), some (.ref sp), some lv, some (.ref d)] ∧ Lst H' units n (j + 1) lv) (fun nx hn => ?_) ?_
      · refine ⟨_, .inl (.of hsp), ?_⟩
        refine ite2 (fun e => ?_) (fun e => ?_)
        · have e1 : us.length = 1 := by
            have : (us.length : Int) = 1 := of_decide_eq_true e
            omega
          obtain ⟨k, rfl⟩ : ∃ k, ks = [k] := List.length_eq_one_iff.mp (by omega)
          cases pks with
          | cons r1 r2 => cases r2 with
            | nil =>
              obtain ⟨p, rfl, b, hp, hb⟩ := r1
              refine ⟨_, .ref p, .inl (.of hsp), atI_nat (j := 0) rfl, ?_⟩
              refine ⟨_, .ref b, .inr (.of hp), atI_nat (j := 1) rfl, ?_⟩
              refine ⟨_, .inr (.of hb), ?_⟩
              refine ite2 (fun e2 => ?_) (fun e2 => ?_)
              · have k2 : k.2 = [] := by simpa using e2
                refine ⟨_, .ref p, .inl (.of hsp), atI_nat (j := 0) rfl, ?_⟩
                refine ⟨_, .int k.1, .inr (.of hp), atI_nat (j := 0) rfl, ?_⟩
                refine ⟨sz rfl, fun q H7 g7 => hn _ _ ⟨g7.sm, .ref q, rfl, .inr ⟨q, n - j, k.1, rfl, ?_, by omega, by omega, fun k' => ?_, fun i' p' a b => by omega⟩⟩⟩
                · have : ((n - j : Nat) : Int) = (n : Int) - (j : Int) := by omega
                  rw [this]
                  exact g7.at_
                · rw [← hliv, List.mem_singleton]
                  have : k = (k.1, []) := Prod.ext rfl k2
                  rw [← this]
              · refine hn _ _ ⟨Same.refl _, lv, rfl, hlst.no (by omega) fun p' z => e2 ?_⟩
                have : k = (p', []) := (z k).mp ((hliv k).mp (List.mem_singleton.mpr rfl))
                rw [this]
                rfl
        · refine hn _ _ ⟨Same.refl _, lv, rfl, hlst.no (by omega) fun p' z => e (decide_eq_true ?_)⟩
          have l1 := nd_le ks [(p', [])] ndk fun x hx => List.mem_singleton.mpr ((z x).mp ((hliv x).mp hx))
          have l2 := List.length_pos_of_mem ((hliv _).mpr ((z (p', [])).mpr rfl))
          simp only [List.length_singleton] at l1
          show (us.length : Int) = 1
          omega
      · rintro σ' H7 ⟨s7, lv', rfl, hlst'⟩
        have s47 := s6.trans s7
        refine ⟨d, sp, layAt units (n - j), ks, us, rfl, lyd.same s47, s7 _ _ hsp, Paired.mapP pks fun k v => KyV.same s7 k v, fun k hk => ?_, ?_, fun sp' us' H8 s8 hsp' pks' => ?_⟩
        · obtain ⟨l, hl⟩ := mem_keys ((hliv k).mp hk).1
          exact ⟨l, hl, lay_len hl⟩
        · have := nd_le ks _ ndk fun x hx => ((hliv x).mp hx).1
          have := (layAt_ok units (n - j)).len
          rw [List.length_map] at *
          omega
        refine set_nx ?_
        refine ⟨_, rfl, _, _, rfl, rfl, ?_⟩
        have em : ((n : Int) - (j : Int)) * (SZ : Int) - (SZ : Int) = ((n : Int) - ((j + 1 : Nat) : Int)) * (SZ : Int) := by
          rw [show ((j + 1 : Nat) : Int) = (j : Int) + 1 by omega, show (n : Int) - ((j : Int) + 1) = ((n : Int) - (j : Int)) - 1 by omega, Int.sub_mul ((n : Int) - (j : Int)) 1, Int.one_mul]
        refine ⟨s47.trans s8, sp', lv', _, by rw [← em]; rfl, fun hj1 => ?_, hlst'.same s8⟩
        have e2 : n - j = (n - (j + 1)) + 1 := by omega
        obtain ⟨u, hu'⟩ : ∃ u, units[n - (j + 1)]? = some u := ⟨_, List.getElem?_eq_getElem (by omega)⟩
        rw [e2] at hliv pks'
        obtain ⟨a1, a2⟩ := ahd_liv hu' ndk hliv
        exact ⟨us', _, hsp', pks', a1, a2⟩
    · rintro σ H6 ⟨s6, sp, lv, v7, rfl, _, hlst⟩
      rw [← lds] at hlst
      exact kq lv H6 (s04.trans s6) hlst
end
end My
namespace My
open PySem L2
section
variable [O : Od]
theorem run_app (k : Spt) (a b : List (List Int)) : run k (a ++ b) = (run k a).bind fun g => run g b := by
  induction a generalizing k with
  | nil => rfl
  | cons u a ih =>
    show (nx k u).bind (fun g => run g (a ++ b)) = ((nx k u).bind fun g => run g a).bind _
    cases nx k u with
    | none => rfl
    | some g => exact ih g
theorem key_mem (units : List (List Int)) : ∀ i, i ≤ units.length → ∀ k, k ∈ (layAt units i).map (·.1) ↔ ∃ k0 ∈ spots0, run k0 (units.take i) = some k
  | 0, _, k => by
    unfold layAt
    rw [List.take_zero]
    show k ∈ (spots0.map fun k => ((k, []) : Spt × List Spt)).map (·.1) ↔ _
    rw [List.map_map]
    have : ((fun x : Spt × List Spt => x.1) ∘ fun k => ((k, []) : Spt × List Spt)) = id := rfl
    rw [this, List.map_id]
    exact ⟨fun h => ⟨k, h, rfl⟩, fun ⟨k0, h, e⟩ => by cases e; exact h⟩
  | i + 1, hi, k => by
    have hlt : i < units.length := hi
    have hu : units[i]? = some units[i] := List.getElem?_eq_getElem hlt
    have c := beh_chr (u := units[i]) (layAt_ok units i).nd
    have ih := key_mem units i (by omega)
    have et : units.take (i + 1) = units.take i ++ [units[i]] := by rw [List.take_add_one, hu]; rfl
    rw [layAt_succ hu, et]
    constructor
    · intro h
      obtain ⟨x, hx, rfl⟩ := List.mem_map.mp h
      obtain ⟨a1, _, _, a4⟩ := c.mem x.1 x.2 hx
      obtain ⟨k1, r, e⟩ := List.exists_cons_of_ne_nil a1
      obtain ⟨b1, b2⟩ := (a4 k1).mp (by rw [e]; exact List.mem_cons_self ..)
      obtain ⟨k0, h0, h1⟩ := (ih k1).mp b1
      refine ⟨k0, h0, ?_⟩
      rw [run_app, h1]
      show (nx k1 units[i]).bind _ = _
      rw [b2]
      rfl
    · rintro ⟨k0, h0, h1⟩
      rw [run_app] at h1
      cases e : run k0 (units.take i) with
      | none => rw [e] at h1; cases h1
      | some k1 =>
        rw [e] at h1
        have h1 : (nx k1 units[i]).bind (fun g => run g []) = some k := h1
        cases e2 : nx k1 units[i] with
        | none => rw [e2] at h1; cases h1
        | some g =>
          rw [e2] at h1
          have : g = k := by cases h1; rfl
          subst this
          obtain ⟨l, hl⟩ := c.all k1 g ((ih k1).mpr ⟨k0, h0, e⟩) e2
          exact List.mem_map.mpr ⟨_, hl, rfl⟩
/-- a spot at the beginning from which all goes on -/
def Al (units : List (List Int)) (k0 : Spt) : Prop := k0 ∈ spots0 ∧ (run k0 units).isSome = true
theorem liv_iff {units : List (List Int)} {i : Nat} (hi : i ≤ units.length) (k : Spt) : Liv units i k ↔ ∃ k0, Al units k0 ∧ run k0 (units.take i) = some k := by
  unfold Liv
  rw [key_mem units i hi]
  constructor
  · rintro ⟨⟨k0, h0, h1⟩, h2⟩
    refine ⟨k0, ⟨h0, ?_⟩, h1⟩
    rw [← List.take_append_drop i units, run_app, h1]
    exact h2
  · rintro ⟨k0, ⟨h0, h2⟩, h1⟩
    refine ⟨⟨k0, h0, h1⟩, ?_⟩
    rw [← List.take_append_drop i units, run_app, h1] at h2
    exact h2
theorem no_sg1 {units : List (List Int)} {i : Nat} {p : Int} (hi : i ≤ units.length) (h : ∀ k0, ¬ Al units k0) : ¬ Sng units i p := fun z => by
  obtain ⟨k0, h0, _⟩ := (liv_iff hi _).mp ((z (p, [])).mpr rfl)
  exact h k0 h0
theorem no_sg2 {units : List (List Int)} {i : Nat} {p : Int} {k0 k : Spt} (hi : i ≤ units.length) (h : Al units k0) (hr : run k0 (units.take i) = some k) (hk : k.2 ≠ []) : ¬ Sng units i p := fun z => by
  have := (z k).mp ((liv_iff hi _).mpr ⟨k0, h, hr⟩)
  exact hk (by rw [this])
end
end My
namespace My
open PySem L2
theorem ub_is (h : Bool) {u : Int} (h0 : 0 ≤ u) (h1 : u ≤ 65535) : ∃ x y, ub h u = [x, y] ∧ u2 h x y = u ∧ (0 ≤ x ∧ x ≤ 255) ∧ (0 ≤ y ∧ y ≤ 255) := by
  unfold ub u2
  cases h
  · exact ⟨u % 256, u / 256, rfl, by show u / 256 * 256 + u % 256 = u; omega, by omega, by omega⟩
  · exact ⟨u / 256, u % 256, rfl, by show u / 256 * 256 + u % 256 = u; omega, by omega, by omega⟩
def In16 (us : List Int) : Prop := ∀ u ∈ us, 0 ≤ u ∧ u ≤ 65535
theorem ub_byts (h : Bool) {u : Int} (h0 : 0 ≤ u) (h1 : u ≤ 65535) : Byts (ub h u) := by
  obtain ⟨x, y, e, _, hx, hy⟩ := ub_is h h0 h1
  rw [e]
  intro b hb
  rcases List.mem_cons.mp hb with rfl | hb
  · exact hx
  · rw [List.mem_singleton.mp hb]; exact hy
theorem row_byts {h : Bool} {us : List Int} (hu : In16 us) : Byts (us.flatMap (ub h)) := fun b hb => by
  obtain ⟨u, h1, h2⟩ := List.mem_flatMap.mp hb
  exact ub_byts h (hu u h1).1 (hu u h1).2 b h2
theorem unts_row (h : Bool) (us : List Int) : untsOf (us.flatMap (ub h)) = us.map (ub h) := by
  have at_ : ∀ (us : List Int) (i : Nat) (u : Int), us[i]? = some u → ((us.flatMap (ub h)).drop (i * 2)).take 2 = ub h u := by
    intro us
    induction us with
    | nil => intro i u hi; simp at hi
    | cons v us ih =>
      intro i u hi
      rw [List.flatMap_cons]
      cases i with
      | zero =>
        simp at hi
        subst hi
        rw [Nat.zero_mul, List.drop_zero]
        exact List.take_left' (ub_len h v)
      | succ i =>
        have : (i + 1) * 2 = (ub h v).length + i * 2 := by rw [ub_len]; omega
        rw [this, List.drop_length_add_append]
        exact ih i u (by simpa using hi)
  unfold untsOf
  have e : ((us.flatMap (ub h)).length + (SZ - 1)) / SZ = us.length := by rw [flat_len]; unfold SZ; omega
  rw [e]
  refine List.ext_getElem? fun i => ?_
  rw [List.getElem?_map, List.getElem?_map]
  by_cases c : i < us.length
  · have hu : us[i]? = some us[i] := List.getElem?_eq_getElem c
    rw [List.getElem?_range c, hu]
    exact congrArg some (at_ us i _ hu)
  · rw [List.getElem?_eq_none (by rw [List.length_range]; omega), List.getElem?_eq_none (by omega)]
    rfl
def sn (u : Int) : Bool := decide (61184 ≤ u) && decide (u ≤ 61439)
theorem kinds3 {u : Int} : (ltl u = true ∨ sn u = true → lsg u = false ∧ lhd u = false) ∧ (ltl u = false → sn u = false → lsg u = !lhd u) ∧ (ltl u = true → lhd u = false ∧ sn u = false) := by
  unfold ltl sn lsg lhd
  refine ⟨fun z => ?_, fun z1 z2 => ?_, fun z => ?_⟩
  · simp at z ⊢; omega
  · rw [Bool.eq_iff_iff]
    simp at z1 z2 ⊢
    omega
  · simp at z ⊢; omega
section
variable [O : Od]
open Classical in
theorem nx_e {u : Int} (h0 : 0 ≤ u) (h1 : u ≤ 65535) : nx (0, []) (ub O.h u) = if lsg u = true then some (0, []) else if lhd u = true then some (0, ub O.h u) else none := by
  have hb := ub_byts O.h h0 h1
  have hl := ub_len O.h u
  obtain ⟨x, y, e, e2, hx, hy⟩ := ub_is O.h h0 h1
  unfold nx
  show (if Byts (ub O.h u) ∧ (ub O.h u).length ≤ 900 then (if (whl O.h (ub O.h u)).isSome = true then some ((0, []) : Spt) else if (fil O.h (ub O.h u)).isSome = true then some (0, ub O.h u) else none) else none) = _
  rw [if_pos ⟨hb, by omega⟩]
  have w : (whl O.h (ub O.h u)).isSome = lsg u := by rw [e, whl2 O.h hx hy, e2]
  have g : (fil O.h (ub O.h u)).isSome = (lhd u || lsg u) := by
    rw [← lbg_eq O.h hb, e]
    show (lhd (u2 O.h x y) || lsg (u2 O.h x y)) = _
    rw [e2]
  rw [w, g]
  cases lsg u <;> cases lhd u <;> rfl
open Classical in
theorem nx_h {u0 u : Int} (a0 : 0 ≤ u0) (a1 : u0 ≤ 65535) (hh : lhd u0 = true) (h0 : 0 ≤ u) (h1 : u ≤ 65535) : nx (0, ub O.h u0) (ub O.h u) = if ltl u = true then some (0, []) else none := by
  have hb := (ub_byts O.h a0 a1).app (ub_byts O.h h0 h1)
  have hl := ub_len O.h u
  have hl0 := ub_len O.h u0
  obtain ⟨x, y, e, e2, hx, hy⟩ := ub_is O.h h0 h1
  obtain ⟨x0, y0, f, f2, fx, fy⟩ := ub_is O.h a0 a1
  unfold nx
  show (if Byts (ub O.h u0 ++ ub O.h u) ∧ (ub O.h u0 ++ ub O.h u).length ≤ 900 then (if (whl O.h (ub O.h u0 ++ ub O.h u)).isSome = true then some ((0, []) : Spt) else if (fil O.h (ub O.h u0 ++ ub O.h u)).isSome = true then some (0, ub O.h u0 ++ ub O.h u) else none) else none) = _
  rw [if_pos ⟨hb, by rw [List.length_append]; omega⟩]
  have w : (whl O.h (ub O.h u0 ++ ub O.h u)).isSome = ltl u := by
    rw [e, f]
    show (whl O.h [x0, y0, x, y]).isSome = _
    rw [whl4, e2, f2, hh]
    rfl
  have g : (fil O.h (ub O.h u0 ++ ub O.h u)).isSome = ltl u := by
    rw [← lbg_eq O.h hb, e, f]
    show (lhd (u2 O.h x0 y0) && ltl (u2 O.h x y)) = _
    rw [e2, f2, hh]
    rfl
  rw [w, g]
  cases ltl u <;> rfl
def Alv (b us : List Int) : Prop := (run (0, b) (us.map (ub O.h))).isSome = true
def tb : Bool → List Int → Bool
  | _, [] => true
  | hd, u :: r => if ((hd != ltl u) || sn u) = true then false else tb (lhd u) r
theorem run_cons (k : Spt) (u : Int) (r : List Int) : run k ((u :: r).map (ub O.h)) = (nx k (ub O.h u)).bind fun g => run g (r.map (ub O.h)) := rfl
theorem alv_tb : ∀ (us : List Int), In16 us → (Alv [] us ↔ tb false us = true) ∧ ∀ u0, 0 ≤ u0 → u0 ≤ 65535 → lhd u0 = true → (Alv (ub O.h u0) us ↔ tb true us = true)
  | [], _ => ⟨⟨fun _ => rfl, fun _ => rfl⟩, fun _ _ _ _ => ⟨fun _ => rfl, fun _ => rfl⟩⟩
  | u :: r, hu => by
    obtain ⟨h0, h1⟩ := hu u (List.mem_cons_self ..)
    obtain ⟨i1, i2⟩ := alv_tb r fun x hx => hu x (List.mem_cons_of_mem _ hx)
    obtain ⟨k1, k2, k3⟩ := kinds3 (u := u)
    refine ⟨?_, fun u0 a0 a1 hh => ?_⟩
    · unfold Alv
      rw [run_cons, nx_e h0 h1, tb]
      cases ht : ltl u with
      | true =>
        obtain ⟨z1, z2⟩ := k1 (.inl ht)
        rw [z1, z2]
        exact ⟨fun z => (nomatch z), fun z => (nomatch z)⟩
      | false =>
        cases hs : sn u with
        | true =>
          obtain ⟨z1, z2⟩ := k1 (.inr hs)
          rw [z1, z2]
          exact ⟨fun z => (nomatch z), fun z => (nomatch z)⟩
        | false =>
          have z := k2 ht hs
          rw [z]
          cases hh : lhd u with
          | true => exact i2 u h0 h1 hh
          | false => exact i1
    · unfold Alv
      rw [run_cons, nx_h a0 a1 hh h0 h1, tb]
      cases ht : ltl u with
      | true =>
        obtain ⟨z1, z2⟩ := k3 ht
        rw [z1, z2]
        exact i1
      | false => exact ⟨fun z => (nomatch z), fun z => (nomatch z)⟩
def mT : List Int → Nat
  | [] => 0
  | u :: _ => if ltl u = true then 1 else 0
theorem mT_le (us : List Int) : mT us ≤ us.length := by
  cases us with
  | nil => exact Nat.le_refl _
  | cons u r =>
    show (if ltl u = true then 1 else 0) ≤ r.length + 1
    split <;> omega
def DueN (us : List Int) : Prop := us = [] ∨ ¬ tb false (us.drop (mT us)) = true
theorem hd_ok : lhd 55296 = true := by decide
theorem key0 {us : List Int} (hu : In16 us) (ne : us ≠ []) {k0 : Spt} (h : Al (us.map (ub O.h)) k0) : run k0 ((us.map (ub O.h)).take (mT us)) = some (0, []) ∧ Alv [] (us.drop (mT us)) := by
  obtain ⟨h0, h1⟩ := h
  obtain ⟨u, r, rfl⟩ := List.exists_cons_of_ne_nil ne
  obtain ⟨u0, u1⟩ := hu u (List.mem_cons_self ..)
  rcases List.mem_cons.mp h0 with rfl | h0
  · have nt : ¬ ltl u = true := fun z => by
      obtain ⟨z1, z2⟩ := (kinds3 (u := u)).1 (.inl z)
      rw [run_cons, nx_e u0 u1, z1, z2] at h1
      cases h1
    have m0 : mT (u :: r) = 0 := if_neg nt
    rw [m0]
    exact ⟨rfl, h1⟩
  · obtain rfl := List.mem_singleton.mp h0
    rw [run_cons, nx_h (by decide) (by decide) hd_ok u0 u1] at h1
    by_cases t : ltl u = true
    · have m1 : mT (u :: r) = 1 := if_pos t
      rw [if_pos t] at h1
      rw [m1]
      refine ⟨?_, h1⟩
      show (nx (0, ub O.h 55296) (ub O.h u)).bind (fun g => run g []) = _
      rw [nx_h (by decide) (by decide) hd_ok u0 u1, if_pos t]
      rfl
    · rw [if_neg t] at h1
      cases h1
theorem due_none {us : List Int} (hu : In16 us) (h : DueN us) {i : Nat} {p : Int} (hi : i ≤ us.length) : ¬ Sng (us.map (ub O.h)) i p := by
  have hi' : i ≤ (us.map (ub O.h)).length := by rw [List.length_map]; exact hi
  by_cases ne : us = []
  · subst ne
    have i0 : i = 0 := Nat.le_zero.mp hi
    subst i0
    refine no_sg2 (k0 := (0, ub O.h 55296)) (k := (0, ub O.h 55296)) hi' ⟨List.mem_cons_of_mem _ (List.mem_singleton.mpr rfl), rfl⟩ rfl fun z => ?_
    have := ub_len O.h 55296
    rw [show ub O.h 55296 = [] from z] at this
    cases this
  · refine no_sg1 hi' fun k0 al => ?_
    have := (key0 hu ne al).2
    rcases h with h | h
    · exact ne h
    · exact h ((alv_tb _ fun x hx => hu x (List.mem_of_mem_drop hx)).1.mp this)
theorem due_some {us : List Int} (hu : In16 us) (h : ¬ DueN us) : Sng (us.map (ub O.h)) (mT us) 0 ∧ ∀ i p, i < mT us → ¬ Sng (us.map (ub O.h)) i p := by
  have ne : us ≠ [] := fun z => h (.inl z)
  have h3 : Alv [] (us.drop (mT us)) := (alv_tb _ fun x hx => hu x (List.mem_of_mem_drop hx)).1.mpr (Classical.byContradiction fun z => h (.inr z))
  have ml := mT_le us
  have hm : mT us ≤ (us.map (ub O.h)).length := by rw [List.length_map]; exact ml
  obtain ⟨u, r, rfl⟩ := List.exists_cons_of_ne_nil ne
  obtain ⟨u0, u1⟩ := hu u (List.mem_cons_self ..)
  obtain ⟨k0, al, r0, ri⟩ : ∃ k0, Al ((u :: r).map (ub O.h)) k0 ∧ run k0 (((u :: r).map (ub O.h)).take (mT (u :: r))) = some (0, []) ∧ ∀ i, i < mT (u :: r) → ∃ k, run k0 (((u :: r).map (ub O.h)).take i) = some k ∧ k.2 ≠ [] := by
    by_cases t : ltl u = true
    · have m1 : mT (u :: r) = 1 := if_pos t
      rw [m1] at h3 ⊢
      refine ⟨(0, ub O.h 55296), ⟨List.mem_cons_of_mem _ (List.mem_singleton.mpr rfl), ?_⟩, ?_, fun i hi => ⟨(0, ub O.h 55296), ?_, fun z => ?_⟩⟩
      · rw [run_cons, nx_h (by decide) (by decide) hd_ok u0 u1, if_pos t]
        exact h3
      · show (nx (0, ub O.h 55296) (ub O.h u)).bind (fun g => run g []) = _
        rw [nx_h (by decide) (by decide) hd_ok u0 u1, if_pos t]
        rfl
      · have : i = 0 := by omega
        subst this
        rfl
      · have := ub_len O.h 55296
        rw [show ub O.h 55296 = [] from z] at this
        cases this
    · have m0 : mT (u :: r) = 0 := if_neg t
      rw [m0] at h3 ⊢
      exact ⟨(0, []), ⟨List.mem_cons_self .., h3⟩, rfl, fun i hi => absurd hi (Nat.not_lt_zero _)⟩
  refine ⟨fun k => ?_, fun i p hi => ?_⟩
  · rw [liv_iff hm]
    constructor
    · rintro ⟨k1, a1, a2⟩
      have := (key0 hu ne a1).1
      rw [this] at a2
      cases a2
      rfl
    · rintro rfl
      exact ⟨k0, al, r0⟩
  · obtain ⟨k, b1, b2⟩ := ri i hi
    exact no_sg2 (by omega) al b1 b2
theorem res {H : Hp} {v : V} {us : List Int} (hu : In16 us) (h : Lst H (untsOf (us.flatMap (ub O.h))) us.length (us.length + 1) v) : (DueN us → v = .non) ∧ (¬ DueN us → ∃ a, v = .ref a ∧ H a = some (.tup [.int (2 * (mT us : Int)), .int 0])) := by
  rw [unts_row] at h
  have ml := mT_le us
  rcases h with ⟨rfl, h⟩ | ⟨a, i, p, rfl, h1, h2, h3, h4, h5⟩
  · refine ⟨fun _ => rfl, fun d => ?_⟩
    exact absurd (due_some hu d).1 (h _ 0 (by omega) ml)
  · refine ⟨fun d => absurd h4 (due_none hu d h3), fun d => ⟨a, rfl, ?_⟩⟩
    obtain ⟨s1, s2⟩ := due_some (O := O) hu d
    have e : i = mT us := by
      by_cases c1 : i < mT us
      · exact absurd h4 (s2 i p c1)
      · by_cases c2 : mT us < i
        · exact absurd s1 (h5 _ _ (by omega) c2)
        · omega
    subst e
    have ep : (p, []) = ((0, []) : Spt) := (s1 _).mp ((h4 _).mpr rfl)
    injection ep with ep _
    subst ep
    have : (mT us : Int) * (SZ : Int) = 2 * (mT us : Int) := by unfold SZ; omega
    rw [this] at h1
    exact h1
end
end My
namespace My
open PySem L2
theorem at_last {us : List Int} (h : us ≠ []) : ∃ x, atI (us.map V.int) (-1) = some (.int x) := by
  obtain ⟨ys, y, rfl⟩ : ∃ ys y, us = ys ++ [y] := ⟨us.dropLast, us.getLast h, (List.dropLast_concat_getLast h).symm⟩
  exact ⟨y, by rw [List.map_append]; exact atI_last _ _⟩
section
variable {P : Program} {w : World} {K : PySem.W.Frag} {mg : Str → Option Value} {base : Heap} {t : Adr}
def spPick (K : PySem.W.Frag) : Sp := fun vs H Q _ => ∃ (a : Addr) (ns : List Int) (k : Nat), vs = [.ref a, .int (k : Int)] ∧ SqL K H a (ns.map V.int) ∧ ns.length ≤ 1000 ∧ ∀ H', Same H H' → Q (.int (ns.getD k 0)) H'
theorem h_z_pick (T : Txt w K mg t) : Has P w K mg base "_law_pick" 1 t.a_z_pick t.f_z_pick ["_law_script", "_law_k"] (spPick K) := by
  refine ⟨T.g_z_pick, T.F_z_pick.kp, T.b_z_pick, T.F_z_pick.okQ sc_z_pick (fun vs H Q E h => by obtain ⟨a, ns, i, rfl, _⟩ := h; rfl) fun cdv A outer s H vs Q E hr h => ?_⟩
  obtain ⟨a, ns, i, rfl, h1, hl, k⟩ := h
  refine ⟨_, (q_pss_one (q_ps_ret (q_pe_ix (g_ixK (K := K) rfl) (q_pe_op (g_addK (K := K) rfl) (q_pe_slice (g_slK (K := K) rfl) (q_vv 0) (q_po_some (q_vv 1)) (q_po_some (q_pe_op (g_addK (K := K) rfl) (q_vv 1) q_pe_int))) (q_me_lst (q_pa_c q_pe_int q_pa_nil))) q_pe_int (fun _ _ => rfl)))), ?_⟩
  refine ⟨_, rfl, _, rfl, _, h1, fun p1 H1 g1 => ?_⟩
  have e : cutV (ns.map V.int) (some (i : Int)) (some ((i : Int) + 1)) = ((ns.drop i).take 1).map V.int := by rw [cutV_ints]; exact congrArg _ (cutL_mid ns i 1)
  rw [e] at g1
  refine ⟨sz rfl, fun p2 H2 g2 => ?_⟩
  refine ⟨_, _, g2.sm.seq g1.lst, g2.lst, ?_, fun p3 H3 g3 => ?_⟩
  · rw [List.length_map, List.length_take]
    exact Nat.le_trans (Nat.add_le_add_right (Nat.min_le_left _ _) 1) (by decide)
  have e3 : ((ns.drop i).take 1).map V.int ++ [V.int 0] = (((ns.drop i).take 1) ++ [0]).map V.int := by simp
  rw [e3] at g3
  have hv : (((ns.drop i).take 1) ++ [0])[0]? = some (ns.getD i 0) := by
    have e0 : ns[i]? = (ns.drop i)[0]? := by rw [List.getElem?_drop]; rfl
    rw [List.getD_eq_getElem?_getD, e0]
    cases ns.drop i with
    | nil => rfl
    | cons x r => rfl
  refine ⟨_, .int (ns.getD i 0), .inl g3.lst, atI_nat (j := 0) (by rw [List.getElem?_map, hv]; rfl), ?_⟩
  exact k _ ((g1.sm.trans g2.sm).trans g3.sm)
theorem h_z_plain (T : Txt w K mg t) : Has P w K mg base "_law_plain" 1 t.a_z_plain t.f_z_plain ["_law_found"] (fun vs H Q _ => ∃ i, vs = [.int i] ∧ Q (.bl true) H) := by
  refine ⟨T.g_z_plain, T.F_z_plain.kp, T.b_z_plain, T.F_z_plain.okQ sc_z_plain (fun vs H Q E h => by obtain ⟨i, rfl, _⟩ := h; rfl) fun cdv A outer s H vs Q E hr h => ?_⟩
  obtain ⟨i, rfl, k⟩ := h
  refine ⟨_, (q_pss_one (q_ps_ret (q_me_and (q_calB (c_instK (K := K) rfl) T.n_isinstance PyProof.Rows.boot_isinstance (q_pa_c (q_vv 0) (q_pa_c (q_bty rfl T.n_int PyProof.Rows.boot_int) q_pa_nil))) (q_me_and (q_pe_cmpR g_isnot (q_vv 0) q_pe_bl (nomark _)) (q_pe_one (q_pe_cmpR g_isnot (q_vv 0) q_pe_bl (nomark _))))))), ?_⟩
  obtain ⟨ty, hty, e0⟩ := (Knd.int (K := K) (H := H) i).isInt
  refine ⟨ty, _, hty, e0, ?_⟩
  refine ⟨(Knd.int (K := K) (H := H) i).noTy, ?_⟩
  exact ⟨(Knd.int (K := K) (H := H) i).noTy, k⟩
def spU : Sp := fun vs H Q _ => ∃ c, vs = [.int c] ∧ ∀ u H', 0 ≤ u → u ≤ 65535 → Same H H' → Q (.int u) H'
theorem h_z_unit (T : Txt w K mg t) : Has P w K mg base "_law_unit" 1 t.a_z_unit t.f_z_unit ["_law_cell"] spU := by
  refine ⟨T.g_z_unit, T.F_z_unit.kp, T.b_z_unit, T.F_z_unit.okQ sc_z_unit (fun vs H Q E h => by obtain ⟨c, rfl, _⟩ := h; rfl) fun cdv A outer s H vs Q E hr h => ?_⟩
  obtain ⟨c, rfl, k⟩ := h
  have hu := hr.units
  refine ⟨_, (q_pss_cons (q_ps_if (q_mt_cmp (g_eqK (K := K) rfl hu) (q_me_md (q_vv 0)) q_pe_int (nomark _)) (q_pss_one (q_ps_ret (q_pe_op (g_addK (K := K) rfl) q_pe_int (q_me_md (q_me_fd (q_vv 0)))))) q_pss_nil)
      (q_pss_cons (q_ps_if (q_mt_cmp (g_eqK (K := K) rfl hu) (q_me_md (q_vv 0)) q_pe_int (nomark _)) (q_pss_one (q_ps_ret (q_pe_op (g_addK (K := K) rfl) q_pe_int (q_me_md (q_me_fd (q_vv 0)))))) q_pss_nil)
      (q_pss_cons (q_ps_if (q_PW_pt (q_pw_and (q_mt_cmp (g_eqK (K := K) rfl hu) (q_me_md (q_vv 0)) q_pe_int (nomark _)) (q_pw_and1 (q_mt_cmp (g_eqK (K := K) rfl hu) (q_me_md (q_me_fd (q_vv 0))) q_pe_int (nomark _))))) (q_pss_one (q_ps_ret (q_pe_op (g_addK (K := K) rfl) q_pe_int (q_me_md (q_me_fd (q_vv 0)))))) q_pss_nil)
      (q_pss_cons (q_ps_if (q_mt_cmp (g_eqK (K := K) rfl hu) (q_me_md (q_vv 0)) q_pe_int (nomark _)) (q_pss_one (q_ps_ret (q_me_md (q_me_fd (q_vv 0))))) q_pss_nil)
      (q_pss_one (q_ps_ret (q_pe_ix (g_ixK (K := K) rfl) (q_me_lst (q_pa_const rfl)) (q_me_md (q_me_fd (q_vv 0))) (fun _ _ => rfl)))))))), ?_⟩
  refine ite2 (fun e => k _ _ (by omega) (by omega) (Same.refl _)) (fun e => ?_)
  refine ite2 (fun e => k _ _ (by omega) (by omega) (Same.refl _)) (fun e => ?_)
  have last : ∀ p H', Gro H p (.lst (([0, 65535, 55295, 57344, 61183, 61440, 65279] : List Int).map V.int)) H' → ∃ xs v, (SqL K H' p xs ∨ SqT K H' p xs) ∧ atI xs (c / 5 % 7) = some v ∧ Q v H' := fun p H' g => by
    obtain ⟨v, hv, e1, _⟩ := atI_in (xs := (([0, 65535, 55295, 57344, 61183, 61440, 65279] : List Int).map V.int)) (i := c / 5 % 7) (by omega) (by simp; omega)
    obtain ⟨z, hz, rfl⟩ := List.mem_map.mp hv
    have : 0 ≤ z ∧ z ≤ 65535 := by
      simp only [List.mem_cons, List.not_mem_nil, or_false] at hz
      omega
    exact ⟨_, _, .inl g.lst, e1, k _ _ this.1 this.2 g.sm⟩
  refine ite2 (fun e1 => ?_) (fun e1 => ?_)
  · refine ite2 (fun e2 => k _ _ (by omega) (by omega) (Same.refl _)) (fun e2 => ?_)
    refine ite2 (fun e3 => k _ _ (by omega) (by omega) (Same.refl _)) (fun e3 => ?_)
    exact ⟨sz rfl, fun p H' g => last p H' g⟩
  · refine ite2 (fun z => absurd z (by decide)) (fun _ => ?_)
    refine ite2 (fun e3 => k _ _ (by omega) (by omega) (Same.refl _)) (fun e3 => ?_)
    exact ⟨sz rfl, fun p H' g => last p H' g⟩
def spUs (K : PySem.W.Frag) : Sp := fun vs H Q _ => ∃ (a : Addr) (ns : List Int), vs = [.ref a] ∧ SqL K H a (ns.map V.int) ∧ ns.length ≤ 63 ∧ ∀ p us H', Same H H' → H' p = some (.lst (us.map V.int)) → In16 us → us.length ≤ 60 → Q (.ref p) H'
theorem h_z_units (T : Txt w K mg t) : Has P w K mg base "_law_units" 2 t.a_z_units t.f_z_units ["_law_script"] (spUs K) := by
  refine ⟨T.g_z_units, T.F_z_units.kp, T.b_z_units, T.F_z_units.okQ sc_z_units (fun vs H Q E h => by obtain ⟨a, ns, rfl, _⟩ := h; rfl) fun cdv A outer s H vs Q E hr h => ?_⟩
  obtain ⟨a, ns, rfl, h1, hc, k⟩ := h
  have hu := hr.units
  refine ⟨_, (q_pss_cons (q_ps_set (i := 1) sc_z_units.nd rfl (.inl rfl) (q_me_lst q_pa_nil))
      (q_pss_cons (q_ps_for PassesOwn.never rfl (q_pi_listK (K := K) rfl (q_pe_slice (g_slK (K := K) rfl) (q_vv 0) (q_po_some q_pe_int) (q_po_some q_pe_int))) (q_pg_name (i := 2) sc_z_units.nd rfl (.inl rfl)) (q_pss_cons (q_ps_set (i := 3) sc_z_units.nd rfl (.inl rfl) (q_cal (h_z_unit T) hr (q_pa_c (q_me_fd (q_vv 2)) q_pa_nil)))
      (q_pss_cons (q_ps_if (q_mt_cmp (g_eqK (K := K) rfl hu) (q_me_md (q_me_fd (q_cal (h_z_pick T) hr (q_pa_c (q_vv 0) (q_pa_c q_pe_int q_pa_nil))))) q_pe_int (nomark _)) (q_pss_one (q_ps_if (q_PW_pt (q_pw_and (q_mt_cmp (g_neK (K := K) rfl hu) (q_vv 1) (q_me_lst q_pa_nil) (nomark _)) (q_pw_and (q_mt_cmp g_ge (q_pe_ix (g_ixK (K := K) rfl) (q_vv 1) (q_pe_un un_negM q_pe_int) (fun _ _ => rfl)) q_pe_int (nomark _)) (q_pw_and1 (q_mt_cmp g_lt (q_pe_ix (g_ixK (K := K) rfl) (q_vv 1) (q_pe_un un_negM q_pe_int) (fun _ _ => rfl)) q_pe_int (nomark _)))))) (q_pss_one (q_ps_set (i := 3) sc_z_units.nd rfl (.inl rfl) (q_pe_op (g_addK (K := K) rfl) q_pe_int (q_me_md (q_me_fd (q_vv 2)))))) (q_pss_one (q_ps_if (q_PW_pt (q_pw_and (q_mt_cmp g_le q_pe_int (q_vv 3) (nomark _)) (q_pw_and (q_mt_cmp g_lt (q_vv 3) q_pe_int (nomark _)) (q_pw_and1 (q_mt_cmp (g_neK (K := K) rfl hu) (q_vv 1) (q_me_lst q_pa_nil) (nomark _)))))) (q_pss_one (q_ps_set (i := 3) sc_z_units.nd rfl (.inl rfl) (q_me_md (q_me_fd (q_vv 2))))) q_pss_nil)))) q_pss_nil)
      (q_pss_one (q_ps_expr (q_pe_bmK (K := K) rfl PySem.F.plainAttrs_list PySem.F.slot_list_append PySem.F.type_list_append mg_append (q_vv 1) (q_pa_c (q_vv 3) q_pa_nil)))))))
      (q_pss_one (q_ps_ret (q_vv 1))))), ?_⟩
  refine ⟨sz rfl, fun p H1 g1 => ?_⟩
  refine set_nx ?_
  refine ⟨_, rfl, _, rfl, _, g1.sm.seq h1, fun pc H2 g2 => ?_⟩
  have ec : cutV (ns.map V.int) (some 1) (some 61) = ((ns.drop 1).take 60).map V.int := by rw [cutV_ints]; exact congrArg _ (cutL_mid ns 1 60)
  rw [ec] at g2
  obtain ⟨ds, eds⟩ : ∃ ds, ds = (ns.drop 1).take 60 := ⟨_, rfl⟩
  have dl : ds.length ≤ 60 := by rw [eds, List.length_take]; omega
  rw [← eds] at g2
  have np : pc ≠ p := fun e => by
    rw [e] at g2
    have := g2.nw
    rw [g1.at_] at this
    cases this
  refine ⟨pc, rfl, ⟨_, g2.lst⟩, for_list (K := K) (a := pc) (xs := ds.map V.int) (fun i σ H' => Same H H' ∧ H' pc = some (.lst (ds.map V.int)) ∧ ∃ (us : List Int) (v2 v3 : Option V), H' p = some (.lst (us.map V.int)) ∧ In16 us ∧ us.length ≤ i ∧ σ = [some (.ref a), some (.ref p), v2, v3]) ⟨g1.sm.trans g2.sm, g2.at_, [], _, _, g2.sm _ _ g1.at_, fun _ z => (nomatch z), Nat.le_refl _, rfl⟩ (fun i σ H' _ z => .of z.2.1) ?_ ?_⟩
  · rintro i x σ H3 hx ⟨s3, hpc, us, v2, v3, hp, hin, hl, rfl⟩
    obtain ⟨c, hcx, rfl⟩ : ∃ c, ds[i]? = some c ∧ x = .int c := by
      rw [List.getElem?_map] at hx
      obtain ⟨c, h, rfl⟩ := Option.map_eq_some_iff.mp hx
      exact ⟨c, h, rfl⟩
    have hil : i < ds.length := (List.getElem?_eq_some_iff.mp hcx).1
    refine set_nx ?_
    refine seq_nx (fun σ' H' => Same H3 H' ∧ ∃ u, 0 ≤ u ∧ u ≤ 65535 ∧ σ' = [some (.ref a), some (.ref p), some (.int c), some (.int u)]) (fun nx hn => ?_) ?_
    · exact ⟨_, rfl, fun u H' u0 u1 s' => hn _ _ ⟨s', u, u0, u1, rfl⟩⟩
    rintro σ' H4 ⟨s4, u, u0, u1, rfl⟩
    refine seq_nx (fun σ' H' => Same H4 H' ∧ ∃ u, 0 ≤ u ∧ u ≤ 65535 ∧ σ' = [some (.ref a), some (.ref p), some (.int c), some (.int u)]) (fun nx hn => ?_) ?_
    · have fin : ∀ u H', 0 ≤ u → u ≤ 65535 → Same H4 H' → nx [some (.ref a), some (.ref p), some (.int c), some (.int u)] H' := fun u H' a b z => hn _ _ ⟨z, u, a, b, rfl⟩
      have stay : ∀ H', Same H4 H' → nx [some (.ref a), some (.ref p), some (.int c), some (.int u)] H' := fun H' z => fin u H' u0 u1 z
      have hp4 := s4 _ _ hp
      refine ⟨a, ns, 0, rfl, (s3.trans s4).seq h1, by omega, fun H5 s5 => ?_⟩
      have hp5 := s5 _ _ hp4
      refine ite2 (fun e1 => ?_) (fun e1 => stay _ s5)
      refine ⟨sz rfl, fun pe H7 g7 => ?_⟩
      have s7 := s5.trans g7.sm
      have hp7 := g7.sm _ _ hp5
      refine ⟨_, _, DataV.lst (.of hp7) (DataVs.ints us), DataV.lst g7.lst (DataVs.ints []), PySem.W.ke_shaped_ints us, PySem.W.ke_shaped_ints [], ?_⟩
      refine ite2 (fun e2 => ?_) (fun e2 => ?_)
      · have ne : us ≠ [] := fun z => by subst z; exact absurd e2 (by decide)
        obtain ⟨y, hy⟩ := at_last ne
        refine ⟨_, .int y, .inl (.of hp7), hy, ?_⟩
        refine ite2 (fun e3 => ?_) (fun e3 => ?_)
        · refine ⟨_, .int y, .inl (.of hp7), hy, ?_⟩
          refine ite2 (fun e4 => fin _ _ (by omega) (by omega) s7) (fun e4 => ?_)
          refine ite2 (fun f1 => ?_) (fun f1 => stay _ s7)
          refine ite2 (fun f2 => ?_) (fun f2 => stay _ s7)
          refine ⟨sz rfl, fun pe2 H6 g6 => ?_⟩
          refine ⟨_, _, DataV.lst (.of (g6.sm _ _ hp7)) (DataVs.ints us), DataV.lst g6.lst (DataVs.ints []), PySem.W.ke_shaped_ints us, PySem.W.ke_shaped_ints [], ?_⟩
          exact ite2 (fun f3 => fin _ _ (by omega) (by omega) (Same.trans s7 g6.sm)) (fun f3 => stay _ (Same.trans s7 g6.sm))
        · refine ite2 (fun z => absurd z (by decide)) (fun _ => ?_)
          refine ite2 (fun f1 => ?_) (fun f1 => stay _ s7)
          refine ite2 (fun f2 => ?_) (fun f2 => stay _ s7)
          refine ⟨sz rfl, fun pe2 H6 g6 => ?_⟩
          refine ⟨_, _, DataV.lst (.of (g6.sm _ _ hp7)) (DataVs.ints us), DataV.lst g6.lst (DataVs.ints []), PySem.W.ke_shaped_ints us, PySem.W.ke_shaped_ints [], ?_⟩
          exact ite2 (fun f3 => fin _ _ (by omega) (by omega) (Same.trans s7 g6.sm)) (fun f3 => stay _ (Same.trans s7 g6.sm))
      · refine ite2 (fun z => absurd z (by decide)) (fun _ => ?_)
        refine ite2 (fun f1 => ?_) (fun f1 => stay _ s7)
        refine ite2 (fun f2 => ?_) (fun f2 => stay _ s7)
        refine ⟨sz rfl, fun pe2 H6 g6 => ?_⟩
        refine ⟨_, _, DataV.lst (.of (g6.sm _ _ hp7)) (DataVs.ints us), DataV.lst g6.lst (DataVs.ints []), PySem.W.ke_shaped_ints us, PySem.W.ke_shaped_ints [], ?_⟩
        exact ite2 (fun f3 => fin _ _ (by omega) (by omega) (Same.trans s7 g6.sm)) (fun f3 => stay _ (Same.trans s7 g6.sm))
    rintro σ' H5 ⟨s5, u', a0, a1, rfl⟩
    have hp5 := s5 _ _ (s4 _ _ hp)
    refine ⟨.inl ⟨rfl, _, .of hp5⟩, ?_⟩
    refine ⟨_, hp5, szlt (by simp; omega), ?_⟩
    refine ⟨same_put (O := ⟨true⟩) (s3.trans (s4.trans s5)) g1.nw fun c hc => upd_ne hc, by rw [upd_ne np]; exact s5 _ _ (s4 _ _ hpc), us ++ [u'], _, _, by rw [upd_same, List.map_append]; rfl, fun x hx => ?_, by simp; omega, rfl⟩
    rcases List.mem_append.mp hx with z | z
    · exact hin x z
    · rw [List.mem_singleton.mp z]; exact ⟨a0, a1⟩
  · rintro σ H3 ⟨s3, hpc, us, v2, v3, hp, hin, hl, rfl⟩
    rw [List.length_map] at hl
    exact k p us H3 s3 hp hin (by omega)
end
end My
namespace My
open PySem L2
section
variable {P : Program} {w : World} {K : PySem.W.Frag} {mg : Str → Option Value} {base : Heap} {t : Adr}
def spTb (K : PySem.W.Frag) : Sp := fun vs H Q _ => ∃ (a : Addr) (us : List Int), vs = [.ref a] ∧ SqL K H a (us.map V.int) ∧ Q (.bl (tb false us)) H
theorem ltl_and (u : Int) : (decide (56320 ≤ u) && decide (u < 57344)) = ltl u := by
  unfold ltl
  congr 1
  exact decide_eq_decide.mpr (by omega)
theorem h_z_two_by_two (T : Txt w K mg t) : Has P w K mg base "_law_two_by_two" 1 t.a_z_two_by_two t.f_z_two_by_two ["_law_units_here"] (spTb K) := by
  refine ⟨T.g_z_two_by_two, T.F_z_two_by_two.kp, T.b_z_two_by_two, T.F_z_two_by_two.okQ sc_z_two_by_two (fun vs H Q E h => by obtain ⟨a, us, rfl, _⟩ := h; rfl) fun cdv A outer s H vs Q E hr h => ?_⟩
  obtain ⟨a, us, rfl, h1, k⟩ := h
  have hu := hr.units
  refine ⟨_, (q_pss_cons (q_ps_set (i := 1) sc_z_two_by_two.nd rfl (.inl rfl) q_pe_bl)
      (q_pss_cons (q_ps_for PassesOwn.never rfl (q_pi_listK (K := K) rfl (q_vv 0)) (q_pg_name (i := 2) sc_z_two_by_two.nd rfl (.inl rfl)) (q_pss_cons (q_ps_set (i := 3) sc_z_two_by_two.nd rfl (.inl rfl) (q_me_and (q_pe_cmpR g_le q_pe_int (q_vv 2) (nomark _)) (q_pe_one (q_pe_cmpR g_lt (q_vv 2) q_pe_int (nomark _)))))
      (q_pss_cons (q_ps_if (q_PW_pt (q_pw_or (q_mt_cmp (g_neK (K := K) rfl hu) (q_vv 1) (q_vv 3) (nomark _)) (q_pw_or1 (q_PW_pt (q_pw_and (q_mt_cmp g_le q_pe_int (q_vv 2) (nomark _)) (q_pw_and1 (q_mt_cmp g_lt (q_vv 2) q_pe_int (nomark _)))))))) (q_pss_one (q_ps_ret q_pe_bl)) q_pss_nil)
      (q_pss_one (q_ps_set (i := 1) sc_z_two_by_two.nd rfl (.inl rfl) (q_me_and (q_pe_cmpR g_le q_pe_int (q_vv 2) (nomark _)) (q_pe_one (q_pe_cmpR g_lt (q_vv 2) q_pe_int (nomark _)))))))))
      (q_pss_one (q_ps_ret q_pe_bl)))), ?_⟩
  refine ⟨a, rfl, ⟨_, h1⟩, for_list (K := K) (a := a) (xs := us.map V.int) (fun i σ H' => H' = H ∧ ∃ (hd : Bool) (v2 v3 : Option V), tb false us = tb hd (us.drop i) ∧ σ = [some (.ref a), some (.bl hd), v2, v3]) ⟨rfl, false, _, _, rfl, rfl⟩ (fun i σ H' _ z => by rw [z.1]; exact h1) ?_ ?_⟩
  · rintro i x σ H2 hx ⟨rfl, hd, v2, v3, e, rfl⟩
    obtain ⟨u, hux, rfl⟩ : ∃ c, us[i]? = some c ∧ x = .int c := by
      rw [List.getElem?_map] at hx
      obtain ⟨c, h, rfl⟩ := Option.map_eq_some_iff.mp hx
      exact ⟨c, h, rfl⟩
    have hil : i < us.length := (List.getElem?_eq_some_iff.mp hux).1
    have ed : us.drop i = u :: us.drop (i + 1) := by
      rw [List.drop_eq_getElem_cons hil]
      congr 1
      exact (List.getElem?_eq_some_iff.mp hux).2
    rw [ed, tb] at e
    refine set_nx ?_
    refine seq_nx (fun σ' H' => H' = H2 ∧ σ' = [some (.ref a), some (.bl hd), some (.int u), some (.bl (ltl u))]) (fun nx hn => ?_) ?_
    · have fin : ∀ b, b = ltl u → nx [some (.ref a), some (.bl hd), some (.int u), some (.bl b)] H2 := fun b z => hn _ _ ⟨rfl, by rw [z]⟩
      refine ite2 (fun e1 => fin _ ?_) (fun e1 => fin _ ?_)
      · rw [← ltl_and, e1]
        rfl
      · rw [← ltl_and, Bool.eq_false_iff.mpr e1]
        rfl
    rintro σ' H3 ⟨rfl, rfl⟩
    have out : ((hd != ltl u) || sn u) = true → Q (.bl false) H3 := fun z => by
      rw [if_pos z] at e
      rw [← e]
      exact k
    refine seq_nx (fun σ' H' => H' = H3 ∧ σ' = [some (.ref a), some (.bl hd), some (.int u), some (.bl (ltl u))] ∧ ((hd != ltl u) || sn u) = false) (fun nx hn => ?_) ?_
    · refine ite2 (fun e1 => ?_) (fun e1 => ?_)
      · exact out (by rw [show (hd != ltl u) = true from e1]; rfl)
      · have e1' : (hd != ltl u) = false := Bool.eq_false_iff.mpr e1
        have sn1 : 61184 ≤ u → u < 61440 → sn u = true := fun a b => by unfold sn; simp; omega
        have sn0 : ¬ (61184 ≤ u ∧ u < 61440) → sn u = false := fun a => by
          rw [Bool.eq_false_iff]
          unfold sn
          simp
          omega
        refine ite2 (fun e2 => ?_) (fun e2 => ?_)
        · refine ite2 (fun e3 => out ?_) (fun e3 => hn _ _ ⟨rfl, rfl, ?_⟩)
          · rw [sn1 (of_decide_eq_true e2) (of_decide_eq_true e3), Bool.or_true]
          · rw [e1', sn0 fun z => e3 (decide_eq_true z.2)]; rfl
        · refine hn _ _ ⟨rfl, rfl, ?_⟩
          rw [e1', sn0 fun z => e2 (decide_eq_true z.1)]; rfl
    rintro σ' H4 ⟨rfl, rfl, z⟩
    rw [z] at e
    have e : tb false us = tb (lhd u) (us.drop (i + 1)) := e
    have lh : (decide (55296 ≤ u) && decide (u < 56320)) = lhd u := by
      unfold lhd
      congr 1
      exact decide_eq_decide.mpr (by omega)
    refine ite2 (fun e1 => ⟨rfl, _, _, _, ?_, rfl⟩) (fun e1 => ⟨rfl, _, _, _, ?_, rfl⟩)
    · rw [e, ← lh, e1]
      rfl
    · rw [e, ← lh, Bool.eq_false_iff.mpr e1]
      rfl
  · rintro σ H2 ⟨rfl, hd, v2, v3, e, rfl⟩
    rw [List.length_map, List.drop_length] at e
    have e : tb false us = true := e
    rw [e] at k
    exact k
end
end My
namespace My
open PySem L2
section
variable {P : Program} {w : World} {K : PySem.W.Frag} {mg : Str → Option Value} {base : Heap} {t : Adr}
def spDue (K : PySem.W.Frag) : Sp := fun vs H Q _ => ∃ (a : Addr) (us : List Int), vs = [.ref a] ∧ SqL K H a (us.map V.int) ∧ us.length ≤ 60 ∧ (DueN us → ∀ H', Same H H' → Q .non H') ∧ (¬ DueN us → ∀ p H', Same H H' → H' p = some (.tup [.int (2 * (mT us : Int)), .int 0]) → Q (.ref p) H')
theorem h_z_due (T : Txt w K mg t) : Has P w K mg base "_law_due" 2 t.a_z_due t.f_z_due ["_law_units_here"] (spDue K) := by
  refine ⟨T.g_z_due, T.F_z_due.kp, T.b_z_due, T.F_z_due.okQ sc_z_due (fun vs H Q E h => by obtain ⟨a, us, rfl, _⟩ := h; rfl) fun cdv A outer s H vs Q E hr h => ?_⟩
  obtain ⟨a, us, rfl, h1, hl, kn, ks⟩ := h
  have hu := hr.units
  refine ⟨_, (q_pss_cons (q_ps_set (i := 1) sc_z_due.nd rfl (.inl rfl) (q_calTy c_int T.n_int PyProof.Rows.boot_int (q_pa_c (q_me_and (q_pe_cmpR (g_neK (K := K) rfl hu) (q_vv 0) (q_me_lst q_pa_nil) (nomark _)) (q_me_and (q_pe_cmpR g_le q_pe_int (q_pe_ix (g_ixK (K := K) rfl) (q_vv 0) q_pe_int (fun _ _ => rfl)) (nomark _)) (q_pe_one (q_pe_cmpR g_lt (q_pe_ix (g_ixK (K := K) rfl) (q_vv 0) q_pe_int (fun _ _ => rfl)) q_pe_int (nomark _))))) q_pa_nil)))
      (q_pss_cons (q_ps_if (q_PW_pt (q_pw_or (q_mt_cmp (g_eqK (K := K) rfl hu) (q_vv 0) (q_me_lst q_pa_nil) (nomark _)) (q_pw_or1 (q_pt_not (q_mt_val (q_cal (h_z_two_by_two T) hr (q_pa_c (q_pe_slice (g_slK (K := K) rfl) (q_vv 0) (q_po_some (q_vv 1)) q_po_none) q_pa_nil))))))) (q_pss_one (q_ps_ret q_pe_non)) q_pss_nil)
      (q_pss_one (q_ps_ret (q_me_tup (q_pa_c (q_pe_op g_mul q_pe_int (q_vv 1)) (q_pa_c q_pe_int q_pa_nil))))))), ?_⟩
  refine seq_nx (fun σ' H' => Same H H' ∧ σ' = [some (.ref a), some (.int (mT us : Int))]) (fun nx hn => ?_) ?_
  · refine ⟨sz rfl, fun pe H1 g1 => ?_⟩
    have fin : ∀ n : Int, n = (mT us : Int) → nx [some (.ref a), some (.int n)] H1 := fun n z => hn _ _ ⟨g1.sm, by rw [z]⟩
    refine ⟨_, _, DataV.lst (g1.sm.seq h1) (DataVs.ints us), DataV.lst g1.lst (DataVs.ints []), PySem.W.ke_shaped_ints us, PySem.W.ke_shaped_ints [], ?_⟩
    cases us with
    | nil => exact ite2 (fun z => absurd z (by decide)) (fun _ => fin _ rfl)
    | cons u r =>
      refine ite2 (fun _ => ?_) (fun z => ?_)
      · refine ⟨_, .int u, .inl (g1.sm.seq h1), atI_nat (j := 0) rfl, ?_⟩
        refine ite2 (fun e1 => ?_) (fun e1 => fin _ ?_)
        · refine ⟨_, .int u, .inl (g1.sm.seq h1), atI_nat (j := 0) rfl, fin _ ?_⟩
          show (if decide (u < 57344) = true then (1 : Int) else 0) = ((if ltl u = true then 1 else 0 : Nat) : Int)
          rw [← ltl_and, e1]
          cases decide (u < 57344) <;> rfl
        · show (0 : Int) = ((if ltl u = true then 1 else 0 : Nat) : Int)
          rw [← ltl_and, Bool.eq_false_iff.mpr e1]
          rfl
      · refine absurd ?_ z
        show (!PyData.eqv (.list ((u :: r).map PyData.int)) (.list (([] : List Int).map PyData.int))) = true
        rw [eqv_ints]
        rfl
  rintro σ' H2 ⟨s2, rfl⟩
  have ec : cutV (us.map V.int) (some (mT us : Int)) none = (us.drop (mT us)).map V.int := by rw [cutV_ints, cutL_from]
  refine ⟨sz rfl, fun pe H1 g1 => ?_⟩
  refine ⟨_, _, DataV.lst (g1.sm.seq (s2.seq h1)) (DataVs.ints us), DataV.lst g1.lst (DataVs.ints []), PySem.W.ke_shaped_ints us, PySem.W.ke_shaped_ints [], ?_⟩
  have s2 := s2.trans g1.sm
  refine ite2 (fun e => ?_) (fun e => ?_)
  · have e : PyData.eqv (.list (us.map PyData.int)) (.list (([] : List Int).map PyData.int)) = true := e
    rw [eqv_ints] at e
    exact kn (.inl (of_decide_eq_true e)) _ s2
  · have ne : us ≠ [] := fun z => e (by subst z; rfl)
    refine ⟨_, rfl, _, s2.seq h1, fun p3 H3 g3 => ?_⟩
    rw [ec] at g3
    refine ⟨p3, us.drop (mT us), rfl, g3.lst, ?_⟩
    refine ite2 (fun z => kn (.inr fun y => ?_) _ (s2.trans g3.sm)) (fun z => ?_)
    · rw [y] at z; exact absurd z (by decide)
    · refine ⟨Or.inl ⟨by decide, by decide⟩, ?_⟩
      refine ⟨sz rfl, fun q H4 g4 => ks (fun d => d.elim ne fun y => y ?_) q H4 (s2.trans (g3.sm.trans g4.sm)) g4.at_⟩
      cases e : tb false (us.drop (mT us)) with
      | true => rfl
      | false => rw [e] at z; exact absurd rfl z
def sp_law (K : PySem.W.Frag) : Sp := fun vs H Q _ => ∃ a, vs = [.ref a] ∧ ∃ ns : List Int, SqL K H a (ns.map V.int) ∧ ns.length ≤ 63 ∧ ∀ H', Q (.bl true) H'
theorem put_same {H : Hp} {o dx : Addr} {u v H'' : HO} (ho : H o = none) (hdx : H dx = none) : Same H (upd (upd (upd H dx u) o v) o H'') := fun b ob q => by
  rw [upd_ne (ne_of_none q ho), upd_ne (ne_of_none q ho), upd_ne (ne_of_none q hdx)]; exact q
theorem h_law (T : Txt w K mg t) : Has P w K mg base "law" 12 t.a_law t.f_law ["_law_script"] (sp_law K) := by
  refine ⟨T.g_law, T.F_law.kp, T.b_law, T.F_law.okQ sc_law (fun vs H Q E h => by obtain ⟨a, rfl, _⟩ := h; rfl) fun cdv A outer s H vs Q E hr h => ?_⟩
  obtain ⟨a, rfl, ns, h1, hc, k⟩ := h
  have hu := hr.units
  refine ⟨_, (q_pss_cons (q_ps_set (i := 1) sc_law.nd rfl (.inl rfl) (q_cal (h_z_units T) hr (q_pa_c (q_vv 0) q_pa_nil)))
      (q_pss_cons (q_ps_set (i := 2) sc_law.nd rfl (.inl rfl) (q_pe_cmpR (g_eqK (K := K) rfl hu) (q_me_md (q_cal (h_z_pick T) hr (q_pa_c (q_vv 0) (q_pa_c q_pe_int q_pa_nil)))) q_pe_int (nomark _)))
      (q_pss_cons (q_ps_set (i := 3) sc_law.nd rfl (.inl rfl) (q_me_lst q_pa_nil))
      (q_pss_cons (q_ps_for PassesOwn.never rfl (q_pi_listK (K := K) rfl (q_vv 1)) (q_pg_name (i := 4) sc_law.nd rfl (.inl rfl)) (q_pss_one (q_ps_set (i := 3) sc_law.nd rfl (.inl rfl) (q_pe_op (g_addK (K := K) rfl) (q_vv 3) (q_pe_ix (g_ixK (K := K) rfl) (q_me_lst (q_pa_c (q_me_lst (q_pa_c (q_me_fd (q_vv 4)) (q_pa_c (q_me_md (q_vv 4)) q_pa_nil))) (q_pa_c (q_me_lst (q_pa_c (q_me_md (q_vv 4)) (q_pa_c (q_me_fd (q_vv 4)) q_pa_nil))) q_pa_nil))) (q_calTy c_int T.n_int PyProof.Rows.boot_int (q_pa_c (q_vv 2) q_pa_nil)) (fun _ _ => rfl))))))
      (q_pss_cons (q_ps_set (i := 5) sc_law.nd rfl (.inl rfl) (q_calTy (c_listK (K := K) rfl) T.n_list PyProof.Rows.boot_list (q_pa_c (q_vv 3) q_pa_nil)))
      (q_pss_cons (q_ps_if (q_mt_truK (K := K) rfl (q_vv 2)) (q_pss_one (q_ps_set (i := 6) sc_law.nd rfl (.inl rfl) (q_cal (h_in_step T) hr (q_pa_c (q_makeD (hk_PairTongue_0 T) hr (q_pa_c q_pe_str q_pa_nil)) (q_pa_c (q_vv 3) q_pa_nil))))) (q_pss_one (q_ps_set (i := 6) sc_law.nd rfl (.inl rfl) (q_cal (h_in_step T) hr (q_pa_c (q_makeD0 (hk_PairTongue_1 T) hr) (q_pa_c (q_vv 3) q_pa_nil))))))
      (q_pss_cons (q_ps_if (q_mt_cmp (g_neK (K := K) rfl hu) (q_vv 3) (q_vv 5) (nomark _)) (q_pss_one (q_ps_ret q_pe_bl)) q_pss_nil)
      (q_pss_cons (q_ps_if (q_PW_pt (q_pw_and (q_mt_cmp g_isnot (q_vv 6) q_pe_non (nomark _)) (q_pw_and1 (q_PW_pt (q_pw_or (q_pt_not (q_mt_val (q_calB (c_instK (K := K) rfl) T.n_isinstance PyProof.Rows.boot_isinstance (q_pa_c (q_vv 6) (q_pa_c (q_bty rfl T.n_tuple PyProof.Rows.boot_tuple) q_pa_nil))))) (q_pw_or1 (q_pt_not (q_mt_val (q_calB (c_allK (K := K) rfl rfl) T.n_all PyProof.Rows.boot_all (q_pa_c (q_pe_comp rfl (CompScope.of (fns := (defScope s_law).names) (N := ["_law_script", "_law_units_here", "_law_low", "_law_row", "_law_unit_here", "_law_kept", "_law_found"]) (Nc := ["_law_one"]) (nv := 1) (caps := []) rfl rfl (by decide +kernel)) (q_pi_tupK (K := K) rfl (q_vv 6)) (fun _ _ _ _ => (q_pg_name (i := 0) (show List.Nodup (["_law_one"] : List Str) by decide +kernel) rfl (Or.inl rfl) (Or.inr rfl))) (fun _ _ _ _ => q_pts_nil) (fun _ _ _ _ => (q_cal (h_z_plain T) hr (q_pa_c (q_vv 0) q_pa_nil)))) q_pa_nil)))))))))) (q_pss_one (q_ps_ret q_pe_bl)) q_pss_nil)
      (q_pss_one (q_ps_ret (q_pe_cmpR (g_eqK (K := K) rfl hu) (q_vv 6) (q_cal (h_z_due T) hr (q_pa_c (q_vv 1) q_pa_nil)) (nomark _)))))))))))), ?_⟩
  refine seq_nx (fun σ' H' => Same H H' ∧ ∃ (pu : Addr) (us : List Int), H' pu = some (.lst (us.map V.int)) ∧ In16 us ∧ us.length ≤ 60 ∧ σ' = [some (.ref a), some (.ref pu), none, none, none, none, none]) (fun nx hn => ?_) ?_
  · exact ⟨a, ns, rfl, h1, hc, fun p us H' s' hp hi hl => hn _ _ ⟨s', p, us, hp, hi, hl, rfl⟩⟩
  rintro σ' H1 ⟨s1, pu, us, hpu, hin, hul, rfl⟩
  refine seq_nx (fun σ' H' => Same H1 H' ∧ ∃ low : Bool, σ' = [some (.ref a), some (.ref pu), some (.bl low), none, none, none, none]) (fun nx hn => ?_) ?_
  · exact ⟨a, ns, 0, rfl, s1.seq h1, by omega, fun H' s' => hn _ _ ⟨s', _, rfl⟩⟩
  rintro σ' H2 ⟨s2, low, rfl⟩
  letI O : Od := ⟨!low⟩
  refine seq_nx (fun σ' H' => Same H2 H' ∧ ∃ pr : Addr, H' pr = some (.lst []) ∧ σ' = [some (.ref a), some (.ref pu), some (.bl low), some (.ref pr), none, none, none]) (fun nx hn => ?_) ?_
  · exact ⟨sz rfl, fun pr H' g => hn _ _ ⟨g.sm, pr, g.at_, rfl⟩⟩
  rintro σ' H3 ⟨s3, pr, hpr, rfl⟩
  have hpu3 := s3 _ _ (s2 _ _ hpu)
  refine seq_nx (fun σ' H' => Same H3 H' ∧ ∃ (pr : Addr) (v4 : Option V), H' pr = some (.lst ((us.flatMap (ub O.h)).map V.int)) ∧ σ' = [some (.ref a), some (.ref pu), some (.bl low), some (.ref pr), v4, none, none]) (fun nx hn => ?_) ?_
  · refine ⟨pu, rfl, ⟨_, .of hpu3⟩, for_list (K := K) (a := pu) (xs := us.map V.int) (fun i σ H' => Same H3 H' ∧ ∃ (pr : Addr) (v4 : Option V), H' pr = some (.lst (((us.take i).flatMap (ub O.h)).map V.int)) ∧ σ = [some (.ref a), some (.ref pu), some (.bl low), some (.ref pr), v4, none, none]) ⟨Same.refl _, pr, _, hpr, rfl⟩ (fun i σ H' _ z => .of (z.1 _ _ hpu3)) ?_ ?_⟩
    · rintro i x σ H4 hx ⟨s4, pr, v4, hpr, rfl⟩
      obtain ⟨u, hux, rfl⟩ : ∃ c, us[i]? = some c ∧ x = .int c := by
        rw [List.getElem?_map] at hx
        obtain ⟨c, h, rfl⟩ := Option.map_eq_some_iff.mp hx
        exact ⟨c, h, rfl⟩
      have hil : i < us.length := (List.getElem?_eq_some_iff.mp hux).1
      refine set_nx ?_
      refine ⟨sz rfl, fun l1 H5 g5 => ?_⟩
      refine ⟨sz rfl, fun l2 H6 g6 => ?_⟩
      refine ⟨sz rfl, fun l3 H7 g7 => ?_⟩
      obtain ⟨ll, el, hll⟩ : ∃ ll, atI [V.ref l1, V.ref l2] (if low = true then 1 else 0) = some (.ref ll) ∧ H7 ll = some (.lst ((ub O.h u).map V.int)) := by
        cases low with
        | true => exact ⟨l2, rfl, g7.sm _ _ g6.at_⟩
        | false => exact ⟨l1, rfl, g7.sm _ _ (g6.sm _ _ g5.at_)⟩
      refine ⟨_, .ref ll, .inl g7.lst, el, ?_⟩
      have s7 := g5.sm.trans (g6.sm.trans g7.sm)
      have lt : ((us.take i).flatMap (ub O.h)).length ≤ 120 := by rw [flat_len, List.length_take]; omega
      refine ⟨_, _, .of (s7 _ _ hpr), .of hll, szl (by rw [List.length_map, List.length_map, ub_len]; omega), fun p8 H8 g8 => ⟨s4.trans (s7.trans g8.sm), p8, _, ?_, rfl⟩⟩
      rw [g8.at_, List.take_add_one, hux, ← List.map_append]
      show some (HO.lst _) = some (HO.lst (((us.take i ++ [u]).flatMap (ub O.h)).map V.int))
      rw [List.flatMap_append]
      simp
    · rintro σ H4 ⟨s4, pr, v4, hpr, rfl⟩
      rw [List.length_map, List.take_length] at hpr
      exact hn _ _ ⟨s4, pr, v4, hpr, rfl⟩
  rintro σ' H4 ⟨s4, pr, v4, hpr, rfl⟩
  obtain ⟨l, el⟩ : ∃ l, l = us.flatMap (ub O.h) := ⟨_, rfl⟩
  rw [← el] at hpr
  refine seq_nx (fun σ' H' => Same H4 H' ∧ ∃ pk : Addr, H' pk = some (.lst (l.map V.int)) ∧ σ' = [some (.ref a), some (.ref pu), some (.bl low), some (.ref pr), v4, some (.ref pk), none]) (fun nx hn => ?_) ?_
  · exact ⟨_, .inl (.of hpr), fun pk H7 g7 => hn _ _ ⟨g7.sm, pk, g7.at_, rfl⟩⟩
  rintro σ' H5 ⟨s5, pk, hpk, rfl⟩
  have hpr5 := s5 _ _ hpr
  have ll : l.length = us.length * SZ := by rw [el, flat_len]; unfold SZ; omega
  have lby : Byts l := by rw [el]; exact row_byts hin
  refine seq_nx (fun σ' H' => Same H5 H' ∧ ∃ v, Lst H' (untsOf l) us.length (us.length + 1) v ∧ σ' = [some (.ref a), some (.ref pu), some (.bl low), some (.ref pr), v4, some (.ref pk), some v]) (fun nx hn => ?_) ?_
  · have go : ∀ (o dx : Addr), H5 o = none → H5 dx = none → ∀ HZ, HZ = upd (upd (upd H5 dx (.own o)) o (.ins t.c_PairTongue dx [])) o (.ins t.c_PairTongue dx [("order", .str (ordOf O.h))]) → Same H5 HZ ∧ TO t HZ o := fun o dx ho hdx HZ e => by
      rw [e]
      exact ⟨put_same ho hdx, dx, upd_same⟩
    cases low with
    | true =>
      refine fun o dx ho hdx hne => ⟨o, dx, false, rfl, upd_same, rfl, ?_⟩
      obtain ⟨sm, to⟩ := go o dx ho hdx _ rfl
      exact ⟨O, o, pr, l, us.length, rfl, lby, to, sm.seq (.of hpr5), ll, by omega, fun v H8 s8 hv => hn _ _ ⟨sm.trans s8, v, hv, rfl⟩⟩
    | false =>
      refine fun o dx ho hdx hne => ⟨o, dx, true, rfl, upd_same, rfl, ?_⟩
      obtain ⟨sm, to⟩ := go o dx ho hdx _ rfl
      exact ⟨O, o, pr, l, us.length, rfl, lby, to, sm.seq (.of hpr5), ll, by omega, fun v H8 s8 hv => hn _ _ ⟨sm.trans s8, v, hv, rfl⟩⟩
  rintro σ' H8 ⟨s8, v, hv, rfl⟩
  rw [el] at hv
  obtain ⟨dn, ds⟩ := res hin hv
  have hp8 := s8 _ _ hpr5
  have hpu8 := s8 _ _ (s5 _ _ (s4 _ _ hpu3))
  refine ⟨_, _, DataV.lst (.of hp8) (DataVs.ints l), DataV.lst (.of (s8 _ _ hpk)) (DataVs.ints l), PySem.W.ke_shaped_ints l, PySem.W.ke_shaped_ints l, ?_⟩
  refine ite2 (fun z => absurd (show (!PyData.eqv (.list (l.map PyData.int)) (.list (l.map PyData.int))) = true from z) (by rw [eqv_ints]; simp)) (fun _ => ?_)
  by_cases du : DueN us
  · obtain rfl := dn du
    unfold tNext
    dsimp only
    refine seq_nx (fun σ' H' => H' = H8 ∧ σ' = [some (.ref a), some (.ref pu), some (.bl low), some (.ref pr), v4, some (.ref pk), some .non]) (fun nx hn => hn _ _ ⟨rfl, rfl⟩) ?_
    rintro σ' H9 ⟨rfl, rfl⟩
    refine ⟨pu, us, rfl, .of hpu8, hul, fun _ H' s' => ?_, fun z => absurd du z⟩
    exact ⟨_, _, DataV.non, DataV.non, by decide, by decide, k _⟩
  · obtain ⟨q, rfl, hq⟩ := ds du
    unfold tNext
    dsimp only
    refine seq_nx (fun σ' H' => Same H8 H' ∧ σ' = [some (.ref a), some (.ref pu), some (.bl low), some (.ref pr), v4, some (.ref pk), some (.ref q)]) (fun nx hn => ?_) ?_
    · refine ⟨_, _, .tup hq, by with_unfolding_all rfl, ?_⟩
      refine ⟨q, rfl, ⟨_, .of hq⟩, ?_⟩
      refine comp_tup (K := K) (xs := [.int (2 * (mT us : Int)), .int 0]) (cs := []) (fun i ys H' => H' = H8 ∧ ys = (List.replicate i true).map V.bl) ⟨rfl, rfl⟩ (fun i ys H' _ z => ⟨by rw [z.1]; exact .of hq, by rw [z.2]; simp⟩) (sz rfl) (fun i x ys H' N hx z hN => ?_) fun ys H' p2 H9 z g9 => ?_
      · obtain ⟨rfl, rfl⟩ := z
        simp only [tTrue, if_true]
        obtain ⟨n, rfl⟩ : ∃ n, x = .int n := by
          match i, hx with
          | 0, hx => cases hx; exact ⟨_, rfl⟩
          | 1, hx => cases hx; exact ⟨_, rfl⟩
          | n + 2, hx => cases hx
        refine ⟨n, rfl, hN _ _ ⟨rfl, ?_⟩⟩
        rw [List.replicate_succ', List.map_append]
        rfl
      · obtain ⟨rfl, rfl⟩ := z
        refine ⟨List.replicate 2 true, g9.lst, ?_⟩
        exact hn _ _ ⟨g9.sm, rfl⟩
    rintro σ' H9 ⟨s9, rfl⟩
    refine ⟨pu, us, rfl, .of (s9 _ _ hpu8), hul, fun z => absurd z du, fun _ q2 H' s' hq2 => ?_⟩
    have hq' := s' _ _ (s9 _ _ hq)
    refine ⟨_, _, DataV.tup (.of hq') (.cons (DataV.int _) (.cons (DataV.int 0) .nil)), DataV.tup (.of hq2) (.cons (DataV.int _) (.cons (DataV.int 0) .nil)), by simp [SeqAt.shaped, PyData.canLay0, PyData.canLayAll0, PyData.depth, PyData.depthAll], by simp [SeqAt.shaped, PyData.canLay0, PyData.canLayAll0, PyData.depth, PyData.depthAll], ?_⟩
    exact fitB (k _) (by simp [PyData.eqv, PyData.eqvAll])
end
end My
namespace My
open PySem L2
theorem lm0 {Pm : List Value → Prop} (h : ∀ _ : Unit, Pm []) : ∀ us : List Value, us.length = 0 → Pm us
  | [], _ => h ()
theorem lm1 {Pm : List Value → Prop} (h : ∀ x0, Pm [x0]) : ∀ us : List Value, us.length = 1 → Pm us
  | x0 :: us, e => lm0 (Pm := fun us => Pm (x0 :: us)) (fun _ => h x0) us (Nat.succ.inj e)
theorem lm2 {Pm : List Value → Prop} (h : ∀ x0 x1, Pm [x0, x1]) : ∀ us : List Value, us.length = 2 → Pm us
  | x0 :: us, e => lm1 (Pm := fun us => Pm (x0 :: us)) (fun x1 => h x0 x1) us (Nat.succ.inj e)
theorem lm3 {Pm : List Value → Prop} (h : ∀ x0 x1 x2, Pm [x0, x1, x2]) : ∀ us : List Value, us.length = 3 → Pm us
  | x0 :: us, e => lm2 (Pm := fun us => Pm (x0 :: us)) (fun x1 x2 => h x0 x1 x2) us (Nat.succ.inj e)
theorem txt_mk {w : World} {K : PySem.W.Frag} {h : Heap} {mg : Str → Option Value} (X : K.In h) (G : h.Ns mainGlobals mg)
    {a0 : Addr} {od0 an0 : Option Addr} {sl0 : Array (Option Value)} {oc0 kV0 dc0 pm0 cd0 ct0 : Value}
    {a1 : Addr} {od1 an1 : Option Addr} {sl1 : Array (Option Value)} {oc1 kV1 dc1 pm1 cd1 ct1 : Value}
    {a2 : Addr} {od2 an2 : Option Addr} {sl2 : Array (Option Value)} {oc2 kV2 dc2 pm2 cd2 ct2 : Value}
    {a3 : Addr} {od3 an3 : Option Addr} {sl3 : Array (Option Value)} {oc3 kV3 dc3 pm3 cd3 ct3 : Value}
    {a4 : Addr} {od4 an4 : Option Addr} {sl4 : Array (Option Value)} {oc4 kV4 dc4 pm4 cd4 ct4 : Value}
    {a5 : Addr} {od5 an5 : Option Addr} {sl5 : Array (Option Value)} {oc5 kV5 dc5 pm5 cd5 ct5 : Value}
    {a6 : Addr} {od6 an6 : Option Addr} {sl6 : Array (Option Value)} {oc6 kV6 dc6 pm6 cd6 ct6 : Value}
    {a7 : Addr} {od7 an7 : Option Addr} {sl7 : Array (Option Value)} {oc7 kV7 dc7 pm7 cd7 ct7 : Value}
    {a8 : Addr} {od8 an8 : Option Addr} {sl8 : Array (Option Value)} {oc8 kV8 dc8 pm8 cd8 ct8 : Value}
    {a9 : Addr} {od9 an9 : Option Addr} {sl9 : Array (Option Value)} {oc9 kV9 dc9 pm9 cd9 ct9 : Value}
    {a10 : Addr} {od10 an10 : Option Addr} {sl10 : Array (Option Value)} {oc10 kV10 dc10 pm10 cd10 ct10 : Value}
    {a11 : Addr} {od11 an11 : Option Addr} {sl11 : Array (Option Value)} {oc11 kV11 dc11 pm11 cd11 ct11 : Value}
    {a12 : Addr} {od12 an12 : Option Addr} {sl12 : Array (Option Value)} {oc12 kV12 dc12 pm12 cd12 ct12 : Value}
    {a13 : Addr} {od13 an13 : Option Addr} {sl13 : Array (Option Value)} {oc13 kV13 dc13 pm13 cd13 ct13 : Value}
    {a14 : Addr} {od14 an14 : Option Addr} {sl14 : Array (Option Value)} {oc14 kV14 dc14 pm14 cd14 ct14 : Value}
    {ccPairTongue : Addr}
    {dV14 : Addr} {ddc14 : Value} {ddd14 : Option Addr} {ddn14 : Nat} {dsl14 : Array (Option Value)} {ud14_0 : Tok}
    {a15 : Addr} {od15 an15 : Option Addr} {sl15 : Array (Option Value)} {oc15 kV15 dc15 pm15 cd15 ct15 : Value}
    {a16 : Addr} {od16 an16 : Option Addr} {sl16 : Array (Option Value)} {oc16 kV16 dc16 pm16 cd16 ct16 : Value}
    {a17 : Addr} {od17 an17 : Option Addr} {sl17 : Array (Option Value)} {oc17 kV17 dc17 pm17 cd17 ct17 : Value}
    {a18 : Addr} {od18 an18 : Option Addr} {sl18 : Array (Option Value)} {oc18 kV18 dc18 pm18 cd18 ct18 : Value}
    {a19 : Addr} {od19 an19 : Option Addr} {sl19 : Array (Option Value)} {oc19 kV19 dc19 pm19 cd19 ct19 : Value}
    {dV19 : Addr} {ddc19 : Value} {ddd19 : Option Addr} {ddn19 : Nat} {dsl19 : Array (Option Value)} {ud19_0 : Tok}
    {a20 : Addr} {od20 an20 : Option Addr} {sl20 : Array (Option Value)} {oc20 kV20 dc20 pm20 cd20 ct20 : Value}
    {dV20 : Addr} {ddc20 : Value} {ddd20 : Option Addr} {ddn20 : Nat} {dsl20 : Array (Option Value)} {ud20_0 : Tok}
    {a21 : Addr} {od21 an21 : Option Addr} {sl21 : Array (Option Value)} {oc21 kV21 dc21 pm21 cd21 ct21 : Value}
    {a22 : Addr} {od22 an22 : Option Addr} {sl22 : Array (Option Value)} {oc22 kV22 dc22 pm22 cd22 ct22 : Value}
    {dV22 : Addr} {ddc22 : Value} {ddd22 : Option Addr} {ddn22 : Nat} {dsl22 : Array (Option Value)} {ud22_0 : Tok}
    {a23 : Addr} {od23 an23 : Option Addr} {sl23 : Array (Option Value)} {oc23 kV23 dc23 pm23 cd23 ct23 : Value}
    {a24 : Addr} {od24 an24 : Option Addr} {sl24 : Array (Option Value)} {oc24 kV24 dc24 pm24 cd24 ct24 : Value}
    {a25 : Addr} {od25 an25 : Option Addr} {sl25 : Array (Option Value)} {oc25 kV25 dc25 pm25 cd25 ct25 : Value}
    {a26 : Addr} {od26 an26 : Option Addr} {sl26 : Array (Option Value)} {oc26 kV26 dc26 pm26 cd26 ct26 : Value}
    {a27 : Addr} {od27 an27 : Option Addr} {sl27 : Array (Option Value)} {oc27 kV27 dc27 pm27 cd27 ct27 : Value}
    {a28 : Addr} {od28 an28 : Option Addr} {sl28 : Array (Option Value)} {oc28 kV28 dc28 pm28 cd28 ct28 : Value}
    {a29 : Addr} {od29 an29 : Option Addr} {sl29 : Array (Option Value)} {oc29 kV29 dc29 pm29 cd29 ct29 : Value}
    {u0 : Tok}
    {ta1 : Addr} {es1 : Array DictEntry} {ep1 : Nat} {th1_0 : Int} {ta1_0 : Addr} {ti1_0 : Array Value} {tn1_0 : Nat} {ts1_0 : Array (Option Value)} {th1_1 : Int} {ta1_1 : Addr} {ti1_1 : Array Value} {tn1_1 : Nat} {ts1_1 : Array (Option Value)}
    {ta1_0_0 : Addr} {ti1_0_0 : Array Value} {tn1_0_0 : Nat} {ts1_0_0 : Array (Option Value)} {ta1_0_1 : Addr} {ti1_0_1 : Array Value} {tn1_0_1 : Nat} {ts1_0_1 : Array (Option Value)} {ta1_0_2 : Addr} {ti1_0_2 : Array Value} {tn1_0_2 : Nat} {ts1_0_2 : Array (Option Value)} {ta1_0_3 : Addr} {ti1_0_3 : Array Value} {tn1_0_3 : Nat} {ts1_0_3 : Array (Option Value)} {ta1_0_4 : Addr} {ti1_0_4 : Array Value} {tn1_0_4 : Nat} {ts1_0_4 : Array (Option Value)}
    {ta1_1_0 : Addr} {ti1_1_0 : Array Value} {tn1_1_0 : Nat} {ts1_1_0 : Array (Option Value)} {ta1_1_1 : Addr} {ti1_1_1 : Array Value} {tn1_1_1 : Nat} {ts1_1_1 : Array (Option Value)} {ta1_1_2 : Addr} {ti1_1_2 : Array Value} {tn1_1_2 : Nat} {ts1_1_2 : Array (Option Value)} {ta1_1_3 : Addr} {ti1_1_3 : Array Value} {tn1_1_3 : Nat} {ts1_1_3 : Array (Option Value)} {ta1_1_4 : Addr} {ti1_1_4 : Array Value} {tn1_1_4 : Nat} {ts1_1_4 : Array (Option Value)}
    {u2 : Tok}
    {u3 : Tok}
    {u4 : Tok}
    {u5 : Tok}
    {u6 : Tok}
    {u7 : Tok}
    {u8 : Tok}
    {u9 : Tok}
    (h0a : PySem.W.nsIn K mainGlobals "spot_behind" = some (some (.ref a0)))
    (h0l : K.lookup a0 = some ⟨oc0, od0, .func (PySem.W.fnOf "spot_behind" "spot_behind" (defArgs s_spot_behind) (defBody s_spot_behind) (defScope s_spot_behind) .none kV0 dc0 pm0 an0 cd0 ct0), sl0⟩)
    (h0c : PySem.W.codeIn K cd0 "spot_behind" = true)
    (h0k : PySem.W.keepIn K (.ref a0) = true)
    (h1a : PySem.W.nsIn K mainGlobals "spots_behind" = some (some (.ref a1)))
    (h1l : K.lookup a1 = some ⟨oc1, od1, .func (PySem.W.fnOf "spots_behind" "spots_behind" (defArgs s_spots_behind) (defBody s_spots_behind) (defScope s_spots_behind) .none kV1 dc1 pm1 an1 cd1 ct1), sl1⟩)
    (h1c : PySem.W.codeIn K cd1 "spots_behind" = true)
    (h1k : PySem.W.keepIn K (.ref a1) = true)
    (h2a : PySem.W.nsIn K mainGlobals "layers_along" = some (some (.ref a2)))
    (h2l : K.lookup a2 = some ⟨oc2, od2, .func (PySem.W.fnOf "layers_along" "layers_along" (defArgs s_layers_along) (defBody s_layers_along) (defScope s_layers_along) .none kV2 dc2 pm2 an2 cd2 ct2), sl2⟩)
    (h2c : PySem.W.codeIn K cd2 "layers_along" = true)
    (h2k : PySem.W.keepIn K (.ref a2) = true)
    (h3a : PySem.W.nsIn K mainGlobals "spots_ahead" = some (some (.ref a3)))
    (h3l : K.lookup a3 = some ⟨oc3, od3, .func (PySem.W.fnOf "spots_ahead" "spots_ahead" (defArgs s_spots_ahead) (defBody s_spots_ahead) (defScope s_spots_ahead) .none kV3 dc3 pm3 an3 cd3 ct3), sl3⟩)
    (h3c : PySem.W.codeIn K cd3 "spots_ahead" = true)
    (h3k : PySem.W.keepIn K (.ref a3) = true)
    (h4a : PySem.W.nsIn K mainGlobals "in_step" = some (some (.ref a4)))
    (h4l : K.lookup a4 = some ⟨oc4, od4, .func (PySem.W.fnOf "in_step" "in_step" (defArgs s_in_step) (defBody s_in_step) (defScope s_in_step) .none kV4 dc4 pm4 an4 cd4 ct4), sl4⟩)
    (h4c : PySem.W.codeIn K cd4 "in_step" = true)
    (h4k : PySem.W.keepIn K (.ref a4) = true)
    (h5a : PySem.W.nsIn K mainGlobals "check_room" = some (some (.ref a5)))
    (h5l : K.lookup a5 = some ⟨oc5, od5, .func (PySem.W.fnOf "check_room" "check_room" (defArgs s_check_room) (defBody s_check_room) (defScope s_check_room) .none kV5 dc5 pm5 an5 cd5 ct5), sl5⟩)
    (h5c : PySem.W.codeIn K cd5 "check_room" = true)
    (h5k : PySem.W.keepIn K (.ref a5) = true)
    (h6a : PySem.W.nsIn K mainGlobals "parted" = some (some (.ref a6)))
    (h6l : K.lookup a6 = some ⟨oc6, od6, .func (PySem.W.fnOf "parted" "parted" (defArgs s_parted) (defBody s_parted) (defScope s_parted) .none kV6 dc6 pm6 an6 cd6 ct6), sl6⟩)
    (h6c : PySem.W.codeIn K cd6 "parted" = true)
    (h6k : PySem.W.keepIn K (.ref a6) = true)
    (h7a : PySem.W.nsIn K mainGlobals "together" = some (some (.ref a7)))
    (h7l : K.lookup a7 = some ⟨oc7, od7, .func (PySem.W.fnOf "together" "together" (defArgs s_together) (defBody s_together) (defScope s_together) .none kV7 dc7 pm7 an7 cd7 ct7), sl7⟩)
    (h7c : PySem.W.codeIn K cd7 "together" = true)
    (h7k : PySem.W.keepIn K (.ref a7) = true)
    (h8a : PySem.W.nsIn K mainGlobals "is_number" = some (some (.ref a8)))
    (h8l : K.lookup a8 = some ⟨oc8, od8, .func (PySem.W.fnOf "is_number" "is_number" (defArgs s_is_number) (defBody s_is_number) (defScope s_is_number) .none kV8 dc8 pm8 an8 cd8 ct8), sl8⟩)
    (h8c : PySem.W.codeIn K cd8 "is_number" = true)
    (h8k : PySem.W.keepIn K (.ref a8) = true)
    (h9a : PySem.W.nsIn K mainGlobals "is_head" = some (some (.ref a9)))
    (h9l : K.lookup a9 = some ⟨oc9, od9, .func (PySem.W.fnOf "is_head" "is_head" (defArgs s_is_head) (defBody s_is_head) (defScope s_is_head) .none kV9 dc9 pm9 an9 cd9 ct9), sl9⟩)
    (h9c : PySem.W.codeIn K cd9 "is_head" = true)
    (h9k : PySem.W.keepIn K (.ref a9) = true)
    (h10a : PySem.W.nsIn K mainGlobals "is_tail" = some (some (.ref a10)))
    (h10l : K.lookup a10 = some ⟨oc10, od10, .func (PySem.W.fnOf "is_tail" "is_tail" (defArgs s_is_tail) (defBody s_is_tail) (defScope s_is_tail) .none kV10 dc10 pm10 an10 cd10 ct10), sl10⟩)
    (h10c : PySem.W.codeIn K cd10 "is_tail" = true)
    (h10k : PySem.W.keepIn K (.ref a10) = true)
    (h11a : PySem.W.nsIn K mainGlobals "is_seen_byte" = some (some (.ref a11)))
    (h11l : K.lookup a11 = some ⟨oc11, od11, .func (PySem.W.fnOf "is_seen_byte" "is_seen_byte" (defArgs s_is_seen_byte) (defBody s_is_seen_byte) (defScope s_is_seen_byte) .none kV11 dc11 pm11 an11 cd11 ct11), sl11⟩)
    (h11c : PySem.W.codeIn K cd11 "is_seen_byte" = true)
    (h11k : PySem.W.keepIn K (.ref a11) = true)
    (h12a : PySem.W.nsIn K mainGlobals "is_sign" = some (some (.ref a12)))
    (h12l : K.lookup a12 = some ⟨oc12, od12, .func (PySem.W.fnOf "is_sign" "is_sign" (defArgs s_is_sign) (defBody s_is_sign) (defScope s_is_sign) .none kV12 dc12 pm12 an12 cd12 ct12), sl12⟩)
    (h12c : PySem.W.codeIn K cd12 "is_sign" = true)
    (h12k : PySem.W.keepIn K (.ref a12) = true)
    (h13a : PySem.W.nsIn K mainGlobals "sign_of" = some (some (.ref a13)))
    (h13l : K.lookup a13 = some ⟨oc13, od13, .func (PySem.W.fnOf "sign_of" "sign_of" (defArgs s_sign_of) (defBody s_sign_of) (defScope s_sign_of) .none kV13 dc13 pm13 an13 cd13 ct13), sl13⟩)
    (h13c : PySem.W.codeIn K cd13 "sign_of" = true)
    (h13k : PySem.W.keepIn K (.ref a13) = true)
    (cg_PairTongue : PySem.W.nsIn K mainGlobals "PairTongue" = some (some (.ref ccPairTongue)))
    (cp_PairTongue : PySem.W.plainGet K ccPairTongue Str.empty = true)
    (cd_PairTongue : PySem.W.hasDictIn K ccPairTongue = true)
    (co_PairTongue : PySem.W.plainOver K ccPairTongue = true)
    (cs_PairTongue : PySem.W.findIn K (.ref ccPairTongue) "__setattr__" = some (some (.builtin "object.__setattr__")))
    (cm_PairTongue : PySem.W.makesIn K ccPairTongue = true)
    (ck_PairTongue : PySem.W.keepIn K (.ref ccPairTongue) = true)
    (ct_PairTongue : PySem.W.findIn K (.ref ccPairTongue) "__class__" = some (some (.builtin "object.__class__")))
    (cu_PairTongue : PySem.W.specialIn K (.builtin "object.__class__") "__get__" = some (some (.builtin "getset_descriptor.__get__")))
    (cv_PairTongue : PySem.W.takesIn K (.builtin "object.__class__") = some true)
    (cw_PairTongue : PySem.W.mroIn K ccPairTongue (.type "object") = some true)
    (cn_PairTongue_order : PySem.W.findIn K (.ref ccPairTongue) "order" = some none)
    (h14a : PySem.W.findIn K (.ref ccPairTongue) "__init__" = some (some (.ref a14)))
    (h14f : PySem.W.isFn K (.ref a14) = true)
    (h14l : K.lookup a14 = some ⟨oc14, od14, .func (PySem.W.fnOf "__init__" "PairTongue.__init__" (defArgs s_PairTongue_init) (defBody s_PairTongue_init) (defScope s_PairTongue_init) (.ref dV14) kV14 dc14 pm14 an14 cd14 ct14), sl14⟩)
    (h14c : PySem.W.codeIn K cd14 "PairTongue.__init__" = true)
    (h14k : PySem.W.keepIn K (.ref a14) = true)
    (h14d : K.lookup dV14 = some ⟨ddc14, ddd14, .seq ([.str "high" ud14_0] : List Value).toArray ddn14, dsl14⟩)
    (h15a : PySem.W.findIn K (.ref ccPairTongue) "unit" = some (some (.ref a15)))
    (h15f : PySem.W.isFn K (.ref a15) = true)
    (h15l : K.lookup a15 = some ⟨oc15, od15, .func (PySem.W.fnOf "unit" "PairTongue.unit" (defArgs s_PairTongue_unit) (defBody s_PairTongue_unit) (defScope s_PairTongue_unit) .none kV15 dc15 pm15 an15 cd15 ct15), sl15⟩)
    (h15c : PySem.W.codeIn K cd15 "PairTongue.unit" = true)
    (h15k : PySem.W.keepIn K (.ref a15) = true)
    (h16a : PySem.W.findIn K (.ref ccPairTongue) "turned" = some (some (.ref a16)))
    (h16f : PySem.W.isFn K (.ref a16) = true)
    (h16l : K.lookup a16 = some ⟨oc16, od16, .func (PySem.W.fnOf "turned" "PairTongue.turned" (defArgs s_PairTongue_turned) (defBody s_PairTongue_turned) (defScope s_PairTongue_turned) .none kV16 dc16 pm16 an16 cd16 ct16), sl16⟩)
    (h16c : PySem.W.codeIn K cd16 "PairTongue.turned" = true)
    (h16k : PySem.W.keepIn K (.ref a16) = true)
    (h17a : PySem.W.findIn K (.ref ccPairTongue) "row_of" = some (some (.ref a17)))
    (h17f : PySem.W.isFn K (.ref a17) = true)
    (h17l : K.lookup a17 = some ⟨oc17, od17, .func (PySem.W.fnOf "row_of" "PairTongue.row_of" (defArgs s_PairTongue_row_of) (defBody s_PairTongue_row_of) (defScope s_PairTongue_row_of) .none kV17 dc17 pm17 an17 cd17 ct17), sl17⟩)
    (h17c : PySem.W.codeIn K cd17 "PairTongue.row_of" = true)
    (h17k : PySem.W.keepIn K (.ref a17) = true)
    (h18a : PySem.W.findIn K (.ref ccPairTongue) "units_in" = some (some (.ref a18)))
    (h18f : PySem.W.isFn K (.ref a18) = true)
    (h18l : K.lookup a18 = some ⟨oc18, od18, .func (PySem.W.fnOf "units_in" "PairTongue.units_in" (defArgs s_PairTongue_units_in) (defBody s_PairTongue_units_in) (defScope s_PairTongue_units_in) .none kV18 dc18 pm18 an18 cd18 ct18), sl18⟩)
    (h18c : PySem.W.codeIn K cd18 "PairTongue.units_in" = true)
    (h18k : PySem.W.keepIn K (.ref a18) = true)
    (h19a : PySem.W.findIn K (.ref ccPairTongue) "whole" = some (some (.ref a19)))
    (h19f : PySem.W.isFn K (.ref a19) = true)
    (h19l : K.lookup a19 = some ⟨oc19, od19, .func (PySem.W.fnOf "whole" "PairTongue.whole" (defArgs s_PairTongue_whole) (defBody s_PairTongue_whole) (defScope s_PairTongue_whole) (.ref dV19) kV19 dc19 pm19 an19 cd19 ct19), sl19⟩)
    (h19c : PySem.W.codeIn K cd19 "PairTongue.whole" = true)
    (h19k : PySem.W.keepIn K (.ref a19) = true)
    (h19d : K.lookup dV19 = some ⟨ddc19, ddd19, .seq ([.int 0 ud19_0] : List Value).toArray ddn19, dsl19⟩)
    (h20a : PySem.W.findIn K (.ref ccPairTongue) "fill" = some (some (.ref a20)))
    (h20f : PySem.W.isFn K (.ref a20) = true)
    (h20l : K.lookup a20 = some ⟨oc20, od20, .func (PySem.W.fnOf "fill" "PairTongue.fill" (defArgs s_PairTongue_fill) (defBody s_PairTongue_fill) (defScope s_PairTongue_fill) (.ref dV20) kV20 dc20 pm20 an20 cd20 ct20), sl20⟩)
    (h20c : PySem.W.codeIn K cd20 "PairTongue.fill" = true)
    (h20k : PySem.W.keepIn K (.ref a20) = true)
    (h20d : K.lookup dV20 = some ⟨ddc20, ddd20, .seq ([.int 0 ud20_0] : List Value).toArray ddn20, dsl20⟩)
    (h21a : PySem.W.findIn K (.ref ccPairTongue) "spots" = some (some (.ref a21)))
    (h21f : PySem.W.isFn K (.ref a21) = true)
    (h21l : K.lookup a21 = some ⟨oc21, od21, .func (PySem.W.fnOf "spots" "PairTongue.spots" (defArgs s_PairTongue_spots) (defBody s_PairTongue_spots) (defScope s_PairTongue_spots) .none kV21 dc21 pm21 an21 cd21 ct21), sl21⟩)
    (h21c : PySem.W.codeIn K cd21 "PairTongue.spots" = true)
    (h21k : PySem.W.keepIn K (.ref a21) = true)
    (h22a : PySem.W.findIn K (.ref ccPairTongue) "look" = some (some (.ref a22)))
    (h22f : PySem.W.isFn K (.ref a22) = true)
    (h22l : K.lookup a22 = some ⟨oc22, od22, .func (PySem.W.fnOf "look" "Tongue.look" (defArgs s_Tongue_look) (defBody s_Tongue_look) (defScope s_Tongue_look) (.ref dV22) kV22 dc22 pm22 an22 cd22 ct22), sl22⟩)
    (h22c : PySem.W.codeIn K cd22 "Tongue.look" = true)
    (h22k : PySem.W.keepIn K (.ref a22) = true)
    (h22d : K.lookup dV22 = some ⟨ddc22, ddd22, .seq ([.int 0 ud22_0] : List Value).toArray ddn22, dsl22⟩)
    (h23a : PySem.W.nsIn K mainGlobals "_law_pick" = some (some (.ref a23)))
    (h23l : K.lookup a23 = some ⟨oc23, od23, .func (PySem.W.fnOf "_law_pick" "_law_pick" (defArgs s_z_pick) (defBody s_z_pick) (defScope s_z_pick) .none kV23 dc23 pm23 an23 cd23 ct23), sl23⟩)
    (h23c : PySem.W.codeIn K cd23 "_law_pick" = true)
    (h23k : PySem.W.keepIn K (.ref a23) = true)
    (h24a : PySem.W.nsIn K mainGlobals "_law_plain" = some (some (.ref a24)))
    (h24l : K.lookup a24 = some ⟨oc24, od24, .func (PySem.W.fnOf "_law_plain" "_law_plain" (defArgs s_z_plain) (defBody s_z_plain) (defScope s_z_plain) .none kV24 dc24 pm24 an24 cd24 ct24), sl24⟩)
    (h24c : PySem.W.codeIn K cd24 "_law_plain" = true)
    (h24k : PySem.W.keepIn K (.ref a24) = true)
    (h25a : PySem.W.nsIn K mainGlobals "_law_unit" = some (some (.ref a25)))
    (h25l : K.lookup a25 = some ⟨oc25, od25, .func (PySem.W.fnOf "_law_unit" "_law_unit" (defArgs s_z_unit) (defBody s_z_unit) (defScope s_z_unit) .none kV25 dc25 pm25 an25 cd25 ct25), sl25⟩)
    (h25c : PySem.W.codeIn K cd25 "_law_unit" = true)
    (h25k : PySem.W.keepIn K (.ref a25) = true)
    (h26a : PySem.W.nsIn K mainGlobals "_law_units" = some (some (.ref a26)))
    (h26l : K.lookup a26 = some ⟨oc26, od26, .func (PySem.W.fnOf "_law_units" "_law_units" (defArgs s_z_units) (defBody s_z_units) (defScope s_z_units) .none kV26 dc26 pm26 an26 cd26 ct26), sl26⟩)
    (h26c : PySem.W.codeIn K cd26 "_law_units" = true)
    (h26k : PySem.W.keepIn K (.ref a26) = true)
    (h27a : PySem.W.nsIn K mainGlobals "_law_two_by_two" = some (some (.ref a27)))
    (h27l : K.lookup a27 = some ⟨oc27, od27, .func (PySem.W.fnOf "_law_two_by_two" "_law_two_by_two" (defArgs s_z_two_by_two) (defBody s_z_two_by_two) (defScope s_z_two_by_two) .none kV27 dc27 pm27 an27 cd27 ct27), sl27⟩)
    (h27c : PySem.W.codeIn K cd27 "_law_two_by_two" = true)
    (h27k : PySem.W.keepIn K (.ref a27) = true)
    (h28a : PySem.W.nsIn K mainGlobals "_law_due" = some (some (.ref a28)))
    (h28l : K.lookup a28 = some ⟨oc28, od28, .func (PySem.W.fnOf "_law_due" "_law_due" (defArgs s_z_due) (defBody s_z_due) (defScope s_z_due) .none kV28 dc28 pm28 an28 cd28 ct28), sl28⟩)
    (h28c : PySem.W.codeIn K cd28 "_law_due" = true)
    (h28k : PySem.W.keepIn K (.ref a28) = true)
    (h29a : PySem.W.nsIn K mainGlobals "law" = some (some (.ref a29)))
    (h29l : K.lookup a29 = some ⟨oc29, od29, .func (PySem.W.fnOf "law" "law" (defArgs s_law) (defBody s_law) (defScope s_law) .none kV29 dc29 pm29 an29 cd29 ct29), sl29⟩)
    (h29c : PySem.W.codeIn K cd29 "law" = true)
    (h29k : PySem.W.keepIn K (.ref a29) = true)
    (k0 : PySem.W.nsIn K mainGlobals "BYTE_BITS" = some (some (.int 8 u0)))
    (k1 : PySem.W.nsIn K mainGlobals "FILLS" = some (some (.ref ta1)))
    (kl1 : K.lookup ta1 = some ⟨.type "dict", none, .dict es1 ep1, #[]⟩)
    (kv1 : dictOfS es1.toList = some [(th1_0, ("high" : Str), ta1_0), (th1_1, ("low" : Str), ta1_1)])
    (ks1 : (ta1 == sysModules) = false)
    (kh1_0 : th1_0 = hashStr w "high")
    (kh1_1 : th1_1 = hashStr w "low")
    (kl1_0 : K.lookup ta1_0 = some ⟨.type "tuple", none, .seq ti1_0 tn1_0, ts1_0⟩)
    (kv1_0 : refsOf ti1_0.toList = some [ta1_0_0, ta1_0_1, ta1_0_2, ta1_0_3, ta1_0_4])
    (kz1_0 : Nat.ble ti1_0.size 1000 = true)
    (kl1_0_0 : K.lookup ta1_0_0 = some ⟨.type "tuple", none, .seq ti1_0_0 tn1_0_0, ts1_0_0⟩)
    (kv1_0_0 : intsAre ([] : List Int) ti1_0_0.toList = true)
    (kz1_0_0 : Nat.ble ti1_0_0.size 1000 = true)
    (kl1_0_1 : K.lookup ta1_0_1 = some ⟨.type "tuple", none, .seq ti1_0_1 tn1_0_1, ts1_0_1⟩)
    (kv1_0_1 : intsAre ([0] : List Int) ti1_0_1.toList = true)
    (kz1_0_1 : Nat.ble ti1_0_1.size 1000 = true)
    (kl1_0_2 : K.lookup ta1_0_2 = some ⟨.type "tuple", none, .seq ti1_0_2 tn1_0_2, ts1_0_2⟩)
    (kv1_0_2 : intsAre ([0, 0] : List Int) ti1_0_2.toList = true)
    (kz1_0_2 : Nat.ble ti1_0_2.size 1000 = true)
    (kl1_0_3 : K.lookup ta1_0_3 = some ⟨.type "tuple", none, .seq ti1_0_3 tn1_0_3, ts1_0_3⟩)
    (kv1_0_3 : intsAre ([220, 0] : List Int) ti1_0_3.toList = true)
    (kz1_0_3 : Nat.ble ti1_0_3.size 1000 = true)
    (kl1_0_4 : K.lookup ta1_0_4 = some ⟨.type "tuple", none, .seq ti1_0_4 tn1_0_4, ts1_0_4⟩)
    (kv1_0_4 : intsAre ([0, 220, 0] : List Int) ti1_0_4.toList = true)
    (kz1_0_4 : Nat.ble ti1_0_4.size 1000 = true)
    (kl1_1 : K.lookup ta1_1 = some ⟨.type "tuple", none, .seq ti1_1 tn1_1, ts1_1⟩)
    (kv1_1 : refsOf ti1_1.toList = some [ta1_1_0, ta1_1_1, ta1_1_2, ta1_1_3, ta1_1_4])
    (kz1_1 : Nat.ble ti1_1.size 1000 = true)
    (kl1_1_0 : K.lookup ta1_1_0 = some ⟨.type "tuple", none, .seq ti1_1_0 tn1_1_0, ts1_1_0⟩)
    (kv1_1_0 : intsAre ([] : List Int) ti1_1_0.toList = true)
    (kz1_1_0 : Nat.ble ti1_1_0.size 1000 = true)
    (kl1_1_1 : K.lookup ta1_1_1 = some ⟨.type "tuple", none, .seq ti1_1_1 tn1_1_1, ts1_1_1⟩)
    (kv1_1_1 : intsAre ([0] : List Int) ti1_1_1.toList = true)
    (kz1_1_1 : Nat.ble ti1_1_1.size 1000 = true)
    (kl1_1_2 : K.lookup ta1_1_2 = some ⟨.type "tuple", none, .seq ti1_1_2 tn1_1_2, ts1_1_2⟩)
    (kv1_1_2 : intsAre ([220] : List Int) ti1_1_2.toList = true)
    (kz1_1_2 : Nat.ble ti1_1_2.size 1000 = true)
    (kl1_1_3 : K.lookup ta1_1_3 = some ⟨.type "tuple", none, .seq ti1_1_3 tn1_1_3, ts1_1_3⟩)
    (kv1_1_3 : intsAre ([0, 0] : List Int) ti1_1_3.toList = true)
    (kz1_1_3 : Nat.ble ti1_1_3.size 1000 = true)
    (kl1_1_4 : K.lookup ta1_1_4 = some ⟨.type "tuple", none, .seq ti1_1_4 tn1_1_4, ts1_1_4⟩)
    (kv1_1_4 : intsAre ([0, 220] : List Int) ti1_1_4.toList = true)
    (kz1_1_4 : Nat.ble ti1_1_4.size 1000 = true)
    (k2 : PySem.W.nsIn K mainGlobals "FIRST_HEAD" = some (some (.int 55296 u2)))
    (k3 : PySem.W.nsIn K mainGlobals "FIRST_SEEN" = some (some (.int 61184 u3)))
    (k4 : PySem.W.nsIn K mainGlobals "FIRST_TAIL" = some (some (.int 56320 u4)))
    (k5 : PySem.W.nsIn K mainGlobals "FIRST_WIDE" = some (some (.int 65536 u5)))
    (k6 : PySem.W.nsIn K mainGlobals "HALF_BITS" = some (some (.int 10 u6)))
    (k7 : PySem.W.nsIn K mainGlobals "LAST_SEEN" = some (some (.int 61439 u7)))
    (k8 : PySem.W.nsIn K mainGlobals "LAST_SIGN" = some (some (.int 1114111 u8)))
    (k9 : PySem.W.nsIn K mainGlobals "LAST_TAIL" = some (some (.int 57343 u9)))
    (z0 : PySem.W.nsIn K mainGlobals "all" = some none)
    (z1 : PySem.W.nsIn K mainGlobals "bool" = some none)
    (z2 : PySem.W.nsIn K mainGlobals "int" = some none)
    (z3 : PySem.W.nsIn K mainGlobals "isinstance" = some none)
    (z4 : PySem.W.nsIn K mainGlobals "len" = some none)
    (z5 : PySem.W.nsIn K mainGlobals "list" = some none)
    (z6 : PySem.W.nsIn K mainGlobals "range" = some none)
    (z7 : PySem.W.nsIn K mainGlobals "reversed" = some none)
    (z8 : PySem.W.nsIn K mainGlobals "str" = some none)
    (z9 : PySem.W.nsIn K mainGlobals "tuple" = some none) : ∃ t, Txt w K mg t := by
  have F0 := fun_mk (st := s_spot_behind) h0l h0c h0k
  have b0 := F0.binds (ps := ["tongue", "spot", "unit"]) (by intro _ _ _ _ _ _ us hl; revert hl; revert us; exact lm3 (fun _ _ _ => rfl))
  have F1 := fun_mk (st := s_spots_behind) h1l h1c h1k
  have b1 := F1.binds (ps := ["tongue", "spots", "unit"]) (by intro _ _ _ _ _ _ us hl; revert hl; revert us; exact lm3 (fun _ _ _ => rfl))
  have F2 := fun_mk (st := s_layers_along) h2l h2c h2k
  have b2 := F2.binds (ps := ["tongue", "units"]) (by intro _ _ _ _ _ _ us hl; revert hl; revert us; exact lm2 (fun _ _ => rfl))
  have F3 := fun_mk (st := s_spots_ahead) h3l h3c h3k
  have b3 := F3.binds (ps := ["layer", "spots"]) (by intro _ _ _ _ _ _ us hl; revert hl; revert us; exact lm2 (fun _ _ => rfl))
  have F4 := fun_mk (st := s_in_step) h4l h4c h4k
  have b4 := F4.binds (ps := ["tongue", "row"]) (by intro _ _ _ _ _ _ us hl; revert hl; revert us; exact lm2 (fun _ _ => rfl))
  have F5 := fun_mk (st := s_check_room) h5l h5c h5k
  have b5 := F5.binds (ps := ["number", "bits"]) (by intro _ _ _ _ _ _ us hl; revert hl; revert us; exact lm2 (fun _ _ => rfl))
  have F6 := fun_mk (st := s_parted) h6l h6c h6k
  have b6 := F6.binds (ps := ["number", "bits", "many"]) (by intro _ _ _ _ _ _ us hl; revert hl; revert us; exact lm3 (fun _ _ _ => rfl))
  have F7 := fun_mk (st := s_together) h7l h7c h7k
  have b7 := F7.binds (ps := ["parts", "bits"]) (by intro _ _ _ _ _ _ us hl; revert hl; revert us; exact lm2 (fun _ _ => rfl))
  have F8 := fun_mk (st := s_is_number) h8l h8c h8k
  have b8 := F8.binds (ps := ["thing"]) (by intro _ _ _ _ _ _ us hl; revert hl; revert us; exact lm1 (fun _ => rfl))
  have F9 := fun_mk (st := s_is_head) h9l h9c h9k
  have b9 := F9.binds (ps := ["number"]) (by intro _ _ _ _ _ _ us hl; revert hl; revert us; exact lm1 (fun _ => rfl))
  have F10 := fun_mk (st := s_is_tail) h10l h10c h10k
  have b10 := F10.binds (ps := ["number"]) (by intro _ _ _ _ _ _ us hl; revert hl; revert us; exact lm1 (fun _ => rfl))
  have F11 := fun_mk (st := s_is_seen_byte) h11l h11c h11k
  have b11 := F11.binds (ps := ["thing"]) (by intro _ _ _ _ _ _ us hl; revert hl; revert us; exact lm1 (fun _ => rfl))
  have F12 := fun_mk (st := s_is_sign) h12l h12c h12k
  have b12 := F12.binds (ps := ["thing"]) (by intro _ _ _ _ _ _ us hl; revert hl; revert us; exact lm1 (fun _ => rfl))
  have F13 := fun_mk (st := s_sign_of) h13l h13c h13k
  have b13 := F13.binds (ps := ["units"]) (by intro _ _ _ _ _ _ us hl; revert hl; revert us; exact lm1 (fun _ => rfl))
  have F14 := funD_mk (st := s_PairTongue_init) h14l h14c h14k h14d
  have bd14 := F14.binds (ps := ["self", "order"]) (ds := [.str "high" ud14_0]) (by intro _ _ _ _ _ _ _ us hl; have hm : us.length = 1 := (by have := hl; simp at this; omega); clear hl; revert hm; revert us; exact lm1 (fun _ => ⟨_, rfl, rfl⟩))
  have b14 := F14.binds (ps := ["self", "order"]) (ds := []) (by intro _ _ _ _ _ _ _ us hl; have hm : us.length = 2 := (by have := hl; simp at this; omega); clear hl; revert hm; revert us; exact lm2 (fun _ _ => ⟨_, rfl, rfl⟩))
  have F15 := fun_mk (st := s_PairTongue_unit) h15l h15c h15k
  have b15 := F15.binds (ps := ["self"]) (by intro _ _ _ _ _ _ us hl; revert hl; revert us; exact lm1 (fun _ => rfl))
  have F16 := fun_mk (st := s_PairTongue_turned) h16l h16c h16k
  have b16 := F16.binds (ps := ["self", "pair"]) (by intro _ _ _ _ _ _ us hl; revert hl; revert us; exact lm2 (fun _ _ => rfl))
  have F17 := fun_mk (st := s_PairTongue_row_of) h17l h17c h17k
  have b17 := F17.binds (ps := ["self", "units"]) (by intro _ _ _ _ _ _ us hl; revert hl; revert us; exact lm2 (fun _ _ => rfl))
  have F18 := fun_mk (st := s_PairTongue_units_in) h18l h18c h18k
  have b18 := F18.binds (ps := ["self", "row"]) (by intro _ _ _ _ _ _ us hl; revert hl; revert us; exact lm2 (fun _ _ => rfl))
  have F19 := funD_mk (st := s_PairTongue_whole) h19l h19c h19k h19d
  have bd19 := F19.binds (ps := ["self", "row", "page"]) (ds := [.int 0 ud19_0]) (by intro _ _ _ _ _ _ _ us hl; have hm : us.length = 2 := (by have := hl; simp at this; omega); clear hl; revert hm; revert us; exact lm2 (fun _ _ => ⟨_, rfl, rfl⟩))
  have b19 := F19.binds (ps := ["self", "row", "page"]) (ds := []) (by intro _ _ _ _ _ _ _ us hl; have hm : us.length = 3 := (by have := hl; simp at this; omega); clear hl; revert hm; revert us; exact lm3 (fun _ _ _ => ⟨_, rfl, rfl⟩))
  have F20 := funD_mk (st := s_PairTongue_fill) h20l h20c h20k h20d
  have bd20 := F20.binds (ps := ["self", "row", "page"]) (ds := [.int 0 ud20_0]) (by intro _ _ _ _ _ _ _ us hl; have hm : us.length = 2 := (by have := hl; simp at this; omega); clear hl; revert hm; revert us; exact lm2 (fun _ _ => ⟨_, rfl, rfl⟩))
  have b20 := F20.binds (ps := ["self", "row", "page"]) (ds := []) (by intro _ _ _ _ _ _ _ us hl; have hm : us.length = 3 := (by have := hl; simp at this; omega); clear hl; revert hm; revert us; exact lm3 (fun _ _ _ => ⟨_, rfl, rfl⟩))
  have F21 := fun_mk (st := s_PairTongue_spots) h21l h21c h21k
  have b21 := F21.binds (ps := ["self"]) (by intro _ _ _ _ _ _ us hl; revert hl; revert us; exact lm1 (fun _ => rfl))
  have F22 := funD_mk (st := s_Tongue_look) h22l h22c h22k h22d
  have bd22 := F22.binds (ps := ["self", "begun", "page"]) (ds := [.int 0 ud22_0]) (by intro _ _ _ _ _ _ _ us hl; have hm : us.length = 2 := (by have := hl; simp at this; omega); clear hl; revert hm; revert us; exact lm2 (fun _ _ => ⟨_, rfl, rfl⟩))
  have b22 := F22.binds (ps := ["self", "begun", "page"]) (ds := []) (by intro _ _ _ _ _ _ _ us hl; have hm : us.length = 3 := (by have := hl; simp at this; omega); clear hl; revert hm; revert us; exact lm3 (fun _ _ _ => ⟨_, rfl, rfl⟩))
  have F23 := fun_mk (st := s_z_pick) h23l h23c h23k
  have b23 := F23.binds (ps := ["_law_script", "_law_k"]) (by intro _ _ _ _ _ _ us hl; revert hl; revert us; exact lm2 (fun _ _ => rfl))
  have F24 := fun_mk (st := s_z_plain) h24l h24c h24k
  have b24 := F24.binds (ps := ["_law_found"]) (by intro _ _ _ _ _ _ us hl; revert hl; revert us; exact lm1 (fun _ => rfl))
  have F25 := fun_mk (st := s_z_unit) h25l h25c h25k
  have b25 := F25.binds (ps := ["_law_cell"]) (by intro _ _ _ _ _ _ us hl; revert hl; revert us; exact lm1 (fun _ => rfl))
  have F26 := fun_mk (st := s_z_units) h26l h26c h26k
  have b26 := F26.binds (ps := ["_law_script"]) (by intro _ _ _ _ _ _ us hl; revert hl; revert us; exact lm1 (fun _ => rfl))
  have F27 := fun_mk (st := s_z_two_by_two) h27l h27c h27k
  have b27 := F27.binds (ps := ["_law_units_here"]) (by intro _ _ _ _ _ _ us hl; revert hl; revert us; exact lm1 (fun _ => rfl))
  have F28 := fun_mk (st := s_z_due) h28l h28c h28k
  have b28 := F28.binds (ps := ["_law_units_here"]) (by intro _ _ _ _ _ _ us hl; revert hl; revert us; exact lm1 (fun _ => rfl))
  have F29 := fun_mk (st := s_law) h29l h29c h29k
  have b29 := F29.binds (ps := ["_law_script"]) (by intro _ _ _ _ _ _ us hl; revert hl; revert us; exact lm1 (fun _ => rfl))
  exact ⟨⟨a0, _, a1, _, a2, _, a3, _, a4, _, a5, _, a6, _, a7, _, a8, _, a9, _, a10, _, a11, _, a12, _, a13, _, a14, _, ud14_0, a15, _, a16, _, a17, _, a18, _, a19, _, ud19_0, a20, _, ud20_0, a21, _, a22, _, ud22_0, a23, _, a24, _, a25, _, a26, _, a27, _, a28, _, a29, _, ccPairTongue, u0, ta1, th1_0, ta1_0, ta1_0_0, ta1_0_1, ta1_0_2, ta1_0_3, ta1_0_4, th1_1, ta1_1, ta1_1_0, ta1_1_1, ta1_1_2, ta1_1_3, ta1_1_4, u2, u3, u4, u5, u6, u7, u8, u9⟩, ⟨F0, b0, PySem.W.mg_of X G h0a, F1, b1, PySem.W.mg_of X G h1a, F2, b2, PySem.W.mg_of X G h2a, F3, b3, PySem.W.mg_of X G h3a, F4, b4, PySem.W.mg_of X G h4a, F5, b5, PySem.W.mg_of X G h5a, F6, b6, PySem.W.mg_of X G h6a, F7, b7, PySem.W.mg_of X G h7a, F8, b8, PySem.W.mg_of X G h8a, F9, b9, PySem.W.mg_of X G h9a, F10, b10, PySem.W.mg_of X G h10a, F11, b11, PySem.W.mg_of X G h11a, F12, b12, PySem.W.mg_of X G h12a, F13, b13, PySem.W.mg_of X G h13a, F14, bd14, b14, F15, b15, F16, b16, F17, b17, F18, b18, F19, bd19, b19, F20, bd20, b20, F21, b21, F22, bd22, b22, F23, b23, PySem.W.mg_of X G h23a, F24, b24, PySem.W.mg_of X G h24a, F25, b25, PySem.W.mg_of X G h25a, F26, b26, PySem.W.mg_of X G h26a, F27, b27, PySem.W.mg_of X G h27a, F28, b28, PySem.W.mg_of X G h28a, F29, b29, PySem.W.mg_of X G h29a, PySem.W.mg_of X G cg_PairTongue, ⟨cp_PairTongue, cd_PairTongue, co_PairTongue, cs_PairTongue⟩, ⟨cm_PairTongue, h14a, h14f, ck_PairTongue⟩, ⟨h15a, h15f, h15k⟩, ⟨h16a, h16f, h16k⟩, ⟨h17a, h17f, h17k⟩, ⟨h18a, h18f, h18k⟩, ⟨h19a, h19f, h19k⟩, ⟨h20a, h20f, h20k⟩, ⟨h21a, h21f, h21k⟩, ⟨h22a, h22f, h22k⟩, cn_PairTongue_order, fun H a dx fs e => .ins e ⟨cp_PairTongue, cd_PairTongue, co_PairTongue, cs_PairTongue⟩ ct_PairTongue cu_PairTongue cv_PairTongue cw_PairTongue, PySem.W.mg_of X G k0, PySem.W.mg_of X G k1, ⟨⟨_, _, kl1, kv1⟩, List.forall_mem_cons.mpr ⟨kh1_0, List.forall_mem_cons.mpr ⟨kh1_1, fun _ z => nomatch z⟩⟩, (show List.Nodup (["high", "low"] : List Str) by decide +kernel), ks1⟩, tupR kl1_0 kv1_0 (Nat.le_of_ble_eq_true kz1_0), tupK kl1_0_0 kv1_0_0 (Nat.le_of_ble_eq_true kz1_0_0), tupK kl1_0_1 kv1_0_1 (Nat.le_of_ble_eq_true kz1_0_1), tupK kl1_0_2 kv1_0_2 (Nat.le_of_ble_eq_true kz1_0_2), tupK kl1_0_3 kv1_0_3 (Nat.le_of_ble_eq_true kz1_0_3), tupK kl1_0_4 kv1_0_4 (Nat.le_of_ble_eq_true kz1_0_4), tupR kl1_1 kv1_1 (Nat.le_of_ble_eq_true kz1_1), tupK kl1_1_0 kv1_1_0 (Nat.le_of_ble_eq_true kz1_1_0), tupK kl1_1_1 kv1_1_1 (Nat.le_of_ble_eq_true kz1_1_1), tupK kl1_1_2 kv1_1_2 (Nat.le_of_ble_eq_true kz1_1_2), tupK kl1_1_3 kv1_1_3 (Nat.le_of_ble_eq_true kz1_1_3), tupK kl1_1_4 kv1_1_4 (Nat.le_of_ble_eq_true kz1_1_4), PySem.W.mg_of X G k2, PySem.W.mg_of X G k3, PySem.W.mg_of X G k4, PySem.W.mg_of X G k5, PySem.W.mg_of X G k6, PySem.W.mg_of X G k7, PySem.W.mg_of X G k8, PySem.W.mg_of X G k9, PySem.W.mg_none_of X G z0, PySem.W.mg_none_of X G z1, PySem.W.mg_none_of X G z2, PySem.W.mg_none_of X G z3, PySem.W.mg_none_of X G z4, PySem.W.mg_none_of X G z5, PySem.W.mg_none_of X G z6, PySem.W.mg_none_of X G z7, PySem.W.mg_none_of X G z8, PySem.W.mg_none_of X G z9⟩⟩
theorem walk {l : PySem.W.OpenLaw} {q : Program} {loose : List Str} {XP : (Str → Option Value) → Heap → Prop} {YP : World → Heap → Prop} {d : DefRec} {K : Params → PySem.W.Frag} (hn : l.most = some 63) (hdf : d.params.defaults = []) (hnm : d.name = "law")
    (hY : ∀ (w : World) (h : Heap), YP w h → (K w.params).In h)
    (F : ∀ (w : World) (mg : Str → Option Value) (h : Heap), (K w.params).In h → h.Ns mainGlobals mg → ∃ t, Txt w (K w.params) mg t) :
    PySem.W.WalkO q loose XP YP l.row.toRowW d [] (fun f vs => PySem.call f vs) := by
  refine L2.walk_of (n := 63) (k := 12) (x := "_law_script") (CX := fun _ => CX0) (sp := fun w => sp_law (K w.params)) hn (by decide) hdf ⟨rfl, by decide, by decide⟩ hY (fun w mg fa h KX G hmg => ?_) (fun _ _ a ns hl _ hS => ⟨a, rfl, ns, hS, hl, fun _ => rfl⟩) fun _ _ _ _ _ z => z
  obtain ⟨t, T⟩ := F w mg h KX G
  rw [hnm] at hmg
  have e := hmg.symm.trans T.g_law
  cases e
  obtain ⟨oc, od, kV, doc, pm, an, cdv, ct, osl, e1, lk, hcd⟩ := T.F_law.ex
  refine ⟨t.f_law, fun s u => ?_, fun base _ _ => (h_law (P := l.prog) (w := w) (base := base) T).ok⟩
  rw [e1]
  exact .of_eq rfl
end My
theorem PySem.W.Fast.tw10042969817768428441 : True := trivial
theorem PySem.W.Fast.tw10081765779799012373 : True := trivial
theorem PySem.W.Fast.tw10665775681522150028 : True := trivial
theorem PySem.W.Fast.tw11072728521293961009 : True := trivial
theorem PySem.W.Fast.tw11306314951051421022 : True := trivial
theorem PySem.W.Fast.tw11521298844050277664 : True := trivial
theorem PySem.W.Fast.tw11642663705063561574 : True := trivial
theorem PySem.W.Fast.tw11867439700927553015 : True := trivial
theorem PySem.W.Fast.tw12092272846632575616 : True := trivial
theorem PySem.W.Fast.tw12144467088085593525 : True := trivial
theorem PySem.W.Fast.tw12460360094497929916 : True := trivial
theorem PySem.W.Fast.tw12495934139249308400 : True := trivial
theorem PySem.W.Fast.tw12710789228971140328 : True := trivial
theorem PySem.W.Fast.tw13206917154366124663 : True := trivial
theorem PySem.W.Fast.tw13543901374813360991 : True := trivial
theorem PySem.W.Fast.tw13605212468890268182 : True := trivial
theorem PySem.W.Fast.tw13749539420288622479 : True := trivial
theorem PySem.W.Fast.tw13766989525047994000 : True := trivial
theorem PySem.W.Fast.tw140801925149168040 : True := trivial
theorem PySem.W.Fast.tw14399869851382003494 : True := trivial
theorem PySem.W.Fast.tw14559670432261896891 : True := trivial
theorem PySem.W.Fast.tw14689278269889837800 : True := trivial
theorem PySem.W.Fast.tw14884587961507259963 : True := trivial
theorem PySem.W.Fast.tw14951260396578769805 : True := trivial
theorem PySem.W.Fast.tw15174647143593294639 : True := trivial
theorem PySem.W.Fast.tw15349125538283447352 : True := trivial
theorem PySem.W.Fast.tw15477454916445491536 : True := trivial
theorem PySem.W.Fast.tw15549685365302003795 : True := trivial
theorem PySem.W.Fast.tw15894996896697128571 : True := trivial
theorem PySem.W.Fast.tw15927638329031062332 : True := trivial
theorem PySem.W.Fast.tw16052492916624875363 : True := trivial
theorem PySem.W.Fast.tw16286768908962236943 : True := trivial
theorem PySem.W.Fast.tw16356238183528966972 : True := trivial
theorem PySem.W.Fast.tw16703156047410330266 : True := trivial
theorem PySem.W.Fast.tw16812230478137267113 : True := trivial
theorem PySem.W.Fast.tw16946982516307547645 : True := trivial
theorem PySem.W.Fast.tw1694979382496224364 : True := trivial
theorem PySem.W.Fast.tw16972106590496977820 : True := trivial
theorem PySem.W.Fast.tw17434211636364624118 : True := trivial
theorem PySem.W.Fast.tw17844749943534684971 : True := trivial
theorem PySem.W.Fast.tw17947121706385305739 : True := trivial
theorem PySem.W.Fast.tw17967831222801945455 : True := trivial
theorem PySem.W.Fast.tw18146010703967294860 : True := trivial
theorem PySem.W.Fast.tw1852181986079008472 : True := trivial
theorem PySem.W.Fast.tw1857708803900270410 : True := trivial
theorem PySem.W.Fast.tw1962856858233955709 : True := trivial
theorem PySem.W.Fast.tw2124342683509880133 : True := trivial
theorem PySem.W.Fast.tw2482084070012412137 : True := trivial
theorem PySem.W.Fast.tw2550764652756226784 : True := trivial
theorem PySem.W.Fast.tw2961140716894768781 : True := trivial
theorem PySem.W.Fast.tw2974567355396684127 : True := trivial
theorem PySem.W.Fast.tw3165822283113395595 : True := trivial
theorem PySem.W.Fast.tw3243643706424659360 : True := trivial
theorem PySem.W.Fast.tw3690156049333814916 : True := trivial
theorem PySem.W.Fast.tw3875739273604191354 : True := trivial
theorem PySem.W.Fast.tw3988388804500560689 : True := trivial
theorem PySem.W.Fast.tw426992973974375820 : True := trivial
theorem PySem.W.Fast.tw4403221743240521634 : True := trivial
theorem PySem.W.Fast.tw4427220650928369667 : True := trivial
theorem PySem.W.Fast.tw4437878701729955821 : True := trivial
theorem PySem.W.Fast.tw4549311517080827184 : True := trivial
theorem PySem.W.Fast.tw4655965129724189850 : True := trivial
theorem PySem.W.Fast.tw469132465865084801 : True := trivial
theorem PySem.W.Fast.tw4882209027828587272 : True := trivial
theorem PySem.W.Fast.tw4937029747658082721 : True := trivial
theorem PySem.W.Fast.tw4962330884176071005 : True := trivial
theorem PySem.W.Fast.tw5170278125907940965 : True := trivial
theorem PySem.W.Fast.tw5233296812930679292 : True := trivial
theorem PySem.W.Fast.tw5334448856533788888 : True := trivial
theorem PySem.W.Fast.tw5544067578833180217 : True := trivial
theorem PySem.W.Fast.tw5766798515480364824 : True := trivial
theorem PySem.W.Fast.tw5954024559753023650 : True := trivial
theorem PySem.W.Fast.tw6193184452039892539 : True := trivial
theorem PySem.W.Fast.tw6236201036811036833 : True := trivial
theorem PySem.W.Fast.tw6760708854694867801 : True := trivial
theorem PySem.W.Fast.tw6767458850909041006 : True := trivial
theorem PySem.W.Fast.tw7066734254663320943 : True := trivial
theorem PySem.W.Fast.tw7229457776947685894 : True := trivial
theorem PySem.W.Fast.tw723424073834461408 : True := trivial
theorem PySem.W.Fast.tw7281303283839787953 : True := trivial
theorem PySem.W.Fast.tw7491331529832212008 : True := trivial
theorem PySem.W.Fast.tw7609592542684798598 : True := trivial
theorem PySem.W.Fast.tw7747645061578329337 : True := trivial
theorem PySem.W.Fast.tw8015701746189129065 : True := trivial
theorem PySem.W.Fast.tw8263450647877500046 : True := trivial
theorem PySem.W.Fast.tw8549997564289874489 : True := trivial
theorem PySem.W.Fast.tw9119820136319951257 : True := trivial
theorem PySem.W.Fast.tw9499819372347967830 : True := trivial
theorem PySem.W.Fast.tw9786610738970884589 : True := trivial
theorem PySem.W.Fast.tw9797679091235206895 : True := trivial
theorem PySem.W.Fast.tw9891140764252157375 : True := trivial
open PySem PySem.W PyProof.Rows
set_option maxRecDepth 100000 in
set_option maxHeartbeats 0 in
theorem PySem.Challenge.cw_bytetongue_k82_in_step_by_pairs_holds : PySem.Challenge.rw_bytetongue_k82_in_step_by_pairs.Holds := by
  w_on; o_law; k_head; (case hw => w_witness2)
  k_fill
  refine My.walk (l := PySem.Challenge.rw_bytetongue_k82_in_step_by_pairs) rfl rfl rfl (fun w h Y => PySem.W.kIn_of Y) ?F
  case F =>
    intro w mg h KX G
    refine' My.txt_mk KX G ?h0a ?h0l ?h0c ?h0k ?h1a ?h1l ?h1c ?h1k ?h2a ?h2l ?h2c ?h2k ?h3a ?h3l ?h3c ?h3k ?h4a ?h4l ?h4c ?h4k ?h5a ?h5l ?h5c ?h5k ?h6a ?h6l ?h6c ?h6k ?h7a ?h7l ?h7c ?h7k ?h8a ?h8l ?h8c ?h8k ?h9a ?h9l ?h9c ?h9k ?h10a ?h10l ?h10c ?h10k ?h11a ?h11l ?h11c ?h11k ?h12a ?h12l ?h12c ?h12k ?h13a ?h13l ?h13c ?h13k ?cg_PairTongue ?cp_PairTongue ?cd_PairTongue ?co_PairTongue ?cs_PairTongue ?cm_PairTongue ?ck_PairTongue ?ct_PairTongue ?cu_PairTongue ?cv_PairTongue ?cw_PairTongue ?cn_PairTongue_order ?h14a ?h14f ?h14l ?h14c ?h14k ?h14d ?h15a ?h15f ?h15l ?h15c ?h15k ?h16a ?h16f ?h16l ?h16c ?h16k ?h17a ?h17f ?h17l ?h17c ?h17k ?h18a ?h18f ?h18l ?h18c ?h18k ?h19a ?h19f ?h19l ?h19c ?h19k ?h19d ?h20a ?h20f ?h20l ?h20c ?h20k ?h20d ?h21a ?h21f ?h21l ?h21c ?h21k ?h22a ?h22f ?h22l ?h22c ?h22k ?h22d ?h23a ?h23l ?h23c ?h23k ?h24a ?h24l ?h24c ?h24k ?h25a ?h25l ?h25c ?h25k ?h26a ?h26l ?h26c ?h26k ?h27a ?h27l ?h27c ?h27k ?h28a ?h28l ?h28c ?h28k ?h29a ?h29l ?h29c ?h29k ?k0 ?k1 ?kl1 ?kv1 ?ks1 ?kh1_0 ?kh1_1 ?kl1_0 ?kv1_0 ?kz1_0 ?kl1_0_0 ?kv1_0_0 ?kz1_0_0 ?kl1_0_1 ?kv1_0_1 ?kz1_0_1 ?kl1_0_2 ?kv1_0_2 ?kz1_0_2 ?kl1_0_3 ?kv1_0_3 ?kz1_0_3 ?kl1_0_4 ?kv1_0_4 ?kz1_0_4 ?kl1_1 ?kv1_1 ?kz1_1 ?kl1_1_0 ?kv1_1_0 ?kz1_1_0 ?kl1_1_1 ?kv1_1_1 ?kz1_1_1 ?kl1_1_2 ?kv1_1_2 ?kz1_1_2 ?kl1_1_3 ?kv1_1_3 ?kz1_1_3 ?kl1_1_4 ?kv1_1_4 ?kz1_1_4 ?k2 ?k3 ?k4 ?k5 ?k6 ?k7 ?k8 ?k9 ?z0 ?z1 ?z2 ?z3 ?z4 ?z5 ?z6 ?z7 ?z8 ?z9
    (case h0a => k_is)
    (case h0l => k_is)
    (case h0c => k_is)
    (case h0k => k_is)
    (case h1a => k_is)
    (case h1l => k_is)
    (case h1c => k_is)
    (case h1k => k_is)
    (case h2a => k_is)
    (case h2l => k_is)
    (case h2c => k_is)
    (case h2k => k_is)
    (case h3a => k_is)
    (case h3l => k_is)
    (case h3c => k_is)
    (case h3k => k_is)
    (case h4a => k_is)
    (case h4l => k_is)
    (case h4c => k_is)
    (case h4k => k_is)
    (case h5a => k_is)
    (case h5l => k_is)
    (case h5c => k_is)
    (case h5k => k_is)
    (case h6a => k_is)
    (case h6l => k_is)
    (case h6c => k_is)
    (case h6k => k_is)
    (case h7a => k_is)
    (case h7l => k_is)
    (case h7c => k_is)
    (case h7k => k_is)
    (case h8a => k_is)
    (case h8l => k_is)
    (case h8c => k_is)
    (case h8k => k_is)
    (case h9a => k_is)
    (case h9l => k_is)
    (case h9c => k_is)
    (case h9k => k_is)
    (case h10a => k_is)
    (case h10l => k_is)
    (case h10c => k_is)
    (case h10k => k_is)
    (case h11a => k_is)
    (case h11l => k_is)
    (case h11c => k_is)
    (case h11k => k_is)
    (case h12a => k_is)
    (case h12l => k_is)
    (case h12c => k_is)
    (case h12k => k_is)
    (case h13a => k_is)
    (case h13l => k_is)
    (case h13c => k_is)
    (case h13k => k_is)
    (case cg_PairTongue => k_is)
    (case cp_PairTongue => k_is)
    (case cd_PairTongue => k_is)
    (case co_PairTongue => k_is)
    (case cs_PairTongue => k_is)
    (case cm_PairTongue => k_is)
    (case ck_PairTongue => k_is)
    (case ct_PairTongue => k_is)
    (case cu_PairTongue => k_is)
    (case cv_PairTongue => k_is)
    (case cw_PairTongue => k_is)
    (case cn_PairTongue_order => k_is)
    (case h14a => k_is)
    (case h14f => k_is)
    (case h14l => k_is)
    (case h14c => k_is)
    (case h14k => k_is)
    (case h14d => k_is)
    (case h15a => k_is)
    (case h15f => k_is)
    (case h15l => k_is)
    (case h15c => k_is)
    (case h15k => k_is)
    (case h16a => k_is)
    (case h16f => k_is)
    (case h16l => k_is)
    (case h16c => k_is)
    (case h16k => k_is)
    (case h17a => k_is)
    (case h17f => k_is)
    (case h17l => k_is)
    (case h17c => k_is)
    (case h17k => k_is)
    (case h18a => k_is)
    (case h18f => k_is)
    (case h18l => k_is)
    (case h18c => k_is)
    (case h18k => k_is)
    (case h19a => k_is)
    (case h19f => k_is)
    (case h19l => k_is)
    (case h19c => k_is)
    (case h19k => k_is)
    (case h19d => k_is)
    (case h20a => k_is)
    (case h20f => k_is)
    (case h20l => k_is)
    (case h20c => k_is)
    (case h20k => k_is)
    (case h20d => k_is)
    (case h21a => k_is)
    (case h21f => k_is)
    (case h21l => k_is)
    (case h21c => k_is)
    (case h21k => k_is)
    (case h22a => k_is)
    (case h22f => k_is)
    (case h22l => k_is)
    (case h22c => k_is)
    (case h22k => k_is)
    (case h22d => k_is)
    (case h23a => k_is)
    (case h23l => k_is)
    (case h23c => k_is)
    (case h23k => k_is)
    (case h24a => k_is)
    (case h24l => k_is)
    (case h24c => k_is)
    (case h24k => k_is)
    (case h25a => k_is)
    (case h25l => k_is)
    (case h25c => k_is)
    (case h25k => k_is)
    (case h26a => k_is)
    (case h26l => k_is)
    (case h26c => k_is)
    (case h26k => k_is)
    (case h27a => k_is)
    (case h27l => k_is)
    (case h27c => k_is)
    (case h27k => k_is)
    (case h28a => k_is)
    (case h28l => k_is)
    (case h28c => k_is)
    (case h28k => k_is)
    (case h29a => k_is)
    (case h29l => k_is)
    (case h29c => k_is)
    (case h29k => k_is)
    (case k0 => k_is)
    (case k1 => k_is)
    (case kl1 => k_is)
    (case kv1 => rfl)
    (case ks1 => rfl)
    (case kh1_0 => rfl)
    (case kh1_1 => rfl)
    (case kl1_0 => k_is)
    (case kv1_0 => rfl)
    (case kz1_0 => rfl)
    (case kl1_0_0 => k_is)
    (case kv1_0_0 => rfl)
    (case kz1_0_0 => rfl)
    (case kl1_0_1 => k_is)
    (case kv1_0_1 => rfl)
    (case kz1_0_1 => rfl)
    (case kl1_0_2 => k_is)
    (case kv1_0_2 => rfl)
    (case kz1_0_2 => rfl)
    (case kl1_0_3 => k_is)
    (case kv1_0_3 => rfl)
    (case kz1_0_3 => rfl)
    (case kl1_0_4 => k_is)
    (case kv1_0_4 => rfl)
    (case kz1_0_4 => rfl)
    (case kl1_1 => k_is)
    (case kv1_1 => rfl)
    (case kz1_1 => rfl)
    (case kl1_1_0 => k_is)
    (case kv1_1_0 => rfl)
    (case kz1_1_0 => rfl)
    (case kl1_1_1 => k_is)
    (case kv1_1_1 => rfl)
    (case kz1_1_1 => rfl)
    (case kl1_1_2 => k_is)
    (case kv1_1_2 => rfl)
    (case kz1_1_2 => rfl)
    (case kl1_1_3 => k_is)
    (case kv1_1_3 => rfl)
    (case kz1_1_3 => rfl)
    (case kl1_1_4 => k_is)
    (case kv1_1_4 => rfl)
    (case kz1_1_4 => rfl)
    (case k2 => k_is)
    (case k3 => k_is)
    (case k4 => k_is)
    (case k5 => k_is)
    (case k6 => k_is)
    (case k7 => k_is)
    (case k8 => k_is)
    (case k9 => k_is)
    (case z0 => k_is)
    (case z1 => k_is)
    (case z2 => k_is)
    (case z3 => k_is)
    (case z4 => k_is)
    (case z5 => k_is)
    (case z6 => k_is)
    (case z7 => k_is)
    (case z8 => k_is)
    (case z9 => k_is)
