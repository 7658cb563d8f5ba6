import PyProof.Rows.All
import Wide.All
import OpenK.AllK
import Wide.FinOn
import Lean
import PyProof.EqAt
import PyProof.EqKinds
import PyProof.TupleCall
import PySem.Challenge.RW_bytetongue_k65_writer_in_pieces
set_option Elab.async false
set_option linter.all false
set_option maxRecDepth 100000
namespace L2
open PySem PySem.Spec PyProof.Rows
abbrev Key := Sum Int Str
def keyIs : Key -> Value -> Bool
  | .inl k, v => Value.isInt k v
  | .inr x, v => Value.isStrOf x v
def keyH (w : World) : Key -> Int
  | .inl k => hashInt k
  | .inr x => hashStr w x
theorem keyIs_shape : ∀ {k : Key} {v : Value}, keyIs k v = true -> (∃ i t, k = Sum.inl i /\ v = Value.int i t) \/ (∃ x t, k = Sum.inr x /\ v = Value.str x t)
  | .inl i, v, h => by
    obtain ⟨t, e⟩ := Value.isInt_shape (k := i) (v := v) h
    exact .inl ⟨i, t, rfl, e⟩
  | .inr x, v, h => by
    obtain ⟨t, e⟩ := Value.isStrOf_shape (x := x) (v := v) h
    exact .inr ⟨x, t, rfl, e⟩
theorem keyIs_int (i : Int) (t : Tok) : keyIs (.inl i) (.int i t) = true := by simp [keyIs, Value.isInt]
theorem keyIs_str (x : Str) (t : Tok) : keyIs (.inr x) (.str x t) = true := by simp [keyIs, Value.isStrOf]
theorem key_ll (a b : Int) : decide ((Sum.inl a : Key) = Sum.inl b) = (a == b) := by
  by_cases e : a = b
  · subst e; simp
  · have h : ¬ (Sum.inl a : Key) = Sum.inl b := fun q => e (Sum.inl.inj q)
    rw [decide_eq_false h]
    exact (beq_eq_false_iff_ne.mpr e).symm
theorem key_rr (a b : Str) : decide ((Sum.inr a : Key) = Sum.inr b) = decide (a = b) := by
  by_cases e : a = b
  · subst e; simp
  · have h : ¬ (Sum.inr a : Key) = Sum.inr b := fun q => e (Sum.inr.inj q)
    rw [decide_eq_false h, decide_eq_false e]
theorem key_lr (a : Int) (b : Str) : decide ((Sum.inl a : Key) = Sum.inr b) = false := decide_eq_false (fun q => nomatch q)
theorem key_rl (a : Str) (b : Int) : decide ((Sum.inr a : Key) = Sum.inl b) = false := decide_eq_false (fun q => nomatch q)
def mixKind (prog : Program) (w : World) : PySem.KeyKind prog w Key where
  is := keyIs
  hash := keyH w
  inj := fun v a b ha hb => by
    rcases keyIs_shape ha with ⟨i, t, rfl, rfl⟩ | ⟨x, t, rfl, rfl⟩
    · rcases keyIs_shape hb with ⟨j, u, rfl, e⟩ | ⟨y, u, rfl, e⟩
      · injection e with e1 _; rw [e1]
      · exact nomatch e
    · rcases keyIs_shape hb with ⟨j, u, rfl, e⟩ | ⟨y, u, rfl, e⟩
      · exact nomatch e
      · injection e with e1 _; rw [e1]
  byValue := fun k v h => by
    rcases keyIs_shape h with ⟨i, t, rfl, rfl⟩ | ⟨x, t, rfl, rfl⟩ <;> rfl
  pyHash := fun hv h => by
    rcases keyIs_shape hv with ⟨i, t, rfl, rfl⟩ | ⟨x, t, rfl, rfl⟩
    · exact wpAny_pyHash_int h
    · exact wpAny_pyHash_str h
  eqBool := fun hu hv h => by
    rcases keyIs_shape hu with ⟨i, t, rfl, rfl⟩ | ⟨x, t, rfl, rfl⟩
    · rcases keyIs_shape hv with ⟨j, u, rfl, rfl⟩ | ⟨y, u, rfl, rfl⟩
      · rw [key_ll] at h; exact wpAny_eqBool_int h
      · rw [key_lr] at h; exact SeqAt.EqAt.int_str i t y u _ _ _ _ h
    · rcases keyIs_shape hv with ⟨j, u, rfl, rfl⟩ | ⟨y, u, rfl, rfl⟩
      · rw [key_rl] at h; exact SeqAt.EqAt.str_int x t j u _ _ _ _ h
      · rw [key_rr] at h; exact wpAny_eqBool_str h
  «strs» := fun k x t v h => by
    rcases keyIs_shape h with ⟨i, u, rfl, e⟩ | ⟨y, u, rfl, e⟩
    · exact nomatch e
    · injection e with e1 _
      subst e1
      cases v <;> rfl
theorem mixKind_int (prog : Program) (w : World) (i : Int) (t : Tok) : (mixKind prog w).is (.inl i) (.int i t) = true := keyIs_int i t
theorem mixKind_str (prog : Program) (w : World) (x : Str) (t : Tok) : (mixKind prog w).is (.inr x) (.str x t) = true := keyIs_str x t
end L2
namespace L2
open PySem PySem.Spec PyProof.Rows
inductive V where
  | non | bl (b : Bool) | int (i : Int) | str (x : Str) | byt (b : Array UInt8) | flt (b : UInt64) | ref (a : Addr) | ty (n : String)
  deriving DecidableEq
def RelV : V -> Value -> Prop
  | .non, u => u = Value.none
  | .bl b, u => u = Value.bool b
  | .int i, u => ∃ t, u = Value.int i t
  | .str x, u => ∃ t, u = Value.str x t
  | .byt b, u => ∃ t, u = Value.bytes b t
  | .flt b, u => ∃ t, u = Value.float b t
  | .ref a, u => u = Value.ref a
  | .ty n, u => u = Value.type n
abbrev Vals : List V -> List Value -> Prop := Paired RelV
theorem Vals.length {xs : List V} {us : List Value} (r : Vals xs us) : xs.length = us.length := Paired.length r
theorem Vals.get : ∀ {xs : List V} {us : List Value} {i : Nat} {x : V}, Vals xs us -> xs[i]? = some x -> ∃ u, us[i]? = some u /\ RelV x u
  | _, _, _, _, .nil, e => by simp at e
  | _, _, 0, _, .cons r _, e => by simp at e; subst e; exact ⟨_, rfl, r⟩
  | _, _, i + 1, x, .cons _ t, e => by
    obtain ⟨u, h1, h2⟩ := Vals.get (i := i) (x := x) t (by simpa using e)
    exact ⟨u, by simpa using h1, h2⟩
theorem Vals.append : ∀ {xs ys : List V} {us ws : List Value}, Vals xs us -> Vals ys ws -> Vals (xs ++ ys) (us ++ ws)
  | _, _, _, _, .nil, s => s
  | _, _, _, _, .cons r t, s => .cons r (Vals.append t s)
theorem Vals.take : ∀ {xs : List V} {us : List Value} (n : Nat), Vals xs us -> Vals (xs.take n) (us.take n)
  | _, _, 0, _ => .nil
  | _, _, _ + 1, .nil => .nil
  | _, _, n + 1, .cons r t => .cons r (Vals.take n t)
theorem Vals.drop : ∀ {xs : List V} {us : List Value} (n : Nat), Vals xs us -> Vals (xs.drop n) (us.drop n)
  | _, _, 0, r => r
  | _, _, _ + 1, .nil => .nil
  | _, _, n + 1, .cons _ t => Vals.drop n t
def RelO : Option V -> Option Value -> Prop
  | some v, some u => RelV v u
  | none, none => True
  | _, _ => False
def KV {κ : Type} : List (κ × V) -> List (κ × Value) -> Prop := Paired fun (p : κ × V) (q : κ × Value) => p.1 = q.1 /\ RelV p.2 q.2
def kV : Key -> V
  | .inl i => .int i
  | .inr x => .str x
inductive HO where
    | lst (xs : List V)
    | tup (xs : List V)
    | dK (kvs : List (Key × V)) | dT (kvs : List (List Key × V))
    | set (S : Int -> Bool) (n : Nat)
    | ins (C dx : Addr) (fs : List (Str × V))
    | own (x : Addr)
    | xd (fs : List (Str × V))
    | met (f x : Addr)
    | rng (lo hi : Int)
    | frz (o : Obj) (u : HO)
    | tbl (ps : Array Value)
    | ext (φ : Heap -> Prop)
abbrev Hp := Addr -> Option HO
def upd (H : Hp) (a : Addr) (o : HO) : Hp := fun b => if b = a then some o else H b
theorem upd_same {H : Hp} {a : Addr} {o : HO} : upd H a o a = some o := by unfold upd; rw [if_pos rfl]
theorem upd_ne {H : Hp} {a b : Addr} {o : HO} (h : b ≠ a) : upd H a o b = H b := by unfold upd; rw [if_neg h]
theorem ne_of {H : Hp} {a b : Addr} {o u : HO} (h : H a = some o) (h' : H b = some u) (d : o ≠ u) : a ≠ b := by
  intro e; subst e; rw [h] at h'; exact d (Option.some.inj h')
theorem ne_of_none {H : Hp} {a b : Addr} {o : HO} (h : H a = some o) (h' : H b = none) : a ≠ b := by
  intro e; subst e; rw [h] at h'; cases h'
section
variable (P : Program) (w : World)
def ObjOk (H : Hp) (h : Heap) (a : Addr) : HO -> Prop
  | .lst xs => xs.length <= sizeLine /\ ∃ (its : List Value) (n : Nat), Vals xs its /\ h.get? a = some { cls := .type "list", data := .seq its.toArray n }
  | .tup xs => xs.length <= sizeLine /\ ∃ its : List Value, Vals xs its /\ IsTup h a its.toArray
  | .dK kvs => kvs.length <= sizeLine /\ (a == sysModules) = false /\ ∃ vs, KV kvs vs /\ h.DictOf (mixKind P w) a vs
  | .dT kvs => kvs.length <= sizeLine /\ (a == sysModules) = false /\ ∃ xs : List (List Key × Addr × Value),
      Paired (fun (p : List Key × V) (q : List Key × Addr × Value) => p.1 = q.1 /\ H q.2.1 = some (.tup (p.1.map kV)) /\ RelV p.2 q.2.2) kvs xs /\
      ∃ o es ep, h.get? a = some o /\ o.ExactDict /\ o.data = .dict es ep /\ es.toList = xs.map (entryOfKey (tupleKind (mixKind P w))) /\ (xs.map (·.1)).Nodup
  | .set S n => h.SetOf (intKind P w) a S n
  | .ins C dx fs => H dx = some (.own a) /\ fs.length <= 1000 /\ dx ≠ a /\ h.get? a = some (PySem.W.instObj C dx) /\
      ∃ mA, h.Ns1 dx mA /\ (∀ f, RelO (fs.lookup f) (mA f)) /\ PySem.Within mA (fs.map (·.1))
  | .own _ => ∃ o, h.get? a = some o
  | .xd fs => ∃ mA, h.Ns1 a mA /\ ∀ f, RelO (fs.lookup f) (mA f)
  | .rng lo hi => ∃ t u v, h.get? a = some { cls := .type "range", data := .fields #[.int lo t, .int hi u, .int 1 v] }
  | .frz o u => h.get? a = some o /\ ObjOk H h a u
  | .tbl ps => h.get? a = some { cls := .none, data := .fields ps }
  | .met f x => h.get? a = some (PySem.W.methodObj (.ref f) (.ref x))
  | .ext φ => φ h /\ (∃ o, h.get? a = some o) /\ ∀ h1 h2 : Heap, φ h1 -> (∀ o, h1.get? a = some o -> h2.get? a = some o) -> φ h2
def HOk (H : Hp) (h : Heap) : Prop := ∀ a o, H a = some o -> ObjOk P w H h a o
end
section
variable {P : Program} {w : World} {H H' : Hp} {h h' : Heap} {a : Addr} {o : HO}
theorem ObjOk.lt (x : ObjOk P w H h a o) : a < h.objs.size := by
  cases o with
  | lst xs => obtain ⟨_, _, _, _, e⟩ := x; exact Heap.lt_size e
  | tup xs => obtain ⟨_, _, _, p⟩ := x; exact p.lt
  | dK kvs => obtain ⟨_, _, _, _, o, _, _, e, _⟩ := x; exact Heap.lt_size e
  | dT kvs => obtain ⟨_, _, _, _, o, _, _, e, _⟩ := x; exact Heap.lt_size e
  | set S n => obtain ⟨o, _, _, _, e, _⟩ := x; exact Heap.lt_size e
  | ins C dx fs => obtain ⟨_, _, _, e, _⟩ := x; exact Heap.lt_size e
  | own y => obtain ⟨_, e⟩ := x; exact Heap.lt_size e
  | xd fs => obtain ⟨_, ⟨_, _, _, e, _⟩, _⟩ := x; exact Heap.lt_size e
  | rng lo hi => obtain ⟨_, _, _, e⟩ := x; exact Heap.lt_size e
  | frz ob u => obtain ⟨e, _⟩ := x; exact Heap.lt_size e
  | tbl ps => exact Heap.lt_size (show h.get? a = some _ from x)
  | met f y => exact Heap.lt_size (show h.get? a = some _ from x)
  | ext φ => obtain ⟨_, ⟨_, e⟩, _⟩ := x; exact Heap.lt_size e
theorem Paired.mapP {α β : Type} {F G : α -> β -> Prop} : ∀ {l₁ : List α} {l₂ : List β}, Paired F l₁ l₂ -> (∀ a b, F a b -> G a b) -> Paired G l₁ l₂
  | _, _, .nil, _ => .nil
  | _, _, .cons r t, f => .cons (f _ _ r) (Paired.mapP t f)
theorem ObjOk.stay (x : ObjOk P w H h a o) (k : ∀ b u, (b = a \/ H b = some (.own a)) -> h.get? b = some u -> h'.get? b = some u)
    (ho : ∀ b, H b = some (.own a) -> H' b = some (.own a)) (ht : ∀ b xs, H b = some (.tup xs) -> H' b = some (.tup xs)) : ObjOk P w H' h' a o := by
  induction o with
  | lst xs => obtain ⟨z, its, n, r, e⟩ := x; exact ⟨z, its, n, r, k _ _ (.inl rfl) e⟩
  | tup xs => obtain ⟨z, its, r, ob, e, c⟩ := x; exact ⟨z, its, r, ob, k _ _ (.inl rfl) e, c⟩
  | dK kvs => obtain ⟨z, y, vs, r, ob, es, ep, e, c⟩ := x; exact ⟨z, y, vs, r, ob, es, ep, k _ _ (.inl rfl) e, c⟩
  | dT kvs =>
    obtain ⟨z, y, xs, r, ob, es, ep, e, c⟩ := x
    exact ⟨z, y, xs, Paired.mapP r fun p q z => ⟨z.1, ht _ _ z.2.1, z.2.2⟩, ob, es, ep, k _ _ (.inl rfl) e, c⟩
  | set S n => obtain ⟨ob, es, ep, t, e, c⟩ := x; exact ⟨ob, es, ep, t, k _ _ (.inl rfl) e, c⟩
  | ins C dx fs =>
    obtain ⟨d, z, ne, e, mA, ⟨od, es, ep, e2, c⟩, r⟩ := x
    exact ⟨ho _ d, z, ne, k _ _ (.inl rfl) e, mA, ⟨od, es, ep, k _ _ (.inr d) e2, c⟩, r⟩
  | own y => obtain ⟨ob, e⟩ := x; exact ⟨ob, k _ _ (.inl rfl) e⟩
  | xd fs => obtain ⟨mA, ⟨od, es, ep, e, c⟩, r⟩ := x; exact ⟨mA, ⟨od, es, ep, k _ _ (.inl rfl) e, c⟩, r⟩
  | rng lo hi => obtain ⟨t, u, v, e⟩ := x; exact ⟨t, u, v, k _ _ (.inl rfl) e⟩
  | frz ob u ih => obtain ⟨e, q⟩ := x; exact ⟨k _ _ (.inl rfl) e, ih q⟩
  | tbl ps =>
    have e : h.get? a = some { cls := .none, data := .fields ps } := x
    show h'.get? a = some { cls := .none, data := .fields ps }
    exact k a _ (.inl rfl) e
  | met f y =>
    have e : h.get? a = some (PySem.W.methodObj (.ref f) (.ref y)) := x
    show h'.get? a = some (PySem.W.methodObj (.ref f) (.ref y))
    exact k a _ (.inl rfl) e
  | ext φ => obtain ⟨p, ⟨o, e⟩, st⟩ := x; exact ⟨st _ _ p fun o q => k _ _ (.inl rfl) q, ⟨o, k _ _ (.inl rfl) e⟩, st⟩
theorem HOk.lt (x : HOk P w H h) (e : H a = some o) : a < h.objs.size := (x a o e).lt
theorem HOk.fresh (x : HOk P w H h) (e : h.objs.size <= a) : H a = none := by
  cases q : H a with
  | none => rfl
  | some u => exact absurd (Nat.lt_of_lt_of_le (x.lt q) e) (Nat.lt_irrefl _)
theorem HOk.kept (x : HOk P w H h) (k : ∀ b u, h.get? b = some u -> h'.get? b = some u) : HOk P w H h' := fun a o e =>
  (x a o e).stay (fun b u _ q => k b u q) (fun _ q => q) fun _ _ q => q
theorem HOk.laid (x : HOk P w H h) (k : ∀ b u, h.get? b = some u -> h'.get? b = some u) (hp : h.objs.size <= a) (new : ObjOk P w (upd H a o) h' a o) : HOk P w (upd H a o) h' := fun b u e => by
  have hn := x.fresh hp
  by_cases hb : b = a
  · subst hb; rw [upd_same] at e; cases e; exact new
  · rw [upd_ne hb] at e
    exact (x b u e).stay (fun c v _ q => k c v q) (fun c q => by rw [upd_ne (ne_of_none q hn)]; exact q) fun c xs q => by rw [upd_ne (ne_of_none q hn)]; exact q
end
def Rd (H : Hp) (a : Addr) (u : HO) : Prop := H a = some u \/ ∃ o, H a = some (.frz o u)
theorem Rd.ok {P : Program} {w : World} {H : Hp} {h : Heap} {a : Addr} {u : HO} (r : Rd H a u) (x : HOk P w H h) : ObjOk P w H h a u := by
  rcases r with r | ⟨o, r⟩
  · exact x a u r
  · obtain ⟨_, q⟩ := x a _ r
    exact q
def Mut : Option HO -> Prop
  | some (.lst _) => True
  | some (.dK _) => True
  | some (.dT _) => True
  | some (.set _ _) => True
  | some (.ins _ _ _) => True
  | some (.ext _) => True
  | _ => False
section
variable {P : Program} {w : World} {H : Hp} {h h' : Heap} {x e : Addr} {o' : HO}
theorem HOk.write (ok : HOk P w H h) (mu : Mut (H x)) (he : e = x \/ H e = some (.own x)) (k : ∀ b u, b ≠ e -> h.get? b = some u -> h'.get? b = some u) (heo : ∃ u, h'.get? e = some u)
    (new : ObjOk P w (upd H x o') h' x o') : HOk P w (upd H x o') h' := fun b u q => by
  have nown : ∀ c y, H c = some (.own y) -> c ≠ x := fun c y r z => by subst z; rw [r] at mu; exact mu
  have ntup : ∀ c xs, H c = some (.tup xs) -> c ≠ x := fun c xs r z => by subst z; rw [r] at mu; exact mu
  by_cases hb : b = x
  · subst hb; rw [upd_same] at q; cases q; exact new
  · rw [upd_ne hb] at q
    by_cases hbe : b = e
    · have q' : H b = some (.own x) := by
        rcases he with z | z
        · exact absurd (hbe.trans z) hb
        · rw [hbe]; exact z
      rw [q] at q'; cases q'
      obtain ⟨v, hv⟩ := heo
      exact ⟨v, by rw [hbe]; exact hv⟩
    · refine (ok b u q).stay (fun c v hc r => k c v ?_ r) (fun c r => by rw [upd_ne (nown c b r)]; exact r) fun c xs r => by rw [upd_ne (ntup c xs r)]; exact r
      rcases hc with rfl | hc
      · exact hbe
      · rintro rfl
        rcases he with z | z
        · exact nown c b hc z
        · rw [hc] at z; cases z; exact hb rfl
end
structure Un (fs ex : List Addr) (H H' : Hp) (h h' : Heap) : Prop where
  keep : ∀ b o, h.get? b = some o -> H b = none -> b ∉ fs -> b ∉ ex -> h'.get? b = some o
  slot : ∀ b o, h.get? b = some o -> H b = none -> b ∈ fs -> b ∉ ex -> ∃ sl, h'.get? b = some { o with slots := sl }
  free : ∀ b o, h.get? b = some o -> H b = none -> b ∉ ex -> H' b = none
  there : ∀ b o, h.get? b = some o -> b ∉ ex -> ∃ o', h'.get? b = some o'
  tups : ∀ b xs, H b = some (.tup xs) -> H' b = some (.tup xs)
  frzs : ∀ b o u, H b = some (.frz o u) -> H' b = some (.frz o u)
  tbls : ∀ b ps, H b = some (.tbl ps) -> ∃ more, H' b = some (.tbl (ps ++ more))
section
variable {fs fs' ex ex' : List Addr} {H H1 H2 : Hp} {h h1 h2 h' : Heap} {a x e : Addr} {o : HO}
theorem Un.any (u : Un fs ex H H1 h h1) {b : Addr} {ob : Obj} (q : h.get? b = some ob) (n : H b = none) (hx : b ∉ ex) : ∃ sl, h1.get? b = some { ob with slots := sl } := by
  by_cases hb : b ∈ fs
  · exact u.slot b ob q n hb hx
  · exact ⟨ob.slots, u.keep b ob q n hb hx⟩
theorem Un.kept (k : ∀ b u, h.get? b = some u -> h'.get? b = some u) : Un fs ex H H h h' :=
  ⟨fun b ob q _ _ _ => k b ob q, fun b ob q _ _ _ => ⟨ob.slots, k b ob q⟩, fun _ _ _ n _ => n, fun b ob q _ => ⟨ob, k b ob q⟩, fun _ _ q => q, fun _ _ _ q => q, fun _ ps q => ⟨#[], by rw [q]; simp⟩⟩
theorem Un.refl : Un fs ex H H h h := Un.kept fun _ _ q => q
theorem Un.laid (k : ∀ b u, h.get? b = some u -> h'.get? b = some u) (hp : h.objs.size <= a) (hn : H a = none) : Un fs ex H (upd H a o) h h' where
  keep := fun b u q _ _ _ => k b u q
  slot := fun b u q _ _ _ => ⟨u.slots, k b u q⟩
  free := fun b u q n _ => by rw [upd_ne (Nat.ne_of_lt (Nat.lt_of_lt_of_le (Heap.lt_size q) hp))]; exact n
  there := fun b u q _ => ⟨u, k b u q⟩
  tups := fun b xs q => by rw [upd_ne (ne_of_none q hn)]; exact q
  frzs := fun b u xs q => by rw [upd_ne (ne_of_none q hn)]; exact q
  tbls := fun b ps q => ⟨#[], by rw [upd_ne (ne_of_none q hn), q]; simp⟩
theorem Un.write (mu : Mut (H x)) (he : e = x \/ H e = some (.own x)) (k : ∀ b u, b ≠ e -> h.get? b = some u -> h'.get? b = some u) (heo : ∃ u, h'.get? e = some u) : Un fs ex H (upd H x o) h h' := by
  have hx : ∀ b, H b = none -> b ≠ x := fun b n z => by subst z; rw [n] at mu; exact mu
  have hb : ∀ b, H b = none -> b ≠ e := fun b n z => by
    subst z
    rcases he with r | r
    · exact hx b n r
    · rw [n] at r; cases r
  have hm : ∀ b u, H b = some u -> ¬ Mut (some u) -> b ≠ x := fun b u q nm z => by subst z; rw [q] at mu; exact nm mu
  refine ⟨fun b u q n _ _ => k b u (hb b n) q, fun b u q n _ _ => ⟨u.slots, k b u (hb b n) q⟩, fun b u q n _ => by rw [upd_ne (hx b n)]; exact n, fun b u q _ => ?_,
    fun b xs q => by rw [upd_ne (hm b _ q fun z => z)]; exact q, fun b u xs q => by rw [upd_ne (hm b _ q fun z => z)]; exact q, fun b ps q => ⟨#[], by rw [upd_ne (hm b _ q fun z => z), q]; simp⟩⟩
  by_cases hbe : b = e
  · subst hbe; exact heo
  · exact ⟨u, k b u hbe q⟩
end
def trk (h : Heap) (H : Hp) : List Addr := (List.range h.objs.size).filter fun a => (H a).isSome
def hidT (h : Heap) (H : Hp) : Heap := PySem.W.hideAll h (trk h H)
theorem hidT_size (h : Heap) (H : Hp) : (hidT h H).objs.size = h.objs.size := PySem.W.hideAll_size _ _
theorem hidT_get {h : Heap} {H : Hp} {b : Addr} {o : Obj} (e : h.get? b = some o) (n : H b = none) : (hidT h H).get? b = some o :=
  PySem.W.hideAll_get _ e fun hm => by
    have q : (H b).isSome = true := (List.mem_filter.mp hm).2
    rw [n] at q; simp at q
theorem of_hidT {h : Heap} {H : Hp} {b : Addr} {o : Obj} (e : (hidT h H).get? b = some o) : h.get? b = some o /\ H b = none := by
  have e' : h.get? b = some o := PySem.W.of_hideAll (trk h H) e
  refine ⟨e', ?_⟩
  cases q : H b with
  | none => rfl
  | some x =>
    have hm : b ∈ trk h H := List.mem_filter.mpr ⟨List.mem_range.mpr (Heap.lt_size e'), by simp [q]⟩
    have z : (hidT h H).get? b = none := PySem.W.hideAll_none (trk h H) hm
    rw [z] at e; cases e
def allNews (g h : Heap) (L : Addr) : List (Addr × Obj) := (List.range h.objs.size).filterMap fun a => if a = L \/ (g.get? a).isSome = true then none else (h.get? a).map fun o => (a, o)
def rest (g h : Heap) (L d : Addr) : List (Addr × Obj) := (allNews g h L).filter fun p => decide (p.1 ≠ d)
end L2
namespace L2
open PySem PySem.Spec PyProof.Rows
structure Mod (K : PySem.W.Frag) (mg : Str -> Option Value) (base : Heap) : Prop where
  kin : K.In base
  glob : base.Ns mainGlobals mg
  blt : ∃ mb, base.Ns builtinsNs mb /\ ∀ x : Str, x ≠ "__name__" -> mb x = bootBuiltins x
  nolimit : base.NoLimit
structure Cx where
  prog : Program
  w : World
  K : PySem.W.Frag
  mg : Str -> Option Value
  base : Heap
  A : Around
  N : List Str
  s₀ : Shared
  H₀ : Hp
  env : Env
  outer : List Env
  stack : List Env
  ex : List Addr
  fn : Str -> Bool
  calm : Bool
  pn : List (Addr × Obj)
  xe : Value -> Shared -> Prop
def frs (l : List Env) : List Addr := l.filterMap (·.frame)
abbrev Cx.fs (X : Cx) : List Addr := frs X.outer
def Vis (sc : Scope) (x : Str) : Prop := sc.names.lookup x = some .local \/ sc.names.lookup x = some .cell \/ sc.names.lookup x = some .free
def Loc (sc : Scope) (x : Str) : Prop := sc.names.lookup x = some .local \/ sc.names.lookup x = some .cell
def Look (env : Env) (h : Heap) (m : Str -> Option Value) (x : Str) (u : Value) : Prop :=
  (env.kindOf x = some .local /\ m x = some u) \/ ((env.kindOf x = some .cell \/ env.kindOf x = some .free) /\ ∃ c, env.cells.lookup x = some c /\ h.IsCell c (some u))
structure Cx.Ok (X : Cx) : Prop where
  mod : Mod X.K X.mg X.base
  kind : X.env.scope.kind = .function
  glob : X.env.globals = mainGlobals
  blt : X.env.builtins = builtinsNs
  above : X.s₀.heap.objs.size <= X.env.locals
  inj : ∀ x y c, X.env.cells.lookup x = some c -> X.env.cells.lookup y = some c -> x = y
  has : ∀ x, (X.env.kindOf x = some .cell \/ X.env.kindOf x = some .free) -> ∃ c, X.env.cells.lookup x = some c
  cab : ∀ x c, X.fn x = true -> X.env.cells.lookup x = some c -> X.s₀.heap.objs.size <= c
  hd : X.calm = true -> X.A.handled = none
  frames : X.A.frames = some X.stack
  stk : X.stack = X.outer \/ (X.stack = X.env :: X.outer /\ X.env.frame = some X.env.locals)
  exf : ∀ b ∈ X.ex, b ≠ X.env.locals /\ ∀ x c, X.env.cells.lookup x = some c -> c ≠ b
  bs : ∀ b o, X.base.get? b = some o -> X.s₀.heap.get? b = some o /\ X.H₀ b = none
  bsz : X.base.objs.size <= X.s₀.heap.objs.size
  noex : ∀ b o, X.base.get? b = some o -> b ∉ X.ex
  exfs : ∀ b ∈ X.ex, b ∉ X.fs
  funs : X.s₀.heap.FunFrames X.base X.outer
  frf : ∀ b ∈ X.fs, X.H₀ b = none
structure Inv (X : Cx) (pins : List (Addr × Obj)) (σ : List (Option V)) (H : Hp) (s : Shared) : Prop where
  ok : X.Ok
  os : s.os = X.s₀.os
  bare : AllBare s.gens
  base : Un X.fs X.ex X.H₀ H X.s₀.heap s.heap
  loc : ∃ m, s.heap.Ns X.env.locals m /\ ∀ (i : Nat) (x : Str) (v : V), X.N[i]? = some x -> σ[i]? = some (some v) -> Vis X.env.scope x -> ∃ u, RelV v u /\ Look X.env s.heap m x u
  cell : ∀ x c, X.env.cells.lookup x = some c -> ∃ v, s.heap.IsCell c v
  free : H X.env.locals = none
  freeC : ∀ x c, X.env.cells.lookup x = some c -> H c = none
  pin : ∀ p ∈ X.pn ++ pins, s.heap.get? p.1 = some p.2 /\ H p.1 = none /\ p.1 ≠ X.env.locals /\ p.1 ∉ X.fs /\ ∀ v, p.2.data ≠ .cell v
  hok : HOk X.prog X.w H s.heap
  len : σ.length = X.N.length
section
variable {X : Cx} {pins : List (Addr × Obj)} {σ : List (Option V)} {H H' : Hp} {s : Shared} {h' : Heap}
theorem Cx.Ok.nofr (ok : X.Ok) {b : Addr} {o : Obj} (e : X.base.get? b = some o) : b ∉ X.fs := fun hb => by
  have := (ok.funs.mem hb).1
  rw [e] at this; cases this
theorem Inv.bs (I : Inv X pins σ H s) : ∀ b o, X.base.get? b = some o -> s.heap.get? b = some o /\ H b = none := fun b o e =>
  ⟨I.base.keep b o (I.ok.bs b o e).1 (I.ok.bs b o e).2 (I.ok.nofr e) (I.ok.noex b o e), I.base.free b o (I.ok.bs b o e).1 (I.ok.bs b o e).2 (I.ok.noex b o e)⟩
theorem Inv.bk (I : Inv X pins σ H s) : ∀ b o, X.base.get? b = some o -> s.heap.get? b = some o := fun b o e => (I.bs b o e).1
theorem Inv.mod (I : Inv X pins σ H s) : Mod X.K X.mg X.base := I.ok.mod
theorem Inv.kIn (I : Inv X pins σ H s) : X.K.In s.heap := I.ok.mod.kin.keeps I.bk
theorem Inv.lt (I : Inv X pins σ H s) : X.env.locals < s.heap.objs.size := let ⟨_, hn, _⟩ := I.loc; hn.lt
theorem Inv.sz (I : Inv X pins σ H s) : X.s₀.heap.objs.size <= s.heap.objs.size := Nat.le_trans I.ok.above (Nat.le_of_lt I.lt)
theorem Inv.nofs (I : Inv X pins σ H s) {a : Addr} (h : s.heap.objs.size <= a) : a ∉ X.fs := fun hb => by
  obtain ⟨_, o, ho, _⟩ := I.ok.funs.mem hb
  exact absurd (Nat.lt_of_lt_of_le (Heap.lt_size ho) (Nat.le_trans I.sz h)) (Nat.lt_irrefl _)
theorem Inv.cne (I : Inv X pins σ H s) : ∀ x c, X.env.cells.lookup x = some c -> c ≠ X.env.locals := fun x c e z => by
  obtain ⟨v, o, ho, hd⟩ := I.cell x c e
  obtain ⟨m, ⟨o', es, ep, ho', hd', _⟩, _⟩ := I.loc
  rw [z, ho'] at ho; cases ho; rw [hd'] at hd; cases hd
theorem Inv.funs (I : Inv X pins σ H s) : s.heap.FunFrames X.base X.outer := by
  have all : ∀ (l : List Env), (∀ b ∈ frs l, b ∈ X.fs) -> X.s₀.heap.FunFrames X.base l -> s.heap.FunFrames X.base l := by
    intro l
    induction l with
    | nil => intro _ _; trivial
    | cons env r ih =>
      intro hs hl
      obtain ⟨hk, ⟨L, o, hf, hn, ho, hd⟩, hr⟩ := hl
      have hL : L ∈ X.fs := hs L (by unfold frs; rw [List.filterMap_cons, hf]; exact List.mem_cons_self)
      obtain ⟨sl, e⟩ := I.base.slot L o ho (I.ok.frf L hL) hL fun z => I.ok.exfs L z hL
      exact ⟨hk, ⟨L, _, hf, hn, e, hd⟩, ih (fun b hb => hs b (by unfold frs; rw [List.filterMap_cons, hf]; exact List.mem_cons_of_mem _ hb)) hr⟩
  exact all X.outer (fun _ hb => hb) I.ok.funs
theorem Inv.stack (I : Inv X pins σ H s) : s.heap.FunFrames X.base X.stack := by
  rcases I.ok.stk with e | ⟨e, hf⟩
  · rw [e]; exact I.funs
  · rw [e]
    obtain ⟨m, hn, _⟩ := I.loc
    refine .cons (by rw [I.ok.kind]; decide) hf hn ?_ I.funs
    exact Heap.get?_none_of_le (Nat.le_trans I.ok.bsz I.ok.above)
theorem Inv.stkSub (I : Inv X pins σ H s) : ∀ b ∈ frs X.stack, b ∈ X.env.locals :: X.fs := fun b hb => by
  rcases I.ok.stk with e | ⟨e, hf⟩
  · rw [e] at hb; exact List.mem_cons_of_mem _ hb
  · rw [e] at hb
    unfold frs at hb
    rw [List.filterMap_cons, hf] at hb
    exact hb
theorem Inv.stkFree (I : Inv X pins σ H s) : ∀ b ∈ frs X.stack, H b = none := fun b hb => by
  rcases List.mem_cons.mp (I.stkSub b hb) with e | hb
  · rw [e]; exact I.free
  · obtain ⟨_, o, ho, _⟩ := I.ok.funs.mem hb
    exact I.base.free b o ho (I.ok.frf b hb) fun z => I.ok.exfs b z hb
theorem Inv.step {g' : Array GenState} {t' : Nat} {d' : Drawn} {ch : List Addr} (I : Inv X pins σ H s)
    (hch : ∀ b ∈ ch, (b ∈ X.ex \/ X.s₀.heap.objs.size <= b) /\ b ≠ X.env.locals /\ (∀ x c, X.env.cells.lookup x = some c -> c ≠ b) /\ ∀ p ∈ X.pn ++ pins, p.1 ≠ b)
    (keep : ∀ b o, b ≠ X.env.locals -> b ∉ X.fs -> b ∉ ch -> s.heap.get? b = some o -> H b = none -> h'.get? b = some o)
    (slot : ∀ b o, b ≠ X.env.locals -> b ∈ X.fs -> b ∉ ch -> s.heap.get? b = some o -> H b = none -> ∃ sl, h'.get? b = some { o with slots := sl }) (free : ∀ b o, b ∉ ch -> s.heap.get? b = some o -> H b = none -> H' b = none)
    (there : ∀ b o, b ∉ ch -> s.heap.get? b = some o -> ∃ o', h'.get? b = some o')
    (tups : ∀ b xs, H b = some (.tup xs) -> H' b = some (.tup xs)) (frzs : ∀ b o u, H b = some (.frz o u) -> H' b = some (.frz o u)) (tbls : ∀ b ps, H b = some (.tbl ps) -> ∃ more, H' b = some (.tbl (ps ++ more)))
    (ns : ∀ m, s.heap.Ns X.env.locals m -> h'.Ns X.env.locals m) (hok : HOk X.prog X.w H' h') (hg : AllBare g') :
    Inv X pins σ H' { s with heap := h', gens := g', drawn := d', toks := t' } := by
  have neL : ∀ b o, X.s₀.heap.get? b = some o -> b ≠ X.env.locals := fun b o e => Nat.ne_of_lt (Nat.lt_of_lt_of_le (Heap.lt_size e) I.ok.above)
  have neC : ∀ b o, X.s₀.heap.get? b = some o -> b ∉ X.ex -> b ∉ ch := fun b o e hx hb => by
    rcases (hch b hb).1 with z | z
    · exact hx z
    · exact absurd (Nat.lt_of_lt_of_le (Heap.lt_size e) z) (Nat.lt_irrefl _)
  have cellK : ∀ x c, X.env.cells.lookup x = some c -> ∀ v, s.heap.IsCell c v -> h'.IsCell c v := fun x c e v ⟨o, ho, hd⟩ => by
    have nch : c ∉ ch := fun z => (hch c z).2.2.1 x c e rfl
    by_cases hc : c ∈ X.fs
    · obtain ⟨sl, q⟩ := slot c o (I.cne x c e) hc nch ho (I.freeC x c e)
      exact ⟨_, q, hd⟩
    · exact ⟨o, keep c o (I.cne x c e) hc nch ho (I.freeC x c e), hd⟩
  refine ⟨I.ok, I.os, hg, ⟨fun b o e n hb hx => ?_, fun b o e n hb hx => ?_, fun b o e n hx => ?_, fun b o e hx => ?_, fun b xs e => tups b xs (I.base.tups b xs e), fun b o xs e => frzs b o xs (I.base.frzs b o xs e), fun b ps e => ?_⟩, ?_, fun x c e => ?_, ?_, fun x c e => ?_, fun p hp => ?_, hok, I.len⟩
  · exact keep b o (neL b o e) hb (neC b o e hx) (I.base.keep b o e n hb hx) (I.base.free b o e n hx)
  · obtain ⟨sl, e1⟩ := I.base.slot b o e n hb hx
    obtain ⟨sl', e2⟩ := slot b _ (neL b o e) hb (neC b o e hx) e1 (I.base.free b o e n hx)
    exact ⟨sl', e2⟩
  · obtain ⟨o', e1⟩ := I.base.there b o e hx
    exact free b o' (neC b o e hx) e1 (I.base.free b o e n hx)
  · obtain ⟨o', e1⟩ := I.base.there b o e hx
    exact there b o' (neC b o e hx) e1
  · obtain ⟨m1, e1⟩ := I.base.tbls b ps e
    obtain ⟨m2, e2⟩ := tbls b _ e1
    exact ⟨m1 ++ m2, by rw [e2, Array.append_assoc]⟩
  · obtain ⟨m, hn, hl⟩ := I.loc
    refine ⟨m, ns m hn, fun i x v e1 e2 e3 => ?_⟩
    obtain ⟨u, r, l⟩ := hl i x v e1 e2 e3
    refine ⟨u, r, ?_⟩
    rcases l with l | ⟨k, c, e, z⟩
    · exact .inl l
    · exact .inr ⟨k, c, e, cellK x c e _ z⟩
  · obtain ⟨v, z⟩ := I.cell x c e
    exact ⟨v, cellK x c e v z⟩
  · obtain ⟨m, ⟨o, _, _, ho, _⟩, _⟩ := I.loc
    exact free _ o (fun z => (hch _ z).2.1 rfl) ho I.free
  · obtain ⟨v, o, ho, hd⟩ := I.cell x c e
    exact free c o (fun z => (hch c z).2.2.1 x c e rfl) ho (I.freeC x c e)
  · obtain ⟨e, n, ne, nf, d⟩ := I.pin p hp
    have nch : p.1 ∉ ch := fun z => (hch p.1 z).2.2.2 p hp rfl
    exact ⟨keep p.1 p.2 ne nf nch e n, free p.1 p.2 nch e n, ne, nf, d⟩
theorem Inv.un {t' : Nat} (I : Inv X pins σ H s) (u : Un X.fs [] H H' s.heap h') (hok : HOk X.prog X.w H' h') : Inv X pins σ H' { s with heap := h', toks := t' } := by
  obtain ⟨m, ⟨o, es, ep, ho, r⟩, _⟩ := id I.loc
  obtain ⟨sl, hL⟩ := u.any ho I.free (by simp)
  exact I.step (g' := s.gens) (d' := s.drawn) (ch := []) (fun _ z => nomatch z) (fun b o _ hb _ e n => u.keep b o e n hb (by simp)) (fun b o _ hb _ e n => u.slot b o e n hb (by simp)) (fun b o _ e n => u.free b o e n (by simp)) (fun b o _ e => u.there b o e (by simp)) u.tups u.frzs u.tbls (fun m' hm => by
    obtain ⟨o', es', ep', ho', r'⟩ := hm
    rw [ho] at ho'; cases ho'
    exact ⟨_, es', ep', hL, r'⟩) hok I.bare
theorem Inv.call {g' : Array GenState} {t' : Nat} {d' : Drawn} {ch : List Addr} (I : Inv X pins σ H s) (u : Un (frs X.stack) ch H H' s.heap h') (hok : HOk X.prog X.w H' h') (hg : AllBare g')
    (hch : ∀ b ∈ ch, (b ∈ X.ex \/ X.s₀.heap.objs.size <= b) /\ b ≠ X.env.locals /\ (∀ x c, X.env.cells.lookup x = some c -> c ≠ b) /\ ∀ p ∈ X.pn ++ pins, p.1 ≠ b) :
    Inv X pins σ H' { s with heap := h', gens := g', drawn := d', toks := t' } := by
  obtain ⟨m, ⟨o, es, ep, ho, r⟩, _⟩ := id I.loc
  obtain ⟨sl, hL⟩ := u.any ho I.free fun z => (hch _ z).2.1 rfl
  exact I.step (ch := ch) hch (fun b o hL hb hc e n => u.keep b o e n (fun z => (List.mem_cons.mp (I.stkSub b z)).elim hL hb) hc) (fun b o _ _ hc e n => u.any e n hc) (fun b o hc e n => u.free b o e n hc) (fun b o hc e => u.there b o e hc) u.tups u.frzs u.tbls (fun m' hm => by
    obtain ⟨o', es', ep', ho', r'⟩ := hm
    rw [ho] at ho'; cases ho'
    exact ⟨_, es', ep', hL, r'⟩) hok hg
theorem Inv.turned {t' : Nat} {it : Addr} (I : Inv X pins σ H s) (k : ∀ b o, b ≠ it -> s.heap.get? b = some o -> h'.get? b = some o) (hn : H it = none) (hL : it ≠ X.env.locals)
    (h1 : it ∈ X.ex \/ X.s₀.heap.objs.size <= it) (h2 : ∀ x c, X.env.cells.lookup x = some c -> c ≠ it) (h3 : ∀ p ∈ X.pn ++ pins, p.1 ≠ it) : Inv X pins σ H { s with heap := h', toks := t' } := by
  have nit : ∀ b u, H b = some u -> b ≠ it := fun b u e z => by rw [z, hn] at e; cases e
  refine I.step (g' := s.gens) (d' := s.drawn) (ch := [it]) (fun b hb => ?_) (fun b o _ _ hc e _ => k b o (fun z => hc (by simp [z])) e) (fun b o _ _ hc e _ => ⟨o.slots, k b o (fun z => hc (by simp [z])) e⟩) (fun _ _ _ _ n => n)
    (fun b o hc e => ⟨o, k b o (fun z => hc (by simp [z])) e⟩) (fun _ _ e => e) (fun _ _ _ e => e) (fun b ps e => ⟨#[], by rw [e]; simp⟩) (fun m hm => ?_) (fun b u e => ?_) I.bare
  · have e : b = it := by simpa using hb
    subst e
    exact ⟨h1, hL, h2, h3⟩
  · obtain ⟨o, es, ep, ho, r⟩ := hm
    exact ⟨o, es, ep, k _ o (Ne.symm hL) ho, r⟩
  · refine (I.hok b u e).stay (fun c v hc q => k c v ?_ q) (fun _ q => q) fun _ _ q => q
    rcases hc with z | z
    · rw [z]; exact nit b u e
    · exact nit c _ z
theorem Inv.tok (I : Inv X pins σ H s) (t : Nat) : Inv X pins σ H { s with toks := t } := I.un (h' := s.heap) (t' := t) Un.refl I.hok
theorem Inv.kept {t' : Nat} (I : Inv X pins σ H s) (k : ∀ b u, s.heap.get? b = some u -> h'.get? b = some u) : Inv X pins σ H { s with heap := h', toks := t' } := I.un (Un.kept k) (I.hok.kept k)
theorem Inv.laid {a : Addr} {o : HO} {t' : Nat} (I : Inv X pins σ H s) (k : ∀ b u, s.heap.get? b = some u -> h'.get? b = some u) (hp : s.heap.objs.size <= a) (new : ObjOk X.prog X.w (upd H a o) h' a o) :
    Inv X pins σ (upd H a o) { s with heap := h', toks := t' } := I.un (Un.laid k hp (I.hok.fresh hp)) (I.hok.laid k hp new)
theorem Inv.write {x e : Addr} {o : HO} {t' : Nat} (I : Inv X pins σ H s) (mu : Mut (H x)) (he : e = x \/ H e = some (.own x)) (k : ∀ b u, b ≠ e -> s.heap.get? b = some u -> h'.get? b = some u) (heo : ∃ u, h'.get? e = some u)
    (new : ObjOk X.prog X.w (upd H x o) h' x o) : Inv X pins σ (upd H x o) { s with heap := h', toks := t' } := I.un (Un.write mu he k heo) (I.hok.write mu he k heo new)
theorem Inv.pins_of {pins' : List (Addr × Obj)} (I : Inv X pins σ H s) (h : ∀ p ∈ pins', s.heap.get? p.1 = some p.2 /\ H p.1 = none /\ p.1 ≠ X.env.locals /\ p.1 ∉ X.fs /\ ∀ v, p.2.data ≠ .cell v) : Inv X pins' σ H s :=
  ⟨I.ok, I.os, I.bare, I.base, I.loc, I.cell, I.free, I.freeC, fun p hp => (List.mem_append.mp hp).elim (fun z => I.pin p (List.mem_append_left _ z)) (h p), I.hok, I.len⟩
theorem nodup_ix {N : List Str} (hN : N.Nodup) {i j : Nat} {x : Str} (a : N[i]? = some x) (b : N[j]? = some x) : i = j := by
  obtain ⟨h1, e1⟩ := List.getElem?_eq_some_iff.mp a
  obtain ⟨h2, e2⟩ := List.getElem?_eq_some_iff.mp b
  exact (List.getElem_inj hN).mp (e1.trans e2.symm)
theorem store_ok2 {M : Model} {A : Around} {E : Value -> Shared -> Prop} {i : Nat} {x : Str} {v : V} {u : Value} {Q : Unit -> Shared -> Prop} (I : Inv X pins σ H s) (hN : X.N.Nodup) (hi : X.N[i]? = some x) (hx : Loc X.env.scope x) (r : RelV v u)
    (h : ∀ s', Inv X pins (σ.set i (some v)) H s' -> (∃ a, Heap.SameBut a s.heap s'.heap /\ (a = X.env.locals \/ X.env.cells.lookup x = some a)) -> Q () s') (hf : X.fn x = true \/ X.env.scope.names.lookup x = some .local := by first | exact .inl rfl | exact .inr rfl | assumption) : wpAny M A (storeName X.env x u) Q E s := by
  obtain ⟨m, hn, hl⟩ := id I.loc
  have hcls : (X.env.scope.kind == .class || (X.env.scope.kind == .module && X.env.locals != X.env.globals)) = false := by rw [I.ok.kind]; rfl
  have hiσ : i < σ.length := by rw [I.len]; exact (List.getElem?_eq_some_iff.mp hi).1
  have cne := I.cne
  have tracked : ∀ {a : Addr} {h' : Heap}, (∃ o, s.heap.get? a = some o /\ H a = none) -> Heap.SameBut a s.heap h' -> HOk X.prog X.w H h' := fun {a h'} ha hs b ob e => by
    obtain ⟨_, _, hfree⟩ := ha
    refine (I.hok b ob e).stay (fun c w' hc q => (hs.2 c ?_).trans q) (fun _ q => q) fun _ _ q => q
    rintro rfl
    rcases hc with rfl | hc
    · rw [hfree] at e; cases e
    · rw [hfree] at hc; cases hc
  rcases hx with hk | hk
  · refine wpAny_storeName_local hk hn (fun h' hn' hs => ?_) hcls
    obtain ⟨oL, _, _, hoL, _⟩ := id hn
    refine h _ ⟨I.ok, I.os, I.bare, ⟨fun b o e n hb hx => ?_, fun b o e n hb hx => ?_, I.base.free, fun b o e hx => ?_, I.base.tups, I.base.frzs, I.base.tbls⟩, ⟨_, hn', fun j y v' e1 e2 e3 => ?_⟩, fun y c e => ?_, I.free, I.freeC, fun p hp => ?_, tracked ⟨oL, hoL, I.free⟩ hs, by simpa using I.len⟩ ⟨_, hs, .inl rfl⟩
    · exact (hs.2 b (Nat.ne_of_lt (Nat.lt_of_lt_of_le (Heap.lt_size e) I.ok.above))).trans (I.base.keep b o e n hb hx)
    · obtain ⟨sl, e1⟩ := I.base.slot b o e n hb hx
      exact ⟨sl, (hs.2 b (Nat.ne_of_lt (Nat.lt_of_lt_of_le (Heap.lt_size e) I.ok.above))).trans e1⟩
    · obtain ⟨o', e1⟩ := I.base.there b o e hx
      exact ⟨o', (hs.2 b (Nat.ne_of_lt (Nat.lt_of_lt_of_le (Heap.lt_size e) I.ok.above))).trans e1⟩
    · by_cases hj : j = i
      · subst hj
        rw [hi] at e1; cases e1
        rw [List.getElem?_set_self hiσ] at e2
        cases e2
        exact ⟨u, r, .inl ⟨hk, by simp⟩⟩
      · rw [List.getElem?_set_ne (Ne.symm hj)] at e2
        obtain ⟨u', r', q⟩ := hl j y v' e1 e2 e3
        refine ⟨u', r', ?_⟩
        rcases q with ⟨k, e⟩ | ⟨k, c, e, z⟩
        · refine .inl ⟨k, ?_⟩
          have : y ≠ x := fun e => hj (nodup_ix hN e1 (e ▸ hi))
          simp [this, e]
        · exact .inr ⟨k, c, e, z.sameBut hs (cne y c e)⟩
    · obtain ⟨w', z⟩ := I.cell y c e
      exact ⟨w', z.sameBut hs (cne y c e)⟩
    · obtain ⟨e, n, ne, nf, d⟩ := I.pin p hp
      exact ⟨(hs.2 p.1 ne).trans e, n, ne, nf, d⟩
  · have hfn : X.fn x = true := by
      rcases hf with z | z
      · exact z
      · rw [z] at hk; cases hk
    obtain ⟨c, hc⟩ := I.ok.has x (.inl hk)
    obtain ⟨w', z⟩ := I.cell x c hc
    refine wpAny_storeName_cell I.ok.kind hk hc z (fun h' hc' hs => ?_)
    obtain ⟨oc, hoc, hocd⟩ := id z
    refine h { s with heap := h' } ⟨I.ok, I.os, I.bare, ⟨fun b o e n hb hx => ?_, fun b o e n hb hx => ?_, I.base.free, fun b o e hx => ?_, I.base.tups, I.base.frzs, I.base.tbls⟩, ⟨m, hn.sameBut hs (Ne.symm (cne x c hc)), fun j y v' e1 e2 e3 => ?_⟩, fun y c' e => ?_, I.free, I.freeC, fun p hp => ?_, tracked ⟨oc, hoc, I.freeC x c hc⟩ hs, by simpa using I.len⟩ ⟨c, hs, .inr hc⟩
    · exact (hs.2 b (Nat.ne_of_lt (Nat.lt_of_lt_of_le (Heap.lt_size e) (I.ok.cab x c hfn hc)))).trans (I.base.keep b o e n hb hx)
    · obtain ⟨sl, e1⟩ := I.base.slot b o e n hb hx
      exact ⟨sl, (hs.2 b (Nat.ne_of_lt (Nat.lt_of_lt_of_le (Heap.lt_size e) (I.ok.cab x c hfn hc)))).trans e1⟩
    · obtain ⟨o', e1⟩ := I.base.there b o e hx
      exact ⟨o', (hs.2 b (Nat.ne_of_lt (Nat.lt_of_lt_of_le (Heap.lt_size e) (I.ok.cab x c hfn hc)))).trans e1⟩
    · by_cases hj : j = i
      · subst hj
        rw [hi] at e1; cases e1
        rw [List.getElem?_set_self hiσ] at e2
        cases e2
        exact ⟨u, r, .inr ⟨.inl hk, c, hc, hc'⟩⟩
      · rw [List.getElem?_set_ne (Ne.symm hj)] at e2
        obtain ⟨u', r', q⟩ := hl j y v' e1 e2 e3
        refine ⟨u', r', ?_⟩
        rcases q with q | ⟨k, c', e, z'⟩
        · exact .inl q
        · refine .inr ⟨k, c', e, z'.sameBut hs ?_⟩
          rintro rfl
          exact hj (nodup_ix hN e1 (I.ok.inj _ _ _ e hc ▸ hi))
    · by_cases hcc : c' = c
      · subst hcc; exact ⟨_, hc'⟩
      · obtain ⟨w2, z2⟩ := I.cell y c' e
        exact ⟨w2, z2.sameBut hs hcc⟩
    · obtain ⟨e, n, ne, nf, d⟩ := I.pin p hp
      refine ⟨(hs.2 p.1 ?_).trans e, n, ne, nf, d⟩
      intro q
      rw [q, hoc] at e
      have q' : oc = p.2 := Option.some.inj e
      exact d w' (by rw [<- q']; exact hocd)
theorem store_ok {M : Model} {A : Around} {E : Value -> Shared -> Prop} {i : Nat} {x : Str} {v : V} {u : Value} {Q : Unit -> Shared -> Prop} (I : Inv X pins σ H s) (hN : X.N.Nodup) (hi : X.N[i]? = some x) (hx : Loc X.env.scope x) (r : RelV v u)
    (h : ∀ s', Inv X pins (σ.set i (some v)) H s' -> Q () s') (hf : X.fn x = true \/ X.env.scope.names.lookup x = some .local := by first | exact .inl rfl | exact .inr rfl | assumption) : wpAny M A (storeName X.env x u) Q E s :=
  store_ok2 I hN hi hx r (fun s' I' _ => h s' I') hf
theorem Inv.call' {s' : Shared} {ch : List Addr} (I : Inv X pins σ H s) (ho : s'.os = s.os) (u : Un (frs X.stack) ch H H' s.heap s'.heap) (hok : HOk X.prog X.w H' s'.heap) (hg : AllBare s'.gens)
    (hch : ∀ b ∈ ch, (b ∈ X.ex \/ X.s₀.heap.objs.size <= b) /\ b ≠ X.env.locals /\ (∀ x c, X.env.cells.lookup x = some c -> c ≠ b) /\ ∀ p ∈ X.pn ++ pins, p.1 ≠ b) : Inv X pins σ H' s' := by
  obtain ⟨h', g', d', t', o'⟩ := s'
  have e : o' = s.os := ho
  subst e
  exact I.call (g' := g') (t' := t') (d' := d') u hok hg hch
end
abbrev XK := Value -> Option Addr -> Hp -> Prop
abbrev St := List (Option V)
abbrev VK := V -> Hp -> Prop
abbrev TE := St -> Hp -> VK -> Prop
abbrev TT := St -> Hp -> (Bool -> Hp -> Prop) -> Prop
abbrev TA := St -> Hp -> (List V -> Hp -> Prop) -> Prop
structure Ends where
  nx : St -> Hp -> Prop
  rt : VK
  bk : St -> Hp -> Prop := fun _ _ => False
  ct : St -> Hp -> Prop := fun _ _ => False
abbrev TS := Ends -> St -> Hp -> Prop
def EP (X : Cx) (pins : List (Addr × Obj)) (σ : St) (Q : VK) (u : Value) (s' : Shared) : Prop := ∃ v H', Inv X pins σ H' s' /\ RelV v u /\ Q v H'
def TP (X : Cx) (pins : List (Addr × Obj)) (σ : St) (Q : Bool -> Hp -> Prop) (b : Bool) (s' : Shared) : Prop := ∃ H', Inv X pins σ H' s' /\ Q b H'
def AP (X : Cx) (pins : List (Addr × Obj)) (σ : St) (Q : List V -> Hp -> Prop) (us : List Value) (s' : Shared) : Prop := ∃ vs H', Inv X pins σ H' s' /\ Vals vs us /\ Q vs H'
def SP (X : Cx) (pins : List (Addr × Obj)) (D : Ends) (f : Flow) (s' : Shared) : Prop :=
  match f with
  | .next => ∃ σ' H', Inv X pins σ' H' s' /\ D.nx σ' H'
  | .brk => ∃ σ' H', Inv X pins σ' H' s' /\ D.bk σ' H'
  | .cont => ∃ σ' H', Inv X pins σ' H' s' /\ D.ct σ' H'
  | .ret u => ∃ v σ' H', Inv X pins σ' H' s' /\ RelV v u /\ D.rt v H'
def PE (X : Cx) (e : Expr) (t : TE) : Prop :=
  ∀ (pins : List (Addr × Obj)) (s : Shared) (σ : St) (H : Hp) (Q : VK), Inv X pins σ H s -> t σ H Q -> wpAny (model X.prog X.w) X.A (eval e X.env) (EP X pins σ Q) X.xe s
def PT (X : Cx) (e : Expr) (t : TT) : Prop :=
  ∀ (pins : List (Addr × Obj)) (s : Shared) (σ : St) (H : Hp) (Q : Bool -> Hp -> Prop), Inv X pins σ H s -> t σ H Q -> wpAny (model X.prog X.w) X.A (isTrue e X.env (eval e X.env)) (TP X pins σ Q) X.xe s
def PW (X : Cx) (e : Expr) (t : TT) : Prop :=
  ∀ (whole : Sem Value) (pins : List (Addr × Obj)) (s : Shared) (σ : St) (H : Hp) (Q : Bool -> Hp -> Prop), Inv X pins σ H s -> t σ H Q -> wpAny (model X.prog X.w) X.A (isTrue e X.env whole) (TP X pins σ Q) X.xe s
theorem PW.pt {X : Cx} {e : Expr} {t : TT} (h : PW X e t) : PT X e t := h _
def PA (X : Cx) (es : List Expr) (t : TA) : Prop :=
  ∀ (pos : Pos) (pins : List (Addr × Obj)) (s : Shared) (σ : St) (H : Hp) (Q : List V -> Hp -> Prop), Inv X pins σ H s -> t σ H Q -> wpAny (model X.prog X.w) X.A (spliced (backTo pos (starEach es X.env))) (AP X pins σ Q) X.xe s
def PS (X : Cx) (st : Stmt) (t : TS) : Prop :=
  ∀ (pins : List (Addr × Obj)) (s : Shared) (σ : St) (H : Hp) (D : Ends), Inv X pins σ H s -> t D σ H -> wpAny (model X.prog X.w) X.A (exec st X.env) (SP X pins D) X.xe s
def PSs (X : Cx) (st : List Stmt) (t : TS) : Prop :=
  ∀ (pins : List (Addr × Obj)) (s : Shared) (σ : St) (H : Hp) (D : Ends), Inv X pins σ H s -> t D σ H -> wpAny (model X.prog X.w) X.A (execs st X.env) (SP X pins D) X.xe s
theorem thn {α : Type} {t : Sem α} {Q Q' : α -> Shared -> Prop} {M : Model} {A : Around} {E : Value -> Shared -> Prop} {s : Shared} (h : wpAny M A t Q E s) (hQ : ∀ a s, Q a s -> Q' a s) : wpAny M A t Q' E s := wpAny_mono h hQ fun _ _ x => x
end L2
namespace L2
open PySem PySem.Spec PyProof.Rows
section
variable {X : Cx}
def tVar (i : Nat) : TE := fun σ H Q => ∃ v, σ[i]? = some (some v) /\ Q v H
def tC (v : V) : TE := fun _ H Q => Q v H
theorem pe_var {i : Nat} {x : Str} {pos : Pos} (hN : X.N[i]? = some x) (hv : Vis X.env.scope x) (hd : (x == ("__debug__" : Str)) = false := by decide) (hcd : (x == ("__classdict__" : Str)) = false := by decide) : PE X (.Name x pos) (tVar i) := by
  intro pins s σ H Q I h
  obtain ⟨v, e, h⟩ := h
  obtain ⟨m, hn, hl⟩ := I.loc
  obtain ⟨u, r, l⟩ := hl i x v hN e hv
  have fin : EP X pins σ Q u s := ⟨v, H, I, r, h⟩
  rcases l with ⟨hk, hm⟩ | ⟨hk, c, hc, hcell⟩
  · exact wpAny_Name (wpAny_loadName_local I.ok.kind hk hn hm fin) hd
  · rcases hk with hk | hk
    · exact wpAny_Name (wpAny_loadName_cell I.ok.kind hk hc hcell fin) hd
    · exact wpAny_Name (wpAny_loadName_free I.ok.kind hk hc hcell fin hcd) hd
theorem pe_int {i j pos} : PE X (.Constant (.int i) j pos) (tC (.int i)) := fun _ _ _ H _ I h => wpAny_Constant_int ⟨.int i, H, I.tok _, ⟨_, rfl⟩, h⟩
theorem pe_bl {b j pos} : PE X (.Constant (.bool b) j pos) (tC (.bl b)) := fun _ _ _ H _ I h => Constant_bool ⟨.bl b, H, I, rfl, h⟩
theorem pe_non {j pos} : PE X (.Constant .none j pos) (tC .non) := fun _ _ _ H _ I h => Constant_none ⟨.non, H, I, rfl, h⟩
theorem pe_str {x j pos} : PE X (.Constant (.str x) j pos) (tC (.str x)) := fun _ _ _ H _ I h => Calls.Constant_str ⟨.str x, H, I.tok _, ⟨_, rfl⟩, h⟩
def Gl (X : Cx) (x : Str) : Prop := X.env.kindOf x = some .globalImplicit
theorem ld_glob {E : Value -> Shared -> Prop} {pins : List (Addr × Obj)} {s : Shared} {σ : St} {H : Hp} {x : Str} {u : Value} {pos : Pos} {Q : Value -> Shared -> Prop} (I : Inv X pins σ H s) (hg : Gl X x) (hm : X.mg x = some u) (h : Q u s)
    (hd : (x == ("__debug__" : Str)) = false := by decide) : wpAny (model X.prog X.w) X.A (eval (.Name x pos) X.env) Q E s :=
  Calls.Name_function_global I.ok.kind hg (Calls.loadGlobal_global (by rw [I.ok.glob]; exact I.mod.glob.keeps I.bk) hm h) hd
theorem ld_blt {E : Value -> Shared -> Prop} {pins : List (Addr × Obj)} {s : Shared} {σ : St} {H : Hp} {x : Str} {u : Value} {pos : Pos} {Q : Value -> Shared -> Prop} (I : Inv X pins σ H s) (hg : Gl X x) (hm : X.mg x = none) (hv : bootBuiltins x = some u) (h : Q u s)
    (hn : x ≠ "__name__" := by decide) (hd : (x == ("__debug__" : Str)) = false := by decide) : wpAny (model X.prog X.w) X.A (eval (.Name x pos) X.env) Q E s := by
  obtain ⟨mb, h1, h2⟩ := I.mod.blt
  exact Calls.Name_function_global I.ok.kind hg (Calls.loadGlobal_builtin (by rw [I.ok.glob]; exact I.mod.glob.keeps I.bk) hm (by rw [I.ok.blt]; exact h1.keeps I.bk) ((h2 x hn).trans hv) h) hd
theorem pe_glob {x : Str} {v : V} {u : Value} {pos : Pos} (hg : Gl X x) (hm : X.mg x = some u) (r : RelV v u) (hd : (x == ("__debug__" : Str)) = false := by decide) : PE X (.Name x pos) (tC v) :=
  fun _ _ _ H _ I h => ld_glob I hg hm ⟨v, H, I, r, h⟩ hd
theorem pe_bltn {x : Str} {v : V} {u : Value} {pos : Pos} (hg : Gl X x) (hm : X.mg x = none) (hv : bootBuiltins x = some u) (r : RelV v u) (hn : x ≠ "__name__" := by decide) (hd : (x == ("__debug__" : Str)) = false := by decide) : PE X (.Name x pos) (tC v) :=
  fun _ _ _ H _ I h => ld_blt I hg hm hv ⟨v, H, I, r, h⟩ hn hd
variable {a b : Expr} {ta tb : TE} {pos : Pos}
variable {tA tB' : TT} {rest : List Expr}
def tAnd (t u : TT) : TT := fun σ H Q => t σ H fun c H1 => if c = true then u σ H1 Q else Q false H1
def tOr (t u : TT) : TT := fun σ H Q => t σ H fun c H1 => if c = true then Q true H1 else u σ H1 Q
def tNot (t : TT) : TT := fun σ H Q => t σ H fun c H1 => Q (!c) H1
theorem pw_and1 (ha : PT X a tA) : PW X (.BoolOp .And [a] pos) tA := by
  intro wh pins s σ H Q I h
  refine isTrue_and (thn (ha pins s σ H Q I h) fun c s1 e => ?_)
  cases c with
  | true => exact isTrue_and_nil e
  | false => exact e
theorem pw_or1 (ha : PT X a tA) : PW X (.BoolOp .Or [a] pos) tA := by
  intro wh pins s σ H Q I h
  refine isTrue_or (thn (ha pins s σ H Q I h) fun c s1 e => ?_)
  cases c with
  | false => exact isTrue_or_nil e
  | true => exact e
theorem pw_and (ha : PT X a tA) (hb : PW X (.BoolOp .And (b :: rest) pos) tB') : PW X (.BoolOp .And (a :: b :: rest) pos) (tAnd tA tB') := by
  intro wh pins s σ H Q I h
  refine isTrue_and (thn (ha pins s σ H _ I h) fun c s1 ⟨H1, I1, q1⟩ => ?_)
  cases c with
  | true => exact hb wh pins s1 σ H1 Q I1 q1
  | false => exact ⟨H1, I1, q1⟩
theorem pw_or (ha : PT X a tA) (hb : PW X (.BoolOp .Or (b :: rest) pos) tB') : PW X (.BoolOp .Or (a :: b :: rest) pos) (tOr tA tB') := by
  intro wh pins s σ H Q I h
  refine isTrue_or (thn (ha pins s σ H _ I h) fun c s1 ⟨H1, I1, q1⟩ => ?_)
  cases c with
  | true => exact ⟨H1, I1, q1⟩
  | false => exact hb wh pins s1 σ H1 Q I1 q1
theorem pt_not (ha : PT X a tA) : PT X (.UnaryOp .Not a pos) (tNot tA) := by
  intro pins s σ H Q I h
  exact isTrue_not (ha pins s σ H (fun c H1 => Q (!c) H1) I h)
theorem pe_one {op} {t : TE} (h : PE X a t) : PE X (.BoolOp op [a] pos) t := fun pins s σ H Q I hw => BoolOp_one (h pins s σ H Q I hw)
def tIf (t : TT) (ta tb : TE) : TE := fun σ H Q => t σ H fun c H1 => if c = true then ta σ H1 Q else tb σ H1 Q
theorem pe_ifExp {c : Expr} (hc : PT X c tA) (ha : PE X a ta) (hb : PE X b tb) : PE X (.IfExp c a b pos) (tIf tA ta tb) := by
  intro pins s σ H Q I h
  refine wpAny_IfExp (thn (hc pins s σ H _ I h) fun d s1 ⟨H1, I1, q1⟩ => ?_)
  cases d with
  | true => exact ha pins s1 σ H1 Q I1 q1
  | false => exact hb pins s1 σ H1 Q I1 q1
end
end L2
namespace L2
open PySem PySem.Spec PyProof.Rows
def SqL (K : PySem.W.Frag) (H : Hp) (a : Addr) (xs : List V) : Prop :=
  Rd H a (.lst xs) \/
    ∃ (o : Obj) (its : Array Value) (n : Nat), K.lookup a = some o /\ o.cls = .type "list" /\ o.dict = none /\ o.data = .seq its n /\ its.size <= sizeLine /\ Vals xs its.toList
def SqT (K : PySem.W.Frag) (H : Hp) (a : Addr) (xs : List V) : Prop :=
  Rd H a (.tup xs) \/
    ∃ (o : Obj) (its : Array Value) (n : Nat), K.lookup a = some o /\ o.cls = .type "tuple" /\ o.data = .seq its n /\ its.size <= sizeLine /\ Vals xs its.toList
def absV : Value -> Option V
  | .none => some .non
  | .bool b => some (.bl b)
  | .int i _ => some (.int i)
  | .str x _ => some (.str x)
  | .bytes b _ => some (.byt b)
  | .float b _ => some (.flt b)
  | .ref a => some (.ref a)
  | .type n => some (.ty n)
  | _ => none
theorem RelV.abs {x : V} {u : Value} (r : RelV x u) : absV u = some x := by
  cases x with
  | non => cases r; rfl
  | bl _ => cases r; rfl
  | int _ => obtain ⟨t, rfl⟩ := r; rfl
  | str _ => obtain ⟨t, rfl⟩ := r; rfl
  | byt _ => obtain ⟨t, rfl⟩ := r; rfl
  | flt _ => obtain ⟨t, rfl⟩ := r; rfl
  | ref _ => cases r; rfl
  | ty _ => cases r; rfl
theorem RelV.inj {x y : V} {u : Value} (r : RelV x u) (q : RelV y u) : x = y := Option.some.inj (r.abs.symm.trans q.abs)
theorem Vals.inj : ∀ {xs ys : List V} {us : List Value}, Vals xs us -> Vals ys us -> xs = ys
  | _, _, _, .nil, .nil => rfl
  | _, _, _, .cons r t, .cons r' t' => by rw [r.inj r', Vals.inj t t']
section
variable {X : Cx} {pins : List (Addr × Obj)} {σ : St} {H : Hp} {s : Shared} {a : Addr} {xs ys : List V}
theorem SqL.of {K : PySem.W.Frag} (h : H a = some (.lst xs)) : SqL K H a xs := .inl (.inl h)
theorem SqT.of {K : PySem.W.Frag} (h : H a = some (.tup xs)) : SqT K H a xs := .inl (.inl h)
theorem Inv.list (I : Inv X pins σ H s) (h : SqL X.K H a xs) : ∃ its : List Value, Vals xs its /\ PlainL s.heap a its.toArray /\ xs.length <= sizeLine := by
  rcases h with h | ⟨o, its, n, hk, hc, hd, hs, hz, r⟩
  · obtain ⟨z, its, n, r, e⟩ := h.ok I.hok
    exact ⟨its, r, ⟨_, n, e, rfl, rfl, rfl⟩, z⟩
  · refine ⟨its.toList, r, ⟨o, n, I.kIn a o hk, hc, hd, by simpa using hs⟩, ?_⟩
    have e := r.length
    simp only [Array.length_toList] at e
    omega
theorem Inv.tuple (I : Inv X pins σ H s) (h : SqT X.K H a xs) : ∃ its : List Value, Vals xs its /\ IsTup s.heap a its.toArray /\ xs.length <= sizeLine := by
  rcases h with h | ⟨o, its, n, hk, hc, hs, hz, r⟩
  · obtain ⟨z, its, r, p⟩ := h.ok I.hok
    exact ⟨its, r, p, z⟩
  · refine ⟨its.toList, r, ⟨o, I.kIn a o hk, hc, n, by simpa using hs⟩, ?_⟩
    have e := r.length
    simp only [Array.length_toList] at e
    omega
theorem Inv.list_inj (I : Inv X pins σ H s) (h : SqL X.K H a xs) (h' : SqL X.K H a ys) : xs = ys := by
  obtain ⟨its, r, ⟨o, n, e, _, _, d⟩, _⟩ := I.list h
  obtain ⟨its', r', ⟨o', n', e', _, _, d'⟩, _⟩ := I.list h'
  rw [e] at e'; cases e'
  rw [d] at d'
  injection d' with d1 _
  have : its = its' := by simpa using congrArg Array.toList d1
  subst this
  exact r.inj r'
end
abbrev Cx.wish (X : Cx) (E : Value -> Shared -> Prop) : Cx := { X with xe := E }
abbrev Cx.nox (X : Cx) : Cx := X.wish fun _ _ => False
theorem Cx.Ok.wish {X : Cx} (ok : X.Ok) (E : Value -> Shared -> Prop) : (X.wish E).Ok :=
  ⟨ok.mod, ok.kind, ok.glob, ok.blt, ok.above, ok.inj, ok.has, ok.cab, ok.hd, ok.frames, ok.stk, ok.exf, ok.bs, ok.bsz, ok.noex, ok.exfs, ok.funs, ok.frf⟩
theorem Cx.Ok.unwish {X : Cx} {E : Value -> Shared -> Prop} (ok : (X.wish E).Ok) : X.Ok :=
  ⟨ok.mod, ok.kind, ok.glob, ok.blt, ok.above, ok.inj, ok.has, ok.cab, ok.hd, ok.frames, ok.stk, ok.exf, ok.bs, ok.bsz, ok.noex, ok.exfs, ok.funs, ok.frf⟩
section
variable {X : Cx} {pins : List (Addr × Obj)} {σ : St} {H : Hp} {s : Shared} {E : Value -> Shared -> Prop}
theorem Inv.wish (I : Inv X pins σ H s) (E : Value -> Shared -> Prop) : Inv (X.wish E) pins σ H s := ⟨I.ok.wish E, I.os, I.bare, I.base, I.loc, I.cell, I.free, I.freeC, I.pin, I.hok, I.len⟩
theorem Inv.unwish (I : Inv (X.wish E) pins σ H s) : Inv X pins σ H s := ⟨I.ok.unwish, I.os, I.bare, I.base, I.loc, I.cell, I.free, I.freeC, I.pin, I.hok, I.len⟩
theorem SP.unwish {D : Ends} {f : Flow} {s' : Shared} (h : SP (X.wish E) pins D f s') : SP X pins D f s' := by
  cases f with
  | next => obtain ⟨σ', H', I, q⟩ := h; exact ⟨σ', H', I.unwish, q⟩
  | brk => obtain ⟨σ', H', I, q⟩ := h; exact ⟨σ', H', I.unwish, q⟩
  | cont => obtain ⟨σ', H', I, q⟩ := h; exact ⟨σ', H', I.unwish, q⟩
  | ret u => obtain ⟨v, σ', H', I, r, q⟩ := h; exact ⟨v, σ', H', I.unwish, r, q⟩
theorem PSs.nox {st : List Stmt} {t : TS} (h : PSs X.nox st t) : PSs X st t := fun pins s σ H D I hw =>
  wpAny_mono (h pins s σ H D (I.wish _) hw) (fun _ _ q => q.unwish) fun _ _ z => False.elim z
end
section
variable {X : Cx} {st : Stmt} {rest : List Stmt} {t u : TS} {e : Expr} {te : TE} {pos : Pos}
def tNext : TS := fun D σ H => D.nx σ H
def tSeq (t u : TS) : TS := fun D σ H => t { D with nx := u D } σ H
theorem pss_nil : PSs X [] tNext := fun _ _ σ H _ I h => wpAny_execs_nil ⟨σ, H, I, h⟩
theorem pss_cons (h1 : PS X st t) (h2 : PSs X rest u) : PSs X (st :: rest) (tSeq t u) := by
  intro pins s σ H D I h
  refine wpAny_execs_cons (thn (h1 pins s σ H { D with nx := u D } I h) fun f s1 q => ?_)
  cases f with
  | next =>
    obtain ⟨σ', H', I', q⟩ := q
    exact h2 pins s1 σ' H' D I' q
  | ret v => exact q
  | brk => exact q
  | cont => exact q
theorem pss_one (h1 : PS X st t) : PSs X [st] t := by
  intro pins s σ H D I h
  refine wpAny_execs_cons (thn (h1 pins s σ H D I h) fun f s1 q => ?_)
  cases f with
  | next => exact wpAny_execs_nil q
  | ret v => exact q
  | brk => exact q
  | cont => exact q
theorem Inv.quiet {pins : List (Addr × Obj)} {σ : St} {H : Hp} {s : Shared} (I : Inv X pins σ H s) : interactive X.env = false := by simp [interactive, I.ok.kind]
def tDrop (te : TE) : TS := fun D σ H => te σ H fun _ H1 => D.nx σ H1
theorem ps_expr (he : PE X e te) (hs : swapsWith e none pos.line X.env = pure false := by rfl) : PS X (.Expr e pos) (tDrop te) := by
  intro pins s σ H D I h
  exact wpAny_Expr_any (thn (he pins s σ H _ I h) fun v s1 ⟨x, H1, I1, r1, q1⟩ => ⟨σ, H1, I1, q1⟩) I.quiet hs
def tRet (te : TE) : TS := fun D σ H => te σ H D.rt
theorem ps_ret (he : PE X e te) : PS X (.Return (some e) pos) (tRet te) := by
  intro pins s σ H D I h
  exact wpAny_Return_some (thn (he pins s σ H _ I h) fun v s1 ⟨x, H1, I1, r1, q1⟩ => ⟨x, σ, H1, I1, r1, q1⟩)
def tIfS (c : TT) (t u : TS) : TS := fun D σ H => c σ H fun b H1 => if b = true then t D σ H1 else u D σ H1
theorem ps_if {c : Expr} {a b : List Stmt} {tc : TT} (hc : PT X c tc) (ha : PSs X a t) (hb : PSs X b u) : PS X (.If c a b pos) (tIfS tc t u) := by
  intro pins s σ H D I h
  refine wpAny_If (thn (hc pins s σ H _ I h) fun d s1 ⟨H1, I1, q1⟩ => ?_)
  cases d with
  | true => exact ha pins s1 σ H1 D I1 q1
  | false => exact hb pins s1 σ H1 D I1 q1
def tNever : TS := fun _ _ _ => False
theorem ps_never : PS X st tNever := fun _ _ _ _ _ _ h => h.elim
end
abbrev TG := V -> St -> Hp -> (St -> Hp -> Prop) -> Prop
abbrev TGs := List V -> St -> Hp -> (St -> Hp -> Prop) -> Prop
def PG (X : Cx) (target : Expr) (t : TG) : Prop :=
  ∀ (pins : List (Addr × Obj)) (s : Shared) (σ : St) (H : Hp) (v : V) (u : Value) (Q : St -> Hp -> Prop), Inv X pins σ H s -> RelV v u -> t v σ H Q ->
    wpAny (model X.prog X.w) X.A (assign target X.env u) (fun _ s' => ∃ σ' H', Inv X pins σ' H' s' /\ Q σ' H') X.xe s
def PGs (X : Cx) (ts : List Expr) (t : TGs) : Prop :=
  ∀ (pins : List (Addr × Obj)) (s : Shared) (σ : St) (H : Hp) (vs : List V) (us : List Value) (Q : St -> Hp -> Prop), Inv X pins σ H s -> Vals vs us -> t vs σ H Q ->
    wpAny (model X.prog X.w) X.A (assignInOrder ((assignEach ts X.env).map (·.2)) us) (fun _ s' => ∃ σ' H', Inv X pins σ' H' s' /\ Q σ' H') X.xe s
section
variable {X : Cx} {pos : Pos}
def gName (i : Nat) : TG := fun v σ H Q => Q (σ.set i (some v)) H
theorem pg_name {i : Nat} {x : Str} (hN : X.N.Nodup) (hi : X.N[i]? = some x) (hx : Loc X.env.scope x) (hf : X.fn x = true \/ X.env.scope.names.lookup x = some .local := by first | exact .inl rfl | exact .inr rfl | assumption) : PG X (.Name x pos) (gName i) := by
  intro pins s σ H v u Q I r h
  exact wpAny_assign_Name (store_ok I hN hi hx r (fun s' I' => ⟨_, H, I', h⟩) hf)
def gNil : TGs := fun vs σ H Q => vs = [] /\ Q σ H
def gCons (t : TG) (u : TGs) : TGs := fun vs σ H Q => ∃ v r, vs = v :: r /\ t v σ H fun σ' H' => u r σ' H' Q
theorem pgs_nil : PGs X [] gNil := by
  intro pins s σ H vs us Q I r h
  obtain ⟨e, h⟩ := h
  subst e
  cases r
  exact assignInOrder_nil ⟨σ, H, I, h⟩
theorem pgs_cons {e : Expr} {es : List Expr} {t : TG} {u : TGs} (h1 : PG X e t) (h2 : PGs X es u)
    (hs : (assignEach (e :: es) X.env).map (·.2) = assign e X.env :: (assignEach es X.env).map (·.2) := by rfl) : PGs X (e :: es) (gCons t u) := by
  intro pins s σ H vs us Q I r h
  obtain ⟨v, vr, e1, h⟩ := h
  subst e1
  cases r with
  | cons r rr =>
    rw [hs]
    refine assignInOrder_cons (thn (h1 pins s σ H _ _ _ I r h) fun _ s1 ⟨σ1, H1, I1, q1⟩ => ?_)
    exact h2 pins s1 σ1 H1 _ _ Q I1 rr q1
def gTup (K : PySem.W.Frag) (n : Nat) (t : TGs) : TG := fun v σ H Q => ∃ a xs, v = .ref a /\ SqT K H a xs /\ xs.length = n /\ t xs σ H Q
theorem pg_tup {es : List Expr} {k : Nat} {t : TGs} {n : Nat} (hc : X.calm = true) (h : PGs X es t)
    (hn : (assignEach es X.env).length = n := by rfl) (hst : (assignEach es X.env).findIdx? (·.1) = none := by rfl) : PG X (.Tuple es k pos) (gTup X.K n t) := by
  intro pins s σ H v u Q I r hw
  obtain ⟨a, xs, e1, hq, hl, hw⟩ := hw
  subst e1
  cases r
  obtain ⟨its, rv, ht, hz⟩ := I.tuple hq
  refine assign_Tuple_tuple (I.ok.hd hc) ht (by simp [hn, <- hl, rv.length]) hst fun h' hx => ?_
  have I1 : Inv X pins σ H { s with heap := h' } := I.kept (t' := s.toks) fun b o e => hx b o (Nat.ne_of_lt (Heap.lt_size e)) e
  exact h pins _ σ H xs _ Q I1 (by simpa using rv) hw
def tAsg (te : TE) (g : TG) : TS := fun D σ H => te σ H fun x H1 => g x σ H1 D.nx
theorem ps_asg {tg e : Expr} {te : TE} {g : TG} (he : PE X e te) (hg : PG X tg g) (hs : swapsWithSole [tg] e pos.line X.env = pure false := by rfl) (hw : swappedStores [tg] e X.env = pure none := by rfl)
    (h1 : (assignEach [tg] X.env).map (·.2) = [assign tg X.env] := by rfl) : PS X (.Assign [tg] e pos) (tAsg te g) := by
  intro pins s σ H D I h
  refine wpAny_Assign_stores (thn (he pins s σ H _ I h) fun v s1 ⟨x, H1, I1, r1, q1⟩ => ?_) hs hw
  rw [h1]
  exact thn (hg pins s1 σ H1 x v _ I1 r1 q1) fun _ s2 q => q
theorem ps_set {i : Nat} {x : Str} {e : Expr} {te : TE} {pos' : Pos} (hN : X.N.Nodup) (hi : X.N[i]? = some x) (hx : Loc X.env.scope x) (he : PE X e te) (hs : swapsWith e (some (.Name x pos')) pos.line X.env = pure false := by rfl) (hf : X.fn x = true \/ X.env.scope.names.lookup x = some .local := by first | exact .inl rfl | exact .inr rfl | assumption) :
    PS X (.Assign [.Name x pos'] e pos) (tAsg te (gName i)) := by
  intro pins s σ H D I h
  refine wpAny_Assign_Name (thn (he pins s σ H _ I h) fun v s1 ⟨y, H1, I1, r1, q1⟩ => ?_) hs
  exact store_ok I1 hN hi hx r1 (fun s2 I2 => ⟨_, H1, I2, q1⟩) hf
end
section
variable {X : Cx} {pos : Pos}
def tWhile (c : TT) (tb : TS) : TS := fun D σ H => ∃ W : Nat -> St -> Hp -> Prop, (∃ m, W m σ H) /\ ∀ m σ H, W m σ H ->
  c σ H fun b H1 => if b = true then ∃ N : St -> Hp -> Prop, (∀ σ' H', N σ' H' -> ∃ m', m' < m /\ W m' σ' H') /\ tb { D with nx := N, ct := N, bk := D.nx } σ H1 else D.nx σ H1
theorem ps_while {c : Expr} {body : List Stmt} {tc : TT} {tb : TS} (hp : PassesOwn (model X.prog X.w) X.A X.env X.xe) (hc : PT X c tc) (hb : PSs X body tb) : PS X (.While c body [] pos) (tWhile tc tb) := by
  intro pins s σ H D I h
  obtain ⟨W, ⟨m0, w0⟩, turn⟩ := h
  refine wpAny_While (codeAny_whileLoop (fun n s' => ∃ σ' H', Inv X pins σ' H' s' /\ W n σ' H') ?_ m0 ⟨σ, H, I, w0⟩)
  rintro n s1 ⟨σ1, H1, I1, w1⟩
  refine wpAny_passesOwn hp (thn (hc pins s1 σ1 H1 _ I1 (turn n σ1 H1 w1)) fun b s2 ⟨H2, I2, q2⟩ => ?_)
  cases b with
  | true =>
    obtain ⟨N, hN, q2⟩ := q2
    rw [if_pos rfl]
    refine wpAny_passesOwn hp (thn (hb pins s2 σ1 H2 _ I2 q2) fun f s3 q3 => ?_)
    cases f with
    | next =>
      obtain ⟨σ3, H3, I3, n3⟩ := q3
      obtain ⟨m', hm, w3⟩ := hN σ3 H3 n3
      exact ⟨m', hm, σ3, H3, I3, w3⟩
    | cont =>
      obtain ⟨σ3, H3, I3, n3⟩ := q3
      obtain ⟨m', hm, w3⟩ := hN σ3 H3 n3
      exact ⟨m', hm, σ3, H3, I3, w3⟩
    | brk => exact q3
    | ret v => exact q3
  | false =>
    rw [if_neg Bool.false_ne_true]
    exact wpAny_execs_nil ⟨σ1, H2, I2, q2⟩
end
structure It where
  go : Nat -> Hp -> Prop
  yld : Nat -> Hp -> V -> Hp -> Prop
  stop : Nat -> Hp -> Prop
def FpOk (X : Cx) (pins : List (Addr × Obj)) (H : Hp) (b : Addr) : Prop :=
  H b = none /\ b ≠ X.env.locals /\ b ∉ X.fs /\ (b ∈ X.ex \/ X.s₀.heap.objs.size <= b) /\ (∀ x c, X.env.cells.lookup x = some c -> c ≠ b) /\ ∀ p ∈ X.pn ++ pins, p.1 ≠ b
theorem Inv.fpOk {X : Cx} {pins : List (Addr × Obj)} {σ : St} {H H' : Hp} {s : Shared} {b : Addr} (I : Inv X pins σ H s) (hb : s.heap.objs.size <= b) (hn : H' b = none) : FpOk X pins H' b := by
  refine ⟨hn, Nat.ne_of_gt (Nat.lt_of_lt_of_le I.lt hb), I.nofs hb, .inr (Nat.le_trans I.sz hb), fun x c e z => ?_, fun p hp z => ?_⟩
  · obtain ⟨v, q⟩ := I.cell x c e
    exact absurd (Nat.lt_of_lt_of_le q.lt (by rw [z]; exact hb)) (Nat.lt_irrefl _)
  · exact absurd (Nat.lt_of_lt_of_le (Heap.lt_size (I.pin p hp).1) (by rw [z]; exact hb)) (Nat.lt_irrefl _)
structure Turn (P : Program) (w : World) (K : PySem.W.Frag) (tg : Expr) (J : It) (fp : List Addr) (it : Addr) (tn : Nat -> Heap -> Prop) : Prop where
  mem : it ∈ fp
  obj : ∀ i h, tn i h -> ∀ b ∈ fp, ∃ o, h.get? b = some o /\ ∀ v, o.data ≠ .cell v
  keep : ∀ i h h', tn i h -> (∀ b ∈ fp, ∀ o, h.get? b = some o -> h'.get? b = some o) -> tn i h'
  item : ∀ (X : Cx), X.prog = P -> X.w = w -> X.K = K -> X.calm = true -> ∀ (i : Nat) (pins : List (Addr × Obj)) (s : Shared) (σ : St) (H : Hp) (E : Value -> Shared -> Prop), Inv X pins σ H s -> (∀ b ∈ fp, FpOk X pins H b) -> tn i s.heap -> J.go i H ->
    wpAny (model P w) X.A (pyNext (.ref it)) (fun r s1 => ∃ u, r = some u /\
      wpAny (model P w) X.A (letOwnedTupleGo tg (.ref it) u) (fun _ s2 => ∃ x H', Inv X pins σ H' s2 /\ RelV x u /\ J.yld i H x H' /\ tn (i + 1) s2.heap /\ ∀ b ∈ fp, H' b = none) E s1) E s
  done : ∀ (X : Cx), X.prog = P -> X.w = w -> X.K = K -> X.calm = true -> ∀ (i : Nat) (pins : List (Addr × Obj)) (s : Shared) (σ : St) (H : Hp) (E : Value -> Shared -> Prop), Inv X pins σ H s -> (∀ b ∈ fp, FpOk X pins H b) -> tn i s.heap -> J.stop i H ->
    wpAny (model P w) X.A (pyNext (.ref it)) (fun r s1 => r = none /\ Inv X pins σ H s1) E s
  self : ∀ (A : Around) (i : Nat) (s : Shared) (Q : Value -> Shared -> Prop) (E : Value -> Shared -> Prop), tn i s.heap -> Q (.ref it) s -> wpAny (model P w) A (pyIter (.ref it)) Q E s
abbrev TI := St -> Hp -> (It -> Hp -> Prop) -> Prop
def PIE (X : Cx) (pins : List (Addr × Obj)) (σ : St) (tg : Expr) (R : It -> Hp -> Prop) (itv : Value) (s2 : Shared) : Prop :=
  ∃ (it : Addr) (fp : List Addr) (tn : Nat -> Heap -> Prop) (J : It) (H' : Hp), itv = .ref it /\ Inv X pins σ H' s2 /\ Turn X.prog X.w X.K tg J fp it tn /\ tn 0 s2.heap /\ (∀ b ∈ fp, FpOk X pins H' b) /\ R J H'
def PI (X : Cx) (tg iter : Expr) (wi : TI) : Prop :=
  ∀ (pins : List (Addr × Obj)) (s : Shared) (σ : St) (H : Hp) (R : It -> Hp -> Prop), Inv X pins σ H s -> wi σ H R ->
    wpAny (model X.prog X.w) X.A (eval iter X.env) (fun v s1 => wpAny (model X.prog X.w) X.A (pyIter v) (PIE X pins σ tg R) X.xe s1) X.xe s
theorem go_of {M : Model} {A : Around} {E : Value -> Shared -> Prop} {s : Shared} {tg : Expr} {it : Addr} {u : Value} {o : Obj} {n : String} {vs : Array Value} {Q : Unit -> Shared -> Prop} (ho : s.heap.get? it = some o) (hc : o.cls = .type n) (hd : o.data = .fields vs)
    (hn : ["enumerate", "zip", "dict_itemiterator", "dict_reverseitemiterator", "odict_iterator", "itertools.zip_longest", "itertools.pairwise"].contains n = false) (hQ : Q () s) : wpAny M A (letOwnedTupleGo tg (.ref it) u) Q E s := by
  unfold letOwnedTupleGo
  cases tg <;> first
    | exact wpAny_pure hQ
    | (cases u <;> first
        | exact wpAny_pure hQ
        | (refine wpAny_bind (wpAny_load ho ?_)
           rw [hc, hd]
           show wpAny M A (if (["enumerate", "zip", "dict_itemiterator", "dict_reverseitemiterator", "odict_iterator", "itertools.zip_longest", "itertools.pairwise"].contains n && vs[0]? == some (rawInt _)) = true then _ else _) Q E s
           rw [if_neg (by intro h; rw [hn, Bool.false_and] at h; cases h)]
           exact wpAny_pure hQ))
def Itl (K : PySem.W.Frag) (a : Addr) : It :=
  ⟨fun i H => ∃ xs x, SqL K H a xs /\ xs[i]? = some x, fun i H x H' => H' = H /\ ∀ xs, SqL K H a xs -> xs[i]? = some x, fun i H => ∃ xs, SqL K H a xs /\ xs.length <= i⟩
def Itr (lo : Int) (n : Nat) : It := ⟨fun i _ => i < n, fun i H x H' => H' = H /\ x = .int (lo + i), fun i _ => n <= i⟩
theorem turn_list {P : Program} {w : World} {K : PySem.W.Frag} {tg : Expr} (a it : Addr) : Turn P w K tg (Itl K a) [it] it (fun i h => h.IsListIter it a i) where
  mem := by simp
  obj := fun i h st b hb => by
    have e : b = it := by simpa using hb
    subst e
    obtain ⟨o, e, c, d⟩ := st
    exact ⟨o, e, fun v z => by rw [d] at z; cases z⟩
  keep := fun i h h' st k => st.at fun o e => k it (by simp) o e
  item := by
    intro X hP hw hK hc i pins s σ H E I hf st hg
    subst hP hw hK
    obtain ⟨xs, x, hq, hx⟩ := hg
    obtain ⟨its, rv, p, hz⟩ := I.list hq
    obtain ⟨u, hu, ru⟩ := rv.get hx
    obtain ⟨f0, f1, f2, f3, f4, f5⟩ := hf it (by simp)
    refine wpAny_pyNext_list_item st p.isList (x := u) (by simpa using hu) fun h' st' sb => ?_
    have I1 : Inv X pins σ H { s with heap := h' } := I.turned (t' := s.toks) (fun b o hb e => (sb.2 b hb).trans e) f0 f1 f3 f4 f5
    obtain ⟨o, e, c, d⟩ := id st'
    exact ⟨u, rfl, go_of (s := { s with heap := h' }) e c d (by decide) ⟨x, H, I1, ru, ⟨rfl, fun ys hy => by rw [I.list_inj hy hq]; exact hx⟩, st', fun b hb => (hf b hb).1⟩⟩
  done := by
    intro X hP hw hK hc i pins s σ H E I hf st hg
    subst hP hw hK
    obtain ⟨xs, hq, hx⟩ := hg
    obtain ⟨its, rv, p, hz⟩ := I.list hq
    obtain ⟨f0, f1, f2, f3, f4, f5⟩ := hf it (by simp)
    have hl := rv.length
    exact wpAny_pyNext_list_end (I.ok.hd hc) st p.isList (by simp; omega) fun h' eb => ⟨rfl, I.turned (t' := s.toks) (fun b o hb e => eb b o hb e) f0 f1 f3 f4 f5⟩
  self := fun _ _ _ _ _ st h => wpAny_pyIter_listiter st h
theorem turn_range {P : Program} {w : World} {K : PySem.W.Frag} {tg : Expr} (it : Addr) (lo : Int) (n : Nat) : Turn P w K tg (Itr lo n) [it] it (fun i h => IsRangeIter h it (lo + (i : Nat) * 1) ((n : Int) - (i : Nat)) 1) where
  mem := by simp
  obj := fun i h st b hb => by
    have e : b = it := by simpa using hb
    subst e
    exact ⟨_, st, fun v z => by
      have z' : Data.fields _ = Data.cell v := z
      cases z'⟩
  keep := fun i h h' st k => k it (by simp) _ st
  item := by
    intro X hP hw hK hc i pins s σ H E I hf st hg
    subst hP hw hK
    obtain ⟨f0, f1, f2, f3, f4, f5⟩ := hf it (by simp)
    have W := Walks.range (prog := X.prog) (w := X.w) (I.ok.hd hc) it lo 1 n
    refine W.item i s _ _ hg st fun v h' tk hv st' kk => ?_
    obtain ⟨t, rfl⟩ := hv
    have I1 : Inv X pins σ H { s with heap := h', toks := tk } := I.turned (fun b o hb e => kk b o (by simpa using hb) e) f0 f1 f3 f4 f5
    refine ⟨_, rfl, go_of (s := { s with heap := h', toks := tk }) (n := "range_iterator") st' rfl rfl (by decide) ⟨.int (lo + i), H, I1, ⟨t, ?_⟩, ⟨rfl, rfl⟩, st', fun b hb => (hf b hb).1⟩⟩
    rw [Int.mul_one]
  done := by
    intro X hP hw hK hc i pins s σ H E I hf st hg
    subst hP hw hK
    obtain ⟨f0, f1, f2, f3, f4, f5⟩ := hf it (by simp)
    exact wpAny_pyNext_range_end (I.ok.hd hc) st (by have : n <= i := hg; omega) fun h' eb => ⟨rfl, I.turned (t' := s.toks) (fun b o hb e => eb b o hb e) f0 f1 f3 f4 f5⟩
  self := fun _ _ _ _ _ st h => wpAny_pyIter_rangeiter st h
end L2
namespace L2
open PySem PySem.Spec PyProof.Rows
section
variable {X : Cx} {tg : Expr}
def iList (K : PySem.W.Frag) (tl : TE) : TI := fun σ H R => tl σ H fun x H1 => ∃ a, x = .ref a /\ (∃ xs, SqL K H1 a xs) /\ R (Itl K a) H1
theorem pi_list {l : Expr} {tl : TE} (hl : PE X l tl) : PI X tg l (iList X.K tl) := by
  intro pins s σ H R I h
  refine thn (hl pins s σ H _ I h) fun v s1 ⟨x, H1, I1, r1, q1⟩ => ?_
  obtain ⟨a, e, ⟨xs, hq⟩, q⟩ := q1
  subst e
  cases r1
  obtain ⟨its, rv, p, hz⟩ := I1.list hq
  refine wpAny_pyIter_list p.isList ?_
  refine ⟨s1.heap.objs.size, [s1.heap.objs.size], _, _, H1, rfl, I1.kept (t' := s1.toks) fun b o e => Heap.get?_push_of_some _ e, turn_list a _, ⟨_, Heap.get?_push_size _ rfl, rfl, rfl⟩, fun b hb => ?_, q⟩
  have e : b = s1.heap.objs.size := by simpa using hb
  subst e
  exact I1.fpOk (Nat.le_refl _) (I1.hok.fresh (Nat.le_refl _))
theorem range_it {pins : List (Addr × Obj)} {σ : St} {H : Hp} {s : Shared} {R : It -> Hp -> Prop} {E : Value -> Shared -> Prop} {lo hi : Int} {t u v : Tok} {tk : Nat} (I : Inv X pins σ H s) (h1 : -(2 ^ 62) <= lo) (h2 : lo < 2 ^ 62) (h3 : -(2 ^ 62) <= hi) (h4 : hi < 2 ^ 62)
    (q : R (Itr lo (hi - lo).toNat) H) : wpAny (model X.prog X.w) X.A (pyIter (.ref s.heap.objs.size)) (PIE X pins σ tg R) E { s with heap := s.heap.push { cls := .type "range", data := .fields #[.int lo t, .int hi u, .int 1 v] }, toks := tk } := by
  refine wpAny_pyIter_range (IsRange.new ..) (small_one h1 h2 h3 h4) ?_
  have I1 : Inv X pins σ H { s with heap := s.heap.push { cls := .type "range", data := .fields #[.int lo t, .int hi u, .int 1 v] }, toks := tk } := I.kept fun b o e => Heap.get?_push_of_some _ e
  refine ⟨(s.heap.push { cls := .type "range", data := .fields #[.int lo t, .int hi u, .int 1 v] }).objs.size, [(s.heap.push { cls := .type "range", data := .fields #[.int lo t, .int hi u, .int 1 v] }).objs.size], _, _, H, rfl,
    I1.kept (t' := tk) fun b o e => Heap.get?_push_of_some _ e, turn_range _ lo (hi - lo).toNat, ?_, fun b hb => ?_, q⟩
  · have e1 : lo + ((0 : Nat) : Int) * 1 = lo := by simp
    have e2 : (((hi - lo).toNat : Nat) : Int) - ((0 : Nat) : Int) = Builtin.Range.rangeSize lo hi 1 := by rw [rangeSize_one]; split <;> omega
    show IsRangeIter _ _ (lo + ((0 : Nat) : Int) * 1) ((((hi - lo).toNat : Nat) : Int) - ((0 : Nat) : Int)) 1
    rw [e1, e2]
    exact Heap.get?_push_size _ rfl
  · have e : b = (s.heap.push { cls := .type "range", data := .fields #[.int lo t, .int hi u, .int 1 v] }).objs.size := by simpa using hb
    subst e
    exact I1.fpOk (Nat.le_refl _) (I1.hok.fresh (Nat.le_refl _))
def iRng1 (ta : TA) : TI := fun σ H R => ta σ H fun vs H1 => ∃ j : Int, vs = [.int j] /\ -(2 ^ 62) <= j /\ j < 2 ^ 62 /\ R (Itr 0 j.toNat) H1
theorem pi_range1 {a : Expr} {ta : TA} {p pos : Pos} (hg : Gl X "range") (hm : X.mg "range" = none) (ha : PA X [a] ta) (hs : starEach [a] X.env = [(false, eval a X.env)] := by rfl) : PI X tg (.Call (.Name "range" p) [a] [] pos) (iRng1 ta) := by
  intro pins s σ H R I h
  refine Call_ (ld_blt I hg hm boot_range (PyProof.Rows.callWith_type1 (thn (ha pos pins s σ H _ I h) fun us s1 ⟨vs, H1, I1, r1, q1⟩ => ?_) hs rfl))
  obtain ⟨j, e, q1, q2, q⟩ := q1
  subst e
  cases r1 with
  | cons r rr =>
    cases rr
    obtain ⟨t, rfl⟩ := r
    exact call_range_1 (range_it I1 (by omega) (by omega) q1 q2 (by simpa using q))
def tFor (wi : TI) (g : TG) (tb : TS) : TS := fun D σ H => wi σ H fun J H1 => ∃ W : Nat -> Nat -> St -> Hp -> Prop, (∃ m, W 0 m σ H1) /\ ∀ i m σ H, W i m σ H ->
  (J.stop i H /\ D.nx σ H) \/ (J.go i H /\ ∃ N : St -> Hp -> Prop, (∀ σ' H', N σ' H' -> ∃ m', m' < m /\ W (i + 1) m' σ' H') /\ ∀ x H', J.yld i H x H' -> g x σ H' fun σ2 H2 => tb { D with nx := N, ct := N, bk := D.nx } σ2 H2)
def pinsAt (fp : List Addr) (h : Heap) : List (Addr × Obj) := fp.filterMap fun b => (h.get? b).map fun o => (b, o)
theorem mem_pinsAt {fp : List Addr} {h : Heap} {b : Addr} {o : Obj} (hb : b ∈ fp) (e : h.get? b = some o) : (b, o) ∈ pinsAt fp h := List.mem_filterMap.mpr ⟨b, hb, by rw [e]; rfl⟩
theorem of_pinsAt {fp : List Addr} {h : Heap} {p : Addr × Obj} (hp : p ∈ pinsAt fp h) : p.1 ∈ fp /\ h.get? p.1 = some p.2 := by
  obtain ⟨b, hb, e⟩ := List.mem_filterMap.mp hp
  cases q : h.get? b with
  | none => rw [q] at e; cases e
  | some o =>
    rw [q] at e
    have e' : (b, o) = p := Option.some.inj e
    subst e'
    exact ⟨hb, q⟩
theorem Inv.pinned {pins : List (Addr × Obj)} {σ : St} {H : Hp} {s : Shared} {fp : List Addr} (I : Inv X pins σ H s) (hf : ∀ b ∈ fp, FpOk X pins H b) (ho : ∀ b ∈ fp, ∃ o, s.heap.get? b = some o /\ ∀ v, o.data ≠ .cell v) : Inv X (pins ++ pinsAt fp s.heap) σ H s :=
  I.pins_of fun p hp => (List.mem_append.mp hp).elim (fun z => I.pin p (List.mem_append_right _ z)) fun z => by
    obtain ⟨hb, e⟩ := of_pinsAt z
    obtain ⟨f0, f1, f2, _⟩ := hf p.1 hb
    obtain ⟨o, e', d⟩ := ho p.1 hb
    rw [e] at e'; cases e'
    exact ⟨e, f0, f1, f2, d⟩
theorem Inv.unpinned {pins pl : List (Addr × Obj)} {σ : St} {H : Hp} {s : Shared} (I : Inv X (pins ++ pl) σ H s) : Inv X pins σ H s := I.pins_of fun p hp => I.pin p (List.mem_append_right _ (List.mem_append_left _ hp))
theorem ps_for {iter : Expr} {body : List Stmt} {wi : TI} {g : TG} {tb : TS} {pos : Pos} (hp : PassesOwn (model X.prog X.w) X.A X.env X.xe) (hc : X.calm = true) (hi : PI X tg iter wi) (hg : PG X tg g) (hb : PSs X body tb)
    (hs : ∀ x, foldedSetIterable iter X.env x = pure x := by intro _; rfl) : PS X (.For tg iter body [] pos) (tFor wi g tb) := by
  intro pins s σ H D I h
  refine wpAny_For (thn (hi pins s σ H _ I h) fun v s1 h1 => thn h1 fun itv s2 h2 => ?_) hs
  obtain ⟨it, fp, tn, J, H2, e, I2, T, st2, f2, W, ⟨m0, w0⟩, turn⟩ := h2
  subst e
  have stat : ∀ {H' : Hp}, (∀ b ∈ fp, H' b = none) -> ∀ b ∈ fp, FpOk X pins H' b := fun hn b hb => ⟨hn b hb, (f2 b hb).2⟩
  refine codeAny_forLoop_any (fun n s' => ∃ i σ' H', Inv X pins σ' H' s' /\ tn i s'.heap /\ (∀ b ∈ fp, H' b = none) /\ W i n σ' H') ?_ m0 ⟨0, σ, H2, I2, st2, fun b hb => (f2 b hb).1, w0⟩
  rintro n s3 ⟨i, σ3, H3, I3, st3, fr3, w3⟩
  rcases turn i n σ3 H3 w3 with ⟨stop, qn⟩ | ⟨go, N, hN, step⟩
  · refine wpAny_passesOwn hp (thn (T.done X rfl rfl rfl hc i pins s3 σ3 H3 X.xe I3 (stat fr3) st3 stop) fun r s4 ⟨hr, I4⟩ => ?_)
    subst hr
    exact wpAny_execs_nil ⟨σ3, H3, I4, qn⟩
  · refine wpAny_passesOwn hp (thn (T.item X rfl rfl rfl hc i pins s3 σ3 H3 X.xe I3 (stat fr3) st3 go) fun r s4 ⟨u, hr, h4⟩ => ?_)
    subst hr
    refine wpAny_passesOwn hp (thn h4 fun _ s5 ⟨x, H5, I5, r5, y5, st5, fr5⟩ => ?_)
    have I5' := I5.pinned (stat fr5) (T.obj _ _ st5)
    refine wpAny_passesOwn hp (thn (hg _ s5 σ3 H5 x u _ I5' r5 (step x H5 y5)) fun _ s6 ⟨σ6, H6, I6, q6⟩ => ?_)
    refine wpAny_passesOwn hp (thn (hb _ s6 σ6 H6 _ I6 q6) fun f s7 q7 => ?_)
    have again : ∀ {σ7 : St} {H7 : Hp}, Inv X (pins ++ pinsAt fp s5.heap) σ7 H7 s7 -> N σ7 H7 -> ∃ m, m < n /\ ∃ i σ' H', Inv X pins σ' H' s7 /\ tn i s7.heap /\ (∀ b ∈ fp, H' b = none) /\ W i m σ' H' := fun {σ7 H7} I7 n7 => by
      obtain ⟨m', hm, w7⟩ := hN σ7 H7 n7
      refine ⟨m', hm, i + 1, σ7, H7, I7.unpinned, T.keep _ _ _ st5 fun b hb o e => (I7.pin (b, o) (List.mem_append_right _ (List.mem_append_right _ (mem_pinsAt hb e)))).1, fun b hb => ?_, w7⟩
      obtain ⟨o, e, d⟩ := T.obj _ _ st5 b hb
      exact (I7.pin (b, o) (List.mem_append_right _ (List.mem_append_right _ (mem_pinsAt hb e)))).2.1
    cases f with
    | next => obtain ⟨σ7, H7, I7, n7⟩ := q7; exact again I7 n7
    | cont => obtain ⟨σ7, H7, I7, n7⟩ := q7; exact again I7 n7
    | brk => obtain ⟨σ7, H7, I7, q7⟩ := q7; exact ⟨σ7, H7, I7.unpinned, q7⟩
    | ret v => obtain ⟨x7, σ7, H7, I7, r7, q7⟩ := q7; exact ⟨x7, σ7, H7, I7.unpinned, r7, q7⟩
end
theorem for_list {K : PySem.W.Frag} {a : Addr} {xs : List V} {g : TG} {tb : TS} {D : Ends} {σ : St} {H : Hp} (Pv : Nat -> St -> Hp -> Prop) (h0 : Pv 0 σ H) (hl : ∀ i σ H, i <= xs.length -> Pv i σ H -> SqL K H a xs)
    (hs : ∀ i x σ H, xs[i]? = some x -> Pv i σ H -> g x σ H fun σ2 H2 => tb { D with nx := Pv (i + 1), ct := Pv (i + 1), bk := D.nx } σ2 H2) (hd : ∀ σ H, Pv xs.length σ H -> D.nx σ H) :
    ∃ W : Nat -> Nat -> St -> Hp -> Prop, (∃ m, W 0 m σ H) /\ ∀ i m σ H, W i m σ H ->
      ((Itl K a).stop i H /\ D.nx σ H) \/ ((Itl K a).go i H /\ ∃ N : St -> Hp -> Prop, (∀ σ' H', N σ' H' -> ∃ m', m' < m /\ W (i + 1) m' σ' H') /\ ∀ x H', (Itl K a).yld i H x H' -> g x σ H' fun σ2 H2 => tb { D with nx := N, ct := N, bk := D.nx } σ2 H2) := by
  refine ⟨fun i m σ H => m = xs.length - i /\ i <= xs.length /\ Pv i σ H, ⟨xs.length, by simp, Nat.zero_le _, h0⟩, ?_⟩
  rintro i m σ H ⟨rfl, hi, p⟩
  have q := hl i σ H hi p
  by_cases hlt : i < xs.length
  · refine .inr ⟨⟨xs, xs[i], q, by simp [hlt]⟩, Pv (i + 1), fun σ' H' p' => ⟨xs.length - (i + 1), by omega, rfl, hlt, p'⟩, fun x H' y => ?_⟩
    obtain ⟨e, y⟩ := y
    subst e
    exact hs i x σ _ (y xs q) p
  · have e : i = xs.length := by omega
    subst e
    exact .inl ⟨⟨xs, q, Nat.le_refl _⟩, hd σ H p⟩
theorem for_range {lo : Int} {n : Nat} {g : TG} {tb : TS} {D : Ends} {σ : St} {H : Hp} (Pv : Nat -> St -> Hp -> Prop) (h0 : Pv 0 σ H)
    (hs : ∀ i σ H, i < n -> Pv i σ H -> g (.int (lo + i)) σ H fun σ2 H2 => tb { D with nx := Pv (i + 1), ct := Pv (i + 1), bk := D.nx } σ2 H2) (hd : ∀ σ H, Pv n σ H -> D.nx σ H) :
    ∃ W : Nat -> Nat -> St -> Hp -> Prop, (∃ m, W 0 m σ H) /\ ∀ i m σ H, W i m σ H ->
      ((Itr lo n).stop i H /\ D.nx σ H) \/ ((Itr lo n).go i H /\ ∃ N : St -> Hp -> Prop, (∀ σ' H', N σ' H' -> ∃ m', m' < m /\ W (i + 1) m' σ' H') /\ ∀ x H', (Itr lo n).yld i H x H' -> g x σ H' fun σ2 H2 => tb { D with nx := N, ct := N, bk := D.nx } σ2 H2) := by
  refine ⟨fun i m σ H => m = n - i /\ i <= n /\ Pv i σ H, ⟨n, by simp, Nat.zero_le _, h0⟩, ?_⟩
  rintro i m σ H ⟨rfl, hi, p⟩
  by_cases hlt : i < n
  · refine .inr ⟨hlt, Pv (i + 1), fun σ' H' p' => ⟨n - (i + 1), by omega, rfl, hlt, p'⟩, fun x H' y => ?_⟩
    obtain ⟨e, y⟩ := y
    subst e y
    exact hs i σ _ hlt p
  · have e : i = n := by omega
    subst e
    exact .inl ⟨Nat.le_refl _, hd σ H p⟩
end L2
namespace L2
open PySem PySem.Spec PyProof.Rows
abbrev R2 := V -> V -> Hp -> VK -> Prop
def OpR (X : Cx) (f : Value -> Value -> Sem Value) (r : R2) : Prop :=
  ∀ (pins : List (Addr × Obj)) (s : Shared) (σ : St) (H : Hp) (x y : V) (v u : Value) (Q : VK), Inv X pins σ H s -> RelV x v -> RelV y u -> r x y H Q ->
    wpAny (model X.prog X.w) X.A (f v u) (EP X pins σ Q) X.xe s
def CallR (X : Cx) (f : Value) (r : List V -> Hp -> VK -> Prop) : Prop :=
  ∀ (pins : List (Addr × Obj)) (s : Shared) (σ : St) (H : Hp) (xs : List V) (us : List Value) (Q : VK), Inv X pins σ H s -> Vals xs us -> r xs H Q ->
    wpAny (model X.prog X.w) X.A (call f us) (EP X pins σ Q) X.xe s
def TruR (X : Cx) (r : V -> Hp -> (Bool -> Hp -> Prop) -> Prop) : Prop :=
  ∀ (pins : List (Addr × Obj)) (s : Shared) (σ : St) (H : Hp) (x : V) (v : Value) (Q : Bool -> Hp -> Prop), Inv X pins σ H s -> RelV x v -> r x H Q ->
    wpAny (model X.prog X.w) X.A (truthy v) (TP X pins σ Q) X.xe s
def tOp (r : R2) (ta tb : TE) : TE := fun σ H Q => ta σ H fun x H1 => tb σ H1 fun y H2 => r x y H2 Q
def rI (C : Int -> Int -> Prop) (g : Int -> Int -> V) : R2 := fun x y H Q => ∃ i j, x = .int i /\ y = .int j /\ C i j /\ Q (g i j) H
def rI0 (g : Int -> Int -> V) : R2 := fun x y H Q => ∃ i j, x = .int i /\ y = .int j /\ Q (g i j) H
section
variable {X : Cx} {a b c : Expr} {ta tb tc : TE} {pos : Pos}
theorem binT (ha : PE X a ta) (hb : PE X b tb) {pins : List (Addr × Obj)} {s : Shared} {σ : St} {H : Hp} {R : V -> V -> Hp -> Prop} (I : Inv X pins σ H s)
    (h : ta σ H fun x H1 => tb σ H1 fun y H2 => R x y H2) {Q : Value -> Shared -> Prop} {f : Value -> Value -> Sem Value}
    (hf : ∀ v u s2 x y H2, Inv X pins σ H2 s2 -> RelV x v -> RelV y u -> R x y H2 -> wpAny (model X.prog X.w) X.A (f v u) Q X.xe s2) :
    wpAny (model X.prog X.w) X.A (eval a X.env) (fun v s₁ => wpAny (model X.prog X.w) X.A (eval b X.env) (fun u s₂ => wpAny (model X.prog X.w) X.A (f v u) Q X.xe s₂) X.xe s₁) X.xe s := by
  refine thn (ha pins s σ H _ I h) fun v s1 ⟨x, H1, I1, r1, q1⟩ => ?_
  refine thn (hb pins s1 σ H1 _ I1 q1) fun u s2 ⟨y, H2, I2, r2, q2⟩ => ?_
  exact hf v u s2 x y H2 I2 r1 r2 q2
theorem pe_op {op : Operator} {r : R2} (ho : OpR X (binaryOp op) r) (ha : PE X a ta) (hb : PE X b tb) : PE X (.BinOp a op b pos) (tOp r ta tb) := by
  intro pins s σ H Q I h
  exact wpAny_BinOp (binT ha hb I h fun v u s2 x y H2 I2 rx ry q => ho pins s2 σ H2 x y v u Q I2 rx ry q)
theorem opI {f : Value -> Value -> Sem Value} {C : Int -> Int -> Prop} {g : Int -> Int -> Int}
    (rule : ∀ (i j : Int) (t u : Tok) (s : Shared) (Q : Value -> Shared -> Prop) (E : Value -> Shared -> Prop), C i j -> Q (.int (g i j) s.toks) { s with toks := s.toks + 1 } -> wpAny (model X.prog X.w) X.A (f (.int i t) (.int j u)) Q E s) :
    OpR X f (rI C fun i j => .int (g i j)) := by
  intro pins s σ H x y v u Q I rx ry h
  obtain ⟨i, j, rfl, rfl, hc, q⟩ := h
  obtain ⟨t, rfl⟩ := rx
  obtain ⟨t', rfl⟩ := ry
  exact rule i j t t' s _ _ hc ⟨.int (g i j), H, I.tok _, ⟨_, rfl⟩, q⟩
theorem opI0 {f : Value -> Value -> Sem Value} {g : Int -> Int -> Int}
    (rule : ∀ (i j : Int) (t u : Tok) (s : Shared) (Q : Value -> Shared -> Prop) (E : Value -> Shared -> Prop), Q (.int (g i j) s.toks) { s with toks := s.toks + 1 } -> wpAny (model X.prog X.w) X.A (f (.int i t) (.int j u)) Q E s) :
    OpR X f (rI0 fun i j => .int (g i j)) := by
  intro pins s σ H x y v u Q I rx ry h
  obtain ⟨i, j, rfl, rfl, q⟩ := h
  obtain ⟨t, rfl⟩ := rx
  obtain ⟨t', rfl⟩ := ry
  exact rule i j t t' s _ _ ⟨.int (g i j), H, I.tok _, ⟨_, rfl⟩, q⟩
theorem opB0 {f : Value -> Value -> Sem Value} {g : Int -> Int -> Bool}
    (rule : ∀ (i j : Int) (t u : Tok) (s : Shared) (Q : Value -> Shared -> Prop) (E : Value -> Shared -> Prop), Q (.bool (g i j)) s -> wpAny (model X.prog X.w) X.A (f (.int i t) (.int j u)) Q E s) :
    OpR X f (rI0 fun i j => .bl (g i j)) := by
  intro pins s σ H x y v u Q I rx ry h
  obtain ⟨i, j, rfl, rfl, q⟩ := h
  obtain ⟨t, rfl⟩ := rx
  obtain ⟨t', rfl⟩ := ry
  exact rule i j t t' s _ _ ⟨.bl (g i j), H, I, rfl, q⟩
def CDiv (i j : Int) : Prop := 0 < j /\ j < 1073741824
def CMul (i j : Int) : Prop := (-(2 ^ 64) < i /\ i < 2 ^ 64) \/ (-(2 ^ 64) < j /\ j < 2 ^ 64)
theorem CMul.ok {i j : Int} (h : CMul i j) : IntMulOk i j := by
  rcases h with ⟨h1, h2⟩ | ⟨h1, h2⟩
  · exact .of_left (intBits_le_64 h1 h2)
  · exact .of_right (intBits_le_64 h1 h2)
theorem two_pow_nn (k : Nat) : (0 : Int) <= 2 ^ k := by
  rw [two_pow_cast]
  exact Int.natCast_nonneg _
theorem op_add : OpR X (binaryOp .Add) (rI0 fun i j => .int (i + j)) := opI0 fun _ _ _ _ _ _ _ q => add_int q
theorem op_sub : OpR X (binaryOp .Sub) (rI0 fun i j => .int (i - j)) := opI0 fun _ _ _ _ _ _ _ q => sub_int q
theorem op_mul : OpR X (binaryOp .Mult) (rI CMul fun i j => .int (i * j)) := opI fun _ _ _ _ _ _ _ hc q => mul_int q hc.ok
theorem op_fdiv : OpR X (binaryOp .FloorDiv) (rI CDiv fun i j => .int (i / j)) := opI fun i j _ _ _ _ _ hc q => by
  have h1 : (0 : Int) < j := hc.1
  have h2 : j < 1073741824 := hc.2
  exact floordiv_int (by omega) (by rw [Int.fdiv_eq_ediv_of_nonneg i (by omega)]; exact q) (.inl (PyProof.noPylong_small (by omega)))
theorem op_mod : OpR X (binaryOp .Mod) (rI (fun _ j => 0 < j) fun i j => .int (i % j)) := opI fun i j _ _ _ _ _ hc q => by
  have h1 : (0 : Int) < j := hc
  exact mod_int' (by omega) (by rw [Int.fmod_eq_emod_of_nonneg i (by omega)]; exact q)
theorem op_shr : OpR X (binaryOp .RShift) (rI (fun _ j => 0 <= j) fun i j => .int (i / 2 ^ j.toNat)) := opI fun i j _ _ _ _ _ hc q =>
  rshift_int hc (by rw [Int.fdiv_eq_ediv_of_nonneg i (two_pow_nn _)]; exact q)
end
def scal : V -> V -> Bool
  | .non, .non => true | .non, .int _ => true | .int _, .non => true | .non, .bl _ => true | .bl _, .non => true | .non, .str _ => true | .str _, .non => true
  | .int _, .int _ => true | .bl _, .bl _ => true | .str _, .str _ => true | .byt _, .byt _ => true
  | .int _, .str _ => true | .str _, .int _ => true | .bl _, .str _ => true | .str _, .bl _ => true
  | _, _ => false
def rEq : R2 := fun x y H Q => scal x y = true /\ Q (.bl (decide (x = y))) H
def rNe : R2 := fun x y H Q => scal x y = true /\ Q (.bl (!decide (x = y))) H
theorem dec_int {i j : Int} : decide (V.int i = V.int j) = (i == j) := by
  rw [Bool.eq_iff_iff]
  simp
theorem dec_bl {i j : Bool} : decide (V.bl i = V.bl j) = (i == j) := by
  rw [Bool.eq_iff_iff]
  simp
theorem dec_str {i j : Str} : decide (V.str i = V.str j) = (i == j) := by
  rw [Bool.eq_iff_iff]
  simp
theorem dec_byt {i j : Array UInt8} : decide (V.byt i = V.byt j) = (i.toList == j.toList) := by
  rw [Bool.eq_iff_iff]
  cases i
  cases j
  simp
section
variable {X : Cx} {a b c : Expr} {ta tb tc : TE} {pos : Pos}
theorem fin_bl {pins : List (Addr × Obj)} {σ : St} {H : Hp} {s : Shared} {Q : VK} {k k' : Bool} (I : Inv X pins σ H s) (q : Q (.bl k) H) (e : k = k') : EP X pins σ Q (.bool k') s := by
  subst e
  exact ⟨.bl k, H, I, rfl, q⟩
theorem op_eq : OpR X (compareOp .Eq) rEq := by
  intro pins s σ H x y v u Q I rx ry h
  obtain ⟨hs, q⟩ := h
  cases x with
  | non =>
    cases rx
    cases y with
    | non => cases ry; exact PySem.EqNone.eq_none_none (fin_bl I q (by simp))
    | bl j => cases ry; exact PySem.EqNone.eq_none_bool (fin_bl I q (by simp))
    | int j => obtain ⟨t', rfl⟩ := ry; exact PySem.EqNone.eq_none_int (fin_bl I q (by simp))
    | str j => obtain ⟨t', rfl⟩ := ry; exact PySem.EqNone.eq_none_str (fin_bl I q (by simp))
    | _ => exact absurd (show false = true from hs) Bool.false_ne_true
  | bl i =>
    cases rx
    cases y with
    | non => cases ry; exact PySem.EqNone.eq_bool_none (fin_bl I q (by simp))
    | bl j => cases ry; exact eq_bool (fin_bl I q dec_bl)
    | str j => obtain ⟨t', rfl⟩ := ry; exact PySem.EqMixed.eq_bool_str (fin_bl I q (by simp))
    | _ => exact absurd (show false = true from hs) Bool.false_ne_true
  | int i =>
    obtain ⟨t, rfl⟩ := rx
    cases y with
    | non => cases ry; exact PySem.EqNone.eq_int_none (fin_bl I q (by simp))
    | int j => obtain ⟨t', rfl⟩ := ry; exact eq_int (fin_bl I q dec_int)
    | str j => obtain ⟨t', rfl⟩ := ry; exact PySem.EqMixed.eq_int_str (fin_bl I q (by simp))
    | _ => exact absurd (show false = true from hs) Bool.false_ne_true
  | str i =>
    obtain ⟨t, rfl⟩ := rx
    cases y with
    | non => cases ry; exact PySem.EqNone.eq_str_none (fin_bl I q (by simp))
    | bl j => cases ry; exact PySem.EqMixed.eq_str_bool (fin_bl I q (by simp))
    | int j => obtain ⟨t', rfl⟩ := ry; exact PySem.EqMixed.eq_str_int (fin_bl I q (by simp))
    | str j => obtain ⟨t', rfl⟩ := ry; exact eq_str (fin_bl I q dec_str)
    | _ => exact absurd (show false = true from hs) Bool.false_ne_true
  | byt i =>
    obtain ⟨t, rfl⟩ := rx
    cases y with
    | byt j => obtain ⟨t', rfl⟩ := ry; exact PySem.W.eq_bytes (fin_bl I q dec_byt)
    | _ => exact absurd (show false = true from hs) Bool.false_ne_true
  | _ => cases y <;> exact absurd (show false = true from hs) Bool.false_ne_true
theorem op_ne : OpR X (compareOp .NotEq) rNe := by
  intro pins s σ H x y v u Q I rx ry h
  obtain ⟨hs, q⟩ := h
  cases x with
  | non =>
    cases rx
    cases y with
    | non => cases ry; exact PySem.EqNone.ne_none_none (fin_bl I q (by simp))
    | bl j => cases ry; exact PySem.EqNone.ne_none_bool (fin_bl I q (by simp))
    | int j => obtain ⟨t', rfl⟩ := ry; exact PySem.EqNone.ne_none_int (fin_bl I q (by simp))
    | str j => obtain ⟨t', rfl⟩ := ry; exact PySem.EqNone.ne_none_str (fin_bl I q (by simp))
    | _ => exact absurd (show false = true from hs) Bool.false_ne_true
  | bl i =>
    cases rx
    cases y with
    | non => cases ry; exact PySem.EqNone.ne_bool_none (fin_bl I q (by simp))
    | bl j => cases ry; exact ne_bool (fin_bl I q (congrArg not dec_bl))
    | str j => obtain ⟨t', rfl⟩ := ry; exact PySem.EqMixed.ne_bool_str (fin_bl I q (by simp))
    | _ => exact absurd (show false = true from hs) Bool.false_ne_true
  | int i =>
    obtain ⟨t, rfl⟩ := rx
    cases y with
    | non => cases ry; exact PySem.EqNone.ne_int_none (fin_bl I q (by simp))
    | int j => obtain ⟨t', rfl⟩ := ry; exact ne_int (fin_bl I q (congrArg not dec_int))
    | str j => obtain ⟨t', rfl⟩ := ry; exact PySem.EqMixed.ne_int_str (fin_bl I q (by simp))
    | _ => exact absurd (show false = true from hs) Bool.false_ne_true
  | str i =>
    obtain ⟨t, rfl⟩ := rx
    cases y with
    | non => cases ry; exact PySem.EqNone.ne_str_none (fin_bl I q (by simp))
    | bl j => cases ry; exact PySem.EqMixed.ne_str_bool (fin_bl I q (by simp))
    | int j => obtain ⟨t', rfl⟩ := ry; exact PySem.EqMixed.ne_str_int (fin_bl I q (by simp))
    | str j => obtain ⟨t', rfl⟩ := ry; exact ne_str (fin_bl I q (congrArg not dec_str))
    | _ => exact absurd (show false = true from hs) Bool.false_ne_true
  | byt i =>
    obtain ⟨t, rfl⟩ := rx
    cases y with
    | byt j => obtain ⟨t', rfl⟩ := ry; exact PySem.W.ne_bytes (fin_bl I q (congrArg not dec_byt))
    | _ => exact absurd (show false = true from hs) Bool.false_ne_true
  | _ => cases y <;> exact absurd (show false = true from hs) Bool.false_ne_true
theorem op_lt : OpR X (compareOp .Lt) (rI0 fun i j => .bl (decide (i < j))) := opB0 fun _ _ _ _ _ _ _ q => lt_int q
theorem op_le : OpR X (compareOp .LtE) (rI0 fun i j => .bl (decide (i <= j))) := opB0 fun _ _ _ _ _ _ _ q => le_int q
theorem op_gt : OpR X (compareOp .Gt) (rI0 fun i j => .bl (decide (j < i))) := opB0 fun _ _ _ _ _ _ _ q => gt_int q
theorem op_ge : OpR X (compareOp .GtE) (rI0 fun i j => .bl (decide (j <= i))) := opB0 fun _ _ _ _ _ _ _ q => ge_int q
theorem op_isN : OpR X (compareOp .Is) (fun x y H Q => y = .non /\ Q (.bl (decide (x = .non))) H) := by
  intro pins s σ H x y v u Q I rx ry h
  obtain ⟨rfl, q⟩ := h
  cases ry
  refine is_none_gen (fin_bl I q ?_)
  cases x <;> first
    | (cases rx; rfl)
    | (obtain ⟨t, rfl⟩ := rx; rfl)
theorem nomark (b : Expr) {op : CmpOp} (h : op ≠ .In := by decide) (h2 : op ≠ .NotIn := by decide) : behindInMarks op b = false := by
  have e1 : (op == CmpOp.In) = false := by cases op <;> first | rfl | exact absurd rfl h
  have e2 : (op == CmpOp.NotIn) = false := by cases op <;> first | rfl | exact absurd rfl h2
  cases b <;> simp [behindInMarks, e1, e2]
theorem pe_cmpR {op : CmpOp} {r : R2} (ho : OpR X (compareOp op) r) (ha : PE X a ta) (hb : PE X b tb) (hm : behindInMarks op b = false) : PE X (.Compare a [op] [b] pos) (tOp r ta tb) := by
  intro pins s σ H Q I h
  exact wpAny_Compare1 (binT ha hb I h fun v u s2 x y H2 I2 rx ry q => ho pins s2 σ H2 x y v u Q I2 rx ry q) hm
def TruV (K : PySem.W.Frag) (x : V) (H : Hp) (k : Bool) : Prop :=
  match x with
  | .non => k = false
  | .bl b => k = b
  | .int i => k = (i != 0)
  | .str y => y.length <= sizeLine /\ k = ((y.length : Int) != 0)
  | .byt y => y.size <= sizeLine /\ k = ((y.size : Int) != 0)
  | .ref p => (∃ xs, SqL K H p xs /\ k = !xs.isEmpty) \/ (∃ xs, SqT K H p xs /\ k = !xs.isEmpty) \/ ∃ kvs, H p = some (.dK kvs) /\ k = !kvs.isEmpty
  | _ => False
theorem isEmpty_kv {κ : Type} {kvs : List (κ × V)} {vs : List (κ × Value)} (r : KV kvs vs) : (!vs.isEmpty) = !kvs.isEmpty := by
  cases r <;> rfl
theorem isEmpty_of {xs : List V} {its : List Value} (r : Vals xs its) : (!its.toArray.isEmpty) = !xs.isEmpty := by
  cases r <;> simp
theorem line63 : (sizeLine : Nat) < 2 ^ 63 := by rw [sizeLine_eq]; decide
theorem tru_ok : TruR X (fun x H Q => ∃ k, TruV X.K x H k /\ Q k H) := by
  intro pins s σ H x v Q I rx h
  obtain ⟨k, e, q⟩ := h
  have hl := line63
  have hs : sizeLine = 16777216 := sizeLine_eq
  cases x with
  | non =>
    cases rx
    have e' : k = false := e
    subst e'
    exact truthy_none ⟨H, I, q⟩
  | bl b =>
    cases rx
    have e' : k = b := e
    subst e'
    exact wpAny_truthy_bool ⟨H, I, q⟩
  | int i =>
    obtain ⟨t, rfl⟩ := rx
    have e' : k = (i != 0) := e
    subst e'
    exact PySem.P.truthy_int ⟨H, I, q⟩
  | str y =>
    obtain ⟨t, rfl⟩ := rx
    obtain ⟨hy, e'⟩ : y.length <= sizeLine /\ k = ((y.length : Int) != 0) := e
    subst e'
    exact PySem.P.truthy_str (by omega) ⟨H, I.tok _, q⟩
  | byt y =>
    obtain ⟨t, rfl⟩ := rx
    obtain ⟨hy, e'⟩ : y.size <= sizeLine /\ k = ((y.size : Int) != 0) := e
    subst e'
    exact PySem.W.truthy_bytes (by omega) ⟨H, I.tok _, q⟩
  | ref p =>
    cases rx
    have e' : (∃ xs, SqL X.K H p xs /\ k = !xs.isEmpty) \/ (∃ xs, SqT X.K H p xs /\ k = !xs.isEmpty) \/ ∃ kvs, H p = some (.dK kvs) /\ k = !kvs.isEmpty := e
    rcases e' with ⟨xs, hx, e'⟩ | ⟨xs, hx, e'⟩ | ⟨kvs, hx, e'⟩
    · subst e'
      obtain ⟨its, r, pl, hz⟩ := I.list hx
      have hlen := r.length
      exact wpAny_truthy_list pl.isList (by simp only [List.size_toArray]; omega) ⟨H, I.tok _, by rw [isEmpty_of r]; exact q⟩
    · subst e'
      obtain ⟨its, r, pl, hz⟩ := I.tuple hx
      have hlen := r.length
      exact truthy_tuple pl (by simp only [List.size_toArray]; omega) ⟨H, I.tok _, by rw [isEmpty_of r]; exact q⟩
    · subst e'
      obtain ⟨hz, hS, vs, r, m⟩ : kvs.length <= sizeLine /\ (p == sysModules) = false /\ ∃ vs, KV kvs vs /\ s.heap.DictOf (mixKind X.prog X.w) p vs := I.hok p _ hx
      have hlen : kvs.length = vs.length := Paired.length r
      exact wpAny_truthy_dict hS m (by omega) ⟨H, I.tok _, by rw [isEmpty_kv r]; exact q⟩
  | _ => exact (show False from e).elim
theorem vals1 {x : V} {us : List Value} (r : Vals [x] us) : ∃ u, us = [u] /\ RelV x u := by
  cases r with
  | cons r1 r2 => cases r2; exact ⟨_, rfl, r1⟩
theorem vals2 {x y : V} {us : List Value} (r : Vals [x, y] us) : ∃ u w', us = [u, w'] /\ RelV x u /\ RelV y w' := by
  cases r with
  | cons r1 r2 =>
    cases r2 with
    | cons r3 r4 => cases r4; exact ⟨_, _, rfl, r1, r3⟩
end
end L2
namespace L2
open PySem PySem.Spec PyProof.Rows
structure ObjM (h : Heap) (x dx C : Addr) (mA : Str -> Option Value) : Prop where
  obj : h.get? x = some (PySem.W.instObj C dx)
  ns : h.Ns1 dx mA
  ne : dx ≠ x
theorem lookIn_ns {h : Heap} {dx : Addr} {mA : Str -> Option Value} (n : h.Ns1 dx mA) : ∃ od, h.get? dx = some od /\ ∀ name, PySem.W.lookIn name od = some (mA name) := by
  obtain ⟨o, es, ep, ho, hd, hk, _, hm⟩ := n
  refine ⟨o, ho, fun name => ?_⟩
  have e := hm name
  unfold nsFind findBy at e
  rw [<- Array.find?_toList] at e
  unfold PySem.W.lookIn
  rw [hd]
  dsimp only
  split
  · rename_i y q
    rw [q] at e
    exact congrArg some e
  · rename_i q
    rw [q] at e
    have a : es.toList.any (·.refKey) = false := by
      rw [List.any_eq_false]
      intro y hy
      obtain ⟨z, t, hkey⟩ := hk y (Array.mem_toList_iff.mp hy)
      simp [DictEntry.refKey, hkey]
    have a' : ¬ es.toList.any (·.refKey) = true := by rw [a]; exact Bool.false_ne_true
    rw [if_neg a']
    exact congrArg some e
theorem ObjM.look {h : Heap} {x dx C : Addr} {mA : Str -> Option Value} (I : ObjM h x dx C mA) : ∃ od, PySem.W.InstAt h x (PySem.W.instObj C dx) C (some od) /\ ∀ name, PySem.W.lookIn name od = some (mA name) :=
  let ⟨od, ho, hl⟩ := lookIn_ns I.ns
  ⟨od, ⟨I.obj, rfl, rfl, ho⟩, hl⟩
section
variable {prog : Program} {w : World} {A : Around} {E : Value -> Shared -> Prop} {s : Shared} {K : PySem.W.Frag} {x dx C f : Addr} {mA : Str -> Option Value} {name : Str} {v : Value}
theorem get_map {expr : Bool} {Q : Value -> Shared -> Prop} (X : K.In s.heap) (I : ObjM s.heap x dx C mA) (hg : PySem.W.plainGet K C name = true) (hh : PySem.W.hasDictIn K C = true)
    (ha : PySem.W.findIn K (.ref C) name = some none) (hv : mA name = some v) (hv' : PySem.W.handedIn v = true) (h : Q v { s with toks := s.toks + 1 }) :
    wpAny (model prog w) A (getAttr (.ref x) name expr) Q E s := by
  obtain ⟨od, J, hl⟩ := I.look
  exact PySem.W.get_value X J (PySem.W.plainGet_of hg).1 (PySem.W.findObj_own hh ha rfl (by rw [hl, hv])) hv' h
theorem get_meth {pl : Sem Bool} {Q : Value × List Value -> Shared -> Prop} (X : K.In s.heap) (I : ObjM s.heap x dx C mA) (hg : PySem.W.plainGet K C name = true)
    (hf : PySem.W.findIn K (.ref C) name = some (some (.ref f))) (ht : PySem.W.isFn K (.ref f) = true) (hv : mA name = none) (h : Q (.ref f, [.ref x]) s) :
    wpAny (model prog w) A (getMethod (.ref x) name pl) Q E s := by
  obtain ⟨od, J, hl⟩ := I.look
  exact PySem.W.method_fn X J (PySem.W.plainGet_of hg).1 (PySem.W.plainGet_of hg).2 hf (beq_iff_eq.mp ht) (by show (PySem.W.lookIn name od).map (·.isSome) = some false; rw [hl, hv]; rfl) h
theorem set_map {ns : List Str} {Q : Unit -> Shared -> Prop} (X : K.In s.heap) (I : ObjM s.heap x dx C mA)
    (hs : PySem.W.findIn K (.ref C) "__setattr__" = some (some (.builtin "object.__setattr__"))) (hp : PySem.W.plainOver K C = true) (ht : PySem.W.takerIn K C name = some none) (hh : PySem.W.hasDictIn K C = true)
    (hw : PySem.Within mA ns) (hsz : ns.length <= sizeLine)
    (h : ∀ h', ObjM h' x dx C (fun y => if y = name then some v else mA y) -> Heap.SameBut dx s.heap h' -> Q () { s with heap := h', toks := s.toks + 2 }) :
    wpAny (model prog w) A (setAttr (.ref x) name v) Q E s := by
  obtain ⟨od, J, hl⟩ := I.look
  refine PySem.W.set_plain X J hs (PySem.W.osa_open (s := { s with toks := s.toks + 1 }) (r := none) X J hp ht fun b => ?_)
  obtain ⟨cd, hc, hd'⟩ := PySem.W.any_some hh
  have hx : s.heap.get? x = some ⟨.ref C, some dx, .plain, #[]⟩ := I.obj
  refine wpAny_bind (wpAny_pure (wpAny_bind (wpAny_bind (wpAny_loadPart hx (wpAny_bind (PySem.W.Looks.here (s := { s with toks := s.toks + 1 }) (PySem.W.looks_clsIn X hc) ?_))))))
  rw [hd']
  refine wpAny_pure (a := some dx) (wpAny_bind (wpAny_pure (wpAny_bind ?_)))
  refine wpAny_nsSet1 (s := { s with toks := s.toks + 1 }) I.ns fun h' hn2 hs2 => ?_
  obtain ⟨oD, esD, epD, hoD, hdD, hcD⟩ := hn2.count (PySem.Within.cons name v hw)
  refine wpAny_bind (wpAny_lookBehind hoD (by rw [hdD]; exact pastItsLine_dict (Nat.le_trans hcD (by rw [List.length_cons]; omega))) ?_)
  exact wpAny_pure (h _ ⟨(hs2.2 _ (Ne.symm I.ne)).trans I.obj, hn2, I.ne⟩ hs2)
theorem make_map {R : Result -> Shared -> Prop} {vs : List Value} {kw : List (Str × Value)} (X : K.In s.heap) (hm : PySem.W.makesIn K C = true)
    (hi : PySem.W.findIn K (.ref C) "__init__" = some (some (.ref f))) (hf : PySem.W.typeIn K (.ref f) = some (.type "function"))
    (h : codeAny (model prog w) (A.under (.builtin "type.__call__" ⟨.ref C :: vs, kw⟩)) (.call (.ref f) ⟨.ref (s.heap.objs.size + 1) :: vs, kw⟩) (PySem.W.InitBack (s.heap.objs.size + 1) R)
      { s with heap := (s.heap.push PySem.W.emptyDict).push (PySem.W.instObj C s.heap.objs.size) }) :
    codeAny (model prog w) A (.call (.ref C) ⟨vs, kw⟩) R s := by
  obtain ⟨hh, g, d, t, os⟩ := s
  exact PySem.W.make_core (PySem.W.makes_of X hm) (PySem.W.looks_findIn X hi) (fun self => PySem.W.bind_fn X self hf) (.inl rfl) h
theorem make_map0 {R : Result -> Shared -> Prop} (X : K.In s.heap) (hm : PySem.W.makesIn K C = true)
    (hi : PySem.W.findIn K (.ref C) "__init__" = some (some (.builtin "object.__init__")))
    (hb : ∀ self, PySem.W.Looks (model prog w) s.heap (bindSpecial (.builtin "object.__init__") self) (.builtin "object.__init__", [self]))
    (h : codeAny (model prog w) (A.under (.builtin "type.__call__" ⟨[.ref C], []⟩)) (.call (.builtin "object.__init__") ⟨[.ref (s.heap.objs.size + 1)], []⟩) (PySem.W.InitBack (s.heap.objs.size + 1) R)
      { s with heap := (s.heap.push PySem.W.emptyDict).push (PySem.W.instObj C s.heap.objs.size) }) :
    codeAny (model prog w) A (.call (.ref C) ⟨[], []⟩) R s := by
  obtain ⟨hh, g, d, t, os⟩ := s
  exact PySem.W.make_core (PySem.W.makes_of X hm) (PySem.W.looks_findIn X hi) hb (.inr ⟨rfl, rfl⟩) h
end
def putF (f : Str) (v : V) : List (Str × V) -> List (Str × V)
  | [] => [(f, v)]
  | (g, x) :: r => if g = f then (g, v) :: r else (g, x) :: putF f v r
theorem lookup_putF (f g : Str) (v : V) : ∀ fs : List (Str × V), (putF f v fs).lookup g = if g = f then some v else fs.lookup g
  | [] => by
    show List.lookup g [(f, v)] = _
    by_cases h : g = f
    · have hb : (g == f) = true := beq_iff_eq.mpr h
      simp only [List.lookup, hb, if_pos h]
    · have hb : (g == f) = false := beq_eq_false_iff_ne.mpr h
      simp only [List.lookup, hb, if_neg h]
  | (k, x) :: r => by
    have ih := lookup_putF f g v r
    rw [show putF f v ((k, x) :: r) = (if k = f then (k, v) :: r else (k, x) :: putF f v r) from rfl]
    by_cases hk : k = f
    · rw [if_pos hk]
      by_cases h : g = k
      · have hb : (g == k) = true := beq_iff_eq.mpr h
        simp only [List.lookup, hb, if_pos (h.trans hk)]
      · have hb : (g == k) = false := beq_eq_false_iff_ne.mpr h
        simp only [List.lookup, hb, if_neg (fun e : g = f => h (e.trans hk.symm))]
    · rw [if_neg hk]
      by_cases h : g = k
      · have hb : (g == k) = true := beq_iff_eq.mpr h
        simp only [List.lookup, hb, if_neg (fun e : g = f => hk (h.symm.trans e))]
      · have hb : (g == k) = false := beq_eq_false_iff_ne.mpr h
        simp only [List.lookup, hb]
        exact ih
theorem keys_putF (f : Str) (v : V) : ∀ fs : List (Str × V), f ∈ (putF f v fs).map (·.1) /\ ∀ g, g ∈ fs.map (·.1) -> g ∈ (putF f v fs).map (·.1)
  | [] => ⟨by simp [putF], fun g h => by simp at h⟩
  | (k, x) :: r => by
    obtain ⟨i1, i2⟩ := keys_putF f v r
    rw [show putF f v ((k, x) :: r) = (if k = f then (k, v) :: r else (k, x) :: putF f v r) from rfl]
    by_cases hk : k = f
    · rw [if_pos hk]
      subst hk
      exact ⟨by simp, fun g h => by simpa using h⟩
    · rw [if_neg hk]
      refine ⟨?_, fun g h => ?_⟩
      · rw [List.map_cons]
        exact List.mem_cons_of_mem _ i1
      · rw [List.map_cons] at h ⊢
        rcases List.mem_cons.mp h with e | e
        · exact List.mem_cons.mpr (.inl e)
        · exact List.mem_cons_of_mem _ (i2 g e)
theorem length_putF (f : Str) (v : V) : ∀ fs : List (Str × V), (putF f v fs).length <= fs.length + 1
  | [] => by simp [putF]
  | (k, x) :: r => by
    have ih := length_putF f v r
    rw [show putF f v ((k, x) :: r) = (if k = f then (k, v) :: r else (k, x) :: putF f v r) from rfl]
    by_cases hk : k = f
    · rw [if_pos hk, List.length_cons, List.length_cons]; omega
    · rw [if_neg hk, List.length_cons, List.length_cons]; omega
theorem RelO.some_of {v : V} {o : Option Value} (r : RelO (some v) o) : ∃ u, o = some u /\ RelV v u := by
  cases o with
  | none => exact (show False from r).elim
  | some u => exact ⟨u, rfl, r⟩
theorem RelO.none_of {o : Option Value} (r : RelO none o) : o = none := by
  cases o with
  | none => rfl
  | some u => exact (show False from r).elim
theorem handed_of {v : V} {u : Value} (r : RelV v u) : PySem.W.handedIn u = true := by
  cases v with
  | non => cases (show u = Value.none from r); rfl
  | bl b => cases (show u = Value.bool b from r); rfl
  | int i => obtain ⟨t, e⟩ := (show ∃ t, u = Value.int i t from r); cases e; rfl
  | str x => obtain ⟨t, e⟩ := (show ∃ t, u = Value.str x t from r); cases e; rfl
  | byt b => obtain ⟨t, e⟩ := (show ∃ t, u = Value.bytes b t from r); cases e; rfl
  | flt b => obtain ⟨t, e⟩ := (show ∃ t, u = Value.float b t from r); cases e; rfl
  | ref a => cases (show u = Value.ref a from r); rfl
  | ty n => cases (show u = Value.type n from r); rfl
section
variable {P : Program} {w : World} {H H' : Hp} {h h' : Heap} {a C dx : Addr} {fs fs' : List (Str × V)}
theorem ins_get (hok : HOk P w H h) (e : H a = some (.ins C dx fs)) : ∃ mA, ObjM h a dx C mA /\ (∀ f, RelO (fs.lookup f) (mA f)) /\ PySem.Within mA (fs.map (·.1)) /\ fs.length <= 1000 /\ H dx = some (.own a) := by
  obtain ⟨d, z, ne, ob, mA, n, r, q⟩ := (show ObjOk P w H h a (.ins C dx fs) from hok a _ e)
  exact ⟨mA, ⟨ob, n, ne⟩, r, q, z, d⟩
end
structure Cls (K : PySem.W.Frag) (C : Addr) : Prop where
  pg : PySem.W.plainGet K C Str.empty = true
  hd : PySem.W.hasDictIn K C = true
  po : PySem.W.plainOver K C = true
  sa : PySem.W.findIn K (.ref C) "__setattr__" = some (some (.builtin "object.__setattr__"))
theorem Cls.get {K : PySem.W.Frag} {C : Addr} (c : Cls K C) (f : Str) : PySem.W.plainGet K C f = true := c.pg
def NoAttr (K : PySem.W.Frag) (C : Addr) (f : Str) : Prop := PySem.W.findIn K (.ref C) f = some none
theorem NoAttr.taker {K : PySem.W.Frag} {C : Addr} {f : Str} (n : NoAttr K C f) : PySem.W.takerIn K C f = some none := by
  unfold PySem.W.takerIn
  rw [show PySem.W.findIn K (.ref C) f = some none from n]
  rfl
structure Con (K : PySem.W.Frag) (C : Addr) (f : Str) (v : V) (u : Value) : Prop where
  at_ : PySem.W.findIn K (.ref C) f = some (some u)
  rel : RelV v u
  get : PySem.W.specialIn K u "__get__" = some none
  cp : PySem.W.copiedNames.contains f = false
structure Meth (K : PySem.W.Frag) (C : Addr) (m : Str) (f : Addr) : Prop where
  at_ : PySem.W.findIn K (.ref C) m = some (some (.ref f))
  fn : PySem.W.isFn K (.ref f) = true
  kp : PySem.W.keepIn K (.ref f) = true
section
variable {X : Cx} {pins : List (Addr × Obj)} {σ : St} {H : Hp} {s : Shared} {a C dx : Addr} {fs : List (Str × V)} {f : Str} {v : V} {A : Around} {E : Value -> Shared -> Prop}
theorem getattr_ok {b : Bool} {Q : Value -> Shared -> Prop} (I : Inv X pins σ H s) (e : H a = some (.ins C dx fs)) (c : Cls X.K C) (n : NoAttr X.K C f) (l : fs.lookup f = some v)
    (h : ∀ u s', Inv X pins σ H s' -> RelV v u -> Q u s') : wpAny (model X.prog X.w) A (getAttr (.ref a) f b) Q E s := by
  obtain ⟨mA, O, r, _, _, _⟩ := ins_get I.hok e
  obtain ⟨u, hu, ru⟩ := RelO.some_of (v := v) (o := mA f) (by rw [<- l]; exact r f)
  exact get_map I.kIn O (c.get f) c.hd n hu (handed_of ru) (h u _ (I.tok _) ru)
theorem getmeth_ok {m : Str} {g : Addr} {pl : Sem Bool} {Q : Value × List Value -> Shared -> Prop} (I : Inv X pins σ H s) (e : H a = some (.ins C dx fs)) (c : Cls X.K C) (k : Meth X.K C m g) (l : fs.lookup m = none)
    (h : Q (.ref g, [.ref a]) s) : wpAny (model X.prog X.w) A (getMethod (.ref a) m pl) Q E s := by
  obtain ⟨mA, O, r, _, _, _⟩ := ins_get I.hok e
  have hn : mA m = none := RelO.none_of (by rw [<- l]; exact r m)
  exact get_meth I.kIn O (c.get m) k.at_ k.fn hn h
theorem setattr_ok {y : V} {u : Value} {Q : Unit -> Shared -> Prop} (I : Inv X pins σ H s) (e : H a = some (.ins C dx fs)) (c : Cls X.K C) (n : NoAttr X.K C f) (hl : fs.length < 1000) (ry : RelV y u)
    (h : ∀ s', Inv X pins σ (upd H a (.ins C dx (putF f y fs))) s' -> Q () s') : wpAny (model X.prog X.w) A (setAttr (.ref a) f u) Q E s := by
  obtain ⟨mA, O, r, wi, _, ho⟩ := ins_get I.hok e
  have hz : (fs.map (·.1)).length <= sizeLine := by rw [List.length_map, sizeLine_eq]; omega
  refine set_map I.kIn O c.sa c.po n.taker c.hd wi hz fun h' O' sb => h _ ?_
  have hd : ∃ o, h'.get? dx = some o := let ⟨o, _, _, e', _⟩ := O'.ns; ⟨o, e'⟩
  refine I.write (x := a) (e := dx) (by rw [e]; exact True.intro) (.inr ho) (fun b q hb z => (sb.2 b hb).trans z) hd ?_
  refine ⟨by rw [upd_ne O.ne]; exact ho, ?_, O.ne, O'.obj, _, O'.ns, fun g => ?_, fun g hg => ?_⟩
  · have := length_putF f y fs; omega
  · show RelO ((putF f y fs).lookup g) (if g = f then some u else mA g)
    rw [lookup_putF]
    by_cases q : g = f
    · rw [if_pos q, if_pos q]; exact ry
    · rw [if_neg q, if_neg q]; exact r g
  · by_cases q : g = f
    · rw [q]; exact (keys_putF f y fs).1
    · refine (keys_putF f y fs).2 g (wi g fun z => hg ?_)
      show (if g = f then some u else mA g) = none
      rw [if_neg q]; exact z
theorem Inv.made (I : Inv X pins σ H s) : Inv X pins σ (upd (upd H s.heap.objs.size (.own (s.heap.objs.size + 1))) (s.heap.objs.size + 1) (.ins C s.heap.objs.size []))
    { s with heap := (s.heap.push PySem.W.emptyDict).push (PySem.W.instObj C s.heap.objs.size) } := by
  have e1 : (s.heap.push PySem.W.emptyDict).get? s.heap.objs.size = some PySem.W.emptyDict := Heap.get?_push_size s.heap rfl
  have e2 : ((s.heap.push PySem.W.emptyDict).push (PySem.W.instObj C s.heap.objs.size)).get? (s.heap.objs.size + 1) = some (PySem.W.instObj C s.heap.objs.size) := by
    have := Heap.get?_push_size (s.heap.push PySem.W.emptyDict) (o := PySem.W.instObj C s.heap.objs.size) rfl
    rwa [Heap.size_push] at this
  have e3 : (s.heap.push PySem.W.emptyDict).Ns s.heap.objs.size (fun _ => none) := ⟨PySem.W.emptyDict, #[], _, e1, rfl, (fun e he => absurd he (by simp)), fun _ => rfl⟩
  have I1 := I.laid (a := s.heap.objs.size) (o := .own (s.heap.objs.size + 1)) (h' := s.heap.push PySem.W.emptyDict) (t' := s.toks) (fun b u q => Heap.get?_push_of_some _ q) (Nat.le_refl _) ⟨_, e1⟩
  refine I1.laid (a := s.heap.objs.size + 1) (o := .ins C s.heap.objs.size []) (t' := s.toks) (fun b u q => Heap.get?_push_of_some _ q) (Nat.le_of_eq (Heap.size_push _ _)) ?_
  have ne : s.heap.objs.size ≠ s.heap.objs.size + 1 := Nat.ne_of_lt (Nat.lt_succ_self _)
  refine ⟨by rw [upd_ne ne, upd_same], Nat.zero_le _, ne, e2, fun _ => none, (Heap.Ns1.of_empty e3).at fun o q => Heap.get?_push_of_some _ q, fun _ => True.intro, fun y hy => absurd rfl hy⟩
theorem attr_of {prog : Program} {w : World} {env : Env} {e : Expr} {f : Str} {pos : Pos} {s : Shared} {Q : Value -> Shared -> Prop} (hb : attributeBase e f env (eval e env) = eval e env)
    (h : wpAny (model prog w) A (eval e env) (fun o s₁ => wpAny (model prog w) A (getAttr o f true) Q E s₁) E s) : wpAny (model prog w) A (eval (.Attribute e f pos) env) Q E s :=
  Attribute_any_ h (by rw [arm_eval_Attribute, hb])
end
def tFld (K : PySem.W.Frag) (ta : TE) (f : Str) : TE := fun σ H Q => ta σ H fun x H1 => ∃ a C dx fs v, x = .ref a /\ H1 a = some (.ins C dx fs) /\ Cls K C /\ NoAttr K C f /\ fs.lookup f = some v /\ Q v H1
def sFld (K : PySem.W.Frag) (ta tv : TE) (f : Str) : TS := fun D σ H => tv σ H fun y H1 => ta σ H1 fun x H2 => ∃ a C dx fs, x = .ref a /\ H2 a = some (.ins C dx fs) /\ Cls K C /\ NoAttr K C f /\ fs.length < 1000 /\
  D.nx σ (upd H2 a (.ins C dx (putF f y fs)))
section
variable {X : Cx} {o e value : Expr} {f : Str} {pos pos' tpos : Pos} {ta tv : TE}
theorem pe_fld (he : PE X e ta) (hb : attributeBase e f X.env (eval e X.env) = eval e X.env) : PE X (.Attribute e f pos) (tFld X.K ta f) := by
  intro pins s σ H Q I h
  refine attr_of hb (thn (he pins s σ H _ I h) fun u s1 ⟨x, H1, I1, rx, a, C, dx, fs, v, ex, ea, c, n, l, q⟩ => ?_)
  subst ex
  obtain rfl : u = Value.ref a := rx
  exact getattr_ok I1 ea c n l fun u' s2 I2 ru => ⟨v, H1, I2, ru, q⟩
theorem ps_fld (ha : PE X o ta) (hv : PE X value tv) (hs : swapsWith value (some (.Attribute o f pos')) pos.line X.env = pure false) : PS X (.Assign [.Attribute o f pos'] value pos) (sFld X.K ta tv f) := by
  intro pins s σ H D I h
  refine plainObj_wpAny_Assign_Attribute (thn (hv pins s σ H _ I h) fun u s1 ⟨y, H1, I1, ry, q⟩ => thn (ha pins s1 σ H1 _ I1 q) fun ov s2 ⟨x, H2, I2, rx, a, C, dx, fs, ex, ea, c, n, l, q2⟩ => ?_) hs
  subst ex
  obtain rfl : ov = Value.ref a := rx
  exact setattr_ok I2 ea c n l ry fun s3 I3 => ⟨σ, _, I3, q2⟩
end
section
variable {X : Cx} {pins : List (Addr × Obj)} {σ : St} {H : Hp} {s : Shared} {A : Around} {E : Value -> Shared -> Prop} {Q : Value -> Shared -> Prop} {c : Value} {b : Bool}
inductive TyOf (K : PySem.W.Frag) (H : Hp) : V -> Value -> Prop where
  | non : TyOf K H .non (.type "NoneType")
  | bl (x : Bool) : TyOf K H (.bl x) (.type "bool")
  | int (i : Int) : TyOf K H (.int i) (.type "int")
  | str (x : Str) : TyOf K H (.str x) (.type "str")
  | flt (x : UInt64) : TyOf K H (.flt x) (.type "float")
  | lst {a : Addr} {xs : List V} (e : H a = some (.lst xs)) : TyOf K H (.ref a) (.type "list")
  | frz {a : Addr} {o : Obj} {xs : List V} (e : H a = some (.frz o (.lst xs))) : TyOf K H (.ref a) (.type "list")
  | tup {a : Addr} {xs : List V} (e : H a = some (.tup xs)) : TyOf K H (.ref a) (.type "tuple")
  | dK {a : Addr} {kvs : List (Key × V)} (e : H a = some (.dK kvs)) : TyOf K H (.ref a) (.type "dict")
  | dT {a : Addr} {kvs : List (List Key × V)} (e : H a = some (.dT kvs)) : TyOf K H (.ref a) (.type "dict")
  | ins {a C dx : Addr} {fs : List (Str × V)} (e : H a = some (.ins C dx fs)) (cl : Cls K C) (ha : PySem.W.findIn K (.ref C) "__class__" = some (some (.builtin "object.__class__")))
      (hn : PySem.W.specialIn K (.builtin "object.__class__") "__get__" = some (some (.builtin "getset_descriptor.__get__"))) (htk : PySem.W.takesIn K (.builtin "object.__class__") = some true)
      (hm : PySem.W.mroIn K C (.type "object") = some true) : TyOf K H (.ref a) (.ref C)
theorem isinst_ok {x : V} {u t : Value} (I : Inv X pins σ H s) (rx : RelV x u) (ty : TyOf X.K H x t) (e : PySem.W.kitOne X.K t c = some b) (h : ∀ tk, Q (.bool b) { s with toks := tk }) :
    wpAny (model X.prog X.w) A (call (.builtin "isinstance") [u, c]) Q E s := by
  cases ty with
  | non => cases (show u = Value.none from rx); exact PySem.W.kia_one PySem.W.kitx_none I.kIn True.intro e (fun z => nomatch z) h
  | bl y => cases (show u = Value.bool y from rx); exact PySem.W.kia_one PySem.W.kitx_bool I.kIn True.intro e (fun z => nomatch z) h
  | int i => obtain ⟨t, q⟩ := (show ∃ t, u = Value.int i t from rx); cases q; exact PySem.W.kia_one PySem.W.kitx_int I.kIn True.intro e (fun z => nomatch z) h
  | str y => obtain ⟨t, q⟩ := (show ∃ t, u = Value.str y t from rx); cases q; exact PySem.W.kia_one PySem.W.kitx_str I.kIn True.intro e (fun z => nomatch z) h
  | flt y => obtain ⟨t, q⟩ := (show ∃ t, u = Value.float y t from rx); cases q; exact PySem.W.kia_one PySem.W.kitx_float I.kIn True.intro e (fun z => nomatch z) h
  | @lst a xs ea =>
    cases (show u = Value.ref a from rx)
    obtain ⟨_, _, n, _, h1⟩ := (show ObjOk X.prog X.w H s.heap a (.lst xs) from I.hok a _ ea)
    exact PySem.W.kia_one PySem.W.kitx_list I.kIn ⟨_, h1, rfl⟩ e (fun z => nomatch z) h
  | @frz a ob xs ea =>
    cases (show u = Value.ref a from rx)
    obtain ⟨_, _, _, n, _, h1⟩ := (show ObjOk X.prog X.w H s.heap a (.frz ob (.lst xs)) from I.hok a _ ea)
    exact PySem.W.kia_one PySem.W.kitx_list I.kIn ⟨_, h1, rfl⟩ e (fun z => nomatch z) h
  | @tup a xs ea =>
    cases (show u = Value.ref a from rx)
    obtain ⟨_, _, _, p⟩ := (show ObjOk X.prog X.w H s.heap a (.tup xs) from I.hok a _ ea)
    obtain ⟨o, h1, h2, _⟩ := p
    exact PySem.W.kia_one PySem.W.kitx_tuple I.kIn ⟨o, h1, h2⟩ e (fun z => nomatch z) h
  | @dK a kvs ea =>
    cases (show u = Value.ref a from rx)
    obtain ⟨_, _, vs, _, p⟩ := (show ObjOk X.prog X.w H s.heap a (.dK kvs) from I.hok a _ ea)
    obtain ⟨o, es, ep, h1, h2, _⟩ := p
    exact PySem.W.kia_one PySem.W.kitx_dict I.kIn ⟨o, h1, h2.1⟩ e (fun z => nomatch z) h
  | @dT a kvs ea =>
    cases (show u = Value.ref a from rx)
    obtain ⟨_, _, xs, _, o, es, ep, h1, h2, _⟩ := (show ObjOk X.prog X.w H s.heap a (.dT kvs) from I.hok a _ ea)
    exact PySem.W.kia_one PySem.W.kitx_dict I.kIn ⟨o, h1, h2.1⟩ e (fun z => nomatch z) h
  | @ins a C dx fs ea cl ha hn htk hm =>
    cases (show u = Value.ref a from rx)
    obtain ⟨mA, O, _⟩ := ins_get I.hok ea
    obtain ⟨od, J, _⟩ := O.look
    exact PySem.W.kia_one (PySem.W.kitx_own (cl.get _) cl.hd ha hn htk hm) I.kIn J e (fun z => nomatch z) h
end
end L2
namespace L2
open PySem PySem.Spec PyProof.Rows
structure Room (k : Nat) (A : Around) : Prop where
  hd : A.handled = none
  dp : A.depth + 3 * k + 5 < recursionLimit
  un : A.units + 16 * k + 200 < cLine
theorem Room.mono {j k : Nat} {A : Around} (r : Room k A) (h : j <= k) : Room j A := ⟨r.hd, by have := r.dp; omega, by have := r.un; omega⟩
theorem Room.deeper {k : Nat} {A : Around} (r : Room (k + 1) A) (env : Env) : Room k (A.deeper env) :=
  ⟨r.hd, by have := r.dp; show A.depth + 1 + 3 * k + 5 < _; omega, by have := r.un; show A.units + 3 + 16 * k + 200 < _; omega⟩
theorem make_depth {A : Around} {C : Addr} {us : List Value} {kw : List (Str × Value)} : (A.under (.builtin "type.__call__" ⟨.ref C :: us, kw⟩)).depth = A.depth + 1 := by
  first | rfl | simp [Around.under, Code.weight, Code.isCreation, Code.isGuard, Code.isCaller, Code.frames, Code.isFrame, guardIds]
theorem make_units {A : Around} {C : Addr} {us : List Value} {kw : List (Str × Value)} : (A.under (.builtin "type.__call__" ⟨.ref C :: us, kw⟩)).units = A.units + 1 := by
  first | rfl | simp [Around.under, Code.cUnits, Code.frames, Code.isFrame]
theorem Room.make {k : Nat} {A : Around} (r : Room (k + 1) A) (C : Addr) (us : List Value) (kw : List (Str × Value)) : Room k (A.under (.builtin "type.__call__" ⟨.ref C :: us, kw⟩)) :=
  ⟨r.hd, by have := r.dp; rw [make_depth]; omega, by have := r.un; rw [make_units]; omega⟩
theorem Room.depth {k : Nat} {A : Around} (r : Room k A) : A.depth < recursionLimit := by have := r.dp; omega
theorem Room.units {k : Nat} {A : Around} (r : Room k A) : A.units + 64 < cLine := by have := r.un; omega
def tNil : TA := fun _ H Q => Q [] H
def tCons (ta : TE) (tr : TA) : TA := fun σ H Q => ta σ H fun x H1 => tr σ H1 fun xs H2 => Q (x :: xs) H2
section
variable {X : Cx} {e : Expr} {es : List Expr} {te : TE} {t : TA} {pos : Pos}
theorem pa_nil : PA X [] tNil := fun _ _ _ _ H Q I h => Calls.spliced_nil ⟨[], H, I, .nil, h⟩
theorem pa_cons (ha : PE X e te) (hr : PA X es t) (hs : starEach (e :: es) X.env = (false, eval e X.env) :: starEach es X.env := by rfl) : PA X (e :: es) (tCons te t) := by
  intro pos pins s σ H Q I h
  rw [hs]
  show wpAny _ _ (spliced ((false, eval e X.env) :: backTo pos (starEach es X.env))) _ _ s
  refine Calls.spliced_cons (thn (ha pins s σ H _ I h) fun u s1 ⟨x, H1, I1, r1, q1⟩ => ?_)
  exact thn (hr pos pins s1 σ H1 _ I1 q1) fun us s2 ⟨xs, H2, I2, r2, q2⟩ => ⟨x :: xs, H2, I2, .cons r1 r2, q2⟩
end
abbrev Sp := List V -> Hp -> VK -> XK -> Prop
abbrev CXT := List Env -> Hp -> Shared -> XK -> Value -> Shared -> Prop
structure Env0 (P : Program) (w : World) (K : PySem.W.Frag) (mg : Str -> Option Value) (base : Heap) (A : Around) (outer : List Env) (s : Shared) (H : Hp) : Prop where
  frames : A.frames = some outer
  mod : Mod K mg base
  bs : ∀ b o, base.get? b = some o -> s.heap.get? b = some o /\ H b = none
  bsz : base.objs.size <= s.heap.objs.size
  funs : s.heap.FunFrames base outer
  frf : ∀ b ∈ frs outer, H b = none
  hok : HOk P w H s.heap
  bare : AllBare s.gens
def CE (outer : List Env) (P : Program) (w : World) (H : Hp) (s : Shared) (Q : VK) (u : Value) (s' : Shared) : Prop :=
  ∃ v H', s'.os = s.os /\ AllBare s'.gens /\ Un (frs outer) [] H H' s.heap s'.heap /\ HOk P w H' s'.heap /\ RelV v u /\ Q v H'
def CR (CX : CXT) (outer : List Env) (P : Program) (w : World) (H : Hp) (s : Shared) (Q : VK) (E : XK) (r : Result) (s' : Shared) : Prop :=
  match r with
  | .ok (.ret u) => CE outer P w H s Q u s'
  | .ok _ => False
  | .error e => CX outer H s E e s'
structure FnOk (P : Program) (w : World) (K : PySem.W.Frag) (mg : Str -> Option Value) (base : Heap) (CX : CXT) (k : Nat) (f : Addr) (fd : FuncData) (ps : List Str) (sp : Sp) : Prop where
  len : ∀ vs H Q E, sp vs H Q E -> vs.length = ps.length
  run : ∀ (A : Around) (outer : List Env) (s : Shared) (H : Hp) (args : Args) (us : List Value) (vs : List V) (Q : VK) (E : XK), Room k A -> Env0 P w K mg base A outer s H -> BindsTo s fd args (ps.zip us) -> Vals vs us -> sp vs H Q E ->
    codeAny (model P w) A (.call (.ref f) args) (CR CX outer P w H s Q E) s
theorem Env0.make {P : Program} {w : World} {K : PySem.W.Frag} {mg : Str -> Option Value} {base : Heap} {A : Around} {outer : List Env} {s : Shared} {H : Hp} (e : Env0 P w K mg base A outer s H) (C : Addr) (us : List Value) (kw : List (Str × Value)) :
    Env0 P w K mg base (A.under (.builtin "type.__call__" ⟨.ref C :: us, kw⟩)) outer s H := ⟨by first | exact e.frames | (simpa [Around.under, Code.envs, Code.isFrame, pushEnvs] using e.frames), e.mod, e.bs, e.bsz, e.funs, e.frf, e.hok, e.bare⟩
section
variable {X : Cx} {pins : List (Addr × Obj)} {σ : St} {H : Hp} {s s' : Shared}
theorem Inv.env0 (I : Inv X pins σ H s) : Env0 X.prog X.w X.K X.mg X.base X.A X.stack s H :=
  ⟨I.ok.frames, I.ok.mod, I.bs, Nat.le_trans I.ok.bsz I.sz, I.stack, I.stkFree, I.hok, I.bare⟩
theorem Inv.after {Q : VK} {u : Value} (I : Inv X pins σ H s) (h : CE X.stack X.prog X.w H s Q u s') : EP X pins σ Q u s' := by
  obtain ⟨v, H', os, bare, un, hok, r, q⟩ := h
  obtain ⟨hh, g, d, t, os'⟩ := s'
  obtain rfl : os' = s.os := os
  exact ⟨v, H', I.call (h' := hh) (g' := g) (d' := d) (t' := t) (ch := []) un hok bare (fun b z => absurd z (by simp)), r, q⟩
end
def tCall (sp : Sp) (dvs : List V) (E : XK) (t : TA) : TE := fun σ H Q => t σ H fun vs H1 => sp (vs ++ dvs) H1 Q E
def tMeth (C : Addr) (m : Str) (sp : Sp) (dvs : List V) (E : XK) (ta : TE) (t : TA) : TE := fun σ H Q => ta σ H fun x H1 => ∃ a dx fs, x = .ref a /\ H1 a = some (.ins C dx fs) /\ fs.lookup m = none /\
  t σ H1 fun vs H2 => sp (x :: (vs ++ dvs)) H2 Q E
def tMake (C : Addr) (sp : Sp) (dvs : List V) (E : XK) (t : TA) : TE := fun σ H Q => t σ H fun vs H1 => ∀ x dx, H1 x = none -> H1 dx = none -> dx ≠ x ->
  sp (.ref x :: (vs ++ dvs)) (upd (upd H1 dx (.own x)) x (.ins C dx [])) (fun v H2 => v = .non /\ Q (.ref x) H2) E
def Binds (K : PySem.W.Frag) (fd : FuncData) (ps : List Str) (ds : List Value) : Prop :=
  ∀ (s : Shared) (us : List Value), K.In s.heap -> (us ++ ds).length = ps.length -> BindsTo s fd ⟨us, []⟩ (ps.zip (us ++ ds))
theorem Binds.all {K : PySem.W.Frag} {fd : FuncData} {ps : List Str} (h : ∀ us : List Value, us.length = ps.length -> bindArgs fd ⟨us, []⟩ = pure (ps.zip us)) : Binds K fd ps [] := fun s us _ hl => by
  rw [List.append_nil] at hl ⊢
  exact .of_eq (h us hl)
def Passes (CX : CXT) (X : Cx) (E : XK) : Prop := ∀ (pins : List (Addr × Obj)) (σ : St) (H : Hp) (s : Shared) (e : Value) (s' : Shared), Inv X pins σ H s -> CX X.stack H s E e s' -> X.xe e s'
section
variable {X : Cx} {CX : CXT} {k : Nat} {f C : Addr} {fd : FuncData} {ps : List Str} {sp : Sp} {dvs : List V} {ds : List Value} {E : XK} {x m : Str} {p pos apos : Pos} {e o : Expr} {es : List Expr} {ta : TE} {t : TA}
theorem run_fn {pins : List (Addr × Obj)} {σ : St} {H : Hp} {s : Shared} {Q : VK} {us : List Value} {vs : List V} (F : FnOk X.prog X.w X.K X.mg X.base CX k f fd ps sp) (hr : Room k X.A) (hb : Binds X.K fd ps ds) (hd : Vals dvs ds) (hx : Passes CX X E)
    (I : Inv X pins σ H s) (r : Vals vs us) (h : sp (vs ++ dvs) H Q E) : wpAny (model X.prog X.w) X.A (call (.ref f) us) (EP X pins σ Q) X.xe s := by
  have r2 : Vals (vs ++ dvs) (us ++ ds) := r.append hd
  have hl : (us ++ ds).length = ps.length := by rw [<- r2.length]; exact F.len _ _ _ _ h
  refine wpAny_call (codeAny_mono (F.run X.A X.stack s H ⟨us, []⟩ (us ++ ds) (vs ++ dvs) Q E hr I.env0 (hb s us I.kIn hl) r2 h) fun r s' hq => ?_)
  cases r with
  | error e => exact hx pins σ H s e s' I hq
  | ok fl =>
    cases fl with
    | ret u => exact I.after hq
    | next => exact False.elim hq
    | brk => exact False.elim hq
    | cont => exact False.elim hq
theorem pe_call (F : FnOk X.prog X.w X.K X.mg X.base CX k f fd ps sp) (hr : Room k X.A) (hg : Gl X x) (hm : X.mg x = some (.ref f)) (hk : PySem.W.keepIn X.K (.ref f) = true) (hb : Binds X.K fd ps ds) (hd : Vals dvs ds) (hx : Passes CX X E)
    (ha : PA X (e :: es) t) (hdb : (x == ("__debug__" : Str)) = false := by decide) (he : starEach (e :: es) X.env = (false, eval e X.env) :: starEach es X.env := by rfl) (hpl : (backTo pos (starEach es X.env)).any (·.1) = false := by rfl) :
    PE X (.Call (.Name x p) (e :: es) [] pos) (tCall sp dvs E t) := by
  intro pins s σ H Q I h
  refine wpAny_Call_Name_kw (ld_glob I hg hm ?_ hdb)
  refine PySem.W.callWith_K (h₀ := X.base) I.ok.mod.kin hk (thn (ha pos pins s σ H _ I h) fun us s1 ⟨vs, H1, I1, r, q⟩ => ⟨I1.kIn, ?_⟩) he hpl
  exact run_fn F hr hb hd hx I1 r q
theorem pe_meth {pl : Sem Bool} (he : PE X o ta) (c : Cls X.K C) (hm : Meth X.K C m f) (F : FnOk X.prog X.w X.K X.mg X.base CX k f fd ps sp) (hr : Room k X.A) (hb : Binds X.K fd ps ds) (hd : Vals dvs ds) (hx : Passes CX X E) (ha : PA X (e :: es) t)
    (hst : starEach (e :: es) X.env = (false, eval e X.env) :: starEach es X.env := by rfl) (hpl : (backTo pos (starEach es X.env)).any (·.1) = false := by rfl)
    (ht : eval (.Call (.Attribute o m apos) (e :: es) [] pos) X.env = (do
      let ov <- eval o X.env
      standAt apos.atName
      let (f, first) <- holding [ov] (getMethod ov m pl)
      callWith pos f first (backTo pos (starEach (e :: es) X.env)) (backToKw pos (keywordEach [] X.env))) := by rfl) :
    PE X (.Call (.Attribute o m apos) (e :: es) [] pos) (tMeth C m sp dvs E ta t) := by
  intro pins s σ H Q I h
  refine PySem.W.methodCall_KW (pl := pl) (thn (he pins s σ H _ I h) fun u s1 ⟨x, H1, I1, rx, a, dx, fs, ex, ea, l, q⟩ => ?_) ht
  subst ex
  obtain rfl : u = Value.ref a := rx
  refine getmeth_ok I1 ea c hm l ?_
  refine PySem.W.callWith_K (first := [.ref a]) (h₀ := X.base) I.ok.mod.kin hm.kp (thn (ha pos pins s1 σ H1 _ I1 q) fun us s2 ⟨vs, H2, I2, r, q2⟩ => ⟨I2.kIn, ?_⟩) hst hpl
  exact run_fn (us := .ref a :: us) (vs := .ref a :: vs) F hr hb hd hx I2 (.cons rfl r) q2
theorem pe_meth0 {pl : Sem Bool} (he : PE X o ta) (c : Cls X.K C) (hm : Meth X.K C m f) (F : FnOk X.prog X.w X.K X.mg X.base CX k f fd ps sp) (hr : Room k X.A) (hb : Binds X.K fd ps ds) (hd : Vals dvs ds) (hx : Passes CX X E)
    (ht : eval (.Call (.Attribute o m apos) [] [] pos) X.env = (do
      let ov <- eval o X.env
      standAt apos.atName
      let (f, first) <- holding [ov] (getMethod ov m pl)
      callWith pos f first (backTo pos (starEach [] X.env)) (backToKw pos (keywordEach [] X.env))) := by rfl) :
    PE X (.Call (.Attribute o m apos) [] [] pos) (tMeth C m sp dvs E ta tNil) := by
  intro pins s σ H Q I h
  refine PySem.W.methodCall_KW (pl := pl) (thn (he pins s σ H _ I h) fun u s1 ⟨x, H1, I1, rx, a, dx, fs, ex, ea, l, q⟩ => ?_) ht
  subst ex
  obtain rfl : u = Value.ref a := rx
  refine getmeth_ok I1 ea c hm l ?_
  exact PySem.W.callWith_K0 (first := [.ref a]) I1.kIn hm.kp (run_fn (us := [.ref a]) (vs := [.ref a]) F hr hb hd hx I1 (.cons rfl .nil) q)
structure Mk (K : PySem.W.Frag) (C f : Addr) : Prop where
  makes : PySem.W.makesIn K C = true
  init : PySem.W.findIn K (.ref C) "__init__" = some (some (.ref f))
  fn : PySem.W.isFn K (.ref f) = true
  kp : PySem.W.keepIn K (.ref C) = true
theorem run_make {pins : List (Addr × Obj)} {σ : St} {H : Hp} {s : Shared} {Q : VK} {us : List Value} {vs : List V} (M : Mk X.K C f) (F : FnOk X.prog X.w X.K X.mg X.base CX k f fd ps sp) (hr : Room (k + 1) X.A) (hb : Binds X.K fd ps ds) (hd : Vals dvs ds)
    (hx : Passes CX X E) (I : Inv X pins σ H s) (r : Vals vs us)
    (h : ∀ x dx, H x = none -> H dx = none -> dx ≠ x -> sp (.ref x :: (vs ++ dvs)) (upd (upd H dx (.own x)) x (.ins C dx [])) (fun v H2 => v = .non /\ Q (.ref x) H2) E) :
    wpAny (model X.prog X.w) X.A (call (.ref C) us) (EP X pins σ Q) X.xe s := by
  have hq := h (s.heap.objs.size + 1) s.heap.objs.size (I.hok.fresh (Nat.le_succ _)) (I.hok.fresh (Nat.le_refl _)) (Nat.ne_of_lt (Nat.lt_succ_self _))
  have I2 := Inv.made (C := C) I
  have r2 : Vals (V.ref (s.heap.objs.size + 1) :: (vs ++ dvs)) (Value.ref (s.heap.objs.size + 1) :: (us ++ ds)) := .cons rfl (r.append hd)
  have hl : (Value.ref (s.heap.objs.size + 1) :: us ++ ds).length = ps.length := by
    have e := r2.length
    rw [F.len _ _ _ _ hq] at e
    exact e.symm
  refine wpAny_call (make_map (f := f) I.kIn M.makes M.init (beq_iff_eq.mp M.fn) (codeAny_mono (F.run _ X.stack _ _ ⟨Value.ref (s.heap.objs.size + 1) :: us, []⟩ (Value.ref (s.heap.objs.size + 1) :: (us ++ ds)) _ _ E (hr.make C us [])
    (I2.env0.make C us []) (hb _ (Value.ref (s.heap.objs.size + 1) :: us) I2.kIn hl) r2 hq) fun r s' hq' => ?_))
  cases r with
  | error e => exact hx pins σ _ _ e s' I2 hq'
  | ok fl =>
    cases fl with
    | ret u =>
      obtain ⟨v, H', I3, rv, ev, q3⟩ := I2.after hq'
      subst ev
      exact ⟨rv, ⟨V.ref (s.heap.objs.size + 1), H', I3, rfl, q3⟩⟩
    | next => exact False.elim hq'
    | brk => exact False.elim hq'
    | cont => exact False.elim hq'
theorem pe_make (M : Mk X.K C f) (F : FnOk X.prog X.w X.K X.mg X.base CX k f fd ps sp) (hr : Room (k + 1) X.A) (hg : Gl X x) (hm : X.mg x = some (.ref C)) (hb : Binds X.K fd ps ds) (hd : Vals dvs ds) (hx : Passes CX X E)
    (ha : PA X (e :: es) t) (hdb : (x == ("__debug__" : Str)) = false := by decide) (he : starEach (e :: es) X.env = (false, eval e X.env) :: starEach es X.env := by rfl) (hpl : (backTo pos (starEach es X.env)).any (·.1) = false := by rfl) :
    PE X (.Call (.Name x p) (e :: es) [] pos) (tMake C sp dvs E t) := by
  intro pins s σ H Q I h
  refine wpAny_Call_Name_kw (ld_glob I hg hm ?_ hdb)
  refine PySem.W.callWith_K (h₀ := X.base) I.ok.mod.kin M.kp (thn (ha pos pins s σ H _ I h) fun us s1 ⟨vs, H1, I1, r, q⟩ => ⟨I1.kIn, ?_⟩) he hpl
  exact run_make M F hr hb hd hx I1 r q
end
section
variable {X : Cx} {CX : CXT} {k : Nat} {f C : Addr} {fd : FuncData} {ps ks : List Str} {sp : Sp} {E : XK} {x m : Str} {p pos apos kpos : Pos} {e o : Expr} {es : List Expr} {kws : List Keyword} {te ta : TE} {t tk : TA} {nm : Option Str}
structure KBinds (K : PySem.W.Frag) (fd : FuncData) (ps ks : List Str) (g : List Value -> List Value -> List Value) (gV : List V -> List V -> List V) : Prop where
  to : ∀ (s : Shared) (us ws : List Value), K.In s.heap -> (g us ws).length = ps.length -> BindsTo s fd ⟨us, ks.zip ws⟩ (ps.zip (g us ws))
  rel : ∀ {vs : List V} {us : List Value} {zs : List V} {ws : List Value}, Vals vs us -> Vals zs ws -> Vals (gV vs zs) (g us ws)
variable {g : List Value -> List Value -> List Value} {gV : List V -> List V -> List V}
end
structure FnScope (N P : List Str) (sc : Scope) : Prop where
  kind : sc.kind = .function
  co : sc.isCoroutine = false
  gen : sc.isGenerator = false
  nd : N.Nodup
  pre : N.take P.length = P
  par : ∀ x ∈ P, sc.names.lookup x = some .local \/ sc.names.lookup x = some .cell
  nofree : ∀ y ∈ sc.names, y.2 ≠ .free
theorem bindL_out {kindOf : Str -> Option NameKind} {x : Str} : ∀ {binds : List (Str × Value)} {m : Str -> Option Value}, (∀ v, (x, v) ∉ binds) -> bindL kindOf binds m x = m x
  | [], _, _ => rfl
  | (n, v) :: r, m, h => by
    unfold bindL
    rw [bindL_out fun w hw => h w (List.mem_cons_of_mem _ hw)]
    split
    · have : x ≠ n := by rintro rfl; exact h v List.mem_cons_self
      simp [this]
    · rfl
theorem bindC_out {kindOf : Str -> Option NameKind} {x : Str} : ∀ {binds : List (Str × Value)} {m : Str -> Option Value}, (∀ v, (x, v) ∉ binds) -> bindC kindOf binds m x = m x
  | [], _, _ => rfl
  | (n, v) :: r, m, h => by
    unfold bindC
    rw [bindC_out fun w hw => h w (List.mem_cons_of_mem _ hw)]
    split
    · rfl
    · have : x ≠ n := by rintro rfl; exact h v List.mem_cons_self
      simp [this]
theorem bindL_get {kindOf : Str -> Option NameKind} {x : Str} {v : Value} : ∀ {P : List Str} {vs : List Value} {i : Nat} {m : Str -> Option Value}, P.Nodup -> P[i]? = some x -> vs[i]? = some v -> kindOf x = some .local ->
    bindL kindOf (P.zip vs) m x = some v
  | [], _, _, _, _, h, _, _ => by simp at h
  | _ :: _, [], _, _, _, _, h, _ => by simp at h
  | p :: P, w :: vs, 0, m, nd, h1, h2, hk => by
    simp at h1 h2; subst h1; subst h2
    show bindL kindOf ((p, w) :: P.zip vs) m p = _
    unfold bindL
    rw [bindL_out fun v hv => (List.nodup_cons.mp nd).1 (List.of_mem_zip hv).1, if_pos hk]
    simp
  | p :: P, w :: vs, i + 1, m, nd, h1, h2, hk => by
    show bindL kindOf ((p, w) :: P.zip vs) m x = _
    unfold bindL
    exact bindL_get (i := i) (List.nodup_cons.mp nd).2 (by simpa using h1) (by simpa using h2) hk
theorem bindC_get {kindOf : Str -> Option NameKind} {x : Str} {v : Value} : ∀ {P : List Str} {vs : List Value} {i : Nat} {m : Str -> Option Value}, P.Nodup -> P[i]? = some x -> vs[i]? = some v -> kindOf x ≠ some .local ->
    bindC kindOf (P.zip vs) m x = some v
  | [], _, _, _, _, h, _, _ => by simp at h
  | _ :: _, [], _, _, _, _, h, _ => by simp at h
  | p :: P, w :: vs, 0, m, nd, h1, h2, hk => by
    simp at h1 h2; subst h1; subst h2
    show bindC kindOf ((p, w) :: P.zip vs) m p = _
    unfold bindC
    rw [bindC_out fun v hv => (List.nodup_cons.mp nd).1 (List.of_mem_zip hv).1, if_neg hk]
    simp
  | p :: P, w :: vs, i + 1, m, nd, h1, h2, hk => by
    show bindC kindOf ((p, w) :: P.zip vs) m x = _
    unfold bindC
    exact bindC_get (i := i) (List.nodup_cons.mp nd).2 (by simpa using h1) (by simpa using h2) hk
def start (N : List Str) (vs : List V) : St := vs.map some ++ List.replicate (N.length - vs.length) none
def cxOf (CX : CXT) (P : Program) (w : World) (K : PySem.W.Frag) (mg : Str -> Option Value) (base : Heap) (N : List Str) (qual : Str) (scope : Scope) (f : Addr) (cd : Value) (A : Around) (outer : List Env) (s : Shared) (H : Hp) (E : XK) : Cx where
  prog := P
  w := w
  K := K
  mg := mg
  base := base
  A := A.deeper (envOfC qual scope s.heap.objs.size f cd)
  N := N
  s₀ := s
  H₀ := H
  env := envOfC qual scope s.heap.objs.size f cd
  outer := outer
  stack := envOfC qual scope s.heap.objs.size f cd :: outer
  ex := []
  calm := true
  fn := fun _ => true
  pn := []
  xe := fun e s' => wpAny (model P w) (A.deeper (envOfC qual scope s.heap.objs.size f cd)) (leaving (envOfC qual scope s.heap.objs.size f cd) e) (fun _ s'' => CX outer H s E e s'') (fun e' s'' => CX outer H s E e' s'') s'
theorem cell_has {sc : Scope} {n : Nat} {x : Str} (h : sc.names.lookup x = some .cell) : ∃ c, (cellsFrom n sc.names []).lookup x = some c := by
  have q := PySem.W.cellsFrom_some sc.names n [] (.inl h)
  exact Option.isSome_iff_exists.mp q
theorem inv_start {CX : CXT} {P : Program} {w : World} {K : PySem.W.Frag} {mg : Str -> Option Value} {base : Heap} {N ps : List Str} {qual : Str} {scope : Scope} {f : Addr} {cd : Value} {A : Around} {outer : List Env} {s s1 : Shared} {H : Hp} {E : XK} {us : List Value} {vs : List V}
    (S : FnScope N ps scope) (hd : A.handled = none) (e0 : Env0 P w K mg base A outer s H) (hl : vs.length = ps.length) (r : Vals vs us)
    (x : InCallC s s.heap.objs.size (bindL (envOfC qual scope s.heap.objs.size f cd).kindOf (ps.zip us) fun _ => none) (cellsFrom (s.heap.objs.size + 1) scope.names []) (bindC (envOfC qual scope s.heap.objs.size f cd).kindOf (ps.zip us) fun _ => none) s1) :
    Inv (cxOf CX P w K mg base N qual scope f cd A outer s H E) [] (start N vs) H s1 := by
  have hpl : ps.length <= N.length := by have := congrArg List.length S.pre; rw [List.length_take] at this; omega
  obtain ⟨h1, tk, rfl, hk⟩ := x.done
  have noA : ∀ b : Addr, b ∉ (cxOf CX P w K mg base N qual scope f cd A outer s H E).ex := fun b z => absurd (show b ∈ ([] : List Addr) from z) (by simp)
  refine ⟨⟨e0.mod, S.kind, rfl, rfl, Nat.le_refl _, fun y z c h1 h2 => ?_, fun y hy => ?_, fun y c _ h => ?_, fun _ => hd, Around.frames_deeper e0.frames, .inr ⟨rfl, rfl⟩, fun b z => absurd z (noA b), e0.bs, e0.bsz, fun b _ _ => noA b, fun b z => absurd z (noA b), e0.funs, e0.frf⟩,
    rfl, e0.bare, Un.kept hk, ⟨_, x.toInCall.ns, fun i y v h1 h2 h3 => ?_⟩, fun y c h => ⟨_, x.cell y c h⟩, e0.hok.fresh (Nat.le_refl _), fun y c h => ?_, fun p hp => absurd (show p ∈ ([] : List (Addr × Obj)) from hp) (by simp), e0.hok.kept hk, ?_⟩
  · exact name_of_addr x.apart (PySem.mem_of_lookup h1) (PySem.mem_of_lookup h2)
  · have hy : scope.names.lookup y = some .cell \/ scope.names.lookup y = some .free := hy
    rcases hy with hy | hy
    · exact cell_has hy
    · exact absurd rfl (S.nofree _ (PySem.mem_of_lookup hy))
  · exact Nat.le_of_lt (x.above y c (PySem.mem_of_lookup h))
  · have hi : i < vs.length := by
      unfold start at h2
      by_cases hi : i < vs.length
      · exact hi
      · rw [List.getElem?_append_right (by simpa using hi)] at h2
        rw [List.getElem?_replicate] at h2
        split at h2 <;> cases h2
    have ha : vs[i]? = some v := by
      unfold start at h2
      rw [List.getElem?_append_left (by simpa using hi), List.getElem?_map] at h2
      cases e : vs[i]? with
      | none => rw [e] at h2; cases h2
      | some a => rw [e] at h2; cases h2; rfl
    obtain ⟨u, hu, rv⟩ := r.get ha
    have hp : ps[i]? = some y := by
      rw [<- S.pre, List.getElem?_take_of_lt (by omega)]; exact h1
    have ndP : ps.Nodup := by rw [<- S.pre]; exact S.nd.sublist (List.take_sublist _ _)
    refine ⟨u, rv, ?_⟩
    rcases S.par y (List.mem_of_getElem? hp) with k | k
    · exact .inl ⟨k, bindL_get ndP hp hu k⟩
    · obtain ⟨c, e⟩ := cell_has (n := s.heap.objs.size + 1) k
      refine .inr ⟨.inl k, c, e, ?_⟩
      have q := x.cell y c e
      rw [bindC_get ndP hp hu (by show scope.names.lookup y ≠ _; rw [k]; decide)] at q
      exact q
  · exact e0.hok.fresh (Nat.le_of_lt (x.above y c (PySem.mem_of_lookup h)))
  · unfold start
    show _ = N.length
    rw [List.length_append, List.length_map, List.length_replicate]
    omega
theorem fn_of {CX : CXT} {P : Program} {w : World} {K : PySem.W.Frag} {mg : Str -> Option Value} {base : Heap} {k : Nat} {f : Addr} {name qual : Str} {params : Arguments} {body : List Stmt} {scope : Scope} {dV kV doc pm cdv ct oc : Value} {an od : Option Addr}
    {osl : Array (Option Value)} {N ps : List Str} {sp : Sp} (lk : K.lookup f = some ⟨oc, od, .func (PySem.W.fnOf name qual params body scope dV kV doc pm an cdv ct), osl⟩) (hcd : PySem.W.codeIn K cdv qual = true) (S : FnScope N ps scope)
    (len : ∀ vs H Q E, sp vs H Q E -> vs.length = ps.length)
    (hbody : ∀ (A : Around) (outer : List Env) (s : Shared) (H : Hp) (vs : List V) (Q : VK) (E : XK), Room k (A.deeper (envOfC qual scope s.heap.objs.size f cdv)) -> sp vs H Q E ->
      ∃ t, PSs (cxOf CX P w K mg base N qual scope f cdv A outer s H E) body t /\ t { nx := fun _ H' => Q .non H', rt := Q } (start N vs) H) :
    FnOk P w K mg base CX (k + 1) f (PySem.W.fnOf name qual params body scope dV kV doc pm an cdv ct) ps sp := by
  refine ⟨len, fun A outer s H args us vs Q E hr e0 hb r hsp => ?_⟩
  have hl := len _ _ _ _ hsp
  have KX : K.In s.heap := e0.mod.kin.keeps fun b o e => (e0.bs b o e).1
  have lim : s.heap.NoLimit := e0.mod.nolimit.keeps fun b o e => (e0.bs b o e).1
  have hkind : ∀ y ∈ ps.zip us, scope.names.lookup y.1 = some .local \/ (scope.names.lookup y.1 = some .cell /\ ((cellsFrom (s.heap.objs.size + 1) scope.names []).lookup y.1).isSome = true) := fun ⟨n, v⟩ hy => by
    rcases S.par n (List.of_mem_zip hy).1 with q | q
    · exact .inl q
    · exact .inr ⟨q, PySem.W.cellsFrom_some _ _ _ (.inl q)⟩
  refine codeAny_call_function hr.depth (KX _ _ lk) rfl S.co S.gen rfl (PySem.W.codeRec_of KX hcd) (hb _ _ _ _ ?_)
  refine wpAny_newFunctionEnv_cells S.kind hkind fun env he s1 x => ?_
  subst he
  refine ⟨lim.keeps x.toInCall.keep, codeAny_func ?_⟩
  obtain ⟨t, ht, hq⟩ := hbody A outer s H vs Q E (hr.deeper _) hsp
  have I : Inv (cxOf CX P w K mg base N qual scope f cdv A outer s H E) [] (start N vs) H s1 := inv_start S hr.hd e0 hl r x
  refine wpAny_mono (ht [] s1 (start N vs) H _ I hq) (fun fl s' hs => ?_) fun e s' hs => hs
  have fin : ∀ {σ' : St} {H' : Hp} {v : V} {u : Value}, Inv (cxOf CX P w K mg base N qual scope f cdv A outer s H E) [] σ' H' s' -> RelV v u -> Q v H' -> CE outer P w H s Q u s' :=
    fun {σ' H' v u} J rv q => ⟨v, H', J.os, J.bare, J.base, J.hok, rv, q⟩
  cases fl with
  | ret u =>
    obtain ⟨v, σ', H', J, rv, q⟩ := hs
    exact fin J rv q
  | next =>
    obtain ⟨σ', H', J, q⟩ := hs
    exact fin (v := V.non) (u := Value.none) J rfl q
  | brk =>
    obtain ⟨_, _, _, q⟩ := hs
    exact False.elim q
  | cont =>
    obtain ⟨_, _, _, q⟩ := hs
    exact False.elim q
end L2
namespace L2
open PySem PySem.Spec PyProof.Rows
section
variable {X : Cx} {x : Str} {p pos : Pos} {e : Expr} {es : List Expr} {t : TA} {id T : String} {r : List V -> Hp -> VK -> Prop}
def tCB (r : List V -> Hp -> VK -> Prop) (t : TA) : TE := fun σ H Q => t σ H fun vs H1 => r vs H1 Q
theorem pe_callB (hc : CallR X (.builtin id) r) (hg : Gl X x) (hm : X.mg x = none) (hv : bootBuiltins x = some (.builtin id)) (ha : PA X (e :: es) t) (hn : x ≠ "__name__" := by decide) (hdb : (x == ("__debug__" : Str)) = false := by decide)
    (he : starEach (e :: es) X.env = (false, eval e X.env) :: starEach es X.env := by rfl) (hpl : (backTo pos (starEach es X.env)).any (·.1) = false := by rfl) : PE X (.Call (.Name x p) (e :: es) [] pos) (tCB r t) := by
  intro pins s σ H Q I h
  refine wpAny_Call_Name_kw (ld_blt I hg hm hv ?_ hn hdb)
  exact PyProof.Rows.callWith_builtin1 (thn (ha pos pins s σ H _ I h) fun us s1 ⟨vs, H1, I1, r1, q1⟩ => hc pins s1 σ H1 vs us Q I1 r1 q1) he hpl
theorem pe_callTy (hc : CallR X (.type T) r) (hg : Gl X x) (hm : X.mg x = none) (hv : bootBuiltins x = some (.type T)) (ha : PA X (e :: es) t) (hn : x ≠ "__name__" := by decide) (hdb : (x == ("__debug__" : Str)) = false := by decide)
    (he : starEach (e :: es) X.env = (false, eval e X.env) :: starEach es X.env := by rfl) (hpl : (backTo pos (starEach es X.env)).any (·.1) = false := by rfl) : PE X (.Call (.Name x p) (e :: es) [] pos) (tCB r t) := by
  intro pins s σ H Q I h
  refine wpAny_Call_Name_kw (ld_blt I hg hm hv ?_ hn hdb)
  exact PyProof.Rows.callWith_type1 (thn (ha pos pins s σ H _ I h) fun us s1 ⟨vs, H1, I1, r1, q1⟩ => hc pins s1 σ H1 vs us Q I1 r1 q1) he hpl
end
end L2
namespace L2
open PySem PySem.Spec PyProof.Rows
section
variable {κ : Type} [DecidableEq κ]
def valV (kvs : List (κ × V)) (k : κ) : Option V := (kvs.find? fun kv => decide (kv.1 = k)).map (·.2)
def putK (kvs : List (κ × V)) (k : κ) (v : V) : List (κ × V) :=
  if (kvs.any fun kv => decide (kv.1 = k)) = true then kvs.map (fun kv => if kv.1 = k then (kv.1, v) else kv) else kvs ++ [(k, v)]
theorem valV_pos {p : κ × V} {r : List (κ × V)} {k : κ} (e : p.1 = k) : valV (p :: r) k = some p.2 := by simp [valV, List.find?_cons, e]
theorem valV_neg {p : κ × V} {r : List (κ × V)} {k : κ} (e : ¬ p.1 = k) : valV (p :: r) k = valV r k := by simp [valV, List.find?_cons, e]
theorem valV_any (k : κ) : ∀ kvs : List (κ × V), (kvs.any fun kv => decide (kv.1 = k)) = (valV kvs k).isSome
  | [] => rfl
  | p :: r => by
    rw [List.any_cons]
    by_cases e : p.1 = k
    · simp only [valV_pos e, decide_eq_true e, Bool.true_or, Option.isSome_some]
    · rw [valV_neg e, decide_eq_false e, Bool.false_or]; exact valV_any k r
theorem valV_map (k j : κ) (y : V) : ∀ kvs : List (κ × V), valV (kvs.map fun kv => if kv.1 = k then (kv.1, y) else kv) j = (valV kvs j).map fun x => if j = k then y else x
  | [] => rfl
  | p :: r => by
    have ih := valV_map k j y r
    rw [List.map_cons]
    by_cases h : p.1 = k
    · rw [if_pos h]
      by_cases e : p.1 = j
      · rw [valV_pos (p := (p.1, y)) e, valV_pos e, Option.map_some, if_pos (e.symm.trans h)]
      · rw [valV_neg (p := (p.1, y)) e, valV_neg e, ih]
    · rw [if_neg h]
      by_cases e : p.1 = j
      · rw [valV_pos (p := p) e, valV_pos e, Option.map_some, if_neg (fun z => h (e.trans z))]
      · rw [valV_neg (p := p) e, valV_neg e, ih]
theorem valV_snoc (k j : κ) (y : V) : ∀ kvs : List (κ × V), valV kvs k = none -> valV (kvs ++ [(k, y)]) j = if j = k then some y else valV kvs j
  | [], _ => by
    by_cases e : k = j
    · rw [if_pos e.symm]; exact valV_pos (p := (k, y)) e
    · rw [if_neg (fun z => e z.symm)]; exact valV_neg (p := (k, y)) e
  | p :: r, hn => by
    rw [List.cons_append]
    have hk : ¬ p.1 = k := fun z => by rw [valV_pos z] at hn; cases hn
    rw [valV_neg hk] at hn
    have ih := valV_snoc k j y r hn
    by_cases e : p.1 = j
    · rw [valV_pos e, valV_pos e, if_neg (fun z => hk (e.trans z))]
    · rw [valV_neg e, valV_neg e, ih]
theorem valV_put (kvs : List (κ × V)) (k j : κ) (y : V) : valV (putK kvs k y) j = if j = k then some y else valV kvs j := by
  unfold putK
  by_cases a : (kvs.any fun kv => decide (kv.1 = k)) = true
  · rw [if_pos a, valV_map]
    rw [valV_any] at a
    by_cases e : j = k
    · obtain ⟨x, hx⟩ := Option.isSome_iff_exists.mp a
      rw [if_pos e, e, hx, Option.map_some, if_pos rfl]
    · rw [if_neg e]
      cases valV kvs j with
      | none => rfl
      | some x => rw [Option.map_some, if_neg e]
  · rw [if_neg a]
    refine valV_snoc k j y kvs ?_
    rw [valV_any] at a
    cases q : valV kvs k with
    | none => rfl
    | some x => rw [q] at a; exact (a rfl).elim
theorem length_putK (kvs : List (κ × V)) (k : κ) (v : V) : (putK kvs k v).length <= kvs.length + 1 := by
  unfold putK
  split
  · rw [List.length_map]; omega
  · rw [List.length_append, List.length_cons, List.length_nil]; omega
theorem putK_new {kvs : List (κ × V)} {k : κ} (v : V) (h : valV kvs k = none) : putK kvs k v = kvs ++ [(k, v)] := by
  unfold putK
  rw [valV_any, h]
  exact if_neg (by decide)
theorem RelO.isSome_eq {o : Option V} {u : Option Value} (r : RelO o u) : o.isSome = u.isSome := by
  cases o with
  | none => cases u with
    | none => rfl
    | some _ => exact (show False from r).elim
  | some _ => cases u with
    | none => exact (show False from r).elim
    | some _ => rfl
theorem KV.val {kvs : List (κ × V)} {vs : List (κ × Value)} (r : KV kvs vs) (k : κ) : RelO (valV kvs k) (valueAt vs k) := by
  unfold KV at r
  induction r with
  | nil => exact True.intro
  | @cons p q ps qs h t ih =>
    obtain ⟨h1, h2⟩ := h
    by_cases e : p.1 = k
    · have e' : q.1 = k := h1.symm.trans e
      have b : valueAt (q :: qs) k = some q.2 := by simp [valueAt, List.find?_cons, e']
      rw [valV_pos e, b]; exact h2
    · have e' : ¬ q.1 = k := fun z => e (h1.trans z)
      have b : valueAt (q :: qs) k = valueAt qs k := by simp [valueAt, List.find?_cons, e']
      rw [valV_neg e, b]; exact ih
theorem KV.any {kvs : List (κ × V)} {vs : List (κ × Value)} (r : KV kvs vs) (k : κ) : (kvs.any fun kv => decide (kv.1 = k)) = vs.any fun kv => decide (kv.1 = k) := by
  unfold KV at r
  induction r with
  | nil => rfl
  | cons h t ih => rw [List.any_cons, List.any_cons, ih, h.1]
theorem KV.repl {kvs : List (κ × V)} {vs : List (κ × Value)} (r : KV kvs vs) (k : κ) {y : V} {u : Value} (ry : RelV y u) :
    KV (kvs.map fun kv => if kv.1 = k then (kv.1, y) else kv) (vs.map fun kv => if kv.1 = k then (kv.1, u) else kv) := by
  unfold KV at r ⊢
  induction r with
  | nil => exact .nil
  | @cons p q ps qs h t ih =>
    rw [List.map_cons, List.map_cons]
    refine .cons ?_ ih
    obtain ⟨h1, h2⟩ := h
    by_cases e : p.1 = k
    · rw [if_pos e, if_pos (h1.symm.trans e)]; exact ⟨h1, ry⟩
    · rw [if_neg e, if_neg (fun z => e (h1.trans z))]; exact ⟨h1, h2⟩
theorem KV.put {kvs : List (κ × V)} {vs : List (κ × Value)} (r : KV kvs vs) (k : κ) {y : V} {u : Value} (ry : RelV y u) : KV (putK kvs k y) (stored vs k u) := by
  unfold putK stored
  rw [r.any k]
  by_cases e : (vs.any fun kv => decide (kv.1 = k)) = true
  · rw [if_pos e, if_pos e]; exact r.repl k ry
  · rw [if_neg e, if_neg e]; exact Paired.snoc r ⟨rfl, ry⟩
theorem KV.length {kvs : List (κ × V)} {vs : List (κ × Value)} (r : KV kvs vs) : kvs.length = vs.length := Paired.length r
end
theorem kV_is {P : Program} {w : World} {k : Key} {u : Value} (r : RelV (kV k) u) : (mixKind P w).is k u = true := by
  cases k with
  | inl i => obtain ⟨t, e⟩ := (show ∃ t, u = Value.int i t from r); subst e; exact mixKind_int P w i t
  | inr x => obtain ⟨t, e⟩ := (show ∃ t, u = Value.str x t from r); subst e; exact mixKind_str P w x t
theorem items_are {P : Program} {w : World} : ∀ {ks : List Key} {us : List Value}, Vals (ks.map kV) us -> ItemsAre (mixKind P w) ks us
  | [], _, r => by rw [List.map_nil] at r; cases r; exact .nil
  | k :: ks, _, r => by
    rw [List.map_cons] at r
    cases r with
    | cons h t => exact .cons (kV_is h) (items_are t)
abbrev KT (H : Hp) : List (List Key × V) -> List (List Key × Addr × Value) -> Prop := Paired fun p q => p.1 = q.1 /\ H q.2.1 = some (.tup (p.1.map kV)) /\ RelV p.2 q.2.2
theorem KT.val {H : Hp} {kvs : List (List Key × V)} {xs : List (List Key × Addr × Value)} (r : KT H kvs xs) (k : List Key) : RelO (valV kvs k) ((atKey xs k).map (·.2)) := by
  induction r with
  | nil => exact True.intro
  | @cons p q ps qs h t ih =>
    obtain ⟨h1, _, h2⟩ := h
    by_cases e : p.1 = k
    · have e' : q.1 = k := h1.symm.trans e
      have b : atKey (q :: qs) k = some q.2 := by simp [atKey, List.find?_cons, e']
      rw [valV_pos e, b]; exact h2
    · have e' : ¬ q.1 = k := fun z => e (h1.trans z)
      have b : atKey (q :: qs) k = atKey qs k := by simp [atKey, List.find?_cons, e']
      rw [valV_neg e, b]; exact ih
theorem KT.repl {H : Hp} {kvs : List (List Key × V)} {xs : List (List Key × Addr × Value)} (r : KT H kvs xs) (k : List Key) {y : V} {u : Value} (ry : RelV y u) :
    KT H (kvs.map fun kv => if kv.1 = k then (kv.1, y) else kv) (xs.map (putAt k u)) := by
  induction r with
  | nil => exact .nil
  | @cons p q ps qs h t ih =>
    rw [List.map_cons, List.map_cons]
    refine .cons ?_ ih
    obtain ⟨h1, h2, h3⟩ := h
    unfold putAt
    by_cases e : p.1 = k
    · rw [if_pos e, if_pos (h1.symm.trans e)]; exact ⟨h1, h2, ry⟩
    · rw [if_neg e, if_neg (fun z => e (h1.trans z))]; exact ⟨h1, h2, h3⟩
theorem KT.put {H : Hp} {kvs : List (List Key × V)} {xs : List (List Key × Addr × Value)} (r : KT H kvs xs) (k : List Key) {b : Addr} {y : V} {u : Value} (hb : H b = some (.tup (k.map kV))) (ry : RelV y u) :
    KT H (putK kvs k y) (storedH xs k b u) := by
  have e : (kvs.any fun kv => decide (kv.1 = k)) = (atKey xs k).isSome := by
    rw [valV_any, (r.val k).isSome_eq, Option.isSome_map]
  unfold putK storedH
  rw [e]
  by_cases q : (atKey xs k).isSome = true
  · rw [if_pos q, if_pos q]; exact r.repl k ry
  · rw [if_neg q, if_neg q]; exact Paired.snoc r ⟨rfl, hb, ry⟩
theorem KT.keeps {H H' : Hp} {kvs : List (List Key × V)} {xs : List (List Key × Addr × Value)} (r : KT H kvs xs) (ht : ∀ b ys, H b = some (.tup ys) -> H' b = some (.tup ys)) : KT H' kvs xs :=
  Paired.mapP r fun _ _ z => ⟨z.1, ht _ _ z.2.1, z.2.2⟩
section
variable {P : Program} {w : World} {H : Hp} {h : Heap} {a : Addr}
theorem rd_of {u : HO} (ok : HOk P w H h) (e : Rd H a u) : ObjOk P w H h a u := e.ok ok
theorem dk_rd {kvs : List (Key × V)} (ok : HOk P w H h) (e : Rd H a (.dK kvs)) : kvs.length <= sizeLine /\ (a == sysModules) = false /\ ∃ vs, KV kvs vs /\ h.DictOf (mixKind P w) a vs :=
  show ObjOk P w H h a (.dK kvs) from rd_of ok e
theorem dk_of {kvs : List (Key × V)} (ok : HOk P w H h) (e : H a = some (.dK kvs)) : kvs.length <= sizeLine /\ (a == sysModules) = false /\ ∃ vs, KV kvs vs /\ h.DictOf (mixKind P w) a vs := dk_rd ok (.inl e)
theorem key_of {ks : List Key} (ok : HOk P w H h) (e : H a = some (.tup (ks.map kV))) : (tupleKind (mixKind P w)).is h ks a := by
  obtain ⟨_, its, r, o, h1, h2, n, h3⟩ := (show ObjOk P w H h a (.tup (ks.map kV)) from ok a _ e)
  exact ⟨o, its.toArray, n, h1, h2, h3, by simpa using items_are r⟩
theorem dt_rd {kvs : List (List Key × V)} (ok : HOk P w H h) (e : Rd H a (.dT kvs)) : kvs.length <= sizeLine /\ (a == sysModules) = false /\
    ∃ xs, KT H kvs xs /\ h.DictOfH (tupleKind (mixKind P w)) a xs := by
  obtain ⟨z, y, xs, r, o, es, ep, h1, h2, h3, h4, h5⟩ := (show ObjOk P w H h a (.dT kvs) from rd_of ok e)
  refine ⟨z, y, xs, r, o, es, ep, h1, h2, h3, h4, fun x hx => ?_, h5⟩
  have all : ∀ {l : List (List Key × V)} {m : List (List Key × Addr × Value)}, KT H l m -> ∀ x ∈ m, (tupleKind (mixKind P w)).is h x.1 x.2.1 := by
    intro l m q
    induction q with
    | nil => intro x hx; exact nomatch hx
    | @cons p q ps qs hq t ih =>
      intro x hx
      rcases List.mem_cons.mp hx with e | hx
      · subst e
        exact key_of ok (by rw [<- hq.1]; exact hq.2.1)
      · exact ih x hx
  exact all r x hx
theorem dt_of {kvs : List (List Key × V)} (ok : HOk P w H h) (e : H a = some (.dT kvs)) : kvs.length <= sizeLine /\ (a == sysModules) = false /\
    ∃ xs, KT H kvs xs /\ h.DictOfH (tupleKind (mixKind P w)) a xs := dt_rd ok (.inl e)
end
def DGet (H : Hp) (a : Addr) (y : V) (r : Option V) : Prop :=
  (∃ kvs k, Rd H a (.dK kvs) /\ y = kV k /\ r = valV kvs k) \/ ∃ kvs k b, Rd H a (.dT kvs) /\ y = .ref b /\ H b = some (.tup (k.map kV)) /\ r = valV kvs k
def DPut (H : Hp) (a : Addr) (y v : V) (H' : Hp) : Prop :=
  (∃ kvs k, H a = some (.dK kvs) /\ y = kV k /\ kvs.length < sizeLine /\ H' = upd H a (.dK (putK kvs k v))) \/
  ∃ kvs k b, H a = some (.dT kvs) /\ y = .ref b /\ H b = some (.tup (k.map kV)) /\ kvs.length < sizeLine /\ H' = upd H a (.dT (putK kvs k v))
theorem DGet.k {H : Hp} {a : Addr} {kvs : List (Key × V)} {k : Key} (e : H a = some (.dK kvs)) : DGet H a (kV k) (valV kvs k) := .inl ⟨kvs, k, .inl e, rfl, rfl⟩
theorem DPut.k {H : Hp} {a : Addr} {kvs : List (Key × V)} {k : Key} {v : V} (e : H a = some (.dK kvs)) (hl : kvs.length < sizeLine) : DPut H a (kV k) v (upd H a (.dK (putK kvs k v))) := .inl ⟨kvs, k, e, rfl, hl, rfl⟩
theorem DPut.t {H : Hp} {a b : Addr} {kvs : List (List Key × V)} {k : List Key} {v : V} (e : H a = some (.dT kvs)) (eb : H b = some (.tup (k.map kV))) (hl : kvs.length < sizeLine) :
    DPut H a (.ref b) v (upd H a (.dT (putK kvs k v))) := .inr ⟨kvs, k, b, e, rfl, eb, hl, rfl⟩
section
variable {X : Cx} {pins : List (Addr × Obj)} {σ : St} {H : Hp} {s : Shared} {a : Addr} {y v : V} {u r : Value} {o : Option V} {A : Around} {E : Value -> Shared -> Prop}
theorem Inv.big (I : Inv X pins σ H s) : sysModules < s.heap.objs.size := by
  have h : mainGlobals < s.heap.objs.size := (I.mod.glob.keeps I.bk).lt
  exact Nat.lt_trans (by decide) h
theorem d_getItem {Q : Value -> Shared -> Prop} (hu : A.units + 1 < cLine) (I : Inv X pins σ H s) (g : DGet H a y (some v)) (ry : RelV y u) (h : ∀ w' s', Inv X pins σ H s' -> RelV v w' -> Q w' s') :
    wpAny (model X.prog X.w) A (getItem (.ref a) u) Q E s := by
  rcases g with ⟨kvs, k, e, ey, l⟩ | ⟨kvs, k, b, e, ey, eb, l⟩
  · subst ey
    obtain ⟨z, hd, vs, rel, dd⟩ := dk_rd I.hok e
    obtain ⟨w', hw, rw'⟩ := RelO.some_of (v := v) (o := valueAt vs k) (by rw [l]; exact rel.val k)
    exact wpAny_getItem_of (kV_is ry) dd.mapOf hw (h w' _ (I.tok _) rw')
  · subst ey
    cases (show u = Value.ref b from ry)
    obtain ⟨z, hd, xs, rel, dd⟩ := dt_rd I.hok e
    obtain ⟨w', hw, rw'⟩ := RelO.some_of (v := v) (o := (atKey xs k).map (·.2)) (by rw [l]; exact rel.val k)
    obtain ⟨p, hp, hp2⟩ := Option.map_eq_some_iff.mp hw
    refine wpAny_getItem_heap (tupleKind_room_in1 hu) (key_of I.hok eb) dd hp ?_
    rw [hp2]
    exact h w' _ (I.tok _) rw'
theorem d_in {Q : Value -> Shared -> Prop} (hu : A.units + 1 < cLine) (I : Inv X pins σ H s) (g : DGet H a y o) (ry : RelV y u) (h : ∀ s', Inv X pins σ H s' -> Q (.bool o.isSome) s') :
    wpAny (model X.prog X.w) A (compareOp .In u (.ref a)) Q E s := by
  rcases g with ⟨kvs, k, e, ey, l⟩ | ⟨kvs, k, b, e, ey, eb, l⟩
  · subst ey
    obtain ⟨z, hd, vs, rel, dd⟩ := dk_rd I.hok e
    refine wpAny_in_of (kV_is ry) hd dd.mapOf ?_
    rw [<- (rel.val k).isSome_eq, <- l]
    exact h _ (I.tok _)
  · subst ey
    cases (show u = Value.ref b from ry)
    obtain ⟨z, hd, xs, rel, dd⟩ := dt_rd I.hok e
    refine wpAny_in_heap (tupleKind_room_in1 hu) (key_of I.hok eb) hd dd ?_
    have q := (rel.val k).isSome_eq
    rw [Option.isSome_map] at q
    rw [<- q, <- l]
    exact h _ (I.tok _)
theorem d_notIn {Q : Value -> Shared -> Prop} (hu : A.units + 1 < cLine) (I : Inv X pins σ H s) (g : DGet H a y o) (ry : RelV y u) (h : ∀ s', Inv X pins σ H s' -> Q (.bool (!o.isSome)) s') :
    wpAny (model X.prog X.w) A (compareOp .NotIn u (.ref a)) Q E s := by
  rcases g with ⟨kvs, k, e, ey, l⟩ | ⟨kvs, k, b, e, ey, eb, l⟩
  · subst ey
    obtain ⟨z, hd, vs, rel, dd⟩ := dk_rd I.hok e
    refine wpAny_notIn_of (kV_is ry) hd dd.mapOf ?_
    rw [<- (rel.val k).isSome_eq, <- l]
    exact h _ (I.tok _)
  · subst ey
    cases (show u = Value.ref b from ry)
    obtain ⟨z, hd, xs, rel, dd⟩ := dt_rd I.hok e
    refine wpAny_notIn_heap (tupleKind_room_in1 hu) (key_of I.hok eb) hd dd ?_
    have q := (rel.val k).isSome_eq
    rw [Option.isSome_map] at q
    rw [<- q, <- l]
    exact h _ (I.tok _)
theorem d_write {h' : Heap} {t' : Nat} {ob : HO} (I : Inv X pins σ H s) (mu : Mut (H a)) (hs : Heap.SameBut a s.heap h') (he : ∃ q, h'.get? a = some q) (new : ObjOk X.prog X.w (upd H a ob) h' a ob) :
    Inv X pins σ (upd H a ob) { s with heap := h', toks := t' } :=
  I.write (x := a) (e := a) mu (.inl rfl) (fun b q hb z => (hs.2 b hb).trans z) he new
theorem dk_new {P : Program} {w : World} {H' : Hp} {h' : Heap} {kvs : List (Key × V)} {vs : List (Key × Value)} (z : kvs.length <= sizeLine) (hd : (a == sysModules) = false) (rel : KV kvs vs) (dd : h'.DictOf (mixKind P w) a vs) :
    ObjOk P w H' h' a (.dK kvs) := ⟨z, hd, vs, rel, dd⟩
theorem d_setItem {H' : Hp} {Q : Unit -> Shared -> Prop} (hu : A.units + 1 < cLine) (I : Inv X pins σ H s) (g : DPut H a y v H') (ry : RelV y u) (rv : RelV v r) (h : ∀ s', Inv X pins σ H' s' -> Q () s') :
    wpAny (model X.prog X.w) A (setItem (.ref a) u r) Q E s := by
  rcases g with ⟨kvs, k, e, ey, l, eH⟩ | ⟨kvs, k, b, e, ey, eb, l, eH⟩
  · subst ey eH
    obtain ⟨z, hd, vs, rel, dd⟩ := dk_of I.hok e
    have hz : vs.length <= sizeLine := by rw [<- rel.length]; exact z
    have hl : (putK kvs k v).length <= sizeLine := by have := length_putK kvs k v; omega
    refine wpAny_setItem_pairs (hsz := hz) (kV_is ry) dd fun h' dd' hs => h _ ?_
    have he : ∃ q, h'.get? a = some q := let ⟨q, _, _, hq, _⟩ := dd'; ⟨q, hq⟩
    exact d_write I (by rw [e]; exact True.intro) hs he (dk_new hl hd (rel.put k rv) dd')
  · subst ey eH
    cases (show u = Value.ref b from ry)
    obtain ⟨z, hd, xs, rel, dd⟩ := dt_of I.hok e
    have hz : xs.length <= sizeLine := by rw [<- Paired.length rel]; exact z
    have hl : (putK kvs k v).length <= sizeLine := by have := length_putK kvs k v; omega
    refine wpAny_setItem_heap (hsz := hz) (tupleKind_room_in1 hu) (key_of I.hok eb) dd fun h' dd' hs => h _ ?_
    obtain ⟨q, es, ep, hq, h2, h3, h4, _, h5⟩ := dd'
    refine d_write I (by rw [e]; exact True.intro) hs ⟨q, hq⟩ ⟨hl, hd, _, (rel.put k eb rv).keeps fun c ys ec => ?_, q, es, ep, hq, h2, h3, h4, h5⟩
    rw [upd_ne (ne_of ec e (fun z => nomatch z))]
    exact ec
end
def NoSl (i : Expr) : Prop := ∀ ov iv, subscripted i false ov iv = operate [ov, iv] (getItem ov iv)
theorem subD_of {prog : Program} {w : World} {A : Around} {E : Value -> Shared -> Prop} {s : Shared} {env : Env} {value slice : Expr} {pos : Pos} {T id : String} {Q : Value -> Shared -> Prop}
    (hl : typeLookup (.type T) "__getitem__" = pure (some (.builtin id))) (hs : NoSl slice)
    (h : wpAny (model prog w) A (eval value env) (fun o s₁ => wpAny (model prog w) A (eval slice env) (fun i s₂ => s₂.TypeIs o T /\ wpAny (model prog w) A (getItem o i) Q E s₂) E s₁) E s) :
    wpAny (model prog w) A (eval (.Subscript value slice pos) env) Q E s := by
  refine Subscript_ (wpAny_mono h (fun o s₁ h₁ => wpAny_mono h₁ (fun i s₂ h₂ => ?_) fun _ _ x => x) fun _ _ x => x)
  obtain ⟨hT, h₂⟩ := h₂
  unfold subscriptTail
  refine wpAny_bind ?_
  rw [getitemInPython_of_ne hT.not_modules]
  refine wpAny_bind (wpAny_specialOf hT hl ?_)
  have fin : wpAny (model prog w) A (subscripted slice false o i) (fun r s₃ => wpAny (model prog w) A (letTemporaryGo value o r >>= fun _ => pure r) Q E s₃) E s₂ := by
    rw [hs o i]
    exact wpAny_operating (wpAny_mono h₂ (fun r s₃ h₃ => wpAny_bind (wpAny_letTemporaryGo (wpAny_pure h₃))) fun _ _ x => x)
  first
    | exact wpAny_pure (wpAny_bind fin)
    | exact wpAny_bind (wpAny_pure (wpAny_bind fin))
    | exact wpAny_bind fin
theorem dict_typeIs {X : Cx} {pins : List (Addr × Obj)} {σ : St} {H : Hp} {s : Shared} {a : Addr} {y : V} {o : Option V} (I : Inv X pins σ H s) (g : DGet H a y o) : s.TypeIs (.ref a) "dict" := by
  rcases g with ⟨kvs, k, e, _, _⟩ | ⟨kvs, k, b, e, _, _, _⟩
  · obtain ⟨_, _, vs, _, dd⟩ := dk_rd I.hok e
    exact dd.typeIs
  · obtain ⟨_, _, xs, _, dd⟩ := dt_rd I.hok e
    exact dd.typeIs
def tDGet (td ty : TE) : TE := fun σ H Q => td σ H fun x H1 => ty σ H1 fun y H2 => ∃ a v, x = .ref a /\ DGet H2 a y (some v) /\ Q v H2
def sDPut (td ty tv : TE) : TS := fun D σ H => tv σ H fun v H1 => td σ H1 fun x H2 => ty σ H2 fun y H3 => ∃ a H4, x = .ref a /\ DPut H3 a y v H4 /\ D.nx σ H4
section
variable {X : Cx} {o i e value : Expr} {pos pos' tpos : Pos} {td ty tv : TE}
theorem pe_dget (hu : X.A.units + 1 < cLine) (ho : PE X o td) (hi : PE X i ty) (hs : NoSl i) : PE X (.Subscript o i pos) (tDGet td ty) := by
  intro pins s σ H Q I h
  refine subD_of PySem.F.slot_dict_getitem.lookup hs (thn (ho pins s σ H _ I h) fun u s1 ⟨x, H1, I1, rx, q1⟩ => thn (hi pins s1 σ H1 _ I1 q1) fun iv s2 ⟨y, H2, I2, ry, a, v, ex, g, q2⟩ => ?_)
  subst ex
  obtain rfl : u = Value.ref a := rx
  exact ⟨dict_typeIs I2 g, d_getItem hu I2 g ry fun w' s3 I3 rw' => ⟨v, H2, I3, rw', q2⟩⟩
theorem ps_dput (hu : X.A.units + 1 < cLine) (ho : PE X o td) (hi : PE X i ty) (hv : PE X value tv) (hs : swapsWith value (some (.Subscript o i pos')) pos.line X.env = pure false) :
    PS X (.Assign [.Subscript o i pos'] value pos) (sDPut td ty tv) := by
  intro pins s σ H D I h
  refine wpAny_Assign_Subscript (thn (hv pins s σ H _ I h) fun r s1 ⟨v, H1, I1, rv, q1⟩ => thn (ho pins s1 σ H1 _ I1 q1) fun u s2 ⟨x, H2, I2, rx, q2⟩ => thn (hi pins s2 σ H2 _ I2 q2) fun iv s3 ⟨y, H3, I3, ry, a, H4, ex, g, q3⟩ => ?_) hs
  subst ex
  obtain rfl : u = Value.ref a := rx
  exact d_setItem hu I3 g ry rv fun s4 I4 => ⟨σ, H4, I4, q3⟩
end
theorem dk_empty {P : Program} {w : World} {H : Hp} (h : Heap) (hb : sysModules < h.objs.size) : ObjOk P w H (h.push { cls := .type "dict", data := .dict #[] }) h.objs.size (.dK []) :=
  ⟨Nat.zero_le _, beq_eq_false_iff_ne.mpr (Ne.symm (Nat.ne_of_lt hb)), [], .nil, Heap.DictOf.new h⟩
theorem dt_empty {P : Program} {w : World} {H : Hp} (h : Heap) (hb : sysModules < h.objs.size) : ObjOk P w H (h.push { cls := .type "dict", data := .dict #[] }) h.objs.size (.dT []) :=
  ⟨Nat.zero_le _, beq_eq_false_iff_ne.mpr (Ne.symm (Nat.ne_of_lt hb)), [], .nil, _, #[], 0, Heap.get?_push_size _ rfl, ⟨rfl, rfl, rfl⟩, rfl, rfl, List.nodup_nil⟩
def tDNewK : TE := fun _ H Q => ∀ p, H p = none -> Q (.ref p) (upd H p (.dK []))
def tDNewT : TE := fun _ H Q => ∀ p, H p = none -> Q (.ref p) (upd H p (.dT []))
section
variable {X : Cx} {pos : Pos}
theorem pe_dnewK : PE X (.Dict [] [] pos) tDNewK := fun pins s σ H Q I h =>
  wpAny_Dict_empty ⟨.ref s.heap.objs.size, _, I.laid (a := s.heap.objs.size) (o := .dK []) (t' := s.toks) (fun _ _ q => Heap.get?_push_of_some _ q) (Nat.le_refl _) (dk_empty s.heap I.big), rfl, h _ (I.hok.fresh (Nat.le_refl _))⟩
theorem pe_dnewT : PE X (.Dict [] [] pos) tDNewT := fun pins s σ H Q I h =>
  wpAny_Dict_empty ⟨.ref s.heap.objs.size, _, I.laid (a := s.heap.objs.size) (o := .dT []) (t' := s.toks) (fun _ _ q => Heap.get?_push_of_some _ q) (Nat.le_refl _) (dt_empty s.heap I.big), rfl, h _ (I.hok.fresh (Nat.le_refl _))⟩
end
structure M1 (X : Cx) (o : Expr) (m : Str) (apos : Pos) (e : Expr) (cpos : Pos) : Prop where
  base : attributeBase o m X.env (eval o X.env) = eval o X.env
  few : ((backTo cpos (starEach [e] X.env)).all (fun x => !x.1) && (backToKw cpos (keywordEach [] X.env)).all (fun x => x.1.isSome)
    && decide (([e] : List Expr).length + ([] : List Keyword).length + (if ([] : List Keyword).isEmpty then 0 else 1) < 30)) = true
  line : (apos.endLine == cpos.line) = true
  trees : backTo cpos (starEach [e] X.env) = [(false, eval e X.env)]
structure M2 (X : Cx) (o : Expr) (m : Str) (apos : Pos) (e f : Expr) (cpos : Pos) : Prop where
  base : attributeBase o m X.env (eval o X.env) = eval o X.env
  few : ((backTo cpos (starEach [e, f] X.env)).all (fun x => !x.1) && (backToKw cpos (keywordEach [] X.env)).all (fun x => x.1.isSome)
    && decide (([e, f] : List Expr).length + ([] : List Keyword).length + (if ([] : List Keyword).isEmpty then 0 else 1) < 30)) = true
  line : (apos.endLine == cpos.line) = true
  trees : backTo cpos (starEach [e, f] X.env) = [(false, eval e X.env), (false, eval f X.env)]
end L2
namespace HT
open PySem PyProof.Rows
section
variable {prog : Program} {w : World} {A : Around} {E : Value -> Shared -> Prop} {s : Shared}
def sIx (n d : Nat) : Option Int -> Nat
  | none => d
  | some v => if v < 0 then (v + (n : Int)).toNat else min v.toNat n
theorem sIx_le (n d : Nat) (hd : d <= n) (o : Option Int) : sIx n d o <= n := by
  cases o with
  | none => exact hd
  | some v =>
    show (if v < 0 then (v + (n : Int)).toNat else min v.toNat n) <= n
    by_cases hv : v < 0
    · rw [if_pos hv]; omega
    · rw [if_neg hv]; exact Nat.min_le_right _ _
theorem clip_eq (v : Int) (n d : Nat) : (if v < 0 then max (v + (n : Int)) 0 else min v (n : Int)) = ((sIx n d (some v) : Nat) : Int) := by
  show (if v < 0 then max (v + (n : Int)) 0 else min v (n : Int)) = (((if v < 0 then (v + (n : Int)).toNat else min v.toNat n) : Nat) : Int)
  by_cases hv : v < 0
  · simp only [if_pos hv]; omega
  · simp only [if_neg hv]; omega
theorem adjust_gen (lo hi : Option Int) (n : Nat) : Builtin.Slice.sliceAdjust lo hi 1 (n : Int) = (((sIx n 0 lo : Nat) : Int), ((sIx n n hi : Nat) : Int)) := by
  have h1 : ¬ ((1 : Int) < 0) := by omega
  unfold Builtin.Slice.sliceAdjust
  simp only [h1, if_false]
  refine Prod.ext ?_ ?_
  · cases lo with
    | none => rfl
    | some v => exact clip_eq v n 0
  · cases hi with
    | none => rfl
    | some v => exact clip_eq v n n
theorem places_gen (i j : Nat) : Builtin.Slice.slicePlaces (i : Int) (j : Int) 1 = j - i := by
  unfold Builtin.Slice.slicePlaces
  have h1 : (1 : Int) > 0 := by omega
  simp only [h1, if_true, Int.ediv_one]
  split <;> omega
theorem slicePart_ {v : Value} {o : Option Int} {Q : Option Int -> Shared -> Prop} (p : IsPart v o) (h : Q o s) : wpAny (model prog w) A (Builtin.Slice.slicePartIndex v) Q E s := by
  cases p with
  | none => exact slicePart_none h
  | int i t => exact slicePart_int h
theorem sliceApplied_gen {sl : Addr} {vl vu : Value} {lo hi : Option Int} {n : Nat} {Q : Int × Int × Nat -> Shared -> Prop} (hs : s.heap.IsSliceOf sl vl vu .none) (pl : IsPart vl lo) (pu : IsPart vu hi)
    (h : Q (((sIx n 0 lo : Nat) : Int), 1, sIx n n hi - sIx n 0 lo) s) : wpAny (model prog w) A (Builtin.Slice.sliceApplied (.ref sl) (pure (n : Int))) Q E s := by
  obtain ⟨os, hos, hcs, hds⟩ := id hs
  unfold Builtin.Slice.sliceApplied Builtin.Slice.sliceFields
  refine wpAny_bind (wpAny_bind (wpAny_field hos hds (x := vl) rfl (wpAny_bind (wpAny_field hos hds (x := vu) rfl (wpAny_bind (wpAny_field hos hds (x := .none) rfl (wpAny_pure ?_)))))))
  refine wpAny_bind (slicePart_none ?_)
  show wpAny _ _ (if ((1 : Int) == 0) = true then _ else _) _ _ s
  rw [if_neg (by decide)]
  refine wpAny_bind (slicePart_ pl (wpAny_bind (slicePart_ pu (wpAny_bind (wpAny_pure ?_)))))
  show wpAny _ _ (match Builtin.Slice.sliceAdjust lo hi 1 (n : Int) with | (lo, hi) => pure (lo, (1 : Int), Builtin.Slice.slicePlaces lo hi 1)) _ _ s
  rw [adjust_gen lo hi n]
  show wpAny _ _ (pure (((sIx n 0 lo : Nat) : Int), (1 : Int), Builtin.Slice.slicePlaces ((sIx n 0 lo : Nat) : Int) ((sIx n n hi : Nat) : Int) 1)) _ _ s
  rw [places_gen]
  exact wpAny_pure h
theorem pick_gen (xs : Array Value) (i k : Nat) : ((List.range k).filterMap fun (m : Nat) => xs[((i : Int) + (m : Int) * 1).toNat]?).toArray = ((xs.toList.drop i).take k).toArray := by
  have e : (fun (m : Nat) => xs[((i : Int) + (m : Int) * 1).toNat]?) = fun m => xs[i + m]? := by
    funext m
    have : ((i : Int) + (m : Int) * 1).toNat = i + m := by omega
    rw [this]
  rw [e]
  have := pick_run xs i k
  rw [List.filterMap_map] at this
  have e2 : ((fun x => xs[x]?) ∘ fun x => i + x) = fun m => xs[i + m]? := rfl
  rw [e2] at this
  rw [this]
theorem getItem_tuple_cut {t sl : Addr} {items : Array Value} {vl vu : Value} {lo hi : Option Int} {Q : Value -> Shared -> Prop} (ht : IsTup s.heap t items) (hs : s.heap.IsSliceOf sl vl vu .none) (pl : IsPart vl lo) (pu : IsPart vu hi)
    (hw : ¬ (sIx items.size 0 lo = 0 /\ sIx items.size items.size hi = items.size))
    (h : Q (.ref s.heap.objs.size) { s with heap := s.heap.push { cls := .type "tuple", data := .seq ((items.toList.drop (sIx items.size 0 lo)).take (sIx items.size items.size hi - sIx items.size 0 lo)).toArray } })
    (hsz : items.size <= sizeLine) : wpAny (model prog w) A (getItem (.ref t) (.ref sl)) Q E s := by
  have htake : sizeOk (.seq ((items.toList.drop (sIx items.size 0 lo)).take (sIx items.size items.size hi - sIx items.size 0 lo)).toArray) := by
    show ((items.toList.drop (sIx items.size 0 lo)).take (sIx items.size items.size hi - sIx items.size 0 lo)).toArray.size <= sizeLine
    rw [List.size_toArray, List.length_take, List.length_drop, Array.length_toList]
    omega
  have hj : sIx items.size items.size hi <= items.size := sIx_le _ _ (Nat.le_refl _) hi
  obtain ⟨os, hos, hcs, hds⟩ := id hs
  have hTs : s.TypeIs (.ref sl) "slice" := ⟨os, hos, hcs⟩
  unfold getItem
  try with_reducible refine wpAny_holding ?_
  first | refine wpAny_bind (wpAny_pure ?_) | skip
  refine wpAny_bind (wpAny_sequenceKey ht.typeIs (by decide) ?_)
  refine wpAny_bind (wpAny_callSpecial?_slot (name := Str.ofString "__getitem__") ht.typeIs PyProof.Rows.slot_tuple_getitem
    (wpAny_call_entry PyProof.Rows.slot_tuple_getitem ht.typeIs entry_tuple_getitem ?_ (args_tuple_getitem _ _)))
  show wpAny _ _ (Builtin.Tuple.tupleItemsOf (.ref t) >>= _) _ _ s
  refine wpAny_bind (tupleItemsOf_ ht ?_)
  refine wpAny_bind (wpAny_typeOf hTs ?_)
  rw [if_pos (by decide)]
  refine wpAny_bind (sliceApplied_gen hs pl pu ?_)
  have hno : ¬ ((((sIx items.size 0 lo : Nat) : Int) == 0 && (1 : Int) == 1 && (sIx items.size items.size hi - sIx items.size 0 lo) == items.size) = true) := by
    intro q
    rw [Bool.and_eq_true, Bool.and_eq_true] at q
    have q1 : ((sIx items.size 0 lo : Nat) : Int) = 0 := eq_of_beq q.1.1
    have q2 : sIx items.size items.size hi - sIx items.size 0 lo = items.size := eq_of_beq q.2
    exact hw ⟨by omega, by omega⟩
  show wpAny _ _ (if (((sIx items.size 0 lo : Nat) : Int) == 0 && (1 : Int) == 1 && (sIx items.size items.size hi - sIx items.size 0 lo) == items.size) = true then _ else _) _ _ s
  rw [if_neg hno, pick_gen]
  first
    | exact wpAny_bind (m := Builtin.Tuple.tupleExact _) (wpAny_newObj_type (wpAny_pure ⟨_, rfl, wpAny_pure h⟩) htake)
    | exact wpAny_bind (m := Builtin.Tuple.tupleExact _) (wpAny_newObj_type (wpAny_bind (wpAny_pure (wpAny_pure ⟨_, rfl, wpAny_pure h⟩))) htake)
    | exact wpAny_bind (wpAny_bind (m := Builtin.Tuple.tupleExact _) (wpAny_newObj_type (wpAny_pure (wpAny_pure ⟨_, rfl, wpAny_pure h⟩)) htake))
    | exact wpAny_bind (wpAny_bind (m := Builtin.Tuple.tupleExact _) (wpAny_newObj_type (wpAny_pure ⟨_, rfl, wpAny_pure h⟩) htake))
end
end HT
namespace L2
open PySem PySem.Spec PyProof.Rows
abbrev TO := St -> Hp -> (Option Int -> Hp -> Prop) -> Prop
def PO (X : Cx) (e : Option Expr) (t : TO) : Prop :=
  ∀ (pins : List (Addr × Obj)) (s : Shared) (σ : St) (H : Hp) (Q : Option Int -> Hp -> Prop), Inv X pins σ H s -> t σ H Q ->
    wpAny (model X.prog X.w) X.A (evalPart e X.env) (fun u s' => ∃ o H', Inv X pins σ H' s' /\ IsPart u o /\ Q o H') X.xe s
def tNoPart : TO := fun _ H Q => Q none H
def tPart (t : TE) : TO := fun σ H Q => t σ H fun x H1 => ∃ i, x = .int i /\ Q (some i) H1
section
variable {X : Cx} {e : Expr} {te : TE} {lo hi : Option Expr} {tl th : TO} {pos p2 : Pos}
theorem po_none : PO X none tNoPart := by
  intro pins s σ H Q I h
  rw [evalPart_none]
  exact wpAny_pure ⟨none, H, I, .none, h⟩
theorem po_some (h : PE X e te) : PO X (some e) (tPart te) := by
  intro pins s σ H Q I hw
  rw [evalPart_some]
  refine thn (h pins s σ H _ I hw) fun u s1 ⟨x, H1, I1, r1, q1⟩ => ?_
  obtain ⟨i, rfl, q⟩ := q1
  obtain ⟨t, rfl⟩ := r1
  exact ⟨some i, H1, I1, .int i t, q⟩
def SlR (X : Cx) (r : V -> Option Int -> Option Int -> Hp -> VK -> Prop) : Prop :=
  ∀ (pins : List (Addr × Obj)) (s : Shared) (σ : St) (H : Hp) (x : V) (v vl vu : Value) (lo hi : Option Int) (sl : Addr) (Q : VK), Inv X pins σ H s -> RelV x v -> s.heap.IsSliceOf sl vl vu .none -> IsPart vl lo -> IsPart vu hi -> r x lo hi H Q ->
    ∃ T id, typeLookup (.type T) "__getitem__" = pure (some (.builtin id)) /\ s.TypeIs v T /\ wpAny (model X.prog X.w) X.A (getItem v (.ref sl)) (EP X pins σ Q) X.xe s
def tSl (r : V -> Option Int -> Option Int -> Hp -> VK -> Prop) (te : TE) (tl th : TO) : TE := fun σ H Q => te σ H fun x H1 => tl σ H1 fun l H2 => th σ H2 fun u H3 => r x l u H3 Q
theorem pe_slice {r : V -> Option Int -> Option Int -> Hp -> VK -> Prop} (hr : SlR X r) (he : PE X e te) (hl : PO X lo tl) (hu : PO X hi th) : PE X (.Subscript e (.Slice lo hi none p2) pos) (tSl r te tl th) := by
  intro pins s σ H Q I h
  refine Subscript_ (thn (he pins s σ H _ I h) fun v s1 ⟨x, H1, I1, r1, q1⟩ => ?_)
  refine wpAny_Slice (thn (hl pins s1 σ H1 _ I1 q1) fun vl s2 ⟨l, H2, I2, pl, q2⟩ => thn (hu pins s2 σ H2 _ I2 q2) fun vu s3 ⟨u, H3, I3, pu, q3⟩ => ?_)
  rw [evalPart_none]
  refine wpAny_pure ?_
  have I4 : Inv X pins σ H3 { s3 with heap := s3.heap.push { cls := .type "slice", data := .fields #[vl, vu, .none] } } := I3.kept (t' := s3.toks) fun b ob q => Heap.get?_push_of_some _ q
  obtain ⟨T, id, hT, ht, hg⟩ := hr pins { s3 with heap := s3.heap.push { cls := .type "slice", data := .fields #[vl, vu, .none] } } σ H3 x v vl vu l u s3.heap.objs.size Q I4 r1 (Heap.IsSliceOf.new ..) pl pu q3
  show wpAny (model X.prog X.w) X.A (subscriptTail e (.Slice lo hi none p2) v (.ref s3.heap.objs.size)) (EP X pins σ Q) X.xe { s3 with heap := s3.heap.push { cls := .type "slice", data := .fields #[vl, vu, .none] } }
  exact tail_any (ops := [.ref s3.heap.objs.size, v]) ht hT hg (by with_unfolding_all rfl)
def cutV (xs : List V) (lo hi : Option Int) : List V := (xs.drop (HT.sIx xs.length 0 lo)).take (HT.sIx xs.length xs.length hi - HT.sIx xs.length 0 lo)
theorem cutV_length (xs : List V) (lo hi : Option Int) : (cutV xs lo hi).length <= xs.length := by
  unfold cutV
  rw [List.length_take, List.length_drop]
  omega
def rSlT (K : PySem.W.Frag) : V -> Option Int -> Option Int -> Hp -> VK -> Prop := fun x lo hi H Q => ∃ a xs, x = .ref a /\ SqT K H a xs /\
  ¬ (HT.sIx xs.length 0 lo = 0 /\ HT.sIx xs.length xs.length hi = xs.length) /\ ∀ p, H p = none -> Q (.ref p) (upd H p (.tup (cutV xs lo hi)))
theorem sl_tup : SlR X (rSlT X.K) := by
  intro pins s σ H x v vl vu lo hi sl Q I rx hs pl pu h
  obtain ⟨a, xs, rfl, hx, hw, q⟩ := h
  cases rx
  obtain ⟨its, r, ht, hz⟩ := I.tuple hx
  have hlen : its.toArray.size = xs.length := by rw [List.size_toArray]; exact r.length.symm
  refine ⟨"tuple", _, PyProof.Rows.slot_tuple_getitem.lookup, ht.typeIs, ?_⟩
  refine HT.getItem_tuple_cut ht hs pl pu (by rw [hlen]; exact hw) ?_ (by rw [hlen]; exact hz)
  rw [hlen]
  refine ⟨.ref s.heap.objs.size, _, I.laid (t' := s.toks) (o := .tup (cutV xs lo hi)) (fun b ob q => Heap.get?_push_of_some _ q) (Nat.le_refl _) ?_, rfl, q _ (I.hok.fresh (Nat.le_refl _))⟩
  exact ⟨Nat.le_trans (cutV_length xs lo hi) hz, _, (r.drop (HT.sIx xs.length 0 lo)).take (HT.sIx xs.length xs.length hi - HT.sIx xs.length 0 lo), IsTup.new _ _⟩
end
end L2
namespace L2
open PySem PySem.Spec PyProof.Rows
def ixN (n : Nat) (i : Int) : Option Nat := if 0 <= i then (if i < n then some i.toNat else none) else if -(n : Int) <= i then some (i + n).toNat else none
def atI {α : Type} (xs : List α) (i : Int) : Option α := (ixN xs.length i).bind fun j => xs[j]?
theorem ixN_seq {n : Nat} {i : Int} {j : Nat} (h : ixN n i = some j) : seqIndex? i n = some j /\ j < n /\ -(n : Int) <= i /\ i < n := by
  unfold ixN at h
  by_cases h0 : 0 <= i
  · rw [if_pos h0] at h
    by_cases h1 : i < n
    · rw [if_pos h1] at h
      have e : i.toNat = j := Option.some.inj h
      exact ⟨by rw [seqIndex_of h0 h1, e], by omega, by omega, h1⟩
    · rw [if_neg h1] at h; cases h
  · rw [if_neg h0] at h
    by_cases h1 : -(n : Int) <= i
    · rw [if_pos h1] at h
      have e : (i + n).toNat = j := Option.some.inj h
      exact ⟨by rw [seqIndex_neg (by omega) h1, e], by omega, h1, by omega⟩
    · rw [if_neg h1] at h; cases h
theorem atI_get {α : Type} {xs : List α} {i : Int} {v : α} (h : atI xs i = some v) : ∃ j, seqIndex? i xs.length = some j /\ xs[j]? = some v /\ j < xs.length /\ -(xs.length : Int) <= i /\ i < xs.length := by
  unfold atI at h
  cases e : ixN xs.length i with
  | none => rw [e] at h; cases h
  | some j =>
    rw [e] at h
    obtain ⟨h1, h2, h3, h4⟩ := ixN_seq e
    exact ⟨j, h1, h, h2, h3, h4⟩
theorem atI_nat {α : Type} {xs : List α} {j : Nat} {v : α} (h : xs[j]? = some v) : atI xs (j : Int) = some v := by
  have hj : j < xs.length := (List.getElem?_eq_some_iff.mp h).1
  have e : ixN xs.length (j : Int) = some j := by
    unfold ixN
    rw [if_pos (by omega), if_pos (by omega)]; simp
  unfold atI; rw [e]; exact h
def PlainIx (b : Expr) : Prop := ∀ o i, subscripted b false o i = operate [o, i] (getItem o i)
def IxR (X : Cx) (r : R2) : Prop :=
  ∀ (value slice : Expr) (pins : List (Addr × Obj)) (s : Shared) (σ : St) (H : Hp) (x y : V) (v u : Value) (Q : VK), Inv X pins σ H s -> RelV x v -> RelV y u -> r x y H Q ->
    subscripted slice false v u = operate [v, u] (getItem v u) -> wpAny (model X.prog X.w) X.A (subscriptTail value slice v u) (EP X pins σ Q) X.xe s
def MtR (X : Cx) (id : String) (r : V -> List V -> Hp -> VK -> Prop) : Prop :=
  ∀ (pins : List (Addr × Obj)) (s : Shared) (σ : St) (H : Hp) (x : V) (xs : List V) (v : Value) (us : List Value) (Q : VK), Inv X pins σ H s -> RelV x v -> Vals xs us -> r x xs H Q ->
    wpAny (model X.prog X.w) X.A (call (.builtin id) (v :: us)) (EP X pins σ Q) X.xe s
section
variable {X : Cx} {a b : Expr} {ta tb : TE} {pos : Pos}
theorem IxR.or {r r' : R2} (h : IxR X r) (h' : IxR X r') : IxR X (fun x y H Q => r x y H Q \/ r' x y H Q) := by
  intro value slice pins s σ H x y v u Q I rx ry q hs
  rcases q with q | q
  · exact h value slice pins s σ H x y v u Q I rx ry q hs
  · exact h' value slice pins s σ H x y v u Q I rx ry q hs
theorem pe_ix {r : R2} (hr : IxR X r) (ha : PE X a ta) (hb : PE X b tb) (hs : PlainIx b) : PE X (.Subscript a b pos) (tOp r ta tb) := by
  intro pins s σ H Q I h
  exact Subscript_ (binT ha hb I h fun v u s2 x y H2 I2 rx ry q => hr a b pins s2 σ H2 x y v u Q I2 rx ry q (hs _ _))
def rIxL (K : PySem.W.Frag) : R2 := fun x y H Q => ∃ p xs i v, x = .ref p /\ y = .int i /\ SqL K H p xs /\ atI xs i = some v /\ Q v H
def rIxT (K : PySem.W.Frag) : R2 := fun x y H Q => ∃ p xs i v, x = .ref p /\ y = .int i /\ SqT K H p xs /\ atI xs i = some v /\ Q v H
theorem ix_list : IxR X (rIxL X.K) := by
  intro value slice pins s σ H x y v u Q I rx ry h hs
  obtain ⟨p, xs, i, z, rfl, rfl, hq, he, q⟩ := h
  cases rx
  obtain ⟨t, rfl⟩ := ry
  obtain ⟨its, r, pl, hz⟩ := I.list hq
  obtain ⟨j, h1, h2, h3, h4, h5⟩ := atI_get he
  obtain ⟨w, ew, rw'⟩ := r.get h2
  have hl := r.length
  have hn := line63
  have fin : EP X pins σ Q w s := ⟨z, H, I, rw', q⟩
  by_cases h0 : 0 <= i
  · have hj : i.toNat = j := by
      rw [seqIndex_of h0 h5] at h1
      exact Option.some.inj h1
    exact item_listR pl.isList h0 (by omega) (by rw [hj]; simpa using ew) fin hs
  · have hj : (i + (its.toArray.size : Int)).toNat = j := by
      rw [seqIndex_neg (by omega) h4] at h1
      rw [List.size_toArray, <- hl]
      exact Option.some.inj h1
    exact subscriptTail_builtinR (x := w) pl.isList.typeIs slot_list_getitem.lookup
      (wpAny_getItem_list_neg (Q := fun r s' => r = w /\ EP X pins σ Q r s') pl.isList (by omega) (by rw [List.size_toArray] <;> omega) (by omega) (by rw [hj]; simpa using ew) ⟨rfl, fin⟩) hs
theorem ix_tup : IxR X (rIxT X.K) := by
  intro value slice pins s σ H x y v u Q I rx ry h hs
  obtain ⟨p, xs, i, z, rfl, rfl, hq, he, q⟩ := h
  cases rx
  obtain ⟨t, rfl⟩ := ry
  obtain ⟨its, r, pl, hz⟩ := I.tuple hq
  obtain ⟨j, h1, h2, h3, h4, h5⟩ := atI_get he
  obtain ⟨w, ew, rw'⟩ := r.get h2
  have hl := r.length
  have hn := line63
  have fin : EP X pins σ Q w s := ⟨z, H, I, rw', q⟩
  exact subscriptTail_builtinR (x := w) pl.typeIs slot_tuple_getitem.lookup
    (getItem_tuple (j := j) (Q := fun r s' => r = w /\ EP X pins σ Q r s') pl (by omega) (by omega) (by rw [List.size_toArray, <- hl]; exact h1) (by simpa using ew) ⟨rfl, fin⟩) hs
theorem slice_bounds (lo hi : Option Int) (n : Nat) : (sliceBounds lo hi none n).1 = ((HT.sIx n 0 lo : Nat) : Int) /\ (sliceBounds lo hi none n).2.1 = ((HT.sIx n n hi : Nat) : Int) /\ (sliceBounds lo hi none n).2.2 = 1 := by
  refine ⟨?_, ?_, rfl⟩
  · cases lo with
    | none => simp [sliceBounds, HT.sIx]
    | some i =>
      simp only [sliceBounds, HT.sIx, Option.getD_none, show (1 : Int) > 0 by decide, if_true]
      by_cases h : i < 0
      · simp only [h, if_true] <;> omega
      · simp only [h, if_false] <;> omega
  · cases hi with
    | none => simp [sliceBounds, HT.sIx]
    | some i =>
      simp only [sliceBounds, HT.sIx, Option.getD_none, show (1 : Int) > 0 by decide, if_true]
      by_cases h : i < 0
      · simp only [h, if_true] <;> omega
      · simp only [h, if_false] <;> omega
theorem slicePick_cut (its : List Value) (lo hi : Option Int) : slicePick its.toArray lo hi none = ((its.drop (HT.sIx its.length 0 lo)).take (HT.sIx its.length its.length hi - HT.sIx its.length 0 lo)).toArray := by
  obtain ⟨h1, h2, h3⟩ := slice_bounds lo hi its.toArray.size
  unfold slicePick
  rw [h1, h2, h3]
  simp only [sliceRange_one, pick_run, List.size_toArray] <;> rfl
def rSlL (K : PySem.W.Frag) : V -> Option Int -> Option Int -> Hp -> VK -> Prop := fun x lo hi H Q => ∃ a xs, x = .ref a /\ SqL K H a xs /\ ∀ p, H p = none -> Q (.ref p) (upd H p (.lst (cutV xs lo hi)))
theorem sl_list : SlR X (rSlL X.K) := by
  intro pins s σ H x v vl vu lo hi sl Q I rx hs pl pu h
  obtain ⟨a, xs, rfl, hx, q⟩ := h
  cases rx
  obtain ⟨its, r, ht, hz⟩ := I.list hx
  have hlen := r.length
  refine ⟨"list", _, slot_list_getitem.lookup, ht.isList.typeIs, ?_⟩
  refine wpAny_getItem_list_slice ht.isList hs pl pu .none (by simp) ?_ (by rw [List.size_toArray] <;> omega)
  rw [slicePick_cut, <- hlen]
  refine ⟨.ref s.heap.objs.size, _, I.laid (t' := s.toks) (o := .lst (cutV xs lo hi)) (fun b ob q => Heap.get?_push_of_some _ q) (Nat.le_refl _) ?_, rfl, q _ (I.hok.fresh (Nat.le_refl _))⟩
  exact ⟨Nat.le_trans (cutV_length xs lo hi) hz, _, 0, (r.drop (HT.sIx xs.length 0 lo)).take (HT.sIx xs.length xs.length hi - HT.sIx xs.length 0 lo), Heap.get?_push_size _ rfl⟩
def flatV : V -> Bool
  | .non => true
  | .bl _ => true
  | .int _ => true
  | .str _ => true
  | _ => false
def eqV : V -> V -> Bool
  | .non, .non => true
  | .bl a, .bl b => a == b
  | .bl a, .int b => (if a then 1 else 0) == b
  | .int a, .bl b => a == (if b then 1 else 0)
  | .int a, .int b => a == b
  | .str a, .str b => a == b
  | _, _ => false
theorem eqAt_V {A : Around} {s : Shared} {y x : V} {u v : Value} (ry : RelV y u) (rx : RelV x v) (fy : flatV y = true) (fx : flatV x = true) : SeqAt.EqAt A s u v (eqV y x) := by
  cases y with
  | non =>
    cases ry
    cases x with
    | non => cases rx; exact SeqAt.EqAt.same _
    | bl b => cases rx; exact SeqAt.EqAt.none_bool b
    | int b => obtain ⟨t, rfl⟩ := rx; exact SeqAt.EqAt.none_int b t
    | str b => obtain ⟨t, rfl⟩ := rx; exact SeqAt.EqAt.none_str b t
    | _ => exact absurd (show false = true from fx) Bool.false_ne_true
  | bl a =>
    cases ry
    cases x with
    | non => cases rx; exact SeqAt.EqAt.bool_none a
    | bl b => cases rx; exact SeqAt.EqAt.bool_bool a b
    | int b => obtain ⟨t, rfl⟩ := rx; exact SeqAt.EqAt.bool_int a b t
    | str b => obtain ⟨t, rfl⟩ := rx; exact SeqAt.EqAt.bool_str a b t
    | _ => exact absurd (show false = true from fx) Bool.false_ne_true
  | int a =>
    obtain ⟨t', rfl⟩ := ry
    cases x with
    | non => cases rx; exact SeqAt.EqAt.int_none a t'
    | bl b => cases rx; exact SeqAt.EqAt.int_bool a t' b
    | int b => obtain ⟨t, rfl⟩ := rx; exact SeqAt.EqAt.int_int a t' b t
    | str b => obtain ⟨t, rfl⟩ := rx; exact SeqAt.EqAt.int_str a t' b t
    | _ => exact absurd (show false = true from fx) Bool.false_ne_true
  | str a =>
    obtain ⟨t', rfl⟩ := ry
    cases x with
    | non => cases rx; exact SeqAt.EqAt.str_none a t'
    | bl b => cases rx; exact SeqAt.EqAt.str_bool a t' b
    | int b => obtain ⟨t, rfl⟩ := rx; exact SeqAt.EqAt.str_int a t' b t
    | str b => obtain ⟨t, rfl⟩ := rx; exact SeqAt.EqAt.str_str a t' b t
    | _ => exact absurd (show false = true from fx) Bool.false_ne_true
  | _ => exact absurd (show false = true from fy) Bool.false_ne_true
def eqU (x : V) (u : Value) : Bool := match u with
  | .none => eqV .non x
  | .bool b => eqV (.bl b) x
  | .int i _ => eqV (.int i) x
  | .str z _ => eqV (.str z) x
  | _ => false
theorem eqU_of {x y : V} {u : Value} (r : RelV y u) (f : flatV y = true) : eqU x u = eqV y x := by
  cases y with
  | non => cases r; rfl
  | bl b => cases r; rfl
  | int i => obtain ⟨t, rfl⟩ := r; rfl
  | str z => obtain ⟨t, rfl⟩ := r; rfl
  | _ => exact absurd (show false = true from f) Bool.false_ne_true
theorem any_eqU {x : V} : ∀ {xs : List V} {us : List Value}, Vals xs us -> xs.all flatV = true -> us.any (eqU x) = xs.any fun y => eqV y x
  | _, _, .nil, _ => rfl
  | y :: xs, u :: us, .cons r t, f => by
    rw [List.all_cons, Bool.and_eq_true] at f
    rw [List.any_cons, List.any_cons, eqU_of r f.1, any_eqU t f.2]
theorem mem_eqAt {A : Around} {s : Shared} {x : V} {v : Value} (rx : RelV x v) (fx : flatV x = true) : ∀ {xs : List V} {us : List Value}, Vals xs us -> xs.all flatV = true -> ∀ u ∈ us, SeqAt.EqAt A s u v (eqU x u)
  | _, _, .nil, _ => fun u hu => by cases hu
  | y :: xs, u :: us, .cons r t, f => fun u' hu => by
    rw [List.all_cons, Bool.and_eq_true] at f
    rcases List.mem_cons.mp hu with rfl | hu
    · rw [eqU_of r f.1]; exact eqAt_V r rx f.1 fx
    · exact mem_eqAt rx fx t f.2 u' hu
def inV (x : V) (xs : List V) : Bool := xs.any fun y => eqV y x
def rIn (K : PySem.W.Frag) (neg : Bool) : R2 := fun x y H Q => ∃ p xs, y = .ref p /\ (SqL K H p xs \/ SqT K H p xs) /\ flatV x = true /\ xs.all flatV = true /\ Q (.bl (if neg then !inV x xs else inV x xs)) H
theorem op_in_seq : OpR X (compareOp .In) (rIn X.K false) := by
  intro pins s σ H x y v u Q I rx ry h
  obtain ⟨p, xs, rfl, hq, fx, fs, q⟩ := h
  cases ry
  rcases hq with hq | hq
  · obtain ⟨its, r, pl, hz⟩ := I.list hq
    refine SeqAt.in_listAt (eqU x) pl.isList (fun w hw => mem_eqAt rx fx r fs w (by simpa using hw)) ⟨.bl _, H, I, rfl, ?_⟩
    rw [show its.toArray.any (eqU x) = its.any (eqU x) by simp, any_eqU r fs]
    exact q
  · obtain ⟨its, r, pl, hz⟩ := I.tuple hq
    refine SeqAt.in_tupleAt (eqU x) pl (fun w hw => mem_eqAt rx fx r fs w (by simpa using hw)) ⟨.bl _, H, I, rfl, ?_⟩
    rw [show its.toArray.any (eqU x) = its.any (eqU x) by simp, any_eqU r fs]
    exact q
theorem op_notIn_seq : OpR X (compareOp .NotIn) (rIn X.K true) := by
  intro pins s σ H x y v u Q I rx ry h
  obtain ⟨p, xs, rfl, hq, fx, fs, q⟩ := h
  cases ry
  rcases hq with hq | hq
  · obtain ⟨its, r, pl, hz⟩ := I.list hq
    refine SeqAt.notIn_listAt (eqU x) pl.isList (fun w hw => mem_eqAt rx fx r fs w (by simpa using hw)) ⟨.bl _, H, I, rfl, ?_⟩
    rw [show its.toArray.any (eqU x) = its.any (eqU x) by simp, any_eqU r fs]
    exact q
  · obtain ⟨its, r, pl, hz⟩ := I.tuple hq
    refine SeqAt.notIn_tupleAt (eqU x) pl (fun w hw => mem_eqAt rx fx r fs w (by simpa using hw)) ⟨.bl _, H, I, rfl, ?_⟩
    rw [show its.toArray.any (eqU x) = its.any (eqU x) by simp, any_eqU r fs]
    exact q
theorem call_len_seq : CallR X (.builtin "len") (fun xs H Q => ∃ p ys, xs = [.ref p] /\ (SqL X.K H p ys \/ SqT X.K H p ys) /\ Q (.int ys.length) H) := by
  intro pins s σ H xs us Q I r h
  obtain ⟨p, ys, rfl, hq, q⟩ := h
  obtain ⟨u, rfl, rx⟩ := vals1 r
  cases rx
  have hn := line63
  rcases hq with hq | hq
  · obtain ⟨its, r', pl, hz⟩ := I.list hq
    have hlen := r'.length
    exact Calls.call_len_list pl.isList (by simp only [List.size_toArray] <;> omega) ⟨.int ys.length, H, I.tok _, ⟨s.toks + 1, by rw [List.size_toArray, hlen]⟩, q⟩
  · obtain ⟨its, r', pl, hz⟩ := I.tuple hq
    have hlen := r'.length
    exact len_tuple pl (by simp only [List.size_toArray] <;> omega) ⟨.int ys.length, H, I.tok _, ⟨s.toks + 1, by rw [List.size_toArray, hlen]⟩, q⟩
theorem call_list_of : CallR X (.type "list") (fun xs H Q => ∃ p ys, xs = [.ref p] /\ (SqL X.K H p ys \/ SqT X.K H p ys) /\ ∀ l, H l = none -> Q (.ref l) (upd H l (.lst ys))) := by
  intro pins s σ H xs us Q I r h
  obtain ⟨p, ys, rfl, hq, q⟩ := h
  obtain ⟨u, rfl, rx⟩ := vals1 r
  cases rx
  have fin : ∀ (its : List Value), Vals ys its -> ys.length <= sizeLine -> ∀ (h' : Heap) (c' : Nat), (∀ b o', s.heap.get? b = some o' -> h'.get? b = some o') ->
      h'.get? s.heap.objs.size = some { cls := .type "list", dict := none, data := .seq its.toArray c', slots := #[] } -> EP X pins σ Q (.ref s.heap.objs.size) { s with heap := h' } := fun its r' hz h' c' kp e =>
    ⟨.ref s.heap.objs.size, _, I.laid (t' := s.toks) kp (Nat.le_refl _) (show ObjOk X.prog X.w _ h' _ (.lst ys) from ⟨hz, its, c', r', e⟩), rfl, q _ (I.hok.fresh (Nat.le_refl _))⟩
  rcases hq with hq | hq
  · obtain ⟨its, r', pl, hz⟩ := I.list hq
    have hlen := r'.length
    obtain ⟨o, ho, hc, n, hd⟩ := pl.isList
    exact call_list_seq p (.inl rfl) ho hc hd (fun h' c' kp e => fin its r' hz h' c' kp e) (by simp only [List.size_toArray] <;> omega)
  · obtain ⟨its, r', pl, hz⟩ := I.tuple hq
    have hlen := r'.length
    obtain ⟨o, ho, hc, n, hd⟩ := pl
    exact call_list_seq p (.inr rfl) ho hc hd (fun h' c' kp e => fin its r' hz h' c' kp e) (by simp only [List.size_toArray] <;> omega)
theorem call_tuple_of : CallR X (.type "tuple") (fun xs H Q => ∃ p ys, xs = [.ref p] /\ ((SqL X.K H p ys /\ ∀ l, H l = none -> Q (.ref l) (upd H l (.tup ys))) \/ (SqT X.K H p ys /\ Q (.ref p) H))) := by
  intro pins s σ H xs us Q I r h
  obtain ⟨p, ys, rfl, h⟩ := h
  obtain ⟨u, rfl, rx⟩ := vals1 r
  cases rx
  rcases h with ⟨hq, q⟩ | ⟨hq, q⟩
  · obtain ⟨its, r', pl, hz⟩ := I.list hq
    have hlen := r'.length
    refine call_tuple_list pl.isList (fun h' kp => ?_) (by simp only [List.size_toArray] <;> omega)
    have I1 : Inv X pins σ H { s with heap := h' } := I.kept (t' := s.toks) kp
    have I2 : Inv X pins σ (upd H h'.objs.size (.tup ys)) { s with heap := h'.push { cls := .type "tuple", data := .seq its.toArray } } :=
      I1.laid (t' := s.toks) (fun b o e => Heap.get?_push_of_some _ e) (Nat.le_refl _) (show ObjOk X.prog X.w _ _ _ (.tup ys) from ⟨hz, its, r', IsTup.new _ _⟩)
    exact ⟨.ref h'.objs.size, _, I2, rfl, q _ (I1.hok.fresh (Nat.le_refl _))⟩
  · obtain ⟨its, r', pl, hz⟩ := I.tuple hq
    exact call_tuple_same pl ⟨.ref p, H, I, rfl, q⟩
def tyV (K : PySem.W.Frag) (T : String) (x : V) (H : Hp) : Prop := match x with
  | .str _ => T = "str"
  | .int _ => T = "int"
  | .ref p => (T = "list" /\ ∃ xs, SqL K H p xs) \/ (T = "tuple" /\ ∃ o, K.lookup p = some o /\ o.cls = .type "tuple" /\ o.dict = none) \/
      (T = "dict" /\ ((∃ kvs, H p = some (.dK kvs)) \/ ∃ kvs, H p = some (.dT kvs))) \/ (T = "set" /\ ∃ S n, H p = some (.set S n))
  | _ => False
theorem tyV_is {pins : List (Addr × Obj)} {σ : St} {H : Hp} {s : Shared} {T : String} {x : V} {v : Value} (I : Inv X pins σ H s) (r : RelV x v) (ty : tyV X.K T x H) :
    s.TypeIs v T /\ ∀ a, v = .ref a -> ∃ ob, s.heap.get? a = some ob /\ ob.dict = none := by
  cases x with
  | str z =>
    obtain ⟨t, rfl⟩ := r
    cases (show T = "str" from ty)
    exact ⟨typeIs_str s z t, fun _ e => nomatch e⟩
  | int i =>
    obtain ⟨t, rfl⟩ := r
    cases (show T = "int" from ty)
    exact ⟨typeIs_int s i t, fun _ e => nomatch e⟩
  | ref p =>
    cases r
    rcases ty with ⟨rfl, xs, hq⟩ | ⟨rfl, o, hk, hc, hd⟩ | ⟨rfl, hk⟩ | ⟨rfl, S, n, hk⟩
    · obtain ⟨its, _, pl, _⟩ := I.list hq
      refine ⟨pl.isList.typeIs, fun a e => ?_⟩
      cases e
      obtain ⟨o, n, e, c, hd, _⟩ := pl
      exact ⟨o, e, hd⟩
    · refine ⟨⟨o, I.kIn p o hk, hc⟩, fun a e => ?_⟩
      cases e
      exact ⟨o, I.kIn _ o hk, hd⟩
    · have z : ∃ o, s.heap.get? p = some o /\ o.ExactDict := by
        rcases hk with ⟨kvs, hk⟩ | ⟨kvs, hk⟩
        · obtain ⟨_, _, _, _, o, _, _, e, ex, _⟩ := I.hok p _ hk
          exact ⟨o, e, ex⟩
        · obtain ⟨_, _, _, _, o, _, _, e, ex, _⟩ := I.hok p _ hk
          exact ⟨o, e, ex⟩
      obtain ⟨o, e, ex⟩ := z
      refine ⟨⟨o, e, ex.1⟩, fun a e2 => ?_⟩
      cases e2
      exact ⟨o, e, ex.2.1⟩
    · obtain ⟨o, _, _, _, e, ex, _⟩ := I.hok p _ hk
      refine ⟨⟨o, e, ex.1⟩, fun a e2 => ?_⟩
      cases e2
      exact ⟨o, e, ex.2.1⟩
  | _ => exact False.elim ty
def tBM0 (K : PySem.W.Frag) (T : String) (r : V -> List V -> Hp -> VK -> Prop) (to : TE) : TE := fun σ H Q => to σ H fun x H1 => tyV K T x H1 /\ r x [] H1 Q
def tBM (K : PySem.W.Frag) (T : String) (r : V -> List V -> Hp -> VK -> Prop) (to : TE) (t : TA) : TE := fun σ H Q => to σ H fun x H1 => tyV K T x H1 /\ t σ H1 fun xs H2 => r x xs H2 Q
variable {o e : Expr} {es : List Expr} {to : TE} {t : TA} {name : Str} {apos cpos : Pos} {T id : String} {r : V -> List V -> Hp -> VK -> Prop}
theorem pe_bm0 (pa : PlainAttrs T) (slot : Slot T name id) (hty : typeOf (.builtin id) = pure (.type "method_descriptor")) (hm : MtR X id r) (ho : PE X o to)
    (hbase : attributeBase o name X.env (eval o X.env) = eval o X.env := by rfl) (hline : (apos.endLine == cpos.line) = true := by rfl) : PE X (.Call (.Attribute o name apos) [] [] cpos) (tBM0 X.K T r to) := by
  intro pins s σ H Q I h
  refine wpAny_Call_method0_late hbase hline (thn (ho pins s σ H _ I h) fun v s1 ⟨x, H1, I1, r1, ty, q1⟩ => ?_)
  obtain ⟨h1, h2⟩ := tyV_is I1 r1 ty
  exact ⟨T, id, pa, slot, hty, h1, h2, Calls.callWith_builtin rfl (PySem.evalArgs_none (hm pins s1 σ H1 x [] v [] Q I1 r1 .nil q1))⟩
theorem pe_bm (pa : PlainAttrs T) (slot : Slot T name id) (hty : typeOf (.builtin id) = pure (.type "method_descriptor")) (hm : MtR X id r) (ho : PE X o to) (ha : PA X (e :: es) t)
    (hbase : attributeBase o name X.env (eval o X.env) = eval o X.env := by rfl)
    (hfew : ((backTo cpos (starEach (e :: es) X.env)).all (fun x => !x.1) && (backToKw cpos (keywordEach [] X.env)).all (fun x => x.1.isSome)
      && decide ((e :: es).length + ([] : List Keyword).length + (if ([] : List Keyword).isEmpty then 0 else 1) < 30)) = true := by rfl)
    (hline : (apos.endLine == cpos.line) = true := by rfl) (hs : starEach (e :: es) X.env = (false, eval e X.env) :: starEach es X.env := by rfl) (hplain : (backTo cpos (starEach es X.env)).any (·.1) = false := by rfl) :
    PE X (.Call (.Attribute o name apos) (e :: es) [] cpos) (tBM X.K T r to t) := by
  intro pins s σ H Q I h
  refine wpAny_Call_method_late hbase hfew hline rfl (thn (ho pins s σ H _ I h) fun v s1 ⟨x, H1, I1, r1, ty, q1⟩ => ?_)
  obtain ⟨h1, h2⟩ := tyV_is I1 r1 ty
  refine ⟨T, id, pa, slot, hty, h1, h2, ?_⟩
  have hA := ha cpos pins s1 σ H1 _ I1 q1
  rw [hs] at hA ⊢
  refine Calls.callWith_builtin (by show (false || (backTo cpos (starEach es X.env)).any (·.1)) = false; rw [hplain] <;> rfl) (Calls.evalArgs_plain ?_)
  exact thn hA fun us s2 ⟨vs, H2, I2, r2, q2⟩ => hm pins s2 σ H2 x vs v us Q I2 r1 r2 q2
/- xs.append(e), list.index on a module's tuple .. are MtR facts of 06m -/
end
end L2
namespace L2
open PySem PySem.Spec PyProof.Rows
def MtM (X : Cx) (id : String) (r : V -> List V -> Hp -> VK -> Prop) : Prop :=
  ∀ (pins : List (Addr × Obj)) (s : Shared) (σ : St) (H : Hp) (x : V) (xs : List V) (v : Value) (us : List Value) (Q : VK), Inv X pins σ H s -> RelV x v -> Vals xs us -> r x xs H Q ->
    wpAny (model X.prog X.w) X.A (call (.builtin id) (v :: us)) (EP X pins σ Q) X.xe s
theorem Vals.one : ∀ {x : V} {us : List Value}, Vals [x] us -> ∃ u, us = [u] /\ RelV x u
  | _, _, .cons r .nil => ⟨_, rfl, r⟩
theorem Vals.zero : ∀ {us : List Value}, Vals [] us -> us = []
  | _, .nil => rfl
theorem Vals.reverse {xs : List V} {us : List Value} (h : Vals xs us) : Vals xs.reverse us.reverse := by
  induction h with
  | nil => exact .nil
  | cons r t ih => rw [List.reverse_cons, List.reverse_cons]; exact Vals.append ih (.cons r .nil)
theorem Vals.rep {xs : List V} {us : List Value} (h : Vals xs us) : ∀ k : Nat, Vals (List.replicate k xs).flatten (List.replicate k us).flatten
  | 0 => .nil
  | k + 1 => by
    rw [List.replicate_succ, List.replicate_succ, List.flatten_cons, List.flatten_cons]
    exact Vals.append h (Vals.rep h k)
theorem foldl_rep (its : List Value) : ∀ (k : Nat) (acc : List Value),
    List.foldl (fun x1 x2 => x1 ++ x2) acc.toArray (List.replicate k its.toArray) = (acc ++ (List.replicate k its).flatten).toArray
  | 0, acc => by simp
  | k + 1, acc => by
    have e : acc.toArray ++ its.toArray = (acc ++ its).toArray := by simp
    have e2 : (acc ++ its) ++ (List.replicate k its).flatten = acc ++ (List.replicate (k + 1) its).flatten := by
      rw [List.replicate_succ, List.flatten_cons, List.append_assoc]
    rw [<- e2, <- foldl_rep its k (acc ++ its), <- e, List.replicate_succ, List.foldl_cons]
section
variable {X : Cx} {pins : List (Addr × Obj)} {σ : St} {H : Hp} {s : Shared} {l b : Addr} {xs ys zs : List V}
theorem Inv.lset {its its' : List Value} {n : Nat} {f : Array Value -> Array Value} {t' : Nat} (I : Inv X pins σ H s) (hH : H l = some (.lst xs))
    (e : s.heap.get? l = some { cls := .type "list", data := .seq its.toArray n }) (hf : f its.toArray = its'.toArray) (hv : Vals ys its') (hz : ys.length <= sizeLine) :
    Inv X pins σ (upd H l (.lst ys)) { s with heap := s.heap.update l (Obj.mapSeq f), toks := t' } := by
  have q := PySem.IsL.update e f
  rw [hf] at q
  refine I.write (x := l) (e := l) (by rw [hH]; exact trivial) (.inl rfl) (fun b' u hb hu => (Heap.get?_update_other s.heap (Obj.mapSeq f) (Ne.symm hb)).trans hu) ⟨_, q⟩ ?_
  exact ⟨hz, its', _, hv, q⟩
theorem Inv.lnew {its : List Value} {t' : Nat} (I : Inv X pins σ H s) (hv : Vals ys its) (hz : ys.length <= sizeLine) :
    Inv X pins σ (upd H s.heap.objs.size (.lst ys)) { s with heap := s.heap.push { cls := .type "list", data := .seq its.toArray }, toks := t' } :=
  I.laid (fun _ _ q => Heap.get?_push_of_some _ q) (Nat.le_refl _) ⟨hz, its, 0, hv, Heap.get?_push_size _ rfl⟩
theorem Inv.fresh (I : Inv X pins σ H s) : H s.heap.objs.size = none := I.hok.fresh (Nat.le_refl _)
theorem Inv.lstM (I : Inv X pins σ H s) (hH : H l = some (.lst xs)) : xs.length <= sizeLine /\ ∃ (its : List Value) (n : Nat), Vals xs its /\ xs.length = its.length /\ s.heap.get? l = some { cls := .type "list", data := .seq its.toArray n } := by
  obtain ⟨z, its, n, r, e⟩ := I.hok l _ hH
  exact ⟨z, its, n, r, r.length, e⟩
theorem notLongL {n : Nat} (h : n <= sizeLine) : Builtin.List.listTooLong n = false := by
  unfold Builtin.List.listTooLong
  exact decide_eq_false (by omega)
end
section
variable {X : Cx}
def rAppend : V -> List V -> Hp -> VK -> Prop := fun x vs H Q => ∃ l xs y, x = .ref l /\ vs = [y] /\ H l = some (.lst xs) /\ xs.length < sizeLine /\ Q .non (upd H l (.lst (xs ++ [y])))
theorem mt_append : MtM X "list.append" rAppend := by
  intro pins s σ H x vs v us Q I rx rv h
  obtain ⟨l, xs, y, rfl, rfl, hH, hz, q⟩ := h
  cases rx
  obtain ⟨u, rfl, ru⟩ := rv.one
  obtain ⟨z, its, n, r, hl, e⟩ := I.lstM hH
  refine call_meets F.slot_list_append ⟨_, e, rfl⟩ F.entry_list_append (F.args_list_append_2 _ _) (PySem.list_append l its.toArray n u (by rw [List.size_toArray]; omega)) ⟨e, ?_⟩
  refine ⟨.non, _, I.lset (its' := its ++ [u]) hH e (by simp) (r.append (.cons ru .nil)) ?_, rfl, q⟩
  rw [List.length_append, List.length_singleton]
  omega
def rExtend : V -> List V -> Hp -> VK -> Prop := fun x vs H Q => ∃ l b xs zs, x = .ref l /\ vs = [.ref b] /\ H l = some (.lst xs) /\ H b = some (.lst zs) /\ xs.length + zs.length <= sizeLine /\ Q .non (upd H l (.lst (xs ++ zs)))
theorem mt_extend : MtM X "list.extend" rExtend := by
  intro pins s σ H x vs v us Q I rx rv h
  obtain ⟨l, b, xs, zs, rfl, rfl, hH, hB, hz, q⟩ := h
  cases rx
  obtain ⟨u, rfl, ru⟩ := rv.one
  cases ru
  obtain ⟨z, its, n, r, hl, e⟩ := I.lstM hH
  obtain ⟨z2, its2, n2, r2, hl2, e2⟩ := I.lstM hB
  have hsz : its.toArray.size + its2.toArray.size <= sizeLine := by rw [List.size_toArray, List.size_toArray]; omega
  have hlong : ¬ (!its.toArray.isEmpty && Builtin.List.listTooLong (its.toArray.size + its2.toArray.size)) = true := by
    rw [notLongL hsz, Bool.and_false]
    exact Bool.false_ne_true
  refine call_meets F.slot_list_extend ⟨_, e, rfl⟩ F.entry_list_extend (F.args_list_extend_2 _ _)
    (AutoSeq1.list_extend_list_list_0 l its.toArray n b its2.toArray n2 hlong (by rw [List.size_toArray]; omega) (by omega)) ⟨e, e2, ?_⟩
  refine ⟨.non, _, I.lset (its' := its ++ its2) hH e (by simp) (r.append r2) ?_, rfl, q⟩
  rw [List.length_append]
  omega
def rReverse : V -> List V -> Hp -> VK -> Prop := fun x vs H Q => ∃ l xs, x = .ref l /\ vs = [] /\ H l = some (.lst xs) /\ Q .non (upd H l (.lst xs.reverse))
theorem mt_reverse : MtM X "list.reverse" rReverse := by
  intro pins s σ H x vs v us Q I rx rv h
  obtain ⟨l, xs, rfl, rfl, hH, q⟩ := h
  cases rx
  have hus := rv.zero
  subst hus
  obtain ⟨z, its, n, r, hl, e⟩ := I.lstM hH
  refine call_meets F.slot_list_reverse ⟨_, e, rfl⟩ F.entry_list_reverse (F.args_list_reverse_1 _) (AutoSeq1.list_reverse_list_0 l its.toArray n (by rw [List.size_toArray]; omega)) ⟨e, ?_⟩
  refine ⟨.non, _, I.lset (its' := its.reverse) hH e (by simp) r.reverse ?_, rfl, q⟩
  rw [List.length_reverse]
  omega
def rRep : R2 := fun x y H Q => ∃ l k xs, x = .ref l /\ y = .int k /\ H l = some (.lst xs) /\ -(2 ^ 63) <= k /\ k < 2 ^ 63 /\ xs.length * k.toNat <= sizeLine /\
  ∀ p, H p = none -> Q (.ref p) (upd H p (.lst (List.replicate k.toNat xs).flatten))
theorem len_rep {α : Type} (xs : List α) (k : Nat) : (List.replicate k xs).flatten.length = k * xs.length := by
  induction k with
  | zero => simp
  | succ k ih => rw [List.replicate_succ, List.flatten_cons, List.length_append, ih, Nat.succ_mul, Nat.add_comm]
theorem op_rep : OpR X (binaryOp .Mult) rRep := by
  intro pins s σ H x y v u Q I rx ry h
  obtain ⟨l, k, xs, rfl, rfl, hH, h1, h2, hz, q⟩ := h
  cases rx
  obtain ⟨t, rfl⟩ := ry
  obtain ⟨z, its, n, r, hl, e⟩ := I.lstM hH
  have hlen : its.toArray.size * k.toNat <= sizeLine := by rw [List.size_toArray, <- hl]; exact hz
  have hcap : ¬ its.toArray.size * k.toNat > (2 ^ 63 - 1) / 8 := by
    have : (sizeLine : Nat) <= (2 ^ 63 - 1) / 8 := by decide
    omega
  have hfit : ¬ (!Builtin.List.listFitsIndex k) = true := by
    rw [fitsIndex_both h1 h2]
    exact Bool.false_ne_true
  have hlong : ¬ Builtin.List.listTooLong (its.toArray.size * k.toNat) = true := by
    rw [notLongL hlen]
    exact Bool.false_ne_true
  have hnew : List.foldl (fun x1 x2 => x1 ++ x2) #[] (List.replicate (if its.toArray.isEmpty = true then 0 else k.toNat) its.toArray) = (List.replicate k.toNat its).flatten.toArray := by
    have f0 : ∀ m : Nat, List.foldl (fun x1 x2 => x1 ++ x2) #[] (List.replicate m its.toArray) = (List.replicate m its).flatten.toArray := fun m => by
      have := foldl_rep its m []
      rw [List.nil_append] at this
      exact this
    rw [f0]
    cases its with
    | nil => simp
    | cons a r' => rw [if_neg (by simp)]
  refine wpAny_binaryOp_repeat_ref (T := "list") (U := "int") (by decide) ⟨_, e, rfl⟩ (fun s' => typeIs_int s' k t) noFill_list_mul F.fills_int_mul F.slot_int_rmul repeat_list F.slot_int_index.lookup
    (call_meets F.slot_int_rmul (typeIs_int s k t) F.entry_int_rmul (F.args_int_rmul_2 _ _) (int___rmul___int_list k t l its.toArray n)
      ⟨e, rfl, ⟨_, e, rfl⟩, call_meets F.slot_list_mul ⟨_, e, rfl⟩ F.entry_list_mul (F.args_list_mul_2 _ _) (AutoListH.list___mul___list_int_3 l its.toArray n k t hfit hcap hlong) ⟨e, ?_⟩⟩)
  rw [hnew]
  exact ⟨.ref _, _, I.lnew (t' := s.toks) (r.rep k.toNat) (by rw [len_rep, Nat.mul_comm]; exact hz), rfl, q _ I.fresh⟩
end
section
variable {prog : Program} {w : World} {A : Around} {E : Value -> Shared -> Prop} {s : Shared}
theorem bounds_run {a c n : Nat} (hac : a <= c) (hc : c <= n) : sliceBounds (some (a : Int)) (some (c : Int)) none n = ((a : Int), (c : Int), 1) := by
  simp only [sliceBounds, Option.getD_none]
  have h1 : ¬ ((a : Int) < 0) := by omega
  have h2 : ¬ ((c : Int) < 0) := by omega
  simp only [h1, h2, if_false, show (1 : Int) > 0 by decide, if_true]
  congr 1
  · omega
  · congr 1; omega
set_option maxRecDepth 100000 in
theorem setItem_slice {l b sl : Addr} {items new : Array Value} {n n2 : Nat} {vl vu : Value} {a c : Nat} {Q : Unit -> Shared -> Prop}
    (e : s.heap.get? l = some { cls := .type "list", data := .seq items n }) (e2 : s.heap.get? b = some { cls := .type "list", data := .seq new n2 }) (hne : l ≠ b)
    (hs : s.heap.IsSliceOf sl vl vu .none) (pl : IsPart vl (some (a : Int))) (pu : IsPart vu (some (c : Int))) (hac : a <= c) (hc : c <= items.size)
    (hsz : items.size + new.size <= sizeLine) (h : Q () { s with heap := s.heap.update l (Obj.mapSeq fun xs => xs.extract 0 a ++ new ++ xs.extract c xs.size) }) :
    wpAny (model prog w) A (setItem (.ref l) (.ref sl) (.ref b)) Q E s := by
  have hl : s.heap.IsList l items := PySem.IsL.isList e
  have hb : s.heap.IsList b new := PySem.IsL.isList e2
  obtain ⟨os, hos, hcs, hds⟩ := id hs
  have hTs : s.TypeIs (.ref sl) "slice" := ⟨os, hos, hcs⟩
  have hstep : ¬ ((rawPart none == rawInt 0) = true) := Bool.false_ne_true
  have hsame : Builtin.List.listSameRef (.ref l) (.ref b) = false := by
    unfold Builtin.List.listSameRef
    exact beq_eq_false_iff_ne.mpr hne
  have hmax : (max (a : Int) (c : Int)).toNat = c := by omega
  have hz' : ((fun xs : Array Value => xs.extract 0 a ++ new ++ xs.extract c xs.size) items).size <= sizeLine + 1 := by
    simp only [Array.size_append, Array.size_extract]
    omega
  unfold setItem
  try with_reducible refine wpAny_holding ?_
  first | refine wpAny_bind (wpAny_pure ?_) | skip
  refine wpAny_bind (wpAny_sequenceKey hl.typeIs (by decide) ?_)
  refine wpAny_bind (wpAny_callSpecial?_slot (name := Str.ofString "__setitem__") hl.typeIs slot_list_setitem
    (wpAny_call_entry slot_list_setitem hl.typeIs entry_list_setitem ?_ (args_list_setitem _ _ _)))
  show wpAny _ _ (Builtin.List.listSubscript? (.ref sl) >>= _) _ _ s
  refine wpAny_bind ?_
  unfold Builtin.List.listSubscript?
  refine wpAny_bind (wpAny_specialOf hTs slice_no_index ?_)
  simp only [Option.isNone_none, if_true]
  refine wpAny_pure ?_
  show wpAny _ _ (typeOf (.ref sl) >>= _) _ _ s
  refine wpAny_bind (wpAny_typeOf hTs ?_)
  first
    | rw [if_neg (by decide)]
    | refine PySem.W.KFB.if_not (by decide) ?_
  rw [listSliceParts_eq]
  refine wpAny_bind (wpAny_bind (wpAny_field hos hds (x := .none) rfl (wpAny_bind (wpAny_listPart .none ?_))))
  rw [if_neg hstep]
  refine wpAny_bind (wpAny_field hos hds (x := vl) rfl (wpAny_bind (wpAny_listPart pl ?_)))
  refine wpAny_bind (wpAny_field hos hds (x := vu) rfl (wpAny_bind (wpAny_listPart pu (wpAny_pure ?_))))
  first
    | simp only [hsame, Bool.false_eq_true, if_false]
    | refine PySem.W.KFB.if_not hsame ?_
    | (dsimp only
       rw [if_neg (by rw [hsame]; exact Bool.false_ne_true)])
  refine wpAny_bind (m := Builtin.List.listAllItems (.ref b) "must assign iterable to extended slice") ?_
  unfold Builtin.List.listAllItems
  refine wpAny_bind (wpAny_typeOf hb.typeIs ?_)
  first
    | refine PySem.W.KFB.if_so (by decide) ?_
    | rw [if_pos (by decide)]
    | simp only [beq_self_eq_true, Bool.true_or, if_true]
  unfold Builtin.List.listItems
  refine wpAny_bind (wpAny_seqItems e2 rfl (wpAny_pure ?_))
  refine wpAny_bind (wpAny_bind (wpAny_seqItems e rfl (wpAny_pure ?_)))
  refine wpAny_bind (wpAny_of_eq ((sliceIndices_raw (some (a : Int)) (some (c : Int)) none items.size (by simp)).trans (congrArg (pure : Int × Int × Int -> Sem (Int × Int × Int)) (bounds_run hac hc))) ?_)
  show wpAny _ _ (if ((1 : Int) == 1) = true then _ else _) _ _ s
  rw [if_pos (by decide)]
  refine wpAny_bind (wpAny_rule ?_)
  first
    | simp only [notLongL hsz, Bool.false_eq_true, if_false]
    | refine PySem.W.KFB.if_not (notLongL hsz) ?_
  first | refine wpAny_bind (wpAny_pure ?_) | skip
  show wpAny _ _ (updateSeq l (fun xs => xs.extract 0 ((a : Int)).toNat ++ new ++ xs.extract (max (a : Int) (c : Int)).toNat xs.size) >>= _) _ _ s
  rw [hmax, Int.toNat_natCast]
  refine wpAny_bind (wpAny_updateSeq (hz := Nat.le_trans (Nat.le_add_right _ _) hsz) (_hz' := hz') e rfl ?_)
  refine wpAny_bind (wpAny_letGo ?_)
  first
    | exact wpAny_bind (wpAny_pure (wpAny_pure ⟨.none, rfl, wpAny_pure h⟩))
    | exact wpAny_pure ⟨.none, rfl, wpAny_pure h⟩
end
end L2
namespace Att
open PySem PySem.W PySem.Calls PyProof.Rows
theorem ints_of_wellAll {P : Params} {h : Heap} : ∀ (ns : List Int) (vs : List Value), WellAll P h vs (ns.map WData.int) -> IntsAre vs ns := by
  intro ns
  induction ns with
  | nil =>
    intro vs w
    rw [List.map_nil] at w
    cases w
    exact .nil
  | cons n ns ih =>
    intro vs w
    rw [List.map_cons] at w
    cases w with
    | cons a b =>
      cases a
      exact .cons _ _ (ih _ b)
theorem script_of {l : OpenLaw} {n : Nat} (hn : l.most = some n) {P : Params} {h : Heap} {args : List WData} {vals : List Value}
    (hpre : l.row.toRowW.claim.pre args = true) (hwl : WellAll P h vals args) :
    ∃ a vs ns, vals = [Value.ref a] /\ args = [WData.list (ns.map WData.int)] /\ h.get? a = some { cls := .type "list", data := .seq vs.toArray } /\ IntsAre vs ns /\ ns.length <= n := by
  have hsh : WShape.hasAll [] args [.list .int] = true := (pre_splitW hpre).1
  have hc : l.pre.holds [] { args := args } = true := (pre_splitW hpre).2
  obtain ⟨d, r, rfl, h1, h2⟩ := hasAllW_cons hsh
  obtain rfl := hasAllW_nil h2
  obtain ⟨xs, rfl, h3⟩ := hasW_list h1
  obtain ⟨ns, rfl⟩ := items_int h3
  have hlen : ns.length <= n := by
    unfold OpenLaw.pre at hc
    have h4 : (WTm.not (.lt (.lit (.int (n : Int))) (.len (.arg 0)))).holds [] { args := [.list (ns.map .int)] } = true := by
      have h4 := (holds_andW hc).1
      rw [hn] at h4
      exact h4
    have h5 := condW_of h4 (w_not (w_lt w_lit (w_len_list (w_arg rfl))))
    rw [List.length_map] at h5
    refine Nat.le_of_not_lt fun q => ?_
    have q' : (n : Int) < ((ns.length : Nat) : Int) := by omega
    first
      | (rw [decide_eq_true q'] at h5; exact absurd h5 (by decide))
      | (simp at h5; omega)
  cases hwl with
  | cons w1 w2 =>
    cases w2
    cases w1 with
    | list ho hall => exact ⟨_, _, ns, rfl, rfl, ho, ints_of_wellAll ns _ hall, hlen⟩
theorem post_true (l : OpenLaw) (args : List WData) : l.row.toRowW.claim.post args (.bool true) args = true :=
  postW_of (r := l.row.toRowW) (X := (true == true))
    (show WShape.has [] (.bool true) .bool = true by first | rfl | decide | simp [WShape.has, WShape.arms, WShape.armsAll])
    (show (WTm.eq .res (.lit (.bool true))).value [] { args := args, res := some (.bool true), after := args } = some (.bool (true == true)) from w_eq_bool (w_res rfl) w_lit) rfl
theorem attach_call {l : OpenLaw} {n : Nat} {q : Program} {loose : List Str} {XP : (Str -> Option Value) -> Heap -> Prop} {YP : World -> Heap -> Prop} {d : DefRec}
    (hn : l.most = some n) (hdf : d.params.defaults = [])
    (call : ∀ (w : World) (s₀ s₁ : Shared) (mg mb : Str -> Option Value) (fa : Addr) (o : Obj) (pm cd doc : Value) (a : Addr) (vs : List Value) (ns : List Int),
      Ground q loose [] XP w s₀ mg mb s₁.heap -> YP w s₁.heap ->
      s₁.heap.get? fa = some o -> o.data = .func (docDef d.name d.params d.body d.scope pm cd doc) -> s₁.heap.CodeRec cd d.name -> mg d.name = some (.ref fa) ->
      s₁.heap.get? a = some { cls := .type "list", data := .seq vs.toArray } -> IntsAre vs ns -> ns.length <= n -> s₁.gens = #[] ->
      codeAny (model l.prog w) callerA (.call (.ref fa) ⟨[.ref a], []⟩) (fun r s' => r = .ok (.ret (.bool true)) /\ OldK s₁.heap s'.heap /\ s'.os = s₁.os /\ AllBare s'.gens) s₁) :
    WalkO q loose XP YP l.row.toRowW d [] (fun f vs => PySem.call f vs) := by
  intro w s₀ s₁ mg mb G Y fa o pm cd doc dV kV ho hd hcd hD hmg hg args vals as hpre hlay hrd hwl hlo
  obtain rfl : dV = .none := Dflts.none hD hdf
  obtain rfl : kV = .none := Dflts.noKw hD
  obtain ⟨a, vs, ns, rfl, rfl, hobj, hints, hlen⟩ := script_of hn hpre hwl
  refine enter_call (codeAny_mono (call w s₀ s₁ mg mb fa o pm cd doc a vs ns G Y ho (fd_plain hd) hcd hmg hobj hints hlen hg) fun r s' hq => ?_)
  obtain ⟨rfl, h2, h3, h4⟩ := hq
  exact ⟨.inl ⟨.bool true, .bool true, [], rfl, fun _ => rfl, .bool true, post_true l _, fun _ => ⟨List.Pairwise.nil, fun _ hm => (nomatch hm)⟩⟩, h2, h3, h4⟩
end Att
namespace L2
open PySem PySem.Spec PyProof.Rows
theorem vals_ints : ∀ {vs : List Value} {ns : List Int}, IntsAre vs ns -> Vals (ns.map V.int) vs
  | _, _, .nil => .nil
  | _, _, .cons n t h => .cons ⟨t, rfl⟩ (vals_ints h)
def Only (H : Hp) : Prop := ∀ b, H b = none \/ ∃ o xs, H b = some (.frz o (.lst xs))
theorem law_call {P : Program} {w : World} {K : PySem.W.Frag} {mg mb : Str -> Option Value} {CX : CXT} {k : Nat} {fa a : Addr} {fd : FuncData} {x : Str} {sp : Sp} {s₁ : Shared} {vs : List Value} {ns : List Int}
    (KX : K.In s₁.heap) (hns : s₁.heap.Ns mainGlobals mg) (hb : s₁.heap.Ns builtinsNs mb) (hbb : ∀ x : Str, x ≠ "__name__" -> mb x = bootBuiltins x) (hlim : s₁.heap.NoLimit) (hg : s₁.gens = #[])
    (ha : s₁.heap.get? a = some { cls := .type "list", data := .seq vs.toArray }) (hi : IntsAre vs ns) (hl : ns.length <= sizeLine) (hr : Room k callerA)
    (F : ∀ base : Heap, K.In base -> base.Ns mainGlobals mg -> FnOk P w K mg base CX k fa fd [x] sp) (hbind : ∀ (s : Shared) (u : Value), BindsTo s fd ⟨[u], []⟩ [(x, u)])
    (hsp : ∀ H : Hp, Only H -> SqL K H a (ns.map V.int) -> sp [.ref a] H (fun v _ => v = .bl true) fun _ _ _ => False)
    (hCX : ∀ H e s', CX [] H s₁ (fun _ _ _ => False) e s' -> False) :
    codeAny (model P w) callerA (.call (.ref fa) ⟨[.ref a], []⟩) (fun r s' => r = .ok (.ret (.bool true)) /\ OldK s₁.heap s'.heap /\ s'.os = s₁.os /\ AllBare s'.gens) s₁ := by
  have rv := vals_ints hi
  have lenV := hi.length
  have core : ∀ H : Hp, Only H -> SqL K H a (ns.map V.int) -> HOk P w H s₁.heap -> (∀ b, H b ≠ none -> b = a) -> (H a ≠ none -> K.lookup a = none) ->
      codeAny (model P w) callerA (.call (.ref fa) ⟨[.ref a], []⟩) (fun r s' => r = .ok (.ret (.bool true)) /\ OldK s₁.heap s'.heap /\ s'.os = s₁.os /\ AllBare s'.gens) s₁ := by
    intro H hO hS hok hA hK
    have base_of : ∀ {b : Addr} {o : Obj}, s₁.heap.get? b = some o -> H b = none -> (hidT s₁.heap H).get? b = some o := fun e n => hidT_get e n
    have noA : ∀ {b : Addr} {o : Obj} {es : Array DictEntry} {ep : Nat}, s₁.heap.get? b = some o -> o.data = .dict es ep -> H b = none := fun {b o es ep} e d => by
      cases q : H b with
      | none => rfl
      | some u =>
        have e' : b = a := hA b (by rw [q]; simp)
        subst e'
        rw [ha] at e; cases e
        have d' : Data.seq vs.toArray _ = Data.dict es ep := d
        cases d'
    have nsK : ∀ {b : Addr} {m : Str -> Option Value}, s₁.heap.Ns b m -> (hidT s₁.heap H).Ns b m := fun {b m} ⟨o, es, ep, e, d, r⟩ => ⟨o, es, ep, base_of e (noA e d), d, r⟩
    have hKb : K.In (hidT s₁.heap H) := fun b o e => base_of (KX b o e) (by
      cases q : H b with
      | none => rfl
      | some u =>
        have e' : b = a := hA b (by rw [q]; simp)
        subst e'
        rw [hK (by rw [q]; simp)] at e; cases e)
    have hM : Mod K mg (hidT s₁.heap H) := ⟨hKb, nsK hns, ⟨mb, nsK hb, hbb⟩, let ⟨mc, h1, h2⟩ := hlim; ⟨mc, nsK h1, h2⟩⟩
    have e0 : Env0 P w K mg (hidT s₁.heap H) callerA [] s₁ H := ⟨rfl, hM, fun b o e => of_hidT e, Nat.le_of_eq (hidT_size _ _), trivial, fun b hb => absurd (show b ∈ ([] : List Addr) from hb) (by simp), hok, .of_eq hg⟩
    refine codeAny_mono ((F _ hKb (nsK hns)).run callerA [] s₁ H ⟨[.ref a], []⟩ [.ref a] [.ref a] _ _ hr e0 (hbind s₁ (.ref a)) (.cons rfl .nil) (hsp H hO hS)) fun r s' h => ?_
    cases r with
    | error e => exact (hCX H e s' h).elim
    | ok fl =>
      cases fl with
      | next => exact False.elim h
      | brk => exact False.elim h
      | cont => exact False.elim h
      | ret u =>
        obtain ⟨v, H', os, bare, un, hok', r', q⟩ := h
        have q' : v = .bl true := q
        subst q'
        obtain rfl : u = Value.bool true := r'
        refine ⟨rfl, OldK.of_keep fun b o e => ?_, os, bare⟩
        cases q : H b with
        | none => exact un.keep b o e q (by intro z; exact absurd (show b ∈ ([] : List Addr) from z) (by simp)) (by simp)
        | some u =>
          rcases hO b with z | ⟨ob, xs, z⟩
          · rw [q] at z; cases z
          · have z2 := un.frzs b ob _ z
            obtain ⟨e1, _⟩ := hok b _ z
            obtain ⟨e2, _⟩ := hok' b _ z2
            rw [e] at e1; cases e1
            exact e2
  cases hk : K.lookup a with
  | some o =>
    have e := KX a o hk
    rw [ha] at e
    cases e
    refine core (fun _ => none) (fun _ => .inl rfl) (.inr ⟨_, vs.toArray, _, hk, rfl, rfl, rfl, by rw [List.size_toArray, lenV]; exact hl, by simpa using rv⟩) (fun b u z => by have z' : (none : Option HO) = some u := z; cases z') (fun b z => absurd rfl z) fun z => absurd rfl z
  | none =>
    refine core (fun b => if b = a then some (.frz { cls := .type "list", data := .seq vs.toArray } (.lst (ns.map V.int))) else none) (fun b => ?_) (.inl (.inr ⟨{ cls := .type "list", data := .seq vs.toArray }, if_pos rfl⟩)) (fun b u z => ?_) (fun b z => ?_) fun _ => hk
    · by_cases hb : b = a
      · exact .inr ⟨_, _, if_pos hb⟩
      · exact .inl (if_neg hb)
    · by_cases hb : b = a
      · have z' := (if_pos hb).symm.trans z
        cases z'
        subst hb
        exact ⟨ha, by rw [List.length_map]; exact hl, vs, _, rv, ha⟩
      · have z' := (if_neg hb).symm.trans z
        cases z'
    · by_cases hb : b = a
      · exact hb
      · exact absurd (if_neg hb) z
end L2
namespace L2
open PySem PySem.Spec PyProof.Rows
abbrev KOf {K : PySem.W.Frag} {h : Heap} (_ : K.In h) : PySem.W.Frag := K
theorem walk_of {l : PySem.W.OpenLaw} {n k : Nat} {q : Program} {loose : List Str} {XP : (Str -> Option Value) -> Heap -> Prop} {YP : World -> Heap -> Prop} {d : DefRec} {K : Params -> PySem.W.Frag} {CX : World -> CXT} {sp : World -> Sp} {x : Str}
    (hn : l.most = some n) (hn2 : n <= sizeLine) (hdf : d.params.defaults = []) (hr : Room k callerA)
    (hY : ∀ (w : World) (h : Heap), YP w h -> (K w.params).In h)
    (F : ∀ (w : World) (mg : Str -> Option Value) (fa : Addr) (h : Heap), (K w.params).In h -> h.Ns mainGlobals mg -> mg d.name = some (.ref fa) ->
      ∃ fd : FuncData, (∀ (s : Shared) (u : Value), BindsTo s fd ⟨[u], []⟩ [(x, u)]) /\
        ∀ base : Heap, (K w.params).In base -> base.Ns mainGlobals mg -> FnOk l.prog w (K w.params) mg base (CX w) k fa fd [x] (sp w))
    (hsp : ∀ (w : World) (H : Hp) (a : Addr) (ns : List Int), ns.length <= n -> Only H -> SqL (K w.params) H a (ns.map V.int) -> sp w [.ref a] H (fun v _ => v = .bl true) fun _ _ _ => False)
    (hCX : ∀ (w : World) (H : Hp) (s : Shared) (e : Value) (s' : Shared), CX w [] H s (fun _ _ _ => False) e s' -> False) :
    PySem.W.WalkO q loose XP YP l.row.toRowW d [] (fun f vs => PySem.call f vs) := by
  refine Att.attach_call hn hdf fun w s₀ s₁ mg mb fa o pm cd doc a vs ns G Y ho hd hcd hmg hobj hints hlen hg => ?_
  have KX := hY w _ Y
  obtain ⟨fd, hb, hF⟩ := F w mg fa _ KX G.T.g hmg
  exact law_call KX G.T.g G.T.b G.T.builtins G.T.nolimit hg hobj hints (Nat.le_trans hlen hn2) hr hF hb (fun H hO hS => hsp w H a ns hlen hO hS) fun H e s' => hCX w H s₁ e s'
end L2
/- THE LAST THEOREM (shape; LID, My.* are yours):
   My.Adr: a structure of the addresses that your layer names (classes, functions); My.Txt K t: a structure (Prop) of the equations over K;
   My.txt_mk : {K} {implicit addresses ..} (e1 : nsIn K mainGlobals "law" = some (some (.ref f))) (e2 : K.lookup f = some ⟨oc, od, .func (fnOf "law" "law" params body scope dV kV doc pm an cdv ct), sl⟩) (e3 : codeIn K cdv "law" = true) .. : ∃ t, My.Txt K t
set_option maxRecDepth 100000 in
set_option maxHeartbeats 0 in
theorem PySem.Challenge.cw_LID_holds : PySem.Challenge.rw_LID.Holds := by
  w_on; o_law; k_head; (case hw => w_witness2)
  k_fill
  refine L2.walk_of (l := PySem.Challenge.rw_LID) (n := 63) (k := 40) (x := "script") (CX := fun w => ..) (sp := fun _ => My.sp_law) rfl (by decide) rfl ⟨rfl, by decide, by decide⟩ (fun w h Y => PySem.W.kIn_of Y) ?F ?S ?C
  case F =>
    intro w mg fa h KX G hmg
    have T : ∃ t, My.Txt (L2.KOf KX) t := by
      dsimp only [L2.KOf]                          -- K must stand as «<heap const> w.params» for k_is
      refine' My.txt_mk ?e1 ?e2 ?e3 ..
      (case e1 => PySem.W.k_is)                    -- in the order: a name -> its address -> its object -> its parts
      (case e2 => PySem.W.k_is)
      ..
    obtain ⟨t, T⟩ := T
    have e0 := hmg.symm.trans (PySem.W.mg_of KX G T.law)
    cases e0                                       -- fa is the law's own address
    exact ⟨_, fun s u => .of_eq rfl, fun base kb nb => My.law_fn T kb nb⟩     -- if «.of_eq rfl» comes too early: refine' ⟨_, ?b, fun base kb nb => My.law_fn T kb nb⟩; exact fun s u => .of_eq rfl
  case S => exact fun w H a ns hl hO hS => ..
  case C => exact ..
(the tactic k_is has no namespace: write k_is) -/
namespace L2
open PySem PySem.Spec PyProof.Rows
def inClass (s : Stmt) (j : Nat) : Stmt := match s with
  | .ClassDef _ _ _ body _ _ _ _ _ _ _ => body.getD j (.Pass ⟨0, 0, 0, 0⟩)
  | _ => .Pass ⟨0, 0, 0, 0⟩
def defArgs (s : Stmt) : Arguments := match s with
  | .FunctionDef _ a _ _ _ _ _ _ _ _ => a
  | _ => { posonlyargs := [], args := [], vararg := none, kwonlyargs := [], kw_defaults := [], kwarg := none, defaults := [] }
def defBody (s : Stmt) : List Stmt := match s with
  | .FunctionDef _ _ b _ _ _ _ _ _ _ => b
  | _ => []
def defScope (s : Stmt) : Scope := match s with
  | .FunctionDef _ _ _ _ _ _ sc _ _ _ => sc
  | _ => { kind := .function, names := [], isGenerator := false, isCoroutine := false }
abbrev CX0 : CXT := fun _ _ _ _ _ _ => False
abbrev E0 : XK := fun _ _ _ => False
theorem pass0 {X : Cx} : Passes CX0 X E0 := fun _ _ _ _ _ _ _ h => h.elim
structure Fun (K : PySem.W.Frag) (x qual : Str) (st : Stmt) (f : Addr) (fd : FuncData) : Prop where
  ex : ∃ (oc : Value) (od : Option Addr) (kV doc pm : Value) (an : Option Addr) (cdv ct : Value) (osl : Array (Option Value)),
    fd = PySem.W.fnOf x qual (defArgs st) (defBody st) (defScope st) .none kV doc pm an cdv ct /\ K.lookup f = some ⟨oc, od, .func fd, osl⟩ /\ PySem.W.codeIn K cdv qual = true
  kp : PySem.W.keepIn K (.ref f) = true
section
variable {P : Program} {w : World} {K : PySem.W.Frag} {mg : Str -> Option Value} {base : Heap}
theorem Fun.ok {x qual : Str} {st : Stmt} {f : Addr} {fd : FuncData} {N ps : List Str} {k : Nat} {sp : Sp} (F : Fun K x qual st f fd) (S : FnScope N ps (defScope st)) (len : ∀ vs H Q E, sp vs H Q E -> vs.length = ps.length)
    (hbody : ∀ (cdv : Value) (A : Around) (outer : List Env) (s : Shared) (H : Hp) (vs : List V) (Q : VK) (E : XK), Room k (A.deeper (envOfC qual (defScope st) s.heap.objs.size f cdv)) -> sp vs H Q E ->
      ∃ t, PSs (cxOf CX0 P w K mg base N qual (defScope st) f cdv A outer s H E).nox (defBody st) t /\ t { nx := fun _ H' => Q .non H', rt := Q } (start N vs) H) : FnOk P w K mg base CX0 (k + 1) f fd ps sp := by
  obtain ⟨oc, od, kV, doc, pm, an, cdv, ct, osl, rfl, lk, hcd⟩ := F.ex
  refine fn_of lk hcd S len fun A outer s H vs Q E hr hsp => ?_
  obtain ⟨t, h, q⟩ := hbody cdv A outer s H vs Q E hr hsp
  exact ⟨t, h.nox, q⟩
theorem Fun.binds {x qual : Str} {st : Stmt} {f : Addr} {fd : FuncData} {ps : List Str} (F : Fun K x qual st f fd)
    (h : ∀ (kV doc pm : Value) (an : Option Addr) (cdv ct : Value) (us : List Value), us.length = ps.length -> bindArgs (PySem.W.fnOf x qual (defArgs st) (defBody st) (defScope st) .none kV doc pm an cdv ct) ⟨us, []⟩ = pure (ps.zip us)) : Binds K fd ps [] := by
  obtain ⟨oc, od, kV, doc, pm, an, cdv, ct, osl, rfl, lk, hcd⟩ := F.ex
  exact .all (h kV doc pm an cdv ct)
theorem fun_mk {x qual : Str} {st : Stmt} {f : Addr} {oc : Value} {od an : Option Addr} {osl : Array (Option Value)} {kV doc pm cdv ct : Value} (l : K.lookup f = some ⟨oc, od, .func (PySem.W.fnOf x qual (defArgs st) (defBody st) (defScope st) .none kV doc pm an cdv ct), osl⟩)
    (c : PySem.W.codeIn K cdv qual = true) (k : PySem.W.keepIn K (.ref f) = true) : Fun K x qual st f (PySem.W.fnOf x qual (defArgs st) (defBody st) (defScope st) .none kV doc pm an cdv ct) := ⟨⟨oc, od, kV, doc, pm, an, cdv, ct, osl, rfl, l, c⟩, k⟩
end
section
variable {X : Cx}
theorem pv (i : Nat) {x : Str} {pos : Pos} (hN : X.N[i]? = some x := by rfl) (hv : Vis X.env.scope x := by first | exact Or.inl rfl | exact Or.inr (Or.inl rfl) | exact Or.inr (Or.inr rfl)) (hd : (x == ("__debug__" : Str)) = false := by decide)
    (hcd : (x == ("__classdict__" : Str)) = false := by decide) : PE X (.Name x pos) (tVar i) := pe_var hN hv hd hcd
end
theorem iteF {A B : Prop} (h : B) : if false = true then A else B := by
  rw [if_neg Bool.false_ne_true]
  exact h
theorem iteT {A B : Prop} (h : A) : if true = true then A else B := by
  rw [if_pos rfl]
  exact h
theorem ite2 {c A B : Prop} [Decidable c] (h1 : c -> A) (h2 : ¬ c -> B) : if c then A else B := by
  by_cases h : c
  · rw [if_pos h]
    exact h1 h
  · rw [if_neg h]
    exact h2 h
def Same (H H' : Hp) : Prop := ∀ b o, H b = some o -> H' b = some o
theorem Same.refl (H : Hp) : Same H H := fun _ _ h => h
theorem Same.trans {H H1 H2 : Hp} (a : Same H H1) (b : Same H1 H2) : Same H H2 := fun c o h => b c o (a c o h)
theorem Same.free {H H' : Hp} (e : Same H H') {l : Addr} (h : H' l = Option.none) : H l = Option.none := by
  cases q : H l with
  | none => rfl
  | some o =>
    rw [e l o q] at h
    cases h
theorem Same.seq {K : PySem.W.Frag} {H H' : Hp} {a : Addr} {xs : List V} (e : Same H H') (h : SqL K H a xs) : SqL K H' a xs := by
  rcases h with (h | ⟨o, h⟩) | h
  · exact .inl (.inl (e _ _ h))
  · exact .inl (.inr ⟨o, e _ _ h⟩)
  · exact .inr h
end L2
set_option maxHeartbeats 4000000
namespace HT
open PySem PyProof.Rows
end HT
namespace L2
open PySem PySem.Spec PyProof.Rows
theorem PE.imp {X : Cx} {e : Expr} {t t' : TE} (h : PE X e t) (k : ∀ σ H Q, t' σ H Q -> t σ H Q) : PE X e t' := fun pins s σ H Q I q => h pins s σ H Q I (k σ H Q q)
theorem OpR.imp {X : Cx} {f : Value -> Value -> Sem Value} {r r' : R2} (h : OpR X f r) (k : ∀ x y H Q, r' x y H Q -> r x y H Q) : OpR X f r' := fun pins s σ H x y v u Q I rx ry q => h pins s σ H x y v u Q I rx ry (k x y H Q q)
theorem CallR.imp {X : Cx} {f : Value} {r r' : List V -> Hp -> VK -> Prop} (h : CallR X f r) (k : ∀ xs H Q, r' xs H Q -> r xs H Q) : CallR X f r' := fun pins s σ H xs us Q I rs q => h pins s σ H xs us Q I rs (k xs H Q q)
theorem IxR.imp {X : Cx} {r r' : R2} (h : IxR X r) (k : ∀ x y H Q, r' x y H Q -> r x y H Q) : IxR X r' := fun value slice pins s σ H x y v u Q I rx ry q hs => h value slice pins s σ H x y v u Q I rx ry (k x y H Q q) hs
theorem Same.new {H : Hp} {p : Addr} {o : HO} (h : H p = none) : Same H (upd H p o) := fun b u e => by rw [upd_ne (ne_of_none e h)]; exact e
structure Gro (H : Hp) (p : Addr) (o : HO) (H' : Hp) : Prop where
  nw : H p = none
  sm : Same H H'
  at_ : H' p = some o
theorem Gro.mk' {H : Hp} {p : Addr} {o : HO} (h : H p = none) : Gro H p o (upd H p o) := ⟨h, Same.new h, upd_same⟩
theorem Gro.lst {K : PySem.W.Frag} {H H' : Hp} {p : Addr} {xs : List V} (g : Gro H p (.lst xs) H') : SqL K H' p xs := .of g.at_
theorem Gro.tup {K : PySem.W.Frag} {H H' : Hp} {p : Addr} {xs : List V} (g : Gro H p (.tup xs) H') : SqT K H' p xs := .of g.at_
theorem Same.put {H H' : Hp} {p : Addr} {o : HO} (s : Same H H') (h : H p = none) : Same H (upd H' p o) := fun b u e => by
  rw [upd_ne (ne_of_none e h)]
  exact s b u e
def mV (i : Nat) : TE := fun σ H Q => match σ[i]? with
  | some (some v) => Q v H
  | _ => False
theorem vv (i : Nat) {X : Cx} {x : Str} {pos : Pos} (hN : X.N[i]? = some x := by rfl) (hv : Vis X.env.scope x := by first | exact Or.inl rfl | exact Or.inr (Or.inl rfl) | exact Or.inr (Or.inr rfl)) (hd : (x == ("__debug__" : Str)) = false := by decide)
    (hcd : (x == ("__classdict__" : Str)) = false := by decide) : PE X (.Name x pos) (mV i) := (pe_var hN hv hd hcd).imp fun σ H Q q => by
  unfold mV at q
  split at q
  · exact ⟨_, by assumption, q⟩
  · exact q.elim
section
variable {X : Cx} {a b : Expr} {ta tb : TE} {pos : Pos} {rest : List Expr}
def mAnd (ta tb : TE) : TE := fun σ H Q => ta σ H fun x H1 => match x with
  | .bl c => if c = true then tb σ H1 Q else Q (.bl false) H1
  | _ => False
def mOr (ta tb : TE) : TE := fun σ H Q => ta σ H fun x H1 => match x with
  | .bl c => if c = true then Q (.bl true) H1 else tb σ H1 Q
  | _ => False
def mNot (ta : TE) : TE := fun σ H Q => ta σ H fun x H1 => match x with
  | .bl c => Q (.bl (!c)) H1
  | _ => False
theorem me_and (ha : PE X a ta) (hb : PE X (.BoolOp .And (b :: rest) pos) tb) : PE X (.BoolOp .And (a :: b :: rest) pos) (mAnd ta tb) := by
  intro pins s σ H Q I h
  refine BoolOp_and (thn (ha pins s σ H _ I h) fun v s1 ⟨x, H1, I1, r1, q1⟩ => ?_)
  cases x with
  | bl c =>
    cases r1
    refine wpAny_truthy_bool ?_
    cases c with
    | true => exact hb pins s1 σ H1 Q I1 q1
    | false => exact ⟨.bl false, H1, I1, rfl, q1⟩
  | _ => exact False.elim q1
theorem me_or (ha : PE X a ta) (hb : PE X (.BoolOp .Or (b :: rest) pos) tb) : PE X (.BoolOp .Or (a :: b :: rest) pos) (mOr ta tb) := by
  intro pins s σ H Q I h
  refine BoolOp_or (thn (ha pins s σ H _ I h) fun v s1 ⟨x, H1, I1, r1, q1⟩ => ?_)
  cases x with
  | bl c =>
    cases r1
    refine wpAny_truthy_bool ?_
    cases c with
    | false => exact hb pins s1 σ H1 Q I1 q1
    | true => exact ⟨.bl true, H1, I1, rfl, q1⟩
  | _ => exact False.elim q1
theorem me_not (ha : PE X a ta) : PE X (.UnaryOp .Not a pos) (mNot ta) := by
  intro pins s σ H Q I h
  refine UnaryOp_ (thn (ha pins s σ H _ I h) fun v s1 ⟨x, H1, I1, r1, q1⟩ => ?_)
  cases x with
  | bl c =>
    cases r1
    exact not_of (wpAny_truthy_bool ⟨.bl (!c), H1, I1, rfl, q1⟩)
  | _ => exact False.elim q1
def mB (t : TE) : TT := fun σ H Q => t σ H fun x H1 => match x with
  | .bl c => Q c H1
  | _ => False
theorem mt_val {e : Expr} {t : TE} (h : PE X e t) (he : ∀ whole, isTrue e X.env whole = (do let v <- whole; standAt e.pos; holding [v] (truthy v)) := by intro _; rfl) : PT X e (mB t) := by
  intro pins s σ H Q I hw
  refine isTrue_plain (thn (h pins s σ H _ I hw) fun v s1 ⟨x, H1, I1, r1, q1⟩ => ?_) (he _)
  cases x with
  | bl c =>
    cases r1
    exact wpAny_truthy_bool ⟨H1, I1, q1⟩
  | _ => exact False.elim q1
theorem mt_cmp {op : CmpOp} {r : R2} (ho : OpR X (compareOp op) r) (ha : PE X a ta) (hb : PE X b tb) (hm : behindInMarks op b = false) : PT X (.Compare a [op] [b] pos) (mB (tOp r ta tb)) := by
  intro pins s σ H Q I h
  refine wpAny_isTrue_Compare1 (thn (ha pins s σ H _ I h) fun v s1 ⟨x, H1, I1, r1, q1⟩ => thn (hb pins s1 σ H1 _ I1 q1) fun u s2 ⟨y, H2, I2, r2, q2⟩ =>
    thn (ho pins s2 σ H2 x y v u _ I2 r1 r2 q2) fun c s3 ⟨z, H3, I3, r3, q3⟩ => ?_) hm
  cases z with
  | bl k =>
    cases r3
    exact wpAny_truthy_bool ⟨H3, I3, q3⟩
  | _ => exact False.elim q3
def mChain (r r' : R2) (ta tb tc : TE) : TE := fun σ H Q => ta σ H fun x H1 => tb σ H1 fun y H2 => r x y H2 fun z H3 => match z with
  | .bl k => if k = true then tc σ H3 fun w' H4 => r' y w' H4 Q else Q (.bl false) H3
  | _ => False
theorem me_chain {c : Expr} {tc : TE} {op op' : CmpOp} {r r' : R2} (ho : OpR X (compareOp op) r) (ho' : OpR X (compareOp op') r') (ha : PE X a ta) (hb : PE X b tb) (hc : PE X c tc)
    (hm : lastMarks [op, op'] [b, c] = false := by with_unfolding_all rfl) : PE X (.Compare a [op, op'] [b, c] pos) (mChain r r' ta tb tc) := by
  intro pins s σ H Q I h
  refine Compare_chain (thn (ha pins s σ H _ I h) fun v s1 ⟨x, H1, I1, r1, q1⟩ => chain_link (thn (hb pins s1 σ H1 _ I1 q1) fun u s2 ⟨y, H2, I2, r2, q2⟩ =>
    thn (ho pins s2 σ H2 x y v u _ I2 r1 r2 q2) fun d s3 ⟨z, H3, I3, r3, q3⟩ => ?_)) hm
  cases z with
  | bl k =>
    cases r3
    refine wpAny_truthy_bool ?_
    cases k with
    | false => exact ite_ff ⟨.bl false, H3, I3, rfl, q3⟩
    | true => exact ite_tt (chain_last (thn (hc pins s3 σ H3 _ I3 q3) fun w' s4 ⟨z', H4, I4, r4, q4⟩ => ho' pins s4 σ H4 y z' u w' Q I4 r2 r4 q4))
  | _ => exact False.elim q3
theorem mt_chain {c : Expr} {tc : TE} {op op' : CmpOp} {r r' : R2} (ho : OpR X (compareOp op) r) (ho' : OpR X (compareOp op') r') (ha : PE X a ta) (hb : PE X b tb) (hc : PE X c tc)
    (hm : lastMarks [op, op'] [b, c] = false := by with_unfolding_all rfl) : PT X (.Compare a [op, op'] [b, c] pos) (mB (mChain r r' ta tb tc)) := by
  intro pins s σ H Q I h
  refine isTrue_chain (thn (ha pins s σ H _ I h) fun v s1 ⟨x, H1, I1, r1, q1⟩ => test_link (thn (hb pins s1 σ H1 _ I1 q1) fun u s2 ⟨y, H2, I2, r2, q2⟩ =>
    thn (ho pins s2 σ H2 x y v u _ I2 r1 r2 q2) fun d s3 ⟨z, H3, I3, r3, q3⟩ => ?_)) hm
  cases z with
  | bl k =>
    cases r3
    refine wpAny_truthy_bool ?_
    cases k with
    | false => exact ite_ff ⟨H3, I3, q3⟩
    | true =>
      refine ite_tt (test_last (thn (hc pins s3 σ H3 _ I3 q3) fun w' s4 ⟨z', H4, I4, r4, q4⟩ => thn (ho' pins s4 σ H4 y z' u w' _ I4 r2 r4 q4) fun d' s5 ⟨z2, H5, I5, r5, q5⟩ => ?_))
      cases z2 with
      | bl k2 =>
        cases r5
        exact wpAny_truthy_bool ⟨H5, I5, q5⟩
      | _ => exact False.elim q5
  | _ => exact False.elim q3
def mTru (K : PySem.W.Frag) (t : TE) : TT := fun σ H Q => t σ H fun x H1 => match x with
  | .non => Q false H1
  | .bl c => Q c H1
  | .int i => Q (i != 0) H1
  | .ref p => ∃ xs, (SqL K H1 p xs \/ SqT K H1 p xs) /\ Q (!xs.isEmpty) H1
  | _ => False
theorem mt_tru {e : Expr} {t : TE} (h : PE X e t) (he : ∀ whole, isTrue e X.env whole = (do let v <- whole; standAt e.pos; holding [v] (truthy v)) := by intro _; rfl) : PT X e (mTru X.K t) := by
  intro pins s σ H Q I hw
  refine isTrue_plain (thn (h pins s σ H _ I hw) fun v s1 ⟨x, H1, I1, r1, q1⟩ => ?_) (he _)
  cases x with
  | non => exact tru_ok pins s1 σ H1 _ v Q I1 r1 ⟨false, rfl, q1⟩
  | bl c => exact tru_ok pins s1 σ H1 _ v Q I1 r1 ⟨c, rfl, q1⟩
  | int i => exact tru_ok pins s1 σ H1 _ v Q I1 r1 ⟨i != 0, rfl, q1⟩
  | ref p =>
    obtain ⟨xs, hx, q1⟩ := q1
    rcases hx with hx | hx
    · exact tru_ok pins s1 σ H1 _ v Q I1 r1 ⟨_, .inl ⟨xs, hx, rfl⟩, q1⟩
    · exact tru_ok pins s1 σ H1 _ v Q I1 r1 ⟨_, .inr (.inl ⟨xs, hx, rfl⟩), q1⟩
  | _ => exact False.elim q1
end
section
variable {X : Cx} {a b : Expr} {ta tb : TE} {pos : Pos}
def gI (C : Int -> Int -> Prop) (g : Int -> Int -> V) : R2 := fun x y H Q => match x, y with
  | .int i, .int j => C i j /\ Q (g i j) H
  | _, _ => False
def gI0 (g : Int -> Int -> V) : R2 := fun x y H Q => match x, y with
  | .int i, .int j => Q (g i j) H
  | _, _ => False
theorem gI0_of {f : Value -> Value -> Sem Value} {g : Int -> Int -> V} (h : OpR X f (rI0 g)) : OpR X f (gI0 g) := h.imp fun x y H Q q => by
  cases x <;> cases y <;> first | exact False.elim q | exact ⟨_, _, rfl, rfl, q⟩
theorem gI_of {f : Value -> Value -> Sem Value} {C : Int -> Int -> Prop} {g : Int -> Int -> V} (h : OpR X f (rI C g)) : OpR X f (gI C g) := h.imp fun x y H Q q => by
  cases x <;> cases y <;> first | exact False.elim q | exact ⟨_, _, rfl, rfl, q.1, q.2⟩
theorem g_sub : OpR X (binaryOp .Sub) (gI0 fun i j => .int (i - j)) := gI0_of op_sub
theorem g_mod : OpR X (binaryOp .Mod) (gI (fun _ j => 0 < j) fun i j => .int (i % j)) := gI_of op_mod
theorem g_shr : OpR X (binaryOp .RShift) (gI (fun _ j => 0 <= j) fun i j => .int (i / 2 ^ j.toNat)) := gI_of op_shr
theorem g_lt : OpR X (compareOp .Lt) (gI0 fun i j => .bl (decide (i < j))) := gI0_of op_lt
theorem g_le : OpR X (compareOp .LtE) (gI0 fun i j => .bl (decide (i <= j))) := gI0_of op_le
theorem g_gt : OpR X (compareOp .Gt) (gI0 fun i j => .bl (decide (j < i))) := gI0_of op_gt
theorem g_ge : OpR X (compareOp .GtE) (gI0 fun i j => .bl (decide (j <= i))) := gI0_of op_ge
def mFd (j : Int) (ta : TE) : TE := fun σ H Q => ta σ H fun x H1 => match x with
  | .int i => Q (.int (i / j)) H1
  | _ => False
def mMd (j : Int) (ta : TE) : TE := fun σ H Q => ta σ H fun x H1 => match x with
  | .int i => Q (.int (i % j)) H1
  | _ => False
theorem me_fd {j : Int} {k : Nat} {p : Pos} (ha : PE X a ta) (hj : 0 < j /\ j < 1073741824 := by decide) : PE X (.BinOp a .FloorDiv (.Constant (.int j) k p) pos) (mFd j ta) := by
  intro pins s σ H Q I h
  refine wpAny_BinOp (thn (ha pins s σ H _ I h) fun v s1 ⟨x, H1, I1, r1, q1⟩ => ?_)
  refine thn (pe_int pins s1 σ H1 (fun y H2 => y = .int j /\ H2 = H1) I1 ⟨rfl, rfl⟩) fun u s2 ⟨y, H2, I2, r2, e1, e2⟩ => ?_
  subst e1 e2
  cases x with
  | int i => exact op_fdiv pins s2 σ H2 (.int i) (.int j) v u Q I2 r1 r2 ⟨i, j, rfl, rfl, hj, q1⟩
  | _ => exact False.elim q1
theorem me_md {j : Int} {k : Nat} {p : Pos} (ha : PE X a ta) (hj : 0 < j := by decide) : PE X (.BinOp a .Mod (.Constant (.int j) k p) pos) (mMd j ta) := by
  intro pins s σ H Q I h
  refine wpAny_BinOp (thn (ha pins s σ H _ I h) fun v s1 ⟨x, H1, I1, r1, q1⟩ => ?_)
  refine thn (pe_int pins s1 σ H1 (fun y H2 => y = .int j /\ H2 = H1) I1 ⟨rfl, rfl⟩) fun u s2 ⟨y, H2, I2, r2, e1, e2⟩ => ?_
  subst e1 e2
  cases x with
  | int i => exact op_mod pins s2 σ H2 (.int i) (.int j) v u Q I2 r1 r2 ⟨i, j, rfl, rfl, hj, q1⟩
  | _ => exact False.elim q1
end
section
variable {X : Cx}
theorem cat_seq {pins : List (Addr × Obj)} {s : Shared} {σ : St} {H : Hp} {l b : Addr} {xs zs : List V} {Q : VK} (I : Inv X pins σ H s) (hl : SqL X.K H l xs) (hb : SqL X.K H b zs) (hz : xs.length + zs.length <= sizeLine)
    (q : ∀ p H', Gro H p (.lst (xs ++ zs)) H' -> Q (.ref p) H') : wpAny (model X.prog X.w) X.A (binaryOp .Add (.ref l) (.ref b)) (EP X pins σ Q) X.xe s := by
  obtain ⟨its, r, pl, _⟩ := I.list hl
  obtain ⟨its2, r2, pl2, _⟩ := I.list hb
  have e1 := r.length
  have e2 := r2.length
  obtain ⟨⟨cls, dd, data, sl⟩, ho, hc, n, hd⟩ := pl.isList
  obtain ⟨⟨cls2, dd2, data2, sl2⟩, ho2, hc2, n2, hd2⟩ := pl2.isList
  simp only at hc hd hc2 hd2
  subst hc hd hc2 hd2
  have ea : its.toArray ++ its2.toArray = (its ++ its2).toArray := by simp
  refine concat_meets ⟨_, ho, rfl⟩ ⟨_, ho2, rfl⟩ noFill_list_add seq_list_add PySem.F.slot_list_add PySem.F.entry_list_add (PySem.F.args_list_add_2 _ _) (list_addW l b its.toArray its2.toArray n n2 dd dd2 sl sl2 (by rw [List.size_toArray, List.size_toArray]; omega)) ⟨ho, ho2, ?_⟩
  rw [ea]
  exact ⟨.ref _, _, I.lnew (t' := s.toks) (r.append r2) (by rw [List.length_append]; omega), rfl, q _ _ (.mk' I.fresh)⟩
def gAdd (K : PySem.W.Frag) : R2 := fun x y H Q => match x, y with
  | .int i, .int j => Q (.int (i + j)) H
  | .ref l, .ref b => ∃ xs zs, SqL K H l xs /\ SqL K H b zs /\ xs.length + zs.length <= sizeLine /\ ∀ p H', Gro H p (.lst (xs ++ zs)) H' -> Q (.ref p) H'
  | _, _ => False
theorem g_add : OpR X (binaryOp .Add) (gAdd X.K) := by
  intro pins s σ H x y v u Q I rx ry q
  cases x with
  | int i =>
    cases y with
    | int j => exact op_add pins s σ H _ _ v u Q I rx ry ⟨i, j, rfl, rfl, q⟩
    | _ => exact False.elim q
  | ref l =>
    cases y with
    | ref b =>
      obtain ⟨xs, zs, h1, h2, h3, q⟩ := q
      cases rx
      cases ry
      exact cat_seq I h1 h2 h3 q
    | _ => exact False.elim q
  | _ => exact False.elim q
def gMul : R2 := fun x y H Q => match x, y with
  | .int i, .int j => CMul i j /\ Q (.int (i * j)) H
  | .ref l, .int k => ∃ xs, H l = some (.lst xs) /\ -(2 ^ 63) <= k /\ k < 2 ^ 63 /\ xs.length * k.toNat <= sizeLine /\ ∀ p H', Gro H p (.lst (List.replicate k.toNat xs).flatten) H' -> Q (.ref p) H'
  | _, _ => False
theorem g_mul : OpR X (binaryOp .Mult) gMul := by
  intro pins s σ H x y v u Q I rx ry q
  cases x with
  | int i =>
    cases y with
    | int j => exact op_mul pins s σ H _ _ v u Q I rx ry ⟨i, j, rfl, rfl, q.1, q.2⟩
    | _ => exact False.elim q
  | ref l =>
    cases y with
    | int k =>
      obtain ⟨xs, h1, h2, h3, h4, q⟩ := q
      exact op_rep pins s σ H _ _ v u Q I rx ry ⟨l, k, xs, rfl, rfl, h1, h2, h3, h4, fun p hp => q p _ (.mk' hp)⟩
    | _ => exact False.elim q
  | _ => exact False.elim q
def isB (x : V) (c : Bool) : Bool := match x with
  | .bl d => d == c
  | _ => false
theorem rel_plainIs {x : V} {v : Value} {c : Bool} (r : RelV x v) (hf : ∀ f, x ≠ .ty f) : plainIs v (.bool c) = true /\ (v == Value.bool c) = isB x c := by
  cases x with
  | non => cases r; exact ⟨rfl, rfl⟩
  | bl d => cases r; exact ⟨rfl, by cases d <;> cases c <;> rfl⟩
  | int _ => obtain ⟨t, rfl⟩ := r; exact ⟨rfl, rfl⟩
  | str _ => obtain ⟨t, rfl⟩ := r; exact ⟨rfl, rfl⟩
  | byt _ => obtain ⟨t, rfl⟩ := r; exact ⟨rfl, rfl⟩
  | flt _ => obtain ⟨t, rfl⟩ := r; exact ⟨rfl, rfl⟩
  | ref _ => cases r; exact ⟨rfl, rfl⟩
  | ty f => exact absurd rfl (hf f)
def gIs (neg : Bool) : R2 := fun x y H Q => match y with
  | .non => Q (.bl (if neg then !decide (x = .non) else decide (x = .non))) H
  | .bl c => (∀ f, x ≠ .ty f) /\ Q (.bl (if neg then !isB x c else isB x c)) H
  | _ => False
theorem g_is : OpR X (compareOp .Is) (gIs false) := by
  intro pins s σ H x y v u Q I rx ry q
  cases y with
  | non => exact op_isN pins s σ H x _ v u Q I rx ry ⟨rfl, q⟩
  | bl c =>
    cases ry
    obtain ⟨h1, h2⟩ := rel_plainIs (c := c) rx q.1
    exact wpAny_is_plain h1 ⟨.bl _, H, I, by rw [h2]; rfl, q.2⟩
  | _ => exact False.elim q
end
def DataV (K : PySem.W.Frag) (H : Hp) (d : PyData) (x : V) : Prop := ∀ (X : Cx) (pins : List (Addr × Obj)) (σ : St) (s : Shared) (u : Value), X.K = K -> Inv X pins σ H s -> RelV x u -> ∃ as, Reads s.heap u d as
def DataVs (K : PySem.W.Frag) (H : Hp) (ds : List PyData) (xs : List V) : Prop := ∀ (X : Cx) (pins : List (Addr × Obj)) (σ : St) (s : Shared) (us : List Value), X.K = K -> Inv X pins σ H s -> Vals xs us -> ∃ as, ReadsAll s.heap us ds as
section
variable {K : PySem.W.Frag} {H : Hp}
theorem DataV.bl (b : Bool) : DataV K H (.bool b) (.bl b) := fun _ _ _ _ _ _ _ r => by cases r; exact ⟨_, .bool b⟩
theorem DataV.int (i : Int) : DataV K H (.int i) (.int i) := fun _ _ _ _ _ _ _ r => by obtain ⟨t, rfl⟩ := r; exact ⟨_, .int i t⟩
theorem DataV.str (x : Str) : DataV K H (.str x) (.str x) := fun _ _ _ _ _ _ _ r => by obtain ⟨t, rfl⟩ := r; exact ⟨_, .str x t⟩
theorem DataVs.nil : DataVs K H [] [] := fun _ _ _ _ _ _ _ r => by cases r; exact ⟨_, .nil⟩
theorem DataVs.cons {d : PyData} {ds : List PyData} {x : V} {xs : List V} (a : DataV K H d x) (b : DataVs K H ds xs) : DataVs K H (d :: ds) (x :: xs) := fun X pins σ s us e I r => by
  cases r with
  | cons r1 r2 =>
    obtain ⟨as, ha⟩ := a X pins σ s _ e I r1
    obtain ⟨bs, hb⟩ := b X pins σ s _ e I r2
    exact ⟨_, .cons ha hb⟩
theorem DataV.lst {ds : List PyData} {p : Addr} {xs : List V} (h : SqL K H p xs) (b : DataVs K H ds xs) : DataV K H (.list ds) (.ref p) := fun X pins σ s u e I r => by
  cases r
  subst e
  obtain ⟨its, rv, ⟨o, n, ho, hc, _, hd⟩, _⟩ := I.list h
  obtain ⟨as, ha⟩ := b X pins σ s its rfl I rv
  exact ⟨_, .list ho hc hd (by simpa using ha)⟩
theorem DataV.tup {ds : List PyData} {p : Addr} {xs : List V} (h : SqT K H p xs) (b : DataVs K H ds xs) : DataV K H (.tuple ds) (.ref p) := fun X pins σ s u e I r => by
  cases r
  subst e
  obtain ⟨its, rv, ⟨o, ho, hc, n, hd⟩, _⟩ := I.tuple h
  obtain ⟨as, ha⟩ := b X pins σ s its rfl I rv
  exact ⟨_, .tuple ho hc hd (by simpa using ha)⟩
theorem DataVs.ints : ∀ ns : List Int, DataVs K H (ns.map PyData.int) (ns.map V.int)
  | [] => .nil
  | n :: ns => .cons (.int n) (DataVs.ints ns)
end
open SeqAt (shaped)
def gEq (K : PySem.W.Frag) (neg : Bool) : R2 := fun x y H Q => match x, y with
  | .int i, .int j => Q (.bl (if neg then !decide (i = j) else decide (i = j))) H
  | .bl a, .bl b => Q (.bl (if neg then !(a == b) else a == b)) H
  | _, _ => ∃ d e, DataV K H d x /\ DataV K H e y /\ shaped d = true /\ shaped e = true /\ Q (.bl (if neg then !d.eqv e else d.eqv e)) H
section
variable {X : Cx}
theorem eq_data {pins : List (Addr × Obj)} {s : Shared} {σ : St} {H : Hp} {x y : V} {v u : Value} {Q : VK} {neg : Bool} (hu : X.A.units + 64 < cLine) (I : Inv X pins σ H s) (rx : RelV x v) (ry : RelV y u)
    (q : ∃ d e, DataV X.K H d x /\ DataV X.K H e y /\ shaped d = true /\ shaped e = true /\ Q (.bl (if neg then !d.eqv e else d.eqv e)) H) :
    wpAny (model X.prog X.w) X.A (compareOp (if neg then .NotEq else .Eq) v u) (EP X pins σ Q) X.xe s := by
  obtain ⟨d, e, hd, he, h1, h2, q⟩ := q
  obtain ⟨as, ra⟩ := hd X pins σ s v rfl I rx
  obtain ⟨bs, rb⟩ := he X pins σ s u rfl I ry
  cases neg with
  | true => exact ne_dataH ra rb h1 h2 hu ⟨.bl _, H, I, rfl, q⟩
  | false => exact eq_dataH ra rb h1 h2 hu ⟨.bl _, H, I, rfl, q⟩
theorem dec_intI {i j : Int} : decide (V.int i = V.int j) = decide (i = j) := by simp
theorem g_eq (hu : X.A.units + 64 < cLine) : OpR X (compareOp .Eq) (gEq X.K false) := by
  intro pins s σ H x y v u Q I rx ry q
  have D := fun q' => eq_data (neg := false) (Q := Q) hu I rx ry q'
  cases x with
  | int i =>
    cases y with
    | int j => exact op_eq pins s σ H _ _ v u Q I rx ry ⟨rfl, by rw [dec_intI]; exact q⟩
    | _ => exact D q
  | bl i =>
    cases y with
    | bl j => exact op_eq pins s σ H _ _ v u Q I rx ry ⟨rfl, by rw [dec_bl]; exact q⟩
    | _ => exact D q
  | _ => exact D q
theorem g_ne (hu : X.A.units + 64 < cLine) : OpR X (compareOp .NotEq) (gEq X.K true) := by
  intro pins s σ H x y v u Q I rx ry q
  have D := fun q' => eq_data (neg := true) (Q := Q) hu I rx ry q'
  cases x with
  | int i =>
    cases y with
    | int j => exact op_ne pins s σ H _ _ v u Q I rx ry ⟨rfl, by rw [dec_intI]; exact q⟩
    | _ => exact D q
  | bl i =>
    cases y with
    | bl j => exact op_ne pins s σ H _ _ v u Q I rx ry ⟨rfl, by rw [dec_bl]; exact q⟩
    | _ => exact D q
  | _ => exact D q
def gIn (K : PySem.W.Frag) (neg : Bool) : R2 := fun x y H Q => match y with
  | .ref p => ∃ xs, (SqL K H p xs \/ SqT K H p xs) /\ flatV x = true /\ xs.all flatV = true /\ Q (.bl (if neg then !inV x xs else inV x xs)) H
  | _ => False
theorem g_in : OpR X (compareOp .In) (gIn X.K false) := op_in_seq.imp fun x y H Q q => by
  cases y with
  | ref p => obtain ⟨xs, h1, h2, h3, q⟩ := q; exact ⟨p, xs, rfl, h1, h2, h3, q⟩
  | _ => exact False.elim q
theorem g_notin : OpR X (compareOp .NotIn) (gIn X.K true) := op_notIn_seq.imp fun x y H Q q => by
  cases y with
  | ref p => obtain ⟨xs, h1, h2, h3, q⟩ := q; exact ⟨p, xs, rfl, h1, h2, h3, q⟩
  | _ => exact False.elim q
def gIx (K : PySem.W.Frag) : R2 := fun x y H Q => match x, y with
  | .ref p, .int i => ∃ xs v, (SqL K H p xs \/ SqT K H p xs) /\ atI xs i = some v /\ Q v H
  | _, _ => False
theorem g_ix : IxR X (gIx X.K) := (ix_list.or ix_tup).imp fun x y H Q q => by
  cases x with
  | ref p =>
    cases y with
    | int i =>
      obtain ⟨xs, v, h1, h2, q⟩ := q
      rcases h1 with h1 | h1
      · exact .inl ⟨p, xs, i, v, rfl, rfl, h1, h2, q⟩
      · exact .inr ⟨p, xs, i, v, rfl, rfl, h1, h2, q⟩
    | _ => exact False.elim q
  | _ => exact False.elim q
theorem atI_in {α : Type} {xs : List α} {i : Int} (h0 : 0 <= i) (h1 : i < xs.length) : ∃ v, v ∈ xs /\ atI xs i = some v /\ xs[i.toNat]? = some v := by
  have hl : i.toNat < xs.length := by omega
  refine ⟨xs[i.toNat], List.getElem_mem hl, ?_, by simp [hl]⟩
  have e : xs[i.toNat]? = some xs[i.toNat] := by simp [hl]
  have := atI_nat e
  rwa [Int.toNat_of_nonneg h0] at this
def gSl (K : PySem.W.Frag) : V -> Option Int -> Option Int -> Hp -> VK -> Prop := fun x lo hi H Q => match x with
  | .ref a => ∃ xs, SqL K H a xs /\ ∀ p H', Gro H p (.lst (cutV xs lo hi)) H' -> Q (.ref p) H'
  | _ => False
theorem g_sl : SlR X (gSl X.K) := by
  intro pins s σ H x v vl vu lo hi sl Q I rx hs pl pu q
  cases x with
  | ref a => obtain ⟨xs, h1, q⟩ := q; exact sl_list pins s σ H _ v vl vu lo hi sl Q I rx hs pl pu ⟨a, xs, rfl, h1, fun p hp => q p _ (.mk' hp)⟩
  | _ => exact False.elim q
def gLen (K : PySem.W.Frag) : List V -> Hp -> VK -> Prop := fun xs H Q => match xs with
  | [.ref p] => ∃ ys, (SqL K H p ys \/ SqT K H p ys) /\ Q (.int ys.length) H
  | _ => False
theorem c_len : CallR X (.builtin "len") (gLen X.K) := call_len_seq.imp fun xs H Q q => by
  unfold gLen at q
  split at q
  · obtain ⟨ys, h1, q⟩ := q
    exact ⟨_, ys, rfl, h1, q⟩
  · exact q.elim
def gList (K : PySem.W.Frag) : List V -> Hp -> VK -> Prop := fun xs H Q => match xs with
  | [.ref p] => ∃ ys, (SqL K H p ys \/ SqT K H p ys) /\ ∀ l H', Gro H l (.lst ys) H' -> Q (.ref l) H'
  | _ => False
theorem c_list : CallR X (.type "list") (gList X.K) := call_list_of.imp fun xs H Q q => by
  unfold gList at q
  split at q
  · obtain ⟨ys, h1, q⟩ := q
    exact ⟨_, ys, rfl, h1, fun l hl => q l _ (.mk' hl)⟩
  · exact q.elim
def gInst (K : PySem.W.Frag) : List V -> Hp -> VK -> Prop := fun xs H Q => match xs with
  | [x, .ty T] => ∃ t b, TyOf K H x t /\ PySem.W.kitOne K t (.type T) = some b /\ Q (.bl b) H
  | [x, .ref C] => ∃ t b, TyOf K H x t /\ PySem.W.kitOne K t (.ref C) = some b /\ Q (.bl b) H
  | _ => False
theorem c_inst : CallR X (.builtin "isinstance") (gInst X.K) := by
  intro pins s σ H xs us Q I r q
  unfold gInst at q
  split at q
  · obtain ⟨t, b, h1, h2, q⟩ := q
    obtain ⟨u, w', rfl, r1, r2⟩ := vals2 r
    cases r2
    exact isinst_ok I r1 h1 h2 fun tk => ⟨.bl b, H, I.tok _, rfl, q⟩
  · obtain ⟨t, b, h1, h2, q⟩ := q
    obtain ⟨u, w', rfl, r1, r2⟩ := vals2 r
    cases r2
    exact isinst_ok I r1 h1 h2 fun tk => ⟨.bl b, H, I.tok _, rfl, q⟩
  · exact q.elim
theorem bty {x : Str} {T : String} {pos : Pos} (hg : Gl X x) (hm : X.mg x = none) (hv : bootBuiltins x = some (.type T)) (hn : x ≠ "__name__" := by decide) (hd : (x == ("__debug__" : Str)) = false := by decide) : PE X (.Name x pos) (tC (.ty T)) :=
  pe_bltn hg hm hv rfl hn hd
end
def isStar : Expr -> Bool
  | .Starred _ _ => true
  | _ => false
theorem star_cons {e : Expr} {es : List Expr} {env : Env} (h : isStar e = false) : starEach (e :: es) env = (false, eval e env) :: starEach es env := by
  cases e <;> first | rfl | cases h
def noStar : List Expr -> Bool
  | [] => true
  | e :: r => !isStar e && noStar r
theorem noStar_any {env : Env} {pos : Pos} : ∀ {es : List Expr}, noStar es = true -> (backTo pos (starEach es env)).any (·.1) = false
  | [], _ => rfl
  | e :: r, h => by
    have h' : (!isStar e && noStar r) = true := h
    rw [Bool.and_eq_true] at h'
    have h1 : isStar e = false := by simpa using h'.1
    rw [star_cons h1]
    show (false || (backTo pos (starEach r env)).any (·.1)) = false
    rw [Bool.false_or]
    exact noStar_any h'.2
theorem noStar_head {e : Expr} {es : List Expr} (h : noStar (e :: es) = true) : isStar e = false /\ noStar es = true := by
  have h' : (!isStar e && noStar es) = true := h
  rw [Bool.and_eq_true] at h'
  exact ⟨by simpa using h'.1, h'.2⟩
theorem pa_c {X : Cx} {e : Expr} {es : List Expr} {te : TE} {t : TA} (ha : PE X e te) (hr : PA X es t) (hs : isStar e = false := by rfl) : PA X (e :: es) (tCons te t) := pa_cons ha hr (star_cons hs)
def constOf : Expr -> Option V
  | .Constant (.int i) _ _ => some (.int i)
  | .Constant (.bool b) _ _ => some (.bl b)
  | .Constant .none _ _ => some .non
  | .Constant (.str x) _ _ => some (.str x)
  | _ => none
def constsOf : List Expr -> Option (List V)
  | [] => some []
  | e :: r => match constOf e, constsOf r with
    | some v, some vs => some (v :: vs)
    | _, _ => none
def tConsts (vs : List V) : TA := fun _ H Q => Q vs H
theorem pe_const {X : Cx} {e : Expr} {v : V} (h : constOf e = some v) : PE X e (tC v) := by
  unfold constOf at h
  split at h
  · cases h; exact pe_int
  · cases h; exact pe_bl
  · cases h; exact pe_non
  · cases h; exact pe_str
  · cases h
theorem const_star {e : Expr} {v : V} (h : constOf e = some v) : isStar e = false := by
  cases e <;> first | rfl | cases h
theorem pa_const {X : Cx} : ∀ {es : List Expr} {vs : List V}, constsOf es = some vs -> PA X es (tConsts vs)
  | [], vs, h => by
    cases h
    exact pa_nil
  | e :: r, vs, h => by
    unfold constsOf at h
    split at h
    · rename_i v ws h1 h2
      cases h
      exact pa_c (pe_const h1) (pa_const h2) (const_star h1)
    · cases h
section
variable {X : Cx} {es : List Expr} {t : TA} {pos : Pos}
def mTup (t : TA) : TE := fun σ H Q => t σ H fun xs H1 => xs.length <= sizeLine /\ ∀ p H', Gro H1 p (.tup xs) H' -> Q (.ref p) H'
def mLst (t : TA) : TE := fun σ H Q => t σ H fun xs H1 => xs.length <= sizeLine /\ ∀ p H', Gro H1 p (.lst xs) H' -> Q (.ref p) H'
theorem me_tup {x1} (h : PA X es t) : PE X (.Tuple es x1 pos) (mTup t) := by
  intro pins s σ H Q I hq
  refine wpAny_Tuple_spliced (thn (h pos pins s σ H _ I hq) fun us s1 ⟨xs, H1, I1, r, z, q⟩ => ⟨by rw [<- r.length]; exact z, ?_⟩)
  have hf : H1 s1.heap.objs.size = none := I1.hok.fresh (Nat.le_refl _)
  refine ⟨.ref s1.heap.objs.size, upd H1 s1.heap.objs.size (.tup xs), I1.laid (t' := s1.toks) (fun b u e => Heap.get?_push_of_some _ e) (Nat.le_refl _) ?_, rfl, q _ _ (.mk' hf)⟩
  exact ⟨z, us, r, ⟨_, Heap.get?_push_size _ rfl, rfl, _, rfl⟩⟩
theorem me_lst (h : PA X es t) : PE X (.List es pos) (mLst t) := by
  intro pins s σ H Q I hq
  refine wpAny_List_spliced (thn (h pos pins s σ H _ I hq) fun us s1 ⟨xs, H1, I1, r, z, q⟩ => ⟨by rw [<- r.length]; exact z, ?_⟩)
  have hf : H1 s1.heap.objs.size = none := I1.hok.fresh (Nat.le_refl _)
  refine ⟨.ref s1.heap.objs.size, upd H1 s1.heap.objs.size (.lst xs), I1.laid (t' := s1.toks) (fun b u e => Heap.get?_push_of_some _ e) (Nat.le_refl _) ?_, rfl, q _ _ (.mk' hf)⟩
  exact ⟨z, us, 0, r, Heap.get?_push_size _ rfl⟩
def mDic : TE := fun _ H Q => ∀ p H', Gro H p (.dK []) H' -> Q (.ref p) H'
theorem me_dic : PE X (.Dict [] [] pos) mDic := pe_dnewK.imp fun σ H Q q => fun p hp => q p _ (.mk' hp)
end
theorem fitB {Q : VK} {H : Hp} {a b : Bool} (k : Q (.bl a) H) (e : a = b) : Q (.bl b) H := e ▸ k
def isIntV : V -> Bool
  | .int _ => true
  | .bl _ => true
  | _ => false
def isBlV : V -> Bool
  | .bl _ => true
  | _ => false
inductive Knd (K : PySem.W.Frag) (H : Hp) : V -> Prop where
  | non : Knd K H .non
  | bl (b : Bool) : Knd K H (.bl b)
  | int (i : Int) : Knd K H (.int i)
  | str (x : Str) : Knd K H (.str x)
  | lst {a : Addr} {xs : List V} (e : H a = some (.lst xs)) : Knd K H (.ref a)
  | tup {a : Addr} {xs : List V} (e : H a = some (.tup xs)) : Knd K H (.ref a)
  | dK {a : Addr} {kvs : List (Key × V)} (e : H a = some (.dK kvs)) : Knd K H (.ref a)
theorem Knd.isInt {K : PySem.W.Frag} {H : Hp} {v : V} (k : Knd K H v) : ∃ ty, TyOf K H v ty /\ PySem.W.kitOne K ty (.type "int") = some (isIntV v) := by
  cases k with
  | non => exact ⟨_, .non, by with_unfolding_all rfl⟩
  | bl b => exact ⟨_, .bl b, by with_unfolding_all rfl⟩
  | int i => exact ⟨_, .int i, by with_unfolding_all rfl⟩
  | str x => exact ⟨_, .str x, by with_unfolding_all rfl⟩
  | lst e => exact ⟨_, .lst e, by with_unfolding_all rfl⟩
  | tup e => exact ⟨_, .tup e, by with_unfolding_all rfl⟩
  | dK e => exact ⟨_, .dK e, by with_unfolding_all rfl⟩
theorem Knd.isBl {K : PySem.W.Frag} {H : Hp} {v : V} (k : Knd K H v) : ∃ ty, TyOf K H v ty /\ PySem.W.kitOne K ty (.type "bool") = some (isBlV v) := by
  cases k with
  | non => exact ⟨_, .non, by with_unfolding_all rfl⟩
  | bl b => exact ⟨_, .bl b, by with_unfolding_all rfl⟩
  | int i => exact ⟨_, .int i, by with_unfolding_all rfl⟩
  | str x => exact ⟨_, .str x, by with_unfolding_all rfl⟩
  | lst e => exact ⟨_, .lst e, by with_unfolding_all rfl⟩
  | tup e => exact ⟨_, .tup e, by with_unfolding_all rfl⟩
  | dK e => exact ⟨_, .dK e, by with_unfolding_all rfl⟩
theorem sz {n : Nat} (h : Nat.ble n 1000 = true) : n <= sizeLine := Nat.le_trans (Nat.le_of_ble_eq_true h) (by decide)
theorem szl {n : Nat} (h : n <= 100000) : n <= sizeLine := Nat.le_trans h (by decide)
theorem szlt {n : Nat} (h : n <= 100000) : n < sizeLine := Nat.lt_of_le_of_lt h (by decide)
section
variable {X : Cx}
theorem range_get (bs : List Bool) : (List.range bs.length).map (fun i => (bs[i]?).getD false) = bs := by
  apply List.ext_getElem
  · simp
  · intro i h1 h2
    simp [List.getElem?_eq_getElem h2]
theorem range_all (bs : List Bool) : ((List.range bs.length).all fun i => (bs[i]?).getD false) = bs.all id := by
  conv => rhs; rw [<- range_get bs]
  rw [List.all_map]
  rfl
def gAll (K : PySem.W.Frag) (one : Bool) : List V -> Hp -> VK -> Prop := fun xs H Q => match xs with
  | [.ref p] => ∃ bs : List Bool, SqL K H p (bs.map V.bl) /\ Q (.bl (if one then bs.any id else bs.all id)) H
  | _ => False
theorem bools_truth {prog : Program} {w : World} {A : Around} {bs : List Bool} {its : List Value} (r : Vals (bs.map V.bl) its) : TruthOf prog w A (fun i v => its.toArray[i]? = some v) fun i => (bs[i]?).getD false := fun i v s Q E hP hQ => by
  dsimp only at hP hQ
  have hi : i < its.length := by
    have := (Array.getElem?_eq_some_iff.mp hP).1
    simpa using this
  have hl := r.length
  rw [List.length_map] at hl
  have hb : i < bs.length := by omega
  obtain ⟨u, hu, ru⟩ := r.get (i := i) (x := V.bl bs[i]) (by simp [hb])
  have e : its.toArray[i]? = some u := by simpa using hu
  rw [e] at hP
  cases hP
  cases ru
  rw [List.getElem?_eq_getElem hb] at hQ
  exact wpAny_truthy_bool hQ
theorem c_all (hc : X.calm = true) : CallR X (.builtin "all") (gAll X.K false) := by
  intro pins s σ H xs us Q I r q
  unfold gAll at q
  split at q
  · rename_i p
    obtain ⟨bs, hq, q⟩ := q
    obtain ⟨u, rfl, rx⟩ := vals1 r
    cases rx
    obtain ⟨its, rv, pl, _⟩ := I.list hq
    have hl := rv.length
    rw [List.length_map] at hl
    have hne : p ≠ s.heap.objs.size := by
      obtain ⟨o, n, e, _⟩ := pl
      exact Nat.ne_of_lt (Heap.lt_size e)
    refine call_all_walk (wpAny_pyIter_list pl.isList ⟨s.heap.objs.size, _, _, _, _, _, fun i => (bs[i]?).getD false, rfl, Walks.list (A := X.A.in1) (show X.A.in1.handled = none from I.ok.hd hc) s.heap.objs.size p hne its.toArray, ⟨⟨_, Heap.get?_push_size _ rfl, rfl, rfl⟩, ?_⟩, bools_truth rv, fun h' tk k => ?_⟩)
    · exact pl.isList.at fun o e => Heap.get?_push_of_some _ e
    · refine ⟨.bl _, H, I.kept (h' := h') (t' := tk) fun b o e => k b o (fun z => ?_) (Heap.get?_push_of_some _ e), ?_, q⟩
      · have e' : b = s.heap.objs.size := by simpa using z
        exact absurd (Heap.lt_size e) (by rw [e']; exact Nat.lt_irrefl _)
      · show Value.bool _ = Value.bool _
        rw [List.size_toArray, <- hl, range_all]
        rfl
  · exact q.elim
def gTupF (K : PySem.W.Frag) : List V -> Hp -> VK -> Prop := fun xs H Q => match xs with
  | [.ref p] => ∃ ys, SqL K H p ys /\ ∀ l H', Gro H l (.tup ys) H' -> Q (.ref l) H'
  | _ => False
theorem c_tuple : CallR X (.type "tuple") (gTupF X.K) := call_tuple_of.imp fun xs H Q q => by
  unfold gTupF at q
  split at q
  · obtain ⟨ys, h1, q⟩ := q
    exact ⟨_, ys, rfl, .inl ⟨h1, fun l hl => q l _ (.mk' hl)⟩⟩
  · exact q.elim
def gApp : V -> List V -> Hp -> VK -> Prop := fun x vs H Q => match x, vs with
  | .ref l, [y] => ∃ xs, H l = some (.lst xs) /\ xs.length < sizeLine /\ Q .non (upd H l (.lst (xs ++ [y])))
  | _, _ => False
theorem mg_append : MtR X "list.append" gApp := by
  intro pins s σ H x vs v us Q I rx rv q
  unfold gApp at q
  split at q
  · obtain ⟨xs, h1, h2, q⟩ := q
    exact mt_append pins s σ H _ _ v us Q I rx rv ⟨_, xs, _, rfl, rfl, h1, h2, q⟩
  · exact q.elim
def gExt (K : PySem.W.Frag) : V -> List V -> Hp -> VK -> Prop := fun x vs H Q => match x, vs with
  | .ref l, [.ref b] => ∃ xs zs, H l = some (.lst xs) /\ H b = some (.lst zs) /\ xs.length + zs.length <= sizeLine /\ Q .non (upd H l (.lst (xs ++ zs)))
  | _, _ => False
theorem mg_extend : MtR X "list.extend" (gExt X.K) := by
  intro pins s σ H x vs v us Q I rx rv q
  unfold gExt at q
  split at q
  · obtain ⟨xs, zs, h1, h2, h3, q⟩ := q
    exact mt_extend pins s σ H _ _ v us Q I rx rv ⟨_, _, xs, zs, rfl, rfl, h1, h2, h3, q⟩
  · exact q.elim
end
structure Has (P : Program) (w : World) (K : PySem.W.Frag) (mg : Str -> Option Value) (base : Heap) (x : Str) (k : Nat) (f : Addr) (fd : FuncData) (ps : List Str) (sp : Sp) : Prop where
  gm : mg x = some (.ref f)
  kp : PySem.W.keepIn K (.ref f) = true
  b : Binds K fd ps []
  ok : FnOk P w K mg base CX0 k f fd ps sp
section
variable {X : Cx} {k j : Nat} {f : Addr} {fd : FuncData} {ps : List Str} {sp : Sp} {x : Str} {p pos : Pos} {e : Expr} {es : List Expr} {t : TA}
theorem cal (F : Has X.prog X.w X.K X.mg X.base x j f fd ps sp) (hr : Room k X.A) (ha : PA X (e :: es) t) (hj : j <= k := by decide) (hg : Gl X x := by rfl)
    (hdb : (x == ("__debug__" : Str)) = false := by decide) (hn : noStar (e :: es) = true := by rfl) :
    PE X (.Call (.Name x p) (e :: es) [] pos) (tCall sp [] E0 t) := pe_call F.ok (hr.mono hj) hg F.gm F.kp F.b .nil pass0 ha hdb (star_cons (noStar_head hn).1) (noStar_any (noStar_head hn).2)
theorem calB {id : String} {r : List V -> Hp -> VK -> Prop} (hc : CallR X (.builtin id) r) (hm : X.mg x = none) (hv : bootBuiltins x = some (.builtin id)) (ha : PA X (e :: es) t) (hg : Gl X x := by rfl) (hx : x ≠ "__name__" := by decide) (hdb : (x == ("__debug__" : Str)) = false := by decide)
    (hn : noStar (e :: es) = true := by rfl) : PE X (.Call (.Name x p) (e :: es) [] pos) (tCB r t) := pe_callB hc hg hm hv ha hx hdb (star_cons (noStar_head hn).1) (noStar_any (noStar_head hn).2)
theorem calTy {T : String} {r : List V -> Hp -> VK -> Prop} (hc : CallR X (.type T) r) (hm : X.mg x = none) (hv : bootBuiltins x = some (.type T)) (ha : PA X (e :: es) t) (hg : Gl X x := by rfl) (hx : x ≠ "__name__" := by decide) (hdb : (x == ("__debug__" : Str)) = false := by decide)
    (hn : noStar (e :: es) = true := by rfl) : PE X (.Call (.Name x p) (e :: es) [] pos) (tCB r t) := pe_callTy hc hg hm hv ha hx hdb (star_cons (noStar_head hn).1) (noStar_any (noStar_head hn).2)
theorem gi {n : Int} {u : Tok} (hm : X.mg x = some (.int n u)) (hg : Gl X x := by rfl) (hd : (x == ("__debug__" : Str)) = false := by decide) : PE X (.Name x pos) (tC (.int n)) := pe_glob hg hm ⟨u, rfl⟩ hd
end
end L2
namespace L2
open PySem PySem.Spec PyProof.Rows
def clOf (cells : List (Str × Addr)) : List (Str × NameKind) -> List (Str × Addr) -> List (Str × Addr)
  | [], acc => acc
  | (n, k) :: r, acc => clOf cells r (if (k == NameKind.free) = true then (n, (cells.lookup n).getD 0) :: acc else acc)
theorem closureFor_of {scope : Scope} {env : Env} (h : ∀ n, (n, NameKind.free) ∈ scope.names -> ∃ c, env.cells.lookup n = some c) : closureFor scope env = pure (clOf env.cells scope.names []) := by
  unfold closureFor
  have key : ∀ (l : List (Str × NameKind)) (acc : List (Str × Addr)), (∀ n, (n, NameKind.free) ∈ l -> ∃ c, env.cells.lookup n = some c) ->
      (forIn l acc (fun x __s => match x with
          | (name, kind) =>
            if (kind == NameKind.free) = true then do
              let __do_lift <- cellOf env name
              pure (ForInStep.yield ((name, __do_lift) :: __s))
            else pure (ForInStep.yield __s)) : Sem (List (Str × Addr))) = pure (clOf env.cells l acc) := by
    intro l
    induction l with
    | nil => intro acc _; rfl
    | cons x r ih =>
      intro acc hf
      obtain ⟨n, k⟩ := x
      have hr : ∀ n, (n, NameKind.free) ∈ r -> ∃ c, env.cells.lookup n = some c := fun n hn => hf n (List.mem_cons_of_mem _ hn)
      rw [List.forIn_cons]
      by_cases hk : (k == NameKind.free) = true
      · have hk' : k = NameKind.free := by simpa using hk
        subst hk'
        obtain ⟨c, hc⟩ := hf n List.mem_cons_self
        have e : cellOf env n = pure c := by unfold cellOf; rw [hc]
        show (if (NameKind.free == NameKind.free) = true then _ else _) >>= _ = _
        rw [if_pos hk, e]
        show (forIn r ((n, c) :: acc) _ : Sem (List (Str × Addr))) = _
        rw [ih _ hr]
        show _ = pure (clOf env.cells r (if (NameKind.free == NameKind.free) = true then (n, (List.lookup n env.cells).getD 0) :: acc else acc))
        rw [if_pos hk, hc]
        rfl
      · show (if (k == NameKind.free) = true then _ else _) >>= _ = _
        rw [if_neg hk]
        show (forIn r acc _ : Sem (List (Str × Addr))) = _
        rw [ih _ hr]
        show _ = pure (clOf env.cells r (if (k == NameKind.free) = true then _ else acc))
        rw [if_neg hk]
  show (forIn scope.names [] _ >>= _ : Sem (List (Str × Addr))) = _
  rw [key _ _ h]
  rfl
theorem clOf_lookup {cells : List (Str × Addr)} : ∀ (l : List (Str × NameKind)) (acc : List (Str × Addr)) (x : Str) (c : Addr), (clOf cells l acc).lookup x = some c -> (∀ n, (n, NameKind.free) ∈ l -> ∃ c, cells.lookup n = some c) -> ((x, NameKind.free) ∈ l /\ cells.lookup x = some c) \/ acc.lookup x = some c
  | [], acc, x, c, h, _ => .inr h
  | (n, k) :: r, acc, x, c, h, hf => by
    have hr : ∀ n, (n, NameKind.free) ∈ r -> ∃ c, cells.lookup n = some c := fun n hn => hf n (List.mem_cons_of_mem _ hn)
    rcases clOf_lookup r _ x c h hr with ⟨h1, h2⟩ | h1
    · exact .inl ⟨List.mem_cons_of_mem _ h1, h2⟩
    · by_cases hk : (k == NameKind.free) = true
      · rw [if_pos hk] at h1
        have hk' : k = NameKind.free := by simpa using hk
        subst hk'
        obtain ⟨c', hc⟩ := hf n List.mem_cons_self
        rw [hc] at h1
        rw [List.lookup_cons] at h1
        by_cases e : (x == n) = true
        · rw [e] at h1
          have e' : x = n := by simpa using e
          subst e'
          have : c' = c := Option.some.inj h1
          subst this
          exact .inl ⟨List.mem_cons_self, hc⟩
        · have e' : (x == n) = false := by simpa using e
          rw [e'] at h1
          exact .inr h1
      · rw [if_neg hk] at h1
        exact .inr h1
theorem clOf_has {cells : List (Str × Addr)} : ∀ (l : List (Str × NameKind)) (acc : List (Str × Addr)) (x : Str), ((x, NameKind.free) ∈ l \/ ∃ c, acc.lookup x = some c) -> ∃ c, (clOf cells l acc).lookup x = some c
  | [], acc, x, h => by
    rcases h with h | h
    · cases h
    · exact h
  | (n, k) :: r, acc, x, h => by
    unfold clOf
    refine clOf_has r _ x ?_
    rcases h with h | ⟨c, h⟩
    · rcases List.mem_cons.mp h with e | e
      · cases e
        exact .inr ⟨_, by simp; rfl⟩
      · exact .inl e
    · refine .inr ?_
      by_cases hk : (k == NameKind.free) = true
      · rw [if_pos hk, List.lookup_cons]
        cases (x == n)
        · exact ⟨c, h⟩
        · exact ⟨_, rfl⟩
      · rw [if_neg hk]
        exact ⟨c, h⟩
section
variable {prog : Program} {w : World} {A : Around} {s : Shared} {R : Result -> Shared -> Prop}
theorem compLoop_any {elt target iter : Expr} {ifs : List Expr} {scope : Scope} {pos : Pos} {it acc : Value} {env : Env} (I : Nat -> Shared -> Prop)
    (turn : ∀ n s, I n s -> wpAny (model prog w) A (pyNext it) (fun r s₁ => match r with
      | none => R (.ok .next) s₁
      | some v => wpAny (model prog w) A (letOwnedTupleGo target it v) (fun _ s₁' => wpAny (model prog w) A (assign target env v) (fun _ s₂ =>
          wpAny (model prog w) A (forIn ifs true fun c r => if r = true then do let ok <- isTrue c env (eval c env); pure (ForInStep.yield ok) else pure (ForInStep.yield r)) (fun ok s₃ =>
            if ok = true then wpAny (model prog w) A (eval elt env) (fun x s₄ =>
              wpAny (model prog w) A (call (.builtin "list.append") [acc, x]) (fun _ s₅ => ∃ m, m < n /\ I m s₅) (fun _ _ => False) s₄) (fun _ _ => False) s₃
            else ∃ m, m < n /\ I m s₃) (fun _ _ => False) s₂) (fun _ _ => False) s₁') (fun _ _ => False) s₁) (fun _ _ => False) s)
    (n : Nat) (h : I n s) :
    codeAny (model prog w) A (.compLoop (.ListComp elt [⟨target, iter, ifs, 0⟩] scope pos) 0 it acc env) R s := by
  refine codeAny_loop rfl I (fun n s hI => ?_) n h
  show wpAny _ A ((compTurn (.ListComp elt [⟨target, iter, ifs, 0⟩] scope pos) 0 it acc env).onRaise (fun x => do noteFrame x env; theTreesLotGoes x)) _ _ s
  refine wpAny_noted ?_
  rw [compTurn_list]
  refine wpAny_bind (wpAny_standAt (wpAny_bind (wpAny_mono (turn n s hI) (fun r s₁ h₁ => ?_) fun _ _ h' => h'.elim)))
  cases r with
  | none => exact wpAny_pure h₁
  | some v =>
    refine wpAny_bind (wpAny_mono h₁ (fun _ s₁' h₁' => ?_) fun _ _ h' => h'.elim)
    refine wpAny_bind (wpAny_mono h₁' (fun _ s₂ h₂ => wpAny_bind (wpAny_mono h₂ (fun ok s₃ h₃ => ?_) fun _ _ h' => h'.elim)) fun _ _ h' => h'.elim)
    cases ok with
    | false => exact wpAny_pure ⟨rfl, h₃⟩
    | true =>
      exact wpAny_bind (wpAny_bind (wpAny_mono h₃ (fun x s₄ h₄ => wpAny_bind (wpAny_mono h₄ (fun _ s₅ h₅ => wpAny_pure (wpAny_pure ⟨rfl, h₅⟩)) fun _ _ h' => h'.elim)) fun _ _ h' => h'.elim))
end
def cxComp (X : Cx) (Nc : List Str) (scope : Scope) (C : Addr) (s : Shared) (H : Hp) (fp : List Addr) : Cx where
  prog := X.prog
  w := X.w
  K := X.K
  mg := X.mg
  base := X.base
  A := X.A
  N := Nc
  s₀ := s
  H₀ := H
  env := compEnvC scope (clOf X.env.cells scope.names []) C X.env
  outer := X.stack
  stack := X.stack
  ex := fp
  fn := fun _ => false
  calm := X.calm
  pn := X.pn
  xe := fun _ _ => False
def PTs (X : Cx) (ifs : List Expr) (t : TT) : Prop :=
  ∀ (pins : List (Addr × Obj)) (s : Shared) (σ : St) (H : Hp) (Q : Bool -> Hp -> Prop), Inv X pins σ H s -> t σ H Q ->
    wpAny (model X.prog X.w) X.A (forIn ifs true fun c r => if r = true then do let ok <- isTrue c X.env (eval c X.env); pure (ForInStep.yield ok) else pure (ForInStep.yield r)) (TP X pins σ Q) X.xe s
def tTrue : TT := fun _ H Q => Q true H
theorem pts_nil {X : Cx} : PTs X [] tTrue := fun _ _ _ H _ I h => wpAny_tests_nil ⟨H, I, h⟩
theorem pts_one {X : Cx} {c : Expr} {t : TT} (h : PT X c t) : PTs X [c] t := fun pins s σ H Q I q => wpAny_tests_one (h pins s σ H Q I q)
theorem HOk.adopt {P : Program} {w : World} {H : Hp} {h : Heap} {a : Addr} {o : HO} (x : HOk P w H h) (hn : H a = none) (new : ObjOk P w (upd H a o) h a o) : HOk P w (upd H a o) h := fun b u e => by
  by_cases hb : b = a
  · subst hb; rw [upd_same] at e; cases e; exact new
  · rw [upd_ne hb] at e
    exact (x b u e).stay (fun c v _ q => q) (fun c q => by rw [upd_ne (ne_of_none q hn)]; exact q) fun c xs q => by rw [upd_ne (ne_of_none q hn)]; exact q
def CompW (J : It) (H1 : Hp) (σ0 : St) (g : TG) (tt : TT) (te : TE) (Q : VK) : Prop := ∃ W : Nat -> Nat -> List V -> St -> Hp -> Prop,
  (∃ m, W 0 m [] σ0 H1) /\ ∀ i m ys σ1 H2, W i m ys σ1 H2 ->
    (J.stop i H2 /\ ys.length <= sizeLine /\ ∀ p H', Gro H2 p (.lst ys) H' -> Q (.ref p) H') \/
    (J.go i H2 /\ ys.length < sizeLine /\ ∃ Nx : List V -> St -> Hp -> Prop, (∀ ys' σ' H', Nx ys' σ' H' -> ∃ m', m' < m /\ W (i + 1) m' ys' σ' H') /\
      ∀ x H', J.yld i H2 x H' -> g x σ1 H' fun σ2 H3 => tt σ2 H3 fun b H4 => if b = true then te σ2 H4 fun y H5 => Nx (ys ++ [y]) σ2 H5 else Nx ys σ2 H4)
def tComp (nv : Nat) (caps : List Nat) (wi : TI) (g : TG) (tt : TT) (te : TE) : TE := fun σ H Q => wi σ H fun J H1 => CompW J H1 (List.replicate nv none ++ caps.map fun j => (σ[j]?).join) g tt te Q
structure CompScope (X : Cx) (Nc : List Str) (nv : Nat) (caps : List Nat) (scope : Scope) : Prop where
  kind : scope.kind = .function
  nocell : ∀ y ∈ scope.names, y.2 ≠ .cell
  names : ∀ y ∈ scope.names, y.2 = .local -> scope.names.lookup y.1 = some .local
  free : ∀ n, (n, NameKind.free) ∈ scope.names -> X.env.kindOf n = some .cell \/ X.env.kindOf n = some .free
  len : Nc.length = nv + caps.length
  cap : ∀ k j, caps[k]? = some j -> ∃ x, Nc[nv + k]? = some x /\ X.N[j]? = some x /\ scope.names.lookup x = some .free
def compChk (fns : List (Str × NameKind)) (N Nc : List Str) (nv : Nat) (caps : List Nat) (sc : Scope) : Bool :=
  (sc.kind == .function) && (sc.names.all fun y => !(y.2 == .cell)) && (sc.names.all fun y => !(y.2 == .local) || sc.names.lookup y.1 == some .local) &&
  (sc.names.all fun y => !(y.2 == .free) || (fns.lookup y.1 == some .cell || fns.lookup y.1 == some .free)) && (Nc.length == nv + caps.length) &&
  ((List.range caps.length).all fun k => match caps[k]?, Nc[nv + k]? with
    | some j, some x => N[j]? == some x && sc.names.lookup x == some .free
    | _, _ => false)
theorem CompScope.of {X : Cx} {fns : List (Str × NameKind)} {N Nc : List Str} {nv : Nat} {caps : List Nat} {sc : Scope} (hf : X.env.scope.names = fns) (hN : X.N = N) (h : compChk fns N Nc nv caps sc = true) : CompScope X Nc nv caps sc := by
  unfold compChk at h
  simp only [Bool.and_eq_true] at h
  obtain ⟨⟨⟨⟨⟨h1, h2⟩, h3⟩, h4⟩, h5⟩, h6⟩ := h
  refine ⟨by simpa using h1, fun y hy e => ?_, fun y hy e => ?_, fun n hn => ?_, by simpa using h5, fun k j e => ?_⟩
  · have := List.all_eq_true.mp h2 y hy
    rw [e] at this
    simp at this
  · have := List.all_eq_true.mp h3 y hy
    rw [e] at this
    simpa using this
  · have := List.all_eq_true.mp h4 _ hn
    show X.env.scope.names.lookup n = some .cell \/ X.env.scope.names.lookup n = some .free
    rw [hf]
    simpa using this
  · have hk : k < caps.length := (List.getElem?_eq_some_iff.mp e).1
    have := List.all_eq_true.mp h6 k (List.mem_range.mpr hk)
    rw [e] at this
    cases ex : Nc[nv + k]? with
    | none => rw [ex] at this; simp at this
    | some x =>
      rw [ex] at this
      simp only [Bool.and_eq_true] at this
      exact ⟨x, rfl, by rw [hN]; simpa using this.1, by simpa using this.2⟩
theorem lookup_relabel_kind {env : Env} : ∀ {names : List (Str × NameKind)} {x : Str} {k : NameKind},
    (names.map fun (n, k) => if (k == NameKind.free && env.scope.kind == .function && env.kindOf n == some .cell) then (n, NameKind.cell) else (n, k)).lookup x = some k ->
    ∃ k0, names.lookup x = some k0 /\ (k = k0 \/ (k0 = .free /\ k = .cell))
  | [], _, _, h => by simp at h
  | (n, k0) :: r, x, k, h => by
    have h' : List.lookup x ((if (k0 == NameKind.free && env.scope.kind == .function && env.kindOf n == some .cell) = true then (n, NameKind.cell) else (n, k0)) ::
        r.map fun (n, k) => if (k == NameKind.free && env.scope.kind == .function && env.kindOf n == some .cell) then (n, NameKind.cell) else (n, k)) = some k := h
    cases hx : x == n with
    | true =>
      refine ⟨k0, by simp [List.lookup_cons, hx], ?_⟩
      by_cases hc : (k0 == NameKind.free && env.scope.kind == .function && env.kindOf n == some .cell) = true
      · rw [if_pos hc, List.lookup_cons, hx] at h'
        have : NameKind.cell = k := Option.some.inj h'
        refine .inr ⟨?_, this.symm⟩
        rw [Bool.and_eq_true, Bool.and_eq_true] at hc
        simpa using hc.1.1
      · rw [if_neg hc, List.lookup_cons, hx] at h'
        exact .inl (Option.some.inj h').symm
    | false =>
      have h2 : (r.map fun (n, k) => if (k == NameKind.free && env.scope.kind == .function && env.kindOf n == some .cell) then (n, NameKind.cell) else (n, k)).lookup x = some k := by
        by_cases hc : (k0 == NameKind.free && env.scope.kind == .function && env.kindOf n == some .cell) = true
        · rw [if_pos hc, List.lookup_cons, hx] at h'
          exact h'
        · rw [if_neg hc, List.lookup_cons, hx] at h'
          exact h'
      obtain ⟨k1, h3, h4⟩ := lookup_relabel_kind h2
      exact ⟨k1, by simp [List.lookup_cons, hx, h3], h4⟩
theorem addr_ne {a b n : Addr} (h : a < n) (h' : n <= b) : a ≠ b := Nat.ne_of_lt (Nat.lt_of_lt_of_le h h')
theorem lookup_mem_pair {α β : Type} [BEq α] [LawfulBEq α] : ∀ {l : List (α × β)} {x : α} {k : β}, l.lookup x = some k -> (x, k) ∈ l
  | [], _, _, h => by simp at h
  | (n, k0) :: r, x, k, h => by
    cases hx : x == n with
    | true =>
      simp only [List.lookup_cons, hx] at h
      cases h
      have e : x = n := by simpa using hx
      subst e
      exact List.mem_cons_self
    | false =>
      simp only [List.lookup_cons, hx] at h
      exact List.mem_cons_of_mem _ (lookup_mem_pair h)
section
variable {X : Cx} {elt tg iter : Expr} {ifs : List Expr} {scope : Scope} {Nc : List Str} {nv : Nat} {caps : List Nat}
theorem inv_comp {pins : List (Addr × Obj)} {σ : St} {H : Hp} {s : Shared} {fp : List Addr} {h₁ : Heap} {tk : Nat} {D C : Addr} {m : Str -> Option Value} (S : CompScope X Nc nv caps scope) (I : Inv X pins σ H s)
    (hf : ∀ b ∈ fp, FpOk X pins H b) (hfl : ∀ b ∈ fp, b < s.heap.objs.size) (hD : s.heap.objs.size <= D) (hC : s.heap.objs.size <= C) (hDC : D ≠ C) (hn : h₁.Ns C m) {oD : Obj} (hDo : h₁.get? D = some oD) (hDd : ∀ v, oD.data ≠ .cell v) (old : ∀ b o, s.heap.get? b = some o -> h₁.get? b = some o) :
    Inv (cxComp X Nc scope C s H fp) (pins ++ [(D, oD)]) (List.replicate nv none ++ caps.map fun j => (σ[j]?).join) H { s with heap := h₁, toks := tk } := by
  have hcells : ∀ n, (n, NameKind.free) ∈ scope.names -> ∃ c, X.env.cells.lookup n = some c := fun n hm => I.ok.has n (S.free n hm)
  have clX : ∀ x c, (clOf X.env.cells scope.names []).lookup x = some c -> (x, NameKind.free) ∈ scope.names /\ X.env.cells.lookup x = some c := fun x c e => by
    rcases clOf_lookup _ _ _ _ e hcells with h | h
    · exact h
    · simp at h
  have frm : ∀ b ∈ frs X.stack, b < s.heap.objs.size := fun b hb => by
    obtain ⟨_, o, ho, _⟩ := I.stack.mem hb
    exact Heap.lt_size ho
  have cellLt : ∀ x c, X.env.cells.lookup x = some c -> c < s.heap.objs.size := fun x c e => by
    obtain ⟨v, q⟩ := I.cell x c e
    exact q.lt
  refine ⟨⟨I.ok.mod, S.kind, I.ok.glob, I.ok.blt, hC, fun x y c e1 e2 => I.ok.inj x y c (clX x c e1).2 (clX y c e2).2, fun x hx => ?_, fun x c z => absurd z (by show ¬ (false = true); decide), I.ok.hd, I.ok.frames, .inl rfl, fun b hb => ⟨?_, fun x c e z => ?_⟩, fun b o e => I.bs b o e, Nat.le_trans I.ok.bsz I.sz, fun b o e hb => ?_, fun b hb z => ?_, I.stack, I.stkFree⟩,
    rfl, I.bare, Un.kept old, ⟨m, hn, fun i x v h1 h2 h3 => ?_⟩, fun x c e => ?_, I.hok.fresh hC, fun x c e => I.freeC x c (clX x c e).2, fun p hp => ?_, I.hok.kept old, ?_⟩
  · -- a cell or free name of the block has its cell
    have hx' : (relabel scope X.env).names.lookup x = some .cell \/ (relabel scope X.env).names.lookup x = some .free := hx
    have hm : (x, NameKind.free) ∈ scope.names := by
      rcases hx' with hx' | hx'
      · obtain ⟨k0, e, z⟩ := lookup_relabel_kind hx'
        rcases z with z | ⟨z, _⟩
        · subst z; exact absurd rfl (S.nocell _ (lookup_mem_pair e))
        · subst z; exact lookup_mem_pair e
      · obtain ⟨k0, e, z⟩ := lookup_relabel_kind hx'
        rcases z with z | ⟨_, z⟩
        · subst z; exact lookup_mem_pair e
        · cases z
    exact clOf_has _ _ _ (.inl hm)
  · exact Nat.ne_of_lt (Nat.lt_of_lt_of_le (hfl b hb) hC)
  · exact (hf b hb).2.2.2.2.1 x c (clX x c e).2 z
  · have hx := (hf b hb).2.2.2.1
    rcases hx with z | z
    · exact I.ok.noex b o e z
    · exact absurd (Nat.lt_of_lt_of_le (Nat.lt_of_lt_of_le (Heap.lt_size e) I.ok.bsz) z) (Nat.lt_irrefl _)
  · rcases List.mem_cons.mp (I.stkSub b z) with q | q
    · exact (hf b hb).2.1 q
    · exact (hf b hb).2.2.1 q
  · -- the names' values
    have hi : nv <= i := by
      refine Nat.le_of_not_lt fun hlt => ?_
      rw [List.getElem?_append_left (by simpa using hlt), List.getElem?_replicate, if_pos hlt] at h2
      cases h2
    obtain ⟨k, rfl⟩ := Nat.le.dest hi
    rw [List.getElem?_append_right (by simp)] at h2
    simp only [List.length_replicate, Nat.add_sub_cancel_left, List.getElem?_map] at h2
    cases ek : caps[k]? with
    | none => rw [ek] at h2; cases h2
    | some j =>
      rw [ek] at h2
      have h2' : (σ[j]?).join = some v := Option.some.inj h2
      have hσ : σ[j]? = some (some v) := by
        cases e : σ[j]? with
        | none => rw [e] at h2'; cases h2'
        | some z => rw [e] at h2'; cases z with
          | none => cases h2'
          | some z => have : z = v := Option.some.inj h2'; rw [this]
      obtain ⟨y, e1, e2, e3⟩ := S.cap k j ek
      have h1' : Nc[nv + k]? = some x := h1
      rw [e1] at h1'
      cases h1'
      have hm := lookup_mem_pair e3
      have hk := S.free x hm
      obtain ⟨m0, hn0, hl⟩ := I.loc
      obtain ⟨u, ru, lk⟩ := hl j x v e2 hσ (by
        rcases hk with z | z
        · exact .inr (.inl z)
        · exact .inr (.inr z))
      refine ⟨u, ru, ?_⟩
      rcases lk with ⟨z, _⟩ | ⟨_, c, hc, hcell⟩
      · rcases hk with z' | z' <;> rw [z] at z' <;> cases z'
      · refine .inr ⟨?_, c, ?_, hcell.keeps old⟩
        · rcases h3 with z | z | z
          · exfalso
            obtain ⟨k0, e, z'⟩ := lookup_relabel_kind (show (relabel scope X.env).names.lookup x = some .local from z)
            rw [e3] at e
            cases e
            rcases z' with z' | ⟨_, z'⟩ <;> cases z'
          · exact .inl z
          · exact .inr z
        · obtain ⟨c', hc'⟩ := clOf_has (cells := X.env.cells) scope.names [] x (.inl hm)
          rw [(clX x c' hc').2] at hc
          cases hc
          exact hc'
  · obtain ⟨v, z⟩ := I.cell x c (clX x c e).2
    exact ⟨v, z.keeps old⟩
  · -- pins
    have hp' : p ∈ X.pn ++ (pins ++ [(D, oD)]) := hp
    rw [<- List.append_assoc] at hp'
    rcases List.mem_append.mp hp' with z | z
    · obtain ⟨e, n, ne, nf, d⟩ := I.pin p z
      have hlt := Heap.lt_size e
      refine ⟨old _ _ e, n, Nat.ne_of_lt (Nat.lt_of_lt_of_le hlt hC), fun q => ?_, d⟩
      rcases List.mem_cons.mp (I.stkSub p.1 q) with q | q
      · exact ne q
      · exact nf q
    · have e : p = (D, oD) := by simpa using z
      subst e
      exact ⟨hDo, I.hok.fresh hD, hDC, fun q => absurd (Nat.lt_of_lt_of_le (frm _ q) hD) (Nat.lt_irrefl _), hDd⟩
  · show (List.replicate nv none ++ caps.map fun j => (σ[j]?).join).length = Nc.length
    rw [List.length_append, List.length_replicate, List.length_map, S.len]
abbrev lobj (its : List Value) (n : Nat) : Obj := { cls := .type "list", data := .seq its.toArray n }
theorem lobj_cell (its : List Value) (n : Nat) : ∀ v, (lobj its n).data ≠ .cell v := fun v z => by
  have z' : Data.seq its.toArray n = Data.cell v := z
  cases z'
theorem comp_block {g : TG} {tt : TT} {te : TE} {pos : Pos} {pins : List (Addr × Obj)} {σ : St} {H : Hp} {s : Shared} {Q : VK} {E : Value -> Shared -> Prop} {RR : Value -> Addr -> Result -> Shared -> Prop} (hc : X.calm = true) (S : CompScope X Nc nv caps scope)
    (hg : ∀ C s H fp, PG (cxComp X Nc scope C s H fp) tg g) (ht : ∀ C s H fp, PTs (cxComp X Nc scope C s H fp) ifs tt) (he : ∀ C s H fp, PE (cxComp X Nc scope C s H fp) elt te)
    {it : Addr} {fp : List Addr} {tn : Nat -> Heap -> Prop} {J : It} (I : Inv X pins σ H s) (T : Turn X.prog X.w X.K tg J fp it tn) (st : tn 0 s.heap) (hf : ∀ b ∈ fp, FpOk X pins H b)
    {W : Nat -> Nat -> List V -> St -> Hp -> Prop} {m0 : Nat} (w0 : W 0 m0 [] (List.replicate nv none ++ caps.map fun j => (σ[j]?).join) H)
    (turn : ∀ i m ys σ1 H2, W i m ys σ1 H2 -> (J.stop i H2 /\ ys.length <= sizeLine /\ ∀ p H', Gro H2 p (.lst ys) H' -> Q (.ref p) H') \/
      (J.go i H2 /\ ys.length < sizeLine /\ ∃ Nx : List V -> St -> Hp -> Prop, (∀ ys' σ' H', Nx ys' σ' H' -> ∃ m', m' < m /\ W (i + 1) m' ys' σ' H') /\
        ∀ x H', J.yld i H2 x H' -> g x σ1 H' fun σ2 H3 => tt σ2 H3 fun b H4 => if b = true then te σ2 H4 fun y H5 => Nx (ys ++ [y]) σ2 H5 else Nx ys σ2 H4))
    (hRR : ∀ (D C : Addr) (s1 : Shared) (H' : Hp), Inv X pins σ H' s1 -> FpOk X pins H' C -> (∃ m, s1.heap.Ns C m) -> Q (.ref D) H' -> RR (.ref D) C (.ok .next) s1) :
    wpAny (model X.prog X.w) X.A (newList []) (fun acc s₃ => wpAny (model X.prog X.w) X.A (newFunctionEnv scope X.env.globals (clOf X.env.cells scope.names []) [] X.env.qual none .none (some X.env)) (fun cenv s₄ =>
      codeAny (model X.prog X.w) X.A (.compStart (.ListComp elt [⟨tg, iter, ifs, 0⟩] scope pos) 0 (.ref it) acc { cenv with scope := relabel scope X.env }) (RR acc cenv.locals) s₄) E s₃) E s := by
  refine wpAny_newObj_type (wpAny_newFunctionEnv S.nocell (by intro y hy; simp at hy) (fun h₁ hns₁ hsb₁ => ?_) S.kind)
  dsimp only at hns₁ hsb₁ ⊢
  generalize hH2 : s.heap.push { cls := .type "list", dict := none, data := .seq ([] : List Value).toArray } = h2 at hns₁ hsb₁ ⊢
  have hC : h2.objs.size = s.heap.objs.size + 1 := by rw [<- hH2, Heap.size_push]
  have hDC : s.heap.objs.size ≠ h2.objs.size := by rw [hC]; exact Nat.ne_of_lt (Nat.lt_succ_self _)
  have hCle : s.heap.objs.size <= h2.objs.size := by rw [hC]; exact Nat.le_succ _
  have old : ∀ b o, s.heap.get? b = some o -> h₁.get? b = some o := fun b o e => hsb₁.extBut b o (Nat.ne_of_lt (Nat.lt_of_lt_of_le (Heap.lt_size e) hCle)) (Heap.get?_push_of_some _ (hH2 ▸ Heap.get?_push_of_some _ e))
  have hacc : h₁.get? s.heap.objs.size = some (lobj [] 0) := hsb₁.extBut _ _ hDC (Heap.get?_push_of_some _ (hH2 ▸ Heap.get?_push_size _ rfl))
  have hfl : ∀ b ∈ fp, b < s.heap.objs.size := fun b hb => by
    obtain ⟨o, ho, _⟩ := T.obj _ _ st b hb
    exact Heap.lt_size ho
  have frm : ∀ b ∈ frs X.stack, b < s.heap.objs.size := fun b hb => by
    obtain ⟨_, o, ho, _⟩ := I.stack.mem hb
    exact Heap.lt_size ho
  have cellLt : ∀ x c, X.env.cells.lookup x = some c -> c < s.heap.objs.size := fun x c e => by
    obtain ⟨v, q⟩ := I.cell x c e
    exact q.lt
  have hcells : ∀ n, (n, NameKind.free) ∈ scope.names -> ∃ c, X.env.cells.lookup n = some c := fun n hm => I.ok.has n (S.free n hm)
  have clX : ∀ x c, (clOf X.env.cells scope.names []).lookup x = some c -> X.env.cells.lookup x = some c := fun x c e => by
    rcases clOf_lookup _ _ _ _ e hcells with h | h
    · exact h.2
    · simp at h
  have pinLt : ∀ p ∈ X.pn ++ pins, p.1 < s.heap.objs.size := fun p hp => Heap.lt_size (I.pin p hp).1
  generalize hDD : s.heap.objs.size = D at hacc hDC ⊢
  generalize hCC : h2.objs.size = C at hDC hCle hns₁ hsb₁ ⊢
  have leD : s.heap.objs.size <= D := Nat.le_of_eq hDD
  have leC : s.heap.objs.size <= C := by omega
  have fpc : ∀ {H1 : Hp} (o : Obj), (∀ b ∈ fp, H1 b = none) -> ∀ b ∈ fp, FpOk (cxComp X Nc scope C s H fp) (pins ++ [(D, o)]) H1 b := fun {H1} o hn b hb => by
    refine ⟨hn b hb, Nat.ne_of_lt (Nat.lt_of_lt_of_le (hfl b hb) leC), fun z => ?_, .inl hb, fun x c e z => (hf b hb).2.2.2.2.1 x c (clX x c e) z, fun p hp => ?_⟩
    · rcases List.mem_cons.mp (I.stkSub b z) with q | q
      · exact (hf b hb).2.1 q
      · exact (hf b hb).2.2.1 q
    · have hp' : p ∈ X.pn ++ (pins ++ [(D, o)]) := hp
      rw [<- List.append_assoc] at hp'
      rcases List.mem_append.mp hp' with z | z
      · exact (hf b hb).2.2.2.2.2 p z
      · have e : p = (D, o) := by simpa using z
        subst e
        exact fun q => addr_ne (hfl b hb) leD q.symm
  have loop : ∀ s₃ : Shared, s₃ = { s with heap := h₁, toks := s.toks + ([] : List (Str × Value)).length } ->
      codeAny (model X.prog X.w) X.A (.compLoop (.ListComp elt [⟨tg, iter, ifs, 0⟩] scope pos) 0 (.ref it) (.ref D) (compEnvC scope (clOf X.env.cells scope.names []) C X.env)) (RR (.ref D) C) s₃ := by
    rintro s₃ rfl
    refine compLoop_any (fun n s' => ∃ (i : Nat) (ys : List V) (its : List Value) (nn : Nat) (σ1 : St) (H1 : Hp), Inv (cxComp X Nc scope C s H fp) (pins ++ [(D, lobj its nn)]) σ1 H1 s' /\ tn i s'.heap /\ (∀ b ∈ fp, H1 b = none) /\ Vals ys its /\ W i n ys σ1 H1) ?_ m0
      ⟨0, [], [], 0, _, H, inv_comp S I hf hfl leD leC hDC hns₁ hacc (lobj_cell _ _) old, T.keep _ _ _ st fun b _ o e => old b o e, fun b hb => (hf b hb).1, .nil, w0⟩
    rintro n s' ⟨i, ys, its, nn, σ1, H1, I1, st1, fr1, rv, w1⟩
    have pinD : ∀ {σ' : St} {H' : Hp} {s'' : Shared} {pl : List (Addr × Obj)}, Inv (cxComp X Nc scope C s H fp) ((pins ++ [(D, lobj its nn)]) ++ pl) σ' H' s'' -> s''.heap.get? D = some (lobj its nn) /\ H' D = none := fun {σ' H' s'' pl} I' => by
      have z := I'.pin (D, lobj its nn) (List.mem_append_right _ (List.mem_append_left _ (List.mem_append_right _ (by simp))))
      exact ⟨z.1, z.2.1⟩
    rcases turn i n ys σ1 H1 w1 with ⟨stop, hz, q⟩ | ⟨go, hz, Nx, hNx, step⟩
    · refine thn (T.done (cxComp X Nc scope C s H fp) rfl rfl rfl hc i _ s' σ1 H1 _ I1 (fpc _ fr1) st1 stop) fun r s4 ⟨hr, I4⟩ => ?_
      subst hr
      obtain ⟨eD, nD⟩ := pinD (pl := []) (by rw [List.append_nil]; exact I4)
      obtain ⟨m, hnC, _⟩ := I4.loc
      have u4 : Un (frs X.stack) fp H H1 s.heap s4.heap := I4.base
      have dNone : s.heap.get? D = none := Heap.get?_none_of_le (Nat.le_of_eq hDD)
      have noD : ∀ b o, s.heap.get? b = some o -> b ≠ D := fun b o e z => by rw [z, dNone] at e; cases e
      have u5 : Un (frs X.stack) fp H (upd H1 D (.lst ys)) s.heap s4.heap := by
        refine ⟨u4.keep, u4.slot, fun b o e n hx => ?_, u4.there, fun b xs e => ?_, fun b o u e => ?_, fun b ps e => ?_⟩
        · rw [upd_ne (noD b o e)]
          exact u4.free b o e n hx
        · have z := u4.tups b xs e
          rw [upd_ne (ne_of_none z nD)]
          exact z
        · have z := u4.frzs b o u e
          rw [upd_ne (ne_of_none z nD)]
          exact z
        · obtain ⟨more, z⟩ := u4.tbls b ps e
          exact ⟨more, by rw [upd_ne (ne_of_none z nD)]; exact z⟩
      have hok : HOk X.prog X.w (upd H1 D (.lst ys)) s4.heap := HOk.adopt I4.hok nD ⟨hz, its, nn, rv, eD⟩
      have IX : Inv X pins σ (upd H1 D (.lst ys)) s4 := I.call' I4.os u5 hok I4.bare fun b hb => ⟨(hf b hb).2.2.2.1, (hf b hb).2.1, (hf b hb).2.2.2.2.1, (hf b hb).2.2.2.2.2⟩
      have fpC : FpOk X pins (upd H1 D (.lst ys)) C := by
        have hl : X.env.locals < s.heap.objs.size := I.lt
        exact ⟨by rw [upd_ne (Ne.symm hDC)]; exact I4.free, (addr_ne hl leC).symm, I.nofs leC, .inr (Nat.le_trans I.sz leC), fun x c e z => addr_ne (cellLt x c e) leC z, fun p hp z => addr_ne (pinLt p hp) leC z⟩
      exact hRR D C s4 _ IX fpC ⟨m, hnC⟩ (q D _ (.mk' nD))
    · refine thn (T.item (cxComp X Nc scope C s H fp) rfl rfl rfl hc i _ s' σ1 H1 _ I1 (fpc _ fr1) st1 go) fun r s4 ⟨u, hr, h4⟩ => ?_
      subst hr
      refine thn h4 fun _ s5 ⟨x, H5, I5, r5, y5, st5, fr5⟩ => ?_
      have I5' := I5.pinned (fpc _ fr5) (T.obj _ _ st5)
      have back : ∀ {σ7 : St} {H7 : Hp} {s7 : Shared}, Inv (cxComp X Nc scope C s H fp) ((pins ++ [(D, lobj its nn)]) ++ pinsAt fp s5.heap) σ7 H7 s7 -> tn (i + 1) s7.heap /\ ∀ b ∈ fp, H7 b = none := fun {σ7 H7 s7} I7 => by
        refine ⟨T.keep _ _ _ st5 fun b hb o e => (I7.pin (b, o) (List.mem_append_right _ (List.mem_append_right _ (mem_pinsAt hb e)))).1, fun b hb => ?_⟩
        obtain ⟨o, e, d⟩ := T.obj _ _ st5 b hb
        exact (I7.pin (b, o) (List.mem_append_right _ (List.mem_append_right _ (mem_pinsAt hb e)))).2.1
      refine thn (hg _ _ _ _ _ s5 σ1 H5 x u _ I5' r5 (step x H5 y5)) fun _ s6 ⟨σ6, H6, I6, q6⟩ => ?_
      refine thn (ht _ _ _ _ _ s6 σ6 H6 _ I6 q6) fun b s7 ⟨H7, I7, q7⟩ => ?_
      cases b with
      | false =>
        obtain ⟨m', hm, w7⟩ := hNx _ _ _ q7
        obtain ⟨t7, f7⟩ := back I7
        exact ⟨m', hm, i + 1, ys, its, nn, σ6, H7, I7.unpinned, t7, f7, rv, w7⟩
      | true =>
        refine thn (he _ _ _ _ _ s7 σ6 H7 _ I7 q7) fun yv s8 ⟨y, H8, I8, r8, n8⟩ => ?_
        obtain ⟨m', hm, w8⟩ := hNx _ _ _ n8
        obtain ⟨t8, f8⟩ := back I8
        obtain ⟨eD, nD⟩ := pinD I8
        have hlen := rv.length
        refine call_meets F.slot_list_append ⟨_, eD, rfl⟩ F.entry_list_append (F.args_list_append_2 _ _) (PySem.list_append D its.toArray nn yv (by rw [List.size_toArray]; omega)) ⟨eD, ?_⟩
        have ea : its.toArray.push yv = (its ++ [yv]).toArray := by simp
        obtain ⟨n9, e9⟩ : ∃ n9, (s8.heap.update D (Obj.mapSeq (·.push yv))).get? D = some (lobj (its ++ [yv]) n9) := ⟨_, by
          have z := PySem.IsL.update eD (·.push yv)
          rw [ea] at z
          exact z⟩
        have keep9 : ∀ b o, b ≠ D -> s8.heap.get? b = some o -> (s8.heap.update D (Obj.mapSeq (·.push yv))).get? b = some o := fun b o hb e => (Heap.get?_update_other _ _ (Ne.symm hb)).trans e
        have nfp : ∀ b ∈ fp, b ≠ D := fun b hb z => addr_ne (hfl b hb) leD z
        have I8u : Inv (cxComp X Nc scope C s H fp) pins σ6 H8 s8 := I8.pins_of fun p hp => I8.pin p (List.mem_append_right _ (List.mem_append_left _ (List.mem_append_left _ hp)))
        have I9 := I8u.turned (t' := s8.toks) (it := D) keep9 nD hDC (.inr leD) (fun x c e z => addr_ne (cellLt x c (clX x c e)) leD z) (fun p hp z => addr_ne (pinLt p hp) leD z)
        have t9 : tn (i + 1) (s8.heap.update D (Obj.mapSeq (·.push yv))) := T.keep _ _ _ t8 fun b hb o e => keep9 b o (nfp b hb) e
        refine ⟨m', hm, i + 1, ys ++ [y], its ++ [yv], n9, σ6, H8, I9.pins_of fun p hp => ?_, t9, f8, rv.append (.cons r8 .nil), w8⟩
        rcases List.mem_append.mp hp with z | z
        · exact I9.pin p (List.mem_append_right _ z)
        · have e : p = (D, lobj (its ++ [yv]) n9) := by simpa using z
          subst e
          exact ⟨e9, nD, hDC, fun q => addr_ne (frm _ q) leD rfl, lobj_cell _ _⟩
  have st' := fun (s₃ : Shared) (e : s₃ = { s with heap := h₁, toks := s.toks + ([] : List (Str × Value)).length }) => loop s₃ e
  exact codeAny_compStart_list (loop _ rfl) (T.self _ 0 _ _ _ (T.keep _ _ _ st fun b _ o e => old b o e) (loop _ rfl))
theorem pe_comp {wi : TI} {g : TG} {tt : TT} {te : TE} {pos : Pos} (hc : X.calm = true) (S : CompScope X Nc nv caps scope) (hi : PI X tg iter wi)
    (hg : ∀ C s H fp, PG (cxComp X Nc scope C s H fp) tg g) (ht : ∀ C s H fp, PTs (cxComp X Nc scope C s H fp) ifs tt) (he : ∀ C s H fp, PE (cxComp X Nc scope C s H fp) elt te)
    (hs : ∀ x, foldedSetIterable iter X.env x = pure x := by intro _; rfl) : PE X (.ListComp elt [⟨tg, iter, ifs, 0⟩] scope pos) (tComp nv caps wi g tt te) := by
  intro pins s σ H Q I h
  rw [eval_ListComp]
  have hcells : ∀ n, (n, NameKind.free) ∈ scope.names -> ∃ c, X.env.cells.lookup n = some c := fun n hm => I.ok.has n (S.free n hm)
  refine wpAny_comprehension_free (use := none) rfl hs (closureFor_of hcells) S.kind S.names (thn (hi pins s σ H _ I h) fun v s1 h1 => thn h1 fun itv s2 h2 => ?_)
  obtain ⟨it, fp, tn, J, H2, rfl, I2, T, st2, f2, W, ⟨m0, w0⟩, turn⟩ := h2
  refine comp_block (RR := fun acc C => compPost (model X.prog X.w) X.A X.xe none (EP X pins σ Q) acc C) hc S hg ht he I2 T st2 f2 w0 turn fun D C s4 H4 I4 fC hn q => ?_
  obtain ⟨m, hn⟩ := hn
  refine ⟨m, hn, fun h' sb => ?_⟩
  obtain ⟨f0, f1, f2', f3, f4, f5⟩ := fC
  exact ⟨.ref D, H4, I4.turned (t' := s4.toks) (it := C) (fun b o hb e => sb.extBut b o hb e) f0 f1 f3 f4 f5, rfl, q⟩
theorem ps_setC {wi : TI} {g : TG} {tt : TT} {te : TE} {pos spos py : Pos} {i : Nat} {y : Str} (hN : X.N.Nodup) (hy : X.N[i]? = some y) (hx : Loc X.env.scope y) (hc : X.calm = true) (S : CompScope X Nc nv caps scope) (hi : PI X tg iter wi)
    (hg : ∀ C s H fp, PG (cxComp X Nc scope C s H fp) tg g) (ht : ∀ C s H fp, PTs (cxComp X Nc scope C s H fp) ifs tt) (he : ∀ C s H fp, PE (cxComp X Nc scope C s H fp) elt te)
    (hsw : swapsWith (.ListComp elt [⟨tg, iter, ifs, 0⟩] scope pos) (some (.Name y py)) spos.line X.env = pure true := by rfl)
    (hs : ∀ x, foldedSetIterable iter X.env x = pure x := by intro _; rfl) (hf : X.fn y = true \/ X.env.scope.names.lookup y = some .local := by first | exact .inl rfl | exact .inr rfl | assumption) :
    PS X (.Assign [.Name y py] (.ListComp elt [⟨tg, iter, ifs, 0⟩] scope pos) spos) (tAsg (tComp nv caps wi g tt te) (gName i)) := by
  intro pins s σ H D0 I h
  have hcells : ∀ n, (n, NameKind.free) ∈ scope.names -> ∃ c, X.env.cells.lookup n = some c := fun n hm => I.ok.has n (S.free n hm)
  rw [exec_Assign_Name_used _ _ _ _ hsw]
  refine wpAny_bind (wpAny_standAt (wpAny_bind ?_))
  show wpAny _ X.A (do let _ <- comprehension (.ListComp elt [⟨tg, iter, ifs, 0⟩] scope pos) scope X.env _ (newList []) false (eval iter X.env) (some (assign (.Name y py) X.env))) _ _ s
  refine wpAny_bind (wpAny_mono (wpAny_comprehension_free (use := some (assign (.Name y py) X.env)) (Q := fun _ s' => SP X pins D0 .next s') rfl hs (closureFor_of hcells) S.kind S.names
    (thn (hi pins s σ H _ I h) fun v s1 h1 => thn h1 fun itv s2 h2 => ?_)) (fun _ s' hq => wpAny_pure (wpAny_pure hq)) fun _ _ e => e)
  obtain ⟨it, fp, tn, J, H2, rfl, I2, T, st2, f2, W, ⟨m0, w0⟩, turn⟩ := h2
  refine comp_block (RR := fun acc C => compPost (model X.prog X.w) X.A X.xe (some (assign (.Name y py) X.env)) (fun _ s' => SP X pins D0 .next s') acc C) (Q := fun x H1 => gName i x σ H1 D0.nx) hc S hg ht he I2 T st2 f2 w0 turn fun D C s4 H4 I4 fC hn q => ?_
  obtain ⟨m, hn⟩ := hn
  obtain ⟨f0, f1, f2', f3, f4, f5⟩ := fC
  show wpAny _ X.A (assign (.Name y py) X.env (.ref D)) _ _ _
  refine wpAny_assign_Name (store_ok2 I4 hN hy hx (show RelV (.ref D) (.ref D) from rfl) (fun s5 I5 sb5 => ?_) hf)
  obtain ⟨a5, sb5, ha5⟩ := sb5
  have hCa : C ≠ a5 := by
    rcases ha5 with z | z
    · rw [z]; exact f1
    · exact fun e => f4 _ _ z e.symm
  refine ⟨m, hn.sameBut sb5 hCa, fun h' sb => ?_⟩
  exact ⟨_, H4, I5.turned (t' := s5.toks) (it := C) (fun b o hb e => sb.extBut b o hb e) f0 f1 f3 f4 f5, q⟩
end
theorem comp_list {K : PySem.W.Frag} {a : Addr} {xs : List V} {cs : St} {tt : TT} {te : TE} {H : Hp} {Q : VK} (Pv : Nat -> List V -> Hp -> Prop) (h0 : Pv 0 [] H) (hl : ∀ i ys H, i <= xs.length -> Pv i ys H -> SqL K H a xs /\ ys.length <= i) (hz : xs.length <= sizeLine)
    (hs : ∀ i x ys H (N : List V -> Hp -> Prop), xs[i]? = some x -> Pv i ys H -> (∀ ys' H', Pv (i + 1) ys' H' -> N ys' H') -> tt (some x :: cs) H fun b H4 => if b = true then te (some x :: cs) H4 fun y H5 => N (ys ++ [y]) H5 else N ys H4)
    (hd : ∀ ys H p H', Pv xs.length ys H -> Gro H p (.lst ys) H' -> Q (.ref p) H') :
    CompW (Itl K a) H (List.replicate 1 none ++ cs) (gName 0) tt te Q := by
  refine ⟨fun i m ys σ H => m = xs.length - i /\ i <= xs.length /\ Pv i ys H /\ ∃ v0, σ = v0 :: cs, ⟨xs.length, by simp, Nat.zero_le _, h0, none, rfl⟩, ?_⟩
  rintro i m ys σ H2 ⟨rfl, hi, p, v0, rfl⟩
  obtain ⟨q, ql⟩ := hl i ys H2 hi p
  by_cases hlt : i < xs.length
  · refine .inr ⟨⟨xs, xs[i], q, by simp [hlt]⟩, by omega, fun ys' σ' H' => Pv (i + 1) ys' H' /\ ∃ v0, σ' = v0 :: cs, fun ys' σ' H' ⟨p', e⟩ => ⟨xs.length - (i + 1), by omega, rfl, hlt, p', e⟩, fun x H' y => ?_⟩
    obtain ⟨e, y⟩ := y
    subst e
    exact hs i x ys H' (fun ys' H' => Pv (i + 1) ys' H' /\ ∃ v0, some x :: cs = v0 :: cs) (y xs q) p fun _ _ z => ⟨z, _, rfl⟩
  · have e : i = xs.length := by omega
    subst e
    exact .inl ⟨⟨xs, q, Nat.le_refl _⟩, by omega, fun p' H' g => hd ys H2 p' H' p g⟩
theorem comp_range {lo : Int} {n : Nat} {cs : St} {tt : TT} {te : TE} {H : Hp} {Q : VK} (Pv : Nat -> List V -> Hp -> Prop) (h0 : Pv 0 [] H) (hl : ∀ i ys H, i <= n -> Pv i ys H -> ys.length <= i) (hz : n <= sizeLine)
    (hs : ∀ i ys H (N : List V -> Hp -> Prop), i < n -> Pv i ys H -> (∀ ys' H', Pv (i + 1) ys' H' -> N ys' H') -> tt (some (.int (lo + i)) :: cs) H fun b H4 => if b = true then te (some (.int (lo + i)) :: cs) H4 fun y H5 => N (ys ++ [y]) H5 else N ys H4)
    (hd : ∀ ys H p H', Pv n ys H -> Gro H p (.lst ys) H' -> Q (.ref p) H') :
    CompW (Itr lo n) H (List.replicate 1 none ++ cs) (gName 0) tt te Q := by
  refine ⟨fun i m ys σ H => m = n - i /\ i <= n /\ Pv i ys H /\ ∃ v0, σ = v0 :: cs, ⟨n, by simp, Nat.zero_le _, h0, none, rfl⟩, ?_⟩
  rintro i m ys σ H2 ⟨rfl, hi, p, v0, rfl⟩
  have ql := hl i ys H2 hi p
  by_cases hlt : i < n
  · refine .inr ⟨hlt, by omega, fun ys' σ' H' => Pv (i + 1) ys' H' /\ ∃ v0, σ' = v0 :: cs, fun ys' σ' H' ⟨p', e⟩ => ⟨n - (i + 1), by omega, rfl, hlt, p', e⟩, fun x H' y => ?_⟩
    obtain ⟨e, y⟩ := y
    subst e y
    exact hs i ys H' (fun ys' H' => Pv (i + 1) ys' H' /\ ∃ v0, some (V.int (lo + i)) :: cs = v0 :: cs) hlt p fun _ _ z => ⟨z, _, rfl⟩
  · have e : i = n := by omega
    subst e
    exact .inl ⟨Nat.le_refl _, by omega, fun p' H' g => hd ys H2 p' H' p g⟩
end L2
namespace L2
open PySem PySem.Spec PyProof.Rows
def cutL {α : Type} (xs : List α) (lo hi : Option Int) : List α := (xs.drop (HT.sIx xs.length 0 lo)).take (HT.sIx xs.length xs.length hi - HT.sIx xs.length 0 lo)
theorem cutL_map {α β : Type} (f : α -> β) (xs : List α) (lo hi : Option Int) : cutL (xs.map f) lo hi = (cutL xs lo hi).map f := by
  unfold cutL
  rw [List.length_map, List.map_take, List.map_drop]
theorem cutL_to {α : Type} (xs : List α) (k : Nat) : cutL xs none (some (k : Int)) = xs.take k := by
  unfold cutL HT.sIx
  simp only [List.drop_zero, Nat.sub_zero]
  have h : ¬ ((k : Int) < 0) := by omega
  rw [if_neg h, Int.toNat_natCast, <- List.take_take, List.take_length]
theorem cutL_from {α : Type} (xs : List α) (k : Nat) : cutL xs (some (k : Int)) none = xs.drop k := by
  unfold cutL HT.sIx
  have h : ¬ ((k : Int) < 0) := by omega
  dsimp only
  rw [if_neg h, Int.toNat_natCast]
  by_cases hk : k <= xs.length
  · rw [Nat.min_eq_left hk]
    exact List.take_of_length_le (by simp)
  · rw [Nat.min_eq_right (by omega), List.drop_length, List.take_nil, List.drop_eq_nil_of_le (by omega)]
theorem cutL_mid {α : Type} (xs : List α) (k m : Nat) : cutL xs (some (k : Int)) (some ((k : Int) + (m : Int))) = (xs.drop k).take m := by
  unfold cutL HT.sIx
  have h : ¬ ((k : Int) < 0) := by omega
  have h' : ¬ ((k : Int) + (m : Int) < 0) := by omega
  have e : ((k : Int) + (m : Int)).toNat = k + m := by omega
  dsimp only
  rw [if_neg h, if_neg h', Int.toNat_natCast, e]
  by_cases hk : k <= xs.length
  · rw [Nat.min_eq_left hk]
    by_cases hm : k + m <= xs.length
    · rw [Nat.min_eq_left hm, Nat.add_sub_cancel_left]
    · rw [Nat.min_eq_right (by omega), List.take_of_length_le (by simp), List.take_of_length_le (by simp; omega)]
  · rw [Nat.min_eq_right (by omega : xs.length <= k), List.drop_length, List.take_nil, List.drop_eq_nil_of_le (by omega), List.take_nil]
theorem cutV_ints (ns : List Int) (lo hi : Option Int) : cutV (ns.map V.int) lo hi = (cutL ns lo hi).map V.int := cutL_map _ _ _ _
theorem eqv_ints (ns ms : List Int) : PyData.eqv (.list (ns.map PyData.int)) (.list (ms.map PyData.int)) = decide (ns = ms) := by
  show PyData.eqvAll _ _ = _
  exact PySem.W.ked_eqvAll ns ms
theorem eq_ints {K : PySem.W.Frag} {H : Hp} {a b : Addr} {ns ms : List Int} {neg : Bool} {Q : VK} (h1 : SqL K H a (ns.map V.int)) (h2 : SqL K H b (ms.map V.int)) (q : Q (.bl (if neg then !decide (ns = ms) else decide (ns = ms))) H) :
    gEq K neg (.ref a) (.ref b) H Q := by
  refine ⟨_, _, DataV.lst h1 (DataVs.ints ns), DataV.lst h2 (DataVs.ints ms), PySem.W.ke_shaped_ints ns, PySem.W.ke_shaped_ints ms, ?_⟩
  rw [eqv_ints]
  exact q
end L2
namespace L2
open PySem PySem.Spec PyProof.Rows
structure QE (X : Cx) (e : Expr) (t : TE) : Prop where
  h : PE X e t
structure QT (X : Cx) (e : Expr) (t : TT) : Prop where
  h : PT X e t
structure QW (X : Cx) (e : Expr) (t : TT) : Prop where
  h : PW X e t
structure QA (X : Cx) (es : List Expr) (t : TA) : Prop where
  h : PA X es t
structure QS (X : Cx) (st : Stmt) (t : TS) : Prop where
  h : PS X st t
structure QSs (X : Cx) (st : List Stmt) (t : TS) : Prop where
  h : PSs X st t
structure QG (X : Cx) (e : Expr) (t : TG) : Prop where
  h : PG X e t
structure QGs (X : Cx) (es : List Expr) (t : TGs) : Prop where
  h : PGs X es t
structure QI (X : Cx) (tg e : Expr) (t : TI) : Prop where
  h : PI X tg e t
structure QO (X : Cx) (e : Option Expr) (t : TO) : Prop where
  h : PO X e t
structure QTs (X : Cx) (es : List Expr) (t : TT) : Prop where
  h : PTs X es t
section
variable {X : Cx} {a b c e o : Expr} {es rest : List Expr} {pos p p2 : Pos} {ta tb tc te to : TE} {tA tB' tt : TT} {t tk : TA}
theorem q_pe_int {i j pos} : QE X (.Constant (.int i) j pos) (tC (.int i)) := ⟨pe_int⟩
theorem q_pe_bl {b j pos} : QE X (.Constant (.bool b) j pos) (tC (.bl b)) := ⟨pe_bl⟩
theorem q_pe_non {j pos} : QE X (.Constant .none j pos) (tC .non) := ⟨pe_non⟩
theorem q_pe_str {x j pos} : QE X (.Constant (.str x) j pos) (tC (.str x)) := ⟨pe_str⟩
theorem q_vv (i : Nat) {x : Str} (hN : X.N[i]? = some x := by rfl) (hv : Vis X.env.scope x := by first | exact Or.inl rfl | exact Or.inr (Or.inl rfl) | exact Or.inr (Or.inr rfl)) (hd : (x == ("__debug__" : Str)) = false := by decide)
    (hcd : (x == ("__classdict__" : Str)) = false := by decide) : QE X (.Name x pos) (mV i) := ⟨vv i hN hv hd hcd⟩
theorem q_gi {x : Str} {n : Int} {u : Tok} (hm : X.mg x = some (.int n u)) (hg : Gl X x := by rfl) (hd : (x == ("__debug__" : Str)) = false := by decide) : QE X (.Name x pos) (tC (.int n)) := ⟨gi hm hg hd⟩
theorem q_pe_glob {x : Str} {v : V} {u : Value} (hg : Gl X x) (hm : X.mg x = some u) (r : RelV v u) (hd : (x == ("__debug__" : Str)) = false := by decide) : QE X (.Name x pos) (tC v) := ⟨pe_glob hg hm r hd⟩
theorem q_bty {x : Str} {T : String} (hg : Gl X x) (hm : X.mg x = none) (hv : bootBuiltins x = some (.type T)) (hn : x ≠ "__name__" := by decide) (hd : (x == ("__debug__" : Str)) = false := by decide) : QE X (.Name x pos) (tC (.ty T)) := ⟨bty hg hm hv hn hd⟩
theorem q_me_fd {j : Int} {k : Nat} (ha : QE X a ta) (hj : 0 < j /\ j < 1073741824 := by decide) : QE X (.BinOp a .FloorDiv (.Constant (.int j) k p) pos) (mFd j ta) := ⟨me_fd ha.h hj⟩
theorem q_me_md {j : Int} {k : Nat} (ha : QE X a ta) (hj : 0 < j := by decide) : QE X (.BinOp a .Mod (.Constant (.int j) k p) pos) (mMd j ta) := ⟨me_md ha.h hj⟩
theorem q_pe_op {op : Operator} {r : R2} (ho : OpR X (binaryOp op) r) (ha : QE X a ta) (hb : QE X b tb) : QE X (.BinOp a op b pos) (tOp r ta tb) := ⟨pe_op ho ha.h hb.h⟩
theorem q_me_not (ha : QE X a ta) : QE X (.UnaryOp .Not a pos) (mNot ta) := ⟨me_not ha.h⟩
theorem q_me_and (ha : QE X a ta) (hb : QE X (.BoolOp .And (b :: rest) pos) tb) : QE X (.BoolOp .And (a :: b :: rest) pos) (mAnd ta tb) := ⟨me_and ha.h hb.h⟩
theorem q_me_or (ha : QE X a ta) (hb : QE X (.BoolOp .Or (b :: rest) pos) tb) : QE X (.BoolOp .Or (a :: b :: rest) pos) (mOr ta tb) := ⟨me_or ha.h hb.h⟩
theorem q_pe_one {op} (h : QE X a ta) : QE X (.BoolOp op [a] pos) ta := ⟨pe_one h.h⟩
theorem q_pe_cmpR {op : CmpOp} {r : R2} (ho : OpR X (compareOp op) r) (ha : QE X a ta) (hb : QE X b tb) (hm : behindInMarks op b = false) : QE X (.Compare a [op] [b] pos) (tOp r ta tb) := ⟨pe_cmpR ho ha.h hb.h hm⟩
theorem q_me_chain {op op' : CmpOp} {r r' : R2} (ho : OpR X (compareOp op) r) (ho' : OpR X (compareOp op') r') (ha : QE X a ta) (hb : QE X b tb) (hc : QE X c tc)
    (hm : lastMarks [op, op'] [b, c] = false := by with_unfolding_all rfl) : QE X (.Compare a [op, op'] [b, c] pos) (mChain r r' ta tb tc) := ⟨me_chain ho ho' ha.h hb.h hc.h hm⟩
theorem q_pe_ifExp (hc : QT X c tA) (ha : QE X a ta) (hb : QE X b tb) : QE X (.IfExp c a b pos) (tIf tA ta tb) := ⟨pe_ifExp hc.h ha.h hb.h⟩
theorem q_PW_pt (h : QW X e tt) : QT X e tt := ⟨PW.pt h.h⟩
theorem q_pw_and1 (ha : QT X a tA) : QW X (.BoolOp .And [a] pos) tA := ⟨pw_and1 ha.h⟩
theorem q_pw_or1 (ha : QT X a tA) : QW X (.BoolOp .Or [a] pos) tA := ⟨pw_or1 ha.h⟩
theorem q_pw_and (ha : QT X a tA) (hb : QW X (.BoolOp .And (b :: rest) pos) tB') : QW X (.BoolOp .And (a :: b :: rest) pos) (tAnd tA tB') := ⟨pw_and ha.h hb.h⟩
theorem q_pw_or (ha : QT X a tA) (hb : QW X (.BoolOp .Or (b :: rest) pos) tB') : QW X (.BoolOp .Or (a :: b :: rest) pos) (tOr tA tB') := ⟨pw_or ha.h hb.h⟩
theorem q_pt_not (ha : QT X a tA) : QT X (.UnaryOp .Not a pos) (tNot tA) := ⟨pt_not ha.h⟩
theorem q_mt_cmp {op : CmpOp} {r : R2} (ho : OpR X (compareOp op) r) (ha : QE X a ta) (hb : QE X b tb) (hm : behindInMarks op b = false) : QT X (.Compare a [op] [b] pos) (mB (tOp r ta tb)) := ⟨mt_cmp ho ha.h hb.h hm⟩
theorem q_mt_chain {op op' : CmpOp} {r r' : R2} (ho : OpR X (compareOp op) r) (ho' : OpR X (compareOp op') r') (ha : QE X a ta) (hb : QE X b tb) (hc : QE X c tc)
    (hm : lastMarks [op, op'] [b, c] = false := by with_unfolding_all rfl) : QT X (.Compare a [op, op'] [b, c] pos) (mB (mChain r r' ta tb tc)) := ⟨mt_chain ho ho' ha.h hb.h hc.h hm⟩
theorem q_mt_val (h : QE X e te) (he : ∀ whole, isTrue e X.env whole = (do let v <- whole; standAt e.pos; holding [v] (truthy v)) := by intro _; rfl) : QT X e (mB te) := ⟨mt_val h.h he⟩
theorem q_mt_tru (h : QE X e te) (he : ∀ whole, isTrue e X.env whole = (do let v <- whole; standAt e.pos; holding [v] (truthy v)) := by intro _; rfl) : QT X e (mTru X.K te) := ⟨mt_tru h.h he⟩
theorem q_pa_nil : QA X [] tNil := ⟨pa_nil⟩
theorem q_pa_c (ha : QE X e te) (hr : QA X es t) (hs : isStar e = false := by rfl) : QA X (e :: es) (tCons te t) := ⟨pa_c ha.h hr.h hs⟩
theorem q_pa_const {vs : List V} (h : constsOf es = some vs) : QA X es (tConsts vs) := ⟨pa_const h⟩
theorem q_me_lst (h : QA X es t) : QE X (.List es pos) (mLst t) := ⟨me_lst h.h⟩
theorem q_me_tup {x1} (h : QA X es t) : QE X (.Tuple es x1 pos) (mTup t) := ⟨me_tup h.h⟩
theorem q_me_dic : QE X (.Dict [] [] pos) mDic := ⟨me_dic⟩
theorem q_po_none : QO X none tNoPart := ⟨po_none⟩
theorem q_po_some (h : QE X e te) : QO X (some e) (tPart te) := ⟨po_some h.h⟩
theorem q_pe_slice {r : V -> Option Int -> Option Int -> Hp -> VK -> Prop} {lo hi : Option Expr} {tl th : TO} (hr : SlR X r) (he : QE X e te) (hl : QO X lo tl) (hu : QO X hi th) : QE X (.Subscript e (.Slice lo hi none p2) pos) (tSl r te tl th) := ⟨pe_slice hr he.h hl.h hu.h⟩
theorem q_pe_ix {r : R2} (hr : IxR X r) (ha : QE X a ta) (hb : QE X b tb) (hs : PlainIx b) : QE X (.Subscript a b pos) (tOp r ta tb) := ⟨pe_ix hr ha.h hb.h hs⟩
section
variable {k j : Nat} {f : Addr} {fd : FuncData} {ps : List Str} {sp : Sp} {x : Str}
theorem q_cal (F : Has X.prog X.w X.K X.mg X.base x j f fd ps sp) (hr : Room k X.A) (ha : QA X (e :: es) t) (hj : j <= k := by decide) (hg : Gl X x := by rfl)
    (hdb : (x == ("__debug__" : Str)) = false := by decide) (hn : noStar (e :: es) = true := by rfl) : QE X (.Call (.Name x p) (e :: es) [] pos) (tCall sp [] E0 t) := ⟨cal F hr ha.h hj hg hdb hn⟩
theorem q_calB {id : String} {r : List V -> Hp -> VK -> Prop} (hc : CallR X (.builtin id) r) (hm : X.mg x = none) (hv : bootBuiltins x = some (.builtin id)) (ha : QA X (e :: es) t) (hg : Gl X x := by rfl) (hx : x ≠ "__name__" := by decide) (hdb : (x == ("__debug__" : Str)) = false := by decide)
    (hn : noStar (e :: es) = true := by rfl) : QE X (.Call (.Name x p) (e :: es) [] pos) (tCB r t) := ⟨calB hc hm hv ha.h hg hx hdb hn⟩
theorem q_calTy {T : String} {r : List V -> Hp -> VK -> Prop} (hc : CallR X (.type T) r) (hm : X.mg x = none) (hv : bootBuiltins x = some (.type T)) (ha : QA X (e :: es) t) (hg : Gl X x := by rfl) (hx : x ≠ "__name__" := by decide) (hdb : (x == ("__debug__" : Str)) = false := by decide)
    (hn : noStar (e :: es) = true := by rfl) : QE X (.Call (.Name x p) (e :: es) [] pos) (tCB r t) := ⟨calTy hc hm hv ha.h hg hx hdb hn⟩
end
section
variable {name : Str} {apos cpos : Pos} {T id : String} {r : V -> List V -> Hp -> VK -> Prop}
theorem q_pe_bm0 (pa : PlainAttrs T) (slot : Slot T name id) (hty : typeOf (.builtin id) = pure (.type "method_descriptor")) (hm : MtR X id r) (ho : QE X o to)
    (hbase : attributeBase o name X.env (eval o X.env) = eval o X.env := by rfl) (hline : (apos.endLine == cpos.line) = true := by rfl) : QE X (.Call (.Attribute o name apos) [] [] cpos) (tBM0 X.K T r to) := ⟨pe_bm0 pa slot hty hm ho.h hbase hline⟩
theorem noStar_all {env : Env} {pos : Pos} : ∀ {es : List Expr}, noStar es = true -> (backTo pos (starEach es env)).all (fun x => !x.1) = true
  | [], _ => rfl
  | e :: r, h => by
    obtain ⟨h1, h2⟩ := noStar_head h
    rw [star_cons h1]
    show (!false && (backTo pos (starEach r env)).all (fun x => !x.1)) = true
    rw [noStar_all h2]
    rfl
theorem q_pe_bm (pa : PlainAttrs T) (slot : Slot T name id) (hty : typeOf (.builtin id) = pure (.type "method_descriptor")) (hm : MtR X id r) (ho : QE X o to) (ha : QA X (e :: es) t)
    (hbase : attributeBase o name X.env (eval o X.env) = eval o X.env := by rfl) (hn : noStar (e :: es) = true := by rfl) (hf : decide ((e :: es).length + 0 + 0 < 30) = true := by rfl)
    (hline : (apos.endLine == cpos.line) = true := by rfl) : QE X (.Call (.Attribute o name apos) (e :: es) [] cpos) (tBM X.K T r to t) :=
  ⟨pe_bm pa slot hty hm ho.h ha.h hbase (by rw [noStar_all hn]; exact hf) hline (star_cons (noStar_head hn).1) (noStar_any (noStar_head hn).2)⟩
end
section
variable {st : Stmt} {sts ss2 : List Stmt} {s t1 u1 : TS} {tg it : Expr} {g : TG} {gs : TGs} {wi : TI}
theorem q_pss_nil : QSs X [] tNext := ⟨pss_nil⟩
theorem q_pss_cons (h1 : QS X st t1) (h2 : QSs X sts u1) : QSs X (st :: sts) (tSeq t1 u1) := ⟨pss_cons h1.h h2.h⟩
theorem q_pss_one (h1 : QS X st t1) : QSs X [st] t1 := ⟨pss_one h1.h⟩
theorem q_ps_never : QS X st tNever := ⟨ps_never⟩
theorem q_ps_ret (he : QE X e te) : QS X (.Return (some e) pos) (tRet te) := ⟨ps_ret he.h⟩
theorem q_ps_expr (he : QE X e te) (hs : swapsWith e none pos.line X.env = pure false := by rfl) : QS X (.Expr e pos) (tDrop te) := ⟨ps_expr he.h hs⟩
theorem q_ps_if (hc : QT X c tA) (ha : QSs X sts t1) (hb : QSs X ss2 u1) : QS X (.If c sts ss2 pos) (tIfS tA t1 u1) := ⟨ps_if hc.h ha.h hb.h⟩
theorem q_ps_set {i : Nat} {x : Str} {pos' : Pos} (hN : X.N.Nodup) (hi : X.N[i]? = some x) (hx : Loc X.env.scope x) (he : QE X e te) (hs : swapsWith e (some (.Name x pos')) pos.line X.env = pure false := by rfl) (hf : X.fn x = true \/ X.env.scope.names.lookup x = some .local := by first | exact .inl rfl | exact .inr rfl | assumption) :
    QS X (.Assign [.Name x pos'] e pos) (tAsg te (gName i)) := ⟨ps_set hN hi hx he.h hs hf⟩
theorem q_ps_asg (he : QE X e te) (hg : QG X tg g) (hs : swapsWithSole [tg] e pos.line X.env = pure false := by rfl) (hw : swappedStores [tg] e X.env = pure none := by rfl)
    (h1 : (assignEach [tg] X.env).map (·.2) = [assign tg X.env] := by rfl) : QS X (.Assign [tg] e pos) (tAsg te g) := ⟨ps_asg he.h hg.h hs hw h1⟩
theorem q_pg_name {i : Nat} {x : Str} (hN : X.N.Nodup) (hi : X.N[i]? = some x) (hx : Loc X.env.scope x) (hf : X.fn x = true \/ X.env.scope.names.lookup x = some .local := by first | exact .inl rfl | exact .inr rfl | assumption) : QG X (.Name x pos) (gName i) := ⟨pg_name hN hi hx hf⟩
theorem q_pgs_nil : QGs X [] gNil := ⟨pgs_nil⟩
theorem q_pgs_cons (h1 : QG X e g) (h2 : QGs X es gs) (hs : (assignEach (e :: es) X.env).map (·.2) = assign e X.env :: (assignEach es X.env).map (·.2) := by rfl) : QGs X (e :: es) (gCons g gs) := ⟨pgs_cons h1.h h2.h hs⟩
theorem q_pg_tup {k n : Nat} (hc : X.calm = true) (h : QGs X es gs) (hn : (assignEach es X.env).length = n := by rfl) (hst : (assignEach es X.env).findIdx? (·.1) = none := by rfl) : QG X (.Tuple es k pos) (gTup X.K n gs) := ⟨pg_tup hc h.h hn hst⟩
theorem q_pi_list {l : Expr} {tl : TE} (hl : QE X l tl) : QI X tg l (iList X.K tl) := ⟨pi_list hl.h⟩
theorem q_pi_range1 (hg : Gl X "range") (hm : X.mg "range" = none) (ha : QA X [a] t) (hs : isStar a = false := by rfl) : QI X tg (.Call (.Name "range" p) [a] [] pos) (iRng1 t) := ⟨pi_range1 hg hm ha.h (star_cons hs)⟩
theorem q_ps_for {body : List Stmt} {tb1 : TS} (hp : PassesOwn (model X.prog X.w) X.A X.env X.xe) (hc : X.calm = true) (hi : QI X tg it wi) (hg : QG X tg g) (hb : QSs X body tb1)
    (hs : ∀ x, foldedSetIterable it X.env x = pure x := by intro _; rfl) : QS X (.For tg it body [] pos) (tFor wi g tb1) := ⟨ps_for hp hc hi.h hg.h hb.h hs⟩
theorem q_ps_while {body : List Stmt} {tb1 : TS} (hp : PassesOwn (model X.prog X.w) X.A X.env X.xe) (hc : QT X c tA) (hb : QSs X body tb1) : QS X (.While c body [] pos) (tWhile tA tb1) := ⟨ps_while hp hc.h hb.h⟩
theorem q_pts_nil : QTs X [] tTrue := ⟨pts_nil⟩
theorem q_pts_one (h : QT X c tA) : QTs X [c] tA := ⟨pts_one h.h⟩
theorem q_pe_comp {scope : Scope} {Nc : List Str} {nv : Nat} {caps : List Nat} {ifs : List Expr} (hc : X.calm = true) (S : CompScope X Nc nv caps scope) (hi : QI X tg it wi)
    (hg : ∀ C s H fp, QG (cxComp X Nc scope C s H fp) tg g) (ht : ∀ C s H fp, QTs (cxComp X Nc scope C s H fp) ifs tt) (he : ∀ C s H fp, QE (cxComp X Nc scope C s H fp) e te)
    (hs : ∀ x, foldedSetIterable it X.env x = pure x := by intro _; rfl) : QE X (.ListComp e [⟨tg, it, ifs, 0⟩] scope pos) (tComp nv caps wi g tt te) :=
  ⟨pe_comp hc S hi.h (fun C s H fp => (hg C s H fp).h) (fun C s H fp => (ht C s H fp).h) (fun C s H fp => (he C s H fp).h) hs⟩
theorem q_ps_setC {scope : Scope} {Nc : List Str} {nv : Nat} {caps : List Nat} {ifs : List Expr} {spos py : Pos} {i : Nat} {y : Str} (hN : X.N.Nodup) (hy : X.N[i]? = some y) (hx : Loc X.env.scope y) (hc : X.calm = true) (S : CompScope X Nc nv caps scope) (hi : QI X tg it wi)
    (hg : ∀ C s H fp, QG (cxComp X Nc scope C s H fp) tg g) (ht : ∀ C s H fp, QTs (cxComp X Nc scope C s H fp) ifs tt) (he : ∀ C s H fp, QE (cxComp X Nc scope C s H fp) e te)
    (hsw : swapsWith (.ListComp e [⟨tg, it, ifs, 0⟩] scope pos) (some (.Name y py)) spos.line X.env = pure true := by rfl)
    (hs : ∀ x, foldedSetIterable it X.env x = pure x := by intro _; rfl) (hf : X.fn y = true \/ X.env.scope.names.lookup y = some .local := by first | exact .inl rfl | exact .inr rfl | assumption) :
    QS X (.Assign [.Name y py] (.ListComp e [⟨tg, it, ifs, 0⟩] scope pos) spos) (tAsg (tComp nv caps wi g tt te) (gName i)) :=
  ⟨ps_setC hN hy hx hc S hi.h (fun C s H fp => (hg C s H fp).h) (fun C s H fp => (ht C s H fp).h) (fun C s H fp => (he C s H fp).h) hsw hs hf⟩
end
end
section
variable {X : Cx} {K : PySem.W.Frag} {a b c e o : Expr} {es rest : List Expr} {pos p p2 : Pos} {ta tb tc te to : TE} {tA tB' tt : TT} {t tk : TA}
theorem g_ixK (h : X.K = K) : IxR X (gIx K) := by subst h; exact g_ix
theorem g_slK (h : X.K = K) : SlR X (gSl K) := by subst h; exact g_sl
theorem g_addK (h : X.K = K) : OpR X (binaryOp .Add) (gAdd K) := by subst h; exact g_add
theorem g_eqK (h : X.K = K) (hu : X.A.units + 64 < cLine) : OpR X (compareOp .Eq) (gEq K false) := by subst h; exact g_eq hu
theorem g_neK (h : X.K = K) (hu : X.A.units + 64 < cLine) : OpR X (compareOp .NotEq) (gEq K true) := by subst h; exact g_ne hu
theorem g_inK (h : X.K = K) : OpR X (compareOp .In) (gIn K false) := by subst h; exact g_in
theorem g_notinK (h : X.K = K) : OpR X (compareOp .NotIn) (gIn K true) := by subst h; exact g_notin
theorem c_lenK (h : X.K = K) : CallR X (.builtin "len") (gLen K) := by subst h; exact c_len
theorem c_listK (h : X.K = K) : CallR X (.type "list") (gList K) := by subst h; exact c_list
theorem c_tupleK (h : X.K = K) : CallR X (.type "tuple") (gTupF K) := by subst h; exact c_tuple
theorem c_allK (h : X.K = K) (hc : X.calm = true) : CallR X (.builtin "all") (gAll K false) := by subst h; exact c_all hc
theorem c_instK (h : X.K = K) : CallR X (.builtin "isinstance") (gInst K) := by subst h; exact c_inst
theorem mg_extendK (h : X.K = K) : MtR X "list.extend" (gExt K) := by subst h; exact mg_extend
theorem q_mt_truK (h : X.K = K) (q : QE X e te) (he : ∀ whole, isTrue e X.env whole = (do let v <- whole; standAt e.pos; holding [v] (truthy v)) := by intro _; rfl) : QT X e (mTru K te) := by subst h; exact q_mt_tru q he
theorem q_pi_listK {tg l : Expr} {tl : TE} (h : X.K = K) (hl : QE X l tl) : QI X tg l (iList K tl) := by subst h; exact q_pi_list hl
theorem q_pg_tupK {k n : Nat} {gs : TGs} (h : X.K = K) (hc : X.calm = true) (q : QGs X es gs) (hn : (assignEach es X.env).length = n := by rfl) (hst : (assignEach es X.env).findIdx? (·.1) = none := by rfl) : QG X (.Tuple es k pos) (gTup K n gs) := by subst h; exact q_pg_tup hc q hn hst
theorem q_pe_bmK {name : Str} {apos cpos : Pos} {T id : String} {r : V -> List V -> Hp -> VK -> Prop} (h : X.K = K) (pa : PlainAttrs T) (slot : Slot T name id) (hty : typeOf (.builtin id) = pure (.type "method_descriptor")) (hm : MtR X id r) (ho : QE X o to) (ha : QA X (e :: es) t)
    (hbase : attributeBase o name X.env (eval o X.env) = eval o X.env := by rfl) (hn : noStar (e :: es) = true := by rfl) (hf : decide ((e :: es).length + 0 + 0 < 30) = true := by rfl)
    (hline : (apos.endLine == cpos.line) = true := by rfl) : QE X (.Call (.Attribute o name apos) (e :: es) [] cpos) (tBM K T r to t) := by subst h; exact q_pe_bm pa slot hty hm ho ha hbase hn hf hline
theorem q_pe_bm0K {name : Str} {apos cpos : Pos} {T id : String} {r : V -> List V -> Hp -> VK -> Prop} (h : X.K = K) (pa : PlainAttrs T) (slot : Slot T name id) (hty : typeOf (.builtin id) = pure (.type "method_descriptor")) (hm : MtR X id r) (ho : QE X o to)
    (hbase : attributeBase o name X.env (eval o X.env) = eval o X.env := by rfl) (hline : (apos.endLine == cpos.line) = true := by rfl) : QE X (.Call (.Attribute o name apos) [] [] cpos) (tBM0 K T r to) := by subst h; exact q_pe_bm0 pa slot hty hm ho hbase hline
end
theorem Fun.okQ {P : Program} {w : World} {K : PySem.W.Frag} {mg : Str -> Option Value} {base : Heap} {x qual : Str} {st : Stmt} {f : Addr} {fd : FuncData} {N ps : List Str} {k : Nat} {sp : Sp} (F : Fun K x qual st f fd) (S : FnScope N ps (defScope st)) (len : ∀ vs H Q E, sp vs H Q E -> vs.length = ps.length)
    (hbody : ∀ (cdv : Value) (A : Around) (outer : List Env) (s : Shared) (H : Hp) (vs : List V) (Q : VK) (E : XK), Room k (A.deeper (envOfC qual (defScope st) s.heap.objs.size f cdv)) -> sp vs H Q E ->
      ∃ t, QSs (cxOf CX0 P w K mg base N qual (defScope st) f cdv A outer s H E).nox (defBody st) t /\ t { nx := fun _ H' => Q .non H', rt := Q } (start N vs) H) : FnOk P w K mg base CX0 (k + 1) f fd ps sp :=
  F.ok S len fun cdv A outer s H vs Q E hr h => let ⟨t, q, r⟩ := hbody cdv A outer s H vs Q E hr h; ⟨t, q.h, r⟩
end L2
namespace L2
open PySem PySem.Spec PyProof.Rows
section
variable {X : Cx} {pins : List (Addr × Obj)} {σ : St} {H : Hp} {s : Shared} {h' : Heap}
theorem Inv.turnedL {t' : Nat} {fp : List Addr} (I : Inv X pins σ H s) (k : ∀ b o, b ∉ fp -> s.heap.get? b = some o -> h'.get? b = some o) (hf : ∀ b ∈ fp, FpOk X pins H b) : Inv X pins σ H { s with heap := h', toks := t' } := by
  have nit : ∀ b u, H b = some u -> b ∉ fp := fun b u e z => by rw [(hf b z).1] at e; cases e
  refine I.step (g' := s.gens) (d' := s.drawn) (ch := fp) (fun b hb => ?_) (fun b o _ _ hc e _ => k b o hc e) (fun b o _ _ hc e _ => ⟨o.slots, k b o hc e⟩) (fun _ _ _ _ n => n) (fun b o hc e => ⟨o, k b o hc e⟩) (fun _ _ e => e) (fun _ _ _ e => e) (fun b ps e => ⟨#[], by rw [e]; simp⟩) (fun m hm => ?_) (fun b u e => ?_) I.bare
  · obtain ⟨f0, f1, f2, f3, f4, f5⟩ := hf b hb
    exact ⟨f3, f1, f4, f5⟩
  · obtain ⟨o, es, ep, ho, r⟩ := hm
    exact ⟨o, es, ep, k _ o (fun z => (hf _ z).2.1 rfl) ho, r⟩
  · refine (I.hok b u e).stay (fun c v hc q => k c v ?_ q) (fun _ q => q) fun _ _ q => q
    rcases hc with z | z
    · rw [z]; exact nit b u e
    · exact nit c _ z
theorem Inv.turnedN {t' : Nat} {fp : List Addr} {T : Addr} {ob : HO} (I : Inv X pins σ H s) (k : ∀ b o, b ∉ fp -> s.heap.get? b = some o -> h'.get? b = some o) (hf : ∀ b ∈ fp, FpOk X pins H b) (hT : s.heap.objs.size <= T)
    (new : ObjOk X.prog X.w (upd H T ob) h' T ob) : Inv X pins σ (upd H T ob) { s with heap := h', toks := t' } := by
  have I1 : Inv X pins σ H { s with heap := h', toks := t' } := I.turnedL k hf
  have hn : H T = none := I.hok.fresh hT
  have ne : ∀ b u, H b = some u -> b ≠ T := fun b u e z => by rw [z, hn] at e; cases e
  refine I.step (g' := s.gens) (d' := s.drawn) (ch := fp) (fun b hb => ?_) (fun b o _ _ hc e _ => k b o hc e) (fun b o _ _ hc e _ => ⟨o.slots, k b o hc e⟩) (fun b o _ e n => ?_) (fun b o hc e => ⟨o, k b o hc e⟩) (fun b xs e => by rw [upd_ne (ne b _ e)]; exact e) (fun b o u e => by rw [upd_ne (ne b _ e)]; exact e) (fun b ps e => ⟨#[], by rw [upd_ne (ne b _ e), e]; simp⟩) (fun m hm => ?_) (I1.hok.adopt hn new) I.bare
  · obtain ⟨f0, f1, f2, f3, f4, f5⟩ := hf b hb
    exact ⟨f3, f1, f4, f5⟩
  · rw [upd_ne (fun z => absurd (Nat.lt_of_lt_of_le (Heap.lt_size e) (by rw [z]; exact hT)) (Nat.lt_irrefl _))]
    exact n
  · obtain ⟨o, es, ep, ho, r⟩ := hm
    exact ⟨o, es, ep, k _ o (fun z => (hf _ z).2.1 rfl) ho, r⟩
end
def Ite (K : PySem.W.Frag) (a : Addr) : It :=
  ⟨fun i H => ∃ xs x, SqL K H a xs /\ xs[i]? = some x, fun i H x H' => ∃ p v, x = .ref p /\ (∀ xs, SqL K H a xs -> xs[i]? = some v) /\ Gro H p (.tup [.int (i : Int), v]) H', fun i H => ∃ xs, SqL K H a xs /\ xs.length <= i⟩
theorem pairOk {P : Program} {w : World} {H : Hp} {h : Heap} {T : Addr} {v1 v2 : V} {u1 u2 : Value} (hT : h.IsTuple T #[u1, u2]) (r1 : RelV v1 u1) (r2 : RelV v2 u2) : ObjOk P w (upd H T (.tup [v1, v2])) h T (.tup [v1, v2]) := by
  refine ⟨sz rfl, [u1, u2], .cons r1 (.cons r2 .nil), ?_⟩
  exact hT
theorem turn_enum {P : Program} {w : World} {K : PySem.W.Frag} {es : List Expr} {kk : Nat} {pp : Pos} (a e it : Addr) (hei : e ≠ it) : Turn P w K (.Tuple es kk pp) (Ite K a) [e, it] e (fun i h => (∃ old, IsEnum h e it i old) /\ h.IsListIter it a i) where
  mem := by simp
  obj := fun i h st b hb => by
    obtain ⟨⟨old, h1⟩, o, e2, c, d⟩ := st
    have hb' : b = e \/ b = it := by simpa using hb
    rcases hb' with z | z
    · subst z
      exact ⟨_, h1, fun v z => by cases (show Data.fields _ = Data.cell v from z)⟩
    · subst z
      exact ⟨o, e2, fun v z => by rw [d] at z; cases z⟩
  keep := fun i h h' st k => by
    obtain ⟨⟨old, h1⟩, h2⟩ := st
    exact ⟨⟨old, k e (by simp) _ h1⟩, h2.at fun o x => k it (by simp) o x⟩
  item := by
    intro X hP hw hK hc i pins s σ H E I hf st hg
    subst hP hw hK
    obtain ⟨⟨old, h1⟩, h2⟩ := st
    obtain ⟨xs, x, hq, hx⟩ := hg
    obtain ⟨its, rv, p, hz⟩ := I.list hq
    obtain ⟨u, hu, ru⟩ := rv.get hx
    have helt : e < s.heap.objs.size := Heap.lt_size h1
    have hilt : it < s.heap.objs.size := by obtain ⟨_, z, _⟩ := h2; exact Heap.lt_size z
    refine wpAny_pyNext_enum_item h1 h2 p.isList (x := u) (by simpa using hu) hei fun h' ho hit' hT hsz hk => ?_
    refine ⟨_, rfl, wpAny_letOwnedTupleGo_enum (s := { s with heap := h', toks := s.toks + 1 }) ho fun h'' he' hs' => ?_⟩
    have hTe : s.heap.objs.size ≠ e := Nat.ne_of_gt helt
    have hT2 : h''.get? s.heap.objs.size = some { cls := .type "tuple", data := .seq #[.int i s.toks, u] } := (hs'.2 _ hTe).trans hT
    have I2 : Inv X pins σ (upd H s.heap.objs.size (.tup [.int (i : Int), x])) { s with heap := h'', toks := s.toks + 1 } := by
      refine I.turnedN (fp := [e, it]) (fun b o hb eo => ?_) hf (Nat.le_refl _) (pairOk ⟨_, hT2, rfl, _, rfl⟩ ⟨_, rfl⟩ ru)
      have hbe : b ≠ e := fun z => hb (by simp [z])
      have hbi : b ≠ it := fun z => hb (by simp [z])
      exact (hs'.2 b hbe).trans (hk b o hbe hbi eo)
    refine ⟨.ref s.heap.objs.size, _, I2, rfl, ⟨_, x, rfl, fun ys hy => by rw [I.list_inj hy hq]; exact hx, .mk' I.fresh⟩, ⟨⟨_, by simpa using he'⟩, hit'.at fun o y => (hs'.2 it hei.symm).trans y⟩, fun b hb => ?_⟩
    have hb' : b = e \/ b = it := by simpa using hb
    rw [upd_ne (by rcases hb' with z | z <;> (rw [z]; first | exact Nat.ne_of_lt helt | exact Nat.ne_of_lt hilt))]
    exact (hf b hb).1
  done := by
    intro X hP hw hK hc i pins s σ H E I hf st hg
    subst hP hw hK
    obtain ⟨⟨old, h1⟩, h2⟩ := st
    obtain ⟨xs, hq, hx⟩ := hg
    obtain ⟨its, rv, p, hz⟩ := I.list hq
    have hl := rv.length
    refine wpAny_pyNext_enum_end (I.ok.hd hc) h1 h2 p.isList (by simp; omega) fun h' eb => ⟨rfl, I.turnedL (t' := s.toks) (fp := [e, it]) (fun b o hb eo => eb b o (fun z => hb (by simp [z])) eo) hf⟩
  self := fun _ _ _ _ _ st h => wpAny_pyIter_enum st.1.choose_spec h
def iEnum (K : PySem.W.Frag) (ta : TA) : TI := fun σ H R => ta σ H fun vs H1 => ∃ a xs, vs = [.ref a] /\ SqL K H1 a xs /\ R (Ite K a) H1
section
variable {X : Cx} {tg : Expr} {es : List Expr} {kk : Nat} {pp : Pos}
theorem pi_enum {a : Expr} {ta : TA} {p pos : Pos} (hg : Gl X "enumerate") (hm : X.mg "enumerate" = none) (ha : PA X [a] ta) (hs : starEach [a] X.env = [(false, eval a X.env)] := by rfl) : PI X (.Tuple es kk pp) (.Call (.Name "enumerate" p) [a] [] pos) (iEnum X.K ta) := by
  intro pins s σ H R I h
  refine Call_ (ld_blt I hg hm boot_enumerate (PyProof.Rows.callWith_type1 (thn (ha pos pins s σ H _ I h) fun us s1 ⟨vs, H1, I1, r1, q1⟩ => ?_) hs rfl))
  obtain ⟨l, xs, e, hq, q⟩ := q1
  subst e
  cases r1 with
  | cons r rr =>
    cases rr
    cases r
    obtain ⟨its, rv, pl, hz⟩ := I1.list hq
    refine call_enumerate_list pl.isList fun h' he hit hsz hk => ?_
    refine wpAny_pyIter_enum (s := { s1 with heap := h' }) he ?_
    have I2 : Inv X pins σ H1 { s1 with heap := h' } := I1.kept (t' := s1.toks) hk
    refine ⟨s1.heap.objs.size + 1, [s1.heap.objs.size + 1, s1.heap.objs.size], _, Ite X.K l, H1, rfl, I2, turn_enum l _ _ (Nat.succ_ne_self _), ⟨⟨_, he⟩, hit⟩, fun b hb => ?_, q⟩
    have hb' : b = s1.heap.objs.size + 1 \/ b = s1.heap.objs.size := by simpa using hb
    have hle : s1.heap.objs.size <= b := by
      rcases hb' with z | z
      · rw [z]; exact Nat.le_succ _
      · rw [z]; exact Nat.le_refl _
    exact I1.fpOk hle (I1.hok.fresh hle)
end
end L2
namespace L2
open PySem PySem.Spec PyProof.Rows
theorem rv_no_len : typeLookup (.type "list_reverseiterator") "__len__" = pure none := by rw [typeLookup_type, builtinLookup_eq_fast]; kernel_rfl
theorem rv_hint_look : typeLookup (.type "list_reverseiterator") "__length_hint__" = pure (some (.builtin "list_reverseiterator.__length_hint__")) := by rw [typeLookup_type, builtinLookup_eq_fast]; kernel_rfl
section
variable {prog : Program} {w : World} {A : Around} {E : Value -> Shared -> Prop} {s : Shared} {r : Addr}
theorem rv_hint {Q : Bool -> Shared -> Prop} (hT : s.TypeIs (.ref r) "list_reverseiterator") (h : Q false s) : wpAny (model prog w) A (Builtin.List.listLengthHint (.ref r)) Q E s := by
  unfold Builtin.List.listLengthHint
  refine wpAny_bind (wpAny_specialOf hT rv_no_len ?_)
  show wpAny _ A (specialOf (Value.ref r) (Str.ofString "__length_hint__") >>= _) _ _ _
  refine wpAny_bind (wpAny_specialOf hT rv_hint_look ?_)
  generalize hid : ("list_reverseiterator.__length_hint__" : String) = id0
  wp_delta
  rw [show splitId id0 = some ("list_reverseiterator", "__length_hint__") from by subst hid; decide +kernel]
  subst hid
  refine wpAny_bind (wpAny_isInstance (T := "list_reverseiterator") (b := true) hT (by rw [isSubtype_type]; kernel_rfl) ?_)
  refine wpAny_ite_split (fun hab => absurd hab (by decide)) (fun _ => ?_)
  refine wpAny_ite_split (fun _ => ?_) (fun hab => absurd (by decide +kernel) hab)
  refine wpAny_ite_split (fun hab => absurd hab (by decide +kernel)) (fun _ => ?_)
  exact wpAny_pure h
theorem rv_extend {R : Result -> Shared -> Prop} {l : Addr} {items : Array Value} (hh : A.handled = none) (S : Addr) (res : Value) (c₀ : Nat) (hne : l ≠ r) (hSr : S ≠ r) (hSl : S ≠ l) (hit : s.heap.IsRevIter r l ((items.size : Int) - 1)) (hl : s.heap.IsList l items)
    (hS : s.heap.get? S = some { cls := .type "list", data := .seq #[] c₀ })
    (hR : ∀ h' tk acc' c', (∀ b o, b ≠ S -> b ≠ r -> s.heap.get? b = some o -> h'.get? b = some o) -> h'.get? S = some { cls := .type "list", dict := none, data := .seq acc' c', slots := #[] } -> ItemsOf (fun i v => items[items.size - 1 - i]? = some v) acc' items.size -> R (.ok (.ret res)) { s with heap := h', toks := tk }) (hn : items.size <= sizeLine) :
    wpAny (model prog w) A.in1 (Builtin.List.listExtendWith (.ref S) (.ref r) res)
      (fun fin s' => match fin with | .done f => R (.ok f) s' | .again c' => c'.quiet = true /\ codeAny (model prog w) A c' R s') (fun e s' => R (.error e) s') s := by
  have W := (Walks.listRev (prog := prog) (w := w) (A := A.in1) hh r l hne items)
  have hSf : S ∉ [r, l] := by simp [hSr, hSl]
  unfold Builtin.List.listExtendWith
  refine wpAny_bind (wpAny_typeOf (T := "list_reverseiterator") hit.typeIs ?_)
  have h1 : Builtin.List.listSameRef (.ref S) (.ref r) = false := by simp [Builtin.List.listSameRef, hSr]
  have h2 : (Value.type "list_reverseiterator" == Value.type "list") = false := by decide
  have h3 : (Value.type "list_reverseiterator" == Value.type "tuple") = false := by decide
  simp only [h1, h2, h3, Bool.or_false, Bool.false_eq_true, if_false]
  refine wpAny_bind (wpAny_pyIter_revIter hit ?_)
  refine wpAny_bind (wpAny_holding (rv_hint hit.typeIs ?_))
  refine wpAny_ite_split (fun hab => absurd hab (by decide +kernel)) (fun _ => wpAny_pure ⟨plainId_quiet PySem.F.plain_extend_loop _, ?_⟩)
  refine codeAny_extend_loopS W.toS hn S hSf res items.size 0 _ #[] c₀ rfl (Nat.zero_le _) ⟨Nat.zero_le _, by simpa using hit, hl⟩ hS (ItemsOf.nil _) fun s' acc' c' hm hS' hacc => ?_
  rw [Moved.eq_with hm]
  refine hR s'.heap s'.toks acc' c' (fun b o hb hbr e => hm.heap b o (fun hmem => ?_) e) hS' hacc
  rcases List.mem_cons.mp hmem with e' | hmem
  · exact hb e'
  · exact hbr (List.mem_singleton.mp hmem)
theorem rv_call {l : Addr} {items : Array Value} {Q : Value -> Shared -> Prop} (hh : A.handled = none) (hne : l ≠ r) (hit : s.heap.IsRevIter r l ((items.size : Int) - 1)) (hl : s.heap.IsList l items) (hn : items.size <= sizeLine)
    (hQ : ∀ h' tk acc' c', (∀ b o, b ≠ r -> s.heap.get? b = some o -> h'.get? b = some o) -> h'.get? s.heap.objs.size = some { cls := .type "list", dict := none, data := .seq acc' c', slots := #[] } -> ItemsOf (fun i v => items[items.size - 1 - i]? = some v) acc' items.size -> Q (.ref s.heap.objs.size) { s with heap := h', toks := tk }) :
    wpAny (model prog w) A (call (.type "list") [.ref r]) Q E s := by
  refine callType_codes (Q₁ := fun obj s₁ => obj = .ref s.heap.objs.size /\ s₁ = { s with heap := s.heap.push { cls := .type "list", data := .seq #[] } }) PySem.F.called_list (PySem.F.typeCall_list_1 _) PySem.F.entry_list_init
    (code_list_new _ ⟨rfl, rfl⟩) fun obj s₁ h₁ => ?_
  obtain ⟨rfl, rfl⟩ := h₁
  have hS : (s.heap.push { cls := .type "list", data := .seq #[] }).get? s.heap.objs.size = some { cls := .type "list", data := .seq #[] } := Heap.get?_push_size _ rfl
  have lr : r < s.heap.objs.size := by obtain ⟨o, e, _⟩ := hit; exact Heap.lt_size e
  have ll : l < s.heap.objs.size := by obtain ⟨o, e, _⟩ := hl; exact Heap.lt_size e
  refine ⟨⟨_, hS, rfl⟩, PySem.F.args_list_init_2 _ _, ?_⟩
  show wpAny _ _ (do let old <- Builtin.List.listItems (.ref s.heap.objs.size); Builtin.List.listUpdate (.ref s.heap.objs.size) (fun _ => #[]); letGo old.toList.reverse; Builtin.List.listExtendWith (.ref s.heap.objs.size) (.ref r) .none) _ _ _
  refine wpAny_bind ?_
  unfold Builtin.List.listItems
  refine wpAny_bind (wpAny_seqItems hS rfl (wpAny_pure ?_))
  show wpAny _ _ (updateSeq s.heap.objs.size (fun _ => #[]) >>= fun _ => letGo (#[] : Array Value).toList.reverse >>= fun _ => Builtin.List.listExtendWith (.ref s.heap.objs.size) (.ref r) .none) _ _ _
  refine wpAny_bind (wpAny_updateSeq hS rfl ?_)
  have hS₂ := Heap.get?_update_self (Obj.mapSeq (fun _ => (#[] : Array Value))) hS rfl
  have oth : ∀ b o, b ≠ s.heap.objs.size -> s.heap.get? b = some o -> ((s.heap.push { cls := .type "list", data := .seq #[] }).update s.heap.objs.size (Obj.mapSeq (fun _ => (#[] : Array Value)))).get? b = some o :=
    fun b o hb e => (Heap.get?_update_other _ _ (Ne.symm hb)).trans (Heap.get?_push_of_some _ e)
  refine wpAny_bind (wpAny_letGo ?_)
  refine rv_extend (A := A.in1) hh _ .none _ hne (Nat.ne_of_gt lr) (Nat.ne_of_gt ll) (hit.at fun o e => oth r o (Nat.ne_of_lt lr) e) (hl.at fun o e => oth l o (Nat.ne_of_lt ll) e) hS₂ (fun h' tk acc' c' hk hS' hacc => ?_) hn
  exact ⟨rfl, hQ h' tk acc' c' (fun b o hb e => hk b o (Nat.ne_of_lt (Heap.lt_size e)) hb (oth b o (Nat.ne_of_lt (Heap.lt_size e)) e)) hS' hacc⟩
end
def tRev (K : PySem.W.Frag) (ta : TA) : TE := fun σ H Q => ta σ H fun vs H1 => ∃ a xs, vs = [.ref a] /\ SqL K H1 a xs /\ ∀ p H', Gro H1 p (.lst xs.reverse) H' -> Q (.ref p) H'
theorem me_rev {X : Cx} {a : Expr} {ta : TA} {p1 p2 pos pos2 : Pos} (hc : X.calm = true) (hg1 : Gl X "list") (hm1 : X.mg "list" = none) (hg2 : Gl X "reversed") (hm2 : X.mg "reversed" = none) (ha : PA X [a] ta) (hs : starEach [a] X.env = [(false, eval a X.env)] := by rfl)
    (hs1 : starEach [.Call (.Name "reversed" p2) [a] [] pos2] X.env = [(false, eval (.Call (.Name "reversed" p2) [a] [] pos2) X.env)] := by rfl) : PE X (.Call (.Name "list" p1) [.Call (.Name "reversed" p2) [a] [] pos2] [] pos) (tRev X.K ta) := by
  intro pins s σ H Q I h
  refine Call_ (ld_blt I hg1 hm1 boot_list (PyProof.Rows.callWith_type1 ?_ hs1 rfl))
  rw [hs1]
  refine Calls.spliced_cons (Call_ (ld_blt I hg2 hm2 boot_reversed (PyProof.Rows.callWith_type1 (thn (ha pos2 pins s σ H _ I h) fun us s1 ⟨vs, H1, I1, r1, q1⟩ => ?_) hs rfl)))
  obtain ⟨l, xs, e, hq, q⟩ := q1
  subst e
  cases r1 with
  | cons r rr =>
    cases rr
    cases r
    obtain ⟨its, rv, pl, hz⟩ := I1.list hq
    have hlen := rv.length
    refine call_reversed_list pl.isList (Calls.spliced_nil ?_)
    have ll : l < s1.heap.objs.size := by obtain ⟨o, _, e, _⟩ := pl; exact Heap.lt_size e
    have I2 : Inv X pins σ H1 { s1 with heap := s1.heap.push (revObj l ((its.toArray.size : Int) - 1)) } := I1.kept (t' := s1.toks) fun b o e => Heap.get?_push_of_some _ e
    refine rv_call (s := { s1 with heap := s1.heap.push (revObj l ((its.toArray.size : Int) - 1)) }) (items := its.toArray) (I.ok.hd hc) (Nat.ne_of_lt ll) ⟨_, Heap.get?_push_size _ rfl, rfl, rfl⟩ (pl.isList.at fun o e => Heap.get?_push_of_some _ e) (by rw [List.size_toArray, <- hlen]; exact hz) fun h' tk acc' c' hk hS hacc => ?_
    have hacc2 : acc'.toList = its.reverse := by
      refine List.ext_getElem? fun i => ?_
      have hn : acc'.size = its.length := hacc.1.trans List.size_toArray
      have hi : ∀ i v, acc'[i]? = some v -> its.toArray[its.length - 1 - i]? = some v := fun i v e => by
        have z := hacc.2 i v e
        rwa [List.size_toArray] at z
      by_cases hlt : i < its.length
      · have hia : i < acc'.size := by omega
        have e1 := hi i acc'[i] (Array.getElem?_eq_getElem hia)
        rw [List.getElem?_reverse hlt, Array.getElem?_toList, Array.getElem?_eq_getElem hia, <- e1]
        simp
      · rw [List.getElem?_eq_none (by rw [Array.length_toList]; omega), List.getElem?_eq_none (by rw [List.length_reverse]; omega)]
    have rr : Vals xs.reverse its.reverse := rv.reverse
    refine ⟨.ref _, _, ?_, rfl, q _ _ (.mk' I2.fresh)⟩
    refine I1.turnedN (s := s1) (fp := [s1.heap.objs.size]) (t' := tk) (fun b o hb e => hk b o (fun z => hb (by simp [z])) (Heap.get?_push_of_some _ e)) (fun b hb => ?_) ?_ ⟨by rw [List.length_reverse]; exact hz, its.reverse, c', rr, ?_⟩
    · have e : b = s1.heap.objs.size := by simpa using hb
      subst e
      exact I1.fpOk (Nat.le_refl _) I1.fresh
    · exact Nat.le_trans (Nat.le_succ _) (Nat.le_of_eq (Heap.size_push _ _).symm)
    · have e : acc' = its.reverse.toArray := by rw [<- hacc2]
      rw [<- e]
      exact hS
end L2
namespace L2
open PySem PySem.Spec PyProof.Rows
section
variable {X : Cx} {tg : Expr}
theorem for_enum {K : PySem.W.Frag} {a : Addr} {xs : List V} {g : TG} {tb : TS} {D : Ends} {σ : St} {H : Hp} (Pv : Nat -> St -> Hp -> Prop) (h0 : Pv 0 σ H) (hl : ∀ i σ H, i <= xs.length -> Pv i σ H -> SqL K H a xs)
    (hs : ∀ i x p σ H H', xs[i]? = some x -> Pv i σ H -> Gro H p (.tup [.int (i : Int), x]) H' -> g (.ref p) σ H' fun σ2 H2 => tb { D with nx := Pv (i + 1), ct := Pv (i + 1), bk := D.nx } σ2 H2) (hd : ∀ σ H, Pv xs.length σ H -> D.nx σ H) :
    ∃ W : Nat -> Nat -> St -> Hp -> Prop, (∃ m, W 0 m σ H) /\ ∀ i m σ H, W i m σ H ->
      ((Ite K a).stop i H /\ D.nx σ H) \/ ((Ite K a).go i H /\ ∃ N : St -> Hp -> Prop, (∀ σ' H', N σ' H' -> ∃ m', m' < m /\ W (i + 1) m' σ' H') /\ ∀ x H', (Ite K a).yld i H x H' -> g x σ H' fun σ2 H2 => tb { D with nx := N, ct := N, bk := D.nx } σ2 H2) := by
  refine ⟨fun i m σ H => m = xs.length - i /\ i <= xs.length /\ Pv i σ H, ⟨xs.length, by simp, Nat.zero_le _, h0⟩, ?_⟩
  rintro i m σ H ⟨rfl, hi, p⟩
  have q := hl i σ H hi p
  by_cases hlt : i < xs.length
  · refine .inr ⟨⟨xs, xs[i], q, by simp [hlt]⟩, Pv (i + 1), fun σ' H' p' => ⟨xs.length - (i + 1), by omega, rfl, hlt, p'⟩, fun x H' y => ?_⟩
    obtain ⟨pp, v, rfl, y, gr⟩ := y
    exact hs i v pp σ H H' (y xs q) p gr
  · have e : i = xs.length := by omega
    subst e
    exact .inl ⟨⟨xs, q, Nat.le_refl _⟩, hd σ H p⟩
end
def gSum (K : PySem.W.Frag) : List V -> Hp -> VK -> Prop := fun xs H Q => match xs with
  | [.ref p] => ∃ ns : List Int, SqL K H p (ns.map V.int) /\ Q (.int ns.sum) H
  | _ => False
theorem preSum_list (ns : List Int) : ∀ k, k <= ns.length -> preSum (fun i => (ns[i]?).getD 0) k = (ns.take k).sum
  | 0, _ => by simp [preSum]
  | k + 1, h => by
    have hk : k < ns.length := by omega
    rw [preSum, preSum_list ns k (by omega), <- List.take_append_getElem hk, List.sum_append]
    simp [List.getElem?_eq_getElem hk]
theorem c_sum {X : Cx} (hc : X.calm = true) : CallR X (.builtin "sum") (gSum X.K) := by
  intro pins s σ H xs us Q I r q
  unfold gSum at q
  split at q
  · rename_i p
    obtain ⟨ns, hq, q⟩ := q
    obtain ⟨u, rfl, rx⟩ := vals1 r
    cases rx
    obtain ⟨its, rv, pl, _⟩ := I.list hq
    have hl := rv.length
    rw [List.length_map] at hl
    have hlt : p < s.heap.objs.size := by
      obtain ⟨o, n, e, _⟩ := pl
      exact Heap.lt_size e
    have hne : p ≠ s.heap.objs.size := Nat.ne_of_lt hlt
    refine call_sum_walkG (wpAny_pyIter_list pl.isList ⟨s.heap.objs.size, _, _, _, _, _, fun i => (ns[i]?).getD 0, rfl, Walks.list (A := X.A.in1) (show X.A.in1.handled = none from I.ok.hd hc) s.heap.objs.size p hne its.toArray, ⟨⟨_, Heap.get?_push_size _ rfl, rfl, rfl⟩, ?_⟩, fun b hb => ?_, fun i v hv => ?_, fun h' tk t' k => ?_⟩)
    · exact pl.isList.at fun o e => Heap.get?_push_of_some _ e
    · have hb' : b = s.heap.objs.size \/ b = p := by simpa using hb
      show b < (s.heap.push _).objs.size
      rw [Heap.size_push]
      rcases hb' with z | z
      · rw [z]; exact Nat.lt_succ_self _
      · rw [z]; exact Nat.lt_succ_of_lt hlt
    · have hi : i < its.length := by
        have := (Array.getElem?_eq_some_iff.mp hv).1
        simpa using this
      have hb : i < ns.length := by omega
      obtain ⟨u, hu, ru⟩ := rv.get (i := i) (x := V.int ns[i]) (by simp [hb])
      have e : its.toArray[i]? = some u := by simpa using hu
      rw [e] at hv
      cases hv
      obtain ⟨t, rfl⟩ := ru
      exact ⟨t, by simp [hb]⟩
    · refine ⟨.int ns.sum, H, I.kept (h' := h') (t' := tk) fun b o e => k b o (fun z => ?_) (Heap.get?_push_of_some _ e), ⟨t', ?_⟩, q⟩
      · have e' : b = s.heap.objs.size := by simpa using z
        exact absurd (Heap.lt_size e) (by rw [e']; exact Nat.lt_irrefl _)
      · rw [List.size_toArray, <- hl, preSum_list ns _ (Nat.le_refl _), List.take_length]
  · exact q.elim
def CShl (i j : Int) : Prop := 0 <= j /\ (Builtin.Int.intBits i : Int) + j <= 2 ^ 27
theorem g_shlB {X : Cx} : OpR X (binaryOp .LShift) (gI CShl fun i j => .int (i * 2 ^ j.toNat)) := gI_of (opI fun _ _ _ _ _ _ _ hc q => lshift_int hc.1 hc.2 q)
def gBits : V -> List V -> Hp -> VK -> Prop := fun x vs H Q => match x, vs with
  | .int i, [] => Q (.int (Builtin.Int.intBits i)) H
  | _, _ => False
theorem mg_bits {X : Cx} : MtR X "int.bit_length" gBits := by
  intro pins s σ H x vs v us Q I rx rs q
  unfold gBits at q
  split at q
  · obtain ⟨t, rfl⟩ := rx
    cases rs
    exact call_int_bit_length ⟨.int _, H, I.tok _, ⟨_, rfl⟩, q⟩
  · exact q.elim
end L2
namespace L2
open PySem PySem.Spec PyProof.Rows
def Itz (K : PySem.W.Frag) (a b : Addr) : It :=
  ⟨fun i H => ∃ xs ys x y, SqL K H a xs /\ xs[i]? = some x /\ SqL K H b ys /\ ys[i]? = some y, fun i H x H' => ∃ p v u, x = .ref p /\ (∀ xs, SqL K H a xs -> xs[i]? = some v) /\ (∀ ys, SqL K H b ys -> ys[i]? = some u) /\ Gro H p (.tup [v, u]) H', fun i H => ∃ xs ys, SqL K H a xs /\ SqL K H b ys /\ (xs.length <= i \/ ys.length <= i)⟩
theorem turn_zip {P : Program} {w : World} {K : PySem.W.Frag} {es : List Expr} {kk : Nat} {pp : Pos} (a b z TI TO i1 i2 : Addr) (D : ZipApart z TI TO i1 i2 a b) :
    Turn P w K (.Tuple es kk pp) (Itz K a b) [z, TI, TO, i1, i2] z (fun i h => IsZip h z TI TO .none /\ IsPair h TI (.ref i1) (.ref i2) /\ (∃ a b, IsPair h TO a b) /\ h.IsListIter i1 a i /\ h.IsListIter i2 b i) where
  mem := by simp
  obj := fun i h st c hc => by
    obtain ⟨h1, h2, ⟨u, v, h3⟩, ⟨o4, e4, c4, d4⟩, o5, e5, c5, d5⟩ := st
    have hc' : c = z \/ c = TI \/ c = TO \/ c = i1 \/ c = i2 := by simpa using hc
    rcases hc' with rfl | rfl | rfl | rfl | rfl
    · exact ⟨_, h1, fun v z => by cases (show Data.fields _ = Data.cell v from z)⟩
    · exact ⟨_, h2, fun v z => by cases (show Data.seq _ _ = Data.cell v from z)⟩
    · exact ⟨_, h3, fun v z => by cases (show Data.seq _ _ = Data.cell v from z)⟩
    · exact ⟨o4, e4, fun v z => by rw [d4] at z; cases z⟩
    · exact ⟨o5, e5, fun v z => by rw [d5] at z; cases z⟩
  keep := fun i h h' st k => by
    obtain ⟨h1, h2, ⟨u, v, h3⟩, h4, h5⟩ := st
    exact ⟨k z (by simp) _ h1, k TI (by simp) _ h2, ⟨u, v, k TO (by simp) _ h3⟩, h4.at fun o x => k i1 (by simp) o x, h5.at fun o x => k i2 (by simp) o x⟩
  item := by
    intro X hP hw hK hc i pins s σ H E I hf st hg
    subst hP hw hK
    obtain ⟨h1, h2, ⟨u, v, h3⟩, h4, h5⟩ := st
    obtain ⟨xs, ys, x, y, hq, hx, hq2, hy⟩ := hg
    obtain ⟨its, rv, p, hz⟩ := I.list hq
    obtain ⟨its2, rv2, p2, hz2⟩ := I.list hq2
    obtain ⟨ux, hu, ru⟩ := rv.get hx
    obtain ⟨uy, hu2, ru2⟩ := rv2.get hy
    have lz : z < s.heap.objs.size := Heap.lt_size h1
    have lTI : TI < s.heap.objs.size := Heap.lt_size h2
    have lTO : TO < s.heap.objs.size := Heap.lt_size h3
    have l1 : i1 < s.heap.objs.size := by obtain ⟨_, e, _⟩ := h4; exact Heap.lt_size e
    have l2 : i2 < s.heap.objs.size := by obtain ⟨_, e, _⟩ := h5; exact Heap.lt_size e
    refine wpAny_pyNext_zip_item D h1 h2 h3 h4 h5 p.isList p2.isList (x := ux) (y := uy) (by simpa using hu) (by simpa using hu2) fun h' a1 a2 a3 a4 a5 a6 hk => ?_
    refine ⟨_, rfl, wpAny_letOwnedTupleGo_zip (s := { s with heap := h' }) a1 fun h'' hz' hs' => ?_⟩
    have kk : ∀ c o, c ∉ [z, TI, TO, i1, i2] -> s.heap.get? c = some o -> h''.get? c = some o := fun c o hb e => by
      have n1 : c ≠ z := fun w => hb (by simp [w])
      exact (hs'.2 c n1).trans (hk c o n1 (fun w => hb (by simp [w])) (fun w => hb (by simp [w])) (fun w => hb (by simp [w])) e)
    have hT2 : h''.get? s.heap.objs.size = some { cls := .type "tuple", data := .seq #[ux, uy] } := (hs'.2 _ (Nat.ne_of_gt lz)).trans a5
    have I2 : Inv X pins σ (upd H s.heap.objs.size (.tup [x, y])) { s with heap := h'' } :=
      I.turnedN (t' := s.toks) (fp := [z, TI, TO, i1, i2]) kk hf (Nat.le_refl _) (pairOk ⟨_, hT2, rfl, _, rfl⟩ ru ru2)
    refine ⟨.ref s.heap.objs.size, _, I2, rfl, ⟨_, x, y, rfl, fun ys hy => by rw [I.list_inj hy hq]; exact hx, fun zs hz => by rw [I.list_inj hz hq2]; exact hy, .mk' I.fresh⟩,
      ⟨hz', (hs'.2 _ D.TIz).trans (hk _ _ D.TIz D.TITO D.TIi1 D.TIi2 h2), ⟨_, _, (hs'.2 _ D.TOz).trans a2⟩, a3.at fun o e => (hs'.2 _ D.i1z).trans e, a4.at fun o e => (hs'.2 _ D.i2z).trans e⟩, fun c hc => ?_⟩
    have hc' : c = z \/ c = TI \/ c = TO \/ c = i1 \/ c = i2 := by simpa using hc
    have lc : c < s.heap.objs.size := by rcases hc' with w | w | w | w | w <;> rw [w] <;> assumption
    rw [upd_ne (Nat.ne_of_lt lc)]
    exact (hf c hc).1
  done := by
    intro X hP hw hK hc i pins s σ H E I hf st hg
    subst hP hw hK
    obtain ⟨h1, h2, ⟨u, v, h3⟩, h4, h5⟩ := st
    obtain ⟨xs, ys, hq, hq2, hx⟩ := hg
    obtain ⟨its, rv, p, hz⟩ := I.list hq
    obtain ⟨its2, rv2, p2, hz2⟩ := I.list hq2
    have hl := rv.length
    have hl2 := rv2.length
    refine wpAny_pyNext_zip_end (I.ok.hd hc) D h1 h2 h3 h4 h5 p.isList p2.isList (by rcases hx with w | w; exact .inl (by simp; omega); exact .inr (by simp; omega)) fun h' hk => ⟨rfl, I.turnedL (t' := s.toks) (fp := [z, TI, TO, i1, i2]) (fun c o hb e => hk c o (fun w => hb (by simp [w])) (fun w => hb (by simp [w])) (fun w => hb (by simp [w])) (fun w => hb (by simp [w])) e) hf⟩
  self := fun _ _ _ _ _ st h => wpAny_pyIter_zip st.1 h
def iZip (K : PySem.W.Frag) (ta : TA) : TI := fun σ H R => ta σ H fun vs H1 => ∃ a b xs ys, vs = [.ref a, .ref b] /\ SqL K H1 a xs /\ SqL K H1 b ys /\ R (Itz K a b) H1
theorem zip_apart (I l1 l2 : Nat) (h1 : l1 < I) (h2 : l2 < I) : ZipApart (I + 4) (I + 2) (I + 3) I (I + 1) l1 l2 := PySem.W.ktu_apart I l1 l2 h1 h2
theorem pi_zip {X : Cx} {es : List Expr} {kk : Nat} {pp : Pos} {a b : Expr} {ta : TA} {p pos : Pos} (hg : Gl X "zip") (hm : X.mg "zip" = none) (ha : PA X [a, b] ta) (hs : starEach [a, b] X.env = (false, eval a X.env) :: starEach [b] X.env := by rfl) (hpl : (backTo pos (starEach [b] X.env)).any (·.1) = false := by rfl) :
    PI X (.Tuple es kk pp) (.Call (.Name "zip" p) [a, b] [] pos) (iZip X.K ta) := by
  intro pins s σ H R I h
  refine Call_ (ld_blt I hg hm boot_zip (PyProof.Rows.callWith_type1 (thn (ha pos pins s σ H _ I h) fun us s1 ⟨vs, H1, I1, r1, q1⟩ => ?_) hs hpl))
  obtain ⟨l1, l2, xs, ys, e, hq, hq2, q⟩ := q1
  subst e
  cases r1 with
  | cons r rr =>
    cases rr with
    | cons r' rr =>
      cases rr
      cases r
      cases r'
      obtain ⟨its, rv, pl, hz⟩ := I1.list hq
      obtain ⟨its2, rv2, pl2, hz2⟩ := I1.list hq2
      have ll1 : l1 < s1.heap.objs.size := by obtain ⟨o, _, e, _⟩ := pl; exact Heap.lt_size e
      have ll2 : l2 < s1.heap.objs.size := by obtain ⟨o, _, e, _⟩ := pl2; exact Heap.lt_size e
      have D : ZipApart (s1.heap.objs.size + 4) (s1.heap.objs.size + 2) (s1.heap.objs.size + 3) s1.heap.objs.size (s1.heap.objs.size + 1) l1 l2 := zip_apart _ _ _ ll1 ll2
      refine call_zip_2 pl.isList pl2.isList fun h' hz hTI hTO hi1 hi2 hsz hk => ?_
      refine wpAny_pyIter_zip (s := { s1 with heap := h' }) hz ?_
      have I2 : Inv X pins σ H1 { s1 with heap := h' } := I1.kept (t' := s1.toks) hk
      refine ⟨s1.heap.objs.size + 4, _, _, Itz X.K l1 l2, H1, rfl, I2, turn_zip l1 l2 _ _ _ _ _ D, ⟨hz, hTI, ⟨_, _, hTO⟩, hi1, hi2⟩, fun b hb => ?_, q⟩
      have hb' : b = s1.heap.objs.size + 4 \/ b = s1.heap.objs.size + 2 \/ b = s1.heap.objs.size + 3 \/ b = s1.heap.objs.size \/ b = s1.heap.objs.size + 1 := by simpa using hb
      have hle : s1.heap.objs.size <= b := by rcases hb' with w | w | w | w | w <;> rw [w] <;> first | exact Nat.le_add_right _ _ | exact Nat.le_refl _
      exact I1.fpOk hle (I1.hok.fresh hle)
end L2
namespace L2
open PySem PySem.Spec PyProof.Rows
theorem comp_zip {K : PySem.W.Frag} {a b : Addr} {xs zs : List V} {cs : St} {tt : TT} {te : TE} {H : Hp} {Q : VK} (hlen : zs.length = xs.length) (Pv : Nat -> List V -> Hp -> Prop) (h0 : Pv 0 [] H) (hl : ∀ i ys H, i <= xs.length -> Pv i ys H -> SqL K H a xs /\ SqL K H b zs /\ ys.length <= i) (hz : xs.length <= sizeLine)
    (hs : ∀ i x z ys H H' (N : List V -> Hp -> Prop), xs[i]? = some x -> zs[i]? = some z -> Pv i ys H -> Same H H' -> (∀ ys' H', Pv (i + 1) ys' H' -> N ys' H') -> tt (some x :: some z :: cs) H' fun b H4 => if b = true then te (some x :: some z :: cs) H4 fun y H5 => N (ys ++ [y]) H5 else N ys H4)
    (hd : ∀ ys H p H', Pv xs.length ys H -> Gro H p (.lst ys) H' -> Q (.ref p) H') :
    CompW (Itz K a b) H (List.replicate 2 none ++ cs) (gTup K 2 (gCons (gName 0) (gCons (gName 1) gNil))) tt te Q := by
  refine ⟨fun i m ys σ H => m = xs.length - i /\ i <= xs.length /\ Pv i ys H /\ ∃ v0 v1, σ = v0 :: v1 :: cs, ⟨xs.length, by simp, Nat.zero_le _, h0, none, none, rfl⟩, ?_⟩
  rintro i m ys σ H2 ⟨rfl, hi, p, v0, v1, rfl⟩
  obtain ⟨q, q2, ql⟩ := hl i ys H2 hi p
  by_cases hlt : i < xs.length
  · refine .inr ⟨⟨xs, zs, xs[i], zs[i]'(by omega), q, by simp [hlt], q2, by simp [hlen, hlt]⟩, by omega, fun ys' σ' H' => Pv (i + 1) ys' H' /\ ∃ v0 v1, σ' = v0 :: v1 :: cs, fun ys' σ' H' ⟨p', e⟩ => ⟨xs.length - (i + 1), by omega, rfl, hlt, p', e⟩, fun x H' y => ?_⟩
    obtain ⟨pp, v, u, rfl, y, y2, gr⟩ := y
    refine ⟨pp, _, rfl, gr.tup, rfl, _, _, rfl, _, _, rfl, rfl, ?_⟩
    exact hs i v u ys H2 H' (fun ys' H' => Pv (i + 1) ys' H' /\ ∃ v0 v1, some v :: some u :: cs = v0 :: v1 :: cs) (y xs q) (y2 zs q2) p gr.sm fun _ _ z => ⟨z, _, _, rfl⟩
  · have e : i = xs.length := by omega
    subst e
    exact .inl ⟨⟨xs, zs, q, q2, .inl (Nat.le_refl _)⟩, by omega, fun p' H' g => hd ys H2 p' H' p g⟩
section
variable {X : Cx} {K : PySem.W.Frag} {a b c e o : Expr} {es rest : List Expr} {pos p p2 pos2 : Pos} {t : TA} {kk : Nat}
theorem c_sumK (h : X.K = K) (hc : X.calm = true) : CallR X (.builtin "sum") (gSum K) := by subst h; exact c_sum hc
theorem q_me_revK (h : X.K = K) (hc : X.calm = true) (hm1 : X.mg "list" = none) (hm2 : X.mg "reversed" = none) (ha : QA X [a] t) (hg1 : Gl X "list" := by rfl) (hg2 : Gl X "reversed" := by rfl) (hs : isStar a = false := by rfl) :
    QE X (.Call (.Name "list" p) [.Call (.Name "reversed" p2) [a] [] pos2] [] pos) (tRev K t) := by subst h; exact ⟨me_rev hc hg1 hm1 hg2 hm2 ha.h (star_cons hs) (star_cons rfl)⟩
theorem q_pi_enumK (h : X.K = K) (hg : Gl X "enumerate") (hm : X.mg "enumerate" = none) (ha : QA X [a] t) (hs : isStar a = false := by rfl) : QI X (.Tuple es kk p2) (.Call (.Name "enumerate" p) [a] [] pos) (iEnum K t) := by subst h; exact ⟨pi_enum hg hm ha.h (star_cons hs)⟩
theorem q_pi_zipK (h : X.K = K) (hg : Gl X "zip") (hm : X.mg "zip" = none) (ha : QA X [a, b] t) (hs : isStar a = false := by rfl) (hs2 : isStar b = false := by rfl) : QI X (.Tuple es kk p2) (.Call (.Name "zip" p) [a, b] [] pos) (iZip K t) := by
  subst h
  exact ⟨pi_zip hg hm ha.h (star_cons hs) (by rw [star_cons hs2]; rfl)⟩
end
def intsAre : List Int -> List Value -> Bool
  | [], [] => true
  | n :: r, .int m _ :: u => n == m && intsAre r u
  | _, _ => false
theorem intsAre.vals : ∀ {ns : List Int} {us : List Value}, intsAre ns us = true -> Vals (ns.map V.int) us
  | [], [], _ => .nil
  | n :: r, .int m _ :: u, h => by
    have h' : (n == m && intsAre r u) = true := h
    rw [Bool.and_eq_true, beq_iff_eq] at h'
    obtain ⟨rfl, h2⟩ := h'
    exact .cons ⟨_, rfl⟩ (intsAre.vals h2)
theorem tupK {K : PySem.W.Frag} {a : Addr} {od : Option Addr} {its : Array Value} {n : Nat} {sl : Array (Option Value)} {ns : List Int} (h : K.lookup a = some ⟨.type "tuple", od, .seq its n, sl⟩) (hv : intsAre ns its.toList = true) (hz : its.size <= 1000 := by decide) (H : Hp) : SqT K H a (ns.map V.int) :=
  .inr ⟨_, its, n, h, rfl, rfl, sz (Nat.ble_eq_true_of_le hz), intsAre.vals hv⟩
end L2
namespace L2
open PySem PySem.Spec PyProof.Rows
theorem Gro.after {H H1 H2 : Hp} {p : Addr} {o : HO} (s : Same H H1) (g : Gro H1 p o H2) : Gro H p o H2 := ⟨s.free g.nw, s.trans g.sm, g.at_⟩
theorem two_pos (k : Nat) : (0 : Int) < 2 ^ k := Int.pow_pos (by decide)
def prts (b many : Nat) (n : Int) : List Int := (List.range many).map fun i => n / 2 ^ (b * (many - 1 - i)) % 2 ^ b
theorem prts_len (b many : Nat) (n : Int) : (prts b many n).length = many := by simp [prts]
theorem prts_rev (b many : Nat) (n : Int) : ((List.range many).map fun i => n / 2 ^ (b * i) % 2 ^ b).reverse = prts b many n := by
  refine List.ext_getElem? fun i => ?_
  by_cases h : i < many
  · rw [List.getElem?_reverse (by simpa using h)]
    simp [prts, h, show many - 1 - i < many by omega]
  · rw [List.getElem?_eq_none (by simp; omega), List.getElem?_eq_none (by simp [prts]; omega)]
theorem div_step (n : Int) (b j : Nat) : n / 2 ^ (b * j) / 2 ^ b = n / 2 ^ (b * (j + 1)) := by
  rw [Int.ediv_ediv_of_nonneg (Int.le_of_lt (two_pos _)), <- Int.pow_add, Nat.mul_succ]
theorem mod_step (x : Int) (b : Nat) : x - x / 2 ^ b * 2 ^ b = x % 2 ^ b := by
  rw [Int.emod_def, Int.mul_comm]
theorem take_snoc {α : Type} {rs : List α} {i : Nat} {y : α} (h : rs[i]? = some y) : rs.take (i + 1) = rs.take i ++ [y] := by rw [List.take_add_one, h]; rfl
theorem get_of_len {α β : Type} {xs : List α} {rs : List β} {i : Nat} {x : α} (hl : rs.length = xs.length) (h : xs[i]? = some x) : ∃ y, rs[i]? = some y := by
  have := (List.getElem?_eq_some_iff.mp h).1
  exact ⟨rs[i]'(by omega), by simp⟩
theorem comp_to {K : PySem.W.Frag} {a : Addr} {xs : List V} {cs : St} {te : TE} {H : Hp} {Q : VK} (rs : List V) (hl : rs.length = xs.length) (hq : SqL K H a xs) (hz : xs.length <= sizeLine)
    (hs : ∀ (i : Nat) x y H' (N : VK), xs[i]? = some x -> rs[i]? = some y -> Same H H' -> (∀ H'', Same H' H'' -> N y H'') -> te (some x :: cs) H' N) (hd : ∀ p H', Gro H p (.lst rs) H' -> Q (.ref p) H') :
    CompW (Itl K a) H (List.replicate 1 none ++ cs) (gName 0) tTrue te Q := by
  refine comp_list (fun i ys H' => Same H H' /\ ys = rs.take i) ⟨Same.refl _, rfl⟩ (fun i ys H' hi z => ⟨z.1.seq hq, by rw [z.2, List.length_take]; omega⟩) hz (fun i x ys H' N hx z hN => ?_) fun ys H' p H'' z g => ?_
  · obtain ⟨s, rfl⟩ := z
    obtain ⟨y, hy⟩ := get_of_len hl hx
    simp only [tTrue, if_true]
    exact hs i x y H' _ hx hy s fun H'' s' => hN _ _ ⟨s.trans s', by rw [take_snoc hy]⟩
  · obtain ⟨s, rfl⟩ := z
    rw [<- hl, List.take_length] at g
    exact hd p H'' (g.after s)
theorem comp_toR {lo : Int} {n : Nat} {cs : St} {te : TE} {H : Hp} {Q : VK} (rs : List V) (hl : rs.length = n) (hz : n <= sizeLine)
    (hs : ∀ (i : Nat) y H' (N : VK), i < n -> rs[i]? = some y -> Same H H' -> (∀ H'', Same H' H'' -> N y H'') -> te (some (.int (lo + (i : Int))) :: cs) H' N) (hd : ∀ p H', Gro H p (.lst rs) H' -> Q (.ref p) H') :
    CompW (Itr lo n) H (List.replicate 1 none ++ cs) (gName 0) tTrue te Q := by
  refine comp_range (fun i ys H' => Same H H' /\ ys = rs.take i) ⟨Same.refl _, rfl⟩ (fun i ys H' hi z => by rw [z.2, List.length_take]; omega) hz (fun i ys H' N hi z hN => ?_) fun ys H' p H'' z g => ?_
  · obtain ⟨s, rfl⟩ := z
    have hy : rs[i]? = some (rs[i]'(by omega)) := by simp
    simp only [tTrue, if_true]
    exact hs i (rs[i]'(by omega)) H' _ hi hy s fun H'' s' => hN _ _ ⟨s.trans s', by rw [take_snoc hy]⟩
  · obtain ⟨s, rfl⟩ := z
    rw [<- hl, List.take_length] at g
    exact hd p H'' (g.after s)
theorem ints_at {ns : List Int} {i : Nat} {x : V} (h : (ns.map V.int)[i]? = some x) : ∃ p, ns[i]? = some p /\ x = .int p := by
  rw [List.getElem?_map] at h
  cases e : ns[i]? with
  | none => rw [e] at h; cases h
  | some p => rw [e] at h; cases h; exact ⟨p, rfl, rfl⟩
end L2
namespace L2
open PySem PySem.Spec PyProof.Rows
theorem seq_nx {t u : TS} {D : Ends} {σ : St} {H : Hp} (M : St -> Hp -> Prop) (h1 : ∀ nx : St -> Hp -> Prop, (∀ σ' H', M σ' H' -> nx σ' H') -> t { D with nx := nx } σ H) (h2 : ∀ σ' H', M σ' H' -> u D σ' H') : tSeq t u D σ H := h1 (u D) h2
end L2
namespace L2
open PySem PySem.Spec PyProof.Rows
structure HasM (P : Program) (w : World) (K : PySem.W.Frag) (mg : Str -> Option Value) (base : Heap) (C : Addr) (m : Str) (k : Nat) (f : Addr) (fd : FuncData) (ps : List Str) (sp : Sp) : Prop where
  c : Cls K C
  mt : Meth K C m f
  b : Binds K fd ps []
  ok : FnOk P w K mg base CX0 k f fd ps sp
structure HasK (P : Program) (w : World) (K : PySem.W.Frag) (mg : Str -> Option Value) (base : Heap) (x : Str) (C : Addr) (k : Nat) (f : Addr) (fd : FuncData) (ps : List Str) (sp : Sp) : Prop where
  g : mg x = some (.ref C)
  mkx : Mk K C f
  b : Binds K fd ps []
  ok : FnOk P w K mg base CX0 k f fd ps sp
section
variable {X : Cx} {K : PySem.W.Frag} {k j : Nat} {f C : Addr} {fd : FuncData} {ps : List Str} {sp : Sp} {x m : Str} {p pos apos pos' : Pos} {e o value : Expr} {es : List Expr} {ta tv : TE} {t : TA}
theorem passes0 {X : Cx} : Passes CX0 X E0 := fun _ _ _ _ _ _ _ z => z.elim
theorem q_meth {pl : Sem Bool} (F : HasM X.prog X.w X.K X.mg X.base C m j f fd ps sp) (hr : Room k X.A) (ho : QE X o ta) (ha : QA X (e :: es) t) (hj : j <= k := by decide) (hn : noStar (e :: es) = true := by rfl)
    (ht : eval (.Call (.Attribute o m apos) (e :: es) [] pos) X.env = (do
      let ov <- eval o X.env
      standAt apos.atName
      let (f, first) <- holding [ov] (getMethod ov m pl)
      callWith pos f first (backTo pos (starEach (e :: es) X.env)) (backToKw pos (keywordEach [] X.env))) := by rfl) :
    QE X (.Call (.Attribute o m apos) (e :: es) [] pos) (tMeth C m sp [] E0 ta t) :=
  ⟨pe_meth (pl := pl) ho.h F.c F.mt F.ok (hr.mono hj) F.b .nil passes0 ha.h (star_cons (noStar_head hn).1) (noStar_any (noStar_head hn).2) ht⟩
theorem q_meth0 {pl : Sem Bool} (F : HasM X.prog X.w X.K X.mg X.base C m j f fd ps sp) (hr : Room k X.A) (ho : QE X o ta) (hj : j <= k := by decide)
    (ht : eval (.Call (.Attribute o m apos) [] [] pos) X.env = (do
      let ov <- eval o X.env
      standAt apos.atName
      let (f, first) <- holding [ov] (getMethod ov m pl)
      callWith pos f first (backTo pos (starEach [] X.env)) (backToKw pos (keywordEach [] X.env))) := by rfl) :
    QE X (.Call (.Attribute o m apos) [] [] pos) (tMeth C m sp [] E0 ta tNil) :=
  ⟨pe_meth0 (pl := pl) ho.h F.c F.mt F.ok (hr.mono hj) F.b .nil passes0 ht⟩
theorem q_fldK {f : Str} (h : X.K = K) (he : QE X e ta) (hb : attributeBase e f X.env (eval e X.env) = eval e X.env := by rfl) : QE X (.Attribute e f pos) (tFld K ta f) := by subst h; exact ⟨pe_fld he.h hb⟩
theorem q_ps_fldK {f : Str} (h : X.K = K) (ha : QE X o ta) (hv : QE X value tv) (hs : swapsWith value (some (.Attribute o f pos')) pos.line X.env = pure false := by rfl) : QS X (.Assign [.Attribute o f pos'] value pos) (sFld K ta tv f) := by subst h; exact ⟨ps_fld ha.h hv.h hs⟩
end
end L2
namespace L2
open PySem PySem.Spec PyProof.Rows
structure Mk0 (K : PySem.W.Frag) (C : Addr) : Prop where
  makes : PySem.W.makesIn K C = true
  init : PySem.W.findIn K (.ref C) "__init__" = some (some (.builtin "object.__init__"))
  kp : PySem.W.keepIn K (.ref C) = true
def tMk0 (C : Addr) : TE := fun _ H Q => ∀ x dx, H x = none -> H dx = none -> dx ≠ x -> Q (.ref x) (upd (upd H dx (.own x)) x (.ins C dx []))
section
variable {X : Cx} {C : Addr} {x : Str} {p pos : Pos}
theorem run_mk0 {pins : List (Addr × Obj)} {σ : St} {H : Hp} {s : Shared} {Q : VK} (M : Mk0 X.K C) (I : Inv X pins σ H s) (h : tMk0 C σ H Q) :
    wpAny (model X.prog X.w) X.A (call (.ref C) []) (EP X pins σ Q) X.xe s := by
  have hq := h (s.heap.objs.size + 1) s.heap.objs.size (I.hok.fresh (Nat.le_succ _)) (I.hok.fresh (Nat.le_refl _)) (Nat.ne_of_lt (Nat.lt_succ_self _))
  have I2 := Inv.made (C := C) I
  have Y := PySem.W.makes_of (M := model X.prog X.w) I.kIn M.makes
  refine wpAny_call (make_map0 I.kIn M.makes M.init (fun self => PySem.W.Looks.of_pure (PySem.W.oi_bind self)) ?_)
  obtain ⟨hh, g, d, t, os⟩ := s
  have e2 : ((hh.push PySem.W.emptyDict).push (PySem.W.instObj C hh.objs.size)).get? (hh.objs.size + 1) = some (PySem.W.instObj C hh.objs.size) := by
    have := Heap.get?_push_size (hh.push PySem.W.emptyDict) (o := PySem.W.instObj C hh.objs.size) rfl
    rwa [Heap.size_push] at this
  have t1 : PySem.W.Looks (model X.prog X.w) ((hh.push PySem.W.emptyDict).push (PySem.W.instObj C hh.objs.size)) (typeOf (.ref (hh.objs.size + 1))) (.ref C) := (PySem.W.Looks.ld e2).andThen .now
  have t2 : PySem.W.Looks (model X.prog X.w) ((hh.push PySem.W.emptyDict).push (PySem.W.instObj C hh.objs.size)) (isInstance (.ref (hh.objs.size + 1)) (.type "object")) true :=
    t1.andThen (Y.top.keeps fun b o e => Heap.get?_push_of_some _ (Heap.get?_push_of_some _ e))
  refine codeAny_call_builtin PySem.W.oi_plain PySem.W.entry_oi (@PySem.W.check_slot (model X.prog X.w) _ _ _ "object.__init__" "object" "__init__" (.ref (hh.objs.size + 1)) [] [] _ PySem.W.oi_kind PySem.W.oi_split t2 (PySem.W.oi_args (.ref (hh.objs.size + 1))) ?_)
  rw [PySem.W.oi_run]
  exact wpAny_pure (And.intro rfl ⟨V.ref (hh.objs.size + 1), _, I2, rfl, hq⟩)
theorem q_mk0 (M : Mk0 X.K C) (hm : X.mg x = some (.ref C)) (hg : Gl X x := by rfl) (hdb : (x == ("__debug__" : Str)) = false := by decide) : QE X (.Call (.Name x p) [] [] pos) (tMk0 C) := ⟨by
  intro pins s σ H Q I h
  refine wpAny_Call_Name_kw (ld_glob I hg hm ?_ hdb)
  exact PySem.W.callWith_K0 I.kIn M.kp (run_mk0 M I h)⟩
end
structure FunD (K : PySem.W.Frag) (x qual : Str) (st : Stmt) (f : Addr) (fd : FuncData) (vs : List Value) : Prop where
  ex : ∃ (oc : Value) (od : Option Addr) (kV doc pm : Value) (an : Option Addr) (cdv ct : Value) (osl : Array (Option Value)) (d : Addr) (dc : Value) (dd : Option Addr) (n : Nat) (dsl : Array (Option Value)),
    fd = PySem.W.fnOf x qual (defArgs st) (defBody st) (defScope st) (.ref d) kV doc pm an cdv ct /\ K.lookup f = some ⟨oc, od, .func fd, osl⟩ /\ PySem.W.codeIn K cdv qual = true /\ K.lookup d = some ⟨dc, dd, .seq vs.toArray n, dsl⟩
  kp : PySem.W.keepIn K (.ref f) = true
section
variable {P : Program} {w : World} {K : PySem.W.Frag} {mg : Str -> Option Value} {base : Heap} {x qual : Str} {st : Stmt} {f : Addr} {fd : FuncData} {N ps : List Str} {k : Nat} {sp : Sp} {vs : List Value}
theorem FunD.okQ (F : FunD K x qual st f fd vs) (S : FnScope N ps (defScope st)) (len : ∀ vs H Q E, sp vs H Q E -> vs.length = ps.length)
    (hbody : ∀ (cdv : Value) (A : Around) (outer : List Env) (s : Shared) (H : Hp) (vs : List V) (Q : VK) (E : XK), Room k (A.deeper (envOfC qual (defScope st) s.heap.objs.size f cdv)) -> sp vs H Q E ->
      ∃ t, QSs (cxOf CX0 P w K mg base N qual (defScope st) f cdv A outer s H E).nox (defBody st) t /\ t { nx := fun _ H' => Q .non H', rt := Q } (start N vs) H) : FnOk P w K mg base CX0 (k + 1) f fd ps sp := by
  obtain ⟨oc, od, kV, doc, pm, an, cdv, ct, osl, d, dc, dd, n, dsl, rfl, lk, hcd, _⟩ := F.ex
  refine fn_of lk hcd S len fun A outer s H vs Q E hr hsp => ?_
  obtain ⟨t, h, q⟩ := hbody cdv A outer s H vs Q E hr hsp
  exact ⟨t, h.h.nox, q⟩
theorem funD_mk {oc dc : Value} {od an dd : Option Addr} {osl dsl : Array (Option Value)} {kV doc pm cdv ct : Value} {d : Addr} {n : Nat} (l : K.lookup f = some ⟨oc, od, .func (PySem.W.fnOf x qual (defArgs st) (defBody st) (defScope st) (.ref d) kV doc pm an cdv ct), osl⟩)
    (c : PySem.W.codeIn K cdv qual = true) (k : PySem.W.keepIn K (.ref f) = true) (ld : K.lookup d = some ⟨dc, dd, .seq vs.toArray n, dsl⟩) : FunD K x qual st f (PySem.W.fnOf x qual (defArgs st) (defBody st) (defScope st) (.ref d) kV doc pm an cdv ct) vs :=
  ⟨⟨oc, od, kV, doc, pm, an, cdv, ct, osl, d, dc, dd, n, dsl, rfl, l, c, ld⟩, k⟩
theorem FunD.binds {ds : List Value} (F : FunD K x qual st f fd vs)
    (h : ∀ (d : Addr) (kV doc pm : Value) (an : Option Addr) (cdv ct : Value) (us : List Value), (us ++ ds).length = ps.length -> ∃ kk : Option (Array Value) -> Sem (List (Str × Value)),
      bindArgs (PySem.W.fnOf x qual (defArgs st) (defBody st) (defScope st) (.ref d) kV doc pm an cdv ct) ⟨us, []⟩ = seqItems? (.ref d) >>= kk /\ kk (some vs.toArray) = pure (ps.zip (us ++ ds))) : Binds K fd ps ds := by
  obtain ⟨oc, od, kV, doc, pm, an, cdv, ct, osl, d, dc, dd, n, dsl, rfl, lk, hcd, ld⟩ := F.ex
  intro s us KX hl
  obtain ⟨kk, h1, h2⟩ := h d kV doc pm an cdv ct us hl
  exact BindsTo.of_defaults (T := d) rfl (KX _ _ ld) rfl h1 h2
end
structure HasMD (P : Program) (w : World) (K : PySem.W.Frag) (mg : Str -> Option Value) (base : Heap) (C : Addr) (m : Str) (k : Nat) (f : Addr) (fd : FuncData) (ps : List Str) (dvs : List V) (sp : Sp) : Prop where
  c : Cls K C
  mt : Meth K C m f
  b : ∃ ds, Binds K fd ps ds /\ Vals dvs ds
  ok : FnOk P w K mg base CX0 k f fd ps sp
section
variable {X : Cx} {k j : Nat} {f C : Addr} {fd : FuncData} {ps : List Str} {sp : Sp} {m : Str} {pos apos : Pos} {e o : Expr} {es : List Expr} {ta : TE} {t : TA} {dvs : List V}
theorem q_methD {pl : Sem Bool} (F : HasMD X.prog X.w X.K X.mg X.base C m j f fd ps dvs sp) (hr : Room k X.A) (ho : QE X o ta) (ha : QA X (e :: es) t) (hj : j <= k := by decide) (hn : noStar (e :: es) = true := by rfl)
    (ht : eval (.Call (.Attribute o m apos) (e :: es) [] pos) X.env = (do
      let ov <- eval o X.env
      standAt apos.atName
      let (f, first) <- holding [ov] (getMethod ov m pl)
      callWith pos f first (backTo pos (starEach (e :: es) X.env)) (backToKw pos (keywordEach [] X.env))) := by rfl) :
    QE X (.Call (.Attribute o m apos) (e :: es) [] pos) (tMeth C m sp dvs E0 ta t) := by
  obtain ⟨ds, hb, hd⟩ := F.b
  exact ⟨pe_meth (pl := pl) ho.h F.c F.mt F.ok (hr.mono hj) hb hd passes0 ha.h (star_cons (noStar_head hn).1) (noStar_any (noStar_head hn).2) ht⟩
end
def dictOf : List DictEntry -> Option (List (Int × Addr))
  | [] => some []
  | ⟨h, .int k _, .ref a⟩ :: r => if h == hashInt k then (match dictOf r with | some l => some ((k, a) :: l) | none => none) else none
  | _ => none
structure DctK (K : PySem.W.Frag) (a : Addr) (m : List (Int × Addr)) : Prop where
  ex : ∃ es ep, K.lookup a = some ⟨.type "dict", none, .dict es ep, #[]⟩ /\ dictOf es.toList = some m
  nd : (m.map (·.1)).Nodup
  ns : (a == sysModules) = false
end L2
namespace L2
open PySem PySem.Spec PyProof.Rows
theorem mapF_eq {o : Obj} {vs : Array Value} (hd : o.data = .fields vs) (f : Array Value -> Array Value) : o.mapFields f = { o with data := .fields (f vs) } := by
  obtain ⟨c, d, dt, sl⟩ := o
  obtain rfl : dt = .fields vs := hd
  rfl
structure XAt (h : Heap) (e C : Addr) (od : Option Addr) (tb : Value) (oe : Obj) (vs : Array Value) (q : Bool := false) : Prop where
  at_ : h.get? e = some oe
  cls : oe.cls = .ref C
  dict : oe.dict = od
  data : oe.data = .fields vs
  size : vs.size = 6
  tb1 : vs[1]? = some tb
  cx : q = false -> vs[2]? = some .none
def TbAt (h : Heap) (e T : Addr) (fl : Value) : Prop := ∃ oT ts, h.get? T = some oT /\ oT.data = .fields ts /\ ts[3]? = some fl /\ T ≠ e
section
variable {M : Model} {A : Around} {E : Value -> Shared -> Prop} {s : Shared}
structure Noted (l : List Env) (e C T' : Addr) (od : Option Addr) (tb fl : Value) (h h' : Heap) (q : Bool := false) : Prop where
  keep : ∀ b o, h.get? b = some o -> b ≠ e -> .ref b ≠ tb -> b ∉ frs l -> h'.get? b = some o
  slot : ∀ b o, h.get? b = some o -> b ∈ frs l -> ∃ sl, h'.get? b = some { o with slots := sl }
  there : ∀ b o, h.get? b = some o -> ∃ o', h'.get? b = some o'
  new : h.objs.size <= T'
  size : h.objs.size <= h'.objs.size
  exc : ∃ oe vs, XAt h' e C od (.ref T') oe vs q
  ent : TbAt h' e T' fl
theorem new_entry {base : Heap} {env : Env} {outer : List Env} {L e C : Addr} {od : Option Addr} {oe : Obj} {vs : Array Value} {hd tb : Value} {nx q : Bool} {Q : Unit -> Shared -> Prop}
    (hA : A.frames = some (env :: outer)) (hF : s.heap.FunFrames base (env :: outer)) (hL : env.frame = some L) (x : XAt s.heap e C od tb oe vs q)
    (k : ∀ h' T', Noted (env :: outer) e C T' od .none (rawInt L) s.heap h' q -> Q () { s with heap := h' }) :
    wpAny M A (do let a <- frameOf env; let pl <- entryPlaceOf L nx; let b <- EntryCells.newEntry hd a .none (rawInt L) .none pl; setField (.ref e) 1 b) Q E s := by
  have ne : e ∉ frs (env :: outer) := fun m => by
    obtain ⟨_, o, ho, nf⟩ := hF.mem m
    rw [x.at_] at ho
    cases ho
    exact nf vs x.data
  refine wpAny_bind (wpAny_frameOf_fun hA hF hL fun g1 y => wpAny_bind (wpAny_entryPlaceOf fun pl pk => ?_))
  unfold EntryCells.newEntry newFields
  refine wpAny_bind (wpAny_newObj_type ?_ (pk.sizeOk5 _ _ _ _ _))
  have x1 : g1.get? e = some oe := (y.2.1 e ne).trans x.at_
  obtain ⟨N, hN⟩ : ∃ N : Obj, N = { cls := .type "traceback", dict := none, data := .fields ([hd, .ref L, .none, rawInt L, .none] ++ (if pl.isEmpty then List.replicate 6 Value.none else pl)).toArray } := ⟨_, rfl⟩
  rw [<- hN]
  have x2 := Heap.get?_push_of_some N x1
  have nT : g1.objs.size ≠ e := Nat.ne_of_gt (Heap.lt_size x1)
  refine wpAny_setField x2 x.data (by rw [x.size]; decide) (k _ g1.objs.size ?_)
  have x3 := Heap.get?_update_self (Obj.mapFields (·.setIfInBounds 1 (Value.ref g1.objs.size))) x2 (by rw [mapF_eq x.data]; rfl)
  rw [mapF_eq x.data] at x3
  have tN : N.data = .fields ([hd, .ref L, .none, rawInt L, .none] ++ (if pl.isEmpty then List.replicate 6 Value.none else pl)).toArray := by rw [hN]
  have T3 := (Heap.get?_update_other (g1.push N) (Obj.mapFields (·.setIfInBounds 1 (Value.ref g1.objs.size))) (Ne.symm nT)).trans (Heap.get?_push_size g1 (o := N) (by rw [hN]; rfl))
  have kp : ∀ b o, b ≠ e -> g1.get? b = some o -> ((g1.push N).update e (Obj.mapFields (·.setIfInBounds 1 (Value.ref g1.objs.size)))).get? b = some o := fun b o n q => by
    rw [Heap.get?_update_other _ _ (Ne.symm n)]
    exact Heap.get?_push_of_some _ q
  have sz : s.heap.objs.size = g1.objs.size := y.1.symm
  refine ⟨fun b o q n1 _ n2 => kp b o n1 ((y.2.1 b n2).trans q), fun b o q m => ?_, fun b o q => ?_, Nat.le_of_eq sz, by rw [Heap.size_after_update, Heap.size_push, sz]; exact Nat.le_succ _, ⟨_, _, x3, x.cls, x.dict, rfl, ?_, ?_, fun z => ?_⟩, ⟨N, _, T3, tN, ?_, nT⟩⟩
  · obtain ⟨sl, hs⟩ := y.2.2 b o q
    exact ⟨sl, kp b _ (fun z => ne (z ▸ m)) hs⟩
  · by_cases n : b = e
    · subst n; exact ⟨_, x3⟩
    · obtain ⟨sl, hs⟩ := y.2.2 b o q
      exact ⟨_, kp b _ n hs⟩
  · rw [Array.size_setIfInBounds]; exact x.size
  · have : 1 < vs.size := by rw [x.size]; decide
    simp [this]
  · rw [Array.getElem?_setIfInBounds_ne (by decide)]; exact x.cx z
  · rcases pk with rfl | ⟨_, _, _, _, _, _, _, rfl⟩ <;> simp
def TbOk (h : Heap) (e : Addr) (tb : Value) : Prop := tb = .none \/ ∃ T, tb = .ref T /\ TbAt h e T .none
theorem note_x {base : Heap} {env : Env} {outer : List Env} {L e C : Addr} {od : Option Addr} {oe : Obj} {vs : Array Value} {tb : Value} {q : Bool} {Q : Unit -> Shared -> Prop}
    (hA : A.frames = some (env :: outer)) (hF : s.heap.FunFrames base (env :: outer)) (hL : env.frame = some L) (x : XAt s.heap e C od tb oe vs q) (ht : TbOk s.heap e tb)
    (k : ∀ h' T', Noted (env :: outer) e C T' od tb (rawInt L) s.heap h' q -> Q () { s with heap := h' }) : wpAny M A (noteFrame (.ref e) env) Q E s := by
  unfold noteFrame
  simp only [hL]
  refine wpAny_bind (wpAny_field x.at_ x.data x.tb1 ?_)
  rcases ht with rfl | ⟨T, rfl, oT, ts, hT, dT, fT, nT⟩
  · rw [if_neg (by decide)]
    exact new_entry hA hF hL x k
  · rw [if_pos (show (Value.ref T != Value.none) = true by simp)]
    refine wpAny_bind (wpAny_field hT dT fT ?_)
    rw [if_neg (show ¬ (Value.none == rawInt L) = true by simp [rawInt])]
    refine wpAny_bind (wpAny_setField hT dT (Array.getElem?_eq_some_iff.mp fT).1 ?_)
    have ot : ∀ b, b ≠ T -> (s.heap.update T (Obj.mapFields (·.setIfInBounds 3 Value.none))).get? b = s.heap.get? b := fun b n => Heap.get?_update_other _ _ (Ne.symm n)
    have self := Heap.get?_update_self (Obj.mapFields (·.setIfInBounds 3 Value.none)) hT (by rw [mapF_eq dT]; rfl)
    have nF : T ∉ frs (env :: outer) := fun m => by
      obtain ⟨_, o, ho, nf⟩ := hF.mem m
      rw [hT] at ho
      cases ho
      exact nf ts dT
    refine new_entry (base := base) hA (hF.of_keeps fun b o q nf => ⟨o, (ot b fun z => ?_).trans q, rfl⟩) hL ⟨(ot e (Ne.symm nT)).trans x.at_, x.cls, x.dict, x.data, x.size, x.tb1, x.cx⟩ fun h' T' N => k h' T' ⟨fun b o q n1 n2 n3 => ?_, fun b o q m => ?_, fun b o q => ?_, by have := N.new; rwa [Heap.size_after_update] at this, by have := N.size; rwa [Heap.size_after_update] at this, N.exc, N.ent⟩
    · subst z; rw [hT] at q; cases q; exact nf ts dT
    · exact N.keep b o ((ot b fun z => n2 (by rw [z])).trans q) n1 (by simp) n3
    · exact N.slot b o ((ot b fun z => nF (z ▸ m)).trans q) m
    · by_cases n : b = T
      · subst n; exact N.there _ _ self
      · exact N.there b o ((ot b n).trans q)
theorem land_x {e C T : Addr} {od : Option Addr} {oe : Obj} {vs : Array Value} {fl : Value} {q : Bool} {Q : Unit -> Shared -> Prop} (x : XAt s.heap e C od (.ref T) oe vs q) (t : TbAt s.heap e T fl)
    (k : ∀ h', h'.objs.size = s.heap.objs.size -> (∀ b o, s.heap.get? b = some o -> b ≠ T -> h'.get? b = some o) -> (∀ b o, s.heap.get? b = some o -> ∃ o', h'.get? b = some o') -> XAt h' e C od (.ref T) oe vs q -> TbAt h' e T .none -> Q () { s with heap := h' }) : wpAny M A (setFlight (.ref e) none) Q E s := by
  obtain ⟨oT, ts, hT, dT, fT, nT⟩ := t
  unfold setFlight
  refine wpAny_bind (wpAny_field x.at_ x.data x.tb1 ?_)
  rw [if_pos (show (Value.ref T != Value.none) = true by simp)]
  have z3 := (Array.getElem?_eq_some_iff.mp fT).1
  have ot : ∀ b, b ≠ T -> (s.heap.update T (Obj.mapFields (·.setIfInBounds 3 ((none : Option Addr).elim Value.none fun f => rawInt f)))).get? b = s.heap.get? b := fun b n => Heap.get?_update_other _ _ (Ne.symm n)
  have self := Heap.get?_update_self (Obj.mapFields (·.setIfInBounds 3 ((none : Option Addr).elim Value.none fun f => rawInt f))) hT (by rw [mapF_eq dT]; rfl)
  refine wpAny_setField hT dT z3 (k _ (Heap.size_after_update ..) (fun b o q n => (ot b n).trans q) (fun b o q => ?_) ⟨(ot e (Ne.symm nT)).trans x.at_, x.cls, x.dict, x.data, x.size, x.tb1, x.cx⟩ ⟨_, _, self, by rw [mapF_eq dT], by simp [z3], nT⟩)
  by_cases n : b = T
  · subst n; exact ⟨_, self⟩
  · exact ⟨o, (ot b n).trans q⟩
theorem leave_x {base : Heap} {env : Env} {outer : List Env} {L e C : Addr} {od : Option Addr} {oe : Obj} {vs : Array Value} {tb : Value} {q : Bool} {Q : Unit -> Shared -> Prop}
    (hA : A.frames = some (env :: outer)) (hF : s.heap.FunFrames base (env :: outer)) (hL : env.frame = some L) (x : XAt s.heap e C od tb oe vs q) (ht : TbOk s.heap e tb)
    (k : ∀ h' T', Noted (env :: outer) e C T' od tb .none s.heap h' q -> Q () { s with heap := h' }) : wpAny M A (leaving env (.ref e)) Q E s := by
  unfold leaving
  refine wpAny_bind (note_x hA hF hL x ht fun h1 T1 N1 => ?_)
  obtain ⟨oe1, vs1, x1⟩ := N1.exc
  have old : ∀ b o, s.heap.get? b = some o -> b ≠ T1 := fun b o q => Nat.ne_of_lt (Nat.lt_of_lt_of_le (Heap.lt_size q) N1.new)
  refine land_x x1 N1.ent fun h2 sz k2 t2 x2 e2 => k h2 T1 ⟨fun b o q n1 n2 n3 => ?_, fun b o q m => ?_, fun b o q => ?_, N1.new, by rw [sz]; exact N1.size, ⟨_, _, x2⟩, e2⟩
  · exact k2 b o (N1.keep b o q n1 n2 n3) (old b o q)
  · obtain ⟨sl, hs⟩ := N1.slot b o q m
    exact ⟨sl, k2 b _ hs (old b o q)⟩
  · obtain ⟨o', hs⟩ := N1.there b o q
    exact t2 b o' hs
end
def xφ (e C : Addr) (od : Option Addr) (q : Bool) : Heap -> Prop := fun h => ∃ tb oe vs, XAt h e C od tb oe vs q
def xν (e C : Addr) (od : Option Addr) : Heap -> Prop := fun h => ∃ oe vs, XAt h e C od .none oe vs
def XO (e C : Addr) (od : Option Addr) (q : Bool := false) : HO := .ext (xφ e C od q)
def XN (e C : Addr) (od : Option Addr) : HO := .ext (xν e C od)
theorem XAt.keeps {h h' : Heap} {e C : Addr} {od : Option Addr} {tb : Value} {oe : Obj} {vs : Array Value} {q : Bool} (x : XAt h e C od tb oe vs q) (k : ∀ o, h.get? e = some o -> h'.get? e = some o) : XAt h' e C od tb oe vs q := ⟨k _ x.at_, x.cls, x.dict, x.data, x.size, x.tb1, x.cx⟩
section
variable {P : Program} {w : World} {H : Hp} {h : Heap} {e C : Addr} {od : Option Addr}
theorem xo_ok {tb : Value} {oe : Obj} {vs : Array Value} {q : Bool} (x : XAt h e C od tb oe vs q) : ObjOk P w H h e (XO e C od q) :=
  ⟨⟨tb, oe, vs, x⟩, ⟨oe, x.at_⟩, fun _ _ ⟨tb, oe, vs, y⟩ k => ⟨tb, oe, vs, y.keeps k⟩⟩
theorem xn_ok {oe : Obj} {vs : Array Value} (x : XAt h e C od .none oe vs) : ObjOk P w H h e (XN e C od) :=
  ⟨⟨oe, vs, x⟩, ⟨oe, x.at_⟩, fun _ _ ⟨oe, vs, y⟩ k => ⟨oe, vs, y.keeps k⟩⟩
end
def CX1 (P : Program) (w : World) : CXT := fun outer H s E v s' => ∃ (e C T : Addr) (od : Option Addr) (q : Bool) (H' : Hp) (oe : Obj) (vs : Array Value), v = .ref e /\ s'.os = s.os /\ AllBare s'.gens /\
  Un (frs outer) [] H H' s.heap s'.heap /\ HOk P w H' s'.heap /\ H' e = some (XO e C od q) /\ s.heap.get? e = none /\ s.heap.objs.size <= T /\ s.heap.objs.size <= s'.heap.objs.size /\ H' T = none /\
  XAt s'.heap e C od (.ref T) oe vs q /\ TbAt s'.heap e T .none /\ E (.ref C) (some e) H'
theorem ObjOk.there {P : Program} {w : World} {H : Hp} {h : Heap} {a : Addr} {o : HO} (x : ObjOk P w H h a o) : ∃ u, h.get? a = some u := by
  cases o with
  | lst xs => obtain ⟨_, _, _, _, e⟩ := x; exact ⟨_, e⟩
  | tup xs => obtain ⟨_, _, _, ob, e, _⟩ := x; exact ⟨_, e⟩
  | dK kvs => obtain ⟨_, _, _, _, ob, _, _, e, _⟩ := x; exact ⟨_, e⟩
  | dT kvs => obtain ⟨_, _, _, _, ob, _, _, e, _⟩ := x; exact ⟨_, e⟩
  | set S n => obtain ⟨ob, _, _, _, e, _⟩ := x; exact ⟨_, e⟩
  | ins C dx fs => obtain ⟨_, _, _, e, _⟩ := x; exact ⟨_, e⟩
  | own y => exact x
  | xd fs => obtain ⟨_, ⟨_, _, _, e, _⟩, _⟩ := x; exact ⟨_, e⟩
  | rng lo hi => obtain ⟨_, _, _, e⟩ := x; exact ⟨_, e⟩
  | frz ob u => obtain ⟨e, _⟩ := x; exact ⟨_, e⟩
  | tbl ps => exact ⟨_, show h.get? a = some _ from x⟩
  | met f y => exact ⟨_, show h.get? a = some _ from x⟩
  | ext φ => exact x.2.1
def Flew (X : Cx) (pins : List (Addr × Obj)) (Es : St -> XK) (v : Value) (s' : Shared) : Prop := ∃ (σ : St) (H' : Hp) (e C : Addr) (od : Option Addr) (q : Bool) (tb : Value) (oe : Obj) (vs : Array Value), v = .ref e /\ Inv X pins σ H' s' /\
  H' e = some (XO e C od q) /\ XAt s'.heap e C od tb oe vs q /\ TbOk s'.heap e tb /\ (∀ T, tb = .ref T -> H' T = none /\ X.s₀.heap.objs.size <= T /\ ∀ p ∈ X.pn ++ pins, p.1 ≠ T) /\ (X.ex = [] -> X.s₀.heap.get? e = none) /\ Es σ (.ref C) (some e) H'
structure Lets (X : Cx) (Es : St -> XK) : Prop where
  up : ∀ pins v s', Flew X pins Es v s' -> X.xe v s'
section
variable {X : Cx} {pins : List (Addr × Obj)} {σ : St} {H : Hp} {s s' : Shared} {Es : St -> XK} {v : Value}
theorem Inv.newx {e : Addr} (I : Inv X pins σ H s) (hx : X.ex = []) (he : s.heap.get? e = none) : X.s₀.heap.get? e = none := by
  cases q : X.s₀.heap.get? e with
  | none => rfl
  | some o =>
    obtain ⟨o', z⟩ := I.base.there e o q (by rw [hx]; simp)
    rw [he] at z; cases z
theorem flew_call (I : Inv X pins σ H s) (h : CX1 X.prog X.w X.stack H s (Es σ) v s') : Flew X pins Es v s' := by
  obtain ⟨e, C, T, od, qq, H', oe, vs, rfl, ho, hg, un, hok, hx, he, hT, hz, nT, x, tb, q⟩ := h
  refine ⟨σ, H', e, C, od, qq, .ref T, oe, vs, rfl, I.call' (ch := []) ho un hok hg (fun b z => absurd z (by simp)), hx, x, .inr ⟨T, rfl, tb⟩, fun T' z => ?_, fun hx0 => I.newx hx0 he, q⟩
  cases z
  refine ⟨nT, Nat.le_trans I.sz hT, fun p hp z => ?_⟩
  exact absurd (Nat.lt_of_lt_of_le (Heap.lt_size (I.pin p hp).1) hT) (by rw [z]; exact Nat.lt_irrefl _)
theorem Inv.old_x {e C : Addr} {od : Option Addr} (I : Inv X pins σ H s) (hx : H e = some (XN e C od)) : Inv X pins σ (upd H e (XO e C od)) s := by
  obtain ⟨⟨oe, vs, x⟩, _⟩ := I.hok e _ hx
  have q := Inv.write (t' := s.toks) (e := e) (h' := s.heap) (o := XO e C od) I (by rw [hx]; trivial) (.inl rfl) (fun b u _ z => z) ⟨_, x.at_⟩ (xo_ok x)
  exact q
theorem flew_new {e C : Addr} {od : Option Addr} (I : Inv X pins σ H s) (hx : H e = some (XN e C od)) (he : X.ex = [] -> X.s₀.heap.get? e = none) (q : Es σ (.ref C) (some e) (upd H e (XO e C od))) : Flew X pins Es (.ref e) s := by
  obtain ⟨⟨oe, vs, x⟩, _⟩ := I.hok e _ hx
  exact ⟨σ, _, e, C, od, false, .none, oe, vs, rfl, I.old_x hx, upd_same, x, .inl rfl, fun T z => (by cases z), he, q⟩
theorem Noted.hok {P : Program} {w : World} {l : List Env} {e C T' : Addr} {od : Option Addr} {tb fl : Value} {h h' : Heap} {qq : Bool} (N : Noted l e C T' od tb fl h h' qq) (ok : HOk P w H h) (hx : H e = some (XO e C od qq)) (ht : ∀ T, tb = .ref T -> H T = none)
    (hf : ∀ b ∈ frs l, H b = none) : HOk P w H h' := fun b o q => by
  have kp : ∀ c u ou, H c = some u -> c ≠ e -> h.get? c = some ou -> h'.get? c = some ou := fun c u ou z n y => N.keep c ou y n (fun y2 => by rw [ht c y2.symm] at z; cases z) fun m => by rw [hf c m] at z; cases z
  by_cases n : b = e
  · subst n
    rw [hx] at q; cases q
    obtain ⟨oe, vs, x⟩ := N.exc
    exact xo_ok x
  · refine (ok b o q).stay (fun c u hc y => ?_) (fun _ z => z) fun _ _ z => z
    rcases hc with rfl | hc
    · exact kp c o u q n y
    · refine kp c _ u hc (fun z => ?_) y
      rw [z, hx] at hc; cases hc
end
theorem lets_def {P : Program} {w : World} {K : PySem.W.Frag} {mg : Str -> Option Value} {base : Heap} {Ns : List Str} {qual : Str} {scope : Scope} {f : Addr} {cd : Value} {A : Around} {outer : List Env} {s : Shared} {H : Hp} {E : XK} :
    Lets (cxOf (CX1 P w) P w K mg base Ns qual scope f cd A outer s H E) (fun _ => E) := ⟨by
  rintro pins v s' ⟨σ, H', e, C, od, qq, tb, oe, vs, rfl, I, hx, x, ht, hT, he, q⟩
  refine leave_x (base := base) I.ok.frames I.stack rfl x ht fun h3 T' N => ?_
  have L : s.heap.objs.size <= (cxOf (CX1 P w) P w K mg base Ns qual scope f cd A outer s H E).env.locals := I.ok.above
  have nl : ∀ b o, s.heap.get? b = some o -> b ∉ frs outer -> b ∉ frs (cxOf (CX1 P w) P w K mg base Ns qual scope f cd A outer s H E).stack := fun b o z n m => by
    rcases List.mem_cons.mp (I.stkSub b m) with y | y
    · exact absurd (Nat.lt_of_lt_of_le (Heap.lt_size z) L) (by rw [y]; exact Nat.lt_irrefl _)
    · exact n y
  have nx : ∀ b : Addr, b ∉ ([] : List Addr) := fun b z => by cases z
  have ne : ∀ b o, s.heap.get? b = some o -> b ≠ e := fun b o z y => by
    have := he rfl
    rw [<- y] at this
    have z2 : (cxOf (CX1 P w) P w K mg base Ns qual scope f cd A outer s H E).s₀.heap.get? b = some o := z
    rw [this] at z2; cases z2
  have nt : ∀ b o, s.heap.get? b = some o -> Value.ref b ≠ tb := fun b o z y => absurd (Nat.lt_of_lt_of_le (Heap.lt_size z) (hT b y.symm).2.1) (Nat.lt_irrefl _)
  obtain ⟨oe', vs', x'⟩ := N.exc
  have hT' : H' T' = none := by
    cases z : H' T' with
    | none => rfl
    | some o =>
      obtain ⟨u, y⟩ := ObjOk.there (I.hok T' o z)
      exact absurd (Nat.lt_of_lt_of_le (Heap.lt_size y) N.new) (Nat.lt_irrefl _)
  refine ⟨e, C, T', od, qq, H', oe', vs', rfl, I.os, I.bare, ⟨fun b o z n m _ => ?_, fun b o z n m _ => ?_, fun b o z n _ => ?_, fun b o z _ => ?_, I.base.tups, I.base.frzs, I.base.tbls⟩,
    N.hok I.hok hx (fun T z => (hT T z).1) I.stkFree, hx, he rfl, Nat.le_trans I.sz N.new, Nat.le_trans I.sz N.size, hT', x', N.ent, q⟩
  · exact N.keep b o (I.base.keep b o z n m (nx b)) (ne b o z) (nt b o z) (nl b o z m)
  · obtain ⟨sl, y⟩ := I.base.slot b o z n m (nx b)
    obtain ⟨sl2, y2⟩ := N.slot b _ y (by show b ∈ frs (_ :: outer); unfold frs; rw [List.filterMap_cons]; exact List.mem_cons_of_mem _ m)
    exact ⟨sl2, y2⟩
  · exact I.base.free b o z n (nx b)
  · obtain ⟨o1, y⟩ := I.base.there b o z (nx b)
    exact N.there b o1 y⟩
section
variable {P : Program} {w : World} {K : PySem.W.Frag} {mg : Str -> Option Value} {base : Heap} {x qual : Str} {st : Stmt} {f : Addr} {fd : FuncData} {N ps : List Str} {k : Nat} {sp : Sp} {ds : List Value}
theorem Fun.okX (F : Fun K x qual st f fd) (S : FnScope N ps (defScope st)) (len : ∀ vs H Q E, sp vs H Q E -> vs.length = ps.length)
    (hbody : ∀ (cdv : Value) (A : Around) (outer : List Env) (s : Shared) (H : Hp) (vs : List V) (Q : VK) (E : XK), Room k (A.deeper (envOfC qual (defScope st) s.heap.objs.size f cdv)) -> sp vs H Q E ->
      ∃ t, QSs (cxOf (CX1 P w) P w K mg base N qual (defScope st) f cdv A outer s H E) (defBody st) t /\ t { nx := fun _ H' => Q .non H', rt := Q } (start N vs) H) : FnOk P w K mg base (CX1 P w) (k + 1) f fd ps sp := by
  obtain ⟨oc, od, kV, doc, pm, an, cdv, ct, osl, rfl, lk, hcd⟩ := F.ex
  exact fn_of lk hcd S len fun A outer s H vs Q E hr hsp => let ⟨t, h, q⟩ := hbody cdv A outer s H vs Q E hr hsp; ⟨t, h.h, q⟩
theorem FunD.okX (F : FunD K x qual st f fd ds) (S : FnScope N ps (defScope st)) (len : ∀ vs H Q E, sp vs H Q E -> vs.length = ps.length)
    (hbody : ∀ (cdv : Value) (A : Around) (outer : List Env) (s : Shared) (H : Hp) (vs : List V) (Q : VK) (E : XK), Room k (A.deeper (envOfC qual (defScope st) s.heap.objs.size f cdv)) -> sp vs H Q E ->
      ∃ t, QSs (cxOf (CX1 P w) P w K mg base N qual (defScope st) f cdv A outer s H E) (defBody st) t /\ t { nx := fun _ H' => Q .non H', rt := Q } (start N vs) H) : FnOk P w K mg base (CX1 P w) (k + 1) f fd ps sp := by
  obtain ⟨oc, od, kV, doc, pm, an, cdv, ct, osl, d, dc, dd, n, dsl, rfl, lk, hcd, _⟩ := F.ex
  exact fn_of lk hcd S len fun A outer s H vs Q E hr hsp => let ⟨t, h, q⟩ := hbody cdv A outer s H vs Q E hr hsp; ⟨t, h.h, q⟩
end
structure HasX (P : Program) (w : World) (K : PySem.W.Frag) (mg : Str -> Option Value) (base : Heap) (x : Str) (k : Nat) (f : Addr) (fd : FuncData) (ps : List Str) (dvs : List V) (sp : Sp) : Prop where
  g : mg x = some (.ref f)
  kp : PySem.W.keepIn K (.ref f) = true
  b : ∃ ds, Binds K fd ps ds /\ Vals dvs ds
  ok : FnOk P w K mg base (CX1 P w) k f fd ps sp
structure HasMX (P : Program) (w : World) (K : PySem.W.Frag) (mg : Str -> Option Value) (base : Heap) (C : Addr) (m : Str) (k : Nat) (f : Addr) (fd : FuncData) (ps : List Str) (dvs : List V) (sp : Sp) : Prop where
  c : Cls K C
  mt : Meth K C m f
  b : ∃ ds, Binds K fd ps ds /\ Vals dvs ds
  ok : FnOk P w K mg base (CX1 P w) k f fd ps sp
structure HasKX (P : Program) (w : World) (K : PySem.W.Frag) (mg : Str -> Option Value) (base : Heap) (x : Str) (C : Addr) (k : Nat) (f : Addr) (fd : FuncData) (ps : List Str) (dvs : List V) (sp : Sp) : Prop where
  g : mg x = some (.ref C)
  mkx : Mk K C f
  b : ∃ ds, Binds K fd ps ds /\ Vals dvs ds
  ok : FnOk P w K mg base (CX1 P w) k f fd ps sp
def tCallX (sp : Sp) (dvs : List V) (Es : St -> XK) (t : TA) : TE := fun σ H Q => t σ H fun vs H1 => sp (vs ++ dvs) H1 Q (Es σ)
def tMethX (C : Addr) (m : Str) (sp : Sp) (dvs : List V) (Es : St -> XK) (ta : TE) (t : TA) : TE := fun σ H Q => ta σ H fun x H1 => ∃ a dx fs, x = .ref a /\ H1 a = some (.ins C dx fs) /\ fs.lookup m = none /\
  t σ H1 fun vs H2 => sp (x :: (vs ++ dvs)) H2 Q (Es σ)
section
variable {X : Cx} {k j : Nat} {f C : Addr} {fd : FuncData} {ps : List Str} {sp : Sp} {x m : Str} {p pos apos : Pos} {e o : Expr} {es : List Expr} {ta : TE} {t : TA} {dvs : List V} {ds : List Value} {Es : St -> XK}
theorem run_x {pins : List (Addr × Obj)} {σ : St} {H : Hp} {s : Shared} {Q : VK} {us : List Value} {vs : List V} (F : FnOk X.prog X.w X.K X.mg X.base (CX1 X.prog X.w) k f fd ps sp) (hr : Room k X.A) (hb : Binds X.K fd ps ds) (hd : Vals dvs ds) (hx : Lets X Es)
    (I : Inv X pins σ H s) (r : Vals vs us) (h : sp (vs ++ dvs) H Q (Es σ)) : wpAny (model X.prog X.w) X.A (call (.ref f) us) (EP X pins σ Q) X.xe s := by
  have r2 : Vals (vs ++ dvs) (us ++ ds) := r.append hd
  refine wpAny_call (codeAny_mono (F.run X.A X.stack s H ⟨us, []⟩ (us ++ ds) (vs ++ dvs) Q (Es σ) hr I.env0 (hb s us I.kIn (by rw [<- r2.length]; exact F.len _ _ _ _ h)) r2 h) fun r s' hq => ?_)
  cases r with
  | error e => exact hx.up _ _ _ (flew_call I hq)
  | ok fl =>
    cases fl with
    | ret u => exact I.after hq
    | next => exact hq.elim
    | brk => exact hq.elim
    | cont => exact hq.elim
theorem q_calX (F : HasX X.prog X.w X.K X.mg X.base x j f fd ps dvs sp) (hr : Room k X.A) (hx : Lets X Es) (ha : QA X (e :: es) t) (hj : j <= k := by decide) (hg : Gl X x := by rfl)
    (hdb : (x == ("__debug__" : Str)) = false := by decide) (hn : noStar (e :: es) = true := by rfl) : QE X (.Call (.Name x p) (e :: es) [] pos) (tCallX sp dvs Es t) := ⟨by
  intro pins s σ H Q I h
  obtain ⟨ds, hb, hd⟩ := F.b
  refine wpAny_Call_Name_kw (ld_glob I hg F.g ?_ hdb)
  refine PySem.W.callWith_K (h₀ := X.base) I.ok.mod.kin F.kp (thn (ha.h pos pins s σ H _ I h) fun us s1 ⟨vs, H1, I1, r, q⟩ => ⟨I1.kIn, ?_⟩) (star_cons (noStar_head hn).1) (noStar_any (noStar_head hn).2)
  exact run_x F.ok (hr.mono hj) hb hd hx I1 r q⟩
end
end L2
namespace L2
open PySem PySem.Spec PyProof.Rows
section
variable {X : Cx} {pins : List (Addr × Obj)} {σ : St} {H : Hp} {s : Shared} {h' : Heap}
theorem Inv.adopt {e : Addr} {o : HO} {t' : Nat} (I : Inv X pins σ H s) (k : ∀ b u, s.heap.get? b = some u -> h'.get? b = some u) (he : s.heap.get? e = none) (new : ObjOk X.prog X.w (upd H e o) h' e o) : Inv X pins σ (upd H e o) { s with heap := h', toks := t' } := by
  have hn : H e = none := by
    cases q : H e with
    | none => rfl
    | some u => obtain ⟨z, y⟩ := ObjOk.there (I.hok e u q); rw [he] at y; cases y
  have ne : ∀ b u, s.heap.get? b = some u -> b ≠ e := fun b u q z => by rw [z, he] at q; cases q
  refine I.un ⟨fun b u q _ _ _ => k b u q, fun b u q _ _ _ => ⟨u.slots, k b u q⟩, fun b u q n _ => by rw [upd_ne (ne b u q)]; exact n, fun b u q _ => ⟨u, k b u q⟩, fun b xs q => by rw [upd_ne (ne_of_none q hn)]; exact q, fun b u xs q => by rw [upd_ne (ne_of_none q hn)]; exact q, fun b ps q => ⟨#[], by rw [upd_ne (ne_of_none q hn), q]; simp⟩⟩ fun b u q => ?_
  by_cases hb : b = e
  · subst hb; rw [upd_same] at q; cases q; exact new
  · rw [upd_ne hb] at q
    exact (I.hok b u q).stay (fun c v _ z => k c v z) (fun c z => by rw [upd_ne (ne_of_none z hn)]; exact z) fun c xs z => by rw [upd_ne (ne_of_none z hn)]; exact z
end
abbrev bmV : List Value := [.type "ValueError", .type "Exception", .type "BaseException", .type "object"]
end L2
namespace L2
open PySem PySem.Spec PyProof.Rows
section
variable {X : Cx} {pins : List (Addr × Obj)} {σ : St} {H : Hp} {s : Shared} {h' : Heap}
theorem unbind_ok {M : Model} {A : Around} {E : Value -> Shared -> Prop} {j : Nat} {n : Str} {pos : Pos} {Q : Unit -> Shared -> Prop} (I : Inv X pins σ H s) (hN : X.N.Nodup) (hj : X.N[j]? = some n) (hk : X.env.scope.names.lookup n = some .local)
    (k : ∀ s', Inv X pins (σ.set j none) H s' -> Q () s') : wpAny M A (do bindName X.env n .none; unbindBehindTheSuite X.env n pos) Q E s := by
  have hjσ : j < σ.length := by rw [I.len]; exact (List.getElem?_eq_some_iff.mp hj).1
  refine wpAny_bind (wpAny_bindName (store_ok (v := .non) I hN hj (.inl hk) rfl (fun s1 I1 => ?_) (.inr hk)))
  have hl : X.env.kindOf n = some .local := hk
  have hp : (X.env.scope.kind == .class || (X.env.scope.kind == .module && X.env.locals != X.env.globals)) = false := by rw [I.ok.kind]; rfl
  obtain ⟨m, hn, lk⟩ := id I1.loc
  obtain ⟨u, _, look⟩ := lk j n .non hj (by rw [List.getElem?_set_self hjσ]) (.inl hk)
  have hm : m n = some u := by
    rcases look with z | ⟨z, _⟩
    · exact z.2
    · rcases z with z | z <;> (rw [hl] at z; cases z)
  unfold unbindBehindTheSuite
  refine wpAny_onRaise ?_
  unfold unbindName
  refine wpAny_bind (wpAny_point (wpAny_bind ?_))
  unfold deleteName
  simp only [hl, hp]
  rw [if_neg (by decide)]
  refine wpAny_bind (wpAny_nsDel_keeps hn fun h2 v hn2 sb => ?_)
  rw [hm]
  simp only [Option.isSome_some, if_true, Bool.not_true, Bool.false_eq_true, if_false]
  refine wpAny_pure (wpAny_point (k _ ?_))
  obtain ⟨oL, _, _, hoL, _⟩ := id hn
  have old : ∀ b o, X.s₀.heap.get? b = some o -> b ≠ X.env.locals := fun b o e => Nat.ne_of_lt (Nat.lt_of_lt_of_le (Heap.lt_size e) I.ok.above)
  refine ⟨I1.ok, I1.os, I1.bare, ⟨fun b o e nn hb hx => (sb.2 b (old b o e)).trans (I1.base.keep b o e nn hb hx), fun b o e nn hb hx => ?_, I1.base.free, fun b o e hx => ?_, I1.base.tups, I1.base.frzs, I1.base.tbls⟩, ⟨_, hn2, fun i y w e1 e2 e3 => ?_⟩, fun y c e => ?_, I1.free, I1.freeC, fun p hpp => ?_, fun b ob e => ?_, ?_⟩
  · obtain ⟨sl, z⟩ := I1.base.slot b o e nn hb hx
    exact ⟨sl, (sb.2 b (old b o e)).trans z⟩
  · obtain ⟨o', z⟩ := I1.base.there b o e hx
    exact ⟨o', (sb.2 b (old b o e)).trans z⟩
  · by_cases c : i = j
    · subst c
      rw [List.getElem?_set_self hjσ] at e2; cases e2
    · rw [List.getElem?_set_ne (Ne.symm c)] at e2
      obtain ⟨u', r', q⟩ := lk i y w e1 (by rw [List.getElem?_set_ne (Ne.symm c)]; exact e2) e3
      refine ⟨u', r', ?_⟩
      rcases q with ⟨z1, z2⟩ | ⟨z1, cc, z2, z3⟩
      · refine .inl ⟨z1, ?_⟩
        have : y ≠ n := fun z => c (nodup_ix hN e1 (z ▸ hj))
        simp [this, z2]
      · exact .inr ⟨z1, cc, z2, z3.sameBut sb (I1.cne y cc z2)⟩
  · obtain ⟨w', z⟩ := I1.cell y c e
    exact ⟨w', z.sameBut sb (I1.cne y c e)⟩
  · obtain ⟨e, nn, ne, nf, d⟩ := I1.pin p hpp
    exact ⟨(sb.2 p.1 ne).trans e, nn, ne, nf, d⟩
  · refine (I1.hok b ob e).stay (fun c w' hc q => (sb.2 c ?_).trans q) (fun _ q => q) fun _ _ q => q
    rintro rfl
    rcases hc with rfl | hc
    · rw [I1.free] at e; cases e
    · rw [I1.free] at hc; cases hc
  · rw [List.length_set]; exact I.len
abbrev Cx.tryc (X : Cx) (pn : List (Addr × Obj)) (W : Value -> Shared -> Prop) : Cx := { X with pn := pn, xe := W }
abbrev Cx.hand (X : Cx) (e : Addr) (W : Value -> Shared -> Prop) : Cx := { X with A := X.A.mark (some (.ref e)), calm := false, xe := W }
theorem Cx.Ok.tryc {pn : List (Addr × Obj)} {W : Value -> Shared -> Prop} (ok : X.Ok) : (X.tryc pn W).Ok :=
  ⟨ok.mod, ok.kind, ok.glob, ok.blt, ok.above, ok.inj, ok.has, ok.cab, ok.hd, ok.frames, ok.stk, ok.exf, ok.bs, ok.bsz, ok.noex, ok.exfs, ok.funs, ok.frf⟩
theorem Cx.Ok.untry {pn : List (Addr × Obj)} {W : Value -> Shared -> Prop} (ok : (X.tryc pn W).Ok) : X.Ok :=
  ⟨ok.mod, ok.kind, ok.glob, ok.blt, ok.above, ok.inj, ok.has, ok.cab, ok.hd, ok.frames, ok.stk, ok.exf, ok.bs, ok.bsz, ok.noex, ok.exfs, ok.funs, ok.frf⟩
theorem Inv.tryc {W : Value -> Shared -> Prop} (I : Inv X pins σ H s) : Inv (X.tryc (X.pn ++ pins) W) [] σ H s :=
  ⟨I.ok.tryc, I.os, I.bare, I.base, I.loc, I.cell, I.free, I.freeC, fun p hp => I.pin p (by simpa using hp), I.hok, I.len⟩
theorem Inv.untry {W : Value -> Shared -> Prop} {pins' : List (Addr × Obj)} (I : Inv (X.tryc (X.pn ++ pins) W) pins' σ H s) : Inv X pins σ H s :=
  ⟨I.ok.untry, I.os, I.bare, I.base, I.loc, I.cell, I.free, I.freeC, fun p hp => I.pin p (List.mem_append_left _ hp), I.hok, I.len⟩
theorem Inv.hand {e : Addr} {W : Value -> Shared -> Prop} (I : Inv X pins σ H s) : Inv (X.hand e W) pins σ H s :=
  ⟨⟨I.ok.mod, I.ok.kind, I.ok.glob, I.ok.blt, I.ok.above, I.ok.inj, I.ok.has, I.ok.cab, (fun z => nomatch z), I.ok.frames, I.ok.stk, I.ok.exf, I.ok.bs, I.ok.bsz, I.ok.noex, I.ok.exfs, I.ok.funs, I.ok.frf⟩, I.os, I.bare, I.base, I.loc, I.cell, I.free, I.freeC, I.pin, I.hok, I.len⟩
theorem Inv.unhand {e : Addr} {W : Value -> Shared -> Prop} (I : Inv (X.hand e W) pins σ H s) (hd : X.calm = true -> X.A.handled = none) : Inv X pins σ H s :=
  ⟨⟨I.ok.mod, I.ok.kind, I.ok.glob, I.ok.blt, I.ok.above, I.ok.inj, I.ok.has, I.ok.cab, hd, I.ok.frames, I.ok.stk, I.ok.exf, I.ok.bs, I.ok.bsz, I.ok.noex, I.ok.exfs, I.ok.funs, I.ok.frf⟩, I.os, I.bare, I.base, I.loc, I.cell, I.free, I.freeC, I.pin, I.hok, I.len⟩
theorem SP.untry {W : Value -> Shared -> Prop} {D : Ends} {f : Flow} (h : SP (X.tryc (X.pn ++ pins) W) [] D f s) : SP X pins D f s := by
  cases f with
  | next => obtain ⟨σ', H', I, q⟩ := h; exact ⟨σ', H', I.untry, q⟩
  | brk => obtain ⟨σ', H', I, q⟩ := h; exact ⟨σ', H', I.untry, q⟩
  | cont => obtain ⟨σ', H', I, q⟩ := h; exact ⟨σ', H', I.untry, q⟩
  | ret u => obtain ⟨v, σ', H', I, r, q⟩ := h; exact ⟨v, σ', H', I.untry, r, q⟩
theorem Inv.noTb {T e : Addr} {fl : Value} (I : Inv X pins σ H s) (t : TbAt s.heap e T fl) : T ≠ X.env.locals /\ ∀ x c, X.env.cells.lookup x = some c -> c ≠ T := by
  obtain ⟨oT, ts, h1, h2, _⟩ := t
  refine ⟨fun z => ?_, fun x c hc z => ?_⟩
  · obtain ⟨m, ⟨o, es, ep, ho, hd, _⟩, _⟩ := I.loc
    rw [<- z, h1] at ho; cases ho
    rw [h2] at hd; cases hd
  · obtain ⟨v, o, ho, hd⟩ := I.cell x c hc
    rw [z, h1] at ho; cases ho
    rw [h2] at hd; cases hd
theorem Inv.noted {e C T' : Addr} {od : Option Addr} {tb fl : Value} {qq : Bool} (I : Inv X pins σ H s) (hx : H e = some (XO e C od qq)) (ht : TbOk s.heap e tb) (hT : ∀ T, tb = .ref T -> H T = none /\ X.s₀.heap.objs.size <= T /\ ∀ p ∈ X.pn ++ pins, p.1 ≠ T)
    (N : Noted X.stack e C T' od tb fl s.heap h' qq) : Inv X pins σ H { s with heap := h' } := by
  have ne : ∀ b, H b = none -> b ≠ e := fun b n z => by rw [z, hx] at n; cases n
  have ok := N.hok I.hok hx (fun T z => (hT T z).1) I.stkFree
  have un : ∀ ch : List Addr, (∀ T, tb = .ref T -> T ∈ ch) -> Un (frs X.stack) ch H H s.heap h' := fun ch hc => ⟨fun b o q n m c => N.keep b o q (ne b n) (fun z => c (hc b z.symm)) m, fun b o q n m c => N.slot b o q m, fun _ _ _ n _ => n, fun b o q _ => N.there b o q, fun _ _ q => q, fun _ _ _ q => q, fun b ps q => ⟨#[], by rw [q]; simp⟩⟩
  rcases ht with rfl | ⟨T, rfl, t⟩
  · exact I.call (g' := s.gens) (d' := s.drawn) (t' := s.toks) (ch := []) (un [] fun T z => by cases z) ok I.bare fun b z => absurd z (by simp)
  · refine I.call (g' := s.gens) (d' := s.drawn) (t' := s.toks) (ch := [T]) (un [T] fun T' z => by cases z; simp) ok I.bare fun b hb => ?_
    have eb : b = T := by simpa using hb
    subst eb
    obtain ⟨h1, h2, h3⟩ := hT b rfl
    obtain ⟨g1, g2⟩ := I.noTb t
    exact ⟨.inr h2, g1, g2, h3⟩
end
def tTry (K : PySem.W.Frag) (c : Value) (tb : (St -> XK) -> TS) (j : Nat) (th : TS) : TS := fun D σ H => ∃ Eb : St -> XK, tb Eb D σ H /\ ∀ σ' C e od qq H', Eb σ' (.ref C) (some e) H' -> H' e = some (XO e C od qq) -> PySem.W.exmOne K (.ref C) c = some true /\
  th { nx := fun σ2 H2 => D.nx (σ2.set j none) H2, rt := D.rt, bk := fun σ2 H2 => D.bk (σ2.set j none) H2, ct := fun σ2 H2 => D.ct (σ2.set j none) H2 } (σ'.set j (some (.ref e))) H'
section
variable {X : Cx} {y n : Str} {np hpos pos : Pos} {body suite : List Stmt} {b₀ : Stmt} {Cy : Addr} {tb : (St -> XK) -> TS} {th : TS} {j : Nat}
theorem q_try (hst : X.stack = X.env :: X.outer /\ X.env.frame = some X.env.locals) (hN : X.N.Nodup) (hj : X.N[j]? = some n) (hk : X.env.scope.names.lookup n = some .local) (hm : X.mg y = some (.ref Cy)) (hb : ∀ pn W Eb, Lets (X.tryc pn W) Eb -> QSs (X.tryc pn W) body (tb Eb)) (hh : ∀ e, QSs (X.hand e fun _ _ => False) (b₀ :: suite) th)
    (hg : Gl X y := by rfl) (hd : (y == ("__debug__" : Str)) = false := by decide) : QS X (.Try body [.ExceptHandler (some (.Name y np)) (some n) (b₀ :: suite) hpos] [] [] pos) (tTry X.K (.ref Cy) tb j th) := ⟨by
  intro pins s σ H D I h
  obtain ⟨Eb, h1, h2⟩ := h
  have L : Lets (X.tryc (X.pn ++ pins) (Flew X pins Eb)) Eb := ⟨by
    rintro pins' v s' ⟨σ', H', e, C, od, qq, tb', oe, vs, hv, I', hx, x, ht, hT, he, q⟩
    exact ⟨σ', H', e, C, od, qq, tb', oe, vs, hv, I'.untry, hx, x, ht, fun T z => ⟨(hT T z).1, (hT T z).2.1, fun p hp => (hT T z).2.2 p (List.mem_append_left _ hp)⟩, he, q⟩⟩
  refine wpAny_Try_except (wpAny_mono ((hb _ _ Eb L).h [] s σ H D I.tryc h1) (fun f s1 q => ?_) fun v s1 q => ?_)
  · cases f with
    | next => obtain ⟨σ', H', I', q⟩ := q; exact wpAny_execs_nil ⟨σ', H', I'.untry, q⟩
    | brk => exact SP.untry (f := .brk) q
    | cont => exact SP.untry (f := .cont) q
    | ret u => exact SP.untry (f := .ret u) q
  · obtain ⟨σ', H', e, C, od, qq, tb', oe, vs, rfl, I1, hx, x, ht, hT, he, q⟩ := q
    obtain ⟨hex, hth⟩ := h2 σ' C e od qq H' q hx
    have hfr : X.A.frames = some (X.env :: X.outer) := by rw [<- hst.1]; exact I1.ok.frames
    have hff : s1.heap.FunFrames X.base (X.env :: X.outer) := by rw [<- hst.1]; exact I1.stack
    refine note_x (base := X.base) hfr hff hst.2 x ht fun h1' T1 N1 => ?_
    rw [<- hst.1] at N1
    have I2 := I1.noted hx ht hT N1
    obtain ⟨oe1, vs1, x1⟩ := N1.exc
    have T1new : X.s₀.heap.objs.size <= T1 := Nat.le_trans I1.sz N1.new
    have T1none : H' T1 = none := by
      cases z : H' T1 with
      | none => rfl
      | some o =>
        obtain ⟨u, w⟩ := ObjOk.there (I1.hok T1 o z)
        exact absurd (Nat.lt_of_lt_of_le (Heap.lt_size w) N1.new) (Nat.lt_irrefl _)
    have T1pin : ∀ p ∈ X.pn ++ pins, p.1 ≠ T1 := fun p hp z => absurd (Nat.lt_of_lt_of_le (Heap.lt_size (I1.pin p hp).1) N1.new) (by rw [z]; exact Nat.lt_irrefl _)
    have land : ∀ {M : Model} {A : Around} {Ex : Value -> Shared -> Prop} {fl : Value} {s2 : Shared} {oe2 : Obj} {vs2 : Array Value} {Q : Unit -> Shared -> Prop}, Inv X pins σ' H' s2 -> XAt s2.heap e C od (.ref T1) oe2 vs2 qq -> TbAt s2.heap e T1 fl ->
        (∀ s3, Inv X pins σ' H' s3 -> XAt s3.heap e C od (.ref T1) oe2 vs2 qq -> TbAt s3.heap e T1 .none -> Q () s3) -> wpAny M A (setFlight (.ref e) none) Q Ex s2 := fun {M A Ex fl s2 oe2 vs2 Q} J y t kk => by
      refine land_x y t fun h3 sz k3 t3 y3 e3 => kk { s2 with heap := h3 } ?_ y3 e3
      have ok3 : HOk X.prog X.w H' h3 := fun b o z => by
        refine (J.hok b o z).stay (fun c u hc w => k3 c u w fun v => ?_) (fun _ q => q) fun _ _ q => q
        rcases hc with rfl | hc
        · rw [v, T1none] at z; cases z
        · rw [v, T1none] at hc; cases hc
      refine J.call (g' := s2.gens) (d' := s2.drawn) (t' := s2.toks) (ch := [T1]) ⟨fun b o z n m c => k3 b o z (by simpa using c), fun b o z n m c => ⟨o.slots, k3 b o z (by simpa using c)⟩, fun _ _ _ n _ => n, fun b o z _ => t3 b o z, fun _ _ z => z, fun _ _ _ z => z, fun b ps z => ⟨#[], by rw [z]; simp⟩⟩ ok3 J.bare fun b hb' => ?_
      have eb : b = T1 := by simpa using hb'
      subst eb
      obtain ⟨g1, g2⟩ := J.noTb t
      exact ⟨.inr T1new, g1, g2, T1pin⟩
    refine land I2 x1 N1.ent fun s3 I3 x3 t3 => ?_
    refine wpAny_handleBy_cons (codeAny_handlers_test ?_) (by intro z; cases z)
    refine ld_glob (X := X.hand e fun _ _ => False) I3.hand hg hm ?_ hd
    have LT : PySem.W.Looks (model X.prog X.w) s3.heap (typeOf (.ref e)) (.ref C) := by
      have z : PySem.W.Looks (model X.prog X.w) s3.heap (typeOf (.ref e)) oe1.cls := (PySem.W.Looks.ld x3.at_).andThen .now
      rw [x3.cls] at z
      exact z
    refine (PySem.W.exm_one I3.kIn LT hex) _ _ _ _ (fun b o w => w) ?_
    refine codeAny_handlers_suite_as (land I3 x3 t3 fun s4 I4 x4 t4 => ?_)
    refine store_ok (v := .ref e) I4 hN hj (.inl hk) rfl (fun s5 I5 => ?_) (.inr hk)
    refine wpAny_mono ((hh e).h pins s5 _ H' _ (I5.hand (e := e)) hth) (fun f s6 q6 => ?_) fun _ _ z => z.elim
    have hd0 := I.ok.hd
    cases f with
    | next =>
      obtain ⟨σ6, H6, I6, q6⟩ := q6
      exact unbind_ok (I6.unhand hd0) hN hj hk fun s7 I7 => ⟨_, H6, I7, q6⟩
    | brk =>
      obtain ⟨σ6, H6, I6, q6⟩ := q6
      exact unbind_ok (I6.unhand hd0) hN hj hk fun s7 I7 => ⟨_, H6, I7, q6⟩
    | cont =>
      obtain ⟨σ6, H6, I6, q6⟩ := q6
      exact unbind_ok (I6.unhand hd0) hN hj hk fun s7 I7 => ⟨_, H6, I7, q6⟩
    | ret u =>
      obtain ⟨v, σ6, H6, I6, r6, q6⟩ := q6
      exact unbind_ok (I6.unhand hd0) hN hj hk fun s7 I7 => ⟨v, _, H6, I7, r6, q6⟩⟩
end
end L2
namespace L2
open PySem PySem.Spec PyProof.Rows
structure HasKD (P : Program) (w : World) (K : PySem.W.Frag) (mg : Str -> Option Value) (base : Heap) (x : Str) (C : Addr) (k : Nat) (f : Addr) (fd : FuncData) (ps : List Str) (dvs : List V) (sp : Sp) : Prop where
  g : mg x = some (.ref C)
  mkx : Mk K C f
  b : ∃ ds, Binds K fd ps ds /\ Vals dvs ds
  ok : FnOk P w K mg base CX0 k f fd ps sp
section
variable {X : Cx} {k j : Nat} {f C : Addr} {fd : FuncData} {ps : List Str} {sp : Sp} {x : Str} {p pos : Pos} {e : Expr} {es : List Expr} {t : TA} {dvs : List V}
theorem q_two {t1 t2 : TE} (h1 : QE X e t1) (h2 : QE X e t2) : QE X e (fun σ H Q => t1 σ H Q \/ t2 σ H Q) :=
  ⟨fun pins s σ H Q I z => z.elim (h1.h pins s σ H Q I) (h2.h pins s σ H Q I)⟩
theorem q_makeD (F : HasKD X.prog X.w X.K X.mg X.base x C j f fd ps dvs sp) (hr : Room k X.A) (ha : QA X (e :: es) t) (hj : j + 1 <= k := by decide) (hg : Gl X x := by rfl) (hdb : (x == ("__debug__" : Str)) = false := by decide) (hn : noStar (e :: es) = true := by rfl) :
    QE X (.Call (.Name x p) (e :: es) [] pos) (tMake C sp dvs E0 t) := by
  obtain ⟨ds, hb, hd⟩ := F.b
  exact ⟨pe_make F.mkx F.ok (hr.mono hj) hg F.g hb hd passes0 ha.h hdb (star_cons (noStar_head hn).1) (noStar_any (noStar_head hn).2)⟩
end
end L2
namespace L2
open PySem PySem.Spec PyProof.Rows PySem.W
structure XCls (K : PySem.W.Frag) (C : Addr) : Prop where
  ga : findIn K (.ref C) "__getattribute__" = some (some (.builtin "BaseException.__getattribute__"))
  noga : findIn K (.ref C) "__getattr__" = some none
  base : mroIn K C (.type "BaseException") = some true
  obj : mroIn K C (.type "object") = some true
  hd : hasDictIn K C = true
  cls : findIn K (.ref C) "__class__" = some (some (.builtin "object.__class__"))
  clsG : specialIn K (.builtin "object.__class__") "__get__" = some (some (.builtin "getset_descriptor.__get__"))
  clsT : takesIn K (.builtin "object.__class__") = some true
section
variable {prog : Program} {w : World} {A : Around} {E : Value -> Shared -> Prop} {s : Shared} {K : PySem.W.Frag} {x C : Addr} {ox : Obj} {od : Option Obj} {name : Str} {tk : Tok} {fill expr : Bool}
theorem x_check {nameV : Value} {Q : Unit -> Shared -> Prop} (KX : K.In s.heap) (c : XCls K C) (I : InstAt s.heap x ox C od) (hq : Q () s) : wpAny (model prog w) A (checkBuiltinCall "BaseException.__getattribute__" ⟨[.ref x, nameV], []⟩) Q E s := by
  have hk : builtinKind "BaseException.__getattribute__" = some .slot := by decide +kernel
  have hsp : splitId "BaseException.__getattribute__" = some ("BaseException", "__getattribute__") := by decide +kernel
  have LI : Looks (model prog w) s.heap (isInstance (.ref x) (.type "BaseException")) true := I.type.andThen (looks_mroIn KX c.base)
  have ha := PySem.F.args_bexc_ga (.ref x) nameV
  simp only [checkBuiltinCall, hk, hsp]
  refine wpAny_bind (LI.here ?_)
  obtain ⟨h, g, d, t, os⟩ := s
  repeat (any_goals (first | assumption | wp_step))
theorem x_by {Q : Value -> Shared -> Prop} (KX : K.In s.heap) (c : XCls K C) (I : InstAt s.heap x ox C od)
    (h : wpAny (model prog w) A.in1 (Builtin.«object.__getattribute__» ⟨[.ref x, .str name tk], []⟩) (fun r s' => match r with | .done (.ret v) => handedIn v = true /\ Q v s' | _ => False) (fun _ _ => False) s) : wpAny (model prog w) A (getAttrBy (.ref x) (.str name tk) fill expr) Q E s := by
  have L0 := I.type (M := model prog w)
  have L1 := looks_findIn (M := model prog w) KX c.ga
  have L2 := looks_findIn (M := model prog w) KX c.noga
  have f3 := PySem.F.excAttr_ValueError.ga.bind (.ref x)
  have hx0 : (expr && onTheHeap (Value.builtin "BaseException.__getattribute__")) = false := by cases expr <;> rfl
  have hx2 : (onTheHeap (Value.ref C) && Value.builtin "BaseException.__getattribute__" == Value.builtin "object.__getattribute__") = false := by
    have q : (Value.builtin "BaseException.__getattribute__" == Value.builtin "object.__getattribute__") = false := by decide +kernel
    rw [q]; rfl
  unfold getAttrBy
  refine wpAny_holding (wpAny_bind (L0.here (wpAny_bind (L1.here ?_))))
  dsimp only
  rw [if_neg (by rw [hx2]; exact Bool.false_ne_true)]
  unfold getAttrByItsOwn callGetattribute boundAndCalled
  rw [hx0, if_neg Bool.false_ne_true]
  refine wpAny_bind (L2.here (wpAny_bind (wpAny_attempt (wpAny_holding ?_))))
  rw [f3]
  refine wpAny_bind (wpAny_pure (wpAny_call (codeAny_call_builtin PySem.F.excAttr_ValueError.ga.plain PySem.F.entry_bexc_ga (x_check KX c I (wpAny_mono h (fun r s' z => ?_) fun _ _ z => z.elim)))))
  rcases r with (_ | _ | _ | _) | _ <;> first | exact z.elim | skip
  all_goals (obtain ⟨h1, h2⟩ := z; dsimp only; rw [handedOut_of h1]; exact wpAny_pure h2)
theorem x_entry {g a : Value} {Q : Fin -> Shared -> Prop} (KX : K.In s.heap) (I : InstAt s.heap x ox C od) (hf : findObj K C od name = some (.bind g a))
    (h : wpAny (model prog w) A (call g [a, .ref x, .ref C]) (fun v s' => Q (.done (.ret v)) s') E s) : wpAny (model prog w) A (Builtin.«object.__getattribute__» ⟨[.ref x, .str name tk], []⟩) Q E s := by
  have L0 := I.type (M := model prog w)
  have L1 := looks_find (M := model prog w) KX I hf
  unfold Builtin.«object.__getattribute__»
  refine wpAny_bind (wpAny_pure (wpAny_bind (wpAny_pure (wpAny_bind (L0.here (wpAny_bind (L1.here ?_)))))))
  show wpAny _ _ (holding [a] (call g [a, .ref x, .ref C]) >>= ret) _ _ _
  exact wpAny_bind (wpAny_holding (wpAny_mono h (fun v s' z => wpAny_pure z) fun _ _ z => z))
theorem x_entryV {v : Value} {Q : Fin -> Shared -> Prop} (KX : K.In s.heap) (I : InstAt s.heap x ox C od) (hf : findObj K C od name = some (.value v))
    (h : Q (.done (.ret v)) s) : wpAny (model prog w) A (Builtin.«object.__getattribute__» ⟨[.ref x, .str name tk], []⟩) Q E s := by
  have L0 := I.type (M := model prog w)
  have L1 := looks_find (M := model prog w) KX I hf
  unfold Builtin.«object.__getattribute__»
  refine wpAny_bind (wpAny_pure (wpAny_bind (wpAny_pure (wpAny_bind (L0.here (wpAny_bind (L1.here ?_)))))))
  exact wpAny_pure h
theorem find_data {a g : Value} (hc : (clsIn K C).isSome = true) (ha : findIn K (.ref C) name = some (some a)) (hg : specialIn K a "__get__" = some (some g)) (ht : takesIn K a = some true) : findObj K C od name = some (.bind g a) := by
  obtain ⟨cd, hc⟩ := Option.isSome_iff_exists.mp hc
  unfold findObj
  rw [hc, Option.bind_some, ha, Option.bind_some]
  simp only [hg, ht, Option.bind_some]
theorem XCls.some (c : XCls K C) : (clsIn K C).isSome = true := by
  obtain ⟨cd, hc, _⟩ := any_some c.hd
  rw [hc]; rfl
theorem x_class {Q : Option Value -> Shared -> Prop} (KX : K.In s.heap) (c : XCls K C) (I : InstAt s.heap x ox C od) (h : Q (some (.ref C)) { s with toks := s.toks + 1 }) : wpAny (model prog w) A (getAttr? (.ref x) "__class__") Q E s := by
  have hf : findObj K C od "__class__" = some (.bind (.builtin "getset_descriptor.__get__") (.builtin "object.__class__")) := find_data c.some c.cls c.clsG c.clsT
  unfold getAttr? getAttrBy?
  refine wpAny_bind (wpAny_mkText (wpAny_bind (wpAny_attempt (x_by (s := { s with toks := s.toks + 1 }) KX c I (x_entry (s := { s with toks := s.toks + 1 }) KX I hf ?_)))))
  exact wpAny_call (class_get (s := { s with toks := s.toks + 1 }) KX I c.obj ⟨rfl, wpAny_pure h⟩)
theorem kitx_exc (c : XCls K C) : KitX K (.ref x) (.ref C) (fun h => InstAt h x ox C od) where
  ty := fun _ _ _ I => I.type
  it := fun _ _ KX _ => by
    have hcD := c.some
    unfold clsIn at hcD
    split at hcD
    · rename_i c' d' cd' sl' ho
      intro A' Q' E' s' k q
      unfold isType loadHead
      exact wpAny_bind (wpAny_loadPart (k _ _ (KX _ _ ho)) (wpAny_pure q))
    · cases hcD
  ne := fun h tp dd its n sl KX htp => by
    have hcD := c.some
    unfold clsIn at hcD
    split at hcD
    · rename_i c' d' cd' sl' ho
      have y := KX _ _ ho
      refine Bool.eq_false_iff.mpr fun q => ?_
      have q := Value.ref.inj (beq_iff_eq.mp q)
      subst q
      rw [htp] at y
      cases y
    · cases hcD
  ca := fun KX I h => x_class KX c I h
end
inductive TyX (K : PySem.W.Frag) (H : Hp) : V -> Value -> Prop where
  | of {x : V} {t : Value} (h : TyOf K H x t) : TyX K H x t
  | exc {e C : Addr} {q : Bool} (h : H e = some (XO e C none q)) (c : XCls K C) : TyX K H (.ref e) (.ref C)
section
variable {X : Cx} {K : PySem.W.Frag}
theorem isinst_X {pins : List (Addr × Obj)} {σ : St} {H : Hp} {s : Shared} {A : Around} {E : Value -> Shared -> Prop} {Q : Value -> Shared -> Prop} {c : Value} {b : Bool} {x : V} {u t : Value} (I : Inv X pins σ H s) (rx : RelV x u) (ty : TyX X.K H x t) (e : PySem.W.kitOne X.K t c = some b) (h : ∀ tk, Q (.bool b) { s with toks := tk }) :
    wpAny (model X.prog X.w) A (call (.builtin "isinstance") [u, c]) Q E s := by
  cases ty with
  | of ty => exact isinst_ok I rx ty e h
  | @exc a C q he hc =>
    cases (show u = Value.ref a from rx)
    obtain ⟨⟨tb, oe, vs, y⟩, _⟩ := I.hok a _ he
    exact PySem.W.kia_one (kitx_exc (ox := oe) (od := none) hc) I.kIn ⟨y.at_, y.cls, by unfold notCls; rw [y.data], by rw [y.dict]; trivial⟩ e (fun z => nomatch z) h
theorem q_tryK {y n : Str} {np hpos pos : Pos} {body suite : List Stmt} {b₀ : Stmt} {Cy : Addr} {tb : (St -> XK) -> TS} {th : TS} {j : Nat} (h : X.K = K) (hst : X.stack = X.env :: X.outer /\ X.env.frame = some X.env.locals) (hN : X.N.Nodup) (hj : X.N[j]? = some n) (hk : X.env.scope.names.lookup n = some .local) (hm : X.mg y = some (.ref Cy)) (hb : ∀ pn W Eb, Lets (X.tryc pn W) Eb -> QSs (X.tryc pn W) body (tb Eb)) (hh : ∀ e, QSs (X.hand e fun _ _ => False) (b₀ :: suite) th)
    (hg : Gl X y := by rfl) (hd : (y == ("__debug__" : Str)) = false := by decide) : QS X (.Try body [.ExceptHandler (some (.Name y np)) (some n) (b₀ :: suite) hpos] [] [] pos) (tTry K (.ref Cy) tb j th) := by subst h; exact q_try hst hN hj hk hm hb hh hg hd
end
end L2
namespace L2
open PySem PySem.Spec PyProof.Rows
def excAny (K : PySem.W.Frag) (C : Addr) (bmB : List Value) (newId : String) : Bool := match K.lookup C with
  | some ⟨.type "type", _, .cls cd, sl⟩ => (match cd.mro, sl.toList with
    | .ref C' :: bm, [_, _, _, _, some (.builtin n), _] => C' == C && (n == newId && (!cd.hasDel && (PySem.W.tailIn K bmB bm && PySem.W.nsOkIn K cd.ns)))
    | _, _ => false)
  | _ => false
theorem excAny.obj {K : PySem.W.Frag} {h : Heap} {C : Addr} {bmB : List Value} {newId : String} (KX : K.In h) (q : excAny K C bmB newId = true) :
    ∃ bm N nm qn bs hdct sn sub ab col dd k0 k1 k2 k3 k5, h.get? C = some (excClassObj nm qn C N bs bm hdct sn sub ab col dd k0 k1 k2 k3 k5 newId) /\ OwnTail h bmB bm := by
  unfold excAny at q
  split at q
  · rename_i dd cd sl ho
    split at q
    · rename_i C' bm k0 k1 k2 k3 n k5 hm hs
      simp only [Bool.and_eq_true, beq_iff_eq, Bool.not_eq_true'] at q
      obtain ⟨e1, e2, hdel, ht, _⟩ := q
      subst e1 e2
      obtain ⟨nm, bs, mro, ns, qn, hd, sn, sub, ab, col, del⟩ := cd
      simp only at hm hdel
      subst hm hdel
      obtain ⟨l⟩ := sl
      simp only at hs
      subst hs
      exact ⟨bm, ns, nm, qn, bs, hd, sn, sub, ab, col, dd, k0, k1, k2, k3, k5, KX _ _ ho, PySem.W.tail_of_in KX ht⟩
    · cases q
  · cases q
section
variable {prog : Program} {w : World} {A : Around} {E : Value -> Shared -> Prop} {h : Heap} {g : Array GenState} {d : Drawn} {t : Nat} {os : OsState} {K : PySem.W.Frag}
variable {nm q : Str} {C N : Addr} {bs bm bmB : List Value} {hdct : Bool} {sn : List Str} {sub : List Value} {ab : Bool} {col : Option Bool} {dd : Option Addr} {k0 k1 k2 k3 k5 : Option Value} {B newId initId : String} {us : List Value} {fI : Addr}
theorem xi_type (F : ExcBaseFacts B newId initId bmB) (T : OwnTail h bmB bm) (KX : K.In h) {Q : Fin -> Shared -> Prop}
    (hC : h.get? C = some (excClassObj nm q C N bs bm hdct sn sub ab col dd k0 k1 k2 k3 k5 newId)) (hi : PySem.W.findIn K (.ref C) "__init__" = some (some (.ref fI))) (hf : PySem.W.typeIn K (.ref fI) = some (.type "function"))
    (hq : ∀ h' e, Heap.MadeExcOf h h' e (.ref C) us -> wpAny (model prog w) A (call (.ref fI) (.ref e :: us)) (fun r s' => r = .none /\ Q (.done (.ret (.ref e))) s') E ⟨h', g, d, t, os⟩) (hz : us.length <= sizeLine) :
    wpAny (model prog w) A (Builtin.«type.__call__» ⟨.ref C :: us, []⟩) Q E ⟨h, g, d, t, os⟩ := by
  repeat (first | with_reducible refine wpAny_madeBy_exc hC ?_ | with_reducible refine wpAny_loadPart_at hC ?_ | wp_step)
  refine codeAny_call_builtin_code (Code.quiet_builtin _ F.quiet) (wpAny_check_new_subT F T hC (codeAny_exc_new_subT F T hC ?_ hz))
  show wpAny _ _ _ _ _ _
  obtain ⟨h2, e2⟩ : ∃ h2, h2 = (h.push { cls := .type "tuple", data := .seq us.toArray }).push { cls := .ref C, data := .fields #[.ref h.objs.size, .none, .none, .none, .bool false, .none] } := ⟨_, rfl⟩
  have up : ∀ b o, h.get? b = some o -> h2.get? b = some o := fun b o z => by rw [e2]; exact Heap.get?_push_of_some _ (Heap.get?_push_of_some _ z)
  have new : h2.get? (h.objs.size + 1) = some { cls := .ref C, data := .fields #[.ref h.objs.size, .none, .none, .none, .bool false, .none] } := by rw [e2]; heap_get
  have old : h2.get? h.objs.size = some { cls := .type "tuple", data := .seq us.toArray } := by rw [e2]; exact Heap.get?_push_of_some _ (Heap.get?_push_at rfl rfl)
  have hC2 := up _ _ hC
  have K2 : K.In h2 := fun a o z => up a o (KX a o z)
  have LI := PySem.W.looks_findIn (M := model prog w) K2 hi
  have LT := PySem.W.looks_typeIn (M := model prog w) K2 hf
  have cc : (Value.ref C :: bm).contains (.ref C) = true := by simp
  rw [<- e2]
  unfold isInstance
  repeat (first | with_reducible refine wpAny_loadPart_at new ?_ | (with_reducible refine wpAny_isSubtype_exc hC2 ?_; rw [cc]) | wp_step)
  show wpAny _ _ (typeLookup (.ref C) _) _ _ _
  refine LI.at ?_
  refine wpAny_holding (wpAny_bind ?_)
  unfold bindSpecial
  refine wpAny_bind (LT.at ?_)
  rw [if_pos (by decide)]
  refine wpAny_pure (wpAny_bind (wpAny_mono (hq h2 (h.objs.size + 1) ⟨up, Heap.get?_none_of_le (Nat.le_succ _), h.objs.size, new, Heap.get?_none_of_le (Nat.le_refl _), old⟩) (fun r s' ⟨z1, z2⟩ => ?_) fun _ _ x => x))
  subst z1
  wp_walk
  exact z2
theorem xi_call (F : ExcBaseFacts B newId initId bmB) (T : OwnTail h bmB bm) (KX : K.In h) {Q : Value -> Shared -> Prop}
    (hC : h.get? C = some (excClassObj nm q C N bs bm hdct sn sub ab col dd k0 k1 k2 k3 k5 newId)) (hi : PySem.W.findIn K (.ref C) "__init__" = some (some (.ref fI))) (hf : PySem.W.typeIn K (.ref fI) = some (.type "function"))
    (hq : ∀ h' e, Heap.MadeExcOf h h' e (.ref C) us -> wpAny (model prog w) (A.under (.builtin "type.__call__" ⟨.ref C :: us, []⟩)) (call (.ref fI) (.ref e :: us)) (fun r s' => r = .none /\ Q (.ref e) s') E ⟨h', g, d, t, os⟩) (hz : us.length <= sizeLine) :
    wpAny (model prog w) A (call (.ref C) us) Q E ⟨h, g, d, t, os⟩ := by
  have f1 := tc_lookup
  have f2 := tc_bind (.ref C)
  have hT : (⟨h, g, d, t, os⟩ : Shared).TypeIs (.ref C) "type" := ⟨_, hC, rfl⟩
  refine wpAny_call (codeAny_of_tree ?_)
  show wpAny _ _ (callAny (.ref C) ⟨us, []⟩) _ _ _
  repeat (any_goals (first | with_reducible refine wpAny_loadPart_at hC ?_ | assumption | wp_step))
  refine ⟨rfl, codeAny_call_builtin_at (Code.quiet_builtin _ (by decide +kernel)) entry_typeCall (wpAny_check_type_call_sub hC (xi_type (hz := hz) F T KX hC hi hf fun h' e hm => ?_))⟩
  exact hq h' e hm
end
end L2
namespace L2
open PySem PySem.Spec PyProof.Rows
section
variable {prog : Program} {w : World} {A : Around} {E : Value -> Shared -> Prop} {s : Shared} {K : PySem.W.Frag}
theorem bi_run {C e : Addr} {od : Option Addr} {tb : Value} {oe : Obj} {vs : Array Value} {us : List Value} {Q : Value -> Shared -> Prop} (KX : K.In s.heap) (hC : excAny K C bmV "ValueError.__new__" = true) (x : XAt s.heap e C od tb oe vs) (hz : us.length <= sizeLine)
    (k : ∀ h', (∀ b o, b ≠ e -> s.heap.get? b = some o -> h'.get? b = some o) -> (∃ oe' vs', XAt h' e C od tb oe' vs') -> Q .none { s with heap := h' }) :
    wpAny (model prog w) A (call (.builtin "ValueError.__init__") (.ref e :: us)) Q E s := by
  have F := PySem.F.excBase_ValueError
  obtain ⟨bm, N, nm, qn, bs, hdct, sn, sub, ab, col, dd, k0, k1, k2, k3, k5, hC0, T⟩ := excAny.obj KX hC
  obtain ⟨hh, g, d, tk, os⟩ := s
  refine wpAny_call (codeAny_call_builtin F.init.plain F.initEntry (wpAny_check_init_subT F T hC0 x.at_ x.cls ?_))
  obtain ⟨v0, hv0⟩ : ∃ v0, vs[0]? = some v0 := ⟨vs[0]'(by rw [x.size]; decide), by rw [Array.getElem?_eq_getElem]⟩
  have ne : e ≠ hh.objs.size := Nat.ne_of_lt (Heap.lt_size x.at_)
  have x1 : (hh.push { cls := .type "tuple", data := .seq us.toArray }).get? e = some oe := Heap.get?_push_of_some _ x.at_
  unfold Builtin.«BaseException.__init__» Builtin.BaseException.bexcPut
  repeat (any_goals (first | assumption | with_reducible refine wpAny_field x1 x.data hv0 ?_ | with_reducible refine wpAny_setField x1 x.data (by rw [x.size]; decide) ?_ | wp_step))
  have self := Heap.get?_update_self (Obj.mapFields (·.setIfInBounds 0 (.ref hh.objs.size))) x1 (by rw [mapF_eq x.data]; rfl)
  have fin : Q .none ⟨(hh.push { cls := .type "tuple", data := .seq us.toArray }).update e (Obj.mapFields (·.setIfInBounds 0 (.ref hh.objs.size))), g, d, tk, os⟩ :=
    k _ (fun b o nb z => (Heap.get?_update_other _ _ (Ne.symm nb)).trans (Heap.get?_push_of_some _ z)) ⟨_, vs.setIfInBounds 0 (.ref hh.objs.size), self, by rw [mapF_eq x.data]; exact x.cls, by rw [mapF_eq x.data]; exact x.dict, by rw [mapF_eq x.data], by simp [x.size], by rw [Array.getElem?_setIfInBounds, if_neg (by decide)]; exact x.tb1, fun z => by rw [Array.getElem?_setIfInBounds, if_neg (by decide)]; exact x.cx z⟩
  split
  · repeat (any_goals (first | assumption | wp_step))
  · repeat (any_goals (first | assumption | wp_step))
end
structure MkE (K : PySem.W.Frag) (C f : Addr) : Prop where
  x : excAny K C bmV "ValueError.__new__" = true
  init : PySem.W.findIn K (.ref C) "__init__" = some (some (.ref f))
  fn : PySem.W.isFn K (.ref f) = true
  kp : PySem.W.keepIn K (.ref C) = true
structure HasE (P : Program) (w : World) (K : PySem.W.Frag) (mg : Str -> Option Value) (base : Heap) (x : Str) (C : Addr) (k : Nat) (f : Addr) (fd : FuncData) (ps : List Str) (sp : Sp) : Prop where
  g : mg x = some (.ref C)
  mkx : MkE K C f
  b : Binds K fd ps []
  ok : FnOk P w K mg base CX0 k f fd ps sp
end L2
namespace L2
open PySem PySem.Spec PyProof.Rows
theorem upd_id {H : Hp} {e : Addr} {o : HO} (h : H e = some o) : upd H e o = H := funext fun b => by
  by_cases q : b = e
  · subst q; rw [upd_same, h]
  · rw [upd_ne q]
theorem tail_passes {h : Heap} {bm : List Value} (self : Value) (T : OwnTail h bmV bm) : refuseLoop self "__setattr__" bm = pure () := by
  induction T with
  | base => exact PySem.F.store_ValueError.passes self
  | own _ _ _ _ ih => rw [refuseLoop_ref]; exact ih
section
variable {prog : Program} {w : World} {A : Around} {E : Value -> Shared -> Prop} {h : Heap} {g : Array GenState} {d : Drawn} {t : Nat} {os : OsState} {K : PySem.W.Frag} {C e : Addr} {od : Option Addr} {tb v : Value} {oe : Obj} {vs : Array Value} {name : Str} {tk : Tok}
theorem xs_entry {Q : Fin -> Shared -> Prop} (KX : K.In h) (hC : excAny K C bmV "ValueError.__new__" = true) (c : XCls K C) (na : PySem.W.findIn K (.ref C) name = some none) (x : XAt h e C od tb oe vs)
    (k0 : od = none -> ∀ h' d0 oe' tk', h.get? d0 = none -> (∀ b o, b ≠ e -> h.get? b = some o -> h'.get? b = some o) -> XAt h' e C (some d0) tb oe' vs -> h'.Ns1 d0 (fun y => if y = name then some v else none) -> Q (.done (.ret .none)) ⟨h', g, d, tk', os⟩)
    (k1 : ∀ d0, od = some d0 -> ∃ mA ns, h.Ns1 d0 mA /\ Within mA ns /\ ns.length + 1 <= 1000 /\ ∀ h' tk', (∀ b o, b ≠ d0 -> h.get? b = some o -> h'.get? b = some o) -> h'.Ns1 d0 (fun y => if y = name then some v else mA y) -> Q (.done (.ret .none)) ⟨h', g, d, tk', os⟩) :
    wpAny (model prog w) A (Builtin.«object.__setattr__» ⟨[.ref e, .str name tk, v], []⟩) Q E ⟨h, g, d, t, os⟩ := by
  obtain ⟨bm, N, nm, qn, bs, hdct, sn, sub, ab, col, dd, s0, s1, s2, s3, s5, hC0, T⟩ := excAny.obj KX hC
  have pas : refuseLoop (.ref e) "__setattr__" (.ref C :: bm) = pure () := by rw [refuseLoop_ref]; exact tail_passes _ T
  have LN := PySem.W.looks_findIn (M := model prog w) KX na
  have hdc : hdct = true := by
    obtain ⟨cd, hc, q⟩ := PySem.W.any_some c.hd
    have L := PySem.W.looks_clsIn (M := model prog w) KX hc
    unfold PySem.W.clsIn at hc
    split at hc
    · rename_i ho
      have y := KX _ _ ho
      rw [hC0] at y
      cases y
      cases hc
      exact q
    · cases hc
  subst hdc
  unfold Builtin.«object.__setattr__»
  repeat (first | rw [refuse_eq] | rw [pas] | (with_reducible refine wpAny_loadPart_at x.at_ ?_; rw [x.cls]) | with_reducible refine wpAny_mroOf_exc hC0 ?_ | with_reducible refine LN.at ?_ | wp_step)
  rw [x.dict]
  cases od with
  | none =>
    dsimp only
    rw [if_neg (by simp [typeHasDict]), x.data]
    have x1 : (h.push { cls := .type "dict", data := .dict #[] }).get? e = some oe := Heap.get?_push_of_some _ x.at_
    have ne : e ≠ h.objs.size := Nat.ne_of_lt (Heap.lt_size x.at_)
    refine wpAny_bind (wpAny_alloc' (wpAny_bind (wpAny_update' x1 (wpAny_pure ?_))))
    obtain ⟨h1, e1⟩ : ∃ h1, h1 = (h.push { cls := .type "dict", data := .dict #[] }).update e fun o => { cls := o.cls, dict := some h.objs.size, data := o.data, slots := o.slots } := ⟨_, rfl⟩
    have gd : h1.get? h.objs.size = some { cls := .type "dict", data := .dict #[] } := by rw [e1]; exact (Heap.get?_update_ne _ _ _ _ ne.symm).trans (Heap.get?_push_at rfl rfl)
    have ge : h1.get? e = some { cls := oe.cls, dict := some h.objs.size, data := oe.data, slots := oe.slots } := by
      rw [e1]
      refine Heap.get?_update_self _ x1 ?_
      obtain ⟨oc, odd, oda, osl⟩ := oe
      have q := x.data
      simp only at q
      subst q
      rfl
    have nd : h1.Ns h.objs.size (fun _ => none) := ⟨_, #[], _, gd, rfl, fun e he => absurd he (by simp), fun _ => rfl⟩
    rw [<- e1]
    show wpAny _ _ (Builtin.ObjectAttr.storeInDict h.objs.size (.str name tk) name v) _ _ _
    unfold Builtin.ObjectAttr.storeInDict Builtin.ObjectAttr.newKeyGuard
    refine wpAny_bind (wpAny_pure (wpAny_bind (wpAny_nsSet1 (Heap.Ns1.of_empty nd) fun h' hn sb => ?_)))
    obtain ⟨oD, esD, epD, hoD, hdD, hcD⟩ := hn.count (Within.cons name v Within.nil)
    refine wpAny_bind (wpAny_lookBehind hoD (by rw [hdD]; exact pastItsLine_dict (Nat.le_trans hcD (by rw [List.length_cons, List.length_nil, sizeLine_eq]; omega))) ?_)
    wp_walk
    exact k0 rfl h' h.objs.size _ _ (Heap.get?_none_of_le (Nat.le_refl _)) (fun b o nb z => (sb.2 b (Nat.ne_of_lt (Heap.lt_size z))).trans (by rw [e1]; exact (Heap.get?_update_ne _ _ _ _ nb).trans (Heap.get?_push_of_some _ z)))
      ⟨(sb.2 e ne).trans ge, x.cls, rfl, x.data, x.size, x.tb1, x.cx⟩ hn
  | some d0 =>
    obtain ⟨mA, ns, hn0, wi, hz, k⟩ := k1 d0 rfl
    dsimp only
    refine wpAny_pure ?_
    show wpAny _ _ (Builtin.ObjectAttr.storeInDict d0 (.str name tk) name v) _ _ _
    unfold Builtin.ObjectAttr.storeInDict Builtin.ObjectAttr.newKeyGuard
    refine wpAny_bind (wpAny_pure (wpAny_bind (wpAny_nsSet1 hn0 fun h' hn sb => ?_)))
    obtain ⟨oD, esD, epD, hoD, hdD, hcD⟩ := hn.count (Within.cons name v wi)
    refine wpAny_bind (wpAny_lookBehind hoD (by rw [hdD]; exact pastItsLine_dict (Nat.le_trans hcD (by rw [List.length_cons, sizeLine_eq]; omega))) ?_)
    wp_walk
    exact k h' _ (fun b o nb z => (sb.2 b nb).trans z) hn
end
end L2
namespace L2
open PySem PySem.Spec PyProof.Rows
section
variable {X : Cx} {pins : List (Addr × Obj)} {σ : St} {H : Hp} {s : Shared} {h' : Heap} {e C d0 : Addr} {fs : List (Str × V)} {f : Str}
theorem Inv.none_of {a : Addr} (I : Inv X pins σ H s) (h : s.heap.get? a = none) : H a = none := by
  cases q : H a with
  | none => rfl
  | some u => obtain ⟨z, y⟩ := ObjOk.there (I.hok a u q); rw [h] at y; cases y
theorem Inv.xdict {oe : Obj} {vs : Array Value} {t' : Nat} (I : Inv X pins σ H s) (hx : H e = some (XN e C none)) (he : s.heap.get? d0 = none) (kp : ∀ b o, b ≠ e -> s.heap.get? b = some o -> h'.get? b = some o) (xa : XAt h' e C (some d0) .none oe vs)
    (nd : ∃ mA, h'.Ns1 d0 mA /\ ∀ f, RelO (fs.lookup f) (mA f)) : Inv X pins σ (upd (upd H d0 (.xd fs)) e (XN e C (some d0))) { s with heap := h', toks := t' } := by
  have hn := I.none_of he
  have hne : d0 ≠ e := fun z => by rw [z, hx] at hn; cases hn
  have ne0 : ∀ b u, s.heap.get? b = some u -> b ≠ d0 := fun b u q z => by rw [z, he] at q; cases q
  have nee : ∀ b, H b = none -> b ≠ e := fun b q z => by rw [z, hx] at q; cases q
  have two : ∀ b o, b ≠ e -> H b = some o -> upd (upd H d0 (.xd fs)) e (XN e C (some d0)) b = some o := fun b o n q => by rw [upd_ne n, upd_ne (ne_of_none q hn)]; exact q
  refine I.un ⟨fun b u q n _ _ => kp b u (nee b n) q, fun b u q n _ _ => ⟨u.slots, kp b u (nee b n) q⟩, fun b u q n _ => by rw [upd_ne (nee b n), upd_ne (ne0 b u q)]; exact n, fun b u q _ => ?_, fun b xs q => two b _ (fun z => by rw [z, hx] at q; cases q) q, fun b u xs q => two b _ (fun z => by rw [z, hx] at q; cases q) q, fun b ps q => ⟨#[], ?_⟩⟩ fun b u q => ?_
  · by_cases z : b = e
    · subst z; exact ⟨_, xa.at_⟩
    · exact ⟨u, kp b u z q⟩
  · rw [two b _ (fun z => by rw [z, hx] at q; cases q) q]; simp
  · by_cases hb : b = e
    · subst hb; rw [upd_same] at q; cases q; exact xn_ok xa
    · rw [upd_ne hb] at q
      by_cases hd : b = d0
      · subst hd; rw [upd_same] at q; cases q; exact nd
      · rw [upd_ne hd] at q
        refine (I.hok b u q).stay (fun c v hc z => ?_) (fun c z => two c _ (fun y => by rw [y, hx] at z; cases z) z) fun c xs z => two c _ (fun y => by rw [y, hx] at z; cases z) z
        rcases hc with rfl | hc
        · exact kp c v hb z
        · exact kp c v (fun y => by rw [y, hx] at hc; cases hc) z
theorem Inv.xput {gs : List (Str × V)} {t' : Nat} (I : Inv X pins σ H s) (hd : H d0 = some (.xd fs)) (kp : ∀ b o, b ≠ d0 -> s.heap.get? b = some o -> h'.get? b = some o)
    (nd : ∃ mA, h'.Ns1 d0 mA /\ ∀ f, RelO (gs.lookup f) (mA f)) : Inv X pins σ (upd H d0 (.xd gs)) { s with heap := h', toks := t' } := by
  have nee : ∀ b, H b = none -> b ≠ d0 := fun b q z => by rw [z, hd] at q; cases q
  have one : ∀ b o, b ≠ d0 -> H b = some o -> upd H d0 (.xd gs) b = some o := fun b o n q => by rw [upd_ne n]; exact q
  refine I.un ⟨fun b u q n _ _ => kp b u (nee b n) q, fun b u q n _ _ => ⟨u.slots, kp b u (nee b n) q⟩, fun b u q n _ => by rw [upd_ne (nee b n)]; exact n, fun b u q _ => ?_, fun b xs q => one b _ (fun z => by rw [z, hd] at q; cases q) q, fun b u xs q => one b _ (fun z => by rw [z, hd] at q; cases q) q, fun b ps q => ⟨#[], ?_⟩⟩ fun b u q => ?_
  · by_cases z : b = d0
    · subst z
      obtain ⟨_, ⟨o, _, _, y, _⟩, _⟩ := nd
      exact ⟨o, y⟩
    · exact ⟨u, kp b u z q⟩
  · rw [one b _ (fun z => by rw [z, hd] at q; cases q) q]; simp
  · by_cases hb : b = d0
    · subst hb; rw [upd_same] at q; cases q; exact nd
    · rw [upd_ne hb] at q
      refine (I.hok b u q).stay (fun c v hc z => ?_) (fun c z => one c _ (fun y => by rw [y, hd] at z; cases z) z) fun c xs z => one c _ (fun y => by rw [y, hd] at z; cases z) z
      rcases hc with rfl | hc
      · exact kp c v hb z
      · exact kp c v (fun y => by rw [y, hd] at hc; cases hc) z
theorem within_xd {mA : Str -> Option Value} (r : ∀ f, RelO (fs.lookup f) (mA f)) : Within mA (fs.map (·.1)) := fun y hy => by
  have z := r y
  cases q : fs.lookup y with
  | none =>
    rw [q] at z
    cases p : mA y with
    | none => exact absurd p hy
    | some u => rw [p] at z; exact z.elim
  | some v =>
    clear z hy r
    induction fs with
    | nil => cases q
    | cons a l ih =>
      obtain ⟨a, b⟩ := a
      rw [List.lookup_cons] at q
      by_cases c : (y == a) = true
      · rw [beq_iff_eq.mp c]; exact List.mem_cons_self
      · have c : (y == a) = false := by simpa using c
        rw [c] at q
        exact List.mem_cons_of_mem _ (ih q)
structure StE (K : PySem.W.Frag) (C : Addr) : Prop where
  x : excAny K C bmV "ValueError.__new__" = true
  c : XCls K C
  sa : PySem.W.findIn K (.ref C) "__setattr__" = some (some (.builtin "object.__setattr__"))
theorem setx_ok {A : Around} {E : Value -> Shared -> Prop} {od : Option Addr} {y : V} {u : Value} {Q : Unit -> Shared -> Prop} (I : Inv X pins σ H s) (hx : H e = some (XN e C od)) (S : StE X.K C) (na : NoAttr X.K C f) (ry : RelV y u)
    (k0 : od = none -> ∀ d0, H d0 = none -> d0 ≠ e -> ∀ s', Inv X pins σ (upd (upd H d0 (.xd [(f, y)])) e (XN e C (some d0))) s' -> Q () s')
    (k1 : ∀ d0, od = some d0 -> ∃ fs, H d0 = some (.xd fs) /\ fs.length < 999 /\ ∀ s', Inv X pins σ (upd H d0 (.xd (putF f y fs))) s' -> Q () s') : wpAny (model X.prog X.w) A (setAttr (.ref e) f u) Q E s := by
  obtain ⟨⟨oe, vs, xa⟩, _⟩ := I.hok e _ hx
  have SF := PySem.F.store_ValueError
  obtain ⟨odo, IA⟩ : ∃ odo, PySem.W.InstAt s.heap e oe C odo := by
    cases od with
    | none => exact ⟨none, xa.at_, xa.cls, by unfold PySem.W.notCls; rw [xa.data], by rw [xa.dict]; trivial⟩
    | some d0 =>
      obtain ⟨fs, hd, _⟩ := k1 d0 rfl
      obtain ⟨mA, ⟨o, es, ep, z, _⟩, _⟩ := (show ∃ mA, s.heap.Ns1 d0 mA /\ ∀ f, RelO (fs.lookup f) (mA f) from I.hok d0 _ hd)
      exact ⟨some o, xa.at_, xa.cls, by unfold PySem.W.notCls; rw [xa.data], by rw [xa.dict]; exact z⟩
  have LI : PySem.W.Looks (model X.prog X.w) s.heap (isInstance (.ref e) (.type "object")) true := IA.type.andThen (PySem.W.looks_mroIn I.kIn S.c.obj)
  have ar : argsOk "object.__setattr__" ⟨[.ref e, .str f s.toks, u], []⟩ := SF.args _ _ _
  refine PySem.W.set_plain I.kIn IA S.sa (codeAny_call_builtin SF.slot.plain SF.entry ?_)
  refine @PySem.W.check_slot (model X.prog X.w) _ _ { s with toks := s.toks + 1 } "object.__setattr__" "object" "__setattr__" (.ref e) [.str f s.toks, u] [] _ SF.kind SF.split LI ar ?_
  refine xs_entry (h := s.heap) (g := s.gens) (d := s.drawn) (t := s.toks + 1) (os := s.os) I.kIn S.x S.c na xa (fun z h' d1 oe' tk' he kp xa' hn => ?_) (fun d1 z => ?_)
  · subst z
    have hn0 := I.none_of he
    refine k0 rfl d1 hn0 (fun q => by rw [q, hx] at hn0; cases hn0) _ (I.xdict (t' := tk') hx he kp xa' ⟨_, hn, fun g => ?_⟩)
    by_cases q : g = f
    · subst q
      rw [if_pos rfl, List.lookup_cons, beq_self_eq_true]; exact ry
    · rw [if_neg q, List.lookup_cons, show (g == f) = false by simpa using q]; trivial
  · obtain ⟨fs, hd, hz, k⟩ := k1 d1 z
    obtain ⟨mA, hn0, r⟩ := (show ∃ mA, s.heap.Ns1 d1 mA /\ ∀ f, RelO (fs.lookup f) (mA f) from I.hok d1 _ hd)
    refine ⟨mA, fs.map (·.1), hn0, within_xd r, by rw [List.length_map]; omega, fun h' tk' kp hn => k _ ?_⟩
    refine I.xput (t' := tk') hd kp ⟨_, hn, fun g => ?_⟩
    rw [lookup_putF]
    by_cases q : g = f
    · rw [if_pos q, if_pos q]; exact ry
    · rw [if_neg q, if_neg q]; exact r g
end
def sXFld (K : PySem.W.Frag) (ta tv : TE) (f : Str) : TS := fun D σ H => tv σ H fun y H1 => ta σ H1 fun x H2 => ∃ e C od, x = .ref e /\ H2 e = some (XN e C od) /\ StE K C /\ NoAttr K C f /\
  (od = none -> ∀ d0, H2 d0 = none -> d0 ≠ e -> D.nx σ (upd (upd H2 d0 (.xd [(f, y)])) e (XN e C (some d0)))) /\ (∀ d0, od = some d0 -> ∃ fs, H2 d0 = some (.xd fs) /\ fs.length < 999 /\ D.nx σ (upd H2 d0 (.xd (putF f y fs))))
theorem handed_rel {v : V} {u : Value} (r : RelV v u) : PySem.W.handedIn u = true := by
  cases v <;> first | (obtain rfl := r; rfl) | (obtain ⟨_, rfl⟩ := r; rfl)
structure BaseI (K : PySem.W.Frag) (Y : Addr) : Prop where
  sp : PySem.W.specialIn K (.ref Y) "__getattribute__" = some (some (.builtin "type.__getattribute__"))
  rd : PySem.W.readsIn K Y (.type "type") = true
  fc : PySem.W.findCls K (.ref Y) (.type "type") "__init__" = some (.val (.builtin "ValueError.__init__"))
def tBaseI (K : PySem.W.Frag) (t : TA) : TE := fun σ H Q => t σ H fun vs H1 => match vs with
  | .ref e :: rest => rest.length <= 1000 /\ ∃ C od, H1 e = some (XN e C od) /\ excAny K C bmV "ValueError.__new__" = true /\ Q .non H1
  | _ => False
def tXFld (K : PySem.W.Frag) (ta : TE) (f : Str) : TE := fun σ H Q => ta σ H fun x H1 => ∃ e C d0 fs v, x = .ref e /\ (H1 e = some (XN e C (some d0)) \/ ∃ q, H1 e = some (XO e C (some d0) q)) /\ H1 d0 = some (.xd fs) /\ XCls K C /\ NoAttr K C f /\ fs.lookup f = some v /\ Q v H1
section
variable {X : Cx} {K : PySem.W.Frag} {Y : Addr} {y f : Str} {np apos pos pos' : Pos} {a o value : Expr} {es : List Expr} {t : TA} {ta tv : TE}
theorem q_xset (h : X.K = K) (ha : QE X o ta) (hv : QE X value tv) (hs : swapsWith value (some (.Attribute o f pos')) pos.line X.env = pure false := by rfl) : QS X (.Assign [.Attribute o f pos'] value pos) (sXFld K ta tv f) := ⟨by
  subst h
  intro pins s σ H D I h
  refine plainObj_wpAny_Assign_Attribute (thn (hv.h pins s σ H _ I h) fun u s1 ⟨y, H1, I1, ry, q⟩ => thn (ha.h pins s1 σ H1 _ I1 q) fun ov s2 ⟨x, H2, I2, rx, e, C, od, ex, hx, S, na, k0, k1⟩ => ?_) hs
  subst ex
  obtain rfl : ov = Value.ref e := rx
  exact setx_ok I2 hx S na ry (fun z d0 h1 h2 s3 I3 => ⟨σ, _, I3, k0 z d0 h1 h2⟩) fun d0 z => let ⟨fs, h1, h2, k⟩ := k1 d0 z; ⟨fs, h1, h2, fun s3 I3 => ⟨σ, _, I3, k⟩⟩⟩
theorem q_baseI {pl : Sem Bool} (h : X.K = K) (B : BaseI K Y) (hm : X.mg y = some (.ref Y)) (ha : QA X (a :: es) t) (hg : Gl X y := by rfl) (hd : (y == ("__debug__" : Str)) = false := by decide) (hn : noStar (a :: es) = true := by rfl)
    (ht : eval (.Call (.Attribute (.Name y np) "__init__" apos) (a :: es) [] pos) X.env = (do
      let ov <- eval (.Name y np) X.env
      standAt apos.atName
      let (f, first) <- holding [ov] (getMethod ov "__init__" pl)
      callWith pos f first (backTo pos (starEach (a :: es) X.env)) (backToKw pos (keywordEach [] X.env))) := by rfl) :
    QE X (.Call (.Attribute (.Name y np) "__init__" apos) (a :: es) [] pos) (tBaseI K t) := ⟨by
  subst h
  intro pins s σ H Q I h
  have ho : PE X (.Name y np) (tC (.ref Y)) := (q_pe_glob (v := .ref Y) hg hm rfl hd).h
  refine PySem.W.methodCall_KW (pl := pl) (thn (ho pins s σ H (fun v H' => v = .ref Y /\ tBaseI X.K t σ H' Q) I ⟨rfl, h⟩) fun u s1 ⟨x, H1, I1, rx, ex, q⟩ => ?_) ht
  subst ex
  obtain rfl : u = Value.ref Y := rx
  refine PySem.W.method_cls I1.kIn B.sp (PySem.W.cls_value (s := s1) I1.kIn B.rd B.fc rfl ?_)
  have I2 := I1.tok (s1.toks + 1)
  have z := ha.h pos pins { s1 with toks := s1.toks + 1 } σ H1 _ I2 q
  rw [star_cons (noStar_head hn).1] at z ⊢
  refine Calls.callWith_builtin (first := []) (noStar_any (noStar_head hn).2) (Calls.evalArgs_plain (thn z fun us s2 ⟨vs, H2, I3, r, q2⟩ => ?_))
  cases vs with
  | nil => exact q2.elim
  | cons v0 rest =>
    cases v0 with
    | ref e =>
      obtain ⟨hz, C, od, hx, hc, q2⟩ := (show rest.length <= 1000 /\ ∃ C od, H2 e = some (XN e C od) /\ excAny X.K C bmV "ValueError.__new__" = true /\ Q .non H2 from q2)
      cases r with
      | cons r1 r2 =>
        obtain rfl := (show _ = Value.ref e from r1)
        obtain ⟨⟨oe, vs', xa⟩, _⟩ := I3.hok e _ hx
        refine bi_run I3.kIn hc xa (szl (by rw [<- Vals.length r2]; omega)) fun h' kp ⟨oe', vs2, xa'⟩ => ?_
        have I4 := Inv.write (t' := s2.toks) (x := e) (e := e) (h' := h') (o := XN e C od) I3 (by rw [hx]; trivial) (.inl rfl) kp ⟨_, xa'.at_⟩ (xn_ok xa')
        rw [upd_id hx] at I4
        exact ⟨.non, H2, I4, rfl, q2⟩
    | _ => exact q2.elim⟩
theorem q_xfld (h : X.K = K) (he : QE X o ta) (hb : attributeBase o f X.env (eval o X.env) = eval o X.env := by rfl) : QE X (.Attribute o f pos) (tXFld K ta f) := ⟨by
  subst h
  intro pins s σ H Q I h
  refine attr_of hb (thn (he.h pins s σ H _ I h) fun u s1 ⟨x, H1, I1, rx, e, C, d0, fs, v, ex, hx, hd, c, n, l, q⟩ => ?_)
  subst ex
  obtain rfl : u = Value.ref e := rx
  obtain ⟨tb, oe, vs, qq, xa⟩ : ∃ tb oe vs q, XAt s1.heap e C (some d0) tb oe vs q := by
    rcases hx with hx | ⟨q, hx⟩
    · obtain ⟨⟨oe, vs, xa⟩, _⟩ := I1.hok e _ hx; exact ⟨.none, oe, vs, false, xa⟩
    · obtain ⟨⟨tb, oe, vs, xa⟩, _⟩ := I1.hok e _ hx; exact ⟨tb, oe, vs, q, xa⟩
  obtain ⟨mA, hn, r⟩ := (show ∃ mA, s1.heap.Ns1 d0 mA /\ ∀ f, RelO (fs.lookup f) (mA f) from I1.hok d0 _ hd)
  obtain ⟨o, ho, hl⟩ := lookIn_ns hn
  obtain ⟨u, hu, ru⟩ : ∃ u, mA f = some u /\ RelV v u := by
    have z := r f
    rw [l] at z
    cases q : mA f with
    | none => rw [q] at z; exact z.elim
    | some u => rw [q] at z; exact ⟨u, rfl, z⟩
  have IA : PySem.W.InstAt s1.heap e oe C (some o) := ⟨xa.at_, xa.cls, by unfold PySem.W.notCls; rw [xa.data], by rw [xa.dict]; exact ho⟩
  have hf : PySem.W.findObj X.K C (some o) f = some (.value u) := by
    obtain ⟨cd, hc, q⟩ := PySem.W.any_some c.hd
    unfold PySem.W.findObj PySem.W.ownOf
    rw [hc, Option.bind_some, show PySem.W.findIn X.K (.ref C) f = some none from n, Option.bind_some]
    simp [q, hl, hu]
  unfold getAttr
  refine wpAny_bind (wpAny_mkText (x_by (s := { s1 with toks := s1.toks + 1 }) I1.kIn c IA (x_entryV (s := { s1 with toks := s1.toks + 1 }) I1.kIn IA hf ⟨handed_rel ru, ⟨v, H1, I1.tok _, ru, q⟩⟩)))⟩
end
end L2
namespace L2
open PySem PySem.Spec PyProof.Rows
inductive TyY (K : PySem.W.Frag) (H : Hp) : V -> Value -> Prop where
  | of {x : V} {t : Value} (h : TyX K H x t) : TyY K H x t
  | exd {e C d0 : Addr} {fs : List (Str × V)} (h : H e = some (XN e C (some d0)) \/ ∃ q, H e = some (XO e C (some d0) q)) (hd : H d0 = some (.xd fs)) (c : XCls K C) : TyY K H (.ref e) (.ref C)
def gInY (K : PySem.W.Frag) : List V -> Hp -> VK -> Prop := fun xs H Q => match xs with
  | [x, .ty T] => ∃ t b, TyY K H x t /\ PySem.W.kitOne K t (.type T) = some b /\ Q (.bl b) H
  | [x, .ref C] => ∃ t b, TyY K H x t /\ PySem.W.kitOne K t (.ref C) = some b /\ Q (.bl b) H
  | _ => False
section
variable {X : Cx} {K : PySem.W.Frag}
theorem isinst_Y {pins : List (Addr × Obj)} {σ : St} {H : Hp} {s : Shared} {A : Around} {E : Value -> Shared -> Prop} {Q : Value -> Shared -> Prop} {c : Value} {b : Bool} {x : V} {u t : Value} (I : Inv X pins σ H s) (rx : RelV x u) (ty : TyY X.K H x t) (e : PySem.W.kitOne X.K t c = some b) (h : ∀ tk, Q (.bool b) { s with toks := tk }) :
    wpAny (model X.prog X.w) A (call (.builtin "isinstance") [u, c]) Q E s := by
  cases ty with
  | of ty => exact isinst_X I rx ty e h
  | @exd a C d0 fs he hd hc =>
    cases (show u = Value.ref a from rx)
    obtain ⟨tb, oe, vs, qq, xa⟩ : ∃ tb oe vs q, XAt s.heap a C (some d0) tb oe vs q := by
      rcases he with hx | ⟨q, hx⟩
      · obtain ⟨⟨oe, vs, xa⟩, _⟩ := I.hok a _ hx; exact ⟨.none, oe, vs, false, xa⟩
      · obtain ⟨⟨tb, oe, vs, xa⟩, _⟩ := I.hok a _ hx; exact ⟨tb, oe, vs, q, xa⟩
    obtain ⟨mA, hn, r⟩ := (show ∃ mA, s.heap.Ns1 d0 mA /\ ∀ f, RelO (fs.lookup f) (mA f) from I.hok d0 _ hd)
    obtain ⟨o, ho, hl⟩ := lookIn_ns hn
    exact PySem.W.kia_one (kitx_exc (ox := oe) (od := some o) hc) I.kIn ⟨xa.at_, xa.cls, by unfold PySem.W.notCls; rw [xa.data], by rw [xa.dict]; exact ho⟩ e (fun z => nomatch z) h
theorem c_inY : CallR X (.builtin "isinstance") (gInY X.K) := by
  intro pins s σ H xs us Q I r q
  unfold gInY at q
  split at q
  · obtain ⟨t, b, h1, h2, q⟩ := q
    obtain ⟨u, w', rfl, r1, r2⟩ := vals2 r
    cases r2
    exact isinst_Y I r1 h1 h2 fun tk => ⟨.bl b, H, I.tok _, rfl, q⟩
  · obtain ⟨t, b, h1, h2, q⟩ := q
    obtain ⟨u, w', rfl, r1, r2⟩ := vals2 r
    cases r2
    exact isinst_Y I r1 h1 h2 fun tk => ⟨.bl b, H, I.tok _, rfl, q⟩
  · exact q.elim
theorem c_inYK (h : X.K = K) : CallR X (.builtin "isinstance") (gInY K) := by subst h; exact c_inY
end
end L2
namespace L2
open PySem PySem.Spec PyProof.Rows
section
variable {M : Model} {A : Around} {E : Value -> Shared -> Prop} {env : Env}
theorem raise_any {s : Shared} {x : Sem Value} {Q : Flow -> Shared -> Prop} (hh : A.handled = none)
    (h : wpAny M A x (fun v s₁ => ∃ e C od oe vs nm q N bs bm hdct sn sub ab col dd k0 k1 k2 k3 k5 newId, v = .ref e /\ XAt s₁.heap e C od .none oe vs /\
      s₁.heap.get? C = some (excClassObj nm q C N bs bm hdct sn sub ab col dd k0 k1 k2 k3 k5 newId) /\ bm.contains (.type "BaseException") = true /\ E (.ref e) s₁) E s) :
    wpAny M A (raiseStmt env (some x) none) Q E s := by
  unfold raiseStmt
  refine wpAny_bind (wpAny_mono h (fun v s₁ h₁ => ?_) fun _ _ x => x)
  obtain ⟨e, C, od, oe, vs, nm, q, N, bs, bm, hdct, sn, sub, ab, col, dd, k0, k1, k2, k3, k5, newId, rfl, xa, hC, hbase, hE⟩ := h₁
  have hcB : (Value.ref C :: bm).contains (.type "BaseException") = true := by rw [List.contains_cons, hbase, Bool.or_true]
  obtain ⟨hp, g, d, tk, os⟩ := s₁
  obtain ⟨oc, odd, oda, osl⟩ := oe
  have he := xa.at_
  have hc := xa.cls
  have hd := xa.data
  simp only at he hc hd
  subst hc hd
  repeat (first | with_reducible refine wpAny_field he rfl xa.tb1 ?_ | with_reducible refine wpAny_loadPart_at he ?_ | with_reducible refine wpAny_loadPart_at hC ?_ | (with_reducible refine wpAny_isSubtype_exc hC ?_; rw [hcB]) | wp_step)
  exact wpAny_raiseNew_none hh hE
end
def RaisedAs (C : Addr) (Es : St -> XK) (σ : St) : VK := fun x H => ∃ e od, x = .ref e /\ H e = some (XN e C od) /\ Es σ (.ref C) (some e) (upd H e (XO e C od))
def tRaiseE (C : Addr) (sp : Sp) (Es : St -> XK) (t : TA) : TS := fun _ σ H => t σ H fun vs H1 => vs.length <= 1000 /\ ∀ e, H1 e = none -> sp (.ref e :: vs) (upd H1 e (XN e C none)) (fun v H2 => v = .non /\ RaisedAs C Es σ (.ref e) H2) E0
section
variable {X : Cx} {k j : Nat} {f C : Addr} {fd : FuncData} {ps : List Str} {sp : Sp} {x m : Str} {np cpos pos apos : Pos} {a e o : Expr} {es : List Expr} {ta : TE} {t : TA} {Es : St -> XK} {dvs : List V}
theorem run_makeE2 {pins : List (Addr × Obj)} {σ : St} {H : Hp} {s : Shared} {Q : VK} {us : List Value} {vs : List V} (M : MkE X.K C f) (F : FnOk X.prog X.w X.K X.mg X.base CX0 k f fd ps sp) (hr : Room (k + 1) X.A) (hb : Binds X.K fd ps []) (I : Inv X pins σ H s) (r : Vals vs us) (hz : vs.length <= 1000)
    (h : ∀ e, H e = none -> sp (.ref e :: vs) (upd H e (XN e C none)) (fun v H2 => v = .non /\ Q (.ref e) H2) E0) : wpAny (model X.prog X.w) X.A (call (.ref C) us) (fun u s' => (∃ e, u = .ref e /\ s.heap.get? e = none) /\ EP X pins σ Q u s') X.xe s := by
  obtain ⟨bm, N, nm, qn, bs, hdct, sn, sub, ab, col, dd, k0, k1, k2, k3, k5, hC0, T⟩ := excAny.obj I.kIn M.x
  refine xi_call (h := s.heap) (g := s.gens) (d := s.drawn) (t := s.toks) (os := s.os) PySem.F.excBase_ValueError T I.kIn hC0 M.init (beq_iff_eq.mp M.fn) (fun h' e m => ?_) (szl (by rw [<- r.length]; omega))
  obtain ⟨t', ht, hn1, ht1⟩ := m.there
  have xa : XAt h' e C none .none _ _ := ⟨ht, rfl, rfl, rfl, rfl, rfl, fun _ => rfl⟩
  have I2 := I.adopt (t' := s.toks) (o := XN e C none) m.keeps m.new (xn_ok xa)
  have hq := h e (I.none_of m.new)
  have r2 : Vals (V.ref e :: vs) (Value.ref e :: us) := .cons rfl r
  have hl : (Value.ref e :: us ++ ([] : List Value)).length = ps.length := by
    have z := r2.length
    rw [F.len _ _ _ _ hq] at z
    rw [List.append_nil]; exact z.symm
  refine wpAny_call (codeAny_mono (F.run _ X.stack _ _ ⟨Value.ref e :: us, []⟩ (Value.ref e :: us) _ _ E0 (hr.make C us []) (I2.env0.make C us []) (by have := hb _ (Value.ref e :: us) I2.kIn hl; rwa [List.append_nil] at this) r2 hq) fun r s' hq' => ?_)
  cases r with
  | error e => exact hq'.elim
  | ok fl =>
    cases fl with
    | ret u =>
      obtain ⟨v, H', I3, rv, ev, q3⟩ := I2.after hq'
      subst ev
      exact ⟨rv, ⟨e, rfl, m.new⟩, ⟨V.ref e, H', I3, rfl, q3⟩⟩
    | next => exact False.elim hq'
    | brk => exact False.elim hq'
    | cont => exact False.elim hq'
theorem q_raiseE (F : HasE X.prog X.w X.K X.mg X.base x C j f fd ps sp) (hr : Room k X.A) (hc : X.calm = true) (hx : Lets X Es) (ha : QA X (a :: es) t) (hj : j + 1 <= k := by decide) (hg : Gl X x := by rfl) (hdb : (x == ("__debug__" : Str)) = false := by decide) (hn : noStar (a :: es) = true := by rfl) :
    QS X (.Raise (some (.Call (.Name x np) (a :: es) [] cpos)) none pos) (tRaiseE C sp Es t) := ⟨by
  intro pins s σ H D I h
  have ev : wpAny (model X.prog X.w) X.A (eval (.Call (.Name x np) (a :: es) [] cpos) X.env) (fun u s' => (∃ e, u = .ref e /\ (X.ex = [] -> X.s₀.heap.get? e = none)) /\ EP X pins σ (RaisedAs C Es σ) u s') X.xe s := by
    refine wpAny_Call_Name_kw (ld_glob I hg F.g ?_ hdb)
    refine PySem.W.callWith_K (h₀ := X.base) I.ok.mod.kin F.mkx.kp (thn (ha.h cpos pins s σ H _ I h) fun us s1 ⟨vs, H1, I1, r, hz, q⟩ => ⟨I1.kIn, ?_⟩) (star_cons (noStar_head hn).1) (noStar_any (noStar_head hn).2)
    exact wpAny_mono (run_makeE2 F.mkx F.ok (hr.mono hj) F.b I1 r hz q) (fun u s' ⟨⟨e, z1, z2⟩, z3⟩ => ⟨⟨e, z1, fun h0 => I1.newx h0 z2⟩, z3⟩) fun _ _ z => z
  rw [arm_exec_Raise]
  refine wpAny_bind (wpAny_standAt (raise_any (I.ok.hd hc) ?_))
  refine wpAny_bind (wpAny_mono ev (fun v s3 hv => wpAny_bind (wpAny_standAt (wpAny_pure ?_))) fun _ _ z => z)
  obtain ⟨⟨e0, z1, z2⟩, y, H2, I2, ry, e1, od, ey, h2, q2⟩ := hv
  rw [ey] at ry
  have ev1 : v = Value.ref e1 := ry
  rw [ev1] at z1
  obtain rfl : e1 = e0 := Value.ref.inj z1
  rw [ev1]
  obtain ⟨⟨oe, vs, xa⟩, _⟩ := I2.hok e1 _ h2
  obtain ⟨bm, N, nm, qn, bs, hdct, sn, sub, ab, col, dd, k0, k1, k2, k3, k5, hC0, T⟩ := excAny.obj I2.kIn F.mkx.x
  exact ⟨e1, C, od, oe, vs, nm, qn, N, bs, bm, hdct, sn, sub, ab, col, dd, k0, k1, k2, k3, k5, _, rfl, xa, hC0, T.hasType PySem.F.excBase_ValueError.hasBase, hx.up pins _ _ (flew_new I2 h2 z2 q2)⟩⟩
theorem q_methX {pl : Sem Bool} (F : HasMX X.prog X.w X.K X.mg X.base C m j f fd ps dvs sp) (hr : Room k X.A) (hx : Lets X Es) (ho : QE X o ta) (ha : QA X (e :: es) t) (hj : j <= k := by decide) (hn : noStar (e :: es) = true := by rfl)
    (ht : eval (.Call (.Attribute o m apos) (e :: es) [] pos) X.env = (do
      let ov <- eval o X.env
      standAt apos.atName
      let (f, first) <- holding [ov] (getMethod ov m pl)
      callWith pos f first (backTo pos (starEach (e :: es) X.env)) (backToKw pos (keywordEach [] X.env))) := by rfl) :
    QE X (.Call (.Attribute o m apos) (e :: es) [] pos) (tMethX C m sp dvs Es ta t) := ⟨by
  intro pins s σ H Q I h
  obtain ⟨ds, hb, hd⟩ := F.b
  refine PySem.W.methodCall_KW (pl := pl) (thn (ho.h pins s σ H _ I h) fun u s1 ⟨x, H1, I1, rx, a, dx, fs, ex, ea, l, q⟩ => ?_) ht
  subst ex
  obtain rfl : u = Value.ref a := rx
  refine getmeth_ok I1 ea F.c F.mt l ?_
  refine PySem.W.callWith_K (first := [.ref a]) (h₀ := X.base) I.ok.mod.kin F.mt.kp (thn (ha.h pos pins s1 σ H1 _ I1 q) fun us s2 ⟨vs, H2, I2, r, q2⟩ => ⟨I2.kIn, ?_⟩) (star_cons (noStar_head hn).1) (noStar_any (noStar_head hn).2)
  exact run_x (us := .ref a :: us) (vs := .ref a :: vs) F.ok (hr.mono hj) hb hd hx I2 (.cons rfl r) q2⟩
end
end L2
namespace L2
open PySem PySem.Spec PyProof.Rows
theorem entry_unchain : entryFor table "proto.unchain" = some Builtin.«proto.unchain» := entryFor_of_fast (by kernel_rfl)
section
variable {prog : Program} {w : World} {A : Around} {E : Value -> Shared -> Prop} {env : Env}
theorem raiseNew_hand {α : Type} {s : Shared} {e eh Ch : Addr} {odh : Option Addr} {tbh : Value} {oh oe : Obj} {vh vs : Array Value} {Q : α -> Shared -> Prop} (hh : A.handled = some (.ref eh)) (hx : XAt s.heap eh Ch odh tbh oh vh) (ne : eh ≠ e)
    (he : s.heap.get? e = some oe) (hd : oe.data = .fields vs) (hs : vs.size = 6)
    (h : E (.ref e) { s with heap := s.heap.update e (Obj.mapFields (·.setIfInBounds 2 (.ref eh))) }) : wpAny (model prog w) A (raiseNew (.ref e) : Sem α) Q E s := by
  unfold raiseNew
  refine wpAny_bind (wpAny_handled ?_)
  rw [hh]
  dsimp only
  have n : ((Value.ref eh != Value.ref e) = true) := by simp [ne]
  rw [if_pos n]
  refine wpAny_bind (wpAny_holding ?_)
  refine runValue_entry entry_unchain ?_
  unfold Builtin.«proto.unchain»
  refine wpAny_bind (wpAny_field hx.at_ hx.data (hx.cx rfl) ?_)
  rw [if_pos (by decide)]
  refine wpAny_pure ⟨_, rfl, ?_⟩
  exact wpAny_bind (show wpAny _ _ (setField (.ref e) 2 (.ref eh)) _ _ _ from wpAny_setField he hd (by rw [hs]; decide) (wpAny_throw h))
theorem raise_hand {s : Shared} {x c : Sem Value} {eh : Addr} {Q : Flow -> Shared -> Prop} (hh : A.handled = some (.ref eh)) (hc : ∀ s₁ (Q' : Value -> Shared -> Prop), Q' .none s₁ -> wpAny (model prog w) A c Q' E s₁)
    (h : wpAny (model prog w) A x (fun v s₁ => ∃ e C od oe vs nm q N bs bm hdct sn sub ab col dd k0 k1 k2 k3 k5 newId, v = .ref e /\ XAt s₁.heap e C od .none oe vs /\
      s₁.heap.get? C = some (excClassObj nm q C N bs bm hdct sn sub ab col dd k0 k1 k2 k3 k5 newId) /\ bm.contains (.type "BaseException") = true /\ (∃ Ch odh tbh oh vh, XAt s₁.heap eh Ch odh tbh oh vh) /\ eh ≠ e /\ C ≠ e /\
      ∀ h', (∀ b o, b ≠ e -> s₁.heap.get? b = some o -> h'.get? b = some o) -> (∃ oe' vs', XAt h' e C od .none oe' vs' true) -> E (.ref e) { s₁ with heap := h' }) E s) :
    wpAny (model prog w) A (raiseStmt env (some x) (some c)) Q E s := by
  unfold raiseStmt
  refine wpAny_bind (wpAny_mono h (fun v s₁ h₁ => ?_) fun _ _ x => x)
  obtain ⟨e, C, od, oe, vs, nm, q, N, bs, bm, hdct, sn, sub, ab, col, dd, k0, k1, k2, k3, k5, newId, rfl, xa, hC, hbase, ⟨Ch, odh, tbh, oh, vh, xh⟩, nh, nC, hE⟩ := h₁
  have hcB : (Value.ref C :: bm).contains (.type "BaseException") = true := by rw [List.contains_cons, hbase, Bool.or_true]
  refine wpAny_bind (wpAny_holding (hc s₁ _ (wpAny_bind (wpAny_pure ?_))))
  obtain ⟨hp, g, d, tk, os⟩ := s₁
  obtain ⟨oc, odd, oda, osl⟩ := oe
  have he := xa.at_
  have hcl := xa.cls
  have hd := xa.data
  simp only at he hcl hd
  subst hcl hd
  repeat (first | with_reducible refine wpAny_field he rfl xa.tb1 ?_ | with_reducible refine wpAny_loadPart_at he ?_ | with_reducible refine wpAny_loadPart_at hC ?_ | (with_reducible refine wpAny_isSubtype_exc hC ?_; rw [hcB]) | wp_step)
  have hs := xa.size
  rw [if_pos (by rw [hs]; decide)]
  refine wpAny_update he ?_
  obtain ⟨v1, ev1⟩ : ∃ v1, v1 = vs.setIfInBounds 3 Value.none := ⟨_, rfl⟩
  have he1 := Heap.get?_update_self (Obj.mapFields (·.setIfInBounds 3 Value.none)) he rfl
  have he1 : (hp.update e (Obj.mapFields (·.setIfInBounds 3 Value.none))).get? e = some { cls := Value.ref C, dict := odd, data := Data.fields v1, slots := osl } := by rw [ev1]; exact he1
  have ot1 : ∀ b o, b ≠ e -> hp.get? b = some o -> (hp.update e (Obj.mapFields (·.setIfInBounds 3 Value.none))).get? b = some o := fun b o n z => (Heap.get?_update_other _ _ (Ne.symm n)).trans z
  generalize hp.update e (Obj.mapFields (·.setIfInBounds 3 Value.none)) = h1 at he1 ot1
  have hs1 : v1.size = 6 := by rw [ev1, Array.size_setIfInBounds]; exact hs
  refine wpAny_bind (wpAny_setField he1 rfl (by rw [hs1]; decide) ?_)
  obtain ⟨v2, ev2⟩ : ∃ v2, v2 = v1.setIfInBounds 4 (Value.bool true) := ⟨_, rfl⟩
  have he2 := Heap.get?_update_self (Obj.mapFields (·.setIfInBounds 4 (Value.bool true))) he1 rfl
  have he2 : (h1.update e (Obj.mapFields (·.setIfInBounds 4 (Value.bool true)))).get? e = some { cls := Value.ref C, dict := odd, data := Data.fields v2, slots := osl } := by rw [ev2]; exact he2
  have ot2 : ∀ b o, b ≠ e -> hp.get? b = some o -> (h1.update e (Obj.mapFields (·.setIfInBounds 4 (Value.bool true)))).get? b = some o := fun b o n z => (Heap.get?_update_other _ _ (Ne.symm n)).trans (ot1 b o n z)
  dsimp only
  generalize h1.update e (Obj.mapFields (·.setIfInBounds 4 (Value.bool true))) = h2 at he2 ot2
  have hs2 : v2.size = 6 := by rw [ev2, Array.size_setIfInBounds]; exact hs1
  have tb2 : v2[1]? = some .none := by rw [ev2, ev1, Array.getElem?_setIfInBounds, if_neg (by decide), Array.getElem?_setIfInBounds, if_neg (by decide)]; exact xa.tb1
  have hC2 := ot2 _ _ nC hC
  have xh2 := xh.keeps (h' := h2) fun o z => ot2 _ _ nh z
  repeat (first | with_reducible refine wpAny_field he2 rfl tb2 ?_ | with_reducible refine wpAny_loadPart_at he2 ?_ | with_reducible refine wpAny_loadPart_at hC2 ?_ | (with_reducible refine wpAny_isSubtype_exc hC2 ?_; rw [hcB]) | wp_step)
  refine raiseNew_hand hh xh2 nh he2 rfl hs2 ?_
  have he3 := Heap.get?_update_self (Obj.mapFields (·.setIfInBounds 2 (Value.ref eh))) he2 rfl
  refine hE _ (fun b o n z => (Heap.get?_update_other _ _ (Ne.symm n)).trans (ot2 b o n z)) ⟨_, v2.setIfInBounds 2 (.ref eh), he3, rfl, xa.dict, rfl, by rw [Array.size_setIfInBounds]; exact hs2, by rw [Array.getElem?_setIfInBounds, if_neg (by decide)]; exact tb2, fun z => by cases z⟩
end
structure RoomH (k : Nat) (A : Around) : Prop where
  dp : A.depth + 3 * k + 5 < recursionLimit
  un : A.units + 16 * k + 200 < cLine
theorem Room.hand {k : Nat} {A : Around} (r : Room k A) (h : Option Value) : RoomH k (A.mark h) := ⟨r.dp, r.un⟩
theorem RoomH.mono {j k : Nat} {A : Around} (r : RoomH k A) (h : j <= k) : RoomH j A := ⟨by have := r.dp; omega, by have := r.un; omega⟩
theorem RoomH.deeper {k : Nat} {A : Around} (r : RoomH (k + 1) A) (env : Env) : RoomH k (A.deeper env) :=
  ⟨by have := r.dp; show A.depth + 1 + 3 * k + 5 < _; omega, by have := r.un; show A.units + 3 + 16 * k + 200 < _; omega⟩
theorem RoomH.make {k : Nat} {A : Around} (r : RoomH (k + 1) A) (C : Addr) (us : List Value) (kw : List (Str × Value)) : RoomH k (A.under (.builtin "type.__call__" ⟨.ref C :: us, kw⟩)) :=
  ⟨by have := r.dp; rw [make_depth]; omega, by have := r.un; rw [make_units]; omega⟩
theorem RoomH.depth {k : Nat} {A : Around} (r : RoomH k A) : A.depth < recursionLimit := by have := r.dp; omega
abbrev cxH (P : Program) (w : World) (K : PySem.W.Frag) (mg : Str -> Option Value) (base : Heap) (N : List Str) (qual : Str) (scope : Scope) (f : Addr) (cd : Value) (A : Around) (outer : List Env) (s : Shared) (H : Hp) (E : XK) : Cx := { cxOf CX0 P w K mg base N qual scope f cd A outer s H E with calm := false }
structure FnOkH (P : Program) (w : World) (K : PySem.W.Frag) (mg : Str -> Option Value) (base : Heap) (k : Nat) (f : Addr) (fd : FuncData) (ps : List Str) (sp : Sp) : Prop where
  len : ∀ vs H Q E, sp vs H Q E -> vs.length = ps.length
  run : ∀ (A : Around) (outer : List Env) (s : Shared) (H : Hp) (args : Args) (us : List Value) (vs : List V) (Q : VK) (E : XK), RoomH k A -> Env0 P w K mg base A outer s H -> BindsTo s fd args (ps.zip us) -> Vals vs us -> sp vs H Q E ->
    codeAny (model P w) A (.call (.ref f) args) (CR CX0 outer P w H s Q E) s
theorem inv_startH {P : Program} {w : World} {K : PySem.W.Frag} {mg : Str -> Option Value} {base : Heap} {N ps : List Str} {qual : Str} {scope : Scope} {f : Addr} {cd : Value} {A : Around} {outer : List Env} {s s1 : Shared} {H : Hp} {E : XK} {us : List Value} {vs : List V}
    (S : FnScope N ps scope) (e0 : Env0 P w K mg base A outer s H) (hl : vs.length = ps.length) (r : Vals vs us)
    (x : InCallC s s.heap.objs.size (bindL (envOfC qual scope s.heap.objs.size f cd).kindOf (ps.zip us) fun _ => none) (cellsFrom (s.heap.objs.size + 1) scope.names []) (bindC (envOfC qual scope s.heap.objs.size f cd).kindOf (ps.zip us) fun _ => none) s1) :
    Inv (cxH P w K mg base N qual scope f cd A outer s H E) [] (start N vs) H s1 := by
  have I := inv_start (CX := CX0) (A := { A with handled := none }) (E := E) (cd := cd) (f := f) (qual := qual) S rfl ⟨e0.frames, e0.mod, e0.bs, e0.bsz, e0.funs, e0.frf, e0.hok, e0.bare⟩ hl r x
  exact ⟨⟨I.ok.mod, I.ok.kind, I.ok.glob, I.ok.blt, I.ok.above, I.ok.inj, I.ok.has, I.ok.cab, (fun z => nomatch z), I.ok.frames, I.ok.stk, I.ok.exf, I.ok.bs, I.ok.bsz, I.ok.noex, I.ok.exfs, I.ok.funs, I.ok.frf⟩, I.os, I.bare, I.base, I.loc, I.cell, I.free, I.freeC, I.pin, I.hok, I.len⟩
theorem fn_ofH {P : Program} {w : World} {K : PySem.W.Frag} {mg : Str -> Option Value} {base : Heap} {k : Nat} {f : Addr} {name qual : Str} {params : Arguments} {body : List Stmt} {scope : Scope} {dV kV doc pm cdv ct oc : Value} {an od : Option Addr}
    {osl : Array (Option Value)} {N ps : List Str} {sp : Sp} (lk : K.lookup f = some ⟨oc, od, .func (PySem.W.fnOf name qual params body scope dV kV doc pm an cdv ct), osl⟩) (hcd : PySem.W.codeIn K cdv qual = true) (S : FnScope N ps scope)
    (len : ∀ vs H Q E, sp vs H Q E -> vs.length = ps.length)
    (hbody : ∀ (A : Around) (outer : List Env) (s : Shared) (H : Hp) (vs : List V) (Q : VK) (E : XK), RoomH k (A.deeper (envOfC qual scope s.heap.objs.size f cdv)) -> sp vs H Q E ->
      ∃ t, PSs (cxH P w K mg base N qual scope f cdv A outer s H E) body t /\ t { nx := fun _ H' => Q .non H', rt := Q } (start N vs) H) :
    FnOkH P w K mg base (k + 1) f (PySem.W.fnOf name qual params body scope dV kV doc pm an cdv ct) ps sp := by
  refine ⟨len, fun A outer s H args us vs Q E hr e0 hb r hsp => ?_⟩
  have hl := len _ _ _ _ hsp
  have KX : K.In s.heap := e0.mod.kin.keeps fun b o e => (e0.bs b o e).1
  have lim : s.heap.NoLimit := e0.mod.nolimit.keeps fun b o e => (e0.bs b o e).1
  have hkind : ∀ y ∈ ps.zip us, scope.names.lookup y.1 = some .local \/ (scope.names.lookup y.1 = some .cell /\ ((cellsFrom (s.heap.objs.size + 1) scope.names []).lookup y.1).isSome = true) := fun ⟨n, v⟩ hy => by
    rcases S.par n (List.of_mem_zip hy).1 with q | q
    · exact .inl q
    · exact .inr ⟨q, PySem.W.cellsFrom_some _ _ _ (.inl q)⟩
  refine codeAny_call_function hr.depth (KX _ _ lk) rfl S.co S.gen rfl (PySem.W.codeRec_of KX hcd) (hb _ _ _ _ ?_)
  refine wpAny_newFunctionEnv_cells S.kind hkind fun env he s1 x => ?_
  subst he
  refine ⟨lim.keeps x.toInCall.keep, codeAny_func ?_⟩
  obtain ⟨t, ht, hq⟩ := hbody A outer s H vs Q E (hr.deeper _) hsp
  have I : Inv (cxH P w K mg base N qual scope f cdv A outer s H E) [] (start N vs) H s1 := inv_startH S e0 hl r x
  refine wpAny_mono (ht [] s1 (start N vs) H _ I hq) (fun fl s' hs => ?_) fun e s' hs => hs
  have fin : ∀ {σ' : St} {H' : Hp} {v : V} {u : Value}, Inv (cxH P w K mg base N qual scope f cdv A outer s H E) [] σ' H' s' -> RelV v u -> Q v H' -> CE outer P w H s Q u s' :=
    fun {σ' H' v u} J rv q => ⟨v, H', J.os, J.bare, J.base, J.hok, rv, q⟩
  cases fl with
  | ret u =>
    obtain ⟨v, σ', H', J, rv, q⟩ := hs
    exact fin J rv q
  | next =>
    obtain ⟨σ', H', J, q⟩ := hs
    exact fin (v := V.non) (u := Value.none) J rfl q
  | brk =>
    obtain ⟨_, _, _, q⟩ := hs
    exact False.elim q
  | cont =>
    obtain ⟨_, _, _, q⟩ := hs
    exact False.elim q
theorem Fun.okH {P : Program} {w : World} {K : PySem.W.Frag} {mg : Str -> Option Value} {base : Heap} {x qual : Str} {st : Stmt} {f : Addr} {fd : FuncData} {N ps : List Str} {k : Nat} {sp : Sp} (F : Fun K x qual st f fd) (S : FnScope N ps (defScope st)) (len : ∀ vs H Q E, sp vs H Q E -> vs.length = ps.length)
    (hbody : ∀ (cdv : Value) (A : Around) (outer : List Env) (s : Shared) (H : Hp) (vs : List V) (Q : VK) (E : XK), RoomH k (A.deeper (envOfC qual (defScope st) s.heap.objs.size f cdv)) -> sp vs H Q E ->
      ∃ t, QSs (cxH P w K mg base N qual (defScope st) f cdv A outer s H E).nox (defBody st) t /\ t { nx := fun _ H' => Q .non H', rt := Q } (start N vs) H) : FnOkH P w K mg base (k + 1) f fd ps sp := by
  obtain ⟨oc, od, kV, doc, pm, an, cdv, ct, osl, rfl, lk, hcd⟩ := F.ex
  exact fn_ofH lk hcd S len fun A outer s H vs Q E hr hsp => let ⟨t, h, q⟩ := hbody cdv A outer s H vs Q E hr hsp; ⟨t, h.h.nox, q⟩
structure HasEH (P : Program) (w : World) (K : PySem.W.Frag) (mg : Str -> Option Value) (base : Heap) (x : Str) (C : Addr) (k : Nat) (f : Addr) (fd : FuncData) (ps : List Str) (sp : Sp) : Prop where
  g : mg x = some (.ref C)
  mkx : MkE K C f
  b : Binds K fd ps []
  ok : FnOkH P w K mg base k f fd ps sp
def RaisedH (C eh : Addr) (Es : St -> XK) (σ : St) : VK := fun x H => ∃ e od Ch odh, x = .ref e /\ H e = some (XN e C od) /\ H eh = some (XO eh Ch odh) /\ Es σ (.ref C) (some e) (upd H e (XO e C od true))
def tRaiseH (C eh : Addr) (sp : Sp) (Es : St -> XK) (t : TA) : TS := fun _ σ H => t σ H fun vs H1 => (∃ Ch odh, H1 eh = some (XO eh Ch odh)) /\ vs.length <= 1000 /\ ∀ e, H1 e = none -> sp (.ref e :: vs) (upd H1 e (XN e C none)) (fun v H2 => v = .non /\ RaisedH C eh Es σ (.ref e) H2) E0
section
variable {X : Cx} {k j : Nat} {f C eh : Addr} {fd : FuncData} {ps : List Str} {sp : Sp} {x m : Str} {np cpos pos apos npos : Pos} {a e o : Expr} {es : List Expr} {ta : TE} {t : TA} {Es : St -> XK} {kk : Nat}
theorem run_makeEH {pins : List (Addr × Obj)} {σ : St} {H : Hp} {s : Shared} {Q : VK} {us : List Value} {vs : List V} (M : MkE X.K C f) (F : FnOkH X.prog X.w X.K X.mg X.base k f fd ps sp) (hr : RoomH (k + 1) X.A) (hb : Binds X.K fd ps []) (I : Inv X pins σ H s) (r : Vals vs us) (hz : vs.length <= 1000)
    (h : ∀ e, H e = none -> sp (.ref e :: vs) (upd H e (XN e C none)) (fun v H2 => v = .non /\ Q (.ref e) H2) E0) : wpAny (model X.prog X.w) X.A (call (.ref C) us) (fun u s' => (∃ e, u = .ref e /\ s.heap.get? e = none) /\ EP X pins σ Q u s') X.xe s := by
  obtain ⟨bm, N, nm, qn, bs, hdct, sn, sub, ab, col, dd, k0, k1, k2, k3, k5, hC0, T⟩ := excAny.obj I.kIn M.x
  refine xi_call (h := s.heap) (g := s.gens) (d := s.drawn) (t := s.toks) (os := s.os) PySem.F.excBase_ValueError T I.kIn hC0 M.init (beq_iff_eq.mp M.fn) (fun h' e m => ?_) (szl (by rw [<- r.length]; omega))
  obtain ⟨t', ht, hn1, ht1⟩ := m.there
  have xa : XAt h' e C none .none _ _ := ⟨ht, rfl, rfl, rfl, rfl, rfl, fun _ => rfl⟩
  have I2 := I.adopt (t' := s.toks) (o := XN e C none) m.keeps m.new (xn_ok xa)
  have hq := h e (I.none_of m.new)
  have r2 : Vals (V.ref e :: vs) (Value.ref e :: us) := .cons rfl r
  have hl : (Value.ref e :: us ++ ([] : List Value)).length = ps.length := by
    have z := r2.length
    rw [F.len _ _ _ _ hq] at z
    rw [List.append_nil]; exact z.symm
  refine wpAny_call (codeAny_mono (F.run _ X.stack _ _ ⟨Value.ref e :: us, []⟩ (Value.ref e :: us) _ _ E0 (hr.make C us []) (I2.env0.make C us []) (by have := hb _ (Value.ref e :: us) I2.kIn hl; rwa [List.append_nil] at this) r2 hq) fun r s' hq' => ?_)
  cases r with
  | error e => exact hq'.elim
  | ok fl =>
    cases fl with
    | ret u =>
      obtain ⟨v, H', I3, rv, ev, q3⟩ := I2.after hq'
      subst ev
      exact ⟨rv, ⟨e, rfl, m.new⟩, ⟨V.ref e, H', I3, rfl, q3⟩⟩
    | next => exact False.elim hq'
    | brk => exact False.elim hq'
    | cont => exact False.elim hq'
theorem q_raiseH (F : HasEH X.prog X.w X.K X.mg X.base x C j f fd ps sp) (hr : RoomH k X.A) (hhd : X.A.handled = some (.ref eh)) (hx : Lets X Es) (ha : QA X (a :: es) t) (hj : j + 1 <= k := by decide) (hg : Gl X x := by rfl) (hdb : (x == ("__debug__" : Str)) = false := by decide) (hn : noStar (a :: es) = true := by rfl) :
    QS X (.Raise (some (.Call (.Name x np) (a :: es) [] cpos)) (some (.Constant .none kk npos)) pos) (tRaiseH C eh sp Es t) := ⟨by
  intro pins s σ H D I h
  have ev : wpAny (model X.prog X.w) X.A (eval (.Call (.Name x np) (a :: es) [] cpos) X.env) (fun u s' => (∃ e, u = .ref e /\ (X.ex = [] -> X.s₀.heap.get? e = none) /\ eh ≠ e /\ C ≠ e) /\ EP X pins σ (RaisedH C eh Es σ) u s') X.xe s := by
    refine wpAny_Call_Name_kw (ld_glob I hg F.g ?_ hdb)
    refine PySem.W.callWith_K (h₀ := X.base) I.ok.mod.kin F.mkx.kp (thn (ha.h cpos pins s σ H _ I h) fun us s1 ⟨vs, H1, I1, r, ⟨Ch, odh, hq⟩, hz, q⟩ => ⟨I1.kIn, ?_⟩) (star_cons (noStar_head hn).1) (noStar_any (noStar_head hn).2)
    obtain ⟨⟨tbh, oh, vh, xh⟩, _⟩ := I1.hok eh _ hq
    obtain ⟨bm, N, nm, qn, bs, hdct, sn, sub, ab, col, dd, k0, k1, k2, k3, k5, hC0, T⟩ := excAny.obj I1.kIn F.mkx.x
    exact wpAny_mono (run_makeEH F.mkx F.ok (hr.mono hj) F.b I1 r hz q) (fun u s' ⟨⟨e, z1, z2⟩, z3⟩ => ⟨⟨e, z1, fun h0 => I1.newx h0 z2, fun z => (by rw [<- z, xh.at_] at z2; cases z2), fun z => (by rw [<- z, hC0] at z2; cases z2)⟩, z3⟩) fun _ _ z => z
  rw [arm_exec_Raise]
  refine wpAny_bind (wpAny_standAt (raise_hand hhd (fun s₁ Q' q => ?_) ?_))
  · exact wpAny_bind (Constant_none (wpAny_bind (wpAny_standAt (wpAny_pure q))))
  refine wpAny_bind (wpAny_mono ev (fun v s3 hv => wpAny_bind (wpAny_standAt (wpAny_pure ?_))) fun _ _ z => z)
  obtain ⟨⟨e0, z1, z2, z3, z4⟩, y, H2, I2, ry, e1, od, Ch, odh, ey, h2, hq2, q2⟩ := hv
  rw [ey] at ry
  have ev1 : v = Value.ref e1 := ry
  rw [ev1] at z1
  obtain rfl : e1 = e0 := Value.ref.inj z1
  rw [ev1]
  obtain ⟨⟨oe, vs, xa⟩, _⟩ := I2.hok e1 _ h2
  obtain ⟨⟨tbh, oh, vh, xh⟩, _⟩ := I2.hok eh _ hq2
  obtain ⟨bm, N, nm, qn, bs, hdct, sn, sub, ab, col, dd, k0, k1, k2, k3, k5, hC0, T⟩ := excAny.obj I2.kIn F.mkx.x
  refine ⟨e1, C, od, oe, vs, nm, qn, N, bs, bm, hdct, sn, sub, ab, col, dd, k0, k1, k2, k3, k5, _, rfl, xa, hC0, T.hasType PySem.F.excBase_ValueError.hasBase, ⟨Ch, odh, tbh, oh, vh, xh⟩, z3, z4, fun h' kp xn => ?_⟩
  obtain ⟨oe', vs', xa'⟩ := xn
  have I3 := Inv.write (t' := s3.toks) (x := e1) (e := e1) (h' := h') (o := XO e1 C od true) I2 (by rw [h2]; trivial) (.inl rfl) kp ⟨_, xa'.at_⟩ (xo_ok xa')
  exact hx.up pins _ _ ⟨σ, _, e1, C, od, true, .none, oe', vs', rfl, I3, upd_same, xa', .inl rfl, fun T z => (by cases z), z2, q2⟩⟩
end
def tTryN (K : PySem.W.Frag) (c : Value) (tb : (St -> XK) -> TS) (th : Addr -> TS) : TS := fun D σ H => ∃ Eb : St -> XK, tb Eb D σ H /\ ∀ σ' C e od qq H', Eb σ' (.ref C) (some e) H' -> H' e = some (XO e C od qq) -> PySem.W.exmOne K (.ref C) c = some true /\ th e D σ' H'
theorem lets_hand {X : Cx} {e : Addr} {Es : St -> XK} (hx : Lets X Es) (hd : X.calm = true -> X.A.handled = none) : Lets (X.hand e X.xe) Es := ⟨by
  rintro pins v s' ⟨σ', H', e', C, od, qq, tb', oe, vs, hv, I', hx', x, ht, hT, he, q⟩
  exact hx.up pins v s' ⟨σ', H', e', C, od, qq, tb', oe, vs, hv, I'.unhand hd, hx', x, ht, hT, he, q⟩⟩
section
variable {X : Cx} {y : Str} {np hpos pos : Pos} {body suite : List Stmt} {b₀ : Stmt} {Cy : Addr} {tb : (St -> XK) -> TS} {th : Addr -> TS} {Es : St -> XK}
theorem q_tryN (hst : X.stack = X.env :: X.outer /\ X.env.frame = some X.env.locals) (hm : X.mg y = some (.ref Cy)) (hE : ∀ e : Addr, PassesOwnAt (model X.prog X.w) (X.A.mark (some (.ref e))) X.A X.env X.xe) (hx : Lets X Es)
    (hb : ∀ pn W Eb, Lets (X.tryc pn W) Eb -> QSs (X.tryc pn W) body (tb Eb)) (hh : ∀ e, Lets (X.hand e X.xe) Es -> QSs (X.hand e X.xe) (b₀ :: suite) (th e))
    (hg : Gl X y := by rfl) (hd : (y == ("__debug__" : Str)) = false := by decide) : QS X (.Try body [.ExceptHandler (some (.Name y np)) none (b₀ :: suite) hpos] [] [] pos) (tTryN X.K (.ref Cy) tb th) := ⟨by
  intro pins s σ H D I h
  obtain ⟨Eb, h1, h2⟩ := h
  have L : Lets (X.tryc (X.pn ++ pins) (Flew X pins Eb)) Eb := ⟨by
    rintro pins' v s' ⟨σ', H', e, C, od, qq, tb', oe, vs, hv, I', hx, x, ht, hT, he, q⟩
    exact ⟨σ', H', e, C, od, qq, tb', oe, vs, hv, I'.untry, hx, x, ht, fun T z => ⟨(hT T z).1, (hT T z).2.1, fun p hp => (hT T z).2.2 p (List.mem_append_left _ hp)⟩, he, q⟩⟩
  refine wpAny_Try_except (wpAny_mono ((hb _ _ Eb L).h [] s σ H D I.tryc h1) (fun f s1 q => ?_) fun v s1 q => ?_)
  · cases f with
    | next => obtain ⟨σ', H', I', q⟩ := q; exact wpAny_execs_nil ⟨σ', H', I'.untry, q⟩
    | brk => exact SP.untry (f := .brk) q
    | cont => exact SP.untry (f := .cont) q
    | ret u => exact SP.untry (f := .ret u) q
  · obtain ⟨σ', H', e, C, od, qq, tb', oe, vs, rfl, I1, hxo, x, ht, hT, he, q⟩ := q
    obtain ⟨hex, hth⟩ := h2 σ' C e od qq H' q hxo
    have hfr : X.A.frames = some (X.env :: X.outer) := by rw [<- hst.1]; exact I1.ok.frames
    have hff : s1.heap.FunFrames X.base (X.env :: X.outer) := by rw [<- hst.1]; exact I1.stack
    refine note_x (base := X.base) hfr hff hst.2 x ht fun h1' T1 N1 => ?_
    rw [<- hst.1] at N1
    have I2 := I1.noted hxo ht hT N1
    obtain ⟨oe1, vs1, x1⟩ := N1.exc
    have T1new : X.s₀.heap.objs.size <= T1 := Nat.le_trans I1.sz N1.new
    have T1none : H' T1 = none := by
      cases z : H' T1 with
      | none => rfl
      | some o =>
        obtain ⟨u, w⟩ := ObjOk.there (I1.hok T1 o z)
        exact absurd (Nat.lt_of_lt_of_le (Heap.lt_size w) N1.new) (Nat.lt_irrefl _)
    have T1pin : ∀ p ∈ X.pn ++ pins, p.1 ≠ T1 := fun p hp z => absurd (Nat.lt_of_lt_of_le (Heap.lt_size (I1.pin p hp).1) N1.new) (by rw [z]; exact Nat.lt_irrefl _)
    have land : ∀ {M : Model} {A : Around} {Ex : Value -> Shared -> Prop} {fl : Value} {s2 : Shared} {oe2 : Obj} {vs2 : Array Value} {Q : Unit -> Shared -> Prop}, Inv X pins σ' H' s2 -> XAt s2.heap e C od (.ref T1) oe2 vs2 qq -> TbAt s2.heap e T1 fl ->
        (∀ s3, Inv X pins σ' H' s3 -> XAt s3.heap e C od (.ref T1) oe2 vs2 qq -> TbAt s3.heap e T1 .none -> Q () s3) -> wpAny M A (setFlight (.ref e) none) Q Ex s2 := fun {M A Ex fl s2 oe2 vs2 Q} J y t kk => by
      refine land_x y t fun h3 sz k3 t3 y3 e3 => kk { s2 with heap := h3 } ?_ y3 e3
      have ok3 : HOk X.prog X.w H' h3 := fun b o z => by
        refine (J.hok b o z).stay (fun c u hc w => k3 c u w fun v => ?_) (fun _ q => q) fun _ _ q => q
        rcases hc with rfl | hc
        · rw [v, T1none] at z; cases z
        · rw [v, T1none] at hc; cases hc
      refine J.call (g' := s2.gens) (d' := s2.drawn) (t' := s2.toks) (ch := [T1]) ⟨fun b o z n m c => k3 b o z (by simpa using c), fun b o z n m c => ⟨o.slots, k3 b o z (by simpa using c)⟩, fun _ _ _ n _ => n, fun b o z _ => t3 b o z, fun _ _ z => z, fun _ _ _ z => z, fun b ps z => ⟨#[], by rw [z]; simp⟩⟩ ok3 J.bare fun b hb' => ?_
      have eb : b = T1 := by simpa using hb'
      subst eb
      obtain ⟨g1, g2⟩ := J.noTb t
      exact ⟨.inr T1new, g1, g2, T1pin⟩
    refine land I2 x1 N1.ent fun s3 I3 x3 t3 => ?_
    refine wpAny_handleBy_cons (codeAny_handlers_test ?_) (by intro z; cases z)
    refine ld_glob (X := X.hand e fun _ _ => False) I3.hand hg hm ?_ hd
    have LT : PySem.W.Looks (model X.prog X.w) s3.heap (typeOf (.ref e)) (.ref C) := by
      have z : PySem.W.Looks (model X.prog X.w) s3.heap (typeOf (.ref e)) oe1.cls := (PySem.W.Looks.ld x3.at_).andThen .now
      rw [x3.cls] at z
      exact z
    refine (PySem.W.exm_one I3.kIn LT hex) _ _ _ _ (fun b o w => w) ?_
    refine codeAny_handlers_suite (land I3 x3 t3 fun s4 I4 x4 t4 => ?_)
    have hd0 := I.ok.hd
    refine wpAny_mono ((hh e (lets_hand hx hd0)).h pins s4 _ H' _ (I4.hand (e := e)) hth) (fun f s6 q6 => ?_) fun v s6 z => hE e v s6 z
    cases f with
    | next => obtain ⟨σ6, H6, I6, q6⟩ := q6; exact ⟨_, H6, I6.unhand hd0, q6⟩
    | brk => obtain ⟨σ6, H6, I6, q6⟩ := q6; exact ⟨_, H6, I6.unhand hd0, q6⟩
    | cont => obtain ⟨σ6, H6, I6, q6⟩ := q6; exact ⟨_, H6, I6.unhand hd0, q6⟩
    | ret u => obtain ⟨v, σ6, H6, I6, r6, q6⟩ := q6; exact ⟨v, _, H6, I6.unhand hd0, r6, q6⟩⟩
theorem q_tryNK {K : PySem.W.Frag} (h : X.K = K) (hst : X.stack = X.env :: X.outer /\ X.env.frame = some X.env.locals) (hm : X.mg y = some (.ref Cy)) (hE : ∀ e : Addr, PassesOwnAt (model X.prog X.w) (X.A.mark (some (.ref e))) X.A X.env X.xe) (hx : Lets X Es)
    (hb : ∀ pn W Eb, Lets (X.tryc pn W) Eb -> QSs (X.tryc pn W) body (tb Eb)) (hh : ∀ e, Lets (X.hand e X.xe) Es -> QSs (X.hand e X.xe) (b₀ :: suite) (th e))
    (hg : Gl X y := by rfl) (hd : (y == ("__debug__" : Str)) = false := by decide) : QS X (.Try body [.ExceptHandler (some (.Name y np)) none (b₀ :: suite) hpos] [] [] pos) (tTryN K (.ref Cy) tb th) := by subst h; exact q_tryN hst hm hE hx hb hh hg hd
end
end L2
namespace L2
open PySem PySem.Spec PyProof.Rows
section
variable {X : Cx} {k j : Nat} {f C : Addr} {fd : FuncData} {ps : List Str} {sp : Sp} {x m : Str} {p pos : Pos} {e : Expr} {es : List Expr} {t : TA} {dvs : List V} {ds : List Value} {Es : St -> XK}
structure HasH (P : Program) (w : World) (K : PySem.W.Frag) (mg : Str -> Option Value) (base : Heap) (x : Str) (k : Nat) (f : Addr) (fd : FuncData) (ps : List Str) (sp : Sp) : Prop where
  g : mg x = some (.ref f)
  kp : PySem.W.keepIn K (.ref f) = true
  b : Binds K fd ps []
  ok : FnOkH P w K mg base k f fd ps sp
end
end L2
namespace L2
open PySem PySem.Spec PyProof.Rows
section
variable {X : Cx} {K : PySem.W.Frag} {o i value : Expr} {td ty tv : TE} {pos pos' : Pos}
def gNotInM : R2 := fun y x H Q => ∃ a ov, x = .ref a /\ DGet H a y ov /\ Q (.bl (!ov.isSome)) H
theorem g_notinM (hu : X.A.units + 64 < cLine) : OpR X (compareOp .NotIn) gNotInM := by
  intro pins s σ H x y v u Q I rx ry q
  obtain ⟨a, ov, rfl, g, q⟩ := q
  obtain rfl : u = Value.ref a := ry
  exact d_notIn (by omega) I g rx fun s' I' => ⟨.bl (!ov.isSome), H, I', rfl, q⟩
theorem q_dgetM (hu : X.A.units + 64 < cLine) (ho : QE X o td) (hi : QE X i ty) (hs : NoSl i := by intro _ _; rfl) : QE X (.Subscript o i pos) (tDGet td ty) := ⟨pe_dget (by omega) ho.h hi.h hs⟩
theorem q_dputM (hu : X.A.units + 64 < cLine) (ho : QE X o td) (hi : QE X i ty) (hv : QE X value tv) (hs : swapsWith value (some (.Subscript o i pos')) pos.line X.env = pure false := by rfl) : QS X (.Assign [.Subscript o i pos'] value pos) (sDPut td ty tv) := ⟨ps_dput (by omega) ho.h hi.h hv.h hs⟩
end
def gInT (K : PySem.W.Frag) : List V -> Hp -> VK -> Prop := fun xs H Q => ∃ (a C d0 : Addr) (fs : List (Str × V)) (tp : Addr) (Cs : List Addr) (b : Bool), xs = [.ref a, .ref tp] /\ (H a = some (XN a C (some d0)) \/ ∃ q, H a = some (XO a C (some d0) q)) /\ H d0 = some (.xd fs) /\ XCls K C /\ H tp = some (.tup (Cs.map V.ref)) /\ PySem.W.kitAny K (.ref C) (Cs.map Value.ref) = some b /\ Q (.bl b) H
theorem vals_refs : ∀ {Cs : List Addr} {us : List Value}, Vals (Cs.map V.ref) us -> us = Cs.map Value.ref
  | [], _, .nil => rfl
  | c :: Cs, _, .cons r rr => by
    cases r
    rw [vals_refs rr]; rfl
section
variable {X : Cx} {K : PySem.W.Frag}
theorem c_inT : CallR X (.builtin "isinstance") (gInT X.K) := by
  intro pins s σ H xs us Q I r q
  obtain ⟨a, C, d0, fs, tp, Cs, b, rfl, he, hd, hc, ht, e, q⟩ := q
  obtain ⟨u, w', rfl, r1, r2⟩ := vals2 r
  cases r1
  cases r2
  obtain ⟨tb, oe, vs, qq, xa⟩ : ∃ tb oe vs q, XAt s.heap a C (some d0) tb oe vs q := by
    rcases he with hx | ⟨q, hx⟩
    · obtain ⟨⟨oe, vs, xa⟩, _⟩ := I.hok a _ hx; exact ⟨.none, oe, vs, false, xa⟩
    · obtain ⟨⟨tb, oe, vs, xa⟩, _⟩ := I.hok a _ hx; exact ⟨tb, oe, vs, q, xa⟩
  obtain ⟨mA, hn, rr⟩ := (show ∃ mA, s.heap.Ns1 d0 mA /\ ∀ f, RelO (fs.lookup f) (mA f) from I.hok d0 _ hd)
  obtain ⟨o, ho, hl⟩ := lookIn_ns hn
  obtain ⟨_, its, rv, ⟨ot, e1, e2, n, e3⟩⟩ := (show _ /\ ∃ its : List Value, Vals _ its /\ IsTup s.heap tp its.toArray from I.hok tp _ ht)
  obtain ⟨oc, od, oda, osl⟩ := ot
  simp only at e2 e3
  subst e2 e3
  rw [vals_refs rv] at e1
  exact PySem.W.kia_tup (kitx_exc (ox := oe) (od := some o) hc) I.kIn ⟨xa.at_, xa.cls, by unfold PySem.W.notCls; rw [xa.data], by rw [xa.dict]; exact ho⟩ e1 e (fun z => nomatch z) fun tk => ⟨.bl b, H, I.tok _, rfl, q⟩
theorem c_inTK (h : X.K = K) : CallR X (.builtin "isinstance") (gInT K) := by subst h; exact c_inT
end
end L2
namespace L2
open PySem PySem.Spec PyProof.Rows
section
variable {X : Cx} {K : PySem.W.Frag}
def gInM : R2 := fun y x H Q => ∃ a ov, x = .ref a /\ DGet H a y ov /\ Q (.bl ov.isSome) H
theorem g_inM (hu : X.A.units + 64 < cLine) : OpR X (compareOp .In) gInM := by
  intro pins s σ H x y v u Q I rx ry q
  obtain ⟨a, ov, rfl, g, q⟩ := q
  obtain rfl : u = Value.ref a := ry
  exact d_in (by omega) I g rx fun s' I' => ⟨.bl ov.isSome, H, I', rfl, q⟩
def gLstIx (K : PySem.W.Frag) : V -> List V -> Hp -> VK -> Prop := fun x vs H Q => ∃ (a : Addr) (y : V) (xs : List V) (j : Nat), x = .ref a /\ vs = [y] /\ H a = some (.lst xs) /\ flatV y = true /\ xs.all flatV = true /\ (∃ z, xs[j]? = some z /\ eqV z y = true) /\ (∀ i z, i < j -> xs[i]? = some z -> eqV z y = false) /\ Q (.int (j : Int)) H
theorem mg_lstIx : MtR X "list.index" (gLstIx X.K) := by
  intro pins s σ H x vs v us Q I rx rs q
  obtain ⟨a, y, xs, j, rfl, rfl, hx, fy, fx, ⟨z, hz, ez⟩, hno, q⟩ := q
  cases rx
  obtain ⟨u, rfl, ru⟩ := vals1 rs
  obtain ⟨its, rv, pl, hsz⟩ := I.list (.of hx)
  have hl := rv.length
  have hj : j < its.length := by have := (List.getElem?_eq_some_iff.mp hz).1; omega
  obtain ⟨⟨ocl, odc, oda, osl⟩, n, e1, e2, e3, e4⟩ := pl
  simp only at e2 e3 e4
  subst e2 e3 e4
  have at_ : ∀ i (hi : i < its.toArray.size), ∃ z, xs[i]? = some z /\ eqU y its.toArray[i] = eqV z y := fun i hi => by
    have hi' : i < xs.length := by rw [List.size_toArray] at hi; omega
    obtain ⟨w, hw, rw'⟩ := rv.get (i := i) (x := xs[i]) (by simp [hi'])
    have e : its.toArray[i] = w := by simpa using (List.getElem?_eq_some_iff.mp hw).2
    refine ⟨xs[i], by simp [hi'], ?_⟩
    rw [e]
    exact eqU_of rw' (List.all_eq_true.mp fx _ (List.getElem_mem hi'))
  refine call_meets PySem.F.slot_list_index ⟨_, e1, rfl⟩ PySem.F.entry_list_index (PySem.F.args_list_index_2 _ _)
    (SeqAt.list_indexAt a its.toArray n _ _ u (eqU y) j (by simpa using hj) ?_ ?_ ?_) ⟨e1, fun w hw => mem_eqAt ru fy rv fx w (by simpa using hw), ⟨.int j, H, I.tok _, ⟨_, rfl⟩, q⟩⟩
  · have : sizeLine <= 2 ^ 40 := by decide
    have : (2 : Int) ^ 63 = 9223372036854775808 := by decide
    have : (2 : Nat) ^ 40 = 1099511627776 := by decide
    omega
  · obtain ⟨z', h1, h2⟩ := at_ j (by simpa using hj)
    rw [hz] at h1
    cases h1
    rw [h2]; exact ez
  · intro i hi hij
    obtain ⟨z', h1, h2⟩ := at_ i hi
    rw [h2]
    exact hno i z' hij h1
theorem mg_lstIxK (h : X.K = K) : MtR X "list.index" (gLstIx K) := by subst h; exact mg_lstIx
end
end L2
namespace L2
open PySem PySem.Spec PyProof.Rows
section
open HT
variable {prog : Program} {w : World} {A : Around} {E : Value -> Shared -> Prop} {s : Shared}
theorem getItem_tuple_whole {t sl : Addr} {items : Array Value} {vl vu : Value} {lo hi : Option Int} {Q : Value -> Shared -> Prop} (ht : IsTup s.heap t items) (hs : s.heap.IsSliceOf sl vl vu .none) (pl : IsPart vl lo) (pu : IsPart vu hi)
    (hw : sIx items.size 0 lo = 0 /\ sIx items.size items.size hi = items.size) (h : Q (.ref t) s) : wpAny (model prog w) A (getItem (.ref t) (.ref sl)) Q E s := by
  obtain ⟨os, hos, hcs, hds⟩ := id hs
  have hTs : s.TypeIs (.ref sl) "slice" := ⟨os, hos, hcs⟩
  unfold getItem
  try with_reducible refine wpAny_holding ?_
  first | refine wpAny_bind (wpAny_pure ?_) | skip
  refine wpAny_bind (wpAny_sequenceKey ht.typeIs (by decide) ?_)
  refine wpAny_bind (wpAny_callSpecial?_slot (name := Str.ofString "__getitem__") ht.typeIs PyProof.Rows.slot_tuple_getitem
    (wpAny_call_entry PyProof.Rows.slot_tuple_getitem ht.typeIs entry_tuple_getitem ?_ (args_tuple_getitem _ _)))
  show wpAny _ _ (Builtin.Tuple.tupleItemsOf (.ref t) >>= _) _ _ s
  refine wpAny_bind (tupleItemsOf_ ht ?_)
  refine wpAny_bind (wpAny_typeOf hTs ?_)
  rw [if_pos (by decide)]
  refine wpAny_bind (sliceApplied_gen hs pl pu ?_)
  have hyes : ((((sIx items.size 0 lo : Nat) : Int) == 0 && (1 : Int) == 1 && (sIx items.size items.size hi - sIx items.size 0 lo) == items.size) = true) := by
    rw [hw.1, hw.2]
    simp
  show wpAny _ _ (if (((sIx items.size 0 lo : Nat) : Int) == 0 && (1 : Int) == 1 && (sIx items.size items.size hi - sIx items.size 0 lo) == items.size) = true then _ else _) _ _ s
  rw [if_pos hyes]
  unfold Builtin.Tuple.tupleIsExact
  refine wpAny_bind (wpAny_bind (wpAny_typeOf ht.typeIs (wpAny_pure ?_)))
  rw [if_pos (by decide)]
  refine wpAny_bind (wpAny_rule ?_)
  first
    | exact wpAny_pure ⟨_, rfl, wpAny_pure h⟩
    | exact wpAny_bind (wpAny_pure ⟨_, rfl, wpAny_pure h⟩)
    | exact wpAny_bind (wpAny_pure (wpAny_pure ⟨_, rfl, wpAny_pure h⟩))
end
section
variable {X : Cx} {K : PySem.W.Frag} {pos : Pos}
def mDicT : TE := fun _ H Q => ∀ p H', Gro H p (.dT []) H' -> Q (.ref p) H'
theorem q_me_dicT : QE X (.Dict [] [] pos) mDicT := ⟨pe_dnewT.imp fun σ H Q q => fun p hp => q p _ (.mk' hp)⟩
def gSlT (K : PySem.W.Frag) : V -> Option Int -> Option Int -> Hp -> VK -> Prop := fun x lo hi H Q => match x with
  | .ref a => ∃ xs, SqT K H a xs /\ H a = some (.tup xs) /\ ∀ p H', Same H H' -> H' p = some (.tup (cutV xs lo hi)) -> Q (.ref p) H'
  | _ => False
theorem g_slT : SlR X (gSlT X.K) := by
  intro pins s σ H x v vl vu lo hi sl Q I rx hs pl pu q
  cases x with
  | ref a =>
    obtain ⟨xs, h1, h2, q⟩ := q
    by_cases hw : HT.sIx xs.length 0 lo = 0 /\ HT.sIx xs.length xs.length hi = xs.length
    · cases rx
      obtain ⟨its, r, ht, hz⟩ := I.tuple h1
      have hlen : its.toArray.size = xs.length := by rw [List.size_toArray]; exact r.length.symm
      refine ⟨"tuple", _, PyProof.Rows.slot_tuple_getitem.lookup, ht.typeIs, ?_⟩
      refine getItem_tuple_whole ht hs pl pu (by rw [hlen]; exact hw) ?_
      refine ⟨.ref a, H, I, rfl, q a H (Same.refl _) ?_⟩
      rw [h2]
      unfold cutV
      rw [hw.1, hw.2, List.drop_zero, List.take_of_length_le (by omega)]
    · exact sl_tup pins s σ H _ v vl vu lo hi sl Q I rx hs pl pu ⟨a, xs, rfl, h1, hw, fun p hp => q p _ (Gro.mk' hp).sm (Gro.mk' hp).at_⟩
  | _ => exact False.elim q
theorem g_slTK (h : X.K = K) : SlR X (gSlT K) := by subst h; exact g_slT
end
end L2
namespace L2
open PySem PySem.Spec PyProof.Rows
open PySem.AutoSeq1 (wpAny_loadPart')
open PySem.MeetsSeq
theorem inV_int (n : Int) (ns : List Int) : inV (.int n) (ns.map V.int) = decide (n ∈ ns) := by
  induction ns with
  | nil => rfl
  | cons m ns ih =>
    unfold inV at *
    rw [List.map_cons, List.any_cons, ih]
    simp only [eqV, List.mem_cons]
    by_cases e : m = n
    · simp [e]
    · have : ¬ n = m := fun z => e z.symm
      simp [e, this]
end L2
namespace L2
open PySem PySem.Spec PyProof.Rows
section
variable {X : Cx} {K : PySem.W.Frag}
def FlL (H : Hp) (y : V) : Prop := flatV y = true \/ ∃ a zs, y = .ref a /\ H a = some (.lst zs)
def gInB (K : PySem.W.Frag) (neg : Bool) : R2 := fun x y H Q => match y with
  | .ref p => ∃ xs n, (SqL K H p xs \/ SqT K H p xs) /\ x = .int n /\ (∀ y ∈ xs, FlL H y) /\ Q (.bl (if neg then !inV x xs else inV x xs)) H
  | _ => False
theorem mem_flL (hu : X.A.units + 64 < cLine) {pins : List (Addr × Obj)} {s : Shared} {σ : St} {H : Hp} {n : Int} {tk : Tok} (I : Inv X pins σ H s) : ∀ {xs : List V} {us : List Value}, Vals xs us -> (∀ y ∈ xs, FlL H y) -> (∀ u ∈ us, SeqAt.EqAt X.A.in1 s u (.int n tk) (eqU (.int n) u)) /\ us.any (eqU (.int n)) = inV (.int n) xs
  | _, _, .nil, _ => ⟨fun u hu => by (cases hu), rfl⟩
  | y :: xs, u :: us, .cons r t, f => by
    have hu1 : X.A.in1.units < cLine := by
      have : X.A.in1.units <= X.A.units + 1 := by first | exact Nat.le_refl _ | (unfold Around.in1; simp)
      omega
    obtain ⟨ih1, ih2⟩ := mem_flL hu (n := n) (tk := tk) I t fun y hy => f y (by simp [hy])
    have one : SeqAt.EqAt X.A.in1 s u (.int n tk) (eqU (.int n) u) /\ eqU (.int n) u = eqV y (.int n) := by
      rcases f y (by simp) with fy | ⟨a, zs, rfl, ha⟩
      · exact ⟨by rw [eqU_of r fy]; exact eqAt_V r ⟨tk, rfl⟩ fy rfl, eqU_of r fy⟩
      · cases r
        obtain ⟨its2, _, pl2, _⟩ := I.list (.of ha)
        exact ⟨SeqAt.EqAt.list_int n tk pl2.isList hu1, rfl⟩
    refine ⟨fun u' hu' => ?_, ?_⟩
    · rcases List.mem_cons.mp hu' with rfl | hu'
      · exact one.1
      · exact ih1 u' hu'
    · rw [List.any_cons, ih2, one.2]
      rfl
theorem g_inB (hu : X.A.units + 64 < cLine) : OpR X (compareOp .In) (gInB X.K false) := by
  intro pins s σ H x y v u Q I rx ry q
  cases y with
  | ref p =>
    obtain ⟨xs, n, hq, rfl, fl, q⟩ := q
    cases ry
    obtain ⟨tk, rfl⟩ := rx
    rcases hq with hq | hq
    · obtain ⟨its, r, pl, hz⟩ := I.list hq
      obtain ⟨m1, m2⟩ := mem_flL hu (n := n) (tk := tk) I r fl
      refine SeqAt.in_listAt (eqU (.int n)) pl.isList (fun w hw => m1 w (by simpa using hw)) ⟨.bl _, H, I, rfl, ?_⟩
      rw [show its.toArray.any (eqU (.int n)) = its.any (eqU (.int n)) by simp, m2]
      exact q
    · obtain ⟨its, r, pl, hz⟩ := I.tuple hq
      obtain ⟨m1, m2⟩ := mem_flL hu (n := n) (tk := tk) I r fl
      refine SeqAt.in_tupleAt (eqU (.int n)) pl (fun w hw => m1 w (by simpa using hw)) ⟨.bl _, H, I, rfl, ?_⟩
      rw [show its.toArray.any (eqU (.int n)) = its.any (eqU (.int n)) by simp, m2]
      exact q
  | _ => exact False.elim q
theorem g_notinB (hu : X.A.units + 64 < cLine) : OpR X (compareOp .NotIn) (gInB X.K true) := by
  intro pins s σ H x y v u Q I rx ry q
  cases y with
  | ref p =>
    obtain ⟨xs, n, hq, rfl, fl, q⟩ := q
    cases ry
    obtain ⟨tk, rfl⟩ := rx
    rcases hq with hq | hq
    · obtain ⟨its, r, pl, hz⟩ := I.list hq
      obtain ⟨m1, m2⟩ := mem_flL hu (n := n) (tk := tk) I r fl
      refine SeqAt.notIn_listAt (eqU (.int n)) pl.isList (fun w hw => m1 w (by simpa using hw)) ⟨.bl _, H, I, rfl, ?_⟩
      rw [show its.toArray.any (eqU (.int n)) = its.any (eqU (.int n)) by simp, m2]
      exact q
    · obtain ⟨its, r, pl, hz⟩ := I.tuple hq
      obtain ⟨m1, m2⟩ := mem_flL hu (n := n) (tk := tk) I r fl
      refine SeqAt.notIn_tupleAt (eqU (.int n)) pl (fun w hw => m1 w (by simpa using hw)) ⟨.bl _, H, I, rfl, ?_⟩
      rw [show its.toArray.any (eqU (.int n)) = its.any (eqU (.int n)) by simp, m2]
      exact q
  | _ => exact False.elim q
theorem g_inBK (h : X.K = K) (hu : X.A.units + 64 < cLine) : OpR X (compareOp .In) (gInB K false) := by subst h; exact g_inB hu
theorem g_notinBK (h : X.K = K) (hu : X.A.units + 64 < cLine) : OpR X (compareOp .NotIn) (gInB K true) := by subst h; exact g_notinB hu
end
end L2
namespace L2
open PySem PySem.Spec PyProof.Rows
def strOf? : Value -> Option Str
  | .str x _ => some x
  | _ => none
def refOf? : Value -> Option Addr
  | .ref a => some a
  | _ => none
theorem strOf?.eq {v : Value} {x : Str} (h : strOf? v = some x) : ∃ t, v = .str x t := by
  cases v <;> first | (cases h; exact ⟨_, rfl⟩) | cases h
theorem refOf?.eq {v : Value} {a : Addr} (h : refOf? v = some a) : v = .ref a := by
  cases v <;> first | (cases h; rfl) | cases h
def dictOfS : List DictEntry -> Option (List (Int × Str × Addr))
  | [] => some []
  | e :: r => (strOf? e.key).bind fun x => (refOf? e.val).bind fun a => (dictOfS r).map fun l => (e.hash, x, a) :: l
theorem dictOfS.pairs {P : Program} {w : World} : ∀ {es : List DictEntry} {m : List (Int × Str × Addr)}, dictOfS es = some m -> (∀ p ∈ m, p.1 = hashStr w p.2.1) ->
    (∀ e ∈ es, ∃ k, (mixKind P w).is k e.key = true /\ e.hash = (mixKind P w).hash k) /\ Pairs (mixKind P w) es (m.map fun p => ((Sum.inr p.2.1 : Key), Value.ref p.2.2))
  | [], m, h, _ => by cases h; exact ⟨fun _ z => (nomatch z), .nil⟩
  | e :: r, m, h, hs => by
    unfold dictOfS at h
    obtain ⟨x, hx, h⟩ := Option.bind_eq_some_iff.mp h
    obtain ⟨a, ha, h⟩ := Option.bind_eq_some_iff.mp h
    obtain ⟨l, hl, h⟩ := Option.map_eq_some_iff.mp h
    subst h
    obtain ⟨tk, ek⟩ := strOf?.eq hx
    obtain ⟨i1, i2⟩ := dictOfS.pairs (P := P) (w := w) hl fun p hp => hs p (List.mem_cons_of_mem _ hp)
    have kk : (mixKind P w).is (.inr x) e.key = true := by rw [ek]; exact mixKind_str P w x tk
    refine ⟨fun e' he => ?_, .cons kk (refOf?.eq ha) i2⟩
    rcases List.mem_cons.mp he with rfl | he
    · exact ⟨.inr x, kk, hs _ List.mem_cons_self⟩
    · exact i1 e' he
structure DctS (K : PySem.W.Frag) (w : World) (a : Addr) (m : List (Int × Str × Addr)) : Prop where
  ex : ∃ es ep, K.lookup a = some ⟨.type "dict", none, .dict es ep, #[]⟩ /\ dictOfS es.toList = some m
  hs : ∀ p ∈ m, p.1 = hashStr w p.2.1
  nd : (m.map (·.2.1)).Nodup
  ns : (a == sysModules) = false
theorem DctS.rd {K : PySem.W.Frag} {a : Addr} {m : List (Int × Str × Addr)} {P : Program} {w : World} {h : Heap} (D : DctS K w a m) (X : K.In h) : h.DictOf (mixKind P w) a (m.map fun p => ((Sum.inr p.2.1 : Key), Value.ref p.2.2)) := by
  obtain ⟨es, ep, l, e⟩ := D.ex
  obtain ⟨i1, i2⟩ := dictOfS.pairs (P := P) (w := w) e D.hs
  refine ⟨_, es, ep, X _ _ l, ⟨rfl, rfl, rfl⟩, rfl, fun e he => i1 e (Array.mem_toList_iff.mpr he), i2, ?_⟩
  rw [List.map_map]
  have : (((fun x => x.1) ∘ fun p : Int × Str × Addr => ((Sum.inr p.2.1 : Key), Value.ref p.2.2)) : Int × Str × Addr -> Key) = (fun i : Str => (Sum.inr i : Key)) ∘ (·.2.1) := rfl
  rw [this, <- List.map_map]
  exact List.Pairwise.map _ (fun a b (z : a ≠ b) (q : (Sum.inr a : Key) = Sum.inr b) => z (Sum.inr.inj q)) D.nd
def gotS (m : List (Int × Str × Addr)) (z : Str) : Option Addr := (m.find? fun p => decide (p.2.1 = z)).map (·.2.2)
theorem gotS_val : ∀ (m : List (Int × Str × Addr)) (z : Str), valueAt (m.map fun p => ((Sum.inr p.2.1 : Key), Value.ref p.2.2)) (Sum.inr z) = (gotS m z).map Value.ref
  | [], z => rfl
  | p :: m, z => by
    have ih := gotS_val m z
    unfold gotS valueAt at ih ⊢
    rw [List.map_cons, List.find?_cons, List.find?_cons]
    by_cases c : p.2.1 = z
    · have c' : (Sum.inr p.2.1 : Key) = Sum.inr z := congrArg _ c
      simp only [decide_eq_true c, decide_eq_true c', Option.map_some]
    · have c' : ¬ (Sum.inr p.2.1 : Key) = Sum.inr z := fun q => c (Sum.inr.inj q)
      simp only [decide_eq_false c, decide_eq_false c']
      exact ih
def gInS (a : Addr) (m : List (Int × Str × Addr)) (neg : Bool) : R2 := fun x y H Q => ∃ z, x = .str z /\ y = .ref a /\ Q (.bl (if neg then !(gotS m z).isSome else (gotS m z).isSome)) H
section
variable {X : Cx} {K : PySem.W.Frag} {w : World} {a : Addr} {m : List (Int × Str × Addr)}
theorem g_notinS (h : X.K = K) (hw : X.w = w) (D : DctS K w a m) : OpR X (compareOp .NotIn) (gInS a m true) := by
  subst h hw
  intro pins s σ H x y v u Q I rx ry q
  obtain ⟨z, rfl, rfl, q⟩ := q
  obtain rfl : u = Value.ref a := ry
  refine wpAny_notIn_of (kV_is (k := .inr z) rx) D.ns (D.rd (P := X.prog) (w := X.w) I.kIn).mapOf ?_
  rw [gotS_val, Option.isSome_map]
  exact ⟨.bl _, H, I.tok _, rfl, q⟩
end
structure HasD (P : Program) (w : World) (K : PySem.W.Frag) (mg : Str -> Option Value) (base : Heap) (x : Str) (k : Nat) (f : Addr) (fd : FuncData) (ps : List Str) (dvs : List V) (sp : Sp) : Prop where
  g : mg x = some (.ref f)
  kp : PySem.W.keepIn K (.ref f) = true
  b : ∃ ds, Binds K fd ps ds /\ Vals dvs ds
  ok : FnOk P w K mg base CX0 k f fd ps sp
section
variable {X : Cx} {k j : Nat} {f : Addr} {fd : FuncData} {ps : List Str} {sp : Sp} {x : Str} {p pos : Pos} {e : Expr} {es : List Expr} {t : TA} {dvs : List V}
theorem q_try0 {body : List Stmt} {h₀ : ExceptHandler} {tb : TS} (hb : ∀ pn, QSs (X.tryc pn fun _ _ => False) body tb) : QS X (.Try body [h₀] [] [] pos) tb := ⟨by
  intro pins s σ H D I h
  refine wpAny_Try_except (wpAny_mono ((hb (X.pn ++ pins)).h [] s σ H D I.tryc h) (fun f s1 q => ?_) fun v s1 q => q.elim)
  cases f with
  | next => obtain ⟨σ', H', I', q⟩ := q; exact wpAny_execs_nil ⟨σ', H', I'.untry, q⟩
  | brk => exact SP.untry (f := .brk) q
  | cont => exact SP.untry (f := .cont) q
  | ret u => exact SP.untry (f := .ret u) q⟩
end
end L2
namespace My
open PySem L2
def top (i : Nat) : Stmt := PySem.Challenge.pw_bytetongue_k65_writer_in_pieces.main.body.getD i (.Pass ⟨0, 0, 0, 0⟩)
abbrev s_NoSign_init : Stmt := inClass (top 4) 0
abbrev s_write_from : Stmt := top 11
abbrev s_Writer_init : Stmt := inClass (top 13) 0
abbrev s_Writer_page : Stmt := inClass (top 13) 1
abbrev s_Writer_feed : Stmt := inClass (top 13) 2
abbrev s_check_room : Stmt := top 15
abbrev s_parted : Stmt := top 16
abbrev s_is_number : Stmt := top 27
abbrev s_is_byte : Stmt := top 28
abbrev s_is_head : Stmt := top 29
abbrev s_is_tail : Stmt := top 30
abbrev s_is_seen_byte : Stmt := top 31
abbrev s_is_sign : Stmt := top 32
abbrev s_is_row : Stmt := top 33
abbrev s_Tongue_spell : Stmt := inClass (top 35) 3
abbrev s_length_of : Stmt := top 42
abbrev s_lead_row : Stmt := top 43
abbrev s_LeadTongue_spell : Stmt := inClass (top 49) 1
abbrev s_units_of : Stmt := top 54
abbrev s_PairTongue_init : Stmt := inClass (top 56) 0
abbrev s_PairTongue_turned : Stmt := inClass (top 56) 3
abbrev s_PairTongue_row_of : Stmt := inClass (top 56) 4
abbrev s_PairTongue_spell : Stmt := inClass (top 56) 6
abbrev s_begins : Stmt := top 58
abbrev s_places_in : Stmt := top 62
abbrev s_ShiftTongue_init : Stmt := inClass (top 63) 0
abbrev s_ShiftTongue_row_beyond : Stmt := inClass (top 63) 1
abbrev s_ShiftTongue_spell : Stmt := inClass (top 63) 6
abbrev s_is_entry : Stmt := top 67
abbrev s_collide : Stmt := top 68
abbrev s_check_table : Stmt := top 69
abbrev s_TableTongue_init : Stmt := inClass (top 70) 0
abbrev s_TableTongue_enter : Stmt := inClass (top 70) 1
abbrev s_TableTongue_spell : Stmt := inClass (top 70) 4
abbrev s_z_drawn : Stmt := top 72
abbrev s_z_is_number : Stmt := top 73
abbrev s_z_mixed : Stmt := top 74
abbrev s_z_gapped : Stmt := top 75
abbrev s_z_as_sign : Stmt := top 76
abbrev s_z_lists : Stmt := top 77
abbrev s_z_table : Stmt := top 78
abbrev s_z_model : Stmt := top 79
abbrev s_z_tongue : Stmt := top 80
abbrev s_z_lead_row : Stmt := top 82
abbrev s_z_pair_row : Stmt := top 83
abbrev s_z_spell : Stmt := top 84
abbrev s_z_text : Stmt := top 85
abbrev s_z_pieces : Stmt := top 86
abbrev s_z_lacking : Stmt := top 87
abbrev s_z_refused : Stmt := top 88
abbrev s_z_at : Stmt := top 89
abbrev s_z_fed : Stmt := top 90
abbrev s_z_tried : Stmt := top 91
abbrev s_law : Stmt := top 92
theorem sc_NoSign_init : FnScope ["self", "sign", "at"] ["self", "sign", "at"] (defScope s_NoSign_init) := ⟨rfl, rfl, rfl, by decide +kernel, rfl, by decide +kernel, by decide +kernel⟩
theorem sc_write_from : FnScope ["tongue", "text", "page", "row", "at", "sign", "spelled"] ["tongue", "text", "page"] (defScope s_write_from) := ⟨rfl, rfl, rfl, by decide +kernel, rfl, by decide +kernel, by decide +kernel⟩
theorem sc_Writer_init : FnScope ["self", "tongue"] ["self", "tongue"] (defScope s_Writer_init) := ⟨rfl, rfl, rfl, by decide +kernel, rfl, by decide +kernel, by decide +kernel⟩
theorem sc_Writer_page : FnScope ["self"] ["self"] (defScope s_Writer_page) := ⟨rfl, rfl, rfl, by decide +kernel, rfl, by decide +kernel, by decide +kernel⟩
theorem sc_Writer_feed : FnScope ["self", "text", "written"] ["self", "text"] (defScope s_Writer_feed) := ⟨rfl, rfl, rfl, by decide +kernel, rfl, by decide +kernel, by decide +kernel⟩
theorem sc_check_room : FnScope ["number", "bits"] ["number", "bits"] (defScope s_check_room) := ⟨rfl, rfl, rfl, by decide +kernel, rfl, by decide +kernel, by decide +kernel⟩
theorem sc_parted : FnScope ["number", "bits", "many", "rising", "step", "higher"] ["number", "bits", "many"] (defScope s_parted) := ⟨rfl, rfl, rfl, by decide +kernel, rfl, by decide +kernel, by decide +kernel⟩
theorem sc_is_number : FnScope ["thing"] ["thing"] (defScope s_is_number) := ⟨rfl, rfl, rfl, by decide +kernel, rfl, by decide +kernel, by decide +kernel⟩
theorem sc_is_byte : FnScope ["thing"] ["thing"] (defScope s_is_byte) := ⟨rfl, rfl, rfl, by decide +kernel, rfl, by decide +kernel, by decide +kernel⟩
theorem sc_is_head : FnScope ["number"] ["number"] (defScope s_is_head) := ⟨rfl, rfl, rfl, by decide +kernel, rfl, by decide +kernel, by decide +kernel⟩
theorem sc_is_tail : FnScope ["number"] ["number"] (defScope s_is_tail) := ⟨rfl, rfl, rfl, by decide +kernel, rfl, by decide +kernel, by decide +kernel⟩
theorem sc_is_seen_byte : FnScope ["thing"] ["thing"] (defScope s_is_seen_byte) := ⟨rfl, rfl, rfl, by decide +kernel, rfl, by decide +kernel, by decide +kernel⟩
theorem sc_is_sign : FnScope ["thing"] ["thing"] (defScope s_is_sign) := ⟨rfl, rfl, rfl, by decide +kernel, rfl, by decide +kernel, by decide +kernel⟩
theorem sc_is_row : FnScope ["thing"] ["thing"] (defScope s_is_row) := ⟨rfl, rfl, rfl, by decide +kernel, rfl, by decide +kernel, by decide +kernel⟩
theorem sc_Tongue_spell : FnScope ["self", "sign", "page"] ["self", "sign", "page"] (defScope s_Tongue_spell) := ⟨rfl, rfl, rfl, by decide +kernel, rfl, by decide +kernel, by decide +kernel⟩
theorem sc_length_of : FnScope ["sign"] ["sign"] (defScope s_length_of) := ⟨rfl, rfl, rfl, by decide +kernel, rfl, by decide +kernel, by decide +kernel⟩
theorem sc_lead_row : FnScope ["sign", "length", "parts"] ["sign"] (defScope s_lead_row) := ⟨rfl, rfl, rfl, by decide +kernel, rfl, by decide +kernel, by decide +kernel⟩
theorem sc_LeadTongue_spell : FnScope ["self", "sign", "page"] ["self", "sign", "page"] (defScope s_LeadTongue_spell) := ⟨rfl, rfl, rfl, by decide +kernel, rfl, by decide +kernel, by decide +kernel⟩
theorem sc_units_of : FnScope ["sign", "parts"] ["sign"] (defScope s_units_of) := ⟨rfl, rfl, rfl, by decide +kernel, rfl, by decide +kernel, by decide +kernel⟩
theorem sc_PairTongue_init : FnScope ["self", "order"] ["self", "order"] (defScope s_PairTongue_init) := ⟨rfl, rfl, rfl, by decide +kernel, rfl, by decide +kernel, by decide +kernel⟩
theorem sc_PairTongue_turned : FnScope ["self", "pair"] ["self", "pair"] (defScope s_PairTongue_turned) := ⟨rfl, rfl, rfl, by decide +kernel, rfl, by decide +kernel, by decide +kernel⟩
theorem sc_PairTongue_row_of : FnScope ["self", "units", "row", "number"] ["self", "units"] (defScope s_PairTongue_row_of) := ⟨rfl, rfl, rfl, by decide +kernel, rfl, by decide +kernel, by decide +kernel⟩
theorem sc_PairTongue_spell : FnScope ["self", "sign", "page"] ["self", "sign", "page"] (defScope s_PairTongue_spell) := ⟨rfl, rfl, rfl, by decide +kernel, rfl, by decide +kernel, by decide +kernel⟩
theorem sc_begins : FnScope ["one", "other"] ["one", "other"] (defScope s_begins) := ⟨rfl, rfl, rfl, by decide +kernel, rfl, by decide +kernel, by decide +kernel⟩
theorem sc_places_in : FnScope ["signs", "which", "places", "place", "sign"] ["signs", "which"] (defScope s_places_in) := ⟨rfl, rfl, rfl, by decide +kernel, rfl, by decide +kernel, by decide +kernel⟩
theorem sc_ShiftTongue_init : FnScope ["self", "first", "second"] ["self", "first", "second"] (defScope s_ShiftTongue_init) := ⟨rfl, rfl, rfl, by decide +kernel, rfl, by decide +kernel, by decide +kernel⟩
theorem sc_ShiftTongue_row_beyond : FnScope ["self", "page", "place", "sign"] ["self", "page"] (defScope s_ShiftTongue_row_beyond) := ⟨rfl, rfl, rfl, by decide +kernel, rfl, by decide +kernel, by decide +kernel⟩
theorem sc_ShiftTongue_spell : FnScope ["self", "sign", "page"] ["self", "sign", "page"] (defScope s_ShiftTongue_spell) := ⟨rfl, rfl, rfl, by decide +kernel, rfl, by decide +kernel, by decide +kernel⟩
theorem sc_is_entry : FnScope ["thing"] ["thing"] (defScope s_is_entry) := ⟨rfl, rfl, rfl, by decide +kernel, rfl, by decide +kernel, by decide +kernel⟩
theorem sc_collide : FnScope ["one", "other"] ["one", "other"] (defScope s_collide) := ⟨rfl, rfl, rfl, by decide +kernel, rfl, by decide +kernel, by decide +kernel⟩
theorem sc_check_table : FnScope ["rows", "other", "entry", "one", "earlier"] ["rows"] (defScope s_check_table) := ⟨rfl, rfl, rfl, by decide +kernel, rfl, by decide +kernel, by decide +kernel⟩
theorem sc_TableTongue_init : FnScope ["self", "rows", "entry"] ["self", "rows"] (defScope s_TableTongue_init) := ⟨rfl, rfl, rfl, by decide +kernel, rfl, by decide +kernel, by decide +kernel⟩
theorem sc_TableTongue_enter : FnScope ["self", "sign", "row", "size"] ["self", "sign", "row"] (defScope s_TableTongue_enter) := ⟨rfl, rfl, rfl, by decide +kernel, rfl, by decide +kernel, by decide +kernel⟩
theorem sc_TableTongue_spell : FnScope ["self", "sign", "page"] ["self", "sign", "page"] (defScope s_TableTongue_spell) := ⟨rfl, rfl, rfl, by decide +kernel, rfl, by decide +kernel, by decide +kernel⟩
theorem sc_z_drawn : FnScope ["_law_script", "_law_at_here"] ["_law_script", "_law_at_here"] (defScope s_z_drawn) := ⟨rfl, rfl, rfl, by decide +kernel, rfl, by decide +kernel, by decide +kernel⟩
theorem sc_z_is_number : FnScope ["_law_found"] ["_law_found"] (defScope s_z_is_number) := ⟨rfl, rfl, rfl, by decide +kernel, rfl, by decide +kernel, by decide +kernel⟩
theorem sc_z_mixed : FnScope ["_law_number", "_law_k"] ["_law_number", "_law_k"] (defScope s_z_mixed) := ⟨rfl, rfl, rfl, by decide +kernel, rfl, by decide +kernel, by decide +kernel⟩
theorem sc_z_gapped : FnScope ["_law_number", "_law_sign"] ["_law_number"] (defScope s_z_gapped) := ⟨rfl, rfl, rfl, by decide +kernel, rfl, by decide +kernel, by decide +kernel⟩
theorem sc_z_as_sign : FnScope ["_law_number", "_law_edges"] ["_law_number"] (defScope s_z_as_sign) := ⟨rfl, rfl, rfl, by decide +kernel, rfl, by decide +kernel, by decide +kernel⟩
theorem sc_z_lists : FnScope ["_law_number", "_law_sizes", "_law_base", "_law_first", "_law_second"] ["_law_number"] (defScope s_z_lists) := ⟨rfl, rfl, rfl, by decide +kernel, rfl, by decide +kernel, by decide +kernel⟩
theorem sc_z_table : FnScope ["_law_number", "_law_signs", "_law_rows", "_law_k", "_law_far", "_law_row"] ["_law_number"] (defScope s_z_table) := ⟨rfl, rfl, rfl, by decide +kernel, rfl, by decide +kernel, by decide +kernel⟩
theorem sc_z_model : FnScope ["_law_cell", "_law_number", "_law_first", "_law_second", "_law_signs", "_law_rows"] ["_law_cell"] (defScope s_z_model) := ⟨rfl, rfl, rfl, by decide +kernel, rfl, by decide +kernel, by decide +kernel⟩
theorem sc_z_tongue : FnScope ["_law_model_here", "_law_word", "_law_first", "_law_second"] ["_law_model_here"] (defScope s_z_tongue) := ⟨rfl, rfl, rfl, by decide +kernel, rfl, by decide +kernel, by decide +kernel⟩
theorem sc_z_lead_row : FnScope ["_law_sign"] ["_law_sign"] (defScope s_z_lead_row) := ⟨rfl, rfl, rfl, by decide +kernel, rfl, by decide +kernel, by decide +kernel⟩
theorem sc_z_pair_row : FnScope ["_law_sign", "_law_word", "_law_units", "_law_row", "_law_number"] ["_law_sign", "_law_word"] (defScope s_z_pair_row) := ⟨rfl, rfl, rfl, by decide +kernel, rfl, by decide +kernel, by decide +kernel⟩
theorem sc_z_spell : FnScope ["_law_model_here", "_law_sign", "_law_page", "_law_word", "_law_first", "_law_second"] ["_law_model_here", "_law_sign", "_law_page"] (defScope s_z_spell) := ⟨rfl, rfl, rfl, by decide +kernel, rfl, by decide +kernel, by decide +kernel⟩
theorem sc_z_text : FnScope ["_law_model_here", "_law_cells", "_law_word", "_law_first", "_law_second", "_law_some"] ["_law_model_here", "_law_cells"] (defScope s_z_text) := ⟨rfl, rfl, rfl, by decide +kernel, rfl, by decide +kernel, by decide +kernel⟩
theorem sc_z_pieces : FnScope ["_law_row", "_law_cell", "_law_pieces_here", "_law_at_here", "_law_number", "_law_size"] ["_law_row", "_law_cell"] (defScope s_z_pieces) := ⟨rfl, rfl, rfl, by decide +kernel, rfl, by decide +kernel, by decide +kernel⟩
theorem sc_z_lacking : FnScope ["_law_model_here", "_law_cell", "_law_thing"] ["_law_model_here", "_law_cell"] (defScope s_z_lacking) := ⟨rfl, rfl, rfl, by decide +kernel, rfl, by decide +kernel, by decide +kernel⟩
theorem sc_z_refused : FnScope ["_law_writer", "_law_piece", "_law_told", "_law_handed", "e"] ["_law_writer", "_law_piece"] (defScope s_z_refused) := ⟨rfl, rfl, rfl, by decide +kernel, rfl, by decide +kernel, by decide +kernel⟩
theorem sc_z_at : FnScope ["_law_writer", "_law_piece", "_law_told", "e"] ["_law_writer", "_law_piece"] (defScope s_z_at) := ⟨rfl, rfl, rfl, by decide +kernel, rfl, by decide +kernel, by decide +kernel⟩
theorem sc_z_fed : FnScope ["_law_writer", "_law_model_here", "_law_piece", "_law_page", "_law_told", "_law_row", "_law_sign", "_law_part", "_law_handed", "_law_found"] ["_law_writer", "_law_model_here", "_law_piece", "_law_page", "_law_told"] (defScope s_z_fed) := ⟨rfl, rfl, rfl, by decide +kernel, rfl, by decide +kernel, by decide +kernel⟩
theorem sc_z_tried : FnScope ["_law_writer", "_law_piece", "_law_thing", "_law_cell", "_law_page", "_law_at_here", "_law_bad", "_law_told"] ["_law_writer", "_law_piece", "_law_thing", "_law_cell", "_law_page"] (defScope s_z_tried) := ⟨rfl, rfl, rfl, by decide +kernel, rfl, by decide +kernel, by decide +kernel⟩
theorem sc_law : FnScope ["_law_script", "_law_model_here", "_law_text_here", "_law_tongue_here", "_law_writer", "_law_beside", "_law_thing", "_law_tries", "_law_page", "_law_told", "_law_k", "_law_piece"] ["_law_script"] (defScope s_law) := ⟨rfl, rfl, rfl, by decide +kernel, rfl, by decide +kernel, by decide +kernel⟩
set_option genInjectivity false in
structure Adr where
  a_NoSign_init : Addr
  f_NoSign_init : FuncData
  a_write_from : Addr
  f_write_from : FuncData
  a_Writer_init : Addr
  f_Writer_init : FuncData
  a_Writer_page : Addr
  f_Writer_page : FuncData
  a_Writer_feed : Addr
  f_Writer_feed : FuncData
  a_check_room : Addr
  f_check_room : FuncData
  a_parted : Addr
  f_parted : FuncData
  a_is_number : Addr
  f_is_number : FuncData
  a_is_byte : Addr
  f_is_byte : FuncData
  a_is_head : Addr
  f_is_head : FuncData
  a_is_tail : Addr
  f_is_tail : FuncData
  a_is_seen_byte : Addr
  f_is_seen_byte : FuncData
  a_is_sign : Addr
  f_is_sign : FuncData
  a_is_row : Addr
  f_is_row : FuncData
  a_Tongue_spell : Addr
  f_Tongue_spell : FuncData
  ud_Tongue_spell_0 : Tok
  a_length_of : Addr
  f_length_of : FuncData
  a_lead_row : Addr
  f_lead_row : FuncData
  a_LeadTongue_spell : Addr
  f_LeadTongue_spell : FuncData
  ud_LeadTongue_spell_0 : Tok
  a_units_of : Addr
  f_units_of : FuncData
  a_PairTongue_init : Addr
  f_PairTongue_init : FuncData
  ud_PairTongue_init_0 : Tok
  a_PairTongue_turned : Addr
  f_PairTongue_turned : FuncData
  a_PairTongue_row_of : Addr
  f_PairTongue_row_of : FuncData
  a_PairTongue_spell : Addr
  f_PairTongue_spell : FuncData
  ud_PairTongue_spell_0 : Tok
  a_begins : Addr
  f_begins : FuncData
  a_places_in : Addr
  f_places_in : FuncData
  a_ShiftTongue_init : Addr
  f_ShiftTongue_init : FuncData
  a_ShiftTongue_row_beyond : Addr
  f_ShiftTongue_row_beyond : FuncData
  a_ShiftTongue_spell : Addr
  f_ShiftTongue_spell : FuncData
  ud_ShiftTongue_spell_0 : Tok
  a_is_entry : Addr
  f_is_entry : FuncData
  a_collide : Addr
  f_collide : FuncData
  a_check_table : Addr
  f_check_table : FuncData
  a_TableTongue_init : Addr
  f_TableTongue_init : FuncData
  a_TableTongue_enter : Addr
  f_TableTongue_enter : FuncData
  a_TableTongue_spell : Addr
  f_TableTongue_spell : FuncData
  ud_TableTongue_spell_0 : Tok
  a_z_drawn : Addr
  f_z_drawn : FuncData
  a_z_is_number : Addr
  f_z_is_number : FuncData
  a_z_mixed : Addr
  f_z_mixed : FuncData
  a_z_gapped : Addr
  f_z_gapped : FuncData
  a_z_as_sign : Addr
  f_z_as_sign : FuncData
  a_z_lists : Addr
  f_z_lists : FuncData
  a_z_table : Addr
  f_z_table : FuncData
  a_z_model : Addr
  f_z_model : FuncData
  a_z_tongue : Addr
  f_z_tongue : FuncData
  a_z_lead_row : Addr
  f_z_lead_row : FuncData
  a_z_pair_row : Addr
  f_z_pair_row : FuncData
  a_z_spell : Addr
  f_z_spell : FuncData
  a_z_text : Addr
  f_z_text : FuncData
  a_z_pieces : Addr
  f_z_pieces : FuncData
  a_z_lacking : Addr
  f_z_lacking : FuncData
  a_z_refused : Addr
  f_z_refused : FuncData
  a_z_at : Addr
  f_z_at : FuncData
  a_z_fed : Addr
  f_z_fed : FuncData
  a_z_tried : Addr
  f_z_tried : FuncData
  a_law : Addr
  f_law : FuncData
  c_Writer : Addr
  c_Tongue : Addr
  c_LeadTongue : Addr
  c_PairTongue : Addr
  c_ShiftTongue : Addr
  c_TableTongue : Addr
  e_BadLetters : Addr
  e_BadPage : Addr
  e_BadTable : Addr
  e_Faulty : Addr
  e_NoOrder : Addr
  e_NoSign : Addr
  e_TongueError : Addr
  e_TooGreat : Addr
  u_BITS : Tok
  u_BYTE_BITS : Tok
  a_FILLS : Addr
  h_FILLS_0 : Int
  a_FILLS_0 : Addr
  h_FILLS_1 : Int
  a_FILLS_1 : Addr
  u_FIRST_BEHIND : Tok
  u_FIRST_HEAD : Tok
  u_FIRST_SEEN : Tok
  u_FIRST_TAIL : Tok
  u_FIRST_WIDE : Tok
  u_HALF_BITS : Tok
  u_LAST_BYTE : Tok
  u_LAST_SEEN : Tok
  u_LAST_SIGN : Tok
  u_LAST_TAIL : Tok
  a_LEADS : Addr
  u_MOST_BYTES : Tok
  u_MOST_SIGNS : Tok
  u_MOST_TUPLES : Tok
  a_SHIFTS : Addr
structure Txt (w : World) (K : PySem.W.Frag) (mg : Str -> Option Value) (t : Adr) : Prop where
  F_NoSign_init : Fun K "__init__" "NoSign.__init__" s_NoSign_init t.a_NoSign_init t.f_NoSign_init
  b_NoSign_init : Binds K t.f_NoSign_init ["self", "sign", "at"] []
  F_write_from : Fun K "write_from" "write_from" s_write_from t.a_write_from t.f_write_from
  b_write_from : Binds K t.f_write_from ["tongue", "text", "page"] []
  g_write_from : mg "write_from" = some (.ref t.a_write_from)
  F_Writer_init : Fun K "__init__" "Writer.__init__" s_Writer_init t.a_Writer_init t.f_Writer_init
  b_Writer_init : Binds K t.f_Writer_init ["self", "tongue"] []
  F_Writer_page : Fun K "page" "Writer.page" s_Writer_page t.a_Writer_page t.f_Writer_page
  b_Writer_page : Binds K t.f_Writer_page ["self"] []
  F_Writer_feed : Fun K "feed" "Writer.feed" s_Writer_feed t.a_Writer_feed t.f_Writer_feed
  b_Writer_feed : Binds K t.f_Writer_feed ["self", "text"] []
  F_check_room : Fun K "check_room" "check_room" s_check_room t.a_check_room t.f_check_room
  b_check_room : Binds K t.f_check_room ["number", "bits"] []
  g_check_room : mg "check_room" = some (.ref t.a_check_room)
  F_parted : Fun K "parted" "parted" s_parted t.a_parted t.f_parted
  b_parted : Binds K t.f_parted ["number", "bits", "many"] []
  g_parted : mg "parted" = some (.ref t.a_parted)
  F_is_number : Fun K "is_number" "is_number" s_is_number t.a_is_number t.f_is_number
  b_is_number : Binds K t.f_is_number ["thing"] []
  g_is_number : mg "is_number" = some (.ref t.a_is_number)
  F_is_byte : Fun K "is_byte" "is_byte" s_is_byte t.a_is_byte t.f_is_byte
  b_is_byte : Binds K t.f_is_byte ["thing"] []
  g_is_byte : mg "is_byte" = some (.ref t.a_is_byte)
  F_is_head : Fun K "is_head" "is_head" s_is_head t.a_is_head t.f_is_head
  b_is_head : Binds K t.f_is_head ["number"] []
  g_is_head : mg "is_head" = some (.ref t.a_is_head)
  F_is_tail : Fun K "is_tail" "is_tail" s_is_tail t.a_is_tail t.f_is_tail
  b_is_tail : Binds K t.f_is_tail ["number"] []
  g_is_tail : mg "is_tail" = some (.ref t.a_is_tail)
  F_is_seen_byte : Fun K "is_seen_byte" "is_seen_byte" s_is_seen_byte t.a_is_seen_byte t.f_is_seen_byte
  b_is_seen_byte : Binds K t.f_is_seen_byte ["thing"] []
  g_is_seen_byte : mg "is_seen_byte" = some (.ref t.a_is_seen_byte)
  F_is_sign : Fun K "is_sign" "is_sign" s_is_sign t.a_is_sign t.f_is_sign
  b_is_sign : Binds K t.f_is_sign ["thing"] []
  g_is_sign : mg "is_sign" = some (.ref t.a_is_sign)
  F_is_row : Fun K "is_row" "is_row" s_is_row t.a_is_row t.f_is_row
  b_is_row : Binds K t.f_is_row ["thing"] []
  g_is_row : mg "is_row" = some (.ref t.a_is_row)
  F_Tongue_spell : FunD K "spell" "Tongue.spell" s_Tongue_spell t.a_Tongue_spell t.f_Tongue_spell [.int 0 t.ud_Tongue_spell_0]
  bd_Tongue_spell : Binds K t.f_Tongue_spell ["self", "sign", "page"] [.int 0 t.ud_Tongue_spell_0]
  b_Tongue_spell : Binds K t.f_Tongue_spell ["self", "sign", "page"] []
  F_length_of : Fun K "length_of" "length_of" s_length_of t.a_length_of t.f_length_of
  b_length_of : Binds K t.f_length_of ["sign"] []
  g_length_of : mg "length_of" = some (.ref t.a_length_of)
  F_lead_row : Fun K "lead_row" "lead_row" s_lead_row t.a_lead_row t.f_lead_row
  b_lead_row : Binds K t.f_lead_row ["sign"] []
  g_lead_row : mg "lead_row" = some (.ref t.a_lead_row)
  F_LeadTongue_spell : FunD K "spell" "LeadTongue.spell" s_LeadTongue_spell t.a_LeadTongue_spell t.f_LeadTongue_spell [.int 0 t.ud_LeadTongue_spell_0]
  bd_LeadTongue_spell : Binds K t.f_LeadTongue_spell ["self", "sign", "page"] [.int 0 t.ud_LeadTongue_spell_0]
  b_LeadTongue_spell : Binds K t.f_LeadTongue_spell ["self", "sign", "page"] []
  F_units_of : Fun K "units_of" "units_of" s_units_of t.a_units_of t.f_units_of
  b_units_of : Binds K t.f_units_of ["sign"] []
  g_units_of : mg "units_of" = some (.ref t.a_units_of)
  F_PairTongue_init : FunD K "__init__" "PairTongue.__init__" s_PairTongue_init t.a_PairTongue_init t.f_PairTongue_init [.str "high" t.ud_PairTongue_init_0]
  bd_PairTongue_init : Binds K t.f_PairTongue_init ["self", "order"] [.str "high" t.ud_PairTongue_init_0]
  b_PairTongue_init : Binds K t.f_PairTongue_init ["self", "order"] []
  F_PairTongue_turned : Fun K "turned" "PairTongue.turned" s_PairTongue_turned t.a_PairTongue_turned t.f_PairTongue_turned
  b_PairTongue_turned : Binds K t.f_PairTongue_turned ["self", "pair"] []
  F_PairTongue_row_of : Fun K "row_of" "PairTongue.row_of" s_PairTongue_row_of t.a_PairTongue_row_of t.f_PairTongue_row_of
  b_PairTongue_row_of : Binds K t.f_PairTongue_row_of ["self", "units"] []
  F_PairTongue_spell : FunD K "spell" "PairTongue.spell" s_PairTongue_spell t.a_PairTongue_spell t.f_PairTongue_spell [.int 0 t.ud_PairTongue_spell_0]
  bd_PairTongue_spell : Binds K t.f_PairTongue_spell ["self", "sign", "page"] [.int 0 t.ud_PairTongue_spell_0]
  b_PairTongue_spell : Binds K t.f_PairTongue_spell ["self", "sign", "page"] []
  F_begins : Fun K "begins" "begins" s_begins t.a_begins t.f_begins
  b_begins : Binds K t.f_begins ["one", "other"] []
  g_begins : mg "begins" = some (.ref t.a_begins)
  F_places_in : Fun K "places_in" "places_in" s_places_in t.a_places_in t.f_places_in
  b_places_in : Binds K t.f_places_in ["signs", "which"] []
  g_places_in : mg "places_in" = some (.ref t.a_places_in)
  F_ShiftTongue_init : Fun K "__init__" "ShiftTongue.__init__" s_ShiftTongue_init t.a_ShiftTongue_init t.f_ShiftTongue_init
  b_ShiftTongue_init : Binds K t.f_ShiftTongue_init ["self", "first", "second"] []
  F_ShiftTongue_row_beyond : Fun K "row_beyond" "ShiftTongue.row_beyond" s_ShiftTongue_row_beyond t.a_ShiftTongue_row_beyond t.f_ShiftTongue_row_beyond
  b_ShiftTongue_row_beyond : Binds K t.f_ShiftTongue_row_beyond ["self", "page"] []
  F_ShiftTongue_spell : FunD K "spell" "ShiftTongue.spell" s_ShiftTongue_spell t.a_ShiftTongue_spell t.f_ShiftTongue_spell [.int 0 t.ud_ShiftTongue_spell_0]
  bd_ShiftTongue_spell : Binds K t.f_ShiftTongue_spell ["self", "sign", "page"] [.int 0 t.ud_ShiftTongue_spell_0]
  b_ShiftTongue_spell : Binds K t.f_ShiftTongue_spell ["self", "sign", "page"] []
  F_is_entry : Fun K "is_entry" "is_entry" s_is_entry t.a_is_entry t.f_is_entry
  b_is_entry : Binds K t.f_is_entry ["thing"] []
  g_is_entry : mg "is_entry" = some (.ref t.a_is_entry)
  F_collide : Fun K "collide" "collide" s_collide t.a_collide t.f_collide
  b_collide : Binds K t.f_collide ["one", "other"] []
  g_collide : mg "collide" = some (.ref t.a_collide)
  F_check_table : Fun K "check_table" "check_table" s_check_table t.a_check_table t.f_check_table
  b_check_table : Binds K t.f_check_table ["rows"] []
  g_check_table : mg "check_table" = some (.ref t.a_check_table)
  F_TableTongue_init : Fun K "__init__" "TableTongue.__init__" s_TableTongue_init t.a_TableTongue_init t.f_TableTongue_init
  b_TableTongue_init : Binds K t.f_TableTongue_init ["self", "rows"] []
  F_TableTongue_enter : Fun K "enter" "TableTongue.enter" s_TableTongue_enter t.a_TableTongue_enter t.f_TableTongue_enter
  b_TableTongue_enter : Binds K t.f_TableTongue_enter ["self", "sign", "row"] []
  F_TableTongue_spell : FunD K "spell" "TableTongue.spell" s_TableTongue_spell t.a_TableTongue_spell t.f_TableTongue_spell [.int 0 t.ud_TableTongue_spell_0]
  bd_TableTongue_spell : Binds K t.f_TableTongue_spell ["self", "sign", "page"] [.int 0 t.ud_TableTongue_spell_0]
  b_TableTongue_spell : Binds K t.f_TableTongue_spell ["self", "sign", "page"] []
  F_z_drawn : Fun K "_law_drawn" "_law_drawn" s_z_drawn t.a_z_drawn t.f_z_drawn
  b_z_drawn : Binds K t.f_z_drawn ["_law_script", "_law_at_here"] []
  g_z_drawn : mg "_law_drawn" = some (.ref t.a_z_drawn)
  F_z_is_number : Fun K "_law_is_number" "_law_is_number" s_z_is_number t.a_z_is_number t.f_z_is_number
  b_z_is_number : Binds K t.f_z_is_number ["_law_found"] []
  g_z_is_number : mg "_law_is_number" = some (.ref t.a_z_is_number)
  F_z_mixed : Fun K "_law_mixed" "_law_mixed" s_z_mixed t.a_z_mixed t.f_z_mixed
  b_z_mixed : Binds K t.f_z_mixed ["_law_number", "_law_k"] []
  g_z_mixed : mg "_law_mixed" = some (.ref t.a_z_mixed)
  F_z_gapped : Fun K "_law_gapped" "_law_gapped" s_z_gapped t.a_z_gapped t.f_z_gapped
  b_z_gapped : Binds K t.f_z_gapped ["_law_number"] []
  g_z_gapped : mg "_law_gapped" = some (.ref t.a_z_gapped)
  F_z_as_sign : Fun K "_law_as_sign" "_law_as_sign" s_z_as_sign t.a_z_as_sign t.f_z_as_sign
  b_z_as_sign : Binds K t.f_z_as_sign ["_law_number"] []
  g_z_as_sign : mg "_law_as_sign" = some (.ref t.a_z_as_sign)
  F_z_lists : Fun K "_law_lists" "_law_lists" s_z_lists t.a_z_lists t.f_z_lists
  b_z_lists : Binds K t.f_z_lists ["_law_number"] []
  g_z_lists : mg "_law_lists" = some (.ref t.a_z_lists)
  F_z_table : Fun K "_law_table" "_law_table" s_z_table t.a_z_table t.f_z_table
  b_z_table : Binds K t.f_z_table ["_law_number"] []
  g_z_table : mg "_law_table" = some (.ref t.a_z_table)
  F_z_model : Fun K "_law_model" "_law_model" s_z_model t.a_z_model t.f_z_model
  b_z_model : Binds K t.f_z_model ["_law_cell"] []
  g_z_model : mg "_law_model" = some (.ref t.a_z_model)
  F_z_tongue : Fun K "_law_tongue" "_law_tongue" s_z_tongue t.a_z_tongue t.f_z_tongue
  b_z_tongue : Binds K t.f_z_tongue ["_law_model_here"] []
  g_z_tongue : mg "_law_tongue" = some (.ref t.a_z_tongue)
  F_z_lead_row : Fun K "_law_lead_row" "_law_lead_row" s_z_lead_row t.a_z_lead_row t.f_z_lead_row
  b_z_lead_row : Binds K t.f_z_lead_row ["_law_sign"] []
  g_z_lead_row : mg "_law_lead_row" = some (.ref t.a_z_lead_row)
  F_z_pair_row : Fun K "_law_pair_row" "_law_pair_row" s_z_pair_row t.a_z_pair_row t.f_z_pair_row
  b_z_pair_row : Binds K t.f_z_pair_row ["_law_sign", "_law_word"] []
  g_z_pair_row : mg "_law_pair_row" = some (.ref t.a_z_pair_row)
  F_z_spell : Fun K "_law_spell" "_law_spell" s_z_spell t.a_z_spell t.f_z_spell
  b_z_spell : Binds K t.f_z_spell ["_law_model_here", "_law_sign", "_law_page"] []
  g_z_spell : mg "_law_spell" = some (.ref t.a_z_spell)
  F_z_text : Fun K "_law_text" "_law_text" s_z_text t.a_z_text t.f_z_text
  b_z_text : Binds K t.f_z_text ["_law_model_here", "_law_cells"] []
  g_z_text : mg "_law_text" = some (.ref t.a_z_text)
  F_z_pieces : Fun K "_law_pieces" "_law_pieces" s_z_pieces t.a_z_pieces t.f_z_pieces
  b_z_pieces : Binds K t.f_z_pieces ["_law_row", "_law_cell"] []
  g_z_pieces : mg "_law_pieces" = some (.ref t.a_z_pieces)
  F_z_lacking : Fun K "_law_lacking" "_law_lacking" s_z_lacking t.a_z_lacking t.f_z_lacking
  b_z_lacking : Binds K t.f_z_lacking ["_law_model_here", "_law_cell"] []
  g_z_lacking : mg "_law_lacking" = some (.ref t.a_z_lacking)
  F_z_refused : Fun K "_law_refused" "_law_refused" s_z_refused t.a_z_refused t.f_z_refused
  b_z_refused : Binds K t.f_z_refused ["_law_writer", "_law_piece"] []
  g_z_refused : mg "_law_refused" = some (.ref t.a_z_refused)
  F_z_at : Fun K "_law_at" "_law_at" s_z_at t.a_z_at t.f_z_at
  b_z_at : Binds K t.f_z_at ["_law_writer", "_law_piece"] []
  g_z_at : mg "_law_at" = some (.ref t.a_z_at)
  F_z_fed : Fun K "_law_fed" "_law_fed" s_z_fed t.a_z_fed t.f_z_fed
  b_z_fed : Binds K t.f_z_fed ["_law_writer", "_law_model_here", "_law_piece", "_law_page", "_law_told"] []
  g_z_fed : mg "_law_fed" = some (.ref t.a_z_fed)
  F_z_tried : Fun K "_law_tried" "_law_tried" s_z_tried t.a_z_tried t.f_z_tried
  b_z_tried : Binds K t.f_z_tried ["_law_writer", "_law_piece", "_law_thing", "_law_cell", "_law_page"] []
  g_z_tried : mg "_law_tried" = some (.ref t.a_z_tried)
  F_law : Fun K "law" "law" s_law t.a_law t.f_law
  b_law : Binds K t.f_law ["_law_script"] []
  g_law : mg "law" = some (.ref t.a_law)
  gc_Writer : mg "Writer" = some (.ref t.c_Writer)
  cls_Writer : Cls K t.c_Writer
  mk_Writer : Mk K t.c_Writer t.a_Writer_init
  mt_Writer_page : Meth K t.c_Writer "page" t.a_Writer_page
  mt_Writer_feed : Meth K t.c_Writer "feed" t.a_Writer_feed
  na_Writer_at_page : NoAttr K t.c_Writer "at_page"
  na_Writer_tongue : NoAttr K t.c_Writer "tongue"
  ty_Writer : ∀ H a dx fs, H a = some (.ins t.c_Writer dx fs) -> TyOf K H (.ref a) (.ref t.c_Writer)
  gc_Tongue : mg "Tongue" = some (.ref t.c_Tongue)
  cls_Tongue : Cls K t.c_Tongue
  mk0_Tongue : Mk0 K t.c_Tongue
  mt_Tongue_spell : Meth K t.c_Tongue "spell" t.a_Tongue_spell
  ty_Tongue : ∀ H a dx fs, H a = some (.ins t.c_Tongue dx fs) -> TyOf K H (.ref a) (.ref t.c_Tongue)
  gc_LeadTongue : mg "LeadTongue" = some (.ref t.c_LeadTongue)
  cls_LeadTongue : Cls K t.c_LeadTongue
  mk0_LeadTongue : Mk0 K t.c_LeadTongue
  mt_LeadTongue_spell : Meth K t.c_LeadTongue "spell" t.a_LeadTongue_spell
  ty_LeadTongue : ∀ H a dx fs, H a = some (.ins t.c_LeadTongue dx fs) -> TyOf K H (.ref a) (.ref t.c_LeadTongue)
  gc_PairTongue : mg "PairTongue" = some (.ref t.c_PairTongue)
  cls_PairTongue : Cls K t.c_PairTongue
  mk_PairTongue : Mk K t.c_PairTongue t.a_PairTongue_init
  mt_PairTongue_turned : Meth K t.c_PairTongue "turned" t.a_PairTongue_turned
  mt_PairTongue_row_of : Meth K t.c_PairTongue "row_of" t.a_PairTongue_row_of
  mt_PairTongue_spell : Meth K t.c_PairTongue "spell" t.a_PairTongue_spell
  na_PairTongue_order : NoAttr K t.c_PairTongue "order"
  ty_PairTongue : ∀ H a dx fs, H a = some (.ins t.c_PairTongue dx fs) -> TyOf K H (.ref a) (.ref t.c_PairTongue)
  gc_ShiftTongue : mg "ShiftTongue" = some (.ref t.c_ShiftTongue)
  cls_ShiftTongue : Cls K t.c_ShiftTongue
  mk_ShiftTongue : Mk K t.c_ShiftTongue t.a_ShiftTongue_init
  mt_ShiftTongue_row_beyond : Meth K t.c_ShiftTongue "row_beyond" t.a_ShiftTongue_row_beyond
  mt_ShiftTongue_spell : Meth K t.c_ShiftTongue "spell" t.a_ShiftTongue_spell
  na_ShiftTongue_lists : NoAttr K t.c_ShiftTongue "lists"
  na_ShiftTongue_places : NoAttr K t.c_ShiftTongue "places"
  na_ShiftTongue_shifted : NoAttr K t.c_ShiftTongue "shifted"
  ty_ShiftTongue : ∀ H a dx fs, H a = some (.ins t.c_ShiftTongue dx fs) -> TyOf K H (.ref a) (.ref t.c_ShiftTongue)
  gc_TableTongue : mg "TableTongue" = some (.ref t.c_TableTongue)
  cls_TableTongue : Cls K t.c_TableTongue
  mk_TableTongue : Mk K t.c_TableTongue t.a_TableTongue_init
  mt_TableTongue_enter : Meth K t.c_TableTongue "enter" t.a_TableTongue_enter
  mt_TableTongue_spell : Meth K t.c_TableTongue "spell" t.a_TableTongue_spell
  na_TableTongue_rest_by_row : NoAttr K t.c_TableTongue "rest_by_row"
  na_TableTongue_row_by_sign : NoAttr K t.c_TableTongue "row_by_sign"
  na_TableTongue_sign_by_row : NoAttr K t.c_TableTongue "sign_by_row"
  ty_TableTongue : ∀ H a dx fs, H a = some (.ins t.c_TableTongue dx fs) -> TyOf K H (.ref a) (.ref t.c_TableTongue)
  ge_BadLetters : mg "BadLetters" = some (.ref t.e_BadLetters)
  ge_BadPage : mg "BadPage" = some (.ref t.e_BadPage)
  ge_BadTable : mg "BadTable" = some (.ref t.e_BadTable)
  ge_Faulty : mg "Faulty" = some (.ref t.e_Faulty)
  ge_NoOrder : mg "NoOrder" = some (.ref t.e_NoOrder)
  ge_NoSign : mg "NoSign" = some (.ref t.e_NoSign)
  ge_TongueError : mg "TongueError" = some (.ref t.e_TongueError)
  ge_TooGreat : mg "TooGreat" = some (.ref t.e_TooGreat)
  xc_NoSign : XCls K t.e_NoSign
  xm_NoSign_NoSign : PySem.W.exmOne K (.ref t.e_NoSign) (.ref t.e_NoSign) = some true
  xm_NoSign_TongueError : PySem.W.exmOne K (.ref t.e_NoSign) (.ref t.e_TongueError) = some true
  xk_NoSign_NoSign : PySem.W.kitOne K (.ref t.e_NoSign) (.ref t.e_NoSign) = some true
  xk_NoSign_ValueError : PySem.W.kitOne K (.ref t.e_NoSign) (.type "ValueError") = some true
  xt_NoSign : PySem.W.kitAny K (.ref t.e_NoSign) (([t.e_BadLetters, t.e_BadPage, t.e_BadTable, t.e_Faulty, t.e_NoOrder, t.e_TooGreat] : List Addr).map Value.ref) = some false
  ea_NoSign : excAny K t.e_NoSign bmV "ValueError.__new__" = true
  ei_NoSign : PySem.W.findIn K (.ref t.e_NoSign) "__init__" = some (some (.ref t.a_NoSign_init))
  ej_NoSign : PySem.W.isFn K (.ref t.a_NoSign_init) = true
  ek_NoSign : PySem.W.keepIn K (.ref t.e_NoSign) = true
  eq_NoSign : PySem.W.findIn K (.ref t.e_NoSign) "__setattr__" = some (some (.builtin "object.__setattr__"))
  en_NoSign_at : PySem.W.findIn K (.ref t.e_NoSign) "at" = some none
  en_NoSign_sign : PySem.W.findIn K (.ref t.e_NoSign) "sign" = some none
  eb_0 : PySem.W.specialIn K (.ref t.e_TongueError) "__getattribute__" = some (some (.builtin "type.__getattribute__"))
  eb_1 : PySem.W.readsIn K t.e_TongueError (.type "type") = true
  eb_2 : PySem.W.findCls K (.ref t.e_TongueError) (.type "type") "__init__" = some (.val (.builtin "ValueError.__init__"))
  xn_NoSign : PySem.W.kitOne K (.type "NoneType") (.ref t.e_NoSign) = some false
  c_BITS : mg "BITS" = some (.int 6 t.u_BITS)
  c_BYTE_BITS : mg "BYTE_BITS" = some (.int 8 t.u_BYTE_BITS)
  c_FILLS : mg "FILLS" = some (.ref t.a_FILLS)
  d_FILLS : DctS K w t.a_FILLS [(t.h_FILLS_0, "high", t.a_FILLS_0), (t.h_FILLS_1, "low", t.a_FILLS_1)]
  c_FIRST_BEHIND : mg "FIRST_BEHIND" = some (.int 128 t.u_FIRST_BEHIND)
  c_FIRST_HEAD : mg "FIRST_HEAD" = some (.int 55296 t.u_FIRST_HEAD)
  c_FIRST_SEEN : mg "FIRST_SEEN" = some (.int 61184 t.u_FIRST_SEEN)
  c_FIRST_TAIL : mg "FIRST_TAIL" = some (.int 56320 t.u_FIRST_TAIL)
  c_FIRST_WIDE : mg "FIRST_WIDE" = some (.int 65536 t.u_FIRST_WIDE)
  c_HALF_BITS : mg "HALF_BITS" = some (.int 10 t.u_HALF_BITS)
  c_LAST_BYTE : mg "LAST_BYTE" = some (.int 255 t.u_LAST_BYTE)
  c_LAST_SEEN : mg "LAST_SEEN" = some (.int 61439 t.u_LAST_SEEN)
  c_LAST_SIGN : mg "LAST_SIGN" = some (.int 1114111 t.u_LAST_SIGN)
  c_LAST_TAIL : mg "LAST_TAIL" = some (.int 57343 t.u_LAST_TAIL)
  c_LEADS : mg "LEADS" = some (.ref t.a_LEADS)
  q_LEADS : ∀ H, SqT K H t.a_LEADS (([0, 0, 192, 224, 240] : List Int).map V.int)
  l_LEADS : ∃ o, K.lookup t.a_LEADS = some o /\ o.cls = .type "tuple" /\ o.dict = none
  c_MOST_BYTES : mg "MOST_BYTES" = some (.int 6 t.u_MOST_BYTES)
  c_MOST_SIGNS : mg "MOST_SIGNS" = some (.int 250 t.u_MOST_SIGNS)
  c_MOST_TUPLES : mg "MOST_TUPLES" = some (.int 64 t.u_MOST_TUPLES)
  c_SHIFTS : mg "SHIFTS" = some (.ref t.a_SHIFTS)
  q_SHIFTS : ∀ H, SqT K H t.a_SHIFTS (([254, 255] : List Int).map V.int)
  l_SHIFTS : ∃ o, K.lookup t.a_SHIFTS = some o /\ o.cls = .type "tuple" /\ o.dict = none
  n_ValueError : mg "ValueError" = none
  n_all : mg "all" = none
  n_bool : mg "bool" = none
  n_enumerate : mg "enumerate" = none
  n_int : mg "int" = none
  n_isinstance : mg "isinstance" = none
  n_len : mg "len" = none
  n_list : mg "list" = none
  n_range : mg "range" = none
  n_reversed : mg "reversed" = none
  n_str : mg "str" = none
  n_sum : mg "sum" = none
  n_tuple : mg "tuple" = none
  n_zip : mg "zip" = none
end My
namespace My
open PySem L2
def isNum : V -> Bool
  | .int _ => true
  | _ => false
def wthn (v : V) (lo hi : Int) : Bool := match v with
  | .int i => decide (lo <= i) && decide (i <= hi)
  | _ => false
def isSig (v : V) : Bool := wthn v 0 1114111 && !(wthn v 55296 57343) && !(wthn v 61184 61439)
theorem isNum_int {v : V} (h : isNum v = true) : ∃ i, v = .int i := by
  cases v <;> first | exact ⟨_, rfl⟩ | cases h
def sp1 (f : V -> Bool) (K : PySem.W.Frag) : Sp := fun vs H Q _ => ∃ v, vs = [v] /\ Knd K H v /\ Q (.bl (f v)) H
def spI (f : Int -> Bool) : Sp := fun vs H Q _ => ∃ i, vs = [.int i] /\ Q (.bl (f i)) H
theorem len1 {f : V -> Bool} {K : PySem.W.Frag} {x : Str} : ∀ vs H Q E, sp1 f K vs H Q E -> vs.length = [x].length := fun vs H Q E h => by
  obtain ⟨v, rfl, _⟩ := h
  rfl
theorem lenI {f : Int -> Bool} {x : Str} : ∀ vs H Q E, spI f vs H Q E -> vs.length = [x].length := fun vs H Q E h => by
  obtain ⟨v, rfl, _⟩ := h
  rfl
def Sg (n : Int) : Prop := 0 <= n /\ n <= 1114111 /\ ¬ (55296 <= n /\ n <= 57343) /\ ¬ (61184 <= n /\ n <= 61439)
theorem sg_iff (n : Int) : isSig (.int n) = true ↔ Sg n := by
  unfold isSig wthn Sg
  simp
  omega
def unitsOf (n : Int) : List Int := if n < 65536 then [n] else [55296 + (n - 65536) / 1024, 56320 + (n - 65536) % 1024]
def ub (h : Bool) (m : Int) : List Int := if h then [m / 256, m % 256] else [m % 256, m / 256]
def prow (h : Bool) (n : Int) : List Int := (unitsOf n).flatMap (ub h)
def ordOf (h : Bool) : Str := if h then "high" else "low"
theorem ub_len (h : Bool) (m : Int) : (ub h m).length = 2 := by unfold ub; cases h <;> rfl
theorem units_len (n : Int) : (unitsOf n).length <= 2 := by
  unfold unitsOf
  by_cases c : n < 65536
  · rw [if_pos c]; simp
  · rw [if_neg c]; simp
theorem units_in {n u : Int} (h : Sg n) (hu : u ∈ unitsOf n) : 0 <= u /\ u < 65536 := by
  obtain ⟨h0, h1, _, _⟩ := h
  unfold unitsOf at hu
  by_cases c : n < 65536
  · rw [if_pos c] at hu; simp at hu; omega
  · rw [if_neg c] at hu; simp at hu; omega
theorem flat_len (h : Bool) (us : List Int) : (us.flatMap (ub h)).length = 2 * us.length := by
  induction us with
  | nil => rfl
  | cons a r ih => rw [List.flatMap_cons, List.length_append, ub_len, ih, List.length_cons]; omega
theorem prow_len (h : Bool) (n : Int) : (prow h n).length <= 4 := by
  unfold prow; rw [flat_len]; have := units_len n; omega
def row (n : Int) : List Int := if n < 128 then [n] else if n < 2048 then [192 + n / 64, 128 + n % 64] else if n < 65536 then [224 + n / 4096, 128 + n / 64 % 64, 128 + n % 64] else [240 + n / 262144, 128 + n / 4096 % 64, 128 + n / 64 % 64, 128 + n % 64]
def lenS (n : Int) : Int := if n < 128 then 1 else if n < 2048 then 2 else if n < 65536 then 3 else 4
def lead (n : Nat) : Int := if n = 1 then 192 else if n = 2 then 224 else 240
theorem row_len (n : Int) : 1 <= (row n).length /\ (row n).length <= 4 := by
  unfold row
  by_cases c1 : n < 128
  · rw [if_pos c1]; simp
  rw [if_neg c1]
  by_cases c2 : n < 2048
  · rw [if_pos c2]; simp
  rw [if_neg c2]
  by_cases c3 : n < 65536
  · rw [if_pos c3]; simp
  rw [if_neg c3]; simp
theorem lead_facts {n : Int} (h : Sg n) (h1 : 128 <= n) : ∃ (L : Nat) (v q0 : Int) (rest : List Int), lenS n = (L : Int) /\ L ≠ 1 /\ L <= 4 /\ prts 6 L n = q0 :: rest /\ [0, 0, 192, 224, 240][L]? = some v /\ row n = (v + q0) :: rest.map (fun x => 128 + x) /\ n < 2 ^ (6 * L) := by
  obtain ⟨h0, h2, _, _⟩ := h
  have c1 : ¬ n < 128 := by omega
  by_cases c2 : n < 2048
  · have e1 : row n = [192 + n / 64, 128 + n % 64] := by unfold row; rw [if_neg c1, if_pos c2]
    have e2 : lenS n = 2 := by unfold lenS; rw [if_neg c1, if_pos c2]
    rw [e1, e2]
    refine ⟨2, 192, n / 64 % 64, [n % 64], rfl, by decide, by decide, by simp [prts, List.range_succ], rfl, ?_, by simp; omega⟩
    have : n / 64 % 64 = n / 64 := by omega
    rw [this]; rfl
  by_cases c3 : n < 65536
  · have e1 : row n = [224 + n / 4096, 128 + n / 64 % 64, 128 + n % 64] := by unfold row; rw [if_neg c1, if_neg c2, if_pos c3]
    have e2 : lenS n = 3 := by unfold lenS; rw [if_neg c1, if_neg c2, if_pos c3]
    rw [e1, e2]
    refine ⟨3, 224, n / 4096 % 64, [n / 64 % 64, n % 64], rfl, by decide, by decide, by simp [prts, List.range_succ], rfl, ?_, by simp; omega⟩
    have : n / 4096 % 64 = n / 4096 := by omega
    rw [this]; rfl
  have e1 : row n = [240 + n / 262144, 128 + n / 4096 % 64, 128 + n / 64 % 64, 128 + n % 64] := by unfold row; rw [if_neg c1, if_neg c2, if_neg c3]
  have e2 : lenS n = 4 := by unfold lenS; rw [if_neg c1, if_neg c2, if_neg c3]
  rw [e1, e2]
  refine ⟨4, 240, n / 262144 % 64, [n / 4096 % 64, n / 64 % 64, n % 64], rfl, by decide, by decide, by simp [prts, List.range_succ], rfl, ?_, by simp; omega⟩
  have : n / 262144 % 64 = n / 262144 := by omega
  rw [this]; rfl
def All2 {α β : Type} (R : α -> β -> Prop) (xs : List α) (ys : List β) : Prop := xs.length = ys.length /\ ∀ (i : Nat) x y, xs[i]? = some x -> ys[i]? = some y -> R x y
theorem All2.nil {α β : Type} {R : α -> β -> Prop} : All2 R [] [] := ⟨rfl, fun i x y h => by simp at h⟩
theorem All2.cons {α β : Type} {R : α -> β -> Prop} {x : α} {y : β} {xs : List α} {ys : List β} (h : R x y) (t : All2 R xs ys) : All2 R (x :: xs) (y :: ys) := ⟨by simp [t.1], fun i a b ha hb => by
  cases i with
  | zero => simp at ha hb; subst ha hb; exact h
  | succ i => exact t.2 i a b (by simpa using ha) (by simpa using hb)⟩
theorem All2.imp {α β : Type} {R S : α -> β -> Prop} {xs : List α} {ys : List β} (h : All2 R xs ys) (k : ∀ x y, R x y -> S x y) : All2 S xs ys := ⟨h.1, fun i x y a b => k x y (h.2 i x y a b)⟩
theorem All2.app {α β : Type} {R : α -> β -> Prop} {xs us : List α} {ys vs : List β} (h : All2 R xs ys) (k : All2 R us vs) : All2 R (xs ++ us) (ys ++ vs) := by
  refine ⟨by simp [h.1, k.1], fun i x y a b => ?_⟩
  by_cases hi : i < xs.length
  · rw [List.getElem?_append_left hi] at a
    rw [List.getElem?_append_left (by rw [<- h.1]; exact hi)] at b
    exact h.2 i x y a b
  · rw [List.getElem?_append_right (by omega)] at a
    rw [List.getElem?_append_right (by rw [<- h.1]; omega), <- h.1] at b
    exact k.2 _ x y a b
theorem All2.right {α β : Type} {R : α -> β -> Prop} {xs : List α} {ys : List β} (h : All2 R xs ys) {i : Nat} {x : α} (hx : xs[i]? = some x) : ∃ y, ys[i]? = some y /\ R x y := by
  have hi := (List.getElem?_eq_some_iff.mp hx).1
  have hy : ys[i]? = some (ys[i]'(by rw [<- h.1]; exact hi)) := by simp
  exact ⟨_, hy, h.2 i x _ hx hy⟩
theorem All2.left {α β : Type} {R : α -> β -> Prop} {xs : List α} {ys : List β} (h : All2 R xs ys) {i : Nat} {y : β} (hy : ys[i]? = some y) : ∃ x, xs[i]? = some x /\ R x y := by
  have hi := (List.getElem?_eq_some_iff.mp hy).1
  have hx : xs[i]? = some (xs[i]'(by rw [h.1]; exact hi)) := by simp
  exact ⟨_, hx, h.2 i _ y hx hy⟩
def Kp (a : Addr) (H H' : Hp) : Prop := ∀ c u, c ≠ a -> H c = some u -> H' c = some u
theorem Kp.trans {a : Addr} {H H1 H2 : Hp} (h : Kp a H H1) (h' : Kp a H1 H2) : Kp a H H2 := fun c u n e => h' c u n (h c u n e)
theorem Kp.of {a : Addr} {H H1 : Hp} (h : Same H H1) : Kp a H H1 := fun c u _ e => h c u e
theorem Kp.upd {a : Addr} {H : Hp} {o : HO} : Kp a H (upd H a o) := fun c u n e => by rw [upd_ne n]; exact e
end My
namespace My
open PySem L2
section
variable {P : Program} {w : World} {K : PySem.W.Frag} {mg : Str -> Option Value} {base : Heap} {t : Adr}
def spRoom : Sp := fun vs H Q _ => ∃ (n : Int) (b : Nat), vs = [.int n, .int (b : Int)] /\ 0 <= n /\ n < 2 ^ b /\ Q .non H
theorem h_check_room (T : Txt w K mg t) : Has P w K mg base "check_room" 1 t.a_check_room t.f_check_room ["number", "bits"] spRoom := by
  refine ⟨T.g_check_room, T.F_check_room.kp, T.b_check_room, T.F_check_room.okQ sc_check_room (fun vs H Q E h => by obtain ⟨n, b, rfl, _⟩ := h; rfl) fun cdv A outer s H vs Q E hr h => ?_⟩
  obtain ⟨n, b, rfl, h0, h1, k⟩ := h
  refine ⟨_, (q_pss_one (q_ps_if (q_PW_pt (q_pw_or (q_mt_cmp g_lt (q_vv 0) q_pe_int (nomark _)) (q_pw_or1 (q_mt_cmp g_gt (q_pe_bm0K (K := K) rfl PySem.F.plainAttrs_int PySem.F.slot_int_bit_length PySem.F.type_int_bit_length mg_bits (q_vv 0)) (q_vv 1) (nomark _))))) (q_pss_one q_ps_never) q_pss_nil)), ?_⟩
  refine ite2 (fun e => absurd (of_decide_eq_true e) (by omega)) (fun _ => ?_)
  refine ⟨rfl, ?_⟩
  have hb : Builtin.Int.intBits n <= b := intBits_le_iff.mpr (by
    have : (n.natAbs : Int) < ((2 ^ b : Nat) : Int) := by rw [Int.natAbs_of_nonneg h0, Int.natCast_pow]; exact h1
    exact Int.ofNat_lt.mp this)
  refine ite2 (fun e => absurd (of_decide_eq_true e) (by omega)) (fun _ => ?_)
  exact k
def spParted : Sp := fun vs H Q _ => ∃ (n : Int) (b m : Nat), vs = [.int n, .int (b : Int), .int (m : Int)] /\ 0 <= n /\ n < 2 ^ (b * m) /\ b <= 1000 /\ m <= 1000 /\ ∀ p H', Gro H p (.lst ((prts b m n).map V.int)) H' -> Q (.ref p) H'
theorem h_parted (T : Txt w K mg t) : Has P w K mg base "parted" 2 t.a_parted t.f_parted ["number", "bits", "many"] spParted := by
  refine ⟨T.g_parted, T.F_parted.kp, T.b_parted, T.F_parted.okQ sc_parted (fun vs H Q E h => by obtain ⟨n, b, m, rfl, _⟩ := h; rfl) fun cdv A outer s H vs Q E hr h => ?_⟩
  obtain ⟨n, b, m, rfl, h0, h1, hb, hm, k⟩ := h
  refine ⟨_, (q_pss_cons (q_ps_expr (q_cal (h_check_room T) hr (q_pa_c (q_vv 0) (q_pa_c (q_pe_op g_mul (q_vv 1) (q_vv 2)) q_pa_nil))))
      (q_pss_cons (q_ps_set (i := 3) sc_parted.nd rfl (by first | exact Or.inl rfl | exact Or.inr rfl) (q_me_lst q_pa_nil))
      (q_pss_cons (q_ps_for PassesOwn.never rfl (q_pi_range1 rfl T.n_range (q_pa_c (q_vv 2) q_pa_nil)) (q_pg_name (i := 4) sc_parted.nd rfl (by first | exact Or.inl rfl | exact Or.inr rfl)) (q_pss_cons (q_ps_set (i := 5) sc_parted.nd rfl (by first | exact Or.inl rfl | exact Or.inr rfl) (q_pe_op g_shr (q_vv 0) (q_vv 1)))
      (q_pss_cons (q_ps_expr (q_pe_bmK (K := K) rfl PySem.F.plainAttrs_list PySem.F.slot_list_append PySem.F.type_list_append mg_append (q_vv 3) (q_pa_c (q_pe_op g_sub (q_vv 0) (q_pe_op g_shlB (q_vv 5) (q_vv 1))) q_pa_nil)))
      (q_pss_one (q_ps_set (i := 0) sc_parted.nd rfl (by first | exact Or.inl rfl | exact Or.inr rfl) (q_vv 5))))))
      (q_pss_one (q_ps_ret (q_me_revK (K := K) rfl rfl T.n_list T.n_reversed (q_pa_c (q_vv 3) q_pa_nil))))))), ?_⟩
  have two64 : (2 : Int) ^ 64 = 18446744073709551616 := by decide
  refine ⟨Or.inl ⟨by omega, by omega⟩, ?_⟩
  refine ⟨n, b * m, by rw [Int.natCast_mul]; rfl, h0, h1, ?_⟩
  refine ⟨sz rfl, fun p1 H1 g1 => ?_⟩
  refine ⟨(m : Int), rfl, by omega, by omega, ?_⟩
  refine for_range (lo := 0) (n := ((m : Nat) : Int).toNat) (fun i σ H' => Same H H' /\ H' p1 = some (.lst (((List.range i).map fun i => n / 2 ^ (b * i) % 2 ^ b).map V.int)) /\ ∃ v4 v5, σ = [some (.int (n / 2 ^ (b * i))), some (.int b), some (.int m), some (.ref p1), v4, v5])
    ⟨g1.sm, g1.at_, _, _, by simp; rfl⟩ ?_ ?_
  · rintro i σ H2 hi ⟨s2, h2, v4, v5, rfl⟩
    have hi' : i < m := by simpa using hi
    refine ⟨by omega, ?_⟩
    refine ⟨.inl ⟨rfl, _, .of h2⟩, ?_⟩
    have hq : 0 <= n / 2 ^ (b * i) / 2 ^ b /\ n / 2 ^ (b * i) / 2 ^ b <= n := by
      have z1 : 0 <= n / 2 ^ (b * i) := Int.ediv_nonneg h0 (Int.le_of_lt (two_pos _))
      exact ⟨Int.ediv_nonneg z1 (Int.le_of_lt (two_pos _)), Int.le_trans (Int.ediv_le_self _ z1) (Int.ediv_le_self _ h0)⟩
    have hbits : Builtin.Int.intBits (n / 2 ^ (b * i) / 2 ^ b) <= b * m := intBits_le_iff.mpr (by
      have : ((n / 2 ^ (b * i) / 2 ^ b).natAbs : Int) < ((2 ^ (b * m) : Nat) : Int) := by rw [Int.natAbs_of_nonneg hq.1, Int.natCast_pow]; exact Int.lt_of_le_of_lt hq.2 h1
      exact Int.ofNat_lt.mp this)
    have hbm : b * m <= 1000000 := Nat.mul_le_mul hb hm
    refine ⟨⟨by omega, show ((Builtin.Int.intBits (n / 2 ^ (b * i) / 2 ^ b) : Nat) : Int) + (b : Int) <= 2 ^ 27 by omega⟩, ?_⟩
    refine ⟨_, h2, szlt (by simp; omega), ?_⟩
    refine ⟨s2.put g1.nw, ?_, ?_⟩
    · rw [upd_same, List.range_succ, List.map_append, List.map_append]
      have := mod_step (n / 2 ^ (b * i)) b
      exact congrArg (fun z => some (HO.lst (_ ++ [V.int z]))) this
    · rw [<- div_step n b i]
      exact ⟨_, _, rfl⟩
  · rintro σ H2 ⟨s2, h2, v4, v5, rfl⟩
    refine ⟨p1, _, rfl, .of h2, fun p3 H3 g3 => ?_⟩
    have e : ((List.map V.int ((List.range ((m : Nat) : Int).toNat).map fun i => n / 2 ^ (b * i) % 2 ^ b))).reverse = (prts b m n).map V.int := by
      rw [<- List.map_reverse, Int.toNat_natCast, prts_rev]
    rw [e] at g3
    exact k _ _ (g3.after s2)
theorem h_is_number (T : Txt w K mg t) : Has P w K mg base "is_number" 1 t.a_is_number t.f_is_number ["thing"] (sp1 isNum K) := by
  refine ⟨T.g_is_number, T.F_is_number.kp, T.b_is_number, T.F_is_number.okQ sc_is_number len1 fun cdv A outer s H vs Q E hr h => ?_⟩
  obtain ⟨v, rfl, kd, k⟩ := h
  refine ⟨_, (q_pss_one (q_ps_ret (q_me_and (q_calB (c_instK (K := K) rfl) T.n_isinstance PyProof.Rows.boot_isinstance (q_pa_c (q_vv 0) (q_pa_c (q_bty rfl T.n_int PyProof.Rows.boot_int) q_pa_nil))) (q_pe_one (q_me_not (q_calB (c_instK (K := K) rfl) T.n_isinstance PyProof.Rows.boot_isinstance (q_pa_c (q_vv 0) (q_pa_c (q_bty rfl T.n_bool PyProof.Rows.boot_bool) q_pa_nil)))))))), ?_⟩
  obtain ⟨ty, hty, e0⟩ := kd.isInt
  refine ⟨ty, _, hty, e0, ?_⟩
  refine ite2 (fun e => ?_) (fun e => ?_)
  · obtain ⟨ty, hty, e0⟩ := kd.isBl
    refine ⟨ty, _, hty, e0, ?_⟩
    exact fitB k (by cases v <;> simp_all [isNum, isIntV, isBlV])
  · exact fitB k (by cases v <;> simp_all [isNum, isIntV])
theorem h_is_head (T : Txt w K mg t) : Has P w K mg base "is_head" 1 t.a_is_head t.f_is_head ["number"] (spI fun i => decide (55296 <= i) && decide (i < 56320)) := by
  refine ⟨T.g_is_head, T.F_is_head.kp, T.b_is_head, T.F_is_head.okQ sc_is_head lenI fun cdv A outer s H vs Q E hr h => ?_⟩
  obtain ⟨i, rfl, k⟩ := h
  refine ⟨_, (q_pss_one (q_ps_ret (q_me_chain g_le g_lt (q_gi T.c_FIRST_HEAD) (q_vv 0) (q_gi T.c_FIRST_TAIL)))), ?_⟩
  refine ite2 (fun e1 => ?_) (fun e1 => ?_)
  · exact fitB k (by simp at *; omega)
  · exact fitB k (by simp at *; omega)
theorem h_is_tail (T : Txt w K mg t) : Has P w K mg base "is_tail" 1 t.a_is_tail t.f_is_tail ["number"] (spI fun i => decide (56320 <= i) && decide (i <= 57343)) := by
  refine ⟨T.g_is_tail, T.F_is_tail.kp, T.b_is_tail, T.F_is_tail.okQ sc_is_tail lenI fun cdv A outer s H vs Q E hr h => ?_⟩
  obtain ⟨i, rfl, k⟩ := h
  refine ⟨_, (q_pss_one (q_ps_ret (q_me_chain g_le g_le (q_gi T.c_FIRST_TAIL) (q_vv 0) (q_gi T.c_LAST_TAIL)))), ?_⟩
  refine ite2 (fun e1 => ?_) (fun e1 => ?_)
  · exact fitB k (by simp at *; omega)
  · exact fitB k (by simp at *; omega)
theorem h_is_seen_byte (T : Txt w K mg t) : Has P w K mg base "is_seen_byte" 2 t.a_is_seen_byte t.f_is_seen_byte ["thing"] (sp1 (fun v => wthn v 61184 61439) K) := by
  refine ⟨T.g_is_seen_byte, T.F_is_seen_byte.kp, T.b_is_seen_byte, T.F_is_seen_byte.okQ sc_is_seen_byte len1 fun cdv A outer s H vs Q E hr h => ?_⟩
  obtain ⟨v, rfl, kd, k⟩ := h
  refine ⟨_, (q_pss_one (q_ps_ret (q_me_and (q_cal (h_is_number T) hr (q_pa_c (q_vv 0) q_pa_nil)) (q_pe_one (q_me_chain g_le g_le (q_gi T.c_FIRST_SEEN) (q_vv 0) (q_gi T.c_LAST_SEEN)))))), ?_⟩
  refine ⟨v, rfl, kd, ?_⟩
  refine ite2 (fun e => ?_) (fun e => ?_)
  · obtain ⟨i, rfl⟩ := isNum_int e
    refine ite2 (fun e1 => ?_) (fun e1 => ?_)
    · exact fitB k (by simp [wthn] at *; omega)
    · exact fitB k (by simp [wthn] at *; omega)
  · exact fitB k (by cases v <;> simp_all [isNum, wthn])
theorem h_is_sign (T : Txt w K mg t) : Has P w K mg base "is_sign" 3 t.a_is_sign t.f_is_sign ["thing"] (sp1 isSig K) := by
  refine ⟨T.g_is_sign, T.F_is_sign.kp, T.b_is_sign, T.F_is_sign.okQ sc_is_sign len1 fun cdv A outer s H vs Q E hr h => ?_⟩
  obtain ⟨v, rfl, kd, k⟩ := h
  refine ⟨_, (q_pss_cons (q_ps_if (q_PW_pt (q_pw_or (q_pt_not (q_mt_val (q_cal (h_is_number T) hr (q_pa_c (q_vv 0) q_pa_nil)))) (q_pw_or1 (q_pt_not (q_mt_chain g_le g_le q_pe_int (q_vv 0) (q_gi T.c_LAST_SIGN)))))) (q_pss_one (q_ps_ret q_pe_bl)) q_pss_nil)
      (q_pss_one (q_ps_ret (q_me_not (q_me_or (q_cal (h_is_head T) hr (q_pa_c (q_vv 0) q_pa_nil)) (q_me_or (q_cal (h_is_tail T) hr (q_pa_c (q_vv 0) q_pa_nil)) (q_pe_one (q_cal (h_is_seen_byte T) hr (q_pa_c (q_vv 0) q_pa_nil))))))))), ?_⟩
  refine ⟨v, rfl, kd, ?_⟩
  refine ite2 (fun e => ?_) (fun e => ?_)
  · refine iteT ?_
    exact fitB k (by cases v <;> simp_all [isNum, wthn, isSig])
  · obtain ⟨i, rfl⟩ := isNum_int (v := v) (by simpa using e)
    refine ite2 (fun e1 => ?_) (fun e1 => ?_)
    · refine ite2 (fun e2 => ?_) (fun e2 => ?_)
      · exact fitB k (by simp [isSig, wthn] at *; omega)
      · refine ⟨i, rfl, ?_⟩
        refine ite2 (fun e3 => ?_) (fun e3 => ?_)
        · exact fitB k (by simp [isSig, wthn] at *; omega)
        · refine ⟨i, rfl, ?_⟩
          refine ite2 (fun e4 => ?_) (fun e4 => ?_)
          · exact fitB k (by simp [isSig, wthn] at *; omega)
          · refine ⟨_, rfl, kd, ?_⟩
            exact fitB k (by rw [Bool.eq_iff_iff]; simp [isSig, wthn] at *; omega)
    · refine iteT ?_
      exact fitB k (by simp [isSig, wthn] at *; omega)
theorem h_is_byte (T : Txt w K mg t) : Has P w K mg base "is_byte" 2 t.a_is_byte t.f_is_byte ["thing"] (sp1 (fun v => wthn v 0 255) K) := by
  refine ⟨T.g_is_byte, T.F_is_byte.kp, T.b_is_byte, T.F_is_byte.okQ sc_is_byte len1 fun cdv A outer s H vs Q E hr h => ?_⟩
  obtain ⟨v, rfl, kd, k⟩ := h
  refine ⟨_, (q_pss_one (q_ps_ret (q_me_and (q_cal (h_is_number T) hr (q_pa_c (q_vv 0) q_pa_nil)) (q_pe_one (q_me_chain g_le g_le q_pe_int (q_vv 0) (q_gi T.c_LAST_BYTE)))))), ?_⟩
  refine ⟨v, rfl, kd, ?_⟩
  refine ite2 (fun e => ?_) (fun e => ?_)
  · obtain ⟨i, rfl⟩ := isNum_int e
    refine ite2 (fun e1 => ?_) (fun e1 => ?_)
    · exact fitB k (by simp [wthn] at *; omega)
    · exact fitB k (by simp [wthn] at *; omega)
  · exact fitB k (by cases v <;> simp_all [isNum, wthn])
def spUnits : Sp := fun vs H Q _ => ∃ n, vs = [.int n] /\ Sg n /\ ∀ p H', Gro H p (.lst ((unitsOf n).map V.int)) H' -> Q (.ref p) H'
theorem h_units_of (T : Txt w K mg t) : Has P w K mg base "units_of" 3 t.a_units_of t.f_units_of ["sign"] spUnits := by
  refine ⟨T.g_units_of, T.F_units_of.kp, T.b_units_of, T.F_units_of.okQ sc_units_of (fun vs H Q E h => by obtain ⟨n, rfl, _⟩ := h; rfl) fun cdv A outer s H vs Q E hr h => ?_⟩
  obtain ⟨n, rfl, hs, k⟩ := h
  have hu := hr.units
  refine ⟨_, (q_pss_cons (q_ps_if (q_mt_cmp g_lt (q_vv 0) (q_gi T.c_FIRST_WIDE) (nomark _)) (q_pss_one (q_ps_ret (q_me_lst (q_pa_c (q_vv 0) q_pa_nil)))) q_pss_nil)
      (q_pss_cons (q_ps_set (i := 1) sc_units_of.nd rfl (by first | exact Or.inl rfl | exact Or.inr rfl) (q_cal (h_parted T) hr (q_pa_c (q_pe_op g_sub (q_vv 0) (q_gi T.c_FIRST_WIDE)) (q_pa_c (q_gi T.c_HALF_BITS) (q_pa_c q_pe_int q_pa_nil)))))
      (q_pss_one (q_ps_ret (q_me_lst (q_pa_c (q_pe_op (g_addK (K := K) rfl) (q_gi T.c_FIRST_HEAD) (q_pe_ix (g_ixK (K := K) rfl) (q_vv 1) q_pe_int (fun _ _ => rfl))) (q_pa_c (q_pe_op (g_addK (K := K) rfl) (q_gi T.c_FIRST_TAIL) (q_pe_ix (g_ixK (K := K) rfl) (q_vv 1) q_pe_int (fun _ _ => rfl))) q_pa_nil))))))), ?_⟩
  obtain ⟨h0, h1, _, _⟩ := hs
  refine ite2 (fun e => ?_) (fun e => ?_)
  · have e2 : unitsOf n = [n] := by unfold unitsOf; rw [if_pos (of_decide_eq_true e)]
    rw [e2] at k
    exact ⟨sz rfl, fun p H' g => k p H' g⟩
  have c : ¬ n < 65536 := fun z => e (decide_eq_true z)
  have e2 : unitsOf n = [55296 + (n - 65536) / 1024, 56320 + (n - 65536) % 1024] := by unfold unitsOf; rw [if_neg c]
  have two20 : (2 : Int) ^ (10 * 2) = 1048576 := by decide
  refine ⟨n - 65536, 10, 2, rfl, by omega, by omega, by decide, by decide, fun p1 H1 g1 => ?_⟩
  have ep : prts 10 2 (n - 65536) = [(n - 65536) / 1024, (n - 65536) % 1024] := by
    have : (n - 65536) / 1024 % 1024 = (n - 65536) / 1024 := by omega
    simp [prts, List.range_succ, this]
  rw [ep] at g1
  refine ⟨_, .int ((n - 65536) / 1024), .inl g1.lst, atI_nat (j := 0) rfl, ?_⟩
  refine ⟨_, .int ((n - 65536) % 1024), .inl g1.lst, atI_nat (j := 1) rfl, ?_⟩
  rw [e2] at k
  exact ⟨sz rfl, fun p2 H2 g2 => k _ _ (g2.after g1.sm)⟩
def Po (t : Adr) (H : Hp) (o : Addr) (h : Bool) : Prop := ∃ dx, H o = some (.ins t.c_PairTongue dx [("order", .str (ordOf h))])
theorem Po.mono {H H' : Hp} {o : Addr} {h : Bool} (p : Po t H o h) (s : Same H H') : Po t H' o h := let ⟨dx, z⟩ := p; ⟨dx, s _ _ z⟩
def spInitP (t : Adr) : Sp := fun vs H Q _ => ∃ (x dx : Addr) (h : Bool), vs = [.ref x, .str (ordOf h)] /\ H x = some (.ins t.c_PairTongue dx []) /\ Q .non (upd H x (.ins t.c_PairTongue dx [("order", .str (ordOf h))]))
theorem ok_initP (T : Txt w K mg t) : FnOk P w K mg base CX0 1 t.a_PairTongue_init t.f_PairTongue_init ["self", "order"] (spInitP t) := by
  refine T.F_PairTongue_init.okQ sc_PairTongue_init (fun vs H Q E h => by obtain ⟨x, dx, v, rfl, _⟩ := h; rfl) fun cdv A outer s H vs Q E hr h => ?_
  obtain ⟨x, dx, h, rfl, hx, k⟩ := h
  refine ⟨_, (q_pss_cons (q_ps_if (q_PW_pt (q_pw_or (q_pt_not (q_mt_val (q_calB (c_instK (K := K) rfl) T.n_isinstance PyProof.Rows.boot_isinstance (q_pa_c (q_vv 1) (q_pa_c (q_bty rfl T.n_str PyProof.Rows.boot_str) q_pa_nil))))) (q_pw_or1 (q_mt_cmp (g_notinS (K := K) rfl rfl T.d_FILLS) (q_vv 1) (q_pe_glob (v := .ref t.a_FILLS) rfl T.c_FILLS rfl) (by with_unfolding_all rfl))))) (q_pss_one q_ps_never) q_pss_nil)
      (q_pss_one (q_ps_fldK (K := K) rfl (q_vv 0) (q_vv 1)))), ?_⟩
  refine ⟨_, _, .str _, by with_unfolding_all rfl, ?_⟩
  refine ⟨_, rfl, rfl, ?_⟩
  refine ite2 (fun e => absurd e (by cases h <;> simp [gotS, ordOf])) (fun _ => ?_)
  exact ⟨x, _, dx, _, rfl, hx, T.cls_PairTongue, T.na_PairTongue_order, by decide, k⟩
theorem hk_PairTongue_0 (T : Txt w K mg t) : HasKD P w K mg base "PairTongue" t.c_PairTongue 1 t.a_PairTongue_init t.f_PairTongue_init ["self", "order"] [] (spInitP t) := ⟨T.gc_PairTongue, T.mk_PairTongue, ⟨[], T.b_PairTongue_init, .nil⟩, ok_initP T⟩
def spTurn (t : Adr) : Sp := fun vs H Q _ => ∃ (o a : Addr) (h : Bool) (x y : Int), vs = [.ref o, .ref a] /\ Po t H o h /\ H a = some (.lst [.int x, .int y]) /\ ∀ p H', Same H H' -> H' p = some (.lst ((if h then [x, y] else [y, x]).map V.int)) -> Q (.ref p) H'
theorem h_PairTongue_turned (T : Txt w K mg t) : HasM P w K mg base t.c_PairTongue "turned" 1 t.a_PairTongue_turned t.f_PairTongue_turned ["self", "pair"] (spTurn t) := by
  refine ⟨T.cls_PairTongue, T.mt_PairTongue_turned, T.b_PairTongue_turned, T.F_PairTongue_turned.okQ sc_PairTongue_turned (fun vs H Q E h => by obtain ⟨o, a, h, x, y, rfl, _⟩ := h; rfl) fun cdv A outer s H vs Q E hr h => ?_⟩
  obtain ⟨o, a, h, x, y, rfl, ⟨dx, ho⟩, ha, k⟩ := h
  have hu := hr.units
  refine ⟨_, (q_pss_one (q_ps_ret (q_pe_ifExp (q_mt_cmp (g_eqK (K := K) rfl hu) (q_fldK (K := K) rfl (q_vv 0)) q_pe_str (nomark _)) (q_vv 1) (q_me_lst (q_pa_c (q_pe_ix (g_ixK (K := K) rfl) (q_vv 1) q_pe_int (fun _ _ => rfl)) (q_pa_c (q_pe_ix (g_ixK (K := K) rfl) (q_vv 1) q_pe_int (fun _ _ => rfl)) q_pa_nil)))))), ?_⟩
  refine ⟨o, _, dx, _, _, rfl, ho, T.cls_PairTongue, T.na_PairTongue_order, rfl, ?_⟩
  cases h with
  | true =>
    refine ⟨_, _, DataV.str _, DataV.str _, by decide +kernel, by decide +kernel, ?_⟩
    refine ite2 (fun _ => ?_) (fun e => absurd (by decide +kernel) e)
    exact k _ _ (Same.refl _) ha
  | false =>
    refine ⟨_, _, DataV.str _, DataV.str _, by decide +kernel, by decide +kernel, ?_⟩
    refine ite2 (fun e => absurd e (by decide +kernel)) (fun _ => ?_)
    refine ⟨_, .int y, .inl (.of ha), atI_nat (j := 1) rfl, ?_⟩
    refine ⟨_, .int x, .inl (.of ha), atI_nat (j := 0) rfl, ?_⟩
    exact ⟨sz rfl, fun p H' g => k _ _ g.sm g.at_⟩
def spRowOf (K : PySem.W.Frag) (t : Adr) : Sp := fun vs H Q _ => ∃ (o a : Addr) (h : Bool) (us : List Int), vs = [.ref o, .ref a] /\ Po t H o h /\ SqL K H a (us.map V.int) /\ us.length <= 10 /\ (∀ u ∈ us, 0 <= u /\ u < 65536) /\ ∀ p H', Gro H p (.lst ((us.flatMap (ub h)).map V.int)) H' -> Q (.ref p) H'
theorem h_PairTongue_row_of (T : Txt w K mg t) : HasM P w K mg base t.c_PairTongue "row_of" 3 t.a_PairTongue_row_of t.f_PairTongue_row_of ["self", "units"] (spRowOf K t) := by
  refine ⟨T.cls_PairTongue, T.mt_PairTongue_row_of, T.b_PairTongue_row_of, T.F_PairTongue_row_of.okQ sc_PairTongue_row_of (fun vs H Q E h => by obtain ⟨o, a, h, us, rfl, _⟩ := h; rfl) fun cdv A outer s H vs Q E hr h => ?_⟩
  obtain ⟨o, a, h, us, rfl, po, ha, hl, hb, k⟩ := h
  have hu := hr.units
  refine ⟨_, (q_pss_cons (q_ps_set (i := 2) sc_PairTongue_row_of.nd rfl (by first | exact Or.inl rfl | exact Or.inr rfl) (q_me_lst q_pa_nil))
      (q_pss_cons (q_ps_for PassesOwn.never rfl (q_pi_listK (K := K) rfl (q_vv 1)) (q_pg_name (i := 3) sc_PairTongue_row_of.nd rfl (by first | exact Or.inl rfl | exact Or.inr rfl)) (q_pss_one (q_ps_expr (q_pe_bmK (K := K) rfl PySem.F.plainAttrs_list PySem.F.slot_list_extend PySem.F.type_list_extend (mg_extendK (K := K) rfl) (q_vv 2) (q_pa_c (q_meth (h_PairTongue_turned T) hr (q_vv 0) (q_pa_c (q_cal (h_parted T) hr (q_pa_c (q_vv 3) (q_pa_c (q_gi T.c_BYTE_BITS) (q_pa_c q_pe_int q_pa_nil)))) q_pa_nil)) q_pa_nil)))))
      (q_pss_one (q_ps_ret (q_vv 2))))), ?_⟩
  refine ⟨sz rfl, fun p1 H1 g1 => ?_⟩
  refine ⟨a, rfl, ⟨_, g1.sm.seq ha⟩, for_list (K := K) (a := a) (xs := us.map V.int) (fun i σ H' => Same H H' /\ H' p1 = some (.lst (((us.take i).flatMap (ub h)).map V.int)) /\ ∃ v3, σ = [some (.ref o), some (.ref a), some (.ref p1), v3]) ⟨g1.sm, g1.at_, _, rfl⟩ (fun i σ H' _ z => z.1.seq ha) ?_ ?_⟩
  · rintro i x σ H2 hx ⟨s2, h2, v3, rfl⟩
    obtain ⟨u, hux, rfl⟩ := ints_at hx
    have hub := hb u (List.mem_of_getElem? hux)
    have hi : i < us.length := (List.getElem?_eq_some_iff.mp hux).1
    obtain ⟨dx, ho⟩ := po
    have two16 : (2 : Int) ^ (8 * 2) = 65536 := by decide
    refine ⟨.inl ⟨rfl, _, .of h2⟩, ?_⟩
    refine ⟨o, dx, _, rfl, s2 _ _ ho, rfl, ?_⟩
    refine ⟨u, 8, 2, rfl, hub.1, by omega, by decide, by decide, fun p2 H3 g3 => ?_⟩
    have ep : prts 8 2 u = [u / 256, u % 256] := by
      have : u / 256 % 256 = u / 256 := by omega
      simp [prts, List.range_succ, this]
    rw [ep] at g3
    refine ⟨o, p2, h, u / 256, u % 256, rfl, ⟨dx, g3.sm _ _ (s2 _ _ ho)⟩, g3.at_, fun p3 H4 s4 h4 => ?_⟩
    have h24 := s4 _ _ (g3.sm _ _ h2)
    have el : ((us.take i).flatMap (ub h)).length = 2 * (us.take i).length := flat_len h _
    have el2 : (us.take i).length <= 10 := by rw [List.length_take]; omega
    refine ⟨_, _, h24, h4, szl (by rw [List.length_map, List.length_map, el]; cases h <;> simp <;> omega), ?_⟩
    refine ⟨(s2.trans (g3.sm.trans s4)).put g1.nw, ?_, _, rfl⟩
    rw [upd_same]
    have e : us.take (i + 1) = us.take i ++ [u] := by rw [List.take_add_one, hux]; rfl
    rw [e, List.flatMap_append, List.map_append]
    simp [ub]
  · rintro σ H2 ⟨s2, h2, v3, rfl⟩
    rw [List.length_map, List.take_length] at h2
    exact k _ _ ⟨g1.nw, s2, h2⟩
def spSpellP (t : Adr) : Sp := fun vs H Q _ => ∃ (o : Addr) (h : Bool) (n : Int), vs = [.ref o, .int n, .int 0] /\ Po t H o h /\ Sg n /\ ∀ p q H', H q = none -> Same H H' -> H' q = some (.lst ((prow h n).map V.int)) -> H' p = some (.tup [.ref q, .int 0]) -> Q (.ref p) H'
theorem ok_spellP (T : Txt w K mg t) : FnOk P w K mg base CX0 4 t.a_PairTongue_spell t.f_PairTongue_spell ["self", "sign", "page"] (spSpellP t) := by
  refine T.F_PairTongue_spell.okQ sc_PairTongue_spell (fun vs H Q E h => by obtain ⟨o, h, n, rfl, _⟩ := h; rfl) fun cdv A outer s H vs Q E hr h => ?_
  obtain ⟨o, h, n, rfl, po, hs, k⟩ := h
  have hu := hr.units
  refine ⟨_, (q_pss_cons (q_ps_if (q_pt_not (q_mt_val (q_cal (h_is_sign T) hr (q_pa_c (q_vv 1) q_pa_nil)))) (q_pss_one q_ps_never) q_pss_nil)
      (q_pss_one (q_ps_ret (q_me_tup (q_pa_c (q_meth (h_PairTongue_row_of T) hr (q_vv 0) (q_pa_c (q_cal (h_units_of T) hr (q_pa_c (q_vv 1) q_pa_nil)) q_pa_nil)) (q_pa_c (q_vv 2) q_pa_nil)))))), ?_⟩
  refine ⟨.int n, rfl, .int n, ?_⟩
  refine ite2 (fun e => absurd ((sg_iff n).mpr hs) (by simpa using e)) (fun _ => ?_)
  obtain ⟨dx, ho⟩ := id po
  refine ⟨o, dx, _, rfl, ho, rfl, ?_⟩
  refine ⟨n, rfl, hs, fun p1 H1 g1 => ?_⟩
  refine ⟨o, p1, h, unitsOf n, rfl, po.mono g1.sm, g1.lst, by have := units_len n; omega, fun u hu => units_in hs hu, fun p2 H2 g2 => ?_⟩
  exact ⟨sz rfl, fun p3 H3 g3 => k p3 p2 H3 (g2.after g1.sm).nw (g1.sm.trans (g2.sm.trans g3.sm)) (g3.sm _ _ g2.at_) g3.at_⟩
theorem h_PairTongue_spell_0 (T : Txt w K mg t) : HasMD P w K mg base t.c_PairTongue "spell" 4 t.a_PairTongue_spell t.f_PairTongue_spell ["self", "sign", "page"] [] (spSpellP t) :=
  ⟨T.cls_PairTongue, T.mt_PairTongue_spell, ⟨_, T.b_PairTongue_spell, .nil⟩, ok_spellP T⟩
def spE (C : Addr) (names : List Str) : Sp := fun vs H Q _ => ∃ e us, vs = .ref e :: us /\ us.length = names.length /\ H e = some (XN e C none) /\ ∀ d0 H', H' e = some (XN e C (some d0)) -> H' d0 = some (.xd (names.zip us)) -> (∀ b o, b ≠ e -> H b = some o -> H' b = some o) -> Q .non H'
theorem he_NoSign (T : Txt w K mg t) : HasE P w K mg base "NoSign" t.e_NoSign 1 t.a_NoSign_init t.f_NoSign_init ["self", "sign", "at"] (spE t.e_NoSign ["sign", "at"]) := by
  refine ⟨T.ge_NoSign, ⟨T.ea_NoSign, T.ei_NoSign, T.ej_NoSign, T.ek_NoSign⟩, T.b_NoSign_init, T.F_NoSign_init.okQ sc_NoSign_init (fun vs H Q E h => by obtain ⟨e, us, rfl, hl, _⟩ := h; rw [List.length_cons, hl]; rfl) fun cdv A outer s H vs Q E hr h => ?_⟩
  obtain ⟨e, us, rfl, hl, hx, k⟩ := h
  obtain ⟨v0, v1, rfl⟩ : ∃ v0 v1, us = [v0, v1] := match us, hl with | [v0, v1], _ => ⟨v0, v1, rfl⟩
  have S : StE K t.e_NoSign := ⟨T.ea_NoSign, T.xc_NoSign, T.eq_NoSign⟩
  refine ⟨_, (q_pss_cons (q_ps_expr (q_baseI (K := K) rfl ⟨T.eb_0, T.eb_1, T.eb_2⟩ T.ge_TongueError (q_pa_c (q_vv 0) (q_pa_c q_pe_str q_pa_nil))))
      (q_pss_cons (q_xset (K := K) rfl (q_vv 0) (q_vv 1))
      (q_pss_one (q_xset (K := K) rfl (q_vv 0) (q_vv 2))))), ?_⟩
  refine ⟨Nat.le_of_ble_eq_true rfl, _, _, hx, T.ea_NoSign, ?_⟩
  refine ⟨e, _, _, rfl, hx, S, T.en_NoSign_sign, fun _ d0 hd hne => ?_, (fun d0 z => by cases z)⟩
  refine ⟨e, _, _, rfl, upd_same, S, T.en_NoSign_at, (fun z => by cases z), fun d1 z => ?_⟩
  cases z
  refine ⟨_, by rw [upd_ne hne]; exact upd_same, Nat.lt_of_lt_of_le (Nat.lt_succ_self _) (Nat.le_of_ble_eq_true rfl), ?_⟩
  refine k d0 _ ?_ ?_ (fun b o nb q => ?_)
  · simp only [upd_ne (Ne.symm hne), upd_same]
  · first | exact upd_same | (simp only [upd_ne hne, upd_same]; rfl)
  · have nd : b ≠ d0 := ne_of_none q hd
    simp only [upd_ne nb, upd_ne nd]; exact q
theorem heH_NoSign (T : Txt w K mg t) : HasEH P w K mg base "NoSign" t.e_NoSign 1 t.a_NoSign_init t.f_NoSign_init ["self", "sign", "at"] (spE t.e_NoSign ["sign", "at"]) := by
  refine ⟨T.ge_NoSign, ⟨T.ea_NoSign, T.ei_NoSign, T.ej_NoSign, T.ek_NoSign⟩, T.b_NoSign_init, T.F_NoSign_init.okH sc_NoSign_init (fun vs H Q E h => by obtain ⟨e, us, rfl, hl, _⟩ := h; rw [List.length_cons, hl]; rfl) fun cdv A outer s H vs Q E hr h => ?_⟩
  obtain ⟨e, us, rfl, hl, hx, k⟩ := h
  obtain ⟨v0, v1, rfl⟩ : ∃ v0 v1, us = [v0, v1] := match us, hl with | [v0, v1], _ => ⟨v0, v1, rfl⟩
  have S : StE K t.e_NoSign := ⟨T.ea_NoSign, T.xc_NoSign, T.eq_NoSign⟩
  refine ⟨_, (q_pss_cons (q_ps_expr (q_baseI (K := K) rfl ⟨T.eb_0, T.eb_1, T.eb_2⟩ T.ge_TongueError (q_pa_c (q_vv 0) (q_pa_c q_pe_str q_pa_nil))))
      (q_pss_cons (q_xset (K := K) rfl (q_vv 0) (q_vv 1))
      (q_pss_one (q_xset (K := K) rfl (q_vv 0) (q_vv 2))))), ?_⟩
  refine ⟨Nat.le_of_ble_eq_true rfl, _, _, hx, T.ea_NoSign, ?_⟩
  refine ⟨e, _, _, rfl, hx, S, T.en_NoSign_sign, fun _ d0 hd hne => ?_, (fun d0 z => by cases z)⟩
  refine ⟨e, _, _, rfl, upd_same, S, T.en_NoSign_at, (fun z => by cases z), fun d1 z => ?_⟩
  cases z
  refine ⟨_, by rw [upd_ne hne]; exact upd_same, Nat.lt_of_lt_of_le (Nat.lt_succ_self _) (Nat.le_of_ble_eq_true rfl), ?_⟩
  refine k d0 _ ?_ ?_ (fun b o nb q => ?_)
  · simp only [upd_ne (Ne.symm hne), upd_same]
  · first | exact upd_same | (simp only [upd_ne hne, upd_same]; rfl)
  · have nd : b ≠ d0 := ne_of_none q hd
    simp only [upd_ne nb, upd_ne nd]; exact q
def spSpBP (K : PySem.W.Frag) (t : Adr) : Sp := fun vs H Q E => ∃ (o : Addr) (h : Bool) (v : V), vs = [.ref o, v, .int 0] /\ Po t H o h /\ Knd K H v /\ (∀ n, v = .int n -> Sg n -> ∀ p q H', H q = none -> Same H H' -> H' q = some (.lst ((prow h n).map V.int)) -> H' p = some (.tup [.ref q, .int 0]) -> Q (.ref p) H') /\
  (isSig v = false -> ∀ e d0 H', Same H H' -> H' e = some (XO e t.e_NoSign (some d0)) -> H' d0 = some (.xd [("sign", v), ("at", .int 0)]) -> E (.ref t.e_NoSign) (some e) H')
theorem okx_spellP (T : Txt w K mg t) : FnOk P w K mg base (CX1 P w) 4 t.a_PairTongue_spell t.f_PairTongue_spell ["self", "sign", "page"] (spSpBP K t) := by
  refine T.F_PairTongue_spell.okX sc_PairTongue_spell (fun vs H Q E h => by obtain ⟨o, h, v, rfl, _⟩ := h; rfl) fun cdv A outer s H vs Q E hr h => ?_
  obtain ⟨o, h, v, rfl, po, kd, k1, k2⟩ := h
  have hu := hr.units
  refine ⟨_, (q_pss_cons (q_ps_if (q_pt_not (q_mt_val (q_cal (h_is_sign T) hr (q_pa_c (q_vv 1) q_pa_nil)))) (q_pss_one (q_raiseE (Es := fun _ => E) (he_NoSign T) hr rfl lets_def (q_pa_c (q_vv 1) (q_pa_c q_pe_int q_pa_nil)))) q_pss_nil)
      (q_pss_one (q_ps_ret (q_me_tup (q_pa_c (q_meth (h_PairTongue_row_of T) hr (q_vv 0) (q_pa_c (q_cal (h_units_of T) hr (q_pa_c (q_vv 1) q_pa_nil)) q_pa_nil)) (q_pa_c (q_vv 2) q_pa_nil)))))), ?_⟩
  refine ⟨v, rfl, kd, ?_⟩
  refine ite2 (fun hs => ?_) (fun hs => ?_)
  · have hs : isSig v = false := by simpa using hs
    refine ⟨Nat.le_of_ble_eq_true rfl, fun e he => ⟨e, _, rfl, rfl, upd_same, fun d0 H' x1 y1 z1 => ⟨rfl, e, some d0, rfl, x1, ?_⟩⟩⟩
    have ne : d0 ≠ e := fun z => by rw [z, x1] at y1; cases y1
    refine k2 hs e d0 _ (fun b o q => ?_) upd_same (by rw [upd_ne ne]; exact y1)
    have nb := ne_of_none q he
    rw [upd_ne nb]
    exact z1 b o nb (by rw [upd_ne nb]; exact q)
  · have hs : isSig v = true := by simpa using hs
    obtain ⟨n, rfl⟩ : ∃ n, v = .int n := by
      cases v <;> first | exact ⟨_, rfl⟩ | (exfalso; simp [isSig, wthn] at hs)
    have hs := (sg_iff n).mp hs
    obtain ⟨dx, ho⟩ := id po
    refine ⟨o, dx, _, rfl, ho, rfl, ?_⟩
    refine ⟨n, rfl, hs, fun p1 H1 g1 => ?_⟩
    refine ⟨o, p1, h, unitsOf n, rfl, po.mono g1.sm, g1.lst, by have := units_len n; omega, fun u hu => units_in hs hu, fun p2 H2 g2 => ?_⟩
    exact ⟨sz rfl, fun p3 H3 g3 => k1 n rfl hs p3 p2 H3 (g2.after g1.sm).nw (g1.sm.trans (g2.sm.trans g3.sm)) (g3.sm _ _ g2.at_) g3.at_⟩
theorem hx_PairTongue_spell_0 (T : Txt w K mg t) : HasMX P w K mg base t.c_PairTongue "spell" 4 t.a_PairTongue_spell t.f_PairTongue_spell ["self", "sign", "page"] [] (spSpBP K t) :=
  ⟨T.cls_PairTongue, T.mt_PairTongue_spell, ⟨_, T.b_PairTongue_spell, .nil⟩, okx_spellP T⟩
theorem cut1 (f : Int) (r : List Int) : cutV ((f :: r).map V.int) (some 1) none = r.map V.int := by
  rw [cutV_ints]
  congr 1
  exact cutL_from (f :: r) 1
theorem h_length_of (T : Txt w K mg t) : Has P w K mg base "length_of" 1 t.a_length_of t.f_length_of ["sign"] (fun vs H Q _ => ∃ n, vs = [.int n] /\ Q (.int (lenS n)) H) := by
  refine ⟨T.g_length_of, T.F_length_of.kp, T.b_length_of, T.F_length_of.okQ sc_length_of (fun vs H Q E h => by obtain ⟨n, rfl, _⟩ := h; rfl) fun cdv A outer s H vs Q E hr h => ?_⟩
  obtain ⟨n, rfl, k⟩ := h
  refine ⟨_, (q_pss_cons (q_ps_if (q_mt_cmp g_lt (q_vv 0) q_pe_int (nomark _)) (q_pss_one (q_ps_ret q_pe_int)) q_pss_nil)
      (q_pss_cons (q_ps_if (q_mt_cmp g_lt (q_vv 0) q_pe_int (nomark _)) (q_pss_one (q_ps_ret q_pe_int)) q_pss_nil)
      (q_pss_cons (q_ps_if (q_mt_cmp g_lt (q_vv 0) q_pe_int (nomark _)) (q_pss_one (q_ps_ret q_pe_int)) q_pss_nil)
      (q_pss_one (q_ps_ret q_pe_int))))), ?_⟩
  unfold lenS at k
  refine ite2 (fun e => ?_) (fun e => ?_)
  · rw [if_pos (of_decide_eq_true e)] at k; exact k
  rw [if_neg (fun z => e (decide_eq_true z))] at k
  refine ite2 (fun e => ?_) (fun e => ?_)
  · rw [if_pos (of_decide_eq_true e)] at k; exact k
  rw [if_neg (fun z => e (decide_eq_true z))] at k
  refine ite2 (fun e => ?_) (fun e => ?_)
  · rw [if_pos (of_decide_eq_true e)] at k; exact k
  rw [if_neg (fun z => e (decide_eq_true z))] at k
  exact k
def spRowL : Sp := fun vs H Q _ => ∃ n, vs = [.int n] /\ Sg n /\ ∀ p H', Gro H p (.lst ((row n).map V.int)) H' -> Q (.ref p) H'
theorem h_lead_row (T : Txt w K mg t) : Has P w K mg base "lead_row" 3 t.a_lead_row t.f_lead_row ["sign"] spRowL := by
  refine ⟨T.g_lead_row, T.F_lead_row.kp, T.b_lead_row, T.F_lead_row.okQ sc_lead_row (fun vs H Q E h => by obtain ⟨n, rfl, _⟩ := h; rfl) fun cdv A outer s H vs Q E hr h => ?_⟩
  obtain ⟨n, rfl, hs, k⟩ := h
  have hu := hr.units
  refine ⟨_, (q_pss_cons (q_ps_set (i := 1) sc_lead_row.nd rfl (by first | exact Or.inl rfl | exact Or.inr rfl) (q_cal (h_length_of T) hr (q_pa_c (q_vv 0) q_pa_nil)))
      (q_pss_cons (q_ps_if (q_mt_cmp (g_eqK (K := K) rfl hu) (q_vv 1) q_pe_int (nomark _)) (q_pss_one (q_ps_ret (q_me_lst (q_pa_c (q_vv 0) q_pa_nil)))) q_pss_nil)
      (q_pss_cons (q_ps_set (i := 2) sc_lead_row.nd rfl (by first | exact Or.inl rfl | exact Or.inr rfl) (q_cal (h_parted T) hr (q_pa_c (q_vv 0) (q_pa_c (q_gi T.c_BITS) (q_pa_c (q_vv 1) q_pa_nil)))))
      (q_pss_one (q_ps_ret (q_pe_op (g_addK (K := K) rfl) (q_me_lst (q_pa_c (q_pe_op (g_addK (K := K) rfl) (q_pe_ix (g_ixK (K := K) rfl) (q_pe_glob (v := .ref t.a_LEADS) rfl T.c_LEADS rfl) (q_vv 1) (fun _ _ => rfl)) (q_pe_ix (g_ixK (K := K) rfl) (q_vv 2) q_pe_int (fun _ _ => rfl))) q_pa_nil)) (q_pe_comp rfl (CompScope.of (fns := (defScope s_lead_row).names) (N := ["sign", "length", "parts"]) (Nc := ["part"]) (nv := 1) (caps := []) rfl rfl (by decide +kernel)) (q_pi_listK (K := K) rfl (q_pe_slice (g_slK (K := K) rfl) (q_vv 2) (q_po_some q_pe_int) q_po_none)) (fun _ _ _ _ => (q_pg_name (i := 0) (show List.Nodup (["part"] : List Str) by decide +kernel) rfl (Or.inl rfl) (Or.inr rfl))) (fun _ _ _ _ => q_pts_nil) (fun _ _ _ _ => (q_pe_op (g_addK (K := K) rfl) (q_gi T.c_FIRST_BEHIND) (q_vv 0)))))))))), ?_⟩
  refine ⟨n, rfl, ?_⟩
  by_cases c : n < 128
  · have e1 : lenS n = 1 := by unfold lenS; rw [if_pos c]
    have e2 : row n = [n] := by unfold row; rw [if_pos c]
    refine ite2 (fun _ => ?_) (fun e => absurd (decide_eq_true e1) e)
    rw [e2] at k
    exact ⟨sz rfl, fun p H' g => k p H' g⟩
  obtain ⟨L, v, q0, rest, eL, n1, l4, ep, hv, er, hn⟩ := lead_facts hs (by omega)
  refine ite2 (fun e => absurd (of_decide_eq_true e) (by rw [eL]; omega)) (fun _ => ?_)
  refine ⟨n, 6, L, by rw [eL]; rfl, hs.1, hn, by decide, by omega, fun p1 H1 g1 => ?_⟩
  rw [ep] at g1
  have hat : atI (([0, 0, 192, 224, 240] : List Int).map V.int) (lenS n) = some (.int v) := by
    rw [eL]; exact atI_nat (by rw [List.getElem?_map, hv]; rfl)
  refine ⟨_, .int v, .inr (T.q_LEADS _), hat, ?_⟩
  refine ⟨_, .int q0, .inl g1.lst, atI_nat (j := 0) rfl, ?_⟩
  refine ⟨sz rfl, fun p2 H2 g2 => ?_⟩
  refine ⟨_, rfl, _, g2.sm.seq g1.lst, fun p3 H3 g3 => ?_⟩
  rw [cut1] at g3
  have hrl : rest.length <= 1000 := by
    have := prts_len 6 L n
    rw [ep] at this
    simp at this
    omega
  refine ⟨_, rfl, ⟨_, g3.lst⟩, ?_⟩
  refine comp_to ((rest.map fun b => 128 + b).map V.int) (by simp) g3.lst (szl (by simp; omega)) (fun i y v H4 N hy hv s4 hN => ?_) fun p4 H4 g4 => ?_
  · rw [List.getElem?_map] at hy
    obtain ⟨y, hy', rfl⟩ := Option.map_eq_some_iff.mp hy
    rw [List.getElem?_map, List.getElem?_map, hy'] at hv
    cases hv
    exact hN _ (Same.refl _)
  refine ⟨_, _, (g3.sm.trans g4.sm).seq g2.lst, g4.lst, szl (by simp; omega), fun p5 H5 g5 => ?_⟩
  rw [er] at k
  exact k _ _ (g5.after (((g1.sm.trans g2.sm).trans g3.sm).trans g4.sm))
def spSpBL (K : PySem.W.Frag) (C : Addr) : Sp := fun vs H Q E => ∃ (o : Addr) (v : V), vs = [.ref o, v, .int 0] /\ Knd K H v /\ (∀ n, v = .int n -> Sg n -> ∀ p q H', H q = none -> Same H H' -> H' q = some (.lst ((row n).map V.int)) -> H' p = some (.tup [.ref q, .int 0]) -> Q (.ref p) H') /\
  (isSig v = false -> ∀ e d0 H', Same H H' -> H' e = some (XO e C (some d0)) -> H' d0 = some (.xd [("sign", v), ("at", .int 0)]) -> E (.ref C) (some e) H')
theorem okx_spellL (T : Txt w K mg t) : FnOk P w K mg base (CX1 P w) 4 t.a_LeadTongue_spell t.f_LeadTongue_spell ["self", "sign", "page"] (spSpBL K t.e_NoSign) := by
  refine T.F_LeadTongue_spell.okX sc_LeadTongue_spell (fun vs H Q E h => by obtain ⟨o, v, rfl, _⟩ := h; rfl) fun cdv A outer s H vs Q E hr h => ?_
  obtain ⟨o, v, rfl, kd, k1, k2⟩ := h
  have hu := hr.units
  refine ⟨_, (q_pss_cons (q_ps_if (q_pt_not (q_mt_val (q_cal (h_is_sign T) hr (q_pa_c (q_vv 1) q_pa_nil)))) (q_pss_one (q_raiseE (Es := fun _ => E) (he_NoSign T) hr rfl lets_def (q_pa_c (q_vv 1) (q_pa_c q_pe_int q_pa_nil)))) q_pss_nil)
      (q_pss_one (q_ps_ret (q_me_tup (q_pa_c (q_cal (h_lead_row T) hr (q_pa_c (q_vv 1) q_pa_nil)) (q_pa_c (q_vv 2) q_pa_nil)))))), ?_⟩
  refine ⟨v, rfl, kd, ?_⟩
  refine ite2 (fun hs => ?_) (fun hs => ?_)
  · have hs : isSig v = false := by simpa using hs
    refine ⟨Nat.le_of_ble_eq_true rfl, fun e he => ⟨e, _, rfl, rfl, upd_same, fun d0 H' x1 y1 z1 => ⟨rfl, e, some d0, rfl, x1, ?_⟩⟩⟩
    have ne : d0 ≠ e := fun z => by rw [z, x1] at y1; cases y1
    refine k2 hs e d0 _ (fun b o q => ?_) upd_same (by rw [upd_ne ne]; exact y1)
    have nb := ne_of_none q he
    rw [upd_ne nb]
    exact z1 b o nb (by rw [upd_ne nb]; exact q)
  · have hs : isSig v = true := by simpa using hs
    obtain ⟨n, rfl⟩ : ∃ n, v = .int n := by
      cases v <;> first | exact ⟨_, rfl⟩ | (exfalso; simp [isSig, wthn] at hs)
    have hs := (sg_iff n).mp hs
    refine ⟨n, rfl, hs, fun p1 H1 g1 => ?_⟩
    exact ⟨sz rfl, fun p2 H2 g2 => k1 n rfl hs p2 p1 H2 g1.nw (g1.sm.trans g2.sm) (g2.sm _ _ g1.at_) g2.at_⟩
theorem hx_LeadTongue_spell_0 (T : Txt w K mg t) : HasMX P w K mg base t.c_LeadTongue "spell" 4 t.a_LeadTongue_spell t.f_LeadTongue_spell ["self", "sign", "page"] [] (spSpBL K t.e_NoSign) :=
  ⟨T.cls_LeadTongue, T.mt_LeadTongue_spell, ⟨_, T.b_LeadTongue_spell, .nil⟩, okx_spellL T⟩
def spSpellL : Sp := fun vs H Q _ => ∃ (o : Addr) (n : Int), vs = [.ref o, .int n, .int 0] /\ Sg n /\ ∀ p q H', H q = none -> Same H H' -> H' q = some (.lst ((row n).map V.int)) -> H' p = some (.tup [.ref q, .int 0]) -> Q (.ref p) H'
theorem ok_spellL (T : Txt w K mg t) : FnOk P w K mg base CX0 4 t.a_LeadTongue_spell t.f_LeadTongue_spell ["self", "sign", "page"] spSpellL := by
  refine T.F_LeadTongue_spell.okQ sc_LeadTongue_spell (fun vs H Q E h => by obtain ⟨o, n, rfl, _⟩ := h; rfl) fun cdv A outer s H vs Q E hr h => ?_
  obtain ⟨o, n, rfl, hs, k⟩ := h
  have hu := hr.units
  refine ⟨_, (q_pss_cons (q_ps_if (q_pt_not (q_mt_val (q_cal (h_is_sign T) hr (q_pa_c (q_vv 1) q_pa_nil)))) (q_pss_one q_ps_never) q_pss_nil)
      (q_pss_one (q_ps_ret (q_me_tup (q_pa_c (q_cal (h_lead_row T) hr (q_pa_c (q_vv 1) q_pa_nil)) (q_pa_c (q_vv 2) q_pa_nil)))))), ?_⟩
  refine ⟨.int n, rfl, .int n, ?_⟩
  refine ite2 (fun e => absurd ((sg_iff n).mpr hs) (by simpa using e)) (fun _ => ?_)
  refine ⟨n, rfl, hs, fun p1 H1 g1 => ?_⟩
  exact ⟨sz rfl, fun p2 H2 g2 => k p2 p1 H2 g1.nw (g1.sm.trans g2.sm) (g2.sm _ _ g1.at_) g2.at_⟩
theorem h_LeadTongue_spell_0 (T : Txt w K mg t) : HasMD P w K mg base t.c_LeadTongue "spell" 4 t.a_LeadTongue_spell t.f_LeadTongue_spell ["self", "sign", "page"] [] spSpellL :=
  ⟨T.cls_LeadTongue, T.mt_LeadTongue_spell, ⟨_, T.b_LeadTongue_spell, .nil⟩, ok_spellL T⟩
end
end My
namespace My
open PySem L2
def idx : List Int -> Int -> Option Nat
  | [], _ => none
  | m :: ms, n => if m = n then some 0 else (idx ms n).map (· + 1)
theorem idx_none {ns : List Int} {n : Int} : idx ns n = none ↔ n ∉ ns := by
  induction ns with
  | nil => simp [idx]
  | cons m ms ih =>
    unfold idx
    by_cases e : m = n
    · simp [e]
    · rw [if_neg e]
      have e' : ¬ n = m := fun z => e z.symm
      simp [ih, e']
theorem idx_get : ∀ {ns : List Int} {n : Int} {i : Nat}, idx ns n = some i -> ns[i]? = some n /\ ∀ j, j < i -> ns[j]? ≠ some n
  | [], n, i, h => by cases h
  | m :: ms, n, i, h => by
    unfold idx at h
    by_cases e : m = n
    · rw [if_pos e] at h
      cases h
      exact ⟨by simp [e], fun j hj => absurd hj (by omega)⟩
    · rw [if_neg e] at h
      obtain ⟨k, hk, rfl⟩ := Option.map_eq_some_iff.mp h
      obtain ⟨a, b⟩ := idx_get hk
      refine ⟨by simpa using a, fun j hj => ?_⟩
      cases j with
      | zero => simpa using e
      | succ j => simpa using b j (by omega)
theorem idx_app (ns : List Int) (n m : Int) : idx (ns ++ [n]) m = match idx ns m with
    | some i => some i
    | none => if n = m then some ns.length else none := by
  induction ns with
  | nil => simp [idx]
  | cons a as ih =>
    rw [List.cons_append, idx, idx]
    by_cases e : a = m
    · rw [if_pos e, if_pos e]
    · rw [if_neg e, if_neg e, ih]
      cases idx as m with
      | some i => rfl
      | none =>
        dsimp only [Option.map]
        by_cases e2 : n = m
        · rw [if_pos e2, if_pos e2]; simp
        · rw [if_neg e2, if_neg e2]
theorem idx_some {ns : List Int} {n : Int} (h : n ∈ ns) : ∃ i, idx ns n = some i /\ i < ns.length := by
  cases e : idx ns n with
  | none => exact absurd h (idx_none.mp e)
  | some i => exact ⟨i, rfl, (List.getElem?_eq_some_iff.mp (idx_get e).1).1⟩
def sel {α : Type} (g : Int) (x y : α) : α := if g = 0 then x else y
def Two (g : Int) : Prop := g = 0 \/ g = 1
theorem at_sel {g : Int} {x y : V} (h : Two g) : atI [x, y] g = some (sel g x y) := by
  rcases h with rfl | rfl <;> rfl
theorem Two.flip {g : Int} (h : Two g) : Two (1 - g) := by
  rcases h with rfl | rfl
  · exact .inr rfl
  · exact .inl rfl
theorem sel_flip {α : Type} {g : Int} {x y : α} (h : Two g) : sel (1 - g) x y = sel g y x := by
  rcases h with rfl | rfl <;> rfl
theorem sel_map {α β : Type} (f : α -> β) (g : Int) (x y : α) : sel g (f x) (f y) = f (sel g x y) := by
  unfold sel; split <;> rfl
def aloneB (O P : List Int) (b : Nat) : Bool := !decide (O.getD b 0 ∈ P)
def alone (O P : List Int) : List Nat := (List.range O.length).filter (aloneB O P)
theorem head_filter {f : Nat -> Bool} {i : Nat} (h : ∀ j, j < i -> f j = false) (k : f i = true) : ∀ {n : Nat}, i < n -> ((List.range n).filter f).head? = some i
  | 0, z => absurd z (by omega)
  | n + 1, z => by
    rw [List.range_succ, List.filter_append, List.head?_append]
    by_cases c : i < n
    · rw [head_filter h k c]; rfl
    · obtain rfl : i = n := by omega
      have e : (List.range i).filter f = [] := by
        rw [List.filter_eq_nil_iff]
        intro j hj
        rw [h j (List.mem_range.mp hj)]
        decide
      rw [e]
      simp [k]
theorem filter_none {f : Nat -> Bool} {n : Nat} (h : ∀ j, j < n -> f j = false) : (List.range n).filter f = [] := by
  rw [List.filter_eq_nil_iff]
  intro j hj
  rw [h j (List.mem_range.mp hj)]
  decide
def byd (O P : List Int) (g : Int) : List Int := match (alone O P).head? with
  | some b => [254 + (1 - g), (b : Int)]
  | none => []
def Okp (ns : List Int) : Prop := (∀ n ∈ ns, Sg n) /\ ns.Nodup /\ ns.length <= 250
theorem sel_ok {g : Int} {ns ms : List Int} (h : Okp ns) (k : Okp ms) : Okp (sel g ns ms) := by
  unfold sel; split
  · exact h
  · exact k
structure Fp where
  dx : Addr
  pp : Addr
  pl : Addr
  ps : Addr
  d0 : Addr
  d1 : Addr
  l0 : Addr
  l1 : Addr
  s0 : Addr
  s1 : Addr
def Places (H : Hp) (d : Addr) (ns : List Int) : Prop := ∃ kv, H d = some (.dK kv) /\ ∀ n : Int, valV kv (.inl n) = (idx ns n).map fun i => V.int (i : Int)
structure Tg (t : Adr) (H : Hp) (a : Addr) (f : Fp) (ns ms : List Int) : Prop where
  o : H a = some (.ins t.c_ShiftTongue f.dx [("places", .ref f.pp), ("lists", .ref f.pl), ("shifted", .ref f.ps)])
  p : H f.pp = some (.lst [.ref f.d0, .ref f.d1])
  l : H f.pl = some (.lst [.ref f.l0, .ref f.l1])
  s : H f.ps = some (.lst [.ref f.s0, .ref f.s1])
  d0 : Places H f.d0 ns
  d1 : Places H f.d1 ms
  l0 : H f.l0 = some (.lst (ns.map V.int))
  l1 : H f.l1 = some (.lst (ms.map V.int))
  s0 : H f.s0 = some (.lst ((byd ms ns 0).map V.int))
  s1 : H f.s1 = some (.lst ((byd ns ms 1).map V.int))
  k0 : Okp ns
  k1 : Okp ms
section
variable {t : Adr} {H H' : Hp} {a : Addr} {f : Fp} {ns ms : List Int} {g : Int}
theorem Tg.keep (h : Tg t H a f ns ms) (k : ∀ c u, c ∈ [a, f.pp, f.pl, f.ps, f.d0, f.d1, f.l0, f.l1, f.s0, f.s1] -> H c = some u -> H' c = some u) : Tg t H' a f ns ms := by
  obtain ⟨o, p, l, s, ⟨v0, d0, e0⟩, ⟨v1, d1, e1⟩, l0, l1, s0, s1, k0, k1⟩ := h
  exact ⟨k _ _ (by simp) o, k _ _ (by simp) p, k _ _ (by simp) l, k _ _ (by simp) s, ⟨v0, k _ _ (by simp) d0, e0⟩, ⟨v1, k _ _ (by simp) d1, e1⟩, k _ _ (by simp) l0, k _ _ (by simp) l1, k _ _ (by simp) s0, k _ _ (by simp) s1, k0, k1⟩
theorem Tg.mono (h : Tg t H a f ns ms) (k : Same H H') : Tg t H' a f ns ms := h.keep fun c u _ e => k c u e
theorem Tg.dk (h : Tg t H a f ns ms) (tg : Two g) : Places H (sel g f.d0 f.d1) (sel g ns ms) := by
  rcases tg with rfl | rfl
  · exact h.d0
  · exact h.d1
def spPl (K : PySem.W.Frag) : Sp := fun vs H Q _ => ∃ (a : Addr) (ns : List Int) (wh : Int), vs = [.ref a, .int wh] /\ SqL K H a (ns.map V.int) /\ Okp ns /\ ∀ p H', Same H H' -> H p = none -> Places H' p ns -> Q (.ref p) H'
theorem h_places_in (T : Txt w K mg t) : Has P w K mg base "places_in" 4 t.a_places_in t.f_places_in ["signs", "which"] (spPl K) := by
  refine ⟨T.g_places_in, T.F_places_in.kp, T.b_places_in, T.F_places_in.okQ sc_places_in (fun vs H Q E h => by obtain ⟨a, xs, wh, rfl, _⟩ := h; rfl) fun cdv A outer s H vs Q E hr h => ?_⟩
  obtain ⟨a, ns, wh, rfl, h1, ⟨sg, nd, ln⟩, kq⟩ := h
  have hu := hr.units
  refine ⟨_, (q_pss_cons (q_ps_if (q_mt_cmp g_gt (q_calB (c_lenK (K := K) rfl) T.n_len PySem.boot_len (q_pa_c (q_vv 0) q_pa_nil)) (q_gi T.c_MOST_SIGNS) (nomark _)) (q_pss_one q_ps_never) q_pss_nil)
      (q_pss_cons (q_ps_set (i := 2) sc_places_in.nd rfl (by first | exact Or.inl rfl | exact Or.inr rfl) q_me_dic)
      (q_pss_cons (q_ps_for PassesOwn.never rfl (q_pi_enumK (K := K) rfl rfl T.n_enumerate (q_pa_c (q_vv 0) q_pa_nil)) (q_pg_tupK (K := K) rfl rfl (q_pgs_cons (q_pg_name (i := 3) sc_places_in.nd rfl (by first | exact Or.inl rfl | exact Or.inr rfl)) (q_pgs_cons (q_pg_name (i := 4) sc_places_in.nd rfl (by first | exact Or.inl rfl | exact Or.inr rfl)) q_pgs_nil))) (q_pss_cons (q_ps_if (q_PW_pt (q_pw_or (q_pt_not (q_mt_val (q_cal (h_is_sign T) hr (q_pa_c (q_vv 4) q_pa_nil)))) (q_pw_or1 (q_mt_cmp (g_inM hu) (q_vv 4) (q_vv 2) (by with_unfolding_all rfl))))) (q_pss_one q_ps_never) q_pss_nil)
      (q_pss_one (q_dputM hu (q_vv 2) (q_vv 4) (q_vv 3)))))
      (q_pss_one (q_ps_ret (q_vv 2)))))), ?_⟩
  refine ⟨_, .inl h1, ?_⟩
  refine ite2 (fun z => ?_) (fun _ => ?_)
  · have z : ((ns.map V.int).length : Int) > 250 := of_decide_eq_true z
    rw [List.length_map] at z
    omega
  refine fun pd H1 g1 => ?_
  refine ⟨a, _, rfl, g1.sm.seq h1, for_enum (K := K) (a := a) (xs := ns.map V.int) (fun i σ H' => Same H H' /\ ∃ (kvs : List (Key × V)) (v3 v4 : Option V), H' pd = some (.dK kvs) /\ kvs.length <= i /\ (∀ n : Int, valV kvs (.inl n) = (idx (ns.take i) n).map fun i => V.int (i : Int)) /\ σ = [some (.ref a), some (.int wh), some (.ref pd), v3, v4]) ⟨g1.sm, [], _, _, g1.at_, by simp, (fun n => by simp [valV, idx]), rfl⟩ (fun i σ H' _ z => z.1.seq h1) ?_ ?_⟩
  · rintro i x p σ H2 H3 hx ⟨s2, kvs, v3, v4, h2, lk, hv, rfl⟩ g3
    obtain ⟨n, hn, rfl⟩ := ints_at hx
    have hi := (List.getElem?_eq_some_iff.mp hn).1
    refine ⟨p, _, rfl, g3.tup, rfl, _, _, rfl, _, _, rfl, rfl, ?_⟩
    have s3 := s2.trans g3.sm
    have d3 := g3.sm _ _ h2
    have yes : isSig (.int n) = true := (sg_iff n).mpr (sg n (List.mem_of_getElem? hn))
    refine ⟨_, rfl, .int n, ?_⟩
    refine ite2 (fun y => ?_) (fun _ => ?_)
    · have y : (!isSig (.int n)) = true := y
      rw [yes] at y
      cases y
    have nin : n ∉ ns.take i := fun z => by
      obtain ⟨j, hj⟩ := List.getElem?_of_mem z
      have hji : j < i := by
        have := (List.getElem?_eq_some_iff.mp hj).1
        rw [List.length_take] at this
        omega
      rw [List.getElem?_take_of_lt hji] at hj
      obtain ⟨a1, e1⟩ := List.getElem?_eq_some_iff.mp hj
      obtain ⟨a2, e2⟩ := List.getElem?_eq_some_iff.mp hn
      exact absurd (e1.trans e2.symm) (List.pairwise_iff_getElem.mp nd j i a1 a2 hji)
    have vn : valV kvs (.inl n) = none := by rw [hv, idx_none.mpr nin]; rfl
    refine ⟨pd, _, rfl, DGet.k (k := .inl n) d3, ?_⟩
    refine ite2 (fun y => ?_) (fun _ => ?_)
    · have y : (valV kvs (.inl n)).isSome = true := y
      rw [vn] at y
      cases y
    refine ⟨pd, _, rfl, DPut.k (k := .inl n) d3 (szlt (by omega)), ?_⟩
    refine ⟨s3.put g1.nw, _, _, _, upd_same, ?_, fun m => ?_, rfl⟩
    · rw [putK_new _ vn, List.length_append]; simp; omega
    · rw [valV_put, take_snoc hn, idx_app, List.length_take, Nat.min_eq_left (by omega)]
      by_cases q : m = n
      · subst q
        rw [if_pos rfl, idx_none.mpr nin]
        simp
      · rw [if_neg (fun z => q (Sum.inl.inj z)), hv]
        have q' : ¬ n = m := fun z => q z.symm
        cases idx (ns.take i) m with
        | some j => rfl
        | none => simp [q']
  · rintro σ H2 ⟨s2, kvs, v3, v4, h2, lk, hv, rfl⟩
    rw [List.length_map, List.take_length] at hv
    exact kq pd H2 s2 g1.nw ⟨kvs, h2, hv⟩
structure Half (t : Adr) (H : Hp) (a dx pp pl d0 d1 l0 l1 : Addr) (ns ms : List Int) : Prop where
  o : H a = some (.ins t.c_ShiftTongue dx [("places", .ref pp), ("lists", .ref pl)])
  p : H pp = some (.lst [.ref d0, .ref d1])
  l : H pl = some (.lst [.ref l0, .ref l1])
  d0 : Places H d0 ns
  d1 : Places H d1 ms
  l0 : H l0 = some (.lst (ns.map V.int))
  l1 : H l1 = some (.lst (ms.map V.int))
theorem Places.mono {H H' : Hp} {d : Addr} {ns : List Int} (h : Places H d ns) (s : Same H H') : Places H' d ns := by
  obtain ⟨kv, a, b⟩ := h
  exact ⟨kv, s _ _ a, b⟩
theorem Half.mono {H H' : Hp} {a dx pp pl d0 d1 l0 l1 : Addr} {ns ms : List Int} (h : Half t H a dx pp pl d0 d1 l0 l1 ns ms) (s : Same H H') : Half t H' a dx pp pl d0 d1 l0 l1 ns ms :=
  ⟨s _ _ h.o, s _ _ h.p, s _ _ h.l, h.d0.mono s, h.d1.mono s, s _ _ h.l0, s _ _ h.l1⟩
def spRb (t : Adr) : Sp := fun vs H Q _ => ∃ (a dx pp pl d0 d1 l0 l1 : Addr) (ns ms : List Int) (g : Int), vs = [.ref a, .int g] /\ Two g /\ Half t H a dx pp pl d0 d1 l0 l1 ns ms /\ ∀ p H', Same H H' -> H p = none -> H' p = some (.lst ((byd (sel g ms ns) (sel g ns ms) g).map V.int)) -> Q (.ref p) H'
theorem h_ShiftTongue_row_beyond (T : Txt w K mg t) : HasM P w K mg base t.c_ShiftTongue "row_beyond" 1 t.a_ShiftTongue_row_beyond t.f_ShiftTongue_row_beyond ["self", "page"] (spRb t) := by
  refine ⟨T.cls_ShiftTongue, T.mt_ShiftTongue_row_beyond, T.b_ShiftTongue_row_beyond, T.F_ShiftTongue_row_beyond.okQ sc_ShiftTongue_row_beyond (fun vs H Q E h => by obtain ⟨a, dx, pp, pl, d0, d1, l0, l1, ns, ms, g, rfl, _⟩ := h; rfl) fun cdv A outer s H vs Q E hr h => ?_⟩
  obtain ⟨a, dx, pp, pl, d0, d1, l0, l1, ns, ms, g, rfl, tg, hf, k⟩ := h
  have hu := hr.units
  refine ⟨_, (q_pss_cons (q_ps_for PassesOwn.never rfl (q_pi_enumK (K := K) rfl rfl T.n_enumerate (q_pa_c (q_pe_ix (g_ixK (K := K) rfl) (q_fldK (K := K) rfl (q_vv 0)) (q_pe_op g_sub q_pe_int (q_vv 1)) (fun _ _ => rfl)) q_pa_nil)) (q_pg_tupK (K := K) rfl rfl (q_pgs_cons (q_pg_name (i := 2) sc_ShiftTongue_row_beyond.nd rfl (by first | exact Or.inl rfl | exact Or.inr rfl)) (q_pgs_cons (q_pg_name (i := 3) sc_ShiftTongue_row_beyond.nd rfl (by first | exact Or.inl rfl | exact Or.inr rfl)) q_pgs_nil))) (q_pss_one (q_ps_if (q_mt_cmp (g_notinM hu) (q_vv 3) (q_pe_ix (g_ixK (K := K) rfl) (q_fldK (K := K) rfl (q_vv 0)) (q_vv 1) (fun _ _ => rfl)) (by with_unfolding_all rfl)) (q_pss_one (q_ps_ret (q_me_lst (q_pa_c (q_pe_ix (g_ixK (K := K) rfl) (q_pe_glob (v := .ref t.a_SHIFTS) rfl T.c_SHIFTS rfl) (q_pe_op g_sub q_pe_int (q_vv 1)) (fun _ _ => rfl)) (q_pa_c (q_vv 2) q_pa_nil))))) q_pss_nil)))
      (q_pss_one (q_ps_ret (q_me_lst q_pa_nil)))), ?_⟩
  have ln : H (sel (1 - g) l0 l1) = some (.lst ((sel g ms ns).map V.int)) := by
    rcases tg with rfl | rfl
    · exact hf.l1
    · exact hf.l0
  have pk : Places H (sel g d0 d1) (sel g ns ms) := by
    rcases tg with rfl | rfl
    · exact hf.d0
    · exact hf.d1
  obtain ⟨kv, hkv, vkv⟩ := pk
  have sh : atI (([254, 255] : List Int).map V.int) (1 - g) = some (.int (254 + (1 - g))) := by
    rcases tg with rfl | rfl <;> rfl
  generalize hO : sel g ms ns = O at *
  generalize hP : sel g ns ms = P' at *
  refine ⟨a, _, dx, _, _, rfl, hf.o, T.cls_ShiftTongue, T.na_ShiftTongue_lists, rfl, ?_⟩
  refine ⟨_, .ref (sel (1 - g) l0 l1), .inl (.of hf.l), by rw [at_sel tg.flip]; exact congrArg some (sel_map V.ref _ _ _), ?_⟩
  refine ⟨sel (1 - g) l0 l1, _, rfl, .of ln, for_enum (K := K) (a := sel (1 - g) l0 l1) (xs := O.map V.int) (fun i σ H' => Same H H' /\ (∀ j, j < i -> aloneB O P' j = false) /\ ∃ v2 v3, σ = [some (.ref a), some (.int g), v2, v3]) ⟨Same.refl _, (fun j h => absurd h (by omega)), _, _, rfl⟩ (fun i σ H' _ z => z.1.seq (.of ln)) ?_ ?_⟩
  · rintro i x p σ H2 H3 hx ⟨s2, hj, v2, v3, rfl⟩ g3
    obtain ⟨q, hq, rfl⟩ := ints_at hx
    have hi := (List.getElem?_eq_some_iff.mp hq).1
    refine ⟨p, _, rfl, g3.tup, rfl, _, _, rfl, _, _, rfl, rfl, ?_⟩
    have s3 := s2.trans g3.sm
    refine ⟨a, _, dx, _, _, rfl, s3 _ _ hf.o, T.cls_ShiftTongue, T.na_ShiftTongue_places, rfl, ?_⟩
    refine ⟨_, .ref (sel g d0 d1), .inl (.of (s3 _ _ hf.p)), by rw [at_sel tg]; exact congrArg some (sel_map V.ref _ _ _), ?_⟩
    refine ⟨sel g d0 d1, _, rfl, DGet.k (k := .inl q) (s3 _ _ hkv), ?_⟩
    have eq : (valV kv (.inl q)).isSome = decide (q ∈ P') := by
      rw [vkv]
      cases e : idx P' q with
      | none => have := idx_none.mp e; simp [this]
      | some j => have : q ∈ P' := Decidable.byContradiction fun z => by rw [idx_none.mpr z] at e; cases e
                  simp [this]
    have ea : aloneB O P' i = !decide (q ∈ P') := by
      unfold aloneB
      rw [List.getD_eq_getElem?_getD, hq]; rfl
    refine ite2 (fun y => ?_) (fun y => ?_)
    · have y : (!(valV kv (.inl q)).isSome) = true := y
      rw [eq, <- ea] at y
      refine ⟨_, .int (254 + (1 - g)), .inr (T.q_SHIFTS _), sh, ?_⟩
      refine ⟨sz rfl, fun p4 H4 g4 => ?_⟩
      refine k _ _ (s3.trans g4.sm) (s3.free g4.nw) ?_
      have e : byd O P' g = [254 + (1 - g), (i : Int)] := by
        unfold byd alone
        rw [head_filter hj y hi]
      rw [e]
      exact g4.at_
    · have y : ¬ (!(valV kv (.inl q)).isSome) = true := y
      rw [eq, <- ea] at y
      refine ⟨s3, fun j hji => ?_, _, _, rfl⟩
      by_cases c : j < i
      · exact hj j c
      · obtain rfl : j = i := by omega
        simpa using y
  · rintro σ H2 ⟨s2, hj, v2, v3, rfl⟩
    rw [List.length_map] at hj
    refine ⟨sz rfl, fun p4 H4 g4 => k _ _ (s2.trans g4.sm) (s2.free g4.nw) ?_⟩
    have e : byd O P' g = [] := by
      unfold byd alone
      rw [filter_none hj]
      rfl
    rw [e]
    exact g4.at_
theorem Kp.seq {a f : Addr} {H H' : Hp} {xs : List V} (k : Kp a H H') (n : f ≠ a) (h : SqL K H f xs) : SqL K H' f xs := by
  rcases h with h | h
  · rcases h with h | ⟨o, h⟩
    · exact .inl (.inl (k _ _ n h))
    · exact .inl (.inr ⟨o, k _ _ n h⟩)
  · exact .inr h
def spInit (K : PySem.W.Frag) (t : Adr) : Sp := fun vs H Q _ => ∃ (a dx f g : Addr) (ns ms : List Int), vs = [.ref a, .ref f, .ref g] /\ H a = some (.ins t.c_ShiftTongue dx []) /\ SqL K H f (ns.map V.int) /\ SqL K H g (ms.map V.int) /\ Okp ns /\ Okp ms /\ f ≠ a /\ g ≠ a /\
  ∀ fp H', Kp a H H' -> Tg t H' a fp ns ms -> (∀ c ∈ [fp.pp, fp.pl, fp.ps, fp.d0, fp.d1, fp.l0, fp.l1, fp.s0, fp.s1], c ≠ a /\ H c = none) -> Q .non H'
theorem ok_init (T : Txt w K mg t) : FnOk P w K mg base CX0 5 t.a_ShiftTongue_init t.f_ShiftTongue_init ["self", "first", "second"] (spInit K t) := by
  refine T.F_ShiftTongue_init.okQ sc_ShiftTongue_init (fun vs H Q E h => by obtain ⟨a, dx, f, g, ns, ms, rfl, _⟩ := h; rfl) fun cdv A outer s H vs Q E hr h => ?_
  obtain ⟨a, dx, f, g, ns, ms, rfl, ha, hf, hg, ok0, ok1, nf, ng, kq⟩ := h
  have hu := hr.units
  refine ⟨_, (q_pss_cons (q_ps_fldK (K := K) rfl (q_vv 0) (q_me_lst (q_pa_c (q_cal (h_places_in T) hr (q_pa_c (q_vv 1) (q_pa_c q_pe_int q_pa_nil))) (q_pa_c (q_cal (h_places_in T) hr (q_pa_c (q_vv 2) (q_pa_c q_pe_int q_pa_nil))) q_pa_nil))))
      (q_pss_cons (q_ps_fldK (K := K) rfl (q_vv 0) (q_me_lst (q_pa_c (q_calTy (c_listK (K := K) rfl) T.n_list PyProof.Rows.boot_list (q_pa_c (q_vv 1) q_pa_nil)) (q_pa_c (q_calTy (c_listK (K := K) rfl) T.n_list PyProof.Rows.boot_list (q_pa_c (q_vv 2) q_pa_nil)) q_pa_nil))))
      (q_pss_one (q_ps_fldK (K := K) rfl (q_vv 0) (q_me_lst (q_pa_c (q_meth (h_ShiftTongue_row_beyond T) hr (q_vv 0) (q_pa_c q_pe_int q_pa_nil)) (q_pa_c (q_meth (h_ShiftTongue_row_beyond T) hr (q_vv 0) (q_pa_c q_pe_int q_pa_nil)) q_pa_nil))))))), ?_⟩
  refine ⟨f, ns, 0, rfl, hf, ok0, fun d0 H1 s1 fd0 pl0 => ?_⟩
  refine ⟨g, ms, 1, rfl, s1.seq hg, ok1, fun d1 H2 s2 fd1 pl1 => ?_⟩
  refine ⟨sz rfl, fun pp H3 g3 => ?_⟩
  have s3 := s1.trans (s2.trans g3.sm)
  refine ⟨a, _, dx, _, rfl, s3 _ _ ha, T.cls_ShiftTongue, T.na_ShiftTongue_places, Nat.lt_of_lt_of_le Nat.zero_lt_one (by decide), ?_⟩
  obtain ⟨H4, e4⟩ : ∃ H4, H4 = upd H3 a (HO.ins t.c_ShiftTongue dx (putF "places" (.ref pp) [])) := ⟨_, rfl⟩
  have a4 : H4 a = some (.ins t.c_ShiftTongue dx [("places", .ref pp)]) := by rw [e4, upd_same]; rfl
  have k4 : Kp a H3 H4 := by rw [e4]; exact Kp.upd
  rw [<- e4]
  clear e4
  have k04 : Kp a H H4 := (Kp.of s3).trans k4
  refine ⟨_, .inl (k04.seq nf hf), fun l0 H5 g5 => ?_⟩
  refine ⟨_, .inl ((k04.trans (Kp.of g5.sm)).seq ng hg), fun l1 H6 g6 => ?_⟩
  refine ⟨sz rfl, fun pl H7 g7 => ?_⟩
  have s47 := g5.sm.trans (g6.sm.trans g7.sm)
  refine ⟨a, _, dx, _, rfl, s47 _ _ a4, T.cls_ShiftTongue, T.na_ShiftTongue_lists, Nat.lt_of_lt_of_le (Nat.lt_succ_self 1) (by decide), ?_⟩
  obtain ⟨H8, e8⟩ : ∃ H8, H8 = upd H7 a (HO.ins t.c_ShiftTongue dx (putF "lists" (.ref pl) [("places", .ref pp)])) := ⟨_, rfl⟩
  have a8 : H8 a = some (.ins t.c_ShiftTongue dx [("places", .ref pp), ("lists", .ref pl)]) := by rw [e8, upd_same]; rfl
  have k8 : Kp a H7 H8 := by rw [e8]; exact Kp.upd
  rw [<- e8]
  clear e8
  have nd0 : d0 ≠ a := (ne_of_none ha fd0).symm
  have nd1 : d1 ≠ a := (ne_of_none (s1 _ _ ha) fd1).symm
  have npp : pp ≠ a := (ne_of_none (s2 _ _ (s1 _ _ ha)) g3.nw).symm
  have nl0 : l0 ≠ a := (ne_of_none a4 g5.nw).symm
  have nl1 : l1 ≠ a := (ne_of_none (g5.sm _ _ a4) g6.nw).symm
  have npl : pl ≠ a := (ne_of_none (g6.sm _ _ (g5.sm _ _ a4)) g7.nw).symm
  have k38 : Kp a H3 H8 := k4.trans ((Kp.of s47).trans k8)
  have k08 : Kp a H H8 := (Kp.of s3).trans k38
  obtain ⟨kv0, q0, e0⟩ := pl0
  obtain ⟨kv1, q1, e1⟩ := pl1
  have half : Half t H8 a dx pp pl d0 d1 l0 l1 ns ms := ⟨a8, k38 _ _ npp g3.at_, k8 _ _ npl g7.at_, ⟨kv0, k38 _ _ nd0 (g3.sm _ _ (s2 _ _ q0)), e0⟩, ⟨kv1, k38 _ _ nd1 (g3.sm _ _ q1), e1⟩, k8 _ _ nl0 (g7.sm _ _ (g6.sm _ _ g5.at_)), k8 _ _ nl1 (g7.sm _ _ g6.at_)⟩
  refine ⟨a, dx, _, rfl, a8, rfl, ?_⟩
  refine ⟨a, dx, pp, pl, d0, d1, l0, l1, ns, ms, 0, rfl, .inl rfl, half, fun z0 H9 s9 fz0 hz0 => ?_⟩
  refine ⟨a, dx, _, rfl, s9 _ _ a8, rfl, ?_⟩
  refine ⟨a, dx, pp, pl, d0, d1, l0, l1, ns, ms, 1, rfl, .inr rfl, half.mono s9, fun z1 HA sA fz1 hz1 => ?_⟩
  refine ⟨sz rfl, fun ps HB gB => ?_⟩
  have s8B := s9.trans (sA.trans gB.sm)
  refine ⟨a, _, dx, _, rfl, s8B _ _ a8, T.cls_ShiftTongue, T.na_ShiftTongue_shifted, Nat.lt_of_lt_of_le (Nat.lt_succ_self 2) (by decide), ?_⟩
  obtain ⟨HC, eC⟩ : ∃ HC, HC = upd HB a (HO.ins t.c_ShiftTongue dx (putF "shifted" (.ref ps) [("places", .ref pp), ("lists", .ref pl)])) := ⟨_, rfl⟩
  have aC : HC a = some (.ins t.c_ShiftTongue dx [("places", .ref pp), ("lists", .ref pl), ("shifted", .ref ps)]) := by rw [eC, upd_same]; rfl
  have kC : Kp a HB HC := by rw [eC]; exact Kp.upd
  rw [<- eC]
  clear eC
  have nz0 : z0 ≠ a := (ne_of_none a8 fz0).symm
  have nz1 : z1 ≠ a := (ne_of_none (s9 _ _ a8) fz1).symm
  have nps : ps ≠ a := (ne_of_none (sA _ _ (s9 _ _ a8)) gB.nw).symm
  have k8C : Kp a H8 HC := (Kp.of s8B).trans kC
  have hB := half.mono s8B
  have fr : ∀ {c : Addr} {H' : Hp}, Kp a H H' -> c ≠ a -> H' c = none -> H c = none := fun {c H'} k n e => by
    cases h : H c with
    | none => rfl
    | some u => rw [k c u n h] at e; cases e
  refine kq ⟨dx, pp, pl, ps, d0, d1, l0, l1, z0, z1⟩ HC (k08.trans k8C) ⟨aC, kC _ _ npp hB.p, kC _ _ npl hB.l, kC _ _ nps gB.at_, ?_, ?_, kC _ _ nl0 hB.l0, kC _ _ nl1 hB.l1, kC _ _ nz0 (gB.sm _ _ (sA _ _ hz0)), kC _ _ nz1 (gB.sm _ _ hz1), ok0, ok1⟩ ?_
  · obtain ⟨kv, x, y⟩ := hB.d0
    exact ⟨kv, kC _ _ nd0 x, y⟩
  · obtain ⟨kv, x, y⟩ := hB.d1
    exact ⟨kv, kC _ _ nd1 x, y⟩
  · intro c hc
    simp only [List.mem_cons, List.not_mem_nil, or_false] at hc
    rcases hc with rfl | rfl | rfl | rfl | rfl | rfl | rfl | rfl | rfl
    · exact ⟨npp, s1.free (s2.free g3.nw)⟩
    · exact ⟨npl, fr (k04.trans (Kp.of (g5.sm.trans g6.sm))) npl g7.nw⟩
    · exact ⟨nps, fr (k08.trans (Kp.of (s9.trans sA))) nps gB.nw⟩
    · exact ⟨nd0, fd0⟩
    · exact ⟨nd1, s1.free fd1⟩
    · exact ⟨nl0, fr k04 nl0 g5.nw⟩
    · exact ⟨nl1, fr (k04.trans (Kp.of g5.sm)) nl1 g6.nw⟩
    · exact ⟨nz0, fr k08 nz0 fz0⟩
    · exact ⟨nz1, fr (k08.trans (Kp.of s9)) nz1 fz1⟩
theorem hk_ShiftTongue_0 (T : Txt w K mg t) : HasKD P w K mg base "ShiftTongue" t.c_ShiftTongue 5 t.a_ShiftTongue_init t.f_ShiftTongue_init ["self", "first", "second"] [] (spInit K t) := ⟨T.gc_ShiftTongue, T.mk_ShiftTongue, ⟨[], T.b_ShiftTongue_init, .nil⟩, ok_init T⟩
def spelF (P O : List Int) (g : Int) (x : V) : Option (List Int × Int) := match x with
  | .int n => match idx P n with
    | some i => some ([(i : Int)], g)
    | none => match idx O n with
      | some i => some ([254 + (1 - g), (i : Int)], 1 - g)
      | none => none
  | _ => none
theorem spel_no {P O : List Int} {g : Int} {x : V} (hP : Okp P) (hO : Okp O) (h : isSig x = false) : spelF P O g x = none := by
  cases x with
  | int n =>
    have hn : ¬ Sg n := fun z => by rw [(sg_iff n).mpr z] at h; cases h
    unfold spelF
    dsimp only
    rw [idx_none.mpr fun z => hn (hP.1 n z)]
    dsimp only
    rw [idx_none.mpr fun z => hn (hO.1 n z)]
  | _ => rfl
theorem sig_int {v : V} (h : isSig v = true) : ∃ n, v = .int n /\ Sg n := by
  cases v with
  | int n => exact ⟨n, rfl, (sg_iff n).mp h⟩
  | _ => simp [isSig, wthn] at h
def spSpell (t : Adr) : Sp := fun vs H Q _ => ∃ (a : Addr) (f : Fp) (ns ms : List Int) (x : V) (g : Int) (r : List Int) (g' : Int), vs = [.ref a, x, .int g] /\ Two g /\ Tg t H a f ns ms /\ spelF (sel g ns ms) (sel g ms ns) g x = some (r, g') /\
  ∀ p q H', Same H H' -> H q = none -> H' q = some (.lst (r.map V.int)) -> H' p = some (.tup [.ref q, .int g']) -> Q (.ref p) H'
theorem ok_spell (T : Txt w K mg t) : FnOk P w K mg base CX0 4 t.a_ShiftTongue_spell t.f_ShiftTongue_spell ["self", "sign", "page"] (spSpell t) := by
  refine T.F_ShiftTongue_spell.okQ sc_ShiftTongue_spell (fun vs H Q E h => by obtain ⟨o, f, ns, ms, x, g, r, g', rfl, _⟩ := h; rfl) fun cdv A outer s H vs Q E hr h => ?_
  obtain ⟨a, f, ns, ms, x, g, r, g', rfl, two, tg, hsp, k⟩ := h
  have hu := hr.units
  refine ⟨_, (q_pss_cons (q_ps_if (q_mt_val (q_cal (h_is_sign T) hr (q_pa_c (q_vv 1) q_pa_nil))) (q_pss_cons (q_ps_if (q_mt_cmp (g_inM hu) (q_vv 1) (q_pe_ix (g_ixK (K := K) rfl) (q_fldK (K := K) rfl (q_vv 0)) (q_vv 2) (fun _ _ => rfl)) (by with_unfolding_all rfl)) (q_pss_one (q_ps_ret (q_me_tup (q_pa_c (q_me_lst (q_pa_c (q_dgetM hu (q_pe_ix (g_ixK (K := K) rfl) (q_fldK (K := K) rfl (q_vv 0)) (q_vv 2) (fun _ _ => rfl)) (q_vv 1)) q_pa_nil)) (q_pa_c (q_vv 2) q_pa_nil))))) q_pss_nil)
      (q_pss_one (q_ps_if (q_mt_cmp (g_inM hu) (q_vv 1) (q_pe_ix (g_ixK (K := K) rfl) (q_fldK (K := K) rfl (q_vv 0)) (q_pe_op g_sub q_pe_int (q_vv 2)) (fun _ _ => rfl)) (by with_unfolding_all rfl)) (q_pss_one (q_ps_ret (q_me_tup (q_pa_c (q_me_lst (q_pa_c (q_pe_ix (g_ixK (K := K) rfl) (q_pe_glob (v := .ref t.a_SHIFTS) rfl T.c_SHIFTS rfl) (q_pe_op g_sub q_pe_int (q_vv 2)) (fun _ _ => rfl)) (q_pa_c (q_dgetM hu (q_pe_ix (g_ixK (K := K) rfl) (q_fldK (K := K) rfl (q_vv 0)) (q_pe_op g_sub q_pe_int (q_vv 2)) (fun _ _ => rfl)) (q_vv 1)) q_pa_nil))) (q_pa_c (q_pe_op g_sub q_pe_int (q_vv 2)) q_pa_nil))))) q_pss_nil))) q_pss_nil)
      (q_pss_one q_ps_never)), ?_⟩
  have okP : Okp (sel g ns ms) := sel_ok tg.k0 tg.k1
  have okO : Okp (sel g ms ns) := sel_ok tg.k1 tg.k0
  have yes : isSig x = true := by
    cases e : isSig x with
    | true => rfl
    | false => rw [spel_no okP okO e] at hsp; cases hsp
  obtain ⟨n, rfl, _⟩ := sig_int yes
  refine ⟨_, rfl, .int n, ?_⟩
  refine ite2 (fun _ => ?_) (fun z => absurd yes z)
  have ed : ∀ g, Two g -> atI [V.ref f.d0, V.ref f.d1] g = some (.ref (sel g f.d0 f.d1)) := fun g two => by rw [at_sel two]; exact congrArg some (sel_map V.ref _ _ _)
  obtain ⟨kv, hkv, vkv⟩ := tg.dk two
  obtain ⟨kw, hkw, vkw⟩ := tg.dk two.flip
  rw [sel_flip two] at vkw
  refine ⟨a, _, f.dx, _, _, rfl, tg.o, T.cls_ShiftTongue, T.na_ShiftTongue_places, rfl, ?_⟩
  refine ⟨_, _, .inl (.of tg.p), ed g two, ?_⟩
  refine ⟨_, _, rfl, DGet.k (k := .inl n) hkv, ?_⟩
  unfold spelF at hsp
  dsimp only at hsp
  cases e1 : idx (sel g ns ms) n with
  | some i =>
    rw [e1] at hsp
    cases hsp
    have v1 : valV kv (.inl n) = some (.int (i : Int)) := by rw [vkv, e1]; rfl
    refine ite2 (fun _ => ?_) (fun z => absurd (show (valV kv (.inl n)).isSome = true by rw [v1]; rfl) z)
    refine ⟨a, _, f.dx, _, _, rfl, tg.o, T.cls_ShiftTongue, T.na_ShiftTongue_places, rfl, ?_⟩
    refine ⟨_, _, .inl (.of tg.p), ed g two, ?_⟩
    refine ⟨_, _, rfl, by have := DGet.k (k := .inl n) hkv; rw [v1] at this; exact this, ?_⟩
    refine ⟨sz rfl, fun p1 H1 g1 => ?_⟩
    refine ⟨sz rfl, fun p2 H2 g2 => ?_⟩
    exact k p2 p1 H2 (g1.sm.trans g2.sm) g1.nw (g2.sm _ _ g1.at_) g2.at_
  | none =>
    rw [e1] at hsp
    dsimp only at hsp
    have v1 : valV kv (.inl n) = none := by rw [vkv, e1]; rfl
    refine ite2 (fun z => absurd (show (valV kv (.inl n)).isSome = true from z) (by rw [v1]; decide)) (fun _ => ?_)
    refine ⟨a, _, f.dx, _, _, rfl, tg.o, T.cls_ShiftTongue, T.na_ShiftTongue_places, rfl, ?_⟩
    refine ⟨_, _, .inl (.of tg.p), ed (1 - g) two.flip, ?_⟩
    refine ⟨_, _, rfl, DGet.k (k := .inl n) hkw, ?_⟩
    cases e2 : idx (sel g ms ns) n with
    | none => rw [e2] at hsp; cases hsp
    | some i =>
      rw [e2] at hsp
      cases hsp
      have v2 : valV kw (.inl n) = some (.int (i : Int)) := by rw [vkw, e2]; rfl
      refine ite2 (fun _ => ?_) (fun z => absurd (show (valV kw (.inl n)).isSome = true by rw [v2]; rfl) z)
      have sh : atI (([254, 255] : List Int).map V.int) (1 - g) = some (.int (254 + (1 - g))) := by
        rcases two with rfl | rfl <;> rfl
      refine ⟨_, _, .inr (T.q_SHIFTS _), sh, ?_⟩
      refine ⟨a, _, f.dx, _, _, rfl, tg.o, T.cls_ShiftTongue, T.na_ShiftTongue_places, rfl, ?_⟩
      refine ⟨_, _, .inl (.of tg.p), ed (1 - g) two.flip, ?_⟩
      refine ⟨_, _, rfl, by have := DGet.k (k := .inl n) hkw; rw [v2] at this; exact this, ?_⟩
      refine ⟨sz rfl, fun p1 H1 g1 => ?_⟩
      refine ⟨sz rfl, fun p2 H2 g2 => ?_⟩
      exact k p2 p1 H2 (g1.sm.trans g2.sm) g1.nw (g2.sm _ _ g1.at_) g2.at_
theorem h_ShiftTongue_spell_0 (T : Txt w K mg t) : HasMD P w K mg base t.c_ShiftTongue "spell" 4 t.a_ShiftTongue_spell t.f_ShiftTongue_spell ["self", "sign", "page"] [] (spSpell t) :=
  ⟨T.cls_ShiftTongue, T.mt_ShiftTongue_spell, ⟨_, T.b_ShiftTongue_spell, .nil⟩, ok_spell T⟩
def spSpellX (K : PySem.W.Frag) (t : Adr) : Sp := fun vs H Q E => ∃ (a : Addr) (f : Fp) (ns ms : List Int) (x : V) (g : Int), vs = [.ref a, x, .int g] /\ Two g /\ Tg t H a f ns ms /\ Knd K H x /\
  (∀ r g', spelF (sel g ns ms) (sel g ms ns) g x = some (r, g') -> ∀ p q H', Same H H' -> H q = none -> H' q = some (.lst (r.map V.int)) -> H' p = some (.tup [.ref q, .int g']) -> Q (.ref p) H') /\
  (spelF (sel g ns ms) (sel g ms ns) g x = none -> ∀ e d0 H', Same H H' -> H' e = some (XO e t.e_NoSign (some d0)) -> H' d0 = some (.xd [("sign", x), ("at", .int 0)]) -> E (.ref t.e_NoSign) (some e) H')
theorem okx_spell (T : Txt w K mg t) : FnOk P w K mg base (CX1 P w) 4 t.a_ShiftTongue_spell t.f_ShiftTongue_spell ["self", "sign", "page"] (spSpellX K t) := by
  refine T.F_ShiftTongue_spell.okX sc_ShiftTongue_spell (fun vs H Q E h => by obtain ⟨o, f, ns, ms, x, g, rfl, _⟩ := h; rfl) fun cdv A outer s H vs Q E hr h => ?_
  obtain ⟨a, f, ns, ms, x, g, rfl, two, tg, kd, k, ke⟩ := h
  have hu := hr.units
  refine ⟨_, (q_pss_cons (q_ps_if (q_mt_val (q_cal (h_is_sign T) hr (q_pa_c (q_vv 1) q_pa_nil))) (q_pss_cons (q_ps_if (q_mt_cmp (g_inM hu) (q_vv 1) (q_pe_ix (g_ixK (K := K) rfl) (q_fldK (K := K) rfl (q_vv 0)) (q_vv 2) (fun _ _ => rfl)) (by with_unfolding_all rfl)) (q_pss_one (q_ps_ret (q_me_tup (q_pa_c (q_me_lst (q_pa_c (q_dgetM hu (q_pe_ix (g_ixK (K := K) rfl) (q_fldK (K := K) rfl (q_vv 0)) (q_vv 2) (fun _ _ => rfl)) (q_vv 1)) q_pa_nil)) (q_pa_c (q_vv 2) q_pa_nil))))) q_pss_nil)
      (q_pss_one (q_ps_if (q_mt_cmp (g_inM hu) (q_vv 1) (q_pe_ix (g_ixK (K := K) rfl) (q_fldK (K := K) rfl (q_vv 0)) (q_pe_op g_sub q_pe_int (q_vv 2)) (fun _ _ => rfl)) (by with_unfolding_all rfl)) (q_pss_one (q_ps_ret (q_me_tup (q_pa_c (q_me_lst (q_pa_c (q_pe_ix (g_ixK (K := K) rfl) (q_pe_glob (v := .ref t.a_SHIFTS) rfl T.c_SHIFTS rfl) (q_pe_op g_sub q_pe_int (q_vv 2)) (fun _ _ => rfl)) (q_pa_c (q_dgetM hu (q_pe_ix (g_ixK (K := K) rfl) (q_fldK (K := K) rfl (q_vv 0)) (q_pe_op g_sub q_pe_int (q_vv 2)) (fun _ _ => rfl)) (q_vv 1)) q_pa_nil))) (q_pa_c (q_pe_op g_sub q_pe_int (q_vv 2)) q_pa_nil))))) q_pss_nil))) q_pss_nil)
      (q_pss_one (q_raiseE (Es := fun _ => E) (he_NoSign T) hr rfl lets_def (q_pa_c (q_vv 1) (q_pa_c q_pe_int q_pa_nil))))), ?_⟩
  have okP : Okp (sel g ns ms) := sel_ok tg.k0 tg.k1
  have okO : Okp (sel g ms ns) := sel_ok tg.k1 tg.k0
  have out : spelF (sel g ns ms) (sel g ms ns) g x = none -> ∀ e, H e = none -> ∀ d0 H', H' e = some (XN e t.e_NoSign (some d0)) -> H' d0 = some (.xd [("sign", x), ("at", .int 0)]) -> (∀ b o, b ≠ e -> upd H e (XN e t.e_NoSign none) b = some o -> H' b = some o) -> E (.ref t.e_NoSign) (some e) (upd H' e (XO e t.e_NoSign (some d0))) := fun hn e he d0 H' x1 y1 z1 => by
    have ne : d0 ≠ e := fun z => by rw [z, x1] at y1; cases y1
    refine ke hn e d0 _ (fun b o q => ?_) upd_same (by rw [upd_ne ne]; exact y1)
    have nb := ne_of_none q he
    rw [upd_ne nb]
    exact z1 b o nb (by rw [upd_ne nb]; exact q)
  refine ⟨_, rfl, kd, ?_⟩
  refine ite2 (fun yes => ?_) (fun z => ?_)
  · obtain ⟨n, rfl, _⟩ := sig_int yes
    have ed : ∀ g, Two g -> atI [V.ref f.d0, V.ref f.d1] g = some (.ref (sel g f.d0 f.d1)) := fun g two => by rw [at_sel two]; exact congrArg some (sel_map V.ref _ _ _)
    obtain ⟨kv, hkv, vkv⟩ := tg.dk two
    obtain ⟨kw, hkw, vkw⟩ := tg.dk two.flip
    rw [sel_flip two] at vkw
    refine ⟨a, _, f.dx, _, _, rfl, tg.o, T.cls_ShiftTongue, T.na_ShiftTongue_places, rfl, ?_⟩
    refine ⟨_, _, .inl (.of tg.p), ed g two, ?_⟩
    refine ⟨_, _, rfl, DGet.k (k := .inl n) hkv, ?_⟩
    unfold spelF at k out
    dsimp only at k out
    cases e1 : idx (sel g ns ms) n with
    | some i =>
      rw [e1] at k
      have v1 : valV kv (.inl n) = some (.int (i : Int)) := by rw [vkv, e1]; rfl
      refine ite2 (fun _ => ?_) (fun z => absurd (show (valV kv (.inl n)).isSome = true by rw [v1]; rfl) z)
      refine ⟨a, _, f.dx, _, _, rfl, tg.o, T.cls_ShiftTongue, T.na_ShiftTongue_places, rfl, ?_⟩
      refine ⟨_, _, .inl (.of tg.p), ed g two, ?_⟩
      refine ⟨_, _, rfl, by have := DGet.k (k := .inl n) hkv; rw [v1] at this; exact this, ?_⟩
      refine ⟨sz rfl, fun p1 H1 g1 => ?_⟩
      refine ⟨sz rfl, fun p2 H2 g2 => ?_⟩
      exact k _ _ rfl p2 p1 H2 (g1.sm.trans g2.sm) g1.nw (g2.sm _ _ g1.at_) g2.at_
    | none =>
      rw [e1] at k out
      dsimp only at k out
      have v1 : valV kv (.inl n) = none := by rw [vkv, e1]; rfl
      refine ite2 (fun z => absurd (show (valV kv (.inl n)).isSome = true from z) (by rw [v1]; decide)) (fun _ => ?_)
      refine ⟨a, _, f.dx, _, _, rfl, tg.o, T.cls_ShiftTongue, T.na_ShiftTongue_places, rfl, ?_⟩
      refine ⟨_, _, .inl (.of tg.p), ed (1 - g) two.flip, ?_⟩
      refine ⟨_, _, rfl, DGet.k (k := .inl n) hkw, ?_⟩
      cases e2 : idx (sel g ms ns) n with
      | none =>
        rw [e2] at out
        have v2 : valV kw (.inl n) = none := by rw [vkw, e2]; rfl
        refine ite2 (fun z => absurd (show (valV kw (.inl n)).isSome = true from z) (by rw [v2]; decide)) (fun _ => ?_)
        refine ⟨Nat.le_of_ble_eq_true rfl, fun e he => ⟨e, _, rfl, rfl, upd_same, fun d0 H' x1 y1 z1 => ⟨rfl, e, some d0, rfl, x1, ?_⟩⟩⟩
        exact out rfl e he d0 H' x1 y1 z1
      | some i =>
        rw [e2] at k
        have v2 : valV kw (.inl n) = some (.int (i : Int)) := by rw [vkw, e2]; rfl
        refine ite2 (fun _ => ?_) (fun z => absurd (show (valV kw (.inl n)).isSome = true by rw [v2]; rfl) z)
        have sh : atI (([254, 255] : List Int).map V.int) (1 - g) = some (.int (254 + (1 - g))) := by
          rcases two with rfl | rfl <;> rfl
        refine ⟨_, _, .inr (T.q_SHIFTS _), sh, ?_⟩
        refine ⟨a, _, f.dx, _, _, rfl, tg.o, T.cls_ShiftTongue, T.na_ShiftTongue_places, rfl, ?_⟩
        refine ⟨_, _, .inl (.of tg.p), ed (1 - g) two.flip, ?_⟩
        refine ⟨_, _, rfl, by have := DGet.k (k := .inl n) hkw; rw [v2] at this; exact this, ?_⟩
        refine ⟨sz rfl, fun p1 H1 g1 => ?_⟩
        refine ⟨sz rfl, fun p2 H2 g2 => ?_⟩
        exact k _ _ rfl p2 p1 H2 (g1.sm.trans g2.sm) g1.nw (g2.sm _ _ g1.at_) g2.at_
  · have no : isSig x = false := by
      cases e : isSig x with
      | false => rfl
      | true => exact absurd e z
    refine ⟨Nat.le_of_ble_eq_true rfl, fun e he => ⟨e, _, rfl, rfl, upd_same, fun d0 H' x1 y1 z1 => ⟨rfl, e, some d0, rfl, x1, ?_⟩⟩⟩
    exact out (spel_no okP okO no) e he d0 H' x1 y1 z1
theorem hx_ShiftTongue_spell_0 (T : Txt w K mg t) : HasMX P w K mg base t.c_ShiftTongue "spell" 4 t.a_ShiftTongue_spell t.f_ShiftTongue_spell ["self", "sign", "page"] [] (spSpellX K t) :=
  ⟨T.cls_ShiftTongue, T.mt_ShiftTongue_spell, ⟨_, T.b_ShiftTongue_spell, .nil⟩, okx_spell T⟩
def begB (one other : List Int) : Bool := decide (other.take one.length = one)
def spBeg (K : PySem.W.Frag) : Sp := fun vs H Q _ => ∃ (a b : Addr) (x y : List Int), vs = [.ref a, .ref b] /\ SqL K H a (x.map V.int) /\ SqL K H b (y.map V.int) /\ ∀ H', Same H H' -> Q (.bl (begB x y)) H'
theorem cut_to (ns : List Int) (k : Nat) : cutV (ns.map V.int) none (some (k : Int)) = (ns.take k).map V.int := by rw [cutV_ints, cutL_to]
theorem h_begins (T : Txt w K mg t) : Has P w K mg base "begins" 1 t.a_begins t.f_begins ["one", "other"] (spBeg K) := by
  refine ⟨T.g_begins, T.F_begins.kp, T.b_begins, T.F_begins.okQ sc_begins (fun vs H Q E h => by obtain ⟨a, b, x, y, rfl, _⟩ := h; rfl) fun cdv A outer s H vs Q E hr h => ?_⟩
  obtain ⟨a, b, x, y, rfl, ha, hb, k⟩ := h
  have hu := hr.units
  refine ⟨_, (q_pss_one (q_ps_ret (q_pe_cmpR (g_eqK (K := K) rfl hu) (q_pe_slice (g_slK (K := K) rfl) (q_vv 1) q_po_none (q_po_some (q_calB (c_lenK (K := K) rfl) T.n_len PySem.boot_len (q_pa_c (q_vv 0) q_pa_nil)))) (q_vv 0) (nomark _)))), ?_⟩
  refine ⟨_, .inl ha, _, rfl, _, hb, fun p1 H1 g1 => ?_⟩
  rw [List.length_map, cut_to] at g1
  exact eq_ints g1.lst (g1.sm.seq ha) (k H1 g1.sm)
structure EntH (H : Hp) (p : Addr) (s : Int) (r : List Int) : Prop where
  h : ∃ q, H p = some (.tup [.int s, .ref q]) /\ H q = some (.lst (r.map V.int))
  l : 1 <= r.length /\ r.length <= 6
theorem EntH.mono {H H' : Hp} {p : Addr} {s : Int} {r : List Int} (h : EntH H p s r) (k : Same H H') : EntH H' p s r := by
  obtain ⟨⟨q, a, b⟩, l⟩ := h
  exact ⟨⟨q, k _ _ a, k _ _ b⟩, l⟩
def colB (e f : Int × List Int) : Bool := decide (e.1 = f.1) || begB e.2 f.2 || begB f.2 e.2
def spCol : Sp := fun vs H Q _ => ∃ (a b : Addr) (e f : Int × List Int), vs = [.ref a, .ref b] /\ EntH H a e.1 e.2 /\ EntH H b f.1 f.2 /\ ∀ H', Same H H' -> Q (.bl (colB e f)) H'
theorem h_collide (T : Txt w K mg t) : Has P w K mg base "collide" 2 t.a_collide t.f_collide ["one", "other"] spCol := by
  refine ⟨T.g_collide, T.F_collide.kp, T.b_collide, T.F_collide.okQ sc_collide (fun vs H Q E h => by obtain ⟨a, b, x, y, rfl, _⟩ := h; rfl) fun cdv A outer s H vs Q E hr h => ?_⟩
  obtain ⟨a, b, ⟨s1, r1⟩, ⟨s2, r2⟩, rfl, ⟨⟨q1, ha, hq1⟩, _⟩, ⟨⟨q2, hb, hq2⟩, _⟩, k⟩ := h
  dsimp only at ha hq1 hb hq2
  have hu := hr.units
  refine ⟨_, (q_pss_one (q_ps_ret (q_me_or (q_pe_cmpR (g_eqK (K := K) rfl hu) (q_pe_ix (g_ixK (K := K) rfl) (q_vv 0) q_pe_int (fun _ _ => rfl)) (q_pe_ix (g_ixK (K := K) rfl) (q_vv 1) q_pe_int (fun _ _ => rfl)) (nomark _)) (q_me_or (q_cal (h_begins T) hr (q_pa_c (q_pe_ix (g_ixK (K := K) rfl) (q_vv 0) q_pe_int (fun _ _ => rfl)) (q_pa_c (q_pe_ix (g_ixK (K := K) rfl) (q_vv 1) q_pe_int (fun _ _ => rfl)) q_pa_nil))) (q_pe_one (q_cal (h_begins T) hr (q_pa_c (q_pe_ix (g_ixK (K := K) rfl) (q_vv 1) q_pe_int (fun _ _ => rfl)) (q_pa_c (q_pe_ix (g_ixK (K := K) rfl) (q_vv 0) q_pe_int (fun _ _ => rfl)) q_pa_nil)))))))), ?_⟩
  refine ⟨_, _, .inr (.of ha), atI_nat (j := 0) rfl, ?_⟩
  refine ⟨_, _, .inr (.of hb), atI_nat (j := 0) rfl, ?_⟩
  refine ite2 (fun z => ?_) (fun z => ?_)
  · refine fitB (k H (Same.refl _)) ?_
    have z : decide (s1 = s2) = true := z
    show (decide (s1 = s2) || begB r1 r2 || begB r2 r1) = true
    rw [z]; rfl
  have z : ¬ decide (s1 = s2) = true := z
  refine ⟨_, _, .inr (.of ha), atI_nat (j := 1) rfl, ?_⟩
  refine ⟨_, _, .inr (.of hb), atI_nat (j := 1) rfl, ?_⟩
  refine ⟨q1, q2, r1, r2, rfl, .of hq1, .of hq2, fun H1 k1 => ?_⟩
  refine ite2 (fun y => ?_) (fun y => ?_)
  · refine fitB (k H1 k1) ?_
    have y : begB r1 r2 = true := y
    show (decide (s1 = s2) || begB r1 r2 || begB r2 r1) = true
    rw [y]; simp
  have y : ¬ begB r1 r2 = true := y
  refine ⟨_, _, .inr (.of (k1 _ _ hb)), atI_nat (j := 1) rfl, ?_⟩
  refine ⟨_, _, .inr (.of (k1 _ _ ha)), atI_nat (j := 1) rfl, ?_⟩
  refine ⟨q2, q1, r2, r1, rfl, .of (k1 _ _ hq2), .of (k1 _ _ hq1), fun H2 k2 => ?_⟩
  refine fitB (k H2 (k1.trans k2)) ?_
  show (decide (s1 = s2) || begB r1 r2 || begB r2 r1) = begB r2 r1
  simp at z y
  simp [z, y]
structure Es (es : List (Int × List Int)) : Prop where
  sg : ∀ e ∈ es, Sg e.1 /\ 1 <= e.2.length /\ e.2.length <= 6 /\ ∀ b ∈ e.2, 0 <= b /\ b <= 255
  pw : es.Pairwise fun e f => colB e f = false
  l : es.length <= 64
theorem col_symm (e f : Int × List Int) : colB e f = colB f e := by
  unfold colB
  rw [show decide (e.1 = f.1) = decide (f.1 = e.1) by simp [eq_comm], Bool.or_assoc, Bool.or_assoc, Bool.or_comm (begB e.2 f.2)]
theorem Es.two {es : List (Int × List Int)} (h : Es es) {e f : Int × List Int} (he : e ∈ es) (hf : f ∈ es) : e = f \/ colB e f = false := by
  obtain ⟨i, hi, rfl⟩ := List.mem_iff_getElem.mp he
  obtain ⟨j, hj, rfl⟩ := List.mem_iff_getElem.mp hf
  rcases Nat.lt_trichotomy i j with c | c | c
  · exact .inr (List.pairwise_iff_getElem.mp h.pw i j hi hj c)
  · subst c; exact .inl rfl
  · rw [col_symm]; exact .inr (List.pairwise_iff_getElem.mp h.pw j i hj hi c)
def EnH (H : Hp) (ps : List Addr) (es : List (Int × List Int)) : Prop := All2 (fun a e => EntH H a e.1 e.2) ps es
theorem EnH.mono {H H' : Hp} {ps : List Addr} {es : List (Int × List Int)} (h : EnH H ps es) (s : Same H H') : EnH H' ps es := h.imp fun a e z => z.mono s
def spYes (K : PySem.W.Frag) : Sp := fun vs H Q _ => ∃ (q : Addr) (r : List Int), vs = [.ref q] /\ H q = some (.lst (r.map V.int)) /\ (∀ b ∈ r, 0 <= b /\ b <= 255) /\ r.length <= 1000 /\ ∀ H', Same H H' -> Q (.bl true) H'
theorem h_is_row (T : Txt w K mg t) : Has P w K mg base "is_row" 3 t.a_is_row t.f_is_row ["thing"] (spYes K) := by
  refine ⟨T.g_is_row, T.F_is_row.kp, T.b_is_row, T.F_is_row.okQ sc_is_row (fun vs H Q E h => by obtain ⟨q, r, rfl, _⟩ := h; rfl) fun cdv A outer s H vs Q E hr h => ?_⟩
  obtain ⟨q, r, rfl, hq, hb, hl, k⟩ := h
  refine ⟨_, (q_pss_one (q_ps_ret (q_me_and (q_calB (c_instK (K := K) rfl) T.n_isinstance PyProof.Rows.boot_isinstance (q_pa_c (q_vv 0) (q_pa_c (q_bty rfl T.n_list PyProof.Rows.boot_list) q_pa_nil))) (q_pe_one (q_calB (c_allK (K := K) rfl rfl) T.n_all PyProof.Rows.boot_all (q_pa_c (q_pe_comp rfl (CompScope.of (fns := (defScope s_is_row).names) (N := ["thing"]) (Nc := ["each"]) (nv := 1) (caps := []) rfl rfl (by decide +kernel)) (q_pi_listK (K := K) rfl (q_vv 0)) (fun _ _ _ _ => (q_pg_name (i := 0) (show List.Nodup (["each"] : List Str) by decide +kernel) rfl (Or.inl rfl) (Or.inr rfl))) (fun _ _ _ _ => q_pts_nil) (fun _ _ _ _ => (q_cal (h_is_byte T) hr (q_pa_c (q_vv 0) q_pa_nil)))) q_pa_nil)))))), ?_⟩
  refine ⟨_, _, .lst hq, by with_unfolding_all rfl, ?_⟩
  refine iteT ?_
  refine ⟨q, rfl, ⟨_, .of hq⟩, comp_to ((r.map fun _ => true).map V.bl) (by simp) (.of hq) (szl (by rw [List.length_map]; omega)) (fun i x y H4 N hx hy s4 hN => ?_) fun p3 H3 g3 => ?_⟩
  · obtain ⟨o, ho, rfl⟩ := ints_at hx
    rw [List.getElem?_map, List.getElem?_map, ho] at hy
    cases hy
    have := hb o (List.mem_of_getElem? ho)
    exact ⟨_, rfl, .int _, fitB (hN _ (Same.refl _)) (by simp [wthn]; omega)⟩
  refine ⟨_, g3.lst, ?_⟩
  exact fitB (k H3 g3.sm) (by simp)
def spEnt (K : PySem.W.Frag) : Sp := fun vs H Q _ => ∃ (p : Addr) (e : Int × List Int), vs = [.ref p] /\ EntH H p e.1 e.2 /\ Sg e.1 /\ (∀ b ∈ e.2, 0 <= b /\ b <= 255) /\ ∀ H', Same H H' -> Q (.bl true) H'
theorem h_is_entry (T : Txt w K mg t) : Has P w K mg base "is_entry" 4 t.a_is_entry t.f_is_entry ["thing"] (spEnt K) := by
  refine ⟨T.g_is_entry, T.F_is_entry.kp, T.b_is_entry, T.F_is_entry.okQ sc_is_entry (fun vs H Q E h => by obtain ⟨p, e, rfl, _⟩ := h; rfl) fun cdv A outer s H vs Q E hr h => ?_⟩
  obtain ⟨p, ⟨sg, r⟩, rfl, ⟨⟨q, hp, hq⟩, l1, l6⟩, hs, hb, k⟩ := h
  dsimp only at hp hq l1 l6 hs hb
  have hu := hr.units
  refine ⟨_, (q_pss_cons (q_ps_if (q_PW_pt (q_pw_or (q_pt_not (q_mt_val (q_calB (c_instK (K := K) rfl) T.n_isinstance PyProof.Rows.boot_isinstance (q_pa_c (q_vv 0) (q_pa_c (q_bty rfl T.n_tuple PyProof.Rows.boot_tuple) q_pa_nil))))) (q_pw_or1 (q_mt_cmp (g_neK (K := K) rfl hu) (q_calB (c_lenK (K := K) rfl) T.n_len PySem.boot_len (q_pa_c (q_vv 0) q_pa_nil)) q_pe_int (nomark _))))) (q_pss_one (q_ps_ret q_pe_bl)) q_pss_nil)
      (q_pss_one (q_ps_ret (q_me_and (q_cal (h_is_sign T) hr (q_pa_c (q_pe_ix (g_ixK (K := K) rfl) (q_vv 0) q_pe_int (fun _ _ => rfl)) q_pa_nil)) (q_me_and (q_cal (h_is_row T) hr (q_pa_c (q_pe_ix (g_ixK (K := K) rfl) (q_vv 0) q_pe_int (fun _ _ => rfl)) q_pa_nil)) (q_pe_one (q_me_chain g_le g_le q_pe_int (q_calB (c_lenK (K := K) rfl) T.n_len PySem.boot_len (q_pa_c (q_pe_ix (g_ixK (K := K) rfl) (q_vv 0) q_pe_int (fun _ _ => rfl)) q_pa_nil)) (q_gi T.c_MOST_BYTES)))))))), ?_⟩
  refine ⟨_, _, .tup hp, by with_unfolding_all rfl, ?_⟩
  refine ite2 (fun z => absurd z (by decide)) (fun _ => ?_)
  refine ⟨_, .inr (.of hp), ?_⟩
  refine ⟨_, _, .inr (.of hp), atI_nat (j := 0) rfl, ?_⟩
  refine ⟨_, rfl, .int _, ?_⟩
  refine ite2 (fun _ => ?_) (fun z => absurd ((sg_iff sg).mpr hs) z)
  refine ⟨_, _, .inr (.of hp), atI_nat (j := 1) rfl, ?_⟩
  refine ⟨q, r, rfl, hq, hb, by omega, fun H1 s1 => ?_⟩
  refine iteT ?_
  refine ⟨_, _, .inr (.of (s1 _ _ hp)), atI_nat (j := 1) rfl, ?_⟩
  refine ⟨_, .inl (.of (s1 _ _ hq)), ?_⟩
  refine ite2 (fun z => ?_) (fun z => ?_)
  · exact fitB (k H1 s1) (by rw [List.length_map]; simp; omega)
  · exact absurd (show decide ((1 : Int) <= ((r.map V.int).length : Int)) = true by rw [List.length_map]; simp; omega) z
def spCk : Sp := fun vs H Q _ => ∃ (a : Addr) (ps : List Addr) (es : List (Int × List Int)), vs = [.ref a] /\ H a = some (.lst (ps.map V.ref)) /\ EnH H ps es /\ Es es /\ ∀ H', Same H H' -> Q .non H'
theorem cut_toV (xs : List V) (k : Nat) : cutV xs none (some (k : Int)) = xs.take k := cutL_to xs k
theorem refs_at {qs : List Addr} {i : Nat} {x : V} (h : (qs.map V.ref)[i]? = some x) : ∃ q, qs[i]? = some q /\ x = .ref q := by
  rw [List.getElem?_map] at h
  obtain ⟨q, hq, rfl⟩ := Option.map_eq_some_iff.mp h
  exact ⟨q, hq, rfl⟩
theorem h_check_table (T : Txt w K mg t) : Has P w K mg base "check_table" 5 t.a_check_table t.f_check_table ["rows"] spCk := by
  refine ⟨T.g_check_table, T.F_check_table.kp, T.b_check_table, T.F_check_table.okQ sc_check_table (fun vs H Q E h => by obtain ⟨a, ps, es, rfl, _⟩ := h; rfl) fun cdv A outer s H vs Q E hr h => ?_⟩
  obtain ⟨a, ps, es, rfl, ha, en, ok, k⟩ := h
  have hu := hr.units
  refine ⟨_, (q_pss_cons (q_ps_if (q_mt_cmp g_gt (q_calB (c_lenK (K := K) rfl) T.n_len PySem.boot_len (q_pa_c (q_vv 0) q_pa_nil)) (q_gi T.c_MOST_TUPLES) (nomark _)) (q_pss_one q_ps_never) q_pss_nil)
      (q_pss_one (q_ps_for PassesOwn.never rfl (q_pi_enumK (K := K) rfl rfl T.n_enumerate (q_pa_c (q_vv 0) q_pa_nil)) (q_pg_tupK (K := K) rfl rfl (q_pgs_cons (q_pg_name (i := 1) sc_check_table.nd rfl (by first | exact Or.inl rfl | exact Or.inr rfl)) (q_pgs_cons (q_pg_name (i := 2) sc_check_table.nd rfl (by first | exact Or.inl rfl | exact Or.inr rfl)) q_pgs_nil))) (q_pss_cons (q_ps_if (q_pt_not (q_mt_val (q_cal (h_is_entry T) hr (q_pa_c (q_vv 2) q_pa_nil)))) (q_pss_one q_ps_never) q_pss_nil)
      (q_pss_one (q_ps_for PassesOwn.never rfl (q_pi_enumK (K := K) rfl rfl T.n_enumerate (q_pa_c (q_pe_slice (g_slK (K := K) rfl) (q_vv 0) q_po_none (q_po_some (q_vv 1))) q_pa_nil)) (q_pg_tupK (K := K) rfl rfl (q_pgs_cons (q_pg_name (i := 3) sc_check_table.nd rfl (by first | exact Or.inl rfl | exact Or.inr rfl)) (q_pgs_cons (q_pg_name (i := 4) sc_check_table.nd rfl (by first | exact Or.inl rfl | exact Or.inr rfl)) q_pgs_nil))) (q_pss_one (q_ps_if (q_mt_val (q_cal (h_collide T) hr (q_pa_c (q_vv 4) (q_pa_c (q_vv 2) q_pa_nil)))) (q_pss_one q_ps_never) q_pss_nil)))))))), ?_⟩
  have lp : ps.length = es.length := en.1
  have l64 := ok.l
  refine ⟨_, .inl (.of ha), ?_⟩
  refine ite2 (fun z => ?_) (fun _ => ?_)
  · have z : ((ps.map V.ref).length : Int) > 64 := of_decide_eq_true z
    rw [List.length_map] at z
    omega
  refine ⟨a, _, rfl, .of ha, for_enum (K := K) (a := a) (xs := ps.map V.ref) (fun i σ H' => Same H H' /\ ∃ v1 v2 v3 v4, σ = [some (.ref a), v1, v2, v3, v4]) ⟨Same.refl _, _, _, _, _, rfl⟩ (fun i σ H' _ z => z.1.seq (.of ha)) ?_ ?_⟩
  · rintro i x p σ H2 H3 hx ⟨s2, v1, v2, v3, v4, rfl⟩ g3
    obtain ⟨px, hpx, rfl⟩ := refs_at hx
    obtain ⟨e, he, ee⟩ := en.right hpx
    refine ⟨p, _, rfl, g3.tup, rfl, _, _, rfl, _, _, rfl, rfl, ?_⟩
    have s3 := s2.trans g3.sm
    obtain ⟨k1, k2, k3, k4⟩ := ok.sg e (List.mem_of_getElem? he)
    refine ⟨px, e, rfl, ee.mono s3, k1, k4, fun H4 s4 => ?_⟩
    refine ite2 (fun z => absurd (show (!true) = true from z) (by decide)) (fun _ => ?_)
    have s04 := s3.trans s4
    refine ⟨_, rfl, _, s04.seq (.of ha), fun p1 H5 g5 => ?_⟩
    rw [cut_toV] at g5
    have s05 := s04.trans g5.sm
    refine ⟨p1, _, rfl, g5.lst, for_enum (K := K) (a := p1) (xs := (ps.map V.ref).take i) (fun j σ H' => Same H5 H' /\ ∃ v3 v4, σ = [some (.ref a), some (.int (i : Int)), some (.ref px), v3, v4]) ⟨Same.refl _, _, _, rfl⟩ (fun i σ H' _ z => z.1.seq g5.lst) ?_ ?_⟩
    · rintro j u pj σ H6 H7 hju ⟨s6, v3, v4, rfl⟩ g7
      have hji : j < i := by have := (List.getElem?_eq_some_iff.mp hju).1; rw [List.length_take] at this; omega
      rw [List.getElem?_take_of_lt hji] at hju
      obtain ⟨pu, hpu, rfl⟩ := refs_at hju
      obtain ⟨f, hf, ef⟩ := en.right hpu
      refine ⟨pj, _, rfl, g7.tup, rfl, _, _, rfl, _, _, rfl, rfl, ?_⟩
      have s07 := s05.trans (s6.trans g7.sm)
      refine ⟨pu, px, f, e, rfl, ef.mono s07, ee.mono s07, fun H8 s8 => ?_⟩
      have nc : colB f e = false := by
        obtain ⟨a1, e1⟩ := List.getElem?_eq_some_iff.mp hf
        obtain ⟨a2, e2⟩ := List.getElem?_eq_some_iff.mp he
        rw [<- e1, <- e2]
        exact List.pairwise_iff_getElem.mp ok.pw j i a1 a2 hji
      refine ite2 (fun z => absurd (show colB f e = true from z) (by rw [nc]; decide)) (fun _ => ?_)
      exact ⟨s6.trans (g7.sm.trans s8), _, _, rfl⟩
    · rintro σ H6 ⟨s6, v3, v4, rfl⟩
      exact ⟨s05.trans s6, _, _, _, _, rfl⟩
  · rintro σ H2 ⟨s2, _⟩
    exact k H2 s2
structure Ft where
  dx : Addr
  d1 : Addr
  d2 : Addr
  d3 : Addr
def keyOf (r : List Int) : List Key := r.map Sum.inl
theorem keys_of (r : List Int) : r.map V.int = (keyOf r).map kV := by
  unfold keyOf
  rw [List.map_map]; rfl
theorem keyOf_inj {r s : List Int} (h : keyOf r = keyOf s) : r = s := by
  unfold keyOf at h
  induction r generalizing s with
  | nil => cases s with
    | nil => rfl
    | cons _ _ => cases h
  | cons x r ih => cases s with
    | nil => cases h
    | cons y s => simp at h; rw [h.1, ih (by simpa using h.2)]
structure Kv (H : Hp) (k1 : List (Key × V)) (k2 k3 : List (List Key × V)) (es : List (Int × List Int)) : Prop where
  a : ∀ e ∈ es, ∃ q, valV k1 (.inl e.1) = some (.ref q) /\ H q = some (.tup (e.2.map V.int))
  a' : ∀ n : Int, (∀ e ∈ es, e.1 ≠ n) -> valV k1 (.inl n) = none
  b : ∀ e ∈ es, valV k2 (keyOf e.2) = some (.int e.1)
  b' : ∀ r : List Int, (∀ e ∈ es, e.2 ≠ r) -> valV k2 (keyOf r) = none
  c : ∀ e ∈ es, ∀ m, m <= e.2.length -> ∃ q ys, valV k3 (keyOf (e.2.take m)) = some (.ref q) /\ H q = some (.tup ys)
structure Tt (t : Adr) (H : Hp) (a : Addr) (f : Ft) (es : List (Int × List Int)) (n : Nat) : Prop where
  o : H a = some (.ins t.c_TableTongue f.dx [("row_by_sign", .ref f.d1), ("sign_by_row", .ref f.d2), ("rest_by_row", .ref f.d3)])
  k : ∃ k1 k2 k3, H f.d1 = some (.dK k1) /\ H f.d2 = some (.dT k2) /\ H f.d3 = some (.dT k3) /\ k1.length <= n /\ k2.length <= n /\ k3.length <= n /\ Kv H k1 k2 k3 es
  ne : f.d2 ≠ f.d3
variable {H H' : Hp} {a : Addr} {f : Ft} {es : List (Int × List Int)} {n : Nat}
theorem Kv.mono {k1 : List (Key × V)} {k2 k3 : List (List Key × V)} (h : Kv H k1 k2 k3 es) (s : ∀ q xs, H q = some (.tup xs) -> H' q = some (.tup xs)) : Kv H' k1 k2 k3 es := by
  refine ⟨fun e he => ?_, h.a', h.b, h.b', fun e he m hm => ?_⟩
  · obtain ⟨q, x, y⟩ := h.a e he
    exact ⟨q, x, s _ _ y⟩
  · obtain ⟨q, ys, x, y⟩ := h.c e he m hm
    exact ⟨q, ys, x, s _ _ y⟩
theorem Tt.mono (h : Tt t H a f es n) (s : Same H H') : Tt t H' a f es n := by
  obtain ⟨o, ⟨k1, k2, k3, a1, a2, a3, l1, l2, l3, kv⟩, ne⟩ := h
  exact ⟨s _ _ o, ⟨k1, k2, k3, s _ _ a1, s _ _ a2, s _ _ a3, l1, l2, l3, kv.mono fun q xs e => s _ _ e⟩, ne⟩
theorem ne_kind {c d : Addr} {u v : HO} (h : H c = some u) (k : H d = some v) (n : u ≠ v) : c ≠ d := fun z => by rw [z, k] at h; exact n (Option.some.inj h).symm
def Out (f : Ft) (H H' : Hp) : Prop := ∀ c u, c ≠ f.d1 -> c ≠ f.d2 -> c ≠ f.d3 -> H c = some u -> H' c = some u
theorem Out.trans {H H1 H2 : Hp} (h : Out f H H1) (h' : Out f H1 H2) : Out f H H2 := fun c u n1 n2 n3 e => h' c u n1 n2 n3 (h c u n1 n2 n3 e)
theorem Out.of {H H1 : Hp} (h : Same H H1) : Out f H H1 := fun c u _ _ _ e => h c u e
theorem Tt.tup {q : Addr} {xs : List V} (h : Tt t H a f es n) (hq : H q = some (.tup xs)) (k : Out f H H') : H' q = some (.tup xs) := by
  obtain ⟨o, ⟨k1, k2, k3, a1, a2, a3, _⟩, ne⟩ := h
  exact k _ _ (ne_kind hq a1 (by intro z; cases z)) (ne_kind hq a2 (by intro z; cases z)) (ne_kind hq a3 (by intro z; cases z)) hq
def spEnter (t : Adr) : Sp := fun vs H Q _ => ∃ (a : Addr) (f : Ft) (q : Addr) (n : Nat) (s : Int) (r : List Int) (es : List (Int × List Int)), vs = [.ref a, .int s, .ref q] /\ Tt t H a f es n /\ H q = some (.tup (r.map V.int)) /\ r.length <= 6 /\ n <= 1000 /\ (∀ e ∈ es, e.1 ≠ s /\ e.2 ≠ r) /\
  ∀ H', Tt t H' a f (es ++ [(s, r)]) (n + 9) -> Out f H H' -> Q .non H'
theorem h_TableTongue_enter (T : Txt w K mg t) : HasM P w K mg base t.c_TableTongue "enter" 1 t.a_TableTongue_enter t.f_TableTongue_enter ["self", "sign", "row"] (spEnter t) := by
  refine ⟨T.cls_TableTongue, T.mt_TableTongue_enter, T.b_TableTongue_enter, T.F_TableTongue_enter.okQ sc_TableTongue_enter (fun vs H Q E h => by obtain ⟨a, f, q, n, s, r, es, rfl, _⟩ := h; rfl) fun cdv A outer s H vs Q E hr h => ?_⟩
  obtain ⟨a, f, q, n, sg, r, es, rfl, tb, hq, lr, ln, new, k⟩ := h
  have hu := hr.units
  obtain ⟨o, ⟨k1, k2, k3, a1, a2, a3, l1, l2, l3, kv⟩, ne⟩ := id tb
  refine ⟨_, (q_pss_cons (q_dputM hu (q_fldK (K := K) rfl (q_vv 0)) (q_vv 1) (q_vv 2))
      (q_pss_cons (q_dputM hu (q_fldK (K := K) rfl (q_vv 0)) (q_vv 2) (q_vv 1))
      (q_pss_one (q_ps_for PassesOwn.never rfl (q_pi_range1 rfl T.n_range (q_pa_c (q_pe_op (g_addK (K := K) rfl) (q_calB (c_lenK (K := K) rfl) T.n_len PySem.boot_len (q_pa_c (q_vv 2) q_pa_nil)) q_pe_int) q_pa_nil)) (q_pg_name (i := 3) sc_TableTongue_enter.nd rfl (by first | exact Or.inl rfl | exact Or.inr rfl)) (q_pss_one (q_dputM hu (q_fldK (K := K) rfl (q_vv 0)) (q_pe_slice (g_slTK (K := K) rfl) (q_vv 2) q_po_none (q_po_some (q_vv 3))) (q_pe_slice (g_slTK (K := K) rfl) (q_vv 2) (q_po_some (q_vv 3)) q_po_none))))))), ?_⟩
  have n12 : f.d1 ≠ f.d2 := ne_kind a1 a2 (by intro z; cases z)
  have n13 : f.d1 ≠ f.d3 := ne_kind a1 a3 (by intro z; cases z)
  have na1 : a ≠ f.d1 := ne_kind o a1 (by intro z; cases z)
  have na2 : a ≠ f.d2 := ne_kind o a2 (by intro z; cases z)
  have na3 : a ≠ f.d3 := ne_kind o a3 (by intro z; cases z)
  refine ⟨a, _, f.dx, _, _, rfl, o, T.cls_TableTongue, T.na_TableTongue_row_by_sign, rfl, ?_⟩
  refine ⟨f.d1, _, rfl, DPut.k (k := .inl sg) a1 (szlt (by omega)), ?_⟩
  obtain ⟨H1, e1⟩ : ∃ H1, H1 = upd H f.d1 (.dK (putK k1 (.inl sg) (.ref q))) := ⟨_, rfl⟩
  rw [<- e1]
  have o1 : Out f H H1 := fun c u m1 m2 m3 e => by rw [e1, upd_ne m1]; exact e
  have b1 : H1 f.d1 = some (.dK (putK k1 (.inl sg) (.ref q))) := by rw [e1, upd_same]
  have b2 : H1 f.d2 = some (.dT k2) := by rw [e1, upd_ne n12.symm]; exact a2
  have b3 : H1 f.d3 = some (.dT k3) := by rw [e1, upd_ne n13.symm]; exact a3
  clear e1
  refine ⟨a, _, f.dx, _, _, rfl, o1 _ _ na1 na2 na3 o, T.cls_TableTongue, T.na_TableTongue_sign_by_row, rfl, ?_⟩
  have hq1 := tb.tup hq o1
  refine ⟨f.d2, _, rfl, DPut.t (k := keyOf r) b2 (by rw [<- keys_of]; exact hq1) (szlt (by omega)), ?_⟩
  obtain ⟨H2, e2⟩ : ∃ H2, H2 = upd H1 f.d2 (.dT (putK k2 (keyOf r) (.int sg))) := ⟨_, rfl⟩
  rw [<- e2]
  have o2 : Out f H1 H2 := fun c u m1 m2 m3 e => by rw [e2, upd_ne m2]; exact e
  have c1 : H2 f.d1 = some (.dK (putK k1 (.inl sg) (.ref q))) := by rw [e2, upd_ne n12]; exact b1
  have c2 : H2 f.d2 = some (.dT (putK k2 (keyOf r) (.int sg))) := by rw [e2, upd_same]
  have c3 : H2 f.d3 = some (.dT k3) := by rw [e2, upd_ne ne.symm]; exact b3
  clear e2
  have o02 := o1.trans o2
  have hq2 := tb.tup hq o02
  refine ⟨_, .inr (.of hq2), ?_⟩
  refine ⟨_, rfl, by rw [List.length_map]; omega, by rw [List.length_map]; omega, ?_⟩
  rw [List.length_map]
  refine for_range (lo := 0) (n := ((r.length : Int) + 1).toNat) (fun i σ H' => Out f H H' /\ H' f.d1 = some (.dK (putK k1 (.inl sg) (.ref q))) /\ H' f.d2 = some (.dT (putK k2 (keyOf r) (.int sg))) /\ (∃ k3', H' f.d3 = some (.dT k3') /\ k3'.length <= n + i /\ (∀ m, m < i -> ∃ q ys, valV k3' (keyOf (r.take m)) = some (.ref q) /\ H' q = some (.tup ys)) /\ (∀ e ∈ es, ∀ m, m <= e.2.length -> ∃ q ys, valV k3' (keyOf (e.2.take m)) = some (.ref q) /\ H' q = some (.tup ys))) /\ ∃ v3, σ = [some (.ref a), some (.int sg), some (.ref q), v3]) ⟨o02, c1, c2, ⟨k3, c3, by omega, (fun m h => absurd h (by omega)), fun e he m hm => ?_⟩, _, rfl⟩ ?_ ?_
  · obtain ⟨q', ys, x, y⟩ := kv.c e he m hm
    exact ⟨q', ys, x, tb.tup y o02⟩
  · rintro i σ H3 hi ⟨o3, d1, d2, ⟨k3', d3, l3', new3, old3⟩, v3, rfl⟩
    have hq3 := tb.tup hq o3
    refine ⟨_, rfl, _, .of hq3, hq3, fun p4 H4 s4 h4 => ?_⟩
    refine ⟨a, _, f.dx, _, _, rfl, s4 _ _ (o3 _ _ na1 na2 na3 o), T.cls_TableTongue, T.na_TableTongue_rest_by_row, rfl, ?_⟩
    refine ⟨_, rfl, _, .of (s4 _ _ hq3), s4 _ _ hq3, fun p5 H5 s5 h5 => ?_⟩
    rw [Int.zero_add, cut_to, keys_of] at h5
    have s35 := s4.trans s5
    refine ⟨f.d3, _, rfl, DPut.t (k := keyOf (r.take i)) (s35 _ _ d3) h5 (szlt (by omega)), ?_⟩
    obtain ⟨H6, e6⟩ : ∃ H6, H6 = upd H5 f.d3 (.dT (putK k3' (keyOf (r.take i)) (.ref p4))) := ⟨_, rfl⟩
    rw [<- e6]
    have t6 : ∀ c u, c ≠ f.d3 -> H3 c = some u -> H6 c = some u := fun c u m e => by rw [e6, upd_ne m]; exact s35 _ _ e
    have n43 : p4 ≠ f.d3 := ne_kind (s5 _ _ h4) (s35 _ _ d3) (by intro z; cases z)
    have h46 : H6 p4 = some (.tup (cutV (r.map V.int) (some (0 + (i : Int))) none)) := by rw [e6, upd_ne n43]; exact s5 _ _ h4
    have b6 : H6 f.d3 = some (.dT (putK k3' (keyOf (r.take i)) (.ref p4))) := by rw [e6, upd_same]
    clear e6
    have keep : ∀ kk, (∃ q ys, valV k3' kk = some (.ref q) /\ H3 q = some (.tup ys)) -> ∃ q ys, valV (putK k3' (keyOf (r.take i)) (.ref p4)) kk = some (.ref q) /\ H6 q = some (.tup ys) := by
      rintro kk ⟨q', ys, x, y⟩
      rw [valV_put]
      by_cases c : kk = keyOf (r.take i)
      · rw [if_pos c]; exact ⟨p4, _, rfl, h46⟩
      · rw [if_neg c]; exact ⟨q', ys, x, t6 _ _ (ne_kind y d3 (by intro z; cases z)) y⟩
    refine ⟨fun c u m1 m2 m3 e => t6 _ _ m3 (o3 c u m1 m2 m3 e), t6 _ _ n13 d1, t6 _ _ ne d2, ⟨_, b6, ?_, fun m hm => ?_, fun e he m hm => keep _ (old3 e he m hm)⟩, _, rfl⟩
    · have := length_putK k3' (keyOf (r.take i)) (.ref p4); omega
    · by_cases c : m < i
      · exact keep _ (new3 m c)
      · obtain rfl : m = i := by omega
        refine ⟨p4, _, ?_, h46⟩
        rw [valV_put, if_pos rfl]
  · rintro σ H3 ⟨o3, d1, d2, ⟨k3', d3, l3', new3, old3⟩, _⟩
    refine k _ ⟨o3 _ _ na1 na2 na3 o, ⟨_, _, k3', d1, d2, d3, ?_, ?_, by omega, ?_⟩, ne⟩ o3
    · have := length_putK k1 (.inl sg) (.ref q); omega
    · have := length_putK k2 (keyOf r) (.int sg); omega
    · refine ⟨fun e he => ?_, fun n' hn' => ?_, fun e he => ?_, fun r' hr' => ?_, fun e he m hm => ?_⟩
      · rcases List.mem_append.mp he with he | he
        · rw [valV_put, if_neg (fun z => (new e he).1 (Sum.inl.inj z))]
          obtain ⟨q', x, y⟩ := kv.a e he
          exact ⟨q', x, tb.tup y o3⟩
        · rw [List.mem_singleton.mp he, valV_put, if_pos rfl]
          exact ⟨q, rfl, tb.tup hq o3⟩
      · rw [valV_put, if_neg (fun z => hn' (sg, r) (by simp) (Sum.inl.inj z).symm)]
        exact kv.a' n' fun e he => hn' e (by simp [he])
      · rcases List.mem_append.mp he with he | he
        · rw [valV_put, if_neg (fun z => (new e he).2 (keyOf_inj z))]
          exact kv.b e he
        · rw [List.mem_singleton.mp he, valV_put, if_pos rfl]
      · rw [valV_put, if_neg (fun z => hr' (sg, r) (by simp) (keyOf_inj z).symm)]
        exact kv.b' r' fun e he => hr' e (by simp [he])
      · rcases List.mem_append.mp he with he | he
        · exact old3 e he m hm
        · rw [List.mem_singleton.mp he] at hm ⊢
          exact new3 m (by dsimp only at hm; omega)
def spInitT (t : Adr) : Sp := fun vs H Q _ => ∃ (a dx p : Addr) (ps : List Addr) (es : List (Int × List Int)), vs = [.ref a, .ref p] /\ H a = some (.ins t.c_TableTongue dx []) /\ H p = some (.lst (ps.map V.ref)) /\ EnH H ps es /\ Es es /\
  ∀ f H', Kp a H H' -> Tt t H' a f es 1000 -> Q .non H'
theorem Tt.up {H : Hp} {a : Addr} {f : Ft} {es : List (Int × List Int)} {n m : Nat} (h : Tt t H a f es n) (hm : n <= m) : Tt t H a f es m := by
  obtain ⟨o, ⟨k1, k2, k3, a1, a2, a3, l1, l2, l3, kv⟩, ne⟩ := h
  exact ⟨o, ⟨k1, k2, k3, a1, a2, a3, by omega, by omega, by omega, kv⟩, ne⟩
theorem ok_initT (T : Txt w K mg t) : FnOk P w K mg base CX0 6 t.a_TableTongue_init t.f_TableTongue_init ["self", "rows"] (spInitT t) := by
  refine T.F_TableTongue_init.okQ sc_TableTongue_init (fun vs H Q E h => by obtain ⟨a, dx, p, ps, es, rfl, _⟩ := h; rfl) fun cdv A outer s H vs Q E hr h => ?_
  obtain ⟨a, dx, p, ps, es, rfl, ha, hp, en, ok, kq⟩ := h
  have hu := hr.units
  refine ⟨_, (q_pss_cons (q_ps_expr (q_cal (h_check_table T) hr (q_pa_c (q_vv 1) q_pa_nil)))
      (q_pss_cons (q_ps_fldK (K := K) rfl (q_vv 0) q_me_dic)
      (q_pss_cons (q_ps_fldK (K := K) rfl (q_vv 0) q_me_dicT)
      (q_pss_cons (q_ps_fldK (K := K) rfl (q_vv 0) q_me_dicT)
      (q_pss_one (q_ps_for PassesOwn.never rfl (q_pi_listK (K := K) rfl (q_vv 1)) (q_pg_name (i := 2) sc_TableTongue_init.nd rfl (by first | exact Or.inl rfl | exact Or.inr rfl)) (q_pss_one (q_ps_expr (q_meth (h_TableTongue_enter T) hr (q_vv 0) (q_pa_c (q_pe_ix (g_ixK (K := K) rfl) (q_vv 2) q_pe_int (fun _ _ => rfl)) (q_pa_c (q_calTy (c_tupleK (K := K) rfl) T.n_tuple PyProof.Rows.boot_tuple (q_pa_c (q_pe_ix (g_ixK (K := K) rfl) (q_vv 2) q_pe_int (fun _ _ => rfl)) q_pa_nil)) q_pa_nil))))))))))), ?_⟩
  refine ⟨p, ps, es, rfl, hp, en, ok, fun H1 s1 => ?_⟩
  refine fun d1 H2 g2 => ?_
  refine ⟨a, _, dx, _, rfl, g2.sm _ _ (s1 _ _ ha), T.cls_TableTongue, T.na_TableTongue_row_by_sign, Nat.lt_of_lt_of_le Nat.zero_lt_one (by decide), ?_⟩
  obtain ⟨H3, e3⟩ : ∃ H3, H3 = upd H2 a (HO.ins t.c_TableTongue dx (putF "row_by_sign" (.ref d1) [])) := ⟨_, rfl⟩
  have a3 : H3 a = some (.ins t.c_TableTongue dx [("row_by_sign", .ref d1)]) := by rw [e3, upd_same]; rfl
  have k3 : Kp a H2 H3 := by rw [e3]; exact Kp.upd
  rw [<- e3]
  clear e3
  refine fun d2 H4 g4 => ?_
  refine ⟨a, _, dx, _, rfl, g4.sm _ _ a3, T.cls_TableTongue, T.na_TableTongue_sign_by_row, Nat.lt_of_lt_of_le (Nat.lt_succ_self 1) (by decide), ?_⟩
  obtain ⟨H5, e5⟩ : ∃ H5, H5 = upd H4 a (HO.ins t.c_TableTongue dx (putF "sign_by_row" (.ref d2) [("row_by_sign", .ref d1)])) := ⟨_, rfl⟩
  have a5 : H5 a = some (.ins t.c_TableTongue dx [("row_by_sign", .ref d1), ("sign_by_row", .ref d2)]) := by rw [e5, upd_same]; rfl
  have k5 : Kp a H4 H5 := by rw [e5]; exact Kp.upd
  rw [<- e5]
  clear e5
  refine fun d3 H6 g6 => ?_
  refine ⟨a, _, dx, _, rfl, g6.sm _ _ a5, T.cls_TableTongue, T.na_TableTongue_rest_by_row, Nat.lt_of_lt_of_le (Nat.lt_succ_self 2) (by decide), ?_⟩
  obtain ⟨H7, e7⟩ : ∃ H7, H7 = upd H6 a (HO.ins t.c_TableTongue dx (putF "rest_by_row" (.ref d3) [("row_by_sign", .ref d1), ("sign_by_row", .ref d2)])) := ⟨_, rfl⟩
  have a7 : H7 a = some (.ins t.c_TableTongue dx [("row_by_sign", .ref d1), ("sign_by_row", .ref d2), ("rest_by_row", .ref d3)]) := by rw [e7, upd_same]; rfl
  have k7 : Kp a H6 H7 := by rw [e7]; exact Kp.upd
  rw [<- e7]
  clear e7
  have n1 : d1 ≠ a := (ne_of_none (s1 _ _ ha) g2.nw).symm
  have n2 : d2 ≠ a := (ne_of_none a3 g4.nw).symm
  have n3 : d3 ≠ a := (ne_of_none a5 g6.nw).symm
  have k35 : Kp a H3 H5 := (Kp.of g4.sm).trans k5
  have k57 : Kp a H5 H7 := (Kp.of g6.sm).trans k7
  have k37 : Kp a H3 H7 := k35.trans k57
  have k17 : Kp a H1 H7 := (Kp.of g2.sm).trans (k3.trans k37)
  have k07 : Kp a H H7 := (Kp.of s1).trans k17
  have b2 : H5 d2 = some (.dT []) := k5 _ _ n2 g4.at_
  have n23 : d2 ≠ d3 := ne_of_none b2 g6.nw
  have tb : Tt t H7 a ⟨dx, d1, d2, d3⟩ [] 0 := ⟨a7, ⟨[], [], [], k37 _ _ n1 (k3 _ _ n1 g2.at_), k57 _ _ n2 b2, k7 _ _ n3 g6.at_, Nat.le_refl _, Nat.le_refl _, Nat.le_refl _, ⟨(fun e h => nomatch h), (fun n _ => rfl), (fun e h => nomatch h), (fun r _ => rfl), (fun e h => nomatch h)⟩⟩, n23⟩
  have f1 : H d1 = none := s1.free g2.nw
  have f2 : ∀ c u, H c = some u -> c ≠ a -> c ≠ d2 := fun c u e n => ne_of_none (k3 _ _ n (g2.sm _ _ (s1 _ _ e))) g4.nw
  have f3 : ∀ c u, H c = some u -> c ≠ a -> c ≠ d3 := fun c u e n => ne_of_none (k35 _ _ n (k3 _ _ n (g2.sm _ _ (s1 _ _ e)))) g6.nw
  have lx := en.1
  have l64 := ok.l
  have kpo : ∀ H', Out ⟨dx, d1, d2, d3⟩ H7 H' -> Kp a H H' := fun H' o c u n e => o c u (ne_of_none e f1) (f2 c u e n) (f3 c u e n) (k07 c u n e)
  have px : ∀ H', Out ⟨dx, d1, d2, d3⟩ H7 H' -> H' p = some (.lst (ps.map V.ref)) := fun H' o => kpo H' o _ _ (ne_kind hp ha (by intro z; cases z)) hp
  refine ⟨p, rfl, ⟨_, .of (px H7 (Out.of (Same.refl _)))⟩, for_list (K := K) (a := p) (xs := ps.map V.ref) (fun i σ H' => Tt t H' a ⟨dx, d1, d2, d3⟩ (es.take i) (i * 9) /\ Out ⟨dx, d1, d2, d3⟩ H7 H' /\ ∃ v2, σ = [some (.ref a), some (.ref p), v2]) ⟨tb.up (by omega), Out.of (Same.refl _), _, rfl⟩ (fun i σ H' _ z => .of (px H' z.2.1)) ?_ ?_⟩
  · rintro i x σ H8 hx ⟨tb8, o8, v2, rfl⟩
    obtain ⟨pe, hpe, rfl⟩ := refs_at hx
    obtain ⟨e, he, ⟨q, hq1, hq2⟩, l1, l6⟩ := en.right hpe
    have he8 := kpo _ o8 _ _ (ne_kind hq1 ha (by intro z; cases z)) hq1
    have hq8 := kpo _ o8 _ _ (ne_kind hq2 ha (by intro z; cases z)) hq2
    have hi : i < ps.length := (List.getElem?_eq_some_iff.mp hpe).1
    refine ⟨a, dx, _, rfl, tb8.o, rfl, ?_⟩
    refine ⟨_, _, .inr (.of he8), atI_nat (j := 0) rfl, ?_⟩
    refine ⟨_, _, .inr (.of he8), atI_nat (j := 1) rfl, ?_⟩
    refine ⟨_, .of hq8, fun pt H9 g9 => ?_⟩
    refine ⟨a, ⟨dx, d1, d2, d3⟩, pt, i * 9, e.1, e.2, es.take i, rfl, tb8.mono g9.sm, g9.at_, l6, by omega, fun e' he' => ?_, fun HA tA oA => ?_⟩
    · obtain ⟨j, hj, rfl⟩ := List.mem_iff_getElem.mp he'
      obtain ⟨a2, e2⟩ := List.getElem?_eq_some_iff.mp he
      rw [List.length_take] at hj
      have nc := List.pairwise_iff_getElem.mp ok.pw j i (by omega) a2 (by omega)
      rw [e2] at nc
      rw [List.getElem_take]
      unfold colB begB at nc
      refine ⟨fun z => ?_, fun z => ?_⟩
      · rw [decide_eq_true z] at nc; cases nc
      · rw [z] at nc; simp at nc
    · have et : es.take (i + 1) = es.take i ++ [(e.1, e.2)] := take_snoc he
      rw [et]
      exact ⟨tA.up (by omega), o8.trans ((Out.of g9.sm).trans oA), _, rfl⟩
  · rintro σ H8 ⟨t8, o8, _⟩
    rw [List.length_map, lx, List.take_length] at t8
    exact kq _ _ (kpo _ o8) (t8.up (by omega))
theorem hk_TableTongue_0 (T : Txt w K mg t) : HasKD P w K mg base "TableTongue" t.c_TableTongue 6 t.a_TableTongue_init t.f_TableTongue_init ["self", "rows"] [] (spInitT t) := ⟨T.gc_TableTongue, T.mk_TableTongue, ⟨[], T.b_TableTongue_init, .nil⟩, ok_initT T⟩
def spSpT (t : Adr) : Sp := fun vs H Q _ => ∃ (a : Addr) (f : Ft) (es : List (Int × List Int)) (e : Int × List Int) (g : Int), vs = [.ref a, .int e.1, .int g] /\ Tt t H a f es 1000 /\ Es es /\ e ∈ es /\
  ∀ p q H', Same H H' -> H q = none -> H' q = some (.lst (e.2.map V.int)) -> H' p = some (.tup [.ref q, .int g]) -> Q (.ref p) H'
theorem ok_spellT (T : Txt w K mg t) : FnOk P w K mg base CX0 4 t.a_TableTongue_spell t.f_TableTongue_spell ["self", "sign", "page"] (spSpT t) := by
  refine T.F_TableTongue_spell.okQ sc_TableTongue_spell (fun vs H Q E h => by obtain ⟨o, f, es, e, g, rfl, _⟩ := h; rfl) fun cdv A outer s H vs Q E hr h => ?_
  obtain ⟨a, f, es, e, g, rfl, tt, ok, he, k⟩ := h
  have hu := hr.units
  refine ⟨_, (q_pss_cons (q_ps_if (q_PW_pt (q_pw_or (q_pt_not (q_mt_val (q_cal (h_is_sign T) hr (q_pa_c (q_vv 1) q_pa_nil)))) (q_pw_or1 (q_mt_cmp (g_notinM hu) (q_vv 1) (q_fldK (K := K) rfl (q_vv 0)) (by with_unfolding_all rfl))))) (q_pss_one q_ps_never) q_pss_nil)
      (q_pss_one (q_ps_ret (q_me_tup (q_pa_c (q_calTy (c_listK (K := K) rfl) T.n_list PyProof.Rows.boot_list (q_pa_c (q_dgetM hu (q_fldK (K := K) rfl (q_vv 0)) (q_vv 1)) q_pa_nil)) (q_pa_c (q_vv 2) q_pa_nil)))))), ?_⟩
  obtain ⟨o, ⟨k1, k2, k3, a1, a2, a3, _, _, _, kv⟩, ne⟩ := id tt
  obtain ⟨q, vq, hq⟩ := kv.a e he
  have yes : isSig (.int e.1) = true := (sg_iff _).mpr (ok.sg e he).1
  refine ⟨_, rfl, .int _, ?_⟩
  refine ite2 (fun z => absurd (show (!isSig (.int e.1)) = true from z) (by rw [yes]; decide)) (fun _ => ?_)
  refine ⟨a, _, f.dx, _, _, rfl, o, T.cls_TableTongue, T.na_TableTongue_row_by_sign, rfl, ?_⟩
  refine ⟨f.d1, _, rfl, DGet.k (k := .inl e.1) a1, ?_⟩
  refine ite2 (fun z => absurd (show (!(valV k1 (.inl e.1)).isSome) = true from z) (by rw [vq]; simp)) (fun _ => ?_)
  refine ⟨a, _, f.dx, _, _, rfl, o, T.cls_TableTongue, T.na_TableTongue_row_by_sign, rfl, ?_⟩
  refine ⟨f.d1, _, rfl, by have := DGet.k (k := .inl e.1) a1; rw [vq] at this; exact this, ?_⟩
  refine ⟨_, .inr (.of hq), fun p1 H1 g1 => ?_⟩
  refine ⟨sz rfl, fun p2 H2 g2 => ?_⟩
  exact k p2 p1 H2 (g1.sm.trans g2.sm) g1.nw (g2.sm _ _ g1.at_) g2.at_
theorem h_TableTongue_spell_0 (T : Txt w K mg t) : HasMD P w K mg base t.c_TableTongue "spell" 4 t.a_TableTongue_spell t.f_TableTongue_spell ["self", "sign", "page"] [] (spSpT t) :=
  ⟨T.cls_TableTongue, T.mt_TableTongue_spell, ⟨_, T.b_TableTongue_spell, .nil⟩, ok_spellT T⟩
theorem x_out {H H' : Hp} {e d0 : Addr} {C : Addr} {fs : List (Str × V)} {E : XK} (he : H e = none) (x1 : H' e = some (XN e C (some d0))) (y1 : H' d0 = some (.xd fs)) (z1 : ∀ b o, b ≠ e -> upd H e (XN e C none) b = some o -> H' b = some o) (k : ∀ e d0 H', Same H H' -> H' e = some (XO e C (some d0)) -> H' d0 = some (.xd fs) -> E (.ref C) (some e) H') : E (.ref C) (some e) (upd H' e (XO e C (some d0))) := by
  have ne : d0 ≠ e := fun z => by rw [z, x1] at y1; cases y1
  refine k e d0 _ (fun b o q => ?_) upd_same (by rw [upd_ne ne]; exact y1)
  have nb := ne_of_none q he
  rw [upd_ne nb]
  exact z1 b o nb (by rw [upd_ne nb]; exact q)
def spSpTX (K : PySem.W.Frag) (t : Adr) : Sp := fun vs H Q E => ∃ (a : Addr) (f : Ft) (es : List (Int × List Int)) (n g : Int), vs = [.ref a, .int n, .int g] /\ Tt t H a f es 1000 /\ Es es /\
  (∀ e ∈ es, e.1 = n -> ∀ p q H', Same H H' -> H q = none -> H' q = some (.lst (e.2.map V.int)) -> H' p = some (.tup [.ref q, .int g]) -> Q (.ref p) H') /\
  ((∀ e ∈ es, e.1 ≠ n) -> ∀ e d0 H', Same H H' -> H' e = some (XO e t.e_NoSign (some d0)) -> H' d0 = some (.xd [("sign", .int n), ("at", .int 0)]) -> E (.ref t.e_NoSign) (some e) H')
theorem okx_spellT (T : Txt w K mg t) : FnOk P w K mg base (CX1 P w) 4 t.a_TableTongue_spell t.f_TableTongue_spell ["self", "sign", "page"] (spSpTX K t) := by
  refine T.F_TableTongue_spell.okX sc_TableTongue_spell (fun vs H Q E h => by obtain ⟨o, f, es, n, g, rfl, _⟩ := h; rfl) fun cdv A outer s H vs Q E hr h => ?_
  obtain ⟨a, f, es, n, g, rfl, tt, ok, k, ke⟩ := h
  have hu := hr.units
  refine ⟨_, (q_pss_cons (q_ps_if (q_PW_pt (q_pw_or (q_pt_not (q_mt_val (q_cal (h_is_sign T) hr (q_pa_c (q_vv 1) q_pa_nil)))) (q_pw_or1 (q_mt_cmp (g_notinM hu) (q_vv 1) (q_fldK (K := K) rfl (q_vv 0)) (by with_unfolding_all rfl))))) (q_pss_one (q_raiseE (Es := fun _ => E) (he_NoSign T) hr rfl lets_def (q_pa_c (q_vv 1) (q_pa_c q_pe_int q_pa_nil)))) q_pss_nil)
      (q_pss_one (q_ps_ret (q_me_tup (q_pa_c (q_calTy (c_listK (K := K) rfl) T.n_list PyProof.Rows.boot_list (q_pa_c (q_dgetM hu (q_fldK (K := K) rfl (q_vv 0)) (q_vv 1)) q_pa_nil)) (q_pa_c (q_vv 2) q_pa_nil)))))), ?_⟩
  obtain ⟨o, ⟨k1, k2, k3, a1, a2, a3, _, _, _, kv⟩, ne⟩ := id tt
  have rais : (∀ e ∈ es, e.1 ≠ n) -> ∀ e, H e = none -> ∀ d0 H', H' e = some (XN e t.e_NoSign (some d0)) -> H' d0 = some (.xd [("sign", .int n), ("at", .int 0)]) -> (∀ b o, b ≠ e -> upd H e (XN e t.e_NoSign none) b = some o -> H' b = some o) -> E (.ref t.e_NoSign) (some e) (upd H' e (XO e t.e_NoSign (some d0))) := fun hn e he d0 H' x1 y1 z1 => x_out he x1 y1 z1 (ke hn)
  refine ⟨_, rfl, .int _, ?_⟩
  refine ite2 (fun z => ?_) (fun z => ?_)
  · have z : (!isSig (.int n)) = true := z
    refine iteT ?_
    refine ⟨Nat.le_of_ble_eq_true rfl, fun e he => ⟨e, _, rfl, rfl, upd_same, fun d0 H' x1 y1 z1 => ⟨rfl, e, some d0, rfl, x1, ?_⟩⟩⟩
    refine rais (fun e' he' en => ?_) e he d0 H' x1 y1 z1
    rw [<- en, (sg_iff _).mpr (ok.sg e' he').1] at z
    cases z
  refine ⟨a, _, f.dx, _, _, rfl, o, T.cls_TableTongue, T.na_TableTongue_row_by_sign, rfl, ?_⟩
  refine ⟨f.d1, _, rfl, DGet.k (k := .inl n) a1, ?_⟩
  by_cases c : ∀ e ∈ es, e.1 ≠ n
  · have vn := kv.a' n c
    refine ite2 (fun _ => ?_) (fun z => absurd (show (!(valV k1 (.inl n)).isSome) = true by rw [vn]; rfl) z)
    refine ⟨Nat.le_of_ble_eq_true rfl, fun e he => ⟨e, _, rfl, rfl, upd_same, fun d0 H' x1 y1 z1 => ⟨rfl, e, some d0, rfl, x1, ?_⟩⟩⟩
    exact rais c e he d0 H' x1 y1 z1
  · obtain ⟨e, he⟩ := Classical.not_forall.mp c
    obtain ⟨hm, hn⟩ := Classical.not_imp.mp he
    have hn : e.1 = n := Classical.not_not.mp hn
    obtain ⟨q, vq, hq⟩ := kv.a e hm
    rw [hn] at vq
    refine ite2 (fun z => absurd (show (!(valV k1 (.inl n)).isSome) = true from z) (by rw [vq]; simp)) (fun _ => ?_)
    refine ⟨a, _, f.dx, _, _, rfl, o, T.cls_TableTongue, T.na_TableTongue_row_by_sign, rfl, ?_⟩
    refine ⟨f.d1, _, rfl, by have := DGet.k (k := .inl n) a1; rw [vq] at this; exact this, ?_⟩
    refine ⟨_, .inr (.of hq), fun p1 H1 g1 => ?_⟩
    refine ⟨sz rfl, fun p2 H2 g2 => ?_⟩
    exact k e hm hn p2 p1 H2 (g1.sm.trans g2.sm) g1.nw (g2.sm _ _ g1.at_) g2.at_
theorem hx_TableTongue_spell_0 (T : Txt w K mg t) : HasMX P w K mg base t.c_TableTongue "spell" 4 t.a_TableTongue_spell t.f_TableTongue_spell ["self", "sign", "page"] [] (spSpTX K t) :=
  ⟨T.cls_TableTongue, T.mt_TableTongue_spell, ⟨_, T.b_TableTongue_spell, .nil⟩, okx_spellT T⟩
def spSpBr (t : Adr) : Sp := fun vs H _ E => ∃ (a : Addr) (n g : Int), vs = [.ref a, .int n, .int g] /\ ∀ e d0 H', Same H H' -> H' e = some (XO e t.e_NoSign (some d0)) -> H' d0 = some (.xd [("sign", .int n), ("at", .int 0)]) -> E (.ref t.e_NoSign) (some e) H'
theorem okx_spellB (T : Txt w K mg t) : FnOk P w K mg base (CX1 P w) 3 t.a_Tongue_spell t.f_Tongue_spell ["self", "sign", "page"] (spSpBr t) := by
  refine T.F_Tongue_spell.okX sc_Tongue_spell (fun vs H Q E h => by obtain ⟨o, n, g, rfl, _⟩ := h; rfl) fun cdv A outer s H vs Q E hr h => ?_
  obtain ⟨a, n, g, rfl, ke⟩ := h
  have hu := hr.units
  refine ⟨_, (q_pss_one (q_raiseE (Es := fun _ => E) (he_NoSign T) hr rfl lets_def (q_pa_c (q_vv 1) (q_pa_c q_pe_int q_pa_nil)))), ?_⟩
  refine ⟨Nat.le_of_ble_eq_true rfl, fun e he => ⟨e, _, rfl, rfl, upd_same, fun d0 H' x1 y1 z1 => ⟨rfl, e, some d0, rfl, x1, ?_⟩⟩⟩
  exact x_out he x1 y1 z1 ke
theorem hx_Tongue_spell_0 (T : Txt w K mg t) : HasMX P w K mg base t.c_Tongue "spell" 3 t.a_Tongue_spell t.f_Tongue_spell ["self", "sign", "page"] [] (spSpBr t) :=
  ⟨T.cls_Tongue, T.mt_Tongue_spell, ⟨_, T.b_Tongue_spell, .nil⟩, okx_spellB T⟩
def spNever : Sp := fun _ _ _ _ => False
theorem h_Tongue_spell_0 (T : Txt w K mg t) : HasMD P w K mg base t.c_Tongue "spell" 2 t.a_Tongue_spell t.f_Tongue_spell ["self", "sign", "page"] [] spNever :=
  ⟨T.cls_Tongue, T.mt_Tongue_spell, ⟨_, T.b_Tongue_spell, .nil⟩, T.F_Tongue_spell.okQ sc_Tongue_spell (fun vs H Q E h => h.elim) fun cdv A outer s H vs Q E hr h => h.elim⟩
inductive Kt where
  | ld
  | pr (h : Bool)
  | sh (f : Fp) (ns ms : List Int)
  | tb (f : Ft) (es : List (Int × List Int))
  | br
def TN (t : Adr) (H : Hp) (o : Addr) : Kt -> Prop
  | .ld => ∃ dx, H o = some (.ins t.c_LeadTongue dx [])
  | .pr h => Po t H o h
  | .sh f ns ms => Tg t H o f ns ms
  | .tb f es => Tt t H o f es 1000 /\ Es es
  | .br => ∃ dx, H o = some (.ins t.c_Tongue dx [])
theorem TN.mono {H H' : Hp} {o : Addr} {D : Kt} (h : TN t H o D) (s : Same H H') : TN t H' o D := by
  cases D with
  | ld => obtain ⟨dx, h⟩ := h; exact ⟨dx, s _ _ h⟩
  | pr b => exact Po.mono h s
  | sh f ns ms => exact Tg.mono h s
  | tb f es => exact ⟨Tt.mono h.1 s, h.2⟩
  | br => obtain ⟨dx, h⟩ := h; exact ⟨dx, s _ _ h⟩
def splO : Kt -> Int -> Int -> Option (List Int × Int)
  | .ld, g, n => some (row n, g)
  | .pr h, g, n => some (prow h n, g)
  | .sh _ ns ms, g, n => spelF (sel g ns ms) (sel g ms ns) g (.int n)
  | .tb _ es, g, n => (es.find? fun e => decide (e.1 = n)).map fun e => (e.2, g)
  | .br, _, _ => none
def splF (D : Kt) (g n : Int) : List Int × Int := (splO D g n).getD ([], g)
def InT : Kt -> Int -> Prop
  | .ld, n => Sg n
  | .pr _, n => Sg n
  | .sh _ ns ms, n => n ∈ ns \/ n ∈ ms
  | .tb _ es, n => ∃ e ∈ es, e.1 = n
  | .br, _ => False
def NoT : Kt -> Int -> Prop
  | .ld, _ => False
  | .pr _, _ => False
  | .sh _ ns ms, n => n ∉ ns /\ n ∉ ms
  | .tb _ es, n => ∀ e ∈ es, e.1 ≠ n
  | .br, _ => True
def PgK : Kt -> Int -> Prop
  | .sh _ _ _, g => Two g
  | _, g => g = 0
theorem spel_in {ns ms : List Int} {g n : Int} (two : Two g) (h : n ∈ ns \/ n ∈ ms) : ∃ r g', spelF (sel g ns ms) (sel g ms ns) g (.int n) = some (r, g') /\ Two g' /\ r.length <= 2 := by
  have hh : n ∈ sel g ns ms \/ n ∈ sel g ms ns := by
    rcases two with rfl | rfl
    · exact h
    · exact h.symm
  unfold spelF
  dsimp only
  cases e : idx (sel g ns ms) n with
  | some i => exact ⟨_, _, rfl, two, by show (1 : Nat) <= 2; decide⟩
  | none =>
    dsimp only
    have hn := idx_none.mp e
    rcases hh with hh | hh
    · exact absurd hh hn
    · obtain ⟨i, hi, _⟩ := idx_some hh
      rw [hi]
      exact ⟨_, _, rfl, two.flip, by show (2 : Nat) <= 2; decide⟩
theorem find_in {es : List (Int × List Int)} {n : Int} (h : ∃ e ∈ es, e.1 = n) : ∃ e ∈ es, e.1 = n /\ (es.find? fun e => decide (e.1 = n)) = some e := by
  cases e : es.find? fun e => decide (e.1 = n) with
  | none =>
    obtain ⟨f, hf, rfl⟩ := h
    have := List.find?_eq_none.mp e f hf
    simp at this
  | some f =>
    exact ⟨f, List.mem_of_find?_eq_some e, by simpa using List.find?_some e, rfl⟩
theorem spl_in {H : Hp} {o : Addr} {D : Kt} {g n : Int} (tn : TN t H o D) (hg : PgK D g) (hn : InT D n) : ∃ r g', splO D g n = some (r, g') /\ splF D g n = (r, g') /\ PgK D g' /\ r.length <= 6 := by
  have key : ∃ r g', splO D g n = some (r, g') /\ PgK D g' /\ r.length <= 6 := by
    cases D with
    | ld => exact ⟨_, _, rfl, hg, Nat.le_trans (row_len n).2 (by decide)⟩
    | pr b => exact ⟨_, _, rfl, hg, Nat.le_trans (prow_len b n) (by decide)⟩
    | sh f ns ms =>
      obtain ⟨r, g', e, two, l⟩ := spel_in hg hn
      exact ⟨r, g', e, two, by omega⟩
    | tb f es =>
      obtain ⟨e, he, _, ef⟩ := find_in hn
      exact ⟨e.2, g, by show Option.map _ _ = _; rw [ef]; rfl, hg, (tn.2.sg e he).2.2.1⟩
    | br => exact hn.elim
  obtain ⟨r, g', e, a, b⟩ := key
  exact ⟨r, g', e, by unfold splF; rw [e]; rfl, a, b⟩
def wrF (D : Kt) (g : Int) (ts : List Int) : List Int × Int := ts.foldl (fun a n => (a.1 ++ (splF D a.2 n).1, (splF D a.2 n).2)) ([], g)
theorem wr_snoc (D : Kt) (g : Int) (ts : List Int) (n : Int) : wrF D g (ts ++ [n]) = ((wrF D g ts).1 ++ (splF D (wrF D g ts).2 n).1, (splF D (wrF D g ts).2 n).2) := by
  unfold wrF
  rw [List.foldl_append]
  rfl
theorem wr_ok {H : Hp} {o : Addr} {D : Kt} {g : Int} (tn : TN t H o D) (hg : PgK D g) : ∀ (m : Nat) (ts : List Int), (∀ i n, i < m -> ts[i]? = some n -> InT D n) -> PgK D (wrF D g (ts.take m)).2 /\ (wrF D g (ts.take m)).1.length <= 6 * m
  | 0, ts, _ => ⟨hg, Nat.le_refl _⟩
  | m + 1, ts, h => by
    obtain ⟨a, b⟩ := wr_ok tn hg m ts fun i n hi => h i n (by omega)
    cases e : ts[m]? with
    | none =>
      rw [List.take_of_length_le (by have := List.getElem?_eq_none_iff.mp e; omega)]
      rw [List.take_of_length_le (List.getElem?_eq_none_iff.mp e)] at a b
      exact ⟨a, by omega⟩
    | some n =>
      rw [take_snoc e, wr_snoc]
      obtain ⟨r, g', _, ef, pg, l⟩ := spl_in tn a (h m n (by omega) e)
      rw [ef]
      exact ⟨pg, by rw [List.length_append]; dsimp only; omega⟩
theorem all_at {D : Kt} {ts : List Int} (h : ∀ n ∈ ts, InT D n) (m : Nat) : ∀ i n, i < m -> ts[i]? = some n -> InT D n := fun i n _ e => h n (List.mem_of_getElem? e)
def spWf (K : PySem.W.Frag) (t : Adr) : Sp := fun vs H Q _ => ∃ (o a : Addr) (D : Kt) (ns : List Int) (g : Int), vs = [.ref o, .ref a, .int g] /\ TN t H o D /\ PgK D g /\ SqL K H a (ns.map V.int) /\ ns.length <= 1000 /\ (∀ n ∈ ns, InT D n) /\ ∀ p q H', H q = none -> Same H H' -> H' q = some (.lst ((wrF D g ns).1.map V.int)) -> H' p = some (.tup [.ref q, .int (wrF D g ns).2]) -> Q (.ref p) H'
theorem h_write_from (T : Txt w K mg t) : Has P w K mg base "write_from" 5 t.a_write_from t.f_write_from ["tongue", "text", "page"] (spWf K t) := by
  refine ⟨T.g_write_from, T.F_write_from.kp, T.b_write_from, T.F_write_from.okQ sc_write_from (fun vs H Q E h => by obtain ⟨o, a, D, ns, g, rfl, _⟩ := h; rfl) fun cdv A outer s H vs Q E hr h => ?_⟩
  obtain ⟨o, a, D, ns, g0, rfl, tn, pg0, ha, hl, hs, k⟩ := h
  have hu := hr.units
  refine ⟨_, (q_pss_cons (q_ps_set (i := 3) sc_write_from.nd rfl (by first | exact Or.inl rfl | exact Or.inr rfl) (q_me_lst q_pa_nil))
      (q_pss_cons (q_ps_for PassesOwn.never rfl (q_pi_enumK (K := K) rfl rfl T.n_enumerate (q_pa_c (q_vv 1) q_pa_nil)) (q_pg_tupK (K := K) rfl rfl (q_pgs_cons (q_pg_name (i := 4) sc_write_from.nd rfl (by first | exact Or.inl rfl | exact Or.inr rfl)) (q_pgs_cons (q_pg_name (i := 5) sc_write_from.nd rfl (by first | exact Or.inl rfl | exact Or.inr rfl)) q_pgs_nil))) (q_pss_cons (q_try0 (fun pn => (q_pss_one (q_ps_set (i := 6) sc_write_from.nd rfl (by first | exact Or.inl rfl | exact Or.inr rfl) (q_two (q_methD (h_Tongue_spell_0 T) hr (q_vv 0) (q_pa_c (q_vv 5) (q_pa_c (q_vv 2) q_pa_nil))) (q_two (q_methD (h_LeadTongue_spell_0 T) hr (q_vv 0) (q_pa_c (q_vv 5) (q_pa_c (q_vv 2) q_pa_nil))) (q_two (q_methD (h_PairTongue_spell_0 T) hr (q_vv 0) (q_pa_c (q_vv 5) (q_pa_c (q_vv 2) q_pa_nil))) (q_two (q_methD (h_ShiftTongue_spell_0 T) hr (q_vv 0) (q_pa_c (q_vv 5) (q_pa_c (q_vv 2) q_pa_nil))) (q_methD (h_TableTongue_spell_0 T) hr (q_vv 0) (q_pa_c (q_vv 5) (q_pa_c (q_vv 2) q_pa_nil)))))))))))
      (q_pss_cons (q_ps_expr (q_pe_bmK (K := K) rfl PySem.F.plainAttrs_list PySem.F.slot_list_extend PySem.F.type_list_extend (mg_extendK (K := K) rfl) (q_vv 3) (q_pa_c (q_pe_ix (g_ixK (K := K) rfl) (q_vv 6) q_pe_int (fun _ _ => rfl)) q_pa_nil)))
      (q_pss_one (q_ps_set (i := 2) sc_write_from.nd rfl (by first | exact Or.inl rfl | exact Or.inr rfl) (q_pe_ix (g_ixK (K := K) rfl) (q_vv 6) q_pe_int (fun _ _ => rfl)))))))
      (q_pss_one (q_ps_ret (q_me_tup (q_pa_c (q_vv 3) (q_pa_c (q_vv 2) q_pa_nil))))))), ?_⟩
  refine ⟨sz rfl, fun p1 H1 g1 => ?_⟩
  refine ⟨a, _, rfl, g1.sm.seq ha, for_enum (K := K) (a := a) (xs := ns.map V.int) (fun i σ H' => Same H H' /\ H' p1 = some (.lst ((wrF D g0 (ns.take i)).1.map V.int)) /\ ∃ v4 v5 v6, σ = [some (.ref o), some (.ref a), some (.int (wrF D g0 (ns.take i)).2), some (.ref p1), v4, v5, v6]) ⟨g1.sm, g1.at_, _, _, _, rfl⟩ (fun i σ H' _ z => z.1.seq ha) ?_ ?_⟩
  · rintro i x p σ H2 H3 hx ⟨s2, h2, v4, v5, v6, rfl⟩ g3
    obtain ⟨n, hn, rfl⟩ := ints_at hx
    have hsn := hs n (List.mem_of_getElem? hn)
    have hi : i < ns.length := (List.getElem?_eq_some_iff.mp hn).1
    refine ⟨p, _, rfl, g3.tup, rfl, _, _, rfl, _, _, rfl, rfl, ?_⟩
    have s3 := s2.trans g3.sm
    have tn3 := tn.mono s3
    obtain ⟨pgi, li⟩ := wr_ok tn pg0 i ns (all_at hs i)
    obtain ⟨r, g', eO, ef, _, sl⟩ := spl_in tn3 pgi hsn
    have e : wrF D g0 (ns.take (i + 1)) = ((wrF D g0 (ns.take i)).1 ++ r, g') := by rw [take_snoc hn, wr_snoc, ef]
    generalize hg : (wrF D g0 (ns.take i)).2 = g at *
    dsimp only [gName]
    refine seq_nx (fun σ' H4 => ∃ pf q, Same H3 H4 /\ H4 q = some (.lst (r.map V.int)) /\ H4 pf = some (.tup [.ref q, .int g']) /\ σ' = [some (.ref o), some (.ref a), some (.int g), some (.ref p1), some (.int (i : Int)), some (.int n), some (.ref pf)]) (fun nx hn => ?_) ?_
    · cases D with
      | br => exact hsn.elim
      | ld =>
        obtain ⟨dx, ho⟩ := id tn3
        obtain rfl : g = 0 := pgi
        cases eO
        exact .inr (.inl ⟨o, dx, _, rfl, ho, rfl, o, n, rfl, hsn, fun pf q H4 _ s4 hq hf => hn _ _ ⟨pf, q, s4, hq, hf, rfl⟩⟩)
      | pr b =>
        obtain ⟨dx, ho⟩ := id tn3
        obtain rfl : g = 0 := pgi
        cases eO
        exact .inr (.inr (.inl ⟨o, dx, _, rfl, ho, rfl, o, b, n, rfl, tn3, hsn, fun pf q H4 _ s4 hq hf => hn _ _ ⟨pf, q, s4, hq, hf, rfl⟩⟩))
      | sh f us ms => exact .inr (.inr (.inr (.inl ⟨o, f.dx, _, rfl, Tg.o tn3, rfl, o, f, us, ms, .int n, g, r, g', rfl, pgi, tn3, eO, fun pf q H4 s4 _ hq hf => hn _ _ ⟨pf, q, s4, hq, hf, rfl⟩⟩)))
      | tb f es =>
        obtain ⟨e1, he1, en, ef1⟩ := find_in hsn
        have eO : ((es.find? fun e => decide (e.1 = n)).map fun e => (e.2, g)) = some (r, g') := eO
        rw [ef1] at eO
        cases eO
        exact .inr (.inr (.inr (.inr ⟨o, f.dx, _, rfl, tn3.1.o, rfl, o, f, es, e1, _, by rw [en]; rfl, tn3.1, tn3.2, he1, fun pf q H4 s4 _ hq hf => hn _ _ ⟨pf, q, s4, hq, hf, rfl⟩⟩)))
    · rintro σ' H4 ⟨pf, q, s4, hq, hf, rfl⟩
      have h4 := s4 _ _ (g3.sm _ _ h2)
      refine ⟨.inl ⟨rfl, _, .of h4⟩, ?_⟩
      refine ⟨_, .ref q, .inr (.of hf), atI_nat (j := 0) rfl, ?_⟩
      refine ⟨_, _, h4, hq, szl (by rw [List.length_map, List.length_map]; omega), ?_⟩
      have fne : pf ≠ p1 := fun z => by rw [z, h4] at hf; cases hf
      refine ⟨_, .int _, .inr (.of (by rw [upd_ne fne]; exact hf)), atI_nat (j := 1) rfl, ?_⟩
      refine ⟨(s3.trans s4).put g1.nw, ?_, _, _, _, by rw [e]; rfl⟩
      rw [upd_same, e, List.map_append]
  · rintro σ H2 ⟨s2, h2, v4, v5, v6, rfl⟩
    rw [List.length_map, List.take_length] at h2
    rw [List.length_map, List.take_length]
    exact ⟨sz rfl, fun p3 H3 g3 => k p3 p1 H3 g1.nw (s2.trans g3.sm) (g3.sm _ _ h2) g3.at_⟩
theorem spel_out {P' O' : List Int} {g n : Int} (h : n ∉ P') (k : n ∉ O') : spelF P' O' g (.int n) = none := by
  unfold spelF
  dsimp only
  rw [idx_none.mpr h]
  dsimp only
  rw [idx_none.mpr k]
theorem no_in {D : Kt} {n : Int} (h : NoT D n) : ¬ InT D n := fun k => by
  cases D with
  | ld => exact h
  | pr b => exact h
  | sh f ns ms => exact k.elim h.1 h.2
  | tb f es => obtain ⟨e, he, en⟩ := k; exact h e he en
  | br => exact k
theorem spell_call {o a p1 : Addr} {g n : Int} {v4 : V} {v6 : Option V} {H : Hp} {D : Kt} {Q : VK} {Es : St -> XK} (tn : TN t H o D) (pg : PgK D g) (hc : InT D n \/ NoT D n)
    (k1 : InT D n -> ∀ pf q H4, Same H H4 -> H4 q = some (.lst ((splF D g n).1.map V.int)) -> H4 pf = some (.tup [.ref q, .int (splF D g n).2]) -> Q (.ref pf) H4)
    (k2 : NoT D n -> ∀ e d0 H', Same H H' -> H' e = some (XO e t.e_NoSign (some d0)) -> Es [some (.ref o), some (.ref a), some (.int g), some (.ref p1), some v4, some (.int n), v6] (.ref t.e_NoSign) (some e) H') :
    tMethX t.c_Tongue "spell" (spSpBr t) [] Es (mV 0) (tCons (mV 5) (tCons (mV 2) tNil)) [some (.ref o), some (.ref a), some (.int g), some (.ref p1), some v4, some (.int n), v6] H Q \/
    tMethX t.c_LeadTongue "spell" (spSpBL K t.e_NoSign) [] Es (mV 0) (tCons (mV 5) (tCons (mV 2) tNil)) [some (.ref o), some (.ref a), some (.int g), some (.ref p1), some v4, some (.int n), v6] H Q \/
    tMethX t.c_PairTongue "spell" (spSpBP K t) [] Es (mV 0) (tCons (mV 5) (tCons (mV 2) tNil)) [some (.ref o), some (.ref a), some (.int g), some (.ref p1), some v4, some (.int n), v6] H Q \/
    tMethX t.c_ShiftTongue "spell" (spSpellX K t) [] Es (mV 0) (tCons (mV 5) (tCons (mV 2) tNil)) [some (.ref o), some (.ref a), some (.int g), some (.ref p1), some v4, some (.int n), v6] H Q \/
    tMethX t.c_TableTongue "spell" (spSpTX K t) [] Es (mV 0) (tCons (mV 5) (tCons (mV 2) tNil)) [some (.ref o), some (.ref a), some (.int g), some (.ref p1), some v4, some (.int n), v6] H Q := by
  have inn : InT D n -> ∃ r g', splO D g n = some (r, g') /\ splF D g n = (r, g') := fun h => by obtain ⟨r, g', a, b, _⟩ := spl_in tn pg h; exact ⟨r, g', a, b⟩
  cases D with
  | br =>
    obtain ⟨dx, ho⟩ := id tn
    exact .inl ⟨o, dx, _, rfl, ho, rfl, o, n, g, rfl, fun e d0 H' s x1 _ => k2 trivial e d0 H' s x1⟩
  | ld =>
    obtain ⟨dx, ho⟩ := id tn
    obtain rfl : g = 0 := pg
    have hs : Sg n := hc.elim id False.elim
    refine .inr (.inl ⟨o, dx, _, rfl, ho, rfl, o, .int n, rfl, .int n, fun m em _ p q H4 _ s4 hq hp => ?_, fun hb => ?_⟩)
    · cases em
      exact k1 hs p q H4 s4 hq hp
    · rw [(sg_iff n).mpr hs] at hb; cases hb
  | pr b =>
    obtain ⟨dx, ho⟩ := id tn
    obtain rfl : g = 0 := pg
    have hs : Sg n := hc.elim id False.elim
    refine .inr (.inr (.inl ⟨o, dx, _, rfl, ho, rfl, o, b, .int n, rfl, tn, .int n, fun m em _ p q H4 _ s4 hq hp => ?_, fun hb => ?_⟩))
    · cases em
      exact k1 hs p q H4 s4 hq hp
    · rw [(sg_iff n).mpr hs] at hb; cases hb
  | sh f ns ms =>
    refine .inr (.inr (.inr (.inl ⟨o, f.dx, _, rfl, Tg.o tn, rfl, o, f, ns, ms, .int n, g, rfl, pg, tn, .int n, fun r g' hs p q H4 s4 _ hq hp => ?_, fun hn e d0 H' s x1 _ => ?_⟩)))
    · rcases hc with hi | hi
      · obtain ⟨r', g'', a, b⟩ := inn hi
        have a : spelF (sel g ns ms) (sel g ms ns) g (.int n) = some (r', g'') := a
        rw [hs] at a
        cases a
        exact k1 hi p q H4 s4 (by rw [b]; exact hq) (by rw [b]; exact hp)
      · rw [spel_out] at hs
        · cases hs
        · unfold sel; split
          · exact hi.1
          · exact hi.2
        · unfold sel; split
          · exact hi.2
          · exact hi.1
    · rcases hc with hi | hi
      · obtain ⟨r', g'', a, b⟩ := inn hi
        have a : spelF (sel g ns ms) (sel g ms ns) g (.int n) = some (r', g'') := a
        rw [hn] at a
        cases a
      · exact k2 hi e d0 H' s x1
  | tb f es =>
    refine .inr (.inr (.inr (.inr ⟨o, f.dx, _, rfl, tn.1.o, rfl, o, f, es, n, g, rfl, tn.1, tn.2, fun e he en p q H4 s4 _ hq hp => ?_, fun hn e d0 H' s x1 _ => k2 hn e d0 H' s x1⟩)))
    have hi : InT (.tb f es) n := ⟨e, he, en⟩
    obtain ⟨e1, he1, en1, ef1⟩ := find_in hi
    have ee : e1 = e := by
      rcases tn.2.two he1 he with z | z
      · exact z
      · unfold colB at z
        rw [decide_eq_true (en1.trans en.symm)] at z
        cases z
    have b : splF (.tb f es) g n = (e.2, g) := by
      show (Option.map _ _).getD _ = _
      rw [ef1, ee]; rfl
    exact k1 hi p q H4 s4 (by rw [b]; exact hq) (by rw [b]; exact hp)
def spWfX (K : PySem.W.Frag) (t : Adr) : Sp := fun vs H _ E => ∃ (o a : Addr) (D : Kt) (ns : List Int) (g : Int) (i : Nat) (n : Int), vs = [.ref o, .ref a, .int g] /\ TN t H o D /\ PgK D g /\ SqL K H a (ns.map V.int) /\ ns.length <= 1000 /\ ns[i]? = some n /\ (∀ j m, j < i -> ns[j]? = some m -> InT D m) /\ NoT D n /\
  ∀ e d0 H', Same H H' -> H' e = some (XO e t.e_NoSign (some d0) true) -> H' d0 = some (.xd [("sign", .int n), ("at", .int (i : Int))]) -> E (.ref t.e_NoSign) (some e) H'
theorem hx_write_from (T : Txt w K mg t) : HasX P w K mg base "write_from" 5 t.a_write_from t.f_write_from ["tongue", "text", "page"] [] (spWfX K t) := by
  refine ⟨T.g_write_from, T.F_write_from.kp, ⟨_, T.b_write_from, .nil⟩, T.F_write_from.okX sc_write_from (fun vs H Q E h => by obtain ⟨o, a, D, ns, g, i, n, rfl, _⟩ := h; rfl) fun cdv A outer s H vs Q E hr h => ?_⟩
  obtain ⟨o, a, D, ns, g0, at', lk, rfl, tn, pg0, ha, hl, hlk, hin, hno, k2⟩ := h
  have hu := hr.units
  refine ⟨_, (q_pss_cons (q_ps_set (i := 3) sc_write_from.nd rfl (by first | exact Or.inl rfl | exact Or.inr rfl) (q_me_lst q_pa_nil))
      (q_pss_cons (q_ps_for PassesOwn.leaving rfl (q_pi_enumK (K := K) rfl rfl T.n_enumerate (q_pa_c (q_vv 1) q_pa_nil)) (q_pg_tupK (K := K) rfl rfl (q_pgs_cons (q_pg_name (i := 4) sc_write_from.nd rfl (by first | exact Or.inl rfl | exact Or.inr rfl)) (q_pgs_cons (q_pg_name (i := 5) sc_write_from.nd rfl (by first | exact Or.inl rfl | exact Or.inr rfl)) q_pgs_nil))) (q_pss_cons (q_tryNK (K := K) (Es := fun _ => E) rfl ⟨rfl, rfl⟩ T.ge_NoSign (fun e => PassesOwnAt.leaving) lets_def (fun pn W Eb L => (q_pss_one (q_ps_set (i := 6) sc_write_from.nd rfl (by first | exact Or.inl rfl | exact Or.inr rfl) (q_two (q_methX (hx_Tongue_spell_0 T) hr L (q_vv 0) (q_pa_c (q_vv 5) (q_pa_c (q_vv 2) q_pa_nil))) (q_two (q_methX (hx_LeadTongue_spell_0 T) hr L (q_vv 0) (q_pa_c (q_vv 5) (q_pa_c (q_vv 2) q_pa_nil))) (q_two (q_methX (hx_PairTongue_spell_0 T) hr L (q_vv 0) (q_pa_c (q_vv 5) (q_pa_c (q_vv 2) q_pa_nil))) (q_two (q_methX (hx_ShiftTongue_spell_0 T) hr L (q_vv 0) (q_pa_c (q_vv 5) (q_pa_c (q_vv 2) q_pa_nil))) (q_methX (hx_TableTongue_spell_0 T) hr L (q_vv 0) (q_pa_c (q_vv 5) (q_pa_c (q_vv 2) q_pa_nil)))))))))) (fun eh LH => (q_pss_one (q_raiseH (Es := fun _ => E) (heH_NoSign T) (hr.hand _) rfl LH (q_pa_c (q_vv 5) (q_pa_c (q_vv 4) q_pa_nil))))))
      (q_pss_cons (q_ps_expr (q_pe_bmK (K := K) rfl PySem.F.plainAttrs_list PySem.F.slot_list_extend PySem.F.type_list_extend (mg_extendK (K := K) rfl) (q_vv 3) (q_pa_c (q_pe_ix (g_ixK (K := K) rfl) (q_vv 6) q_pe_int (fun _ _ => rfl)) q_pa_nil)))
      (q_pss_one (q_ps_set (i := 2) sc_write_from.nd rfl (by first | exact Or.inl rfl | exact Or.inr rfl) (q_pe_ix (g_ixK (K := K) rfl) (q_vv 6) q_pe_int (fun _ _ => rfl)))))))
      (q_pss_one (q_ps_ret (q_me_tup (q_pa_c (q_vv 3) (q_pa_c (q_vv 2) q_pa_nil))))))), ?_⟩
  have hat : at' < ns.length := (List.getElem?_eq_some_iff.mp hlk).1
  refine ⟨sz rfl, fun p1 H1 g1 => ?_⟩
  refine ⟨a, _, rfl, g1.sm.seq ha, for_enum (K := K) (a := a) (xs := ns.map V.int) (fun i σ H' => i <= at' /\ Same H H' /\ H' p1 = some (.lst ((wrF D g0 (ns.take i)).1.map V.int)) /\ ∃ v4 v5 v6, σ = [some (.ref o), some (.ref a), some (.int (wrF D g0 (ns.take i)).2), some (.ref p1), v4, v5, v6]) ⟨Nat.zero_le _, g1.sm, g1.at_, _, _, _, rfl⟩ (fun i σ H' _ z => z.2.1.seq ha) ?_ ?_⟩
  · rintro i x p σ H2 H3 hx ⟨hia, s2, h2, v4, v5, v6, rfl⟩ g3
    obtain ⟨n, hn, rfl⟩ := ints_at hx
    have hi : i < ns.length := (List.getElem?_eq_some_iff.mp hn).1
    refine ⟨p, _, rfl, g3.tup, rfl, _, _, rfl, _, _, rfl, rfl, ?_⟩
    have s3 := s2.trans g3.sm
    have tn3 := tn.mono s3
    obtain ⟨pgi, li⟩ := wr_ok tn pg0 i ns fun j m hj => hin j m (by omega)
    have cas : (i < at' /\ InT D n) \/ (i = at' /\ n = lk) := by
      rcases Nat.lt_or_ge i at' with z | z
      · exact .inl ⟨z, hin i n z hn⟩
      · have z : i = at' := by omega
        rw [z, hlk] at hn
        exact .inr ⟨z, (Option.some.inj hn).symm⟩
    have nin : NoT D lk := hno
    have e : ∀ r g', splF D (wrF D g0 (ns.take i)).2 n = (r, g') -> wrF D g0 (ns.take (i + 1)) = ((wrF D g0 (ns.take i)).1 ++ r, g') := fun r g' ef => by rw [take_snoc hn, wr_snoc, ef]
    generalize hg : (wrF D g0 (ns.take i)).2 = g at *
    refine ⟨fun σ' c oe H' => σ' = [some (.ref o), some (.ref a), some (.int g), some (.ref p1), some (.int (i : Int)), some (.int n), v6] /\ c = .ref t.e_NoSign /\ Same H3 H' /\ (i = at' /\ n = lk) /\ ∃ e d0, oe = some e /\ H' e = some (XO e t.e_NoSign (some d0)), ?_, ?_⟩
    · refine spell_call (K := K) (D := D) tn3 pgi (cas.elim (fun z => .inl z.2) (fun z => .inr (by rw [z.2]; exact nin))) (fun hI pf q H4 s4 hq hf => ?_) (fun hN e' d0 H' s1 x1 => ⟨rfl, rfl, s1, ?_, e', d0, rfl, x1⟩)
      · have lt : i < at' := by
          rcases cas with z | z
          · exact z.1
          · rw [z.2] at hI
            exact absurd hI (no_in nin)
        obtain ⟨r, g', _, ef, _, sl⟩ := spl_in tn3 pgi hI
        rw [ef] at hq hf
        dsimp only at hq hf
        have h4 := s4 _ _ (g3.sm _ _ h2)
        refine ⟨.inl ⟨rfl, _, .of h4⟩, ?_⟩
        refine ⟨_, .ref q, .inr (.of hf), atI_nat (j := 0) rfl, ?_⟩
        refine ⟨_, _, h4, hq, szl (by rw [List.length_map, List.length_map]; omega), ?_⟩
        have fne : pf ≠ p1 := fun z => by rw [z, h4] at hf; cases hf
        refine ⟨_, .int _, .inr (.of (by rw [upd_ne fne]; exact hf)), atI_nat (j := 1) rfl, ?_⟩
        refine ⟨lt, (s3.trans s4).put g1.nw, ?_, _, _, _, by rw [e r g' ef]; rfl⟩
        rw [upd_same, e r g' ef, List.map_append]
      · rcases cas with z | z
        · exact absurd z.2 (no_in hN)
        · exact z
    · rintro σ' C e' od qq H4 ⟨rfl, hC, s4, ⟨eia, enl⟩, e'', d0, he, hxx⟩ _
      cases hC; cases he
      refine ⟨T.xm_NoSign_NoSign, ?_⟩
      refine ⟨⟨_, _, hxx⟩, Nat.le_of_ble_eq_true rfl, fun e2 he2 => ⟨e2, _, rfl, rfl, upd_same, fun d2 H5 x2 y2 z2 => ⟨rfl, e2, some d2, _, _, rfl, x2, z2 _ _ (ne_of_none hxx he2) (by rw [upd_ne (ne_of_none hxx he2)]; exact hxx), ?_⟩⟩⟩
      have ne : d2 ≠ e2 := fun z => by rw [z, x2] at y2; cases y2
      refine k2 e2 d2 _ (fun b o q => ?_) upd_same (by rw [upd_ne ne, <- eia, <- enl]; exact y2)
      have q4 := s4 _ _ (s3 _ _ q)
      have nb := ne_of_none q4 he2
      rw [upd_ne nb]
      exact z2 b o nb (by rw [upd_ne nb]; exact q4)
  · rintro σ H2 ⟨hia, _⟩
    rw [List.length_map] at hia
    omega
def Wr (t : Adr) (H : Hp) (x o : Addr) (g : Int) : Prop := ∃ dx, H x = some (.ins t.c_Writer dx [("tongue", .ref o), ("at_page", .int g)])
theorem Wr.mono {H H' : Hp} {x o : Addr} {g : Int} (h : Wr t H x o g) (s : Same H H') : Wr t H' x o g := by
  obtain ⟨dx, h⟩ := h
  exact ⟨dx, s _ _ h⟩
theorem ne_ins {H : Hp} {c x C C' dx dx' : Addr} {fs fs' : List (Str × V)} (h : H c = some (.ins C dx fs)) (k : H x = some (.ins C' dx' fs')) (n : fs.length ≠ fs'.length) : c ≠ x := fun z => by
  rw [z, k] at h
  have := Option.some.inj h
  injection this with _ _ e
  exact n (by rw [e])
theorem TN.kp {H H' : Hp} {x o o' : Addr} {g : Int} {D : Kt} (h : TN t H o D) (wr : Wr t H x o' g) (k : Kp x H H') : TN t H' o D := by
  obtain ⟨dx, hx⟩ := wr
  cases D with
  | ld => obtain ⟨d, h⟩ := h; exact ⟨d, k _ _ (ne_ins h hx (by show (0 : Nat) ≠ 2; decide)) h⟩
  | pr b => obtain ⟨d, h⟩ := h; exact ⟨d, k _ _ (ne_ins h hx (by show (1 : Nat) ≠ 2; decide)) h⟩
  | br => obtain ⟨d, h⟩ := h; exact ⟨d, k _ _ (ne_ins h hx (by show (0 : Nat) ≠ 2; decide)) h⟩
  | sh f ns ms =>
    obtain ⟨o1, p1, l1, s1, ⟨v0, d0, e0⟩, ⟨v1, d1, e1⟩, l0, l1', s0, s1', k0, k1⟩ := h
    exact ⟨k _ _ (ne_ins o1 hx (by show (3 : Nat) ≠ 2; decide)) o1, k _ _ (ne_kind p1 hx (by intro z; cases z)) p1, k _ _ (ne_kind l1 hx (by intro z; cases z)) l1, k _ _ (ne_kind s1 hx (by intro z; cases z)) s1, ⟨v0, k _ _ (ne_kind d0 hx (by intro z; cases z)) d0, e0⟩, ⟨v1, k _ _ (ne_kind d1 hx (by intro z; cases z)) d1, e1⟩, k _ _ (ne_kind l0 hx (by intro z; cases z)) l0, k _ _ (ne_kind l1' hx (by intro z; cases z)) l1', k _ _ (ne_kind s0 hx (by intro z; cases z)) s0, k _ _ (ne_kind s1' hx (by intro z; cases z)) s1', k0, k1⟩
  | tb f es =>
    obtain ⟨⟨o1, ⟨k1, k2, k3, a1, a2, a3, l1, l2, l3, kv⟩, ne⟩, ok⟩ := h
    exact ⟨⟨k _ _ (ne_ins o1 hx (by show (3 : Nat) ≠ 2; decide)) o1, ⟨k1, k2, k3, k _ _ (ne_kind a1 hx (by intro z; cases z)) a1, k _ _ (ne_kind a2 hx (by intro z; cases z)) a2, k _ _ (ne_kind a3 hx (by intro z; cases z)) a3, l1, l2, l3, kv.mono fun q xs e => k _ _ (ne_kind e hx (by intro z; cases z)) e⟩, ne⟩, ok⟩
def spInitW (t : Adr) : Sp := fun vs H Q _ => ∃ (x dx o : Addr), vs = [.ref x, .ref o] /\ H x = some (.ins t.c_Writer dx []) /\ ∀ H', Kp x H H' -> Wr t H' x o 0 -> Q .non H'
theorem ok_initW (T : Txt w K mg t) : FnOk P w K mg base CX0 1 t.a_Writer_init t.f_Writer_init ["self", "tongue"] (spInitW t) := by
  refine T.F_Writer_init.okQ sc_Writer_init (fun vs H Q E h => by obtain ⟨x, dx, o, rfl, _⟩ := h; rfl) fun cdv A outer s H vs Q E hr h => ?_
  obtain ⟨x, dx, o, rfl, hx, k⟩ := h
  refine ⟨_, (q_pss_cons (q_ps_fldK (K := K) rfl (q_vv 0) (q_vv 1))
      (q_pss_one (q_ps_fldK (K := K) rfl (q_vv 0) q_pe_int))), ?_⟩
  refine ⟨x, _, dx, _, rfl, hx, T.cls_Writer, T.na_Writer_tongue, Nat.lt_of_lt_of_le Nat.zero_lt_one (by decide), ?_⟩
  refine ⟨x, _, dx, _, rfl, upd_same, T.cls_Writer, T.na_Writer_at_page, Nat.lt_of_lt_of_le (Nat.lt_succ_self 1) (by decide), ?_⟩
  exact k _ (Kp.upd.trans Kp.upd) ⟨dx, by rw [upd_same]; rfl⟩
theorem hk_Writer_0 (T : Txt w K mg t) : HasKD P w K mg base "Writer" t.c_Writer 1 t.a_Writer_init t.f_Writer_init ["self", "tongue"] [] (spInitW t) := ⟨T.gc_Writer, T.mk_Writer, ⟨[], T.b_Writer_init, .nil⟩, ok_initW T⟩
def spPage (t : Adr) : Sp := fun vs H Q _ => ∃ (x o : Addr) (g : Int), vs = [.ref x] /\ Wr t H x o g /\ Q (.int g) H
theorem h_Writer_page (T : Txt w K mg t) : HasM P w K mg base t.c_Writer "page" 1 t.a_Writer_page t.f_Writer_page ["self"] (spPage t) := by
  refine ⟨T.cls_Writer, T.mt_Writer_page, T.b_Writer_page, T.F_Writer_page.okQ sc_Writer_page (fun vs H Q E h => by obtain ⟨x, o, g, rfl, _⟩ := h; rfl) fun cdv A outer s H vs Q E hr h => ?_⟩
  obtain ⟨x, o, g, rfl, ⟨dx, hx⟩, k⟩ := h
  refine ⟨_, (q_pss_one (q_ps_ret (q_fldK (K := K) rfl (q_vv 0)))), ?_⟩
  exact ⟨x, _, dx, _, _, rfl, hx, T.cls_Writer, T.na_Writer_at_page, rfl, k⟩
def spFeed (K : PySem.W.Frag) (t : Adr) : Sp := fun vs H Q _ => ∃ (x o a : Addr) (D : Kt) (ns : List Int) (g : Int), vs = [.ref x, .ref a] /\ Wr t H x o g /\ TN t H o D /\ PgK D g /\ SqL K H a (ns.map V.int) /\ ns.length <= 1000 /\ (∀ n ∈ ns, InT D n) /\
  ∀ q H', H q = none -> Kp x H H' -> Wr t H' x o (wrF D g ns).2 -> TN t H' o D -> H' q = some (.lst ((wrF D g ns).1.map V.int)) -> Q (.ref q) H'
theorem h_Writer_feed (T : Txt w K mg t) : HasM P w K mg base t.c_Writer "feed" 6 t.a_Writer_feed t.f_Writer_feed ["self", "text"] (spFeed K t) := by
  refine ⟨T.cls_Writer, T.mt_Writer_feed, T.b_Writer_feed, T.F_Writer_feed.okQ sc_Writer_feed (fun vs H Q E h => by obtain ⟨x, o, a, D, ns, g, rfl, _⟩ := h; rfl) fun cdv A outer s H vs Q E hr h => ?_⟩
  obtain ⟨x, o, a, D, ns, g, rfl, wr, tn, pg, ha, hl, hin, k⟩ := h
  have hu := hr.units
  obtain ⟨dx, hx⟩ := id wr
  refine ⟨_, (q_pss_cons (q_ps_set (i := 2) sc_Writer_feed.nd rfl (by first | exact Or.inl rfl | exact Or.inr rfl) (q_cal (h_write_from T) hr (q_pa_c (q_fldK (K := K) rfl (q_vv 0)) (q_pa_c (q_vv 1) (q_pa_c (q_fldK (K := K) rfl (q_vv 0)) q_pa_nil)))))
      (q_pss_cons (q_ps_fldK (K := K) rfl (q_vv 0) (q_pe_ix (g_ixK (K := K) rfl) (q_vv 2) q_pe_int (fun _ _ => rfl)))
      (q_pss_one (q_ps_ret (q_pe_ix (g_ixK (K := K) rfl) (q_vv 2) q_pe_int (fun _ _ => rfl)))))), ?_⟩
  refine ⟨x, _, dx, _, _, rfl, hx, T.cls_Writer, T.na_Writer_tongue, rfl, ?_⟩
  refine ⟨x, _, dx, _, _, rfl, hx, T.cls_Writer, T.na_Writer_at_page, rfl, ?_⟩
  refine ⟨o, a, D, ns, g, rfl, tn, pg, ha, hl, hin, fun p q H1 nq s1 hq hp => ?_⟩
  have wr1 := wr.mono s1
  have tn1 := tn.mono s1
  refine ⟨_, _, .inr (.of hp), atI_nat (j := 1) rfl, ?_⟩
  refine ⟨x, _, dx, _, rfl, s1 _ _ hx, T.cls_Writer, T.na_Writer_at_page, Nat.lt_of_lt_of_le (Nat.lt_succ_self 2) (by decide), ?_⟩
  have np : p ≠ x := ne_kind hp (s1 _ _ hx) (by intro z; cases z)
  have nq' : q ≠ x := ne_kind hq (s1 _ _ hx) (by intro z; cases z)
  refine ⟨_, _, .inr (.of (by rw [upd_ne np]; exact hp)), atI_nat (j := 0) rfl, ?_⟩
  exact k q _ nq ((Kp.of s1).trans Kp.upd) ⟨dx, by rw [upd_same]; rfl⟩ (tn1.kp wr1 Kp.upd) (by rw [upd_ne nq']; exact hq)
def spFeedX (K : PySem.W.Frag) (t : Adr) : Sp := fun vs H _ E => ∃ (x o a : Addr) (D : Kt) (ns : List Int) (g : Int) (i : Nat) (n : Int), vs = [.ref x, .ref a] /\ Wr t H x o g /\ TN t H o D /\ PgK D g /\ SqL K H a (ns.map V.int) /\ ns.length <= 1000 /\ ns[i]? = some n /\ (∀ j m, j < i -> ns[j]? = some m -> InT D m) /\ NoT D n /\
  ∀ e d0 H', Same H H' -> H' e = some (XO e t.e_NoSign (some d0) true) -> H' d0 = some (.xd [("sign", .int n), ("at", .int (i : Int))]) -> E (.ref t.e_NoSign) (some e) H'
theorem hx_Writer_feed_0 (T : Txt w K mg t) : HasMX P w K mg base t.c_Writer "feed" 6 t.a_Writer_feed t.f_Writer_feed ["self", "text"] [] (spFeedX K t) := by
  refine ⟨T.cls_Writer, T.mt_Writer_feed, ⟨_, T.b_Writer_feed, .nil⟩, T.F_Writer_feed.okX sc_Writer_feed (fun vs H Q E h => by obtain ⟨x, o, a, D, ns, g, i, n, rfl, _⟩ := h; rfl) fun cdv A outer s H vs Q E hr h => ?_⟩
  obtain ⟨x, o, a, D, ns, g, i, n, rfl, ⟨dx, hx⟩, tn, pg, ha, hl, hn, hin, no, k⟩ := h
  have hu := hr.units
  refine ⟨_, (q_pss_cons (q_ps_set (i := 2) sc_Writer_feed.nd rfl (by first | exact Or.inl rfl | exact Or.inr rfl) (q_calX (hx_write_from T) hr lets_def (q_pa_c (q_fldK (K := K) rfl (q_vv 0)) (q_pa_c (q_vv 1) (q_pa_c (q_fldK (K := K) rfl (q_vv 0)) q_pa_nil)))))
      (q_pss_cons (q_ps_fldK (K := K) rfl (q_vv 0) (q_pe_ix (g_ixK (K := K) rfl) (q_vv 2) q_pe_int (fun _ _ => rfl)))
      (q_pss_one (q_ps_ret (q_pe_ix (g_ixK (K := K) rfl) (q_vv 2) q_pe_int (fun _ _ => rfl)))))), ?_⟩
  refine ⟨x, _, dx, _, _, rfl, hx, T.cls_Writer, T.na_Writer_tongue, rfl, ?_⟩
  refine ⟨x, _, dx, _, _, rfl, hx, T.cls_Writer, T.na_Writer_at_page, rfl, ?_⟩
  exact ⟨o, a, D, ns, g, i, n, rfl, tn, pg, ha, hl, hn, hin, no, k⟩
def spDrawn (K : PySem.W.Frag) : Sp := fun vs H Q _ => ∃ (a : Addr) (ns : List Int) (k : Nat), vs = [.ref a, .int (k : Int)] /\ SqL K H a (ns.map V.int) /\ ∀ c H', Same H H' -> Q (.int c) H'
theorem h_z_drawn (T : Txt w K mg t) : Has P w K mg base "_law_drawn" 1 t.a_z_drawn t.f_z_drawn ["_law_script", "_law_at_here"] (spDrawn K) := by
  refine ⟨T.g_z_drawn, T.F_z_drawn.kp, T.b_z_drawn, T.F_z_drawn.okQ sc_z_drawn (fun vs H Q E h => by obtain ⟨a, ns, i, rfl, _⟩ := h; rfl) fun cdv A outer s H vs Q E hr h => ?_⟩
  obtain ⟨a, ns, i, rfl, h1, k⟩ := h
  refine ⟨_, (q_pss_one (q_ps_ret (q_calB (c_sumK (K := K) rfl rfl) T.n_sum PyProof.Rows.boot_sum (q_pa_c (q_pe_slice (g_slK (K := K) rfl) (q_vv 0) (q_po_some (q_vv 1)) (q_po_some (q_pe_op (g_addK (K := K) rfl) (q_vv 1) q_pe_int))) q_pa_nil)))), ?_⟩
  refine ⟨_, rfl, _, rfl, _, h1, fun p1 H1 g1 => ?_⟩
  rw [cutV_ints] at g1
  exact ⟨_, g1.lst, k _ _ g1.sm⟩
theorem h_z_is_number (T : Txt w K mg t) : Has P w K mg base "_law_is_number" 1 t.a_z_is_number t.f_z_is_number ["_law_found"] (fun vs H Q _ => ∃ i, vs = [.int i] /\ Q (.bl true) H) := by
  refine ⟨T.g_z_is_number, T.F_z_is_number.kp, T.b_z_is_number, T.F_z_is_number.okQ sc_z_is_number (fun vs H Q E h => by obtain ⟨i, rfl, _⟩ := h; rfl) fun cdv A outer s H vs Q E hr h => ?_⟩
  obtain ⟨i, rfl, k⟩ := h
  refine ⟨_, (q_pss_one (q_ps_ret (q_me_and (q_me_not (q_calB (c_instK (K := K) rfl) T.n_isinstance PyProof.Rows.boot_isinstance (q_pa_c (q_vv 0) (q_pa_c (q_bty rfl T.n_bool PyProof.Rows.boot_bool) q_pa_nil)))) (q_pe_one (q_calB (c_instK (K := K) rfl) T.n_isinstance PyProof.Rows.boot_isinstance (q_pa_c (q_vv 0) (q_pa_c (q_bty rfl T.n_int PyProof.Rows.boot_int) q_pa_nil))))))), ?_⟩
  obtain ⟨ty, hty, e0⟩ := (Knd.int (K := K) (H := H) i).isBl
  refine ⟨ty, _, hty, e0, ?_⟩
  refine iteT ?_
  obtain ⟨ty, hty, e0⟩ := (Knd.int (K := K) (H := H) i).isInt
  exact ⟨ty, _, hty, e0, k⟩
def spMix : Sp := fun vs H Q _ => ∃ (n k : Int), vs = [.int n, .int k] /\ 0 <= k /\ k <= 1000000 /\ ∀ m, 0 <= m -> m < 2147483629 -> Q (.int m) H
theorem h_z_mixed (T : Txt w K mg t) : Has P w K mg base "_law_mixed" 1 t.a_z_mixed t.f_z_mixed ["_law_number", "_law_k"] spMix := by
  refine ⟨T.g_z_mixed, T.F_z_mixed.kp, T.b_z_mixed, T.F_z_mixed.okQ sc_z_mixed (fun vs H Q E h => by obtain ⟨n, k, rfl, _⟩ := h; rfl) fun cdv A outer s H vs Q E hr h => ?_⟩
  obtain ⟨n, k, rfl, k0, k1, kq⟩ := h
  have two64 : (2 : Int) ^ 64 = 18446744073709551616 := by decide
  refine ⟨_, (q_pss_cons (q_ps_set (i := 0) sc_z_mixed.nd rfl (by first | exact Or.inl rfl | exact Or.inr rfl) (q_me_md (q_pe_op (g_addK (K := K) rfl) (q_pe_op (g_addK (K := K) rfl) (q_vv 0) (q_pe_op g_mul (q_pe_op g_mul q_pe_int (q_vv 1)) (q_vv 1))) q_pe_int)))
      (q_pss_one (q_ps_ret (q_me_md (q_pe_op (g_addK (K := K) rfl) (q_pe_op (g_addK (K := K) rfl) (q_pe_op g_mul (q_vv 0) (q_vv 0)) (q_pe_op g_mul q_pe_int (q_vv 0))) (q_vv 1)))))), ?_⟩
  refine ⟨Or.inl ⟨by decide, by decide⟩, ?_⟩
  refine ⟨Or.inr ⟨by omega, by omega⟩, ?_⟩
  refine ⟨Or.inl ⟨by omega, by omega⟩, ?_⟩
  refine ⟨Or.inl ⟨by decide, by decide⟩, ?_⟩
  exact kq _ (by omega) (by omega)
def gapF (n : Int) : Int := if (if n % 1111808 >= 55296 then n % 1111808 + 2048 else n % 1111808) >= 61184 then (if n % 1111808 >= 55296 then n % 1111808 + 2048 else n % 1111808) + 256 else (if n % 1111808 >= 55296 then n % 1111808 + 2048 else n % 1111808)
theorem gap_sg (n : Int) : Sg (gapF n) := by
  unfold gapF Sg
  (repeat' split) <;> omega
theorem gap_inj {a b : Int} (h : gapF a = gapF b) : a % 1111808 = b % 1111808 := by
  unfold gapF at h
  revert h
  (repeat' split) <;> omega
theorem h_z_gapped (T : Txt w K mg t) : Has P w K mg base "_law_gapped" 1 t.a_z_gapped t.f_z_gapped ["_law_number"] (fun vs H Q _ => ∃ n, vs = [.int n] /\ Q (.int (gapF n)) H) := by
  refine ⟨T.g_z_gapped, T.F_z_gapped.kp, T.b_z_gapped, T.F_z_gapped.okQ sc_z_gapped (fun vs H Q E h => by obtain ⟨n, rfl, _⟩ := h; rfl) fun cdv A outer s H vs Q E hr h => ?_⟩
  obtain ⟨n, rfl, k⟩ := h
  refine ⟨_, (q_pss_cons (q_ps_set (i := 1) sc_z_gapped.nd rfl (by first | exact Or.inl rfl | exact Or.inr rfl) (q_me_md (q_vv 0)))
      (q_pss_cons (q_ps_if (q_mt_cmp g_ge (q_vv 1) q_pe_int (nomark _)) (q_pss_one (q_ps_set (i := 1) sc_z_gapped.nd rfl (by first | exact Or.inl rfl | exact Or.inr rfl) (q_pe_op (g_addK (K := K) rfl) (q_vv 1) q_pe_int))) q_pss_nil)
      (q_pss_cons (q_ps_if (q_mt_cmp g_ge (q_vv 1) q_pe_int (nomark _)) (q_pss_one (q_ps_set (i := 1) sc_z_gapped.nd rfl (by first | exact Or.inl rfl | exact Or.inr rfl) (q_pe_op (g_addK (K := K) rfl) (q_vv 1) q_pe_int))) q_pss_nil)
      (q_pss_one (q_ps_ret (q_vv 1)))))), ?_⟩
  unfold gapF at k
  refine ite2 (fun z => ?_) (fun z => ?_)
  · have z : n % 1111808 >= 55296 := of_decide_eq_true z
    rw [if_pos z] at k
    refine ite2 (fun y => ?_) (fun y => ?_)
    · rw [if_pos (of_decide_eq_true y)] at k; exact k
    · rw [if_neg (fun x => y (decide_eq_true x))] at k; exact k
  · have z : ¬ n % 1111808 >= 55296 := fun y => z (decide_eq_true y)
    rw [if_neg z] at k
    refine ite2 (fun y => ?_) (fun y => ?_)
    · rw [if_pos (of_decide_eq_true y)] at k; exact k
    · rw [if_neg (fun x => y (decide_eq_true x))] at k; exact k
def spSign : Sp := fun vs H Q _ => ∃ c, vs = [.int c] /\ ∀ n H', Same H H' -> Sg n -> Q (.int n) H'
theorem sg_some : ∀ n ∈ ([0, 10, 127, 128, 2047, 2048, 55295, 57344, 61183, 61440, 65279, 65535, 65536, 1048575, 1114111] : List Int), Sg n := by unfold Sg; decide
theorem h_z_as_sign (T : Txt w K mg t) : Has P w K mg base "_law_as_sign" 2 t.a_z_as_sign t.f_z_as_sign ["_law_number"] spSign := by
  refine ⟨T.g_z_as_sign, T.F_z_as_sign.kp, T.b_z_as_sign, T.F_z_as_sign.okQ sc_z_as_sign (fun vs H Q E h => by obtain ⟨c, rfl, _⟩ := h; rfl) fun cdv A outer s H vs Q E hr h => ?_⟩
  obtain ⟨c, rfl, k⟩ := h
  have hu := hr.units
  refine ⟨_, (q_pss_cons (q_ps_set (i := 1) sc_z_as_sign.nd rfl (by first | exact Or.inl rfl | exact Or.inr rfl) (q_me_lst (q_pa_const rfl)))
      (q_pss_cons (q_ps_if (q_mt_cmp (g_eqK (K := K) rfl hu) (q_me_md (q_vv 0)) q_pe_int (nomark _)) (q_pss_one (q_ps_ret (q_pe_ix (g_ixK (K := K) rfl) (q_vv 1) (q_me_md (q_me_fd (q_vv 0))) (fun _ _ => rfl)))) q_pss_nil)
      (q_pss_cons (q_ps_if (q_mt_cmp (g_eqK (K := K) rfl hu) (q_me_md (q_vv 0)) q_pe_int (nomark _)) (q_pss_one (q_ps_ret (q_me_md (q_me_fd (q_vv 0))))) q_pss_nil)
      (q_pss_one (q_ps_ret (q_cal (h_z_gapped T) hr (q_pa_c (q_me_fd (q_vv 0)) q_pa_nil))))))), ?_⟩
  refine ⟨sz rfl, fun p1 H1 g1 => ?_⟩
  refine ite2 (fun _ => ?_) (fun _ => ?_)
  · obtain ⟨v, hv, e1, _⟩ := atI_in (xs := (([0, 10, 127, 128, 2047, 2048, 55295, 57344, 61183, 61440, 65279, 65535, 65536, 1048575, 1114111] : List Int).map V.int)) (i := c / 4 % 15) (by omega) (by simp; omega)
    obtain ⟨n, hn, rfl⟩ := List.mem_map.mp hv
    exact ⟨_, _, .inl g1.lst, e1, k _ _ g1.sm (sg_some n hn)⟩
  refine ite2 (fun _ => ?_) (fun _ => ?_)
  · exact k _ _ g1.sm (by unfold Sg; omega)
  · exact ⟨_, rfl, k _ _ g1.sm (gap_sg _)⟩
theorem rng_okp {f : Nat -> Int} {n : Nat} (hn : n <= 250) (hs : ∀ k, k < n -> Sg (f k)) (inj : ∀ i j, i < n -> j < n -> f i = f j -> i = j) : Okp ((List.range n).map f) := by
  refine ⟨fun m hm => ?_, ?_, by rw [List.length_map, List.length_range]; exact hn⟩
  · obtain ⟨k, hk, rfl⟩ := List.mem_map.mp hm
    exact hs k (List.mem_range.mp hk)
  · refine List.pairwise_map.mpr ?_
    exact List.nodup_range.imp_of_mem fun {i j} hi hj ne e => ne (inj i j (List.mem_range.mp hi) (List.mem_range.mp hj) e)
theorem Okp.rev {ns : List Int} (h : Okp ns) : Okp ns.reverse := ⟨fun n hn => h.1 n (List.mem_reverse.mp hn), List.pairwise_reverse.mpr (h.2.1.imp fun h => Ne.symm h), by rw [List.length_reverse]; exact h.2.2⟩
def spLs : Sp := fun vs H Q _ => ∃ (c : Int), vs = [.int c] /\ ∀ (p q r : Addr) (ns ms : List Int) H', Same H H' -> H' p = some (.tup [.ref q, .ref r]) -> H' q = some (.lst (ns.map V.int)) -> H' r = some (.lst (ms.map V.int)) -> Okp ns -> Okp ms -> Q (.ref p) H'
theorem h_z_lists (T : Txt w K mg t) : Has P w K mg base "_law_lists" 2 t.a_z_lists t.f_z_lists ["_law_number"] spLs := by
  refine ⟨T.g_z_lists, T.F_z_lists.kp, T.b_z_lists, T.F_z_lists.okQ sc_z_lists (fun vs H Q E h => by obtain ⟨c, rfl, _⟩ := h; rfl) fun cdv A outer s H vs Q E hr h => ?_⟩
  obtain ⟨c, rfl, k⟩ := h
  have hu := hr.units
  have two64 : (2 : Int) ^ 64 = 18446744073709551616 := by decide
  refine ⟨_, (q_pss_cons (q_ps_set (i := 1) sc_z_lists.nd rfl (by first | exact Or.inl rfl | exact Or.inr rfl) (q_me_lst (q_pa_c (q_me_md (q_me_fd (q_vv 0))) (q_pa_c (q_me_md (q_me_fd (q_vv 0))) q_pa_nil))))
      (q_pss_cons (q_ps_if (q_mt_cmp (g_eqK (K := K) rfl hu) (q_me_md (q_vv 0)) q_pe_int (nomark _)) (q_pss_one (q_ps_set (i := 1) sc_z_lists.nd rfl (by first | exact Or.inl rfl | exact Or.inr rfl) (q_me_lst (q_pa_c (q_pe_op (g_addK (K := K) rfl) q_pe_int (q_me_md (q_me_fd (q_vv 0)))) (q_pa_c (q_me_md (q_me_fd (q_vv 0))) q_pa_nil))))) q_pss_nil)
      (q_pss_cons (q_ps_set (i := 2) sc_z_lists.nd rfl (by first | exact Or.inl rfl | exact Or.inr rfl) (q_me_md (q_me_fd (q_vv 0))))
      (q_pss_cons (q_ps_setC (i := 3) sc_z_lists.nd rfl (by first | exact Or.inl rfl | exact Or.inr rfl) rfl (CompScope.of (fns := (defScope s_z_lists).names) (N := ["_law_number", "_law_sizes", "_law_base", "_law_first", "_law_second"]) (Nc := ["_law_k", "_law_base"]) (nv := 1) (caps := [2]) rfl rfl (by decide +kernel)) (q_pi_range1 rfl T.n_range (q_pa_c (q_pe_ix (g_ixK (K := K) rfl) (q_vv 1) q_pe_int (fun _ _ => rfl)) q_pa_nil)) (fun _ _ _ _ => (q_pg_name (i := 0) (show List.Nodup (["_law_k", "_law_base"] : List Str) by decide +kernel) rfl (Or.inl rfl) (Or.inr rfl))) (fun _ _ _ _ => q_pts_nil) (fun _ _ _ _ => (q_cal (h_z_gapped T) hr (q_pa_c (q_pe_op g_mul q_pe_int (q_pe_op (g_addK (K := K) rfl) (q_vv 1) (q_pe_op g_mul q_pe_int (q_vv 0)))) q_pa_nil))))
      (q_pss_cons (q_ps_setC (i := 4) sc_z_lists.nd rfl (by first | exact Or.inl rfl | exact Or.inr rfl) rfl (CompScope.of (fns := (defScope s_z_lists).names) (N := ["_law_number", "_law_sizes", "_law_base", "_law_first", "_law_second"]) (Nc := ["_law_k", "_law_base"]) (nv := 1) (caps := [2]) rfl rfl (by decide +kernel)) (q_pi_range1 rfl T.n_range (q_pa_c (q_pe_ix (g_ixK (K := K) rfl) (q_vv 1) q_pe_int (fun _ _ => rfl)) q_pa_nil)) (fun _ _ _ _ => (q_pg_name (i := 0) (show List.Nodup (["_law_k", "_law_base"] : List Str) by decide +kernel) rfl (Or.inl rfl) (Or.inr rfl))) (fun _ _ _ _ => q_pts_nil) (fun _ _ _ _ => (q_cal (h_z_gapped T) hr (q_pa_c (q_pe_op g_mul q_pe_int (q_pe_op (g_addK (K := K) rfl) (q_vv 1) (q_pe_op g_mul q_pe_int (q_vv 0)))) q_pa_nil))))
      (q_pss_cons (q_ps_if (q_mt_cmp g_gt (q_me_md (q_vv 0)) q_pe_int (nomark _)) (q_pss_one (q_ps_expr (q_pe_bm0K (K := K) rfl PySem.F.plainAttrs_list PySem.F.slot_list_reverse PySem.F.type_list_reverse mt_reverse (q_vv 4)))) q_pss_nil)
      (q_pss_one (q_ps_ret (q_me_tup (q_pa_c (q_vv 3) (q_pa_c (q_vv 4) q_pa_nil))))))))))), ?_⟩
  refine ⟨sz rfl, fun p1 H1 g1 => ?_⟩
  dsimp only [gName]
  refine seq_nx (fun σ' H' => Same H H' /\ ∃ (ps : Addr) (x y : Int), H' ps = some (.lst [.int x, .int y]) /\ 0 <= x /\ x <= 250 /\ 0 <= y /\ y <= 250 /\ σ' = [some (.int c), some (.ref ps), none, none, none]) (fun nx hn => ?_) ?_
  · refine ite2 (fun _ => ?_) (fun _ => ?_)
    · refine ⟨sz rfl, fun p2 H2 g2 => ?_⟩
      exact hn _ _ ⟨g1.sm.trans g2.sm, p2, _, _, g2.at_, by omega, by omega, by omega, by omega, rfl⟩
    · exact hn _ _ ⟨g1.sm, p1, _, _, g1.at_, by omega, by omega, by omega, by omega, rfl⟩
  rintro σ' H2 ⟨s2, ps, x, y, hps, x0, x1, y0, y1, rfl⟩
  obtain ⟨b, eb⟩ : ∃ b, b = c / 1000 % 1111 := ⟨_, rfl⟩
  refine ⟨_, .int x, .inl (.of hps), atI_nat (j := 0) rfl, ?_⟩
  refine ⟨x, rfl, by omega, by omega, ?_⟩
  refine comp_toR (lo := 0) (n := x.toNat) (((List.range x.toNat).map fun k : Nat => gapF (4999 * (c / 1000 % 1111 + 3 * (0 + (k : Int))))).map V.int) (by rw [List.length_map, List.length_map, List.length_range]) (szl (by omega)) (fun j v H5 N hj hv s5 hN => ?_) fun q0 H3 g3 => ?_
  · rw [List.getElem?_map, List.getElem?_map, List.getElem?_range hj] at hv
    cases hv
    refine ⟨Or.inl ⟨by decide, by decide⟩, ?_⟩
    refine ⟨Or.inl ⟨by decide, by decide⟩, ?_⟩
    exact ⟨_, rfl, hN _ (Same.refl _)⟩
  have ok0 : Okp ((List.range x.toNat).map fun k : Nat => gapF (4999 * (c / 1000 % 1111 + 3 * (0 + (k : Int))))) := rng_okp (by omega) (fun k _ => gap_sg _) fun i j hi hj e => by have := gap_inj e; omega
  refine ⟨_, .int y, .inl (.of (g3.sm _ _ hps)), atI_nat (j := 1) rfl, ?_⟩
  refine ⟨y, rfl, by omega, by omega, ?_⟩
  refine comp_toR (lo := 0) (n := y.toNat) (((List.range y.toNat).map fun k : Nat => gapF (4999 * (c / 1000 % 1111 + 5 * (0 + (k : Int))))).map V.int) (by rw [List.length_map, List.length_map, List.length_range]) (szl (by omega)) (fun j v H5 N hj hv s5 hN => ?_) fun q1 H4 g4 => ?_
  · rw [List.getElem?_map, List.getElem?_map, List.getElem?_range hj] at hv
    cases hv
    refine ⟨Or.inl ⟨by decide, by decide⟩, ?_⟩
    refine ⟨Or.inl ⟨by decide, by decide⟩, ?_⟩
    exact ⟨_, rfl, hN _ (Same.refl _)⟩
  have ok1 : Okp ((List.range y.toNat).map fun k : Nat => gapF (4999 * (c / 1000 % 1111 + 5 * (0 + (k : Int))))) := rng_okp (by omega) (fun k _ => gap_sg _) fun i j hi hj e => by have := gap_inj e; omega
  have s24 := g3.sm.trans g4.sm
  have n10 : q1 ≠ q0 := (ne_of_none g3.at_ g4.nw).symm
  have f1 : H q1 = none := s2.free (g3.sm.free g4.nw)
  dsimp only [gName]
  refine seq_nx (fun σ' H' => Same H H' /\ H' q0 = some (.lst (((List.range x.toNat).map fun k : Nat => gapF (4999 * (c / 1000 % 1111 + 3 * (0 + (k : Int))))).map V.int)) /\ (∃ ms, H' q1 = some (.lst (ms.map V.int)) /\ Okp ms) /\ σ' = [some (.int c), some (.ref ps), some (.int (c / 1000 % 1111)), some (.ref q0), some (.ref q1)]) (fun nx hn => ?_) ?_
  · refine ite2 (fun _ => ?_) (fun _ => ?_)
    · refine ⟨.inl ⟨rfl, _, .of g4.at_⟩, ?_⟩
      refine ⟨q1, _, rfl, rfl, g4.at_, ?_⟩
      exact hn _ _ ⟨(s2.trans s24).put f1, by rw [upd_ne n10.symm]; exact g4.sm _ _ g3.at_, ⟨_, by rw [upd_same, List.map_reverse], ok1.rev⟩, rfl⟩
    · exact hn _ _ ⟨s2.trans s24, g4.sm _ _ g3.at_, ⟨_, g4.at_, ok1⟩, rfl⟩
  · rintro σ' H5 ⟨s5, h0, ⟨ms, hm, okm⟩, rfl⟩
    exact ⟨sz rfl, fun p6 H6 g6 => k p6 q0 q1 _ _ H6 (s5.trans g6.sm) g6.at_ (g6.sm _ _ h0) (g6.sm _ _ hm) ok0 okm⟩
theorem beg_ne {h h' a b : List Int} (l : h.length = h'.length) (n : h ≠ h') : begB (h ++ a) (h' ++ b) = false := by
  unfold begB
  rw [decide_eq_false]
  intro z
  apply n
  have := congrArg (List.take h.length) z
  rw [List.take_take, Nat.min_eq_left (by rw [List.length_append]; omega), List.take_append_of_le_length (by omega), List.take_append_of_le_length (by omega), List.take_length, l, List.take_length] at this
  exact this.symm
def hdT (n : Int) (k : Nat) : List Int := if n / 11 % 3 > 0 then [(n / 13 + 7 * ((0 + (k : Int)) / 3)) % 256, (n / 4000 + 5 * ((0 + (k : Int)) % 3)) % 256] else [(n / 13 + 7 * (0 + (k : Int))) % 256]
theorem hd_len (n : Int) (i j : Nat) : (hdT n i).length = (hdT n j).length := by
  unfold hdT; split <;> rfl
theorem hd_le (n : Int) (i : Nat) : 1 <= (hdT n i).length /\ (hdT n i).length <= 2 := by
  unfold hdT; split <;> simp
theorem hd_ne {n : Int} {i j : Nat} (hi : i < 13) (hj : j < 13) (h : i ≠ j) : hdT n i ≠ hdT n j := by
  unfold hdT
  split
  · intro z
    simp at z
    omega
  · intro z
    simp at z
    omega
theorem hd_by (n : Int) (i : Nat) : ∀ b ∈ hdT n i, 0 <= b /\ b <= 255 := by
  intro b hb
  unfold hdT at hb
  split at hb
  · simp at hb; omega
  · simp at hb; omega
def sgT (n : Int) (k : Nat) : Int := gapF (4999 * (n / 13 % 999 + (0 + (k : Int))))
theorem sgT_ne {n : Int} {i j : Nat} (hi : i < 13) (hj : j < 13) (h : i ≠ j) : sgT n i ≠ sgT n j := fun z => by
  have := gap_inj z
  omega
def Drw (n : Int) (es : List (Int × List Int)) : Prop := ∀ (j : Nat) e, es[j]? = some e -> e.1 = sgT n j /\ ∃ tl, e.2 = hdT n j ++ tl /\ tl.length <= 4 /\ ∀ b ∈ tl, 0 <= b /\ b <= 255
theorem drw_es {n : Int} {es : List (Int × List Int)} (h : Drw n es) (l : es.length <= 13) : Es es := by
  refine ⟨fun e he => ?_, List.pairwise_iff_getElem.mpr fun i j hi hj hij => ?_, by omega⟩
  · obtain ⟨j, hj, rfl⟩ := List.mem_iff_getElem.mp he
    obtain ⟨e1, tl, e2, l4, hb⟩ := h j _ (List.getElem?_eq_getElem hj)
    have := hd_le n j
    refine ⟨by rw [e1]; exact gap_sg _, by rw [e2, List.length_append]; omega, by rw [e2, List.length_append]; omega, fun b hb' => ?_⟩
    rw [e2] at hb'
    rcases List.mem_append.mp hb' with z | z
    · exact hd_by n j b z
    · exact hb b z
  · obtain ⟨a1, t1, a2, _⟩ := h i _ (List.getElem?_eq_getElem hi)
    obtain ⟨b1, t2, b2, _⟩ := h j _ (List.getElem?_eq_getElem hj)
    unfold colB
    rw [a1, a2, b1, b2, beg_ne (hd_len n i j) (hd_ne (by omega) (by omega) (by omega)), beg_ne (hd_len n j i) (hd_ne (by omega) (by omega) (by omega)), decide_eq_false (sgT_ne (by omega) (by omega) (by omega))]
    rfl
def RwH (H : Hp) (qs : List Addr) (es : List (Int × List Int)) : Prop := All2 (fun q e => H q = some (.lst (e.2.map V.int))) qs es
theorem RwH.mono {H H' : Hp} {qs : List Addr} {es : List (Int × List Int)} (h : RwH H qs es) (s : Same H H') : RwH H' qs es := h.imp fun q e z => s _ _ z
def spTbl : Sp := fun vs H Q _ => ∃ (c : Int), vs = [.int c] /\ 0 <= c /\ ∀ (p a b : Addr) (qs : List Addr) (es : List (Int × List Int)) H', Same H H' -> H' p = some (.tup [.ref a, .ref b]) -> H' a = some (.lst ((es.map fun e => e.1).map V.int)) -> H' b = some (.lst (qs.map V.ref)) -> RwH H' qs es -> Es es -> Q (.ref p) H'
theorem h_z_table (T : Txt w K mg t) : Has P w K mg base "_law_table" 2 t.a_z_table t.f_z_table ["_law_number"] spTbl := by
  refine ⟨T.g_z_table, T.F_z_table.kp, T.b_z_table, T.F_z_table.okQ sc_z_table (fun vs H Q E h => by obtain ⟨c, rfl, _⟩ := h; rfl) fun cdv A outer s H vs Q E hr h => ?_⟩
  obtain ⟨c, rfl, c0, k⟩ := h
  have hu := hr.units
  have two64 : (2 : Int) ^ 64 = 18446744073709551616 := by decide
  refine ⟨_, (q_pss_cons (q_ps_set (i := 1) sc_z_table.nd rfl (by first | exact Or.inl rfl | exact Or.inr rfl) (q_me_lst q_pa_nil))
      (q_pss_cons (q_ps_set (i := 2) sc_z_table.nd rfl (by first | exact Or.inl rfl | exact Or.inr rfl) (q_me_lst q_pa_nil))
      (q_pss_cons (q_ps_for PassesOwn.never rfl (q_pi_range1 rfl T.n_range (q_pa_c (q_me_md (q_vv 0)) q_pa_nil)) (q_pg_name (i := 3) sc_z_table.nd rfl (by first | exact Or.inl rfl | exact Or.inr rfl)) (q_pss_cons (q_ps_set (i := 4) sc_z_table.nd rfl (by first | exact Or.inl rfl | exact Or.inr rfl) (q_cal (h_z_mixed T) hr (q_pa_c (q_vv 0) (q_pa_c (q_pe_op (g_addK (K := K) rfl) (q_vv 3) q_pe_int) q_pa_nil))))
      (q_pss_cons (q_ps_set (i := 5) sc_z_table.nd rfl (by first | exact Or.inl rfl | exact Or.inr rfl) (q_me_lst (q_pa_c (q_me_md (q_pe_op (g_addK (K := K) rfl) (q_me_fd (q_vv 0)) (q_pe_op g_mul q_pe_int (q_vv 3)))) q_pa_nil)))
      (q_pss_cons (q_ps_if (q_mt_cmp g_gt (q_me_md (q_me_fd (q_vv 0))) q_pe_int (nomark _)) (q_pss_one (q_ps_set (i := 5) sc_z_table.nd rfl (by first | exact Or.inl rfl | exact Or.inr rfl) (q_me_lst (q_pa_c (q_me_md (q_pe_op (g_addK (K := K) rfl) (q_me_fd (q_vv 0)) (q_pe_op g_mul q_pe_int (q_me_fd (q_vv 3))))) (q_pa_c (q_me_md (q_pe_op (g_addK (K := K) rfl) (q_me_fd (q_vv 0)) (q_pe_op g_mul q_pe_int (q_me_md (q_vv 3))))) q_pa_nil))))) q_pss_nil)
      (q_pss_cons (q_ps_set (i := 5) sc_z_table.nd rfl (by first | exact Or.inl rfl | exact Or.inr rfl) (q_pe_op (g_addK (K := K) rfl) (q_vv 5) (q_pe_comp rfl (CompScope.of (fns := (defScope s_z_table).names) (N := ["_law_number", "_law_signs", "_law_rows", "_law_k", "_law_far", "_law_row"]) (Nc := ["_law_j", "_law_far"]) (nv := 1) (caps := [4]) rfl rfl (by decide +kernel)) (q_pi_range1 rfl T.n_range (q_pa_c (q_me_md (q_vv 4)) q_pa_nil)) (fun _ _ _ _ => (q_pg_name (i := 0) (show List.Nodup (["_law_j", "_law_far"] : List Str) by decide +kernel) rfl (Or.inl rfl) (Or.inr rfl))) (fun _ _ _ _ => q_pts_nil) (fun _ _ _ _ => (q_me_md (q_pe_op (g_addK (K := K) rfl) (q_me_fd (q_vv 1)) (q_pe_op g_mul q_pe_int (q_vv 0))))))))
      (q_pss_cons (q_ps_expr (q_pe_bmK (K := K) rfl PySem.F.plainAttrs_list PySem.F.slot_list_append PySem.F.type_list_append mg_append (q_vv 1) (q_pa_c (q_cal (h_z_gapped T) hr (q_pa_c (q_pe_op g_mul q_pe_int (q_pe_op (g_addK (K := K) rfl) (q_me_md (q_me_fd (q_vv 0))) (q_vv 3))) q_pa_nil)) q_pa_nil)))
      (q_pss_one (q_ps_expr (q_pe_bmK (K := K) rfl PySem.F.plainAttrs_list PySem.F.slot_list_append PySem.F.type_list_append mg_append (q_vv 2) (q_pa_c (q_vv 5) q_pa_nil))))))))))
      (q_pss_one (q_ps_ret (q_me_tup (q_pa_c (q_vv 1) (q_pa_c (q_vv 2) q_pa_nil)))))))), ?_⟩
  refine ⟨sz rfl, fun pa H1 g1 => ?_⟩
  refine ⟨sz rfl, fun pb H2 g2 => ?_⟩
  have nab : pb ≠ pa := (ne_of_none g1.at_ g2.nw).symm
  have fa : H pa = none := g1.nw
  have fb : H pb = none := g1.sm.free g2.nw
  refine ⟨c % 13, rfl, by omega, by omega, ?_⟩
  refine for_range (lo := 0) (n := (c % 13).toNat) (fun i σ H' => Same H H' /\ (∃ qs es, es.length = i /\ Drw c es /\ H' pa = some (.lst ((es.map fun e => e.1).map V.int)) /\ H' pb = some (.lst (qs.map V.ref)) /\ RwH H' qs es /\ ∀ q ∈ qs, q ≠ pa /\ q ≠ pb) /\ ∃ v3 v4 v5, σ = [some (.int c), some (.ref pa), some (.ref pb), v3, v4, v5])
    ⟨g1.sm.trans g2.sm, ⟨[], [], rfl, (fun j e h => by simp at h), g2.sm _ _ g1.at_, g2.at_, All2.nil, (fun q h => nomatch h)⟩, _, _, _, rfl⟩ ?_ ?_
  · rintro i σ H3 hi ⟨s3, ⟨qs, es, le, dr, ha, hb, rw3, nq⟩, v3, v4, v5, rfl⟩
    have hi13 : i < 13 := by omega
    refine ⟨_, _, rfl, by omega, by omega, fun far f0 f1 => ?_⟩
    refine ⟨Or.inl ⟨by decide, by decide⟩, ?_⟩
    refine ⟨sz rfl, fun p4 H4 g4 => ?_⟩
    dsimp only [gName]
    refine seq_nx (fun σ' H' => Same H3 H' /\ ∃ p5, H' p5 = some (.lst ((hdT c i).map V.int)) /\ σ' = [some (.int c), some (.ref pa), some (.ref pb), some (.int (0 + (i : Int))), some (.int far), some (.ref p5)]) (fun nx hn => ?_) ?_
    · refine ite2 (fun z => ?_) (fun z => ?_)
      · have z : c / 11 % 3 > 0 := of_decide_eq_true z
        refine ⟨Or.inl ⟨by decide, by decide⟩, ?_⟩
        refine ⟨Or.inl ⟨by decide, by decide⟩, ?_⟩
        refine ⟨sz rfl, fun p5 H5 g5 => ?_⟩
        exact hn _ _ ⟨g4.sm.trans g5.sm, p5, by unfold hdT; rw [if_pos z]; exact g5.at_, rfl⟩
      · have z : ¬ c / 11 % 3 > 0 := fun y => z (decide_eq_true y)
        exact hn _ _ ⟨g4.sm, p4, by unfold hdT; rw [if_neg z]; exact g4.at_, rfl⟩
    rintro σ' H5 ⟨s5, p5, h5, rfl⟩
    refine ⟨far % 5, rfl, by omega, by omega, ?_⟩
    refine comp_toR (lo := 0) (n := (far % 5).toNat) (((List.range (far % 5).toNat).map fun j : Nat => (far / 16 + 3 * (0 + (j : Int))) % 256).map V.int) (by rw [List.length_map, List.length_map, List.length_range]) (szl (by omega)) (fun j v H6 N hj hv s6 hN => ?_) fun p6 H6 g6 => ?_
    · rw [List.getElem?_map, List.getElem?_map, List.getElem?_range hj] at hv
      cases hv
      refine ⟨Or.inl ⟨by decide, by decide⟩, ?_⟩
      exact hN _ (Same.refl _)
    have hl := hd_le c i
    refine ⟨_, _, .of (g6.sm _ _ h5), g6.lst, szl (by rw [List.length_map, List.length_map, List.length_map, List.length_range]; omega), fun p7 H7 g7 => ?_⟩
    rw [<- List.map_append] at g7
    have s37 := s5.trans (g6.sm.trans g7.sm)
    have ha7 := s37 _ _ ha
    have hb7 := s37 _ _ hb
    have np7a : p7 ≠ pa := (ne_of_none (g6.sm _ _ (s5 _ _ ha)) g7.nw).symm
    have np7b : p7 ≠ pb := (ne_of_none (g6.sm _ _ (s5 _ _ hb)) g7.nw).symm
    refine ⟨.inl ⟨rfl, _, .of ha7⟩, ?_⟩
    refine ⟨Or.inl ⟨by decide, by decide⟩, ?_⟩
    refine ⟨_, rfl, ?_⟩
    refine ⟨_, ha7, szlt (by rw [List.length_map, List.length_map]; omega), ?_⟩
    have hb8 : upd H7 pa (.lst ((es.map fun e => e.1).map V.int ++ [.int (sgT c i)])) pb = some (.lst (qs.map V.ref)) := by rw [upd_ne nab]; exact hb7
    refine ⟨.inl ⟨rfl, _, .of hb8⟩, ?_⟩
    have lq : qs.length = i := by rw [<- le]; exact rw3.1
    refine ⟨_, hb8, szlt (by rw [List.length_map]; omega), ?_⟩
    refine ⟨((s3.trans s37).put fa).put fb, ⟨qs ++ [p7], es ++ [(sgT c i, hdT c i ++ (List.range (far % 5).toNat).map fun j : Nat => (far / 16 + 3 * (0 + (j : Int))) % 256)], by rw [List.length_append, le]; rfl, fun j e he => ?_, ?_, ?_, All2.app ⟨rw3.1, fun j q e hq he => ?_⟩ (All2.cons ?_ All2.nil), fun q hq => ?_⟩, _, _, _, rfl⟩
    · by_cases cj : j < es.length
      · rw [List.getElem?_append_left cj] at he
        exact dr j e he
      · have ej : j = es.length := by
          have := (List.getElem?_eq_some_iff.mp he).1
          rw [List.length_append] at this
          simp at this
          omega
        rw [ej, List.getElem?_append_right (Nat.le_refl _), Nat.sub_self] at he
        cases he
        refine ⟨by rw [ej, le], _, by rw [ej, le], by rw [List.length_map, List.length_range]; omega, fun b hb => ?_⟩
        obtain ⟨x, _, rfl⟩ := List.mem_map.mp hb
        omega
    · rw [upd_ne nab.symm, upd_same, List.map_append, List.map_append]; rfl
    · rw [upd_same, List.map_append]; rfl
    · obtain ⟨n1, n2⟩ := nq q (List.mem_of_getElem? hq)
      rw [upd_ne n2, upd_ne n1]
      exact s37 _ _ (rw3.2 j q e hq he)
    · rw [upd_ne np7b, upd_ne np7a]
      exact g7.at_
    · rcases List.mem_append.mp hq with z | z
      · exact nq q z
      · rw [List.mem_singleton.mp z]; exact ⟨np7a, np7b⟩
  · rintro σ H3 ⟨s3, ⟨qs, es, le, dr, ha, hb, rw3, nq⟩, v3, v4, v5, rfl⟩
    exact ⟨sz rfl, fun p4 H4 g4 => k p4 pa pb qs es H4 (s3.trans g4.sm) g4.at_ (g4.sm _ _ ha) (g4.sm _ _ hb) (rw3.mono g4.sm) (drw_es dr (by omega))⟩
theorem ok_lead : PyData.strOk "lead" = true := by decide +kernel
theorem ok_high : PyData.strOk "high" = true := by decide +kernel
theorem ok_low : PyData.strOk "low" = true := by decide +kernel
theorem ok_shift : PyData.strOk "shift" = true := by decide +kernel
theorem ok_table : PyData.strOk "table" = true := by decide +kernel
theorem ok_bare : PyData.strOk "bare" = true := by decide +kernel
theorem str_shaped {x : Str} (h : PyData.strOk x = true) : SeqAt.shaped (.str x) = true := by
  simpa [SeqAt.shaped, PyData.canLay0, PyData.depth] using h
theorem or2 {p q : Prop} [Decidable p] [Decidable q] {A B : Prop} (h1 : p \/ q -> A) (h2 : ¬ p -> ¬ q -> B) : if decide p = true then (if true = true then A else B) else (if decide q = true then A else B) := by
  by_cases c : p
  · rw [if_pos (decide_eq_true c), if_pos rfl]; exact h1 (.inl c)
  · rw [if_neg (fun z => c (of_decide_eq_true z))]
    by_cases c' : q
    · rw [if_pos (decide_eq_true c')]; exact h1 (.inr c')
    · rw [if_neg (fun z => c' (of_decide_eq_true z))]; exact h2 c c'
inductive Md where
  | ld
  | pr (h : Bool)
  | sh (ns ms : List Int)
  | tb (es : List (Int × List Int))
  | br
def wrd : Md -> Str
  | .ld => "lead"
  | .pr h => ordOf h
  | .sh _ _ => "shift"
  | .tb _ => "table"
  | .br => "bare"
def Cont (H : Hp) (a b : Addr) : Md -> Prop
  | .sh ns ms => H a = some (.lst (ns.map V.int)) /\ H b = some (.lst (ms.map V.int)) /\ Okp ns /\ Okp ms
  | .tb es => H a = some (.lst ((es.map fun e => e.1).map V.int)) /\ (∃ qs, H b = some (.lst (qs.map V.ref)) /\ RwH H qs es) /\ Es es
  | _ => H a = some (.lst []) /\ H b = some (.lst [])
theorem Cont.mono {H H' : Hp} {a b : Addr} {M : Md} (h : Cont H a b M) (s : Same H H') : Cont H' a b M := by
  cases M with
  | sh ns ms => exact ⟨s _ _ h.1, s _ _ h.2.1, h.2.2⟩
  | tb es =>
    obtain ⟨h1, ⟨qs, h2, h3⟩, h4⟩ := h
    exact ⟨s _ _ h1, ⟨qs, s _ _ h2, h3.mono s⟩, h4⟩
  | ld => exact ⟨s _ _ h.1, s _ _ h.2⟩
  | pr b => exact ⟨s _ _ h.1, s _ _ h.2⟩
  | br => exact ⟨s _ _ h.1, s _ _ h.2⟩
def Mod (H : Hp) (p : Addr) (M : Md) : Prop := ∃ a b, H p = some (.tup [.str (wrd M), .ref a, .ref b]) /\ Cont H a b M
theorem Mod.mono {H H' : Hp} {p : Addr} {M : Md} (h : Mod H p M) (s : Same H H') : Mod H' p M := by
  obtain ⟨a, b, h1, h2⟩ := h
  exact ⟨a, b, s _ _ h1, h2.mono s⟩
def spMd : Sp := fun vs H Q _ => ∃ c : Int, vs = [.int c] /\ ∀ p M H', Same H H' -> Mod H' p M -> Q (.ref p) H'
theorem h_z_model (T : Txt w K mg t) : Has P w K mg base "_law_model" 3 t.a_z_model t.f_z_model ["_law_cell"] spMd := by
  refine ⟨T.g_z_model, T.F_z_model.kp, T.b_z_model, T.F_z_model.okQ sc_z_model (fun vs H Q E h => by obtain ⟨c, rfl, _⟩ := h; rfl) fun cdv A outer s H vs Q E hr h => ?_⟩
  obtain ⟨c, rfl, k⟩ := h
  have hu := hr.units
  refine ⟨_, (q_pss_cons (q_ps_set (i := 1) sc_z_model.nd rfl (by first | exact Or.inl rfl | exact Or.inr rfl) (q_cal (h_z_mixed T) hr (q_pa_c (q_me_fd (q_vv 0)) (q_pa_c q_pe_int q_pa_nil))))
      (q_pss_cons (q_ps_if (q_PW_pt (q_pw_or (q_mt_cmp (g_eqK (K := K) rfl hu) (q_me_md (q_vv 0)) q_pe_int (nomark _)) (q_pw_or1 (q_mt_cmp (g_eqK (K := K) rfl hu) (q_me_md (q_vv 0)) q_pe_int (nomark _))))) (q_pss_cons (q_ps_asg (q_cal (h_z_lists T) hr (q_pa_c (q_vv 1) q_pa_nil)) (q_pg_tupK (K := K) rfl rfl (q_pgs_cons (q_pg_name (i := 2) sc_z_model.nd rfl (by first | exact Or.inl rfl | exact Or.inr rfl)) (q_pgs_cons (q_pg_name (i := 3) sc_z_model.nd rfl (by first | exact Or.inl rfl | exact Or.inr rfl)) q_pgs_nil))))
      (q_pss_one (q_ps_ret (q_me_tup (q_pa_c q_pe_str (q_pa_c (q_vv 2) (q_pa_c (q_vv 3) q_pa_nil))))))) q_pss_nil)
      (q_pss_cons (q_ps_if (q_PW_pt (q_pw_or (q_mt_cmp (g_eqK (K := K) rfl hu) (q_me_md (q_vv 0)) q_pe_int (nomark _)) (q_pw_or1 (q_mt_cmp (g_eqK (K := K) rfl hu) (q_me_md (q_vv 0)) q_pe_int (nomark _))))) (q_pss_cons (q_ps_asg (q_cal (h_z_table T) hr (q_pa_c (q_vv 1) q_pa_nil)) (q_pg_tupK (K := K) rfl rfl (q_pgs_cons (q_pg_name (i := 4) sc_z_model.nd rfl (by first | exact Or.inl rfl | exact Or.inr rfl)) (q_pgs_cons (q_pg_name (i := 5) sc_z_model.nd rfl (by first | exact Or.inl rfl | exact Or.inr rfl)) q_pgs_nil))))
      (q_pss_one (q_ps_ret (q_me_tup (q_pa_c q_pe_str (q_pa_c (q_vv 4) (q_pa_c (q_vv 5) q_pa_nil))))))) q_pss_nil)
      (q_pss_cons (q_ps_if (q_PW_pt (q_pw_and (q_mt_cmp (g_eqK (K := K) rfl hu) (q_me_md (q_vv 0)) q_pe_int (nomark _)) (q_pw_and1 (q_mt_cmp (g_eqK (K := K) rfl hu) (q_me_md (q_vv 1)) q_pe_int (nomark _))))) (q_pss_one (q_ps_ret (q_me_tup (q_pa_c q_pe_str (q_pa_c (q_me_lst q_pa_nil) (q_pa_c (q_me_lst q_pa_nil) q_pa_nil)))))) q_pss_nil)
      (q_pss_one (q_ps_ret (q_me_tup (q_pa_c (q_pe_ix (g_ixK (K := K) rfl) (q_me_lst (q_pa_const rfl)) (q_me_md (q_me_md (q_vv 0))) (fun _ _ => rfl)) (q_pa_c (q_me_lst q_pa_nil) (q_pa_c (q_me_lst q_pa_nil) q_pa_nil)))))))))), ?_⟩
  refine ⟨_, _, rfl, by decide, by decide, fun n n0 n1 => ?_⟩
  refine or2 (p := c % 8 = 3) (q := c % 8 = 4) (fun _ => ?_) (fun _ _ => ?_)
  · refine ⟨n, rfl, fun p q r ns ms H1 s1 hp hq hr_ okn okm => ?_⟩
    refine ⟨p, _, rfl, .of hp, rfl, _, _, rfl, _, _, rfl, rfl, ?_⟩
    exact ⟨sz rfl, fun p2 H2 g2 => k p2 (.sh ns ms) H2 (s1.trans g2.sm) ⟨q, r, g2.at_, g2.sm _ _ hq, g2.sm _ _ hr_, okn, okm⟩⟩
  refine or2 (p := c % 8 = 5) (q := c % 8 = 6) (fun _ => ?_) (fun _ _ => ?_)
  · refine ⟨n, rfl, n0, fun p q r qs es H1 s1 hp hq hr_ rw1 ok => ?_⟩
    refine ⟨p, _, rfl, .of hp, rfl, _, _, rfl, _, _, rfl, rfl, ?_⟩
    exact ⟨sz rfl, fun p2 H2 g2 => k p2 (.tb es) H2 (s1.trans g2.sm) ⟨q, r, g2.at_, g2.sm _ _ hq, ⟨qs, g2.sm _ _ hr_, rw1.mono g2.sm⟩, ok⟩⟩
  have last : ∀ H0, Same H H0 -> ∀ M : Md, (M = .ld \/ (∃ h, M = .pr h) \/ M = .br) -> ∀ pa H1 pb H2 p3 H3, Gro H0 pa (.lst []) H1 -> Gro H1 pb (.lst []) H2 -> Gro H2 p3 (.tup [.str (wrd M), .ref pa, .ref pb]) H3 -> Q (.ref p3) H3 := by
    intro H0 s0 M hM pa H1 pb H2 p3 H3 g1 g2 g3
    refine k p3 M H3 (s0.trans (g1.sm.trans (g2.sm.trans g3.sm))) ⟨pa, pb, g3.at_, ?_⟩
    rcases hM with rfl | ⟨h, rfl⟩ | rfl <;> exact ⟨g3.sm _ _ (g2.sm _ _ g1.at_), g3.sm _ _ g2.at_⟩
  have rest : ∀ i : Int, 0 <= i -> i < 3 -> ∃ M : Md, (M = .ld \/ (∃ h, M = .pr h) \/ M = .br) /\ atI [V.str "lead", .str "high", .str "low"] i = some (.str (wrd M)) := by
    intro i i0 i3
    rcases (show i = 0 \/ i = 1 \/ i = 2 by omega) with rfl | rfl | rfl
    · exact ⟨.ld, .inl rfl, rfl⟩
    · exact ⟨.pr true, .inr (.inl ⟨_, rfl⟩), rfl⟩
    · exact ⟨.pr false, .inr (.inl ⟨_, rfl⟩), rfl⟩
  have fin : ∀ {R : VK}, (∀ p H', (∃ M : Md, (M = .ld \/ (∃ h, M = .pr h) \/ M = .br) /\ ∃ pa H1 pb H2 H0, Same H H0 /\ Gro H0 pa (.lst []) H1 /\ Gro H1 pb (.lst []) H2 /\ Gro H2 p (.tup [.str (wrd M), .ref pa, .ref pb]) H') -> Q (.ref p) H') := fun {R} p H' h => by
    obtain ⟨M, hM, pa, H1, pb, H2, H0, s0, g1, g2, g3⟩ := h
    exact last H0 s0 M hM pa H1 pb H2 p H' g1 g2 g3
  have tail : ∀ (hx : True), mTup (tCons (tOp (gIx K) (mLst (tConsts [V.str "lead", V.str "high", V.str "low"])) (mMd 3 (mMd 8 (mV 0)))) (tCons (mLst tNil) (tCons (mLst tNil) tNil))) [some (.int c), some (.int n), none, none, none, none] H Q := by
    intro _
    refine ⟨sz rfl, fun p0 H0 g0 => ?_⟩
    obtain ⟨M, hM, eM⟩ := rest (c % 8 % 3) (by omega) (by omega)
    refine ⟨_, _, .inl g0.lst, eM, ?_⟩
    refine ⟨sz rfl, fun pa H1 g1 => ?_⟩
    refine ⟨sz rfl, fun pb H2 g2 => ?_⟩
    exact ⟨sz rfl, fun p3 H3 g3 => last H0 g0.sm M hM pa H1 pb H2 p3 H3 g1 g2 g3⟩
  refine ite2 (fun _ => ?_) (fun _ => ?_)
  · refine ite2 (fun _ => ?_) (fun _ => ?_)
    · refine ⟨sz rfl, fun pa H1 g1 => ?_⟩
      refine ⟨sz rfl, fun pb H2 g2 => ?_⟩
      exact ⟨sz rfl, fun p3 H3 g3 => last H (Same.refl _) .br (.inr (.inr rfl)) pa H1 pb H2 p3 H3 g1 g2 g3⟩
    · exact tail trivial
  · exact tail trivial
def Mt : Md -> Kt -> Prop
  | .ld, D => D = .ld
  | .pr h, D => D = .pr h
  | .sh ns ms, D => ∃ f, D = .sh f ns ms
  | .tb es, D => ∃ f, D = .tb f es
  | .br, D => D = .br
def spTn (t : Adr) : Sp := fun vs H Q _ => ∃ (p : Addr) (M : Md), vs = [.ref p] /\ Mod H p M /\ ∀ o D H', Same H H' -> Mt M D -> TN t H' o D -> Q (.ref o) H'
theorem same_make {H : Hp} {x dx C : Addr} (hx : H x = none) (hdx : H dx = none) : Same H (upd (upd H dx (.own x)) x (.ins C dx [])) := fun b ob q => by rw [upd_ne (ne_of_none q hx), upd_ne (ne_of_none q hdx)]; exact q
theorem h_z_tongue (T : Txt w K mg t) : Has P w K mg base "_law_tongue" 8 t.a_z_tongue t.f_z_tongue ["_law_model_here"] (spTn t) := by
  refine ⟨T.g_z_tongue, T.F_z_tongue.kp, T.b_z_tongue, T.F_z_tongue.okQ sc_z_tongue (fun vs H Q E h => by obtain ⟨p, M, rfl, _⟩ := h; rfl) fun cdv A outer s H vs Q E hr h => ?_⟩
  obtain ⟨p, M, rfl, ⟨a, b, hp, ct⟩, k⟩ := h
  have hu := hr.units
  refine ⟨_, (q_pss_cons (q_ps_asg (q_vv 0) (q_pg_tupK (K := K) rfl rfl (q_pgs_cons (q_pg_name (i := 1) sc_z_tongue.nd rfl (by first | exact Or.inl rfl | exact Or.inr rfl)) (q_pgs_cons (q_pg_name (i := 2) sc_z_tongue.nd rfl (by first | exact Or.inl rfl | exact Or.inr rfl)) (q_pgs_cons (q_pg_name (i := 3) sc_z_tongue.nd rfl (by first | exact Or.inl rfl | exact Or.inr rfl)) q_pgs_nil)))))
      (q_pss_cons (q_ps_if (q_mt_cmp (g_eqK (K := K) rfl hu) (q_vv 1) q_pe_str (nomark _)) (q_pss_one (q_ps_ret (q_mk0 T.mk0_LeadTongue T.gc_LeadTongue))) q_pss_nil)
      (q_pss_cons (q_ps_if (q_PW_pt (q_pw_or (q_mt_cmp (g_eqK (K := K) rfl hu) (q_vv 1) q_pe_str (nomark _)) (q_pw_or1 (q_mt_cmp (g_eqK (K := K) rfl hu) (q_vv 1) q_pe_str (nomark _))))) (q_pss_one (q_ps_ret (q_makeD (hk_PairTongue_0 T) hr (q_pa_c (q_vv 1) q_pa_nil)))) q_pss_nil)
      (q_pss_cons (q_ps_if (q_mt_cmp (g_eqK (K := K) rfl hu) (q_vv 1) q_pe_str (nomark _)) (q_pss_one (q_ps_ret (q_makeD (hk_ShiftTongue_0 T) hr (q_pa_c (q_calTy (c_listK (K := K) rfl) T.n_list PyProof.Rows.boot_list (q_pa_c (q_vv 2) q_pa_nil)) (q_pa_c (q_calTy (c_listK (K := K) rfl) T.n_list PyProof.Rows.boot_list (q_pa_c (q_vv 3) q_pa_nil)) q_pa_nil))))) q_pss_nil)
      (q_pss_cons (q_ps_if (q_mt_cmp (g_eqK (K := K) rfl hu) (q_vv 1) q_pe_str (nomark _)) (q_pss_one (q_ps_ret (q_makeD (hk_TableTongue_0 T) hr (q_pa_c (q_pe_comp rfl (CompScope.of (fns := (defScope s_z_tongue).names) (N := ["_law_model_here", "_law_word", "_law_first", "_law_second"]) (Nc := ["_law_sign", "_law_row"]) (nv := 2) (caps := []) rfl rfl (by decide +kernel)) (q_pi_zipK (K := K) rfl rfl T.n_zip (q_pa_c (q_vv 2) (q_pa_c (q_vv 3) q_pa_nil))) (fun _ _ _ _ => (q_pg_tupK (K := K) rfl (n := 2) rfl (q_pgs_cons (q_pg_name (i := 0) (show List.Nodup (["_law_sign", "_law_row"] : List Str) by decide +kernel) rfl (Or.inl rfl) (Or.inr rfl)) (q_pgs_cons (q_pg_name (i := 1) (show List.Nodup (["_law_sign", "_law_row"] : List Str) by decide +kernel) rfl (Or.inl rfl) (Or.inr rfl)) q_pgs_nil)))) (fun _ _ _ _ => q_pts_nil) (fun _ _ _ _ => (q_me_tup (q_pa_c (q_vv 0) (q_pa_c (q_calTy (c_listK (K := K) rfl) T.n_list PyProof.Rows.boot_list (q_pa_c (q_vv 1) q_pa_nil)) q_pa_nil))))) q_pa_nil)))) q_pss_nil)
      (q_pss_one (q_ps_ret (q_mk0 T.mk0_Tongue T.gc_Tongue)))))))), ?_⟩
  refine ⟨p, _, rfl, .of hp, rfl, _, _, rfl, _, _, rfl, _, _, rfl, rfl, ?_⟩
  cases M with
  | ld =>
    refine ⟨_, _, DataV.str _, DataV.str _, str_shaped ok_lead, str_shaped ok_lead, ?_⟩
    refine ite2 (fun _ => ?_) (fun z => absurd (show PyData.eqv (.str "lead") (.str "lead") = true by decide +kernel) z)
    refine fun x dx hx hdx hne => ?_
    exact k x .ld _ (same_make hx hdx) rfl ⟨dx, upd_same⟩
  | pr h =>
    cases h with
    | true =>
      refine ⟨_, _, DataV.str _, DataV.str _, str_shaped ok_high, str_shaped ok_lead, ?_⟩
      refine ite2 (fun z => absurd (show PyData.eqv (.str "high") (.str "lead") = true from z) (by decide +kernel)) (fun _ => ?_)
      refine ⟨_, _, DataV.str _, DataV.str _, str_shaped ok_high, str_shaped ok_high, ?_⟩
      refine ite2 (fun _ => ?_) (fun z => absurd (show PyData.eqv (.str "high") (.str "high") = true by decide +kernel) z)
      refine iteT ?_
      refine fun x dx hx hdx hne => ?_
      refine ⟨x, dx, true, rfl, upd_same, rfl, ?_⟩
      refine k x (.pr true) _ (fun c u e => ?_) rfl ⟨dx, upd_same⟩
      rw [upd_ne (ne_of_none e hx)]
      exact same_make hx hdx c u e
    | false =>
      refine ⟨_, _, DataV.str _, DataV.str _, str_shaped ok_low, str_shaped ok_lead, ?_⟩
      refine ite2 (fun z => absurd (show PyData.eqv (.str "low") (.str "lead") = true from z) (by decide +kernel)) (fun _ => ?_)
      refine ⟨_, _, DataV.str _, DataV.str _, str_shaped ok_low, str_shaped ok_high, ?_⟩
      refine ite2 (fun z => absurd (show PyData.eqv (.str "low") (.str "high") = true from z) (by decide +kernel)) (fun _ => ?_)
      refine ⟨_, _, DataV.str _, DataV.str _, str_shaped ok_low, str_shaped ok_low, ?_⟩
      refine ite2 (fun _ => ?_) (fun z => absurd (show PyData.eqv (.str "low") (.str "low") = true by decide +kernel) z)
      refine fun x dx hx hdx hne => ?_
      refine ⟨x, dx, false, rfl, upd_same, rfl, ?_⟩
      refine k x (.pr false) _ (fun c u e => ?_) rfl ⟨dx, upd_same⟩
      rw [upd_ne (ne_of_none e hx)]
      exact same_make hx hdx c u e
  | sh ns ms =>
    obtain ⟨ha, hb, okn, okm⟩ := ct
    refine ⟨_, _, DataV.str _, DataV.str _, str_shaped ok_shift, str_shaped ok_lead, ?_⟩
    refine ite2 (fun z => absurd (show PyData.eqv (.str "shift") (.str "lead") = true from z) (by decide +kernel)) (fun _ => ?_)
    refine ⟨_, _, DataV.str _, DataV.str _, str_shaped ok_shift, str_shaped ok_high, ?_⟩
    refine ite2 (fun z => absurd (show PyData.eqv (.str "shift") (.str "high") = true from z) (by decide +kernel)) (fun _ => ?_)
    refine ⟨_, _, DataV.str _, DataV.str _, str_shaped ok_shift, str_shaped ok_low, ?_⟩
    refine ite2 (fun z => absurd (show PyData.eqv (.str "shift") (.str "low") = true from z) (by decide +kernel)) (fun _ => ?_)
    refine ⟨_, _, DataV.str _, DataV.str _, str_shaped ok_shift, str_shaped ok_shift, ?_⟩
    refine ite2 (fun _ => ?_) (fun z => absurd (show PyData.eqv (.str "shift") (.str "shift") = true by decide +kernel) z)
    refine ⟨_, .inl (.of ha), fun q H1 g1 => ?_⟩
    refine ⟨_, .inl (.of (g1.sm _ _ hb)), fun r H2 g2 => ?_⟩
    refine fun x dx hx hdx hne => ?_
    have s := same_make (C := t.c_ShiftTongue) hx hdx
    have q2 := g2.sm _ _ g1.at_
    refine ⟨x, dx, q, r, ns, ms, rfl, upd_same, .of (s _ _ q2), .of (s _ _ g2.at_), okn, okm, ne_of_none q2 hx, ne_of_none g2.at_ hx, fun fp H8 k8 tg8 fr => ⟨rfl, ?_⟩⟩
    refine k x (.sh fp ns ms) H8 (fun c u e => k8 _ _ (ne_of_none (g2.sm _ _ (g1.sm _ _ e)) hx) (s _ _ (g2.sm _ _ (g1.sm _ _ e)))) ⟨fp, rfl⟩ tg8
  | tb es =>
    obtain ⟨ha, ⟨qs, hb, rw1⟩, ok⟩ := ct
    refine ⟨_, _, DataV.str _, DataV.str _, str_shaped ok_table, str_shaped ok_lead, ?_⟩
    refine ite2 (fun z => absurd (show PyData.eqv (.str "table") (.str "lead") = true from z) (by decide +kernel)) (fun _ => ?_)
    refine ⟨_, _, DataV.str _, DataV.str _, str_shaped ok_table, str_shaped ok_high, ?_⟩
    refine ite2 (fun z => absurd (show PyData.eqv (.str "table") (.str "high") = true from z) (by decide +kernel)) (fun _ => ?_)
    refine ⟨_, _, DataV.str _, DataV.str _, str_shaped ok_table, str_shaped ok_low, ?_⟩
    refine ite2 (fun z => absurd (show PyData.eqv (.str "table") (.str "low") = true from z) (by decide +kernel)) (fun _ => ?_)
    refine ⟨_, _, DataV.str _, DataV.str _, str_shaped ok_table, str_shaped ok_shift, ?_⟩
    refine ite2 (fun z => absurd (show PyData.eqv (.str "table") (.str "shift") = true from z) (by decide +kernel)) (fun _ => ?_)
    refine ⟨_, _, DataV.str _, DataV.str _, str_shaped ok_table, str_shaped ok_table, ?_⟩
    refine ite2 (fun _ => ?_) (fun z => absurd (show PyData.eqv (.str "table") (.str "table") = true by decide +kernel) z)
    have l64 := ok.l
    have lq := rw1.1
    refine ⟨a, b, _, _, rfl, .of ha, .of hb, ?_⟩
    refine comp_zip (K := K) (a := a) (b := b) (xs := (es.map fun e => e.1).map V.int) (zs := qs.map V.ref) (cs := []) (by simp [lq]) (fun i ys H' => Same H H' /\ ∃ ps : List Addr, ys = ps.map V.ref /\ ps.length = i /\ EnH H' ps (es.take i)) ⟨Same.refl _, [], rfl, rfl, All2.nil⟩ (fun i ys H' hi z => ⟨z.1.seq (.of ha), z.1.seq (.of hb), by obtain ⟨_, ps, rfl, hl, _⟩ := z; rw [List.length_map]; omega⟩) (szl (by rw [List.length_map, List.length_map]; omega)) (fun i x z ys H2 H3 N hx hz pv s3 hN => ?_) fun ys H2 pf H3 pv g3 => ?_
    · obtain ⟨n, hn, rfl⟩ := ints_at hx
      obtain ⟨q, hq, rfl⟩ := refs_at hz
      obtain ⟨s2, ps, rfl, hl, en⟩ := pv
      obtain ⟨e, he, hrow⟩ := rw1.right hq
      rw [List.getElem?_map, he] at hn
      cases hn
      simp only [tTrue, if_true]
      have s02 := s2.trans s3
      refine ⟨_, .inl (.of (s02 _ _ hrow)), fun q2 H4 g4 => ?_⟩
      refine ⟨sz rfl, fun p5 H5 g5 => ?_⟩
      refine hN _ _ ⟨s02.trans (g4.sm.trans g5.sm), ps ++ [p5], by rw [List.map_append]; rfl, by rw [List.length_append, hl]; rfl, ?_⟩
      rw [take_snoc he]
      refine All2.app (en.mono (s3.trans (g4.sm.trans g5.sm))) (All2.cons ⟨⟨q2, g5.at_, g5.sm _ _ g4.at_⟩, ?_⟩ All2.nil)
      have := ok.sg e (List.mem_of_getElem? he)
      exact ⟨this.2.1, this.2.2.1⟩
    obtain ⟨s2, ps, rfl, hl, en⟩ := pv
    rw [List.length_map, List.length_map, List.take_length] at en
    refine fun x dx hx hdx hne => ?_
    have s := same_make (C := t.c_TableTongue) hx hdx
    refine ⟨x, dx, pf, ps, es, rfl, upd_same, s _ _ g3.at_, en.mono (g3.sm.trans s), ok, fun f H8 k8 tt8 => ⟨rfl, ?_⟩⟩
    exact k x (.tb f es) H8 (fun c u e => k8 _ _ (ne_of_none (g3.sm _ _ (s2 _ _ e)) hx) (s _ _ (g3.sm _ _ (s2 _ _ e)))) ⟨f, rfl⟩ ⟨tt8, ok⟩
  | br =>
    refine ⟨_, _, DataV.str _, DataV.str _, str_shaped ok_bare, str_shaped ok_lead, ?_⟩
    refine ite2 (fun z => absurd (show PyData.eqv (.str "bare") (.str "lead") = true from z) (by decide +kernel)) (fun _ => ?_)
    refine ⟨_, _, DataV.str _, DataV.str _, str_shaped ok_bare, str_shaped ok_high, ?_⟩
    refine ite2 (fun z => absurd (show PyData.eqv (.str "bare") (.str "high") = true from z) (by decide +kernel)) (fun _ => ?_)
    refine ⟨_, _, DataV.str _, DataV.str _, str_shaped ok_bare, str_shaped ok_low, ?_⟩
    refine ite2 (fun z => absurd (show PyData.eqv (.str "bare") (.str "low") = true from z) (by decide +kernel)) (fun _ => ?_)
    refine ⟨_, _, DataV.str _, DataV.str _, str_shaped ok_bare, str_shaped ok_shift, ?_⟩
    refine ite2 (fun z => absurd (show PyData.eqv (.str "bare") (.str "shift") = true from z) (by decide +kernel)) (fun _ => ?_)
    refine ⟨_, _, DataV.str _, DataV.str _, str_shaped ok_bare, str_shaped ok_table, ?_⟩
    refine ite2 (fun z => absurd (show PyData.eqv (.str "bare") (.str "table") = true from z) (by decide +kernel)) (fun _ => ?_)
    refine fun x dx hx hdx hne => ?_
    exact k x .br _ (same_make hx hdx) rfl ⟨dx, upd_same⟩
def spLr : Sp := fun vs H Q _ => ∃ n, vs = [.int n] /\ ∀ p H', Gro H p (.lst ((row n).map V.int)) H' -> Q (.ref p) H'
theorem h_z_lead_row (T : Txt w K mg t) : Has P w K mg base "_law_lead_row" 1 t.a_z_lead_row t.f_z_lead_row ["_law_sign"] spLr := by
  refine ⟨T.g_z_lead_row, T.F_z_lead_row.kp, T.b_z_lead_row, T.F_z_lead_row.okQ sc_z_lead_row (fun vs H Q E h => by obtain ⟨n, rfl, _⟩ := h; rfl) fun cdv A outer s H vs Q E hr h => ?_⟩
  obtain ⟨n, rfl, k⟩ := h
  refine ⟨_, (q_pss_cons (q_ps_if (q_mt_cmp g_lt (q_vv 0) q_pe_int (nomark _)) (q_pss_one (q_ps_ret (q_me_lst (q_pa_c (q_vv 0) q_pa_nil)))) q_pss_nil)
      (q_pss_cons (q_ps_if (q_mt_cmp g_lt (q_vv 0) q_pe_int (nomark _)) (q_pss_one (q_ps_ret (q_me_lst (q_pa_c (q_pe_op (g_addK (K := K) rfl) q_pe_int (q_me_fd (q_vv 0))) (q_pa_c (q_pe_op (g_addK (K := K) rfl) q_pe_int (q_me_md (q_vv 0))) q_pa_nil))))) q_pss_nil)
      (q_pss_cons (q_ps_if (q_mt_cmp g_lt (q_vv 0) q_pe_int (nomark _)) (q_pss_one (q_ps_ret (q_me_lst (q_pa_c (q_pe_op (g_addK (K := K) rfl) q_pe_int (q_me_fd (q_vv 0))) (q_pa_c (q_pe_op (g_addK (K := K) rfl) q_pe_int (q_me_md (q_me_fd (q_vv 0)))) (q_pa_c (q_pe_op (g_addK (K := K) rfl) q_pe_int (q_me_md (q_vv 0))) q_pa_nil)))))) q_pss_nil)
      (q_pss_one (q_ps_ret (q_me_lst (q_pa_c (q_pe_op (g_addK (K := K) rfl) q_pe_int (q_me_fd (q_vv 0))) (q_pa_c (q_pe_op (g_addK (K := K) rfl) q_pe_int (q_me_md (q_me_fd (q_vv 0)))) (q_pa_c (q_pe_op (g_addK (K := K) rfl) q_pe_int (q_me_md (q_me_fd (q_vv 0)))) (q_pa_c (q_pe_op (g_addK (K := K) rfl) q_pe_int (q_me_md (q_vv 0))) q_pa_nil)))))))))), ?_⟩
  unfold row at k
  refine ite2 (fun c1 => ?_) (fun c1 => ?_)
  · rw [if_pos (of_decide_eq_true c1)] at k
    exact ⟨sz rfl, k⟩
  rw [if_neg (fun z => c1 (decide_eq_true z))] at k
  refine ite2 (fun c2 => ?_) (fun c2 => ?_)
  · rw [if_pos (of_decide_eq_true c2)] at k
    exact ⟨sz rfl, k⟩
  rw [if_neg (fun z => c2 (decide_eq_true z))] at k
  refine ite2 (fun c3 => ?_) (fun c3 => ?_)
  · rw [if_pos (of_decide_eq_true c3)] at k
    exact ⟨sz rfl, k⟩
  rw [if_neg (fun z => c3 (decide_eq_true z))] at k
  exact ⟨sz rfl, k⟩
def spPr : Sp := fun vs H Q _ => ∃ (n : Int) (h : Bool), vs = [.int n, .str (ordOf h)] /\ ∀ p H', Same H H' -> H' p = some (.lst ((prow h n).map V.int)) -> Q (.ref p) H'
theorem h_z_pair_row (T : Txt w K mg t) : Has P w K mg base "_law_pair_row" 1 t.a_z_pair_row t.f_z_pair_row ["_law_sign", "_law_word"] spPr := by
  refine ⟨T.g_z_pair_row, T.F_z_pair_row.kp, T.b_z_pair_row, T.F_z_pair_row.okQ sc_z_pair_row (fun vs H Q E h => by obtain ⟨n, h, rfl, _⟩ := h; rfl) fun cdv A outer s H vs Q E hr h => ?_⟩
  obtain ⟨n, h, rfl, k⟩ := h
  have hu := hr.units
  refine ⟨_, (q_pss_cons (q_ps_set (i := 2) sc_z_pair_row.nd rfl (by first | exact Or.inl rfl | exact Or.inr rfl) (q_me_lst (q_pa_c (q_vv 0) q_pa_nil)))
      (q_pss_cons (q_ps_if (q_mt_cmp g_gt (q_vv 0) q_pe_int (nomark _)) (q_pss_one (q_ps_set (i := 2) sc_z_pair_row.nd rfl (by first | exact Or.inl rfl | exact Or.inr rfl) (q_me_lst (q_pa_c (q_pe_op (g_addK (K := K) rfl) q_pe_int (q_me_fd (q_pe_op g_sub (q_vv 0) q_pe_int))) (q_pa_c (q_pe_op (g_addK (K := K) rfl) q_pe_int (q_me_md (q_vv 0))) q_pa_nil))))) q_pss_nil)
      (q_pss_cons (q_ps_set (i := 3) sc_z_pair_row.nd rfl (by first | exact Or.inl rfl | exact Or.inr rfl) (q_me_lst q_pa_nil))
      (q_pss_cons (q_ps_for PassesOwn.never rfl (q_pi_listK (K := K) rfl (q_vv 2)) (q_pg_name (i := 4) sc_z_pair_row.nd rfl (by first | exact Or.inl rfl | exact Or.inr rfl)) (q_pss_one (q_ps_if (q_mt_cmp (g_eqK (K := K) rfl hu) (q_vv 1) q_pe_str (nomark _)) (q_pss_one (q_ps_set (i := 3) sc_z_pair_row.nd rfl (by first | exact Or.inl rfl | exact Or.inr rfl) (q_pe_op (g_addK (K := K) rfl) (q_vv 3) (q_me_lst (q_pa_c (q_me_fd (q_vv 4)) (q_pa_c (q_me_md (q_vv 4)) q_pa_nil)))))) (q_pss_one (q_ps_set (i := 3) sc_z_pair_row.nd rfl (by first | exact Or.inl rfl | exact Or.inr rfl) (q_pe_op (g_addK (K := K) rfl) (q_vv 3) (q_me_lst (q_pa_c (q_me_md (q_vv 4)) (q_pa_c (q_me_fd (q_vv 4)) q_pa_nil)))))))))
      (q_pss_one (q_ps_ret (q_vv 3))))))), ?_⟩
  refine ⟨sz rfl, fun p1 H1 g1 => ?_⟩
  dsimp only [gName]
  refine seq_nx (fun σ' H' => Same H H' /\ ∃ pu, H' pu = some (.lst ((unitsOf n).map V.int)) /\ σ' = [some (.int n), some (.str (ordOf h)), some (.ref pu), none, none]) (fun nx hn => ?_) ?_
  · refine ite2 (fun c => ?_) (fun c => ?_)
    · have c : n > 65535 := of_decide_eq_true c
      refine ⟨sz rfl, fun p2 H2 g2 => ?_⟩
      refine hn _ _ ⟨g1.sm.trans g2.sm, p2, ?_, rfl⟩
      have e : unitsOf n = [55296 + (n - 65536) / 1024, 56320 + n % 1024] := by
        unfold unitsOf
        rw [if_neg (by omega)]
        congr 2
        omega
      rw [e]
      exact g2.at_
    · have c : ¬ n > 65535 := fun z => c (decide_eq_true z)
      refine hn _ _ ⟨g1.sm, p1, ?_, rfl⟩
      have e : unitsOf n = [n] := by unfold unitsOf; rw [if_pos (by omega)]
      rw [e]
      exact g1.at_
  rintro σ' H2 ⟨s2, pu, hu2, rfl⟩
  have lu := units_len n
  refine ⟨sz rfl, fun p3 H3 g3 => ?_⟩
  refine ⟨pu, rfl, ⟨_, .of (g3.sm _ _ hu2)⟩, for_list (K := K) (a := pu) (xs := (unitsOf n).map V.int) (fun i σ H' => Same H3 H' /\ ∃ (pr : Addr) (v4 : Option V), H' pr = some (.lst ((((unitsOf n).take i).flatMap (ub h)).map V.int)) /\ σ = [some (.int n), some (.str (ordOf h)), some (.ref pu), some (.ref pr), v4]) ⟨Same.refl _, p3, _, g3.at_, rfl⟩ (fun i σ H' _ z => z.1.seq (.of (g3.sm _ _ hu2))) ?_ ?_⟩
  · rintro i x σ H4 hx ⟨s4, pr, v4, h4, rfl⟩
    obtain ⟨m, hm, rfl⟩ := ints_at hx
    have hi : i < (unitsOf n).length := (List.getElem?_eq_some_iff.mp hm).1
    have fl := flat_len h ((unitsOf n).take i)
    have lt : ((unitsOf n).take i).length <= 2 := by rw [List.length_take]; omega
    have e : ((unitsOf n).take (i + 1)).flatMap (ub h) = ((unitsOf n).take i).flatMap (ub h) ++ ub h m := by rw [take_snoc hm, List.flatMap_append]; simp
    cases h with
    | true =>
      refine ⟨_, _, DataV.str _, DataV.str _, str_shaped ok_high, str_shaped ok_high, ?_⟩
      refine ite2 (fun _ => ?_) (fun z => absurd (show PyData.eqv (.str "high") (.str "high") = true by decide +kernel) z)
      refine ⟨sz rfl, fun p5 H5 g5 => ?_⟩
      refine ⟨_, _, .of (g5.sm _ _ h4), g5.lst, szl (by rw [List.length_map]; show _ + 2 <= _; omega), fun p6 H6 g6 => ?_⟩
      refine ⟨s4.trans (g5.sm.trans g6.sm), p6, _, ?_, rfl⟩
      rw [e, List.map_append]
      exact g6.at_
    | false =>
      refine ⟨_, _, DataV.str _, DataV.str _, str_shaped ok_low, str_shaped ok_high, ?_⟩
      refine ite2 (fun z => absurd (show PyData.eqv (.str "low") (.str "high") = true from z) (by decide +kernel)) (fun _ => ?_)
      refine ⟨sz rfl, fun p5 H5 g5 => ?_⟩
      refine ⟨_, _, .of (g5.sm _ _ h4), g5.lst, szl (by rw [List.length_map]; show _ + 2 <= _; omega), fun p6 H6 g6 => ?_⟩
      refine ⟨s4.trans (g5.sm.trans g6.sm), p6, _, ?_, rfl⟩
      rw [e, List.map_append]
      exact g6.at_
  · rintro σ H4 ⟨s4, pr, v4, h4, rfl⟩
    rw [List.length_map, List.take_length] at h4
    exact k pr H4 (s2.trans (g3.sm.trans s4)) h4
theorem inV_ints (n : Int) (ns : List Int) : inV (.int n) (ns.map V.int) = decide (n ∈ ns) := inV_int n ns
theorem flat_ints (ns : List Int) : (ns.map V.int).all flatV = true := by
  rw [List.all_eq_true]
  intro x hx
  obtain ⟨n, _, rfl⟩ := List.mem_map.mp hx
  rfl
def spSp (t : Adr) : Sp := fun vs H Q _ => ∃ (p : Addr) (M : Md) (D : Kt) (n g : Int), vs = [.ref p, .int n, .int g] /\ Mod H p M /\ Mt M D /\ InT D n /\ PgK D g /\ ∀ pr q H', Same H H' -> H' q = some (.lst ((splF D g n).1.map V.int)) -> H' pr = some (.tup [.ref q, .int (splF D g n).2]) -> Q (.ref pr) H'
theorem h_z_spell (T : Txt w K mg t) : Has P w K mg base "_law_spell" 2 t.a_z_spell t.f_z_spell ["_law_model_here", "_law_sign", "_law_page"] (spSp t) := by
  refine ⟨T.g_z_spell, T.F_z_spell.kp, T.b_z_spell, T.F_z_spell.okQ sc_z_spell (fun vs H Q E h => by obtain ⟨p, M, D, n, g, rfl, _⟩ := h; rfl) fun cdv A outer s H vs Q E hr h => ?_⟩
  obtain ⟨p, M, D, n, g, rfl, ⟨a, b, hp, ct⟩, mt, hin, pg, k⟩ := h
  have hu := hr.units
  refine ⟨_, (q_pss_cons (q_ps_asg (q_vv 0) (q_pg_tupK (K := K) rfl rfl (q_pgs_cons (q_pg_name (i := 3) sc_z_spell.nd rfl (by first | exact Or.inl rfl | exact Or.inr rfl)) (q_pgs_cons (q_pg_name (i := 4) sc_z_spell.nd rfl (by first | exact Or.inl rfl | exact Or.inr rfl)) (q_pgs_cons (q_pg_name (i := 5) sc_z_spell.nd rfl (by first | exact Or.inl rfl | exact Or.inr rfl)) q_pgs_nil)))))
      (q_pss_cons (q_ps_if (q_mt_cmp (g_eqK (K := K) rfl hu) (q_vv 3) q_pe_str (nomark _)) (q_pss_one (q_ps_ret (q_me_tup (q_pa_c (q_cal (h_z_lead_row T) hr (q_pa_c (q_vv 1) q_pa_nil)) (q_pa_c q_pe_int q_pa_nil))))) q_pss_nil)
      (q_pss_cons (q_ps_if (q_PW_pt (q_pw_or (q_mt_cmp (g_eqK (K := K) rfl hu) (q_vv 3) q_pe_str (nomark _)) (q_pw_or1 (q_mt_cmp (g_eqK (K := K) rfl hu) (q_vv 3) q_pe_str (nomark _))))) (q_pss_one (q_ps_ret (q_me_tup (q_pa_c (q_cal (h_z_pair_row T) hr (q_pa_c (q_vv 1) (q_pa_c (q_vv 3) q_pa_nil))) (q_pa_c q_pe_int q_pa_nil))))) q_pss_nil)
      (q_pss_cons (q_ps_if (q_PW_pt (q_pw_and (q_mt_cmp (g_eqK (K := K) rfl hu) (q_vv 3) q_pe_str (nomark _)) (q_pw_and1 (q_mt_cmp (g_inK (K := K) rfl) (q_vv 1) (q_vv 4) (by with_unfolding_all rfl))))) (q_pss_one (q_ps_ret (q_me_tup (q_pa_c (q_calTy (c_listK (K := K) rfl) T.n_list PyProof.Rows.boot_list (q_pa_c (q_pe_ix (g_ixK (K := K) rfl) (q_vv 5) (q_pe_bmK (K := K) rfl PySem.F.plainAttrs_list PySem.F.slot_list_index PySem.F.type_list_index (mg_lstIxK (K := K) rfl) (q_vv 4) (q_pa_c (q_vv 1) q_pa_nil)) (fun _ _ => rfl)) q_pa_nil)) (q_pa_c q_pe_int q_pa_nil))))) q_pss_nil)
      (q_pss_cons (q_ps_if (q_PW_pt (q_pw_and (q_mt_cmp (g_eqK (K := K) rfl hu) (q_vv 3) q_pe_str (nomark _)) (q_pw_and1 (q_mt_cmp (g_inK (K := K) rfl) (q_vv 1) (q_pe_ix (g_ixK (K := K) rfl) (q_vv 0) (q_pe_op (g_addK (K := K) rfl) q_pe_int (q_vv 2)) (fun _ _ => rfl)) (by with_unfolding_all rfl))))) (q_pss_one (q_ps_ret (q_me_tup (q_pa_c (q_me_lst (q_pa_c (q_pe_bmK (K := K) rfl PySem.F.plainAttrs_list PySem.F.slot_list_index PySem.F.type_list_index (mg_lstIxK (K := K) rfl) (q_pe_ix (g_ixK (K := K) rfl) (q_vv 0) (q_pe_op (g_addK (K := K) rfl) q_pe_int (q_vv 2)) (fun _ _ => rfl)) (q_pa_c (q_vv 1) q_pa_nil)) q_pa_nil)) (q_pa_c (q_vv 2) q_pa_nil))))) q_pss_nil)
      (q_pss_cons (q_ps_if (q_PW_pt (q_pw_and (q_mt_cmp (g_eqK (K := K) rfl hu) (q_vv 3) q_pe_str (nomark _)) (q_pw_and1 (q_mt_cmp (g_inK (K := K) rfl) (q_vv 1) (q_pe_ix (g_ixK (K := K) rfl) (q_vv 0) (q_pe_op g_sub q_pe_int (q_vv 2)) (fun _ _ => rfl)) (by with_unfolding_all rfl))))) (q_pss_one (q_ps_ret (q_me_tup (q_pa_c (q_me_lst (q_pa_c (q_pe_op g_sub q_pe_int (q_vv 2)) (q_pa_c (q_pe_bmK (K := K) rfl PySem.F.plainAttrs_list PySem.F.slot_list_index PySem.F.type_list_index (mg_lstIxK (K := K) rfl) (q_pe_ix (g_ixK (K := K) rfl) (q_vv 0) (q_pe_op g_sub q_pe_int (q_vv 2)) (fun _ _ => rfl)) (q_pa_c (q_vv 1) q_pa_nil)) q_pa_nil))) (q_pa_c (q_pe_op g_sub q_pe_int (q_vv 2)) q_pa_nil))))) q_pss_nil)
      (q_pss_one (q_ps_ret q_pe_non)))))))), ?_⟩
  refine ⟨p, _, rfl, .of hp, rfl, _, _, rfl, _, _, rfl, _, _, rfl, rfl, ?_⟩
  cases M with
  | ld =>
    obtain rfl : D = .ld := mt
    obtain rfl : g = 0 := pg
    refine ⟨_, _, DataV.str _, DataV.str _, str_shaped ok_lead, str_shaped ok_lead, ?_⟩
    refine ite2 (fun _ => ?_) (fun z => absurd (show PyData.eqv (.str "lead") (.str "lead") = true by decide +kernel) z)
    refine ⟨n, rfl, fun q H1 g1 => ?_⟩
    exact ⟨sz rfl, fun p2 H2 g2 => k p2 q H2 (g1.sm.trans g2.sm) (g2.sm _ _ g1.at_) g2.at_⟩
  | pr h =>
    obtain rfl : D = .pr h := mt
    obtain rfl : g = 0 := pg
    cases h with
    | true =>
      refine ⟨_, _, DataV.str _, DataV.str _, str_shaped ok_high, str_shaped ok_lead, ?_⟩
      refine ite2 (fun z => absurd (show PyData.eqv (.str "high") (.str "lead") = true from z) (by decide +kernel)) (fun _ => ?_)
      refine ⟨_, _, DataV.str _, DataV.str _, str_shaped ok_high, str_shaped ok_high, ?_⟩
      refine ite2 (fun _ => ?_) (fun z => absurd (show PyData.eqv (.str "high") (.str "high") = true by decide +kernel) z)
      refine iteT ?_
      refine ⟨n, true, rfl, fun q H1 s1 hq => ?_⟩
      exact ⟨sz rfl, fun p2 H2 g2 => k p2 q H2 (s1.trans g2.sm) (g2.sm _ _ hq) g2.at_⟩
    | false =>
      refine ⟨_, _, DataV.str _, DataV.str _, str_shaped ok_low, str_shaped ok_lead, ?_⟩
      refine ite2 (fun z => absurd (show PyData.eqv (.str "low") (.str "lead") = true from z) (by decide +kernel)) (fun _ => ?_)
      refine ⟨_, _, DataV.str _, DataV.str _, str_shaped ok_low, str_shaped ok_high, ?_⟩
      refine ite2 (fun z => absurd (show PyData.eqv (.str "low") (.str "high") = true from z) (by decide +kernel)) (fun _ => ?_)
      refine ⟨_, _, DataV.str _, DataV.str _, str_shaped ok_low, str_shaped ok_low, ?_⟩
      refine ite2 (fun _ => ?_) (fun z => absurd (show PyData.eqv (.str "low") (.str "low") = true by decide +kernel) z)
      refine ⟨n, false, rfl, fun q H1 s1 hq => ?_⟩
      exact ⟨sz rfl, fun p2 H2 g2 => k p2 q H2 (s1.trans g2.sm) (g2.sm _ _ hq) g2.at_⟩
  | br =>
    obtain rfl : D = .br := mt
    exact hin.elim
  | tb es =>
    obtain ⟨f, rfl⟩ := mt
    obtain rfl : g = 0 := pg
    obtain ⟨ha, ⟨qs, hb, rw1⟩, ok⟩ := ct
    refine ⟨_, _, DataV.str _, DataV.str _, str_shaped ok_table, str_shaped ok_lead, ?_⟩
    refine ite2 (fun z => absurd (show PyData.eqv (.str "table") (.str "lead") = true from z) (by decide +kernel)) (fun _ => ?_)
    refine ⟨_, _, DataV.str _, DataV.str _, str_shaped ok_table, str_shaped ok_high, ?_⟩
    refine ite2 (fun z => absurd (show PyData.eqv (.str "table") (.str "high") = true from z) (by decide +kernel)) (fun _ => ?_)
    refine ⟨_, _, DataV.str _, DataV.str _, str_shaped ok_table, str_shaped ok_low, ?_⟩
    refine ite2 (fun z => absurd (show PyData.eqv (.str "table") (.str "low") = true from z) (by decide +kernel)) (fun _ => ?_)
    refine ⟨_, _, DataV.str _, DataV.str _, str_shaped ok_table, str_shaped ok_table, ?_⟩
    refine ite2 (fun _ => ?_) (fun z => absurd (show PyData.eqv (.str "table") (.str "table") = true by decide +kernel) z)
    obtain ⟨e0, he0, en0, ef0⟩ := find_in hin
    have hm : n ∈ es.map fun e => e.1 := List.mem_map.mpr ⟨e0, he0, en0⟩
    refine ⟨_, .inl (.of ha), rfl, flat_ints _, ?_⟩
    refine ite2 (fun _ => ?_) (fun z => ?_)
    · obtain ⟨j, hj, _⟩ := idx_some hm
      obtain ⟨e1, e2⟩ := idx_get hj
      rw [List.getElem?_map] at e1
      obtain ⟨ej, hej, enj⟩ := Option.map_eq_some_iff.mp e1
      obtain ⟨q, hq, hrow⟩ := rw1.left hej
      have ee : ej = e0 := by
        rcases ok.two (List.mem_of_getElem? hej) he0 with z | z
        · exact z
        · unfold colB at z
          rw [decide_eq_true (enj.trans en0.symm)] at z
          cases z
      refine ⟨.inl ⟨rfl, _, .of ha⟩, ?_⟩
      refine ⟨_, _, _, j, rfl, rfl, ha, rfl, flat_ints _, ⟨.int n, by rw [List.getElem?_map, List.getElem?_map, hej, <- enj]; rfl, by simp [eqV]⟩, fun j' z hj' hz => ?_, ?_⟩
      · obtain ⟨m, hm, rfl⟩ := ints_at hz
        have : ¬ m = n := fun y => e2 j' hj' (by rw [<- y]; exact hm)
        simp [eqV, this]
      refine ⟨_, .ref q, .inl (.of hb), atI_nat (by rw [List.getElem?_map, hq]; rfl), ?_⟩
      refine ⟨_, .inl (.of hrow), fun q2 H1 g1 => ?_⟩
      have es' : splF (.tb f es) 0 n = (e0.2, 0) := by
        show (Option.map _ _).getD _ = _
        rw [ef0]; rfl
      rw [ee] at g1
      exact ⟨sz rfl, fun p2 H2 g2 => k p2 q2 H2 (g1.sm.trans g2.sm) (by rw [es']; exact g2.sm _ _ g1.at_) (by rw [es']; exact g2.at_)⟩
    · have z : ¬ inV (.int n) ((es.map fun e => e.1).map V.int) = true := z
      rw [inV_ints] at z
      exact absurd (decide_eq_true hm) z
  | sh ns ms =>
    obtain ⟨f, rfl⟩ := mt
    obtain ⟨ha, hb, okn, okm⟩ := ct
    have two : Two g := pg
    refine ⟨_, _, DataV.str _, DataV.str _, str_shaped ok_shift, str_shaped ok_lead, ?_⟩
    refine ite2 (fun z => absurd (show PyData.eqv (.str "shift") (.str "lead") = true from z) (by decide +kernel)) (fun _ => ?_)
    refine ⟨_, _, DataV.str _, DataV.str _, str_shaped ok_shift, str_shaped ok_high, ?_⟩
    refine ite2 (fun z => absurd (show PyData.eqv (.str "shift") (.str "high") = true from z) (by decide +kernel)) (fun _ => ?_)
    refine ⟨_, _, DataV.str _, DataV.str _, str_shaped ok_shift, str_shaped ok_low, ?_⟩
    refine ite2 (fun z => absurd (show PyData.eqv (.str "shift") (.str "low") = true from z) (by decide +kernel)) (fun _ => ?_)
    refine ⟨_, _, DataV.str _, DataV.str _, str_shaped ok_shift, str_shaped ok_table, ?_⟩
    refine ite2 (fun z => absurd (show PyData.eqv (.str "shift") (.str "table") = true from z) (by decide +kernel)) (fun _ => ?_)
    refine ⟨_, _, DataV.str _, DataV.str _, str_shaped ok_shift, str_shaped ok_shift, ?_⟩
    refine ite2 (fun _ => ?_) (fun z => absurd (show PyData.eqv (.str "shift") (.str "shift") = true by decide +kernel) z)
    have hP : H (sel g a b) = some (.lst ((sel g ns ms).map V.int)) := by
      rcases two with rfl | rfl
      · exact ha
      · exact hb
    have hO : H (sel g b a) = some (.lst ((sel g ms ns).map V.int)) := by
      rcases two with rfl | rfl
      · exact hb
      · exact ha
    have eP : atI [V.str (wrd (.sh ns ms)), .ref a, .ref b] (1 + g) = some (.ref (sel g a b)) := by rcases two with rfl | rfl <;> rfl
    have eO : atI [V.str (wrd (.sh ns ms)), .ref a, .ref b] (2 - g) = some (.ref (sel g b a)) := by rcases two with rfl | rfl <;> rfl
    have mem : n ∈ sel g ns ms \/ n ∈ sel g ms ns := by
      rcases two with rfl | rfl
      · exact hin
      · exact hin.symm
    refine ⟨_, _, .inr (.of hp), eP, ?_⟩
    refine ⟨_, .inl (.of hP), rfl, flat_ints _, ?_⟩
    refine ite2 (fun z => ?_) (fun z => ?_)
    · have z : inV (.int n) ((sel g ns ms).map V.int) = true := z
      rw [inV_ints] at z
      obtain ⟨j, hj, _⟩ := idx_some (of_decide_eq_true z)
      obtain ⟨e1, e2⟩ := idx_get hj
      refine ⟨_, _, .inr (.of hp), eP, ?_⟩
      refine ⟨.inl ⟨rfl, _, .of hP⟩, ?_⟩
      refine ⟨_, _, _, j, rfl, rfl, hP, rfl, flat_ints _, ⟨.int n, by rw [List.getElem?_map, e1]; rfl, by simp [eqV]⟩, fun j' z hj' hz => ?_, ?_⟩
      · obtain ⟨m, hm, rfl⟩ := ints_at hz
        have : ¬ m = n := fun y => e2 j' hj' (by rw [<- y]; exact hm)
        simp [eqV, this]
      have es' : splF (.sh f ns ms) g n = ([(j : Int)], g) := by
        show (spelF (sel g ns ms) (sel g ms ns) g (.int n)).getD _ = _
        unfold spelF; dsimp only; rw [hj]; rfl
      refine ⟨sz rfl, fun q H1 g1 => ?_⟩
      exact ⟨sz rfl, fun p2 H2 g2 => k p2 q H2 (g1.sm.trans g2.sm) (by rw [es']; exact g2.sm _ _ g1.at_) (by rw [es']; exact g2.at_)⟩
    · have z : ¬ inV (.int n) ((sel g ns ms).map V.int) = true := z
      rw [inV_ints] at z
      have z : n ∉ sel g ns ms := fun y => z (decide_eq_true y)
      have hmO := mem.resolve_left z
      refine ⟨_, _, DataV.str _, DataV.str _, str_shaped ok_shift, str_shaped ok_shift, ?_⟩
      refine ite2 (fun _ => ?_) (fun z => absurd (show PyData.eqv (.str "shift") (.str "shift") = true by decide +kernel) z)
      refine ⟨_, _, .inr (.of hp), eO, ?_⟩
      refine ⟨_, .inl (.of hO), rfl, flat_ints _, ?_⟩
      refine ite2 (fun _ => ?_) (fun y => ?_)
      · obtain ⟨j, hj, _⟩ := idx_some hmO
        obtain ⟨e1, e2⟩ := idx_get hj
        refine ⟨_, _, .inr (.of hp), eO, ?_⟩
        refine ⟨.inl ⟨rfl, _, .of hO⟩, ?_⟩
        refine ⟨_, _, _, j, rfl, rfl, hO, rfl, flat_ints _, ⟨.int n, by rw [List.getElem?_map, e1]; rfl, by simp [eqV]⟩, fun j' z hj' hz => ?_, ?_⟩
        · obtain ⟨m, hm, rfl⟩ := ints_at hz
          have : ¬ m = n := fun y => e2 j' hj' (by rw [<- y]; exact hm)
          simp [eqV, this]
        have es' : splF (.sh f ns ms) g n = ([254 + (1 - g), (j : Int)], 1 - g) := by
          show (spelF (sel g ns ms) (sel g ms ns) g (.int n)).getD _ = _
          unfold spelF; dsimp only; rw [idx_none.mpr z]; dsimp only; rw [hj]; rfl
        have e255 : (255 : Int) - g = 254 + (1 - g) := by omega
        refine ⟨sz rfl, fun q H1 g1 => ?_⟩
        dsimp only at g1
        rw [e255] at g1
        exact ⟨sz rfl, fun p2 H2 g2 => k p2 q H2 (g1.sm.trans g2.sm) (by rw [es']; exact g2.sm _ _ g1.at_) (by rw [es']; exact g2.at_)⟩
      · have y : ¬ inV (.int n) ((sel g ms ns).map V.int) = true := y
        rw [inV_ints] at y
        exact absurd (decide_eq_true hmO) y
theorem ok_wrd (M : Md) : PyData.strOk (wrd M) = true := by
  cases M with
  | ld => exact ok_lead
  | pr h => cases h with
    | true => exact ok_high
    | false => exact ok_low
  | sh ns ms => exact ok_shift
  | tb es => exact ok_table
  | br => exact ok_bare
theorem not_shift {M : Md} (h : ∀ ns ms, M ≠ .sh ns ms) : PyData.eqv (.str (wrd M)) (.str "shift") = false := by
  cases M with
  | ld => exact show PyData.eqv (.str "lead") (.str "shift") = false by decide +kernel
  | pr b => cases b with
    | true => exact show PyData.eqv (.str "high") (.str "shift") = false by decide +kernel
    | false => exact show PyData.eqv (.str "low") (.str "shift") = false by decide +kernel
  | sh ns ms => exact absurd rfl (h ns ms)
  | tb es => exact show PyData.eqv (.str "table") (.str "shift") = false by decide +kernel
  | br => exact show PyData.eqv (.str "bare") (.str "shift") = false by decide +kernel
def Ld3 : Md -> Bool
  | .ld => true
  | .pr _ => true
  | _ => false
theorem in_three (M : Md) : inV (.str (wrd M)) [.str "lead", .str "high", .str "low"] = Ld3 M := by
  cases M with
  | ld => exact show inV (.str "lead") [.str "lead", .str "high", .str "low"] = true by decide +kernel
  | pr h => cases h with
    | true => exact show inV (.str "high") [.str "lead", .str "high", .str "low"] = true by decide +kernel
    | false => exact show inV (.str "low") [.str "lead", .str "high", .str "low"] = true by decide +kernel
  | sh ns ms => exact show inV (.str "shift") [.str "lead", .str "high", .str "low"] = false by decide +kernel
  | tb es => exact show inV (.str "table") [.str "lead", .str "high", .str "low"] = false by decide +kernel
  | br => exact show inV (.str "bare") [.str "lead", .str "high", .str "low"] = false by decide +kernel
theorem in_other (M : Md) : inV (.str (wrd M)) [.str "shift", .str "table", .str "bare"] = !Ld3 M := by
  cases M with
  | ld => exact show inV (.str "lead") [.str "shift", .str "table", .str "bare"] = false by decide +kernel
  | pr h => cases h with
    | true => exact show inV (.str "high") [.str "shift", .str "table", .str "bare"] = false by decide +kernel
    | false => exact show inV (.str "low") [.str "shift", .str "table", .str "bare"] = false by decide +kernel
  | sh ns ms => exact show inV (.str "shift") [.str "shift", .str "table", .str "bare"] = true by decide +kernel
  | tb es => exact show inV (.str "table") [.str "shift", .str "table", .str "bare"] = true by decide +kernel
  | br => exact show inV (.str "bare") [.str "shift", .str "table", .str "bare"] = true by decide +kernel
theorem ld3_in {M : Md} (h : Ld3 M = true) {D : Kt} (m : Mt M D) {n : Int} (s : Sg n) : InT D n := by
  cases M with
  | ld => obtain rfl : D = .ld := m; exact s
  | pr b => obtain rfl : D = .pr b := m; exact s
  | _ => cases h
def LkT : Md -> Int -> Prop
  | .sh ns ms, n => n ∉ ns /\ n ∉ ms
  | .tb es, n => ∀ e ∈ es, e.1 ≠ n
  | _, _ => True
theorem lk_no {M : Md} {D : Kt} {n : Int} (h : Ld3 M = false) (m : Mt M D) (k : LkT M n) : NoT D n := by
  cases M with
  | ld => cases h
  | pr b => cases h
  | sh ns ms => obtain ⟨f, rfl⟩ := m; exact k
  | tb es => obtain ⟨f, rfl⟩ := m; exact k
  | br => obtain rfl : D = .br := m; exact k
theorem inV_refs (n : Int) (qs : List Addr) : inV (.int n) (qs.map V.ref) = false := by
  unfold inV
  rw [List.any_eq_false]
  intro x hx
  obtain ⟨q, _, rfl⟩ := List.mem_map.mp hx
  simp [eqV]
theorem Mod.two {H : Hp} {p : Addr} {M : Md} (h : Mod H p M) : ∃ a b xs ys zs, H p = some (.tup [.str (wrd M), .ref a, .ref b]) /\ H a = some (.lst (xs.map V.int)) /\ H b = some (.lst ys) /\ (∀ y ∈ ys, FlL H y) /\ (∀ n : Int, inV (.int n) ys = decide (n ∈ zs)) /\ xs.length <= 250 /\ zs.length <= 250 /\ (∀ n : Int, n ∉ xs -> n ∉ zs -> LkT M n) /\ (Ld3 M = false -> ∀ D, Mt M D -> ∀ n ∈ xs, InT D n) /\ (∀ ns ms, M = .sh ns ms -> xs = ns /\ zs = ms /\ ys = ms.map V.int) := by
  obtain ⟨a, b, hp, ct⟩ := h
  cases M with
  | ld => exact ⟨a, b, [], [], [], hp, ct.1, ct.2, (fun _ h => nomatch h), fun _ => rfl, by decide, by decide, fun _ _ _ => trivial, (fun h => nomatch h), (fun _ _ h => nomatch h)⟩
  | pr h => exact ⟨a, b, [], [], [], hp, ct.1, ct.2, (fun _ h => nomatch h), fun _ => rfl, by decide, by decide, fun _ _ _ => trivial, (fun h => nomatch h), (fun _ _ h => nomatch h)⟩
  | br => exact ⟨a, b, [], [], [], hp, ct.1, ct.2, (fun _ h => nomatch h), fun _ => rfl, by decide, by decide, fun _ _ _ => trivial, (fun _ _ _ _ h => nomatch h), (fun _ _ h => nomatch h)⟩
  | sh ns ms =>
    obtain ⟨ha, hb, okn, okm⟩ := ct
    refine ⟨a, b, ns, _, ms, hp, ha, hb, fun y hy => ?_, fun n => inV_ints n ms, okn.2.2, okm.2.2, fun n h1 h2 => ⟨h1, h2⟩, fun _ D mt n hn => ?_, fun ns' ms' e => ?_⟩
    · obtain ⟨m, _, rfl⟩ := List.mem_map.mp hy; exact .inl rfl
    · obtain ⟨f, rfl⟩ := mt; exact .inl hn
    · cases e; exact ⟨rfl, rfl, rfl⟩
  | tb es =>
    obtain ⟨ha, ⟨qs, hb, rw1⟩, ok⟩ := ct
    refine ⟨a, b, es.map fun e => e.1, _, [], hp, ha, hb, fun y hy => ?_, fun n => inV_refs n qs, by rw [List.length_map]; have := ok.l; omega, by decide, fun n h1 _ e he z => h1 (List.mem_map.mpr ⟨e, he, z⟩), fun _ D mt n hn => ?_, (fun _ _ h => nomatch h)⟩
    · obtain ⟨q, hq, rfl⟩ := List.mem_map.mp hy
      obtain ⟨j, hj⟩ := List.mem_iff_getElem?.mp hq
      obtain ⟨e, _, he⟩ := rw1.right hj
      exact .inr ⟨q, _, rfl, he⟩
    · obtain ⟨f, rfl⟩ := mt
      obtain ⟨e, he, en⟩ := List.mem_map.mp hn
      exact ⟨e, he, en⟩
def spTx (K : PySem.W.Frag) : Sp := fun vs H Q _ => ∃ (p c : Addr) (M : Md) (cs : List Int), vs = [.ref p, .ref c] /\ Mod H p M /\ SqL K H c (cs.map V.int) /\ cs.length <= 100 /\ ∀ q (ts : List Int) H', Same H H' -> H' q = some (.lst (ts.map V.int)) -> ts.length <= 100 -> (∀ D, Mt M D -> ∀ n ∈ ts, InT D n) -> Q (.ref q) H'
theorem h_z_text (T : Txt w K mg t) : Has P w K mg base "_law_text" 3 t.a_z_text t.f_z_text ["_law_model_here", "_law_cells"] (spTx K) := by
  refine ⟨T.g_z_text, T.F_z_text.kp, T.b_z_text, T.F_z_text.okQ sc_z_text (fun vs H Q E h => by obtain ⟨p, c, M, cs, rfl, _⟩ := h; rfl) fun cdv A outer s H vs Q E hr h => ?_⟩
  obtain ⟨p, c, M, cs, rfl, mod, hc, lc, k⟩ := h
  have hu := hr.units
  obtain ⟨a, b, xs, ys, zs, hp, ha, hb, fl, iy, lx, lz, lk, ld, sh⟩ := mod.two
  refine ⟨_, (q_pss_cons (q_ps_asg (q_vv 0) (q_pg_tupK (K := K) rfl rfl (q_pgs_cons (q_pg_name (i := 2) sc_z_text.nd rfl (by first | exact Or.inl rfl | exact Or.inr rfl)) (q_pgs_cons (q_pg_name (i := 3) sc_z_text.nd rfl (by first | exact Or.inl rfl | exact Or.inr rfl)) (q_pgs_cons (q_pg_name (i := 4) sc_z_text.nd rfl (by first | exact Or.inl rfl | exact Or.inr rfl)) q_pgs_nil)))))
      (q_pss_cons (q_ps_if (q_mt_cmp (g_inK (K := K) rfl) (q_vv 2) (q_me_tup (q_pa_const rfl)) (by with_unfolding_all rfl)) (q_pss_one (q_ps_ret (q_pe_comp rfl (CompScope.of (fns := (defScope s_z_text).names) (N := ["_law_model_here", "_law_cells", "_law_word", "_law_first", "_law_second", "_law_some"]) (Nc := ["_law_cell"]) (nv := 1) (caps := []) rfl rfl (by decide +kernel)) (q_pi_listK (K := K) rfl (q_vv 1)) (fun _ _ _ _ => (q_pg_name (i := 0) (show List.Nodup (["_law_cell"] : List Str) by decide +kernel) rfl (Or.inl rfl) (Or.inr rfl))) (fun _ _ _ _ => q_pts_nil) (fun _ _ _ _ => (q_cal (h_z_as_sign T) hr (q_pa_c (q_vv 0) q_pa_nil)))))) q_pss_nil)
      (q_pss_cons (q_ps_set (i := 5) sc_z_text.nd rfl (by first | exact Or.inl rfl | exact Or.inr rfl) (q_calTy (c_listK (K := K) rfl) T.n_list PyProof.Rows.boot_list (q_pa_c (q_vv 3) q_pa_nil)))
      (q_pss_cons (q_ps_if (q_mt_cmp (g_eqK (K := K) rfl hu) (q_vv 2) q_pe_str (nomark _)) (q_pss_one (q_ps_set (i := 5) sc_z_text.nd rfl (by first | exact Or.inl rfl | exact Or.inr rfl) (q_pe_op (g_addK (K := K) rfl) (q_vv 3) (q_pe_comp rfl (CompScope.of (fns := (defScope s_z_text).names) (N := ["_law_model_here", "_law_cells", "_law_word", "_law_first", "_law_second", "_law_some"]) (Nc := ["_law_sign", "_law_first"]) (nv := 1) (caps := [3]) rfl rfl (by decide +kernel)) (q_pi_listK (K := K) rfl (q_vv 4)) (fun _ _ _ _ => (q_pg_name (i := 0) (show List.Nodup (["_law_sign", "_law_first"] : List Str) by decide +kernel) rfl (Or.inl rfl) (Or.inr rfl))) (fun _ _ _ _ => (q_pts_one (q_mt_cmp (g_notinK (K := K) rfl) (q_vv 0) (q_vv 1) (by with_unfolding_all rfl)))) (fun _ _ _ _ => (q_vv 0)))))) q_pss_nil)
      (q_pss_cons (q_ps_if (q_mt_cmp (g_eqK (K := K) rfl hu) (q_vv 5) (q_me_lst q_pa_nil) (nomark _)) (q_pss_one (q_ps_ret (q_me_lst q_pa_nil))) q_pss_nil)
      (q_pss_one (q_ps_ret (q_pe_comp rfl (CompScope.of (fns := (defScope s_z_text).names) (N := ["_law_model_here", "_law_cells", "_law_word", "_law_first", "_law_second", "_law_some"]) (Nc := ["_law_cell", "_law_some"]) (nv := 1) (caps := [5]) rfl rfl (by decide +kernel)) (q_pi_listK (K := K) rfl (q_vv 1)) (fun _ _ _ _ => (q_pg_name (i := 0) (show List.Nodup (["_law_cell", "_law_some"] : List Str) by decide +kernel) rfl (Or.inl rfl) (Or.inr rfl))) (fun _ _ _ _ => q_pts_nil) (fun _ _ _ _ => (q_pe_ix (g_ixK (K := K) rfl) (q_vv 1) (q_pe_op g_mod (q_vv 0) (q_calB (c_lenK (K := K) rfl) T.n_len PySem.boot_len (q_pa_c (q_vv 1) q_pa_nil))) (fun _ _ => rfl))))))))))), ?_⟩
  refine ⟨p, _, rfl, .of hp, rfl, _, _, rfl, _, _, rfl, _, _, rfl, rfl, ?_⟩
  refine ⟨sz rfl, fun p1 H1 g1 => ?_⟩
  refine ⟨_, .inr g1.tup, rfl, rfl, ?_⟩
  have hc1 := g1.sm.seq hc
  refine ite2 (fun z => ?_) (fun z => ?_)
  · have z : inV (.str (wrd M)) [.str "lead", .str "high", .str "low"] = true := z
    rw [in_three] at z
    refine ⟨c, rfl, ⟨_, hc1⟩, comp_list (K := K) (a := c) (xs := cs.map V.int) (fun i ys H' => Same H1 H' /\ ∃ ts : List Int, ys = ts.map V.int /\ ts.length = i /\ ∀ n ∈ ts, Sg n) ⟨Same.refl _, [], rfl, rfl, (fun n h => nomatch h)⟩ (fun i ys H' _ z => ⟨z.1.seq hc1, by obtain ⟨_, ts, rfl, l, _⟩ := z; rw [List.length_map]; omega⟩) (szl (by rw [List.length_map]; omega)) (fun i x ys H' N hx y hN => ?_) fun ys H' q H'' y g => ?_⟩
    · obtain ⟨s', ts, rfl, l, hs⟩ := y
      obtain ⟨m, hm, rfl⟩ := ints_at hx
      simp only [tTrue, if_true]
      refine ⟨m, rfl, fun n H2 s2 hn => hN _ _ ⟨s'.trans s2, ts ++ [n], by rw [List.map_append]; rfl, by rw [List.length_append, l]; rfl, fun n' hn' => ?_⟩⟩
      rcases List.mem_append.mp hn' with y | y
      · exact hs n' y
      · rw [List.mem_singleton.mp y]; exact hn
    · obtain ⟨s', ts, rfl, l, hs⟩ := y
      rw [List.length_map] at l
      exact k q ts H'' (g1.sm.trans (s'.trans g.sm)) g.at_ (by omega) fun D m n hn => ld3_in z m (hs n hn)
  have z : ¬ inV (.str (wrd M)) [.str "lead", .str "high", .str "low"] = true := z
  rw [in_three, Bool.not_eq_true] at z
  refine ⟨_, .inl (.of (g1.sm _ _ ha)), fun p2 H2 g2 => ?_⟩
  have s2 := g1.sm.trans g2.sm
  dsimp only [gName]
  refine seq_nx (fun σ' H' => Same H H' /\ ∃ (ps : Addr) (ss : List Int), H' ps = some (.lst (ss.map V.int)) /\ ss.length <= 500 /\ (∀ D, Mt M D -> ∀ n ∈ ss, InT D n) /\ σ' = [some (.ref p), some (.ref c), some (.str (wrd M)), some (.ref a), some (.ref b), some (.ref ps)]) (fun nx hn => ?_) ?_
  · refine ⟨_, _, DataV.str _, DataV.str _, str_shaped (ok_wrd M), str_shaped ok_shift, ?_⟩
    refine ite2 (fun y => ?_) (fun y => ?_)
    · have y : PyData.eqv (.str (wrd M)) (.str "shift") = true := y
      obtain ⟨ns, ms, eM⟩ : ∃ ns ms, M = .sh ns ms := by
        cases M with
        | sh ns ms => exact ⟨ns, ms, rfl⟩
        | _ => rw [not_shift (fun _ _ h => by cases h)] at y; cases y
      obtain ⟨rfl, rfl, rfl⟩ := sh ns ms eM
      have hb2 : SqL K H2 b (zs.map V.int) := .of (s2 _ _ hb)
      refine ⟨b, rfl, ⟨_, hb2⟩, comp_list (K := K) (a := b) (xs := zs.map V.int) (fun i ys H' => Same H2 H' /\ ∃ ts : List Int, ys = ts.map V.int /\ ts.length <= i /\ ∀ n ∈ ts, n ∈ zs) ⟨Same.refl _, [], rfl, Nat.le_refl _, (fun n h => nomatch h)⟩ (fun i ys H' _ z => ⟨z.1.seq hb2, by obtain ⟨_, ts, rfl, l, _⟩ := z; rw [List.length_map]; omega⟩) (szl (by rw [List.length_map]; omega)) (fun i x ys H' N hx y hN => ?_) fun ys H' q H'' y g => ?_⟩
      · obtain ⟨s', ts, rfl, l, hs⟩ := y
        obtain ⟨m, hm, rfl⟩ := ints_at hx
        refine ⟨_, .inl (.of (s' _ _ (s2 _ _ ha))), rfl, flat_ints _, ?_⟩
        refine ite2 (fun _ => ?_) (fun _ => ?_)
        · refine hN _ _ ⟨s', ts ++ [m], by rw [List.map_append]; rfl, by rw [List.length_append]; show _ + 1 <= _; omega, fun n' hn' => ?_⟩
          rcases List.mem_append.mp hn' with y | y
          · exact hs n' y
          · rw [List.mem_singleton.mp y]; exact List.mem_of_getElem? hm
        · exact hN _ _ ⟨s', ts, rfl, by omega, hs⟩
      · obtain ⟨s', ts, rfl, l, hs⟩ := y
        rw [List.length_map] at l
        have s3 := s2.trans (s'.trans g.sm)
        refine ⟨_, _, .of (s3 _ _ ha), g.lst, szl (by rw [List.length_map, List.length_map]; omega), fun p4 H4 g4 => ?_⟩
        refine hn _ _ ⟨s3.trans g4.sm, p4, xs ++ ts, by rw [List.map_append]; exact g4.at_, by rw [List.length_append]; omega, fun D mt n hn => ?_, rfl⟩
        rw [eM] at mt
        obtain ⟨f, rfl⟩ := mt
        rcases List.mem_append.mp hn with y | y
        · exact .inl y
        · exact .inr (hs n y)
    · exact hn _ _ ⟨s2, p2, xs, g2.at_, by omega, ld z, rfl⟩
  · rintro σ' H3 ⟨s3, ps, ss, hps, lss, hss, rfl⟩
    refine ⟨sz rfl, fun p4 H4 g4 => ?_⟩
    have hps4 := g4.sm _ _ hps
    refine eq_ints (ns := ss) (ms := []) (.of hps4) g4.lst ?_
    refine ite2 (fun y => ?_) (fun y => ?_)
    · exact ⟨sz rfl, fun p5 H5 g5 => k p5 [] H5 (s3.trans (g4.sm.trans g5.sm)) g5.at_ (by decide) (fun _ _ _ h => nomatch h)⟩
    · have y : ¬ ss = [] := fun e => y (decide_eq_true e)
      have pos : 0 < ss.length := by cases ss with | nil => exact absurd rfl y | cons _ _ => exact Nat.succ_pos _
      have hc4 := (s3.trans g4.sm).seq hc
      refine ⟨c, rfl, ⟨_, hc4⟩, comp_list (K := K) (a := c) (xs := cs.map V.int) (fun i ys H' => Same H4 H' /\ ∃ ts : List Int, ys = ts.map V.int /\ ts.length = i /\ ∀ n ∈ ts, n ∈ ss) ⟨Same.refl _, [], rfl, rfl, (fun n h => nomatch h)⟩ (fun i ys H' _ z => ⟨z.1.seq hc4, by obtain ⟨_, ts, rfl, l, _⟩ := z; rw [List.length_map]; omega⟩) (szl (by rw [List.length_map]; omega)) (fun i x ys H' N hx y hN => ?_) fun ys H' q H'' y g => ?_⟩
      · obtain ⟨s', ts, rfl, l, hs⟩ := y
        obtain ⟨m, hm, rfl⟩ := ints_at hx
        simp only [tTrue, if_true]
        refine ⟨_, .inl (.of (s' _ _ hps4)), ?_⟩
        rw [List.length_map]
        refine ⟨by omega, ?_⟩
        obtain ⟨v, hv, e1, _⟩ := atI_in (xs := ss.map V.int) (i := m % (ss.length : Int)) (Int.emod_nonneg _ (by omega)) (by rw [List.length_map]; exact Int.emod_lt_of_pos _ (by omega))
        obtain ⟨n, hn, rfl⟩ := List.mem_map.mp hv
        refine ⟨_, _, .inl (.of (s' _ _ hps4)), e1, ?_⟩
        refine hN _ _ ⟨s', ts ++ [n], by rw [List.map_append]; rfl, by rw [List.length_append, l]; rfl, fun n' hn' => ?_⟩
        rcases List.mem_append.mp hn' with y | y
        · exact hs n' y
        · rw [List.mem_singleton.mp y]; exact hn
      · obtain ⟨s', ts, rfl, l, hs⟩ := y
        rw [List.length_map] at l
        exact k q ts H'' (s3.trans (g4.sm.trans (s'.trans g.sm))) g.at_ (by omega) fun D m n hn => hss D m n (hs n hn)
theorem pig : ∀ (m : Nat) (L : List Int), (∀ k : Nat, k < m -> (k : Int) ∈ L) -> m <= L.length
  | 0, _, _ => Nat.zero_le _
  | m + 1, L, h => by
    have hm := h m (by omega)
    have := pig m (L.erase (m : Int)) fun k hk => (List.mem_erase_of_ne (by omega)).mpr (h k (by omega))
    rw [List.length_erase_of_mem hm] at this
    have : 0 < L.length := List.length_pos_of_mem hm
    omega
theorem or_in' {b : Bool} {A B X : Prop} (hA : A) (hX : b = false -> A -> X) : if b = true then (if true = true then A else B) else X := by
  cases b with
  | true => rw [if_pos rfl, if_pos rfl]; exact hA
  | false => rw [if_neg Bool.false_ne_true]; exact hX rfl hA
def spLk : Sp := fun vs H Q _ => ∃ (p : Addr) (c : Int) (M : Md), vs = [.ref p, .int c] /\ Mod H p M /\ ∀ n H', Same H H' -> LkT M n -> Q (.int n) H'
theorem h_z_lacking (T : Txt w K mg t) : Has P w K mg base "_law_lacking" 3 t.a_z_lacking t.f_z_lacking ["_law_model_here", "_law_cell"] spLk := by
  refine ⟨T.g_z_lacking, T.F_z_lacking.kp, T.b_z_lacking, T.F_z_lacking.okQ sc_z_lacking (fun vs H Q E h => by obtain ⟨p, c, M, rfl, _⟩ := h; rfl) fun cdv A outer s H vs Q E hr h => ?_⟩
  obtain ⟨p, c, M, rfl, mod, k⟩ := h
  have hu := hr.units
  refine ⟨_, (q_pss_cons (q_ps_set (i := 2) sc_z_lacking.nd rfl (by first | exact Or.inl rfl | exact Or.inr rfl) (q_cal (h_z_as_sign T) hr (q_pa_c (q_vv 1) q_pa_nil)))
      (q_pss_cons (q_ps_if (q_PW_pt (q_pw_or (q_mt_cmp (g_inBK (K := K) rfl hu) (q_vv 2) (q_pe_ix (g_ixK (K := K) rfl) (q_vv 0) q_pe_int (fun _ _ => rfl)) (by with_unfolding_all rfl)) (q_pw_or1 (q_mt_cmp (g_inBK (K := K) rfl hu) (q_vv 2) (q_pe_ix (g_ixK (K := K) rfl) (q_vv 0) q_pe_int (fun _ _ => rfl)) (by with_unfolding_all rfl))))) (q_pss_one (q_ps_set (i := 2) sc_z_lacking.nd rfl (by first | exact Or.inl rfl | exact Or.inr rfl) (q_pe_ix (g_ixK (K := K) rfl) (q_pe_comp rfl (CompScope.of (fns := (defScope s_z_lacking).names) (N := ["_law_model_here", "_law_cell", "_law_thing"]) (Nc := ["_law_sign", "_law_model_here"]) (nv := 1) (caps := [0]) rfl rfl (by decide +kernel)) (q_pi_range1 rfl T.n_range (q_pa_c q_pe_int q_pa_nil)) (fun _ _ _ _ => (q_pg_name (i := 0) (show List.Nodup (["_law_sign", "_law_model_here"] : List Str) by decide +kernel) rfl (Or.inl rfl) (Or.inr rfl))) (fun _ _ _ _ => (q_pts_one (q_PW_pt (q_pw_and (q_mt_cmp (g_notinBK (K := K) rfl hu) (q_vv 0) (q_pe_ix (g_ixK (K := K) rfl) (q_vv 1) q_pe_int (fun _ _ => rfl)) (by with_unfolding_all rfl)) (q_pw_and1 (q_mt_cmp (g_notinBK (K := K) rfl hu) (q_vv 0) (q_pe_ix (g_ixK (K := K) rfl) (q_vv 1) q_pe_int (fun _ _ => rfl)) (by with_unfolding_all rfl))))))) (fun _ _ _ _ => (q_vv 0))) q_pe_int (fun _ _ => rfl)))) q_pss_nil)
      (q_pss_one (q_ps_ret (q_vv 2))))), ?_⟩
  refine ⟨c, rfl, fun m H1 s1 _ => ?_⟩
  obtain ⟨a, b, xs, ys, zs, hp, ha, hb, fl, iy, lx, lz, lk, ld, sh⟩ := (mod.mono s1).two
  have fx : ∀ y ∈ xs.map V.int, FlL H1 y := fun y hy => by obtain ⟨n, _, rfl⟩ := List.mem_map.mp hy; exact .inl rfl
  dsimp only [gName]
  refine seq_nx (fun σ' H' => Same H H' /\ ∃ n, LkT M n /\ σ' = [some (.ref p), some (.int c), some (.int n)]) (fun nx hn => ?_) ?_
  · refine ⟨_, .ref a, .inr (.of hp), atI_nat (j := 1) rfl, ?_⟩
    refine ⟨_, m, .inl (.of ha), rfl, fx, ?_⟩
    refine or_in' ?_ fun z1 hA => ?_
    · refine ⟨600, rfl, by decide, by decide, ?_⟩
      refine comp_range (lo := 0) (n := 600) (cs := [some (.ref p)]) (fun i ys H' => H' = H1 /\ ∃ ts : List Int, ys = ts.map V.int /\ ts.length <= i /\ (∀ n ∈ ts, n ∉ xs /\ n ∉ zs) /\ ∀ k : Nat, k < i -> (k : Int) ∉ xs -> (k : Int) ∉ zs -> ts ≠ []) ⟨rfl, [], rfl, Nat.le_refl _, (fun n h => nomatch h), fun k hk => by omega⟩ (fun i ys H' _ z => by obtain ⟨_, ts, rfl, l, _⟩ := z; rw [List.length_map]; omega) (sz rfl) (fun i ys H' N hi z hN => ?_) fun ys H' q H'' z g => ?_
      · obtain ⟨rfl, ts, rfl, l, hs, ne⟩ := z
        refine ⟨_, .ref a, .inr (.of hp), atI_nat (j := 1) rfl, ?_⟩
        refine ⟨_, 0 + (i : Int), .inl (.of ha), rfl, fx, ?_⟩
        refine ite2 (fun z => ?_) (fun z => ?_)
        · have z : (!inV (.int (0 + (i : Int))) (xs.map V.int)) = true := z
          rw [inV_ints] at z
          have z : (0 + (i : Int)) ∉ xs := fun y => by rw [decide_eq_true y] at z; cases z
          refine ⟨_, .ref b, .inr (.of hp), atI_nat (j := 2) rfl, ?_⟩
          refine ⟨_, 0 + (i : Int), .inl (.of hb), rfl, fl, ?_⟩
          refine ite2 (fun z' => ?_) (fun z' => ?_)
          · have z' : (!inV (.int (0 + (i : Int))) ys) = true := z'
            rw [iy] at z'
            have z' : (0 + (i : Int)) ∉ zs := fun y => by rw [decide_eq_true y] at z'; cases z'
            refine hN _ _ ⟨rfl, ts ++ [0 + (i : Int)], by rw [List.map_append]; rfl, by rw [List.length_append]; show _ + 1 <= _; omega, fun n' hn' => ?_, fun k _ _ _ e => by simp at e⟩
            rcases List.mem_append.mp hn' with y | y
            · exact hs n' y
            · rw [List.mem_singleton.mp y]; exact ⟨z, z'⟩
          · have z' : ¬ (!inV (.int (0 + (i : Int))) ys) = true := z'
            rw [iy] at z'
            have z' : (0 + (i : Int)) ∈ zs := Decidable.byContradiction fun y => z' (by rw [decide_eq_false y]; rfl)
            rw [Int.zero_add] at z'
            refine hN _ _ ⟨rfl, ts, rfl, by omega, hs, fun k hk h1 h2 => ?_⟩
            rcases Nat.lt_or_ge k i with y | y
            · exact ne k y h1 h2
            · have : k = i := by omega
              rw [this] at h2
              exact absurd z' h2
        · have z : ¬ (!inV (.int (0 + (i : Int))) (xs.map V.int)) = true := z
          rw [inV_ints] at z
          have z : (0 + (i : Int)) ∈ xs := Decidable.byContradiction fun y => z (by rw [decide_eq_false y]; rfl)
          rw [Int.zero_add] at z
          refine iteF ?_
          refine hN _ _ ⟨rfl, ts, rfl, by omega, hs, fun k hk h1 h2 => ?_⟩
          rcases Nat.lt_or_ge k i with y | y
          · exact ne k y h1 h2
          · have : k = i := by omega
            rw [this] at h1
            exact absurd z h1
      · obtain ⟨rfl, ts, rfl, l, hs, ne⟩ := z
        cases ts with
        | nil =>
          exfalso
          have := pig 600 (xs ++ zs) fun k hk => Decidable.byContradiction fun y => ne k hk (fun z => y (List.mem_append.mpr (.inl z))) (fun z => y (List.mem_append.mpr (.inr z))) rfl
          rw [List.length_append] at this
          omega
        | cons n ts =>
          have := hs n (List.mem_cons_self ..)
          refine ⟨_, .int n, .inl g.lst, atI_nat (j := 0) rfl, ?_⟩
          exact hn _ _ ⟨s1.trans g.sm, n, lk n this.1 this.2, rfl⟩
    · refine ⟨_, .ref b, .inr (.of hp), atI_nat (j := 2) rfl, ?_⟩
      refine ⟨_, m, .inl (.of hb), rfl, fl, ?_⟩
      refine ite2 (fun _ => hA) (fun z2 => ?_)
      have z1 : inV (.int m) (xs.map V.int) = false := z1
      rw [inV_ints] at z1
      have z2 : ¬ inV (.int m) ys = true := z2
      rw [iy] at z2
      exact hn _ _ ⟨s1, m, lk m (fun y => by rw [decide_eq_true y] at z1; cases z1) (fun y => z2 (decide_eq_true y)), rfl⟩
  · rintro σ' H3 ⟨s3, n, hl, rfl⟩
    exact k n H3 s3 hl
def PcA (H : Hp) (p : Addr) (ts : List Int) (L : List (Addr × List Int)) : Prop := H p = some (.lst (L.map fun x => V.ref x.1)) /\ ∀ x ∈ L, x.1 ≠ p /\ H x.1 = some (.lst (x.2.map V.int)) /\ (∀ n ∈ x.2, n ∈ ts) /\ x.2.length <= 100
theorem PcA.mono {H H' : Hp} {p : Addr} {ts : List Int} {L : List (Addr × List Int)} (h : PcA H p ts L) (s : Same H H') : PcA H' p ts L := ⟨s _ _ h.1, fun x hx => ⟨(h.2 x hx).1, s _ _ (h.2 x hx).2.1, (h.2 x hx).2.2⟩⟩
theorem PcA.more {H H1 : Hp} {p q : Addr} {ts xs : List Int} {L : List (Addr × List Int)} (h : PcA H p ts L) (g : Gro H q (.lst (xs.map V.int)) H1) (hx : ∀ n ∈ xs, n ∈ ts) (l : xs.length <= 100) : PcA (upd H1 p (.lst ((L.map fun x => V.ref x.1) ++ [.ref q]))) p ts (L ++ [(q, xs)]) := by
  have nq : q ≠ p := (ne_of_none h.1 g.nw).symm
  refine ⟨by rw [upd_same, List.map_append]; rfl, fun x hx' => ?_⟩
  rcases List.mem_append.mp hx' with z | z
  · obtain ⟨n, e, r⟩ := h.2 x z
    exact ⟨n, by rw [upd_ne n]; exact g.sm _ _ e, r⟩
  · rw [List.mem_singleton.mp z]
    exact ⟨nq, by rw [upd_ne nq]; exact g.at_, hx, l⟩
theorem fr_snoc {H : Hp} {L : List (Addr × List Int)} {q : Addr} {xs : List Int} (h : ∀ x ∈ L, H x.1 = none) (n : H q = none) : ∀ x ∈ L ++ [(q, xs)], H x.1 = none := fun x hx => by
  rcases List.mem_append.mp hx with z | z
  · exact h x z
  · rw [List.mem_singleton.mp z]; exact n
def spPc (K : PySem.W.Frag) : Sp := fun vs H Q _ => ∃ (a : Addr) (c : Int) (ts : List Int), vs = [.ref a, .int c] /\ SqL K H a (ts.map V.int) /\ ts.length <= 100 /\ ∀ p (L : List (Addr × List Int)) H', Same H H' -> PcA H' p ts L -> (∀ x ∈ L, H x.1 = none) -> L.length <= 200 -> Q (.ref p) H'
theorem h_z_pieces (T : Txt w K mg t) : Has P w K mg base "_law_pieces" 2 t.a_z_pieces t.f_z_pieces ["_law_row", "_law_cell"] (spPc K) := by
  refine ⟨T.g_z_pieces, T.F_z_pieces.kp, T.b_z_pieces, T.F_z_pieces.okQ sc_z_pieces (fun vs H Q E h => by obtain ⟨a, c, ts, rfl, _⟩ := h; rfl) fun cdv A outer s H vs Q E hr h => ?_⟩
  obtain ⟨a, c, ts, rfl, ha, lt, k⟩ := h
  have hu := hr.units
  refine ⟨_, (q_pss_cons (q_ps_set (i := 2) sc_z_pieces.nd rfl (by first | exact Or.inl rfl | exact Or.inr rfl) (q_me_lst q_pa_nil))
      (q_pss_cons (q_ps_set (i := 3) sc_z_pieces.nd rfl (by first | exact Or.inl rfl | exact Or.inr rfl) q_pe_int)
      (q_pss_cons (q_ps_set (i := 4) sc_z_pieces.nd rfl (by first | exact Or.inl rfl | exact Or.inr rfl) (q_vv 1))
      (q_pss_cons (q_ps_while PassesOwn.never (q_mt_cmp g_lt (q_vv 3) (q_calB (c_lenK (K := K) rfl) T.n_len PySem.boot_len (q_pa_c (q_vv 0) q_pa_nil)) (nomark _)) (q_pss_cons (q_ps_set (i := 4) sc_z_pieces.nd rfl (by first | exact Or.inl rfl | exact Or.inr rfl) (q_cal (h_z_mixed T) hr (q_pa_c (q_vv 4) (q_pa_c (q_vv 3) q_pa_nil))))
      (q_pss_cons (q_ps_set (i := 5) sc_z_pieces.nd rfl (by first | exact Or.inl rfl | exact Or.inr rfl) (q_pe_ix (g_ixK (K := K) rfl) (q_me_lst (q_pa_c (q_calB (c_lenK (K := K) rfl) T.n_len PySem.boot_len (q_pa_c (q_vv 0) q_pa_nil)) (q_pa_c q_pe_int (q_pa_c (q_pe_op (g_addK (K := K) rfl) q_pe_int (q_me_md (q_me_fd (q_vv 4)))) (q_pa_c (q_pe_op (g_addK (K := K) rfl) q_pe_int (q_me_md (q_me_fd (q_vv 4)))) q_pa_nil))))) (q_me_md (q_vv 1)) (fun _ _ => rfl)))
      (q_pss_cons (q_ps_if (q_mt_cmp (g_eqK (K := K) rfl hu) (q_me_md (q_vv 4)) q_pe_int (nomark _)) (q_pss_one (q_ps_expr (q_pe_bmK (K := K) rfl PySem.F.plainAttrs_list PySem.F.slot_list_append PySem.F.type_list_append mg_append (q_vv 2) (q_pa_c (q_me_lst q_pa_nil) q_pa_nil)))) q_pss_nil)
      (q_pss_cons (q_ps_expr (q_pe_bmK (K := K) rfl PySem.F.plainAttrs_list PySem.F.slot_list_append PySem.F.type_list_append mg_append (q_vv 2) (q_pa_c (q_pe_slice (g_slK (K := K) rfl) (q_vv 0) (q_po_some (q_vv 3)) (q_po_some (q_pe_op (g_addK (K := K) rfl) (q_vv 3) (q_vv 5)))) q_pa_nil)))
      (q_pss_one (q_ps_set (i := 3) sc_z_pieces.nd rfl (by first | exact Or.inl rfl | exact Or.inr rfl) (q_pe_op (g_addK (K := K) rfl) (q_vv 3) (q_vv 5)))))))))
      (q_pss_one (q_ps_ret (q_vv 2))))))), ?_⟩
  refine ⟨sz rfl, fun p H1 g1 => ?_⟩
  refine ⟨fun m σ H' => Same H H' /\ ∃ (n at_ : Nat) (num : Int) (L : List (Addr × List Int)) (v5 : Option V), PcA H' p ts L /\ (∀ x ∈ L, H x.1 = none) /\ L.length <= 2 * n /\ n <= at_ /\ n <= ts.length /\ m = ts.length - at_ /\ σ = [some (.ref a), some (.int c), some (.ref p), some (.int (at_ : Int)), some (.int num), v5], ⟨_, g1.sm, 0, 0, c, [], _, ⟨g1.at_, (fun _ h => nomatch h)⟩, (fun _ h => nomatch h), Nat.le_refl _, Nat.le_refl _, Nat.zero_le _, rfl, rfl⟩, ?_⟩
  rintro m σ H2 ⟨s2, n, at_, num, L, v5, hP, fr, l1, l2, l3, rfl, rfl⟩
  have ha2 := s2.seq ha
  refine ⟨_, .inl ha2, ?_⟩
  refine ite2 (fun z => ?_) (fun z => ?_)
  · have z : (at_ : Int) < ((ts.map V.int).length : Int) := of_decide_eq_true z
    rw [List.length_map] at z
    refine ⟨fun σ' H' => Same H H' /\ ∃ (n at' : Nat) (num : Int) (L : List (Addr × List Int)) (v5 : Option V), at_ < at' /\ PcA H' p ts L /\ (∀ x ∈ L, H x.1 = none) /\ L.length <= 2 * n /\ n <= at' /\ n <= ts.length /\ σ' = [some (.ref a), some (.int c), some (.ref p), some (.int (at' : Int)), some (.int num), v5], ?_, ?_⟩
    · rintro σ' H' ⟨s', n', at', num', L', v5', lt', hP', fr', a1, a2, a3, rfl⟩
      exact ⟨ts.length - at', by omega, s', n', at', num', L', v5', hP', fr', a1, a2, a3, rfl, rfl⟩
    refine ⟨_, _, rfl, by omega, by omega, fun num' n0 n1 => ?_⟩
    refine ⟨_, .inl ha2, ?_⟩
    refine ⟨sz rfl, fun p3 H3 g3 => ?_⟩
    obtain ⟨k', e, k1, k2⟩ : ∃ k' : Nat, atI [V.int ((ts.map V.int).length : Int), .int 1, .int (1 + num' / 7 % 3), .int (1 + num' / 7 % 9)] (c % 4) = some (.int (k' : Int)) /\ 1 <= k' /\ k' <= 100 := by
      rcases (show c % 4 = 0 \/ c % 4 = 1 \/ c % 4 = 2 \/ c % 4 = 3 by omega) with e | e | e | e <;> rw [e]
      · exact ⟨ts.length, by rw [List.length_map]; rfl, by omega, by omega⟩
      · exact ⟨1, rfl, by omega, by omega⟩
      · refine ⟨(1 + num' / 7 % 3).toNat, ?_, by omega, by omega⟩
        rw [Int.toNat_of_nonneg (by omega)]; rfl
      · refine ⟨(1 + num' / 7 % 9).toNat, ?_, by omega, by omega⟩
        rw [Int.toNat_of_nonneg (by omega)]; rfl
    refine ⟨_, _, .inl g3.lst, e, ?_⟩
    have hP3 := hP.mono g3.sm
    have s3 := s2.trans g3.sm
    dsimp only [gName]
    refine seq_nx (fun σ' H' => Same H H' /\ ∃ L' : List (Addr × List Int), PcA H' p ts L' /\ (∀ x ∈ L', H x.1 = none) /\ L'.length <= L.length + 1 /\ σ' = [some (.ref a), some (.int c), some (.ref p), some (.int (at_ : Int)), some (.int num'), some (.int (k' : Int))]) (fun nx hn => ?_) ?_
    · refine ite2 (fun _ => ?_) (fun _ => ?_)
      · refine ⟨.inl ⟨rfl, _, .of hP3.1⟩, ?_⟩
        refine ⟨sz rfl, fun p4 H4 g4 => ?_⟩
        refine ⟨_, g4.sm _ _ hP3.1, szlt (by rw [List.length_map]; omega), ?_⟩
        exact hn _ _ ⟨(s3.trans g4.sm).put g1.nw, L ++ [(p4, [])], hP3.more (xs := []) g4 (fun _ h => nomatch h) (by decide), fr_snoc fr (s3.free g4.nw), by rw [List.length_append]; exact Nat.le_refl _, rfl⟩
      · exact hn _ _ ⟨s3, L, hP3, fr, by omega, rfl⟩
    · rintro σ' H5 ⟨s5, L', hP5, fr5, l5, rfl⟩
      refine ⟨.inl ⟨rfl, _, .of hP5.1⟩, ?_⟩
      refine ⟨_, rfl, _, rfl, _, s5.seq ha, fun q H6 g6 => ?_⟩
      have e6 : cutV (ts.map V.int) (some (at_ : Int)) (some ((at_ : Int) + (k' : Int))) = ((ts.drop at_).take k').map V.int := by
        rw [cutV_ints]
        exact congrArg _ (cutL_mid ts at_ k')
      rw [e6] at g6
      refine ⟨_, g6.sm _ _ hP5.1, szlt (by rw [List.length_map]; omega), ?_⟩
      refine ⟨(s5.trans g6.sm).put g1.nw, n + 1, at_ + k', num', L' ++ [(q, (ts.drop at_).take k')], some (.int (k' : Int)), by omega, hP5.more g6 (fun n hn => List.mem_of_mem_drop (List.mem_of_mem_take hn)) (by rw [List.length_take, List.length_drop]; omega), fr_snoc fr5 (s5.free g6.nw), by rw [List.length_append]; show _ + 1 <= _; omega, by omega, by omega, ?_⟩
      rw [Int.natCast_add]
      rfl
  · exact k p L H2 s2 hP fr (by omega)
structure Bad (K : PySem.W.Frag) (t : Adr) (H : Hp) (x o a : Addr) (D : Kt) (ns : List Int) (g : Int) (i : Nat) (n : Int) : Prop where
  wr : Wr t H x o g
  tn : TN t H o D
  pg : PgK D g
  sq : SqL K H a (ns.map V.int)
  l : ns.length <= 1000
  at_ : ns[i]? = some n
  hin : ∀ j m, j < i -> ns[j]? = some m -> InT D m
  no : NoT D n
def spRf (K : PySem.W.Frag) (t : Adr) : Sp := fun vs H Q _ => ∃ (x o a : Addr) (D : Kt) (ns : List Int) (g : Int) (i : Nat) (n : Int), vs = [.ref x, .ref a] /\ Bad K t H x o a D ns g i n /\ ∀ H', Same H H' -> Q (.bl true) H'
theorem h_z_refused (T : Txt w K mg t) : Has P w K mg base "_law_refused" 7 t.a_z_refused t.f_z_refused ["_law_writer", "_law_piece"] (spRf K t) := by
  refine ⟨T.g_z_refused, T.F_z_refused.kp, T.b_z_refused, T.F_z_refused.okQ sc_z_refused (fun vs H Q E h => by obtain ⟨x, o, a, D, ns, g, i, n, rfl, _⟩ := h; rfl) fun cdv A outer s H vs Q E hr h => ?_⟩
  obtain ⟨x, o, a, D, ns, g, i, n, rfl, B, k⟩ := h
  have hu := hr.units
  refine ⟨_, (q_pss_cons (q_ps_set (i := 2) sc_z_refused.nd rfl (by first | exact Or.inl rfl | exact Or.inr rfl) (q_me_lst q_pa_nil))
      (q_pss_cons (q_ps_set (i := 3) sc_z_refused.nd rfl (by first | exact Or.inl rfl | exact Or.inr rfl) (q_calTy (c_listK (K := K) rfl) T.n_list PyProof.Rows.boot_list (q_pa_c (q_vv 1) q_pa_nil)))
      (q_pss_cons (q_tryK (K := K) (j := 4) rfl ⟨rfl, rfl⟩ sc_z_refused.nd rfl rfl T.ge_TongueError (fun pn W Eb L => (q_pss_one (q_ps_expr (q_methX (hx_Writer_feed_0 T) hr L (q_vv 0) (q_pa_c (q_vv 3) q_pa_nil))))) (fun e => (q_pss_cons (q_ps_set (i := 2) sc_z_refused.nd rfl (by first | exact Or.inl rfl | exact Or.inr rfl) (q_me_lst (q_pa_c (q_calB (c_inYK (K := K) rfl) T.n_isinstance PyProof.Rows.boot_isinstance (q_pa_c (q_vv 4) (q_pa_c (q_pe_glob (v := .ref t.e_NoSign) rfl T.ge_NoSign rfl) q_pa_nil))) (q_pa_c (q_calB (c_inYK (K := K) rfl) T.n_isinstance PyProof.Rows.boot_isinstance (q_pa_c (q_vv 4) (q_pa_c (q_bty rfl T.n_ValueError (show bootBuiltins "ValueError" = some (.type "ValueError") by decide +kernel)) q_pa_nil))) q_pa_nil))))
      (q_pss_one (q_ps_expr (q_pe_bmK (K := K) rfl PySem.F.plainAttrs_list PySem.F.slot_list_append PySem.F.type_list_append mg_append (q_vv 2) (q_pa_c (q_calB (c_inTK (K := K) rfl) T.n_isinstance PyProof.Rows.boot_isinstance (q_pa_c (q_vv 4) (q_pa_c (q_me_tup (q_pa_c (q_pe_glob (v := .ref t.e_BadLetters) rfl T.ge_BadLetters rfl) (q_pa_c (q_pe_glob (v := .ref t.e_BadPage) rfl T.ge_BadPage rfl) (q_pa_c (q_pe_glob (v := .ref t.e_BadTable) rfl T.ge_BadTable rfl) (q_pa_c (q_pe_glob (v := .ref t.e_Faulty) rfl T.ge_Faulty rfl) (q_pa_c (q_pe_glob (v := .ref t.e_NoOrder) rfl T.ge_NoOrder rfl) (q_pa_c (q_pe_glob (v := .ref t.e_TooGreat) rfl T.ge_TooGreat rfl) q_pa_nil))))))) q_pa_nil))) q_pa_nil)))))))
      (q_pss_one (q_ps_ret (q_me_and (q_pe_cmpR (g_eqK (K := K) rfl hu) (q_vv 2) (q_me_lst (q_pa_const rfl)) (nomark _)) (q_pe_one (q_pe_cmpR (g_eqK (K := K) rfl hu) (q_vv 3) (q_vv 1) (nomark _))))))))), ?_⟩
  refine ⟨sz rfl, fun p1 H1 g1 => ?_⟩
  refine ⟨_, .inl (g1.sm.seq B.sq), fun p2 H2 g2 => ?_⟩
  have s2 := g1.sm.trans g2.sm
  have wr2 := B.wr.mono s2
  obtain ⟨dx, hx2⟩ := id wr2
  refine ⟨fun σ' c oe H' => σ' = [some (.ref x), some (.ref a), some (.ref p1), some (.ref p2), none] /\ c = .ref t.e_NoSign /\ Same H2 H' /\ ∃ e d0, oe = some e /\ H' e = some (XO e t.e_NoSign (some d0) true) /\ H' d0 = some (.xd [("sign", .int n), ("at", .int (i : Int))]), ?_, ?_⟩
  · exact ⟨x, dx, _, rfl, hx2, rfl, x, o, p2, D, ns, g, i, n, rfl, wr2, B.tn.mono s2, B.pg, g2.lst, B.l, B.at_, B.hin, B.no, fun e d0 H' s' x1 y1 => ⟨rfl, rfl, s', e, d0, rfl, x1, y1⟩⟩
  · rintro σ' C e od qq H3 ⟨rfl, hC, s3, e', d0, he, hx, hd⟩ _
    cases hC; cases he
    refine ⟨T.xm_NoSign_TongueError, ?_⟩
    refine ⟨_, _, .exd (.inr ⟨_, hx⟩) hd T.xc_NoSign, T.xk_NoSign_NoSign, ?_⟩
    refine ⟨_, _, .exd (.inr ⟨_, hx⟩) hd T.xc_NoSign, T.xk_NoSign_ValueError, ?_⟩
    refine ⟨sz rfl, fun p4 H4 g4 => ?_⟩
    refine ⟨.inl ⟨rfl, _, .of g4.at_⟩, ?_⟩
    refine ⟨sz rfl, fun p5 H5 g5 => ?_⟩
    have hx5 := g5.sm _ _ (g4.sm _ _ hx)
    have hd5 := g5.sm _ _ (g4.sm _ _ hd)
    have f5 := g5.sm _ _ g4.at_
    refine ⟨e, t.e_NoSign, d0, _, p5, [t.e_BadLetters, t.e_BadPage, t.e_BadTable, t.e_Faulty, t.e_NoOrder, t.e_TooGreat], false, rfl, .inr ⟨_, hx5⟩, hd5, T.xc_NoSign, g5.at_, T.xt_NoSign, ?_⟩
    refine ⟨_, f5, szlt (Nat.le_of_ble_eq_true rfl), ?_⟩
    obtain ⟨H6, e6⟩ : ∃ H6, H6 = upd H5 p4 (.lst ([V.bl true, V.bl true] ++ [V.bl false])) := ⟨_, rfl⟩
    have f6 : H6 p4 = some (.lst [V.bl true, V.bl true, V.bl false]) := by rw [e6]; exact upd_same
    have s6 : Same H3 H6 := by rw [e6]; exact (g4.sm.trans g5.sm).put g4.nw
    rw [<- e6]
    clear e6
    refine ⟨sz rfl, fun p7 H7 g7 => ?_⟩
    have s7 := s3.trans (s6.trans g7.sm)
    refine ⟨_, _, DataV.lst (.of (g7.sm _ _ f6)) (.cons (.bl true) (.cons (.bl true) (.cons (.bl false) .nil))), DataV.lst g7.lst (.cons (.bl true) (.cons (.bl true) (.cons (.bl false) .nil))), by decide +kernel, by decide +kernel, ?_⟩
    refine ite2 (fun _ => ?_) (fun z => absurd (show PyData.eqv (.list [.bool true, .bool true, .bool false]) (.list [.bool true, .bool true, .bool false]) = true by decide +kernel) z)
    refine eq_ints (ns := ns) (ms := ns) (.of (s7 _ _ g2.at_)) (s7.seq (s2.seq B.sq)) ?_
    show Q (.bl (decide (ns = ns))) _
    rw [decide_eq_true rfl]
    exact k _ (s2.trans s7)
def spAt (K : PySem.W.Frag) (t : Adr) : Sp := fun vs H Q _ => ∃ (x o a : Addr) (D : Kt) (ns : List Int) (g : Int) (i : Nat) (n : Int), vs = [.ref x, .ref a] /\ Bad K t H x o a D ns g i n /\ ∀ p H', Same H H' -> H' p = some (.tup [.int n, .int (i : Int)]) -> Q (.ref p) H'
theorem h_z_at (T : Txt w K mg t) : Has P w K mg base "_law_at" 7 t.a_z_at t.f_z_at ["_law_writer", "_law_piece"] (spAt K t) := by
  refine ⟨T.g_z_at, T.F_z_at.kp, T.b_z_at, T.F_z_at.okQ sc_z_at (fun vs H Q E h => by obtain ⟨x, o, a, D, ns, g, i, n, rfl, _⟩ := h; rfl) fun cdv A outer s H vs Q E hr h => ?_⟩
  obtain ⟨x, o, a, D, ns, g, i, n, rfl, B, k⟩ := h
  have hu := hr.units
  refine ⟨_, (q_pss_cons (q_ps_set (i := 2) sc_z_at.nd rfl (by first | exact Or.inl rfl | exact Or.inr rfl) (q_me_tup (q_pa_c q_pe_non (q_pa_c q_pe_non q_pa_nil))))
      (q_pss_cons (q_tryK (K := K) (j := 3) rfl ⟨rfl, rfl⟩ sc_z_at.nd rfl rfl T.ge_NoSign (fun pn W Eb L => (q_pss_one (q_ps_expr (q_methX (hx_Writer_feed_0 T) hr L (q_vv 0) (q_pa_c (q_calTy (c_listK (K := K) rfl) T.n_list PyProof.Rows.boot_list (q_pa_c (q_vv 1) q_pa_nil)) q_pa_nil))))) (fun e => (q_pss_one (q_ps_set (i := 2) sc_z_at.nd rfl (by first | exact Or.inl rfl | exact Or.inr rfl) (q_me_tup (q_pa_c (q_xfld (K := K) rfl (q_vv 3)) (q_pa_c (q_xfld (K := K) rfl (q_vv 3)) q_pa_nil)))))))
      (q_pss_one (q_ps_ret (q_vv 2))))), ?_⟩
  refine ⟨sz rfl, fun p1 H1 g1 => ?_⟩
  have wr1 := B.wr.mono g1.sm
  obtain ⟨dx, hx1⟩ := id wr1
  refine ⟨fun σ' c oe H' => σ' = [some (.ref x), some (.ref a), some (.ref p1), none] /\ c = .ref t.e_NoSign /\ Same H1 H' /\ ∃ e d0, oe = some e /\ H' e = some (XO e t.e_NoSign (some d0) true) /\ H' d0 = some (.xd [("sign", .int n), ("at", .int (i : Int))]), ?_, ?_⟩
  · refine ⟨x, dx, _, rfl, hx1, rfl, ?_⟩
    refine ⟨_, .inl (g1.sm.seq B.sq), fun p2 H2 g2 => ?_⟩
    exact ⟨x, o, p2, D, ns, g, i, n, rfl, wr1.mono g2.sm, (B.tn.mono g1.sm).mono g2.sm, B.pg, g2.lst, B.l, B.at_, B.hin, B.no, fun e d0 H' s' x1 y1 => ⟨rfl, rfl, g2.sm.trans s', e, d0, rfl, x1, y1⟩⟩
  · rintro σ' C e od qq H3 ⟨rfl, hC, s3, e', d0, he, hx, hd⟩ _
    cases hC; cases he
    refine ⟨T.xm_NoSign_NoSign, ?_⟩
    refine ⟨e, _, d0, _, _, rfl, .inr ⟨_, hx⟩, hd, T.xc_NoSign, T.en_NoSign_sign, rfl, ?_⟩
    refine ⟨e, _, d0, _, _, rfl, .inr ⟨_, hx⟩, hd, T.xc_NoSign, T.en_NoSign_at, rfl, ?_⟩
    exact ⟨sz rfl, fun p4 H4 g4 => k p4 H4 (g1.sm.trans (s3.trans g4.sm)) g4.at_⟩
theorem ins_at {ts : List Int} {j : Nat} {n : Int} (h : j <= ts.length) (tl : List Int) : (ts.take j ++ [n] ++ tl)[j]? = some n := by
  have l : (ts.take j).length = j := by rw [List.length_take]; omega
  rw [List.append_assoc, List.getElem?_append_right (by omega), l, Nat.sub_self]
  rfl
theorem ins_lt {ts : List Int} {j : Nat} {n : Int} (h : j <= ts.length) (tl : List Int) {D : Kt} (hin : ∀ m ∈ ts, InT D m) : ∀ i m, i < j -> (ts.take j ++ [n] ++ tl)[i]? = some m -> InT D m := by
  intro i m hi e
  have l : (ts.take j).length = j := by rw [List.length_take]; omega
  rw [List.append_assoc, List.getElem?_append_left (by omega)] at e
  exact hin m (List.mem_of_mem_take (List.mem_of_getElem? e))
def spTr (K : PySem.W.Frag) (t : Adr) : Sp := fun vs H Q _ => ∃ (x o a : Addr) (D : Kt) (ts : List Int) (g n c : Int), vs = [.ref x, .ref a, .int n, .int c, .int g] /\ Wr t H x o g /\ TN t H o D /\ PgK D g /\ SqL K H a (ts.map V.int) /\ ts.length <= 100 /\ (∀ m ∈ ts, InT D m) /\ NoT D n /\ ∀ H', Same H H' -> Q (.bl true) H'
theorem h_z_tried (T : Txt w K mg t) : Has P w K mg base "_law_tried" 8 t.a_z_tried t.f_z_tried ["_law_writer", "_law_piece", "_law_thing", "_law_cell", "_law_page"] (spTr K t) := by
  refine ⟨T.g_z_tried, T.F_z_tried.kp, T.b_z_tried, T.F_z_tried.okQ sc_z_tried (fun vs H Q E h => by obtain ⟨x, o, a, D, ts, g, n, c, rfl, _⟩ := h; rfl) fun cdv A outer s H vs Q E hr h => ?_⟩
  obtain ⟨x, o, a, D, ts, g, n, c, rfl, wr, tn, pg, ha, lt, hin, no, k⟩ := h
  have hu := hr.units
  refine ⟨_, (q_pss_cons (q_ps_set (i := 5) sc_z_tried.nd rfl (by first | exact Or.inl rfl | exact Or.inr rfl) (q_pe_op g_mod (q_vv 3) (q_pe_op (g_addK (K := K) rfl) (q_calB (c_lenK (K := K) rfl) T.n_len PySem.boot_len (q_pa_c (q_vv 1) q_pa_nil)) q_pe_int)))
      (q_pss_cons (q_ps_set (i := 6) sc_z_tried.nd rfl (by first | exact Or.inl rfl | exact Or.inr rfl) (q_pe_op (g_addK (K := K) rfl) (q_pe_op (g_addK (K := K) rfl) (q_pe_slice (g_slK (K := K) rfl) (q_vv 1) q_po_none (q_po_some (q_vv 5))) (q_me_lst (q_pa_c (q_vv 2) q_pa_nil))) (q_pe_slice (g_slK (K := K) rfl) (q_vv 1) (q_po_some (q_vv 5)) q_po_none)))
      (q_pss_cons (q_ps_if (q_PW_pt (q_pw_or (q_pt_not (q_mt_val (q_cal (h_z_refused T) hr (q_pa_c (q_vv 0) (q_pa_c (q_vv 6) q_pa_nil))))) (q_pw_or1 (q_mt_cmp (g_neK (K := K) rfl hu) (q_meth0 (h_Writer_page T) hr (q_vv 0)) (q_vv 4) (nomark _))))) (q_pss_one (q_ps_ret q_pe_bl)) q_pss_nil)
      (q_pss_cons (q_ps_set (i := 7) sc_z_tried.nd rfl (by first | exact Or.inl rfl | exact Or.inr rfl) (q_cal (h_z_at T) hr (q_pa_c (q_vv 0) (q_pa_c (q_pe_op (g_addK (K := K) rfl) (q_vv 6) (q_me_lst (q_pa_c (q_vv 2) q_pa_nil))) q_pa_nil))))
      (q_pss_one (q_ps_ret (q_me_and (q_pe_cmpR (g_eqK (K := K) rfl hu) (q_vv 7) (q_me_tup (q_pa_c (q_vv 2) (q_pa_c (q_vv 5) q_pa_nil))) (nomark _)) (q_me_and (q_cal (h_z_is_number T) hr (q_pa_c (q_pe_ix (g_ixK (K := K) rfl) (q_vv 7) q_pe_int (fun _ _ => rfl)) q_pa_nil)) (q_pe_one (q_pe_cmpR (g_eqK (K := K) rfl hu) (q_meth0 (h_Writer_page T) hr (q_vv 0)) (q_vv 4) (nomark _))))))))))), ?_⟩
  refine ⟨_, .inl ha, ?_⟩
  rw [List.length_map]
  refine ⟨by omega, ?_⟩
  obtain ⟨j, ej, hj⟩ : ∃ j : Nat, c % ((ts.length : Int) + 1) = (j : Int) /\ j <= ts.length := by
    have h0 := Int.emod_nonneg c (show (ts.length : Int) + 1 ≠ 0 by omega)
    have h1 := Int.emod_lt_of_pos c (show 0 < (ts.length : Int) + 1 by omega)
    exact ⟨(c % ((ts.length : Int) + 1)).toNat, by omega, by omega⟩
  dsimp only
  rw [ej]
  refine ⟨_, rfl, _, ha, fun p1 H1 g1 => ?_⟩
  have e1 : cutV (ts.map V.int) none (some (j : Int)) = (ts.take j).map V.int := by
    rw [cutV_ints]; exact congrArg _ (cutL_to ts j)
  rw [e1] at g1
  refine ⟨sz rfl, fun p2 H2 g2 => ?_⟩
  have lt1 : (ts.take j).length <= 100 := by rw [List.length_take]; omega
  refine ⟨_, _, .of (g2.sm _ _ g1.at_), g2.lst, szl (by rw [List.length_map]; show _ + 1 <= _; omega), fun p3 H3 g3 => ?_⟩
  have s3 := g1.sm.trans (g2.sm.trans g3.sm)
  refine ⟨_, rfl, _, s3.seq ha, fun p4 H4 g4 => ?_⟩
  have e4 : cutV (ts.map V.int) (some (j : Int)) none = (ts.drop j).map V.int := by
    rw [cutV_ints]; exact congrArg _ (cutL_from ts j)
  rw [e4] at g4
  have lt4 : (ts.drop j).length <= 100 := by rw [List.length_drop]; omega
  refine ⟨_, _, .of (g4.sm _ _ g3.at_), g4.lst, szl (by rw [List.length_append, List.length_map, List.length_map]; show _ + 1 + _ <= _; omega), fun p5 H5 g5 => ?_⟩
  have s5 := s3.trans (g4.sm.trans g5.sm)
  have hB : H5 p5 = some (.lst ((ts.take j ++ [n] ++ ts.drop j).map V.int)) := by
    rw [List.map_append, List.map_append]; exact g5.at_
  have lB : (ts.take j ++ [n] ++ ts.drop j).length <= 300 := by
    rw [List.length_append, List.length_append]; show _ + 1 + _ <= _; omega
  have wr5 := wr.mono s5
  have tn5 := tn.mono s5
  refine ⟨x, o, p5, D, _, g, j, n, rfl, ⟨wr5, tn5, pg, .of hB, by omega, ins_at hj _, ins_lt hj _ hin, no⟩, fun H6 s6 => ?_⟩
  refine iteF ?_
  have wr6 := wr5.mono s6
  obtain ⟨dx, hx6⟩ := id wr6
  refine ⟨x, dx, _, rfl, hx6, rfl, x, o, g, rfl, wr6, ?_⟩
  refine ite2 (fun z => absurd z (by simp)) (fun _ => ?_)
  refine ⟨sz rfl, fun p7 H7 g7 => ?_⟩
  refine ⟨_, _, .of (g7.sm _ _ (s6 _ _ hB)), g7.lst, szl (by rw [List.length_map]; show _ + 1 <= _; omega), fun p8 H8 g8 => ?_⟩
  have s8 := s6.trans (g7.sm.trans g8.sm)
  have hB8 : H8 p8 = some (.lst ((ts.take j ++ [n] ++ (ts.drop j ++ [n])).map V.int)) := by
    rw [<- List.append_assoc, List.map_append]; exact g8.at_
  refine ⟨x, o, p8, D, _, g, j, n, rfl, ⟨wr5.mono s8, tn5.mono s8, pg, .of hB8, by rw [<- List.append_assoc, List.length_append]; show _ + 1 <= _; omega, ins_at hj _, ins_lt hj _ hin, no⟩, fun pt H9 s9 ht => ?_⟩
  refine ⟨sz rfl, fun p10 H10 g10 => ?_⟩
  have ht10 := g10.sm _ _ ht
  refine ⟨_, _, DataV.tup (.of ht10) (.cons (.int n) (.cons (.int (j : Int)) .nil)), DataV.tup g10.tup (.cons (.int n) (.cons (.int (j : Int)) .nil)), rfl, rfl, ?_⟩
  refine ite2 (fun _ => ?_) (fun z => absurd (show PyData.eqv (.tuple [.int n, .int (j : Int)]) (.tuple [.int n, .int (j : Int)]) = true by simp [PyData.eqv, PyData.eqvAll]) z)
  refine ⟨_, .int (j : Int), .inr (.of ht10), atI_nat (j := 1) rfl, ?_⟩
  refine ⟨_, rfl, ?_⟩
  refine iteT ?_
  have s10 := s8.trans (s9.trans g10.sm)
  have wr10 := wr5.mono s10
  obtain ⟨dx', hx10⟩ := id wr10
  refine ⟨x, dx', _, rfl, hx10, rfl, x, o, g, rfl, wr10, ?_⟩
  show Q (.bl (decide (g = g))) _
  rw [decide_eq_true rfl]
  exact k _ (s5.trans s10)
def Kp2 (x y : Addr) (H H' : Hp) : Prop := ∀ b u, b ≠ x -> b ≠ y -> H b = some u -> H' b = some u
def Tld (H : Hp) (tl : Addr) (L : List Addr) : Prop := H tl = some (.lst (L.map V.ref)) /\ ∀ q ∈ L, ∃ (a b : Addr) (ns : List Int), H q = some (.tup [.ref a, .ref b]) /\ a ≠ tl /\ b ≠ tl /\ H a = some (.lst (ns.map V.int)) /\ H b = some (.lst (ns.map V.int))
def spFd (K : PySem.W.Frag) (t : Adr) : Sp := fun vs H Q _ => ∃ (x o p a tl : Addr) (M : Md) (D : Kt) (ts : List Int) (g : Int) (L : List Addr), vs = [.ref x, .ref p, .ref a, .int g, .ref tl] /\ Wr t H x o g /\ TN t H o D /\ PgK D g /\ Mod H p M /\ Mt M D /\ H a = some (.lst (ts.map V.int)) /\ a ≠ tl /\ ts.length <= 100 /\ (∀ m ∈ ts, InT D m) /\ Tld H tl L /\ L.length <= 1000 /\
  ∀ q H', Kp2 x tl H H' -> Wr t H' x o (wrF D g ts).2 -> Tld H' tl (L ++ [q]) -> PgK D (wrF D g ts).2 -> Q (.int (wrF D g ts).2) H'
theorem h_z_fed (T : Txt w K mg t) : Has P w K mg base "_law_fed" 7 t.a_z_fed t.f_z_fed ["_law_writer", "_law_model_here", "_law_piece", "_law_page", "_law_told"] (spFd K t) := by
  refine ⟨T.g_z_fed, T.F_z_fed.kp, T.b_z_fed, T.F_z_fed.okQ sc_z_fed (fun vs H Q E h => by obtain ⟨x, o, p, a, tl, M, D, ts, g, L, rfl, _⟩ := h; rfl) fun cdv A outer s H vs Q E hr h => ?_⟩
  obtain ⟨x, o, p, a, tl, M, D, ts, g0, L, rfl, wr, tn, pg0, mod, mt, ha, natl, lt, hin, td, lL, k⟩ := h
  have hu := hr.units
  refine ⟨_, (q_pss_cons (q_ps_set (i := 5) sc_z_fed.nd rfl (by first | exact Or.inl rfl | exact Or.inr rfl) (q_me_lst q_pa_nil))
      (q_pss_cons (q_ps_for PassesOwn.never rfl (q_pi_listK (K := K) rfl (q_vv 2)) (q_pg_name (i := 6) sc_z_fed.nd rfl (by first | exact Or.inl rfl | exact Or.inr rfl)) (q_pss_cons (q_ps_asg (q_cal (h_z_spell T) hr (q_pa_c (q_vv 1) (q_pa_c (q_vv 6) (q_pa_c (q_vv 3) q_pa_nil)))) (q_pg_tupK (K := K) rfl rfl (q_pgs_cons (q_pg_name (i := 7) sc_z_fed.nd rfl (by first | exact Or.inl rfl | exact Or.inr rfl)) (q_pgs_cons (q_pg_name (i := 3) sc_z_fed.nd rfl (by first | exact Or.inl rfl | exact Or.inr rfl)) q_pgs_nil))))
      (q_pss_one (q_ps_set (i := 5) sc_z_fed.nd rfl (by first | exact Or.inl rfl | exact Or.inr rfl) (q_pe_op (g_addK (K := K) rfl) (q_vv 5) (q_vv 7))))))
      (q_pss_cons (q_ps_set (i := 8) sc_z_fed.nd rfl (by first | exact Or.inl rfl | exact Or.inr rfl) (q_calTy (c_listK (K := K) rfl) T.n_list PyProof.Rows.boot_list (q_pa_c (q_vv 2) q_pa_nil)))
      (q_pss_cons (q_ps_set (i := 9) sc_z_fed.nd rfl (by first | exact Or.inl rfl | exact Or.inr rfl) (q_meth (h_Writer_feed T) hr (q_vv 0) (q_pa_c (q_vv 8) q_pa_nil)))
      (q_pss_cons (q_ps_if (q_PW_pt (q_pw_or (q_pt_not (q_mt_val (q_calB (c_instK (K := K) rfl) T.n_isinstance PyProof.Rows.boot_isinstance (q_pa_c (q_vv 9) (q_pa_c (q_bty rfl T.n_list PyProof.Rows.boot_list) q_pa_nil))))) (q_pw_or (q_pt_not (q_mt_val (q_calB (c_allK (K := K) rfl rfl) T.n_all PyProof.Rows.boot_all (q_pa_c (q_pe_comp rfl (CompScope.of (fns := (defScope s_z_fed).names) (N := ["_law_writer", "_law_model_here", "_law_piece", "_law_page", "_law_told", "_law_row", "_law_sign", "_law_part", "_law_handed", "_law_found"]) (Nc := ["_law_byte"]) (nv := 1) (caps := []) rfl rfl (by decide +kernel)) (q_pi_listK (K := K) rfl (q_vv 9)) (fun _ _ _ _ => (q_pg_name (i := 0) (show List.Nodup (["_law_byte"] : List Str) by decide +kernel) rfl (Or.inl rfl) (Or.inr rfl))) (fun _ _ _ _ => q_pts_nil) (fun _ _ _ _ => (q_cal (h_z_is_number T) hr (q_pa_c (q_vv 0) q_pa_nil)))) q_pa_nil)))) (q_pw_or1 (q_mt_cmp (g_neK (K := K) rfl hu) (q_vv 9) (q_vv 5) (nomark _)))))) (q_pss_one (q_ps_ret q_pe_non)) q_pss_nil)
      (q_pss_cons (q_ps_expr (q_pe_bmK (K := K) rfl PySem.F.plainAttrs_list PySem.F.slot_list_append PySem.F.type_list_append mg_append (q_vv 9) (q_pa_c q_pe_int q_pa_nil)))
      (q_pss_cons (q_ps_expr (q_pe_bmK (K := K) rfl PySem.F.plainAttrs_list PySem.F.slot_list_append PySem.F.type_list_append mg_append (q_vv 4) (q_pa_c (q_me_tup (q_pa_c (q_vv 9) (q_pa_c (q_calTy (c_listK (K := K) rfl) T.n_list PyProof.Rows.boot_list (q_pa_c (q_vv 9) q_pa_nil)) q_pa_nil))) q_pa_nil)))
      (q_pss_cons (q_ps_if (q_PW_pt (q_pw_or (q_mt_cmp (g_neK (K := K) rfl hu) (q_vv 8) (q_vv 2) (nomark _)) (q_pw_or (q_pt_not (q_mt_val (q_cal (h_z_is_number T) hr (q_pa_c (q_meth0 (h_Writer_page T) hr (q_vv 0)) q_pa_nil)))) (q_pw_or1 (q_mt_cmp (g_neK (K := K) rfl hu) (q_meth0 (h_Writer_page T) hr (q_vv 0)) (q_vv 3) (nomark _)))))) (q_pss_one (q_ps_ret q_pe_non)) q_pss_nil)
      (q_pss_one (q_ps_ret (q_vv 3))))))))))), ?_⟩
  refine ⟨sz rfl, fun p1 H1 g1 => ?_⟩
  refine ⟨a, rfl, ⟨_, .of (g1.sm _ _ ha)⟩, for_list (K := K) (a := a) (xs := ts.map V.int) (fun i σ H' => Same H H' /\ ∃ (pr : Addr) (v6 v7 : Option V), H' pr = some (.lst ((wrF D g0 (ts.take i)).1.map V.int)) /\ σ = [some (.ref x), some (.ref p), some (.ref a), some (.int (wrF D g0 (ts.take i)).2), some (.ref tl), some (.ref pr), v6, v7, none, none]) ⟨g1.sm, p1, _, _, g1.at_, rfl⟩ (fun i σ H' _ z => z.1.seq (.of ha)) ?_ ?_⟩
  · rintro i v σ H2 hv ⟨s2, pr, v6, v7, h2, rfl⟩
    obtain ⟨n, hn, rfl⟩ := ints_at hv
    have hsn := hin n (List.mem_of_getElem? hn)
    have hi : i < ts.length := (List.getElem?_eq_some_iff.mp hn).1
    obtain ⟨pgi, li⟩ := wr_ok tn pg0 i ts (all_at hin i)
    obtain ⟨r, g', eO, ef, _, sl⟩ := spl_in tn pgi hsn
    have e : wrF D g0 (ts.take (i + 1)) = ((wrF D g0 (ts.take i)).1 ++ r, g') := by rw [take_snoc hn, wr_snoc, ef]
    refine ⟨p, M, D, n, _, rfl, mod.mono s2, mt, hsn, pgi, fun pt q H3 s3 hq hp => ?_⟩
    rw [ef] at hq hp
    refine ⟨pt, _, rfl, .of hp, rfl, _, _, rfl, _, _, rfl, rfl, ?_⟩
    refine ⟨_, _, .of (s3 _ _ h2), .of hq, szl (by rw [List.length_map, List.length_map]; dsimp only; omega), fun p5 H5 g5 => ?_⟩
    refine ⟨s2.trans (s3.trans g5.sm), p5, _, _, ?_, by rw [e]; rfl⟩
    rw [e, List.map_append]
    exact g5.at_
  rintro σ H2 ⟨s2, pr, v6, v7, h2, rfl⟩
  rw [List.length_map, List.take_length] at h2
  rw [List.length_map, List.take_length]
  obtain ⟨pg', lr⟩ := wr_ok tn pg0 ts.length ts (all_at hin _)
  rw [List.take_length] at pg' lr
  obtain ⟨r, er⟩ : ∃ r, r = (wrF D g0 ts).1 := ⟨_, rfl⟩
  obtain ⟨g', eg⟩ : ∃ g', g' = (wrF D g0 ts).2 := ⟨_, rfl⟩
  rw [<- er] at h2 lr
  rw [<- eg] at pg' k
  refine ⟨_, .inl (.of (s2 _ _ ha)), fun p8 H8 g8 => ?_⟩
  have s8 := s2.trans g8.sm
  have wr8 := wr.mono s8
  obtain ⟨dx, hx8⟩ := id wr8
  refine ⟨x, dx, _, rfl, hx8, rfl, x, o, p8, D, ts, g0, rfl, wr8, tn.mono s8, pg0, g8.lst, by omega, hin, fun q H9 nq k9 wr9 tn9 hq => ?_⟩
  rw [<- er] at hq
  rw [<- eg] at wr9
  have hpr9 : H9 pr = some (.lst (r.map V.int)) := k9 _ _ (ne_kind (g8.sm _ _ h2) hx8 (by intro z; cases z)) (g8.sm _ _ h2)
  refine ⟨_, _, .lst hq, by with_unfolding_all rfl, ?_⟩
  refine iteF ?_
  refine ⟨q, rfl, ⟨_, .of hq⟩, comp_to ((r.map fun _ => true).map V.bl) (by simp) (.of hq) (szl (by rw [List.length_map]; omega)) (fun i x y H4 N hx hy s4 hN => ?_) fun p10 H10 g10 => ?_⟩
  · obtain ⟨o, ho, rfl⟩ := ints_at hx
    rw [List.getElem?_map, List.getElem?_map, ho] at hy
    cases hy
    exact ⟨_, rfl, hN _ (Same.refl _)⟩
  refine ⟨_, g10.lst, ?_⟩
  refine ite2 (fun z => absurd z (by simp)) (fun _ => ?_)
  have hq10 := g10.sm _ _ hq
  refine ⟨_, _, DataV.lst (.of hq10) (DataVs.ints r), DataV.lst (.of (g10.sm _ _ hpr9)) (DataVs.ints r), PySem.W.ke_shaped_ints r, PySem.W.ke_shaped_ints r, ?_⟩
  refine ite2 (fun z => absurd (show (!PyData.eqv (.list (r.map PyData.int)) (.list (r.map PyData.int))) = true from z) (by rw [eqv_ints]; simp)) (fun _ => ?_)
  refine ⟨.inl ⟨rfl, _, .of hq10⟩, ?_⟩
  refine ⟨_, hq10, szlt (by rw [List.length_map]; omega), ?_⟩
  obtain ⟨H11, e11⟩ : ∃ H11, H11 = upd H10 q (.lst (r.map V.int ++ [.int 300])) := ⟨_, rfl⟩
  rw [<- e11]
  have hq11 : H11 q = some (.lst ((r ++ [300]).map V.int)) := by rw [e11, upd_same, List.map_append]; rfl
  have st11 : ∀ b u, b ≠ x -> H8 b = some u -> H11 b = some u := fun b u n e => by
    rw [e11, upd_ne (ne_of_none e nq)]
    exact g10.sm _ _ (k9 _ _ n e)
  obtain ⟨dx9, hx9⟩ := id wr9
  have nxq : x ≠ q := (ne_kind hq hx9 (by intro z; cases z)).symm
  have hx11 : H11 x = some (.ins t.c_Writer dx9 [("tongue", .ref o), ("at_page", .int g')]) := by
    rw [e11, upd_ne nxq]; exact g10.sm _ _ hx9
  have htl8 := s8 _ _ td.1
  have nxt : tl ≠ x := ne_kind htl8 hx8 (by intro z; cases z)
  have htl11 := st11 _ _ nxt htl8
  have nqt : q ≠ tl := (ne_of_none htl8 nq).symm
  refine ⟨.inl ⟨rfl, _, .of htl11⟩, ?_⟩
  refine ⟨_, .inl (.of hq11), fun p12 H12 g12 => ?_⟩
  refine ⟨sz rfl, fun p13 H13 g13 => ?_⟩
  have s13 := g12.sm.trans g13.sm
  refine ⟨_, s13 _ _ htl11, szlt (by rw [List.length_map]; omega), ?_⟩
  have n12 : p12 ≠ tl := (ne_of_none htl11 g12.nw).symm
  have n13 : p13 ≠ tl := (ne_of_none (g12.sm _ _ htl11) g13.nw).symm
  obtain ⟨H14, e14⟩ : ∃ H14, H14 = upd H13 tl (.lst (L.map V.ref ++ [.ref p13])) := ⟨_, rfl⟩
  rw [<- e14]
  have st14 : ∀ b u, b ≠ tl -> H13 b = some u -> H14 b = some u := fun b u n e => by rw [e14, upd_ne n]; exact e
  have st : ∀ b u, b ≠ x -> b ≠ tl -> H8 b = some u -> H14 b = some u := fun b u n n' e => st14 _ _ n' (s13 _ _ (st11 _ _ n e))
  have hx14 := st14 _ _ nxt.symm (s13 _ _ hx11)
  have wr14 : Wr t H14 x o g' := ⟨dx9, hx14⟩
  have td14 : Tld H14 tl (L ++ [p13]) := by
    refine ⟨by rw [e14, upd_same, List.map_append]; rfl, fun y hy => ?_⟩
    rcases List.mem_append.mp hy with z | z
    · obtain ⟨a', b', ns, h1, n1, n2, h3, h4⟩ := td.2 y z
      have h1 := s8 _ _ h1
      have h3 := s8 _ _ h3
      have h4 := s8 _ _ h4
      exact ⟨a', b', ns, st _ _ (ne_kind h1 hx8 (by intro z; cases z)) (ne_kind h1 htl8 (by intro z; cases z)) h1, n1, n2, st _ _ (ne_kind h3 hx8 (by intro z; cases z)) n1 h3, st _ _ (ne_kind h4 hx8 (by intro z; cases z)) n2 h4⟩
    · rw [List.mem_singleton.mp z]
      exact ⟨q, p12, r ++ [300], st14 _ _ n13 g13.at_, nqt, n12, st14 _ _ nqt (s13 _ _ hq11), st14 _ _ n12 (g13.sm _ _ g12.at_)⟩
  have n8 : p8 ≠ tl := (ne_of_none (s2 _ _ td.1) g8.nw).symm
  have h814 : H14 p8 = some (.lst (ts.map V.int)) := st _ _ (ne_kind g8.at_ hx8 (by intro z; cases z)) n8 g8.at_
  have ha8 := s8 _ _ ha
  have ha14 : H14 a = some (.lst (ts.map V.int)) := st _ _ (ne_kind ha8 hx8 (by intro z; cases z)) natl ha8
  refine ⟨_, _, DataV.lst (.of h814) (DataVs.ints ts), DataV.lst (.of ha14) (DataVs.ints ts), PySem.W.ke_shaped_ints ts, PySem.W.ke_shaped_ints ts, ?_⟩
  refine ite2 (fun z => absurd (show (!PyData.eqv (.list (ts.map PyData.int)) (.list (ts.map PyData.int))) = true from z) (by rw [eqv_ints]; simp)) (fun _ => ?_)
  refine ⟨x, dx9, _, rfl, hx14, rfl, x, o, g', rfl, wr14, ?_⟩
  refine ⟨_, rfl, ?_⟩
  refine iteF ?_
  refine ⟨x, dx9, _, rfl, hx14, rfl, x, o, g', rfl, wr14, ?_⟩
  refine ite2 (fun z => absurd z (by rw [eg]; simp)) (fun _ => ?_)
  rw [<- eg]
  exact k p13 H14 (fun b u n n' e => st b u n n' (s8 _ _ e)) wr14 td14 pg'
theorem comp_pairs {K : PySem.W.Frag} {a : Addr} {xs : List V} {cs : St} {tt : TT} {te : TE} {H : Hp} {Q : VK} (Pv : Nat -> List V -> Hp -> Prop) (h0 : Pv 0 [] H) (hl : ∀ i ys H, i <= xs.length -> Pv i ys H -> SqL K H a xs /\ ys.length <= i) (hz : xs.length <= sizeLine)
    (hs : ∀ i x ys H, xs[i]? = some x -> Pv i ys H -> ∃ pp v u, x = .ref pp /\ SqT K H pp [v, u] /\ ∀ (N : List V -> Hp -> Prop), (∀ ys' H', Pv (i + 1) ys' H' -> N ys' H') -> tt (some v :: some u :: cs) H fun b H4 => if b = true then te (some v :: some u :: cs) H4 fun y H5 => N (ys ++ [y]) H5 else N ys H4)
    (hd : ∀ ys H p H', Pv xs.length ys H -> Gro H p (.lst ys) H' -> Q (.ref p) H') :
    CompW (Itl K a) H (List.replicate 2 none ++ cs) (gTup K 2 (gCons (gName 0) (gCons (gName 1) gNil))) tt te Q := by
  refine ⟨fun i m ys σ H => m = xs.length - i /\ i <= xs.length /\ Pv i ys H /\ ∃ v0 v1, σ = v0 :: v1 :: cs, ⟨xs.length, by simp, Nat.zero_le _, h0, none, none, rfl⟩, ?_⟩
  rintro i m ys σ H2 ⟨rfl, hi, p, v0, v1, rfl⟩
  obtain ⟨q, ql⟩ := hl i ys H2 hi p
  by_cases hlt : i < xs.length
  · refine .inr ⟨⟨xs, xs[i], q, by simp [hlt]⟩, by omega, fun ys' σ' H' => Pv (i + 1) ys' H' /\ ∃ v0 v1, σ' = v0 :: v1 :: cs, fun ys' σ' H' ⟨p', e⟩ => ⟨xs.length - (i + 1), by omega, rfl, hlt, p', e⟩, fun x H' y => ?_⟩
    obtain ⟨rfl, y⟩ := y
    obtain ⟨pp, v, u, rfl, sq, hh⟩ := hs i x ys _ (y xs q) p
    refine ⟨pp, _, rfl, sq, rfl, _, _, rfl, _, _, rfl, rfl, ?_⟩
    exact hh (fun ys' H' => Pv (i + 1) ys' H' /\ ∃ v0 v1, some v :: some u :: cs = v0 :: v1 :: cs) fun _ _ z => ⟨z, _, _, rfl⟩
  · have e : i = xs.length := by omega
    subst e
    exact .inl ⟨⟨xs, q, Nat.le_refl _⟩, by omega, fun p' H' g => hd ys H2 p' H' p g⟩
theorem pgk0 (D : Kt) : PgK D 0 := by
  cases D with
  | sh f ns ms => exact .inl rfl
  | _ => exact rfl
theorem Tld.mono {H H' : Hp} {tl : Addr} {L : List Addr} (h : Tld H tl L) (s : Same H H') : Tld H' tl L := ⟨s _ _ h.1, fun q hq => by
  obtain ⟨a, b, ns, e1, n1, n2, e2, e3⟩ := h.2 q hq
  exact ⟨a, b, ns, s _ _ e1, n1, n2, s _ _ e2, s _ _ e3⟩⟩
def Lp (t : Adr) (Hb : Hp) (x x2 o tl pl : Addr) (D : Kt) (L2 : List (Addr × List Int)) (i : Nat) (g : Int) (H : Hp) : Prop :=
  Same Hb H /\ Wr t H x o g /\ PgK D g /\ Wr t H x2 o 0 /\ (∃ L, Tld H tl L /\ L.length = i) /\ H pl = some (.lst (L2.map fun y => V.ref y.1)) /\ ∀ y ∈ L2, H y.1 = some (.lst (y.2.map V.int))
theorem Lp.mono {Hb H H' : Hp} {x x2 o tl pl : Addr} {D : Kt} {L2 : List (Addr × List Int)} {i : Nat} {g : Int} (h : Lp t Hb x x2 o tl pl D L2 i g H) (s : Same H H') : Lp t Hb x x2 o tl pl D L2 i g H' := by
  obtain ⟨a, b, c, d, ⟨L, e, l⟩, f, g⟩ := h
  exact ⟨a.trans s, b.mono s, c, d.mono s, ⟨L, e.mono s, l⟩, s _ _ f, fun y hy => s _ _ (g y hy)⟩
theorem Lp.step {Hb H H' : Hp} {x x2 o tl pl q : Addr} {D : Kt} {L2 : List (Addr × List Int)} {L : List Addr} {i : Nat} {g g' : Int} (h : Lp t Hb x x2 o tl pl D L2 i g H) (k : Kp2 x tl H H') (wr : Wr t H' x o g') (pg : PgK D g') (td : Tld H' tl (L ++ [q])) (l : L.length = i)
    (fx : Hb x = none) (ft : Hb tl = none) (n2 : x2 ≠ x) (nl : pl ≠ tl) (ny : ∀ y ∈ L2, y.1 ≠ tl) : Lp t Hb x x2 o tl pl D L2 (i + 1) g' H' := by
  obtain ⟨a, ⟨d0, b⟩, c, ⟨d, e⟩, ⟨L0, td0, l0⟩, f, g⟩ := h
  refine ⟨fun c u q => k c u (ne_of_none q fx) (ne_of_none q ft) (a _ _ q), wr, pg, ⟨d, k _ _ n2 (ne_kind e td0.1 (by intro z; cases z)) e⟩, ⟨_, td, by rw [List.length_append, l]; rfl⟩, k _ _ (ne_kind f b (by intro z; cases z)) nl f, fun y hy => k _ _ (ne_kind (g y hy) b (by intro z; cases z)) (ny y hy) (g y hy)⟩
def sp_law (K : PySem.W.Frag) : Sp := fun vs H Q _ => ∃ a, vs = [.ref a] /\ ∃ ns : List Int, SqL K H a (ns.map V.int) /\ ns.length <= 63 /\ ∀ H', Q (.bl true) H'
theorem h_law (T : Txt w K mg t) : Has P w K mg base "law" 9 t.a_law t.f_law ["_law_script"] (sp_law K) := by
  refine ⟨T.g_law, T.F_law.kp, T.b_law, T.F_law.okQ sc_law (fun vs H Q E h => by obtain ⟨a, rfl, _⟩ := h; rfl) fun cdv A outer s H vs Q E hr h => ?_⟩
  obtain ⟨a, rfl, sc, h1, hc, k⟩ := h
  have hu := hr.units
  refine ⟨_, (q_pss_cons (q_ps_set (i := 1) sc_law.nd rfl (by first | exact Or.inl rfl | exact Or.inr rfl) (q_cal (h_z_model T) hr (q_pa_c (q_cal (h_z_drawn T) hr (q_pa_c (q_vv 0) (q_pa_c q_pe_int q_pa_nil))) q_pa_nil)))
      (q_pss_cons (q_ps_set (i := 2) sc_law.nd rfl (by first | exact Or.inl rfl | exact Or.inr rfl) (q_cal (h_z_text T) hr (q_pa_c (q_vv 1) (q_pa_c (q_pe_slice (g_slK (K := K) rfl) (q_vv 0) (q_po_some q_pe_int) (q_po_some q_pe_int)) q_pa_nil))))
      (q_pss_cons (q_ps_set (i := 3) sc_law.nd rfl (by first | exact Or.inl rfl | exact Or.inr rfl) (q_cal (h_z_tongue T) hr (q_pa_c (q_vv 1) q_pa_nil)))
      (q_pss_cons (q_ps_set (i := 4) sc_law.nd rfl (by first | exact Or.inl rfl | exact Or.inr rfl) (q_makeD (hk_Writer_0 T) hr (q_pa_c (q_vv 3) q_pa_nil)))
      (q_pss_cons (q_ps_set (i := 5) sc_law.nd rfl (by first | exact Or.inl rfl | exact Or.inr rfl) (q_makeD (hk_Writer_0 T) hr (q_pa_c (q_vv 3) q_pa_nil)))
      (q_pss_cons (q_ps_set (i := 6) sc_law.nd rfl (by first | exact Or.inl rfl | exact Or.inr rfl) (q_cal (h_z_lacking T) hr (q_pa_c (q_vv 1) (q_pa_c (q_cal (h_z_drawn T) hr (q_pa_c (q_vv 0) (q_pa_c q_pe_int q_pa_nil))) q_pa_nil))))
      (q_pss_cons (q_ps_set (i := 7) sc_law.nd rfl (by first | exact Or.inl rfl | exact Or.inr rfl) (q_me_and (q_pe_cmpR (g_eqK (K := K) rfl hu) (q_me_md (q_cal (h_z_drawn T) hr (q_pa_c (q_vv 0) (q_pa_c q_pe_int q_pa_nil)))) q_pe_int (nomark _)) (q_pe_one (q_pe_cmpR (g_inK (K := K) rfl) (q_pe_ix (g_ixK (K := K) rfl) (q_vv 1) q_pe_int (fun _ _ => rfl)) (q_me_tup (q_pa_const rfl)) (by with_unfolding_all rfl)))))
      (q_pss_cons (q_ps_set (i := 8) sc_law.nd rfl (by first | exact Or.inl rfl | exact Or.inr rfl) q_pe_int)
      (q_pss_cons (q_ps_set (i := 9) sc_law.nd rfl (by first | exact Or.inl rfl | exact Or.inr rfl) (q_me_lst q_pa_nil))
      (q_pss_cons (q_ps_if (q_mt_cmp (g_neK (K := K) rfl hu) (q_meth0 (h_Writer_page T) hr (q_vv 4)) q_pe_int (nomark _)) (q_pss_one (q_ps_ret q_pe_bl)) q_pss_nil)
      (q_pss_cons (q_ps_for PassesOwn.never rfl (q_pi_enumK (K := K) rfl rfl T.n_enumerate (q_pa_c (q_pe_op (g_addK (K := K) rfl) (q_cal (h_z_pieces T) hr (q_pa_c (q_vv 2) (q_pa_c (q_me_fd (q_cal (h_z_drawn T) hr (q_pa_c (q_vv 0) (q_pa_c q_pe_int q_pa_nil)))) q_pa_nil))) (q_me_lst (q_pa_c (q_me_lst q_pa_nil) q_pa_nil))) q_pa_nil)) (q_pg_tupK (K := K) rfl rfl (q_pgs_cons (q_pg_name (i := 10) sc_law.nd rfl (by first | exact Or.inl rfl | exact Or.inr rfl)) (q_pgs_cons (q_pg_name (i := 11) sc_law.nd rfl (by first | exact Or.inl rfl | exact Or.inr rfl)) q_pgs_nil))) (q_pss_cons (q_ps_if (q_PW_pt (q_pw_and (q_mt_truK (K := K) rfl (q_vv 7)) (q_pw_and1 (q_mt_cmp (g_eqK (K := K) rfl hu) (q_me_md (q_vv 10)) (q_me_md (q_cal (h_z_drawn T) hr (q_pa_c (q_vv 0) (q_pa_c q_pe_int q_pa_nil)))) (nomark _))))) (q_pss_one (q_ps_if (q_pt_not (q_mt_val (q_cal (h_z_tried T) hr (q_pa_c (q_vv 4) (q_pa_c (q_vv 11) (q_pa_c (q_vv 6) (q_pa_c (q_pe_op (g_addK (K := K) rfl) (q_me_fd (q_cal (h_z_drawn T) hr (q_pa_c (q_vv 0) (q_pa_c q_pe_int q_pa_nil)))) (q_vv 10)) (q_pa_c (q_vv 8) q_pa_nil)))))))) (q_pss_one (q_ps_ret q_pe_bl)) q_pss_nil)) q_pss_nil)
      (q_pss_cons (q_ps_set (i := 8) sc_law.nd rfl (by first | exact Or.inl rfl | exact Or.inr rfl) (q_cal (h_z_fed T) hr (q_pa_c (q_vv 4) (q_pa_c (q_vv 1) (q_pa_c (q_vv 11) (q_pa_c (q_vv 8) (q_pa_c (q_vv 9) q_pa_nil)))))))
      (q_pss_one (q_ps_if (q_PW_pt (q_pw_or (q_mt_cmp g_is (q_vv 8) q_pe_non (nomark _)) (q_pw_or1 (q_mt_cmp (g_neK (K := K) rfl hu) (q_meth0 (h_Writer_page T) hr (q_vv 5)) q_pe_int (nomark _))))) (q_pss_one (q_ps_ret q_pe_bl)) q_pss_nil)))))
      (q_pss_cons (q_ps_if (q_mt_cmp g_is (q_cal (h_z_fed T) hr (q_pa_c (q_vv 5) (q_pa_c (q_vv 1) (q_pa_c (q_vv 2) (q_pa_c q_pe_int (q_pa_c (q_vv 9) q_pa_nil)))))) q_pe_non (nomark _)) (q_pss_one (q_ps_ret q_pe_bl)) q_pss_nil)
      (q_pss_one (q_ps_ret (q_calB (c_allK (K := K) rfl rfl) T.n_all PyProof.Rows.boot_all (q_pa_c (q_pe_comp rfl (CompScope.of (fns := (defScope s_law).names) (N := ["_law_script", "_law_model_here", "_law_text_here", "_law_tongue_here", "_law_writer", "_law_beside", "_law_thing", "_law_tries", "_law_page", "_law_told", "_law_k", "_law_piece"]) (Nc := ["_law_found", "_law_kept"]) (nv := 2) (caps := []) rfl rfl (by decide +kernel)) (q_pi_listK (K := K) rfl (q_vv 9)) (fun _ _ _ _ => (q_pg_tupK (K := K) rfl (n := 2) rfl (q_pgs_cons (q_pg_name (i := 0) (show List.Nodup (["_law_found", "_law_kept"] : List Str) by decide +kernel) rfl (Or.inl rfl) (Or.inr rfl)) (q_pgs_cons (q_pg_name (i := 1) (show List.Nodup (["_law_found", "_law_kept"] : List Str) by decide +kernel) rfl (Or.inl rfl) (Or.inr rfl)) q_pgs_nil)))) (fun _ _ _ _ => q_pts_nil) (fun _ _ _ _ => (q_pe_cmpR (g_eqK (K := K) rfl hu) (q_vv 0) (q_vv 1) (nomark _)))) q_pa_nil)))))))))))))))), ?_⟩
  refine ⟨a, sc, 0, rfl, h1, fun c0 H1 s1 => ?_⟩
  refine ⟨c0, rfl, fun p M H2 s2 mod2 => ?_⟩
  have s02 := s1.trans s2
  refine ⟨_, rfl, _, rfl, _, s02.seq h1, fun pc H3 g3 => ?_⟩
  rw [show cutV (sc.map V.int) (some 3) (some 63) = ((sc.drop 3).take 60).map V.int by rw [cutV_ints]; exact congrArg _ (cutL_mid sc 3 60)] at g3
  refine ⟨p, pc, M, _, rfl, mod2.mono g3.sm, g3.lst, by rw [List.length_take]; omega, fun pt ts H4 s4 ht lt hin => ?_⟩
  have mod4 := (mod2.mono g3.sm).mono s4
  refine ⟨p, M, rfl, mod4, fun o D H5 s5 mt tn => ?_⟩
  have mod5 := mod4.mono s5
  have ht5 := s5 _ _ ht
  have hin := hin D mt
  have s05 := s02.trans (g3.sm.trans (s4.trans s5))
  have h5 := s05.seq h1
  refine fun x dx hx hdx hne => ?_
  refine ⟨x, dx, o, rfl, upd_same, fun H6 k6 wr6 => ⟨rfl, ?_⟩⟩
  have s6 : Same H5 H6 := fun b u e => k6 b u (ne_of_none e hx) (same_make hx hdx b u e)
  refine fun x2 dx2 hx2 hdx2 hne2 => ?_
  refine ⟨x2, dx2, o, rfl, upd_same, fun H7 k7 wr72 => ⟨rfl, ?_⟩⟩
  have s67 : Same H6 H7 := fun b u e => k7 b u (ne_of_none e hx2) (same_make hx2 hdx2 b u e)
  have s7 := s6.trans s67
  have wr7 := wr6.mono s67
  have nx2 : x2 ≠ x := by
    obtain ⟨d, e⟩ := wr6
    exact (ne_of_none e hx2).symm
  refine ⟨a, sc, 2, rfl, s7.seq h5, fun c2 H8 s8 => ?_⟩
  refine ⟨p, c2, M, rfl, (mod5.mono s7).mono s8, fun n H9 s9 lk => ?_⟩
  have s79 := s8.trans s9
  have s59 := s7.trans s79
  dsimp only [gName]
  refine seq_nx (fun σ' H' => Same H9 H' /\ ∃ b : Bool, (b = true -> Ld3 M = false) /\ σ' = [some (.ref a), some (.ref p), some (.ref pt), some (.ref o), some (.ref x), some (.ref x2), some (.int n), some (.bl b), none, none, none, none]) (fun nx hn => ?_) ?_
  · refine ⟨a, sc, 1, rfl, s59.seq h5, fun c1 H10 s10 => ?_⟩
    obtain ⟨pa, pb, hp, _⟩ := (mod5.mono s59).mono s10
    refine ite2 (fun _ => ?_) (fun _ => ?_)
    · refine ⟨_, .str (wrd M), .inr (.of hp), atI_nat (j := 0) rfl, ?_⟩
      refine ⟨sz rfl, fun p11 H11 g11 => ?_⟩
      refine ⟨_, .inr g11.tup, rfl, rfl, ?_⟩
      refine hn _ _ ⟨s10.trans g11.sm, _, fun z => ?_, rfl⟩
      have z : inV (.str (wrd M)) [.str "shift", .str "table", .str "bare"] = true := z
      rw [in_other] at z
      cases e : Ld3 M with
      | false => rfl
      | true => rw [e] at z; cases z
    · exact hn _ _ ⟨s10, false, (fun h => nomatch h), rfl⟩
  rintro σ' H11 ⟨s11, b, hb, rfl⟩
  refine ⟨sz rfl, fun tl H12 g12 => ?_⟩
  have s12 : Same H7 H12 := s79.trans (s11.trans g12.sm)
  have s512 := s7.trans s12
  have wr12 := wr7.mono s12
  have wr212 := wr72.mono s12
  have ftl : H5 tl = none := (s59.trans s11).free g12.nw
  obtain ⟨d12, hx12⟩ := id wr12
  refine ⟨x, d12, _, rfl, hx12, rfl, x, o, 0, rfl, wr12, ?_⟩
  refine ⟨a, sc, 1, rfl, s512.seq h5, fun c1 H13 s13 => ?_⟩
  refine ⟨pt, _, ts, rfl, .of (s13 _ _ (s512 _ _ ht5)), lt, fun pp L H14 s14 pc14 fr lL => ?_⟩
  refine ⟨sz rfl, fun pe H15 g15 => ?_⟩
  refine ⟨sz rfl, fun pq H16 g16 => ?_⟩
  have s16 := g15.sm.trans g16.sm
  refine ⟨_, _, .of (s16 _ _ pc14.1), g16.lst, szl (by rw [List.length_map]; show _ + 1 <= _; omega), fun pl H17 g17 => ?_⟩
  have s417 := s16.trans g17.sm
  have s1217 : Same H12 H17 := s13.trans (s14.trans s417)
  have tl13 := s13 _ _ g12.at_
  have npl : pl ≠ tl := (ne_of_none (s16 _ _ (s14 _ _ tl13)) g17.nw).symm
  obtain ⟨L2, eL2⟩ : ∃ L2, L2 = L ++ [(pe, ([] : List Int))] := ⟨_, rfl⟩
  have lL2 : L2.length <= 201 := by rw [eL2, List.length_append]; show _ + 1 <= _; omega
  have hL2 : ∀ y ∈ L2, y.1 ≠ tl /\ H17 y.1 = some (.lst (y.2.map V.int)) /\ (∀ m ∈ y.2, InT D m) /\ y.2.length <= 100 := fun y hy => by
    rw [eL2] at hy
    rcases List.mem_append.mp hy with z | z
    · obtain ⟨_, e, i, l⟩ := pc14.2 y z
      exact ⟨(ne_of_none tl13 (fr y z)).symm, s417 _ _ e, fun m hm => hin m (i m hm), l⟩
    · rw [List.mem_singleton.mp z]
      exact ⟨(ne_of_none (s14 _ _ tl13) g15.nw).symm, g17.sm _ _ (g16.sm _ _ g15.at_), (fun m h => nomatch h), by show 0 <= 100; decide⟩
  have hpl : H17 pl = some (.lst (L2.map fun y => V.ref y.1)) := by rw [eL2, List.map_append]; exact g17.at_
  refine ⟨pl, _, rfl, g17.lst, for_enum (K := K) (a := pl) (xs := L2.map fun y => V.ref y.1) (fun i σ H' => ∃ g, Lp t H5 x x2 o tl pl D L2 i g H' /\ ∃ v10 v11, σ = [some (.ref a), some (.ref p), some (.ref pt), some (.ref o), some (.ref x), some (.ref x2), some (.int n), some (.bl b), some (.int g), some (.ref tl), v10, v11])
    ⟨0, ⟨s512.trans s1217, wr12.mono s1217, pgk0 D, wr212.mono s1217, ⟨[], ⟨s1217 _ _ g12.at_, (fun _ h => nomatch h)⟩, rfl⟩, hpl, fun y hy => (hL2 y hy).2.1⟩, _, _, rfl⟩ (fun i σ H' _ z => by obtain ⟨g, l, _⟩ := z; exact .of l.2.2.2.2.2.1) ?_ ?_⟩
  · rintro i v p' σ J H18 hv ⟨g, lp, v10, v11, rfl⟩ g18
    obtain ⟨y, hy, rfl⟩ : ∃ y, L2[i]? = some y /\ v = .ref y.1 := by
      rw [List.getElem?_map] at hv
      obtain ⟨y, e1, e2⟩ := Option.map_eq_some_iff.mp hv
      exact ⟨y, e1, e2.symm⟩
    refine ⟨p', _, rfl, g18.tup, rfl, _, _, rfl, _, _, rfl, rfl, ?_⟩
    have my := List.mem_of_getElem? hy
    have iL : i < L2.length := (List.getElem?_eq_some_iff.mp hy).1
    obtain ⟨ny, _, hiy, ly⟩ := hL2 y my
    have lp18 := lp.mono g18.sm
    dsimp only [gName]
    refine seq_nx (fun σ' H' => Lp t H5 x x2 o tl pl D L2 i g H' /\ σ' = [some (.ref a), some (.ref p), some (.ref pt), some (.ref o), some (.ref x), some (.ref x2), some (.int n), some (.bl b), some (.int g), some (.ref tl), some (.int (i : Int)), some (.ref y.1)]) (fun nx hn => ?_) ?_
    · refine ite2 (fun bt => ?_) (fun _ => hn _ _ ⟨lp18, rfl⟩)
      refine ⟨a, sc, 2, rfl, lp18.1.seq h5, fun c H19 s19 => ?_⟩
      have lp19 := lp18.mono s19
      refine ite2 (fun _ => ?_) (fun _ => hn _ _ ⟨lp19, rfl⟩)
      refine ⟨a, sc, 2, rfl, lp19.1.seq h5, fun c' H20 s20 => ?_⟩
      have lp20 := lp19.mono s20
      obtain ⟨sb, wx, pgx, _, _, _, hys⟩ := id lp20
      refine ⟨x, o, y.1, D, y.2, g, n, _, rfl, wx, tn.mono sb, pgx, .of (hys y my), ly, hiy, lk_no (hb bt) mt lk, fun H21 s21 => ?_⟩
      exact hn _ _ ⟨lp20.mono s21, rfl⟩
    · rintro σ' H22 ⟨lp22, rfl⟩
      obtain ⟨sb, wx, pgx, w2, ⟨Lt, td, lLt⟩, hpl', hys⟩ := id lp22
      refine ⟨x, o, p, y.1, tl, M, D, y.2, g, Lt, rfl, wx, tn.mono sb, pgx, mod5.mono sb, mt, hys y my, ny, ly, hiy, td, by omega, fun q H23 k23 wx' td' pg' => ?_⟩
      have lp23 := lp22.step k23 wx' pg' td' lLt hx ftl nx2 npl (fun y hy => (hL2 y hy).1)
      have w23 := lp23.2.2.2.1
      obtain ⟨d2, hx23⟩ := id w23
      refine ⟨x2, d2, _, rfl, hx23, rfl, x2, o, 0, rfl, w23, ?_⟩
      exact ⟨_, lp23, _, _, rfl⟩
  · rintro σ J ⟨g, lp, v10, v11, rfl⟩
    obtain ⟨sb, wx, pgx, w2, ⟨Lt, td, lLt⟩, hpl', hys⟩ := id lp
    rw [List.length_map] at lLt
    refine ⟨x2, o, p, pt, tl, M, D, ts, 0, Lt, rfl, w2, tn.mono sb, pgk0 D, mod5.mono sb, mt, sb _ _ ht5, ne_of_none ht5 ftl, lt, hin, td, by omega, fun q H24 k24 w2' td' pg' => ?_⟩
    refine ⟨tl, rfl, ⟨_, .of td'.1⟩, comp_pairs (K := K) (a := tl) (xs := (Lt ++ [q]).map V.ref) (fun i ys H' => H' = H24 /\ ys = (List.replicate i true).map V.bl) ⟨rfl, rfl⟩ (fun i ys H' _ z => ⟨by rw [z.1]; exact .of td'.1, by rw [z.2]; simp⟩) (szl (by rw [List.length_map, List.length_append]; show _ + 1 <= _; omega)) (fun i v ys H' hv z => ?_) fun ys H' p2 H'' z gg => ?_⟩
    · obtain ⟨rfl, rfl⟩ := z
      rw [List.getElem?_map] at hv
      obtain ⟨q', e1, e2⟩ := Option.map_eq_some_iff.mp hv
      obtain ⟨a', b', ns, e3, _, _, e4, e5⟩ := td'.2 q' (List.mem_of_getElem? e1)
      refine ⟨q', .ref a', .ref b', e2.symm, .of e3, fun N hN => ?_⟩
      simp only [tTrue, if_true]
      refine ⟨_, _, DataV.lst (.of e4) (DataVs.ints ns), DataV.lst (.of e5) (DataVs.ints ns), PySem.W.ke_shaped_ints ns, PySem.W.ke_shaped_ints ns, ?_⟩
      refine hN _ _ ⟨rfl, ?_⟩
      rw [List.replicate_succ', List.map_append]
      congr 1
      show [V.bl (PyData.eqv (.list (ns.map PyData.int)) (.list (ns.map PyData.int)))] = [V.bl true]
      rw [eqv_ints, decide_eq_true rfl]
    · obtain ⟨rfl, rfl⟩ := z
      refine ⟨_, gg.lst, ?_⟩
      exact fitB (k _) (by simp)
end
end My
namespace My
open PySem L2
theorem lm1 {Pm : List Value -> Prop} (h : ∀ x0, Pm [x0]) : ∀ us : List Value, us.length = 1 -> Pm us
  | [x0], _ => h x0
theorem lm2 {Pm : List Value -> Prop} (h : ∀ x0 x1, Pm [x0, x1]) : ∀ us : List Value, us.length = 2 -> Pm us
  | [x0, x1], _ => h x0 x1
theorem lm3 {Pm : List Value -> Prop} (h : ∀ x0 x1 x2, Pm [x0, x1, x2]) : ∀ us : List Value, us.length = 3 -> Pm us
  | [x0, x1, x2], _ => h x0 x1 x2
theorem lm5 {Pm : List Value -> Prop} (h : ∀ x0 x1 x2 x3 x4, Pm [x0, x1, x2, x3, x4]) : ∀ us : List Value, us.length = 5 -> Pm us
  | [x0, x1, x2, x3, x4], _ => h x0 x1 x2 x3 x4
theorem txt_mk {w : World} {K : W.Frag} {h : Heap} {mg : Str -> Option Value} (X : K.In h) (G : h.Ns mainGlobals mg)
 {eeBadLetters : Addr}
 {eeBadPage : Addr}
 {eeBadTable : Addr}
 {eeFaulty : Addr}
 {eeNoOrder : Addr}
 {eeNoSign : Addr}
 {eeTongueError : Addr}
 {eeTooGreat : Addr}
 {a0 : Addr} {od0 an0 : Option Addr} {sl0 : Array (Option Value)} {oc0 kV0 dc0 pm0 cd0 ct0 : Value}
 {a1 : Addr} {od1 an1 : Option Addr} {sl1 : Array (Option Value)} {oc1 kV1 dc1 pm1 cd1 ct1 : Value}
 {a2 : Addr} {od2 an2 : Option Addr} {sl2 : Array (Option Value)} {oc2 kV2 dc2 pm2 cd2 ct2 : Value}
 {ccWriter : Addr}
 {a3 : Addr} {od3 an3 : Option Addr} {sl3 : Array (Option Value)} {oc3 kV3 dc3 pm3 cd3 ct3 : Value}
 {a4 : Addr} {od4 an4 : Option Addr} {sl4 : Array (Option Value)} {oc4 kV4 dc4 pm4 cd4 ct4 : Value}
 {a5 : Addr} {od5 an5 : Option Addr} {sl5 : Array (Option Value)} {oc5 kV5 dc5 pm5 cd5 ct5 : Value}
 {a6 : Addr} {od6 an6 : Option Addr} {sl6 : Array (Option Value)} {oc6 kV6 dc6 pm6 cd6 ct6 : Value}
 {a7 : Addr} {od7 an7 : Option Addr} {sl7 : Array (Option Value)} {oc7 kV7 dc7 pm7 cd7 ct7 : Value}
 {a8 : Addr} {od8 an8 : Option Addr} {sl8 : Array (Option Value)} {oc8 kV8 dc8 pm8 cd8 ct8 : Value}
 {a9 : Addr} {od9 an9 : Option Addr} {sl9 : Array (Option Value)} {oc9 kV9 dc9 pm9 cd9 ct9 : Value}
 {a10 : Addr} {od10 an10 : Option Addr} {sl10 : Array (Option Value)} {oc10 kV10 dc10 pm10 cd10 ct10 : Value}
 {a11 : Addr} {od11 an11 : Option Addr} {sl11 : Array (Option Value)} {oc11 kV11 dc11 pm11 cd11 ct11 : Value}
 {a12 : Addr} {od12 an12 : Option Addr} {sl12 : Array (Option Value)} {oc12 kV12 dc12 pm12 cd12 ct12 : Value}
 {a13 : Addr} {od13 an13 : Option Addr} {sl13 : Array (Option Value)} {oc13 kV13 dc13 pm13 cd13 ct13 : Value}
 {a14 : Addr} {od14 an14 : Option Addr} {sl14 : Array (Option Value)} {oc14 kV14 dc14 pm14 cd14 ct14 : Value}
 {ccTongue : Addr}
 {dV14 : Addr} {ddc14 : Value} {ddd14 : Option Addr} {ddn14 : Nat} {dsl14 : Array (Option Value)} {ud14_0 : Tok}
 {a15 : Addr} {od15 an15 : Option Addr} {sl15 : Array (Option Value)} {oc15 kV15 dc15 pm15 cd15 ct15 : Value}
 {a16 : Addr} {od16 an16 : Option Addr} {sl16 : Array (Option Value)} {oc16 kV16 dc16 pm16 cd16 ct16 : Value}
 {a17 : Addr} {od17 an17 : Option Addr} {sl17 : Array (Option Value)} {oc17 kV17 dc17 pm17 cd17 ct17 : Value}
 {ccLeadTongue : Addr}
 {dV17 : Addr} {ddc17 : Value} {ddd17 : Option Addr} {ddn17 : Nat} {dsl17 : Array (Option Value)} {ud17_0 : Tok}
 {a18 : Addr} {od18 an18 : Option Addr} {sl18 : Array (Option Value)} {oc18 kV18 dc18 pm18 cd18 ct18 : Value}
 {a19 : Addr} {od19 an19 : Option Addr} {sl19 : Array (Option Value)} {oc19 kV19 dc19 pm19 cd19 ct19 : Value}
 {ccPairTongue : Addr}
 {dV19 : Addr} {ddc19 : Value} {ddd19 : Option Addr} {ddn19 : Nat} {dsl19 : Array (Option Value)} {ud19_0 : Tok}
 {a20 : Addr} {od20 an20 : Option Addr} {sl20 : Array (Option Value)} {oc20 kV20 dc20 pm20 cd20 ct20 : Value}
 {a21 : Addr} {od21 an21 : Option Addr} {sl21 : Array (Option Value)} {oc21 kV21 dc21 pm21 cd21 ct21 : Value}
 {a22 : Addr} {od22 an22 : Option Addr} {sl22 : Array (Option Value)} {oc22 kV22 dc22 pm22 cd22 ct22 : Value}
 {dV22 : Addr} {ddc22 : Value} {ddd22 : Option Addr} {ddn22 : Nat} {dsl22 : Array (Option Value)} {ud22_0 : Tok}
 {a23 : Addr} {od23 an23 : Option Addr} {sl23 : Array (Option Value)} {oc23 kV23 dc23 pm23 cd23 ct23 : Value}
 {a24 : Addr} {od24 an24 : Option Addr} {sl24 : Array (Option Value)} {oc24 kV24 dc24 pm24 cd24 ct24 : Value}
 {a25 : Addr} {od25 an25 : Option Addr} {sl25 : Array (Option Value)} {oc25 kV25 dc25 pm25 cd25 ct25 : Value}
 {ccShiftTongue : Addr}
 {a26 : Addr} {od26 an26 : Option Addr} {sl26 : Array (Option Value)} {oc26 kV26 dc26 pm26 cd26 ct26 : Value}
 {a27 : Addr} {od27 an27 : Option Addr} {sl27 : Array (Option Value)} {oc27 kV27 dc27 pm27 cd27 ct27 : Value}
 {dV27 : Addr} {ddc27 : Value} {ddd27 : Option Addr} {ddn27 : Nat} {dsl27 : Array (Option Value)} {ud27_0 : Tok}
 {a28 : Addr} {od28 an28 : Option Addr} {sl28 : Array (Option Value)} {oc28 kV28 dc28 pm28 cd28 ct28 : Value}
 {a29 : Addr} {od29 an29 : Option Addr} {sl29 : Array (Option Value)} {oc29 kV29 dc29 pm29 cd29 ct29 : Value}
 {a30 : Addr} {od30 an30 : Option Addr} {sl30 : Array (Option Value)} {oc30 kV30 dc30 pm30 cd30 ct30 : Value}
 {a31 : Addr} {od31 an31 : Option Addr} {sl31 : Array (Option Value)} {oc31 kV31 dc31 pm31 cd31 ct31 : Value}
 {ccTableTongue : Addr}
 {a32 : Addr} {od32 an32 : Option Addr} {sl32 : Array (Option Value)} {oc32 kV32 dc32 pm32 cd32 ct32 : Value}
 {a33 : Addr} {od33 an33 : Option Addr} {sl33 : Array (Option Value)} {oc33 kV33 dc33 pm33 cd33 ct33 : Value}
 {dV33 : Addr} {ddc33 : Value} {ddd33 : Option Addr} {ddn33 : Nat} {dsl33 : Array (Option Value)} {ud33_0 : Tok}
 {a34 : Addr} {od34 an34 : Option Addr} {sl34 : Array (Option Value)} {oc34 kV34 dc34 pm34 cd34 ct34 : Value}
 {a35 : Addr} {od35 an35 : Option Addr} {sl35 : Array (Option Value)} {oc35 kV35 dc35 pm35 cd35 ct35 : Value}
 {a36 : Addr} {od36 an36 : Option Addr} {sl36 : Array (Option Value)} {oc36 kV36 dc36 pm36 cd36 ct36 : Value}
 {a37 : Addr} {od37 an37 : Option Addr} {sl37 : Array (Option Value)} {oc37 kV37 dc37 pm37 cd37 ct37 : Value}
 {a38 : Addr} {od38 an38 : Option Addr} {sl38 : Array (Option Value)} {oc38 kV38 dc38 pm38 cd38 ct38 : Value}
 {a39 : Addr} {od39 an39 : Option Addr} {sl39 : Array (Option Value)} {oc39 kV39 dc39 pm39 cd39 ct39 : Value}
 {a40 : Addr} {od40 an40 : Option Addr} {sl40 : Array (Option Value)} {oc40 kV40 dc40 pm40 cd40 ct40 : Value}
 {a41 : Addr} {od41 an41 : Option Addr} {sl41 : Array (Option Value)} {oc41 kV41 dc41 pm41 cd41 ct41 : Value}
 {a42 : Addr} {od42 an42 : Option Addr} {sl42 : Array (Option Value)} {oc42 kV42 dc42 pm42 cd42 ct42 : Value}
 {a43 : Addr} {od43 an43 : Option Addr} {sl43 : Array (Option Value)} {oc43 kV43 dc43 pm43 cd43 ct43 : Value}
 {a44 : Addr} {od44 an44 : Option Addr} {sl44 : Array (Option Value)} {oc44 kV44 dc44 pm44 cd44 ct44 : Value}
 {a45 : Addr} {od45 an45 : Option Addr} {sl45 : Array (Option Value)} {oc45 kV45 dc45 pm45 cd45 ct45 : Value}
 {a46 : Addr} {od46 an46 : Option Addr} {sl46 : Array (Option Value)} {oc46 kV46 dc46 pm46 cd46 ct46 : Value}
 {a47 : Addr} {od47 an47 : Option Addr} {sl47 : Array (Option Value)} {oc47 kV47 dc47 pm47 cd47 ct47 : Value}
 {a48 : Addr} {od48 an48 : Option Addr} {sl48 : Array (Option Value)} {oc48 kV48 dc48 pm48 cd48 ct48 : Value}
 {a49 : Addr} {od49 an49 : Option Addr} {sl49 : Array (Option Value)} {oc49 kV49 dc49 pm49 cd49 ct49 : Value}
 {a50 : Addr} {od50 an50 : Option Addr} {sl50 : Array (Option Value)} {oc50 kV50 dc50 pm50 cd50 ct50 : Value}
 {a51 : Addr} {od51 an51 : Option Addr} {sl51 : Array (Option Value)} {oc51 kV51 dc51 pm51 cd51 ct51 : Value}
 {a52 : Addr} {od52 an52 : Option Addr} {sl52 : Array (Option Value)} {oc52 kV52 dc52 pm52 cd52 ct52 : Value}
 {a53 : Addr} {od53 an53 : Option Addr} {sl53 : Array (Option Value)} {oc53 kV53 dc53 pm53 cd53 ct53 : Value}
 {u0 : Tok}
 {u1 : Tok}
 {ta2 : Addr} {es2 : Array DictEntry} {ep2 : Nat} {th2_0 : Int} {ta2_0 : Addr} {th2_1 : Int} {ta2_1 : Addr}
 {u3 : Tok}
 {u4 : Tok}
 {u5 : Tok}
 {u6 : Tok}
 {u7 : Tok}
 {u8 : Tok}
 {u9 : Tok}
 {u10 : Tok}
 {u11 : Tok}
 {u12 : Tok}
 {ta13 : Addr} {ti13 : Array Value} {tn13 : Nat} {ts13 : Array (Option Value)}
 {u14 : Tok}
 {u15 : Tok}
 {u16 : Tok}
 {ta17 : Addr} {ti17 : Array Value} {tn17 : Nat} {ts17 : Array (Option Value)}
 (ge_BadLetters : W.nsIn K mainGlobals "BadLetters" = some (some (.ref eeBadLetters)))
 (ge_BadPage : W.nsIn K mainGlobals "BadPage" = some (some (.ref eeBadPage)))
 (ge_BadTable : W.nsIn K mainGlobals "BadTable" = some (some (.ref eeBadTable)))
 (ge_Faulty : W.nsIn K mainGlobals "Faulty" = some (some (.ref eeFaulty)))
 (ge_NoOrder : W.nsIn K mainGlobals "NoOrder" = some (some (.ref eeNoOrder)))
 (ge_NoSign : W.nsIn K mainGlobals "NoSign" = some (some (.ref eeNoSign)))
 (ge_TongueError : W.nsIn K mainGlobals "TongueError" = some (some (.ref eeTongueError)))
 (ge_TooGreat : W.nsIn K mainGlobals "TooGreat" = some (some (.ref eeTooGreat)))
 (xc_NoSign_0 : W.findIn K (.ref eeNoSign) "__getattribute__" = some (some (.builtin "BaseException.__getattribute__")))
 (xc_NoSign_1 : W.findIn K (.ref eeNoSign) "__getattr__" = some none)
 (xc_NoSign_2 : W.mroIn K eeNoSign (.type "BaseException") = some true)
 (xc_NoSign_3 : W.mroIn K eeNoSign (.type "object") = some true)
 (xc_NoSign_4 : W.hasDictIn K eeNoSign = true)
 (xc_NoSign_5 : W.findIn K (.ref eeNoSign) "__class__" = some (some (.builtin "object.__class__")))
 (xc_NoSign_6 : W.specialIn K (.builtin "object.__class__") "__get__" = some (some (.builtin "getset_descriptor.__get__")))
 (xc_NoSign_7 : W.takesIn K (.builtin "object.__class__") = some true)
 (xm_NoSign_NoSign : W.exmOne K (.ref eeNoSign) (.ref eeNoSign) = some true)
 (xm_NoSign_TongueError : W.exmOne K (.ref eeNoSign) (.ref eeTongueError) = some true)
 (xk_NoSign_NoSign : W.kitOne K (.ref eeNoSign) (.ref eeNoSign) = some true)
 (xk_NoSign_ValueError : W.kitOne K (.ref eeNoSign) (.type "ValueError") = some true)
 (xt_NoSign : W.kitAny K (.ref eeNoSign) (([eeBadLetters, eeBadPage, eeBadTable, eeFaulty, eeNoOrder, eeTooGreat] : List Addr).map Value.ref) = some false)
 (ea_NoSign : excAny K eeNoSign bmV "ValueError.__new__" = true)
 (ei_NoSign : W.findIn K (.ref eeNoSign) "__init__" = some (some (.ref a0)))
 (ej_NoSign : W.isFn K (.ref a0) = true)
 (ek_NoSign : W.keepIn K (.ref eeNoSign) = true)
 (eq_NoSign : W.findIn K (.ref eeNoSign) "__setattr__" = some (some (.builtin "object.__setattr__")))
 (en_NoSign_at : W.findIn K (.ref eeNoSign) "at" = some none)
 (en_NoSign_sign : W.findIn K (.ref eeNoSign) "sign" = some none)
 (eb_0 : W.specialIn K (.ref eeTongueError) "__getattribute__" = some (some (.builtin "type.__getattribute__")))
 (eb_1 : W.readsIn K eeTongueError (.type "type") = true)
 (eb_2 : W.findCls K (.ref eeTongueError) (.type "type") "__init__" = some (.val (.builtin "ValueError.__init__")))
 (xn_NoSign : W.kitOne K (.type "NoneType") (.ref eeNoSign) = some false)
 (h0l : K.lookup a0 = some ⟨oc0, od0, .func (W.fnOf "__init__" "NoSign.__init__" (defArgs s_NoSign_init) (defBody s_NoSign_init) (defScope s_NoSign_init) .none kV0 dc0 pm0 an0 cd0 ct0), sl0⟩)
 (h0c : W.codeIn K cd0 "NoSign.__init__" = true)
 (h0k : W.keepIn K (.ref a0) = true)
 (h1a : W.nsIn K mainGlobals "write_from" = some (some (.ref a1)))
 (h1l : K.lookup a1 = some ⟨oc1, od1, .func (W.fnOf "write_from" "write_from" (defArgs s_write_from) (defBody s_write_from) (defScope s_write_from) .none kV1 dc1 pm1 an1 cd1 ct1), sl1⟩)
 (h1c : W.codeIn K cd1 "write_from" = true)
 (h1k : W.keepIn K (.ref a1) = true)
 (cg_Writer : W.nsIn K mainGlobals "Writer" = some (some (.ref ccWriter)))
 (cp_Writer : W.plainGet K ccWriter Str.empty = true)
 (cd_Writer : W.hasDictIn K ccWriter = true)
 (co_Writer : W.plainOver K ccWriter = true)
 (cs_Writer : W.findIn K (.ref ccWriter) "__setattr__" = some (some (.builtin "object.__setattr__")))
 (cm_Writer : W.makesIn K ccWriter = true)
 (ck_Writer : W.keepIn K (.ref ccWriter) = true)
 (ct_Writer : W.findIn K (.ref ccWriter) "__class__" = some (some (.builtin "object.__class__")))
 (cu_Writer : W.specialIn K (.builtin "object.__class__") "__get__" = some (some (.builtin "getset_descriptor.__get__")))
 (cv_Writer : W.takesIn K (.builtin "object.__class__") = some true)
 (cw_Writer : W.mroIn K ccWriter (.type "object") = some true)
 (cn_Writer_at_page : W.findIn K (.ref ccWriter) "at_page" = some none)
 (cn_Writer_tongue : W.findIn K (.ref ccWriter) "tongue" = some none)
 (h2a : W.findIn K (.ref ccWriter) "__init__" = some (some (.ref a2)))
 (h2f : W.isFn K (.ref a2) = true)
 (h2l : K.lookup a2 = some ⟨oc2, od2, .func (W.fnOf "__init__" "Writer.__init__" (defArgs s_Writer_init) (defBody s_Writer_init) (defScope s_Writer_init) .none kV2 dc2 pm2 an2 cd2 ct2), sl2⟩)
 (h2c : W.codeIn K cd2 "Writer.__init__" = true)
 (h2k : W.keepIn K (.ref a2) = true)
 (h3a : W.findIn K (.ref ccWriter) "page" = some (some (.ref a3)))
 (h3f : W.isFn K (.ref a3) = true)
 (h3l : K.lookup a3 = some ⟨oc3, od3, .func (W.fnOf "page" "Writer.page" (defArgs s_Writer_page) (defBody s_Writer_page) (defScope s_Writer_page) .none kV3 dc3 pm3 an3 cd3 ct3), sl3⟩)
 (h3c : W.codeIn K cd3 "Writer.page" = true)
 (h3k : W.keepIn K (.ref a3) = true)
 (h4a : W.findIn K (.ref ccWriter) "feed" = some (some (.ref a4)))
 (h4f : W.isFn K (.ref a4) = true)
 (h4l : K.lookup a4 = some ⟨oc4, od4, .func (W.fnOf "feed" "Writer.feed" (defArgs s_Writer_feed) (defBody s_Writer_feed) (defScope s_Writer_feed) .none kV4 dc4 pm4 an4 cd4 ct4), sl4⟩)
 (h4c : W.codeIn K cd4 "Writer.feed" = true)
 (h4k : W.keepIn K (.ref a4) = true)
 (h5a : W.nsIn K mainGlobals "check_room" = some (some (.ref a5)))
 (h5l : K.lookup a5 = some ⟨oc5, od5, .func (W.fnOf "check_room" "check_room" (defArgs s_check_room) (defBody s_check_room) (defScope s_check_room) .none kV5 dc5 pm5 an5 cd5 ct5), sl5⟩)
 (h5c : W.codeIn K cd5 "check_room" = true)
 (h5k : W.keepIn K (.ref a5) = true)
 (h6a : W.nsIn K mainGlobals "parted" = some (some (.ref a6)))
 (h6l : K.lookup a6 = some ⟨oc6, od6, .func (W.fnOf "parted" "parted" (defArgs s_parted) (defBody s_parted) (defScope s_parted) .none kV6 dc6 pm6 an6 cd6 ct6), sl6⟩)
 (h6c : W.codeIn K cd6 "parted" = true)
 (h6k : W.keepIn K (.ref a6) = true)
 (h7a : W.nsIn K mainGlobals "is_number" = some (some (.ref a7)))
 (h7l : K.lookup a7 = some ⟨oc7, od7, .func (W.fnOf "is_number" "is_number" (defArgs s_is_number) (defBody s_is_number) (defScope s_is_number) .none kV7 dc7 pm7 an7 cd7 ct7), sl7⟩)
 (h7c : W.codeIn K cd7 "is_number" = true)
 (h7k : W.keepIn K (.ref a7) = true)
 (h8a : W.nsIn K mainGlobals "is_byte" = some (some (.ref a8)))
 (h8l : K.lookup a8 = some ⟨oc8, od8, .func (W.fnOf "is_byte" "is_byte" (defArgs s_is_byte) (defBody s_is_byte) (defScope s_is_byte) .none kV8 dc8 pm8 an8 cd8 ct8), sl8⟩)
 (h8c : W.codeIn K cd8 "is_byte" = true)
 (h8k : W.keepIn K (.ref a8) = true)
 (h9a : W.nsIn K mainGlobals "is_head" = some (some (.ref a9)))
 (h9l : K.lookup a9 = some ⟨oc9, od9, .func (W.fnOf "is_head" "is_head" (defArgs s_is_head) (defBody s_is_head) (defScope s_is_head) .none kV9 dc9 pm9 an9 cd9 ct9), sl9⟩)
 (h9c : W.codeIn K cd9 "is_head" = true)
 (h9k : W.keepIn K (.ref a9) = true)
 (h10a : W.nsIn K mainGlobals "is_tail" = some (some (.ref a10)))
 (h10l : K.lookup a10 = some ⟨oc10, od10, .func (W.fnOf "is_tail" "is_tail" (defArgs s_is_tail) (defBody s_is_tail) (defScope s_is_tail) .none kV10 dc10 pm10 an10 cd10 ct10), sl10⟩)
 (h10c : W.codeIn K cd10 "is_tail" = true)
 (h10k : W.keepIn K (.ref a10) = true)
 (h11a : W.nsIn K mainGlobals "is_seen_byte" = some (some (.ref a11)))
 (h11l : K.lookup a11 = some ⟨oc11, od11, .func (W.fnOf "is_seen_byte" "is_seen_byte" (defArgs s_is_seen_byte) (defBody s_is_seen_byte) (defScope s_is_seen_byte) .none kV11 dc11 pm11 an11 cd11 ct11), sl11⟩)
 (h11c : W.codeIn K cd11 "is_seen_byte" = true)
 (h11k : W.keepIn K (.ref a11) = true)
 (h12a : W.nsIn K mainGlobals "is_sign" = some (some (.ref a12)))
 (h12l : K.lookup a12 = some ⟨oc12, od12, .func (W.fnOf "is_sign" "is_sign" (defArgs s_is_sign) (defBody s_is_sign) (defScope s_is_sign) .none kV12 dc12 pm12 an12 cd12 ct12), sl12⟩)
 (h12c : W.codeIn K cd12 "is_sign" = true)
 (h12k : W.keepIn K (.ref a12) = true)
 (h13a : W.nsIn K mainGlobals "is_row" = some (some (.ref a13)))
 (h13l : K.lookup a13 = some ⟨oc13, od13, .func (W.fnOf "is_row" "is_row" (defArgs s_is_row) (defBody s_is_row) (defScope s_is_row) .none kV13 dc13 pm13 an13 cd13 ct13), sl13⟩)
 (h13c : W.codeIn K cd13 "is_row" = true)
 (h13k : W.keepIn K (.ref a13) = true)
 (cg_Tongue : W.nsIn K mainGlobals "Tongue" = some (some (.ref ccTongue)))
 (cp_Tongue : W.plainGet K ccTongue Str.empty = true)
 (cd_Tongue : W.hasDictIn K ccTongue = true)
 (co_Tongue : W.plainOver K ccTongue = true)
 (cs_Tongue : W.findIn K (.ref ccTongue) "__setattr__" = some (some (.builtin "object.__setattr__")))
 (cm_Tongue : W.makesIn K ccTongue = true)
 (ck_Tongue : W.keepIn K (.ref ccTongue) = true)
 (ci_Tongue : W.findIn K (.ref ccTongue) "__init__" = some (some (.builtin "object.__init__")))
 (ct_Tongue : W.findIn K (.ref ccTongue) "__class__" = some (some (.builtin "object.__class__")))
 (cu_Tongue : W.specialIn K (.builtin "object.__class__") "__get__" = some (some (.builtin "getset_descriptor.__get__")))
 (cv_Tongue : W.takesIn K (.builtin "object.__class__") = some true)
 (cw_Tongue : W.mroIn K ccTongue (.type "object") = some true)
 (h14a : W.findIn K (.ref ccTongue) "spell" = some (some (.ref a14)))
 (h14f : W.isFn K (.ref a14) = true)
 (h14l : K.lookup a14 = some ⟨oc14, od14, .func (W.fnOf "spell" "Tongue.spell" (defArgs s_Tongue_spell) (defBody s_Tongue_spell) (defScope s_Tongue_spell) (.ref dV14) kV14 dc14 pm14 an14 cd14 ct14), sl14⟩)
 (h14c : W.codeIn K cd14 "Tongue.spell" = true)
 (h14k : W.keepIn K (.ref a14) = true)
 (h14d : K.lookup dV14 = some ⟨ddc14, ddd14, .seq ([.int 0 ud14_0] : List Value).toArray ddn14, dsl14⟩)
 (h15a : W.nsIn K mainGlobals "length_of" = some (some (.ref a15)))
 (h15l : K.lookup a15 = some ⟨oc15, od15, .func (W.fnOf "length_of" "length_of" (defArgs s_length_of) (defBody s_length_of) (defScope s_length_of) .none kV15 dc15 pm15 an15 cd15 ct15), sl15⟩)
 (h15c : W.codeIn K cd15 "length_of" = true)
 (h15k : W.keepIn K (.ref a15) = true)
 (h16a : W.nsIn K mainGlobals "lead_row" = some (some (.ref a16)))
 (h16l : K.lookup a16 = some ⟨oc16, od16, .func (W.fnOf "lead_row" "lead_row" (defArgs s_lead_row) (defBody s_lead_row) (defScope s_lead_row) .none kV16 dc16 pm16 an16 cd16 ct16), sl16⟩)
 (h16c : W.codeIn K cd16 "lead_row" = true)
 (h16k : W.keepIn K (.ref a16) = true)
 (cg_LeadTongue : W.nsIn K mainGlobals "LeadTongue" = some (some (.ref ccLeadTongue)))
 (cp_LeadTongue : W.plainGet K ccLeadTongue Str.empty = true)
 (cd_LeadTongue : W.hasDictIn K ccLeadTongue = true)
 (co_LeadTongue : W.plainOver K ccLeadTongue = true)
 (cs_LeadTongue : W.findIn K (.ref ccLeadTongue) "__setattr__" = some (some (.builtin "object.__setattr__")))
 (cm_LeadTongue : W.makesIn K ccLeadTongue = true)
 (ck_LeadTongue : W.keepIn K (.ref ccLeadTongue) = true)
 (ci_LeadTongue : W.findIn K (.ref ccLeadTongue) "__init__" = some (some (.builtin "object.__init__")))
 (ct_LeadTongue : W.findIn K (.ref ccLeadTongue) "__class__" = some (some (.builtin "object.__class__")))
 (cu_LeadTongue : W.specialIn K (.builtin "object.__class__") "__get__" = some (some (.builtin "getset_descriptor.__get__")))
 (cv_LeadTongue : W.takesIn K (.builtin "object.__class__") = some true)
 (cw_LeadTongue : W.mroIn K ccLeadTongue (.type "object") = some true)
 (h17a : W.findIn K (.ref ccLeadTongue) "spell" = some (some (.ref a17)))
 (h17f : W.isFn K (.ref a17) = true)
 (h17l : K.lookup a17 = some ⟨oc17, od17, .func (W.fnOf "spell" "LeadTongue.spell" (defArgs s_LeadTongue_spell) (defBody s_LeadTongue_spell) (defScope s_LeadTongue_spell) (.ref dV17) kV17 dc17 pm17 an17 cd17 ct17), sl17⟩)
 (h17c : W.codeIn K cd17 "LeadTongue.spell" = true)
 (h17k : W.keepIn K (.ref a17) = true)
 (h17d : K.lookup dV17 = some ⟨ddc17, ddd17, .seq ([.int 0 ud17_0] : List Value).toArray ddn17, dsl17⟩)
 (h18a : W.nsIn K mainGlobals "units_of" = some (some (.ref a18)))
 (h18l : K.lookup a18 = some ⟨oc18, od18, .func (W.fnOf "units_of" "units_of" (defArgs s_units_of) (defBody s_units_of) (defScope s_units_of) .none kV18 dc18 pm18 an18 cd18 ct18), sl18⟩)
 (h18c : W.codeIn K cd18 "units_of" = true)
 (h18k : W.keepIn K (.ref a18) = true)
 (cg_PairTongue : W.nsIn K mainGlobals "PairTongue" = some (some (.ref ccPairTongue)))
 (cp_PairTongue : W.plainGet K ccPairTongue Str.empty = true)
 (cd_PairTongue : W.hasDictIn K ccPairTongue = true)
 (co_PairTongue : W.plainOver K ccPairTongue = true)
 (cs_PairTongue : W.findIn K (.ref ccPairTongue) "__setattr__" = some (some (.builtin "object.__setattr__")))
 (cm_PairTongue : W.makesIn K ccPairTongue = true)
 (ck_PairTongue : W.keepIn K (.ref ccPairTongue) = true)
 (ct_PairTongue : W.findIn K (.ref ccPairTongue) "__class__" = some (some (.builtin "object.__class__")))
 (cu_PairTongue : W.specialIn K (.builtin "object.__class__") "__get__" = some (some (.builtin "getset_descriptor.__get__")))
 (cv_PairTongue : W.takesIn K (.builtin "object.__class__") = some true)
 (cw_PairTongue : W.mroIn K ccPairTongue (.type "object") = some true)
 (cn_PairTongue_order : W.findIn K (.ref ccPairTongue) "order" = some none)
 (h19a : W.findIn K (.ref ccPairTongue) "__init__" = some (some (.ref a19)))
 (h19f : W.isFn K (.ref a19) = true)
 (h19l : K.lookup a19 = some ⟨oc19, od19, .func (W.fnOf "__init__" "PairTongue.__init__" (defArgs s_PairTongue_init) (defBody s_PairTongue_init) (defScope s_PairTongue_init) (.ref dV19) kV19 dc19 pm19 an19 cd19 ct19), sl19⟩)
 (h19c : W.codeIn K cd19 "PairTongue.__init__" = true)
 (h19k : W.keepIn K (.ref a19) = true)
 (h19d : K.lookup dV19 = some ⟨ddc19, ddd19, .seq ([.str "high" ud19_0] : List Value).toArray ddn19, dsl19⟩)
 (h20a : W.findIn K (.ref ccPairTongue) "turned" = some (some (.ref a20)))
 (h20f : W.isFn K (.ref a20) = true)
 (h20l : K.lookup a20 = some ⟨oc20, od20, .func (W.fnOf "turned" "PairTongue.turned" (defArgs s_PairTongue_turned) (defBody s_PairTongue_turned) (defScope s_PairTongue_turned) .none kV20 dc20 pm20 an20 cd20 ct20), sl20⟩)
 (h20c : W.codeIn K cd20 "PairTongue.turned" = true)
 (h20k : W.keepIn K (.ref a20) = true)
 (h21a : W.findIn K (.ref ccPairTongue) "row_of" = some (some (.ref a21)))
 (h21f : W.isFn K (.ref a21) = true)
 (h21l : K.lookup a21 = some ⟨oc21, od21, .func (W.fnOf "row_of" "PairTongue.row_of" (defArgs s_PairTongue_row_of) (defBody s_PairTongue_row_of) (defScope s_PairTongue_row_of) .none kV21 dc21 pm21 an21 cd21 ct21), sl21⟩)
 (h21c : W.codeIn K cd21 "PairTongue.row_of" = true)
 (h21k : W.keepIn K (.ref a21) = true)
 (h22a : W.findIn K (.ref ccPairTongue) "spell" = some (some (.ref a22)))
 (h22f : W.isFn K (.ref a22) = true)
 (h22l : K.lookup a22 = some ⟨oc22, od22, .func (W.fnOf "spell" "PairTongue.spell" (defArgs s_PairTongue_spell) (defBody s_PairTongue_spell) (defScope s_PairTongue_spell) (.ref dV22) kV22 dc22 pm22 an22 cd22 ct22), sl22⟩)
 (h22c : W.codeIn K cd22 "PairTongue.spell" = true)
 (h22k : W.keepIn K (.ref a22) = true)
 (h22d : K.lookup dV22 = some ⟨ddc22, ddd22, .seq ([.int 0 ud22_0] : List Value).toArray ddn22, dsl22⟩)
 (h23a : W.nsIn K mainGlobals "begins" = some (some (.ref a23)))
 (h23l : K.lookup a23 = some ⟨oc23, od23, .func (W.fnOf "begins" "begins" (defArgs s_begins) (defBody s_begins) (defScope s_begins) .none kV23 dc23 pm23 an23 cd23 ct23), sl23⟩)
 (h23c : W.codeIn K cd23 "begins" = true)
 (h23k : W.keepIn K (.ref a23) = true)
 (h24a : W.nsIn K mainGlobals "places_in" = some (some (.ref a24)))
 (h24l : K.lookup a24 = some ⟨oc24, od24, .func (W.fnOf "places_in" "places_in" (defArgs s_places_in) (defBody s_places_in) (defScope s_places_in) .none kV24 dc24 pm24 an24 cd24 ct24), sl24⟩)
 (h24c : W.codeIn K cd24 "places_in" = true)
 (h24k : W.keepIn K (.ref a24) = true)
 (cg_ShiftTongue : W.nsIn K mainGlobals "ShiftTongue" = some (some (.ref ccShiftTongue)))
 (cp_ShiftTongue : W.plainGet K ccShiftTongue Str.empty = true)
 (cd_ShiftTongue : W.hasDictIn K ccShiftTongue = true)
 (co_ShiftTongue : W.plainOver K ccShiftTongue = true)
 (cs_ShiftTongue : W.findIn K (.ref ccShiftTongue) "__setattr__" = some (some (.builtin "object.__setattr__")))
 (cm_ShiftTongue : W.makesIn K ccShiftTongue = true)
 (ck_ShiftTongue : W.keepIn K (.ref ccShiftTongue) = true)
 (ct_ShiftTongue : W.findIn K (.ref ccShiftTongue) "__class__" = some (some (.builtin "object.__class__")))
 (cu_ShiftTongue : W.specialIn K (.builtin "object.__class__") "__get__" = some (some (.builtin "getset_descriptor.__get__")))
 (cv_ShiftTongue : W.takesIn K (.builtin "object.__class__") = some true)
 (cw_ShiftTongue : W.mroIn K ccShiftTongue (.type "object") = some true)
 (cn_ShiftTongue_lists : W.findIn K (.ref ccShiftTongue) "lists" = some none)
 (cn_ShiftTongue_places : W.findIn K (.ref ccShiftTongue) "places" = some none)
 (cn_ShiftTongue_shifted : W.findIn K (.ref ccShiftTongue) "shifted" = some none)
 (h25a : W.findIn K (.ref ccShiftTongue) "__init__" = some (some (.ref a25)))
 (h25f : W.isFn K (.ref a25) = true)
 (h25l : K.lookup a25 = some ⟨oc25, od25, .func (W.fnOf "__init__" "ShiftTongue.__init__" (defArgs s_ShiftTongue_init) (defBody s_ShiftTongue_init) (defScope s_ShiftTongue_init) .none kV25 dc25 pm25 an25 cd25 ct25), sl25⟩)
 (h25c : W.codeIn K cd25 "ShiftTongue.__init__" = true)
 (h25k : W.keepIn K (.ref a25) = true)
 (h26a : W.findIn K (.ref ccShiftTongue) "row_beyond" = some (some (.ref a26)))
 (h26f : W.isFn K (.ref a26) = true)
 (h26l : K.lookup a26 = some ⟨oc26, od26, .func (W.fnOf "row_beyond" "ShiftTongue.row_beyond" (defArgs s_ShiftTongue_row_beyond) (defBody s_ShiftTongue_row_beyond) (defScope s_ShiftTongue_row_beyond) .none kV26 dc26 pm26 an26 cd26 ct26), sl26⟩)
 (h26c : W.codeIn K cd26 "ShiftTongue.row_beyond" = true)
 (h26k : W.keepIn K (.ref a26) = true)
 (h27a : W.findIn K (.ref ccShiftTongue) "spell" = some (some (.ref a27)))
 (h27f : W.isFn K (.ref a27) = true)
 (h27l : K.lookup a27 = some ⟨oc27, od27, .func (W.fnOf "spell" "ShiftTongue.spell" (defArgs s_ShiftTongue_spell) (defBody s_ShiftTongue_spell) (defScope s_ShiftTongue_spell) (.ref dV27) kV27 dc27 pm27 an27 cd27 ct27), sl27⟩)
 (h27c : W.codeIn K cd27 "ShiftTongue.spell" = true)
 (h27k : W.keepIn K (.ref a27) = true)
 (h27d : K.lookup dV27 = some ⟨ddc27, ddd27, .seq ([.int 0 ud27_0] : List Value).toArray ddn27, dsl27⟩)
 (h28a : W.nsIn K mainGlobals "is_entry" = some (some (.ref a28)))
 (h28l : K.lookup a28 = some ⟨oc28, od28, .func (W.fnOf "is_entry" "is_entry" (defArgs s_is_entry) (defBody s_is_entry) (defScope s_is_entry) .none kV28 dc28 pm28 an28 cd28 ct28), sl28⟩)
 (h28c : W.codeIn K cd28 "is_entry" = true)
 (h28k : W.keepIn K (.ref a28) = true)
 (h29a : W.nsIn K mainGlobals "collide" = some (some (.ref a29)))
 (h29l : K.lookup a29 = some ⟨oc29, od29, .func (W.fnOf "collide" "collide" (defArgs s_collide) (defBody s_collide) (defScope s_collide) .none kV29 dc29 pm29 an29 cd29 ct29), sl29⟩)
 (h29c : W.codeIn K cd29 "collide" = true)
 (h29k : W.keepIn K (.ref a29) = true)
 (h30a : W.nsIn K mainGlobals "check_table" = some (some (.ref a30)))
 (h30l : K.lookup a30 = some ⟨oc30, od30, .func (W.fnOf "check_table" "check_table" (defArgs s_check_table) (defBody s_check_table) (defScope s_check_table) .none kV30 dc30 pm30 an30 cd30 ct30), sl30⟩)
 (h30c : W.codeIn K cd30 "check_table" = true)
 (h30k : W.keepIn K (.ref a30) = true)
 (cg_TableTongue : W.nsIn K mainGlobals "TableTongue" = some (some (.ref ccTableTongue)))
 (cp_TableTongue : W.plainGet K ccTableTongue Str.empty = true)
 (cd_TableTongue : W.hasDictIn K ccTableTongue = true)
 (co_TableTongue : W.plainOver K ccTableTongue = true)
 (cs_TableTongue : W.findIn K (.ref ccTableTongue) "__setattr__" = some (some (.builtin "object.__setattr__")))
 (cm_TableTongue : W.makesIn K ccTableTongue = true)
 (ck_TableTongue : W.keepIn K (.ref ccTableTongue) = true)
 (ct_TableTongue : W.findIn K (.ref ccTableTongue) "__class__" = some (some (.builtin "object.__class__")))
 (cu_TableTongue : W.specialIn K (.builtin "object.__class__") "__get__" = some (some (.builtin "getset_descriptor.__get__")))
 (cv_TableTongue : W.takesIn K (.builtin "object.__class__") = some true)
 (cw_TableTongue : W.mroIn K ccTableTongue (.type "object") = some true)
 (cn_TableTongue_rest_by_row : W.findIn K (.ref ccTableTongue) "rest_by_row" = some none)
 (cn_TableTongue_row_by_sign : W.findIn K (.ref ccTableTongue) "row_by_sign" = some none)
 (cn_TableTongue_sign_by_row : W.findIn K (.ref ccTableTongue) "sign_by_row" = some none)
 (h31a : W.findIn K (.ref ccTableTongue) "__init__" = some (some (.ref a31)))
 (h31f : W.isFn K (.ref a31) = true)
 (h31l : K.lookup a31 = some ⟨oc31, od31, .func (W.fnOf "__init__" "TableTongue.__init__" (defArgs s_TableTongue_init) (defBody s_TableTongue_init) (defScope s_TableTongue_init) .none kV31 dc31 pm31 an31 cd31 ct31), sl31⟩)
 (h31c : W.codeIn K cd31 "TableTongue.__init__" = true)
 (h31k : W.keepIn K (.ref a31) = true)
 (h32a : W.findIn K (.ref ccTableTongue) "enter" = some (some (.ref a32)))
 (h32f : W.isFn K (.ref a32) = true)
 (h32l : K.lookup a32 = some ⟨oc32, od32, .func (W.fnOf "enter" "TableTongue.enter" (defArgs s_TableTongue_enter) (defBody s_TableTongue_enter) (defScope s_TableTongue_enter) .none kV32 dc32 pm32 an32 cd32 ct32), sl32⟩)
 (h32c : W.codeIn K cd32 "TableTongue.enter" = true)
 (h32k : W.keepIn K (.ref a32) = true)
 (h33a : W.findIn K (.ref ccTableTongue) "spell" = some (some (.ref a33)))
 (h33f : W.isFn K (.ref a33) = true)
 (h33l : K.lookup a33 = some ⟨oc33, od33, .func (W.fnOf "spell" "TableTongue.spell" (defArgs s_TableTongue_spell) (defBody s_TableTongue_spell) (defScope s_TableTongue_spell) (.ref dV33) kV33 dc33 pm33 an33 cd33 ct33), sl33⟩)
 (h33c : W.codeIn K cd33 "TableTongue.spell" = true)
 (h33k : W.keepIn K (.ref a33) = true)
 (h33d : K.lookup dV33 = some ⟨ddc33, ddd33, .seq ([.int 0 ud33_0] : List Value).toArray ddn33, dsl33⟩)
 (h34a : W.nsIn K mainGlobals "_law_drawn" = some (some (.ref a34)))
 (h34l : K.lookup a34 = some ⟨oc34, od34, .func (W.fnOf "_law_drawn" "_law_drawn" (defArgs s_z_drawn) (defBody s_z_drawn) (defScope s_z_drawn) .none kV34 dc34 pm34 an34 cd34 ct34), sl34⟩)
 (h34c : W.codeIn K cd34 "_law_drawn" = true)
 (h34k : W.keepIn K (.ref a34) = true)
 (h35a : W.nsIn K mainGlobals "_law_is_number" = some (some (.ref a35)))
 (h35l : K.lookup a35 = some ⟨oc35, od35, .func (W.fnOf "_law_is_number" "_law_is_number" (defArgs s_z_is_number) (defBody s_z_is_number) (defScope s_z_is_number) .none kV35 dc35 pm35 an35 cd35 ct35), sl35⟩)
 (h35c : W.codeIn K cd35 "_law_is_number" = true)
 (h35k : W.keepIn K (.ref a35) = true)
 (h36a : W.nsIn K mainGlobals "_law_mixed" = some (some (.ref a36)))
 (h36l : K.lookup a36 = some ⟨oc36, od36, .func (W.fnOf "_law_mixed" "_law_mixed" (defArgs s_z_mixed) (defBody s_z_mixed) (defScope s_z_mixed) .none kV36 dc36 pm36 an36 cd36 ct36), sl36⟩)
 (h36c : W.codeIn K cd36 "_law_mixed" = true)
 (h36k : W.keepIn K (.ref a36) = true)
 (h37a : W.nsIn K mainGlobals "_law_gapped" = some (some (.ref a37)))
 (h37l : K.lookup a37 = some ⟨oc37, od37, .func (W.fnOf "_law_gapped" "_law_gapped" (defArgs s_z_gapped) (defBody s_z_gapped) (defScope s_z_gapped) .none kV37 dc37 pm37 an37 cd37 ct37), sl37⟩)
 (h37c : W.codeIn K cd37 "_law_gapped" = true)
 (h37k : W.keepIn K (.ref a37) = true)
 (h38a : W.nsIn K mainGlobals "_law_as_sign" = some (some (.ref a38)))
 (h38l : K.lookup a38 = some ⟨oc38, od38, .func (W.fnOf "_law_as_sign" "_law_as_sign" (defArgs s_z_as_sign) (defBody s_z_as_sign) (defScope s_z_as_sign) .none kV38 dc38 pm38 an38 cd38 ct38), sl38⟩)
 (h38c : W.codeIn K cd38 "_law_as_sign" = true)
 (h38k : W.keepIn K (.ref a38) = true)
 (h39a : W.nsIn K mainGlobals "_law_lists" = some (some (.ref a39)))
 (h39l : K.lookup a39 = some ⟨oc39, od39, .func (W.fnOf "_law_lists" "_law_lists" (defArgs s_z_lists) (defBody s_z_lists) (defScope s_z_lists) .none kV39 dc39 pm39 an39 cd39 ct39), sl39⟩)
 (h39c : W.codeIn K cd39 "_law_lists" = true)
 (h39k : W.keepIn K (.ref a39) = true)
 (h40a : W.nsIn K mainGlobals "_law_table" = some (some (.ref a40)))
 (h40l : K.lookup a40 = some ⟨oc40, od40, .func (W.fnOf "_law_table" "_law_table" (defArgs s_z_table) (defBody s_z_table) (defScope s_z_table) .none kV40 dc40 pm40 an40 cd40 ct40), sl40⟩)
 (h40c : W.codeIn K cd40 "_law_table" = true)
 (h40k : W.keepIn K (.ref a40) = true)
 (h41a : W.nsIn K mainGlobals "_law_model" = some (some (.ref a41)))
 (h41l : K.lookup a41 = some ⟨oc41, od41, .func (W.fnOf "_law_model" "_law_model" (defArgs s_z_model) (defBody s_z_model) (defScope s_z_model) .none kV41 dc41 pm41 an41 cd41 ct41), sl41⟩)
 (h41c : W.codeIn K cd41 "_law_model" = true)
 (h41k : W.keepIn K (.ref a41) = true)
 (h42a : W.nsIn K mainGlobals "_law_tongue" = some (some (.ref a42)))
 (h42l : K.lookup a42 = some ⟨oc42, od42, .func (W.fnOf "_law_tongue" "_law_tongue" (defArgs s_z_tongue) (defBody s_z_tongue) (defScope s_z_tongue) .none kV42 dc42 pm42 an42 cd42 ct42), sl42⟩)
 (h42c : W.codeIn K cd42 "_law_tongue" = true)
 (h42k : W.keepIn K (.ref a42) = true)
 (h43a : W.nsIn K mainGlobals "_law_lead_row" = some (some (.ref a43)))
 (h43l : K.lookup a43 = some ⟨oc43, od43, .func (W.fnOf "_law_lead_row" "_law_lead_row" (defArgs s_z_lead_row) (defBody s_z_lead_row) (defScope s_z_lead_row) .none kV43 dc43 pm43 an43 cd43 ct43), sl43⟩)
 (h43c : W.codeIn K cd43 "_law_lead_row" = true)
 (h43k : W.keepIn K (.ref a43) = true)
 (h44a : W.nsIn K mainGlobals "_law_pair_row" = some (some (.ref a44)))
 (h44l : K.lookup a44 = some ⟨oc44, od44, .func (W.fnOf "_law_pair_row" "_law_pair_row" (defArgs s_z_pair_row) (defBody s_z_pair_row) (defScope s_z_pair_row) .none kV44 dc44 pm44 an44 cd44 ct44), sl44⟩)
 (h44c : W.codeIn K cd44 "_law_pair_row" = true)
 (h44k : W.keepIn K (.ref a44) = true)
 (h45a : W.nsIn K mainGlobals "_law_spell" = some (some (.ref a45)))
 (h45l : K.lookup a45 = some ⟨oc45, od45, .func (W.fnOf "_law_spell" "_law_spell" (defArgs s_z_spell) (defBody s_z_spell) (defScope s_z_spell) .none kV45 dc45 pm45 an45 cd45 ct45), sl45⟩)
 (h45c : W.codeIn K cd45 "_law_spell" = true)
 (h45k : W.keepIn K (.ref a45) = true)
 (h46a : W.nsIn K mainGlobals "_law_text" = some (some (.ref a46)))
 (h46l : K.lookup a46 = some ⟨oc46, od46, .func (W.fnOf "_law_text" "_law_text" (defArgs s_z_text) (defBody s_z_text) (defScope s_z_text) .none kV46 dc46 pm46 an46 cd46 ct46), sl46⟩)
 (h46c : W.codeIn K cd46 "_law_text" = true)
 (h46k : W.keepIn K (.ref a46) = true)
 (h47a : W.nsIn K mainGlobals "_law_pieces" = some (some (.ref a47)))
 (h47l : K.lookup a47 = some ⟨oc47, od47, .func (W.fnOf "_law_pieces" "_law_pieces" (defArgs s_z_pieces) (defBody s_z_pieces) (defScope s_z_pieces) .none kV47 dc47 pm47 an47 cd47 ct47), sl47⟩)
 (h47c : W.codeIn K cd47 "_law_pieces" = true)
 (h47k : W.keepIn K (.ref a47) = true)
 (h48a : W.nsIn K mainGlobals "_law_lacking" = some (some (.ref a48)))
 (h48l : K.lookup a48 = some ⟨oc48, od48, .func (W.fnOf "_law_lacking" "_law_lacking" (defArgs s_z_lacking) (defBody s_z_lacking) (defScope s_z_lacking) .none kV48 dc48 pm48 an48 cd48 ct48), sl48⟩)
 (h48c : W.codeIn K cd48 "_law_lacking" = true)
 (h48k : W.keepIn K (.ref a48) = true)
 (h49a : W.nsIn K mainGlobals "_law_refused" = some (some (.ref a49)))
 (h49l : K.lookup a49 = some ⟨oc49, od49, .func (W.fnOf "_law_refused" "_law_refused" (defArgs s_z_refused) (defBody s_z_refused) (defScope s_z_refused) .none kV49 dc49 pm49 an49 cd49 ct49), sl49⟩)
 (h49c : W.codeIn K cd49 "_law_refused" = true)
 (h49k : W.keepIn K (.ref a49) = true)
 (h50a : W.nsIn K mainGlobals "_law_at" = some (some (.ref a50)))
 (h50l : K.lookup a50 = some ⟨oc50, od50, .func (W.fnOf "_law_at" "_law_at" (defArgs s_z_at) (defBody s_z_at) (defScope s_z_at) .none kV50 dc50 pm50 an50 cd50 ct50), sl50⟩)
 (h50c : W.codeIn K cd50 "_law_at" = true)
 (h50k : W.keepIn K (.ref a50) = true)
 (h51a : W.nsIn K mainGlobals "_law_fed" = some (some (.ref a51)))
 (h51l : K.lookup a51 = some ⟨oc51, od51, .func (W.fnOf "_law_fed" "_law_fed" (defArgs s_z_fed) (defBody s_z_fed) (defScope s_z_fed) .none kV51 dc51 pm51 an51 cd51 ct51), sl51⟩)
 (h51c : W.codeIn K cd51 "_law_fed" = true)
 (h51k : W.keepIn K (.ref a51) = true)
 (h52a : W.nsIn K mainGlobals "_law_tried" = some (some (.ref a52)))
 (h52l : K.lookup a52 = some ⟨oc52, od52, .func (W.fnOf "_law_tried" "_law_tried" (defArgs s_z_tried) (defBody s_z_tried) (defScope s_z_tried) .none kV52 dc52 pm52 an52 cd52 ct52), sl52⟩)
 (h52c : W.codeIn K cd52 "_law_tried" = true)
 (h52k : W.keepIn K (.ref a52) = true)
 (h53a : W.nsIn K mainGlobals "law" = some (some (.ref a53)))
 (h53l : K.lookup a53 = some ⟨oc53, od53, .func (W.fnOf "law" "law" (defArgs s_law) (defBody s_law) (defScope s_law) .none kV53 dc53 pm53 an53 cd53 ct53), sl53⟩)
 (h53c : W.codeIn K cd53 "law" = true)
 (h53k : W.keepIn K (.ref a53) = true)
 (k0 : W.nsIn K mainGlobals "BITS" = some (some (.int 6 u0)))
 (k1 : W.nsIn K mainGlobals "BYTE_BITS" = some (some (.int 8 u1)))
 (k2 : W.nsIn K mainGlobals "FILLS" = some (some (.ref ta2)))
 (kl2 : K.lookup ta2 = some ⟨.type "dict", none, .dict es2 ep2, #[]⟩)
 (kv2 : dictOfS es2.toList = some [(th2_0, ("high" : Str), ta2_0), (th2_1, ("low" : Str), ta2_1)])
 (ks2 : (ta2 == sysModules) = false)
 (kh2_0 : th2_0 = hashStr w "high")
 (kh2_1 : th2_1 = hashStr w "low")
 (k3 : W.nsIn K mainGlobals "FIRST_BEHIND" = some (some (.int 128 u3)))
 (k4 : W.nsIn K mainGlobals "FIRST_HEAD" = some (some (.int 55296 u4)))
 (k5 : W.nsIn K mainGlobals "FIRST_SEEN" = some (some (.int 61184 u5)))
 (k6 : W.nsIn K mainGlobals "FIRST_TAIL" = some (some (.int 56320 u6)))
 (k7 : W.nsIn K mainGlobals "FIRST_WIDE" = some (some (.int 65536 u7)))
 (k8 : W.nsIn K mainGlobals "HALF_BITS" = some (some (.int 10 u8)))
 (k9 : W.nsIn K mainGlobals "LAST_BYTE" = some (some (.int 255 u9)))
 (k10 : W.nsIn K mainGlobals "LAST_SEEN" = some (some (.int 61439 u10)))
 (k11 : W.nsIn K mainGlobals "LAST_SIGN" = some (some (.int 1114111 u11)))
 (k12 : W.nsIn K mainGlobals "LAST_TAIL" = some (some (.int 57343 u12)))
 (k13 : W.nsIn K mainGlobals "LEADS" = some (some (.ref ta13)))
 (kl13 : K.lookup ta13 = some ⟨.type "tuple", none, .seq ti13 tn13, ts13⟩)
 (kv13 : intsAre ([0, 0, 192, 224, 240] : List Int) ti13.toList = true)
 (kz13 : Nat.ble ti13.size 1000 = true)
 (k14 : W.nsIn K mainGlobals "MOST_BYTES" = some (some (.int 6 u14)))
 (k15 : W.nsIn K mainGlobals "MOST_SIGNS" = some (some (.int 250 u15)))
 (k16 : W.nsIn K mainGlobals "MOST_TUPLES" = some (some (.int 64 u16)))
 (k17 : W.nsIn K mainGlobals "SHIFTS" = some (some (.ref ta17)))
 (kl17 : K.lookup ta17 = some ⟨.type "tuple", none, .seq ti17 tn17, ts17⟩)
 (kv17 : intsAre ([254, 255] : List Int) ti17.toList = true)
 (kz17 : Nat.ble ti17.size 1000 = true)
 (z0 : W.nsIn K mainGlobals "ValueError" = some none)
 (z1 : W.nsIn K mainGlobals "all" = some none)
 (z2 : W.nsIn K mainGlobals "bool" = some none)
 (z3 : W.nsIn K mainGlobals "enumerate" = some none)
 (z4 : W.nsIn K mainGlobals "int" = some none)
 (z5 : W.nsIn K mainGlobals "isinstance" = some none)
 (z6 : W.nsIn K mainGlobals "len" = some none)
 (z7 : W.nsIn K mainGlobals "list" = some none)
 (z8 : W.nsIn K mainGlobals "range" = some none)
 (z9 : W.nsIn K mainGlobals "reversed" = some none)
 (z10 : W.nsIn K mainGlobals "str" = some none)
 (z11 : W.nsIn K mainGlobals "sum" = some none)
 (z12 : W.nsIn K mainGlobals "tuple" = some none)
 (z13 : W.nsIn K mainGlobals "zip" = some none) : ∃ t, Txt w K mg t := by
  have F0 := fun_mk (st := s_NoSign_init) h0l h0c h0k
  have b0 := F0.binds (ps := ["self", "sign", "at"]) (by intro _ _ _ _ _ _ us hl; revert hl; revert us; exact lm3 (fun _ _ _ => rfl))
  have F1 := fun_mk (st := s_write_from) h1l h1c h1k
  have b1 := F1.binds (ps := ["tongue", "text", "page"]) (by intro _ _ _ _ _ _ us hl; revert hl; revert us; exact lm3 (fun _ _ _ => rfl))
  have F2 := fun_mk (st := s_Writer_init) h2l h2c h2k
  have b2 := F2.binds (ps := ["self", "tongue"]) (by intro _ _ _ _ _ _ us hl; revert hl; revert us; exact lm2 (fun _ _ => rfl))
  have F3 := fun_mk (st := s_Writer_page) h3l h3c h3k
  have b3 := F3.binds (ps := ["self"]) (by intro _ _ _ _ _ _ us hl; revert hl; revert us; exact lm1 (fun _ => rfl))
  have F4 := fun_mk (st := s_Writer_feed) h4l h4c h4k
  have b4 := F4.binds (ps := ["self", "text"]) (by intro _ _ _ _ _ _ us hl; revert hl; revert us; exact lm2 (fun _ _ => rfl))
  have F5 := fun_mk (st := s_check_room) h5l h5c h5k
  have b5 := F5.binds (ps := ["number", "bits"]) (by intro _ _ _ _ _ _ us hl; revert hl; revert us; exact lm2 (fun _ _ => rfl))
  have F6 := fun_mk (st := s_parted) h6l h6c h6k
  have b6 := F6.binds (ps := ["number", "bits", "many"]) (by intro _ _ _ _ _ _ us hl; revert hl; revert us; exact lm3 (fun _ _ _ => rfl))
  have F7 := fun_mk (st := s_is_number) h7l h7c h7k
  have b7 := F7.binds (ps := ["thing"]) (by intro _ _ _ _ _ _ us hl; revert hl; revert us; exact lm1 (fun _ => rfl))
  have F8 := fun_mk (st := s_is_byte) h8l h8c h8k
  have b8 := F8.binds (ps := ["thing"]) (by intro _ _ _ _ _ _ us hl; revert hl; revert us; exact lm1 (fun _ => rfl))
  have F9 := fun_mk (st := s_is_head) h9l h9c h9k
  have b9 := F9.binds (ps := ["number"]) (by intro _ _ _ _ _ _ us hl; revert hl; revert us; exact lm1 (fun _ => rfl))
  have F10 := fun_mk (st := s_is_tail) h10l h10c h10k
  have b10 := F10.binds (ps := ["number"]) (by intro _ _ _ _ _ _ us hl; revert hl; revert us; exact lm1 (fun _ => rfl))
  have F11 := fun_mk (st := s_is_seen_byte) h11l h11c h11k
  have b11 := F11.binds (ps := ["thing"]) (by intro _ _ _ _ _ _ us hl; revert hl; revert us; exact lm1 (fun _ => rfl))
  have F12 := fun_mk (st := s_is_sign) h12l h12c h12k
  have b12 := F12.binds (ps := ["thing"]) (by intro _ _ _ _ _ _ us hl; revert hl; revert us; exact lm1 (fun _ => rfl))
  have F13 := fun_mk (st := s_is_row) h13l h13c h13k
  have b13 := F13.binds (ps := ["thing"]) (by intro _ _ _ _ _ _ us hl; revert hl; revert us; exact lm1 (fun _ => rfl))
  have F14 := funD_mk (st := s_Tongue_spell) h14l h14c h14k h14d
  have bd14 := F14.binds (ps := ["self", "sign", "page"]) (ds := [.int 0 ud14_0]) (by intro _ _ _ _ _ _ _ us hl; have hm : us.length = 2 := (by have := hl; simp at this; omega); clear hl; revert hm; revert us; exact lm2 (fun _ _ => ⟨_, rfl, rfl⟩))
  have b14 := F14.binds (ps := ["self", "sign", "page"]) (ds := []) (by intro _ _ _ _ _ _ _ us hl; have hm : us.length = 3 := (by have := hl; simp at this; omega); clear hl; revert hm; revert us; exact lm3 (fun _ _ _ => ⟨_, rfl, rfl⟩))
  have F15 := fun_mk (st := s_length_of) h15l h15c h15k
  have b15 := F15.binds (ps := ["sign"]) (by intro _ _ _ _ _ _ us hl; revert hl; revert us; exact lm1 (fun _ => rfl))
  have F16 := fun_mk (st := s_lead_row) h16l h16c h16k
  have b16 := F16.binds (ps := ["sign"]) (by intro _ _ _ _ _ _ us hl; revert hl; revert us; exact lm1 (fun _ => rfl))
  have F17 := funD_mk (st := s_LeadTongue_spell) h17l h17c h17k h17d
  have bd17 := F17.binds (ps := ["self", "sign", "page"]) (ds := [.int 0 ud17_0]) (by intro _ _ _ _ _ _ _ us hl; have hm : us.length = 2 := (by have := hl; simp at this; omega); clear hl; revert hm; revert us; exact lm2 (fun _ _ => ⟨_, rfl, rfl⟩))
  have b17 := F17.binds (ps := ["self", "sign", "page"]) (ds := []) (by intro _ _ _ _ _ _ _ us hl; have hm : us.length = 3 := (by have := hl; simp at this; omega); clear hl; revert hm; revert us; exact lm3 (fun _ _ _ => ⟨_, rfl, rfl⟩))
  have F18 := fun_mk (st := s_units_of) h18l h18c h18k
  have b18 := F18.binds (ps := ["sign"]) (by intro _ _ _ _ _ _ us hl; revert hl; revert us; exact lm1 (fun _ => rfl))
  have F19 := funD_mk (st := s_PairTongue_init) h19l h19c h19k h19d
  have bd19 := F19.binds (ps := ["self", "order"]) (ds := [.str "high" ud19_0]) (by intro _ _ _ _ _ _ _ us hl; have hm : us.length = 1 := (by have := hl; simp at this; omega); clear hl; revert hm; revert us; exact lm1 (fun _ => ⟨_, rfl, rfl⟩))
  have b19 := F19.binds (ps := ["self", "order"]) (ds := []) (by intro _ _ _ _ _ _ _ us hl; have hm : us.length = 2 := (by have := hl; simp at this; omega); clear hl; revert hm; revert us; exact lm2 (fun _ _ => ⟨_, rfl, rfl⟩))
  have F20 := fun_mk (st := s_PairTongue_turned) h20l h20c h20k
  have b20 := F20.binds (ps := ["self", "pair"]) (by intro _ _ _ _ _ _ us hl; revert hl; revert us; exact lm2 (fun _ _ => rfl))
  have F21 := fun_mk (st := s_PairTongue_row_of) h21l h21c h21k
  have b21 := F21.binds (ps := ["self", "units"]) (by intro _ _ _ _ _ _ us hl; revert hl; revert us; exact lm2 (fun _ _ => rfl))
  have F22 := funD_mk (st := s_PairTongue_spell) h22l h22c h22k h22d
  have bd22 := F22.binds (ps := ["self", "sign", "page"]) (ds := [.int 0 ud22_0]) (by intro _ _ _ _ _ _ _ us hl; have hm : us.length = 2 := (by have := hl; simp at this; omega); clear hl; revert hm; revert us; exact lm2 (fun _ _ => ⟨_, rfl, rfl⟩))
  have b22 := F22.binds (ps := ["self", "sign", "page"]) (ds := []) (by intro _ _ _ _ _ _ _ us hl; have hm : us.length = 3 := (by have := hl; simp at this; omega); clear hl; revert hm; revert us; exact lm3 (fun _ _ _ => ⟨_, rfl, rfl⟩))
  have F23 := fun_mk (st := s_begins) h23l h23c h23k
  have b23 := F23.binds (ps := ["one", "other"]) (by intro _ _ _ _ _ _ us hl; revert hl; revert us; exact lm2 (fun _ _ => rfl))
  have F24 := fun_mk (st := s_places_in) h24l h24c h24k
  have b24 := F24.binds (ps := ["signs", "which"]) (by intro _ _ _ _ _ _ us hl; revert hl; revert us; exact lm2 (fun _ _ => rfl))
  have F25 := fun_mk (st := s_ShiftTongue_init) h25l h25c h25k
  have b25 := F25.binds (ps := ["self", "first", "second"]) (by intro _ _ _ _ _ _ us hl; revert hl; revert us; exact lm3 (fun _ _ _ => rfl))
  have F26 := fun_mk (st := s_ShiftTongue_row_beyond) h26l h26c h26k
  have b26 := F26.binds (ps := ["self", "page"]) (by intro _ _ _ _ _ _ us hl; revert hl; revert us; exact lm2 (fun _ _ => rfl))
  have F27 := funD_mk (st := s_ShiftTongue_spell) h27l h27c h27k h27d
  have bd27 := F27.binds (ps := ["self", "sign", "page"]) (ds := [.int 0 ud27_0]) (by intro _ _ _ _ _ _ _ us hl; have hm : us.length = 2 := (by have := hl; simp at this; omega); clear hl; revert hm; revert us; exact lm2 (fun _ _ => ⟨_, rfl, rfl⟩))
  have b27 := F27.binds (ps := ["self", "sign", "page"]) (ds := []) (by intro _ _ _ _ _ _ _ us hl; have hm : us.length = 3 := (by have := hl; simp at this; omega); clear hl; revert hm; revert us; exact lm3 (fun _ _ _ => ⟨_, rfl, rfl⟩))
  have F28 := fun_mk (st := s_is_entry) h28l h28c h28k
  have b28 := F28.binds (ps := ["thing"]) (by intro _ _ _ _ _ _ us hl; revert hl; revert us; exact lm1 (fun _ => rfl))
  have F29 := fun_mk (st := s_collide) h29l h29c h29k
  have b29 := F29.binds (ps := ["one", "other"]) (by intro _ _ _ _ _ _ us hl; revert hl; revert us; exact lm2 (fun _ _ => rfl))
  have F30 := fun_mk (st := s_check_table) h30l h30c h30k
  have b30 := F30.binds (ps := ["rows"]) (by intro _ _ _ _ _ _ us hl; revert hl; revert us; exact lm1 (fun _ => rfl))
  have F31 := fun_mk (st := s_TableTongue_init) h31l h31c h31k
  have b31 := F31.binds (ps := ["self", "rows"]) (by intro _ _ _ _ _ _ us hl; revert hl; revert us; exact lm2 (fun _ _ => rfl))
  have F32 := fun_mk (st := s_TableTongue_enter) h32l h32c h32k
  have b32 := F32.binds (ps := ["self", "sign", "row"]) (by intro _ _ _ _ _ _ us hl; revert hl; revert us; exact lm3 (fun _ _ _ => rfl))
  have F33 := funD_mk (st := s_TableTongue_spell) h33l h33c h33k h33d
  have bd33 := F33.binds (ps := ["self", "sign", "page"]) (ds := [.int 0 ud33_0]) (by intro _ _ _ _ _ _ _ us hl; have hm : us.length = 2 := (by have := hl; simp at this; omega); clear hl; revert hm; revert us; exact lm2 (fun _ _ => ⟨_, rfl, rfl⟩))
  have b33 := F33.binds (ps := ["self", "sign", "page"]) (ds := []) (by intro _ _ _ _ _ _ _ us hl; have hm : us.length = 3 := (by have := hl; simp at this; omega); clear hl; revert hm; revert us; exact lm3 (fun _ _ _ => ⟨_, rfl, rfl⟩))
  have F34 := fun_mk (st := s_z_drawn) h34l h34c h34k
  have b34 := F34.binds (ps := ["_law_script", "_law_at_here"]) (by intro _ _ _ _ _ _ us hl; revert hl; revert us; exact lm2 (fun _ _ => rfl))
  have F35 := fun_mk (st := s_z_is_number) h35l h35c h35k
  have b35 := F35.binds (ps := ["_law_found"]) (by intro _ _ _ _ _ _ us hl; revert hl; revert us; exact lm1 (fun _ => rfl))
  have F36 := fun_mk (st := s_z_mixed) h36l h36c h36k
  have b36 := F36.binds (ps := ["_law_number", "_law_k"]) (by intro _ _ _ _ _ _ us hl; revert hl; revert us; exact lm2 (fun _ _ => rfl))
  have F37 := fun_mk (st := s_z_gapped) h37l h37c h37k
  have b37 := F37.binds (ps := ["_law_number"]) (by intro _ _ _ _ _ _ us hl; revert hl; revert us; exact lm1 (fun _ => rfl))
  have F38 := fun_mk (st := s_z_as_sign) h38l h38c h38k
  have b38 := F38.binds (ps := ["_law_number"]) (by intro _ _ _ _ _ _ us hl; revert hl; revert us; exact lm1 (fun _ => rfl))
  have F39 := fun_mk (st := s_z_lists) h39l h39c h39k
  have b39 := F39.binds (ps := ["_law_number"]) (by intro _ _ _ _ _ _ us hl; revert hl; revert us; exact lm1 (fun _ => rfl))
  have F40 := fun_mk (st := s_z_table) h40l h40c h40k
  have b40 := F40.binds (ps := ["_law_number"]) (by intro _ _ _ _ _ _ us hl; revert hl; revert us; exact lm1 (fun _ => rfl))
  have F41 := fun_mk (st := s_z_model) h41l h41c h41k
  have b41 := F41.binds (ps := ["_law_cell"]) (by intro _ _ _ _ _ _ us hl; revert hl; revert us; exact lm1 (fun _ => rfl))
  have F42 := fun_mk (st := s_z_tongue) h42l h42c h42k
  have b42 := F42.binds (ps := ["_law_model_here"]) (by intro _ _ _ _ _ _ us hl; revert hl; revert us; exact lm1 (fun _ => rfl))
  have F43 := fun_mk (st := s_z_lead_row) h43l h43c h43k
  have b43 := F43.binds (ps := ["_law_sign"]) (by intro _ _ _ _ _ _ us hl; revert hl; revert us; exact lm1 (fun _ => rfl))
  have F44 := fun_mk (st := s_z_pair_row) h44l h44c h44k
  have b44 := F44.binds (ps := ["_law_sign", "_law_word"]) (by intro _ _ _ _ _ _ us hl; revert hl; revert us; exact lm2 (fun _ _ => rfl))
  have F45 := fun_mk (st := s_z_spell) h45l h45c h45k
  have b45 := F45.binds (ps := ["_law_model_here", "_law_sign", "_law_page"]) (by intro _ _ _ _ _ _ us hl; revert hl; revert us; exact lm3 (fun _ _ _ => rfl))
  have F46 := fun_mk (st := s_z_text) h46l h46c h46k
  have b46 := F46.binds (ps := ["_law_model_here", "_law_cells"]) (by intro _ _ _ _ _ _ us hl; revert hl; revert us; exact lm2 (fun _ _ => rfl))
  have F47 := fun_mk (st := s_z_pieces) h47l h47c h47k
  have b47 := F47.binds (ps := ["_law_row", "_law_cell"]) (by intro _ _ _ _ _ _ us hl; revert hl; revert us; exact lm2 (fun _ _ => rfl))
  have F48 := fun_mk (st := s_z_lacking) h48l h48c h48k
  have b48 := F48.binds (ps := ["_law_model_here", "_law_cell"]) (by intro _ _ _ _ _ _ us hl; revert hl; revert us; exact lm2 (fun _ _ => rfl))
  have F49 := fun_mk (st := s_z_refused) h49l h49c h49k
  have b49 := F49.binds (ps := ["_law_writer", "_law_piece"]) (by intro _ _ _ _ _ _ us hl; revert hl; revert us; exact lm2 (fun _ _ => rfl))
  have F50 := fun_mk (st := s_z_at) h50l h50c h50k
  have b50 := F50.binds (ps := ["_law_writer", "_law_piece"]) (by intro _ _ _ _ _ _ us hl; revert hl; revert us; exact lm2 (fun _ _ => rfl))
  have F51 := fun_mk (st := s_z_fed) h51l h51c h51k
  have b51 := F51.binds (ps := ["_law_writer", "_law_model_here", "_law_piece", "_law_page", "_law_told"]) (by intro _ _ _ _ _ _ us hl; revert hl; revert us; exact lm5 (fun _ _ _ _ _ => rfl))
  have F52 := fun_mk (st := s_z_tried) h52l h52c h52k
  have b52 := F52.binds (ps := ["_law_writer", "_law_piece", "_law_thing", "_law_cell", "_law_page"]) (by intro _ _ _ _ _ _ us hl; revert hl; revert us; exact lm5 (fun _ _ _ _ _ => rfl))
  have F53 := fun_mk (st := s_law) h53l h53c h53k
  have b53 := F53.binds (ps := ["_law_script"]) (by intro _ _ _ _ _ _ us hl; revert hl; revert us; exact lm1 (fun _ => rfl))
  exact ⟨⟨a0, _, a1, _, a2, _, a3, _, a4, _, a5, _, a6, _, a7, _, a8, _, a9, _, a10, _, a11, _, a12, _, a13, _, a14, _, ud14_0, a15, _, a16, _, a17, _, ud17_0, a18, _, a19, _, ud19_0, a20, _, a21, _, a22, _, ud22_0, a23, _, a24, _, a25, _, a26, _, a27, _, ud27_0, a28, _, a29, _, a30, _, a31, _, a32, _, a33, _, ud33_0, a34, _, a35, _, a36, _, a37, _, a38, _, a39, _, a40, _, a41, _, a42, _, a43, _, a44, _, a45, _, a46, _, a47, _, a48, _, a49, _, a50, _, a51, _, a52, _, a53, _, ccWriter, ccTongue, ccLeadTongue, ccPairTongue, ccShiftTongue, ccTableTongue, eeBadLetters, eeBadPage, eeBadTable, eeFaulty, eeNoOrder, eeNoSign, eeTongueError, eeTooGreat, u0, u1, ta2, th2_0, ta2_0, th2_1, ta2_1, u3, u4, u5, u6, u7, u8, u9, u10, u11, u12, ta13, u14, u15, u16, ta17⟩, ⟨F0, b0, F1, b1, W.mg_of X G h1a, F2, b2, F3, b3, F4, b4, F5, b5, W.mg_of X G h5a, F6, b6, W.mg_of X G h6a, F7, b7, W.mg_of X G h7a, F8, b8, W.mg_of X G h8a, F9, b9, W.mg_of X G h9a, F10, b10, W.mg_of X G h10a, F11, b11, W.mg_of X G h11a, F12, b12, W.mg_of X G h12a, F13, b13, W.mg_of X G h13a, F14, bd14, b14, F15, b15, W.mg_of X G h15a, F16, b16, W.mg_of X G h16a, F17, bd17, b17, F18, b18, W.mg_of X G h18a, F19, bd19, b19, F20, b20, F21, b21, F22, bd22, b22, F23, b23, W.mg_of X G h23a, F24, b24, W.mg_of X G h24a, F25, b25, F26, b26, F27, bd27, b27, F28, b28, W.mg_of X G h28a, F29, b29, W.mg_of X G h29a, F30, b30, W.mg_of X G h30a, F31, b31, F32, b32, F33, bd33, b33, F34, b34, W.mg_of X G h34a, F35, b35, W.mg_of X G h35a, F36, b36, W.mg_of X G h36a, F37, b37, W.mg_of X G h37a, F38, b38, W.mg_of X G h38a, F39, b39, W.mg_of X G h39a, F40, b40, W.mg_of X G h40a, F41, b41, W.mg_of X G h41a, F42, b42, W.mg_of X G h42a, F43, b43, W.mg_of X G h43a, F44, b44, W.mg_of X G h44a, F45, b45, W.mg_of X G h45a, F46, b46, W.mg_of X G h46a, F47, b47, W.mg_of X G h47a, F48, b48, W.mg_of X G h48a, F49, b49, W.mg_of X G h49a, F50, b50, W.mg_of X G h50a, F51, b51, W.mg_of X G h51a, F52, b52, W.mg_of X G h52a, F53, b53, W.mg_of X G h53a, W.mg_of X G cg_Writer, ⟨cp_Writer, cd_Writer, co_Writer, cs_Writer⟩, ⟨cm_Writer, h2a, h2f, ck_Writer⟩, ⟨h3a, h3f, h3k⟩, ⟨h4a, h4f, h4k⟩, cn_Writer_at_page, cn_Writer_tongue, fun H a dx fs e => .ins e ⟨cp_Writer, cd_Writer, co_Writer, cs_Writer⟩ ct_Writer cu_Writer cv_Writer cw_Writer, W.mg_of X G cg_Tongue, ⟨cp_Tongue, cd_Tongue, co_Tongue, cs_Tongue⟩, ⟨cm_Tongue, ci_Tongue, ck_Tongue⟩, ⟨h14a, h14f, h14k⟩, fun H a dx fs e => .ins e ⟨cp_Tongue, cd_Tongue, co_Tongue, cs_Tongue⟩ ct_Tongue cu_Tongue cv_Tongue cw_Tongue, W.mg_of X G cg_LeadTongue, ⟨cp_LeadTongue, cd_LeadTongue, co_LeadTongue, cs_LeadTongue⟩, ⟨cm_LeadTongue, ci_LeadTongue, ck_LeadTongue⟩, ⟨h17a, h17f, h17k⟩, fun H a dx fs e => .ins e ⟨cp_LeadTongue, cd_LeadTongue, co_LeadTongue, cs_LeadTongue⟩ ct_LeadTongue cu_LeadTongue cv_LeadTongue cw_LeadTongue, W.mg_of X G cg_PairTongue, ⟨cp_PairTongue, cd_PairTongue, co_PairTongue, cs_PairTongue⟩, ⟨cm_PairTongue, h19a, h19f, ck_PairTongue⟩, ⟨h20a, h20f, h20k⟩, ⟨h21a, h21f, h21k⟩, ⟨h22a, h22f, h22k⟩, cn_PairTongue_order, fun H a dx fs e => .ins e ⟨cp_PairTongue, cd_PairTongue, co_PairTongue, cs_PairTongue⟩ ct_PairTongue cu_PairTongue cv_PairTongue cw_PairTongue, W.mg_of X G cg_ShiftTongue, ⟨cp_ShiftTongue, cd_ShiftTongue, co_ShiftTongue, cs_ShiftTongue⟩, ⟨cm_ShiftTongue, h25a, h25f, ck_ShiftTongue⟩, ⟨h26a, h26f, h26k⟩, ⟨h27a, h27f, h27k⟩, cn_ShiftTongue_lists, cn_ShiftTongue_places, cn_ShiftTongue_shifted, fun H a dx fs e => .ins e ⟨cp_ShiftTongue, cd_ShiftTongue, co_ShiftTongue, cs_ShiftTongue⟩ ct_ShiftTongue cu_ShiftTongue cv_ShiftTongue cw_ShiftTongue, W.mg_of X G cg_TableTongue, ⟨cp_TableTongue, cd_TableTongue, co_TableTongue, cs_TableTongue⟩, ⟨cm_TableTongue, h31a, h31f, ck_TableTongue⟩, ⟨h32a, h32f, h32k⟩, ⟨h33a, h33f, h33k⟩, cn_TableTongue_rest_by_row, cn_TableTongue_row_by_sign, cn_TableTongue_sign_by_row, fun H a dx fs e => .ins e ⟨cp_TableTongue, cd_TableTongue, co_TableTongue, cs_TableTongue⟩ ct_TableTongue cu_TableTongue cv_TableTongue cw_TableTongue, W.mg_of X G ge_BadLetters, W.mg_of X G ge_BadPage, W.mg_of X G ge_BadTable, W.mg_of X G ge_Faulty, W.mg_of X G ge_NoOrder, W.mg_of X G ge_NoSign, W.mg_of X G ge_TongueError, W.mg_of X G ge_TooGreat, ⟨xc_NoSign_0, xc_NoSign_1, xc_NoSign_2, xc_NoSign_3, xc_NoSign_4, xc_NoSign_5, xc_NoSign_6, xc_NoSign_7⟩, xm_NoSign_NoSign, xm_NoSign_TongueError, xk_NoSign_NoSign, xk_NoSign_ValueError, xt_NoSign, ea_NoSign, ei_NoSign, ej_NoSign, ek_NoSign, eq_NoSign, en_NoSign_at, en_NoSign_sign, eb_0, eb_1, eb_2, xn_NoSign, W.mg_of X G k0, W.mg_of X G k1, W.mg_of X G k2, ⟨⟨_, _, kl2, kv2⟩, List.forall_mem_cons.mpr ⟨kh2_0, List.forall_mem_cons.mpr ⟨kh2_1, fun _ z => nomatch z⟩⟩, (show List.Nodup (["high", "low"] : List Str) by decide +kernel), ks2⟩, W.mg_of X G k3, W.mg_of X G k4, W.mg_of X G k5, W.mg_of X G k6, W.mg_of X G k7, W.mg_of X G k8, W.mg_of X G k9, W.mg_of X G k10, W.mg_of X G k11, W.mg_of X G k12, W.mg_of X G k13, tupK kl13 kv13 (Nat.le_of_ble_eq_true kz13), ⟨_, kl13, rfl, rfl⟩, W.mg_of X G k14, W.mg_of X G k15, W.mg_of X G k16, W.mg_of X G k17, tupK kl17 kv17 (Nat.le_of_ble_eq_true kz17), ⟨_, kl17, rfl, rfl⟩, W.mg_none_of X G z0, W.mg_none_of X G z1, W.mg_none_of X G z2, W.mg_none_of X G z3, W.mg_none_of X G z4, W.mg_none_of X G z5, W.mg_none_of X G z6, W.mg_none_of X G z7, W.mg_none_of X G z8, W.mg_none_of X G z9, W.mg_none_of X G z10, W.mg_none_of X G z11, W.mg_none_of X G z12, W.mg_none_of X G z13⟩⟩
theorem walk {l : PySem.W.OpenLaw} {q : Program} {loose : List Str} {XP : (Str -> Option Value) -> Heap -> Prop} {YP : World -> Heap -> Prop} {d : DefRec} {K : Params -> PySem.W.Frag} (hn : l.most = some 63) (hdf : d.params.defaults = []) (hnm : d.name = "law")
    (hY : ∀ (w : World) (h : Heap), YP w h -> (K w.params).In h)
    (F : ∀ (w : World) (mg : Str -> Option Value) (h : Heap), (K w.params).In h -> h.Ns mainGlobals mg -> ∃ t, Txt w (K w.params) mg t) :
    PySem.W.WalkO q loose XP YP l.row.toRowW d [] (fun f vs => PySem.call f vs) := by
  refine L2.walk_of (n := 63) (k := 9) (x := "_law_script") (CX := fun _ => CX0) (sp := fun w => sp_law (K w.params)) hn (by decide) hdf ⟨rfl, by decide, by decide⟩ hY (fun w mg fa h KX G hmg => ?_) (fun _ _ a ns hl _ hS => ⟨a, rfl, ns, hS, hl, fun _ => rfl⟩) fun _ _ _ _ _ z => z
  obtain ⟨t, T⟩ := F w mg h KX G
  rw [hnm] at hmg
  have e := hmg.symm.trans T.g_law
  cases e
  obtain ⟨oc, od, kV, doc, pm, an, cdv, ct, osl, e1, lk, hcd⟩ := T.F_law.ex
  refine ⟨t.f_law, fun s u => ?_, fun base _ _ => (h_law (P := l.prog) (w := w) (base := base) T).ok⟩
  rw [e1]
  exact .of_eq rfl
end My
theorem PySem.W.Fast.tw10698529937208876405 : True := trivial
theorem PySem.W.Fast.tw12433140617972029324 : True := trivial
theorem PySem.W.Fast.tw13791735764965381738 : True := trivial
theorem PySem.W.Fast.tw1407911024537450489 : True := trivial
theorem PySem.W.Fast.tw14251675612031103580 : True := trivial
theorem PySem.W.Fast.tw14322036932839199485 : True := trivial
theorem PySem.W.Fast.tw14361499867188312506 : True := trivial
theorem PySem.W.Fast.tw14486379837772066330 : True := trivial
theorem PySem.W.Fast.tw15067736514499167489 : True := trivial
theorem PySem.W.Fast.tw15349015603679422583 : True := trivial
theorem PySem.W.Fast.tw155602710645043596 : True := trivial
theorem PySem.W.Fast.tw15834553102835186756 : True := trivial
theorem PySem.W.Fast.tw15866547130444294202 : True := trivial
theorem PySem.W.Fast.tw16396679505663224263 : True := trivial
theorem PySem.W.Fast.tw16552376113892978128 : True := trivial
theorem PySem.W.Fast.tw16555854669706593007 : True := trivial
theorem PySem.W.Fast.tw17308454022066713904 : True := trivial
theorem PySem.W.Fast.tw17745837069900595650 : True := trivial
theorem PySem.W.Fast.tw18403208958617819974 : True := trivial
theorem PySem.W.Fast.tw18416455540672296206 : True := trivial
theorem PySem.W.Fast.tw222772114885011563 : True := trivial
theorem PySem.W.Fast.tw2724361339823187113 : True := trivial
theorem PySem.W.Fast.tw476663579238261161 : True := trivial
theorem PySem.W.Fast.tw6504094952633568382 : True := trivial
theorem PySem.W.Fast.tw6506262617087939516 : True := trivial
theorem PySem.W.Fast.tw7367562730764990274 : True := trivial
theorem PySem.W.Fast.tw7531930913666734773 : True := trivial
theorem PySem.W.Fast.tw8356349726306929088 : True := trivial
open PySem PySem.W PyProof.Rows
set_option maxRecDepth 100000 in
set_option maxHeartbeats 0 in
theorem PySem.Challenge.cw_bytetongue_k65_writer_in_pieces_holds : PySem.Challenge.rw_bytetongue_k65_writer_in_pieces.Holds := by
  w_on; o_law; k_head; (case hw => w_witness2)
  k_fill
  refine My.walk (l := PySem.Challenge.rw_bytetongue_k65_writer_in_pieces) rfl rfl rfl (fun w h Y => PySem.W.kIn_of Y) ?F
  case F =>
    intro w mg h KX G
    refine' My.txt_mk KX G ?ge_BadLetters ?ge_BadPage ?ge_BadTable ?ge_Faulty ?ge_NoOrder ?ge_NoSign ?ge_TongueError ?ge_TooGreat ?xc_NoSign_0 ?xc_NoSign_1 ?xc_NoSign_2 ?xc_NoSign_3 ?xc_NoSign_4 ?xc_NoSign_5 ?xc_NoSign_6 ?xc_NoSign_7 ?xm_NoSign_NoSign ?xm_NoSign_TongueError ?xk_NoSign_NoSign ?xk_NoSign_ValueError ?xt_NoSign ?ea_NoSign ?ei_NoSign ?ej_NoSign ?ek_NoSign ?eq_NoSign ?en_NoSign_at ?en_NoSign_sign ?eb_0 ?eb_1 ?eb_2 ?xn_NoSign ?h0l ?h0c ?h0k ?h1a ?h1l ?h1c ?h1k ?cg_Writer ?cp_Writer ?cd_Writer ?co_Writer ?cs_Writer ?cm_Writer ?ck_Writer ?ct_Writer ?cu_Writer ?cv_Writer ?cw_Writer ?cn_Writer_at_page ?cn_Writer_tongue ?h2a ?h2f ?h2l ?h2c ?h2k ?h3a ?h3f ?h3l ?h3c ?h3k ?h4a ?h4f ?h4l ?h4c ?h4k ?h5a ?h5l ?h5c ?h5k ?h6a ?h6l ?h6c ?h6k ?h7a ?h7l ?h7c ?h7k ?h8a ?h8l ?h8c ?h8k ?h9a ?h9l ?h9c ?h9k ?h10a ?h10l ?h10c ?h10k ?h11a ?h11l ?h11c ?h11k ?h12a ?h12l ?h12c ?h12k ?h13a ?h13l ?h13c ?h13k ?cg_Tongue ?cp_Tongue ?cd_Tongue ?co_Tongue ?cs_Tongue ?cm_Tongue ?ck_Tongue ?ci_Tongue ?ct_Tongue ?cu_Tongue ?cv_Tongue ?cw_Tongue ?h14a ?h14f ?h14l ?h14c ?h14k ?h14d ?h15a ?h15l ?h15c ?h15k ?h16a ?h16l ?h16c ?h16k ?cg_LeadTongue ?cp_LeadTongue ?cd_LeadTongue ?co_LeadTongue ?cs_LeadTongue ?cm_LeadTongue ?ck_LeadTongue ?ci_LeadTongue ?ct_LeadTongue ?cu_LeadTongue ?cv_LeadTongue ?cw_LeadTongue ?h17a ?h17f ?h17l ?h17c ?h17k ?h17d ?h18a ?h18l ?h18c ?h18k ?cg_PairTongue ?cp_PairTongue ?cd_PairTongue ?co_PairTongue ?cs_PairTongue ?cm_PairTongue ?ck_PairTongue ?ct_PairTongue ?cu_PairTongue ?cv_PairTongue ?cw_PairTongue ?cn_PairTongue_order ?h19a ?h19f ?h19l ?h19c ?h19k ?h19d ?h20a ?h20f ?h20l ?h20c ?h20k ?h21a ?h21f ?h21l ?h21c ?h21k ?h22a ?h22f ?h22l ?h22c ?h22k ?h22d ?h23a ?h23l ?h23c ?h23k ?h24a ?h24l ?h24c ?h24k ?cg_ShiftTongue ?cp_ShiftTongue ?cd_ShiftTongue ?co_ShiftTongue ?cs_ShiftTongue ?cm_ShiftTongue ?ck_ShiftTongue ?ct_ShiftTongue ?cu_ShiftTongue ?cv_ShiftTongue ?cw_ShiftTongue ?cn_ShiftTongue_lists ?cn_ShiftTongue_places ?cn_ShiftTongue_shifted ?h25a ?h25f ?h25l ?h25c ?h25k ?h26a ?h26f ?h26l ?h26c ?h26k ?h27a ?h27f ?h27l ?h27c ?h27k ?h27d ?h28a ?h28l ?h28c ?h28k ?h29a ?h29l ?h29c ?h29k ?h30a ?h30l ?h30c ?h30k ?cg_TableTongue ?cp_TableTongue ?cd_TableTongue ?co_TableTongue ?cs_TableTongue ?cm_TableTongue ?ck_TableTongue ?ct_TableTongue ?cu_TableTongue ?cv_TableTongue ?cw_TableTongue ?cn_TableTongue_rest_by_row ?cn_TableTongue_row_by_sign ?cn_TableTongue_sign_by_row ?h31a ?h31f ?h31l ?h31c ?h31k ?h32a ?h32f ?h32l ?h32c ?h32k ?h33a ?h33f ?h33l ?h33c ?h33k ?h33d ?h34a ?h34l ?h34c ?h34k ?h35a ?h35l ?h35c ?h35k ?h36a ?h36l ?h36c ?h36k ?h37a ?h37l ?h37c ?h37k ?h38a ?h38l ?h38c ?h38k ?h39a ?h39l ?h39c ?h39k ?h40a ?h40l ?h40c ?h40k ?h41a ?h41l ?h41c ?h41k ?h42a ?h42l ?h42c ?h42k ?h43a ?h43l ?h43c ?h43k ?h44a ?h44l ?h44c ?h44k ?h45a ?h45l ?h45c ?h45k ?h46a ?h46l ?h46c ?h46k ?h47a ?h47l ?h47c ?h47k ?h48a ?h48l ?h48c ?h48k ?h49a ?h49l ?h49c ?h49k ?h50a ?h50l ?h50c ?h50k ?h51a ?h51l ?h51c ?h51k ?h52a ?h52l ?h52c ?h52k ?h53a ?h53l ?h53c ?h53k ?k0 ?k1 ?k2 ?kl2 ?kv2 ?ks2 ?kh2_0 ?kh2_1 ?k3 ?k4 ?k5 ?k6 ?k7 ?k8 ?k9 ?k10 ?k11 ?k12 ?k13 ?kl13 ?kv13 ?kz13 ?k14 ?k15 ?k16 ?k17 ?kl17 ?kv17 ?kz17 ?z0 ?z1 ?z2 ?z3 ?z4 ?z5 ?z6 ?z7 ?z8 ?z9 ?z10 ?z11 ?z12 ?z13
    (case ge_BadLetters => k_is)
    (case ge_BadPage => k_is)
    (case ge_BadTable => k_is)
    (case ge_Faulty => k_is)
    (case ge_NoOrder => k_is)
    (case ge_NoSign => k_is)
    (case ge_TongueError => k_is)
    (case ge_TooGreat => k_is)
    (case xc_NoSign_0 => k_is)
    (case xc_NoSign_1 => k_is)
    (case xc_NoSign_2 => k_is)
    (case xc_NoSign_3 => k_is)
    (case xc_NoSign_4 => k_is)
    (case xc_NoSign_5 => k_is)
    (case xc_NoSign_6 => k_is)
    (case xc_NoSign_7 => k_is)
    (case xm_NoSign_NoSign => kts_exm)
    (case xm_NoSign_TongueError => kts_exm)
    (case xk_NoSign_NoSign => kit_is)
    (case xk_NoSign_ValueError => kit_is)
    (case xt_NoSign => kernel_rfl)
    (case ea_NoSign => kernel_rfl)
    (case ei_NoSign => k_is)
    (case ej_NoSign => k_is)
    (case ek_NoSign => k_is)
    (case eq_NoSign => k_is)
    (case en_NoSign_at => k_is)
    (case en_NoSign_sign => k_is)
    (case eb_0 => k_is)
    (case eb_1 => k_is)
    (case eb_2 => k_is)
    (case xn_NoSign => kit_is)
    (case h0l => k_is)
    (case h0c => k_is)
    (case h0k => k_is)
    (case h1a => k_is)
    (case h1l => k_is)
    (case h1c => k_is)
    (case h1k => k_is)
    (case cg_Writer => k_is)
    (case cp_Writer => k_is)
    (case cd_Writer => k_is)
    (case co_Writer => k_is)
    (case cs_Writer => k_is)
    (case cm_Writer => k_is)
    (case ck_Writer => k_is)
    (case ct_Writer => k_is)
    (case cu_Writer => k_is)
    (case cv_Writer => k_is)
    (case cw_Writer => k_is)
    (case cn_Writer_at_page => k_is)
    (case cn_Writer_tongue => k_is)
    (case h2a => k_is)
    (case h2f => k_is)
    (case h2l => k_is)
    (case h2c => k_is)
    (case h2k => k_is)
    (case h3a => k_is)
    (case h3f => k_is)
    (case h3l => k_is)
    (case h3c => k_is)
    (case h3k => k_is)
    (case h4a => k_is)
    (case h4f => k_is)
    (case h4l => k_is)
    (case h4c => k_is)
    (case h4k => k_is)
    (case h5a => k_is)
    (case h5l => k_is)
    (case h5c => k_is)
    (case h5k => k_is)
    (case h6a => k_is)
    (case h6l => k_is)
    (case h6c => k_is)
    (case h6k => k_is)
    (case h7a => k_is)
    (case h7l => k_is)
    (case h7c => k_is)
    (case h7k => k_is)
    (case h8a => k_is)
    (case h8l => k_is)
    (case h8c => k_is)
    (case h8k => k_is)
    (case h9a => k_is)
    (case h9l => k_is)
    (case h9c => k_is)
    (case h9k => k_is)
    (case h10a => k_is)
    (case h10l => k_is)
    (case h10c => k_is)
    (case h10k => k_is)
    (case h11a => k_is)
    (case h11l => k_is)
    (case h11c => k_is)
    (case h11k => k_is)
    (case h12a => k_is)
    (case h12l => k_is)
    (case h12c => k_is)
    (case h12k => k_is)
    (case h13a => k_is)
    (case h13l => k_is)
    (case h13c => k_is)
    (case h13k => k_is)
    (case cg_Tongue => k_is)
    (case cp_Tongue => k_is)
    (case cd_Tongue => k_is)
    (case co_Tongue => k_is)
    (case cs_Tongue => k_is)
    (case cm_Tongue => k_is)
    (case ck_Tongue => k_is)
    (case ci_Tongue => k_is)
    (case ct_Tongue => k_is)
    (case cu_Tongue => k_is)
    (case cv_Tongue => k_is)
    (case cw_Tongue => k_is)
    (case h14a => k_is)
    (case h14f => k_is)
    (case h14l => k_is)
    (case h14c => k_is)
    (case h14k => k_is)
    (case h14d => k_is)
    (case h15a => k_is)
    (case h15l => k_is)
    (case h15c => k_is)
    (case h15k => k_is)
    (case h16a => k_is)
    (case h16l => k_is)
    (case h16c => k_is)
    (case h16k => k_is)
    (case cg_LeadTongue => k_is)
    (case cp_LeadTongue => k_is)
    (case cd_LeadTongue => k_is)
    (case co_LeadTongue => k_is)
    (case cs_LeadTongue => k_is)
    (case cm_LeadTongue => k_is)
    (case ck_LeadTongue => k_is)
    (case ci_LeadTongue => k_is)
    (case ct_LeadTongue => k_is)
    (case cu_LeadTongue => k_is)
    (case cv_LeadTongue => k_is)
    (case cw_LeadTongue => k_is)
    (case h17a => k_is)
    (case h17f => k_is)
    (case h17l => k_is)
    (case h17c => k_is)
    (case h17k => k_is)
    (case h17d => k_is)
    (case h18a => k_is)
    (case h18l => k_is)
    (case h18c => k_is)
    (case h18k => k_is)
    (case cg_PairTongue => k_is)
    (case cp_PairTongue => k_is)
    (case cd_PairTongue => k_is)
    (case co_PairTongue => k_is)
    (case cs_PairTongue => k_is)
    (case cm_PairTongue => k_is)
    (case ck_PairTongue => k_is)
    (case ct_PairTongue => k_is)
    (case cu_PairTongue => k_is)
    (case cv_PairTongue => k_is)
    (case cw_PairTongue => k_is)
    (case cn_PairTongue_order => k_is)
    (case h19a => k_is)
    (case h19f => k_is)
    (case h19l => k_is)
    (case h19c => k_is)
    (case h19k => k_is)
    (case h19d => k_is)
    (case h20a => k_is)
    (case h20f => k_is)
    (case h20l => k_is)
    (case h20c => k_is)
    (case h20k => k_is)
    (case h21a => k_is)
    (case h21f => k_is)
    (case h21l => k_is)
    (case h21c => k_is)
    (case h21k => k_is)
    (case h22a => k_is)
    (case h22f => k_is)
    (case h22l => k_is)
    (case h22c => k_is)
    (case h22k => k_is)
    (case h22d => k_is)
    (case h23a => k_is)
    (case h23l => k_is)
    (case h23c => k_is)
    (case h23k => k_is)
    (case h24a => k_is)
    (case h24l => k_is)
    (case h24c => k_is)
    (case h24k => k_is)
    (case cg_ShiftTongue => k_is)
    (case cp_ShiftTongue => k_is)
    (case cd_ShiftTongue => k_is)
    (case co_ShiftTongue => k_is)
    (case cs_ShiftTongue => k_is)
    (case cm_ShiftTongue => k_is)
    (case ck_ShiftTongue => k_is)
    (case ct_ShiftTongue => k_is)
    (case cu_ShiftTongue => k_is)
    (case cv_ShiftTongue => k_is)
    (case cw_ShiftTongue => k_is)
    (case cn_ShiftTongue_lists => k_is)
    (case cn_ShiftTongue_places => k_is)
    (case cn_ShiftTongue_shifted => k_is)
    (case h25a => k_is)
    (case h25f => k_is)
    (case h25l => k_is)
    (case h25c => k_is)
    (case h25k => k_is)
    (case h26a => k_is)
    (case h26f => k_is)
    (case h26l => k_is)
    (case h26c => k_is)
    (case h26k => k_is)
    (case h27a => k_is)
    (case h27f => k_is)
    (case h27l => k_is)
    (case h27c => k_is)
    (case h27k => k_is)
    (case h27d => k_is)
    (case h28a => k_is)
    (case h28l => k_is)
    (case h28c => k_is)
    (case h28k => k_is)
    (case h29a => k_is)
    (case h29l => k_is)
    (case h29c => k_is)
    (case h29k => k_is)
    (case h30a => k_is)
    (case h30l => k_is)
    (case h30c => k_is)
    (case h30k => k_is)
    (case cg_TableTongue => k_is)
    (case cp_TableTongue => k_is)
    (case cd_TableTongue => k_is)
    (case co_TableTongue => k_is)
    (case cs_TableTongue => k_is)
    (case cm_TableTongue => k_is)
    (case ck_TableTongue => k_is)
    (case ct_TableTongue => k_is)
    (case cu_TableTongue => k_is)
    (case cv_TableTongue => k_is)
    (case cw_TableTongue => k_is)
    (case cn_TableTongue_rest_by_row => k_is)
    (case cn_TableTongue_row_by_sign => k_is)
    (case cn_TableTongue_sign_by_row => k_is)
    (case h31a => k_is)
    (case h31f => k_is)
    (case h31l => k_is)
    (case h31c => k_is)
    (case h31k => k_is)
    (case h32a => k_is)
    (case h32f => k_is)
    (case h32l => k_is)
    (case h32c => k_is)
    (case h32k => k_is)
    (case h33a => k_is)
    (case h33f => k_is)
    (case h33l => k_is)
    (case h33c => k_is)
    (case h33k => k_is)
    (case h33d => k_is)
    (case h34a => k_is)
    (case h34l => k_is)
    (case h34c => k_is)
    (case h34k => k_is)
    (case h35a => k_is)
    (case h35l => k_is)
    (case h35c => k_is)
    (case h35k => k_is)
    (case h36a => k_is)
    (case h36l => k_is)
    (case h36c => k_is)
    (case h36k => k_is)
    (case h37a => k_is)
    (case h37l => k_is)
    (case h37c => k_is)
    (case h37k => k_is)
    (case h38a => k_is)
    (case h38l => k_is)
    (case h38c => k_is)
    (case h38k => k_is)
    (case h39a => k_is)
    (case h39l => k_is)
    (case h39c => k_is)
    (case h39k => k_is)
    (case h40a => k_is)
    (case h40l => k_is)
    (case h40c => k_is)
    (case h40k => k_is)
    (case h41a => k_is)
    (case h41l => k_is)
    (case h41c => k_is)
    (case h41k => k_is)
    (case h42a => k_is)
    (case h42l => k_is)
    (case h42c => k_is)
    (case h42k => k_is)
    (case h43a => k_is)
    (case h43l => k_is)
    (case h43c => k_is)
    (case h43k => k_is)
    (case h44a => k_is)
    (case h44l => k_is)
    (case h44c => k_is)
    (case h44k => k_is)
    (case h45a => k_is)
    (case h45l => k_is)
    (case h45c => k_is)
    (case h45k => k_is)
    (case h46a => k_is)
    (case h46l => k_is)
    (case h46c => k_is)
    (case h46k => k_is)
    (case h47a => k_is)
    (case h47l => k_is)
    (case h47c => k_is)
    (case h47k => k_is)
    (case h48a => k_is)
    (case h48l => k_is)
    (case h48c => k_is)
    (case h48k => k_is)
    (case h49a => k_is)
    (case h49l => k_is)
    (case h49c => k_is)
    (case h49k => k_is)
    (case h50a => k_is)
    (case h50l => k_is)
    (case h50c => k_is)
    (case h50k => k_is)
    (case h51a => k_is)
    (case h51l => k_is)
    (case h51c => k_is)
    (case h51k => k_is)
    (case h52a => k_is)
    (case h52l => k_is)
    (case h52c => k_is)
    (case h52k => k_is)
    (case h53a => k_is)
    (case h53l => k_is)
    (case h53c => k_is)
    (case h53k => k_is)
    (case k0 => k_is)
    (case k1 => k_is)
    (case k2 => k_is)
    (case kl2 => k_is)
    (case kv2 => rfl)
    (case ks2 => rfl)
    (case kh2_0 => rfl)
    (case kh2_1 => rfl)
    (case k3 => k_is)
    (case k4 => k_is)
    (case k5 => k_is)
    (case k6 => k_is)
    (case k7 => k_is)
    (case k8 => k_is)
    (case k9 => k_is)
    (case k10 => k_is)
    (case k11 => k_is)
    (case k12 => k_is)
    (case k13 => k_is)
    (case kl13 => k_is)
    (case kv13 => rfl)
    (case kz13 => rfl)
    (case k14 => k_is)
    (case k15 => k_is)
    (case k16 => k_is)
    (case k17 => k_is)
    (case kl17 => k_is)
    (case kv17 => rfl)
    (case kz17 => rfl)
    (case z0 => k_is)
    (case z1 => k_is)
    (case z2 => k_is)
    (case z3 => k_is)
    (case z4 => k_is)
    (case z5 => k_is)
    (case z6 => k_is)
    (case z7 => k_is)
    (case z8 => k_is)
    (case z9 => k_is)
    (case z10 => k_is)
    (case z11 => k_is)
    (case z12 => k_is)
    (case z13 => k_is)
