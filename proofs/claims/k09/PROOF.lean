import PyProof.Rows.All
import Wide.All
import OpenK.AllK
import Wide.FinOn
import Lean
import PyProof.EqAt
import PyProof.EqKinds
import PyProof.TupleCall
import KE.KSortTup
import KE.KIntText
import PySem.Challenge.RW_parcelwall_k09_whole_room_or_too_many
set_option Elab.async false
set_option linter.all false
/-! what is there, taken apart without a matcher -/
namespace L2
theorem ob1_2 {α0 : Sort _} {A0 A1 : α0 → Prop} {G : Prop} (h : ∃ x0, A0 x0 ∧ A1 x0) (k : ∀ x0, A0 x0 → A1 x0 → G) : G := h.elim fun x0 h => k x0 h.1 h.2
theorem ob2_2 {α0 α1 : Sort _} {A0 A1 : α0 → α1 → Prop} {G : Prop} (h : ∃ x0 x1, A0 x0 x1 ∧ A1 x0 x1) (k : ∀ x0 x1, A0 x0 x1 → A1 x0 x1 → G) : G := h.elim fun x0 h => h.elim fun x1 h => k x0 x1 h.1 h.2
theorem ob2_3 {α0 α1 : Sort _} {A0 A1 A2 : α0 → α1 → Prop} {G : Prop} (h : ∃ x0 x1, A0 x0 x1 ∧ A1 x0 x1 ∧ A2 x0 x1) (k : ∀ x0 x1, A0 x0 x1 → A1 x0 x1 → A2 x0 x1 → G) : G := h.elim fun x0 h => h.elim fun x1 h => k x0 x1 h.1 h.2.1 h.2.2
end L2

set_option Elab.async false
set_option linter.all false
set_option maxRecDepth 100000
/-! THE HAND LAYER, for ints, bools, texts, own classes, LISTS and tuples (index, slices, in, append, pop ..), calls, loops. Paste it whole ahead of your own text; what your proof does not reach may be deleted. -/
namespace L2
open PySem PySem.Spec PyProof.Rows

/-- a key: an int or a str -/
abbrev Key := Sum Int Str
def keyIs : Key → Value → Bool
  | .inl k, v => Value.isInt k v
  | .inr x, v => Value.isStrOf x v
def keyH (w : World) : Key → Int
  | .inl k => hashInt k
  | .inr x => hashStr w x
theorem keyIs_shape : ∀ {k : Key} {v : Value}, keyIs k v = true → (∃ i t, k = Sum.inl i ∧ v = Value.int i t) ∨ (∃ x t, k = Sum.inr x ∧ v = Value.str x t)
  | .inl i, v, h => by
    obtain ⟨t, e⟩ := Value.isInt_shape (k := i) (v := v) h
    exact .inl ⟨i, t, rfl, e⟩
  | .inr x, v, h => by
    obtain ⟨t, e⟩ := Value.isStrOf_shape (x := x) (v := v) h
    exact .inr ⟨x, t, rfl, e⟩
theorem keyIs_int (i : Int) (t : Tok) : keyIs (.inl i) (.int i t) = true := by simp [keyIs, Value.isInt]
theorem keyIs_str (x : Str) (t : Tok) : keyIs (.inr x) (.str x t) = true := by simp [keyIs, Value.isStrOf]
theorem key_ll (a b : Int) : decide ((Sum.inl a : Key) = Sum.inl b) = (a == b) := by
  by_cases e : a = b
  · subst e; simp
  · have h : ¬ (Sum.inl a : Key) = Sum.inl b := fun q => e (Sum.inl.inj q)
    rw [decide_eq_false h]
    exact (beq_eq_false_iff_ne.mpr e).symm
theorem key_rr (a b : Str) : decide ((Sum.inr a : Key) = Sum.inr b) = decide (a = b) := by
  by_cases e : a = b
  · subst e; simp
  · have h : ¬ (Sum.inr a : Key) = Sum.inr b := fun q => e (Sum.inr.inj q)
    rw [decide_eq_false h, decide_eq_false e]
theorem key_lr (a : Int) (b : Str) : decide ((Sum.inl a : Key) = Sum.inr b) = false := decide_eq_false (fun q => nomatch q)
theorem key_rl (a : Str) (b : Int) : decide ((Sum.inr a : Key) = Sum.inl b) = false := decide_eq_false (fun q => nomatch q)

def mixKind (prog : Program) (w : World) : PySem.KeyKind prog w Key where
  is := keyIs
  hash := keyH w
  inj := fun v a b ha hb => by
    rcases keyIs_shape ha with ⟨i, t, rfl, rfl⟩ | ⟨x, t, rfl, rfl⟩
    · rcases keyIs_shape hb with ⟨j, u, rfl, e⟩ | ⟨y, u, rfl, e⟩
      · injection e with e1 _; rw [e1]
      · exact nomatch e
    · rcases keyIs_shape hb with ⟨j, u, rfl, e⟩ | ⟨y, u, rfl, e⟩
      · exact nomatch e
      · injection e with e1 _; rw [e1]
  byValue := fun k v h => by
    rcases keyIs_shape h with ⟨i, t, rfl, rfl⟩ | ⟨x, t, rfl, rfl⟩ <;> rfl
  pyHash := fun hv h => by
    rcases keyIs_shape hv with ⟨i, t, rfl, rfl⟩ | ⟨x, t, rfl, rfl⟩
    · exact wpAny_pyHash_int h
    · exact wpAny_pyHash_str h
  eqBool := fun hu hv h => by
    rcases keyIs_shape hu with ⟨i, t, rfl, rfl⟩ | ⟨x, t, rfl, rfl⟩
    · rcases keyIs_shape hv with ⟨j, u, rfl, rfl⟩ | ⟨y, u, rfl, rfl⟩
      · rw [key_ll] at h; exact wpAny_eqBool_int h
      · rw [key_lr] at h; exact SeqAt.EqAt.int_str i t y u _ _ _ _ h
    · rcases keyIs_shape hv with ⟨j, u, rfl, rfl⟩ | ⟨y, u, rfl, rfl⟩
      · rw [key_rl] at h; exact SeqAt.EqAt.str_int x t j u _ _ _ _ h
      · rw [key_rr] at h; exact wpAny_eqBool_str h
  «strs» := fun k x t v h => by
    rcases keyIs_shape h with ⟨i, u, rfl, e⟩ | ⟨y, u, rfl, e⟩
    · exact nomatch e
    · injection e with e1 _
      subst e1
      cases v <;> rfl

theorem mixKind_int (prog : Program) (w : World) (i : Int) (t : Tok) : (mixKind prog w).is (.inl i) (.int i t) = true := keyIs_int i t
theorem mixKind_str (prog : Program) (w : World) (x : Str) (t : Tok) : (mixKind prog w).is (.inr x) (.str x t) = true := keyIs_str x t
end L2

namespace L2
open PySem PySem.Spec PyProof.Rows

/-- a value, without the heap -/
inductive V where
  | non | bl (b : Bool) | int (i : Int) | str (x : Str) | byt (b : Array UInt8) | flt (b : UInt64) | ref (a : Addr) | ty (n : String)
  deriving DecidableEq

def RelV : V → Value → Prop
  | .non, u => u = Value.none
  | .bl b, u => u = Value.bool b
  | .int i, u => ∃ t, u = Value.int i t
  | .str x, u => ∃ t, u = Value.str x t
  | .byt b, u => ∃ t, u = Value.bytes b t
  | .flt b, u => ∃ t, u = Value.float b t
  | .ref a, u => u = Value.ref a
  | .ty n, u => u = Value.type n

abbrev Vals : List V → List Value → Prop := Paired RelV
theorem Vals.length {xs : List V} {us : List Value} (r : Vals xs us) : xs.length = us.length := Paired.length r
theorem Vals.get : ∀ {xs : List V} {us : List Value} {i : Nat} {x : V}, Vals xs us → xs[i]? = some x → ∃ u, us[i]? = some u ∧ RelV x u
  | _, _, _, _, .nil, e => by simp at e
  | _, _, 0, _, .cons r _, e => by simp at e; subst e; exact ⟨_, rfl, r⟩
  | _, _, i + 1, x, .cons _ t, e => by
    obtain ⟨u, h1, h2⟩ := Vals.get (i := i) (x := x) t (by simpa using e)
    exact ⟨u, by simpa using h1, h2⟩
theorem Vals.set {x : V} {u : Value} (r : RelV x u) : ∀ {xs : List V} {us : List Value} (i : Nat), Vals xs us → Vals (xs.set i x) (us.set i u)
  | _, _, _, .nil => .nil
  | _, _, 0, .cons _ t => .cons r t
  | _, _, i + 1, .cons q t => .cons q (Vals.set r i t)
theorem Vals.append : ∀ {xs ys : List V} {us ws : List Value}, Vals xs us → Vals ys ws → Vals (xs ++ ys) (us ++ ws)
  | _, _, _, _, .nil, s => s
  | _, _, _, _, .cons r t, s => .cons r (Vals.append t s)
theorem Vals.take : ∀ {xs : List V} {us : List Value} (n : Nat), Vals xs us → Vals (xs.take n) (us.take n)
  | _, _, 0, _ => .nil
  | _, _, _ + 1, .nil => .nil
  | _, _, n + 1, .cons r t => .cons r (Vals.take n t)
theorem Vals.drop : ∀ {xs : List V} {us : List Value} (n : Nat), Vals xs us → Vals (xs.drop n) (us.drop n)
  | _, _, 0, r => r
  | _, _, _ + 1, .nil => .nil
  | _, _, n + 1, .cons _ t => Vals.drop n t

def RelO : Option V → Option Value → Prop
  | some v, some u => RelV v u
  | none, none => True
  | _, _ => False
def KV {κ : Type} : List (κ × V) → List (κ × Value) → Prop := Paired fun (p : κ × V) (q : κ × Value) => p.1 = q.1 ∧ RelV p.2 q.2

/-- a key of a dict (00_mix): an int or a text -/
def kV : Key → V
  | .inl i => .int i
  | .inr x => .str x

/-- what stands at a tracked address -/
inductive HO where
  /-- a list -/
  | lst (xs : List V)
  /-- a tuple (never changes) -/
  | tup (xs : List V)
  /-- a dict whose keys are ints and texts; one whose keys are tuples of ints and texts (the empty one is both) -/
  | dK (kvs : List (Key × V)) | dT (kvs : List (List Key × V))
  /-- a set of ints: its members, its size -/
  | set (S : Int → Bool) (n : Nat)
  /-- an instance of the class at C, its dict at dx, its attributes -/
  | ins (C dx : Addr) (fs : List (Str × V))
  /-- the dict of the instance at x -/
  | own (x : Addr)
  /-- the dict of an exception -/
  | xd (fs : List (Str × V))
  /-- a bound method, f of x -/
  | met (f x : Addr)
  /-- a range object lo, lo + 1, .. below hi -/
  | rng (lo hi : Int)
  /-- a thing that is known to the object (the script; a dict while a loop walks it): read, never written while it is so -/
  | frz (o : Obj) (u : HO)
  /-- a code object's table -/
  | tbl (ps : Array Value)
  /-- any other thing, by what is true of its one object (a def of one's own: SetO a S n := HO.ext fun h => ..) -/
  | ext (φ : Heap → Prop)

abbrev Hp := Addr → Option HO
def upd (H : Hp) (a : Addr) (o : HO) : Hp := fun b => if b = a then some o else H b
theorem upd_same {H : Hp} {a : Addr} {o : HO} : upd H a o a = some o := by unfold upd; rw [if_pos rfl]
theorem upd_ne {H : Hp} {a b : Addr} {o : HO} (h : b ≠ a) : upd H a o b = H b := by unfold upd; rw [if_neg h]
theorem upd_upd {H : Hp} {a : Addr} {o u : HO} : upd (upd H a o) a u = upd H a u := by
  funext b; unfold upd; split <;> rfl
/-- two objects of different content stand apart -/
theorem ne_of {H : Hp} {a b : Addr} {o u : HO} (h : H a = some o) (h' : H b = some u) (d : o ≠ u) : a ≠ b := by
  intro e; subst e; rw [h] at h'; exact d (Option.some.inj h')
theorem ne_of_none {H : Hp} {a b : Addr} {o : HO} (h : H a = some o) (h' : H b = none) : a ≠ b := by
  intro e; subst e; rw [h] at h'; cases h'

section
variable (P : Program) (w : World)
def ObjOk (H : Hp) (h : Heap) (a : Addr) : HO → Prop
  | .lst xs => xs.length ≤ sizeLine ∧ ∃ (its : List Value) (n : Nat), Vals xs its ∧ h.get? a = some { cls := .type "list", data := .seq its.toArray n }
  | .tup xs => xs.length ≤ sizeLine ∧ ∃ its : List Value, Vals xs its ∧ IsTup h a its.toArray
  | .dK kvs => kvs.length ≤ sizeLine ∧ (a == sysModules) = false ∧ ∃ vs, KV kvs vs ∧ h.DictOf (mixKind P w) a vs
  | .dT kvs => kvs.length ≤ sizeLine ∧ (a == sysModules) = false ∧ ∃ xs : List (List Key × Addr × Value),
      Paired (fun (p : List Key × V) (q : List Key × Addr × Value) => p.1 = q.1 ∧ H q.2.1 = some (.tup (p.1.map kV)) ∧ RelV p.2 q.2.2) kvs xs ∧
      ∃ o es ep, h.get? a = some o ∧ o.ExactDict ∧ o.data = .dict es ep ∧ es.toList = xs.map (entryOfKey (tupleKind (mixKind P w))) ∧ (xs.map (·.1)).Nodup
  | .set S n => h.SetOf (intKind P w) a S n
  | .ins C dx fs => H dx = some (.own a) ∧ fs.length ≤ 1000 ∧ dx ≠ a ∧ h.get? a = some (PySem.W.instObj C dx) ∧
      ∃ mA, h.Ns1 dx mA ∧ (∀ f, RelO (fs.lookup f) (mA f)) ∧ PySem.Within mA (fs.map (·.1))
  | .own _ => ∃ o, h.get? a = some o
  | .xd fs => ∃ mA, h.Ns1 a mA ∧ ∀ f, RelO (fs.lookup f) (mA f)
  | .rng lo hi => ∃ t u v, h.get? a = some { cls := .type "range", data := .fields #[.int lo t, .int hi u, .int 1 v] }
  | .frz o u => h.get? a = some o ∧ ObjOk H h a u
  | .tbl ps => h.get? a = some { cls := .none, data := .fields ps }
  | .met f x => h.get? a = some (PySem.W.methodObj (.ref f) (.ref x))
  | .ext φ => φ h ∧ (∃ o, h.get? a = some o) ∧ ∀ h1 h2 : Heap, φ h1 → (∀ o, h1.get? a = some o → h2.get? a = some o) → φ h2
/-- the abstract heap is held -/
def HOk (H : Hp) (h : Heap) : Prop := ∀ a o, H a = some o → ObjOk P w H h a o
end

section
variable {P : Program} {w : World} {H H' : Hp} {h h' : Heap} {a : Addr} {o : HO}
theorem ObjOk.lt (x : ObjOk P w H h a o) : a < h.objs.size := by
  cases o with
  | lst xs => obtain ⟨_, _, _, _, e⟩ := x; exact Heap.lt_size e
  | tup xs => obtain ⟨_, _, _, p⟩ := x; exact p.lt
  | dK kvs => obtain ⟨_, _, _, _, o, _, _, e, _⟩ := x; exact Heap.lt_size e
  | dT kvs => obtain ⟨_, _, _, _, o, _, _, e, _⟩ := x; exact Heap.lt_size e
  | set S n => obtain ⟨o, _, _, _, e, _⟩ := x; exact Heap.lt_size e
  | ins C dx fs => obtain ⟨_, _, _, e, _⟩ := x; exact Heap.lt_size e
  | own y => obtain ⟨_, e⟩ := x; exact Heap.lt_size e
  | xd fs => obtain ⟨_, ⟨_, _, _, e, _⟩, _⟩ := x; exact Heap.lt_size e
  | rng lo hi => obtain ⟨_, _, _, e⟩ := x; exact Heap.lt_size e
  | frz ob u => obtain ⟨e, _⟩ := x; exact Heap.lt_size e
  | tbl ps => exact Heap.lt_size (show h.get? a = some _ from x)
  | met f y => exact Heap.lt_size (show h.get? a = some _ from x)
  | ext φ => obtain ⟨_, ⟨_, e⟩, _⟩ := x; exact Heap.lt_size e
theorem Paired.mapP {α β : Type} {F G : α → β → Prop} : ∀ {l₁ : List α} {l₂ : List β}, Paired F l₁ l₂ → (∀ a b, F a b → G a b) → Paired G l₁ l₂
  | _, _, .nil, _ => .nil
  | _, _, .cons r t, f => .cons (f _ _ r) (Paired.mapP t f)
/-- what an object's description leans on: its own object, its own dict, the tuples -/
theorem ObjOk.stay (x : ObjOk P w H h a o) (k : ∀ b u, (b = a ∨ H b = some (.own a)) → h.get? b = some u → h'.get? b = some u)
    (ho : ∀ b, H b = some (.own a) → H' b = some (.own a)) (ht : ∀ b xs, H b = some (.tup xs) → H' b = some (.tup xs)) : ObjOk P w H' h' a o := by
  induction o with
  | lst xs => obtain ⟨z, its, n, r, e⟩ := x; exact ⟨z, its, n, r, k _ _ (.inl rfl) e⟩
  | tup xs => obtain ⟨z, its, r, ob, e, c⟩ := x; exact ⟨z, its, r, ob, k _ _ (.inl rfl) e, c⟩
  | dK kvs => obtain ⟨z, y, vs, r, ob, es, ep, e, c⟩ := x; exact ⟨z, y, vs, r, ob, es, ep, k _ _ (.inl rfl) e, c⟩
  | dT kvs =>
    obtain ⟨z, y, xs, r, ob, es, ep, e, c⟩ := x
    exact ⟨z, y, xs, Paired.mapP r fun p q z => ⟨z.1, ht _ _ z.2.1, z.2.2⟩, ob, es, ep, k _ _ (.inl rfl) e, c⟩
  | set S n => obtain ⟨ob, es, ep, t, e, c⟩ := x; exact ⟨ob, es, ep, t, k _ _ (.inl rfl) e, c⟩
  | ins C dx fs =>
    obtain ⟨d, z, ne, e, mA, ⟨od, es, ep, e2, c⟩, r⟩ := x
    exact ⟨ho _ d, z, ne, k _ _ (.inl rfl) e, mA, ⟨od, es, ep, k _ _ (.inr d) e2, c⟩, r⟩
  | own y => obtain ⟨ob, e⟩ := x; exact ⟨ob, k _ _ (.inl rfl) e⟩
  | xd fs => obtain ⟨mA, ⟨od, es, ep, e, c⟩, r⟩ := x; exact ⟨mA, ⟨od, es, ep, k _ _ (.inl rfl) e, c⟩, r⟩
  | rng lo hi => obtain ⟨t, u, v, e⟩ := x; exact ⟨t, u, v, k _ _ (.inl rfl) e⟩
  | frz ob u ih => obtain ⟨e, q⟩ := x; exact ⟨k _ _ (.inl rfl) e, ih q⟩
  | tbl ps =>
    have e : h.get? a = some { cls := .none, data := .fields ps } := x
    show h'.get? a = some { cls := .none, data := .fields ps }
    exact k a _ (.inl rfl) e
  | met f y =>
    have e : h.get? a = some (PySem.W.methodObj (.ref f) (.ref y)) := x
    show h'.get? a = some (PySem.W.methodObj (.ref f) (.ref y))
    exact k a _ (.inl rfl) e
  | ext φ => obtain ⟨p, ⟨o, e⟩, st⟩ := x; exact ⟨st _ _ p fun o q => k _ _ (.inl rfl) q, ⟨o, k _ _ (.inl rfl) e⟩, st⟩
theorem HOk.lt (x : HOk P w H h) (e : H a = some o) : a < h.objs.size := (x a o e).lt
theorem HOk.fresh (x : HOk P w H h) (e : h.objs.size ≤ a) : H a = none := by
  cases q : H a with
  | none => rfl
  | some u => exact absurd (Nat.lt_of_lt_of_le (x.lt q) e) (Nat.lt_irrefl _)
/-- every object of the heap is kept -/
theorem HOk.kept (x : HOk P w H h) (k : ∀ b u, h.get? b = some u → h'.get? b = some u) : HOk P w H h' := fun a o e =>
  (x a o e).stay (fun b u _ q => k b u q) (fun _ q => q) fun _ _ q => q
/-- a new object is laid and tracked -/
theorem HOk.laid (x : HOk P w H h) (k : ∀ b u, h.get? b = some u → h'.get? b = some u) (hp : h.objs.size ≤ a) (new : ObjOk P w (upd H a o) h' a o) : HOk P w (upd H a o) h' := fun b u e => by
  have hn := x.fresh hp
  by_cases hb : b = a
  · subst hb; rw [upd_same] at e; cases e; exact new
  · rw [upd_ne hb] at e
    exact (x b u e).stay (fun c v _ q => k c v q) (fun c q => by rw [upd_ne (ne_of_none q hn)]; exact q) fun c xs q => by rw [upd_ne (ne_of_none q hn)]; exact q
end

/-- what may be read as u: it is u, or a known u -/
def Rd (H : Hp) (a : Addr) (u : HO) : Prop := H a = some u ∨ ∃ o, H a = some (.frz o u)
theorem Rd.ok {P : Program} {w : World} {H : Hp} {h : Heap} {a : Addr} {u : HO} (r : Rd H a u) (x : HOk P w H h) : ObjOk P w H h a u := by
  rcases r with r | ⟨o, r⟩
  · exact x a u r
  · obtain ⟨_, q⟩ := x a _ r
    exact q
/-- what may be written -/
def Mut : Option HO → Prop
  | some (.lst _) => True
  | some (.dK _) => True
  | some (.dT _) => True
  | some (.set _ _) => True
  | some (.ins _ _ _) => True
  | some (.ext _) => True
  | _ => False
section
variable {P : Program} {w : World} {H : Hp} {h h' : Heap} {x e : Addr} {o' : HO}
/-- the object at e is changed: x itself, or the dict of the instance x -/
theorem HOk.write (ok : HOk P w H h) (mu : Mut (H x)) (he : e = x ∨ H e = some (.own x)) (k : ∀ b u, b ≠ e → h.get? b = some u → h'.get? b = some u) (heo : ∃ u, h'.get? e = some u)
    (new : ObjOk P w (upd H x o') h' x o') : HOk P w (upd H x o') h' := fun b u q => by
  have nown : ∀ c y, H c = some (.own y) → c ≠ x := fun c y r z => by subst z; rw [r] at mu; exact mu
  have ntup : ∀ c xs, H c = some (.tup xs) → c ≠ x := fun c xs r z => by subst z; rw [r] at mu; exact mu
  by_cases hb : b = x
  · subst hb; rw [upd_same] at q; cases q; exact new
  · rw [upd_ne hb] at q
    by_cases hbe : b = e
    · have q' : H b = some (.own x) := by
        rcases he with z | z
        · exact absurd (hbe.trans z) hb
        · rw [hbe]; exact z
      rw [q] at q'; cases q'
      obtain ⟨v, hv⟩ := heo
      exact ⟨v, by rw [hbe]; exact hv⟩
    · refine (ok b u q).stay (fun c v hc r => k c v ?_ r) (fun c r => by rw [upd_ne (nown c b r)]; exact r) fun c xs r => by rw [upd_ne (ntup c xs r)]; exact r
      rcases hc with rfl | hc
      · exact hbe
      · rintro rfl
        rcases he with z | z
        · exact nown c b hc z
        · rw [hc] at z; cases z; exact hb rfl
end

/-! ### kept unless tracked; of the frames at fs (the callers') the slots may change (an exception that passes writes there); of the records at ex (iterators) nothing is said -/
structure Un (fs ex : List Addr) (H H' : Hp) (h h' : Heap) : Prop where
  keep : ∀ b o, h.get? b = some o → H b = none → b ∉ fs → b ∉ ex → h'.get? b = some o
  slot : ∀ b o, h.get? b = some o → H b = none → b ∈ fs → b ∉ ex → ∃ sl, h'.get? b = some { o with slots := sl }
  free : ∀ b o, h.get? b = some o → H b = none → b ∉ ex → H' b = none
  there : ∀ b o, h.get? b = some o → b ∉ ex → ∃ o', h'.get? b = some o'
  tups : ∀ b xs, H b = some (.tup xs) → H' b = some (.tup xs)
  frzs : ∀ b o u, H b = some (.frz o u) → H' b = some (.frz o u)
  tbls : ∀ b ps, H b = some (.tbl ps) → ∃ more, H' b = some (.tbl (ps ++ more))
section
variable {fs fs' ex ex' : List Addr} {H H1 H2 : Hp} {h h1 h2 h' : Heap} {a x e : Addr} {o : HO}
theorem Un.any (u : Un fs ex H H1 h h1) {b : Addr} {ob : Obj} (q : h.get? b = some ob) (n : H b = none) (hx : b ∉ ex) : ∃ sl, h1.get? b = some { ob with slots := sl } := by
  by_cases hb : b ∈ fs
  · exact u.slot b ob q n hb hx
  · exact ⟨ob.slots, u.keep b ob q n hb hx⟩
theorem Un.kept (k : ∀ b u, h.get? b = some u → h'.get? b = some u) : Un fs ex H H h h' :=
  ⟨fun b ob q _ _ _ => k b ob q, fun b ob q _ _ _ => ⟨ob.slots, k b ob q⟩, fun _ _ _ n _ => n, fun b ob q _ => ⟨ob, k b ob q⟩, fun _ _ q => q, fun _ _ _ q => q, fun _ ps q => ⟨#[], by rw [q]; simp⟩⟩
theorem Un.refl : Un fs ex H H h h := Un.kept fun _ _ q => q
theorem Un.laid (k : ∀ b u, h.get? b = some u → h'.get? b = some u) (hp : h.objs.size ≤ a) (hn : H a = none) : Un fs ex H (upd H a o) h h' where
  keep := fun b u q _ _ _ => k b u q
  slot := fun b u q _ _ _ => ⟨u.slots, k b u q⟩
  free := fun b u q n _ => by rw [upd_ne (Nat.ne_of_lt (Nat.lt_of_lt_of_le (Heap.lt_size q) hp))]; exact n
  there := fun b u q _ => ⟨u, k b u q⟩
  tups := fun b xs q => by rw [upd_ne (ne_of_none q hn)]; exact q
  frzs := fun b u xs q => by rw [upd_ne (ne_of_none q hn)]; exact q
  tbls := fun b ps q => ⟨#[], by rw [upd_ne (ne_of_none q hn), q]; simp⟩
theorem Un.write (mu : Mut (H x)) (he : e = x ∨ H e = some (.own x)) (k : ∀ b u, b ≠ e → h.get? b = some u → h'.get? b = some u) (heo : ∃ u, h'.get? e = some u) : Un fs ex H (upd H x o) h h' := by
  have hx : ∀ b, H b = none → b ≠ x := fun b n z => by subst z; rw [n] at mu; exact mu
  have hb : ∀ b, H b = none → b ≠ e := fun b n z => by
    subst z
    rcases he with r | r
    · exact hx b n r
    · rw [n] at r; cases r
  have hm : ∀ b u, H b = some u → ¬ Mut (some u) → b ≠ x := fun b u q nm z => by subst z; rw [q] at mu; exact nm mu
  refine ⟨fun b u q n _ _ => k b u (hb b n) q, fun b u q n _ _ => ⟨u.slots, k b u (hb b n) q⟩, fun b u q n _ => by rw [upd_ne (hx b n)]; exact n, fun b u q _ => ?_,
    fun b xs q => by rw [upd_ne (hm b _ q fun z => z)]; exact q, fun b u xs q => by rw [upd_ne (hm b _ q fun z => z)]; exact q, fun b ps q => ⟨#[], by rw [upd_ne (hm b _ q fun z => z), q]; simp⟩⟩
  by_cases hbe : b = e
  · subst hbe; exact heo
  · exact ⟨u, k b u hbe q⟩
end

/-! ### the heap without what is tracked -/
def trk (h : Heap) (H : Hp) : List Addr := (List.range h.objs.size).filter fun a => (H a).isSome
def hidT (h : Heap) (H : Hp) : Heap := PySem.W.hideAll h (trk h H)
theorem hidT_size (h : Heap) (H : Hp) : (hidT h H).objs.size = h.objs.size := PySem.W.hideAll_size _ _
theorem hidT_get {h : Heap} {H : Hp} {b : Addr} {o : Obj} (e : h.get? b = some o) (n : H b = none) : (hidT h H).get? b = some o :=
  PySem.W.hideAll_get _ e fun hm => by
    have q : (H b).isSome = true := (List.mem_filter.mp hm).2
    rw [n] at q; simp at q
theorem of_hidT {h : Heap} {H : Hp} {b : Addr} {o : Obj} (e : (hidT h H).get? b = some o) : h.get? b = some o ∧ H b = none := by
  have e' : h.get? b = some o := PySem.W.of_hideAll (trk h H) e
  refine ⟨e', ?_⟩
  cases q : H b with
  | none => rfl
  | some x =>
    have hm : b ∈ trk h H := List.mem_filter.mpr ⟨List.mem_range.mpr (Heap.lt_size e'), by simp [q]⟩
    have z : (hidT h H).get? b = none := PySem.W.hideAll_none (trk h H) hm
    rw [z] at e; cases e

/-! ### OpenK's ledger, filled with every new object but one -/
def allNews (g h : Heap) (L : Addr) : List (Addr × Obj) := (List.range h.objs.size).filterMap fun a => if a = L ∨ (g.get? a).isSome = true then none else (h.get? a).map fun o => (a, o)
theorem mem_allNews {g h : Heap} {L a : Addr} {o : Obj} (h1 : a ≠ L) (h2 : g.get? a = none) (h3 : h.get? a = some o) : (a, o) ∈ allNews g h L :=
  List.mem_filterMap.mpr ⟨a, List.mem_range.mpr (Heap.lt_size h3), by simp [h1, h2, h3]⟩
theorem of_mem_allNews {g h : Heap} {L : Addr} {p : Addr × Obj} (hp : p ∈ allNews g h L) : p.1 ≠ L ∧ g.get? p.1 = none ∧ h.get? p.1 = some p.2 := by
  obtain ⟨b, _, e⟩ := List.mem_filterMap.mp hp
  split at e
  · cases e
  · rename_i hn
    cases q : h.get? b with
    | none => rw [q] at e; simp at e
    | some u =>
      rw [q] at e
      simp only [Option.map_some, Option.some.injEq] at e
      subst e
      refine ⟨fun z => hn (.inl z), ?_, q⟩
      show g.get? b = none
      cases r : g.get? b with
      | none => rfl
      | some v => exact (hn (.inr (by simp [r]))).elim
theorem news_all {g h : Heap} {L : Addr} : News g L h (allNews g h L) := fun p hp => let ⟨a, b, c⟩ := of_mem_allNews hp; ⟨c, a, b⟩
end L2

namespace L2
open PySem PySem.Spec PyProof.Rows

/-- the module's facts, over the base: the heap at the law's entry without what is tracked there -/
structure Mod (K : PySem.W.Frag) (mg : Str → Option Value) (base : Heap) : Prop where
  kin : K.In base
  glob : base.Ns mainGlobals mg
  blt : ∃ mb, base.Ns builtinsNs mb ∧ ∀ x : Str, x ≠ "__name__" → mb x = bootBuiltins x
  nolimit : base.NoLimit

/-- the context: a def's body (or a comprehension's block) running. base: fixed through the whole law; s₀, H₀: the entry; outer: the frames whose slots others may change (a def's callers); stack: all frames that run;
   ex: iterators that were made ahead of the entry and are walked here (a comprehension's); fn: the names whose cells were made at the entry (a def: all; a comprehension's block: its own); calm: not within an except suite; pn: pins that every state bears; xe: what is wanted of an exception that leaves the code -/
structure Cx where
  prog : Program
  w : World
  K : PySem.W.Frag
  mg : Str → Option Value
  base : Heap
  A : Around
  N : List Str
  s₀ : Shared
  H₀ : Hp
  env : Env
  outer : List Env
  stack : List Env
  ex : List Addr
  fn : Str → Bool
  calm : Bool
  pn : List (Addr × Obj)
  xe : Value → Shared → Prop
/-- the callers' frames -/
def frs (l : List Env) : List Addr := l.filterMap (·.frame)
abbrev Cx.fs (X : Cx) : List Addr := frs X.outer

def Vis (sc : Scope) (x : Str) : Prop := sc.names.lookup x = some .local ∨ sc.names.lookup x = some .cell ∨ sc.names.lookup x = some .free
def Loc (sc : Scope) (x : Str) : Prop := sc.names.lookup x = some .local ∨ sc.names.lookup x = some .cell
def Look (env : Env) (h : Heap) (m : Str → Option Value) (x : Str) (u : Value) : Prop :=
  (env.kindOf x = some .local ∧ m x = some u) ∨ ((env.kindOf x = some .cell ∨ env.kindOf x = some .free) ∧ ∃ c, env.cells.lookup x = some c ∧ h.IsCell c (some u))

structure Cx.Ok (X : Cx) : Prop where
  mod : Mod X.K X.mg X.base
  kind : X.env.scope.kind = .function
  glob : X.env.globals = mainGlobals
  blt : X.env.builtins = builtinsNs
  above : X.s₀.heap.objs.size ≤ X.env.locals
  inj : ∀ x y c, X.env.cells.lookup x = some c → X.env.cells.lookup y = some c → x = y
  has : ∀ x, (X.env.kindOf x = some .cell ∨ X.env.kindOf x = some .free) → ∃ c, X.env.cells.lookup x = some c
  cab : ∀ x c, X.fn x = true → X.env.cells.lookup x = some c → X.s₀.heap.objs.size ≤ c
  hd : X.calm = true → X.A.handled = none
  frames : X.A.frames = some X.stack
  stk : X.stack = X.outer ∨ (X.stack = X.env :: X.outer ∧ X.env.frame = some X.env.locals)
  exf : ∀ b ∈ X.ex, b ≠ X.env.locals ∧ ∀ x c, X.env.cells.lookup x = some c → c ≠ b
  bs : ∀ b o, X.base.get? b = some o → X.s₀.heap.get? b = some o ∧ X.H₀ b = none
  bsz : X.base.objs.size ≤ X.s₀.heap.objs.size
  noex : ∀ b o, X.base.get? b = some o → b ∉ X.ex
  exfs : ∀ b ∈ X.ex, b ∉ X.fs
  funs : X.s₀.heap.FunFrames X.base X.outer
  frf : ∀ b ∈ X.fs, X.H₀ b = none

structure Inv (X : Cx) (pins : List (Addr × Obj)) (σ : List (Option V)) (H : Hp) (s : Shared) : Prop where
  ok : X.Ok
  os : s.os = X.s₀.os
  bare : AllBare s.gens
  base : Un X.fs X.ex X.H₀ H X.s₀.heap s.heap
  loc : ∃ m, s.heap.Ns X.env.locals m ∧ ∀ (i : Nat) (x : Str) (v : V), X.N[i]? = some x → σ[i]? = some (some v) → Vis X.env.scope x → ∃ u, RelV v u ∧ Look X.env s.heap m x u
  cell : ∀ x c, X.env.cells.lookup x = some c → ∃ v, s.heap.IsCell c v
  free : H X.env.locals = none
  freeC : ∀ x c, X.env.cells.lookup x = some c → H c = none
  pin : ∀ p ∈ X.pn ++ pins, s.heap.get? p.1 = some p.2 ∧ H p.1 = none ∧ p.1 ≠ X.env.locals ∧ p.1 ∉ X.fs ∧ ∀ v, p.2.data ≠ .cell v
  hok : HOk X.prog X.w H s.heap
  len : σ.length = X.N.length

section
variable {X : Cx} {pins : List (Addr × Obj)} {σ : List (Option V)} {H H' : Hp} {s : Shared} {h' : Heap}

theorem Cx.Ok.nofr (ok : X.Ok) {b : Addr} {o : Obj} (e : X.base.get? b = some o) : b ∉ X.fs := fun hb => by
  have := (ok.funs.mem hb).1
  rw [e] at this; cases this
theorem Inv.bs (I : Inv X pins σ H s) : ∀ b o, X.base.get? b = some o → s.heap.get? b = some o ∧ H b = none := fun b o e =>
  ⟨I.base.keep b o (I.ok.bs b o e).1 (I.ok.bs b o e).2 (I.ok.nofr e) (I.ok.noex b o e), I.base.free b o (I.ok.bs b o e).1 (I.ok.bs b o e).2 (I.ok.noex b o e)⟩
theorem Inv.bk (I : Inv X pins σ H s) : ∀ b o, X.base.get? b = some o → s.heap.get? b = some o := fun b o e => (I.bs b o e).1
theorem Inv.mod (I : Inv X pins σ H s) : Mod X.K X.mg X.base := I.ok.mod
theorem Inv.kIn (I : Inv X pins σ H s) : X.K.In s.heap := I.ok.mod.kin.keeps I.bk
/-- the frame over the base: for OpenK's rules (K.In X.base is I.mod.kin) -/
theorem Inv.fr (I : Inv X pins σ H s) : ∃ m, Fr X.base X.env.locals s.heap m :=
  let ⟨m, hn, _⟩ := I.loc
  ⟨m, hn, I.bk, Nat.le_trans I.ok.bsz I.ok.above⟩
theorem Inv.lt (I : Inv X pins σ H s) : X.env.locals < s.heap.objs.size := let ⟨_, hn, _⟩ := I.loc; hn.lt
theorem Inv.sz (I : Inv X pins σ H s) : X.s₀.heap.objs.size ≤ s.heap.objs.size := Nat.le_trans I.ok.above (Nat.le_of_lt I.lt)
theorem Inv.nofs (I : Inv X pins σ H s) {a : Addr} (h : s.heap.objs.size ≤ a) : a ∉ X.fs := fun hb => by
  obtain ⟨_, o, ho, _⟩ := I.ok.funs.mem hb
  exact absurd (Nat.lt_of_lt_of_le (Heap.lt_size ho) (Nat.le_trans I.sz h)) (Nat.lt_irrefl _)
theorem Inv.cne (I : Inv X pins σ H s) : ∀ x c, X.env.cells.lookup x = some c → c ≠ X.env.locals := fun x c e z => by
  obtain ⟨v, o, ho, hd⟩ := I.cell x c e
  obtain ⟨m, ⟨o', es, ep, ho', hd', _⟩, _⟩ := I.loc
  rw [z, ho'] at ho; cases ho; rw [hd'] at hd; cases hd
theorem Inv.funs (I : Inv X pins σ H s) : s.heap.FunFrames X.base X.outer := by
  have all : ∀ (l : List Env), (∀ b ∈ frs l, b ∈ X.fs) → X.s₀.heap.FunFrames X.base l → s.heap.FunFrames X.base l := by
    intro l
    induction l with
    | nil => intro _ _; trivial
    | cons env r ih =>
      intro hs hl
      obtain ⟨hk, ⟨L, o, hf, hn, ho, hd⟩, hr⟩ := hl
      have hL : L ∈ X.fs := hs L (by unfold frs; rw [List.filterMap_cons, hf]; exact List.mem_cons_self)
      obtain ⟨sl, e⟩ := I.base.slot L o ho (I.ok.frf L hL) hL fun z => I.ok.exfs L z hL
      exact ⟨hk, ⟨L, _, hf, hn, e, hd⟩, ih (fun b hb => hs b (by unfold frs; rw [List.filterMap_cons, hf]; exact List.mem_cons_of_mem _ hb)) hr⟩
  exact all X.outer (fun _ hb => hb) I.ok.funs

/-- the frames that run, for a call -/
theorem Inv.stack (I : Inv X pins σ H s) : s.heap.FunFrames X.base X.stack := by
  rcases I.ok.stk with e | ⟨e, hf⟩
  · rw [e]; exact I.funs
  · rw [e]
    obtain ⟨m, hn, _⟩ := I.loc
    refine .cons (by rw [I.ok.kind]; decide) hf hn ?_ I.funs
    exact Heap.get?_none_of_le (Nat.le_trans I.ok.bsz I.ok.above)
theorem Inv.stkSub (I : Inv X pins σ H s) : ∀ b ∈ frs X.stack, b ∈ X.env.locals :: X.fs := fun b hb => by
  rcases I.ok.stk with e | ⟨e, hf⟩
  · rw [e] at hb; exact List.mem_cons_of_mem _ hb
  · rw [e] at hb
    unfold frs at hb
    rw [List.filterMap_cons, hf] at hb
    exact hb
theorem Inv.stkFree (I : Inv X pins σ H s) : ∀ b ∈ frs X.stack, H b = none := fun b hb => by
  rcases List.mem_cons.mp (I.stkSub b hb) with e | hb
  · rw [e]; exact I.free
  · obtain ⟨_, o, ho, _⟩ := I.ok.funs.mem hb
    exact I.base.free b o ho (I.ok.frf b hb) fun z => I.ok.exfs b z hb

/-- THE STEP: the untracked objects but the frame and the records at ch are kept (the callers' frames up to slots), the frame's map is kept, the new abstract heap is held -/
theorem Inv.step {g' : Array GenState} {t' : Nat} {d' : Drawn} {ch : List Addr} (I : Inv X pins σ H s)
    (hch : ∀ b ∈ ch, (b ∈ X.ex ∨ X.s₀.heap.objs.size ≤ b) ∧ b ≠ X.env.locals ∧ (∀ x c, X.env.cells.lookup x = some c → c ≠ b) ∧ ∀ p ∈ X.pn ++ pins, p.1 ≠ b)
    (keep : ∀ b o, b ≠ X.env.locals → b ∉ X.fs → b ∉ ch → s.heap.get? b = some o → H b = none → h'.get? b = some o)
    (slot : ∀ b o, b ≠ X.env.locals → b ∈ X.fs → b ∉ ch → s.heap.get? b = some o → H b = none → ∃ sl, h'.get? b = some { o with slots := sl }) (free : ∀ b o, b ∉ ch → s.heap.get? b = some o → H b = none → H' b = none)
    (there : ∀ b o, b ∉ ch → s.heap.get? b = some o → ∃ o', h'.get? b = some o')
    (tups : ∀ b xs, H b = some (.tup xs) → H' b = some (.tup xs)) (frzs : ∀ b o u, H b = some (.frz o u) → H' b = some (.frz o u)) (tbls : ∀ b ps, H b = some (.tbl ps) → ∃ more, H' b = some (.tbl (ps ++ more)))
    (ns : ∀ m, s.heap.Ns X.env.locals m → h'.Ns X.env.locals m) (hok : HOk X.prog X.w H' h') (hg : AllBare g') :
    Inv X pins σ H' { s with heap := h', gens := g', drawn := d', toks := t' } := by
  have neL : ∀ b o, X.s₀.heap.get? b = some o → b ≠ X.env.locals := fun b o e => Nat.ne_of_lt (Nat.lt_of_lt_of_le (Heap.lt_size e) I.ok.above)
  have neC : ∀ b o, X.s₀.heap.get? b = some o → b ∉ X.ex → b ∉ ch := fun b o e hx hb => by
    rcases (hch b hb).1 with z | z
    · exact hx z
    · exact absurd (Nat.lt_of_lt_of_le (Heap.lt_size e) z) (Nat.lt_irrefl _)
  have cellK : ∀ x c, X.env.cells.lookup x = some c → ∀ v, s.heap.IsCell c v → h'.IsCell c v := fun x c e v ⟨o, ho, hd⟩ => by
    have nch : c ∉ ch := fun z => (hch c z).2.2.1 x c e rfl
    by_cases hc : c ∈ X.fs
    · obtain ⟨sl, q⟩ := slot c o (I.cne x c e) hc nch ho (I.freeC x c e)
      exact ⟨_, q, hd⟩
    · exact ⟨o, keep c o (I.cne x c e) hc nch ho (I.freeC x c e), hd⟩
  refine ⟨I.ok, I.os, hg, ⟨fun b o e n hb hx => ?_, fun b o e n hb hx => ?_, fun b o e n hx => ?_, fun b o e hx => ?_, fun b xs e => tups b xs (I.base.tups b xs e), fun b o xs e => frzs b o xs (I.base.frzs b o xs e), fun b ps e => ?_⟩, ?_, fun x c e => ?_, ?_, fun x c e => ?_, fun p hp => ?_, hok, I.len⟩
  · exact keep b o (neL b o e) hb (neC b o e hx) (I.base.keep b o e n hb hx) (I.base.free b o e n hx)
  · obtain ⟨sl, e1⟩ := I.base.slot b o e n hb hx
    obtain ⟨sl', e2⟩ := slot b _ (neL b o e) hb (neC b o e hx) e1 (I.base.free b o e n hx)
    exact ⟨sl', e2⟩
  · obtain ⟨o', e1⟩ := I.base.there b o e hx
    exact free b o' (neC b o e hx) e1 (I.base.free b o e n hx)
  · obtain ⟨o', e1⟩ := I.base.there b o e hx
    exact there b o' (neC b o e hx) e1
  · obtain ⟨m1, e1⟩ := I.base.tbls b ps e
    obtain ⟨m2, e2⟩ := tbls b _ e1
    exact ⟨m1 ++ m2, by rw [e2, Array.append_assoc]⟩
  · obtain ⟨m, hn, hl⟩ := I.loc
    refine ⟨m, ns m hn, fun i x v e1 e2 e3 => ?_⟩
    obtain ⟨u, r, l⟩ := hl i x v e1 e2 e3
    refine ⟨u, r, ?_⟩
    rcases l with l | ⟨k, c, e, z⟩
    · exact .inl l
    · exact .inr ⟨k, c, e, cellK x c e _ z⟩
  · obtain ⟨v, z⟩ := I.cell x c e
    exact ⟨v, cellK x c e v z⟩
  · obtain ⟨m, ⟨o, _, _, ho, _⟩, _⟩ := I.loc
    exact free _ o (fun z => (hch _ z).2.1 rfl) ho I.free
  · obtain ⟨v, o, ho, hd⟩ := I.cell x c e
    exact free c o (fun z => (hch c z).2.2.1 x c e rfl) ho (I.freeC x c e)
  · obtain ⟨e, n, ne, nf, d⟩ := I.pin p hp
    have nch : p.1 ∉ ch := fun z => (hch p.1 z).2.2.2 p hp rfl
    exact ⟨keep p.1 p.2 ne nf nch e n, free p.1 p.2 nch e n, ne, nf, d⟩
/-- .. where the frame's own object is kept too -/
theorem Inv.un {t' : Nat} (I : Inv X pins σ H s) (u : Un X.fs [] H H' s.heap h') (hok : HOk X.prog X.w H' h') : Inv X pins σ H' { s with heap := h', toks := t' } := by
  obtain ⟨m, ⟨o, es, ep, ho, r⟩, _⟩ := id I.loc
  obtain ⟨sl, hL⟩ := u.any ho I.free (by simp)
  exact I.step (g' := s.gens) (d' := s.drawn) (ch := []) (fun _ z => nomatch z) (fun b o _ hb _ e n => u.keep b o e n hb (by simp)) (fun b o _ hb _ e n => u.slot b o e n hb (by simp)) (fun b o _ e n => u.free b o e n (by simp)) (fun b o _ e => u.there b o e (by simp)) u.tups u.frzs u.tbls (fun m' hm => by
    obtain ⟨o', es', ep', ho', r'⟩ := hm
    rw [ho] at ho'; cases ho'
    exact ⟨_, es', ep', hL, r'⟩) hok I.bare
/-- behind a call (or a comprehension's block): the slots of this frame may have changed too, the records at ch may have turned -/
theorem Inv.call {g' : Array GenState} {t' : Nat} {d' : Drawn} {ch : List Addr} (I : Inv X pins σ H s) (u : Un (frs X.stack) ch H H' s.heap h') (hok : HOk X.prog X.w H' h') (hg : AllBare g')
    (hch : ∀ b ∈ ch, (b ∈ X.ex ∨ X.s₀.heap.objs.size ≤ b) ∧ b ≠ X.env.locals ∧ (∀ x c, X.env.cells.lookup x = some c → c ≠ b) ∧ ∀ p ∈ X.pn ++ pins, p.1 ≠ b) :
    Inv X pins σ H' { s with heap := h', gens := g', drawn := d', toks := t' } := by
  obtain ⟨m, ⟨o, es, ep, ho, r⟩, _⟩ := id I.loc
  obtain ⟨sl, hL⟩ := u.any ho I.free fun z => (hch _ z).2.1 rfl
  exact I.step (ch := ch) hch (fun b o hL hb hc e n => u.keep b o e n (fun z => (List.mem_cons.mp (I.stkSub b z)).elim hL hb) hc) (fun b o _ _ hc e n => u.any e n hc) (fun b o hc e n => u.free b o e n hc) (fun b o hc e => u.there b o e hc) u.tups u.frzs u.tbls (fun m' hm => by
    obtain ⟨o', es', ep', ho', r'⟩ := hm
    rw [ho] at ho'; cases ho'
    exact ⟨_, es', ep', hL, r'⟩) hok hg
/-- an untracked record of ours (an iterator) has turned -/
theorem Inv.turned {t' : Nat} {it : Addr} (I : Inv X pins σ H s) (k : ∀ b o, b ≠ it → s.heap.get? b = some o → h'.get? b = some o) (hn : H it = none) (hL : it ≠ X.env.locals)
    (h1 : it ∈ X.ex ∨ X.s₀.heap.objs.size ≤ it) (h2 : ∀ x c, X.env.cells.lookup x = some c → c ≠ it) (h3 : ∀ p ∈ X.pn ++ pins, p.1 ≠ it) : Inv X pins σ H { s with heap := h', toks := t' } := by
  have nit : ∀ b u, H b = some u → b ≠ it := fun b u e z => by rw [z, hn] at e; cases e
  refine I.step (g' := s.gens) (d' := s.drawn) (ch := [it]) (fun b hb => ?_) (fun b o _ _ hc e _ => k b o (fun z => hc (by simp [z])) e) (fun b o _ _ hc e _ => ⟨o.slots, k b o (fun z => hc (by simp [z])) e⟩) (fun _ _ _ _ n => n)
    (fun b o hc e => ⟨o, k b o (fun z => hc (by simp [z])) e⟩) (fun _ _ e => e) (fun _ _ _ e => e) (fun b ps e => ⟨#[], by rw [e]; simp⟩) (fun m hm => ?_) (fun b u e => ?_) I.bare
  · have e : b = it := by simpa using hb
    subst e
    exact ⟨h1, hL, h2, h3⟩
  · obtain ⟨o, es, ep, ho, r⟩ := hm
    exact ⟨o, es, ep, k _ o (Ne.symm hL) ho, r⟩
  · refine (I.hok b u e).stay (fun c v hc q => k c v ?_ q) (fun _ q => q) fun _ _ q => q
    rcases hc with z | z
    · rw [z]; exact nit b u e
    · exact nit c _ z
theorem Inv.tok (I : Inv X pins σ H s) (t : Nat) : Inv X pins σ H { s with toks := t } := I.un (h' := s.heap) (t' := t) Un.refl I.hok
/-- all objects kept -/
theorem Inv.kept {t' : Nat} (I : Inv X pins σ H s) (k : ∀ b u, s.heap.get? b = some u → h'.get? b = some u) : Inv X pins σ H { s with heap := h', toks := t' } := I.un (Un.kept k) (I.hok.kept k)
/-- a new object laid and tracked -/
theorem Inv.laid {a : Addr} {o : HO} {t' : Nat} (I : Inv X pins σ H s) (k : ∀ b u, s.heap.get? b = some u → h'.get? b = some u) (hp : s.heap.objs.size ≤ a) (new : ObjOk X.prog X.w (upd H a o) h' a o) :
    Inv X pins σ (upd H a o) { s with heap := h', toks := t' } := I.un (Un.laid k hp (I.hok.fresh hp)) (I.hok.laid k hp new)
/-- an object written -/
theorem Inv.write {x e : Addr} {o : HO} {t' : Nat} (I : Inv X pins σ H s) (mu : Mut (H x)) (he : e = x ∨ H e = some (.own x)) (k : ∀ b u, b ≠ e → s.heap.get? b = some u → h'.get? b = some u) (heo : ∃ u, h'.get? e = some u)
    (new : ObjOk X.prog X.w (upd H x o) h' x o) : Inv X pins σ (upd H x o) { s with heap := h', toks := t' } := I.un (Un.write mu he k heo) (I.hok.write mu he k heo new)
theorem Inv.pins_of {pins' : List (Addr × Obj)} (I : Inv X pins σ H s) (h : ∀ p ∈ pins', s.heap.get? p.1 = some p.2 ∧ H p.1 = none ∧ p.1 ≠ X.env.locals ∧ p.1 ∉ X.fs ∧ ∀ v, p.2.data ≠ .cell v) : Inv X pins' σ H s :=
  ⟨I.ok, I.os, I.bare, I.base, I.loc, I.cell, I.free, I.freeC, fun p hp => (List.mem_append.mp hp).elim (fun z => I.pin p (List.mem_append_left _ z)) (h p), I.hok, I.len⟩

theorem nodup_ix {N : List Str} (hN : N.Nodup) {i j : Nat} {x : Str} (a : N[i]? = some x) (b : N[j]? = some x) : i = j := by
  obtain ⟨h1, e1⟩ := List.getElem?_eq_some_iff.mp a
  obtain ⟨h2, e2⟩ := List.getElem?_eq_some_iff.mp b
  exact (List.getElem_inj hN).mp (e1.trans e2.symm)

/-- a name is stored; what changed -/
theorem store_ok2 {M : Model} {A : Around} {E : Value → Shared → Prop} {i : Nat} {x : Str} {v : V} {u : Value} {Q : Unit → Shared → Prop} (I : Inv X pins σ H s) (hN : X.N.Nodup) (hi : X.N[i]? = some x) (hx : Loc X.env.scope x) (r : RelV v u)
    (h : ∀ s', Inv X pins (σ.set i (some v)) H s' → (∃ a, Heap.SameBut a s.heap s'.heap ∧ (a = X.env.locals ∨ X.env.cells.lookup x = some a)) → Q () s') (hf : X.fn x = true ∨ X.env.scope.names.lookup x = some .local := by first | exact .inl rfl | exact .inr rfl | assumption) : wpAny M A (storeName X.env x u) Q E s := by
  obtain ⟨m, hn, hl⟩ := id I.loc
  have hcls : (X.env.scope.kind == .class || (X.env.scope.kind == .module && X.env.locals != X.env.globals)) = false := by rw [I.ok.kind]; rfl
  have hiσ : i < σ.length := by rw [I.len]; exact (List.getElem?_eq_some_iff.mp hi).1
  have cne := I.cne
  have tracked : ∀ {a : Addr} {h' : Heap}, (∃ o, s.heap.get? a = some o ∧ H a = none) → Heap.SameBut a s.heap h' → HOk X.prog X.w H h' := fun {a h'} ha hs b ob e => by
    obtain ⟨_, _, hfree⟩ := ha
    refine (I.hok b ob e).stay (fun c w' hc q => (hs.2 c ?_).trans q) (fun _ q => q) fun _ _ q => q
    rintro rfl
    rcases hc with rfl | hc
    · rw [hfree] at e; cases e
    · rw [hfree] at hc; cases hc
  rcases hx with hk | hk
  · refine wpAny_storeName_local hk hn (fun h' hn' hs => ?_) hcls
    obtain ⟨oL, _, _, hoL, _⟩ := id hn
    refine h _ ⟨I.ok, I.os, I.bare, ⟨fun b o e n hb hx => ?_, fun b o e n hb hx => ?_, I.base.free, fun b o e hx => ?_, I.base.tups, I.base.frzs, I.base.tbls⟩, ⟨_, hn', fun j y v' e1 e2 e3 => ?_⟩, fun y c e => ?_, I.free, I.freeC, fun p hp => ?_, tracked ⟨oL, hoL, I.free⟩ hs, by simpa using I.len⟩ ⟨_, hs, .inl rfl⟩
    · exact (hs.2 b (Nat.ne_of_lt (Nat.lt_of_lt_of_le (Heap.lt_size e) I.ok.above))).trans (I.base.keep b o e n hb hx)
    · obtain ⟨sl, e1⟩ := I.base.slot b o e n hb hx
      exact ⟨sl, (hs.2 b (Nat.ne_of_lt (Nat.lt_of_lt_of_le (Heap.lt_size e) I.ok.above))).trans e1⟩
    · obtain ⟨o', e1⟩ := I.base.there b o e hx
      exact ⟨o', (hs.2 b (Nat.ne_of_lt (Nat.lt_of_lt_of_le (Heap.lt_size e) I.ok.above))).trans e1⟩
    · by_cases hj : j = i
      · subst hj
        rw [hi] at e1; cases e1
        rw [List.getElem?_set_self hiσ] at e2
        cases e2
        exact ⟨u, r, .inl ⟨hk, by simp⟩⟩
      · rw [List.getElem?_set_ne (Ne.symm hj)] at e2
        obtain ⟨u', r', q⟩ := hl j y v' e1 e2 e3
        refine ⟨u', r', ?_⟩
        rcases q with ⟨k, e⟩ | ⟨k, c, e, z⟩
        · refine .inl ⟨k, ?_⟩
          have : y ≠ x := fun e => hj (nodup_ix hN e1 (e ▸ hi))
          simp [this, e]
        · exact .inr ⟨k, c, e, z.sameBut hs (cne y c e)⟩
    · obtain ⟨w', z⟩ := I.cell y c e
      exact ⟨w', z.sameBut hs (cne y c e)⟩
    · obtain ⟨e, n, ne, nf, d⟩ := I.pin p hp
      exact ⟨(hs.2 p.1 ne).trans e, n, ne, nf, d⟩
  · have hfn : X.fn x = true := by
      rcases hf with z | z
      · exact z
      · rw [z] at hk; cases hk
    obtain ⟨c, hc⟩ := I.ok.has x (.inl hk)
    obtain ⟨w', z⟩ := I.cell x c hc
    refine wpAny_storeName_cell I.ok.kind hk hc z (fun h' hc' hs => ?_)
    obtain ⟨oc, hoc, hocd⟩ := id z
    refine h { s with heap := h' } ⟨I.ok, I.os, I.bare, ⟨fun b o e n hb hx => ?_, fun b o e n hb hx => ?_, I.base.free, fun b o e hx => ?_, I.base.tups, I.base.frzs, I.base.tbls⟩, ⟨m, hn.sameBut hs (Ne.symm (cne x c hc)), fun j y v' e1 e2 e3 => ?_⟩, fun y c' e => ?_, I.free, I.freeC, fun p hp => ?_, tracked ⟨oc, hoc, I.freeC x c hc⟩ hs, by simpa using I.len⟩ ⟨c, hs, .inr hc⟩
    · exact (hs.2 b (Nat.ne_of_lt (Nat.lt_of_lt_of_le (Heap.lt_size e) (I.ok.cab x c hfn hc)))).trans (I.base.keep b o e n hb hx)
    · obtain ⟨sl, e1⟩ := I.base.slot b o e n hb hx
      exact ⟨sl, (hs.2 b (Nat.ne_of_lt (Nat.lt_of_lt_of_le (Heap.lt_size e) (I.ok.cab x c hfn hc)))).trans e1⟩
    · obtain ⟨o', e1⟩ := I.base.there b o e hx
      exact ⟨o', (hs.2 b (Nat.ne_of_lt (Nat.lt_of_lt_of_le (Heap.lt_size e) (I.ok.cab x c hfn hc)))).trans e1⟩
    · by_cases hj : j = i
      · subst hj
        rw [hi] at e1; cases e1
        rw [List.getElem?_set_self hiσ] at e2
        cases e2
        exact ⟨u, r, .inr ⟨.inl hk, c, hc, hc'⟩⟩
      · rw [List.getElem?_set_ne (Ne.symm hj)] at e2
        obtain ⟨u', r', q⟩ := hl j y v' e1 e2 e3
        refine ⟨u', r', ?_⟩
        rcases q with q | ⟨k, c', e, z'⟩
        · exact .inl q
        · refine .inr ⟨k, c', e, z'.sameBut hs ?_⟩
          rintro rfl
          exact hj (nodup_ix hN e1 (I.ok.inj _ _ _ e hc ▸ hi))
    · by_cases hcc : c' = c
      · subst hcc; exact ⟨_, hc'⟩
      · obtain ⟨w2, z2⟩ := I.cell y c' e
        exact ⟨w2, z2.sameBut hs hcc⟩
    · obtain ⟨e, n, ne, nf, d⟩ := I.pin p hp
      refine ⟨(hs.2 p.1 ?_).trans e, n, ne, nf, d⟩
      intro q
      rw [q, hoc] at e
      have q' : oc = p.2 := Option.some.inj e
      exact d w' (by rw [← q']; exact hocd)
theorem store_ok {M : Model} {A : Around} {E : Value → Shared → Prop} {i : Nat} {x : Str} {v : V} {u : Value} {Q : Unit → Shared → Prop} (I : Inv X pins σ H s) (hN : X.N.Nodup) (hi : X.N[i]? = some x) (hx : Loc X.env.scope x) (r : RelV v u)
    (h : ∀ s', Inv X pins (σ.set i (some v)) H s' → Q () s') (hf : X.fn x = true ∨ X.env.scope.names.lookup x = some .local := by first | exact .inl rfl | exact .inr rfl | assumption) : wpAny M A (storeName X.env x u) Q E s :=
  store_ok2 I hN hi hx r (fun s' I' _ => h s' I') hf
/-- behind a call or a block, the state as it is -/
theorem Inv.call' {s' : Shared} {ch : List Addr} (I : Inv X pins σ H s) (ho : s'.os = s.os) (u : Un (frs X.stack) ch H H' s.heap s'.heap) (hok : HOk X.prog X.w H' s'.heap) (hg : AllBare s'.gens)
    (hch : ∀ b ∈ ch, (b ∈ X.ex ∨ X.s₀.heap.objs.size ≤ b) ∧ b ≠ X.env.locals ∧ (∀ x c, X.env.cells.lookup x = some c → c ≠ b) ∧ ∀ p ∈ X.pn ++ pins, p.1 ≠ b) : Inv X pins σ H' s' := by
  obtain ⟨h', g', d', t', o'⟩ := s'
  have e : o' = s.os := ho
  subst e
  exact I.call (g' := g') (t' := t') (d' := d') u hok hg hch
end

/-! ### the judgements -/
/-- an exception: its class, its own dict's address (where it has one), the abstract heap behind it -/
abbrev XK := Value → Option Addr → Hp → Prop
abbrev St := List (Option V)
abbrev VK := V → Hp → Prop
/-- an expression's reading; a test's; an argument list's -/
abbrev TE := St → Hp → VK → Prop
abbrev TT := St → Hp → (Bool → Hp → Prop) → Prop
abbrev TA := St → Hp → (List V → Hp → Prop) → Prop
/-- what is wanted behind a statement -/
structure Ends where
  nx : St → Hp → Prop
  rt : VK
  bk : St → Hp → Prop := fun _ _ => False
  ct : St → Hp → Prop := fun _ _ => False
abbrev TS := Ends → St → Hp → Prop

def EP (X : Cx) (pins : List (Addr × Obj)) (σ : St) (Q : VK) (u : Value) (s' : Shared) : Prop := ∃ v H', Inv X pins σ H' s' ∧ RelV v u ∧ Q v H'
def TP (X : Cx) (pins : List (Addr × Obj)) (σ : St) (Q : Bool → Hp → Prop) (b : Bool) (s' : Shared) : Prop := ∃ H', Inv X pins σ H' s' ∧ Q b H'
def AP (X : Cx) (pins : List (Addr × Obj)) (σ : St) (Q : List V → Hp → Prop) (us : List Value) (s' : Shared) : Prop := ∃ vs H', Inv X pins σ H' s' ∧ Vals vs us ∧ Q vs H'
def SP (X : Cx) (pins : List (Addr × Obj)) (D : Ends) (f : Flow) (s' : Shared) : Prop :=
  match f with
  | .next => ∃ σ' H', Inv X pins σ' H' s' ∧ D.nx σ' H'
  | .brk => ∃ σ' H', Inv X pins σ' H' s' ∧ D.bk σ' H'
  | .cont => ∃ σ' H', Inv X pins σ' H' s' ∧ D.ct σ' H'
  | .ret u => ∃ v σ' H', Inv X pins σ' H' s' ∧ RelV v u ∧ D.rt v H'

def PE (X : Cx) (e : Expr) (t : TE) : Prop :=
  ∀ (pins : List (Addr × Obj)) (s : Shared) (σ : St) (H : Hp) (Q : VK), Inv X pins σ H s → t σ H Q → wpAny (model X.prog X.w) X.A (eval e X.env) (EP X pins σ Q) X.xe s
def PT (X : Cx) (e : Expr) (t : TT) : Prop :=
  ∀ (pins : List (Addr × Obj)) (s : Shared) (σ : St) (H : Hp) (Q : Bool → Hp → Prop), Inv X pins σ H s → t σ H Q → wpAny (model X.prog X.w) X.A (isTrue e X.env (eval e X.env)) (TP X pins σ Q) X.xe s
/-- a test whatever its 'whole' is (and, or) -/
def PW (X : Cx) (e : Expr) (t : TT) : Prop :=
  ∀ (whole : Sem Value) (pins : List (Addr × Obj)) (s : Shared) (σ : St) (H : Hp) (Q : Bool → Hp → Prop), Inv X pins σ H s → t σ H Q → wpAny (model X.prog X.w) X.A (isTrue e X.env whole) (TP X pins σ Q) X.xe s
theorem PW.pt {X : Cx} {e : Expr} {t : TT} (h : PW X e t) : PT X e t := h _
/-- an argument list (no star), from the left -/
def PA (X : Cx) (es : List Expr) (t : TA) : Prop :=
  ∀ (pos : Pos) (pins : List (Addr × Obj)) (s : Shared) (σ : St) (H : Hp) (Q : List V → Hp → Prop), Inv X pins σ H s → t σ H Q → wpAny (model X.prog X.w) X.A (spliced (backTo pos (starEach es X.env))) (AP X pins σ Q) X.xe s
def PS (X : Cx) (st : Stmt) (t : TS) : Prop :=
  ∀ (pins : List (Addr × Obj)) (s : Shared) (σ : St) (H : Hp) (D : Ends), Inv X pins σ H s → t D σ H → wpAny (model X.prog X.w) X.A (exec st X.env) (SP X pins D) X.xe s
def PSs (X : Cx) (st : List Stmt) (t : TS) : Prop :=
  ∀ (pins : List (Addr × Obj)) (s : Shared) (σ : St) (H : Hp) (D : Ends), Inv X pins σ H s → t D σ H → wpAny (model X.prog X.w) X.A (execs st X.env) (SP X pins D) X.xe s
/-- weaken the end -/
theorem thn {α : Type} {t : Sem α} {Q Q' : α → Shared → Prop} {M : Model} {A : Around} {E : Value → Shared → Prop} {s : Shared} (h : wpAny M A t Q E s) (hQ : ∀ a s, Q a s → Q' a s) : wpAny M A t Q' E s := wpAny_mono h hQ fun _ _ x => x
end L2

namespace L2
open PySem PySem.Spec PyProof.Rows
section
variable {X : Cx}

/-- two expressions in a row -/
theorem bin {a b : Expr} {ta tb : TE} (ha : PE X a ta) (hb : PE X b tb) {pins : List (Addr × Obj)} {s : Shared} {σ : St} {H : Hp} {R : V → V → Hp → Prop} (I : Inv X pins σ H s) (h : ta σ H fun x H1 => tb σ H1 fun y H2 => R x y H2)
    {α : Type} {Q : α → Shared → Prop} {f : Value → Value → Sem α}
    (hf : ∀ v u s2 x y H2, Inv X pins σ H2 s2 → RelV x v → RelV y u → R x y H2 → wpAny (model X.prog X.w) X.A (f v u) Q X.xe s2) :
    wpAny (model X.prog X.w) X.A (eval a X.env) (fun v s₁ => wpAny (model X.prog X.w) X.A (eval b X.env) (fun u s₂ => wpAny (model X.prog X.w) X.A (f v u) Q X.xe s₂) X.xe s₁) X.xe s := by
  refine thn (ha pins s σ H _ I h) fun v s1 hPz => ?_; obtain ⟨x, H1, I1, r1, q1⟩ := hPz
  refine thn (hb pins s1 σ H1 _ I1 q1) fun u s2 hPz => ?_; obtain ⟨y, H2, I2, r2, q2⟩ := hPz
  exact hf v u s2 x y H2 I2 r1 r2 q2

/-! ### names and constants -/
def tVar (i : Nat) : TE := fun σ H Q => ∃ v, σ[i]? = some (some v) ∧ Q v H
def tC (v : V) : TE := fun _ H Q => Q v H
theorem pe_var {i : Nat} {x : Str} {pos : Pos} (hN : X.N[i]? = some x) (hv : Vis X.env.scope x) (hd : (x == ("__debug__" : Str)) = false := by decide) (hcd : (x == ("__classdict__" : Str)) = false := by decide) : PE X (.Name x pos) (tVar i) := by
  intro pins s σ H Q I h
  obtain ⟨v, e, h⟩ := h
  obtain ⟨m, hn, hl⟩ := I.loc
  obtain ⟨u, r, l⟩ := hl i x v hN e hv
  have fin : EP X pins σ Q u s := ⟨v, H, I, r, h⟩
  rcases l with ⟨hk, hm⟩ | ⟨hk, c, hc, hcell⟩
  · exact wpAny_Name (wpAny_loadName_local I.ok.kind hk hn hm fin) hd
  · rcases hk with hk | hk
    · exact wpAny_Name (wpAny_loadName_cell I.ok.kind hk hc hcell fin) hd
    · exact wpAny_Name (wpAny_loadName_free I.ok.kind hk hc hcell fin hcd) hd
theorem pe_int {i j pos} : PE X (.Constant (.int i) j pos) (tC (.int i)) := fun _ _ _ H _ I h => wpAny_Constant_int ⟨.int i, H, I.tok _, ⟨_, rfl⟩, h⟩
theorem pe_bl {b j pos} : PE X (.Constant (.bool b) j pos) (tC (.bl b)) := fun _ _ _ H _ I h => Constant_bool ⟨.bl b, H, I, rfl, h⟩
theorem pe_non {j pos} : PE X (.Constant .none j pos) (tC .non) := fun _ _ _ H _ I h => Constant_none ⟨.non, H, I, rfl, h⟩
theorem pe_str {x j pos} : PE X (.Constant (.str x) j pos) (tC (.str x)) := fun _ _ _ H _ I h => Calls.Constant_str ⟨.str x, H, I.tok _, ⟨_, rfl⟩, h⟩

/-- a global name of the def -/
def Gl (X : Cx) (x : Str) : Prop := X.env.kindOf x = some .globalImplicit
theorem ld_glob {E : Value → Shared → Prop} {pins : List (Addr × Obj)} {s : Shared} {σ : St} {H : Hp} {x : Str} {u : Value} {pos : Pos} {Q : Value → Shared → Prop} (I : Inv X pins σ H s) (hg : Gl X x) (hm : X.mg x = some u) (h : Q u s)
    (hd : (x == ("__debug__" : Str)) = false := by decide) : wpAny (model X.prog X.w) X.A (eval (.Name x pos) X.env) Q E s :=
  Calls.Name_function_global I.ok.kind hg (Calls.loadGlobal_global (by rw [I.ok.glob]; exact I.mod.glob.keeps I.bk) hm h) hd
theorem ld_blt {E : Value → Shared → Prop} {pins : List (Addr × Obj)} {s : Shared} {σ : St} {H : Hp} {x : Str} {u : Value} {pos : Pos} {Q : Value → Shared → Prop} (I : Inv X pins σ H s) (hg : Gl X x) (hm : X.mg x = none) (hv : bootBuiltins x = some u) (h : Q u s)
    (hn : x ≠ "__name__" := by decide) (hd : (x == ("__debug__" : Str)) = false := by decide) : wpAny (model X.prog X.w) X.A (eval (.Name x pos) X.env) Q E s := by
  obtain ⟨mb, h1, h2⟩ := I.mod.blt
  exact Calls.Name_function_global I.ok.kind hg (Calls.loadGlobal_builtin (by rw [I.ok.glob]; exact I.mod.glob.keeps I.bk) hm (by rw [I.ok.blt]; exact h1.keeps I.bk) ((h2 x hn).trans hv) h) hd
/-- a module's constant, a class, a function, as a value -/
theorem pe_glob {x : Str} {v : V} {u : Value} {pos : Pos} (hg : Gl X x) (hm : X.mg x = some u) (r : RelV v u) (hd : (x == ("__debug__" : Str)) = false := by decide) : PE X (.Name x pos) (tC v) :=
  fun _ _ _ H _ I h => ld_glob I hg hm ⟨v, H, I, r, h⟩ hd
theorem pe_bltn {x : Str} {v : V} {u : Value} {pos : Pos} (hg : Gl X x) (hm : X.mg x = none) (hv : bootBuiltins x = some u) (r : RelV v u) (hn : x ≠ "__name__" := by decide) (hd : (x == ("__debug__" : Str)) = false := by decide) : PE X (.Name x pos) (tC v) :=
  fun _ _ _ H _ I h => ld_blt I hg hm hv ⟨v, H, I, r, h⟩ hn hd

/-! ### arithmetic -/
variable {a b : Expr} {ta tb : TE} {pos : Pos}

/-! ### comparisons -/
def PC (X : Cx) (op : CmpOp) (a b : Expr) (t : TE) : Prop :=
  ∀ (pins : List (Addr × Obj)) (s : Shared) (σ : St) (H : Hp) (Q : VK), Inv X pins σ H s → t σ H Q →
    wpAny (model X.prog X.w) X.A (eval a X.env) (fun v s₁ => wpAny (model X.prog X.w) X.A (eval b X.env) (fun u s₂ => wpAny (model X.prog X.w) X.A (compareOp op v u) (EP X pins σ Q) X.xe s₂) X.xe s₁) X.xe s
theorem nobehind (b : Expr) {op : CmpOp} (h : op ≠ .In) (h2 : op ≠ .NotIn) : behindInMarks op b = false := by
  have e1 : (op == CmpOp.In) = false := by cases op <;> first | rfl | exact absurd rfl h
  have e2 : (op == CmpOp.NotIn) = false := by cases op <;> first | rfl | exact absurd rfl h2
  cases b <;> simp [behindInMarks, e1, e2]
/-- is None -/
def tIsN (ta : TE) : TE := fun σ H Q => ta σ H fun x H1 => Q (.bl (decide (x = .non))) H1
def tNotN (ta : TE) : TE := fun σ H Q => ta σ H fun x H1 => Q (.bl (!decide (x = .non))) H1
theorem RelV.none_iff {x : V} {v : Value} (r : RelV x v) : (v == Value.none) = decide (x = .non) := by
  cases x with
  | non => cases r; rfl
  | bl _ => cases r; rfl
  | int _ => obtain ⟨t, rfl⟩ := r; rfl
  | str _ => obtain ⟨t, rfl⟩ := r; rfl
  | byt _ => obtain ⟨t, rfl⟩ := r; rfl
  | flt _ => obtain ⟨t, rfl⟩ := r; rfl
  | ref _ => cases r; rfl
  | ty _ => cases r; rfl
theorem pc_isN {j pos'} (ha : PE X a ta) : PC X .Is a (.Constant .none j pos') (tIsN ta) := by
  intro pins s σ H Q I h
  refine thn (ha pins s σ H _ I h) fun v s1 hPz => ?_; obtain ⟨x, H1, I1, r1, q1⟩ := hPz
  exact Constant_none (is_none_gen ⟨.bl _, H1, I1, by rw [r1.none_iff]; rfl, q1⟩)
theorem pc_notN {j pos'} (ha : PE X a ta) : PC X .IsNot a (.Constant .none j pos') (tNotN ta) := by
  intro pins s σ H Q I h
  refine thn (ha pins s σ H _ I h) fun v s1 hPz => ?_; obtain ⟨x, H1, I1, r1, q1⟩ := hPz
  exact Constant_none (isnot_none_gen ⟨.bl _, H1, I1, by rw [r1.none_iff]; rfl, q1⟩)
/-- a comparison as a value, as a test -/
def tB (t : TE) : TT := fun σ H Q => t σ H fun x H1 => ∃ c, x = .bl c ∧ Q c H1
theorem pt_cmp {op : CmpOp} {t : TE} (h : PC X op a b t) (h1 : behindInMarks op b = false := by first | exact nobehind _ (by decide) (by decide) | rfl) : PT X (.Compare a [op] [b] pos) (tB t) := by
  intro pins s σ H Q I hw
  refine wpAny_isTrue_Compare1 (thn (h pins s σ H _ I hw) fun v s1 h1 => thn h1 fun u s2 h2 => thn h2 fun c s3 hPz => ?_) h1; obtain ⟨x, H1, I1, r1, q1⟩ := hPz
  obtain ⟨d, rfl, q⟩ := q1
  cases r1
  exact wpAny_truthy_bool ⟨H1, I1, q⟩
/-- an expression whose value is a bool, as a test -/
theorem pt_val {e : Expr} {t : TE} (h : PE X e t) (he : ∀ whole, isTrue e X.env whole = (do let v ← whole; standAt e.pos; holding [v] (truthy v)) := by intro _; rfl) : PT X e (tB t) := by
  intro pins s σ H Q I hw
  refine isTrue_plain (thn (h pins s σ H _ I hw) fun v s1 hPz => ?_) (he _); obtain ⟨x, H1, I1, r1, q1⟩ := hPz
  obtain ⟨d, rfl, q⟩ := q1
  cases r1
  exact wpAny_truthy_bool ⟨H1, I1, q⟩

/-! ### and, or, not -/
variable {tA tB' : TT} {rest : List Expr}
def tAnd (t u : TT) : TT := fun σ H Q => t σ H fun c H1 => if c = true then u σ H1 Q else Q false H1
def tOr (t u : TT) : TT := fun σ H Q => t σ H fun c H1 => if c = true then Q true H1 else u σ H1 Q
def tNot (t : TT) : TT := fun σ H Q => t σ H fun c H1 => Q (!c) H1
theorem pw_and1 (ha : PT X a tA) : PW X (.BoolOp .And [a] pos) tA := by
  intro wh pins s σ H Q I h
  refine isTrue_and (thn (ha pins s σ H Q I h) fun c s1 e => ?_)
  cases c with
  | true => exact isTrue_and_nil e
  | false => exact e
theorem pw_or1 (ha : PT X a tA) : PW X (.BoolOp .Or [a] pos) tA := by
  intro wh pins s σ H Q I h
  refine isTrue_or (thn (ha pins s σ H Q I h) fun c s1 e => ?_)
  cases c with
  | false => exact isTrue_or_nil e
  | true => exact e
theorem pw_and (ha : PT X a tA) (hb : PW X (.BoolOp .And (b :: rest) pos) tB') : PW X (.BoolOp .And (a :: b :: rest) pos) (tAnd tA tB') := by
  intro wh pins s σ H Q I h
  refine isTrue_and (thn (ha pins s σ H _ I h) fun c s1 hPz => ?_); obtain ⟨H1, I1, q1⟩ := hPz
  cases c with
  | true => exact hb wh pins s1 σ H1 Q I1 q1
  | false => exact ⟨H1, I1, q1⟩
theorem pw_or (ha : PT X a tA) (hb : PW X (.BoolOp .Or (b :: rest) pos) tB') : PW X (.BoolOp .Or (a :: b :: rest) pos) (tOr tA tB') := by
  intro wh pins s σ H Q I h
  refine isTrue_or (thn (ha pins s σ H _ I h) fun c s1 hPz => ?_); obtain ⟨H1, I1, q1⟩ := hPz
  cases c with
  | true => exact ⟨H1, I1, q1⟩
  | false => exact hb wh pins s1 σ H1 Q I1 q1
theorem pt_not (ha : PT X a tA) : PT X (.UnaryOp .Not a pos) (tNot tA) := by
  intro pins s σ H Q I h
  exact isTrue_not (ha pins s σ H (fun c H1 => Q (!c) H1) I h)
/-- .. as values (bools) -/
def tAndV (ta tb : TE) : TE := fun σ H Q => ta σ H fun x H1 => ∃ c, x = .bl c ∧ if c = true then tb σ H1 Q else Q (.bl false) H1
def tNotV (ta : TE) : TE := fun σ H Q => ta σ H fun x H1 => ∃ c, x = .bl c ∧ Q (.bl (!c)) H1
theorem pe_one {op} {t : TE} (h : PE X a t) : PE X (.BoolOp op [a] pos) t := fun pins s σ H Q I hw => BoolOp_one (h pins s σ H Q I hw)
theorem pe_and (ha : PE X a ta) (hb : PE X (.BoolOp .And (b :: rest) pos) tb) : PE X (.BoolOp .And (a :: b :: rest) pos) (tAndV ta tb) := by
  intro pins s σ H Q I h
  refine BoolOp_and (thn (ha pins s σ H _ I h) fun v s1 hPz => ?_); obtain ⟨x, H1, I1, r1, q1⟩ := hPz
  obtain ⟨c, rfl, q1⟩ := q1
  cases r1
  refine wpAny_truthy_bool ?_
  cases c with
  | true => exact hb pins s1 σ H1 Q I1 q1
  | false => exact ⟨.bl false, H1, I1, rfl, q1⟩
theorem pe_not (ha : PE X a ta) : PE X (.UnaryOp .Not a pos) (tNotV ta) := by
  intro pins s σ H Q I h
  refine UnaryOp_ (thn (ha pins s σ H _ I h) fun v s1 hPz => ?_); obtain ⟨x, H1, I1, r1, q1⟩ := hPz
  obtain ⟨c, rfl, q1⟩ := q1
  cases r1
  exact not_of (wpAny_truthy_bool ⟨.bl (!c), H1, I1, rfl, q1⟩)
/-- a if t else b -/
def tIf (t : TT) (ta tb : TE) : TE := fun σ H Q => t σ H fun c H1 => if c = true then ta σ H1 Q else tb σ H1 Q
theorem pe_ifExp {c : Expr} (hc : PT X c tA) (ha : PE X a ta) (hb : PE X b tb) : PE X (.IfExp c a b pos) (tIf tA ta tb) := by
  intro pins s σ H Q I h
  refine wpAny_IfExp (thn (hc pins s σ H _ I h) fun d s1 hPz => ?_); obtain ⟨H1, I1, q1⟩ := hPz
  cases d with
  | true => exact ha pins s1 σ H1 Q I1 q1
  | false => exact hb pins s1 σ H1 Q I1 q1
end
end L2

namespace L2
open PySem PySem.Spec PyProof.Rows

/-! ### a list, a tuple that is read: tracked, frozen, or an object of the module -/
def SqL (K : PySem.W.Frag) (H : Hp) (a : Addr) (xs : List V) : Prop :=
  Rd H a (.lst xs) ∨
    ∃ (o : Obj) (its : Array Value) (n : Nat), K.lookup a = some o ∧ o.cls = .type "list" ∧ o.dict = none ∧ o.data = .seq its n ∧ its.size ≤ sizeLine ∧ Vals xs its.toList
def SqT (K : PySem.W.Frag) (H : Hp) (a : Addr) (xs : List V) : Prop :=
  Rd H a (.tup xs) ∨
    ∃ (o : Obj) (its : Array Value) (n : Nat), K.lookup a = some o ∧ o.cls = .type "tuple" ∧ o.data = .seq its n ∧ its.size ≤ sizeLine ∧ Vals xs its.toList
def absV : Value → Option V
  | .none => some .non
  | .bool b => some (.bl b)
  | .int i _ => some (.int i)
  | .str x _ => some (.str x)
  | .bytes b _ => some (.byt b)
  | .float b _ => some (.flt b)
  | .ref a => some (.ref a)
  | .type n => some (.ty n)
  | _ => none
theorem RelV.abs {x : V} {u : Value} (r : RelV x u) : absV u = some x := by
  cases x with
  | non => cases r; rfl
  | bl _ => cases r; rfl
  | int _ => obtain ⟨t, rfl⟩ := r; rfl
  | str _ => obtain ⟨t, rfl⟩ := r; rfl
  | byt _ => obtain ⟨t, rfl⟩ := r; rfl
  | flt _ => obtain ⟨t, rfl⟩ := r; rfl
  | ref _ => cases r; rfl
  | ty _ => cases r; rfl
theorem RelV.inj {x y : V} {u : Value} (r : RelV x u) (q : RelV y u) : x = y := Option.some.inj (r.abs.symm.trans q.abs)
theorem Vals.inj : ∀ {xs ys : List V} {us : List Value}, Vals xs us → Vals ys us → xs = ys
  | _, _, _, .nil, .nil => rfl
  | _, _, _, .cons r t, .cons r' t' => by rw [r.inj r', Vals.inj t t']
section
variable {X : Cx} {pins : List (Addr × Obj)} {σ : St} {H : Hp} {s : Shared} {a : Addr} {xs ys : List V}
theorem SqL.of {K : PySem.W.Frag} (h : H a = some (.lst xs)) : SqL K H a xs := .inl (.inl h)
theorem SqT.of {K : PySem.W.Frag} (h : H a = some (.tup xs)) : SqT K H a xs := .inl (.inl h)
theorem Inv.list (I : Inv X pins σ H s) (h : SqL X.K H a xs) : ∃ its : List Value, Vals xs its ∧ PlainL s.heap a its.toArray ∧ xs.length ≤ sizeLine := by
  rcases h with h | ⟨o, its, n, hk, hc, hd, hs, hz, r⟩
  · obtain ⟨z, its, n, r, e⟩ := h.ok I.hok
    exact ⟨its, r, ⟨_, n, e, rfl, rfl, rfl⟩, z⟩
  · refine ⟨its.toList, r, ⟨o, n, I.kIn a o hk, hc, hd, by simpa using hs⟩, ?_⟩
    have e := r.length
    simp only [Array.length_toList] at e
    (first | lia | omega)
theorem Inv.tuple (I : Inv X pins σ H s) (h : SqT X.K H a xs) : ∃ its : List Value, Vals xs its ∧ IsTup s.heap a its.toArray ∧ xs.length ≤ sizeLine := by
  rcases h with h | ⟨o, its, n, hk, hc, hs, hz, r⟩
  · obtain ⟨z, its, r, p⟩ := h.ok I.hok
    exact ⟨its, r, p, z⟩
  · refine ⟨its.toList, r, ⟨o, I.kIn a o hk, hc, n, by simpa using hs⟩, ?_⟩
    have e := r.length
    simp only [Array.length_toList] at e
    (first | lia | omega)
theorem Inv.list_inj (I : Inv X pins σ H s) (h : SqL X.K H a xs) (h' : SqL X.K H a ys) : xs = ys := by
  obtain ⟨its, r, ⟨o, n, e, _, _, d⟩, _⟩ := I.list h
  obtain ⟨its', r', ⟨o', n', e', _, _, d'⟩, _⟩ := I.list h'
  rw [e] at e'; cases e'
  rw [d] at d'
  injection d' with d1 _
  have : its = its' := by simpa using congrArg Array.toList d1
  subst this
  exact r.inj r'
end

/-! ### another wish about exceptions -/
abbrev Cx.wish (X : Cx) (E : Value → Shared → Prop) : Cx := { X with xe := E }
/-- no exception leaves -/
abbrev Cx.nox (X : Cx) : Cx := X.wish fun _ _ => False
theorem Cx.Ok.wish {X : Cx} (ok : X.Ok) (E : Value → Shared → Prop) : (X.wish E).Ok :=
  ⟨ok.mod, ok.kind, ok.glob, ok.blt, ok.above, ok.inj, ok.has, ok.cab, ok.hd, ok.frames, ok.stk, ok.exf, ok.bs, ok.bsz, ok.noex, ok.exfs, ok.funs, ok.frf⟩
theorem Cx.Ok.unwish {X : Cx} {E : Value → Shared → Prop} (ok : (X.wish E).Ok) : X.Ok :=
  ⟨ok.mod, ok.kind, ok.glob, ok.blt, ok.above, ok.inj, ok.has, ok.cab, ok.hd, ok.frames, ok.stk, ok.exf, ok.bs, ok.bsz, ok.noex, ok.exfs, ok.funs, ok.frf⟩
section
variable {X : Cx} {pins : List (Addr × Obj)} {σ : St} {H : Hp} {s : Shared} {E : Value → Shared → Prop}
theorem Inv.wish (I : Inv X pins σ H s) (E : Value → Shared → Prop) : Inv (X.wish E) pins σ H s := ⟨I.ok.wish E, I.os, I.bare, I.base, I.loc, I.cell, I.free, I.freeC, I.pin, I.hok, I.len⟩
theorem Inv.unwish (I : Inv (X.wish E) pins σ H s) : Inv X pins σ H s := ⟨I.ok.unwish, I.os, I.bare, I.base, I.loc, I.cell, I.free, I.freeC, I.pin, I.hok, I.len⟩
theorem SP.unwish {D : Ends} {f : Flow} {s' : Shared} (h : SP (X.wish E) pins D f s') : SP X pins D f s' := by
  cases f with
  | next => obtain ⟨σ', H', I, q⟩ := h; exact ⟨σ', H', I.unwish, q⟩
  | brk => obtain ⟨σ', H', I, q⟩ := h; exact ⟨σ', H', I.unwish, q⟩
  | cont => obtain ⟨σ', H', I, q⟩ := h; exact ⟨σ', H', I.unwish, q⟩
  | ret u => obtain ⟨v, σ', H', I, r, q⟩ := h; exact ⟨v, σ', H', I.unwish, r, q⟩
theorem PSs.nox {st : List Stmt} {t : TS} (h : PSs X.nox st t) : PSs X st t := fun pins s σ H D I hw =>
  wpAny_mono (h pins s σ H D (I.wish _) hw) (fun _ _ q => q.unwish) fun _ _ z => False.elim z
end

/-! ### blocks and small statements -/
section
variable {X : Cx} {st : Stmt} {rest : List Stmt} {t u : TS} {e : Expr} {te : TE} {pos : Pos}
def tNext : TS := fun D σ H => D.nx σ H
def tSeq (t u : TS) : TS := fun D σ H => t { D with nx := u D } σ H
theorem pss_nil : PSs X [] tNext := fun _ _ σ H _ I h => wpAny_execs_nil ⟨σ, H, I, h⟩
theorem pss_cons (h1 : PS X st t) (h2 : PSs X rest u) : PSs X (st :: rest) (tSeq t u) := by
  intro pins s σ H D I h
  refine wpAny_execs_cons (thn (h1 pins s σ H { D with nx := u D } I h) fun f s1 q => ?_)
  cases f with
  | next =>
    obtain ⟨σ', H', I', q⟩ := q
    exact h2 pins s1 σ' H' D I' q
  | ret v => exact q
  | brk => exact q
  | cont => exact q
theorem pss_one (h1 : PS X st t) : PSs X [st] t := by
  intro pins s σ H D I h
  refine wpAny_execs_cons (thn (h1 pins s σ H D I h) fun f s1 q => ?_)
  cases f with
  | next => exact wpAny_execs_nil q
  | ret v => exact q
  | brk => exact q
  | cont => exact q
/-- in a def's body nothing is shown -/
theorem Inv.quiet {pins : List (Addr × Obj)} {σ : St} {H : Hp} {s : Shared} (I : Inv X pins σ H s) : interactive X.env = false := by simp [interactive, I.ok.kind]
/-- an expression whose value is dropped -/
def tDrop (te : TE) : TS := fun D σ H => te σ H fun _ H1 => D.nx σ H1
theorem ps_expr (he : PE X e te) (hs : swapsWith e none pos.line X.env = pure false := by rfl) : PS X (.Expr e pos) (tDrop te) := by
  intro pins s σ H D I h
  exact wpAny_Expr_any (thn (he pins s σ H _ I h) fun v s1 hPy => ob2_3 hPy fun x H1 I1 r1 q1 => ⟨σ, H1, I1, q1⟩) I.quiet hs
def tRet (te : TE) : TS := fun D σ H => te σ H D.rt
theorem ps_ret (he : PE X e te) : PS X (.Return (some e) pos) (tRet te) := by
  intro pins s σ H D I h
  exact wpAny_Return_some (thn (he pins s σ H _ I h) fun v s1 hPy => ob2_3 hPy fun x H1 I1 r1 q1 => ⟨x, σ, H1, I1, r1, q1⟩)
def tIfS (c : TT) (t u : TS) : TS := fun D σ H => c σ H fun b H1 => if b = true then t D σ H1 else u D σ H1
theorem ps_if {c : Expr} {a b : List Stmt} {tc : TT} (hc : PT X c tc) (ha : PSs X a t) (hb : PSs X b u) : PS X (.If c a b pos) (tIfS tc t u) := by
  intro pins s σ H D I h
  refine wpAny_If (thn (hc pins s σ H _ I h) fun d s1 hPz => ?_); obtain ⟨H1, I1, q1⟩ := hPz
  cases d with
  | true => exact ha pins s1 σ H1 D I1 q1
  | false => exact hb pins s1 σ H1 D I1 q1
end

/-! ### targets -/
abbrev TG := V → St → Hp → (St → Hp → Prop) → Prop
abbrev TGs := List V → St → Hp → (St → Hp → Prop) → Prop
def PG (X : Cx) (target : Expr) (t : TG) : Prop :=
  ∀ (pins : List (Addr × Obj)) (s : Shared) (σ : St) (H : Hp) (v : V) (u : Value) (Q : St → Hp → Prop), Inv X pins σ H s → RelV v u → t v σ H Q →
    wpAny (model X.prog X.w) X.A (assign target X.env u) (fun _ s' => ∃ σ' H', Inv X pins σ' H' s' ∧ Q σ' H') X.xe s
/-- several targets, one after another -/
def PGs (X : Cx) (ts : List Expr) (t : TGs) : Prop :=
  ∀ (pins : List (Addr × Obj)) (s : Shared) (σ : St) (H : Hp) (vs : List V) (us : List Value) (Q : St → Hp → Prop), Inv X pins σ H s → Vals vs us → t vs σ H Q →
    wpAny (model X.prog X.w) X.A (assignInOrder ((assignEach ts X.env).map (·.2)) us) (fun _ s' => ∃ σ' H', Inv X pins σ' H' s' ∧ Q σ' H') X.xe s
/-- o[i] = v, by values -/
abbrev TSet := V → V → V → Hp → (Hp → Prop) → Prop
def PSet (X : Cx) (t : TSet) : Prop :=
  ∀ (pins : List (Addr × Obj)) (s : Shared) (σ : St) (H : Hp) (o i v : V) (ov iv u : Value) (Q : Hp → Prop), Inv X pins σ H s → RelV o ov → RelV i iv → RelV v u → t o i v H Q →
    wpAny (model X.prog X.w) X.A (setItem ov iv u) (fun _ s' => ∃ H', Inv X pins σ H' s' ∧ Q H') X.xe s
section
variable {X : Cx} {pos : Pos}
def gName (i : Nat) : TG := fun v σ H Q => Q (σ.set i (some v)) H
theorem pg_name {i : Nat} {x : Str} (hN : X.N.Nodup) (hi : X.N[i]? = some x) (hx : Loc X.env.scope x) (hf : X.fn x = true ∨ X.env.scope.names.lookup x = some .local := by first | exact .inl rfl | exact .inr rfl | assumption) : PG X (.Name x pos) (gName i) := by
  intro pins s σ H v u Q I r h
  exact wpAny_assign_Name (store_ok I hN hi hx r (fun s' I' => ⟨_, H, I', h⟩) hf)
def gNil : TGs := fun vs σ H Q => vs = [] ∧ Q σ H
def gCons (t : TG) (u : TGs) : TGs := fun vs σ H Q => ∃ v r, vs = v :: r ∧ t v σ H fun σ' H' => u r σ' H' Q
theorem pgs_nil : PGs X [] gNil := by
  intro pins s σ H vs us Q I r h
  obtain ⟨e, h⟩ := h
  subst e
  cases r
  exact assignInOrder_nil ⟨σ, H, I, h⟩
theorem pgs_cons {e : Expr} {es : List Expr} {t : TG} {u : TGs} (h1 : PG X e t) (h2 : PGs X es u)
    (hs : (assignEach (e :: es) X.env).map (·.2) = assign e X.env :: (assignEach es X.env).map (·.2) := by rfl) : PGs X (e :: es) (gCons t u) := by
  intro pins s σ H vs us Q I r h
  obtain ⟨v, vr, e1, h⟩ := h
  subst e1
  cases r with
  | cons r rr =>
    rw [hs]
    refine assignInOrder_cons (thn (h1 pins s σ H _ _ _ I r h) fun _ s1 hPz => ?_); obtain ⟨σ1, H1, I1, q1⟩ := hPz
    exact h2 pins s1 σ1 H1 _ _ Q I1 rr q1
/-- (a, b, ..) = a tuple of that length -/
def gTup (K : PySem.W.Frag) (n : Nat) (t : TGs) : TG := fun v σ H Q => ∃ a xs, v = .ref a ∧ SqT K H a xs ∧ xs.length = n ∧ t xs σ H Q
theorem pg_tup {es : List Expr} {k : Nat} {t : TGs} {n : Nat} (hc : X.calm = true) (h : PGs X es t)
    (hn : (assignEach es X.env).length = n := by rfl) (hst : (assignEach es X.env).findIdx? (·.1) = none := by rfl) : PG X (.Tuple es k pos) (gTup X.K n t) := by
  intro pins s σ H v u Q I r hw
  obtain ⟨a, xs, e1, hq, hl, hw⟩ := hw
  subst e1
  cases r
  obtain ⟨its, rv, ht, hz⟩ := I.tuple hq
  refine assign_Tuple_tuple (I.ok.hd hc) ht (by simp [hn, ← hl, rv.length]) hst fun h' hx => ?_
  have I1 : Inv X pins σ H { s with heap := h' } := I.kept (t' := s.toks) fun b o e => hx b o (Nat.ne_of_lt (Heap.lt_size e)) e
  exact h pins _ σ H xs _ Q I1 (by simpa using rv) hw
/-- o[i] = .. -/
def gSub (to ti : TE) (t : TSet) : TG := fun v σ H Q => to σ H fun o H1 => ti σ H1 fun i H2 => t o i v H2 fun H3 => Q σ H3
theorem pg_sub {o i : Expr} {to ti : TE} {t : TSet} (ho : PE X o to) (hi : PE X i ti) (hs : PSet X t)
    (ha : ∀ v, assign (.Subscript o i pos) X.env v = (do
      let ov ← holding [v] (eval o X.env)
      let iv ← holding [v, ov] (eval i X.env)
      standAt pos
      holding [v, ov, iv] (setItem ov iv v)
      release [v, ov, iv] []) := by intro _; rfl) : PG X (.Subscript o i pos) (gSub to ti t) := by
  intro pins s σ H v u Q I r h
  rw [ha]
  refine wpAny_bind (wpAny_holding (thn (ho pins s σ H _ I h) fun ov s1 hPz => ?_)); obtain ⟨x, H1, I1, r1, q1⟩ := hPz
  refine wpAny_bind (wpAny_holding (thn (hi pins s1 σ H1 _ I1 q1) fun iv s2 hPz => ?_)); obtain ⟨y, H2, I2, r2, q2⟩ := hPz
  refine wpAny_bind (wpAny_standAt (wpAny_bind (wpAny_holding (thn (hs pins s2 σ H2 x y v ov iv u _ I2 r1 r2 r q2) fun _ s3 hPz => ?_)))); obtain ⟨H3, I3, q3⟩ := hPz
  exact wpAny_release ⟨σ, H3, I3, q3⟩
/-- target = value -/
def tAsg (te : TE) (g : TG) : TS := fun D σ H => te σ H fun x H1 => g x σ H1 D.nx
theorem ps_asg {tg e : Expr} {te : TE} {g : TG} (he : PE X e te) (hg : PG X tg g) (hs : swapsWithSole [tg] e pos.line X.env = pure false := by rfl) (hw : swappedStores [tg] e X.env = pure none := by rfl)
    (h1 : (assignEach [tg] X.env).map (·.2) = [assign tg X.env] := by rfl) : PS X (.Assign [tg] e pos) (tAsg te g) := by
  intro pins s σ H D I h
  refine wpAny_Assign_stores (thn (he pins s σ H _ I h) fun v s1 hPz => ?_) hs hw; obtain ⟨x, H1, I1, r1, q1⟩ := hPz
  rw [h1]
  exact thn (hg pins s1 σ H1 x v _ I1 r1 q1) fun _ s2 q => q
/-- name = value -/
theorem ps_set {i : Nat} {x : Str} {e : Expr} {te : TE} {pos' : Pos} (hN : X.N.Nodup) (hi : X.N[i]? = some x) (hx : Loc X.env.scope x) (he : PE X e te) (hs : swapsWith e (some (.Name x pos')) pos.line X.env = pure false := by rfl) (hf : X.fn x = true ∨ X.env.scope.names.lookup x = some .local := by first | exact .inl rfl | exact .inr rfl | assumption) :
    PS X (.Assign [.Name x pos'] e pos) (tAsg te (gName i)) := by
  intro pins s σ H D I h
  refine wpAny_Assign_Name (thn (he pins s σ H _ I h) fun v s1 hPz => ?_) hs; obtain ⟨y, H1, I1, r1, q1⟩ := hPz
  exact store_ok I1 hN hi hx r1 (fun s2 I2 => ⟨_, H1, I2, q1⟩) hf
end

/-! ### while -/
section
variable {X : Cx} {pos : Pos}
/-- the invariant W with its measure -/
def tWhile (c : TT) (tb : TS) : TS := fun D σ H => ∃ W : Nat → St → Hp → Prop, (∃ m, W m σ H) ∧ ∀ m σ H, W m σ H →
  c σ H fun b H1 => if b = true then ∃ N : St → Hp → Prop, (∀ σ' H', N σ' H' → ∃ m', m' < m ∧ W m' σ' H') ∧ tb { D with nx := N, ct := N, bk := D.nx } σ H1 else D.nx σ H1
theorem ps_while {c : Expr} {body : List Stmt} {tc : TT} {tb : TS} (hp : PassesOwn (model X.prog X.w) X.A X.env X.xe) (hc : PT X c tc) (hb : PSs X body tb) : PS X (.While c body [] pos) (tWhile tc tb) := by
  intro pins s σ H D I h
  obtain ⟨W, ⟨m0, w0⟩, turn⟩ := h
  refine wpAny_While (codeAny_whileLoop (fun n s' => ∃ σ' H', Inv X pins σ' H' s' ∧ W n σ' H') ?_ m0 ⟨σ, H, I, w0⟩)
  rintro n s1 ⟨σ1, H1, I1, w1⟩
  refine wpAny_passesOwn hp (thn (hc pins s1 σ1 H1 _ I1 (turn n σ1 H1 w1)) fun b s2 hPz => ?_); obtain ⟨H2, I2, q2⟩ := hPz
  cases b with
  | true =>
    obtain ⟨N, hN, q2⟩ := q2
    rw [if_pos rfl]
    refine wpAny_passesOwn hp (thn (hb pins s2 σ1 H2 _ I2 q2) fun f s3 q3 => ?_)
    cases f with
    | next =>
      obtain ⟨σ3, H3, I3, n3⟩ := q3
      obtain ⟨m', hm, w3⟩ := hN σ3 H3 n3
      exact ⟨m', hm, σ3, H3, I3, w3⟩
    | cont =>
      obtain ⟨σ3, H3, I3, n3⟩ := q3
      obtain ⟨m', hm, w3⟩ := hN σ3 H3 n3
      exact ⟨m', hm, σ3, H3, I3, w3⟩
    | brk => exact q3
    | ret v => exact q3
  | false =>
    rw [if_neg Bool.false_ne_true]
    exact wpAny_execs_nil ⟨σ1, H2, I2, q2⟩
end

/-! ### what a loop or a comprehension walks -/
/-- at turn i: it yields x (the heap may grow), or it stops -/
structure It where
  go : Nat → Hp → Prop
  yld : Nat → Hp → V → Hp → Prop
  stop : Nat → Hp → Prop
/-- the iterator's own objects may turn: they are not the frame's, not pinned, younger than the entry (or a comprehension's own) -/
def FpOk (X : Cx) (pins : List (Addr × Obj)) (H : Hp) (b : Addr) : Prop :=
  H b = none ∧ b ≠ X.env.locals ∧ b ∉ X.fs ∧ (b ∈ X.ex ∨ X.s₀.heap.objs.size ≤ b) ∧ (∀ x c, X.env.cells.lookup x = some c → c ≠ b) ∧ ∀ p ∈ X.pn ++ pins, p.1 ≠ b
theorem Inv.fpOk {X : Cx} {pins : List (Addr × Obj)} {σ : St} {H H' : Hp} {s : Shared} {b : Addr} (I : Inv X pins σ H s) (hb : s.heap.objs.size ≤ b) (hn : H' b = none) : FpOk X pins H' b := by
  refine ⟨hn, Nat.ne_of_gt (Nat.lt_of_lt_of_le I.lt hb), I.nofs hb, .inr (Nat.le_trans I.sz hb), fun x c e z => ?_, fun p hp z => ?_⟩
  · obtain ⟨v, q⟩ := I.cell x c e
    exact absurd (Nat.lt_of_lt_of_le q.lt (by rw [z]; exact hb)) (Nat.lt_irrefl _)
  · exact absurd (Nat.lt_of_lt_of_le (Heap.lt_size (I.pin p hp).1) (by rw [z]; exact hb)) (Nat.lt_irrefl _)
structure Turn (P : Program) (w : World) (K : PySem.W.Frag) (tg : Expr) (J : It) (fp : List Addr) (it : Addr) (tn : Nat → Heap → Prop) : Prop where
  mem : it ∈ fp
  obj : ∀ i h, tn i h → ∀ b ∈ fp, ∃ o, h.get? b = some o ∧ ∀ v, o.data ≠ .cell v
  keep : ∀ i h h', tn i h → (∀ b ∈ fp, ∀ o, h.get? b = some o → h'.get? b = some o) → tn i h'
  item : ∀ (X : Cx), X.prog = P → X.w = w → X.K = K → X.calm = true → ∀ (i : Nat) (pins : List (Addr × Obj)) (s : Shared) (σ : St) (H : Hp) (E : Value → Shared → Prop), Inv X pins σ H s → (∀ b ∈ fp, FpOk X pins H b) → tn i s.heap → J.go i H →
    wpAny (model P w) X.A (pyNext (.ref it)) (fun r s1 => ∃ u, r = some u ∧
      wpAny (model P w) X.A (letOwnedTupleGo tg (.ref it) u) (fun _ s2 => ∃ x H', Inv X pins σ H' s2 ∧ RelV x u ∧ J.yld i H x H' ∧ tn (i + 1) s2.heap ∧ ∀ b ∈ fp, H' b = none) E s1) E s
  done : ∀ (X : Cx), X.prog = P → X.w = w → X.K = K → X.calm = true → ∀ (i : Nat) (pins : List (Addr × Obj)) (s : Shared) (σ : St) (H : Hp) (E : Value → Shared → Prop), Inv X pins σ H s → (∀ b ∈ fp, FpOk X pins H b) → tn i s.heap → J.stop i H →
    wpAny (model P w) X.A (pyNext (.ref it)) (fun r s1 => r = none ∧ Inv X pins σ H s1) E s
  self : ∀ (A : Around) (i : Nat) (s : Shared) (Q : Value → Shared → Prop) (E : Value → Shared → Prop), tn i s.heap → Q (.ref it) s → wpAny (model P w) A (pyIter (.ref it)) Q E s
abbrev TI := St → Hp → (It → Hp → Prop) → Prop
/-- an iterator has come -/
def PIE (X : Cx) (pins : List (Addr × Obj)) (σ : St) (tg : Expr) (R : It → Hp → Prop) (itv : Value) (s2 : Shared) : Prop :=
  ∃ (it : Addr) (fp : List Addr) (tn : Nat → Heap → Prop) (J : It) (H' : Hp), itv = .ref it ∧ Inv X pins σ H' s2 ∧ Turn X.prog X.w X.K tg J fp it tn ∧ tn 0 s2.heap ∧ (∀ b ∈ fp, FpOk X pins H' b) ∧ R J H'
def PI (X : Cx) (tg iter : Expr) (wi : TI) : Prop :=
  ∀ (pins : List (Addr × Obj)) (s : Shared) (σ : St) (H : Hp) (R : It → Hp → Prop), Inv X pins σ H s → wi σ H R →
    wpAny (model X.prog X.w) X.A (eval iter X.env) (fun v s1 => wpAny (model X.prog X.w) X.A (pyIter v) (PIE X pins σ tg R) X.xe s1) X.xe s

/-- the step ahead of the store is nothing for an iterator that keeps no tuple -/
theorem go_of {M : Model} {A : Around} {E : Value → Shared → Prop} {s : Shared} {tg : Expr} {it : Addr} {u : Value} {o : Obj} {n : String} {vs : Array Value} {Q : Unit → Shared → Prop} (ho : s.heap.get? it = some o) (hc : o.cls = .type n) (hd : o.data = .fields vs)
    (hn : ["enumerate", "zip", "dict_itemiterator", "dict_reverseitemiterator", "odict_iterator", "itertools.zip_longest", "itertools.pairwise"].contains n = false) (hQ : Q () s) : wpAny M A (letOwnedTupleGo tg (.ref it) u) Q E s := by
  unfold letOwnedTupleGo
  cases tg <;> first
    | exact wpAny_pure hQ
    | (cases u <;> first
        | exact wpAny_pure hQ
        | (refine wpAny_bind (wpAny_load ho ?_)
           rw [hc, hd]
           show wpAny M A (if (["enumerate", "zip", "dict_itemiterator", "dict_reverseitemiterator", "odict_iterator", "itertools.zip_longest", "itertools.pairwise"].contains n && vs[0]? == some (rawInt _)) = true then _ else _) Q E s
           rw [if_neg (by intro h; rw [hn, Bool.false_and] at h; cases h)]
           exact wpAny_pure hQ))

/-- the list at a, as it stands at each turn (a loop may append to it) -/
def Itl (K : PySem.W.Frag) (a : Addr) : It :=
  ⟨fun i H => ∃ xs x, SqL K H a xs ∧ xs[i]? = some x, fun i H x H' => H' = H ∧ ∀ xs, SqL K H a xs → xs[i]? = some x, fun i H => ∃ xs, SqL K H a xs ∧ xs.length ≤ i⟩
/-- lo, lo + 1, .. (n of them) -/
def Itr (lo : Int) (n : Nat) : It := ⟨fun i _ => i < n, fun i H x H' => H' = H ∧ x = .int (lo + i), fun i _ => n ≤ i⟩
theorem turn_list {P : Program} {w : World} {K : PySem.W.Frag} {tg : Expr} (a it : Addr) : Turn P w K tg (Itl K a) [it] it (fun i h => h.IsListIter it a i) where
  mem := by simp
  obj := fun i h st b hb => by
    have e : b = it := by simpa using hb
    subst e
    obtain ⟨o, e, c, d⟩ := st
    exact ⟨o, e, fun v z => by rw [d] at z; cases z⟩
  keep := fun i h h' st k => st.at fun o e => k it (by simp) o e
  item := by
    intro X hP hw hK hc i pins s σ H E I hf st hg
    subst hP hw hK
    obtain ⟨xs, x, hq, hx⟩ := hg
    obtain ⟨its, rv, p, hz⟩ := I.list hq
    obtain ⟨u, hu, ru⟩ := rv.get hx
    obtain ⟨f0, f1, f2, f3, f4, f5⟩ := hf it (by simp)
    refine wpAny_pyNext_list_item st p.isList (x := u) (by simpa using hu) fun h' st' sb => ?_
    have I1 : Inv X pins σ H { s with heap := h' } := I.turned (t' := s.toks) (fun b o hb e => (sb.2 b hb).trans e) f0 f1 f3 f4 f5
    obtain ⟨o, e, c, d⟩ := id st'
    exact ⟨u, rfl, go_of (s := { s with heap := h' }) e c d (by decide) ⟨x, H, I1, ru, ⟨rfl, fun ys hy => by rw [I.list_inj hy hq]; exact hx⟩, st', fun b hb => (hf b hb).1⟩⟩
  done := by
    intro X hP hw hK hc i pins s σ H E I hf st hg
    subst hP hw hK
    obtain ⟨xs, hq, hx⟩ := hg
    obtain ⟨its, rv, p, hz⟩ := I.list hq
    obtain ⟨f0, f1, f2, f3, f4, f5⟩ := hf it (by simp)
    have hl := rv.length
    exact wpAny_pyNext_list_end (I.ok.hd hc) st p.isList (by simp; (first | lia | omega)) fun h' eb => ⟨rfl, I.turned (t' := s.toks) (fun b o hb e => eb b o hb e) f0 f1 f3 f4 f5⟩
  self := fun _ _ _ _ _ st h => wpAny_pyIter_listiter st h
theorem turn_range {P : Program} {w : World} {K : PySem.W.Frag} {tg : Expr} (it : Addr) (lo : Int) (n : Nat) : Turn P w K tg (Itr lo n) [it] it (fun i h => IsRangeIter h it (lo + (i : Nat) * 1) ((n : Int) - (i : Nat)) 1) where
  mem := by simp
  obj := fun i h st b hb => by
    have e : b = it := by simpa using hb
    subst e
    exact ⟨_, st, fun v z => by
      have z' : Data.fields _ = Data.cell v := z
      cases z'⟩
  keep := fun i h h' st k => k it (by simp) _ st
  item := by
    intro X hP hw hK hc i pins s σ H E I hf st hg
    subst hP hw hK
    obtain ⟨f0, f1, f2, f3, f4, f5⟩ := hf it (by simp)
    have W := Walks.range (prog := X.prog) (w := X.w) (I.ok.hd hc) it lo 1 n
    refine W.item i s _ _ hg st fun v h' tk hv st' kk => ?_
    obtain ⟨t, rfl⟩ := hv
    have I1 : Inv X pins σ H { s with heap := h', toks := tk } := I.turned (fun b o hb e => kk b o (by simpa using hb) e) f0 f1 f3 f4 f5
    refine ⟨_, rfl, go_of (s := { s with heap := h', toks := tk }) (n := "range_iterator") st' rfl rfl (by decide) ⟨.int (lo + i), H, I1, ⟨t, ?_⟩, ⟨rfl, rfl⟩, st', fun b hb => (hf b hb).1⟩⟩
    rw [Int.mul_one]
  done := by
    intro X hP hw hK hc i pins s σ H E I hf st hg
    subst hP hw hK
    obtain ⟨f0, f1, f2, f3, f4, f5⟩ := hf it (by simp)
    exact wpAny_pyNext_range_end (I.ok.hd hc) st (by have : n ≤ i := hg; (first | lia | omega)) fun h' eb => ⟨rfl, I.turned (t' := s.toks) (fun b o hb e => eb b o hb e) f0 f1 f3 f4 f5⟩
  self := fun _ _ _ _ _ st h => wpAny_pyIter_rangeiter st h
end L2

namespace L2
open PySem PySem.Spec PyProof.Rows
section
variable {X : Cx} {tg : Expr}
def iList (K : PySem.W.Frag) (tl : TE) : TI := fun σ H R => tl σ H fun x H1 => ∃ a, x = .ref a ∧ (∃ xs, SqL K H1 a xs) ∧ R (Itl K a) H1
theorem pi_list {l : Expr} {tl : TE} (hl : PE X l tl) : PI X tg l (iList X.K tl) := by
  intro pins s σ H R I h
  refine thn (hl pins s σ H _ I h) fun v s1 hPz => ?_; obtain ⟨x, H1, I1, r1, q1⟩ := hPz
  obtain ⟨a, e, ⟨xs, hq⟩, q⟩ := q1
  subst e
  cases r1
  obtain ⟨its, rv, p, hz⟩ := I1.list hq
  refine wpAny_pyIter_list p.isList ?_
  refine ⟨s1.heap.objs.size, [s1.heap.objs.size], _, _, H1, rfl, I1.kept (t' := s1.toks) fun b o e => Heap.get?_push_of_some _ e, turn_list a _, ⟨_, Heap.get?_push_size _ rfl, rfl, rfl⟩, fun b hb => ?_, q⟩
  have e : b = s1.heap.objs.size := by simpa using hb
  subst e
  exact I1.fpOk (Nat.le_refl _) (I1.hok.fresh (Nat.le_refl _))
/-- a range object just made, walked -/
theorem range_it {pins : List (Addr × Obj)} {σ : St} {H : Hp} {s : Shared} {R : It → Hp → Prop} {E : Value → Shared → Prop} {lo hi : Int} {t u v : Tok} {tk : Nat} (I : Inv X pins σ H s) (h1 : -(2 ^ 62) ≤ lo) (h2 : lo < 2 ^ 62) (h3 : -(2 ^ 62) ≤ hi) (h4 : hi < 2 ^ 62)
    (q : R (Itr lo (hi - lo).toNat) H) : wpAny (model X.prog X.w) X.A (pyIter (.ref s.heap.objs.size)) (PIE X pins σ tg R) E { s with heap := s.heap.push { cls := .type "range", data := .fields #[.int lo t, .int hi u, .int 1 v] }, toks := tk } := by
  refine wpAny_pyIter_range (IsRange.new ..) (small_one h1 h2 h3 h4) ?_
  have I1 : Inv X pins σ H { s with heap := s.heap.push { cls := .type "range", data := .fields #[.int lo t, .int hi u, .int 1 v] }, toks := tk } := I.kept fun b o e => Heap.get?_push_of_some _ e
  refine ⟨(s.heap.push { cls := .type "range", data := .fields #[.int lo t, .int hi u, .int 1 v] }).objs.size, [(s.heap.push { cls := .type "range", data := .fields #[.int lo t, .int hi u, .int 1 v] }).objs.size], _, _, H, rfl,
    I1.kept (t' := tk) fun b o e => Heap.get?_push_of_some _ e, turn_range _ lo (hi - lo).toNat, ?_, fun b hb => ?_, q⟩
  · have e1 : lo + ((0 : Nat) : Int) * 1 = lo := by simp
    have e2 : (((hi - lo).toNat : Nat) : Int) - ((0 : Nat) : Int) = Builtin.Range.rangeSize lo hi 1 := by rw [rangeSize_one]; split <;> (first | lia | omega)
    show IsRangeIter _ _ (lo + ((0 : Nat) : Int) * 1) ((((hi - lo).toNat : Nat) : Int) - ((0 : Nat) : Int)) 1
    rw [e1, e2]
    exact Heap.get?_push_size _ rfl
  · have e : b = (s.heap.push { cls := .type "range", data := .fields #[.int lo t, .int hi u, .int 1 v] }).objs.size := by simpa using hb
    subst e
    exact I1.fpOk (Nat.le_refl _) (I1.hok.fresh (Nat.le_refl _))
def iRng1 (ta : TA) : TI := fun σ H R => ta σ H fun vs H1 => ∃ j : Int, vs = [.int j] ∧ -(2 ^ 62) ≤ j ∧ j < 2 ^ 62 ∧ R (Itr 0 j.toNat) H1
theorem pi_range1 {a : Expr} {ta : TA} {p pos : Pos} (hg : Gl X "range") (hm : X.mg "range" = none) (ha : PA X [a] ta) (hs : starEach [a] X.env = [(false, eval a X.env)] := by rfl) : PI X tg (.Call (.Name "range" p) [a] [] pos) (iRng1 ta) := by
  intro pins s σ H R I h
  refine Call_ (ld_blt I hg hm boot_range (PyProof.Rows.callWith_type1 (thn (ha pos pins s σ H _ I h) fun us s1 hPz => ?_) hs rfl)); obtain ⟨vs, H1, I1, r1, q1⟩ := hPz
  obtain ⟨j, e, q1, q2, q⟩ := q1
  subst e
  cases r1 with
  | cons r rr =>
    cases rr
    obtain ⟨t, rfl⟩ := r
    exact call_range_1 (range_it I1 (by (first | lia | omega)) (by (first | lia | omega)) q1 q2 (by simpa using q))

/-! ### for -/
/-- W: the invariant by the turn and a measure; N: what the body is to reach -/
def tFor (wi : TI) (g : TG) (tb : TS) : TS := fun D σ H => wi σ H fun J H1 => ∃ W : Nat → Nat → St → Hp → Prop, (∃ m, W 0 m σ H1) ∧ ∀ i m σ H, W i m σ H →
  (J.stop i H ∧ D.nx σ H) ∨ (J.go i H ∧ ∃ N : St → Hp → Prop, (∀ σ' H', N σ' H' → ∃ m', m' < m ∧ W (i + 1) m' σ' H') ∧ ∀ x H', J.yld i H x H' → g x σ H' fun σ2 H2 => tb { D with nx := N, ct := N, bk := D.nx } σ2 H2)
/-- the records at fp as they stand -/
def pinsAt (fp : List Addr) (h : Heap) : List (Addr × Obj) := fp.filterMap fun b => (h.get? b).map fun o => (b, o)
theorem mem_pinsAt {fp : List Addr} {h : Heap} {b : Addr} {o : Obj} (hb : b ∈ fp) (e : h.get? b = some o) : (b, o) ∈ pinsAt fp h := List.mem_filterMap.mpr ⟨b, hb, by rw [e]; rfl⟩
theorem of_pinsAt {fp : List Addr} {h : Heap} {p : Addr × Obj} (hp : p ∈ pinsAt fp h) : p.1 ∈ fp ∧ h.get? p.1 = some p.2 := by
  obtain ⟨b, hb, e⟩ := List.mem_filterMap.mp hp
  cases q : h.get? b with
  | none => rw [q] at e; cases e
  | some o =>
    rw [q] at e
    have e' : (b, o) = p := Option.some.inj e
    subst e'
    exact ⟨hb, q⟩
theorem Inv.pinned {pins : List (Addr × Obj)} {σ : St} {H : Hp} {s : Shared} {fp : List Addr} (I : Inv X pins σ H s) (hf : ∀ b ∈ fp, FpOk X pins H b) (ho : ∀ b ∈ fp, ∃ o, s.heap.get? b = some o ∧ ∀ v, o.data ≠ .cell v) : Inv X (pins ++ pinsAt fp s.heap) σ H s :=
  I.pins_of fun p hp => (List.mem_append.mp hp).elim (fun z => I.pin p (List.mem_append_right _ z)) fun z => by
    obtain ⟨hb, e⟩ := of_pinsAt z
    obtain ⟨f0, f1, f2, _⟩ := hf p.1 hb
    obtain ⟨o, e', d⟩ := ho p.1 hb
    rw [e] at e'; cases e'
    exact ⟨e, f0, f1, f2, d⟩
theorem Inv.unpinned {pins pl : List (Addr × Obj)} {σ : St} {H : Hp} {s : Shared} (I : Inv X (pins ++ pl) σ H s) : Inv X pins σ H s := I.pins_of fun p hp => I.pin p (List.mem_append_right _ (List.mem_append_left _ hp))
theorem ps_for {iter : Expr} {body : List Stmt} {wi : TI} {g : TG} {tb : TS} {pos : Pos} (hp : PassesOwn (model X.prog X.w) X.A X.env X.xe) (hc : X.calm = true) (hi : PI X tg iter wi) (hg : PG X tg g) (hb : PSs X body tb)
    (hs : ∀ x, foldedSetIterable iter X.env x = pure x := by intro _; rfl) : PS X (.For tg iter body [] pos) (tFor wi g tb) := by
  intro pins s σ H D I h
  refine wpAny_For (thn (hi pins s σ H _ I h) fun v s1 h1 => thn h1 fun itv s2 h2 => ?_) hs
  obtain ⟨it, fp, tn, J, H2, e, I2, T, st2, f2, W, ⟨m0, w0⟩, turn⟩ := h2
  subst e
  -- what stays true of the iterator's objects through the loop
  have stat : ∀ {H' : Hp}, (∀ b ∈ fp, H' b = none) → ∀ b ∈ fp, FpOk X pins H' b := fun hn b hb => ⟨hn b hb, (f2 b hb).2⟩
  refine codeAny_forLoop_any (fun n s' => ∃ i σ' H', Inv X pins σ' H' s' ∧ tn i s'.heap ∧ (∀ b ∈ fp, H' b = none) ∧ W i n σ' H') ?_ m0 ⟨0, σ, H2, I2, st2, fun b hb => (f2 b hb).1, w0⟩
  rintro n s3 ⟨i, σ3, H3, I3, st3, fr3, w3⟩
  rcases turn i n σ3 H3 w3 with ⟨stop, qn⟩ | ⟨go, N, hN, step⟩
  · refine wpAny_passesOwn hp (thn (T.done X rfl rfl rfl hc i pins s3 σ3 H3 X.xe I3 (stat fr3) st3 stop) fun r s4 hPz => ?_); obtain ⟨hr, I4⟩ := hPz
    subst hr
    exact wpAny_execs_nil ⟨σ3, H3, I4, qn⟩
  · refine wpAny_passesOwn hp (thn (T.item X rfl rfl rfl hc i pins s3 σ3 H3 X.xe I3 (stat fr3) st3 go) fun r s4 hPz => ?_); obtain ⟨u, hr, h4⟩ := hPz
    subst hr
    refine wpAny_passesOwn hp (thn h4 fun _ s5 hPz => ?_); obtain ⟨x, H5, I5, r5, y5, st5, fr5⟩ := hPz
    have I5' := I5.pinned (stat fr5) (T.obj _ _ st5)
    refine wpAny_passesOwn hp (thn (hg _ s5 σ3 H5 x u _ I5' r5 (step x H5 y5)) fun _ s6 hPz => ?_); obtain ⟨σ6, H6, I6, q6⟩ := hPz
    refine wpAny_passesOwn hp (thn (hb _ s6 σ6 H6 _ I6 q6) fun f s7 q7 => ?_)
    have again : ∀ {σ7 : St} {H7 : Hp}, Inv X (pins ++ pinsAt fp s5.heap) σ7 H7 s7 → N σ7 H7 → ∃ m, m < n ∧ ∃ i σ' H', Inv X pins σ' H' s7 ∧ tn i s7.heap ∧ (∀ b ∈ fp, H' b = none) ∧ W i m σ' H' := fun {σ7 H7} I7 n7 => by
      obtain ⟨m', hm, w7⟩ := hN σ7 H7 n7
      refine ⟨m', hm, i + 1, σ7, H7, I7.unpinned, T.keep _ _ _ st5 fun b hb o e => (I7.pin (b, o) (List.mem_append_right _ (List.mem_append_right _ (mem_pinsAt hb e)))).1, fun b hb => ?_, w7⟩
      obtain ⟨o, e, d⟩ := T.obj _ _ st5 b hb
      exact (I7.pin (b, o) (List.mem_append_right _ (List.mem_append_right _ (mem_pinsAt hb e)))).2.1
    cases f with
    | next => obtain ⟨σ7, H7, I7, n7⟩ := q7; exact again I7 n7
    | cont => obtain ⟨σ7, H7, I7, n7⟩ := q7; exact again I7 n7
    | brk => obtain ⟨σ7, H7, I7, q7⟩ := q7; exact ⟨σ7, H7, I7.unpinned, q7⟩
    | ret v => obtain ⟨x7, σ7, H7, I7, r7, q7⟩ := q7; exact ⟨x7, σ7, H7, I7.unpinned, r7, q7⟩
end

/-! ### the forms one uses -/
/-- over a list that the body leaves as it is -/
theorem for_list {K : PySem.W.Frag} {a : Addr} {xs : List V} {g : TG} {tb : TS} {D : Ends} {σ : St} {H : Hp} (Pv : Nat → St → Hp → Prop) (h0 : Pv 0 σ H) (hl : ∀ i σ H, i ≤ xs.length → Pv i σ H → SqL K H a xs)
    (hs : ∀ i x σ H, xs[i]? = some x → Pv i σ H → g x σ H fun σ2 H2 => tb { D with nx := Pv (i + 1), ct := Pv (i + 1), bk := D.nx } σ2 H2) (hd : ∀ σ H, Pv xs.length σ H → D.nx σ H) :
    ∃ W : Nat → Nat → St → Hp → Prop, (∃ m, W 0 m σ H) ∧ ∀ i m σ H, W i m σ H →
      ((Itl K a).stop i H ∧ D.nx σ H) ∨ ((Itl K a).go i H ∧ ∃ N : St → Hp → Prop, (∀ σ' H', N σ' H' → ∃ m', m' < m ∧ W (i + 1) m' σ' H') ∧ ∀ x H', (Itl K a).yld i H x H' → g x σ H' fun σ2 H2 => tb { D with nx := N, ct := N, bk := D.nx } σ2 H2) := by
  refine ⟨fun i m σ H => m = xs.length - i ∧ i ≤ xs.length ∧ Pv i σ H, ⟨xs.length, by simp, Nat.zero_le _, h0⟩, ?_⟩
  rintro i m σ H ⟨rfl, hi, p⟩
  have q := hl i σ H hi p
  by_cases hlt : i < xs.length
  · refine .inr ⟨⟨xs, xs[i], q, by simp [hlt]⟩, Pv (i + 1), fun σ' H' p' => ⟨xs.length - (i + 1), by (first | lia | omega), rfl, hlt, p'⟩, fun x H' y => ?_⟩
    obtain ⟨e, y⟩ := y
    subst e
    exact hs i x σ _ (y xs q) p
  · have e : i = xs.length := by (first | lia | omega)
    subst e
    exact .inl ⟨⟨xs, q, Nat.le_refl _⟩, hd σ H p⟩
theorem for_range {lo : Int} {n : Nat} {g : TG} {tb : TS} {D : Ends} {σ : St} {H : Hp} (Pv : Nat → St → Hp → Prop) (h0 : Pv 0 σ H)
    (hs : ∀ i σ H, i < n → Pv i σ H → g (.int (lo + i)) σ H fun σ2 H2 => tb { D with nx := Pv (i + 1), ct := Pv (i + 1), bk := D.nx } σ2 H2) (hd : ∀ σ H, Pv n σ H → D.nx σ H) :
    ∃ W : Nat → Nat → St → Hp → Prop, (∃ m, W 0 m σ H) ∧ ∀ i m σ H, W i m σ H →
      ((Itr lo n).stop i H ∧ D.nx σ H) ∨ ((Itr lo n).go i H ∧ ∃ N : St → Hp → Prop, (∀ σ' H', N σ' H' → ∃ m', m' < m ∧ W (i + 1) m' σ' H') ∧ ∀ x H', (Itr lo n).yld i H x H' → g x σ H' fun σ2 H2 => tb { D with nx := N, ct := N, bk := D.nx } σ2 H2) := by
  refine ⟨fun i m σ H => m = n - i ∧ i ≤ n ∧ Pv i σ H, ⟨n, by simp, Nat.zero_le _, h0⟩, ?_⟩
  rintro i m σ H ⟨rfl, hi, p⟩
  by_cases hlt : i < n
  · refine .inr ⟨hlt, Pv (i + 1), fun σ' H' p' => ⟨n - (i + 1), by (first | lia | omega), rfl, hlt, p'⟩, fun x H' y => ?_⟩
    obtain ⟨e, y⟩ := y
    subst e y
    exact hs i σ _ hlt p
  · have e : i = n := by (first | lia | omega)
    subst e
    exact .inl ⟨Nat.le_refl _, hd σ H p⟩
end L2

namespace L2
open PySem PySem.Spec PyProof.Rows

abbrev R2 := V → V → Hp → VK → Prop
/-- a two-place operation on values: f is binaryOp op, inplaceOp op or compareOp op -/
def OpR (X : Cx) (f : Value → Value → Sem Value) (r : R2) : Prop :=
  ∀ (pins : List (Addr × Obj)) (s : Shared) (σ : St) (H : Hp) (x y : V) (v u : Value) (Q : VK), Inv X pins σ H s → RelV x v → RelV y u → r x y H Q →
    wpAny (model X.prog X.w) X.A (f v u) (EP X pins σ Q) X.xe s
/-- a call of a value that is known (a builtin, a type) with values -/
def CallR (X : Cx) (f : Value) (r : List V → Hp → VK → Prop) : Prop :=
  ∀ (pins : List (Addr × Obj)) (s : Shared) (σ : St) (H : Hp) (xs : List V) (us : List Value) (Q : VK), Inv X pins σ H s → Vals xs us → r xs H Q →
    wpAny (model X.prog X.w) X.A (call f us) (EP X pins σ Q) X.xe s

def tOp (r : R2) (ta tb : TE) : TE := fun σ H Q => ta σ H fun x H1 => tb σ H1 fun y H2 => r x y H2 Q
/-- ints in, under C, and a value out -/
def rI (C : Int → Int → Prop) (g : Int → Int → V) : R2 := fun x y H Q => ∃ i j, x = .int i ∧ y = .int j ∧ C i j ∧ Q (g i j) H
def rI0 (g : Int → Int → V) : R2 := fun x y H Q => ∃ i j, x = .int i ∧ y = .int j ∧ Q (g i j) H

section
variable {X : Cx} {a b c : Expr} {ta tb tc : TE} {pos : Pos}

theorem binT (ha : PE X a ta) (hb : PE X b tb) {pins : List (Addr × Obj)} {s : Shared} {σ : St} {H : Hp} {R : V → V → Hp → Prop} (I : Inv X pins σ H s)
    (h : ta σ H fun x H1 => tb σ H1 fun y H2 => R x y H2) {Q : Value → Shared → Prop} {f : Value → Value → Sem Value}
    (hf : ∀ v u s2 x y H2, Inv X pins σ H2 s2 → RelV x v → RelV y u → R x y H2 → wpAny (model X.prog X.w) X.A (f v u) Q X.xe s2) :
    wpAny (model X.prog X.w) X.A (eval a X.env) (fun v s₁ => wpAny (model X.prog X.w) X.A (eval b X.env) (fun u s₂ => wpAny (model X.prog X.w) X.A (f v u) Q X.xe s₂) X.xe s₁) X.xe s := by
  refine thn (ha pins s σ H _ I h) fun v s1 hPz => ?_; obtain ⟨x, H1, I1, r1, q1⟩ := hPz
  refine thn (hb pins s1 σ H1 _ I1 q1) fun u s2 hPz => ?_; obtain ⟨y, H2, I2, r2, q2⟩ := hPz
  exact hf v u s2 x y H2 I2 r1 r2 q2

theorem pe_op {op : Operator} {r : R2} (ho : OpR X (binaryOp op) r) (ha : PE X a ta) (hb : PE X b tb) : PE X (.BinOp a op b pos) (tOp r ta tb) := by
  intro pins s σ H Q I h
  exact wpAny_BinOp (binT ha hb I h fun v u s2 x y H2 I2 rx ry q => ho pins s2 σ H2 x y v u Q I2 rx ry q)

/-! ### ints -/
theorem opI {f : Value → Value → Sem Value} {C : Int → Int → Prop} {g : Int → Int → Int}
    (rule : ∀ (i j : Int) (t u : Tok) (s : Shared) (Q : Value → Shared → Prop) (E : Value → Shared → Prop), C i j → Q (.int (g i j) s.toks) { s with toks := s.toks + 1 } → wpAny (model X.prog X.w) X.A (f (.int i t) (.int j u)) Q E s) :
    OpR X f (rI C fun i j => .int (g i j)) := by
  intro pins s σ H x y v u Q I rx ry h
  obtain ⟨i, j, rfl, rfl, hc, q⟩ := h
  obtain ⟨t, rfl⟩ := rx
  obtain ⟨t', rfl⟩ := ry
  exact rule i j t t' s _ _ hc ⟨.int (g i j), H, I.tok _, ⟨_, rfl⟩, q⟩
theorem opI0 {f : Value → Value → Sem Value} {g : Int → Int → Int}
    (rule : ∀ (i j : Int) (t u : Tok) (s : Shared) (Q : Value → Shared → Prop) (E : Value → Shared → Prop), Q (.int (g i j) s.toks) { s with toks := s.toks + 1 } → wpAny (model X.prog X.w) X.A (f (.int i t) (.int j u)) Q E s) :
    OpR X f (rI0 fun i j => .int (g i j)) := by
  intro pins s σ H x y v u Q I rx ry h
  obtain ⟨i, j, rfl, rfl, q⟩ := h
  obtain ⟨t, rfl⟩ := rx
  obtain ⟨t', rfl⟩ := ry
  exact rule i j t t' s _ _ ⟨.int (g i j), H, I.tok _, ⟨_, rfl⟩, q⟩
theorem opB0 {f : Value → Value → Sem Value} {g : Int → Int → Bool}
    (rule : ∀ (i j : Int) (t u : Tok) (s : Shared) (Q : Value → Shared → Prop) (E : Value → Shared → Prop), Q (.bool (g i j)) s → wpAny (model X.prog X.w) X.A (f (.int i t) (.int j u)) Q E s) :
    OpR X f (rI0 fun i j => .bl (g i j)) := by
  intro pins s σ H x y v u Q I rx ry h
  obtain ⟨i, j, rfl, rfl, q⟩ := h
  obtain ⟨t, rfl⟩ := rx
  obtain ⟨t', rfl⟩ := ry
  exact rule i j t t' s _ _ ⟨.bl (g i j), H, I, rfl, q⟩

def CDiv (i j : Int) : Prop := 0 < j ∧ j < 1073741824
def CMul (i j : Int) : Prop := (-(2 ^ 64) < i ∧ i < 2 ^ 64) ∨ (-(2 ^ 64) < j ∧ j < 2 ^ 64)
theorem CMul.ok {i j : Int} (h : CMul i j) : IntMulOk i j := by
  rcases h with ⟨h1, h2⟩ | ⟨h1, h2⟩
  · exact .of_left (intBits_le_64 h1 h2)
  · exact .of_right (intBits_le_64 h1 h2)

theorem op_add : OpR X (binaryOp .Add) (rI0 fun i j => .int (i + j)) := opI0 fun _ _ _ _ _ _ _ q => add_int q
theorem op_sub : OpR X (binaryOp .Sub) (rI0 fun i j => .int (i - j)) := opI0 fun _ _ _ _ _ _ _ q => sub_int q
theorem op_mul : OpR X (binaryOp .Mult) (rI CMul fun i j => .int (i * j)) := opI fun _ _ _ _ _ _ _ hc q => mul_int q hc.ok
/-- // by a positive divisor -/
theorem op_fdiv : OpR X (binaryOp .FloorDiv) (rI CDiv fun i j => .int (i / j)) := opI fun i j _ _ _ _ _ hc q => by
  have h1 : (0 : Int) < j := hc.1
  have h2 : j < 1073741824 := hc.2
  exact floordiv_int (by (first | lia | omega)) (by rw [Int.fdiv_eq_ediv_of_nonneg i (by (first | lia | omega))]; exact q) (.inl (PyProof.noPylong_small (by (first | lia | omega))))
/-- % by a positive divisor of any size -/
theorem op_mod : OpR X (binaryOp .Mod) (rI (fun _ j => 0 < j) fun i j => .int (i % j)) := opI fun i j _ _ _ _ _ hc q => by
  have h1 : (0 : Int) < j := hc
  exact mod_int' (by (first | lia | omega)) (by rw [Int.fmod_eq_emod_of_nonneg i (by (first | lia | omega))]; exact q)



/-! ### bools among ints: n += (a < b) -/
end

/-! ### comparisons -/
/-- the scalars that == tells apart as data does -/
def scal : V → V → Bool
  | .non, .non => true | .non, .int _ => true | .int _, .non => true | .non, .bl _ => true | .bl _, .non => true | .non, .str _ => true | .str _, .non => true
  | .int _, .int _ => true | .bl _, .bl _ => true | .str _, .str _ => true | .byt _, .byt _ => true
  | .int _, .str _ => true | .str _, .int _ => true | .bl _, .str _ => true | .str _, .bl _ => true
  | _, _ => false
def rEq : R2 := fun x y H Q => scal x y = true ∧ Q (.bl (decide (x = y))) H
def rNe : R2 := fun x y H Q => scal x y = true ∧ Q (.bl (!decide (x = y))) H

theorem dec_int {i j : Int} : decide (V.int i = V.int j) = (i == j) := by
  rw [Bool.eq_iff_iff]
  simp
theorem dec_bl {i j : Bool} : decide (V.bl i = V.bl j) = (i == j) := by
  rw [Bool.eq_iff_iff]
  simp
theorem dec_str {i j : Str} : decide (V.str i = V.str j) = (i == j) := by
  rw [Bool.eq_iff_iff]
  simp
theorem dec_byt {i j : Array UInt8} : decide (V.byt i = V.byt j) = (i.toList == j.toList) := by
  rw [Bool.eq_iff_iff]
  cases i
  cases j
  simp

section
variable {X : Cx} {a b c : Expr} {ta tb tc : TE} {pos : Pos}
theorem fin_bl {pins : List (Addr × Obj)} {σ : St} {H : Hp} {s : Shared} {Q : VK} {k k' : Bool} (I : Inv X pins σ H s) (q : Q (.bl k) H) (e : k = k') : EP X pins σ Q (.bool k') s := by
  subst e
  exact ⟨.bl k, H, I, rfl, q⟩
theorem op_eq : OpR X (compareOp .Eq) rEq := by
  intro pins s σ H x y v u Q I rx ry h
  obtain ⟨hs, q⟩ := h
  cases x with
  | non =>
    cases rx
    cases y with
    | non => cases ry; exact PySem.EqNone.eq_none_none (fin_bl I q (by simp))
    | bl j => cases ry; exact PySem.EqNone.eq_none_bool (fin_bl I q (by simp))
    | int j => obtain ⟨t', rfl⟩ := ry; exact PySem.EqNone.eq_none_int (fin_bl I q (by simp))
    | str j => obtain ⟨t', rfl⟩ := ry; exact PySem.EqNone.eq_none_str (fin_bl I q (by simp))
    | _ => exact absurd (show false = true from hs) Bool.false_ne_true
  | bl i =>
    cases rx
    cases y with
    | non => cases ry; exact PySem.EqNone.eq_bool_none (fin_bl I q (by simp))
    | bl j => cases ry; exact eq_bool (fin_bl I q dec_bl)
    | str j => obtain ⟨t', rfl⟩ := ry; exact PySem.EqMixed.eq_bool_str (fin_bl I q (by simp))
    | _ => exact absurd (show false = true from hs) Bool.false_ne_true
  | int i =>
    obtain ⟨t, rfl⟩ := rx
    cases y with
    | non => cases ry; exact PySem.EqNone.eq_int_none (fin_bl I q (by simp))
    | int j => obtain ⟨t', rfl⟩ := ry; exact eq_int (fin_bl I q dec_int)
    | str j => obtain ⟨t', rfl⟩ := ry; exact PySem.EqMixed.eq_int_str (fin_bl I q (by simp))
    | _ => exact absurd (show false = true from hs) Bool.false_ne_true
  | str i =>
    obtain ⟨t, rfl⟩ := rx
    cases y with
    | non => cases ry; exact PySem.EqNone.eq_str_none (fin_bl I q (by simp))
    | bl j => cases ry; exact PySem.EqMixed.eq_str_bool (fin_bl I q (by simp))
    | int j => obtain ⟨t', rfl⟩ := ry; exact PySem.EqMixed.eq_str_int (fin_bl I q (by simp))
    | str j => obtain ⟨t', rfl⟩ := ry; exact eq_str (fin_bl I q dec_str)
    | _ => exact absurd (show false = true from hs) Bool.false_ne_true
  | byt i =>
    obtain ⟨t, rfl⟩ := rx
    cases y with
    | byt j => obtain ⟨t', rfl⟩ := ry; exact PySem.W.eq_bytes (fin_bl I q dec_byt)
    | _ => exact absurd (show false = true from hs) Bool.false_ne_true
  | _ => cases y <;> exact absurd (show false = true from hs) Bool.false_ne_true
theorem op_ne : OpR X (compareOp .NotEq) rNe := by
  intro pins s σ H x y v u Q I rx ry h
  obtain ⟨hs, q⟩ := h
  cases x with
  | non =>
    cases rx
    cases y with
    | non => cases ry; exact PySem.EqNone.ne_none_none (fin_bl I q (by simp))
    | bl j => cases ry; exact PySem.EqNone.ne_none_bool (fin_bl I q (by simp))
    | int j => obtain ⟨t', rfl⟩ := ry; exact PySem.EqNone.ne_none_int (fin_bl I q (by simp))
    | str j => obtain ⟨t', rfl⟩ := ry; exact PySem.EqNone.ne_none_str (fin_bl I q (by simp))
    | _ => exact absurd (show false = true from hs) Bool.false_ne_true
  | bl i =>
    cases rx
    cases y with
    | non => cases ry; exact PySem.EqNone.ne_bool_none (fin_bl I q (by simp))
    | bl j => cases ry; exact ne_bool (fin_bl I q (congrArg not dec_bl))
    | str j => obtain ⟨t', rfl⟩ := ry; exact PySem.EqMixed.ne_bool_str (fin_bl I q (by simp))
    | _ => exact absurd (show false = true from hs) Bool.false_ne_true
  | int i =>
    obtain ⟨t, rfl⟩ := rx
    cases y with
    | non => cases ry; exact PySem.EqNone.ne_int_none (fin_bl I q (by simp))
    | int j => obtain ⟨t', rfl⟩ := ry; exact ne_int (fin_bl I q (congrArg not dec_int))
    | str j => obtain ⟨t', rfl⟩ := ry; exact PySem.EqMixed.ne_int_str (fin_bl I q (by simp))
    | _ => exact absurd (show false = true from hs) Bool.false_ne_true
  | str i =>
    obtain ⟨t, rfl⟩ := rx
    cases y with
    | non => cases ry; exact PySem.EqNone.ne_str_none (fin_bl I q (by simp))
    | bl j => cases ry; exact PySem.EqMixed.ne_str_bool (fin_bl I q (by simp))
    | int j => obtain ⟨t', rfl⟩ := ry; exact PySem.EqMixed.ne_str_int (fin_bl I q (by simp))
    | str j => obtain ⟨t', rfl⟩ := ry; exact ne_str (fin_bl I q (congrArg not dec_str))
    | _ => exact absurd (show false = true from hs) Bool.false_ne_true
  | byt i =>
    obtain ⟨t, rfl⟩ := rx
    cases y with
    | byt j => obtain ⟨t', rfl⟩ := ry; exact PySem.W.ne_bytes (fin_bl I q (congrArg not dec_byt))
    | _ => exact absurd (show false = true from hs) Bool.false_ne_true
  | _ => cases y <;> exact absurd (show false = true from hs) Bool.false_ne_true

theorem op_lt : OpR X (compareOp .Lt) (rI0 fun i j => .bl (decide (i < j))) := opB0 fun _ _ _ _ _ _ _ q => lt_int q
theorem op_le : OpR X (compareOp .LtE) (rI0 fun i j => .bl (decide (i ≤ j))) := opB0 fun _ _ _ _ _ _ _ q => le_int q
theorem op_gt : OpR X (compareOp .Gt) (rI0 fun i j => .bl (decide (j < i))) := opB0 fun _ _ _ _ _ _ _ q => gt_int q
theorem op_ge : OpR X (compareOp .GtE) (rI0 fun i j => .bl (decide (j ≤ i))) := opB0 fun _ _ _ _ _ _ _ q => ge_int q




theorem nomark (b : Expr) {op : CmpOp} (h : op ≠ .In := by decide) (h2 : op ≠ .NotIn := by decide) : behindInMarks op b = false := by
  have e1 : (op == CmpOp.In) = false := by cases op <;> first | rfl | exact absurd rfl h
  have e2 : (op == CmpOp.NotIn) = false := by cases op <;> first | rfl | exact absurd rfl h2
  cases b <;> simp [behindInMarks, e1, e2]
/-- a comparison as a value; hm: nomark b, or (for in, not in) by with_unfolding_all rfl -/
theorem pe_cmpR {op : CmpOp} {r : R2} (ho : OpR X (compareOp op) r) (ha : PE X a ta) (hb : PE X b tb) (hm : behindInMarks op b = false) : PE X (.Compare a [op] [b] pos) (tOp r ta tb) := by
  intro pins s σ H Q I h
  exact wpAny_Compare1 (binT ha hb I h fun v u s2 x y H2 I2 rx ry q => ho pins s2 σ H2 x y v u Q I2 rx ry q) hm
/-- a reading of a value as a test -/
def tTest (t : TE) : TT := fun σ H Q => t σ H fun x H' => ∃ k, x = .bl k ∧ Q k H'
theorem pt_cmpR {op : CmpOp} {r : R2} (ho : OpR X (compareOp op) r) (ha : PE X a ta) (hb : PE X b tb) (hm : behindInMarks op b = false) : PT X (.Compare a [op] [b] pos) (tTest (tOp r ta tb)) := by
  intro pins s σ H Q I h
  refine wpAny_isTrue_Compare1 (thn (ha pins s σ H _ I h) fun v s1 hPy => ob2_3 hPy fun x H1 I1 r1 q1 => thn (hb pins s1 σ H1 _ I1 q1) fun u s2 ⟨y, H2, I2, r2, q2⟩ =>
    thn (ho pins s2 σ H2 x y v u _ I2 r1 r2 q2) fun c s3 ⟨z, H3, I3, r3, k, e, q3⟩ => ?_) hm
  subst e
  cases r3
  exact wpAny_truthy_bool ⟨H3, I3, q3⟩
/-- a op1 b op2 c -/
def tChain (r r' : R2) (ta tb tc : TE) : TE := fun σ H Q => ta σ H fun x H1 => tb σ H1 fun y H2 => r x y H2 fun z H3 => ∃ k, z = .bl k ∧
  (if k = true then tc σ H3 fun w' H4 => r' y w' H4 Q else Q (.bl false) H3)
theorem pe_chain {op op' : CmpOp} {r r' : R2} (ho : OpR X (compareOp op) r) (ho' : OpR X (compareOp op') r') (ha : PE X a ta) (hb : PE X b tb) (hc : PE X c tc)
    (hm : lastMarks [op, op'] [b, c] = false := by with_unfolding_all rfl) : PE X (.Compare a [op, op'] [b, c] pos) (tChain r r' ta tb tc) := by
  intro pins s σ H Q I h
  refine Compare_chain (thn (ha pins s σ H _ I h) fun v s1 hPy => ob2_3 hPy fun x H1 I1 r1 q1 => chain_link (thn (hb pins s1 σ H1 _ I1 q1) fun u s2 ⟨y, H2, I2, r2, q2⟩ =>
    thn (ho pins s2 σ H2 x y v u _ I2 r1 r2 q2) fun d s3 ⟨z, H3, I3, r3, k, e, q3⟩ => ?_)) hm
  subst e
  cases r3
  refine wpAny_truthy_bool ?_
  cases k with
  | false => exact ite_ff ⟨.bl false, H3, I3, rfl, q3⟩
  | true => exact ite_tt (chain_last (thn (hc pins s3 σ H3 _ I3 q3) fun w' s4 hPy => ob2_3 hPy fun z' H4 I4 r4 q4 => ho' pins s4 σ H4 y z' u w' Q I4 r2 r4 q4))

/-! ### truth -/
theorem line63 : (sizeLine : Nat) < 2 ^ 63 := by rw [sizeLine_eq]; decide

/-! ### strs and bytes -/


/-! ### scalar builtins, by CallR -/
theorem vals1 {x : V} {us : List Value} (r : Vals [x] us) : ∃ u, us = [u] ∧ RelV x u := by
  cases r with
  | cons r1 r2 => cases r2; exact ⟨_, rfl, r1⟩
end
end L2

namespace L2
open PySem PySem.Spec PyProof.Rows

/-! ### an instance, its attributes a map -/
structure ObjM (h : Heap) (x dx C : Addr) (mA : Str → Option Value) : Prop where
  obj : h.get? x = some (PySem.W.instObj C dx)
  ns : h.Ns1 dx mA
  ne : dx ≠ x

theorem lookIn_ns {h : Heap} {dx : Addr} {mA : Str → Option Value} (n : h.Ns1 dx mA) : ∃ od, h.get? dx = some od ∧ ∀ name, PySem.W.lookIn name od = some (mA name) := by
  obtain ⟨o, es, ep, ho, hd, hk, _, hm⟩ := n
  refine ⟨o, ho, fun name => ?_⟩
  have e := hm name
  unfold nsFind findBy at e
  rw [← Array.find?_toList] at e
  unfold PySem.W.lookIn
  rw [hd]
  dsimp only
  split
  · rename_i y q
    rw [q] at e
    exact congrArg some e
  · rename_i q
    rw [q] at e
    have a : es.toList.any (·.refKey) = false := by
      rw [List.any_eq_false]
      intro y hy
      obtain ⟨z, t, hkey⟩ := hk y (Array.mem_toList_iff.mp hy)
      simp [DictEntry.refKey, hkey]
    have a' : ¬ es.toList.any (·.refKey) = true := by rw [a]; exact Bool.false_ne_true
    rw [if_neg a']
    exact congrArg some e

theorem ObjM.look {h : Heap} {x dx C : Addr} {mA : Str → Option Value} (I : ObjM h x dx C mA) : ∃ od, PySem.W.InstAt h x (PySem.W.instObj C dx) C (some od) ∧ ∀ name, PySem.W.lookIn name od = some (mA name) :=
  let ⟨od, ho, hl⟩ := lookIn_ns I.ns
  ⟨od, ⟨I.obj, rfl, rfl, ho⟩, hl⟩

section
variable {prog : Program} {w : World} {A : Around} {E : Value → Shared → Prop} {s : Shared} {K : PySem.W.Frag} {x dx C f : Addr} {mA : Str → Option Value} {name : Str} {v : Value}

theorem get_map {expr : Bool} {Q : Value → Shared → Prop} (X : K.In s.heap) (I : ObjM s.heap x dx C mA) (hg : PySem.W.plainGet K C name = true) (hh : PySem.W.hasDictIn K C = true)
    (ha : PySem.W.findIn K (.ref C) name = some none) (hv : mA name = some v) (hv' : PySem.W.handedIn v = true) (h : Q v { s with toks := s.toks + 1 }) :
    wpAny (model prog w) A (getAttr (.ref x) name expr) Q E s := by
  obtain ⟨od, J, hl⟩ := I.look
  exact PySem.W.get_value X J (PySem.W.plainGet_of hg).1 (PySem.W.findObj_own hh ha rfl (by rw [hl, hv])) hv' h


theorem get_meth {pl : Sem Bool} {Q : Value × List Value → Shared → Prop} (X : K.In s.heap) (I : ObjM s.heap x dx C mA) (hg : PySem.W.plainGet K C name = true)
    (hf : PySem.W.findIn K (.ref C) name = some (some (.ref f))) (ht : PySem.W.isFn K (.ref f) = true) (hv : mA name = none) (h : Q (.ref f, [.ref x]) s) :
    wpAny (model prog w) A (getMethod (.ref x) name pl) Q E s := by
  obtain ⟨od, J, hl⟩ := I.look
  exact PySem.W.method_fn X J (PySem.W.plainGet_of hg).1 (PySem.W.plainGet_of hg).2 hf (beq_iff_eq.mp ht) (by show (PySem.W.lookIn name od).map (·.isSome) = some false; rw [hl, hv]; rfl) h

theorem set_map {ns : List Str} {Q : Unit → Shared → Prop} (X : K.In s.heap) (I : ObjM s.heap x dx C mA)
    (hs : PySem.W.findIn K (.ref C) "__setattr__" = some (some (.builtin "object.__setattr__"))) (hp : PySem.W.plainOver K C = true) (ht : PySem.W.takerIn K C name = some none) (hh : PySem.W.hasDictIn K C = true)
    (hw : PySem.Within mA ns) (hsz : ns.length ≤ sizeLine)
    (h : ∀ h', ObjM h' x dx C (fun y => if y = name then some v else mA y) → Heap.SameBut dx s.heap h' → Q () { s with heap := h', toks := s.toks + 2 }) :
    wpAny (model prog w) A (setAttr (.ref x) name v) Q E s := by
  obtain ⟨od, J, hl⟩ := I.look
  refine PySem.W.set_plain X J hs (PySem.W.osa_open (s := { s with toks := s.toks + 1 }) (r := none) X J hp ht fun b => ?_)
  obtain ⟨cd, hc, hd'⟩ := PySem.W.any_some hh
  have hx : s.heap.get? x = some ⟨.ref C, some dx, .plain, #[]⟩ := I.obj
  refine wpAny_bind (wpAny_pure (wpAny_bind (wpAny_bind (wpAny_loadPart hx (wpAny_bind (PySem.W.Looks.here (s := { s with toks := s.toks + 1 }) (PySem.W.looks_clsIn X hc) ?_))))))
  rw [hd']
  refine wpAny_pure (a := some dx) (wpAny_bind (wpAny_pure (wpAny_bind ?_)))
  refine wpAny_nsSet1 (s := { s with toks := s.toks + 1 }) I.ns fun h' hn2 hs2 => ?_
  obtain ⟨oD, esD, epD, hoD, hdD, hcD⟩ := hn2.count (PySem.Within.cons name v hw)
  refine wpAny_bind (wpAny_lookBehind hoD (by rw [hdD]; exact pastItsLine_dict (Nat.le_trans hcD (by rw [List.length_cons]; (first | lia | omega)))) ?_)
  exact wpAny_pure (h _ ⟨(hs2.2 _ (Ne.symm I.ne)).trans I.obj, hn2, I.ne⟩ hs2)

/-- C(..): the dict at the heap's end, the instance behind it; then its __init__ -/
theorem make_map {R : Result → Shared → Prop} {vs : List Value} {kw : List (Str × Value)} (X : K.In s.heap) (hm : PySem.W.makesIn K C = true)
    (hi : PySem.W.findIn K (.ref C) "__init__" = some (some (.ref f))) (hf : PySem.W.typeIn K (.ref f) = some (.type "function"))
    (h : codeAny (model prog w) (A.under (.builtin "type.__call__" ⟨.ref C :: vs, kw⟩)) (.call (.ref f) ⟨.ref (s.heap.objs.size + 1) :: vs, kw⟩) (PySem.W.InitBack (s.heap.objs.size + 1) R)
      { s with heap := (s.heap.push PySem.W.emptyDict).push (PySem.W.instObj C s.heap.objs.size) }) :
    codeAny (model prog w) A (.call (.ref C) ⟨vs, kw⟩) R s := by
  obtain ⟨hh, g, d, t, os⟩ := s
  exact PySem.W.make_core (PySem.W.makes_of X hm) (PySem.W.looks_findIn X hi) (fun self => PySem.W.bind_fn X self hf) (.inl rfl) h
end

/-! ### the attributes as a list of pairs -/
def putF (f : Str) (v : V) : List (Str × V) → List (Str × V)
  | [] => [(f, v)]
  | (g, x) :: r => if g = f then (g, v) :: r else (g, x) :: putF f v r
theorem lookup_putF (f g : Str) (v : V) : ∀ fs : List (Str × V), (putF f v fs).lookup g = if g = f then some v else fs.lookup g
  | [] => by
    show List.lookup g [(f, v)] = _
    by_cases h : g = f
    · have hb : (g == f) = true := beq_iff_eq.mpr h
      simp only [List.lookup, hb, if_pos h]
    · have hb : (g == f) = false := beq_eq_false_iff_ne.mpr h
      simp only [List.lookup, hb, if_neg h]
  | (k, x) :: r => by
    have ih := lookup_putF f g v r
    rw [show putF f v ((k, x) :: r) = (if k = f then (k, v) :: r else (k, x) :: putF f v r) from rfl]
    by_cases hk : k = f
    · rw [if_pos hk]
      by_cases h : g = k
      · have hb : (g == k) = true := beq_iff_eq.mpr h
        simp only [List.lookup, hb, if_pos (h.trans hk)]
      · have hb : (g == k) = false := beq_eq_false_iff_ne.mpr h
        simp only [List.lookup, hb, if_neg (fun e : g = f => h (e.trans hk.symm))]
    · rw [if_neg hk]
      by_cases h : g = k
      · have hb : (g == k) = true := beq_iff_eq.mpr h
        simp only [List.lookup, hb, if_neg (fun e : g = f => hk (h.symm.trans e))]
      · have hb : (g == k) = false := beq_eq_false_iff_ne.mpr h
        simp only [List.lookup, hb]
        exact ih
theorem keys_putF (f : Str) (v : V) : ∀ fs : List (Str × V), f ∈ (putF f v fs).map (·.1) ∧ ∀ g, g ∈ fs.map (·.1) → g ∈ (putF f v fs).map (·.1)
  | [] => ⟨by simp [putF], fun g h => by simp at h⟩
  | (k, x) :: r => by
    obtain ⟨i1, i2⟩ := keys_putF f v r
    rw [show putF f v ((k, x) :: r) = (if k = f then (k, v) :: r else (k, x) :: putF f v r) from rfl]
    by_cases hk : k = f
    · rw [if_pos hk]
      subst hk
      exact ⟨by simp, fun g h => by simpa using h⟩
    · rw [if_neg hk]
      refine ⟨?_, fun g h => ?_⟩
      · rw [List.map_cons]
        exact List.mem_cons_of_mem _ i1
      · rw [List.map_cons] at h ⊢
        rcases List.mem_cons.mp h with e | e
        · exact List.mem_cons.mpr (.inl e)
        · exact List.mem_cons_of_mem _ (i2 g e)
theorem length_putF (f : Str) (v : V) : ∀ fs : List (Str × V), (putF f v fs).length ≤ fs.length + 1
  | [] => by simp [putF]
  | (k, x) :: r => by
    have ih := length_putF f v r
    rw [show putF f v ((k, x) :: r) = (if k = f then (k, v) :: r else (k, x) :: putF f v r) from rfl]
    by_cases hk : k = f
    · rw [if_pos hk, List.length_cons, List.length_cons]; (first | lia | omega)
    · rw [if_neg hk, List.length_cons, List.length_cons]; (first | lia | omega)

theorem RelO.some_of {v : V} {o : Option Value} (r : RelO (some v) o) : ∃ u, o = some u ∧ RelV v u := by
  cases o with
  | none => exact (show False from r).elim
  | some u => exact ⟨u, rfl, r⟩
theorem RelO.none_of {o : Option Value} (r : RelO none o) : o = none := by
  cases o with
  | none => rfl
  | some u => exact (show False from r).elim
theorem handed_of {v : V} {u : Value} (r : RelV v u) : PySem.W.handedIn u = true := by
  cases v with
  | non => cases (show u = Value.none from r); rfl
  | bl b => cases (show u = Value.bool b from r); rfl
  | int i => obtain ⟨t, e⟩ := (show ∃ t, u = Value.int i t from r); cases e; rfl
  | str x => obtain ⟨t, e⟩ := (show ∃ t, u = Value.str x t from r); cases e; rfl
  | byt b => obtain ⟨t, e⟩ := (show ∃ t, u = Value.bytes b t from r); cases e; rfl
  | flt b => obtain ⟨t, e⟩ := (show ∃ t, u = Value.float b t from r); cases e; rfl
  | ref a => cases (show u = Value.ref a from r); rfl
  | ty n => cases (show u = Value.type n from r); rfl

section
variable {P : Program} {w : World} {H H' : Hp} {h h' : Heap} {a C dx : Addr} {fs fs' : List (Str × V)}
theorem ins_get (hok : HOk P w H h) (e : H a = some (.ins C dx fs)) : ∃ mA, ObjM h a dx C mA ∧ (∀ f, RelO (fs.lookup f) (mA f)) ∧ PySem.Within mA (fs.map (·.1)) ∧ fs.length ≤ 1000 ∧ H dx = some (.own a) := by
  obtain ⟨d, z, ne, ob, mA, n, r, q⟩ := (show ObjOk P w H h a (.ins C dx fs) from hok a _ e)
  exact ⟨mA, ⟨ob, n, ne⟩, r, q, z, d⟩
end

/-! ### what of the text a class must have -/
structure Cls (K : PySem.W.Frag) (C : Addr) : Prop where
  pg : PySem.W.plainGet K C Str.empty = true
  hd : PySem.W.hasDictIn K C = true
  po : PySem.W.plainOver K C = true
  sa : PySem.W.findIn K (.ref C) "__setattr__" = some (some (.builtin "object.__setattr__"))
theorem Cls.get {K : PySem.W.Frag} {C : Addr} (c : Cls K C) (f : Str) : PySem.W.plainGet K C f = true := c.pg
/-- no class of it has the name -/
def NoAttr (K : PySem.W.Frag) (C : Addr) (f : Str) : Prop := PySem.W.findIn K (.ref C) f = some none
theorem NoAttr.taker {K : PySem.W.Frag} {C : Addr} {f : Str} (n : NoAttr K C f) : PySem.W.takerIn K C f = some none := by
  unfold PySem.W.takerIn
  rw [show PySem.W.findIn K (.ref C) f = some none from n]
  rfl
/-- a method: a plain def of the class or of one above it -/
structure Meth (K : PySem.W.Frag) (C : Addr) (m : Str) (f : Addr) : Prop where
  at_ : PySem.W.findIn K (.ref C) m = some (some (.ref f))
  fn : PySem.W.isFn K (.ref f) = true
  kp : PySem.W.keepIn K (.ref f) = true

section
variable {X : Cx} {pins : List (Addr × Obj)} {σ : St} {H : Hp} {s : Shared} {a C dx : Addr} {fs : List (Str × V)} {f : Str} {v : V} {A : Around} {E : Value → Shared → Prop}

theorem getattr_ok {b : Bool} {Q : Value → Shared → Prop} (I : Inv X pins σ H s) (e : H a = some (.ins C dx fs)) (c : Cls X.K C) (n : NoAttr X.K C f) (l : fs.lookup f = some v)
    (h : ∀ u s', Inv X pins σ H s' → RelV v u → Q u s') : wpAny (model X.prog X.w) A (getAttr (.ref a) f b) Q E s := by
  obtain ⟨mA, O, r, _, _, _⟩ := ins_get I.hok e
  obtain ⟨u, hu, ru⟩ := RelO.some_of (v := v) (o := mA f) (by rw [← l]; exact r f)
  exact get_map I.kIn O (c.get f) c.hd n hu (handed_of ru) (h u _ (I.tok _) ru)


theorem getmeth_ok {m : Str} {g : Addr} {pl : Sem Bool} {Q : Value × List Value → Shared → Prop} (I : Inv X pins σ H s) (e : H a = some (.ins C dx fs)) (c : Cls X.K C) (k : Meth X.K C m g) (l : fs.lookup m = none)
    (h : Q (.ref g, [.ref a]) s) : wpAny (model X.prog X.w) A (getMethod (.ref a) m pl) Q E s := by
  obtain ⟨mA, O, r, _, _, _⟩ := ins_get I.hok e
  have hn : mA m = none := RelO.none_of (by rw [← l]; exact r m)
  exact get_meth I.kIn O (c.get m) k.at_ k.fn hn h

theorem setattr_ok {y : V} {u : Value} {Q : Unit → Shared → Prop} (I : Inv X pins σ H s) (e : H a = some (.ins C dx fs)) (c : Cls X.K C) (n : NoAttr X.K C f) (hl : fs.length < 1000) (ry : RelV y u)
    (h : ∀ s', Inv X pins σ (upd H a (.ins C dx (putF f y fs))) s' → Q () s') : wpAny (model X.prog X.w) A (setAttr (.ref a) f u) Q E s := by
  obtain ⟨mA, O, r, wi, _, ho⟩ := ins_get I.hok e
  have hz : (fs.map (·.1)).length ≤ sizeLine := by rw [List.length_map, sizeLine_eq]; (first | lia | omega)
  refine set_map I.kIn O c.sa c.po n.taker c.hd wi hz fun h' O' sb => h _ ?_
  have hd : ∃ o, h'.get? dx = some o := let ⟨o, _, _, e', _⟩ := O'.ns; ⟨o, e'⟩
  refine I.write (x := a) (e := dx) (by rw [e]; exact True.intro) (.inr ho) (fun b q hb z => (sb.2 b hb).trans z) hd ?_
  refine ⟨by rw [upd_ne O.ne]; exact ho, ?_, O.ne, O'.obj, _, O'.ns, fun g => ?_, fun g hg => ?_⟩
  · have := length_putF f y fs; (first | lia | omega)
  · show RelO ((putF f y fs).lookup g) (if g = f then some u else mA g)
    rw [lookup_putF]
    by_cases q : g = f
    · rw [if_pos q, if_pos q]; exact ry
    · rw [if_neg q, if_neg q]; exact r g
  · by_cases q : g = f
    · rw [q]; exact (keys_putF f y fs).1
    · refine (keys_putF f y fs).2 g (wi g fun z => hg ?_)
      show (if g = f then some u else mA g) = none
      rw [if_neg q]; exact z

/-- a new instance, tracked, without attributes -/
theorem Inv.made (I : Inv X pins σ H s) : Inv X pins σ (upd (upd H s.heap.objs.size (.own (s.heap.objs.size + 1))) (s.heap.objs.size + 1) (.ins C s.heap.objs.size []))
    { s with heap := (s.heap.push PySem.W.emptyDict).push (PySem.W.instObj C s.heap.objs.size) } := by
  have e1 : (s.heap.push PySem.W.emptyDict).get? s.heap.objs.size = some PySem.W.emptyDict := Heap.get?_push_size s.heap rfl
  have e2 : ((s.heap.push PySem.W.emptyDict).push (PySem.W.instObj C s.heap.objs.size)).get? (s.heap.objs.size + 1) = some (PySem.W.instObj C s.heap.objs.size) := by
    have := Heap.get?_push_size (s.heap.push PySem.W.emptyDict) (o := PySem.W.instObj C s.heap.objs.size) rfl
    rwa [Heap.size_push] at this
  have e3 : (s.heap.push PySem.W.emptyDict).Ns s.heap.objs.size (fun _ => none) := ⟨PySem.W.emptyDict, #[], _, e1, rfl, (fun e he => absurd he (by simp)), fun _ => rfl⟩
  have I1 := I.laid (a := s.heap.objs.size) (o := .own (s.heap.objs.size + 1)) (h' := s.heap.push PySem.W.emptyDict) (t' := s.toks) (fun b u q => Heap.get?_push_of_some _ q) (Nat.le_refl _) ⟨_, e1⟩
  refine I1.laid (a := s.heap.objs.size + 1) (o := .ins C s.heap.objs.size []) (t' := s.toks) (fun b u q => Heap.get?_push_of_some _ q) (Nat.le_of_eq (Heap.size_push _ _)) ?_
  have ne : s.heap.objs.size ≠ s.heap.objs.size + 1 := Nat.ne_of_lt (Nat.lt_succ_self _)
  refine ⟨by rw [upd_ne ne, upd_same], Nat.zero_le _, ne, e2, fun _ => none, (Heap.Ns1.of_empty e3).at fun o q => Heap.get?_push_of_some _ q, fun _ => True.intro, fun y hy => absurd rfl hy⟩

/-- e.f where nothing but the object is asked: through attributeBase (super) and the last hold -/
theorem attr_of {prog : Program} {w : World} {env : Env} {e : Expr} {f : Str} {pos : Pos} {s : Shared} {Q : Value → Shared → Prop} (hb : attributeBase e f env (eval e env) = eval e env)
    (h : wpAny (model prog w) A (eval e env) (fun o s₁ => wpAny (model prog w) A (getAttr o f true) Q E s₁) E s) : wpAny (model prog w) A (eval (.Attribute e f pos) env) Q E s :=
  Attribute_any_ h (by rw [arm_eval_Attribute, hb])
end

/-! ### readings and rules -/
/-- e.f, an attribute of the instance -/
def tFld (K : PySem.W.Frag) (ta : TE) (f : Str) : TE := fun σ H Q => ta σ H fun x H1 => ∃ a C dx fs v, x = .ref a ∧ H1 a = some (.ins C dx fs) ∧ Cls K C ∧ NoAttr K C f ∧ fs.lookup f = some v ∧ Q v H1
/-- e.f = value -/
def sFld (K : PySem.W.Frag) (ta tv : TE) (f : Str) : TS := fun D σ H => tv σ H fun y H1 => ta σ H1 fun x H2 => ∃ a C dx fs, x = .ref a ∧ H2 a = some (.ins C dx fs) ∧ Cls K C ∧ NoAttr K C f ∧ fs.length < 1000 ∧
  D.nx σ (upd H2 a (.ins C dx (putF f y fs)))

section
variable {X : Cx} {o e value : Expr} {f : Str} {pos pos' tpos : Pos} {ta tv : TE}
theorem pe_fld (he : PE X e ta) (hb : attributeBase e f X.env (eval e X.env) = eval e X.env) : PE X (.Attribute e f pos) (tFld X.K ta f) := by
  intro pins s σ H Q I h
  refine attr_of hb (thn (he pins s σ H _ I h) fun u s1 hPz => ?_); obtain ⟨x, H1, I1, rx, a, C, dx, fs, v, ex, ea, c, n, l, q⟩ := hPz
  subst ex
  obtain rfl : u = Value.ref a := rx
  exact getattr_ok I1 ea c n l fun u' s2 I2 ru => ⟨v, H1, I2, ru, q⟩
theorem ps_fld (ha : PE X o ta) (hv : PE X value tv) (hs : swapsWith value (some (.Attribute o f pos')) pos.line X.env = pure false) : PS X (.Assign [.Attribute o f pos'] value pos) (sFld X.K ta tv f) := by
  intro pins s σ H D I h
  refine plainObj_wpAny_Assign_Attribute (thn (hv pins s σ H _ I h) fun u s1 hPy => ob2_3 hPy fun y H1 I1 ry q => thn (ha pins s1 σ H1 _ I1 q) fun ov s2 hPz => ?_) hs; obtain ⟨x, H2, I2, rx, a, C, dx, fs, ex, ea, c, n, l, q2⟩ := hPz
  subst ex
  obtain rfl : ov = Value.ref a := rx
  exact setattr_ok I2 ea c n l ry fun s3 I3 => ⟨σ, _, I3, q2⟩

/-- what is between an instance and its method: the tree of a method call -/
theorem methcall_of {pl : Sem Bool} {m : Str} {apos : Pos} {args : List Expr} {pins : List (Addr × Obj)} {s : Shared} {σ : St} {H : Hp} {Q : Value → Shared → Prop} {te : TE} (he : PE X e te) (I : Inv X pins σ H s)
    (h : te σ H fun x H1 => ∃ a C dx fs g, x = .ref a ∧ H1 a = some (.ins C dx fs) ∧ Cls X.K C ∧ Meth X.K C m g ∧ fs.lookup m = none ∧
      ∀ s1, Inv X pins σ H1 s1 → wpAny (model X.prog X.w) X.A (callWith pos (.ref g) [.ref a] (backTo pos (starEach args X.env)) (backToKw pos (keywordEach [] X.env))) Q X.xe s1)
    (ht : eval (.Call (.Attribute e m apos) args [] pos) X.env = (do
      let ov ← eval e X.env
      standAt apos.atName
      let (f, first) ← holding [ov] (getMethod ov m pl)
      callWith pos f first (backTo pos (starEach args X.env)) (backToKw pos (keywordEach [] X.env)))) :
    wpAny (model X.prog X.w) X.A (eval (.Call (.Attribute e m apos) args [] pos) X.env) Q X.xe s := by
  refine PySem.W.methodCall_KW (pl := pl) (thn (he pins s σ H _ I h) fun u s1 hPz => ?_) ht; obtain ⟨x, H1, I1, rx, a, C, dx, fs, g, ex, ea, c, k, l, q⟩ := hPz
  subst ex
  obtain rfl : u = Value.ref a := rx
  exact getmeth_ok I1 ea c k l (q s1 I1)
end

/-! ### isinstance -/
section
variable {X : Cx} {pins : List (Addr × Obj)} {σ : St} {H : Hp} {s : Shared} {A : Around} {E : Value → Shared → Prop} {Q : Value → Shared → Prop} {c : Value} {b : Bool}
/-- the type of a value, as the fragment's deciders take it; for an instance its class -/
inductive TyOf (K : PySem.W.Frag) (H : Hp) : V → Value → Prop where
  | non : TyOf K H .non (.type "NoneType")
  | bl (x : Bool) : TyOf K H (.bl x) (.type "bool")
  | int (i : Int) : TyOf K H (.int i) (.type "int")
  | str (x : Str) : TyOf K H (.str x) (.type "str")
  | flt (x : UInt64) : TyOf K H (.flt x) (.type "float")
  | lst {a : Addr} {xs : List V} (e : H a = some (.lst xs)) : TyOf K H (.ref a) (.type "list")
  | frz {a : Addr} {o : Obj} {xs : List V} (e : H a = some (.frz o (.lst xs))) : TyOf K H (.ref a) (.type "list")
  | tup {a : Addr} {xs : List V} (e : H a = some (.tup xs)) : TyOf K H (.ref a) (.type "tuple")
  | dK {a : Addr} {kvs : List (Key × V)} (e : H a = some (.dK kvs)) : TyOf K H (.ref a) (.type "dict")
  | dT {a : Addr} {kvs : List (List Key × V)} (e : H a = some (.dT kvs)) : TyOf K H (.ref a) (.type "dict")
  | ins {a C dx : Addr} {fs : List (Str × V)} (e : H a = some (.ins C dx fs)) (cl : Cls K C) (ha : PySem.W.findIn K (.ref C) "__class__" = some (some (.builtin "object.__class__")))
      (hn : PySem.W.specialIn K (.builtin "object.__class__") "__get__" = some (some (.builtin "getset_descriptor.__get__"))) (htk : PySem.W.takesIn K (.builtin "object.__class__") = some true)
      (hm : PySem.W.mroIn K C (.type "object") = some true) : TyOf K H (.ref a) (.ref C)
/-- isinstance(x, c) for one class c, a built-in or an own one: kitOne's answer -/
theorem isinst_ok {x : V} {u t : Value} (I : Inv X pins σ H s) (rx : RelV x u) (ty : TyOf X.K H x t) (e : PySem.W.kitOne X.K t c = some b) (h : ∀ tk, Q (.bool b) { s with toks := tk }) :
    wpAny (model X.prog X.w) A (call (.builtin "isinstance") [u, c]) Q E s := by
  cases ty with
  | non => cases (show u = Value.none from rx); exact PySem.W.kia_one PySem.W.kitx_none I.kIn True.intro e (fun z => nomatch z) h
  | bl y => cases (show u = Value.bool y from rx); exact PySem.W.kia_one PySem.W.kitx_bool I.kIn True.intro e (fun z => nomatch z) h
  | int i => obtain ⟨t, q⟩ := (show ∃ t, u = Value.int i t from rx); cases q; exact PySem.W.kia_one PySem.W.kitx_int I.kIn True.intro e (fun z => nomatch z) h
  | str y => obtain ⟨t, q⟩ := (show ∃ t, u = Value.str y t from rx); cases q; exact PySem.W.kia_one PySem.W.kitx_str I.kIn True.intro e (fun z => nomatch z) h
  | flt y => obtain ⟨t, q⟩ := (show ∃ t, u = Value.float y t from rx); cases q; exact PySem.W.kia_one PySem.W.kitx_float I.kIn True.intro e (fun z => nomatch z) h
  | @lst a xs ea =>
    cases (show u = Value.ref a from rx)
    obtain ⟨_, _, n, _, h1⟩ := (show ObjOk X.prog X.w H s.heap a (.lst xs) from I.hok a _ ea)
    exact PySem.W.kia_one PySem.W.kitx_list I.kIn ⟨_, h1, rfl⟩ e (fun z => nomatch z) h
  | @frz a ob xs ea =>
    cases (show u = Value.ref a from rx)
    obtain ⟨_, _, _, n, _, h1⟩ := (show ObjOk X.prog X.w H s.heap a (.frz ob (.lst xs)) from I.hok a _ ea)
    exact PySem.W.kia_one PySem.W.kitx_list I.kIn ⟨_, h1, rfl⟩ e (fun z => nomatch z) h
  | @tup a xs ea =>
    cases (show u = Value.ref a from rx)
    obtain ⟨_, _, _, p⟩ := (show ObjOk X.prog X.w H s.heap a (.tup xs) from I.hok a _ ea)
    obtain ⟨o, h1, h2, _⟩ := p
    exact PySem.W.kia_one PySem.W.kitx_tuple I.kIn ⟨o, h1, h2⟩ e (fun z => nomatch z) h
  | @dK a kvs ea =>
    cases (show u = Value.ref a from rx)
    obtain ⟨_, _, vs, _, p⟩ := (show ObjOk X.prog X.w H s.heap a (.dK kvs) from I.hok a _ ea)
    obtain ⟨o, es, ep, h1, h2, _⟩ := p
    exact PySem.W.kia_one PySem.W.kitx_dict I.kIn ⟨o, h1, h2.1⟩ e (fun z => nomatch z) h
  | @dT a kvs ea =>
    cases (show u = Value.ref a from rx)
    obtain ⟨_, _, xs, _, o, es, ep, h1, h2, _⟩ := (show ObjOk X.prog X.w H s.heap a (.dT kvs) from I.hok a _ ea)
    exact PySem.W.kia_one PySem.W.kitx_dict I.kIn ⟨o, h1, h2.1⟩ e (fun z => nomatch z) h
  | @ins a C dx fs ea cl ha hn htk hm =>
    cases (show u = Value.ref a from rx)
    obtain ⟨mA, O, _⟩ := ins_get I.hok ea
    obtain ⟨od, J, _⟩ := O.look
    exact PySem.W.kia_one (PySem.W.kitx_own (cl.get _) cl.hd ha hn htk hm) I.kIn J e (fun z => nomatch z) h
end
end L2

namespace L2
open PySem PySem.Spec PyProof.Rows

/-! ### room -/
structure Room (k : Nat) (A : Around) : Prop where
  hd : A.handled = none
  dp : A.depth + 3 * k + 5 < recursionLimit
  un : A.units + 16 * k + 200 < cLine
theorem Room.mono {j k : Nat} {A : Around} (r : Room k A) (h : j ≤ k) : Room j A := ⟨r.hd, by have := r.dp; (first | lia | omega), by have := r.un; (first | lia | omega)⟩
theorem Room.deeper {k : Nat} {A : Around} (r : Room (k + 1) A) (env : Env) : Room k (A.deeper env) :=
  ⟨r.hd, by have := r.dp; show A.depth + 1 + 3 * k + 5 < _; (first | lia | omega), by have := r.un; show A.units + 3 + 16 * k + 200 < _; (first | lia | omega)⟩
theorem make_depth {A : Around} {C : Addr} {us : List Value} {kw : List (Str × Value)} : (A.under (.builtin "type.__call__" ⟨.ref C :: us, kw⟩)).depth = A.depth + 1 := by
  first | rfl | simp [Around.under, Code.weight, Code.isCreation, Code.isGuard, Code.isCaller, Code.frames, Code.isFrame, guardIds]
theorem make_units {A : Around} {C : Addr} {us : List Value} {kw : List (Str × Value)} : (A.under (.builtin "type.__call__" ⟨.ref C :: us, kw⟩)).units = A.units + 1 := by
  first | rfl | simp [Around.under, Code.cUnits, Code.frames, Code.isFrame]
theorem Room.make {k : Nat} {A : Around} (r : Room (k + 1) A) (C : Addr) (us : List Value) (kw : List (Str × Value)) : Room k (A.under (.builtin "type.__call__" ⟨.ref C :: us, kw⟩)) :=
  ⟨r.hd, by have := r.dp; rw [make_depth]; (first | lia | omega), by have := r.un; rw [make_units]; (first | lia | omega)⟩
theorem Room.depth {k : Nat} {A : Around} (r : Room k A) : A.depth < recursionLimit := by have := r.dp; (first | lia | omega)
theorem Room.units {k : Nat} {A : Around} (r : Room k A) : A.units + 64 < cLine := by have := r.un; (first | lia | omega)

/-! ### argument lists and displays -/
def tNil : TA := fun _ H Q => Q [] H
def tCons (ta : TE) (tr : TA) : TA := fun σ H Q => ta σ H fun x H1 => tr σ H1 fun xs H2 => Q (x :: xs) H2
section
variable {X : Cx} {e : Expr} {es : List Expr} {te : TE} {t : TA} {pos : Pos}
theorem pa_nil : PA X [] tNil := fun _ _ _ _ H Q I h => Calls.spliced_nil ⟨[], H, I, .nil, h⟩
theorem pa_cons (ha : PE X e te) (hr : PA X es t) (hs : starEach (e :: es) X.env = (false, eval e X.env) :: starEach es X.env := by rfl) : PA X (e :: es) (tCons te t) := by
  intro pos pins s σ H Q I h
  rw [hs]
  show wpAny _ _ (spliced ((false, eval e X.env) :: backTo pos (starEach es X.env))) _ _ s
  refine Calls.spliced_cons (thn (ha pins s σ H _ I h) fun u s1 hPz => ?_); obtain ⟨x, H1, I1, r1, q1⟩ := hPz
  exact thn (hr pos pins s1 σ H1 _ I1 q1) fun us s2 hPy => ob2_3 hPy fun xs H2 I2 r2 q2 => ⟨x :: xs, H2, I2, .cons r1 r2, q2⟩

/-- a tuple, a list of written items -/
def tTup (t : TA) : TE := fun σ H Q => t σ H fun xs H1 => xs.length ≤ sizeLine ∧ ∀ p, H1 p = none → Q (.ref p) (upd H1 p (.tup xs))
def tLst (t : TA) : TE := fun σ H Q => t σ H fun xs H1 => xs.length ≤ sizeLine ∧ ∀ p, H1 p = none → Q (.ref p) (upd H1 p (.lst xs))
theorem pe_tup {x1} (h : PA X es t) : PE X (.Tuple es x1 pos) (tTup t) := by
  intro pins s σ H Q I hq
  refine wpAny_Tuple_spliced (thn (h pos pins s σ H _ I hq) fun us s1 ⟨xs, H1, I1, r, z, q⟩ => ⟨by rw [← r.length]; exact z, ?_⟩)
  have hf : H1 s1.heap.objs.size = none := I1.hok.fresh (Nat.le_refl _)
  refine ⟨.ref s1.heap.objs.size, upd H1 s1.heap.objs.size (.tup xs), I1.laid (t' := s1.toks) (fun b u e => Heap.get?_push_of_some _ e) (Nat.le_refl _) ?_, rfl, q _ hf⟩
  exact ⟨z, us, r, ⟨_, Heap.get?_push_size _ rfl, rfl, _, rfl⟩⟩
theorem pe_lst (h : PA X es t) : PE X (.List es pos) (tLst t) := by
  intro pins s σ H Q I hq
  refine wpAny_List_spliced (thn (h pos pins s σ H _ I hq) fun us s1 ⟨xs, H1, I1, r, z, q⟩ => ⟨by rw [← r.length]; exact z, ?_⟩)
  have hf : H1 s1.heap.objs.size = none := I1.hok.fresh (Nat.le_refl _)
  refine ⟨.ref s1.heap.objs.size, upd H1 s1.heap.objs.size (.lst xs), I1.laid (t' := s1.toks) (fun b u e => Heap.get?_push_of_some _ e) (Nat.le_refl _) ?_, rfl, q _ hf⟩
  exact ⟨z, us, 0, r, Heap.get?_push_size _ rfl⟩
end

/-! ### what a def promises -/
/-- a def's promise: the bound arguments in the parameters' order, the heap, the wanted end, the wanted exception -/
abbrev Sp := List V → Hp → VK → XK → Prop
/-- how an exception lies behind a call (file 08 gives it): the callers' frames, abstract heap and state ahead of the call, the wish, the exception, the state -/
abbrev CXT := List Env → Hp → Shared → XK → Value → Shared → Prop

/-- the state at a call -/
structure Env0 (P : Program) (w : World) (K : PySem.W.Frag) (mg : Str → Option Value) (base : Heap) (A : Around) (outer : List Env) (s : Shared) (H : Hp) : Prop where
  frames : A.frames = some outer
  mod : Mod K mg base
  bs : ∀ b o, base.get? b = some o → s.heap.get? b = some o ∧ H b = none
  bsz : base.objs.size ≤ s.heap.objs.size
  funs : s.heap.FunFrames base outer
  frf : ∀ b ∈ frs outer, H b = none
  hok : HOk P w H s.heap
  bare : AllBare s.gens
/-- a call's end -/
def CE (outer : List Env) (P : Program) (w : World) (H : Hp) (s : Shared) (Q : VK) (u : Value) (s' : Shared) : Prop :=
  ∃ v H', s'.os = s.os ∧ AllBare s'.gens ∧ Un (frs outer) [] H H' s.heap s'.heap ∧ HOk P w H' s'.heap ∧ RelV v u ∧ Q v H'
def CR (CX : CXT) (outer : List Env) (P : Program) (w : World) (H : Hp) (s : Shared) (Q : VK) (E : XK) (r : Result) (s' : Shared) : Prop :=
  match r with
  | .ok (.ret u) => CE outer P w H s Q u s'
  | .ok _ => False
  | .error e => CX outer H s E e s'
structure FnOk (P : Program) (w : World) (K : PySem.W.Frag) (mg : Str → Option Value) (base : Heap) (CX : CXT) (k : Nat) (f : Addr) (fd : FuncData) (ps : List Str) (sp : Sp) : Prop where
  len : ∀ vs H Q E, sp vs H Q E → vs.length = ps.length
  run : ∀ (A : Around) (outer : List Env) (s : Shared) (H : Hp) (args : Args) (us : List Value) (vs : List V) (Q : VK) (E : XK), Room k A → Env0 P w K mg base A outer s H → BindsTo s fd args (ps.zip us) → Vals vs us → sp vs H Q E →
    codeAny (model P w) A (.call (.ref f) args) (CR CX outer P w H s Q E) s

theorem Env0.make {P : Program} {w : World} {K : PySem.W.Frag} {mg : Str → Option Value} {base : Heap} {A : Around} {outer : List Env} {s : Shared} {H : Hp} (e : Env0 P w K mg base A outer s H) (C : Addr) (us : List Value) (kw : List (Str × Value)) :
    Env0 P w K mg base (A.under (.builtin "type.__call__" ⟨.ref C :: us, kw⟩)) outer s H := ⟨by first | exact e.frames | (simpa [Around.under, Code.envs, Code.isFrame, pushEnvs] using e.frames), e.mod, e.bs, e.bsz, e.funs, e.frf, e.hok, e.bare⟩

section
variable {X : Cx} {pins : List (Addr × Obj)} {σ : St} {H : Hp} {s s' : Shared}
/-- from a body: what a callee wants -/
theorem Inv.env0 (I : Inv X pins σ H s) : Env0 X.prog X.w X.K X.mg X.base X.A X.stack s H :=
  ⟨I.ok.frames, I.ok.mod, I.bs, Nat.le_trans I.ok.bsz I.sz, I.stack, I.stkFree, I.hok, I.bare⟩
/-- behind a call -/
theorem Inv.after {Q : VK} {u : Value} (I : Inv X pins σ H s) (h : CE X.stack X.prog X.w H s Q u s') : EP X pins σ Q u s' := by
  obtain ⟨v, H', os, bare, un, hok, r, q⟩ := h
  obtain ⟨hh, g, d, t, os'⟩ := s'
  obtain rfl : os' = s.os := os
  exact ⟨v, H', I.call (h' := hh) (g' := g) (d' := d) (t' := t) (ch := []) un hok bare (fun b z => absurd z (by simp)), r, q⟩
end

/-! ### calls -/
/-- f(..): the written arguments, then the defaults dvs; E: what is wanted of an exception -/
def tCall (sp : Sp) (dvs : List V) (E : XK) (t : TA) : TE := fun σ H Q => t σ H fun vs H1 => sp (vs ++ dvs) H1 Q E
/-- o.m(..) of an instance of the class at C -/
def tMeth (C : Addr) (m : Str) (sp : Sp) (dvs : List V) (E : XK) (ta : TE) (t : TA) : TE := fun σ H Q => ta σ H fun x H1 => ∃ a dx fs, x = .ref a ∧ H1 a = some (.ins C dx fs) ∧ fs.lookup m = none ∧
  t σ H1 fun vs H2 => sp (x :: (vs ++ dvs)) H2 Q E
/-- C(..): a new instance and its dict, then __init__ -/
def tMake (C : Addr) (sp : Sp) (dvs : List V) (E : XK) (t : TA) : TE := fun σ H Q => t σ H fun vs H1 => ∀ x dx, H1 x = none → H1 dx = none → dx ≠ x →
  sp (.ref x :: (vs ++ dvs)) (upd (upd H1 dx (.own x)) x (.ins C dx [])) (fun v H2 => v = .non ∧ Q (.ref x) H2) E

/-- how the parameters are bound: us the positional arguments, kw the keywords' values by name, ds the defaults that fill up -/
def Binds (K : PySem.W.Frag) (fd : FuncData) (ps : List Str) (ds : List Value) : Prop :=
  ∀ (s : Shared) (us : List Value), K.In s.heap → (us ++ ds).length = ps.length → BindsTo s fd ⟨us, []⟩ (ps.zip (us ++ ds))
/-- every parameter is given -/
theorem Binds.all {K : PySem.W.Frag} {fd : FuncData} {ps : List Str} (h : ∀ us : List Value, us.length = ps.length → bindArgs fd ⟨us, []⟩ = pure (ps.zip us)) : Binds K fd ps [] := fun s us _ hl => by
  rw [List.append_nil] at hl ⊢
  exact .of_eq (h us hl)

/-- an exception of a callee reaches what this body wants of exceptions -/
def Passes (CX : CXT) (X : Cx) (E : XK) : Prop := ∀ (pins : List (Addr × Obj)) (σ : St) (H : Hp) (s : Shared) (e : Value) (s' : Shared), Inv X pins σ H s → CX X.stack H s E e s' → X.xe e s'

section
variable {X : Cx} {CX : CXT} {k : Nat} {f C : Addr} {fd : FuncData} {ps : List Str} {sp : Sp} {dvs : List V} {ds : List Value} {E : XK} {x m : Str} {p pos apos : Pos} {e o : Expr} {es : List Expr} {ta : TE} {t : TA}

/-- the callee runs -/
theorem run_fn {pins : List (Addr × Obj)} {σ : St} {H : Hp} {s : Shared} {Q : VK} {us : List Value} {vs : List V} (F : FnOk X.prog X.w X.K X.mg X.base CX k f fd ps sp) (hr : Room k X.A) (hb : Binds X.K fd ps ds) (hd : Vals dvs ds) (hx : Passes CX X E)
    (I : Inv X pins σ H s) (r : Vals vs us) (h : sp (vs ++ dvs) H Q E) : wpAny (model X.prog X.w) X.A (call (.ref f) us) (EP X pins σ Q) X.xe s := by
  have r2 : Vals (vs ++ dvs) (us ++ ds) := r.append hd
  have hl : (us ++ ds).length = ps.length := by rw [← r2.length]; exact F.len _ _ _ _ h
  refine wpAny_call (codeAny_mono (F.run X.A X.stack s H ⟨us, []⟩ (us ++ ds) (vs ++ dvs) Q E hr I.env0 (hb s us I.kIn hl) r2 h) fun r s' hq => ?_)
  cases r with
  | error e => exact hx pins σ H s e s' I hq
  | ok fl =>
    cases fl with
    | ret u => exact I.after hq
    | next => exact False.elim hq
    | brk => exact False.elim hq
    | cont => exact False.elim hq

theorem pe_call (F : FnOk X.prog X.w X.K X.mg X.base CX k f fd ps sp) (hr : Room k X.A) (hg : Gl X x) (hm : X.mg x = some (.ref f)) (hk : PySem.W.keepIn X.K (.ref f) = true) (hb : Binds X.K fd ps ds) (hd : Vals dvs ds) (hx : Passes CX X E)
    (ha : PA X (e :: es) t) (hdb : (x == ("__debug__" : Str)) = false := by decide) (he : starEach (e :: es) X.env = (false, eval e X.env) :: starEach es X.env := by rfl) (hpl : (backTo pos (starEach es X.env)).any (·.1) = false := by rfl) :
    PE X (.Call (.Name x p) (e :: es) [] pos) (tCall sp dvs E t) := by
  intro pins s σ H Q I h
  refine wpAny_Call_Name_kw (ld_glob I hg hm ?_ hdb)
  refine PySem.W.callWith_K (h₀ := X.base) I.ok.mod.kin hk (thn (ha pos pins s σ H _ I h) fun us s1 hPy => ob2_3 hPy fun vs H1 I1 r q => ⟨I1.kIn, ?_⟩) he hpl
  exact run_fn F hr hb hd hx I1 r q

/-- o.m(e, ..) -/
theorem pe_meth {pl : Sem Bool} (he : PE X o ta) (c : Cls X.K C) (hm : Meth X.K C m f) (F : FnOk X.prog X.w X.K X.mg X.base CX k f fd ps sp) (hr : Room k X.A) (hb : Binds X.K fd ps ds) (hd : Vals dvs ds) (hx : Passes CX X E) (ha : PA X (e :: es) t)
    (hst : starEach (e :: es) X.env = (false, eval e X.env) :: starEach es X.env := by rfl) (hpl : (backTo pos (starEach es X.env)).any (·.1) = false := by rfl)
    (ht : eval (.Call (.Attribute o m apos) (e :: es) [] pos) X.env = (do
      let ov ← eval o X.env
      standAt apos.atName
      let (f, first) ← holding [ov] (getMethod ov m pl)
      callWith pos f first (backTo pos (starEach (e :: es) X.env)) (backToKw pos (keywordEach [] X.env))) := by rfl) :
    PE X (.Call (.Attribute o m apos) (e :: es) [] pos) (tMeth C m sp dvs E ta t) := by
  intro pins s σ H Q I h
  refine PySem.W.methodCall_KW (pl := pl) (thn (he pins s σ H _ I h) fun u s1 hPz => ?_) ht; obtain ⟨x, H1, I1, rx, a, dx, fs, ex, ea, l, q⟩ := hPz
  subst ex
  obtain rfl : u = Value.ref a := rx
  refine getmeth_ok I1 ea c hm l ?_
  refine PySem.W.callWith_K (first := [.ref a]) (h₀ := X.base) I.ok.mod.kin hm.kp (thn (ha pos pins s1 σ H1 _ I1 q) fun us s2 hPy => ob2_3 hPy fun vs H2 I2 r q2 => ⟨I2.kIn, ?_⟩) hst hpl
  exact run_fn (us := .ref a :: us) (vs := .ref a :: vs) F hr hb hd hx I2 (.cons rfl r) q2
/-- o.m() -/
theorem pe_meth0 {pl : Sem Bool} (he : PE X o ta) (c : Cls X.K C) (hm : Meth X.K C m f) (F : FnOk X.prog X.w X.K X.mg X.base CX k f fd ps sp) (hr : Room k X.A) (hb : Binds X.K fd ps ds) (hd : Vals dvs ds) (hx : Passes CX X E)
    (ht : eval (.Call (.Attribute o m apos) [] [] pos) X.env = (do
      let ov ← eval o X.env
      standAt apos.atName
      let (f, first) ← holding [ov] (getMethod ov m pl)
      callWith pos f first (backTo pos (starEach [] X.env)) (backToKw pos (keywordEach [] X.env))) := by rfl) :
    PE X (.Call (.Attribute o m apos) [] [] pos) (tMeth C m sp dvs E ta tNil) := by
  intro pins s σ H Q I h
  refine PySem.W.methodCall_KW (pl := pl) (thn (he pins s σ H _ I h) fun u s1 hPz => ?_) ht; obtain ⟨x, H1, I1, rx, a, dx, fs, ex, ea, l, q⟩ := hPz
  subst ex
  obtain rfl : u = Value.ref a := rx
  refine getmeth_ok I1 ea c hm l ?_
  exact PySem.W.callWith_K0 (first := [.ref a]) I1.kIn hm.kp (run_fn (us := [.ref a]) (vs := [.ref a]) F hr hb hd hx I1 (.cons rfl .nil) q)

/-- what a class must have to be made -/
structure Mk (K : PySem.W.Frag) (C f : Addr) : Prop where
  makes : PySem.W.makesIn K C = true
  init : PySem.W.findIn K (.ref C) "__init__" = some (some (.ref f))
  fn : PySem.W.isFn K (.ref f) = true
  kp : PySem.W.keepIn K (.ref C) = true

theorem run_make {pins : List (Addr × Obj)} {σ : St} {H : Hp} {s : Shared} {Q : VK} {us : List Value} {vs : List V} (M : Mk X.K C f) (F : FnOk X.prog X.w X.K X.mg X.base CX k f fd ps sp) (hr : Room (k + 1) X.A) (hb : Binds X.K fd ps ds) (hd : Vals dvs ds)
    (hx : Passes CX X E) (I : Inv X pins σ H s) (r : Vals vs us)
    (h : ∀ x dx, H x = none → H dx = none → dx ≠ x → sp (.ref x :: (vs ++ dvs)) (upd (upd H dx (.own x)) x (.ins C dx [])) (fun v H2 => v = .non ∧ Q (.ref x) H2) E) :
    wpAny (model X.prog X.w) X.A (call (.ref C) us) (EP X pins σ Q) X.xe s := by
  have hq := h (s.heap.objs.size + 1) s.heap.objs.size (I.hok.fresh (Nat.le_succ _)) (I.hok.fresh (Nat.le_refl _)) (Nat.ne_of_lt (Nat.lt_succ_self _))
  have I2 := Inv.made (C := C) I
  have r2 : Vals (V.ref (s.heap.objs.size + 1) :: (vs ++ dvs)) (Value.ref (s.heap.objs.size + 1) :: (us ++ ds)) := .cons rfl (r.append hd)
  have hl : (Value.ref (s.heap.objs.size + 1) :: us ++ ds).length = ps.length := by
    have e := r2.length
    rw [F.len _ _ _ _ hq] at e
    exact e.symm
  refine wpAny_call (make_map (f := f) I.kIn M.makes M.init (beq_iff_eq.mp M.fn) (codeAny_mono (F.run _ X.stack _ _ ⟨Value.ref (s.heap.objs.size + 1) :: us, []⟩ (Value.ref (s.heap.objs.size + 1) :: (us ++ ds)) _ _ E (hr.make C us [])
    (I2.env0.make C us []) (hb _ (Value.ref (s.heap.objs.size + 1) :: us) I2.kIn hl) r2 hq) fun r s' hq' => ?_))
  cases r with
  | error e => exact hx pins σ _ _ e s' I2 hq'
  | ok fl =>
    cases fl with
    | ret u =>
      obtain ⟨v, H', I3, rv, ev, q3⟩ := I2.after hq'
      subst ev
      exact ⟨rv, ⟨V.ref (s.heap.objs.size + 1), H', I3, rfl, q3⟩⟩
    | next => exact False.elim hq'
    | brk => exact False.elim hq'
    | cont => exact False.elim hq'
theorem pe_make (M : Mk X.K C f) (F : FnOk X.prog X.w X.K X.mg X.base CX k f fd ps sp) (hr : Room (k + 1) X.A) (hg : Gl X x) (hm : X.mg x = some (.ref C)) (hb : Binds X.K fd ps ds) (hd : Vals dvs ds) (hx : Passes CX X E)
    (ha : PA X (e :: es) t) (hdb : (x == ("__debug__" : Str)) = false := by decide) (he : starEach (e :: es) X.env = (false, eval e X.env) :: starEach es X.env := by rfl) (hpl : (backTo pos (starEach es X.env)).any (·.1) = false := by rfl) :
    PE X (.Call (.Name x p) (e :: es) [] pos) (tMake C sp dvs E t) := by
  intro pins s σ H Q I h
  refine wpAny_Call_Name_kw (ld_glob I hg hm ?_ hdb)
  refine PySem.W.callWith_K (h₀ := X.base) I.ok.mod.kin M.kp (thn (ha pos pins s σ H _ I h) fun us s1 hPy => ob2_3 hPy fun vs H1 I1 r q => ⟨I1.kIn, ?_⟩) he hpl
  exact run_make M F hr hb hd hx I1 r q
end

/-! ### keywords -/
section
variable {X : Cx} {CX : CXT} {k : Nat} {f C : Addr} {fd : FuncData} {ps ks : List Str} {sp : Sp} {E : XK} {x m : Str} {p pos apos kpos : Pos} {e o : Expr} {es : List Expr} {kws : List Keyword} {te ta : TE} {t tk : TA} {nm : Option Str}

variable {g : List Value → List Value → List Value} {gV : List V → List V → List V}
end

/-! ### a def's body keeps its promise -/
/-- names: the parameters first -/
structure FnScope (N P : List Str) (sc : Scope) : Prop where
  kind : sc.kind = .function
  co : sc.isCoroutine = false
  gen : sc.isGenerator = false
  nd : N.Nodup
  pre : N.take P.length = P
  par : ∀ x ∈ P, sc.names.lookup x = some .local ∨ sc.names.lookup x = some .cell
  nofree : ∀ y ∈ sc.names, y.2 ≠ .free

theorem bindL_out {kindOf : Str → Option NameKind} {x : Str} : ∀ {binds : List (Str × Value)} {m : Str → Option Value}, (∀ v, (x, v) ∉ binds) → bindL kindOf binds m x = m x
  | [], _, _ => rfl
  | (n, v) :: r, m, h => by
    unfold bindL
    rw [bindL_out fun w hw => h w (List.mem_cons_of_mem _ hw)]
    split
    · have : x ≠ n := by rintro rfl; exact h v List.mem_cons_self
      simp [this]
    · rfl
theorem bindC_out {kindOf : Str → Option NameKind} {x : Str} : ∀ {binds : List (Str × Value)} {m : Str → Option Value}, (∀ v, (x, v) ∉ binds) → bindC kindOf binds m x = m x
  | [], _, _ => rfl
  | (n, v) :: r, m, h => by
    unfold bindC
    rw [bindC_out fun w hw => h w (List.mem_cons_of_mem _ hw)]
    split
    · rfl
    · have : x ≠ n := by rintro rfl; exact h v List.mem_cons_self
      simp [this]
theorem bindL_get {kindOf : Str → Option NameKind} {x : Str} {v : Value} : ∀ {P : List Str} {vs : List Value} {i : Nat} {m : Str → Option Value}, P.Nodup → P[i]? = some x → vs[i]? = some v → kindOf x = some .local →
    bindL kindOf (P.zip vs) m x = some v
  | [], _, _, _, _, h, _, _ => by simp at h
  | _ :: _, [], _, _, _, _, h, _ => by simp at h
  | p :: P, w :: vs, 0, m, nd, h1, h2, hk => by
    simp at h1 h2; subst h1; subst h2
    show bindL kindOf ((p, w) :: P.zip vs) m p = _
    unfold bindL
    rw [bindL_out fun v hv => (List.nodup_cons.mp nd).1 (List.of_mem_zip hv).1, if_pos hk]
    simp
  | p :: P, w :: vs, i + 1, m, nd, h1, h2, hk => by
    show bindL kindOf ((p, w) :: P.zip vs) m x = _
    unfold bindL
    exact bindL_get (i := i) (List.nodup_cons.mp nd).2 (by simpa using h1) (by simpa using h2) hk
theorem bindC_get {kindOf : Str → Option NameKind} {x : Str} {v : Value} : ∀ {P : List Str} {vs : List Value} {i : Nat} {m : Str → Option Value}, P.Nodup → P[i]? = some x → vs[i]? = some v → kindOf x ≠ some .local →
    bindC kindOf (P.zip vs) m x = some v
  | [], _, _, _, _, h, _, _ => by simp at h
  | _ :: _, [], _, _, _, _, h, _ => by simp at h
  | p :: P, w :: vs, 0, m, nd, h1, h2, hk => by
    simp at h1 h2; subst h1; subst h2
    show bindC kindOf ((p, w) :: P.zip vs) m p = _
    unfold bindC
    rw [bindC_out fun v hv => (List.nodup_cons.mp nd).1 (List.of_mem_zip hv).1, if_neg hk]
    simp
  | p :: P, w :: vs, i + 1, m, nd, h1, h2, hk => by
    show bindC kindOf ((p, w) :: P.zip vs) m x = _
    unfold bindC
    exact bindC_get (i := i) (List.nodup_cons.mp nd).2 (by simpa using h1) (by simpa using h2) hk

/-- the names' values at the entry -/
def start (N : List Str) (vs : List V) : St := vs.map some ++ List.replicate (N.length - vs.length) none

/-- the context of a def's body, at its entry; an exception leaves the frame, then lies as CX says -/
def cxOf (CX : CXT) (P : Program) (w : World) (K : PySem.W.Frag) (mg : Str → Option Value) (base : Heap) (N : List Str) (qual : Str) (scope : Scope) (f : Addr) (cd : Value) (A : Around) (outer : List Env) (s : Shared) (H : Hp) (E : XK) : Cx where
  prog := P
  w := w
  K := K
  mg := mg
  base := base
  A := A.deeper (envOfC qual scope s.heap.objs.size f cd)
  N := N
  s₀ := s
  H₀ := H
  env := envOfC qual scope s.heap.objs.size f cd
  outer := outer
  stack := envOfC qual scope s.heap.objs.size f cd :: outer
  ex := []
  calm := true
  fn := fun _ => true
  pn := []
  xe := fun e s' => wpAny (model P w) (A.deeper (envOfC qual scope s.heap.objs.size f cd)) (leaving (envOfC qual scope s.heap.objs.size f cd) e) (fun _ s'' => CX outer H s E e s'') (fun e' s'' => CX outer H s E e' s'') s'

theorem cell_has {sc : Scope} {n : Nat} {x : Str} (h : sc.names.lookup x = some .cell) : ∃ c, (cellsFrom n sc.names []).lookup x = some c := by
  have q := PySem.W.cellsFrom_some sc.names n [] (.inl h)
  exact Option.isSome_iff_exists.mp q

theorem inv_start {CX : CXT} {P : Program} {w : World} {K : PySem.W.Frag} {mg : Str → Option Value} {base : Heap} {N ps : List Str} {qual : Str} {scope : Scope} {f : Addr} {cd : Value} {A : Around} {outer : List Env} {s s1 : Shared} {H : Hp} {E : XK} {us : List Value} {vs : List V}
    (S : FnScope N ps scope) (hd : A.handled = none) (e0 : Env0 P w K mg base A outer s H) (hl : vs.length = ps.length) (r : Vals vs us)
    (x : InCallC s s.heap.objs.size (bindL (envOfC qual scope s.heap.objs.size f cd).kindOf (ps.zip us) fun _ => none) (cellsFrom (s.heap.objs.size + 1) scope.names []) (bindC (envOfC qual scope s.heap.objs.size f cd).kindOf (ps.zip us) fun _ => none) s1) :
    Inv (cxOf CX P w K mg base N qual scope f cd A outer s H E) [] (start N vs) H s1 := by
  have hpl : ps.length ≤ N.length := by have := congrArg List.length S.pre; rw [List.length_take] at this; (first | lia | omega)
  obtain ⟨h1, tk, rfl, hk⟩ := x.done
  have noA : ∀ b : Addr, b ∉ (cxOf CX P w K mg base N qual scope f cd A outer s H E).ex := fun b z => absurd (show b ∈ ([] : List Addr) from z) (by simp)
  refine ⟨⟨e0.mod, S.kind, rfl, rfl, Nat.le_refl _, fun y z c h1 h2 => ?_, fun y hy => ?_, fun y c _ h => ?_, fun _ => hd, Around.frames_deeper e0.frames, .inr ⟨rfl, rfl⟩, fun b z => absurd z (noA b), e0.bs, e0.bsz, fun b _ _ => noA b, fun b z => absurd z (noA b), e0.funs, e0.frf⟩,
    rfl, e0.bare, Un.kept hk, ⟨_, x.toInCall.ns, fun i y v h1 h2 h3 => ?_⟩, fun y c h => ⟨_, x.cell y c h⟩, e0.hok.fresh (Nat.le_refl _), fun y c h => ?_, fun p hp => absurd (show p ∈ ([] : List (Addr × Obj)) from hp) (by simp), e0.hok.kept hk, ?_⟩
  · exact name_of_addr x.apart (PySem.mem_of_lookup h1) (PySem.mem_of_lookup h2)
  · have hy : scope.names.lookup y = some .cell ∨ scope.names.lookup y = some .free := hy
    rcases hy with hy | hy
    · exact cell_has hy
    · exact absurd rfl (S.nofree _ (PySem.mem_of_lookup hy))
  · exact Nat.le_of_lt (x.above y c (PySem.mem_of_lookup h))
  · have hi : i < vs.length := by
      unfold start at h2
      by_cases hi : i < vs.length
      · exact hi
      · rw [List.getElem?_append_right (by simpa using hi)] at h2
        rw [List.getElem?_replicate] at h2
        split at h2 <;> cases h2
    have ha : vs[i]? = some v := by
      unfold start at h2
      rw [List.getElem?_append_left (by simpa using hi), List.getElem?_map] at h2
      cases e : vs[i]? with
      | none => rw [e] at h2; cases h2
      | some a => rw [e] at h2; cases h2; rfl
    obtain ⟨u, hu, rv⟩ := r.get ha
    have hp : ps[i]? = some y := by
      rw [← S.pre, List.getElem?_take_of_lt (by (first | lia | omega))]; exact h1
    have ndP : ps.Nodup := by rw [← S.pre]; exact S.nd.sublist (List.take_sublist _ _)
    refine ⟨u, rv, ?_⟩
    rcases S.par y (List.mem_of_getElem? hp) with k | k
    · exact .inl ⟨k, bindL_get ndP hp hu k⟩
    · obtain ⟨c, e⟩ := cell_has (n := s.heap.objs.size + 1) k
      refine .inr ⟨.inl k, c, e, ?_⟩
      have q := x.cell y c e
      rw [bindC_get ndP hp hu (by show scope.names.lookup y ≠ _; rw [k]; decide)] at q
      exact q
  · exact e0.hok.fresh (Nat.le_of_lt (x.above y c (PySem.mem_of_lookup h)))
  · unfold start
    show _ = N.length
    rw [List.length_append, List.length_map, List.length_replicate]
    (first | lia | omega)

/-- THE RULE: a def (or a method) of the text, by its body. The body's reading t is chosen for each entry; it is run at the parameters' values -/
theorem fn_of {CX : CXT} {P : Program} {w : World} {K : PySem.W.Frag} {mg : Str → Option Value} {base : Heap} {k : Nat} {f : Addr} {name qual : Str} {params : Arguments} {body : List Stmt} {scope : Scope} {dV kV doc pm cdv ct oc : Value} {an od : Option Addr}
    {osl : Array (Option Value)} {N ps : List Str} {sp : Sp} (lk : K.lookup f = some ⟨oc, od, .func (PySem.W.fnOf name qual params body scope dV kV doc pm an cdv ct), osl⟩) (hcd : PySem.W.codeIn K cdv qual = true) (S : FnScope N ps scope)
    (len : ∀ vs H Q E, sp vs H Q E → vs.length = ps.length)
    (hbody : ∀ (A : Around) (outer : List Env) (s : Shared) (H : Hp) (vs : List V) (Q : VK) (E : XK), Room k (A.deeper (envOfC qual scope s.heap.objs.size f cdv)) → sp vs H Q E →
      ∃ t, PSs (cxOf CX P w K mg base N qual scope f cdv A outer s H E) body t ∧ t { nx := fun _ H' => Q .non H', rt := Q } (start N vs) H) :
    FnOk P w K mg base CX (k + 1) f (PySem.W.fnOf name qual params body scope dV kV doc pm an cdv ct) ps sp := by
  refine ⟨len, fun A outer s H args us vs Q E hr e0 hb r hsp => ?_⟩
  have hl := len _ _ _ _ hsp
  have KX : K.In s.heap := e0.mod.kin.keeps fun b o e => (e0.bs b o e).1
  have lim : s.heap.NoLimit := e0.mod.nolimit.keeps fun b o e => (e0.bs b o e).1
  have hkind : ∀ y ∈ ps.zip us, scope.names.lookup y.1 = some .local ∨ (scope.names.lookup y.1 = some .cell ∧ ((cellsFrom (s.heap.objs.size + 1) scope.names []).lookup y.1).isSome = true) := fun ⟨n, v⟩ hy => by
    rcases S.par n (List.of_mem_zip hy).1 with q | q
    · exact .inl q
    · exact .inr ⟨q, PySem.W.cellsFrom_some _ _ _ (.inl q)⟩
  refine codeAny_call_function hr.depth (KX _ _ lk) rfl S.co S.gen rfl (PySem.W.codeRec_of KX hcd) (hb _ _ _ _ ?_)
  refine wpAny_newFunctionEnv_cells S.kind hkind fun env he s1 x => ?_
  subst he
  refine ⟨lim.keeps x.toInCall.keep, codeAny_func ?_⟩
  obtain ⟨t, ht, hq⟩ := hbody A outer s H vs Q E (hr.deeper _) hsp
  have I : Inv (cxOf CX P w K mg base N qual scope f cdv A outer s H E) [] (start N vs) H s1 := inv_start S hr.hd e0 hl r x
  refine wpAny_mono (ht [] s1 (start N vs) H _ I hq) (fun fl s' hs => ?_) fun e s' hs => hs
  have fin : ∀ {σ' : St} {H' : Hp} {v : V} {u : Value}, Inv (cxOf CX P w K mg base N qual scope f cdv A outer s H E) [] σ' H' s' → RelV v u → Q v H' → CE outer P w H s Q u s' :=
    fun {σ' H' v u} J rv q => ⟨v, H', J.os, J.bare, J.base, J.hok, rv, q⟩
  cases fl with
  | ret u =>
    obtain ⟨v, σ', H', J, rv, q⟩ := hs
    exact fin J rv q
  | next =>
    obtain ⟨σ', H', J, q⟩ := hs
    exact fin (v := V.non) (u := Value.none) J rfl q
  | brk =>
    obtain ⟨_, _, _, q⟩ := hs
    exact False.elim q
  | cont =>
    obtain ⟨_, _, _, q⟩ := hs
    exact False.elim q
end L2

namespace L2
open PySem PySem.Spec PyProof.Rows
section
variable {X : Cx} {x : Str} {p pos : Pos} {e : Expr} {es : List Expr} {t : TA} {id T : String} {r : List V → Hp → VK → Prop}

def tCB (r : List V → Hp → VK → Prop) (t : TA) : TE := fun σ H Q => t σ H fun vs H1 => r vs H1 Q
/-- f(e, ..), f a built-in function -/
theorem pe_callB (hc : CallR X (.builtin id) r) (hg : Gl X x) (hm : X.mg x = none) (hv : bootBuiltins x = some (.builtin id)) (ha : PA X (e :: es) t) (hn : x ≠ "__name__" := by decide) (hdb : (x == ("__debug__" : Str)) = false := by decide)
    (he : starEach (e :: es) X.env = (false, eval e X.env) :: starEach es X.env := by rfl) (hpl : (backTo pos (starEach es X.env)).any (·.1) = false := by rfl) : PE X (.Call (.Name x p) (e :: es) [] pos) (tCB r t) := by
  intro pins s σ H Q I h
  refine wpAny_Call_Name_kw (ld_blt I hg hm hv ?_ hn hdb)
  exact PyProof.Rows.callWith_builtin1 (thn (ha pos pins s σ H _ I h) fun us s1 hPy => ob2_3 hPy fun vs H1 I1 r1 q1 => hc pins s1 σ H1 vs us Q I1 r1 q1) he hpl
/-- T(e, ..), T a built-in type -/
theorem pe_callTy (hc : CallR X (.type T) r) (hg : Gl X x) (hm : X.mg x = none) (hv : bootBuiltins x = some (.type T)) (ha : PA X (e :: es) t) (hn : x ≠ "__name__" := by decide) (hdb : (x == ("__debug__" : Str)) = false := by decide)
    (he : starEach (e :: es) X.env = (false, eval e X.env) :: starEach es X.env := by rfl) (hpl : (backTo pos (starEach es X.env)).any (·.1) = false := by rfl) : PE X (.Call (.Name x p) (e :: es) [] pos) (tCB r t) := by
  intro pins s σ H Q I h
  refine wpAny_Call_Name_kw (ld_blt I hg hm hv ?_ hn hdb)
  exact PyProof.Rows.callWith_type1 (thn (ha pos pins s σ H _ I h) fun us s1 hPy => ob2_3 hPy fun vs H1 I1 r1 q1 => hc pins s1 σ H1 vs us Q I1 r1 q1) he hpl
end
end L2

namespace HT
open PySem PyProof.Rows

/-- t < u of tuples of ints -/
def lexLt : List Int → List Int → Bool
  | [], [] => false
  | [], _ :: _ => true
  | _ :: _, [] => false
  | x :: xs, y :: ys => if x = y then lexLt xs ys else decide (x < y)
theorem lexLt_cons (x y : Int) (xs ys : List Int) : lexLt (x :: xs) (y :: ys) = if x = y then lexLt xs ys else decide (x < y) := rfl
theorem lexLt_nil_nil : lexLt [] [] = false := rfl
theorem lexLt_nil_cons (y : Int) (ys : List Int) : lexLt [] (y :: ys) = true := rfl
theorem lexLt_cons_nil (x : Int) (xs : List Int) : lexLt (x :: xs) [] = false := rfl

theorem eqAt_int (A : Around) (s : Shared) (a : Int) (t : Tok) (c : Int) (u : Tok) : ∃ e, SeqAt.EqAt A s (.int a t) (.int c u) e ∧ (e = true ↔ a = c) :=
  ⟨(a == c), SeqAt.EqAt.int_int a t c u, by simp⟩
theorem rcLt_int (A : Around) (s : Shared) (a : Int) (t : Tok) (c : Int) (u : Tok) (prog : Program) (w : World) (E : Value → Shared → Prop) (Q : Value → Shared → Prop) (h : Q (.bool (decide (a < c))) s) :
    wpAny (model prog w) A (richCompare .Lt (.int a t) (.int c u)) Q E s :=
  (PyProof.Rows.lt_int h : wpAny (model prog w) A (compareOp .Lt (.int a t) (.int c u)) Q E s)

section
open PySem.SeqAt
open PySem.AutoSeq1 (wpAny_loadPart')
open PySem.MeetsSeq PySem.MeetsSeq2 PySem.MeetsSeq3

theorem tuple_lt_ints (l b : Addr) (items items2 : Array Value) (n n2 : Nat) (dd dd2 : Option Addr) (sl sl2 : Array (Option Value)) (ns ms : List Int) (hi : IntsAre items.toList ns) (hj : IntsAre items2.toList ms) :
    Meets (Builtin.«tuple.__lt__» ⟨[.ref l, .ref b], []⟩)
      (fun _ R s => s.heap.get? l = some { cls := .type "tuple", dict := dd, data := .seq items n, slots := sl } ∧ s.heap.get? b = some { cls := .type "tuple", dict := dd2, data := .seq items2 n2, slots := sl2 } ∧
        R (.ok (.ret (.bool (lexLt ns ms)))) s) :=
  .of_wp fun prog w A R s h => by
    obtain ⟨hp, g, d, tk, os⟩ := s; obtain ⟨hl, hb, h⟩ := h
    have f2 := AutoSeq1.sub_tuple_tuple
    have z1 : items.size = ns.length := by rw [← hi.length]; simp
    have z2 : items2.size = ms.length := by rw [← hj.length]; simp
    wp_walk using wpAny_loadPart' hl, wpAny_loadPart' hb, wpAny_forIn_list _ (fun rest b s' => b.1 = none ∧ s' = ⟨hp, g, d, tk, os⟩ ∧ ∃ (vs ws : List Value) (ns' ms' : List Int), rest = vs.zip ws ∧
      IntsAre vs ns' ∧ IntsAre ws ms' ∧ ns'.length + items2.size = ms'.length + items.size ∧ R (.ok (.ret (.bool (lexLt ns' ms')))) ⟨hp, g, d, tk, os⟩) _
    case turn =>
      rintro ⟨y, x⟩ rest b s' ⟨hb', rfl, vs, ws, ns', ms', hz, hvi, hwi, hlen, hR⟩
      cases hvi with
      | nil => rw [List.zip_nil_left] at hz; cases hz
      | cons a t hvi' =>
        cases hwi with
        | nil => rw [List.zip_nil_right] at hz; cases hz
        | cons c u hwi' =>
          rw [List.zip_cons_cons] at hz
          injection hz with hyx hrest
          injection hyx with hy hx
          subst hy hx
          rw [lexLt_cons] at hR
          simp only [List.length_cons] at hlen
          obtain ⟨e, he, hiff⟩ := eqAt_int A.in1 ⟨hp, g, d, tk, os⟩ a t c u
          refine wpAny_bind (he prog w _ _ ?_)
          cases e with
          | true =>
            rw [if_pos (hiff.mp rfl)] at hR
            wp_walk
            exact ⟨rfl, rfl, _, _, _, _, hrest, hvi', hwi', by (first | lia | omega), hR⟩
          | false =>
            rw [if_neg (fun q => absurd (hiff.mpr q) Bool.false_ne_true)] at hR
            have hri := rcLt_int A.in1 ⟨hp, g, d, tk, os⟩ a t c u prog w
            wp_walk using hri
            exact ⟨_, rfl, by simpa using hR⟩
    case fin =>
      rintro ⟨b1, b2⟩ s' ⟨hb', rfl, vs, ws, ns', ms', hz, hvi, hwi, hlen, hR⟩
      simp only at hb'
      subst hb'
      have hv : lexLt ns' ms' = decide (items.size < items2.size) := by
        cases hvi with
        | nil =>
          cases hwi with
          | nil =>
            simp only [List.length_nil] at hlen
            rw [lexLt_nil_nil]
            exact (decide_eq_false (by (first | lia | omega))).symm
          | cons c u hw =>
            simp only [List.length_nil, List.length_cons] at hlen
            rw [lexLt_nil_cons]
            exact (decide_eq_true (by (first | lia | omega))).symm
        | cons a t hv =>
          cases hwi with
          | nil =>
            simp only [List.length_nil, List.length_cons] at hlen
            rw [lexLt_cons_nil]
            exact (decide_eq_false (by (first | lia | omega))).symm
          | cons c u hw =>
            rw [List.zip_cons_cons] at hz
            cases hz
      rw [hv] at hR
      wp_walk
      exact ⟨_, rfl, by simpa [Builtin.Tuple.tupleCompareSizes] using hR⟩
    case h =>
      exact ⟨rfl, rfl, items.toList, items2.toList, ns, ms, rfl, hi, hj, by (first | lia | omega), h⟩
end

section
variable {prog : Program} {w : World} {A : Around} {E : Value → Shared → Prop} {s : Shared}

theorem lt_tupInts {l b : Addr} {items items2 : Array Value} {ns ms : List Int} {Q : Value → Shared → Prop} (hl : IsTup s.heap l items) (hb : IsTup s.heap b items2) (hi : IntsAre items.toList ns) (hj : IntsAre items2.toList ms)
    (hu : A.units < cLine) (h : Q (.bool (lexLt ns ms)) s) : wpAny (model prog w) A (compareOp .Lt (.ref l) (.ref b)) Q E s := by
  obtain ⟨⟨cls, dd, data, sl⟩, ho, hc, n, hd⟩ := id hl
  obtain ⟨⟨cls2, dd2, data2, sl2⟩, ho2, hc2, n2, hd2⟩ := id hb
  simp only at hc hd hc2 hd2
  subst hc hd hc2 hd2
  exact richCompare_meets_room (op := .Lt) ⟨_, ho, rfl⟩ ⟨_, ho2, rfl⟩ PySem.F.slot_tuple_lt PySem.F.entry_tuple_lt (PySem.F.args_tuple_lt_2 _ _) (tuple_lt_ints l b items items2 n n2 dd dd2 sl sl2 ns ms hi hj)
    ⟨ho, ho2, show Value.bool (lexLt ns ms) ≠ Value.notImplemented ∧ Q (.bool (lexLt ns ms)) s from ⟨(fun x => nomatch x), h⟩⟩ hu


/-! ### t[a:b], not the whole -/
/-- a slice's bound as a place among n (d where it is left out) -/
def sIx (n d : Nat) : Option Int → Nat
  | none => d
  | some v => if v < 0 then (v + (n : Int)).toNat else min v.toNat n

end
end HT

namespace L2
open PySem PySem.Spec PyProof.Rows

/-! ### the parts of a slice -/

theorem intsAre_of {ns : List Int} : ∀ {us : List Value}, Vals (ns.map V.int) us → IntsAre us ns := by
  induction ns with
  | nil => intro us r; rw [List.map_nil] at r; cases r; exact .nil
  | cons n ns ih =>
    intro us r
    rw [List.map_cons] at r
    cases r with
    | cons r1 r2 =>
      obtain ⟨t, e⟩ := r1
      subst e
      exact .cons n t (ih r2)

section
variable {X : Cx} {e : Expr} {te : TE} {lo hi : Option Expr} {tl th : TO} {pos p2 : Pos}


/-- what a slice of a value is, by values: the slice object stands at sl -/
def SlR (X : Cx) (r : V → Option Int → Option Int → Hp → VK → Prop) : Prop :=
  ∀ (pins : List (Addr × Obj)) (s : Shared) (σ : St) (H : Hp) (x : V) (v vl vu : Value) (lo hi : Option Int) (sl : Addr) (Q : VK), Inv X pins σ H s → RelV x v → s.heap.IsSliceOf sl vl vu .none → IsPart vl lo → IsPart vu hi → r x lo hi H Q →
    ∃ T id, typeLookup (.type T) "__getitem__" = pure (some (.builtin id)) ∧ s.TypeIs v T ∧ wpAny (model X.prog X.w) X.A (getItem v (.ref sl)) (EP X pins σ Q) X.xe s

/-- the items of xs[lo:hi] -/
def cutV (xs : List V) (lo hi : Option Int) : List V := (xs.drop (HT.sIx xs.length 0 lo)).take (HT.sIx xs.length xs.length hi - HT.sIx xs.length 0 lo)
theorem cutV_length (xs : List V) (lo hi : Option Int) : (cutV xs lo hi).length ≤ xs.length := by
  unfold cutV
  rw [List.length_take, List.length_drop]
  (first | lia | omega)

/-! ### t < u, t + u -/
end
end L2

namespace L2
open PySem PySem.Spec PyProof.Rows

/-! ### places -/
/-- the place that an index of any sign means -/
def ixN (n : Nat) (i : Int) : Option Nat := if 0 ≤ i then (if i < n then some i.toNat else none) else if -(n : Int) ≤ i then some (i + n).toNat else none
def atI {α : Type} (xs : List α) (i : Int) : Option α := (ixN xs.length i).bind fun j => xs[j]?
theorem ixN_seq {n : Nat} {i : Int} {j : Nat} (h : ixN n i = some j) : seqIndex? i n = some j ∧ j < n ∧ -(n : Int) ≤ i ∧ i < n := by
  unfold ixN at h
  by_cases h0 : 0 ≤ i
  · rw [if_pos h0] at h
    by_cases h1 : i < n
    · rw [if_pos h1] at h
      have e : i.toNat = j := Option.some.inj h
      exact ⟨by rw [seqIndex_of h0 h1, e], by (first | lia | omega), by (first | lia | omega), h1⟩
    · rw [if_neg h1] at h; cases h
  · rw [if_neg h0] at h
    by_cases h1 : -(n : Int) ≤ i
    · rw [if_pos h1] at h
      have e : (i + n).toNat = j := Option.some.inj h
      exact ⟨by rw [seqIndex_neg (by (first | lia | omega)) h1, e], by (first | lia | omega), h1, by (first | lia | omega)⟩
    · rw [if_neg h1] at h; cases h
theorem atI_get {α : Type} {xs : List α} {i : Int} {v : α} (h : atI xs i = some v) : ∃ j, seqIndex? i xs.length = some j ∧ xs[j]? = some v ∧ j < xs.length ∧ -(xs.length : Int) ≤ i ∧ i < xs.length := by
  unfold atI at h
  cases e : ixN xs.length i with
  | none => rw [e] at h; cases h
  | some j =>
    rw [e] at h
    obtain ⟨h1, h2, h3, h4⟩ := ixN_seq e
    exact ⟨j, h1, h, h2, h3, h4⟩
theorem atI_nat {α : Type} {xs : List α} {j : Nat} {v : α} (h : xs[j]? = some v) : atI xs (j : Int) = some v := by
  have hj : j < xs.length := (List.getElem?_eq_some_iff.mp h).1
  have e : ixN xs.length (j : Int) = some j := by
    unfold ixN
    rw [if_pos (by (first | lia | omega)), if_pos (by (first | lia | omega))]; simp
  unfold atI; rw [e]; exact h

/-! ### what may be subscripted -/
/-- what stands as an index of a plain subscript -/
def PlainIx (b : Expr) : Prop := ∀ o i, subscripted b false o i = operate [o, i] (getItem o i)
/-- a subscript by values -/
def IxR (X : Cx) (r : R2) : Prop :=
  ∀ (value slice : Expr) (pins : List (Addr × Obj)) (s : Shared) (σ : St) (H : Hp) (x y : V) (v u : Value) (Q : VK), Inv X pins σ H s → RelV x v → RelV y u → r x y H Q →
    subscripted slice false v u = operate [v, u] (getItem v u) → wpAny (model X.prog X.w) X.A (subscriptTail value slice v u) (EP X pins σ Q) X.xe s
/-- a call of a builtin's method by values: the receiver, the arguments -/
def MtR (X : Cx) (id : String) (r : V → List V → Hp → VK → Prop) : Prop :=
  ∀ (pins : List (Addr × Obj)) (s : Shared) (σ : St) (H : Hp) (x : V) (xs : List V) (v : Value) (us : List Value) (Q : VK), Inv X pins σ H s → RelV x v → Vals xs us → r x xs H Q →
    wpAny (model X.prog X.w) X.A (call (.builtin id) (v :: us)) (EP X pins σ Q) X.xe s
section
variable {X : Cx} {a b : Expr} {ta tb : TE} {pos : Pos}
/-- a[b] -/
theorem pe_ix {r : R2} (hr : IxR X r) (ha : PE X a ta) (hb : PE X b tb) (hs : PlainIx b) : PE X (.Subscript a b pos) (tOp r ta tb) := by
  intro pins s σ H Q I h
  exact Subscript_ (binT ha hb I h fun v u s2 x y H2 I2 rx ry q => hr a b pins s2 σ H2 x y v u Q I2 rx ry q (hs _ _))

def rIxL (K : PySem.W.Frag) : R2 := fun x y H Q => ∃ p xs i v, x = .ref p ∧ y = .int i ∧ SqL K H p xs ∧ atI xs i = some v ∧ Q v H
def rIxT (K : PySem.W.Frag) : R2 := fun x y H Q => ∃ p xs i v, x = .ref p ∧ y = .int i ∧ SqT K H p xs ∧ atI xs i = some v ∧ Q v H
theorem ix_list : IxR X (rIxL X.K) := by
  intro value slice pins s σ H x y v u Q I rx ry h hs
  obtain ⟨p, xs, i, z, rfl, rfl, hq, he, q⟩ := h
  cases rx
  obtain ⟨t, rfl⟩ := ry
  obtain ⟨its, r, pl, hz⟩ := I.list hq
  obtain ⟨j, h1, h2, h3, h4, h5⟩ := atI_get he
  obtain ⟨w, ew, rw'⟩ := r.get h2
  have hl := r.length
  have hn := line63
  have fin : EP X pins σ Q w s := ⟨z, H, I, rw', q⟩
  by_cases h0 : 0 ≤ i
  · have hj : i.toNat = j := by
      rw [seqIndex_of h0 h5] at h1
      exact Option.some.inj h1
    exact item_listR pl.isList h0 (by (first | lia | omega)) (by rw [hj]; simpa using ew) fin hs
  · have hj : (i + (its.toArray.size : Int)).toNat = j := by
      rw [seqIndex_neg (by (first | lia | omega)) h4] at h1
      rw [List.size_toArray, ← hl]
      exact Option.some.inj h1
    exact subscriptTail_builtinR (x := w) pl.isList.typeIs slot_list_getitem.lookup
      (wpAny_getItem_list_neg (Q := fun r s' => r = w ∧ EP X pins σ Q r s') pl.isList (by (first | lia | omega)) (by rw [List.size_toArray] <;> (first | lia | omega)) (by (first | lia | omega)) (by rw [hj]; simpa using ew) ⟨rfl, fin⟩) hs
theorem ix_tup : IxR X (rIxT X.K) := by
  intro value slice pins s σ H x y v u Q I rx ry h hs
  obtain ⟨p, xs, i, z, rfl, rfl, hq, he, q⟩ := h
  cases rx
  obtain ⟨t, rfl⟩ := ry
  obtain ⟨its, r, pl, hz⟩ := I.tuple hq
  obtain ⟨j, h1, h2, h3, h4, h5⟩ := atI_get he
  obtain ⟨w, ew, rw'⟩ := r.get h2
  have hl := r.length
  have hn := line63
  have fin : EP X pins σ Q w s := ⟨z, H, I, rw', q⟩
  exact subscriptTail_builtinR (x := w) pl.typeIs slot_tuple_getitem.lookup
    (getItem_tuple (j := j) (Q := fun r s' => r = w ∧ EP X pins σ Q r s') pl (by (first | lia | omega)) (by (first | lia | omega)) (by rw [List.size_toArray, ← hl]; exact h1) (by simpa using ew) ⟨rfl, fin⟩) hs

/-! ### xs[i] = v, any sign -/
/-- the list's object behind a store -/
theorem mapSeq_set (its : List Value) (n j : Nat) (u : Value) : Obj.mapSeq (·.setIfInBounds j u) { cls := .type "list", data := .seq its.toArray n } = { cls := .type "list", data := .seq (its.set j u).toArray n } := by
  simp [Obj.mapSeq]
theorem Inv.lst {pins : List (Addr × Obj)} {σ : St} {H : Hp} {s : Shared} {p : Addr} {xs : List V} (I : Inv X pins σ H s) (h : H p = some (.lst xs)) :
    ∃ (its : List Value) (n : Nat), Vals xs its ∧ s.heap.get? p = some { cls := .type "list", data := .seq its.toArray n } ∧ xs.length ≤ sizeLine := by
  obtain ⟨z, its, n, r, e⟩ := I.hok p _ h
  exact ⟨its, n, r, e, z⟩
/-- the list at p is written by an update of its object -/
theorem Inv.lstUpd {pins : List (Addr × Obj)} {σ : St} {H : Hp} {s : Shared} {p : Addr} {xs ys : List V} {its its' : List Value} {n n' : Nat} {f : Obj → Obj} (I : Inv X pins σ H s) (h : H p = some (.lst xs))
    (ho : s.heap.get? p = some { cls := .type "list", data := .seq its.toArray n }) (hf : f { cls := .type "list", data := .seq its.toArray n } = { cls := .type "list", data := .seq its'.toArray n' }) (r : Vals ys its') (hz : ys.length ≤ sizeLine) (t : Nat) :
    Inv X pins σ (upd H p (.lst ys)) { s with heap := s.heap.update p f, toks := t } := by
  have e : (s.heap.update p f).get? p = some { cls := .type "list", data := .seq its'.toArray n' } := by
    rw [Heap.get?_update_self f ho (by rw [hf] <;> rfl), hf]
  refine I.write (x := p) (e := p) (by rw [h]; trivial) (.inl rfl) (fun b u hb q => (Heap.get?_update_other _ _ (Ne.symm hb)).trans q) ⟨_, e⟩ ?_
  exact ⟨hz, its', n', r, e⟩
def rSetL : V → V → V → Hp → (Hp → Prop) → Prop := fun o i v H Q => ∃ p xs k j, o = .ref p ∧ i = .int k ∧ H p = some (.lst xs) ∧ ixN xs.length k = some j ∧ Q (upd H p (.lst (xs.set j v)))
theorem set_list : PSet X rSetL := by
  intro pins s σ H o i v ov iv u Q I ro ri rv h
  obtain ⟨p, xs, k, j, rfl, rfl, hp, hj, q⟩ := h
  cases ro
  obtain ⟨t, rfl⟩ := ri
  obtain ⟨its, n, r, ho, hz⟩ := I.lst hp
  obtain ⟨h1, h2, h3, h4⟩ := ixN_seq hj
  have hl := r.length
  have hn := line63
  have I' : Inv X pins σ (upd H p (.lst (xs.set j v))) { s with heap := s.heap.update p (Obj.mapSeq (·.setIfInBounds j u)) } :=
    I.lstUpd hp ho (mapSeq_set its n j u) (r.set rv j) (by rw [List.length_set]; exact hz) s.toks
  by_cases h0 : 0 ≤ k
  · have hk : k.toNat = j := by
      rw [seqIndex_of h0 h4] at h1
      exact Option.some.inj h1
    exact PySem.W.ki_setAt ho h0 (by (first | lia | omega)) (by rw [List.size_toArray, ← hl]; exact h4) (by rw [hk]; exact ⟨_, I', q⟩)
  · have hk : (k + (its.toArray.size : Int)).toNat = j := by
      rw [seqIndex_neg (by (first | lia | omega)) h3] at h1
      rw [List.size_toArray, ← hl]
      exact Option.some.inj h1
    exact PySem.W.ki_setBack ho (by (first | lia | omega)) (by rw [List.size_toArray, ← hl]; exact h3) (by (first | lia | omega)) (by rw [hk]; exact ⟨_, I', q⟩)

/-! ### slices -/
theorem slice_bounds (lo hi : Option Int) (n : Nat) : (sliceBounds lo hi none n).1 = ((HT.sIx n 0 lo : Nat) : Int) ∧ (sliceBounds lo hi none n).2.1 = ((HT.sIx n n hi : Nat) : Int) ∧ (sliceBounds lo hi none n).2.2 = 1 := by
  refine ⟨?_, ?_, rfl⟩
  · cases lo with
    | none => simp [sliceBounds, HT.sIx]
    | some i =>
      simp only [sliceBounds, HT.sIx, Option.getD_none, show (1 : Int) > 0 by decide, if_true]
      by_cases h : i < 0
      · simp only [h, if_true] <;> (first | lia | omega)
      · simp only [h, if_false] <;> (first | lia | omega)
  · cases hi with
    | none => simp [sliceBounds, HT.sIx]
    | some i =>
      simp only [sliceBounds, HT.sIx, Option.getD_none, show (1 : Int) > 0 by decide, if_true]
      by_cases h : i < 0
      · simp only [h, if_true] <;> (first | lia | omega)
      · simp only [h, if_false] <;> (first | lia | omega)
theorem slicePick_cut (its : List Value) (lo hi : Option Int) : slicePick its.toArray lo hi none = ((its.drop (HT.sIx its.length 0 lo)).take (HT.sIx its.length its.length hi - HT.sIx its.length 0 lo)).toArray := by
  obtain ⟨h1, h2, h3⟩ := slice_bounds lo hi its.toArray.size
  unfold slicePick
  rw [h1, h2, h3]
  simp only [sliceRange_one, pick_run, List.size_toArray] <;> rfl
/-- xs[lo:hi] of a list: a new list -/
def rSlL (K : PySem.W.Frag) : V → Option Int → Option Int → Hp → VK → Prop := fun x lo hi H Q => ∃ a xs, x = .ref a ∧ SqL K H a xs ∧ ∀ p, H p = none → Q (.ref p) (upd H p (.lst (cutV xs lo hi)))
theorem sl_list : SlR X (rSlL X.K) := by
  intro pins s σ H x v vl vu lo hi sl Q I rx hs pl pu h
  obtain ⟨a, xs, rfl, hx, q⟩ := h
  cases rx
  obtain ⟨its, r, ht, hz⟩ := I.list hx
  have hlen := r.length
  refine ⟨"list", _, slot_list_getitem.lookup, ht.isList.typeIs, ?_⟩
  refine wpAny_getItem_list_slice ht.isList hs pl pu .none (by simp) ?_ (by rw [List.size_toArray] <;> (first | lia | omega))
  rw [slicePick_cut, ← hlen]
  refine ⟨.ref s.heap.objs.size, _, I.laid (t' := s.toks) (o := .lst (cutV xs lo hi)) (fun b ob q => Heap.get?_push_of_some _ q) (Nat.le_refl _) ?_, rfl, q _ (I.hok.fresh (Nat.le_refl _))⟩
  exact ⟨Nat.le_trans (cutV_length xs lo hi) hz, _, 0, (r.drop (HT.sIx xs.length 0 lo)).take (HT.sIx xs.length xs.length hi - HT.sIx xs.length 0 lo), Heap.get?_push_size _ rfl⟩

/-! ### in, not in: flat items -/
def flatV : V → Bool
  | .non => true
  | .bl _ => true
  | .int _ => true
  | .str _ => true
  | _ => false
/-- == of flat values -/
def eqV : V → V → Bool
  | .non, .non => true
  | .bl a, .bl b => a == b
  | .bl a, .int b => (if a then 1 else 0) == b
  | .int a, .bl b => a == (if b then 1 else 0)
  | .int a, .int b => a == b
  | .str a, .str b => a == b
  | _, _ => false
theorem eqAt_V {A : Around} {s : Shared} {y x : V} {u v : Value} (ry : RelV y u) (rx : RelV x v) (fy : flatV y = true) (fx : flatV x = true) : SeqAt.EqAt A s u v (eqV y x) := by
  cases y with
  | non =>
    cases ry
    cases x with
    | non => cases rx; exact SeqAt.EqAt.same _
    | bl b => cases rx; exact SeqAt.EqAt.none_bool b
    | int b => obtain ⟨t, rfl⟩ := rx; exact SeqAt.EqAt.none_int b t
    | str b => obtain ⟨t, rfl⟩ := rx; exact SeqAt.EqAt.none_str b t
    | _ => exact absurd (show false = true from fx) Bool.false_ne_true
  | bl a =>
    cases ry
    cases x with
    | non => cases rx; exact SeqAt.EqAt.bool_none a
    | bl b => cases rx; exact SeqAt.EqAt.bool_bool a b
    | int b => obtain ⟨t, rfl⟩ := rx; exact SeqAt.EqAt.bool_int a b t
    | str b => obtain ⟨t, rfl⟩ := rx; exact SeqAt.EqAt.bool_str a b t
    | _ => exact absurd (show false = true from fx) Bool.false_ne_true
  | int a =>
    obtain ⟨t', rfl⟩ := ry
    cases x with
    | non => cases rx; exact SeqAt.EqAt.int_none a t'
    | bl b => cases rx; exact SeqAt.EqAt.int_bool a t' b
    | int b => obtain ⟨t, rfl⟩ := rx; exact SeqAt.EqAt.int_int a t' b t
    | str b => obtain ⟨t, rfl⟩ := rx; exact SeqAt.EqAt.int_str a t' b t
    | _ => exact absurd (show false = true from fx) Bool.false_ne_true
  | str a =>
    obtain ⟨t', rfl⟩ := ry
    cases x with
    | non => cases rx; exact SeqAt.EqAt.str_none a t'
    | bl b => cases rx; exact SeqAt.EqAt.str_bool a t' b
    | int b => obtain ⟨t, rfl⟩ := rx; exact SeqAt.EqAt.str_int a t' b t
    | str b => obtain ⟨t, rfl⟩ := rx; exact SeqAt.EqAt.str_str a t' b t
    | _ => exact absurd (show false = true from fx) Bool.false_ne_true
  | _ => exact absurd (show false = true from fy) Bool.false_ne_true
/-- the items' answers, read off the values (a value's own answer does not lean on its token) -/
def eqU (x : V) (u : Value) : Bool := match u with
  | .none => eqV .non x
  | .bool b => eqV (.bl b) x
  | .int i _ => eqV (.int i) x
  | .str z _ => eqV (.str z) x
  | _ => false
theorem eqU_of {x y : V} {u : Value} (r : RelV y u) (f : flatV y = true) : eqU x u = eqV y x := by
  cases y with
  | non => cases r; rfl
  | bl b => cases r; rfl
  | int i => obtain ⟨t, rfl⟩ := r; rfl
  | str z => obtain ⟨t, rfl⟩ := r; rfl
  | _ => exact absurd (show false = true from f) Bool.false_ne_true
theorem any_eqU {x : V} : ∀ {xs : List V} {us : List Value}, Vals xs us → xs.all flatV = true → us.any (eqU x) = xs.any fun y => eqV y x
  | _, _, .nil, _ => rfl
  | y :: xs, u :: us, .cons r t, f => by
    rw [List.all_cons, Bool.and_eq_true] at f
    rw [List.any_cons, List.any_cons, eqU_of r f.1, any_eqU t f.2]
theorem mem_eqAt {A : Around} {s : Shared} {x : V} {v : Value} (rx : RelV x v) (fx : flatV x = true) : ∀ {xs : List V} {us : List Value}, Vals xs us → xs.all flatV = true → ∀ u ∈ us, SeqAt.EqAt A s u v (eqU x u)
  | _, _, .nil, _ => fun u hu => by cases hu
  | y :: xs, u :: us, .cons r t, f => fun u' hu => by
    rw [List.all_cons, Bool.and_eq_true] at f
    rcases List.mem_cons.mp hu with rfl | hu
    · rw [eqU_of r f.1]; exact eqAt_V r rx f.1 fx
    · exact mem_eqAt rx fx t f.2 u' hu
def inV (x : V) (xs : List V) : Bool := xs.any fun y => eqV y x
/-- x in a list or tuple of flat items -/
def rIn (K : PySem.W.Frag) (neg : Bool) : R2 := fun x y H Q => ∃ p xs, y = .ref p ∧ (SqL K H p xs ∨ SqT K H p xs) ∧ flatV x = true ∧ xs.all flatV = true ∧ Q (.bl (if neg then !inV x xs else inV x xs)) H
theorem op_notIn_seq : OpR X (compareOp .NotIn) (rIn X.K true) := by
  intro pins s σ H x y v u Q I rx ry h
  obtain ⟨p, xs, rfl, hq, fx, fs, q⟩ := h
  cases ry
  rcases hq with hq | hq
  · obtain ⟨its, r, pl, hz⟩ := I.list hq
    refine SeqAt.notIn_listAt (eqU x) pl.isList (fun w hw => mem_eqAt rx fx r fs w (by simpa using hw)) ⟨.bl _, H, I, rfl, ?_⟩
    rw [show its.toArray.any (eqU x) = its.any (eqU x) by simp, any_eqU r fs]
    exact q
  · obtain ⟨its, r, pl, hz⟩ := I.tuple hq
    refine SeqAt.notIn_tupleAt (eqU x) pl (fun w hw => mem_eqAt rx fx r fs w (by simpa using hw)) ⟨.bl _, H, I, rfl, ?_⟩
    rw [show its.toArray.any (eqU x) = its.any (eqU x) by simp, any_eqU r fs]
    exact q

/-! ### len, list(x), tuple(x) of any list or tuple that is read -/
theorem call_len_seq : CallR X (.builtin "len") (fun xs H Q => ∃ p ys, xs = [.ref p] ∧ (SqL X.K H p ys ∨ SqT X.K H p ys) ∧ Q (.int ys.length) H) := by
  intro pins s σ H xs us Q I r h
  obtain ⟨p, ys, rfl, hq, q⟩ := h
  obtain ⟨u, rfl, rx⟩ := vals1 r
  cases rx
  have hn := line63
  rcases hq with hq | hq
  · obtain ⟨its, r', pl, hz⟩ := I.list hq
    have hlen := r'.length
    exact Calls.call_len_list pl.isList (by simp only [List.size_toArray] <;> (first | lia | omega)) ⟨.int ys.length, H, I.tok _, ⟨s.toks + 1, by rw [List.size_toArray, hlen]⟩, q⟩
  · obtain ⟨its, r', pl, hz⟩ := I.tuple hq
    have hlen := r'.length
    exact len_tuple pl (by simp only [List.size_toArray] <;> (first | lia | omega)) ⟨.int ys.length, H, I.tok _, ⟨s.toks + 1, by rw [List.size_toArray, hlen]⟩, q⟩
theorem call_list_of : CallR X (.type "list") (fun xs H Q => ∃ p ys, xs = [.ref p] ∧ (SqL X.K H p ys ∨ SqT X.K H p ys) ∧ ∀ l, H l = none → Q (.ref l) (upd H l (.lst ys))) := by
  intro pins s σ H xs us Q I r h
  obtain ⟨p, ys, rfl, hq, q⟩ := h
  obtain ⟨u, rfl, rx⟩ := vals1 r
  cases rx
  have fin : ∀ (its : List Value), Vals ys its → ys.length ≤ sizeLine → ∀ (h' : Heap) (c' : Nat), (∀ b o', s.heap.get? b = some o' → h'.get? b = some o') →
      h'.get? s.heap.objs.size = some { cls := .type "list", dict := none, data := .seq its.toArray c', slots := #[] } → EP X pins σ Q (.ref s.heap.objs.size) { s with heap := h' } := fun its r' hz h' c' kp e =>
    ⟨.ref s.heap.objs.size, _, I.laid (t' := s.toks) kp (Nat.le_refl _) (show ObjOk X.prog X.w _ h' _ (.lst ys) from ⟨hz, its, c', r', e⟩), rfl, q _ (I.hok.fresh (Nat.le_refl _))⟩
  rcases hq with hq | hq
  · obtain ⟨its, r', pl, hz⟩ := I.list hq
    have hlen := r'.length
    obtain ⟨o, ho, hc, n, hd⟩ := pl.isList
    exact call_list_seq p (.inl rfl) ho hc hd (fun h' c' kp e => fin its r' hz h' c' kp e) (by simp only [List.size_toArray] <;> (first | lia | omega))
  · obtain ⟨its, r', pl, hz⟩ := I.tuple hq
    have hlen := r'.length
    obtain ⟨o, ho, hc, n, hd⟩ := pl
    exact call_list_seq p (.inr rfl) ho hc hd (fun h' c' kp e => fin its r' hz h' c' kp e) (by simp only [List.size_toArray] <;> (first | lia | omega))

/-! ### the call of a builtin's method: o.m(..) -/
/-- the value is of that builtin type -/
def tyV (K : PySem.W.Frag) (T : String) (x : V) (H : Hp) : Prop := match x with
  | .str _ => T = "str"
  | .int _ => T = "int"
  | .ref p => (T = "list" ∧ ∃ xs, SqL K H p xs) ∨ (T = "tuple" ∧ ∃ o, K.lookup p = some o ∧ o.cls = .type "tuple" ∧ o.dict = none) ∨
      (T = "dict" ∧ ((∃ kvs, H p = some (.dK kvs)) ∨ ∃ kvs, H p = some (.dT kvs))) ∨ (T = "set" ∧ ∃ S n, H p = some (.set S n))
  | _ => False
theorem tyV_is {pins : List (Addr × Obj)} {σ : St} {H : Hp} {s : Shared} {T : String} {x : V} {v : Value} (I : Inv X pins σ H s) (r : RelV x v) (ty : tyV X.K T x H) :
    s.TypeIs v T ∧ ∀ a, v = .ref a → ∃ ob, s.heap.get? a = some ob ∧ ob.dict = none := by
  cases x with
  | str z =>
    obtain ⟨t, rfl⟩ := r
    cases (show T = "str" from ty)
    exact ⟨typeIs_str s z t, fun _ e => nomatch e⟩
  | int i =>
    obtain ⟨t, rfl⟩ := r
    cases (show T = "int" from ty)
    exact ⟨typeIs_int s i t, fun _ e => nomatch e⟩
  | ref p =>
    cases r
    rcases ty with ⟨rfl, xs, hq⟩ | ⟨rfl, o, hk, hc, hd⟩ | ⟨rfl, hk⟩ | ⟨rfl, S, n, hk⟩
    · obtain ⟨its, _, pl, _⟩ := I.list hq
      refine ⟨pl.isList.typeIs, fun a e => ?_⟩
      cases e
      obtain ⟨o, n, e, c, hd, _⟩ := pl
      exact ⟨o, e, hd⟩
    · refine ⟨⟨o, I.kIn p o hk, hc⟩, fun a e => ?_⟩
      cases e
      exact ⟨o, I.kIn _ o hk, hd⟩
    · have z : ∃ o, s.heap.get? p = some o ∧ o.ExactDict := by
        rcases hk with ⟨kvs, hk⟩ | ⟨kvs, hk⟩
        · obtain ⟨_, _, _, _, o, _, _, e, ex, _⟩ := I.hok p _ hk
          exact ⟨o, e, ex⟩
        · obtain ⟨_, _, _, _, o, _, _, e, ex, _⟩ := I.hok p _ hk
          exact ⟨o, e, ex⟩
      obtain ⟨o, e, ex⟩ := z
      refine ⟨⟨o, e, ex.1⟩, fun a e2 => ?_⟩
      cases e2
      exact ⟨o, e, ex.2.1⟩
    · obtain ⟨o, _, _, _, e, ex, _⟩ := I.hok p _ hk
      refine ⟨⟨o, e, ex.1⟩, fun a e2 => ?_⟩
      cases e2
      exact ⟨o, e, ex.2.1⟩
  | _ => exact False.elim ty
def tBM0 (K : PySem.W.Frag) (T : String) (r : V → List V → Hp → VK → Prop) (to : TE) : TE := fun σ H Q => to σ H fun x H1 => tyV K T x H1 ∧ r x [] H1 Q
def tBM (K : PySem.W.Frag) (T : String) (r : V → List V → Hp → VK → Prop) (to : TE) (t : TA) : TE := fun σ H Q => to σ H fun x H1 => tyV K T x H1 ∧ t σ H1 fun xs H2 => r x xs H2 Q
variable {o e : Expr} {es : List Expr} {to : TE} {t : TA} {name : Str} {apos cpos : Pos} {T id : String} {r : V → List V → Hp → VK → Prop}
theorem pe_bm0 (pa : PlainAttrs T) (slot : Slot T name id) (hty : typeOf (.builtin id) = pure (.type "method_descriptor")) (hm : MtR X id r) (ho : PE X o to)
    (hbase : attributeBase o name X.env (eval o X.env) = eval o X.env := by rfl) (hline : (apos.endLine == cpos.line) = true := by rfl) : PE X (.Call (.Attribute o name apos) [] [] cpos) (tBM0 X.K T r to) := by
  intro pins s σ H Q I h
  refine wpAny_Call_method0_late hbase hline (thn (ho pins s σ H _ I h) fun v s1 hPz => ?_); obtain ⟨x, H1, I1, r1, ty, q1⟩ := hPz
  obtain ⟨h1, h2⟩ := tyV_is I1 r1 ty
  exact ⟨T, id, pa, slot, hty, h1, h2, Calls.callWith_builtin rfl (PySem.evalArgs_none (hm pins s1 σ H1 x [] v [] Q I1 r1 .nil q1))⟩
theorem pe_bm (pa : PlainAttrs T) (slot : Slot T name id) (hty : typeOf (.builtin id) = pure (.type "method_descriptor")) (hm : MtR X id r) (ho : PE X o to) (ha : PA X (e :: es) t)
    (hbase : attributeBase o name X.env (eval o X.env) = eval o X.env := by rfl)
    (hfew : ((backTo cpos (starEach (e :: es) X.env)).all (fun x => !x.1) && (backToKw cpos (keywordEach [] X.env)).all (fun x => x.1.isSome)
      && decide ((e :: es).length + ([] : List Keyword).length + (if ([] : List Keyword).isEmpty then 0 else 1) < 30)) = true := by rfl)
    (hline : (apos.endLine == cpos.line) = true := by rfl) (hs : starEach (e :: es) X.env = (false, eval e X.env) :: starEach es X.env := by rfl) (hplain : (backTo cpos (starEach es X.env)).any (·.1) = false := by rfl) :
    PE X (.Call (.Attribute o name apos) (e :: es) [] cpos) (tBM X.K T r to t) := by
  intro pins s σ H Q I h
  refine wpAny_Call_method_late hbase hfew hline rfl (thn (ho pins s σ H _ I h) fun v s1 hPz => ?_); obtain ⟨x, H1, I1, r1, ty, q1⟩ := hPz
  obtain ⟨h1, h2⟩ := tyV_is I1 r1 ty
  refine ⟨T, id, pa, slot, hty, h1, h2, ?_⟩
  have hA := ha cpos pins s1 σ H1 _ I1 q1
  rw [hs] at hA ⊢
  refine Calls.callWith_builtin (by show (false || (backTo cpos (starEach es X.env)).any (·.1)) = false; rw [hplain] <;> rfl) (Calls.evalArgs_plain ?_)
  exact thn hA fun us s2 hPy => ob2_3 hPy fun vs H2 I2 r2 q2 => hm pins s2 σ H2 x vs v us Q I2 r1 r2 q2
/- xs.append(e), list.index on a module's tuple .. are MtR facts of 06m -/
end
end L2

namespace L2
open PySem PySem.Spec PyProof.Rows

def MtM (X : Cx) (id : String) (r : V → List V → Hp → VK → Prop) : Prop :=
  ∀ (pins : List (Addr × Obj)) (s : Shared) (σ : St) (H : Hp) (x : V) (xs : List V) (v : Value) (us : List Value) (Q : VK), Inv X pins σ H s → RelV x v → Vals xs us → r x xs H Q →
    wpAny (model X.prog X.w) X.A (call (.builtin id) (v :: us)) (EP X pins σ Q) X.xe s

/-! ### lists of values -/
theorem Vals.one : ∀ {x : V} {us : List Value}, Vals [x] us → ∃ u, us = [u] ∧ RelV x u
  | _, _, .cons r .nil => ⟨_, rfl, r⟩
theorem Vals.two : ∀ {x y : V} {us : List Value}, Vals [x, y] us → ∃ u v, us = [u, v] ∧ RelV x u ∧ RelV y v
  | _, _, _, .cons r (.cons q .nil) => ⟨_, _, rfl, r, q⟩
theorem Vals.zero : ∀ {us : List Value}, Vals [] us → us = []
  | _, .nil => rfl
theorem Vals.dropLast {xs : List V} {us : List Value} (h : Vals xs us) : Vals xs.dropLast us.dropLast := by
  induction h with
  | nil => exact .nil
  | cons r t ih =>
    cases t with
    | nil => exact .nil
    | cons q t' => exact .cons r ih
theorem Vals.reverse {xs : List V} {us : List Value} (h : Vals xs us) : Vals xs.reverse us.reverse := by
  induction h with
  | nil => exact .nil
  | cons r t ih => rw [List.reverse_cons, List.reverse_cons]; exact Vals.append ih (.cons r .nil)
theorem erase_last {α : Type} (l : List α) : l.eraseIdx (l.length - 1) = l.dropLast := by
  induction l with
  | nil => rfl
  | cons a r ih =>
    cases r with
    | nil => rfl
    | cons b r =>
      have e : (a :: b :: r).length - 1 = ((b :: r).length - 1) + 1 := by
        have h1 : (a :: b :: r).length = r.length + 2 := rfl
        have h2 : (b :: r).length = r.length + 1 := rfl
        (first | lia | omega)
      rw [e, List.eraseIdx_cons_succ, ih]
      all_goals rfl

section
variable {X : Cx} {pins : List (Addr × Obj)} {σ : St} {H : Hp} {s : Shared} {l b : Addr} {xs ys zs : List V}

/-! ### the two steps: a tracked list is rewritten, a new list is laid -/
theorem Inv.lset {its its' : List Value} {n : Nat} {f : Array Value → Array Value} {t' : Nat} (I : Inv X pins σ H s) (hH : H l = some (.lst xs))
    (e : s.heap.get? l = some { cls := .type "list", data := .seq its.toArray n }) (hf : f its.toArray = its'.toArray) (hv : Vals ys its') (hz : ys.length ≤ sizeLine) :
    Inv X pins σ (upd H l (.lst ys)) { s with heap := s.heap.update l (Obj.mapSeq f), toks := t' } := by
  have q := PySem.IsL.update e f
  rw [hf] at q
  refine I.write (x := l) (e := l) (by rw [hH]; exact trivial) (.inl rfl) (fun b' u hb hu => (Heap.get?_update_other s.heap (Obj.mapSeq f) (Ne.symm hb)).trans hu) ⟨_, q⟩ ?_
  exact ⟨hz, its', _, hv, q⟩
theorem Inv.lnew {its : List Value} {t' : Nat} (I : Inv X pins σ H s) (hv : Vals ys its) (hz : ys.length ≤ sizeLine) :
    Inv X pins σ (upd H s.heap.objs.size (.lst ys)) { s with heap := s.heap.push { cls := .type "list", data := .seq its.toArray }, toks := t' } :=
  I.laid (fun _ _ q => Heap.get?_push_of_some _ q) (Nat.le_refl _) ⟨hz, its, 0, hv, Heap.get?_push_size _ rfl⟩
theorem Inv.fresh (I : Inv X pins σ H s) : H s.heap.objs.size = none := I.hok.fresh (Nat.le_refl _)
theorem Inv.lstM (I : Inv X pins σ H s) (hH : H l = some (.lst xs)) : xs.length ≤ sizeLine ∧ ∃ (its : List Value) (n : Nat), Vals xs its ∧ xs.length = its.length ∧ s.heap.get? l = some { cls := .type "list", data := .seq its.toArray n } := by
  obtain ⟨z, its, n, r, e⟩ := I.hok l _ hH
  exact ⟨z, its, n, r, r.length, e⟩

theorem notLongL {n : Nat} (h : n ≤ sizeLine) : Builtin.List.listTooLong n = false := by
  unfold Builtin.List.listTooLong
  exact decide_eq_false (by (first | lia | omega))
end

section
variable {X : Cx}

/-! ### methods -/
def rAppend : V → List V → Hp → VK → Prop := fun x vs H Q => ∃ l xs y, x = .ref l ∧ vs = [y] ∧ H l = some (.lst xs) ∧ xs.length < sizeLine ∧ Q .non (upd H l (.lst (xs ++ [y])))
theorem mt_append : MtM X "list.append" rAppend := by
  intro pins s σ H x vs v us Q I rx rv h
  obtain ⟨l, xs, y, rfl, rfl, hH, hz, q⟩ := h
  cases rx
  obtain ⟨u, rfl, ru⟩ := rv.one
  obtain ⟨z, its, n, r, hl, e⟩ := I.lstM hH
  refine call_meets F.slot_list_append ⟨_, e, rfl⟩ F.entry_list_append (F.args_list_append_2 _ _) (PySem.list_append l its.toArray n u (by rw [List.size_toArray]; (first | lia | omega))) ⟨e, ?_⟩
  refine ⟨.non, _, I.lset (its' := its ++ [u]) hH e (by simp) (r.append (.cons ru .nil)) ?_, rfl, q⟩
  rw [List.length_append, List.length_singleton]
  (first | lia | omega)

def rExtend : V → List V → Hp → VK → Prop := fun x vs H Q => ∃ l b xs zs, x = .ref l ∧ vs = [.ref b] ∧ H l = some (.lst xs) ∧ H b = some (.lst zs) ∧ xs.length + zs.length ≤ sizeLine ∧ Q .non (upd H l (.lst (xs ++ zs)))
theorem mt_extend : MtM X "list.extend" rExtend := by
  intro pins s σ H x vs v us Q I rx rv h
  obtain ⟨l, b, xs, zs, rfl, rfl, hH, hB, hz, q⟩ := h
  cases rx
  obtain ⟨u, rfl, ru⟩ := rv.one
  cases ru
  obtain ⟨z, its, n, r, hl, e⟩ := I.lstM hH
  obtain ⟨z2, its2, n2, r2, hl2, e2⟩ := I.lstM hB
  have hsz : its.toArray.size + its2.toArray.size ≤ sizeLine := by rw [List.size_toArray, List.size_toArray]; (first | lia | omega)
  have hlong : ¬ (!its.toArray.isEmpty && Builtin.List.listTooLong (its.toArray.size + its2.toArray.size)) = true := by
    rw [notLongL hsz, Bool.and_false]
    exact Bool.false_ne_true
  refine call_meets F.slot_list_extend ⟨_, e, rfl⟩ F.entry_list_extend (F.args_list_extend_2 _ _)
    (AutoSeq1.list_extend_list_list_0 l its.toArray n b its2.toArray n2 hlong (by rw [List.size_toArray]; (first | lia | omega)) (by (first | lia | omega))) ⟨e, e2, ?_⟩
  refine ⟨.non, _, I.lset (its' := its ++ its2) hH e (by simp) (r.append r2) ?_, rfl, q⟩
  rw [List.length_append]
  (first | lia | omega)

def rPop : V → List V → Hp → VK → Prop := fun x vs H Q => ∃ l xs y, x = .ref l ∧ vs = [] ∧ H l = some (.lst xs) ∧ xs[xs.length - 1]? = some y ∧ Q y (upd H l (.lst xs.dropLast))
theorem mt_pop : MtM X "list.pop" rPop := by
  intro pins s σ H x vs v us Q I rx rv h
  obtain ⟨l, xs, y, rfl, rfl, hH, hy, q⟩ := h
  cases rx
  have hus := rv.zero
  subst hus
  obtain ⟨z, its, n, r, hl, e⟩ := I.lstM hH
  obtain ⟨u, hu, ru⟩ := r.get hy
  have hy' : its.toArray[its.toArray.size - 1]? = some u := by
    show its.toArray[its.length - 1]? = some u
    rw [← Array.getElem?_toList, ← hl]
    exact hu
  refine call_meets F.slot_list_pop ⟨_, e, rfl⟩ F.entry_list_pop (F.args_list_pop_1 _) (MeetsSeq.list_pop_last l its.toArray n u hy' (by rw [List.size_toArray]; (first | lia | omega))) ⟨e, ?_⟩
  refine ⟨y, _, I.lset (its' := its.dropLast) hH e ?_ r.dropLast ?_, ru, q⟩
  · show its.toArray.eraseIdxIfInBounds (its.toArray.size - 1) = its.dropLast.toArray
    rw [List.size_toArray, List.eraseIdxIfInBounds_toArray, erase_last]
  · rw [List.length_dropLast]
    (first | lia | omega)


def rReverse : V → List V → Hp → VK → Prop := fun x vs H Q => ∃ l xs, x = .ref l ∧ vs = [] ∧ H l = some (.lst xs) ∧ Q .non (upd H l (.lst xs.reverse))
theorem mt_reverse : MtM X "list.reverse" rReverse := by
  intro pins s σ H x vs v us Q I rx rv h
  obtain ⟨l, xs, rfl, rfl, hH, q⟩ := h
  cases rx
  have hus := rv.zero
  subst hus
  obtain ⟨z, its, n, r, hl, e⟩ := I.lstM hH
  refine call_meets F.slot_list_reverse ⟨_, e, rfl⟩ F.entry_list_reverse (F.args_list_reverse_1 _) (AutoSeq1.list_reverse_list_0 l its.toArray n (by rw [List.size_toArray]; (first | lia | omega))) ⟨e, ?_⟩
  refine ⟨.non, _, I.lset (its' := its.reverse) hH e (by simp) r.reverse ?_, rfl, q⟩
  rw [List.length_reverse]
  (first | lia | omega)


/-! ### list + list, list += list, list * int -/
def rCat : R2 := fun x y H Q => ∃ l b xs zs, x = .ref l ∧ y = .ref b ∧ H l = some (.lst xs) ∧ H b = some (.lst zs) ∧ xs.length + zs.length ≤ sizeLine ∧ ∀ p, H p = none → Q (.ref p) (upd H p (.lst (xs ++ zs)))
theorem op_cat : OpR X (binaryOp .Add) rCat := by
  intro pins s σ H x y v u Q I rx ry h
  obtain ⟨l, b, xs, zs, rfl, rfl, hH, hB, hz, q⟩ := h
  cases rx
  cases ry
  obtain ⟨z, its, n, r, hl, e⟩ := I.lstM hH
  obtain ⟨z2, its2, n2, r2, hl2, e2⟩ := I.lstM hB
  refine PySem.P.add_list e e2 ?_ (by rw [List.size_toArray, List.size_toArray]; (first | lia | omega))
  have ea : its.toArray ++ its2.toArray = (its ++ its2).toArray := by simp
  rw [ea]
  exact ⟨.ref _, _, I.lnew (t' := s.toks) (r.append r2) (by rw [List.length_append]; (first | lia | omega)), rfl, q _ I.fresh⟩

/-! ### del xs[i] -/
end

/-! ### xs[a:b] = ys -/
section
variable {prog : Program} {w : World} {A : Around} {E : Value → Shared → Prop} {s : Shared}
end

section
variable {X : Cx}
end
end L2

namespace Att
open PySem PySem.W PySem.Calls PyProof.Rows

/-! ### the script -/
theorem ints_of_wellAll {P : Params} {h : Heap} : ∀ (ns : List Int) (vs : List Value), WellAll P h vs (ns.map WData.int) → IntsAre vs ns := by
  intro ns
  induction ns with
  | nil =>
    intro vs w
    rw [List.map_nil] at w
    cases w
    exact .nil
  | cons n ns ih =>
    intro vs w
    rw [List.map_cons] at w
    cases w with
    | cons a b =>
      cases a
      exact .cons _ _ (ih _ b)

theorem script_of {l : OpenLaw} {n : Nat} (hn : l.most = some n) {P : Params} {h : Heap} {args : List WData} {vals : List Value}
    (hpre : l.row.toRowW.claim.pre args = true) (hwl : WellAll P h vals args) :
    ∃ a vs ns, vals = [Value.ref a] ∧ args = [WData.list (ns.map WData.int)] ∧ h.get? a = some { cls := .type "list", data := .seq vs.toArray } ∧ IntsAre vs ns ∧ ns.length ≤ n := by
  have hsh : WShape.hasAll [] args [.list .int] = true := (pre_splitW hpre).1
  have hc : l.pre.holds [] { args := args } = true := (pre_splitW hpre).2
  obtain ⟨d, r, rfl, h1, h2⟩ := hasAllW_cons hsh
  obtain rfl := hasAllW_nil h2
  obtain ⟨xs, rfl, h3⟩ := hasW_list h1
  obtain ⟨ns, rfl⟩ := items_int h3
  have hlen : ns.length ≤ n := by
    unfold OpenLaw.pre at hc
    have h4 : (WTm.not (.lt (.lit (.int (n : Int))) (.len (.arg 0)))).holds [] { args := [.list (ns.map .int)] } = true := by
      have h4 := (holds_andW hc).1
      rw [hn] at h4
      exact h4
    have h5 := condW_of h4 (w_not (w_lt w_lit (w_len_list (w_arg rfl))))
    rw [List.length_map] at h5
    refine Nat.le_of_not_lt fun q => ?_
    have q' : (n : Int) < ((ns.length : Nat) : Int) := by (first | lia | omega)
    first
      | (rw [decide_eq_true q'] at h5; exact absurd h5 (by decide))
      | (simp at h5; (first | lia | omega))
  cases hwl with
  | cons w1 w2 =>
    cases w2
    cases w1 with
    | list ho hall => exact ⟨_, _, ns, rfl, rfl, ho, ints_of_wellAll ns _ hall, hlen⟩

theorem post_true (l : OpenLaw) (args : List WData) : l.row.toRowW.claim.post args (.bool true) args = true :=
  postW_of (r := l.row.toRowW) (X := (true == true))
    (show WShape.has [] (.bool true) .bool = true by first | rfl | decide | simp [WShape.has, WShape.arms, WShape.armsAll])
    (show (WTm.eq .res (.lit (.bool true))).value [] { args := args, res := some (.bool true), after := args } = some (.bool (true == true)) from w_eq_bool (w_res rfl) w_lit) rfl

/-! ### the attachment: holds_open's last premise (the goal 'hc' behind k_head) from a wpAny of the law's body -/

/-- the same from a codeAny of the CALL (for a layer whose function contracts speak of calls) -/
theorem attach_call {l : OpenLaw} {n : Nat} {q : Program} {loose : List Str} {XP : (Str → Option Value) → Heap → Prop} {YP : World → Heap → Prop} {d : DefRec}
    (hn : l.most = some n) (hdf : d.params.defaults = [])
    (call : ∀ (w : World) (s₀ s₁ : Shared) (mg mb : Str → Option Value) (fa : Addr) (o : Obj) (pm cd doc : Value) (a : Addr) (vs : List Value) (ns : List Int),
      Ground q loose [] XP w s₀ mg mb s₁.heap → YP w s₁.heap →
      s₁.heap.get? fa = some o → o.data = .func (docDef d.name d.params d.body d.scope pm cd doc) → s₁.heap.CodeRec cd d.name → mg d.name = some (.ref fa) →
      s₁.heap.get? a = some { cls := .type "list", data := .seq vs.toArray } → IntsAre vs ns → ns.length ≤ n → s₁.gens = #[] →
      codeAny (model l.prog w) callerA (.call (.ref fa) ⟨[.ref a], []⟩) (fun r s' => r = .ok (.ret (.bool true)) ∧ OldK s₁.heap s'.heap ∧ s'.os = s₁.os ∧ AllBare s'.gens) s₁) :
    WalkO q loose XP YP l.row.toRowW d [] (fun f vs => PySem.call f vs) := by
  intro w s₀ s₁ mg mb G Y fa o pm cd doc dV kV ho hd hcd hD hmg hg args vals as hpre hlay hrd hwl hlo
  obtain rfl : dV = .none := Dflts.none hD hdf
  obtain rfl : kV = .none := Dflts.noKw hD
  obtain ⟨a, vs, ns, rfl, rfl, hobj, hints, hlen⟩ := script_of hn hpre hwl
  refine enter_call (codeAny_mono (call w s₀ s₁ mg mb fa o pm cd doc a vs ns G Y ho (fd_plain hd) hcd hmg hobj hints hlen hg) fun r s' hq => ?_)
  obtain ⟨rfl, h2, h3, h4⟩ := hq
  exact ⟨.inl ⟨.bool true, .bool true, [], rfl, fun _ => rfl, .bool true, post_true l _, fun _ => ⟨List.Pairwise.nil, fun _ hm => (nomatch hm)⟩⟩, h2, h3, h4⟩


/-! ### rules over ANY heap (no ledger) from facts about the written part K: the library's own take a ledger (News) for what they write -/
section
variable {prog : Program} {w : World} {A : Around} {E : Value → Shared → Prop} {s : Shared} {K : Frag}





/-! the whole heap as the ledger: makes every rule that writes through a ledger a rule over any heap -/

end
end Att

namespace L2
open PySem PySem.Spec PyProof.Rows

theorem vals_ints : ∀ {vs : List Value} {ns : List Int}, IntsAre vs ns → Vals (ns.map V.int) vs
  | _, _, .nil => .nil
  | _, _, .cons n t h => .cons ⟨t, rfl⟩ (vals_ints h)


end L2

namespace L2
open PySem PySem.Spec PyProof.Rows


end L2

/- THE LAST THEOREM (shape; LID, My.* are yours):
   My.Adr: a structure of the addresses that your layer names (classes, functions); My.Txt K t: a structure (Prop) of the equations over K;
   My.txt_mk : {K} {implicit addresses ..} (e1 : nsIn K mainGlobals "law" = some (some (.ref f))) (e2 : K.lookup f = some ⟨oc, od, .func (fnOf "law" "law" params body scope dV kV doc pm an cdv ct), sl⟩) (e3 : codeIn K cdv "law" = true) .. : ∃ t, My.Txt K t

set_option maxRecDepth 100000 in
set_option maxHeartbeats 0 in
theorem PySem.Challenge.cw_LID_holds : PySem.Challenge.rw_LID.Holds := by
  w_on; o_law; k_head; (case hw => w_witness2)
  k_fill
  refine L2.walk_of (l := PySem.Challenge.rw_LID) (n := 63) (k := 40) (x := "script") (CX := fun w => ..) (sp := fun _ => My.sp_law) rfl (by decide) rfl ⟨rfl, by decide, by decide⟩ (fun w h Y => PySem.W.kIn_of Y) ?F ?S ?C
  case F =>
    intro w mg fa h KX G hmg
    have T : ∃ t, My.Txt (L2.KOf KX) t := by
      dsimp only [L2.KOf]                          -- K must stand as «<heap const> w.params» for k_is
      refine' My.txt_mk ?e1 ?e2 ?e3 ..
      (case e1 => PySem.W.k_is)                    -- in the order: a name -> its address -> its object -> its parts
      (case e2 => PySem.W.k_is)
      ..
    obtain ⟨t, T⟩ := T
    have e0 := hmg.symm.trans (PySem.W.mg_of KX G T.law)
    cases e0                                       -- fa is the law's own address
    exact ⟨_, fun s u => .of_eq rfl, fun base kb nb => My.law_fn T kb nb⟩     -- if «.of_eq rfl» comes too early: refine' ⟨_, ?b, fun base kb nb => My.law_fn T kb nb⟩; exact fun s u => .of_eq rfl
  case S => exact fun w H a ns hl hO hS => ..
  case C => exact ..
(the tactic k_is has no namespace: write k_is) -/

/-! SHORT WORDS over the layer: a def of the text, its body, what a loop and a test want. -/
namespace L2
open PySem PySem.Spec PyProof.Rows

/-! ### the text by places -/
/-- the j-th statement of a class's body -/
def inClass (s : Stmt) (j : Nat) : Stmt := match s with
  | .ClassDef _ _ _ body _ _ _ _ _ _ _ => body.getD j (.Pass ⟨0, 0, 0, 0⟩)
  | _ => .Pass ⟨0, 0, 0, 0⟩
def defArgs (s : Stmt) : Arguments := match s with
  | .FunctionDef _ a _ _ _ _ _ _ _ _ => a
  | _ => { posonlyargs := [], args := [], vararg := none, kwonlyargs := [], kw_defaults := [], kwarg := none, defaults := [] }
def defBody (s : Stmt) : List Stmt := match s with
  | .FunctionDef _ _ b _ _ _ _ _ _ _ => b
  | _ => []
def defScope (s : Stmt) : Scope := match s with
  | .FunctionDef _ _ _ _ _ _ sc _ _ _ => sc
  | _ => { kind := .function, names := [], isGenerator := false, isCoroutine := false }

/-! ### no exception leaves a def -/
abbrev CX0 : CXT := fun _ _ _ _ _ _ => False
abbrev E0 : XK := fun _ _ _ => False
theorem pass0 {X : Cx} : Passes CX0 X E0 := fun _ _ _ _ _ _ _ h => h.elim

/-! ### a def (or method) of the text as it stands behind the top -/
structure Fun (K : PySem.W.Frag) (x qual : Str) (st : Stmt) (f : Addr) (fd : FuncData) : Prop where
  ex : ∃ (oc : Value) (od : Option Addr) (kV doc pm : Value) (an : Option Addr) (cdv ct : Value) (osl : Array (Option Value)),
    fd = PySem.W.fnOf x qual (defArgs st) (defBody st) (defScope st) .none kV doc pm an cdv ct ∧ K.lookup f = some ⟨oc, od, .func fd, osl⟩ ∧ PySem.W.codeIn K cdv qual = true
  kp : PySem.W.keepIn K (.ref f) = true
section
variable {P : Program} {w : World} {K : PySem.W.Frag} {mg : Str → Option Value} {base : Heap}
/-- THE RULE for a def: its body as a term of rules, and the reading of that term -/
theorem Fun.ok {x qual : Str} {st : Stmt} {f : Addr} {fd : FuncData} {N ps : List Str} {k : Nat} {sp : Sp} (F : Fun K x qual st f fd) (S : FnScope N ps (defScope st)) (len : ∀ vs H Q E, sp vs H Q E → vs.length = ps.length)
    (hbody : ∀ (cdv : Value) (A : Around) (outer : List Env) (s : Shared) (H : Hp) (vs : List V) (Q : VK) (E : XK), Room k (A.deeper (envOfC qual (defScope st) s.heap.objs.size f cdv)) → sp vs H Q E →
      ∃ t, PSs (cxOf CX0 P w K mg base N qual (defScope st) f cdv A outer s H E).nox (defBody st) t ∧ t { nx := fun _ H' => Q .non H', rt := Q } (start N vs) H) : FnOk P w K mg base CX0 (k + 1) f fd ps sp := by
  obtain ⟨oc, od, kV, doc, pm, an, cdv, ct, osl, rfl, lk, hcd⟩ := F.ex
  refine fn_of lk hcd S len fun A outer s H vs Q E hr hsp => ?_
  obtain ⟨t, h, q⟩ := hbody cdv A outer s H vs Q E hr hsp
  exact ⟨t, h.nox, q⟩
/-- how its arguments bind (no defaults): h is «fun _ _ _ _ _ _ us hl => match us, hl with | [_, _], _ => rfl», one _ a parameter -/
theorem Fun.binds {x qual : Str} {st : Stmt} {f : Addr} {fd : FuncData} {ps : List Str} (F : Fun K x qual st f fd)
    (h : ∀ (kV doc pm : Value) (an : Option Addr) (cdv ct : Value) (us : List Value), us.length = ps.length → bindArgs (PySem.W.fnOf x qual (defArgs st) (defBody st) (defScope st) .none kV doc pm an cdv ct) ⟨us, []⟩ = pure (ps.zip us)) : Binds K fd ps [] := by
  obtain ⟨oc, od, kV, doc, pm, an, cdv, ct, osl, rfl, lk, hcd⟩ := F.ex
  exact .all (h kV doc pm an cdv ct)
theorem fun_mk {x qual : Str} {st : Stmt} {f : Addr} {oc : Value} {od an : Option Addr} {osl : Array (Option Value)} {kV doc pm cdv ct : Value} (l : K.lookup f = some ⟨oc, od, .func (PySem.W.fnOf x qual (defArgs st) (defBody st) (defScope st) .none kV doc pm an cdv ct), osl⟩)
    (c : PySem.W.codeIn K cdv qual = true) (k : PySem.W.keepIn K (.ref f) = true) : Fun K x qual st f (PySem.W.fnOf x qual (defArgs st) (defBody st) (defScope st) .none kV doc pm an cdv ct) := ⟨⟨oc, od, kV, doc, pm, an, cdv, ct, osl, rfl, l, c⟩, k⟩
end

/-! ### expressions in short: the name that stands in the i-th slot -/
section
variable {X : Cx}
theorem pv (i : Nat) {x : Str} {pos : Pos} (hN : X.N[i]? = some x := by rfl) (hv : Vis X.env.scope x := by first | exact Or.inl rfl | exact Or.inr (Or.inl rfl) | exact Or.inr (Or.inr rfl)) (hd : (x == ("__debug__" : Str)) = false := by decide)
    (hcd : (x == ("__classdict__" : Str)) = false := by decide) : PE X (.Name x pos) (tVar i) := pe_var hN hv hd hcd
end

/-! ### tests -/
theorem iteF {A B : Prop} (h : B) : if false = true then A else B := by
  rw [if_neg Bool.false_ne_true]
  exact h
theorem iteT {A B : Prop} (h : A) : if true = true then A else B := by
  rw [if_pos rfl]
  exact h
theorem ite2 {c A B : Prop} [Decidable c] (h1 : c → A) (h2 : ¬ c → B) : if c then A else B := by
  by_cases h : c
  · rw [if_pos h]
    exact h1 h
  · rw [if_neg h]
    exact h2 h
theorem iteNS {c A B : Prop} [Decidable c] (hc : c) (h : B) : if (!decide c) = true then A else B := by
  rw [decide_eq_true hc]
  exact iteF h

/-! ### heaps -/
/-- all that was tracked is as it was -/
def Same (H H' : Hp) : Prop := ∀ b o, H b = some o → H' b = some o
theorem Same.trans {H H1 H2 : Hp} (a : Same H H1) (b : Same H1 H2) : Same H H2 := fun c o h => b c o (a c o h)
theorem Same.free {H H' : Hp} (e : Same H H') {l : Addr} (h : H' l = Option.none) : H l = Option.none := by
  cases q : H l with
  | none => rfl
  | some o =>
    rw [e l o q] at h
    cases h
theorem Same.seq {K : PySem.W.Frag} {H H' : Hp} {a : Addr} {xs : List V} (e : Same H H') (h : SqL K H a xs) : SqL K H' a xs := by
  rcases h with (h | ⟨o, h⟩) | h
  · exact .inl (.inl (e _ _ h))
  · exact .inl (.inr ⟨o, e _ _ h⟩)
  · exact .inr h

end L2

set_option Elab.async false
set_option linter.all false
set_option maxRecDepth 100000
set_option maxHeartbeats 4000000
/-! EXCEPTIONS over the layer: an own error class raised, passed on by defs, taken by a try. -/
namespace L2
open PySem PySem.Spec PyProof.Rows


/-- an exception at ea, of the own class at C, in flight: B, what stands apart from the frames and stays -/
structure Fly (P : Program) (w : World) (outer : List Env) (H : Hp) (s : Shared) (ea C t : Addr) (B : Heap) (H' : Hp) (s' : Shared) : Prop where
  os : s'.os = s.os
  bare : AllBare s'.gens
  fly : Heap.FlyingW B outer ea (.ref C) (.ref t) s'.heap
  hok : HOk P w H' B
  old : ∀ b o, s.heap.get? b = some o → H b = none → b ∉ frs outer → B.get? b = some o
  there : ∀ b o, s.heap.get? b = some o → b ∉ frs outer → ∃ o', B.get? b = some o'
  free : ∀ b o, s.heap.get? b = some o → H b = none → H' b = none
  slot : ∀ b ∈ frs outer, ∀ o, s.heap.get? b = some o → ∃ sl, s'.heap.get? b = some { o with slots := sl }
  tups : ∀ b xs, H b = some (.tup xs) → H' b = some (.tup xs)
  frzs : ∀ b o u, H b = some (.frz o u) → H' b = some (.frz o u)
  tbls : ∀ b ps, H b = some (.tbl ps) → ∃ more, H' b = some (.tbl (ps ++ more))
def CXF (P : Program) (w : World) : CXT := fun outer H s E e s' => ∃ (ea C t : Addr) (B : Heap) (H' : Hp), e = .ref ea ∧ Fly P w outer H s ea C t B H' s' ∧ E (.ref C) none H'
/-- an exception just made -/
def PassesM (X : Cx) (E : XK) : Prop := ∀ (pins : List (Addr × Obj)) (σ : St) (H : Hp) (s : Shared) (h' : Heap) (ea C : Addr) (vs : List Value), Inv X pins σ H s → Heap.MadeExcOf s.heap h' ea (.ref C) vs → E (.ref C) none H →
  X.xe (.ref ea) { s with heap := h' }

theorem mem_frs_cons {env : Env} {outer : List Env} {L b : Addr} (hf : env.frame = some L) (hb : b ∈ frs (env :: outer)) : b = L ∨ b ∈ frs outer := by
  unfold frs at hb
  rw [List.filterMap_cons, hf] at hb
  exact List.mem_cons.mp hb
theorem mem_frs_tail {env : Env} {outer : List Env} {b : Addr} (hb : b ∈ frs outer) : b ∈ frs (env :: outer) := by
  unfold frs at hb ⊢
  rw [List.filterMap_cons]
  split
  · exact hb
  · exact List.mem_cons_of_mem _ hb

section
variable {P : Program} {w : World} {K : PySem.W.Frag} {mg : Str → Option Value} {base : Heap} {N : List Str} {qual : Str} {scope : Scope} {f : Addr} {cd : Value} {A : Around} {outer : List Env} {s : Shared} {H : Hp} {E : XK} {CX : CXT}

/-- a def hands a callee's exception on -/
theorem pass_def : Passes (CXF P w) (cxOf (CXF P w) P w K mg base N qual scope f cd A outer s H E) E := by
  intro pins σ H1 s1 e s' I hq
  obtain ⟨ea, C, t, B, H', rfl, F, hE⟩ := hq
  have F : Fly P w (envOfC qual scope s.heap.objs.size f cd :: outer) H1 s1 ea C t B H' s' := F
  have noex : ∀ b : Addr, b ∉ (cxOf (CXF P w) P w K mg base N qual scope f cd A outer s H E).ex := fun b z => nomatch z
  have hne : ∀ b o, s.heap.get? b = some o → b ∉ frs outer → b ∉ frs (envOfC qual scope s.heap.objs.size f cd :: outer) := fun b o e nb hb => by
    rcases mem_frs_cons (L := s.heap.objs.size) rfl hb with z | z
    · exact absurd (Heap.lt_size e) (by rw [z]; exact Nat.lt_irrefl _)
    · exact nb z
  show wpAny (model P w) (A.deeper (envOfC qual scope s.heap.objs.size f cd)) (leaving (envOfC qual scope s.heap.objs.size f cd) (.ref ea)) (fun _ s'' => CXF P w outer H s E (.ref ea) s'') (fun e' s'' => CXF P w outer H s E e' s'') s'
  refine wpAny_leaves_onW (outer := outer) (L := s.heap.objs.size) I.ok.frames rfl F.fly fun h' x1 x2 => ⟨ea, C, t, B, H', rfl, ⟨?_, F.bare, x1, F.hok, fun b o e n nb => ?_, fun b o e nb => ?_, fun b o e n => ?_, fun b hb o e => ?_, fun b xs e => ?_, fun b o u e => ?_, fun b ps e => ?_⟩, hE⟩
  · exact F.os.trans I.os
  · exact F.old b o (I.base.keep b o e n nb (noex b)) (I.base.free b o e n (noex b)) (hne b o e nb)
  · obtain ⟨o1, e1⟩ := I.base.there b o e (noex b)
    exact F.there b o1 e1 (hne b o e nb)
  · obtain ⟨o1, e1⟩ := I.base.there b o e (noex b)
    exact F.free b o1 e1 (I.base.free b o e n (noex b))
  · obtain ⟨sl, e1⟩ := I.base.slot b o e (I.ok.frf b hb) hb (noex b)
    obtain ⟨sl2, e2⟩ := F.slot b (mem_frs_tail hb) _ e1
    obtain ⟨_, o', eo, nf⟩ := I.ok.funs.mem hb
    have eo : s.heap.get? b = some o' := eo
    rw [e] at eo; cases eo
    obtain ⟨sl3, e3⟩ := x2 b _ e2 nf
    exact ⟨sl3, e3⟩
  · exact F.tups b xs (I.base.tups b xs e)
  · exact F.frzs b o u (I.base.frzs b o u e)
  · obtain ⟨m1, e1⟩ := I.base.tbls b ps e
    obtain ⟨m2, e2⟩ := F.tbls b _ e1
    exact ⟨m1 ++ m2, by rw [e2, Array.append_assoc]⟩

/-- a def's own raise -/
theorem passM_def : PassesM (cxOf (CXF P w) P w K mg base N qual scope f cd A outer s H E) E := by
  intro pins σ H1 s1 h' ea C vs I hx hE
  have noex : ∀ b : Addr, b ∉ (cxOf (CXF P w) P w K mg base N qual scope f cd A outer s H E).ex := fun b z => nomatch z
  have hne : ∀ b o, s.heap.get? b = some o → b ∉ frs outer → b ∉ frs (envOfC qual scope s.heap.objs.size f cd :: outer) := fun b o e nb hb => by
    rcases mem_frs_cons (L := s.heap.objs.size) rfl hb with z | z
    · exact absurd (Heap.lt_size e) (by rw [z]; exact Nat.lt_irrefl _)
    · exact nb z
  have stk := I.stack
  have stk : s1.heap.FunFrames base (envOfC qual scope s.heap.objs.size f cd :: outer) := stk
  have sfr : ∀ b ∈ frs (envOfC qual scope s.heap.objs.size f cd :: outer), H1 b = none := I.stkFree
  have hin : ∀ env ∈ (envOfC qual scope s.heap.objs.size f cd :: outer), ∀ a, env.frame = some a → a ∈ frs (envOfC qual scope s.heap.objs.size f cd :: outer) := fun env he a ha => List.mem_filterMap.mpr ⟨env, he, ha⟩
  show wpAny (model P w) (A.deeper (envOfC qual scope s.heap.objs.size f cd)) (leaving (envOfC qual scope s.heap.objs.size f cd) (.ref ea)) (fun _ s'' => CXF P w outer H s E (.ref ea) s'') (fun e' s'' => CXF P w outer H s E e' s'') { s1 with heap := h' }
  refine wpAny_leaves_madeW (base := PySem.W.hideAll s1.heap (frs (envOfC qual scope s.heap.objs.size f cd :: outer))) (h := s1.heap) (outer := outer) (L := s.heap.objs.size) I.ok.frames rfl (fun b o q => PySem.W.of_hideAll _ q)
    (PySem.W.funFrames_hide stk hin) hx fun h2 t x1 x2 x3 x4 => ⟨ea, C, t, _, H1, rfl, ⟨I.os, I.bare, x1, fun a o e => ?_, fun b o e n nb => ?_, fun b o e nb => ?_, fun b o e n => ?_, fun b hb o e => ?_, I.base.tups, I.base.frzs, I.base.tbls⟩, hE⟩
  · refine (I.hok a o e).stay (fun b u hb q => PySem.W.hideAll_get _ q fun hm => ?_) (fun _ q => q) fun _ _ q => q
    have z := sfr b hm
    rcases hb with rfl | hb
    · rw [z] at e; cases e
    · rw [z] at hb; cases hb
  · exact PySem.W.hideAll_get _ (I.base.keep b o e n nb (noex b)) (hne b o e nb)
  · obtain ⟨o1, e1⟩ := I.base.there b o e (noex b)
    exact ⟨o1, PySem.W.hideAll_get _ e1 (hne b o e nb)⟩
  · exact I.base.free b o e n (noex b)
  · obtain ⟨sl, e1⟩ := I.base.slot b o e (I.ok.frf b hb) hb (noex b)
    have e2 := hx.keeps b _ e1
    obtain ⟨_, o', eo, nf⟩ := I.ok.funs.mem hb
    have eo : s.heap.get? b = some o' := eo
    rw [e] at eo; cases eo
    obtain ⟨sl3, e3⟩ := x4 b _ e2 nf
    exact ⟨sl3, e3⟩
theorem own_def : PassesOwn (model P w) (cxOf CX P w K mg base N qual scope f cd A outer s H E).A (cxOf CX P w K mg base N qual scope f cd A outer s H E).env (cxOf CX P w K mg base N qual scope f cd A outer s H E).xe := PassesOwn.leaving (Q₁ := fun e s'' => CX outer H s E e s'')
/-- a promise that raises nothing, as one that may -/
theorem FnOk.cxf {k : Nat} {f : Addr} {fd : FuncData} {ps : List Str} {sp : Sp} (F : FnOk P w K mg base CX0 k f fd ps sp) : FnOk P w K mg base (CXF P w) k f fd ps sp :=
  ⟨F.len, fun A outer s H args us vs Q E hr he hb hv hs => codeAny_mono (F.run A outer s H args us vs Q E hr he hb hv hs) fun r s' h => by
    cases r with
    | error e => exact False.elim h
    | ok fl => cases fl with
      | ret u => exact h
      | next => exact h
      | brk => exact h
      | cont => exact h⟩
/-- THE RULE for a def that may raise -/
theorem Fun.okX {x qual : Str} {st : Stmt} {f : Addr} {fd : FuncData} {N ps : List Str} {k : Nat} {sp : Sp} (F : Fun K x qual st f fd) (S : FnScope N ps (defScope st)) (len : ∀ vs H Q E, sp vs H Q E → vs.length = ps.length)
    (hbody : ∀ (cdv : Value) (A : Around) (outer : List Env) (s : Shared) (H : Hp) (vs : List V) (Q : VK) (E : XK), Room k (A.deeper (envOfC qual (defScope st) s.heap.objs.size f cdv)) → sp vs H Q E →
      ∃ t, PSs (cxOf (CXF P w) P w K mg base N qual (defScope st) f cdv A outer s H E) (defBody st) t ∧ t { nx := fun _ H' => Q .non H', rt := Q } (start N vs) H) : FnOk P w K mg base (CXF P w) (k + 1) f fd ps sp := by
  obtain ⟨oc, od, kV, doc, pm, an, cdv, ct, osl, rfl, lk, hcd⟩ := F.ex
  exact fn_of lk hcd S len fun A outer s H vs Q E hr hsp => hbody cdv A outer s H vs Q E hr hsp
end

/-! ### an own error class, as the fragment has it -/
/-- the dict at N has text keys alone, none of them x -/
def noKey (K : PySem.W.Frag) (N : Addr) (x : Str) : Bool := match K.lookup N with
  | some ⟨_, _, .dict es _, _⟩ => es.toList.all fun e => match e.key with | .str y _ => !(y == x) | _ => false
  | _ => false
theorem noKey_ns {K : PySem.W.Frag} {h : Heap} {N : Addr} {x : Str} (X : K.In h) (e : noKey K N x = true) : ∃ m, h.Ns N m ∧ m x = none := by
  unfold noKey at e
  split at e
  · rename_i oc od es ep sl ho
    have hk : StrKeys es := fun y hy => by
      have q := List.all_eq_true.mp e y (Array.mem_toList_iff.mpr hy)
      cases k : y.key with
      | str z t => exact ⟨z, t, rfl⟩
      | _ => rw [k] at q; cases q
    refine ⟨nsFind es, ⟨_, es, ep, X _ _ ho, rfl, hk, fun _ => rfl⟩, ?_⟩
    unfold nsFind findBy
    rw [← Array.find?_toList]
    have : es.toList.find? (fun e => e.key.isStr x) = none := by
      rw [List.find?_eq_none]
      intro y hy
      have q := List.all_eq_true.mp e y hy
      obtain ⟨z, t, k⟩ := hk y (Array.mem_toList_iff.mp hy)
      rw [k] at q ⊢
      intro hz
      have hz' : (z == x) = true := by simpa [Value.isStr] using hz
      simp [hz'] at q
    rw [this]
    rfl
  · cases e
structure XCls (K : PySem.W.Frag) (C : Addr) (tl : List Value) (newId : String) : Prop where
  obj : ∃ (N : Addr) (nm q : Str) (bs : List Value) (hdct : Bool) (sn : List Str) (sub : List Value) (ab : Bool) (col : Option Bool) (dd : Option Addr) (k0 k1 k2 k3 k5 : Option Value),
    K.lookup C = some (excClassObj nm q C N bs tl hdct sn sub ab col dd k0 k1 k2 k3 k5 newId) ∧ noKey K N "__init__" = true
abbrev mroVE : List Value := [.type "ValueError", .type "Exception", .type "BaseException", .type "object"]
/-- the classes above: own ones, then ValueError's -/
inductive XTail (K : PySem.W.Frag) : List Value → Prop where
  | base : XTail K mroVE
  | own {C : Addr} {tl : List Value} {n : String} : XCls K C tl n → XTail K tl → XTail K (.ref C :: tl)
theorem XTail.tail {K : PySem.W.Frag} {h : Heap} {tl : List Value} (X : K.In h) (T : XTail K tl) : OwnTail h mroVE tl := by
  induction T with
  | base => exact .base
  | own c _ ih =>
    obtain ⟨N, nm, q, bs, hdct, sn, sub, ab, col, dd, k0, k1, k2, k3, k5, lk, nk⟩ := c.obj
    obtain ⟨m, hn, hm⟩ := noKey_ns X nk
    exact .own (X _ _ lk) hn hm ih

/-! ### raise C(e) -/
section
variable {X : Cx} {x : Str} {C : Addr} {tl : List Value} {np cpos pos : Pos} {e0 : Expr} {ta : TA} {E : XK} {newId Bn inN : String} {bmN : List Value}
def tRaise (C : Addr) (E : XK) (ta : TA) : TS := fun _ σ H => ta σ H fun vs H1 => vs.length ≤ sizeLine ∧ E (.ref C) none H1
theorem ps_raise (Fn : ExcBaseFacts Bn newId inN bmN) (hBn : mroVE.contains (.type Bn) = true) (hp : PassesM X E) (hc : X.calm = true) (xc : XCls X.K C tl newId) (T : XTail X.K tl) (hg : Gl X x) (hm : X.mg x = some (.ref C)) (ha : PA X [e0] ta)
    (hs : starEach [e0] X.env = [(false, eval e0 X.env)] := by rfl) (hd : (x == ("__debug__" : Str)) = false := by decide) :
    PS X (.Raise (some (.Call (.Name x np) [e0] [] cpos)) none pos) (tRaise C E ta) := by
  intro pins s σ H D I h
  obtain ⟨N, nm, q, bs, hdct, sn, sub, ab, col, dd, k0, k1, k2, k3, k5, lk, nk⟩ := xc.obj
  obtain ⟨m, hn, hm0⟩ := noKey_ns (h := X.base) I.ok.mod.kin nk
  have hni : m "__init__" = none := hm0
  have Tb : OwnTail X.base mroVE tl := T.tail I.ok.mod.kin
  refine wpAny_Raise_call_subU (C := C) (nm := nm) (q := q) (N := N) (bs := bs) (bm := tl) (hdct := hdct) (sn := sn) (sub := sub) (ab := ab) (col := col) (dd := dd) (k0 := k0) (k1 := k1) (k2 := k2) (k3 := k3) (k5 := k5)
    Fn hBn PySem.F.excBase_ValueError (mN := m) (Tb.hasType PySem.F.excBase_ValueError.hasBase) (I.ok.hd hc) (by rw [hs]; rfl) hni (ld_glob I hg hm ⟨rfl, ?_⟩ hd)
  have h2 := ha cpos pins s σ H _ I h
  rw [hs] at h2 ⊢
  exact Calls.evalArgs_plain (thn h2 fun us s2 ⟨vs, H2, I2, r, hl, q2⟩ => ⟨rfl, by rw [← r.length]; exact hl, I2.kIn _ _ lk, hn.keeps I2.bk, Tb.keeps I2.bk, fun h' e hx => hp pins σ H2 s2 h' e C us I2 hx q2⟩)
end

/-! ### f-strings: some text -/
section
variable {X : Cx} {e : Expr} {es : List Expr} {te : TE} {pos : Pos}
/-- the parts from the left, the length so far at most n -/
def PJ (X : Cx) (es : List Expr) (n m : Nat) (t : St → Hp → (Hp → Prop) → Prop) : Prop :=
  ∀ (pins : List (Addr × Obj)) (s : Shared) (σ : St) (H : Hp) (acc : Str) (Q : Hp → Prop), Inv X pins σ H s → acc.length ≤ n → t σ H Q →
    Joins (model X.prog X.w) X.A X.xe (evalEach es X.env) acc (fun out s1 => out.length ≤ m ∧ ∃ H1, Inv X pins σ H1 s1 ∧ Q H1) s
theorem pj_nil {n : Nat} : PJ X [] n n (fun _ H Q => Q H) := fun _ _ _ H _ _ I h q => ⟨h, H, I, q⟩
theorem pj_str {x : Str} {j : Nat} {n k m : Nat} {t : St → Hp → (Hp → Prop) → Prop} (hx : x.length ≤ k) (hr : PJ X es (n + k) m t) (hm : n + k ≤ sizeLine) (he : evalEach (.Constant (.str x) j pos :: es) X.env = eval (.Constant (.str x) j pos) X.env :: evalEach es X.env := by rfl) :
    PJ X (.Constant (.str x) j pos :: es) n m t := by
  intro pins s σ H acc Q I ha h
  rw [he]
  refine Calls.Constant_str ?_
  have hl : (acc ++ x).length ≤ n + k := by rw [strLen_append]; (first | lia | omega)
  exact ⟨x, _, rfl, Nat.le_trans hl hm, hr pins _ σ H _ Q (I.tok _) hl h⟩
theorem pj_int {n m : Nat} {p2 : Pos} {t : St → Hp → (Hp → Prop) → Prop} (he : PE X e te) (hr : PJ X es (n + 2000) m t) (hm : n + 2000 ≤ sizeLine)
    (hE : evalEach (.FormattedValue e (-1) none p2 :: es) X.env = eval (.FormattedValue e (-1) none p2) X.env :: evalEach es X.env := by rfl) :
    PJ X (.FormattedValue e (-1) none p2 :: es) n m (fun σ H Q => te σ H fun v H1 => ∃ i : Int, v = .int i ∧ i.natAbs.log2 < 1920 ∧ t σ H1 Q) := by
  intro pins s σ H acc Q I ha h
  rw [hE]
  refine wpAny_FormattedValue_plain (thn (he pins s σ H _ I h) fun u s1 hPz => ?_); obtain ⟨v, H1, I1, r1, i, e1, hi, q1⟩ := hPz
  subst e1
  obtain ⟨tk, rfl⟩ := r1
  refine wpAny_formatField_int hi ?_
  have hl : (acc ++ Str.ofString (toString i)).length ≤ n + 2000 := by
    have := int_text_length_le (k := 1920) (by decide) hi
    rw [strLen_append, PySem.ofString_length]; (first | lia | omega)
  exact ⟨_, _, rfl, Nat.le_trans hl hm, hr pins _ σ H1 _ Q (I1.tok _) hl q1⟩
theorem pe_fstr {v1 v2 : Expr} {rest : List Expr} {m : Nat} {t : St → Hp → (Hp → Prop) → Prop} (h : PJ X (v1 :: v2 :: rest) 0 m t) (hm : m ≤ sizeLine) : PE X (.JoinedStr (v1 :: v2 :: rest) pos) (fun σ H Q => t σ H fun H1 => ∀ out, Q (.str out) H1) := by
  intro pins s σ H Q I hq
  refine wpAny_JoinedStr ?_
  have h2 := h pins s σ H Str.empty _ I (Nat.zero_le _) hq
  have mono : ∀ (parts : List (Sem Value)) (acc : Str) (s : Shared) (Q1 Q2 : Str → Shared → Prop), (∀ o s, Q1 o s → Q2 o s) → Joins (model X.prog X.w) X.A X.xe parts acc Q1 s → Joins (model X.prog X.w) X.A X.xe parts acc Q2 s := by
    intro parts
    induction parts with
    | nil => intro acc s Q1 Q2 hq h; exact hq _ _ h
    | cons p r ih => intro acc s Q1 Q2 hq h; exact thn h fun v s1 ⟨y, t, e, l, j⟩ => ⟨y, t, e, l, ih _ _ _ _ hq j⟩
  refine mono _ _ _ _ _ (fun out s1 ⟨hl, H1, I1, q⟩ => ⟨Nat.le_trans hl hm, .str out, H1, I1.tok _, ⟨_, rfl⟩, q out⟩) h2
end
end L2

set_option Elab.async false
set_option linter.all false
set_option maxRecDepth 100000
set_option maxHeartbeats 4000000
/-! TRY over the layer; isinstance. -/
namespace L2
open PySem PySem.Spec PyProof.Rows

section
variable {X : Cx} {CX : CXT} {k : Nat} {f C : Addr} {fd : FuncData} {ps : List Str} {sp : Sp} {dvs : List V} {ds : List Value} {E : St → XK} {x m : Str} {p pos apos : Pos} {e o : Expr} {es : List Expr} {ta : TE} {t : TA}
end

section
variable {X : Cx} {CX : CXT} {k : Nat} {f C : Addr} {fd : FuncData} {ps : List Str} {sp : Sp} {dvs : List V} {ds : List Value} {E : St → XK} {x m : Str} {p pos apos : Pos} {e o : Expr} {es : List Expr} {ta : TE} {t : TA}
end

/-! ### the state where an exception has landed -/
section
variable {X : Cx} {pins : List (Addr × Obj)} {σ : St} {H H' : Hp} {s s' : Shared} {ea C t : Addr} {B h6 : Heap}
/-- what an exception's object is known by -/
def excAt (ea C : Addr) : Heap → Prop := fun h => ∃ o, h.get? ea = some o ∧ o.cls = .ref C
end

/-! ### e is taken by a class above its own -/
theorem looks_isType {K : PySem.W.Frag} {M : Model} {h : Heap} {W : Addr} (X : K.In h) (c : (PySem.W.clsIn K W).isSome = true) : PySem.W.Looks M h (isType (.ref W)) true := by
  unfold PySem.W.clsIn at c
  split at c
  · rename_i c' d' cd' sl' ho
    intro A' Q' E' s' k q
    unfold isType loadHead
    exact wpAny_bind (wpAny_loadPart (k _ _ (X _ _ ho)) (wpAny_pure q))
  · cases c
theorem looks_excType {M : Model} {h : Heap} {e C : Addr} (x : excAt e C h) : PySem.W.Looks M h (typeOf (.ref e)) (.ref C) := by
  obtain ⟨o, h1, h2⟩ := x
  exact h2 ▸ (PySem.W.Looks.ld h1).andThen .now

/-! ### try .. except W as n .. -/
section
variable {X : Cx} {body : List Stmt} {b0 : Stmt} {suite : List Stmt} {x n : Str} {np hpos pos : Pos} {W : Addr} {i : Nat} {tb : (St → XK) → TS} {ts : TS}
section
variable {pins pn : List (Addr × Obj)} {σ : St} {H : Hp} {s : Shared} {xe : Value → Shared → Prop} {h : Option Value} {A : Around}
end
end

/-! ### isinstance of an exception -/
/-- what the fragment must say of an own error class, to be asked of -/
structure ECls (K : PySem.W.Frag) (C : Addr) : Prop where
  ga : PySem.W.findIn K (.ref C) "__getattribute__" = some (some (.builtin "BaseException.__getattribute__"))
  gt : PySem.W.findIn K (.ref C) "__getattr__" = some none
  cls : PySem.W.findIn K (.ref C) "__class__" = some (some (.builtin "object.__class__"))
  sb : PySem.W.subIn K (.ref C) (.type "BaseException") = some true
  so : PySem.W.subIn K (.ref C) (.type "object") = some true
  cl : (PySem.W.clsIn K C).isSome = true
section
variable {K : PySem.W.Frag} {e C : Addr} {prog : Program} {w : World} {A : Around} {E : Value → Shared → Prop} {h : Heap} {g : Array GenState} {d : Drawn} {t : Nat} {os : OsState}
theorem exc_class_get {R : Result → Shared → Prop} (X : K.In h) (hc : ECls K C) (hx : excAt e C h) (hq : R (.ok (.ret (.ref C))) ⟨h, g, d, t, os⟩) :
    codeAny (model prog w) A (.call (.builtin "getset_descriptor.__get__") ⟨[.builtin "object.__class__", .ref e, .ref C], []⟩) R ⟨h, g, d, t, os⟩ := by
  have L0 := looks_excType (M := model prog w) hx
  have L1 := PySem.W.looks_subIn (M := model prog w) X hc.so
  refine codeAny_call_builtin PySem.W.KF.slot_gs.plain PySem.W.KF.entry_gs (PySem.W.KF.slot_gs.check _ _ _ _ _ _ _ _ PySem.W.KF.type_class (PySem.W.KF.args_gs _ _ _) ?_)
  unfold Builtin.«getset_descriptor.__get__» Builtin.Getset_descriptor.descrGet
  rw [PySem.W.dga_obj]
  refine wpAny_bind (wpAny_pure ?_)
  unfold Builtin.Getset_descriptor.descrGetter Builtin.Getset_descriptor.descrCheckInstance Builtin.Getset_descriptor.descrNameAndClass isInstance
  simp only [PySem.W.KF.owner_class]
  repeat lk
  refine ⟨Code.quiet_builtin _ (by decide +kernel), codeAny_builtin PySem.W.KF.entry_class ?_⟩
  unfold Builtin.«object.__class__» shownTypeOf
  repeat lk
  exact hq
theorem exc_class_entry {tk : Tok} {Q : Fin → Shared → Prop} (X : K.In h) (hc : ECls K C) (hx : excAt e C h) (hq : Q (.done (.ret (.ref C))) ⟨h, g, d, t, os⟩) :
    wpAny (model prog w) A (Builtin.«object.__getattribute__» ⟨[.ref e, .str "__class__" tk], []⟩) Q E ⟨h, g, d, t, os⟩ := by
  obtain ⟨o, ho, hcl⟩ := id hx
  have hT5 : (⟨h, g, d, t, os⟩ : Shared).TypeIs (.builtin "object.__class__") "getset_descriptor" := F.typeOf_object_class
  have f5 := F.typeOf_object_class
  have f6 := F.slot_gs_get.lookup
  have f7 := F.slot_gs_set.lookup
  have lk1 : ∀ {A : Around} {E : Value → Shared → Prop} {Q : Option Value → Shared → Prop} {g d t os}, Q (some (.builtin "object.__class__")) ⟨h, g, d, t, os⟩ → wpAny (model prog w) A (typeLookup (.ref C) "__class__") Q E ⟨h, g, d, t, os⟩ := fun q => (PySem.W.looks_findIn X hc.cls).at q
  repeat (any_goals (first | assumption | (with_reducible refine wpAny_loadPart_at ho ?_; rw [hcl]) | with_reducible refine lk1 ?_ | wp_step))
  refine exc_class_get X hc hx ?_
  repeat (any_goals (first | assumption | wp_step))
theorem exc_check_ga {M : Model} {nameV : Value} {Q : Unit → Shared → Prop} (X : K.In h) (hc : ECls K C) (hx : excAt e C h) (hq : Q () ⟨h, g, d, t, os⟩) : wpAny M A (checkBuiltinCall "BaseException.__getattribute__" ⟨[.ref e, nameV], []⟩) Q E ⟨h, g, d, t, os⟩ := by
  have hk : builtinKind "BaseException.__getattribute__" = some .slot := by decide +kernel
  have hsplit : splitId "BaseException.__getattribute__" = some ("BaseException", "__getattribute__") := by decide +kernel
  have L : PySem.W.Looks M h (isInstance (.ref e) (.type "BaseException")) true := (looks_excType hx).andThen (PySem.W.looks_subIn X hc.sb)
  have ha := F.args_bexc_ga (.ref e) nameV
  exact PySem.W.check_slot (s := ⟨h, g, d, t, os⟩) (i := "BaseException.__getattribute__") (rest := [nameV]) (kw := []) hk hsplit L ha hq
theorem exc_class_call {tk : Tok} {R : Result → Shared → Prop} (X : K.In h) (hc : ECls K C) (hx : excAt e C h) (hq : R (.ok (.ret (.ref C))) ⟨h, g, d, t, os⟩) :
    codeAny (model prog w) A (.call (.builtin "BaseException.__getattribute__") ⟨[.ref e, .str "__class__" tk], []⟩) R ⟨h, g, d, t, os⟩ :=
  codeAny_call_builtin F.excAttr_ValueError.ga.plain F.entry_bexc_ga (exc_check_ga X hc hx (exc_class_entry X hc hx hq))
theorem exc_class_by {tk : Tok} {Q : Value → Shared → Prop} (X : K.In h) (hc : ECls K C) (hx : excAt e C h) (hq : Q (.ref C) ⟨h, g, d, t, os⟩) : wpAny (model prog w) A (getAttrBy (.ref e) (.str "__class__" tk) false) Q E ⟨h, g, d, t, os⟩ := by
  obtain ⟨o, ho, hcl⟩ := id hx
  have f3 := F.excAttr_ValueError.ga.bind (.ref e)
  have hx2 : (Value.builtin "BaseException.__getattribute__" == Value.builtin "object.__getattribute__") = false := by decide +kernel
  have hx1 : (onTheHeap (Value.ref C) && Value.builtin "BaseException.__getattribute__" == Value.builtin "object.__getattribute__") = false := by rw [hx2]; rfl
  have lk1 : ∀ {A : Around} {E : Value → Shared → Prop} {Q : Option Value → Shared → Prop} {g d t os}, Q (some (.builtin "BaseException.__getattribute__")) ⟨h, g, d, t, os⟩ → wpAny (model prog w) A (typeLookup (.ref C) "__getattribute__") Q E ⟨h, g, d, t, os⟩ := fun q => (PySem.W.looks_findIn X hc.ga).at q
  have lk2 : ∀ {A : Around} {E : Value → Shared → Prop} {Q : Option Value → Shared → Prop} {g d t os}, Q none ⟨h, g, d, t, os⟩ → wpAny (model prog w) A (typeLookup (.ref C) "__getattr__") Q E ⟨h, g, d, t, os⟩ := fun q => (PySem.W.looks_findIn X hc.gt).at q
  repeat (any_goals (first | assumption | (with_reducible refine wpAny_loadPart_at ho ?_; rw [hcl]) | with_reducible refine lk1 ?_ | with_reducible refine lk2 ?_ | wp_step))
  refine exc_class_call X hc hx ?_
  repeat (any_goals (first | assumption | wp_step))
theorem exc_class_attr {Q : Option Value → Shared → Prop} (X : K.In h) (hc : ECls K C) (hx : excAt e C h) (hq : Q (some (.ref C)) ⟨h, g, d, t + 1, os⟩) : wpAny (model prog w) A (getAttr? (.ref e) "__class__") Q E ⟨h, g, d, t, os⟩ := by
  unfold getAttr? getAttrBy?
  repeat (any_goals (first | assumption | with_reducible apply exc_class_by X hc hx | wp_step))
end
theorem kitx_exc {K : PySem.W.Frag} {e C : Addr} (hc : ECls K C) : PySem.W.KitX K (.ref e) (.ref C) (excAt e C) where
  ty := fun _ _ _ p => looks_excType p
  it := fun _ _ X _ => looks_isType X hc.cl
  ne := fun h tp dd its n sl X htp => by
    have z0 := hc.cl
    refine Bool.eq_false_iff.mpr fun q => ?_
    have e : C = tp := Value.ref.inj (beq_iff_eq.mp q)
    subst e
    unfold PySem.W.clsIn at z0
    split at z0
    · rename_i c' d' cd' sl' ho
      have z := (X _ _ ho).symm.trans htp
      cases z
    · cases z0
  ca := fun {prog w A E Q s} X p k => by
    obtain ⟨hh, g, d, t, os⟩ := s
    exact exc_class_attr X hc p k
end L2

set_option Elab.async false
set_option linter.all false
set_option maxRecDepth 100000
set_option maxHeartbeats 4000000
/-! LIST COMPREHENSIONS over the layer. -/
namespace L2
open PySem PySem.Spec PyProof.Rows

/-! ### the cells that a block closes over -/
def closOf (cells : List (Str × Addr)) : List (Str × NameKind) → List (Str × Addr) → List (Str × Addr)
  | [], acc => acc
  | (n, k) :: r, acc => closOf cells r (if k == .free then (n, (cells.lookup n).getD 0) :: acc else acc)
theorem closureFor_eq {scope : Scope} {env : Env} (h : ∀ p ∈ scope.names, p.2 = .free → ∃ c, env.cells.lookup p.1 = some c) : closureFor scope env = pure (closOf env.cells scope.names []) := by
  unfold closureFor
  have gen : ∀ (l : List (Str × NameKind)) (acc : List (Str × Addr)), (∀ p ∈ l, p.2 = .free → ∃ c, env.cells.lookup p.1 = some c) →
      (forIn l acc fun (x : Str × NameKind) (r : List (Str × Addr)) => (if (x.2 == NameKind.free) = true then do let a ← cellOf env x.1; pure (ForInStep.yield ((x.1, a) :: r)) else pure (ForInStep.yield r) : Sem (ForInStep (List (Str × Addr))))) = (pure (closOf env.cells l acc) : Sem (List (Str × Addr))) := by
    intro l
    induction l with
    | nil => intro acc _; rfl
    | cons p r ih =>
      intro acc hp
      obtain ⟨n, k⟩ := p
      rw [List.forIn_cons]
      by_cases hk : (k == NameKind.free) = true
      · obtain ⟨c, hc⟩ := hp (n, k) List.mem_cons_self (by simpa using hk)
        have e : cellOf env n = pure c := by unfold cellOf; rw [show env.cells.lookup n = some c from hc]
        simp only [hk, if_true, e, pure_bind]
        rw [ih _ fun q hq => hp q (List.mem_cons_of_mem _ hq)]
        show _ = pure (closOf env.cells r (if (k == NameKind.free) = true then (n, (env.cells.lookup n).getD 0) :: acc else acc))
        rw [if_pos hk, show env.cells.lookup n = some c from hc]
        rfl
      · simp only [hk, Bool.false_eq_true, if_false, pure_bind]
        rw [ih _ fun q hq => hp q (List.mem_cons_of_mem _ hq)]
        show _ = pure (closOf env.cells r (if (k == NameKind.free) = true then (n, (env.cells.lookup n).getD 0) :: acc else acc))
        rw [if_neg hk]
  have := gen scope.names [] h
  simpa using congrArg (fun t => t >>= fun cs => pure cs) this
theorem closOf_lookup {cells : List (Str × Addr)} {y : Str} {c : Addr} : ∀ (l : List (Str × NameKind)) (acc : List (Str × Addr)), (∀ p ∈ l, p.2 = .free → ∃ c, cells.lookup p.1 = some c) → (∀ y c, acc.lookup y = some c → cells.lookup y = some c) → (closOf cells l acc).lookup y = some c → cells.lookup y = some c
  | [], acc, _, ha, h => ha y c h
  | (n, k) :: r, acc, hp, ha, h => by
    refine closOf_lookup r _ (fun q hq => hp q (List.mem_cons_of_mem _ hq)) ?_ h
    intro y' c' e
    by_cases hk : (k == NameKind.free) = true
    · rw [if_pos hk] at e
      obtain ⟨c0, hc⟩ := hp (n, k) List.mem_cons_self (by simpa using hk)
      have hc : cells.lookup n = some c0 := hc
      rw [List.lookup_cons] at e
      by_cases hy : y' = n
      · subst hy
        simp only [beq_self_eq_true] at e
        rw [hc] at e ⊢
        exact e
      · have hb : (y' == n) = false := beq_eq_false_iff_ne.mpr hy
        rw [hb] at e
        exact ha y' c' e
    · rw [if_neg hk] at e
      exact ha y' c' e
theorem closOf_has {cells : List (Str × Addr)} {y : Str} : ∀ (l : List (Str × NameKind)) (acc : List (Str × Addr)), ((y, NameKind.free) ∈ l ∨ ∃ c, acc.lookup y = some c) → ∃ c, (closOf cells l acc).lookup y = some c
  | [], acc, h => h.elim (fun z => nomatch z) fun z => z
  | (n, k) :: r, acc, h => by
    refine closOf_has r _ ?_
    rcases h with h | ⟨c, h⟩
    · rcases List.mem_cons.mp h with e | e
      · cases e
        right
        rw [if_pos (by rfl)]
        exact ⟨_, by rw [List.lookup_cons, beq_self_eq_true]⟩
      · exact .inl e
    · right
      by_cases hk : (k == NameKind.free) = true
      · rw [if_pos hk, List.lookup_cons]
        by_cases hy : (y == n) = true
        · rw [hy]; exact ⟨_, rfl⟩
        · rw [Bool.eq_false_iff.mpr hy]; exact ⟨c, h⟩
      · rw [if_neg hk]; exact ⟨c, h⟩
theorem relabel_free {env : Env} (hk : env.scope.kind = .function) : ∀ {names : List (Str × NameKind)} {x : Str}, names.lookup x = some .free → env.kindOf x = some .cell →
    (names.map fun (n, k) => if (k == NameKind.free && env.scope.kind == .function && env.kindOf n == some .cell) then (n, NameKind.cell) else (n, k)).lookup x = some .cell
  | [], _, h, _ => by simp at h
  | (n, k) :: r, x, h, hx => by
    have ih := @relabel_free env hk r x
    show List.lookup x ((if (k == NameKind.free && env.scope.kind == .function && env.kindOf n == some .cell) = true then (n, NameKind.cell) else (n, k)) :: _) = _
    cases hxn : x == n with
    | true =>
      simp only [List.lookup_cons, hxn] at h
      have e : x = n := by simpa using hxn
      subst e
      cases h
      have hb : (NameKind.free == NameKind.free && env.scope.kind == ScopeKind.function && env.kindOf x == some NameKind.cell) = true := by rw [hk, hx]; rfl
      rw [if_pos hb]
      simp only [List.lookup_cons, beq_self_eq_true]
    | false =>
      simp only [List.lookup_cons, hxn] at h
      by_cases hc : (k == NameKind.free && env.scope.kind == .function && env.kindOf n == some .cell) = true
      · rw [if_pos hc]; simp only [List.lookup_cons, hxn]; exact ih h hx
      · rw [if_neg hc]; simp only [List.lookup_cons, hxn]; exact ih h hx
/-- what is a cell or free in the block is free in its scope -/
theorem relabel_back {env : Env} : ∀ {names : List (Str × NameKind)} {x : Str}, (∀ p ∈ names, p.2 ≠ .cell) →
    ((names.map fun (n, k) => if (k == NameKind.free && env.scope.kind == .function && env.kindOf n == some .cell) then (n, NameKind.cell) else (n, k)).lookup x = some .cell ∨
     (names.map fun (n, k) => if (k == NameKind.free && env.scope.kind == .function && env.kindOf n == some .cell) then (n, NameKind.cell) else (n, k)).lookup x = some .free) → (x, NameKind.free) ∈ names
  | [], _, _, h => by simp at h
  | (n, k) :: r, x, hc, h => by
    have ih := @relabel_back env r x fun p hp => hc p (List.mem_cons_of_mem _ hp)
    by_cases hb : (k == NameKind.free && env.scope.kind == .function && env.kindOf n == some .cell) = true
    · have hk : k = .free := by
        rw [Bool.and_eq_true, Bool.and_eq_true] at hb
        simpa using hb.1.1
      cases hx : x == n with
      | true =>
        have e : x = n := by simpa using hx
        rw [e, hk]; exact List.mem_cons_self
      | false =>
        simp only [List.map_cons, hb, if_true, List.lookup_cons, hx] at h
        exact List.mem_cons_of_mem _ (ih h)
    · cases hx : x == n with
      | true =>
        have e : x = n := by simpa using hx
        simp only [List.map_cons, hb, Bool.false_eq_true, if_false, List.lookup_cons, hx, Option.some.injEq] at h
        rcases h with h | h
        · exact absurd h (hc (n, k) List.mem_cons_self)
        · rw [e, h]; exact List.mem_cons_self
      | false =>
        simp only [List.map_cons, hb, Bool.false_eq_true, if_false, List.lookup_cons, hx] at h
        exact List.mem_cons_of_mem _ (ih h)

/-! ### one turn, whatever the target is -/
theorem codeAny_compLoop_any {prog : Program} {w : World} {A : Around} {R : Result → Shared → Prop} {s : Shared} {elt target iter : Expr} {ifs : List Expr} {scope : Scope} {pos : Pos} {it acc : Value} {env : Env} (I : Nat → Shared → Prop)
    (turn : ∀ n s, I n s → wpAny (model prog w) A (pyNext it) (fun r s₁ => match r with
      | none => R (.ok .next) s₁
      | some v => wpAny (model prog w) A (letOwnedTupleGo target it v) (fun _ s₁' => wpAny (model prog w) A (assign target env v) (fun _ s₂ =>
          wpAny (model prog w) A (forIn ifs true fun c r => if r = true then do let ok ← isTrue c env (eval c env); pure (ForInStep.yield ok) else pure (ForInStep.yield r)) (fun ok s₃ =>
            if ok = true then wpAny (model prog w) A (eval elt env) (fun x s₄ =>
              wpAny (model prog w) A (call (.builtin "list.append") [acc, x]) (fun _ s₅ => ∃ m, m < n ∧ I m s₅) (fun _ _ => False) s₄) (fun _ _ => False) s₃
            else ∃ m, m < n ∧ I m s₃) (fun _ _ => False) s₂) (fun _ _ => False) s₁') (fun _ _ => False) s₁) (fun _ _ => False) s)
    (n : Nat) (h : I n s) :
    codeAny (model prog w) A (.compLoop (.ListComp elt [⟨target, iter, ifs, 0⟩] scope pos) 0 it acc env) R s := by
  refine codeAny_loop rfl I (fun n s hI => ?_) n h
  show wpAny _ A ((compTurn (.ListComp elt [⟨target, iter, ifs, 0⟩] scope pos) 0 it acc env).onRaise (fun x => do noteFrame x env; theTreesLotGoes x)) _ _ s
  refine wpAny_noted ?_
  rw [compTurn_list]
  refine wpAny_bind (wpAny_standAt (wpAny_bind (wpAny_mono (turn n s hI) (fun r s₁ h₁ => ?_) fun _ _ h' => h'.elim)))
  cases r with
  | none => exact wpAny_pure h₁
  | some v =>
    refine wpAny_bind (wpAny_mono h₁ (fun _ s₁' h₁' => ?_) fun _ _ h' => h'.elim)
    refine wpAny_bind (wpAny_mono h₁' (fun _ s₂ h₂ => wpAny_bind (wpAny_mono h₂ (fun ok s₃ h₃ => ?_) fun _ _ h' => h'.elim)) fun _ _ h' => h'.elim)
    cases ok with
    | true =>
      simp only [if_true] at h₃ ⊢
      exact wpAny_bind (wpAny_bind (wpAny_mono h₃ (fun x s₄ h₄ => wpAny_bind (wpAny_mono h₄ (fun _ s₅ h₅ => wpAny_pure (wpAny_pure ⟨rfl, h₅⟩)) fun _ _ h' => h'.elim)) fun _ _ h' => h'.elim))
    | false =>
      simp only [Bool.false_eq_true, if_false] at h₃ ⊢
      exact wpAny_bind (wpAny_pure (wpAny_pure ⟨rfl, h₃⟩))

/-! ### the block's context -/
def cxComp (X : Cx) (scope : Scope) (N : List Str) (C : Addr) (s₀ : Shared) (H₀ : Hp) (ex : List Addr) (pn : List (Addr × Obj)) : Cx :=
  { X with N := N, s₀ := s₀, H₀ := H₀, env := compEnvC scope (closOf X.env.cells scope.names []) C X.env, outer := X.stack, stack := X.stack, ex := ex, fn := fun _ => false, pn := pn, xe := fun _ _ => False }
/-- the block's names: its own (none), or the slot of the def's that it closes over -/
def capOf (src : List (Option Nat)) (σ : St) : St := src.map fun o => match o with | none => none | some i => (σ[i]?).join
theorem capOf_get {src : List (Option Nat)} {σ : St} {j : Nat} {v : V} (h : (capOf src σ)[j]? = some (some v)) : ∃ i, src[j]? = some (some i) ∧ σ[i]? = some (some v) := by
  unfold capOf at h
  rw [List.getElem?_map] at h
  cases e : src[j]? with
  | none => rw [e] at h; cases h
  | some o =>
    rw [e] at h
    cases o with
    | none => cases h
    | some i =>
      refine ⟨i, rfl, ?_⟩
      have h : (σ[i]?).join = some v := Option.some.inj h
      cases q : σ[i]? with
      | none => rw [q] at h; cases h
      | some z => rw [q] at h; exact congrArg some h
structure BlockOk (X : Cx) (scope : Scope) (N : List Str) (src : List (Option Nat)) : Prop where
  kind : scope.kind = .function
  nocell : ∀ p ∈ scope.names, p.2 ≠ .cell
  names : ∀ x ∈ scope.names, x.2 = .local → scope.names.lookup x.1 = some .local
  free : ∀ p ∈ scope.names, p.2 = .free → X.env.kindOf p.1 = some .cell
  nd : N.Nodup
  len : src.length = N.length
  cap : ((N.zip src).all fun p => match p.2 with | none => true | some i => X.N[i]? == some p.1 && X.env.kindOf p.1 == some .cell && scope.names.lookup p.1 == some .free) = true
theorem BlockOk.at {X : Cx} {scope : Scope} {N : List Str} {src : List (Option Nat)} (b : BlockOk X scope N src) {j i : Nat} {y : Str} (h1 : N[j]? = some y) (h2 : src[j]? = some (some i)) :
    X.N[i]? = some y ∧ X.env.kindOf y = some .cell ∧ scope.names.lookup y = some .free := by
  have hz : (N.zip src)[j]? = some (y, some i) := by rw [List.getElem?_zip_eq_some]; exact ⟨h1, h2⟩
  have q := List.all_eq_true.mp b.cap _ (List.mem_of_getElem? hz)
  simp only [Bool.and_eq_true, beq_iff_eq] at q
  exact ⟨q.1.1, q.1.2, q.2⟩
/-- the same, to be decided: the def's scope and names, the block's -/
def blockOk (osc scope : Scope) (oN N : List Str) (src : List (Option Nat)) : Bool :=
  scope.kind == .function && (scope.names.all fun p => p.2 != .cell) && (scope.names.all fun p => p.2 != .local || scope.names.lookup p.1 == some .local) && (scope.names.all fun p => p.2 != .free || osc.names.lookup p.1 == some .cell) && decide N.Nodup && src.length == N.length &&
  (N.zip src).all fun p => match p.2 with | none => true | some i => oN[i]? == some p.1 && osc.names.lookup p.1 == some .cell && scope.names.lookup p.1 == some .free
theorem blk {X : Cx} {osc scope : Scope} {oN N : List Str} {src : List (Option Nat)} (e1 : X.env.scope = osc) (e2 : X.N = oN) (h : blockOk osc scope oN N src = true) : BlockOk X scope N src := by
  subst e1 e2
  unfold blockOk at h
  simp only [Bool.and_eq_true, List.all_eq_true, Bool.or_eq_true, bne_iff_ne, beq_iff_eq, decide_eq_true_eq, ne_eq] at h
  obtain ⟨⟨⟨⟨⟨⟨h1, h2⟩, h3⟩, h4⟩, h5⟩, h6⟩, h7⟩ := h
  refine ⟨h1, h2, fun x hx e => (h3 x hx).resolve_left (fun z => z e), fun x hx e => (h4 x hx).resolve_left (fun z => z e), h5, h6, List.all_eq_true.mpr fun p hp => ?_⟩
  have q := h7 p hp
  cases e : p.2 with
  | none => rfl
  | some i =>
    rw [e] at q
    simp only [Bool.and_eq_true, beq_iff_eq] at q ⊢
    exact q
/-- W: by the turn, a measure, the block's values and the heap; the list stands at D -/
def CompW (J : It) (src : List (Option Nat)) (g : TG) (tt : TT) (te : TE) (Q : VK) (σ : St) (H1 : Hp) (D : Addr) : Prop :=
  ∃ W : Nat → Nat → St → Hp → Prop, (∃ m, W 0 m (capOf src σ) (upd H1 D (.lst []))) ∧ ∀ i m σ1 H2, W i m σ1 H2 →
    (J.stop i H2 ∧ Q (.ref D) H2) ∨
    (J.go i H2 ∧ ∃ N : St → Hp → Prop, (∀ σ' H', N σ' H' → ∃ m', m' < m ∧ W (i + 1) m' σ' H') ∧ ∀ x H3, J.yld i H2 x H3 → g x σ1 H3 fun σ4 H4 => tt σ4 H4 fun b H5 =>
      if b = true then te σ4 H5 fun y H6 => ∃ zs, H6 D = some (.lst zs) ∧ zs.length < sizeLine ∧ N σ4 (upd H6 D (.lst (zs ++ [y])))
      else N σ4 H5)
def tComp (wi : TI) (src : List (Option Nat)) (g : TG) (tt : TT) (te : TE) : TE := fun σ H Q => wi σ H fun J H1 => ∀ D, H1 D = none → CompW J src g tt te Q σ H1 D
def tTrue : TT := fun _ H Q => Q true H
theorem gN {i : Nat} {v : V} {σ : St} {H : Hp} {Q : St → Hp → Prop} (h : Q (σ.set i (some v)) H) : gName i v σ H Q := h
theorem tT {σ : St} {H : Hp} {A B : Hp → Prop} (h : A H) : tTrue σ H (fun b H5 => if b = true then A H5 else B H5) := by
  show if true = true then A H else B H
  rw [if_pos rfl]; exact h
/-- the tests: none, or one -/
def PTs (X : Cx) (ifs : List Expr) (t : TT) : Prop := ∀ (pins : List (Addr × Obj)) (s : Shared) (σ : St) (H : Hp) (Q : Bool → Hp → Prop), Inv X pins σ H s → t σ H Q →
  wpAny (model X.prog X.w) X.A (forIn ifs true fun c r => if r = true then do let ok ← isTrue c X.env (eval c X.env); pure (ForInStep.yield ok) else pure (ForInStep.yield r)) (TP X pins σ Q) X.xe s
theorem pts_nil {X : Cx} : PTs X [] tTrue := fun _ _ _ H _ I h => wpAny_tests_nil ⟨H, I, h⟩
theorem pts_one {X : Cx} {c : Expr} {t : TT} (h : PT X c t) : PTs X [c] t := fun pins s σ H Q I hq => wpAny_tests_one (h pins s σ H Q I hq)

section
variable {X : Cx} {elt tg iter : Expr} {ifs : List Expr} {scope : Scope} {pos : Pos} {N : List Str} {src : List (Option Nat)} {wi : TI} {g : TG} {tt : TT} {te : TE}
theorem BlockOk.cells {b : BlockOk X scope N src} (ok : X.Ok) : ∀ p ∈ scope.names, p.2 = .free → ∃ c, X.env.cells.lookup p.1 = some c := fun p hp hf => ok.has p.1 (.inl (b.free p hp hf))
theorem stk_not {pins : List (Addr × Obj)} {σ : St} {H : Hp} {s : Shared} {b : Addr} (I : Inv X pins σ H s) (h1 : b ≠ X.env.locals) (h2 : b ∉ X.fs) : b ∉ frs X.stack := fun hb => (List.mem_cons.mp (I.stkSub b hb)).elim h1 h2
theorem clos_cells {b : BlockOk X scope N src} (ok : X.Ok) {y : Str} {c : Addr} (h : (closOf X.env.cells scope.names []).lookup y = some c) : X.env.cells.lookup y = some c :=
  closOf_lookup scope.names [] (b.cells ok) (fun _ _ z => by cases z) h
/-- the block's state at its entry -/
theorem Inv.block {pins : List (Addr × Obj)} {σ : St} {H : Hp} {s : Shared} {ex : List Addr} {h1 : Heap} {t' : Nat} {mC : Str → Option Value} (b : BlockOk X scope N src) (I : Inv X pins σ H s) (hk : ∀ b u, s.heap.get? b = some u → h1.get? b = some u) (hC : h1.Ns s.heap.objs.size mC)
    (hex : ∀ c ∈ ex, FpOk X pins H c ∧ c < s.heap.objs.size) : Inv (cxComp X scope N s.heap.objs.size s H ex (X.pn ++ pins)) [] (capOf src σ) H { s with heap := h1, toks := t' } := by
  refine ⟨⟨I.ok.mod, b.kind, I.ok.glob, I.ok.blt, Nat.le_refl _, fun x y c e1 e2 => I.ok.inj x y c (clos_cells (b := b) I.ok e1) (clos_cells (b := b) I.ok e2), fun x hx => ?_, (fun x c z => nomatch z), I.ok.hd, I.ok.frames, .inl rfl, fun c hc => ⟨Nat.ne_of_lt (hex c hc).2, fun x c' e z => (hex c hc).1.2.2.2.2.1 x c' (clos_cells (b := b) I.ok e) z⟩,
    fun c o e => I.bs c o e, Nat.le_trans I.ok.bsz I.sz, fun c o e hc => ?_, fun c hc => stk_not I (hex c hc).1.2.1 (hex c hc).1.2.2.1, I.stack, I.stkFree⟩, rfl, I.bare, Un.kept hk, ⟨mC, hC, fun j y v e1 e2 e3 => ?_⟩, fun y c e => ?_, I.hok.fresh (Nat.le_refl _), fun y c e => I.freeC y c (clos_cells (b := b) I.ok e), fun p hp => ?_, I.hok.kept hk, ?_⟩
  · exact closOf_has scope.names [] (.inl (relabel_back b.nocell hx))
  · rcases (hex c hc).1.2.2.2.1 with z | z
    · exact I.ok.noex c o e z
    · exact absurd (Nat.lt_of_lt_of_le (Nat.lt_of_lt_of_le (Heap.lt_size e) I.ok.bsz) z) (Nat.lt_irrefl _)
  · obtain ⟨i, e4, e5⟩ := capOf_get e2
    obtain ⟨n1, n2, n3⟩ := b.at (show N[j]? = some y from e1) e4
    obtain ⟨m, hm, hl⟩ := I.loc
    obtain ⟨u, r, l⟩ := hl i y v n1 e5 (.inr (.inl n2))
    refine ⟨u, r, .inr ⟨.inl (relabel_free I.ok.kind n3 n2), ?_⟩⟩
    rcases l with ⟨k, _⟩ | ⟨_, c, e, z⟩
    · rw [n2] at k; cases k
    · obtain ⟨c', e'⟩ := closOf_has (cells := X.env.cells) (y := y) scope.names [] (.inl (PySem.mem_of_lookup n3))
      have e2 := clos_cells (b := b) I.ok e'
      rw [e] at e2; cases e2
      obtain ⟨o, ho, hd⟩ := z
      exact ⟨c, e', o, hk _ _ ho, hd⟩
  · obtain ⟨v, o, ho, hd⟩ := I.cell y c (clos_cells (b := b) I.ok e)
    exact ⟨v, o, hk _ _ ho, hd⟩
  · have hp : p ∈ X.pn ++ pins := by simpa [cxComp] using hp
    obtain ⟨e, n, ne, nf, d⟩ := I.pin p hp
    exact ⟨hk _ _ e, n, Nat.ne_of_lt (Heap.lt_size e), stk_not I ne nf, d⟩
  · show (capOf src σ).length = N.length
    unfold capOf
    rw [List.length_map]; exact b.len
/-- behind the block -/
theorem Inv.unblock {pins pins' : List (Addr × Obj)} {σ σ' : St} {H H' : Hp} {s s' : Shared} {ex : List Addr} {h2 : Heap} (b : BlockOk X scope N src) (I : Inv X pins σ H s) (hex : ∀ c ∈ ex, FpOk X pins H c ∧ c < s.heap.objs.size)
    (J : Inv (cxComp X scope N s.heap.objs.size s H ex (X.pn ++ pins)) pins' σ' H' s') (sb : Heap.SameBut s.heap.objs.size s'.heap h2) : Inv X pins σ H' { s' with heap := h2 } := by
  have nC : ∀ b o, s.heap.get? b = some o → b ≠ s.heap.objs.size := fun b o e => Nat.ne_of_lt (Heap.lt_size e)
  have u := J.base
  have u : Un (frs X.stack) ex H H' s.heap s'.heap := u
  refine I.call' (s' := { s' with heap := h2 }) (ch := ex) J.os ⟨fun c o e n hb hx => (sb.2 c (nC c o e)).trans (u.keep c o e n hb hx), fun c o e n hb hx => ?_, u.free, fun c o e hx => ?_, u.tups, u.frzs, u.tbls⟩ (fun a o e => ?_) J.bare fun c hc => ?_
  · obtain ⟨sl, e1⟩ := u.slot c o e n hb hx
    exact ⟨sl, (sb.2 c (nC c o e)).trans e1⟩
  · obtain ⟨o', e1⟩ := u.there c o e hx
    exact ⟨o', (sb.2 c (nC c o e)).trans e1⟩
  · refine (J.hok a o e).stay (fun c v hc q => (sb.2 c ?_).trans q) (fun _ q => q) fun _ _ q => q
    rintro rfl
    have z : H' s.heap.objs.size = none := J.free
    rcases hc with hc | hc
    · rw [← hc, z] at e; cases e
    · rw [z] at hc; cases hc
  · obtain ⟨⟨f0, f1, f2, f3, f4, f5⟩, _⟩ := hex c hc
    exact ⟨f3, f1, f4, f5⟩
theorem comp_core (hc : X.calm = true) (b : BlockOk X scope N src) (hi : PI X tg iter wi)
    (hg : ∀ (C : Addr) (s₀ : Shared) (H₀ : Hp) (ex : List Addr) (pn : List (Addr × Obj)), PG (cxComp X scope N C s₀ H₀ ex pn) tg g)
    (ht : ∀ (C : Addr) (s₀ : Shared) (H₀ : Hp) (ex : List Addr) (pn : List (Addr × Obj)), PTs (cxComp X scope N C s₀ H₀ ex pn) ifs tt)
    (he : ∀ (C : Addr) (s₀ : Shared) (H₀ : Hp) (ex : List Addr) (pn : List (Addr × Obj)), PE (cxComp X scope N C s₀ H₀ ex pn) elt te)
    (hs : ∀ x, foldedSetIterable iter X.env x = pure x) {use : Option (Value → Sem Unit)} {Qv : Value → Shared → Prop} {pins : List (Addr × Obj)} {s : Shared} {σ : St} {H : Hp} {Q : VK} {p1 : Pos} (I : Inv X pins σ H s) (h : tComp wi src g tt te σ H Q)
    (hend : ∀ (D C : Addr) (s5 : Shared) (H5 : Hp), (∃ m, s5.heap.Ns C m) → C ≠ X.env.locals → (∀ x c, X.env.cells.lookup x = some c → c ≠ C) → (∀ p ∈ X.pn ++ pins, p.1 ≠ C) → X.s₀.heap.objs.size ≤ C → H5 C = none → Inv X pins σ H5 s5 → Q (.ref D) H5 →
      compPost (model X.prog X.w) X.A X.xe use Qv (.ref D) C (.ok .next) s5) :
    wpAny (model X.prog X.w) X.A (comprehension (.ListComp elt [⟨tg, iter, ifs, 0⟩] scope pos) scope X.env p1 (newList []) false (eval iter X.env) use) Qv X.xe s := by
  refine wpAny_comprehension_free (use := use) rfl hs (closureFor_eq (b.cells I.ok)) b.kind b.names (thn (hi pins s σ H _ I h) fun v s1 h1 => thn h1 fun itv s2 h2 => ?_)
  obtain ⟨it, fp, tn, J, H2, e, I2, T, st2, f2, hW⟩ := h2
  subst e
  have hD : H2 s2.heap.objs.size = none := I2.hok.fresh (Nat.le_refl _)
  obtain ⟨W, ⟨m0, w0⟩, turn⟩ := hW s2.heap.objs.size hD
  refine wpAny_newObj_type (wpAny_newFunctionEnv b.nocell (fun y hy => nomatch hy) (fun h1 hns1 hsb1 => ?_) b.kind)
  have I3 := I2.lnew (its := []) (ys := []) (t' := s2.toks) .nil (Nat.zero_le _)
  have hsz3 : (s2.heap.push { cls := .type "list", data := .seq ([] : List Value).toArray }).objs.size = s2.heap.objs.size + 1 := Heap.size_push _ _
  have nfpD : ∀ c ∈ fp, c < s2.heap.objs.size := fun c hcf => by
    obtain ⟨o, ho, _⟩ := T.obj 0 _ st2 c hcf
    exact Heap.lt_size ho
  have hex3 : ∀ c ∈ fp, FpOk X pins (upd H2 s2.heap.objs.size (.lst [])) c ∧ c < (s2.heap.push { cls := .type "list", data := .seq ([] : List Value).toArray }).objs.size := fun c hcf => by
    have hl := nfpD c hcf
    obtain ⟨f0, fr⟩ := f2 c hcf
    exact ⟨⟨by rw [upd_ne (Nat.ne_of_lt hl)]; exact f0, fr⟩, by rw [hsz3]; exact Nat.lt_succ_of_lt hl⟩
  have hk3 : ∀ c u, (s2.heap.push { cls := .type "list", data := .seq ([] : List Value).toArray }).get? c = some u → h1.get? c = some u := fun c u e =>
    (hsb1.2 c (Nat.ne_of_lt (Heap.lt_size e))).trans (Heap.get?_push_of_some _ e)
  have IC := Inv.block (t' := s2.toks + ([] : List (Str × Value)).length) b I3 hk3 hns1 hex3
  have st3 : tn 0 h1 := T.keep _ _ _ st2 fun c hcf o ho => hk3 c o (Heap.get?_push_of_some _ ho)
  -- the block
  have loop : codeAny (model X.prog X.w) X.A (.compLoop (.ListComp elt [⟨tg, iter, ifs, 0⟩] scope pos) 0 (.ref it) (.ref s2.heap.objs.size) (cxComp X scope N (s2.heap.push { cls := .type "list", data := .seq ([] : List Value).toArray }).objs.size { s2 with heap := s2.heap.push { cls := .type "list", data := .seq ([] : List Value).toArray }, toks := s2.toks } (upd H2 s2.heap.objs.size (.lst [])) fp (X.pn ++ pins)).env)
      (compPost (model X.prog X.w) X.A X.xe use Qv (.ref s2.heap.objs.size) (s2.heap.push { cls := .type "list", data := .seq ([] : List Value).toArray }).objs.size) { s2 with heap := h1, toks := s2.toks + ([] : List (Str × Value)).length } := by
    generalize hXc : cxComp X scope N (s2.heap.push { cls := .type "list", data := .seq ([] : List Value).toArray }).objs.size { s2 with heap := s2.heap.push { cls := .type "list", data := .seq ([] : List Value).toArray }, toks := s2.toks } (upd H2 s2.heap.objs.size (.lst [])) fp (X.pn ++ pins) = Xc at IC
    have stat : ∀ {H' : Hp}, (∀ c ∈ fp, H' c = none) → ∀ c ∈ fp, FpOk Xc [] H' c := fun {H'} hn c hcf => by
      subst hXc
      obtain ⟨⟨f0, f1, f3, f4, f5, f6⟩, hl⟩ := hex3 c hcf
      exact ⟨hn c hcf, Nat.ne_of_lt hl, stk_not I3 f1 f3, .inl hcf, fun x c' e => f5 x c' (clos_cells (b := b) I3.ok e), fun p hp => f6 p (by simpa [cxComp] using hp)⟩
    have eP : Xc.prog = X.prog := (congrArg Cx.prog hXc).symm
    have eW : Xc.w = X.w := (congrArg Cx.w hXc).symm
    have eK : Xc.K = X.K := (congrArg Cx.K hXc).symm
    have eA : Xc.A = X.A := (congrArg Cx.A hXc).symm
    have eC : Xc.calm = true := (congrArg Cx.calm hXc).symm.trans hc
    have hgc : PG Xc tg g := @Eq.rec _ _ (fun Y _ => PG Y tg g) (hg _ _ _ _ _) _ hXc
    have htc : PTs Xc ifs tt := @Eq.rec _ _ (fun Y _ => PTs Y ifs tt) (ht _ _ _ _ _) _ hXc
    have hec : PE Xc elt te := @Eq.rec _ _ (fun Y _ => PE Y elt te) (he _ _ _ _ _) _ hXc
    have ex0 : Xc.xe = fun _ _ => False := (congrArg Cx.xe hXc).symm
    refine codeAny_compLoop_any (fun n s' => ∃ i σ' H', Inv Xc [] σ' H' s' ∧ tn i s'.heap ∧ (∀ c ∈ fp, H' c = none) ∧ W i n σ' H') ?_ m0 ⟨0, _, _, IC, st3, fun c hcf => (hex3 c hcf).1.1, w0⟩
    rintro n s4 ⟨i, σ4, H4, I4, st4, fr4, w4⟩
    rcases turn i n σ4 H4 w4 with ⟨stop, qn⟩ | ⟨go, Nx, hNx, step⟩
    · have hd := T.done Xc eP eW eK eC i [] s4 σ4 H4 (fun _ _ => False) I4 (stat fr4) st4 stop
      rw [eA] at hd
      refine thn hd fun r s5 hPz => ?_; obtain ⟨hr, I5⟩ := hPz
      subst hr
      subst hXc
      obtain ⟨m5, hm5, _⟩ := I5.loc
      refine hend s2.heap.objs.size _ s5 H4 ⟨m5, hm5⟩ (Nat.ne_of_gt I3.lt) (fun x c e z => ?_) (fun p hp => Nat.ne_of_lt (Heap.lt_size (I3.pin p hp).1)) I3.sz I5.free (Inv.unblock b I3 hex3 I5 (Heap.SameBut.refl ..)) qn
      obtain ⟨v, q⟩ := I3.cell x c e
      exact absurd q.lt (by rw [z]; exact Nat.lt_irrefl _)
    · have hd := T.item Xc eP eW eK eC i [] s4 σ4 H4 (fun _ _ => False) I4 (stat fr4) st4 go
      rw [eA] at hd
      refine thn hd fun r s5 hPz => ?_; obtain ⟨u, hr, h5⟩ := hPz
      subst hr
      refine thn h5 fun _ s6 hPz => ?_; obtain ⟨x, H6, I6, r6, y6, st6, fr6⟩ := hPz
      have I6' := I6.pinned (stat fr6) (T.obj _ _ st6)
      have hq := hgc _ s6 σ4 H6 x u _ I6' r6 (step x H6 y6)
      rw [eP, eW, eA, ex0] at hq
      refine thn hq fun _ s7 hPz => ?_; obtain ⟨σ7, H7, I7, q7⟩ := hPz
      have hq := htc _ s7 σ7 H7 _ I7 q7
      rw [eP, eW, eA, ex0] at hq
      refine thn hq fun ok s8 hPz => ?_; obtain ⟨H8, I8, q8⟩ := hPz
      have again : ∀ {σ9 : St} {H9 : Hp} {s9 : Shared}, Inv Xc ([] ++ pinsAt fp s6.heap) σ9 H9 s9 → Nx σ9 H9 → ∃ m, m < n ∧ ∃ i σ' H', Inv Xc [] σ' H' s9 ∧ tn i s9.heap ∧ (∀ c ∈ fp, H' c = none) ∧ W i m σ' H' := fun {σ9 H9 s9} I9 nx9 => by
        obtain ⟨m', hm, w9⟩ := hNx σ9 H9 nx9
        refine ⟨m', hm, i + 1, σ9, H9, I9.unpinned, T.keep _ _ _ st6 fun c hcf o e => (I9.pin (c, o) (List.mem_append_right _ (List.mem_append_right _ (mem_pinsAt hcf e)))).1, fun c hcf => ?_, w9⟩
        obtain ⟨o, e, d⟩ := T.obj _ _ st6 c hcf
        exact (I9.pin (c, o) (List.mem_append_right _ (List.mem_append_right _ (mem_pinsAt hcf e)))).2.1
      cases ok with
      | false =>
        rw [if_neg Bool.false_ne_true] at q8
        rw [if_neg Bool.false_ne_true]
        exact again I8 q8
      | true =>
        rw [if_pos rfl] at q8
        rw [if_pos rfl]
        have hq := hec _ s8 σ7 H8 _ I8 q8
        rw [eP, eW, eA, ex0] at hq
        refine thn hq fun y s9 hPz => ?_; obtain ⟨yv, H9, I9, ry, zs, hz, hzl, q9⟩ := hPz
        have ha := mt_append (X := Xc) _ s9 σ7 H9 (.ref s2.heap.objs.size) [yv] (.ref s2.heap.objs.size) [y] (fun _ H' => H' = upd H9 s2.heap.objs.size (.lst (zs ++ [yv]))) I9 rfl (.cons ry .nil) ⟨_, zs, yv, rfl, rfl, hz, hzl, rfl⟩
        rw [eP, eW, eA, ex0] at ha
        refine thn ha fun _ s10 hPz => ?_; obtain ⟨v10, H10, I10, _, e10⟩ := hPz
        subst e10
        exact again I10 q9
  exact codeAny_compStart_list loop (T.self X.A 0 _ _ _ st3 loop)
theorem pe_comp (hc : X.calm = true) (b : BlockOk X scope N src) (hi : PI X tg iter wi)
    (hg : ∀ (C : Addr) (s₀ : Shared) (H₀ : Hp) (ex : List Addr) (pn : List (Addr × Obj)), PG (cxComp X scope N C s₀ H₀ ex pn) tg g)
    (ht : ∀ (C : Addr) (s₀ : Shared) (H₀ : Hp) (ex : List Addr) (pn : List (Addr × Obj)), PTs (cxComp X scope N C s₀ H₀ ex pn) ifs tt)
    (he : ∀ (C : Addr) (s₀ : Shared) (H₀ : Hp) (ex : List Addr) (pn : List (Addr × Obj)), PE (cxComp X scope N C s₀ H₀ ex pn) elt te)
    (hs : ∀ x, foldedSetIterable iter X.env x = pure x := by intro _; rfl) : PE X (.ListComp elt [⟨tg, iter, ifs, 0⟩] scope pos) (tComp wi src g tt te) := by
  intro pins s σ H Q I h
  rw [eval_ListComp]
  refine comp_core hc b hi hg ht he hs (use := none) I h fun D C s5 H5 ⟨m, hm⟩ h1 h2 h3 h4 h5 I5 q => ?_
  exact ⟨m, hm, fun h' sb => ⟨.ref D, H5, I5.turned (t' := s5.toks) (fun c o nc e => (sb.2 c nc).trans e) h5 h1 (.inr h4) h2 h3, rfl, q⟩⟩
/-- y = [..], where the store stands ahead of the letting go -/
theorem ps_setC {i : Nat} {y : Str} {py spos : Pos} (hN : X.N.Nodup) (hi0 : X.N[i]? = some y) (hy : X.env.scope.names.lookup y = some .local) (hc : X.calm = true) (b : BlockOk X scope N src) (hi : PI X tg iter wi)
    (hg : ∀ (C : Addr) (s₀ : Shared) (H₀ : Hp) (ex : List Addr) (pn : List (Addr × Obj)), PG (cxComp X scope N C s₀ H₀ ex pn) tg g)
    (ht : ∀ (C : Addr) (s₀ : Shared) (H₀ : Hp) (ex : List Addr) (pn : List (Addr × Obj)), PTs (cxComp X scope N C s₀ H₀ ex pn) ifs tt)
    (he : ∀ (C : Addr) (s₀ : Shared) (H₀ : Hp) (ex : List Addr) (pn : List (Addr × Obj)), PE (cxComp X scope N C s₀ H₀ ex pn) elt te)
    (hsw : swapsWith (.ListComp elt [⟨tg, iter, ifs, 0⟩] scope pos) (some (.Name y py)) spos.line X.env = pure true := by with_unfolding_all rfl)
    (hs : ∀ x, foldedSetIterable iter X.env x = pure x := by intro _; rfl) : PS X (.Assign [.Name y py] (.ListComp elt [⟨tg, iter, ifs, 0⟩] scope pos) spos) (tAsg (tComp wi src g tt te) (gName i)) := by
  intro pins s σ H D I h
  rw [exec_Assign_Name_used _ _ _ _ hsw]
  refine wpAny_bind (wpAny_standAt (wpAny_bind ?_))
  show wpAny _ X.A (do let _ ← comprehension (.ListComp elt [⟨tg, iter, ifs, 0⟩] scope pos) scope X.env _ (newList []) false (eval iter X.env) (some (assign (.Name y py) X.env))) _ _ s
  refine wpAny_bind (wpAny_mono (comp_core hc b hi hg ht he hs (use := some (assign (.Name y py) X.env)) (Qv := fun _ s' => SP X pins D .next s') I h fun D' C s5 H5 ⟨m, hm⟩ h1 h2 h3 h4 h5 I5 q => ?_) (fun _ s' hq => wpAny_pure (wpAny_pure hq)) fun _ _ e => e)
  show wpAny _ X.A (assign (.Name y py) X.env (.ref D')) _ _ _
  refine wpAny_assign_Name (store_ok2 I5 hN hi0 (.inl hy) (show RelV (.ref D') (.ref D') from rfl) (fun s6 I6 hPz => ?_) (.inr hy)); obtain ⟨a, sb6, ha⟩ := hPz
  have hCa : C ≠ a := by
    rcases ha with rfl | ha
    · exact h1
    · exact fun z => h2 _ _ ha z.symm
  exact ⟨m, hm.sameBut sb6 hCa, fun h' sb => ⟨_, H5, I6.turned (t' := s6.toks) (fun c o nc e => (sb.2 c nc).trans e) h5 h1 (.inr h4) h2 h3, q⟩⟩
end

/-! ### inside a block: the fragment by its own name -/
section
variable {X : Cx} {K : PySem.W.Frag} {a b e : Expr} {f : Str} {ta tb : TE} {pos : Pos}
theorem pe_fldB (hK : X.K = K) (he : PE X e ta) (hb : attributeBase e f X.env (eval e X.env) = eval e X.env) : PE X (.Attribute e f pos) (tFld K ta f) := by subst hK; exact pe_fld he hb
theorem pe_ixB (hK : X.K = K) (ha : PE X a ta) (hb : PE X b tb) (hs : PlainIx b) : PE X (.Subscript a b pos) (tOp (rIxL K) ta tb) := by subst hK; exact pe_ix ix_list ha hb hs
theorem pg_tupB {es : List Expr} {k n : Nat} {t : TGs} (hK : X.K = K) (hc : X.calm = true) (h : PGs X es t)
    (hn : (assignEach es X.env).length = n) (hst : (assignEach es X.env).findIdx? (·.1) = none) : PG X (.Tuple es k pos) (gTup K n t) := by subst hK; exact pg_tup hc h hn hst
end
/-! ### the forms one uses -/
/-- over a list that the block leaves as it is -/
theorem comp_list {K : PySem.W.Frag} {a : Addr} {xs : List V} {src : List (Option Nat)} {g : TG} {tt : TT} {te : TE} {Q : VK} {σ : St} {H1 : Hp} {D : Addr} (Pv : Nat → St → Hp → Prop) (h0 : Pv 0 (capOf src σ) (upd H1 D (.lst [])))
    (hl : ∀ i σ1 H2, i ≤ xs.length → Pv i σ1 H2 → SqL K H2 a xs)
    (hs : ∀ i x σ1 H2, xs[i]? = some x → Pv i σ1 H2 → g x σ1 H2 fun σ4 H4 => tt σ4 H4 fun b H5 =>
      if b = true then te σ4 H5 fun y H6 => ∃ zs, H6 D = some (.lst zs) ∧ zs.length < sizeLine ∧ Pv (i + 1) σ4 (upd H6 D (.lst (zs ++ [y]))) else Pv (i + 1) σ4 H5)
    (hd : ∀ σ1 H2, Pv xs.length σ1 H2 → Q (.ref D) H2) :
    CompW (Itl K a) src g tt te Q σ H1 D := by
  refine ⟨fun i m σ H => m = xs.length - i ∧ i ≤ xs.length ∧ Pv i σ H, ⟨xs.length, by simp, Nat.zero_le _, h0⟩, ?_⟩
  rintro i m σ1 H2 ⟨rfl, hi, p⟩
  have q := hl i σ1 H2 hi p
  by_cases hlt : i < xs.length
  · refine .inr ⟨⟨xs, xs[i], q, by simp [hlt]⟩, Pv (i + 1), fun σ' H' p' => ⟨xs.length - (i + 1), by (first | lia | omega), rfl, hlt, p'⟩, fun x H' y => ?_⟩
    obtain ⟨e, y⟩ := y
    subst e
    exact hs i x σ1 _ (y xs q) p
  · have e : i = xs.length := by (first | lia | omega)
    subst e
    exact .inl ⟨⟨xs, q, Nat.le_refl _⟩, hd σ1 H2 p⟩
theorem comp_range {lo : Int} {n : Nat} {src : List (Option Nat)} {g : TG} {tt : TT} {te : TE} {Q : VK} {σ : St} {H1 : Hp} {D : Addr} (Pv : Nat → St → Hp → Prop) (h0 : Pv 0 (capOf src σ) (upd H1 D (.lst [])))
    (hs : ∀ i σ1 H2, i < n → Pv i σ1 H2 → g (.int (lo + i)) σ1 H2 fun σ4 H4 => tt σ4 H4 fun b H5 =>
      if b = true then te σ4 H5 fun y H6 => ∃ zs, H6 D = some (.lst zs) ∧ zs.length < sizeLine ∧ Pv (i + 1) σ4 (upd H6 D (.lst (zs ++ [y]))) else Pv (i + 1) σ4 H5)
    (hd : ∀ σ1 H2, Pv n σ1 H2 → Q (.ref D) H2) :
    CompW (Itr lo n) src g tt te Q σ H1 D := by
  refine ⟨fun i m σ H => m = n - i ∧ i ≤ n ∧ Pv i σ H, ⟨n, by simp, Nat.zero_le _, h0⟩, ?_⟩
  rintro i m σ1 H2 ⟨rfl, hi, p⟩
  by_cases hlt : i < n
  · refine .inr ⟨hlt, Pv (i + 1), fun σ' H' p' => ⟨n - (i + 1), by (first | lia | omega), rfl, hlt, p'⟩, fun x H' y => ?_⟩
    obtain ⟨e, y⟩ := y
    subst e y
    exact hs i σ1 _ hlt p
  · have e : i = n := by (first | lia | omega)
    subst e
    exact .inl ⟨Nat.le_refl _, hd σ1 H2 p⟩
end L2

set_option Elab.async false
set_option linter.all false
set_option maxRecDepth 100000
set_option maxHeartbeats 4000000
/-! enumerate; min, max; == of data; isinstance. -/
namespace L2
open PySem PySem.Spec PyProof.Rows

/-! ### for i, x in enumerate(xs) -/
/-- at turn i the pair (i, xs[i]), a new tuple -/
def Ite (K : PySem.W.Frag) (a : Addr) : It :=
  ⟨fun i H => ∃ xs x, SqL K H a xs ∧ xs[i]? = some x, fun i H x H' => ∃ p v, x = .ref p ∧ H p = none ∧ H' = upd H p (.tup [.int i, v]) ∧ ∀ xs, SqL K H a xs → xs[i]? = some v, fun i H => ∃ xs, SqL K H a xs ∧ xs.length ≤ i⟩
theorem turn_enum {P : Program} {w : World} {K : PySem.W.Frag} {es : List Expr} {k1 : Nat} {tp : Pos} (a it e : Addr) (hei : e ≠ it) :
    Turn P w K (.Tuple es k1 tp) (Ite K a) [e, it] e (fun i h => (∃ old, IsEnum h e it i old) ∧ h.IsListIter it a i) where
  mem := by simp
  obj := fun i h st b hb => by
    obtain ⟨⟨old, he⟩, hit⟩ := st
    rcases List.mem_cons.mp hb with rfl | hb
    · exact ⟨_, he, fun v z => nomatch z⟩
    · have e1 : b = it := by simpa using hb
      subst e1
      obtain ⟨o, e, c, d⟩ := hit
      exact ⟨o, e, fun v z => by rw [d] at z; cases z⟩
  keep := fun i h h' st k => by
    obtain ⟨⟨old, he⟩, hit⟩ := st
    exact ⟨⟨old, k e (by simp) _ he⟩, hit.at fun o e => k it (by simp) o e⟩
  item := by
    intro X hP hw hK hc i pins s σ H E I hf st hg
    subst hP hw hK
    obtain ⟨⟨old, he⟩, hit⟩ := st
    obtain ⟨xs, x, hq, hx⟩ := hg
    obtain ⟨its, rv, p, hz⟩ := I.list hq
    obtain ⟨u, hu, ru⟩ := rv.get hx
    obtain ⟨e0, e1, e2, e3, e4, e5⟩ := hf e (by simp)
    obtain ⟨f0, f1, f2, f3, f4, f5⟩ := hf it (by simp)
    refine wpAny_pyNext_enum_item he hit p.isList (x := u) (by simpa using hu) hei fun h' ho hit' hT hsz kk => ?_
    refine ⟨_, rfl, wpAny_letOwnedTupleGo_enum ho fun h2 he2 hs2 => ?_⟩
    have helt : e < s.heap.objs.size := Heap.lt_size he
    have hilt : it < s.heap.objs.size := by obtain ⟨_, x, _⟩ := hit; exact Heap.lt_size x
    -- both records turned, the tuple laid
    have I1 : Inv X pins σ (upd H s.heap.objs.size (.tup [.int i, x])) { s with heap := h2, toks := s.toks + 1 } := by
      have hn : H s.heap.objs.size = none := I.hok.fresh (Nat.le_refl _)
      have keep : ∀ b o, b ≠ e → b ≠ it → s.heap.get? b = some o → h2.get? b = some o := fun b o h1 h2' e' => (hs2.2 b h1).trans (kk b o h1 h2' e')
      have nb : ∀ b o, s.heap.get? b = some o → b ≠ s.heap.objs.size := fun b o e' => Nat.ne_of_lt (Heap.lt_size e')
      have tr : ∀ b u, H b = some u → b ≠ e ∧ b ≠ it := fun b u e' => ⟨fun z => (by rw [z, e0] at e'; cases e'), fun z => (by rw [z, f0] at e'; cases e')⟩
      refine I.step (g' := s.gens) (d' := s.drawn) (ch := [e, it]) (fun b hb => ?_) (fun b o _ _ hc e' _ => keep b o (fun z => hc (by simp [z])) (fun z => hc (by simp [z])) e') (fun b o _ _ hc e' _ => ⟨o.slots, keep b o (fun z => hc (by simp [z])) (fun z => hc (by simp [z])) e'⟩)
        (fun b o _ e' n => by rw [upd_ne (nb b o e')]; exact n) (fun b o hc e' => ⟨o, keep b o (fun z => hc (by simp [z])) (fun z => hc (by simp [z])) e'⟩) (fun b ys e' => by rw [upd_ne (ne_of_none e' hn)]; exact e') (fun b o v e' => by rw [upd_ne (ne_of_none e' hn)]; exact e')
        (fun b ps e' => ⟨#[], by rw [upd_ne (ne_of_none e' hn), e']; simp⟩) (fun m hm => ?_) (fun b v e' => ?_) I.bare
      · rcases List.mem_cons.mp hb with rfl | hb
        · exact ⟨e3, e1, e4, e5⟩
        · have e1' : b = it := by simpa using hb
          subst e1'
          exact ⟨f3, f1, f4, f5⟩
      · obtain ⟨o, es', ep, ho', r⟩ := hm
        exact ⟨o, es', ep, keep _ o (Ne.symm e1) (Ne.symm f1) ho', r⟩
      · by_cases hb : b = s.heap.objs.size
        · subst hb
          rw [upd_same] at e'; cases e'
          refine ⟨by show 2 ≤ sizeLine; decide, [.int i s.toks, u], .cons ⟨_, rfl⟩ (.cons ru .nil), ?_⟩
          exact ⟨_, (hs2.2 _ (Nat.ne_of_gt helt)).trans hT, rfl, 0, rfl⟩
        · rw [upd_ne hb] at e'
          refine (I.hok b v e').stay (fun c v' hc q => ?_) (fun c q => by rw [upd_ne (ne_of_none q hn)]; exact q) fun c ys q => by rw [upd_ne (ne_of_none q hn)]; exact q
          rcases hc with rfl | hc
          · exact keep c v' (tr c _ e').1 (tr c _ e').2 q
          · exact keep c v' (tr c _ hc).1 (tr c _ hc).2 q
    refine ⟨.ref s.heap.objs.size, _, I1, rfl, ⟨s.heap.objs.size, x, rfl, I.hok.fresh (Nat.le_refl _), rfl, fun ys hy => by rw [I.list_inj hy hq]; exact hx⟩, ⟨⟨_, by simpa using he2⟩, hit'.at fun o y => (hs2.2 it (Ne.symm hei)).trans y⟩, fun b hb => ?_⟩
    rcases List.mem_cons.mp hb with rfl | hb
    · rw [upd_ne (Nat.ne_of_lt helt)]; exact e0
    · have e1' : b = it := by simpa using hb
      subst e1'
      rw [upd_ne (Nat.ne_of_lt hilt)]; exact f0
  done := by
    intro X hP hw hK hc i pins s σ H E I hf st hg
    subst hP hw hK
    obtain ⟨⟨old, he⟩, hit⟩ := st
    obtain ⟨xs, hq, hx⟩ := hg
    obtain ⟨its, rv, p, hz⟩ := I.list hq
    obtain ⟨f0, f1, f2, f3, f4, f5⟩ := hf it (by simp)
    have hl := rv.length
    exact wpAny_pyNext_enum_end (I.ok.hd hc) he hit p.isList (by simp; (first | lia | omega)) fun h' eb => ⟨rfl, I.turned (t' := s.toks) (fun b o hb e => eb b o hb e) f0 f1 f3 f4 f5⟩
  self := fun _ _ _ _ _ st h => let ⟨⟨_, he⟩, _⟩ := st; wpAny_pyIter_enum he h
section
variable {X : Cx} {es : List Expr} {k1 : Nat} {tp : Pos}
def iEnum (K : PySem.W.Frag) (ta : TA) : TI := fun σ H R => ta σ H fun vs H1 => ∃ a, vs = [.ref a] ∧ (∃ xs, SqL K H1 a xs) ∧ R (Ite K a) H1
theorem pi_enum {a : Expr} {ta : TA} {p pos : Pos} (hg : Gl X "enumerate") (hm : X.mg "enumerate" = none) (ha : PA X [a] ta) (hs : starEach [a] X.env = [(false, eval a X.env)] := by rfl) : PI X (.Tuple es k1 tp) (.Call (.Name "enumerate" p) [a] [] pos) (iEnum X.K ta) := by
  intro pins s σ H R I h
  refine Call_ (ld_blt I hg hm boot_enumerate (PyProof.Rows.callWith_type1 (thn (ha pos pins s σ H _ I h) fun us s1 hPz => ?_) hs rfl)); obtain ⟨vs, H1, I1, r1, q1⟩ := hPz
  obtain ⟨l, e, ⟨xs, hq⟩, q⟩ := q1
  subst e
  obtain ⟨u, rfl, ru⟩ := r1.one
  cases ru
  obtain ⟨its, rv, p, hz⟩ := I1.list hq
  refine call_enumerate_list p.isList fun h' he hit hsz kk => ?_
  refine wpAny_pyIter_enum he ?_
  have hel : s1.heap.objs.size ≤ s1.heap.objs.size + 1 := Nat.le_succ _
  refine ⟨s1.heap.objs.size + 1, [s1.heap.objs.size + 1, s1.heap.objs.size], _, _, H1, rfl, I1.kept (t' := s1.toks) kk, turn_enum l s1.heap.objs.size (s1.heap.objs.size + 1) (Nat.succ_ne_self _), ⟨⟨_, he⟩, hit⟩, fun b hb => ?_, q⟩
  rcases List.mem_cons.mp hb with rfl | hb
  · exact I1.fpOk hel (I1.hok.fresh hel)
  · have e : b = s1.heap.objs.size := by simpa using hb
    subst e
    exact I1.fpOk (Nat.le_refl _) (I1.hok.fresh (Nat.le_refl _))
end

theorem comp_enum {K : PySem.W.Frag} {a : Addr} {xs : List V} {src : List (Option Nat)} {g : TG} {tt : TT} {te : TE} {Q : VK} {σ : St} {H1 : Hp} {D : Addr} (Pv : Nat → St → Hp → Prop) (h0 : Pv 0 (capOf src σ) (upd H1 D (.lst [])))
    (hl : ∀ i σ1 H2, i ≤ xs.length → Pv i σ1 H2 → SqL K H2 a xs)
    (hs : ∀ i x p σ1 H2, xs[i]? = some x → H2 p = none → Pv i σ1 H2 → g (.ref p) σ1 (upd H2 p (.tup [.int i, x])) fun σ4 H4 => tt σ4 H4 fun b H5 =>
      if b = true then te σ4 H5 fun y H6 => ∃ zs, H6 D = some (.lst zs) ∧ zs.length < sizeLine ∧ Pv (i + 1) σ4 (upd H6 D (.lst (zs ++ [y]))) else Pv (i + 1) σ4 H5)
    (hd : ∀ σ1 H2, Pv xs.length σ1 H2 → Q (.ref D) H2) :
    CompW (Ite K a) src g tt te Q σ H1 D := by
  refine ⟨fun i m σ H => m = xs.length - i ∧ i ≤ xs.length ∧ Pv i σ H, ⟨xs.length, by simp, Nat.zero_le _, h0⟩, ?_⟩
  rintro i m σ1 H2 ⟨rfl, hi, p⟩
  have q := hl i σ1 H2 hi p
  by_cases hlt : i < xs.length
  · refine .inr ⟨⟨xs, xs[i], q, by simp [hlt]⟩, Pv (i + 1), fun σ' H' p' => ⟨xs.length - (i + 1), by (first | lia | omega), rfl, hlt, p'⟩, fun x H' y => ?_⟩
    obtain ⟨pp, v, e1, hn, e2, y⟩ := y
    subst e1 e2
    exact hs i v pp σ1 _ (y xs q) hn p
  · have e : i = xs.length := by (first | lia | omega)
    subst e
    exact .inl ⟨⟨xs, q, Nat.le_refl _⟩, hd σ1 H2 p⟩

/-! ### min(xs), max(xs) of a list of ints -/
theorem ints_of_vals : ∀ {ns : List Int} {vs : List Value}, Vals (ns.map V.int) vs → IntsAre vs ns
  | [], _, .nil => .nil
  | n :: ns, _, .cons ⟨t, e⟩ r => by subst e; exact .cons n t (ints_of_vals r)
section
variable {X : Cx}
end

/-! ### a value as data -/
mutual
inductive Dt (K : PySem.W.Frag) (H : Hp) : V → PyData → Prop
  | non : Dt K H .non .none
  | bl (b : Bool) : Dt K H (.bl b) (.bool b)
  | int (i : Int) : Dt K H (.int i) (.int i)
  | str (x : Str) : Dt K H (.str x) (.str x)
  | lst {a : Addr} {xs : List V} {ds : List PyData} : SqL K H a xs → Dts K H xs ds → Dt K H (.ref a) (.list ds)
  | tup {a : Addr} {xs : List V} {ds : List PyData} : SqT K H a xs → Dts K H xs ds → Dt K H (.ref a) (.tuple ds)
inductive Dts (K : PySem.W.Frag) (H : Hp) : List V → List PyData → Prop
  | nil : Dts K H [] []
  | cons {x : V} {d : PyData} {xs : List V} {ds : List PyData} : Dt K H x d → Dts K H xs ds → Dts K H (x :: xs) (d :: ds)
end
section
variable {X : Cx} {pins : List (Addr × Obj)} {σ : St} {H : Hp} {s : Shared}
mutual
theorem Dt.reads (I : Inv X pins σ H s) : ∀ {v : V} {d : PyData} {u : Value}, Dt X.K H v d → RelV v u → ∃ as, Reads s.heap u d as
  | _, _, _, .non, r => by cases r; exact ⟨_, .none⟩
  | _, _, _, .bl b, r => by cases r; exact ⟨_, .bool b⟩
  | _, _, _, .int i, r => by obtain ⟨t, rfl⟩ := r; exact ⟨_, .int i t⟩
  | _, _, _, .str x, r => by obtain ⟨t, rfl⟩ := r; exact ⟨_, .str x t⟩
  | _, _, _, .lst hq hd, r => by
    cases r
    obtain ⟨its, rv, ⟨o, n, e, c, _, d⟩, _⟩ := I.list hq
    obtain ⟨as, q⟩ := Dts.reads I hd rv
    exact ⟨_, .list e c d (by simpa using q)⟩
  | _, _, _, .tup hq hd, r => by
    cases r
    obtain ⟨its, rv, ⟨o, e, c, n, d⟩, _⟩ := I.tuple hq
    obtain ⟨as, q⟩ := Dts.reads I hd rv
    exact ⟨_, .tuple e c d (by simpa using q)⟩
theorem Dts.reads (I : Inv X pins σ H s) : ∀ {vs : List V} {ds : List PyData} {us : List Value}, Dts X.K H vs ds → Vals vs us → ∃ as, ReadsAll s.heap us ds as
  | _, _, _, .nil, r => by cases r; exact ⟨_, .nil⟩
  | _, _, _, .cons hd hr, r => by
    cases r with
    | cons r1 r2 =>
      obtain ⟨as, q⟩ := Dt.reads I hd r1
      obtain ⟨bs, q2⟩ := Dts.reads I hr r2
      exact ⟨_, .cons q q2⟩
end
/-- == and != of data -/
def rEqD (K : PySem.W.Frag) (neg : Bool) : R2 := fun x y H Q => ∃ dx dy, Dt K H x dx ∧ Dt K H y dy ∧ dx.canLay0 = true ∧ dy.canLay0 = true ∧ min dx.depth dy.depth ≤ 60 ∧ Q (.bl (if neg then !PyData.eqv dx dy else PyData.eqv dx dy)) H
theorem op_eqD (hu : X.A.units + 60 < cLine) : OpR X (compareOp .Eq) (rEqD X.K false) := by
  intro pins s σ H x y v u Q I rx ry h
  obtain ⟨dx, dy, hx, hy, cx, cy, hd, q⟩ := h
  obtain ⟨as, ra⟩ := Dt.reads I hx rx
  obtain ⟨bs, rb⟩ := Dt.reads I hy ry
  exact SeqAt.compareEq_reads ra rb cx cy (by (first | lia | omega)) ⟨.bl _, H, I, rfl, q⟩
theorem op_neD (hu : X.A.units + 60 < cLine) : OpR X (compareOp .NotEq) (rEqD X.K true) := by
  intro pins s σ H x y v u Q I rx ry h
  obtain ⟨dx, dy, hx, hy, cx, cy, hd, q⟩ := h
  obtain ⟨as, ra⟩ := Dt.reads I hx rx
  obtain ⟨bs, rb⟩ := Dt.reads I hy ry
  exact SeqAt.compareNe_reads ra rb cx cy (by (first | lia | omega)) ⟨.bl _, H, I, rfl, q⟩
end

/-! ### isinstance(x, C) -/
section
variable {X : Cx} {x : Str} {p pos np : Pos} {e : Expr} {te : TE} {c : Value}
/-- what a value's class is: built-in kinds, own instances, exceptions -/
inductive TyX (K : PySem.W.Frag) (H : Hp) : V → Value → Prop where
  | of {v : V} {t : Value} : TyOf K H v t → TyX K H v t
  | exc {ea C : Addr} : H ea = some (.ext (excAt ea C)) → ECls K C → TyX K H (.ref ea) (.ref C)
theorem isi_ok {pins : List (Addr × Obj)} {σ : St} {H : Hp} {s : Shared} {v : V} {u t : Value} {b : Bool} {Q : Value → Shared → Prop} {A : Around} {E : Value → Shared → Prop} (I : Inv X pins σ H s) (r : RelV v u) (ty : TyX X.K H v t) (e : PySem.W.kitOne X.K t c = some b) (h : ∀ tk, Q (.bool b) { s with toks := tk }) :
    wpAny (model X.prog X.w) A (call (.builtin "isinstance") [u, c]) Q E s := by
  cases ty with
  | of ty => exact isinst_ok I r ty e h
  | @exc ea C hH hc =>
    cases r
    obtain ⟨hx, _, _⟩ := (show ObjOk X.prog X.w H s.heap ea (.ext (excAt ea C)) from I.hok ea _ hH)
    exact PySem.W.kia_one (kitx_exc hc) I.kIn hx e (fun z => nomatch z) h
def clsV : V → Value
  | .ref a => .ref a
  | .ty n => .type n
  | _ => .none
theorem call_isi : CallR X (.builtin "isinstance") (fun xs H Q => ∃ v cV t b, xs = [v, cV] ∧ TyX X.K H v t ∧ clsV cV ≠ .none ∧ PySem.W.kitOne X.K t (clsV cV) = some b ∧ Q (.bl b) H) := by
  intro pins s σ H xs us Q I r h
  obtain ⟨v, cV, t, b, rfl, ty, nc, ek, q⟩ := h
  obtain ⟨u1, u2, rfl, ru, rc⟩ := r.two
  have ec : u2 = clsV cV := by
    cases cV with
    | ref a => exact rc
    | ty n => exact rc
    | _ => exact absurd rfl nc
  subst ec
  exact isi_ok I ru ty ek fun tk => ⟨.bl b, H, I.tok _, rfl, q⟩
theorem call_isiB {K : PySem.W.Frag} (hK : X.K = K) : CallR X (.builtin "isinstance") (fun xs H Q => ∃ v cV t b, xs = [v, cV] ∧ TyX K H v t ∧ clsV cV ≠ .none ∧ PySem.W.kitOne K t (clsV cV) = some b ∧ Q (.bl b) H) := by subst hK; exact call_isi
end
end L2

set_option Elab.async false
set_option linter.all false
set_option maxRecDepth 100000
set_option maxHeartbeats 4000000
/-! xs.index(v); min of a list of pairs; sorted of ints. -/
namespace L2
open PySem PySem.Spec PyProof.Rows

/-! ### xs.index(v), flat items -/
def rIndex (K : PySem.W.Frag) : V → List V → Hp → VK → Prop := fun x vs H Q => ∃ l xs y j, x = .ref l ∧ vs = [y] ∧ SqL K H l xs ∧ flatV y = true ∧ xs.all flatV = true ∧ j < xs.length ∧ (∀ z, xs[j]? = some z → eqV z y = true) ∧ (∀ (m : Nat) z, m < j → xs[m]? = some z → eqV z y = false) ∧ Q (.int (j : Nat)) H
theorem vals_at : ∀ {xs : List V} {us : List Value} {i : Nat} {u : Value}, Vals xs us → us[i]? = some u → ∃ x, xs[i]? = some x ∧ RelV x u
  | _, _, i, u, .nil, h => by cases i <;> cases h
  | x :: xs, v :: us, 0, u, .cons r t, h => ⟨x, rfl, by cases h; exact r⟩
  | x :: xs, v :: us, i + 1, u, .cons r t, h => by
    have := vals_at (xs := xs) (us := us) (i := i) (u := u) t (by simpa using h)
    simpa using this
theorem flat_at {xs : List V} {i : Nat} {x : V} (f : xs.all flatV = true) (h : xs[i]? = some x) : flatV x = true := List.all_eq_true.mp f x (List.mem_of_getElem? h)
theorem mt_index {X : Cx} : MtM X "list.index" (rIndex X.K) := by
  intro pins s σ H x vs v us Q I rx rv h
  obtain ⟨l, xs, y, j, rfl, rfl, hq, fy, fx, hj, h1, h2, q⟩ := h
  cases rx
  obtain ⟨u, rfl, ru⟩ := rv.one
  obtain ⟨its, r, pl, hz⟩ := I.list hq
  obtain ⟨⟨c, dd, da, sl⟩, n, e, hc, hd, hda⟩ := pl
  simp only at hc hd hda
  subst hc hd hda
  have hlen := r.length
  have hn := line63
  have hji : j < its.toArray.size := by rw [List.size_toArray]; (first | lia | omega)
  refine call_meets PySem.F.slot_list_index ⟨_, e, rfl⟩ PySem.F.entry_list_index (PySem.F.args_list_index_2 _ _) (SeqAt.list_indexAt l its.toArray n none sl u (eqU y) j hji (by (first | lia | omega)) ?_ ?_)
    ⟨e, fun w hw => mem_eqAt ru fy r fx w (by simpa using hw), ⟨.int j, H, I.tok _, ⟨_, rfl⟩, q⟩⟩
  · obtain ⟨z, hz1, rz⟩ := vals_at r (i := j) (u := its.toArray[j]) (by simp)
    rw [eqU_of rz (flat_at fx hz1)]
    exact h1 z hz1
  · intro m hm hmj
    obtain ⟨z, hz1, rz⟩ := vals_at r (i := m) (u := its.toArray[m]) (by simp)
    rw [eqU_of rz (flat_at fx hz1)]
    exact h2 m z hmj hz1

/-! ### min(xs) where the items are compared by what the heap holds -/
section
variable {prog : Program} {w : World} {A : Around} {R : Result → Shared → Prop} {I S : Addr} {fp wr : List Addr} {n : Nat} {P : Nat → Value → Prop} {St : Nat → Heap → Prop} {bt : Nat → Nat → Bool} {G : Heap → Prop}
/-- the items' order, over the heaps G -/
def CmpG (prog : Program) (w : World) (A : Around) (P : Nat → Value → Prop) (G : Heap → Prop) (bt : Nat → Nat → Bool) : Prop :=
  ∀ i j vi vj (s : Shared) (Q : Value → Shared → Prop) (E : Value → Shared → Prop), G s.heap → P i vi → P j vj → Q (.bool (bt i j)) s → wpAny (model prog w) A (richCompare .Lt vi vj) Q E s
def bestAt (S : Addr) (vb : Value) (h : Heap) : Prop := ∃ c, h.get? S = some { cls := .type "list", dict := none, data := .seq #[vb, vb] c, slots := #[] }
theorem min_turns (W : Walks prog w A.in1 I fp wr n P St) (hc : CmpG prog w A.in1 P G bt) (hSf : S ∉ fp) (gk : ∀ h h' : Heap, G h → (∀ b o, b ∉ wr → b ≠ S → h.get? b = some o → h'.get? b = some o) → G h') :
    ∀ (k j : Nat) (s : Shared) (vb : Value), n - (j + 1) = k → j + 1 ≤ n → G s.heap → St (j + 1) s.heap → P (argBest bt j) vb → bestAt S vb s.heap →
    (∀ v h' tk, P (argBest bt (n - 1)) v → (∀ b o, b ∉ wr → b ≠ S → s.heap.get? b = some o → h'.get? b = some o) → R (.ok (.ret v)) { s with heap := h', toks := tk }) →
    codeAny (model prog w) A (.builtin "min.loop" ⟨[.ref I, .none, .ref S], []⟩) R s := by
  have hw : S ∉ wr := fun z => hSf (W.sub S z)
  have nm : (toString "min" ++ toString ".loop" : String) = "min.loop" := by decide
  intro k
  induction k with
  | zero =>
    rintro j s vb hk hj hg st pb ⟨c, hS⟩ fin
    have e : j + 1 = n := by (first | lia | omega)
    subst e
    refine codeAny_builtin PySem.F.entry_min_loop ?_; rw [Around.under_plainId PySem.F.plain_min_loop _]
    show wpAny _ A.in1 (seqItems? (.ref S) >>= _) _ _ _; refine wpAny_bind (wpAny_seqItems hS rfl ?_)
    show wpAny _ A.in1 (tryCatch (pyNext (.ref I)) _ >>= _) _ _ _; refine wpAny_bind (wpAny_tryCatch (W.done s _ _ st fun h1 tk k1 => ?_))
    show wpAny _ A.in1 (updateSeq S (fun _ => #[]) >>= _) _ _ _; refine wpAny_bind (wpAny_updateSeq (k1 S _ hw hS) rfl (wpAny_bind (wpAny_letGo (wpAny_pure ?_))))
    exact fin vb _ tk pb fun b o h1' h2' q => (Heap.get?_update_other _ _ (Ne.symm h2')).trans (k1 b o h1' q)
  | succ k ih =>
    rintro j s vb hk hj hg st pb ⟨c, hS⟩ fin
    have hlt : j + 1 < n := by (first | lia | omega)
    refine codeAny_builtin PySem.F.entry_min_loop ?_; rw [Around.under_plainId PySem.F.plain_min_loop _]
    show wpAny _ A.in1 (seqItems? (.ref S) >>= _) _ _ _; refine wpAny_bind (wpAny_seqItems hS rfl ?_)
    show wpAny _ A.in1 (tryCatch (pyNext (.ref I)) _ >>= _) _ _ _; refine wpAny_bind (wpAny_tryCatch (W.item (j + 1) s _ _ hlt st fun v h1 tk pv st1 k1 => ?_))
    have hg1 : G h1 := gk _ _ hg fun b o hb _ q => k1 b o hb q
    have hS1 := k1 S _ hw hS
    show wpAny _ A.in1 (tryCatch (holding [v, v] (richCompare .Lt v vb >>= _)) _ >>= _) _ _ _; refine wpAny_bind (wpAny_tryCatch (wpAny_holding (wpAny_bind (hc (j + 1) (argBest bt j) v vb _ _ _ hg1 pv pb ?_))))
    refine wpAny_bind (wpAny_holding (wpAny_truthy_bool (wpAny_bind (wpAny_letGo (wpAny_pure ?_)))))
    cases hb : bt (j + 1) (argBest bt j) with
    | true =>
      simp only [if_true]
      refine wpAny_bind (wpAny_updateSeq hS1 rfl (wpAny_bind (wpAny_letGo ?_)))
      rw [nm]
      have kk : ∀ b o, b ∉ wr → b ≠ S → s.heap.get? b = some o → (h1.update S (Obj.mapSeq fun _ => #[v, v])).get? b = some o := fun b o x1 x2 q => (Heap.get?_update_other _ _ (Ne.symm x2)).trans (k1 b o x1 q)
      refine wpAny_pure ⟨plainId_quiet PySem.F.plain_min_loop _, ih (j + 1) _ v (by (first | lia | omega)) hlt (gk _ _ hg kk) (W.frame _ _ _ st1 fun b hbf o q => ?_) (by simp only [argBest, hb, if_true]; exact pv) ⟨_, Heap.get?_update_self _ hS1 rfl⟩ fun v' h'' tk'' p' k'' => ?_⟩
      · exact (Heap.get?_update_other _ _ (fun z : S = b => hSf (by rw [z]; exact hbf))).trans q
      · exact fin v' h'' tk'' p' fun b o x1 x2 q => k'' b o x1 x2 (kk b o x1 x2 q)
    | false =>
      simp only [Bool.false_eq_true, if_false]
      refine wpAny_bind (wpAny_letGo ?_)
      rw [nm]
      refine wpAny_pure ⟨plainId_quiet PySem.F.plain_min_loop _, ih (j + 1) _ vb (by (first | lia | omega)) hlt hg1 st1 (by simp only [argBest, hb, Bool.false_eq_true, if_false]; exact pb) ⟨c, hS1⟩ fun v' h'' tk'' p' k'' => ?_⟩
      exact fin v' h'' tk'' p' fun b o x1 x2 q => k'' b o x1 x2 (k1 b o x1 q)
theorem min_starts (W : Walks prog w A.in1 I fp wr n P St) (hc : CmpG prog w A.in1 P G bt) (hSf : S ∉ fp) (gk : ∀ h h' : Heap, G h → (∀ b o, b ∉ wr → b ≠ S → h.get? b = some o → h'.get? b = some o) → G h') (hn : 0 < n) {s : Shared} {c : Nat}
    (hg : G s.heap) (st : St 0 s.heap) (hS : s.heap.get? S = some { cls := .type "list", dict := none, data := .seq #[] c, slots := #[] })
    (fin : ∀ v h' tk, P (argBest bt (n - 1)) v → (∀ b o, b ∉ wr → b ≠ S → s.heap.get? b = some o → h'.get? b = some o) → R (.ok (.ret v)) { s with heap := h', toks := tk }) :
    codeAny (model prog w) A (.builtin "min.loop" ⟨[.ref I, .none, .ref S], []⟩) R s := by
  have hw : S ∉ wr := fun z => hSf (W.sub S z)
  have nm : (toString "min" ++ toString ".loop" : String) = "min.loop" := by decide
  refine codeAny_builtin PySem.F.entry_min_loop ?_; rw [Around.under_plainId PySem.F.plain_min_loop _]
  show wpAny _ A.in1 (seqItems? (.ref S) >>= _) _ _ _; refine wpAny_bind (wpAny_seqItems hS rfl ?_)
  show wpAny _ A.in1 (tryCatch (pyNext (.ref I)) _ >>= _) _ _ _; refine wpAny_bind (wpAny_tryCatch (W.item 0 s _ _ hn st fun v h1 tk pv st1 k1 => ?_))
  have hS1 := k1 S _ hw hS
  show wpAny _ A.in1 (updateSeq S (fun _ => #[v, v]) >>= _) _ _ _; refine wpAny_bind (wpAny_updateSeq hS1 rfl ?_)
  rw [nm]
  have kk : ∀ b o, b ∉ wr → b ≠ S → s.heap.get? b = some o → (h1.update S (Obj.mapSeq fun _ => #[v, v])).get? b = some o := fun b o x1 x2 q => (Heap.get?_update_other _ _ (Ne.symm x2)).trans (k1 b o x1 q)
  refine wpAny_pure ⟨plainId_quiet PySem.F.plain_min_loop _, min_turns W hc hSf gk _ 0 _ v rfl hn (gk _ _ hg kk) (W.frame _ _ _ st1 fun b hbf o q => ?_) pv ⟨_, Heap.get?_update_self _ hS1 rfl⟩ fun v' h'' tk'' p' k'' => ?_⟩
  · exact (Heap.get?_update_other _ _ (fun z : S = b => hSf (by rw [z]; exact hbf))).trans q
  · exact fin v' h'' tk'' p' fun b o x1 x2 q => k'' b o x1 x2 (kk b o x1 x2 q)
end
/-- min of the list at l: by the order bt of the places -/
theorem call_min_list {prog : Program} {w : World} {A : Around} {E : Value → Shared → Prop} {s : Shared} {l : Addr} {vs : Array Value} {bt : Nat → Nat → Bool} {Q : Value → Shared → Prop} (hh : A.handled = none) (hl : s.heap.IsList l vs) (hne : 0 < vs.size)
    (hc : ∀ (h0 : Heap), (∀ b o, s.heap.get? b = some o → h0.get? b = some o) → ∀ i j vi vj (s' : Shared) (Q : Value → Shared → Prop) (E : Value → Shared → Prop), s'.heap = h0 → vs[i]? = some vi → vs[j]? = some vj → Q (.bool (bt i j)) s' → wpAny (model prog w) A.in1 (richCompare .Lt vi vj) Q E s')
    (h : ∀ v h' tk, vs[argBest bt (vs.size - 1)]? = some v → (∀ b o, s.heap.get? b = some o → h'.get? b = some o) → Q v { s with heap := h', toks := tk }) :
    wpAny (model prog w) A (call (.builtin "min") [.ref l]) Q E s := by
  have nm : (toString "min" ++ toString ".loop" : String) = "min.loop" := by decide
  have hlt : (l : Nat) < s.heap.objs.size := by obtain ⟨_, e, _⟩ := hl; exact Heap.lt_size e
  refine call_function_tree PySem.F.kind_min PySem.F.plain_min PySem.F.entry_min (PySem.F.args_min1 _) ?_
  show wpAny _ A.in1 (Builtin.Builtins.bindParams "min" ["key", "default"] 0 ⟨[], []⟩ >>= _) _ _ _
  refine wpAny_bind (wpAny_of_eq (show Builtin.Builtins.bindParams "min" ["key", "default"] 0 ⟨[], []⟩ = pure [none, none] from rfl) (wpAny_bind (wpAny_pure ?_)))
  refine wpAny_bind (wpAny_pyIter_list hl (wpAny_bind (wpAny_newObj_type ?_)))
  rw [nm]
  have e1 : ∀ b o, s.heap.get? b = some o → (s.heap.push { cls := .type "list_iterator", data := .fields #[.ref l, .int 0 0] }).get? b = some o := fun b o q => Heap.get?_push_of_some _ q
  have hsz : (s.heap.push { cls := .type "list_iterator", data := .fields #[.ref l, .int 0 0] }).objs.size = s.heap.objs.size + 1 := Heap.size_push ..
  refine wpAny_pure ⟨plainId_quiet PySem.F.plain_min_loop _, min_starts (G := fun h0 => ∀ b o, s.heap.get? b = some o → h0.get? b = some o) (S := (s.heap.push { cls := .type "list_iterator", data := .fields #[.ref l, .int 0 0] }).objs.size)
    (Walks.list (A := A.in1) hh s.heap.objs.size l (Nat.ne_of_lt hlt) vs) (fun i j vi vj s' Q E g p1 p2 q => hc s'.heap g i j vi vj s' Q E rfl p1 p2 q) ?_ ?_ hne ?_ ⟨?_, ?_⟩ (Heap.get?_push_size _ rfl) ?_⟩
  · intro z
    rw [hsz] at z
    rcases List.mem_cons.mp z with z | z
    · have z : (_ : Nat) = (_ : Nat) := z; (first | lia | omega)
    · rcases List.mem_cons.mp z with z | z
      · have z : (_ : Nat) = (_ : Nat) := z; have hl2 : (_ : Nat) < (_ : Nat) := hlt; (first | lia | omega)
      · cases z
  · intro h0 h1 g k b o q
    refine k b o (fun z => ?_) (fun z => ?_) (g b o q)
    · have : (_ : Nat) < (_ : Nat) := Heap.lt_size q
      rcases List.mem_cons.mp z with z | z
      · have z : (_ : Nat) = (_ : Nat) := z; (first | lia | omega)
      · cases z
    · have : (_ : Nat) < (_ : Nat) := Heap.lt_size q
      rw [hsz] at z
      have z : (_ : Nat) = (_ : Nat) := z; (first | lia | omega)
  · exact fun b o q => Heap.get?_push_of_some _ (e1 b o q)
  · exact ⟨_, Heap.get?_push_of_some _ (Heap.get?_push_size _ rfl), rfl, rfl⟩
  · exact (hl.push _).push _
  · intro v h' tk p k
    refine h v h' tk p fun b o q => k b o (fun z => ?_) (fun z => ?_) (Heap.get?_push_of_some _ (e1 b o q))
    · have : (_ : Nat) < (_ : Nat) := Heap.lt_size q
      rcases List.mem_cons.mp z with z | z
      · have z : (_ : Nat) = (_ : Nat) := z; (first | lia | omega)
      · cases z
    · have : (_ : Nat) < (_ : Nat) := Heap.lt_size q
      rw [hsz] at z
      have z : (_ : Nat) = (_ : Nat) := z; (first | lia | omega)
/-- pairs of ints, by the first, then by the second -/
def pLt (a b : Int × Int) : Bool := decide (a.1 < b.1) || (decide (a.1 = b.1) && decide (a.2 < b.2))
def pL (a : Int × Int) : List Int := [a.1, a.2]
theorem lex_p (a b : Int × Int) : HT.lexLt (pL a) (pL b) = pLt a b := by
  unfold pL pLt
  rw [HT.lexLt_cons, HT.lexLt_cons, HT.lexLt_nil_nil]
  by_cases h : a.1 = b.1
  · rw [if_pos h]
    by_cases h2 : a.2 = b.2
    · rw [if_pos h2]; simp [h, h2]
    · rw [if_neg h2]; simp [h]
  · rw [if_neg h]; simp [h]
theorem pLt_iff (a b : Int × Int) : pLt a b = true ↔ a.1 < b.1 ∨ (a.1 = b.1 ∧ a.2 < b.2) := by
  unfold pLt
  simp
theorem pLt_not (a b : Int × Int) : pLt a b = false ↔ b.1 < a.1 ∨ (a.1 = b.1 ∧ b.2 ≤ a.2) := by
  rw [Bool.eq_false_iff, Ne, pLt_iff]
  (first | lia | omega)
theorem best_p (f : Nat → Int × Int) : ∀ k, argBest (fun i j => pLt (f i) (f j)) k ≤ k ∧ ∀ j, j ≤ k → pLt (f j) (f (argBest (fun i j => pLt (f i) (f j)) k)) = false
  | 0 => ⟨Nat.le_refl _, fun j hj => by
      have e : j = 0 := by (first | lia | omega)
      subst e
      rw [pLt_not]; exact .inr ⟨rfl, Int.le_refl _⟩⟩
  | k + 1 => by
    obtain ⟨h1, h2⟩ := best_p f k
    simp only [argBest]
    by_cases hb : pLt (f (k + 1)) (f (argBest (fun i j => pLt (f i) (f j)) k)) = true
    · rw [if_pos hb]
      refine ⟨Nat.le_refl _, fun j hj => ?_⟩
      by_cases e : j = k + 1
      · subst e; rw [pLt_not]; exact .inr ⟨rfl, Int.le_refl _⟩
      · have := h2 j (by (first | lia | omega))
        rw [pLt_not] at this ⊢
        rw [pLt_iff] at hb
        (first | lia | omega)
    · rw [if_neg hb]
      refine ⟨by (first | lia | omega), fun j hj => ?_⟩
      by_cases e : j = k + 1
      · subst e; exact Bool.eq_false_iff.mpr hb
      · exact h2 j (by (first | lia | omega))
/-- the list at p holds refs to the pairs ps -/
def PairsAt (K : PySem.W.Frag) (H : Hp) (ts : List Addr) (ps : List (Int × Int)) : Prop := ts.length = ps.length ∧ ∀ (i : Nat) a m, ts[i]? = some a → ps[i]? = some m → H a = some (.tup [.int m.1, .int m.2])
theorem call_minT {X : Cx} (hc : X.calm = true) (hu : X.A.units + 60 < cLine) : CallR X (.builtin "min") (fun xs H Q => ∃ (p : Addr) (ts : List Addr) (ps : List (Int × Int)), xs = [.ref p] ∧ SqL X.K H p (ts.map V.ref) ∧ PairsAt X.K H ts ps ∧ ts ≠ [] ∧
    ∀ (i : Nat) (a : Addr) (m : Int × Int), ts[i]? = some a → ps[i]? = some m → (∀ m' ∈ ps, pLt m' m = false) → Q (.ref a) H) := by
  intro pins s σ H xs us Q I r h
  obtain ⟨p, ts, ps, rfl, hq, ⟨hlen, hp⟩, hne, q⟩ := h
  obtain ⟨u, rfl, ru⟩ := r.one
  cases ru
  obtain ⟨its, rv, pl, hz⟩ := I.list hq
  have hit : its.length = ts.length := by rw [← rv.length, List.length_map]
  have hpos : 0 < ts.length := List.length_pos_iff.mpr hne
  have item : ∀ (i : Nat) v, its.toArray[i]? = some v → ∃ a m, v = .ref a ∧ ts[i]? = some a ∧ ps[i]? = some m := fun i v e => by
    have e : its[i]? = some v := by simpa using e
    obtain ⟨x, hx, rx⟩ := vals_at rv e
    rw [List.getElem?_map] at hx
    cases ha : ts[i]? with
    | none => rw [ha] at hx; cases hx
    | some a =>
      rw [ha] at hx
      cases hx
      have hi : i < ps.length := by rw [← hlen]; exact (List.getElem?_eq_some_iff.mp ha).1
      exact ⟨a, ps[i], rx, rfl, List.getElem?_eq_getElem hi⟩
  refine call_min_list (bt := fun i j => pLt (ps.getD i (0, 0)) (ps.getD j (0, 0))) (I.ok.hd hc) pl.isList (by rw [List.size_toArray]; (first | lia | omega)) ?_ fun v h' tk hv hk => ?_
  · intro h0 k0 i j vi vj s' Q' E' e0 h1 h2 q'
    obtain ⟨a, m, rfl, ha, hm⟩ := item i vi h1
    obtain ⟨b, m2, rfl, hb, hm2⟩ := item j vj h2
    obtain ⟨_, ia, ra, ta⟩ := I.hok a _ (hp i a m ha hm)
    obtain ⟨_, ib, rb, tb⟩ := I.hok b _ (hp j b m2 hb hm2)
    have kt : ∀ {x : Addr} {z : Array Value}, IsTup s.heap x z → IsTup s'.heap x z := fun ⟨o, e, r⟩ => ⟨o, by rw [e0]; exact k0 _ _ e, r⟩
    have c1 : IntsAre ia.toArray.toList (pL m) := intsAre_of ra
    have c2 : IntsAre ib.toArray.toList (pL m2) := intsAre_of rb
    refine HT.lt_tupInts (kt ta) (kt tb) c1 c2 (show X.A.units + 1 < cLine by (first | lia | omega)) ?_
    rw [lex_p]
    simp only [List.getD, hm, hm2, Option.getD_some] at q'
    exact q'
  · obtain ⟨h1, h2⟩ := best_p (fun i => ps.getD i (0, 0)) (its.toArray.size - 1)
    obtain ⟨a, m, rfl, ha, hm⟩ := item _ v hv
    refine ⟨.ref a, H, I.kept (t' := tk) hk, rfl, q _ a m ha hm fun m' hm' => ?_⟩
    obtain ⟨j, hj, e⟩ := List.mem_iff_getElem.mp hm'
    have h3 : pLt (ps.getD j (0, 0)) (ps.getD _ (0, 0)) = false := h2 j (by rw [List.size_toArray]; (first | lia | omega))
    have e1 : ps.getD j (0, 0) = m' := by simp [List.getD, List.getElem?_eq_getElem hj, e]
    have e2 : ps.getD (argBest (fun i j => pLt (ps.getD i (0, 0)) (ps.getD j (0, 0))) (its.toArray.size - 1)) (0, 0) = m := by rw [List.getD_eq_getElem?_getD, hm]; rfl
    rw [e1, e2] at h3
    exact h3

/-! ### sorted(xs) of ints -/
theorem vals_of_ints : ∀ {vs : List Value} {ns : List Int}, IntsAre vs ns → Vals (ns.map V.int) vs
  | _, _, .nil => .nil
  | _, _, .cons n t r => .cons ⟨t, rfl⟩ (vals_of_ints r)
end L2

set_option Elab.async false
set_option linter.all false
set_option maxRecDepth 100000
set_option maxHeartbeats 4000000
namespace L2
open PySem PySem.W PySem.Spec PyProof.Rows
/-! THE SORT, over a pure order of the places: KasT's tree ends with the places in order. -/
section
variable {α β : Type} {lt : Nat → Nat → Bool} {n : Nat}
end
section
variable {prog : Program} {w : World} {A : Around} {E : Value → Shared → Prop} {s : Shared} {a : Addr} {vs : List Value} {lt : Nat → Nat → Bool}
end
end L2

set_option Elab.async false
set_option linter.all false
set_option maxRecDepth 100000
set_option maxHeartbeats 4000000
/-! range as a value, list of it; calls that raise nothing here. -/
namespace L2
open PySem PySem.Spec PyProof.Rows
/-- what would be raised is shown not to be -/
theorem passF {X : Cx} : Passes (CXF X.prog X.w) X (fun _ _ _ => False) := fun _ _ _ _ _ _ _ ⟨_, _, _, _, _, _, _, z⟩ => z.elim
theorem boot_rangeT : bootBuiltins "range" = some (.type "range") := by decide +kernel
theorem call_rangeV {X : Cx} : CallR X (.type "range") (fun xs H Q => ∃ j : Int, xs = [.int j] ∧ ∀ r : Addr, H r = none → Q (.ref r) (upd H r (.rng 0 j))) := by
  intro pins s σ H xs us Q I r h
  obtain ⟨j, rfl, q⟩ := h
  obtain ⟨u, rfl, t, rfl⟩ := r.one
  refine call_range_1 ⟨.ref s.heap.objs.size, _, I.laid (t' := s.toks + 1 + 1) (o := .rng 0 j) (fun b o q => Heap.get?_push_of_some _ q) (Nat.le_refl _) ⟨_, _, _, Heap.get?_push_size _ rfl⟩, rfl, q _ (I.hok.fresh (Nat.le_refl _))⟩
theorem items_vals {acc : Array Value} {n : Nat} (h : ItemsOf (fun i v => ∃ t, v = .int (0 + (i : Int) * 1) t) acc n) : Vals ((List.range n).map fun i : Nat => V.int i) acc.toList := by
  obtain ⟨hs, hi⟩ := h
  have go : ∀ (m : Nat), m ≤ n → Vals ((List.range' (n - m) m).map fun i : Nat => V.int i) (acc.toList.drop (n - m)) := by
    intro m
    induction m with
    | zero => intro _; rw [Nat.sub_zero, List.drop_eq_nil_of_le (by rw [Array.length_toList]; (first | lia | omega))]; exact .nil
    | succ m ih =>
      intro hm
      have hlt : n - (m + 1) < acc.toList.length := by rw [Array.length_toList]; (first | lia | omega)
      rw [List.drop_eq_getElem_cons hlt, List.range'_succ, List.map_cons, show n - (m + 1) + 1 = n - m by (first | lia | omega)]
      refine .cons ?_ (ih (by (first | lia | omega)))
      obtain ⟨t, e⟩ := hi (n - (m + 1)) _ (Array.getElem?_eq_getElem (by (first | lia | omega)))
      refine ⟨t, ?_⟩
      rw [Array.getElem_toList, e]
      congr 1
      (first | lia | omega)
  have := go n (Nat.le_refl _)
  rw [Nat.sub_self, List.drop_zero] at this
  rw [List.range_eq_range']
  exact this
theorem call_list_rng {X : Cx} (hc : X.calm = true) : CallR X (.type "list") (fun xs H Q => ∃ (r : Addr) (n : Int), xs = [.ref r] ∧ H r = some (.rng 0 n) ∧ 0 ≤ n ∧ n ≤ 1000 ∧ ∀ l : Addr, H l = none → Q (.ref l) (upd H l (.lst ((List.range n.toNat).map fun i : Nat => V.int i)))) := by
  intro pins s σ H xs us Q I r h
  obtain ⟨r0, n, rfl, hr, h0, h1, q⟩ := h
  obtain ⟨u, rfl, ru⟩ := r.one
  cases ru
  obtain ⟨t, u, v, e⟩ := I.hok r0 _ hr
  have hsl : (1000 : Nat) ≤ sizeLine := by decide
  refine call_list_range (n := n.toNat) (I.ok.hd hc) (show IsRange s.heap r0 0 n 1 t u v from e) ?_ ?_ (by (first | lia | omega)) fun h' tk acc c k e2 it => ?_
  · exact small_one (by (first | lia | omega)) (by (first | lia | omega)) (by (first | lia | omega)) (by (first | lia | omega))
  · rw [rangeSize_one]; split <;> (first | lia | omega)
  · refine ⟨.ref s.heap.objs.size, _, I.laid (t' := tk) (o := .lst ((List.range n.toNat).map fun i : Nat => V.int i)) k (Nat.le_refl _) ⟨by simp; (first | lia | omega), acc.toList, c, items_vals it, by rw [e2, Array.toArray_toList]⟩, rfl, q _ (I.hok.fresh (Nat.le_refl _))⟩
end L2

set_option Elab.async false
set_option linter.all false
set_option maxRecDepth 100000
set_option maxHeartbeats 4000000
/-! texts: slices, startswith. -/
namespace L2
open PySem PySem.Spec PyProof.Rows
/-! ### len within a try; a def that is called while an exception is handled -/
section
variable {P : Program} {w : World} {K : PySem.W.Frag} {mg : Str → Option Value} {base : Heap} {N ps : List Str} {qual : Str} {scope : Scope} {f : Addr} {cd : Value} {A : Around} {outer : List Env} {s s1 : Shared} {H : Hp} {E : XK}
end
end L2

set_option Elab.async false
set_option linter.all false
set_option maxRecDepth 100000
set_option maxHeartbeats 4000000
/-! texts: walked sign by sign; joined; read as a number; all(list). -/
namespace L2
open PySem PySem.Spec PyProof.Rows
section
variable {P : Program} {w : World} {K : PySem.W.Frag} {tg : Expr} {z : Str} {t : Tok} {it : Addr} {ty : String}
end
section
variable {X : Cx} {tg : Expr}
end
/-! ### int(text), sep.join(list), all(list) -/
end L2

set_option Elab.async false
set_option linter.all false
set_option maxRecDepth 100000
namespace L2
open PySem PySem.Spec PyProof.Rows
/-! ### lists of pairs as tables -/
section
variable {κ : Type} [DecidableEq κ]
def valV (kvs : List (κ × V)) (k : κ) : Option V := (kvs.find? fun kv => decide (kv.1 = k)).map (·.2)
/-- in its place, or at the end -/
def putK (kvs : List (κ × V)) (k : κ) (v : V) : List (κ × V) :=
  if (kvs.any fun kv => decide (kv.1 = k)) = true then kvs.map (fun kv => if kv.1 = k then (kv.1, v) else kv) else kvs ++ [(k, v)]

theorem valV_pos {p : κ × V} {r : List (κ × V)} {k : κ} (e : p.1 = k) : valV (p :: r) k = some p.2 := by simp [valV, List.find?_cons, e]
theorem valV_neg {p : κ × V} {r : List (κ × V)} {k : κ} (e : ¬ p.1 = k) : valV (p :: r) k = valV r k := by simp [valV, List.find?_cons, e]
theorem valV_any (k : κ) : ∀ kvs : List (κ × V), (kvs.any fun kv => decide (kv.1 = k)) = (valV kvs k).isSome
  | [] => rfl
  | p :: r => by
    rw [List.any_cons]
    by_cases e : p.1 = k
    · simp only [valV_pos e, decide_eq_true e, Bool.true_or, Option.isSome_some]
    · rw [valV_neg e, decide_eq_false e, Bool.false_or]; exact valV_any k r
theorem length_putK (kvs : List (κ × V)) (k : κ) (v : V) : (putK kvs k v).length ≤ kvs.length + 1 := by
  unfold putK
  split
  · rw [List.length_map]; (first | lia | omega)
  · rw [List.length_append, List.length_cons, List.length_nil]; (first | lia | omega)
theorem putK_new {kvs : List (κ × V)} {k : κ} (v : V) (h : valV kvs k = none) : putK kvs k v = kvs ++ [(k, v)] := by
  unfold putK
  rw [valV_any, h]
  exact if_neg (by decide)

theorem RelO.isSome_eq {o : Option V} {u : Option Value} (r : RelO o u) : o.isSome = u.isSome := by
  cases o with
  | none => cases u with
    | none => rfl
    | some _ => exact (show False from r).elim
  | some _ => cases u with
    | none => exact (show False from r).elim
    | some _ => rfl

/-- raw tables of the same keys -/
theorem KV.val {kvs : List (κ × V)} {vs : List (κ × Value)} (r : KV kvs vs) (k : κ) : RelO (valV kvs k) (valueAt vs k) := by
  unfold KV at r
  induction r with
  | nil => exact True.intro
  | @cons p q ps qs h t ih =>
    obtain ⟨h1, h2⟩ := h
    by_cases e : p.1 = k
    · have e' : q.1 = k := h1.symm.trans e
      have b : valueAt (q :: qs) k = some q.2 := by simp [valueAt, List.find?_cons, e']
      rw [valV_pos e, b]; exact h2
    · have e' : ¬ q.1 = k := fun z => e (h1.trans z)
      have b : valueAt (q :: qs) k = valueAt qs k := by simp [valueAt, List.find?_cons, e']
      rw [valV_neg e, b]; exact ih
theorem KV.any {kvs : List (κ × V)} {vs : List (κ × Value)} (r : KV kvs vs) (k : κ) : (kvs.any fun kv => decide (kv.1 = k)) = vs.any fun kv => decide (kv.1 = k) := by
  unfold KV at r
  induction r with
  | nil => rfl
  | cons h t ih => rw [List.any_cons, List.any_cons, ih, h.1]
theorem KV.repl {kvs : List (κ × V)} {vs : List (κ × Value)} (r : KV kvs vs) (k : κ) {y : V} {u : Value} (ry : RelV y u) :
    KV (kvs.map fun kv => if kv.1 = k then (kv.1, y) else kv) (vs.map fun kv => if kv.1 = k then (kv.1, u) else kv) := by
  unfold KV at r ⊢
  induction r with
  | nil => exact .nil
  | @cons p q ps qs h t ih =>
    rw [List.map_cons, List.map_cons]
    refine .cons ?_ ih
    obtain ⟨h1, h2⟩ := h
    by_cases e : p.1 = k
    · rw [if_pos e, if_pos (h1.symm.trans e)]; exact ⟨h1, ry⟩
    · rw [if_neg e, if_neg (fun z => e (h1.trans z))]; exact ⟨h1, h2⟩
theorem KV.put {kvs : List (κ × V)} {vs : List (κ × Value)} (r : KV kvs vs) (k : κ) {y : V} {u : Value} (ry : RelV y u) : KV (putK kvs k y) (stored vs k u) := by
  unfold putK stored
  rw [r.any k]
  by_cases e : (vs.any fun kv => decide (kv.1 = k)) = true
  · rw [if_pos e, if_pos e]; exact r.repl k ry
  · rw [if_neg e, if_neg e]; exact Paired.snoc r ⟨rfl, ry⟩
theorem KV.length {kvs : List (κ × V)} {vs : List (κ × Value)} (r : KV kvs vs) : kvs.length = vs.length := Paired.length r
end


/-! ### a tracked dict, its keys ints and texts or tuples of these -/
theorem kV_is {P : Program} {w : World} {k : Key} {u : Value} (r : RelV (kV k) u) : (mixKind P w).is k u = true := by
  cases k with
  | inl i => obtain ⟨t, e⟩ := (show ∃ t, u = Value.int i t from r); subst e; exact mixKind_int P w i t
  | inr x => obtain ⟨t, e⟩ := (show ∃ t, u = Value.str x t from r); subst e; exact mixKind_str P w x t
theorem items_are {P : Program} {w : World} : ∀ {ks : List Key} {us : List Value}, Vals (ks.map kV) us → ItemsAre (mixKind P w) ks us
  | [], _, r => by rw [List.map_nil] at r; cases r; exact .nil
  | k :: ks, _, r => by
    rw [List.map_cons] at r
    cases r with
    | cons h t => exact .cons (kV_is h) (items_are t)

/-- raw entries of a dict with tuple keys -/
abbrev KT (H : Hp) : List (List Key × V) → List (List Key × Addr × Value) → Prop := Paired fun p q => p.1 = q.1 ∧ H q.2.1 = some (.tup (p.1.map kV)) ∧ RelV p.2 q.2.2
theorem KT.val {H : Hp} {kvs : List (List Key × V)} {xs : List (List Key × Addr × Value)} (r : KT H kvs xs) (k : List Key) : RelO (valV kvs k) ((atKey xs k).map (·.2)) := by
  induction r with
  | nil => exact True.intro
  | @cons p q ps qs h t ih =>
    obtain ⟨h1, _, h2⟩ := h
    by_cases e : p.1 = k
    · have e' : q.1 = k := h1.symm.trans e
      have b : atKey (q :: qs) k = some q.2 := by simp [atKey, List.find?_cons, e']
      rw [valV_pos e, b]; exact h2
    · have e' : ¬ q.1 = k := fun z => e (h1.trans z)
      have b : atKey (q :: qs) k = atKey qs k := by simp [atKey, List.find?_cons, e']
      rw [valV_neg e, b]; exact ih
theorem KT.repl {H : Hp} {kvs : List (List Key × V)} {xs : List (List Key × Addr × Value)} (r : KT H kvs xs) (k : List Key) {y : V} {u : Value} (ry : RelV y u) :
    KT H (kvs.map fun kv => if kv.1 = k then (kv.1, y) else kv) (xs.map (putAt k u)) := by
  induction r with
  | nil => exact .nil
  | @cons p q ps qs h t ih =>
    rw [List.map_cons, List.map_cons]
    refine .cons ?_ ih
    obtain ⟨h1, h2, h3⟩ := h
    unfold putAt
    by_cases e : p.1 = k
    · rw [if_pos e, if_pos (h1.symm.trans e)]; exact ⟨h1, h2, ry⟩
    · rw [if_neg e, if_neg (fun z => e (h1.trans z))]; exact ⟨h1, h2, h3⟩
theorem KT.put {H : Hp} {kvs : List (List Key × V)} {xs : List (List Key × Addr × Value)} (r : KT H kvs xs) (k : List Key) {b : Addr} {y : V} {u : Value} (hb : H b = some (.tup (k.map kV))) (ry : RelV y u) :
    KT H (putK kvs k y) (storedH xs k b u) := by
  have e : (kvs.any fun kv => decide (kv.1 = k)) = (atKey xs k).isSome := by
    rw [valV_any, (r.val k).isSome_eq, Option.isSome_map]
  unfold putK storedH
  rw [e]
  by_cases q : (atKey xs k).isSome = true
  · rw [if_pos q, if_pos q]; exact r.repl k ry
  · rw [if_neg q, if_neg q]; exact Paired.snoc r ⟨rfl, hb, ry⟩
theorem KT.keeps {H H' : Hp} {kvs : List (List Key × V)} {xs : List (List Key × Addr × Value)} (r : KT H kvs xs) (ht : ∀ b ys, H b = some (.tup ys) → H' b = some (.tup ys)) : KT H' kvs xs :=
  Paired.mapP r fun _ _ z => ⟨z.1, ht _ _ z.2.1, z.2.2⟩

section
variable {P : Program} {w : World} {H : Hp} {h : Heap} {a : Addr}
theorem rd_of {u : HO} (ok : HOk P w H h) (e : Rd H a u) : ObjOk P w H h a u := e.ok ok
theorem dk_rd {kvs : List (Key × V)} (ok : HOk P w H h) (e : Rd H a (.dK kvs)) : kvs.length ≤ sizeLine ∧ (a == sysModules) = false ∧ ∃ vs, KV kvs vs ∧ h.DictOf (mixKind P w) a vs :=
  show ObjOk P w H h a (.dK kvs) from rd_of ok e
theorem dk_of {kvs : List (Key × V)} (ok : HOk P w H h) (e : H a = some (.dK kvs)) : kvs.length ≤ sizeLine ∧ (a == sysModules) = false ∧ ∃ vs, KV kvs vs ∧ h.DictOf (mixKind P w) a vs := dk_rd ok (.inl e)
/-- a tracked tuple of ints and texts is a key -/
theorem key_of {ks : List Key} (ok : HOk P w H h) (e : H a = some (.tup (ks.map kV))) : (tupleKind (mixKind P w)).is h ks a := by
  obtain ⟨_, its, r, o, h1, h2, n, h3⟩ := (show ObjOk P w H h a (.tup (ks.map kV)) from ok a _ e)
  exact ⟨o, its.toArray, n, h1, h2, h3, by simpa using items_are r⟩
theorem dt_rd {kvs : List (List Key × V)} (ok : HOk P w H h) (e : Rd H a (.dT kvs)) : kvs.length ≤ sizeLine ∧ (a == sysModules) = false ∧
    ∃ xs, KT H kvs xs ∧ h.DictOfH (tupleKind (mixKind P w)) a xs := by
  obtain ⟨z, y, xs, r, o, es, ep, h1, h2, h3, h4, h5⟩ := (show ObjOk P w H h a (.dT kvs) from rd_of ok e)
  refine ⟨z, y, xs, r, o, es, ep, h1, h2, h3, h4, fun x hx => ?_, h5⟩
  have all : ∀ {l : List (List Key × V)} {m : List (List Key × Addr × Value)}, KT H l m → ∀ x ∈ m, (tupleKind (mixKind P w)).is h x.1 x.2.1 := by
    intro l m q
    induction q with
    | nil => intro x hx; exact nomatch hx
    | @cons p q ps qs hq t ih =>
      intro x hx
      rcases List.mem_cons.mp hx with e | hx
      · subst e
        exact key_of ok (by rw [← hq.1]; exact hq.2.1)
      · exact ih x hx
  exact all r x hx
theorem dt_of {kvs : List (List Key × V)} (ok : HOk P w H h) (e : H a = some (.dT kvs)) : kvs.length ≤ sizeLine ∧ (a == sysModules) = false ∧
    ∃ xs, KT H kvs xs ∧ h.DictOfH (tupleKind (mixKind P w)) a xs := dt_rd ok (.inl e)
end

/-- what the dict at a holds at the key y -/
def DGet (H : Hp) (a : Addr) (y : V) (r : Option V) : Prop :=
  (∃ kvs k, Rd H a (.dK kvs) ∧ y = kV k ∧ r = valV kvs k) ∨ ∃ kvs k b, Rd H a (.dT kvs) ∧ y = .ref b ∧ H b = some (.tup (k.map kV)) ∧ r = valV kvs k
/-- the heap behind a[y] = v -/
def DPut (H : Hp) (a : Addr) (y v : V) (H' : Hp) : Prop :=
  (∃ kvs k, H a = some (.dK kvs) ∧ y = kV k ∧ kvs.length < sizeLine ∧ H' = upd H a (.dK (putK kvs k v))) ∨
  ∃ kvs k b, H a = some (.dT kvs) ∧ y = .ref b ∧ H b = some (.tup (k.map kV)) ∧ kvs.length < sizeLine ∧ H' = upd H a (.dT (putK kvs k v))
theorem DGet.k {H : Hp} {a : Addr} {kvs : List (Key × V)} {k : Key} (e : H a = some (.dK kvs)) : DGet H a (kV k) (valV kvs k) := .inl ⟨kvs, k, .inl e, rfl, rfl⟩
theorem DPut.k {H : Hp} {a : Addr} {kvs : List (Key × V)} {k : Key} {v : V} (e : H a = some (.dK kvs)) (hl : kvs.length < sizeLine) : DPut H a (kV k) v (upd H a (.dK (putK kvs k v))) := .inl ⟨kvs, k, e, rfl, hl, rfl⟩


section
variable {X : Cx} {pins : List (Addr × Obj)} {σ : St} {H : Hp} {s : Shared} {a : Addr} {y v : V} {u r : Value} {o : Option V} {A : Around} {E : Value → Shared → Prop}

theorem Inv.big (I : Inv X pins σ H s) : sysModules < s.heap.objs.size := by
  have h : mainGlobals < s.heap.objs.size := (I.mod.glob.keeps I.bk).lt
  exact Nat.lt_trans (by decide) h

/-- d[y], there -/
theorem d_getItem {Q : Value → Shared → Prop} (hu : A.units + 1 < cLine) (I : Inv X pins σ H s) (g : DGet H a y (some v)) (ry : RelV y u) (h : ∀ w' s', Inv X pins σ H s' → RelV v w' → Q w' s') :
    wpAny (model X.prog X.w) A (getItem (.ref a) u) Q E s := by
  rcases g with ⟨kvs, k, e, ey, l⟩ | ⟨kvs, k, b, e, ey, eb, l⟩
  · subst ey
    obtain ⟨z, hd, vs, rel, dd⟩ := dk_rd I.hok e
    obtain ⟨w', hw, rw'⟩ := RelO.some_of (v := v) (o := valueAt vs k) (by rw [l]; exact rel.val k)
    exact wpAny_getItem_of (kV_is ry) dd.mapOf hw (h w' _ (I.tok _) rw')
  · subst ey
    cases (show u = Value.ref b from ry)
    obtain ⟨z, hd, xs, rel, dd⟩ := dt_rd I.hok e
    obtain ⟨w', hw, rw'⟩ := RelO.some_of (v := v) (o := (atKey xs k).map (·.2)) (by rw [l]; exact rel.val k)
    obtain ⟨p, hp, hp2⟩ := Option.map_eq_some_iff.mp hw
    refine wpAny_getItem_heap (tupleKind_room_in1 hu) (key_of I.hok eb) dd hp ?_
    rw [hp2]
    exact h w' _ (I.tok _) rw'
theorem d_notIn {Q : Value → Shared → Prop} (hu : A.units + 1 < cLine) (I : Inv X pins σ H s) (g : DGet H a y o) (ry : RelV y u) (h : ∀ s', Inv X pins σ H s' → Q (.bool (!o.isSome)) s') :
    wpAny (model X.prog X.w) A (compareOp .NotIn u (.ref a)) Q E s := by
  rcases g with ⟨kvs, k, e, ey, l⟩ | ⟨kvs, k, b, e, ey, eb, l⟩
  · subst ey
    obtain ⟨z, hd, vs, rel, dd⟩ := dk_rd I.hok e
    refine wpAny_notIn_of (kV_is ry) hd dd.mapOf ?_
    rw [← (rel.val k).isSome_eq, ← l]
    exact h _ (I.tok _)
  · subst ey
    cases (show u = Value.ref b from ry)
    obtain ⟨z, hd, xs, rel, dd⟩ := dt_rd I.hok e
    refine wpAny_notIn_heap (tupleKind_room_in1 hu) (key_of I.hok eb) hd dd ?_
    have q := (rel.val k).isSome_eq
    rw [Option.isSome_map] at q
    rw [← q, ← l]
    exact h _ (I.tok _)
/-- a dict's object is replaced -/
theorem d_write {h' : Heap} {t' : Nat} {ob : HO} (I : Inv X pins σ H s) (mu : Mut (H a)) (hs : Heap.SameBut a s.heap h') (he : ∃ q, h'.get? a = some q) (new : ObjOk X.prog X.w (upd H a ob) h' a ob) :
    Inv X pins σ (upd H a ob) { s with heap := h', toks := t' } :=
  I.write (x := a) (e := a) mu (.inl rfl) (fun b q hb z => (hs.2 b hb).trans z) he new
theorem dk_new {P : Program} {w : World} {H' : Hp} {h' : Heap} {kvs : List (Key × V)} {vs : List (Key × Value)} (z : kvs.length ≤ sizeLine) (hd : (a == sysModules) = false) (rel : KV kvs vs) (dd : h'.DictOf (mixKind P w) a vs) :
    ObjOk P w H' h' a (.dK kvs) := ⟨z, hd, vs, rel, dd⟩
/-- d[y] = v -/
theorem d_setItem {H' : Hp} {Q : Unit → Shared → Prop} (hu : A.units + 1 < cLine) (I : Inv X pins σ H s) (g : DPut H a y v H') (ry : RelV y u) (rv : RelV v r) (h : ∀ s', Inv X pins σ H' s' → Q () s') :
    wpAny (model X.prog X.w) A (setItem (.ref a) u r) Q E s := by
  rcases g with ⟨kvs, k, e, ey, l, eH⟩ | ⟨kvs, k, b, e, ey, eb, l, eH⟩
  · subst ey eH
    obtain ⟨z, hd, vs, rel, dd⟩ := dk_of I.hok e
    have hz : vs.length ≤ sizeLine := by rw [← rel.length]; exact z
    have hl : (putK kvs k v).length ≤ sizeLine := by have := length_putK kvs k v; (first | lia | omega)
    refine wpAny_setItem_pairs (hsz := hz) (kV_is ry) dd fun h' dd' hs => h _ ?_
    have he : ∃ q, h'.get? a = some q := let ⟨q, _, _, hq, _⟩ := dd'; ⟨q, hq⟩
    exact d_write I (by rw [e]; exact True.intro) hs he (dk_new hl hd (rel.put k rv) dd')
  · subst ey eH
    cases (show u = Value.ref b from ry)
    obtain ⟨z, hd, xs, rel, dd⟩ := dt_of I.hok e
    have hz : xs.length ≤ sizeLine := by rw [← Paired.length rel]; exact z
    have hl : (putK kvs k v).length ≤ sizeLine := by have := length_putK kvs k v; (first | lia | omega)
    refine wpAny_setItem_heap (hsz := hz) (tupleKind_room_in1 hu) (key_of I.hok eb) dd fun h' dd' hs => h _ ?_
    obtain ⟨q, es, ep, hq, h2, h3, h4, _, h5⟩ := dd'
    refine d_write I (by rw [e]; exact True.intro) hs ⟨q, hq⟩ ⟨hl, hd, _, (rel.put k eb rv).keeps fun c ys ec => ?_, q, es, ep, hq, h2, h3, h4, h5⟩
    rw [upd_ne (ne_of ec e (fun z => nomatch z))]
    exact ec
end

section
variable {X : Cx} {pins : List (Addr × Obj)} {σ : St} {H : Hp} {s : Shared} {a : Addr} {kvs : List (Key × V)} {k : Key} {u : Value} {A : Around} {E : Value → Shared → Prop}
end


/-! ### readings and rules -/
/-- the element of a subscription, not a slice -/
def NoSl (i : Expr) : Prop := ∀ ov iv, subscripted i false ov iv = operate [ov, iv] (getItem ov iv)
theorem subD_of {prog : Program} {w : World} {A : Around} {E : Value → Shared → Prop} {s : Shared} {env : Env} {value slice : Expr} {pos : Pos} {T id : String} {Q : Value → Shared → Prop}
    (hl : typeLookup (.type T) "__getitem__" = pure (some (.builtin id))) (hs : NoSl slice)
    (h : wpAny (model prog w) A (eval value env) (fun o s₁ => wpAny (model prog w) A (eval slice env) (fun i s₂ => s₂.TypeIs o T ∧ wpAny (model prog w) A (getItem o i) Q E s₂) E s₁) E s) :
    wpAny (model prog w) A (eval (.Subscript value slice pos) env) Q E s := by
  refine Subscript_ (wpAny_mono h (fun o s₁ h₁ => wpAny_mono h₁ (fun i s₂ h₂ => ?_) fun _ _ x => x) fun _ _ x => x)
  obtain ⟨hT, h₂⟩ := h₂
  unfold subscriptTail
  refine wpAny_bind ?_
  rw [getitemInPython_of_ne hT.not_modules]
  refine wpAny_bind (wpAny_specialOf hT hl ?_)
  have fin : wpAny (model prog w) A (subscripted slice false o i) (fun r s₃ => wpAny (model prog w) A (letTemporaryGo value o r >>= fun _ => pure r) Q E s₃) E s₂ := by
    rw [hs o i]
    exact wpAny_operating (wpAny_mono h₂ (fun r s₃ h₃ => wpAny_bind (wpAny_letTemporaryGo (wpAny_pure h₃))) fun _ _ x => x)
  first
    | exact wpAny_pure (wpAny_bind fin)
    | exact wpAny_bind (wpAny_pure (wpAny_bind fin))
    | exact wpAny_bind fin

theorem dict_typeIs {X : Cx} {pins : List (Addr × Obj)} {σ : St} {H : Hp} {s : Shared} {a : Addr} {y : V} {o : Option V} (I : Inv X pins σ H s) (g : DGet H a y o) : s.TypeIs (.ref a) "dict" := by
  rcases g with ⟨kvs, k, e, _, _⟩ | ⟨kvs, k, b, e, _, _, _⟩
  · obtain ⟨_, _, vs, _, dd⟩ := dk_rd I.hok e
    exact dd.typeIs
  · obtain ⟨_, _, xs, _, dd⟩ := dt_rd I.hok e
    exact dd.typeIs

/-- d[y] -/
def tDGet (td ty : TE) : TE := fun σ H Q => td σ H fun x H1 => ty σ H1 fun y H2 => ∃ a v, x = .ref a ∧ DGet H2 a y (some v) ∧ Q v H2
def tDNotIn (ty td : TE) : TE := fun σ H Q => ty σ H fun y H1 => td σ H1 fun x H2 => ∃ a o, x = .ref a ∧ DGet H2 a y o ∧ Q (.bl (!o.isSome)) H2
/-- d[y] = v -/
def sDPut (td ty tv : TE) : TS := fun D σ H => tv σ H fun v H1 => td σ H1 fun x H2 => ty σ H2 fun y H3 => ∃ a H4, x = .ref a ∧ DPut H3 a y v H4 ∧ D.nx σ H4

section
variable {X : Cx} {o i e value : Expr} {pos pos' tpos : Pos} {td ty tv : TE}
theorem pe_dget (hu : X.A.units + 1 < cLine) (ho : PE X o td) (hi : PE X i ty) (hs : NoSl i) : PE X (.Subscript o i pos) (tDGet td ty) := by
  intro pins s σ H Q I h
  refine subD_of PySem.F.slot_dict_getitem.lookup hs (thn (ho pins s σ H _ I h) fun u s1 hPy => ob2_3 hPy fun x H1 I1 rx q1 => thn (hi pins s1 σ H1 _ I1 q1) fun iv s2 hPz => ?_); obtain ⟨y, H2, I2, ry, a, v, ex, g, q2⟩ := hPz
  subst ex
  obtain rfl : u = Value.ref a := rx
  exact ⟨dict_typeIs I2 g, d_getItem hu I2 g ry fun w' s3 I3 rw' => ⟨v, H2, I3, rw', q2⟩⟩
theorem pc_dnotin (hu : X.A.units + 1 < cLine) (hi : PE X i ty) (ho : PE X o td) : PC X .NotIn i o (tDNotIn ty td) := by
  intro pins s σ H Q I h
  refine thn (hi pins s σ H _ I h) fun iv s1 hPy => ob2_3 hPy fun y H1 I1 ry q1 => thn (ho pins s1 σ H1 _ I1 q1) fun u s2 hPz => ?_; obtain ⟨x, H2, I2, rx, a, ov, ex, g, q2⟩ := hPz
  subst ex
  obtain rfl : u = Value.ref a := rx
  exact d_notIn hu I2 g ry fun s3 I3 => ⟨.bl (!ov.isSome), H2, I3, rfl, q2⟩
theorem ps_dput (hu : X.A.units + 1 < cLine) (ho : PE X o td) (hi : PE X i ty) (hv : PE X value tv) (hs : swapsWith value (some (.Subscript o i pos')) pos.line X.env = pure false) :
    PS X (.Assign [.Subscript o i pos'] value pos) (sDPut td ty tv) := by
  intro pins s σ H D I h
  refine wpAny_Assign_Subscript (thn (hv pins s σ H _ I h) fun r s1 hPy => ob2_3 hPy fun v H1 I1 rv q1 => thn (ho pins s1 σ H1 _ I1 q1) fun u s2 hPy => ob2_3 hPy fun x H2 I2 rx q2 => thn (hi pins s2 σ H2 _ I2 q2) fun iv s3 hPz => ?_) hs; obtain ⟨y, H3, I3, ry, a, H4, ex, g, q3⟩ := hPz
  subst ex
  obtain rfl : u = Value.ref a := rx
  exact d_setItem hu I3 g ry rv fun s4 I4 => ⟨σ, H4, I4, q3⟩
end


/-! ### displays -/
theorem dk_empty {P : Program} {w : World} {H : Hp} (h : Heap) (hb : sysModules < h.objs.size) : ObjOk P w H (h.push { cls := .type "dict", data := .dict #[] }) h.objs.size (.dK []) :=
  ⟨Nat.zero_le _, beq_eq_false_iff_ne.mpr (Ne.symm (Nat.ne_of_lt hb)), [], .nil, Heap.DictOf.new h⟩
/-- {}, to be a dict of the kind that is wanted -/
def tDNewK : TE := fun _ H Q => ∀ p, H p = none → Q (.ref p) (upd H p (.dK []))
section
variable {X : Cx} {pos : Pos}
theorem pe_dnewK : PE X (.Dict [] [] pos) tDNewK := fun pins s σ H Q I h =>
  wpAny_Dict_empty ⟨.ref s.heap.objs.size, _, I.laid (a := s.heap.objs.size) (o := .dK []) (t' := s.toks) (fun _ _ q => Heap.get?_push_of_some _ q) (Nat.le_refl _) (dk_empty s.heap I.big), rfl, h _ (I.hok.fresh (Nat.le_refl _))⟩
end

end L2

set_option Elab.async false
set_option linter.all false
set_option maxRecDepth 100000
set_option maxHeartbeats 4000000
/-! sorted(range(n), key=lambda i: xs[i]): the range collected, the lambda made and called, the sort. -/
namespace L2
open PySem PySem.Spec PyProof.Rows

section
variable {prog : Program} {w : World} {A : Around} {E : Value → Shared → Prop} {s : Shared}
theorem code_collect_rng {r : Addr} {n : Int} {t u v : Tok} {R : Result → Shared → Prop} (hh : A.handled = none) (hr : IsRange s.heap r 0 n 1 t u v) (h0 : 0 ≤ n) (h1 : n ≤ 1000)
    (hR : ∀ h' tk acc c, (∀ b o, s.heap.get? b = some o → h'.get? b = some o) → h'.get? s.heap.objs.size = some { cls := .type "list", data := .seq acc c } → ItemsOf (fun i v => ∃ t, v = .int (0 + (i : Int) * 1) t) acc n.toNat → R (.ok (.ret (.ref s.heap.objs.size))) { s with heap := h', toks := tk }) :
    codeAny (model prog w) A (.builtin "proto.collect" ⟨[.ref r], []⟩) R s := by
  refine codeAny_builtin F.entry_proto_collect ?_
  rw [Around.under_plainId F.plain_proto_collect _]
  show wpAny _ A.in1 (newList [] >>= fun l => again (.builtin "list.__iadd__" ⟨[l, .ref r], []⟩)) _ _ s
  refine wpAny_bind (wpAny_newObj_type ?_)
  refine wpAny_pure ⟨plainId_quiet F.plain_list_iadd _, codeAny_builtin F.entry_list_iadd ?_⟩
  rw [Around.under_plainId F.plain_list_iadd _]
  show wpAny _ A.in1 (Builtin.List.listExtendWith (.ref s.heap.objs.size) (.ref r) (.ref s.heap.objs.size)) _ _ _
  have hS : (s.heap.push { cls := .type "list", data := .seq ([] : List Value).toArray }).get? s.heap.objs.size = some { cls := .type "list", data := .seq #[] 0 } := Heap.get?_push_size _ rfl
  exact wpAny_extend_range (s := { s with heap := s.heap.push { cls := .type "list", data := .seq ([] : List Value).toArray } }) (n := n.toNat) hh (show IsRange _ r 0 n 1 t u v from Heap.get?_push_of_some _ hr) (small_one (by (first | lia | omega)) (by (first | lia | omega)) (by (first | lia | omega)) (by (first | lia | omega))) (by rw [rangeSize_one]; split <;> (first | lia | omega)) (by (first | lia | omega)) s.heap.objs.size (.ref s.heap.objs.size) 0 hS fun h' tk acc c hk hS' hacc =>
    hR h' tk acc c (fun b o e => hk b o (Nat.ne_of_lt (Heap.lt_size e)) (Heap.get?_push_of_some _ e)) hS' hacc
theorem collect_rng {r : Addr} {n : Int} {t u v : Tok} {Q : List Value → Shared → Prop} (hh : A.handled = none) (hr : IsRange s.heap r 0 n 1 t u v) (h0 : 0 ≤ n) (h1 : n ≤ 1000)
    (hQ : ∀ h' tk acc, (∀ b o, s.heap.get? b = some o → h'.get? b = some o) → s.heap.objs.size < h'.objs.size → ItemsOf (fun i v => ∃ t, v = .int (0 + (i : Int) * 1) t) acc n.toNat → Q acc.toList { s with heap := h', toks := tk }) :
    wpAny (model prog w) A (collect (.ref r)) Q E s := by
  unfold collect
  refine wpAny_bind (wpAny_runValue (code_collect_rng hh hr h0 h1 fun h' tk acc c hk hS' hacc => ?_))
  show wpAny _ A (load s.heap.objs.size >>= _) _ _ _
  refine wpAny_bind (wpAny_load hS' ?_)
  exact wpAny_pure (hQ h' tk acc hk (Heap.lt_size hS') hacc)

theorem items_ints : ∀ {acc : Array Value} {n : Nat}, ItemsOf (fun i v => ∃ t, v = .int (0 + (i : Int) * 1) t) acc n → IntsAre acc.toList ((List.range n).map fun i : Nat => (i : Int)) := fun h => by
  have := items_vals h
  rw [show ((List.range _).map fun i : Nat => V.int i) = ((List.range _).map fun i : Nat => (i : Int)).map V.int by rw [List.map_map]; rfl] at this
  exact ints_of_vals this

/-- what a key's turn gives -/
def TurnEnd (h : Heap) (k : Int) (s : Shared) (v : Value) (s' : Shared) : Prop := ∃ h' tk t, s' = { s with heap := h', toks := tk } ∧ v = .int k t ∧ ∀ b o, h.get? b = some o → h'.get? b = some o
theorem call_sorted_rng {r L f : Addr} {n : Int} {t u v : Tok} {h₀ : Heap} {m : Str → Option Value} {Q : Value → Shared → Prop} (g : Int → Int) (hh : A.handled = none) (hr : IsRange s.heap r 0 n 1 t u v) (h0 : 0 ≤ n) (h64 : n < 64) (F0 : Fr h₀ L s.heap m)
    (turn : ∀ (i : Int) (t : Tok) (h : Heap) (tk : Nat), 0 ≤ i → i < n → Fr h₀ L h m → (∀ b o, b ≠ L → s.heap.get? b = some o → h.get? b = some o) →
      wpAny (model prog w) A.in1.in1 (call (.ref f) [.int i t]) (TurnEnd h (g i) s) (fun _ _ => False) { s with heap := h, toks := tk })
    (done : ∀ D h' tk out c (ms : List Int), Fr h₀ L h' m → (∀ b o, b ≠ L → s.heap.get? b = some o → h'.get? b = some o) → h'.get? D = some (seqObj "list" out c) → s.heap.objs.size ≤ D → IntsAre out.toList ms →
      ms.Perm ((List.range n.toNat).map fun i : Nat => (i : Int)) → ms.Pairwise (fun x y => g x ≤ g y) → Q (.ref D) { s with heap := h', toks := tk }) :
    wpAny (model prog w) A (call (.builtin "sorted") [.ref r] [(Str.ofString "key", .ref f)]) Q E s := by
  refine call_function_entry_kw kind_sorted plain_sorted entry_sorted (ksk_s1 _ _) ?_
  unfold Builtin.«sorted»
  refine wpAny_bind (m := checkCount "sorted" 1 1 _) (wpAny_pure ?_)
  refine wpAny_bind (collect_rng hh hr h0 (by (first | lia | omega)) fun h1 tk1 acc k1 hsz it => ?_)
  have hi := items_ints it
  have hlen : acc.toList.length = n.toNat := by rw [hi.length, List.length_map, List.length_range]
  have hsl : (1000 : Nat) ≤ sizeLine := by decide
  refine wpAny_bind (wpAny_newList ?_ (by (first | lia | omega)))
  have hL1 : L < h1.objs.size := (F0.kept k1).ns.lt
  have keep : ∀ b o, s.heap.get? b = some o → (h1.push (seqObj "list" acc.toList.toArray 0)).get? b = some o := fun b o q => Heap.get?_push_of_some _ (k1 b o q)
  have hoL : (h1.push (seqObj "list" acc.toList.toArray 0)).get? h1.objs.size = some (seqObj "list" acc.toList.toArray 0) := Heap.get?_push_size _ rfl
  have kOf : ∀ {h : Heap} {own : List (Addr × Obj)}, Fr h₀ L h m → News h₀ L h (allNews h₀ s.heap L ++ own) → ∀ b o, b ≠ L → s.heap.get? b = some o → h.get? b = some o := fun {h own} F' N' b o hb e => by
    cases q : h₀.get? b with
    | some u =>
      have := F0.keep b u q
      rw [e] at this; cases this
      exact F'.keep b _ q
    | none => exact (N' (b, o) (List.mem_append_left _ (mem_allNews hb q e))).1
  refine wpAny_bind (wpAny_holding (wpAny_call_entry_kw slot_list_sort ⟨_, hoL, rfl⟩ entry_list_sort ?body (ksk_l1 _ _)))
  case body =>
    show wpAny (model prog w) A.in1.in1 (Builtin.«list.sort» ⟨[.ref h1.objs.size], [(Str.ofString "key", .ref f)]⟩) _ _ _
    rw [ksk_t1]
    refine ksk_sort (s := { s with heap := h1.push (seqObj "list" acc.toList.toArray 0), toks := tk1 }) (kz := ((List.range n.toNat).map fun i : Nat => (i : Int)).map g) (vs := acc.toList) (news := allNews h₀ s.heap L) (F0.kept keep) (News.grown news_all keep) hoL (Nat.ne_of_gt hL1)
      (Heap.get?_none_of_le (Nat.le_trans F0.above (Nat.le_of_lt hL1))) (fun p hp => Nat.ne_of_lt (Nat.lt_trans (Heap.lt_size (of_mem_allNews hp).2.2) hsz)) (by rw [List.length_map, ← hi.length]) (by (first | lia | omega)) (fun i v k hv hk h tk own F' N' => ?_) fun h' tk out c F' N' ko => ⟨_, rfl, ?_⟩
    · have hil : i < n.toNat := by rw [← hlen]; exact (List.getElem?_eq_some_iff.mp hv).1
      have hz : ((List.range n.toNat).map fun i : Nat => (i : Int))[i]? = some (i : Int) := by simp [hil]
      obtain ⟨t', e'⟩ := hi.get i _ hz
      rw [hv] at e'; cases e'
      rw [List.getElem?_map, hz] at hk
      cases hk
      refine wpAny_mono (turn i t' h tk (by (first | lia | omega)) (by (first | lia | omega)) F' (kOf F' N')) (fun v s' hPz => ?_) fun _ _ z => z; obtain ⟨h2, tk2, t2, e1, e2, k2⟩ := hPz
      exact ⟨h2, tk2, t2, e1, e2, F'.kept k2, N'.grown k2⟩
    · obtain ⟨zs, zp, zo, zs'⟩ := ko
      have rel : ∀ z, z ∈ (((List.range n.toNat).map fun i : Nat => (i : Int)).map g).zip acc.toList → z.1 = g (numOf z.2) ∧ z.2 ∈ acc.toList := by
        rw [← hi.nums, List.map_map, List.zip_map_left]
        intro z hz
        obtain ⟨⟨x, y⟩, q, rfl⟩ := List.mem_map.mp hz
        have e : x = y ∧ x ∈ acc.toList := mem_zip_self q
        exact ⟨by show g (numOf x) = g (numOf y); rw [e.1], by show y ∈ acc.toList; rw [← e.1]; exact e.2⟩
      have c1 : IntsAre (zs.map Prod.snd) ((zs.map Prod.snd).map numOf) := intsAre_map _ fun x hx => by
        obtain ⟨z, hz, rfl⟩ := List.mem_map.mp hx
        exact hi.all _ (rel z (zp.mem_iff.mp hz)).2
      have c2 : ((zs.map Prod.snd).map numOf).Perm ((List.range n.toNat).map fun i : Nat => (i : Int)) := by
        have q := (zp.map Prod.snd).map numOf
        rw [List.map_snd_zip (by rw [List.length_map, List.length_map, List.length_range]; (first | lia | omega)), hi.nums] at q
        exact q
      have c3 : ((zs.map Prod.snd).map numOf).Pairwise (fun x y => g x ≤ g y) := by
        rw [List.pairwise_map, List.pairwise_map]
        refine zs'.imp_of_mem fun {x y} hx hy q => ?_
        have q' : x.1 ≤ y.1 := q
        rw [(rel x (zp.mem_iff.mp hx)).1, (rel y (zp.mem_iff.mp hy)).1] at q'
        exact q'
      rw [← zo] at c1 c2 c3
      exact wpAny_pure ⟨_, rfl, done _ h' tk out c _ F' (kOf (own := []) F' fun q hq => N' q (List.mem_cons_of_mem _ (by simpa using hq))) (N' _ (.head _)).1 (Nat.le_of_lt hsz) c1 c2 c3⟩

/-! ### the lambda called -/
theorem lam_call {f c c' la : Addr} {qual x y : Str} {params : Arguments} {scope : Scope} {p1 p2 p3 : Pos} {pm ctv : Value} {its : Array Value} {i k : Int} {t t' : Tok} (hroom : A.depth < recursionLimit) (lim : s.heap.NoLimit)
    (hf : s.heap.get? f = some (PySem.W.kla_obj "<lambda>" qual params (.Subscript (.Name x p1) (.Name y p2) p3) scope [(x, c)] pm c' ctv)) (hcd : s.heap.CodeRec (.ref c') qual)
    (hcell : s.heap.IsCell c (some (.ref la))) (hl : s.heap.IsList la its) (h0 : 0 ≤ i) (h63 : i < 2 ^ 63) (hi : its[i.toNat]? = some (.int k t'))
    (hb : ∀ v, bindArgs (PySem.W.kla_fn "<lambda>" qual params (.Subscript (.Name x p1) (.Name y p2) p3) scope [(x, c)] pm (.ref c') ctv) ⟨[v], []⟩ = pure [(y, v)])
    (hy : scope.names.lookup y = some .local) (hx : scope.names.lookup x = some .free) (hnc : ∀ z ∈ scope.names, z.2 ≠ .cell) (hk : scope.kind = .function) (hco : scope.isCoroutine = false) (hgen : scope.isGenerator = false)
    (dx : (x == ("__debug__" : Str)) = false) (dy : (y == ("__debug__" : Str)) = false) (cx : (x == ("__classdict__" : Str)) = false) (hs : PlainIx (.Name y p2)) :
    wpAny (model prog w) A (call (.ref f) [.int i t]) (TurnEnd s.heap k s) (fun _ _ => False) s := by
  refine wpAny_call (PySem.W.kla_callFunE hroom hf rfl hco hgen rfl hcd ?_)
  rw [hb]
  refine wpAny_pure (wpAny_newFunctionEnv hnc (fun z hz => by rw [List.mem_singleton.mp hz]; exact hy) (fun h₁ hns hsb => ⟨lim.fresh _ hsb, ?_⟩) hk)
  have k1 : ∀ b o, s.heap.get? b = some o → h₁.get? b = some o := fun b o e => hsb.extBut b o (Nat.ne_of_lt (Heap.lt_size e)) (Heap.get?_push_of_some _ e)
  refine PySem.W.kla_codeExpr (Subscript_ ?_)
  have hcell' : h₁.IsCell c (some (.ref la)) := let ⟨o, e, d⟩ := hcell; ⟨o, k1 _ _ e, d⟩
  have hl' : h₁.IsList la its := let ⟨o, e, d⟩ := hl; ⟨o, k1 _ _ e, d⟩
  refine wpAny_Name (wpAny_loadName_free hk hx (by show List.lookup x [(x, c)] = some c; simp) hcell' ?_ cx) dx
  refine wpAny_Name (wpAny_loadName_local hk hy hns (show List.lookup y [(y, Value.int i t)] = some (.int i t) by simp) ?_) dy
  exact item_listR hl' h0 h63 hi ⟨h₁, _, t', rfl, rfl, k1⟩ (hs _ _)
end

/-! ### a table of code objects: empty, or with the lambda's -/
structure Tab where
  P : Addr
  pos : Pos
  qual : Str
def Tab.Ok (T : Tab) (H : Hp) : Prop := H T.P = some (.tbl #[]) ∨ ∃ c' oc vs t, H T.P = some (.tbl #[rawInt T.pos.line, rawInt T.pos.col, .ref c']) ∧ H c' = some (.frz oc (.ext fun _ => True)) ∧ oc.data = .fields vs ∧ vs[1]? = some (.str T.qual t)
/-- all stays but the table -/
structure Gw (T : Tab) (H H' : Hp) : Prop where
  ok : T.Ok H'
  keep : ∀ b o, b ≠ T.P → H b = some o → H' b = some o
theorem Tab.Ok.same {T : Tab} {H H' : Hp} (x : T.Ok H) (s : Same H H') : T.Ok H' := by
  rcases x with x | ⟨c', oc, vs, t, h1, h2, h3⟩
  · exact .inl (s _ _ x)
  · exact .inr ⟨c', oc, vs, t, s _ _ h1, s _ _ h2, h3⟩
theorem Tab.Ok.is {T : Tab} {H : Hp} (x : T.Ok H) : ∃ ps, H T.P = some (.tbl ps) := by
  rcases x with x | ⟨c', oc, vs, t, h1, _⟩
  · exact ⟨_, x⟩
  · exact ⟨_, h1⟩
theorem Gw.of {T : Tab} {H H' : Hp} (x : T.Ok H) (s : Same H H') : Gw T H H' := ⟨x.same s, fun b o _ e => s b o e⟩
theorem Gw.trans {T : Tab} {H H1 H2 : Hp} (a : Gw T H H1) (b : Gw T H1 H2) : Gw T H H2 := ⟨b.ok, fun c o h e => b.keep c o h (a.keep c o h e)⟩
theorem Gw.seq {T : Tab} {K : PySem.W.Frag} {H H' : Hp} {a : Addr} {xs : List V} (g : Gw T H H') (x : T.Ok H) (h : SqL K H a xs) : SqL K H' a xs := by
  obtain ⟨ps, hp⟩ := x.is
  rcases h with (h | ⟨o, h⟩) | h
  · exact .inl (.inl (g.keep _ _ (fun e => by rw [e, hp] at h; cases h) h))
  · exact .inl (.inr ⟨o, g.keep _ _ (fun e => by rw [e, hp] at h; cases h) h⟩)
  · exact .inr h
theorem Gw.at {T : Tab} {H H' : Hp} {a : Addr} {u : HO} (g : Gw T H H') (x : T.Ok H) (h : H a = some u) (hu : ∀ ps, u ≠ .tbl ps) : H' a = some u := by
  obtain ⟨ps, hp⟩ := x.is
  exact g.keep _ _ (fun e => by rw [e, hp] at h; cases h; exact hu _ rfl) h
theorem Gw.free {T : Tab} {H H' : Hp} {a : Addr} (g : Gw T H H') (x : T.Ok H) (h : H' a = none) : H a = none := by
  obtain ⟨ps', hp'⟩ := g.ok.is
  cases q : H a with
  | none => rfl
  | some u =>
    by_cases e : a = T.P
    · rw [e, hp'] at h; cases h
    · rw [g.keep _ _ e q] at h; cases h

section
variable {X : Cx} {pins : List (Addr × Obj)} {σ : St} {H : Hp} {s : Shared} {h' : Heap}
theorem ns_one {h : Heap} {a : Addr} {m m' : Str → Option Value} (x : h.Ns a m) (y : h.Ns a m') : m = m' := by
  obtain ⟨o, es, ep, e, d, _, f⟩ := x
  obtain ⟨o', es', ep', e', d', _, f'⟩ := y
  rw [e] at e'; cases e'
  rw [d] at d'; cases d'
  funext z
  rw [← f z, ← f' z]
/-- a new object laid; of the frame only the names are known to stay -/
theorem Inv.laidL {a : Addr} {o : HO} {t' : Nat} (I : Inv X pins σ H s) (k : ∀ b u, b ≠ X.env.locals → s.heap.get? b = some u → h'.get? b = some u) (n : ∀ m, s.heap.Ns X.env.locals m → h'.Ns X.env.locals m)
    (hp : s.heap.objs.size ≤ a) (new : ObjOk X.prog X.w (upd H a o) h' a o) : Inv X pins σ (upd H a o) { s with heap := h', toks := t' } := by
  have hf := I.hok.fresh hp
  have hL : X.env.locals < s.heap.objs.size := I.lt
  have ne : ∀ {b : Addr} {u : Obj}, s.heap.get? b = some u → b ≠ a := fun e => Nat.ne_of_lt (Nat.lt_of_lt_of_le (Heap.lt_size e) hp)
  have nf : ∀ {b : Addr} {u : HO}, H b = some u → b ≠ a := fun e z => by rw [z, hf] at e; cases e
  refine I.step (g' := s.gens) (d' := s.drawn) (ch := []) (fun _ z => nomatch z) (fun b o h1 _ _ e _ => k b o h1 e) (fun b o h1 _ _ e _ => ⟨o.slots, k b o h1 e⟩) (fun b o _ e q => by rw [upd_ne (ne e)]; exact q)
    (fun b o _ e => ?_) (fun b xs e => by rw [upd_ne (nf e)]; exact e) (fun b o u e => by rw [upd_ne (nf e)]; exact e) (fun b ps e => ⟨#[], by rw [upd_ne (nf e), e]; simp⟩) n (fun b u e => ?_) I.bare
  · by_cases hb : b = X.env.locals
    · obtain ⟨m, hn, _⟩ := I.loc
      obtain ⟨o', _, _, e', _⟩ := n m hn
      exact ⟨o', by rw [hb]; exact e'⟩
    · exact ⟨o, k b o hb e⟩
  · by_cases hb : b = a
    · subst hb; rw [upd_same] at e; cases e; exact new
    · rw [upd_ne hb] at e
      refine (I.hok b u e).stay (fun c v hc q => k c v ?_ q) (fun c q => by rw [upd_ne (nf q)]; exact q) fun c xs q => by rw [upd_ne (nf q)]; exact q
      rintro rfl
      rcases hc with z | z
      · rw [← z, I.free] at e; cases e
      · rw [I.free] at z; cases z
/-- the table grown, the code object known -/
theorem Inv.tabled {T : Tab} {c' : Addr} {oc : Obj} {t' : Nat} {fo : Obj} (I : Inv X pins σ H s) (hP : H T.P = some (.tbl #[])) (k : Heap.ExtBut T.P s.heap h') (hc : s.heap.objs.size ≤ c') (hoc : h'.get? c' = some oc)
    (ht : h'.get? T.P = some (PySem.W.tabObj #[rawInt T.pos.line, rawInt T.pos.col, .ref c'])) :
    Inv X pins σ (upd (upd H T.P (.tbl #[rawInt T.pos.line, rawInt T.pos.col, .ref c'])) c' (.frz oc (.ext fun _ => True))) { s with heap := h'.push fo, toks := t' } := by
  have hf := I.hok.fresh hc
  have hPl : T.P < s.heap.objs.size := I.hok.lt hP
  have hPc : T.P ≠ c' := Nat.ne_of_lt (Nat.lt_of_lt_of_le hPl hc)
  have k2 : ∀ b o, b ≠ T.P → s.heap.get? b = some o → (h'.push fo).get? b = some o := fun b o hb e => Heap.get?_push_of_some _ (k b o hb e)
  have ne : ∀ {b : Addr} {u : Obj}, s.heap.get? b = some u → b ≠ c' := fun e => Nat.ne_of_lt (Nat.lt_of_lt_of_le (Heap.lt_size e) hc)
  have nf : ∀ {b : Addr} {u : HO}, H b = some u → b ≠ c' := fun e z => by rw [z, hf] at e; cases e
  have nP : ∀ {b : Addr}, H b = none → b ≠ T.P := fun e z => by rw [z, hP] at e; cases e
  have same : ∀ {b : Addr} {u : HO}, H b = some u → (∀ ps, u ≠ .tbl ps) → upd (upd H T.P (.tbl #[rawInt T.pos.line, rawInt T.pos.col, .ref c'])) c' (.frz oc (.ext fun _ => True)) b = some u := fun {b u} e hu => by
    rw [upd_ne (nf e), upd_ne (fun z => by rw [z, hP] at e; cases e; exact hu _ rfl)]; exact e
  refine I.step (g' := s.gens) (d' := s.drawn) (ch := []) (fun _ z => nomatch z) (fun b o _ _ _ e q => k2 b o (nP q) e) (fun b o _ _ _ e q => ⟨o.slots, k2 b o (nP q) e⟩) (fun b o _ e q => by rw [upd_ne (ne e), upd_ne (nP q)]; exact q)
    (fun b o _ e => ?_) (fun b xs e => same e (by intro ps z; cases z)) (fun b o u e => same e (by intro ps z; cases z)) (fun b ps e => ?_) (fun m hm => ?_) (fun b u e => ?_) I.bare
  · by_cases hb : b = T.P
    · exact ⟨_, by rw [hb]; exact Heap.get?_push_of_some _ ht⟩
    · exact ⟨o, k2 b o hb e⟩
  · by_cases hb : b = T.P
    · rw [hb, hP] at e; cases e
      exact ⟨#[rawInt T.pos.line, rawInt T.pos.col, .ref c'], by rw [hb, upd_ne hPc, upd_same]; simp⟩
    · exact ⟨#[], by rw [upd_ne (nf e), upd_ne hb, e]; simp⟩
  · exact (hm.extBut k (Ne.symm (fun z => by rw [z, I.free] at hP; cases hP))).push _
  · by_cases hb : b = c'
    · subst hb; rw [upd_same] at e; cases e
      exact ⟨Heap.get?_push_of_some _ hoc, trivial, ⟨_, Heap.get?_push_of_some _ hoc⟩, fun _ _ _ _ => trivial⟩
    · rw [upd_ne hb] at e
      by_cases hp : b = T.P
      · rw [hp, upd_same] at e; cases e
        rw [hp]
        exact Heap.get?_push_of_some _ ht
      · rw [upd_ne hp] at e
        refine (I.hok b u e).stay (fun c v hc q => k2 c v ?_ q) (fun c q => same q (by intro ps z; cases z)) fun c xs q => same q (by intro ps z; cases z)
        rintro rfl
        rcases hc with z | z
        · exact hp z.symm
        · rw [hP] at z; cases z
end

/-! ### sorted(e, key=lambda y: x[y]), e a range -/
theorem sameR' {H : Hp} : Same H H := fun _ _ e => e
theorem boot_sorted : bootBuiltins "sorted" = some (.builtin "sorted") := by decide +kernel
def tSortK (T : Tab) (K : PySem.W.Frag) (i : Nat) (t : TA) : TE := fun σ H Q => t σ H fun vs H1 => ∃ (r la : Addr) (ns : List Int), vs = [.ref r] ∧ H1 r = some (.rng 0 ns.length) ∧ σ[i]? = some (some (.ref la)) ∧ SqL K H1 la (ns.map V.int) ∧ ns.length < 64 ∧ T.Ok H1 ∧
  ∀ (D : Addr) (H' : Hp) (ms : List Int), H1 D = none → H' D = some (.lst (ms.map V.int)) → Gw T H1 H' → ms.Perm ((List.range ns.length).map fun i : Nat => (i : Int)) → ms.Pairwise (fun x y => ns.getD x.toNat 0 ≤ ns.getD y.toNat 0) → Q (.ref D) H'
section
variable {X : Cx}
theorem pe_sortK {T : Tab} {c : Addr} {x y : Str} {i : Nat} {er : Expr} {t : TA} {params : Arguments} {sc : Scope} {p1 q1 q2 q3 pos kp : Pos} (ha : PA X [er] t) (hg : Gl X "sorted") (hm : X.mg "sorted" = none) (hc : X.calm = true) (hr : Room 1 X.A)
    (hcd : X.env.code = .ref c) (hK : PySem.W.codeHdIn X.K c T.P = true) (hB : X.base.BuiltinsAt X.mg T.P) (hq : X.env.qual ++ "<lambda>" = T.qual) (hN : X.N[i]? = some x) (hkx : X.env.scope.names.lookup x = some .cell)
    (hcl : ∀ d, X.env.cells.lookup x = some d → closureFor sc X.env = pure [(x, d)]) (hdef : defaultsOf params X.env = ([], []))
    (hb : ∀ (v : Value) (d : Addr) (b : Expr) (pm cv ctv : Value), bindArgs (PySem.W.kla_fn "<lambda>" T.qual params b sc [(x, d)] pm cv ctv) ⟨[v], []⟩ = pure [(y, v)])
    (hy : sc.names.lookup y = some .local) (hx : sc.names.lookup x = some .free) (hnc : ∀ z ∈ sc.names, z.2 ≠ .cell) (hk : sc.kind = .function) (hco : sc.isCoroutine = false) (hgen : sc.isGenerator = false)
    (dx : (x == ("__debug__" : Str)) = false) (dy : (y == ("__debug__" : Str)) = false) (cx : (x == ("__classdict__" : Str)) = false) (hs : PlainIx (.Name y q2))
    (he : backTo pos (starEach [er] X.env) = (false, eval er X.env) :: backTo pos (starEach [] X.env)) (hpl : (backTo pos (starEach [er] X.env)).any (·.1) = false) :
    PE X (.Call (.Name "sorted" p1) [er] [⟨some "key", .Lambda params (.Subscript (.Name x q1) (.Name y q2) q3) sc T.pos, kp⟩] pos) (tSortK T X.K i t) := by
  intro pins s σ H Q I h
  refine wpAny_Call_Name_kw (ld_blt I hg hm boot_sorted ?_ (by decide) (by decide))
  refine callWith_kw (thn (ha pos pins s σ H _ I h) fun us s1 hPz => ?_) he hpl; obtain ⟨vs, H1, I1, r1, q⟩ := hPz
  obtain ⟨r, la, ns, rfl, hR, hv, hL, h64, hT, q⟩ := q
  obtain ⟨u, rfl, ru⟩ := r1.one
  cases ru
  refine kws_cons (PySem.W.kla_eval hdef ?_)
  rw [hq]
  obtain ⟨d, hd⟩ := I1.ok.has x (.inl hkx)
  -- the call, where the lambda is made
  have go : ∀ (H2 : Hp) (s2 : Shared) (f c' : Addr) (oc : Obj) (zs : Array Value) (tq : Tok) (pm ctv : Value), Inv X pins σ H2 s2 → Gw T H1 H2 → s2.heap.get? f = some (PySem.W.kla_obj "<lambda>" T.qual params (.Subscript (.Name x q1) (.Name y q2) q3) sc [(x, d)] pm c' ctv) →
      f ≠ X.env.locals → s2.heap.get? c' = some oc → c' ≠ X.env.locals → oc.data = .fields zs → zs[1]? = some (.str T.qual tq) →
      wpAny (model X.prog X.w) X.A (call (.builtin "sorted") [.ref r] [(Str.ofString "key", .ref f)]) (EP X pins σ Q) X.xe s2 := by
    intro H2 s2 f c' oc zs tq pm ctv I2 g2 hf hfL hoc hcL hzs hz1
    obtain ⟨m, F2⟩ := I2.fr
    obtain ⟨tr, ur, vr, hrg⟩ := I2.hok r _ (g2.at hT hR (by intro ps z; cases z))
    obtain ⟨its, rv, pl, hz⟩ := I2.list (g2.seq hT hL)
    have hi := ints_of_vals rv
    obtain ⟨m2, hn2, hl2⟩ := id I2.loc
    have hll : la ≠ X.env.locals := fun z => by
      obtain ⟨o, e, hc', n', hd'⟩ := pl.isList
      obtain ⟨o', es, ep, e', d', _⟩ := hn2
      rw [z, e'] at e; cases e
      rw [d'] at hd'; cases hd'
    obtain ⟨uu, ruu, lk⟩ := hl2 i x _ hN hv (.inr (.inl hkx))
    cases ruu
    have hcell : s2.heap.IsCell d (some (.ref la)) := by
      rcases lk with ⟨z, _⟩ | ⟨_, d', e', z⟩
      · have z' : X.env.scope.names.lookup x = some .local := z
        rw [hkx] at z'; cases z'
      · rw [hd] at e'; cases e'; exact z
    have hdL := I2.cne x d hd
    refine call_sorted_rng (fun j => ns.getD j.toNat 0) (I2.ok.hd hc) (show IsRange s2.heap r 0 _ 1 tr ur vr from hrg) (by (first | lia | omega)) (by (first | lia | omega)) F2 ?_ ?_
    · intro j tj h tk h0 h1 F' k'
      have hjl : j.toNat < ns.length := by (first | lia | omega)
      have hgj : ns[j.toNat]? = some (ns.getD j.toNat 0) := by simp [List.getD, hjl]
      obtain ⟨t', ht'⟩ := hi.get j.toNat _ hgj
      refine wpAny_mono (lam_call (s := { s2 with heap := h, toks := tk }) (by have := hr.dp; show X.A.depth < recursionLimit; (first | lia | omega)) (I2.ok.mod.nolimit.keeps F'.keep) (k' f _ hfL hf) ⟨c', oc, zs, tq, rfl, k' c' _ hcL hoc, hzs, hz1⟩
        (let ⟨o, e, z⟩ := hcell; ⟨o, k' d o hdL e, z⟩) (let ⟨o, e, z⟩ := pl.isList; ⟨o, k' la o hll e, z⟩) h0 (by (first | lia | omega)) (by simpa using ht') (fun v => hb v d _ pm _ ctv) hy hx hnc hk hco hgen dx dy cx hs) (fun v s' ⟨h2, tk2, t2, e1, e2, k2⟩ => ⟨h2, tk2, t2, e1, e2, k2⟩) fun _ _ z => z
    · intro D h' tk out cc ms F' k' hD hDs hI hp hw
      have hlm : ms.length = ns.length := by rw [hp.length_eq, List.length_map, List.length_range]; simp
      have hsl : (64 : Nat) ≤ sizeLine := by decide
      refine ⟨.ref D, _, I2.laidL (t' := tk) (o := .lst (ms.map V.int)) k' (fun m' hm' => by rw [ns_one hm' F2.ns]; exact F'.ns) hDs ⟨by rw [List.length_map]; (first | lia | omega), out.toList, cc, vals_of_ints hI, by rw [hD, Array.toArray_toList]⟩, rfl, ?_⟩
      have hfr := I2.hok.fresh hDs
      refine q D _ ms (g2.free hT hfr) upd_same (g2.trans (Gw.of g2.ok (fun b u e => by rw [upd_ne (ne_of_none e hfr)]; exact e))) (by simpa using hp) hw
  have bl : s1.heap.BuiltinsAt X.mg T.P := let ⟨bm, ob, a1, a2, a3, a4, a5, a6⟩ := hB; ⟨bm, ob, a1, a2, a3, a4, I1.bk _ _ a5, a6⟩
  obtain ⟨ps, hps⟩ := hT.is
  have gP : mainGlobals ≠ T.P := fun z => by
    obtain ⟨o, _, _, e, _⟩ := I1.ok.mod.glob
    have := (I1.bs _ o e).2
    rw [z, hps] at this; cases this
  have gl := I1.ok.mod.glob.keeps I1.bk
  have ch := PySem.W.codeHd_of_K I1.kIn hK
  have hLs : X.env.locals < s1.heap.objs.size := I1.lt
  rcases id hT with hP | ⟨c', oc, zs, tq, hP, hC, hzs, hz1⟩
  · refine PySem.W.kla_makeFunction (hcl d hd) I1.ok.glob gl hcd ch (show s1.heap.get? T.P = some (PySem.W.tabObj #[]) from I1.hok _ _ hP) trivial rfl gP bl fun c' ctv h' tk hx' hge hlt hrec htb => ?_
    obtain ⟨c2, oc, zs, tq, e2, hoc, hzs, hz1⟩ := hrec
    cases e2
    have htb' : h'.get? T.P = some (PySem.W.tabObj #[rawInt T.pos.line, rawInt T.pos.col, .ref c']) := by simpa using htb
    refine kws_nil (go _ _ h'.objs.size c' oc zs tq _ ctv (I1.tabled hP hx' hge hoc htb') ⟨.inr ⟨c', oc, zs, tq, ?_, upd_same, hzs, hz1⟩, fun b o hb e => ?_⟩ (Heap.get?_push_size _ rfl) (Nat.ne_of_gt (Nat.lt_trans hLs (Nat.lt_of_le_of_lt hge hlt))) (Heap.get?_push_of_some _ hoc) (Nat.ne_of_gt (Nat.lt_of_lt_of_le hLs hge)) hzs hz1)
    · rw [upd_ne (Nat.ne_of_lt (Nat.lt_of_lt_of_le (I1.hok.lt hP) hge)), upd_same]
    · rw [upd_ne (Nat.ne_of_lt (Nat.lt_of_lt_of_le (I1.hok.lt e) hge)), upd_ne hb]; exact e
  · refine PySem.W.kla_makeFunctionHit (c := c) (P := T.P) (cv := .ref c') (hcl d hd) I1.ok.glob gl hcd ch (show s1.heap.get? T.P = some (PySem.W.tabObj _) from I1.hok _ _ hP) ?_ ?_ bl fun ctv h' tk hk' hsz => ?_
    · exact trivial
    · exact codeAmong_snoc [] trivial rfl
    · have hCk := (I1.hok _ _ hC).1
      refine kws_nil (go _ _ h'.objs.size c' oc zs tq _ ctv (I1.kept (t' := tk) fun b u e => Heap.get?_push_of_some _ (hk' b u e)) (Gw.of hT sameR') (Heap.get?_push_size _ rfl) (Nat.ne_of_gt (Nat.lt_of_lt_of_le hLs hsz)) (Heap.get?_push_of_some _ (hk' _ _ hCk)) (fun z => by rw [z, I1.free] at hC; cases hC) hzs hz1)
end

/-! ### the head, where a table of code objects is tracked -/
theorem law_callT {P : Program} {w : World} {K : PySem.W.Frag} {mg mb : Str → Option Value} {CX : CXT} {k : Nat} {fa a pT cC : Addr} {fd : FuncData} {x : Str} {sp : Sp} {s₁ : Shared} {vs : List Value} {ns : List Int}
    (KX : K.In s₁.heap) (hns : s₁.heap.Ns mainGlobals mg) (hb : s₁.heap.Ns builtinsNs mb) (hbb : ∀ x : Str, x ≠ "__name__" → mb x = bootBuiltins x) (hlim : s₁.heap.NoLimit) (hg : s₁.gens = #[])
    (ha : s₁.heap.get? a = some { cls := .type "list", data := .seq vs.toArray }) (hi : IntsAre vs ns) (hl : ns.length ≤ sizeLine) (hr : Room k callerA)
    (hT : s₁.heap.get? pT = some (PySem.W.tabObj #[])) (hC : PySem.W.codeHdIn K cC pT = true) (hKT : K.lookup pT = none) (hB : s₁.heap.BuiltinsAt mg pT)
    (F : ∀ base : Heap, K.In base → base.Ns mainGlobals mg → base.BuiltinsAt mg pT → FnOk P w K mg base CX k fa fd [x] sp) (hbind : ∀ (s : Shared) (u : Value), BindsTo s fd ⟨[u], []⟩ [(x, u)])
    (hsp : ∀ H : Hp, H pT = some (.tbl #[]) → SqL K H a (ns.map V.int) → sp [.ref a] H (fun v _ => v = .bl true) fun _ _ _ => False)
    (hCX : ∀ H e s', CX [] H s₁ (fun _ _ _ => False) e s' → False) :
    codeAny (model P w) callerA (.call (.ref fa) ⟨[.ref a], []⟩) (fun r s' => r = .ok (.ret (.bool true)) ∧ OldK s₁.heap s'.heap ∧ s'.os = s₁.os ∧ AllBare s'.gens) s₁ := by
  have rv := vals_ints hi
  have lenV := hi.length
  have hap : a ≠ pT := fun z => by rw [z, hT] at ha; cases ha
  have core : ∀ H : Hp, H pT = some (.tbl #[]) → SqL K H a (ns.map V.int) → HOk P w H s₁.heap → (∀ b, H b ≠ none → b = a ∨ b = pT) → (∀ o, K.lookup a = some o → H a = none) → (∀ u, H a = some u → ∃ o xs, u = .frz o (.lst xs)) →
      codeAny (model P w) callerA (.call (.ref fa) ⟨[.ref a], []⟩) (fun r s' => r = .ok (.ret (.bool true)) ∧ OldK s₁.heap s'.heap ∧ s'.os = s₁.os ∧ AllBare s'.gens) s₁ := by
    intro H hP hS hok hA hK hZ
    have base_of : ∀ {b : Addr} {o : Obj}, s₁.heap.get? b = some o → H b = none → (hidT s₁.heap H).get? b = some o := fun e n => hidT_get e n
    have noA : ∀ {b : Addr} {o : Obj}, s₁.heap.get? b = some o → (∀ c n, o.data ≠ .seq c n) → (∀ c, o.data ≠ .fields c) → H b = none := fun {b o} e d1 d2 => by
      cases q : H b with
      | none => rfl
      | some u =>
        rcases hA b (by rw [q]; simp) with e' | e'
        · subst e'; rw [ha] at e; cases e; exact absurd rfl (d1 _ _)
        · subst e'; rw [hT] at e; cases e; exact absurd rfl (d2 _)
    have nsK : ∀ {b : Addr} {m : Str → Option Value}, s₁.heap.Ns b m → (hidT s₁.heap H).Ns b m := fun {b m} ⟨o, es, ep, e, d, r⟩ => ⟨o, es, ep, base_of e (noA e (fun c n z => by rw [d] at z; cases z) (fun c z => by rw [d] at z; cases z)), d, r⟩
    have hKb : K.In (hidT s₁.heap H) := fun b o e => base_of (KX b o e) (by
      cases q : H b with
      | none => rfl
      | some u =>
        rcases hA b (by rw [q]; simp) with e' | e'
        · subst e'; rw [hK _ e] at q; cases q
        · subst e'; rw [hKT] at e; cases e)
    have hBb : (hidT s₁.heap H).BuiltinsAt mg pT := by
      obtain ⟨bm, ob, a1, a2, a3, a4, a5, a6, a7, a8⟩ := hB
      exact ⟨bm, ob, a1, a2, a3, a4, base_of a5 (noA a5 (fun c n z => by rw [a8] at z; cases z) (fun c z => by rw [a8] at z; cases z)), a6, a7, a8⟩
    have hM : Mod K mg (hidT s₁.heap H) := ⟨hKb, nsK hns, ⟨mb, nsK hb, hbb⟩, let ⟨mc, h1, h2⟩ := hlim; ⟨mc, nsK h1, h2⟩⟩
    have e0 : Env0 P w K mg (hidT s₁.heap H) callerA [] s₁ H := ⟨rfl, hM, fun b o e => of_hidT e, Nat.le_of_eq (hidT_size _ _), trivial, fun b hb => absurd (show b ∈ ([] : List Addr) from hb) (by simp), hok, .of_eq hg⟩
    refine codeAny_mono ((F _ hKb (nsK hns) hBb).run callerA [] s₁ H ⟨[.ref a], []⟩ [.ref a] [.ref a] _ _ hr e0 (hbind s₁ (.ref a)) (.cons rfl .nil) (hsp H hP hS)) fun r s' h => ?_
    cases r with
    | error e => exact (hCX H e s' h).elim
    | ok fl =>
      cases fl with
      | next => exact False.elim h
      | brk => exact False.elim h
      | cont => exact False.elim h
      | ret u =>
        obtain ⟨v, H', os, bare, un, hok', r', q⟩ := h
        have q' : v = .bl true := q
        subst q'
        obtain rfl : u = Value.bool true := r'
        refine ⟨rfl, ⟨fun b o e => ?_, fun b o e => un.there b o e (by simp)⟩, os, bare⟩
        cases q : H b with
        | none => exact .inl (un.keep b o e q (by intro z; exact absurd (show b ∈ ([] : List Addr) from z) (by simp)) (by simp))
        | some u =>
          rcases hA b (by rw [q]; simp) with e' | e'
          · subst e'
            obtain ⟨ob, xs, rfl⟩ := hZ u q
            have z2 := un.frzs _ ob _ q
            obtain ⟨e1, _⟩ := hok _ _ q
            obtain ⟨e2, _⟩ := hok' _ _ z2
            rw [e] at e1; cases e1
            exact .inl e2
          · subst e'
            rw [hT] at e; cases e
            obtain ⟨more, z2⟩ := un.tbls _ _ hP
            have e2 : s'.heap.get? b = some _ := hok' _ _ z2
            obtain ⟨co, cvs, _, _, _, _, _, _, _, c1, c2, c3, c4, _⟩ := PySem.W.codeHd_of_K KX hC
            exact .inr (.inl ⟨⟨cC, co, cvs, c1, c2, c3, c4⟩, rfl, #[], more, rfl, e2⟩)
  cases hk : K.lookup a with
  | some o =>
    have e := KX a o hk
    rw [ha] at e
    cases e
    refine core (fun b => if b = pT then some (.tbl #[]) else none) (if_pos rfl) (.inr ⟨_, vs.toArray, _, hk, rfl, rfl, rfl, by rw [List.size_toArray, lenV]; exact hl, by simpa using rv⟩) (fun b u z => ?_) (fun b z => ?_) (fun _ _ => if_neg hap) (fun u z => ?_)
    · by_cases hb : b = pT
      · have z' := (if_pos hb).symm.trans z
        cases z'
        rw [hb]; exact hT
      · have z' := (if_neg hb).symm.trans z
        cases z'
    · by_cases hb : b = pT
      · exact .inr hb
      · exact absurd (if_neg hb) z
    · have z' := (if_neg hap).symm.trans z
      cases z'
  | none =>
    refine core (fun b => if b = a then some (.frz { cls := .type "list", data := .seq vs.toArray } (.lst (ns.map V.int))) else if b = pT then some (.tbl #[]) else none) ((if_neg (Ne.symm hap)).trans (if_pos rfl)) (.inl (.inr ⟨{ cls := .type "list", data := .seq vs.toArray }, if_pos rfl⟩)) (fun b u z => ?_) (fun b z => ?_) (fun o z => by rw [hk] at z; cases z) (fun u z => ?_)
    · by_cases hb : b = a
      · have z' := (if_pos hb).symm.trans z
        cases z'
        subst hb
        exact ⟨ha, by rw [List.length_map]; exact hl, vs, _, rv, ha⟩
      · have z' := (if_neg hb).symm.trans z
        by_cases hb2 : b = pT
        · have z2 := (if_pos hb2).symm.trans z'
          cases z2
          rw [hb2]; exact hT
        · have z2 := (if_neg hb2).symm.trans z'
          cases z2
    · by_cases hb : b = a
      · exact .inl hb
      · by_cases hb2 : b = pT
        · exact .inr hb2
        · exact absurd ((if_neg hb).trans (if_neg hb2)) z
    · have z' := (if_pos rfl).symm.trans z
      cases z'
      exact ⟨_, _, rfl⟩
theorem walk_ofT {l : PySem.W.OpenLaw} {n k : Nat} {q : Program} {loose : List Str} {XP : (Str → Option Value) → Heap → Prop} {YP : World → Heap → Prop} {d : DefRec} {K : Params → PySem.W.Frag} {CX : World → CXT} {sp : World → Sp} {x : Str} {pT : Addr}
    (hn : l.most = some n) (hn2 : n ≤ sizeLine) (hdf : d.params.defaults = []) (hr : Room k callerA)
    (hY : ∀ (w : World) (h : Heap), YP w h → (K w.params).In h ∧ h.get? pT = some (PySem.W.tabObj #[]))
    (F : ∀ (w : World) (mg : Str → Option Value) (fa : Addr) (h : Heap), (K w.params).In h → h.Ns mainGlobals mg → mg d.name = some (.ref fa) →
      ∃ (fd : FuncData) (cC : Addr), PySem.W.codeHdIn (K w.params) cC pT = true ∧ (K w.params).lookup pT = none ∧ (∀ (s : Shared) (u : Value), BindsTo s fd ⟨[u], []⟩ [(x, u)]) ∧
        ∀ base : Heap, (K w.params).In base → base.Ns mainGlobals mg → base.BuiltinsAt mg pT → FnOk l.prog w (K w.params) mg base (CX w) k fa fd [x] (sp w))
    (hsp : ∀ (w : World) (H : Hp) (a : Addr) (ns : List Int), ns.length ≤ n → H pT = some (.tbl #[]) → SqL (K w.params) H a (ns.map V.int) → sp w [.ref a] H (fun v _ => v = .bl true) fun _ _ _ => False)
    (hCX : ∀ (w : World) (H : Hp) (s : Shared) (e : Value) (s' : Shared), CX w [] H s (fun _ _ _ => False) e s' → False) :
    PySem.W.WalkO q loose XP YP l.row.toRowW d [] (fun f vs => PySem.call f vs) := by
  refine Att.attach_call hn hdf fun w s₀ s₁ mg mb fa o pm cd doc a vs ns G Y ho hd hcd hmg hobj hints hlen hg => ?_
  obtain ⟨KX, hT⟩ := hY w _ Y
  obtain ⟨fd, cC, hC, hKT, hb, hF⟩ := F w mg fa _ KX G.T.g hmg
  obtain ⟨bm, ob, b1, b2, b3, b4, b5, b6⟩ := G.T.bmain
  have n1 : bm ≠ mainGlobals := fun z => by
    obtain ⟨o', es, ep, e, hd', _⟩ := G.T.g
    rw [z, e] at b3; cases b3
    rw [hd'] at b6; cases b6
  have n2 : bm ≠ pT := fun z => by rw [z, hT] at b3; cases b3; cases b4
  have hB : s₁.heap.BuiltinsAt mg pT := ⟨bm, ob, b1, b2, n1, n2, b3, b4, b5, b6⟩
  exact law_callT KX G.T.g G.T.b G.T.builtins G.T.nolimit hg hobj hints (Nat.le_trans hlen hn2) hr hT hC hKT hB hF hb (fun H hO hS => hsp w H a ns hlen hO hS) fun H e s' => hCX w H s₁ e s'
/-- a def whose code object is known -/
theorem Fun.okC {P : Program} {w : World} {K : PySem.W.Frag} {mg : Str → Option Value} {base : Heap} {x qual : Str} {st : Stmt} {f : Addr} {fd : FuncData} {N ps : List Str} {k : Nat} {sp : Sp} (F : Fun K x qual st f fd) (S : FnScope N ps (defScope st)) (len : ∀ vs H Q E, sp vs H Q E → vs.length = ps.length)
    (hbody : ∀ (cdv : Value) (A : Around) (outer : List Env) (s : Shared) (H : Hp) (vs : List V) (Q : VK) (E : XK), fd.code = cdv → Room k (A.deeper (envOfC qual (defScope st) s.heap.objs.size f cdv)) → sp vs H Q E →
      ∃ t, PSs (cxOf CX0 P w K mg base N qual (defScope st) f cdv A outer s H E).nox (defBody st) t ∧ t { nx := fun _ H' => Q .non H', rt := Q } (start N vs) H) : FnOk P w K mg base CX0 (k + 1) f fd ps sp := by
  obtain ⟨oc, od, kV, doc, pm, an, cdv, ct, osl, rfl, lk, hcd⟩ := F.ex
  refine fn_of lk hcd S len fun A outer s H vs Q E hr hsp => ?_
  obtain ⟨t, h, q⟩ := hbody cdv A outer s H vs Q E rfl hr hsp
  exact ⟨t, h.nox, q⟩
end L2

set_option Elab.async false
set_option linter.all false
set_option maxRecDepth 100000
set_option maxHeartbeats 4000000
/-! reversed(xs) in list(..) and in enumerate(..); min, max with default=. -/
namespace L2
open PySem PySem.Spec PyProof.Rows

theorem nolen_rev : typeLookup (.type "list_reverseiterator") "__len__" = pure none := by rw [typeLookup_type, builtinLookup_eq_fast]; kernel_rfl
theorem hint_rev : typeLookup (.type "list_reverseiterator") "__length_hint__" = pure (some (.builtin "list_reverseiterator.__length_hint__")) := by rw [typeLookup_type, builtinLookup_eq_fast]; kernel_rfl
section
variable {prog : Program} {w : World} {A : Around} {E : Value → Shared → Prop} {s : Shared}
theorem extend_rev {R : Result → Shared → Prop} {S I l : Addr} {items : Array Value} {res : Value} {c₀ : Nat} (hh : A.handled = none) (hne : l ≠ I) (hSI : S ≠ I) (hSl : S ≠ l) (hn : items.size ≤ sizeLine)
    (hit : s.heap.IsRevIter I l ((items.size : Int) - 1)) (hl : s.heap.IsList l items) (hS : s.heap.get? S = some { cls := .type "list", data := .seq #[] c₀ })
    (hR : ∀ h' tk acc c', (∀ b o, b ≠ S → b ≠ I → s.heap.get? b = some o → h'.get? b = some o) → h'.get? S = some { cls := .type "list", data := .seq acc c' } → ItemsOf (fun i v => items[items.size - 1 - i]? = some v) acc items.size → R (.ok (.ret res)) { s with heap := h', toks := tk }) :
    wpAny (model prog w) A.in1 (Builtin.List.listExtendWith (.ref S) (.ref I) res)
      (fun fin s' => match fin with | .done f => R (.ok f) s' | .again c' => c'.quiet = true ∧ codeAny (model prog w) A c' R s') (fun e s' => R (.error e) s') s := by
  have W := (Walks.listRev (prog := prog) (w := w) (A := A.in1) hh I l hne items).toS
  have hT := hit.typeIs
  have hSf : S ∉ [I, l] := fun z => by
    rcases List.mem_cons.mp z with z | z
    · exact hSI z
    · exact hSl (List.mem_singleton.mp z)
  unfold Builtin.List.listExtendWith
  refine wpAny_bind (wpAny_typeOf hT ?_)
  have h1 : Builtin.List.listSameRef (.ref S) (.ref I) = false := by simp [Builtin.List.listSameRef, hSI]
  rw [if_neg (by rw [h1]; decide)]
  refine wpAny_bind (wpAny_pyIter_revIter hit ?_)
  refine wpAny_bind (wpAny_holding ?_)
  unfold Builtin.List.listLengthHint
  refine wpAny_bind (wpAny_specialOf hT nolen_rev ?_)
  show wpAny _ A.in1 (specialOf (Value.ref I) (Str.ofString "__length_hint__") >>= _) _ _ _
  refine wpAny_bind (wpAny_specialOf hT hint_rev ?_)
  generalize hid : ("list_reverseiterator.__length_hint__" : String) = id0
  wp_delta
  rw [show splitId id0 = some ("list_reverseiterator", "__length_hint__") from by subst hid; decide +kernel]
  subst hid
  refine wpAny_bind (wpAny_isInstance (b := true) hT (by rw [isSubtype_type]; kernel_rfl) ?_)
  refine wpAny_pure ?_
  rw [if_neg (by decide)]
  have st0 : 0 ≤ items.size ∧ s.heap.IsRevIter I l ((items.size : Int) - 1 - ((0 : Nat) : Int)) ∧ s.heap.IsList l items := ⟨Nat.zero_le _, by simpa using hit, hl⟩
  refine wpAny_pure ⟨plainId_quiet F.plain_extend_loop _, codeAny_extend_loopS W hn S hSf res items.size 0 s #[] c₀ rfl (Nat.zero_le _) st0 hS (ItemsOf.nil _) fun s' acc' c' hm hS' hacc => ?_⟩
  rw [Moved.eq_with hm]
  refine hR s'.heap s'.toks acc' c' (fun b o h1 h2 e => hm.heap b o (fun z => ?_) e) hS' hacc
  rcases List.mem_cons.mp z with z | z
  · exact h1 z
  · exact h2 (List.mem_singleton.mp z)
theorem call_list_rev {Q : Value → Shared → Prop} {l I : Addr} {items : Array Value} (hh : A.handled = none) (hne : l ≠ I) (hn : items.size ≤ sizeLine) (hit : s.heap.IsRevIter I l ((items.size : Int) - 1)) (hl : s.heap.IsList l items)
    (hQ : ∀ h' tk acc c', (∀ b o, b ≠ I → s.heap.get? b = some o → h'.get? b = some o) → h'.get? s.heap.objs.size = some { cls := .type "list", data := .seq acc c' } → ItemsOf (fun i v => items[items.size - 1 - i]? = some v) acc items.size → Q (.ref s.heap.objs.size) { s with heap := h', toks := tk }) :
    wpAny (model prog w) A (call (.type "list") [.ref I]) Q E s := by
  refine callType_codes (Q₁ := fun obj s₁ => obj = .ref s.heap.objs.size ∧ s₁ = { s with heap := s.heap.push { cls := .type "list", data := .seq #[] } }) F.called_list (F.typeCall_list_1 _) F.entry_list_init
    (code_list_new _ ⟨rfl, rfl⟩) fun obj s₁ h₁ => ?_
  obtain ⟨rfl, rfl⟩ := h₁
  have hS : (s.heap.push { cls := .type "list", data := .seq #[] }).get? s.heap.objs.size = some { cls := .type "list", data := .seq #[] } := Heap.get?_push_size _ rfl
  have hI : I < s.heap.objs.size := let ⟨_, e, _⟩ := hit; Heap.lt_size e
  have hL : l < s.heap.objs.size := let ⟨_, e, _⟩ := hl; Heap.lt_size e
  refine ⟨⟨_, hS, rfl⟩, F.args_list_init_2 _ _, ?_⟩
  show wpAny _ _ (do let old ← Builtin.List.listItems (.ref s.heap.objs.size); Builtin.List.listUpdate (.ref s.heap.objs.size) (fun _ => #[]); letGo old.toList.reverse; Builtin.List.listExtendWith (.ref s.heap.objs.size) (.ref I) .none) _ _ _
  refine wpAny_bind ?_
  unfold Builtin.List.listItems
  refine wpAny_bind (wpAny_seqItems hS rfl (wpAny_pure ?_))
  show wpAny _ _ (updateSeq s.heap.objs.size (fun _ => #[]) >>= fun _ => letGo (#[] : Array Value).toList.reverse >>= fun _ => Builtin.List.listExtendWith (.ref s.heap.objs.size) (.ref I) .none) _ _ _
  refine wpAny_bind (wpAny_updateSeq hS rfl ?_)
  have hS₂ := Heap.get?_update_self (Obj.mapSeq (fun _ => (#[] : Array Value))) hS rfl
  have oth : ∀ b o, b ≠ s.heap.objs.size → s.heap.get? b = some o → ((s.heap.push { cls := .type "list", data := .seq #[] }).update s.heap.objs.size (Obj.mapSeq (fun _ => (#[] : Array Value)))).get? b = some o :=
    fun b o hb e => (Heap.get?_update_other _ _ (Ne.symm hb)).trans (Heap.get?_push_of_some _ e)
  refine wpAny_bind (wpAny_letGo ?_)
  exact extend_rev (A := A.in1) hh hne (Nat.ne_of_gt hI) (Nat.ne_of_gt hL) hn (hit.at fun o e => oth I o (Nat.ne_of_lt hI) e) (let ⟨o, e, r⟩ := hl; ⟨o, oth l o (Nat.ne_of_lt hL) e, r⟩) hS₂ fun h' tk acc c' hk hS' hacc =>
    ⟨rfl, hQ h' tk acc c' (fun b o h1 e => hk b o (Nat.ne_of_lt (Heap.lt_size e)) h1 (oth b o (Nat.ne_of_lt (Heap.lt_size e)) e)) hS' hacc⟩
end

/-! ### list(reversed(e)) -/
theorem boot_listTy : bootBuiltins "list" = some (.type "list") := by decide +kernel
theorem boot_revT : bootBuiltins "reversed" = some (.type "reversed") := by decide +kernel
theorem vals_rev : ∀ {xs : List V} {us : List Value}, Vals xs us → Vals xs.reverse us.reverse
  | _, _, .nil => .nil
  | _, _, .cons r t => by
    rw [List.reverse_cons, List.reverse_cons]
    exact (vals_rev t).append (.cons r .nil)
theorem items_rev {its : List Value} {acc : Array Value} (h : ItemsOf (fun i v => its.toArray[its.toArray.size - 1 - i]? = some v) acc its.toArray.size) : acc.toList = its.reverse := by
  obtain ⟨h1, h2⟩ := h
  have h1 : acc.size = its.length := by simpa using h1
  rw [List.size_toArray] at h2
  apply List.ext_getElem?
  intro i
  by_cases hi : i < its.length
  · have e : acc[i]? = some (acc[i]'(by (first | lia | omega))) := Array.getElem?_eq_getElem (by (first | lia | omega))
    have := h2 i _ e
    rw [Array.getElem?_toList, e, ← this, List.getElem?_reverse hi]
    simp
  · rw [List.getElem?_eq_none (by rw [Array.length_toList]; (first | lia | omega)), List.getElem?_eq_none (by rw [List.length_reverse]; (first | lia | omega))]
def tListRev (K : PySem.W.Frag) (t : TA) : TE := fun σ H Q => t σ H fun vs H1 => ∃ (a : Addr) (xs : List V), vs = [.ref a] ∧ SqL K H1 a xs ∧ ∀ l : Addr, H1 l = none → Q (.ref l) (upd H1 l (.lst xs.reverse))
section
variable {X : Cx}
theorem pe_listRev {e : Expr} {t : TA} {p1 p2 pos pos2 : Pos} (ha : PA X [e] t) (hc : X.calm = true) (hg1 : Gl X "list") (hm1 : X.mg "list" = none) (hg2 : Gl X "reversed") (hm2 : X.mg "reversed" = none)
    (he : starEach [e] X.env = (false, eval e X.env) :: starEach [] X.env := by rfl) (hpl : (backTo pos2 (starEach [] X.env)).any (·.1) = false := by rfl)
    (he' : starEach [.Call (.Name "reversed" p2) [e] [] pos2] X.env = (false, eval (.Call (.Name "reversed" p2) [e] [] pos2) X.env) :: starEach [] X.env := by rfl) (hpl' : (backTo pos (starEach [] X.env)).any (·.1) = false := by rfl) :
    PE X (.Call (.Name "list" p1) [.Call (.Name "reversed" p2) [e] [] pos2] [] pos) (tListRev X.K t) := by
  intro pins s σ H Q I h
  refine wpAny_Call_Name_kw (ld_blt I hg1 hm1 boot_listTy ?_ (by decide) (by decide))
  refine PyProof.Rows.callWith_type1 ?_ he' hpl'
  rw [he']
  show wpAny _ _ (spliced ((false, eval (.Call (.Name "reversed" p2) [e] [] pos2) X.env) :: backTo pos (starEach [] X.env))) _ _ s
  refine Calls.spliced_cons ?_
  refine wpAny_Call_Name_kw (ld_blt I hg2 hm2 boot_revT ?_ (by decide) (by decide))
  refine PyProof.Rows.callWith_type1 (thn (ha pos2 pins s σ H _ I h) fun us s1 hPz => ?_) he hpl; obtain ⟨vs, H1, I1, r1, q⟩ := hPz
  obtain ⟨a, xs, rfl, hq, q⟩ := q
  obtain ⟨u, rfl, ru⟩ := r1.one
  cases ru
  obtain ⟨its, rv, pl, hz⟩ := I1.list hq
  have hlt : a < s1.heap.objs.size := let ⟨_, e, _⟩ := pl.isList; Heap.lt_size e
  refine call_reversed_list pl.isList (Calls.spliced_nil ?_)
  have k1 : ∀ b o, s1.heap.get? b = some o → (s1.heap.push (revObj a ((its.toArray.size : Int) - 1))).get? b = some o := fun b o e => Heap.get?_push_of_some _ e
  have hlen := rv.length
  refine call_list_rev (items := its.toArray) (I1.ok.hd hc) (Nat.ne_of_lt hlt) (by rw [List.size_toArray]; (first | lia | omega)) ⟨_, Heap.get?_push_size _ rfl, rfl, rfl⟩ (let ⟨o, e, r⟩ := pl.isList; ⟨o, k1 _ _ e, r⟩) fun h' tk acc c' hk hS it => ?_
  have hsz : (s1.heap.push (revObj a ((its.toArray.size : Int) - 1))).objs.size = s1.heap.objs.size + 1 := Heap.size_push ..
  rw [hsz] at hS ⊢
  refine ⟨.ref (s1.heap.objs.size + 1), _, I1.laid (t' := tk) (o := .lst xs.reverse) (fun b o e => hk b o (Nat.ne_of_lt (Heap.lt_size e)) (k1 b o e)) (Nat.le_succ _) ⟨by rw [List.length_reverse]; (first | lia | omega), acc.toList, c', by rw [items_rev it]; exact vals_rev rv, by rw [hS, Array.toArray_toList]⟩, rfl, q _ (I1.hok.fresh (Nat.le_succ _))⟩
end

/-! ### enumerate(reversed(e)) -/
section
variable {prog : Program} {w : World} {A : Around} {E : Value → Shared → Prop} {s : Shared}
theorem nextOf_rev_item {it l : Addr} {i : Nat} {items : Array Value} {x : Value} {Q : Value → Shared → Prop} (hit : s.heap.IsRevIter it l (i : Int)) (hl : s.heap.IsList l items) (hx : items[i]? = some x)
    (hQ : ∀ h', h'.IsRevIter it l ((i : Int) - 1) → Heap.SameBut it s.heap h' → Q x { s with heap := h' }) : wpAny (model prog w) A (Builtin.SmallTypes.nextOf (.ref it)) Q E s := by
  obtain ⟨o, ho, hc, hd⟩ := id hit
  obtain ⟨ol, hol, _, nl, hdl⟩ := hl
  unfold Builtin.SmallTypes.nextOf
  refine wpAny_bind (wpAny_callSpecial?_slot (name := Str.ofString "__next__") hit.typeIs F.slot_lri_next (wpAny_call_entry F.slot_lri_next hit.typeIs F.entry_lri_next ?_ (F.args_lri_next_1 _)))
  unfold Builtin.«list_reverseiterator.__next__»
  refine wpAny_bind (wpAny_of_eq (a := (Value.ref it, [])) rfl ?_)
  try dsimp only
  refine wpAny_bind (wpAny_field ho hd (x := rawInt (i : Int)) rfl ?_)
  show wpAny _ _ (if (i : Int) < 0 then _ else _) _ _ s
  rw [if_neg (by (first | lia | omega))]
  show wpAny _ _ (field (.ref it) 0 >>= _) _ _ s
  refine wpAny_bind (wpAny_field ho hd (x := .ref l) rfl ?_)
  show wpAny _ _ (seqItems? (.ref l) >>= _) _ _ s
  refine wpAny_bind (wpAny_seqItems hol hdl ?_)
  simp only [Int.toNat_natCast, hx]
  refine wpAny_bind (wpAny_setField ho hd (by simp) ?_)
  have fin : Heap.IsRevIter (s.heap.update it (Obj.mapFields (·.setIfInBounds 1 (rawInt ((i : Int) - 1))))) it l ((i : Int) - 1) := ⟨_, Heap.get?_update_self _ ho (Obj.isFreed_of_fields (Obj.data_mapFields hd _)), (Obj.cls_mapFields ..).trans hc, by
    rw [Obj.data_mapFields hd]; simp⟩
  first
  | exact wpAny_pure ⟨x, rfl, wpAny_pure (hQ _ fin (Heap.SameBut.update ..))⟩
  | exact wpAny_bind (wpAny_pure (wpAny_pure ⟨x, rfl, wpAny_pure (hQ _ fin (Heap.SameBut.update ..))⟩))
theorem nextOf_rev_end {it l : Addr} {Q : Value → Shared → Prop} (hh : A.handled = none) (hit : s.heap.IsRevIter it l (-1))
    (hE : ∀ h' e, Heap.ExtBut it s.heap h' → (∃ o, h'.get? e = some o ∧ o.cls = .type "StopIteration") → E (.ref e) { s with heap := h' }) : wpAny (model prog w) A (Builtin.SmallTypes.nextOf (.ref it)) Q E s := by
  obtain ⟨o, ho, hc, hd⟩ := id hit
  unfold Builtin.SmallTypes.nextOf
  refine wpAny_bind (wpAny_callSpecial?_slot (name := Str.ofString "__next__") hit.typeIs F.slot_lri_next (wpAny_call_entry F.slot_lri_next hit.typeIs F.entry_lri_next ?_ (F.args_lri_next_1 _)))
  unfold Builtin.«list_reverseiterator.__next__»
  refine wpAny_bind (wpAny_of_eq (a := (Value.ref it, [])) rfl ?_)
  try dsimp only
  refine wpAny_bind (wpAny_field ho hd (x := rawInt (-1)) rfl ?_)
  show wpAny _ _ (if (-1 : Int) < 0 then _ else _) _ _ s
  rw [if_pos (by decide)]
  refine wpAny_bind (wpAny_rule ?_)
  first
  | show wpAny _ _ (newExc (.type "StopIteration") [] >>= _) _ _ _
  | (refine wpAny_bind ?_; show wpAny _ _ (newExc (.type "StopIteration") [] >>= _) _ _ _)
  refine wpAny_bind ?_
  simp only [newExc, newTuple]
  refine wpAny_bind (wpAny_newObj_type ?_ (by size_fits))
  refine wpAny_bind (m := firstArgMember _ _) (wpAny_of_eq (a := Value.none) (by first | rfl | (simp only [firstArgMember]; rfl)) ?_)
  refine wpAny_newObj_type ?_ (by size_fits)
  simp only [raiseNew]
  refine wpAny_bind (wpAny_handled ?_)
  first | rw [show A.in1.handled = none from hh] | rw [hh]
  refine wpAny_bind (wpAny_pure (wpAny_throw ?_))
  exact hE _ _ (((Heap.ExtBut.refl _ _).push _).push _) ⟨_, Heap.get?_push_size _ rfl, rfl⟩
theorem draws_rev (hh : A.handled = none) (I l : Addr) (hne : l ≠ I) (items : Array Value) :
    Draws prog w A I [I, l] items.size (fun i v => items[items.size - 1 - i]? = some v) (fun i h => i ≤ items.size ∧ h.IsRevIter I l ((items.size : Int) - 1 - (i : Int)) ∧ h.IsList l items) where
  live := fun _ _ x => let ⟨o, e, _⟩ := x.2.1; ⟨o, e⟩
  frame := fun _ _ _ x hk => ⟨x.1, x.2.1.at fun o e => hk I (by simp) o e, let ⟨o, e, r⟩ := x.2.2; ⟨o, hk l (by simp) o e, r⟩⟩
  item := fun i s Q E hi x hQ => by
    have e : (items.size : Int) - 1 - (i : Int) = ((items.size - 1 - i : Nat) : Int) := by (first | lia | omega)
    have hit := x.2.1
    rw [e] at hit
    have hx : items[items.size - 1 - i]? = some (items[items.size - 1 - i]'(by (first | lia | omega))) := Array.getElem?_eq_getElem (by (first | lia | omega))
    refine nextOf_rev_item hit x.2.2 hx fun h' hit' hs' => ?_
    have e2 : ((items.size - 1 - i : Nat) : Int) - 1 = (items.size : Int) - 1 - ((i + 1 : Nat) : Int) := by (first | lia | omega)
    rw [e2] at hit'
    exact hQ _ h' s.toks hx ⟨hi, hit', let ⟨o, e, r⟩ := x.2.2; ⟨o, (hs'.2 l hne).trans e, r⟩⟩ hs'
  done := fun s Q E x hE => by
    have e : (items.size : Int) - 1 - (items.size : Int) = -1 := by (first | lia | omega)
    have hit := x.2.1
    rw [e] at hit
    exact nextOf_rev_end hh hit hE
set_option maxHeartbeats 1000000 in
theorem meets_enum_rev (it l : Addr) (i : Int) :
    Meets (Builtin.«enumerate.__new__» ⟨[.type "enumerate", .ref it], []⟩) (fun _ R s => s.heap.IsRevIter it l i ∧
      R (.ok (.ret (.ref s.heap.objs.size))) { s with heap := s.heap.push { cls := .type "enumerate", data := .fields #[.none, .bool false, .ref it, rawInt 0, .none, .none] } }) :=
  .of_wp fun prog w A R s h => by
    obtain ⟨hp, g, d, tk, os⟩ := s
    obtain ⟨hl, h⟩ := h
    have hsub := sub_enumerate
    wp_walk
    refine wpAny_stack_any fun st => wpAny_pure ?_
    split
    · rename_i c _ _ _ _ _
      cases (c == Value.type "enumerate")
      · wp_walk using wpAny_pyIter_revIter hl
        exact ⟨_, rfl, h⟩
      · wp_walk using wpAny_pyIter_revIter hl
        exact ⟨_, rfl, h⟩
    · wp_walk using wpAny_pyIter_revIter hl
      exact ⟨_, rfl, h⟩
theorem call_enum_rev {it l : Addr} {i : Int} {Q : Value → Shared → Prop} (hit : s.heap.IsRevIter it l i)
    (h : ∀ h', IsEnum h' s.heap.objs.size it 0 .none → h'.objs.size = s.heap.objs.size + 1 → (∀ b o, s.heap.get? b = some o → h'.get? b = some o) → Q (.ref s.heap.objs.size) { s with heap := h' }) :
    wpAny (model prog w) A (call (.type "enumerate") [.ref it]) Q E s := by
  refine callType_new F.called_enumerate (by decide) (F.typeCall_enumerate_1 _) (F.newCall_enumerate_1 _) (fun obj => F.args_object_init_2 obj _) F.entry_enumerate_new (meets_enum_rev it l i) ⟨hit, ?_⟩
  have he : IsEnum (s.heap.push { cls := .type "enumerate", data := .fields #[.none, .bool false, .ref it, rawInt 0, .none, .none] }) s.heap.objs.size it 0 .none := Heap.get?_push_size _ rfl
  exact ⟨⟨_, he, rfl⟩, h _ he (Heap.size_push ..) fun b o x => Heap.get?_push_of_some _ x⟩
end

/-- at turn i the pair of i and the i-th item from behind, a new tuple -/
def Itv (K : PySem.W.Frag) (a : Addr) (n : Nat) : It :=
  ⟨fun i H => i < n ∧ ∃ xs, SqL K H a xs ∧ xs.length = n, fun i H x H' => ∃ p v, x = .ref p ∧ H p = none ∧ H' = upd H p (.tup [.int i, v]) ∧ ∀ xs, SqL K H a xs → xs.length = n → xs[n - 1 - i]? = some v, fun i H => i = n ∧ ∃ xs, SqL K H a xs ∧ xs.length = n⟩
theorem turn_enumRev {P : Program} {w : World} {K : PySem.W.Frag} {es : List Expr} {k1 n : Nat} {tp : Pos} (a it e : Addr) (hei : e ≠ it) :
    Turn P w K (.Tuple es k1 tp) (Itv K a n) [e, it] e (fun i h => (∃ old, IsEnum h e it i old) ∧ h.IsRevIter it a ((n : Int) - 1 - (i : Int))) where
  mem := by simp
  obj := fun i h st b hb => by
    obtain ⟨⟨old, he⟩, hit⟩ := st
    rcases List.mem_cons.mp hb with rfl | hb
    · exact ⟨_, he, fun v z => nomatch z⟩
    · have e1 : b = it := by simpa using hb
      subst e1
      obtain ⟨o, e, c, d⟩ := hit
      exact ⟨o, e, fun v z => by rw [d] at z; cases z⟩
  keep := fun i h h' st k => by
    obtain ⟨⟨old, he⟩, hit⟩ := st
    exact ⟨⟨old, k e (by simp) _ he⟩, hit.at fun o e => k it (by simp) o e⟩
  item := by
    intro X hP hw hK hc i pins s σ H E I hf st hg
    subst hP hw hK
    obtain ⟨⟨old, he⟩, hit⟩ := st
    obtain ⟨hin, xs, hq, hx⟩ := hg
    obtain ⟨its, rv, p, hz⟩ := I.list hq
    have hil : its.length = n := by rw [← rv.length, hx]
    obtain ⟨e0, e1, e2, e3, e4, e5⟩ := hf e (by simp)
    obtain ⟨f0, f1, f2, f3, f4, f5⟩ := hf it (by simp)
    have helt : e < s.heap.objs.size := Heap.lt_size he
    have hilt : it < s.heap.objs.size := by obtain ⟨_, x, _⟩ := hit; exact Heap.lt_size x
    obtain ⟨oa, hoa, hca, na, hda⟩ := id p.isList
    have hai : a ≠ it := fun z => by
      obtain ⟨o', e', c', _⟩ := hit
      rw [z, e'] at hoa; cases hoa; rw [c'] at hca; exact absurd hca (by decide)
    have hae : a ≠ e := fun z => by
      rw [z] at hoa
      have : some _ = some oa := (show s.heap.get? e = some _ from he).symm.trans hoa
      cases this; exact absurd (show Value.type "enumerate" = Value.type "list" from hca) (by decide)
    have D := draws_rev (prog := X.prog) (w := X.w) (A := X.A.in1) (I.ok.hd hc) it a hai its.toArray
    have hsz0 : its.toArray.size = n := by rw [List.size_toArray]; exact hil
    rw [hsz0] at D
    refine wpAny_pyNext_enum_itemD D he ⟨Nat.le_of_lt hin, hit, p.isList⟩ hin hei (fun z => by
      rcases List.mem_cons.mp z with z | z
      · exact hei z
      · exact hae (List.mem_singleton.mp z).symm) fun u h' tk hu ho hit' hT hsz kk => ?_
    have hu : its[n - 1 - i]? = some u := by simpa using hu
    obtain ⟨x, hxv, rx⟩ := vals_at rv hu
    refine ⟨_, rfl, wpAny_letOwnedTupleGo_enum ho fun h2 he2 hs2 => ?_⟩
    have I1 : Inv X pins σ (upd H s.heap.objs.size (.tup [.int i, x])) { s with heap := h2, toks := tk + 1 } := by
      have hn : H s.heap.objs.size = none := I.hok.fresh (Nat.le_refl _)
      have keep : ∀ b o, b ≠ e → b ≠ it → s.heap.get? b = some o → h2.get? b = some o := fun b o h1 h2' e' => (hs2.2 b h1).trans (kk b o h1 h2' e')
      have nb : ∀ b o, s.heap.get? b = some o → b ≠ s.heap.objs.size := fun b o e' => Nat.ne_of_lt (Heap.lt_size e')
      have tr : ∀ b u, H b = some u → b ≠ e ∧ b ≠ it := fun b u e' => ⟨fun z => (by rw [z, e0] at e'; cases e'), fun z => (by rw [z, f0] at e'; cases e')⟩
      refine I.step (g' := s.gens) (d' := s.drawn) (ch := [e, it]) (fun b hb => ?_) (fun b o _ _ hc e' _ => keep b o (fun z => hc (by simp [z])) (fun z => hc (by simp [z])) e') (fun b o _ _ hc e' _ => ⟨o.slots, keep b o (fun z => hc (by simp [z])) (fun z => hc (by simp [z])) e'⟩)
        (fun b o _ e' n => by rw [upd_ne (nb b o e')]; exact n) (fun b o hc e' => ⟨o, keep b o (fun z => hc (by simp [z])) (fun z => hc (by simp [z])) e'⟩) (fun b ys e' => by rw [upd_ne (ne_of_none e' hn)]; exact e') (fun b o v e' => by rw [upd_ne (ne_of_none e' hn)]; exact e')
        (fun b ps e' => ⟨#[], by rw [upd_ne (ne_of_none e' hn), e']; simp⟩) (fun m hm => ?_) (fun b v e' => ?_) I.bare
      · rcases List.mem_cons.mp hb with rfl | hb
        · exact ⟨e3, e1, e4, e5⟩
        · have e1' : b = it := by simpa using hb
          subst e1'
          exact ⟨f3, f1, f4, f5⟩
      · obtain ⟨o, es', ep, ho', r⟩ := hm
        exact ⟨o, es', ep, keep _ o (Ne.symm e1) (Ne.symm f1) ho', r⟩
      · by_cases hb : b = s.heap.objs.size
        · subst hb
          rw [upd_same] at e'; cases e'
          refine ⟨by show 2 ≤ sizeLine; decide, [.int i tk, u], .cons ⟨_, rfl⟩ (.cons rx .nil), ?_⟩
          exact ⟨_, (hs2.2 _ (Nat.ne_of_gt helt)).trans hT, rfl, 0, rfl⟩
        · rw [upd_ne hb] at e'
          refine (I.hok b v e').stay (fun c v' hc q => ?_) (fun c q => by rw [upd_ne (ne_of_none q hn)]; exact q) fun c ys q => by rw [upd_ne (ne_of_none q hn)]; exact q
          rcases hc with rfl | hc
          · exact keep c v' (tr c _ e').1 (tr c _ e').2 q
          · exact keep c v' (tr c _ hc).1 (tr c _ hc).2 q
    refine ⟨.ref s.heap.objs.size, _, I1, rfl, ⟨s.heap.objs.size, x, rfl, I.hok.fresh (Nat.le_refl _), rfl, fun ys hy _ => by rw [I.list_inj hy hq]; exact hxv⟩, ⟨⟨_, by simpa using he2⟩, hit'.2.1.at fun o y => (hs2.2 it (Ne.symm hei)).trans y⟩, fun b hb => ?_⟩
    rcases List.mem_cons.mp hb with rfl | hb
    · rw [upd_ne (Nat.ne_of_lt helt)]; exact e0
    · have e1' : b = it := by simpa using hb
      subst e1'
      rw [upd_ne (Nat.ne_of_lt hilt)]; exact f0
  done := by
    intro X hP hw hK hc i pins s σ H E I hf st hg
    subst hP hw hK
    obtain ⟨⟨old, he⟩, hit⟩ := st
    obtain ⟨rfl, xs, hq, hx⟩ := hg
    obtain ⟨its, rv, p, hz⟩ := I.list hq
    obtain ⟨f0, f1, f2, f3, f4, f5⟩ := hf it (by simp)
    have hil : its.length = i := by rw [← rv.length, hx]
    obtain ⟨oa, hoa, hca, na, hda⟩ := id p.isList
    have hai : a ≠ it := fun z => by
      obtain ⟨o', e', c', _⟩ := hit
      rw [z, e'] at hoa; cases hoa; rw [c'] at hca; exact absurd hca (by decide)
    have D := draws_rev (prog := X.prog) (w := X.w) (A := X.A.in1) (I.ok.hd hc) it a hai its.toArray
    have hsz0 : its.toArray.size = i := by rw [List.size_toArray]; exact hil
    rw [hsz0] at D
    exact wpAny_pyNext_enum_endD D he ⟨Nat.le_refl _, hit, p.isList⟩ fun h' eb => ⟨rfl, I.turned (t' := s.toks) (fun b o hb e => eb b o hb e) f0 f1 f3 f4 f5⟩
  self := fun _ _ _ _ _ st h => let ⟨⟨_, he⟩, _⟩ := st; wpAny_pyIter_enum he h
section
variable {X : Cx} {es : List Expr} {k1 : Nat} {tp : Pos}
def iEnumRev (K : PySem.W.Frag) (ta : TA) : TI := fun σ H R => ta σ H fun vs H1 => ∃ a xs, vs = [.ref a] ∧ SqL K H1 a xs ∧ R (Itv K a xs.length) H1
theorem pi_enumRev {a : Expr} {ta : TA} {p p2 pos pos2 : Pos} (hg : Gl X "enumerate") (hm : X.mg "enumerate" = none) (hg2 : Gl X "reversed") (hm2 : X.mg "reversed" = none) (ha : PA X [a] ta)
    (he : starEach [a] X.env = (false, eval a X.env) :: starEach [] X.env := by rfl) (hpl : (backTo pos2 (starEach [] X.env)).any (·.1) = false := by rfl)
    (hs : starEach [.Call (.Name "reversed" p2) [a] [] pos2] X.env = [(false, eval (.Call (.Name "reversed" p2) [a] [] pos2) X.env)] := by rfl) :
    PI X (.Tuple es k1 tp) (.Call (.Name "enumerate" p) [.Call (.Name "reversed" p2) [a] [] pos2] [] pos) (iEnumRev X.K ta) := by
  intro pins s σ H R I h
  refine Call_ (ld_blt I hg hm boot_enumerate (PyProof.Rows.callWith_type1 ?_ hs rfl))
  rw [hs]
  show wpAny _ _ (spliced ((false, eval (.Call (.Name "reversed" p2) [a] [] pos2) X.env) :: backTo pos [])) _ _ s
  refine Calls.spliced_cons ?_
  refine wpAny_Call_Name_kw (ld_blt I hg2 hm2 boot_revT ?_ (by decide) (by decide))
  refine PyProof.Rows.callWith_type1 (thn (ha pos2 pins s σ H _ I h) fun us s1 hPz => ?_) he hpl; obtain ⟨vs, H1, I1, r1, q1⟩ := hPz
  obtain ⟨l, xs, e, hq, q⟩ := q1
  subst e
  obtain ⟨u, rfl, ru⟩ := r1.one
  cases ru
  obtain ⟨its, rv, p, hz⟩ := I1.list hq
  refine call_reversed_list p.isList (Calls.spliced_nil ?_)
  have k1 : ∀ b o, s1.heap.get? b = some o → (s1.heap.push (revObj l ((its.toArray.size : Int) - 1))).get? b = some o := fun b o e => Heap.get?_push_of_some _ e
  have hsz : (s1.heap.push (revObj l ((its.toArray.size : Int) - 1))).objs.size = s1.heap.objs.size + 1 := Heap.size_push ..
  have hit : (s1.heap.push (revObj l ((its.toArray.size : Int) - 1))).IsRevIter s1.heap.objs.size l ((its.toArray.size : Int) - 1) := ⟨_, Heap.get?_push_size _ rfl, rfl, rfl⟩
  refine call_enum_rev hit fun h' he' hsz' kk => ?_
  rw [hsz] at he' hsz' ⊢
  refine wpAny_pyIter_enum he' ?_
  have hel : s1.heap.objs.size ≤ s1.heap.objs.size + 1 := Nat.le_succ _
  have hn : (its.toArray.size : Int) - 1 = (xs.length : Int) - 1 - ((0 : Nat) : Int) := by rw [List.size_toArray, ← rv.length]; simp
  rw [hn] at hit
  refine ⟨s1.heap.objs.size + 1, [s1.heap.objs.size + 1, s1.heap.objs.size], _, _, H1, rfl, I1.kept (t' := s1.toks) (fun b o e => kk b o (k1 b o e)), turn_enumRev (n := xs.length) l s1.heap.objs.size (s1.heap.objs.size + 1) (Nat.succ_ne_self _), ⟨⟨_, he'⟩, ?_⟩, fun b hb => ?_, q⟩
  · obtain ⟨o, e, r⟩ := hit
    refine ⟨o, ?_, r⟩
    rw [hn] at kk
    exact kk _ _ e
  · rcases List.mem_cons.mp hb with rfl | hb
    · exact I1.fpOk hel (I1.hok.fresh hel)
    · have e : b = s1.heap.objs.size := by simpa using hb
      subst e
      exact I1.fpOk (Nat.le_refl _) (I1.hok.fresh (Nat.le_refl _))
end
/-- over enumerate(reversed(xs)) -/
theorem for_enumRev {K : PySem.W.Frag} {a : Addr} {xs : List V} {g : TG} {tb : TS} {D : Ends} {σ : St} {H : Hp} (Pv : Nat → St → Hp → Prop) (h0 : Pv 0 σ H) (hl : ∀ i σ H, i ≤ xs.length → Pv i σ H → SqL K H a xs)
    (hs : ∀ i x p σ H, xs.reverse[i]? = some x → Pv i σ H → H p = none → g (.ref p) σ (upd H p (.tup [.int i, x])) fun σ2 H2 => tb { D with nx := Pv (i + 1), ct := Pv (i + 1), bk := D.nx } σ2 H2) (hd : ∀ σ H, Pv xs.length σ H → D.nx σ H) :
    ∃ W : Nat → Nat → St → Hp → Prop, (∃ m, W 0 m σ H) ∧ ∀ i m σ H, W i m σ H →
      ((Itv K a xs.length).stop i H ∧ D.nx σ H) ∨ ((Itv K a xs.length).go i H ∧ ∃ N : St → Hp → Prop, (∀ σ' H', N σ' H' → ∃ m', m' < m ∧ W (i + 1) m' σ' H') ∧ ∀ x H', (Itv K a xs.length).yld i H x H' → g x σ H' fun σ2 H2 => tb { D with nx := N, ct := N, bk := D.nx } σ2 H2) := by
  refine ⟨fun i m σ H => m = xs.length - i ∧ i ≤ xs.length ∧ Pv i σ H, ⟨xs.length, by simp, Nat.zero_le _, h0⟩, ?_⟩
  rintro i m σ H ⟨rfl, hi, p⟩
  have q := hl i σ H hi p
  by_cases hlt : i < xs.length
  · refine .inr ⟨⟨hlt, xs, q, rfl⟩, Pv (i + 1), fun σ' H' p' => ⟨xs.length - (i + 1), by (first | lia | omega), rfl, hlt, p'⟩, fun x H' y => ?_⟩
    obtain ⟨pa, v, rfl, hp, rfl, y⟩ := y
    exact hs i v pa σ H (by rw [List.getElem?_reverse hlt]; exact y xs q rfl) p hp
  · have e : i = xs.length := by (first | lia | omega)
    subst e
    exact .inl ⟨⟨rfl, xs, q, rfl⟩, hd σ H p⟩

/-! ### min, max of a list, with default= -/
section
variable {prog : Program} {w : World} {A : Around} {R : Result → Shared → Prop} {I S : Addr} {fp wr : List Addr} {n : Nat} {P : Nat → Value → Prop} {St : Nat → Heap → Prop} {bt : Nat → Nat → Bool} {kw : List (Str × Value)}
theorem min_turnsK (W : Walks prog w A.in1 I fp wr n P St) (hc : CmpOf prog w A.in1 .Lt P bt) (hSf : S ∉ fp) :
    ∀ (k j : Nat) (s : Shared) (vb : Value), n - (j + 1) = k → j + 1 ≤ n → St (j + 1) s.heap → P (argBest bt j) vb → bestAt S vb s.heap →
    (∀ v h' tk, P (argBest bt (n - 1)) v → (∀ b o, b ∉ wr → b ≠ S → s.heap.get? b = some o → h'.get? b = some o) → R (.ok (.ret v)) { s with heap := h', toks := tk }) →
    codeAny (model prog w) A (.builtin "min.loop" ⟨[.ref I, .none, .ref S], kw⟩) R s := by
  have hw : S ∉ wr := fun z => hSf (W.sub S z)
  have nm : (toString "min" ++ toString ".loop" : String) = "min.loop" := by decide
  intro k
  induction k with
  | zero =>
    rintro j s vb hk hj st pb ⟨c, hS⟩ fin
    have e : j + 1 = n := by (first | lia | omega)
    subst e
    refine codeAny_builtin PySem.F.entry_min_loop ?_; rw [Around.under_plainId PySem.F.plain_min_loop _]
    show wpAny _ A.in1 (seqItems? (.ref S) >>= _) _ _ _; refine wpAny_bind (wpAny_seqItems hS rfl ?_)
    show wpAny _ A.in1 (tryCatch (pyNext (.ref I)) _ >>= _) _ _ _; refine wpAny_bind (wpAny_tryCatch (W.done s _ _ st fun h1 tk k1 => ?_))
    show wpAny _ A.in1 (updateSeq S (fun _ => #[]) >>= _) _ _ _; refine wpAny_bind (wpAny_updateSeq (k1 S _ hw hS) rfl (wpAny_bind (wpAny_letGo (wpAny_pure ?_))))
    exact fin vb _ tk pb fun b o h1' h2' q => (Heap.get?_update_other _ _ (Ne.symm h2')).trans (k1 b o h1' q)
  | succ k ih =>
    rintro j s vb hk hj st pb ⟨c, hS⟩ fin
    have hlt : j + 1 < n := by (first | lia | omega)
    refine codeAny_builtin PySem.F.entry_min_loop ?_; rw [Around.under_plainId PySem.F.plain_min_loop _]
    show wpAny _ A.in1 (seqItems? (.ref S) >>= _) _ _ _; refine wpAny_bind (wpAny_seqItems hS rfl ?_)
    show wpAny _ A.in1 (tryCatch (pyNext (.ref I)) _ >>= _) _ _ _; refine wpAny_bind (wpAny_tryCatch (W.item (j + 1) s _ _ hlt st fun v h1 tk pv st1 k1 => ?_))
    have hS1 := k1 S _ hw hS
    show wpAny _ A.in1 (tryCatch (holding [v, v] (richCompare .Lt v vb >>= _)) _ >>= _) _ _ _; refine wpAny_bind (wpAny_tryCatch (wpAny_holding (wpAny_bind (hc (j + 1) (argBest bt j) v vb _ _ _ pv pb ?_))))
    refine wpAny_bind (wpAny_holding (wpAny_truthy_bool (wpAny_bind (wpAny_letGo (wpAny_pure ?_)))))
    cases hb : bt (j + 1) (argBest bt j) with
    | true =>
      simp only [if_true]
      refine wpAny_bind (wpAny_updateSeq hS1 rfl (wpAny_bind (wpAny_letGo ?_)))
      rw [nm]
      have kk : ∀ b o, b ∉ wr → b ≠ S → s.heap.get? b = some o → (h1.update S (Obj.mapSeq fun _ => #[v, v])).get? b = some o := fun b o x1 x2 q => (Heap.get?_update_other _ _ (Ne.symm x2)).trans (k1 b o x1 q)
      refine wpAny_pure ⟨plainId_quiet PySem.F.plain_min_loop _, ih (j + 1) _ v (by (first | lia | omega)) hlt (W.frame _ _ _ st1 fun b hbf o q => ?_) (by simp only [argBest, hb, if_true]; exact pv) ⟨_, Heap.get?_update_self _ hS1 rfl⟩ fun v' h'' tk'' p' k'' => ?_⟩
      · exact (Heap.get?_update_other _ _ (fun z : S = b => hSf (by rw [z]; exact hbf))).trans q
      · exact fin v' h'' tk'' p' fun b o x1 x2 q => k'' b o x1 x2 (kk b o x1 x2 q)
    | false =>
      simp only [Bool.false_eq_true, if_false]
      refine wpAny_bind (wpAny_letGo ?_)
      rw [nm]
      refine wpAny_pure ⟨plainId_quiet PySem.F.plain_min_loop _, ih (j + 1) _ vb (by (first | lia | omega)) hlt st1 (by simp only [argBest, hb, Bool.false_eq_true, if_false]; exact pb) ⟨c, hS1⟩ fun v' h'' tk'' p' k'' => ?_⟩
      exact fin v' h'' tk'' p' fun b o x1 x2 q => k'' b o x1 x2 (k1 b o x1 q)
theorem min_startsK (W : Walks prog w A.in1 I fp wr n P St) (hc : CmpOf prog w A.in1 .Lt P bt) (hSf : S ∉ fp) {s : Shared} {c : Nat} {x : Str} {d : Value}
    (st : St 0 s.heap) (hS : s.heap.get? S = some { cls := .type "list", dict := none, data := .seq #[] c, slots := #[] })
    (fin : ∀ v h' tk, (n = 0 → v = d) → (0 < n → P (argBest bt (n - 1)) v) → (∀ b o, b ∉ wr → b ≠ S → s.heap.get? b = some o → h'.get? b = some o) → R (.ok (.ret v)) { s with heap := h', toks := tk }) :
    codeAny (model prog w) A (.builtin "min.loop" ⟨[.ref I, .none, .ref S], [(x, d)]⟩) R s := by
  have hw : S ∉ wr := fun z => hSf (W.sub S z)
  have nm : (toString "min" ++ toString ".loop" : String) = "min.loop" := by decide
  refine codeAny_builtin PySem.F.entry_min_loop ?_; rw [Around.under_plainId PySem.F.plain_min_loop _]
  show wpAny _ A.in1 (seqItems? (.ref S) >>= _) _ _ _; refine wpAny_bind (wpAny_seqItems hS rfl ?_)
  by_cases hn : 0 < n
  · show wpAny _ A.in1 (tryCatch (pyNext (.ref I)) _ >>= _) _ _ _; refine wpAny_bind (wpAny_tryCatch (W.item 0 s _ _ hn st fun v h1 tk pv st1 k1 => ?_))
    have hS1 := k1 S _ hw hS
    show wpAny _ A.in1 (updateSeq S (fun _ => #[v, v]) >>= _) _ _ _; refine wpAny_bind (wpAny_updateSeq hS1 rfl ?_)
    rw [nm]
    have kk : ∀ b o, b ∉ wr → b ≠ S → s.heap.get? b = some o → (h1.update S (Obj.mapSeq fun _ => #[v, v])).get? b = some o := fun b o x1 x2 q => (Heap.get?_update_other _ _ (Ne.symm x2)).trans (k1 b o x1 q)
    refine wpAny_pure ⟨plainId_quiet PySem.F.plain_min_loop _, min_turnsK W hc hSf _ 0 _ v rfl hn (W.frame _ _ _ st1 fun b hbf o q => ?_) pv ⟨_, Heap.get?_update_self _ hS1 rfl⟩ fun v' h'' tk'' p' k'' => ?_⟩
    · exact (Heap.get?_update_other _ _ (fun z : S = b => hSf (by rw [z]; exact hbf))).trans q
    · exact fin v' h'' tk'' (fun z => by (first | lia | omega)) (fun _ => p') fun b o x1 x2 q => k'' b o x1 x2 (kk b o x1 x2 q)
  · have e : n = 0 := by (first | lia | omega)
    subst e
    show wpAny _ A.in1 (tryCatch (pyNext (.ref I)) _ >>= _) _ _ _; refine wpAny_bind (wpAny_tryCatch (W.done s _ _ st fun h1 tk k1 => ?_))
    refine wpAny_bind (wpAny_rule (wpAny_pure ?_))
    exact fin d h1 tk (fun _ => rfl) (fun z => absurd z hn) fun b o x1 _ q => k1 b o x1 q
end
theorem args_minD (a v : Value) : argsOk "min" ⟨[a], [(Str.ofString "default", v)]⟩ := by unfold argsOk; kernel_rfl
theorem call_min_dflt {prog : Program} {w : World} {A : Around} {E : Value → Shared → Prop} {s : Shared} {l : Addr} {vs : Array Value} {bt : Nat → Nat → Bool} {Q : Value → Shared → Prop} {d : Value} (hh : A.handled = none) (hl : s.heap.IsList l vs)
    (hc : CmpOf prog w A.in1 .Lt (fun i v => vs[i]? = some v) bt)
    (h : ∀ v h' tk, (vs.size = 0 → v = d) → (0 < vs.size → vs[argBest bt (vs.size - 1)]? = some v) → (∀ b o, s.heap.get? b = some o → h'.get? b = some o) → Q v { s with heap := h', toks := tk }) :
    wpAny (model prog w) A (call (.builtin "min") [.ref l] [(Str.ofString "default", d)]) Q E s := by
  have nm : (toString "min" ++ toString ".loop" : String) = "min.loop" := by decide
  have hlt : (l : Nat) < s.heap.objs.size := by obtain ⟨_, e, _⟩ := hl; exact Heap.lt_size e
  refine kmk_tree PySem.F.kind_min PySem.F.plain_min PySem.F.entry_min (args_minD _ _) ?_
  show wpAny _ A.in1 (Builtin.Builtins.bindParams "min" ["key", "default"] 0 ⟨[], [(Str.ofString "default", d)]⟩ >>= _) _ _ _
  refine wpAny_bind (wpAny_of_eq (show Builtin.Builtins.bindParams "min" ["key", "default"] 0 ⟨[], [(Str.ofString "default", d)]⟩ = pure [none, some d] from rfl) (wpAny_bind (wpAny_pure ?_)))
  refine wpAny_bind (wpAny_pyIter_list hl (wpAny_bind (wpAny_newObj_type ?_)))
  rw [nm]
  have e1 : ∀ b o, s.heap.get? b = some o → (s.heap.push { cls := .type "list_iterator", data := .fields #[.ref l, .int 0 0] }).get? b = some o := fun b o q => Heap.get?_push_of_some _ q
  have hsz : (s.heap.push { cls := .type "list_iterator", data := .fields #[.ref l, .int 0 0] }).objs.size = s.heap.objs.size + 1 := Heap.size_push ..
  refine wpAny_pure ⟨plainId_quiet PySem.F.plain_min_loop _, min_startsK (S := (s.heap.push { cls := .type "list_iterator", data := .fields #[.ref l, .int 0 0] }).objs.size)
    (Walks.list (A := A.in1) hh s.heap.objs.size l (Nat.ne_of_lt hlt) vs) hc ?_ ⟨?_, ?_⟩ (Heap.get?_push_size _ rfl) ?_⟩
  · intro z
    rw [hsz] at z
    rcases List.mem_cons.mp z with z | z
    · have z : (_ : Nat) = (_ : Nat) := z; (first | lia | omega)
    · rcases List.mem_cons.mp z with z | z
      · have z : (_ : Nat) = (_ : Nat) := z; have hl2 : (_ : Nat) < (_ : Nat) := hlt; (first | lia | omega)
      · cases z
  · exact ⟨_, Heap.get?_push_of_some _ (Heap.get?_push_size _ rfl), rfl, rfl⟩
  · exact (hl.push _).push _
  · intro v h' tk p0 p k
    refine h v h' tk p0 p fun b o q => k b o (fun z => ?_) (fun z => ?_) (Heap.get?_push_of_some _ (e1 b o q))
    · have : (_ : Nat) < (_ : Nat) := Heap.lt_size q
      rcases List.mem_cons.mp z with z | z
      · have z : (_ : Nat) = (_ : Nat) := z; (first | lia | omega)
      · cases z
    · have : (_ : Nat) < (_ : Nat) := Heap.lt_size q
      rw [hsz] at z
      have z : (_ : Nat) = (_ : Nat) := z; (first | lia | omega)

section
variable {prog : Program} {w : World} {A : Around} {R : Result → Shared → Prop} {I S : Addr} {fp wr : List Addr} {n : Nat} {P : Nat → Value → Prop} {St : Nat → Heap → Prop} {bt : Nat → Nat → Bool} {kw : List (Str × Value)}
theorem max_turnsK (W : Walks prog w A.in1 I fp wr n P St) (hc : CmpOf prog w A.in1 .Gt P bt) (hSf : S ∉ fp) :
    ∀ (k j : Nat) (s : Shared) (vb : Value), n - (j + 1) = k → j + 1 ≤ n → St (j + 1) s.heap → P (argBest bt j) vb → bestAt S vb s.heap →
    (∀ v h' tk, P (argBest bt (n - 1)) v → (∀ b o, b ∉ wr → b ≠ S → s.heap.get? b = some o → h'.get? b = some o) → R (.ok (.ret v)) { s with heap := h', toks := tk }) →
    codeAny (model prog w) A (.builtin "max.loop" ⟨[.ref I, .none, .ref S], kw⟩) R s := by
  have hw : S ∉ wr := fun z => hSf (W.sub S z)
  have nm : (toString "max" ++ toString ".loop" : String) = "max.loop" := by decide
  intro k
  induction k with
  | zero =>
    rintro j s vb hk hj st pb ⟨c, hS⟩ fin
    have e : j + 1 = n := by (first | lia | omega)
    subst e
    refine codeAny_builtin PySem.F.entry_max_loop ?_; rw [Around.under_plainId PySem.F.plain_max_loop _]
    show wpAny _ A.in1 (seqItems? (.ref S) >>= _) _ _ _; refine wpAny_bind (wpAny_seqItems hS rfl ?_)
    show wpAny _ A.in1 (tryCatch (pyNext (.ref I)) _ >>= _) _ _ _; refine wpAny_bind (wpAny_tryCatch (W.done s _ _ st fun h1 tk k1 => ?_))
    show wpAny _ A.in1 (updateSeq S (fun _ => #[]) >>= _) _ _ _; refine wpAny_bind (wpAny_updateSeq (k1 S _ hw hS) rfl (wpAny_bind (wpAny_letGo (wpAny_pure ?_))))
    exact fin vb _ tk pb fun b o h1' h2' q => (Heap.get?_update_other _ _ (Ne.symm h2')).trans (k1 b o h1' q)
  | succ k ih =>
    rintro j s vb hk hj st pb ⟨c, hS⟩ fin
    have hlt : j + 1 < n := by (first | lia | omega)
    refine codeAny_builtin PySem.F.entry_max_loop ?_; rw [Around.under_plainId PySem.F.plain_max_loop _]
    show wpAny _ A.in1 (seqItems? (.ref S) >>= _) _ _ _; refine wpAny_bind (wpAny_seqItems hS rfl ?_)
    show wpAny _ A.in1 (tryCatch (pyNext (.ref I)) _ >>= _) _ _ _; refine wpAny_bind (wpAny_tryCatch (W.item (j + 1) s _ _ hlt st fun v h1 tk pv st1 k1 => ?_))
    have hS1 := k1 S _ hw hS
    show wpAny _ A.in1 (tryCatch (holding [v, v] (richCompare .Gt v vb >>= _)) _ >>= _) _ _ _; refine wpAny_bind (wpAny_tryCatch (wpAny_holding (wpAny_bind (hc (j + 1) (argBest bt j) v vb _ _ _ pv pb ?_))))
    refine wpAny_bind (wpAny_holding (wpAny_truthy_bool (wpAny_bind (wpAny_letGo (wpAny_pure ?_)))))
    cases hb : bt (j + 1) (argBest bt j) with
    | true =>
      simp only [if_true]
      refine wpAny_bind (wpAny_updateSeq hS1 rfl (wpAny_bind (wpAny_letGo ?_)))
      rw [nm]
      have kk : ∀ b o, b ∉ wr → b ≠ S → s.heap.get? b = some o → (h1.update S (Obj.mapSeq fun _ => #[v, v])).get? b = some o := fun b o x1 x2 q => (Heap.get?_update_other _ _ (Ne.symm x2)).trans (k1 b o x1 q)
      refine wpAny_pure ⟨plainId_quiet PySem.F.plain_max_loop _, ih (j + 1) _ v (by (first | lia | omega)) hlt (W.frame _ _ _ st1 fun b hbf o q => ?_) (by simp only [argBest, hb, if_true]; exact pv) ⟨_, Heap.get?_update_self _ hS1 rfl⟩ fun v' h'' tk'' p' k'' => ?_⟩
      · exact (Heap.get?_update_other _ _ (fun z : S = b => hSf (by rw [z]; exact hbf))).trans q
      · exact fin v' h'' tk'' p' fun b o x1 x2 q => k'' b o x1 x2 (kk b o x1 x2 q)
    | false =>
      simp only [Bool.false_eq_true, if_false]
      refine wpAny_bind (wpAny_letGo ?_)
      rw [nm]
      refine wpAny_pure ⟨plainId_quiet PySem.F.plain_max_loop _, ih (j + 1) _ vb (by (first | lia | omega)) hlt st1 (by simp only [argBest, hb, Bool.false_eq_true, if_false]; exact pb) ⟨c, hS1⟩ fun v' h'' tk'' p' k'' => ?_⟩
      exact fin v' h'' tk'' p' fun b o x1 x2 q => k'' b o x1 x2 (k1 b o x1 q)
theorem max_startsK (W : Walks prog w A.in1 I fp wr n P St) (hc : CmpOf prog w A.in1 .Gt P bt) (hSf : S ∉ fp) {s : Shared} {c : Nat} {x : Str} {d : Value}
    (st : St 0 s.heap) (hS : s.heap.get? S = some { cls := .type "list", dict := none, data := .seq #[] c, slots := #[] })
    (fin : ∀ v h' tk, (n = 0 → v = d) → (0 < n → P (argBest bt (n - 1)) v) → (∀ b o, b ∉ wr → b ≠ S → s.heap.get? b = some o → h'.get? b = some o) → R (.ok (.ret v)) { s with heap := h', toks := tk }) :
    codeAny (model prog w) A (.builtin "max.loop" ⟨[.ref I, .none, .ref S], [(x, d)]⟩) R s := by
  have hw : S ∉ wr := fun z => hSf (W.sub S z)
  have nm : (toString "max" ++ toString ".loop" : String) = "max.loop" := by decide
  refine codeAny_builtin PySem.F.entry_max_loop ?_; rw [Around.under_plainId PySem.F.plain_max_loop _]
  show wpAny _ A.in1 (seqItems? (.ref S) >>= _) _ _ _; refine wpAny_bind (wpAny_seqItems hS rfl ?_)
  by_cases hn : 0 < n
  · show wpAny _ A.in1 (tryCatch (pyNext (.ref I)) _ >>= _) _ _ _; refine wpAny_bind (wpAny_tryCatch (W.item 0 s _ _ hn st fun v h1 tk pv st1 k1 => ?_))
    have hS1 := k1 S _ hw hS
    show wpAny _ A.in1 (updateSeq S (fun _ => #[v, v]) >>= _) _ _ _; refine wpAny_bind (wpAny_updateSeq hS1 rfl ?_)
    rw [nm]
    have kk : ∀ b o, b ∉ wr → b ≠ S → s.heap.get? b = some o → (h1.update S (Obj.mapSeq fun _ => #[v, v])).get? b = some o := fun b o x1 x2 q => (Heap.get?_update_other _ _ (Ne.symm x2)).trans (k1 b o x1 q)
    refine wpAny_pure ⟨plainId_quiet PySem.F.plain_max_loop _, max_turnsK W hc hSf _ 0 _ v rfl hn (W.frame _ _ _ st1 fun b hbf o q => ?_) pv ⟨_, Heap.get?_update_self _ hS1 rfl⟩ fun v' h'' tk'' p' k'' => ?_⟩
    · exact (Heap.get?_update_other _ _ (fun z : S = b => hSf (by rw [z]; exact hbf))).trans q
    · exact fin v' h'' tk'' (fun z => by (first | lia | omega)) (fun _ => p') fun b o x1 x2 q => k'' b o x1 x2 (kk b o x1 x2 q)
  · have e : n = 0 := by (first | lia | omega)
    subst e
    show wpAny _ A.in1 (tryCatch (pyNext (.ref I)) _ >>= _) _ _ _; refine wpAny_bind (wpAny_tryCatch (W.done s _ _ st fun h1 tk k1 => ?_))
    refine wpAny_bind (wpAny_rule (wpAny_pure ?_))
    exact fin d h1 tk (fun _ => rfl) (fun z => absurd z hn) fun b o x1 _ q => k1 b o x1 q
end
theorem args_maxD (a v : Value) : argsOk "max" ⟨[a], [(Str.ofString "default", v)]⟩ := by unfold argsOk; kernel_rfl
theorem call_max_dflt {prog : Program} {w : World} {A : Around} {E : Value → Shared → Prop} {s : Shared} {l : Addr} {vs : Array Value} {bt : Nat → Nat → Bool} {Q : Value → Shared → Prop} {d : Value} (hh : A.handled = none) (hl : s.heap.IsList l vs)
    (hc : CmpOf prog w A.in1 .Gt (fun i v => vs[i]? = some v) bt)
    (h : ∀ v h' tk, (vs.size = 0 → v = d) → (0 < vs.size → vs[argBest bt (vs.size - 1)]? = some v) → (∀ b o, s.heap.get? b = some o → h'.get? b = some o) → Q v { s with heap := h', toks := tk }) :
    wpAny (model prog w) A (call (.builtin "max") [.ref l] [(Str.ofString "default", d)]) Q E s := by
  have nm : (toString "max" ++ toString ".loop" : String) = "max.loop" := by decide
  have hlt : (l : Nat) < s.heap.objs.size := by obtain ⟨_, e, _⟩ := hl; exact Heap.lt_size e
  refine kmk_tree PySem.F.kind_max PySem.F.plain_max PySem.F.entry_max (args_maxD _ _) ?_
  show wpAny _ A.in1 (Builtin.Builtins.bindParams "max" ["key", "default"] 0 ⟨[], [(Str.ofString "default", d)]⟩ >>= _) _ _ _
  refine wpAny_bind (wpAny_of_eq (show Builtin.Builtins.bindParams "max" ["key", "default"] 0 ⟨[], [(Str.ofString "default", d)]⟩ = pure [none, some d] from rfl) (wpAny_bind (wpAny_pure ?_)))
  refine wpAny_bind (wpAny_pyIter_list hl (wpAny_bind (wpAny_newObj_type ?_)))
  rw [nm]
  have e1 : ∀ b o, s.heap.get? b = some o → (s.heap.push { cls := .type "list_iterator", data := .fields #[.ref l, .int 0 0] }).get? b = some o := fun b o q => Heap.get?_push_of_some _ q
  have hsz : (s.heap.push { cls := .type "list_iterator", data := .fields #[.ref l, .int 0 0] }).objs.size = s.heap.objs.size + 1 := Heap.size_push ..
  refine wpAny_pure ⟨plainId_quiet PySem.F.plain_max_loop _, max_startsK (S := (s.heap.push { cls := .type "list_iterator", data := .fields #[.ref l, .int 0 0] }).objs.size)
    (Walks.list (A := A.in1) hh s.heap.objs.size l (Nat.ne_of_lt hlt) vs) hc ?_ ⟨?_, ?_⟩ (Heap.get?_push_size _ rfl) ?_⟩
  · intro z
    rw [hsz] at z
    rcases List.mem_cons.mp z with z | z
    · have z : (_ : Nat) = (_ : Nat) := z; (first | lia | omega)
    · rcases List.mem_cons.mp z with z | z
      · have z : (_ : Nat) = (_ : Nat) := z; have hl2 : (_ : Nat) < (_ : Nat) := hlt; (first | lia | omega)
      · cases z
  · exact ⟨_, Heap.get?_push_of_some _ (Heap.get?_push_size _ rfl), rfl, rfl⟩
  · exact (hl.push _).push _
  · intro v h' tk p0 p k
    refine h v h' tk p0 p fun b o q => k b o (fun z => ?_) (fun z => ?_) (Heap.get?_push_of_some _ (e1 b o q))
    · have : (_ : Nat) < (_ : Nat) := Heap.lt_size q
      rcases List.mem_cons.mp z with z | z
      · have z : (_ : Nat) = (_ : Nat) := z; (first | lia | omega)
      · cases z
    · have : (_ : Nat) < (_ : Nat) := Heap.lt_size q
      rw [hsz] at z
      have z : (_ : Nat) = (_ : Nat) := z; (first | lia | omega)

def tminD (K : PySem.W.Frag) (t : TA) (tk : TE) : TE := fun σ H Q => t σ H fun vs H1 => tk σ H1 fun d H2 => ∃ (a : Addr) (ns : List Int) (z : Int), vs = [.ref a] ∧ d = .int z ∧ SqL K H2 a (ns.map V.int) ∧ ∀ M : Int, (ns = [] → M = z) → (ns ≠ [] → M ∈ ns ∧ ∀ b ∈ ns, M ≤ b) → Q (.int M) H2
theorem pe_minD {X : Cx} {e ek : Expr} {t : TA} {tk : TE} {p kp pos : Pos} (ha : PA X [e] t) (hk : PE X ek tk) (hc : X.calm = true) (hg : Gl X "min") (hm : X.mg "min" = none)
    (he : backTo pos (starEach [e] X.env) = (false, eval e X.env) :: backTo pos (starEach [] X.env) := by rfl) (hpl : (backTo pos (starEach [e] X.env)).any (·.1) = false := by rfl) :
    PE X (.Call (.Name "min" p) [e] [⟨some "default", ek, kp⟩] pos) (tminD X.K t tk) := by
  intro pins s σ H Q I h
  refine wpAny_Call_Name_kw (ld_blt I hg hm PyProof.Rows.boot_min ?_ (by decide) (by decide))
  refine callWith_kw (thn (ha pos pins s σ H _ I h) fun us s1 hPz => ?_) he hpl; obtain ⟨vs, H1, I1, r1, q⟩ := hPz
  refine kws_cons (thn (hk pins s1 σ H1 _ I1 q) fun ud s2 hPy => ob2_3 hPy fun d H2 I2 rd q => kws_nil ?_)
  obtain ⟨a, ns, z, rfl, rfl, hq, q⟩ := q
  obtain ⟨u, rfl, ru⟩ := r1.one
  cases ru
  obtain ⟨td, rfl⟩ := rd
  obtain ⟨its, rv, pl, hz⟩ := I2.list hq
  have hi := ints_of_vals rv
  have hlen := hi.length
  have item : ∀ (i : Nat) v, its.toArray[i]? = some v → ∃ t, v = .int (ns.getD i 0) t := fun i v e => by
    have e : its[i]? = some v := by simpa using e
    have hil : i < ns.length := by rw [← hlen]; exact (List.getElem?_eq_some_iff.mp e).1
    obtain ⟨t, ht⟩ := hi.get i _ (show ns[i]? = some (ns.getD i 0) by simp [List.getD, hil])
    rw [e] at ht; cases ht
    exact ⟨t, rfl⟩
  refine call_min_dflt (I2.ok.hd hc) pl.isList (CmpOf.ints_lt (fun i => ns.getD i 0) item) fun v h' tk' h0 h1 hk' => ?_
  rw [List.size_toArray, hlen] at h0 h1
  by_cases hn : 0 < ns.length
  · obtain ⟨t', rfl⟩ := item _ _ (h1 hn)
    obtain ⟨g1, g2⟩ := argBest_lt (fun i => ns.getD i 0) (ns.length - 1)
    have hb : argBest (fun i j => decide (ns.getD i 0 < ns.getD j 0)) (ns.length - 1) < ns.length := by (first | lia | omega)
    refine ⟨.int _, H2, I2.kept (t' := tk') hk', ⟨t', rfl⟩, q _ (fun z' => by subst z'; simp at hn) fun _ => ⟨by rw [List.getD_eq_getElem?_getD, List.getElem?_eq_getElem hb]; exact List.getElem_mem hb, fun b hbm => ?_⟩⟩
    obtain ⟨j, hj, rfl⟩ := List.mem_iff_getElem.mp hbm
    have := g2 j (by (first | lia | omega))
    simpa [List.getD, hj] using this
  · have hn0 : ns.length = 0 := by (first | lia | omega)
    have := h0 hn0
    subst this
    refine ⟨.int z, H2, I2.kept (t' := tk') hk', ⟨td, rfl⟩, q _ (fun _ => rfl) fun z' => absurd (List.length_eq_zero_iff.mp hn0) z'⟩

def tmaxD (K : PySem.W.Frag) (t : TA) (tk : TE) : TE := fun σ H Q => t σ H fun vs H1 => tk σ H1 fun d H2 => ∃ (a : Addr) (ns : List Int) (z : Int), vs = [.ref a] ∧ d = .int z ∧ SqL K H2 a (ns.map V.int) ∧ ∀ M : Int, (ns = [] → M = z) → (ns ≠ [] → M ∈ ns ∧ ∀ b ∈ ns, b ≤ M) → Q (.int M) H2
theorem pe_maxD {X : Cx} {e ek : Expr} {t : TA} {tk : TE} {p kp pos : Pos} (ha : PA X [e] t) (hk : PE X ek tk) (hc : X.calm = true) (hg : Gl X "max") (hm : X.mg "max" = none)
    (he : backTo pos (starEach [e] X.env) = (false, eval e X.env) :: backTo pos (starEach [] X.env) := by rfl) (hpl : (backTo pos (starEach [e] X.env)).any (·.1) = false := by rfl) :
    PE X (.Call (.Name "max" p) [e] [⟨some "default", ek, kp⟩] pos) (tmaxD X.K t tk) := by
  intro pins s σ H Q I h
  refine wpAny_Call_Name_kw (ld_blt I hg hm PyProof.Rows.boot_max ?_ (by decide) (by decide))
  refine callWith_kw (thn (ha pos pins s σ H _ I h) fun us s1 hPz => ?_) he hpl; obtain ⟨vs, H1, I1, r1, q⟩ := hPz
  refine kws_cons (thn (hk pins s1 σ H1 _ I1 q) fun ud s2 hPy => ob2_3 hPy fun d H2 I2 rd q => kws_nil ?_)
  obtain ⟨a, ns, z, rfl, rfl, hq, q⟩ := q
  obtain ⟨u, rfl, ru⟩ := r1.one
  cases ru
  obtain ⟨td, rfl⟩ := rd
  obtain ⟨its, rv, pl, hz⟩ := I2.list hq
  have hi := ints_of_vals rv
  have hlen := hi.length
  have item : ∀ (i : Nat) v, its.toArray[i]? = some v → ∃ t, v = .int (ns.getD i 0) t := fun i v e => by
    have e : its[i]? = some v := by simpa using e
    have hil : i < ns.length := by rw [← hlen]; exact (List.getElem?_eq_some_iff.mp e).1
    obtain ⟨t, ht⟩ := hi.get i _ (show ns[i]? = some (ns.getD i 0) by simp [List.getD, hil])
    rw [e] at ht; cases ht
    exact ⟨t, rfl⟩
  refine call_max_dflt (I2.ok.hd hc) pl.isList (CmpOf.ints_gt (fun i => ns.getD i 0) item) fun v h' tk' h0 h1 hk' => ?_
  rw [List.size_toArray, hlen] at h0 h1
  by_cases hn : 0 < ns.length
  · obtain ⟨t', rfl⟩ := item _ _ (h1 hn)
    obtain ⟨g1, g2⟩ := argBest_gt (fun i => ns.getD i 0) (ns.length - 1)
    have hb : argBest (fun i j => decide (ns.getD i 0 > ns.getD j 0)) (ns.length - 1) < ns.length := by (first | lia | omega)
    refine ⟨.int _, H2, I2.kept (t' := tk') hk', ⟨t', rfl⟩, q _ (fun z' => by subst z'; simp at hn) fun _ => ⟨by rw [List.getD_eq_getElem?_getD, List.getElem?_eq_getElem hb]; exact List.getElem_mem hb, fun b hbm => ?_⟩⟩
    obtain ⟨j, hj, rfl⟩ := List.mem_iff_getElem.mp hbm
    have := g2 j (by (first | lia | omega))
    simpa [List.getD, hj] using this
  · have hn0 : ns.length = 0 := by (first | lia | omega)
    have := h0 hn0
    subst this
    refine ⟨.int z, H2, I2.kept (t' := tk') hk', ⟨td, rfl⟩, q _ (fun _ => rfl) fun z' => absurd (List.length_eq_zero_iff.mp hn0) z'⟩
end L2

set_option Elab.async false
set_option linter.all false
set_option maxRecDepth 100000
set_option maxHeartbeats 4000000
/-! xs.insert(i, y); set(xs) of ints, its len. -/
namespace L2
open PySem PySem.Spec PyProof.Rows
end L2

set_option Elab.async false
set_option linter.all false
/-! how arguments bind, by the number of the parameters; a statement read with the rest kept shut -/
namespace L2
open PySem PySem.Spec PyProof.Rows
theorem cons_of {α : Type} {us : List α} {n : Nat} (h : us.length = n + 1) : ∃ u r, us = u :: r ∧ r.length = n := by
  cases us with
  | nil => cases h
  | cons u r => exact ⟨u, r, rfl, Nat.succ.inj h⟩
section
variable {K : PySem.W.Frag} {x qual : Str} {st : Stmt} {f : Addr} {fd : FuncData} {p1 p2 p3 p4 p5 : Str}
theorem Fun.binds1 (F : Fun K x qual st f fd) (h : ∀ (kV doc pm : Value) (an : Option Addr) (cdv ct u1 : Value), bindArgs (PySem.W.fnOf x qual (defArgs st) (defBody st) (defScope st) .none kV doc pm an cdv ct) ⟨[u1], []⟩ = pure [(p1, u1)]) : Binds K fd [p1] [] :=
  F.binds (ps := [p1]) fun a b c d e g us h0 => by
    obtain ⟨u1, r1, rfl, h1⟩ := cons_of (n := 0) h0
    obtain rfl := List.eq_nil_of_length_eq_zero h1
    exact h a b c d e g u1
theorem Fun.binds2 (F : Fun K x qual st f fd) (h : ∀ (kV doc pm : Value) (an : Option Addr) (cdv ct u1 u2 : Value), bindArgs (PySem.W.fnOf x qual (defArgs st) (defBody st) (defScope st) .none kV doc pm an cdv ct) ⟨[u1, u2], []⟩ = pure [(p1, u1), (p2, u2)]) : Binds K fd [p1, p2] [] :=
  F.binds (ps := [p1, p2]) fun a b c d e g us h0 => by
    obtain ⟨u1, r1, rfl, h1⟩ := cons_of (n := 1) h0
    obtain ⟨u2, r2, rfl, h2⟩ := cons_of (n := 0) h1
    obtain rfl := List.eq_nil_of_length_eq_zero h2
    exact h a b c d e g u1 u2
theorem Fun.binds3 (F : Fun K x qual st f fd) (h : ∀ (kV doc pm : Value) (an : Option Addr) (cdv ct u1 u2 u3 : Value), bindArgs (PySem.W.fnOf x qual (defArgs st) (defBody st) (defScope st) .none kV doc pm an cdv ct) ⟨[u1, u2, u3], []⟩ = pure [(p1, u1), (p2, u2), (p3, u3)]) : Binds K fd [p1, p2, p3] [] :=
  F.binds (ps := [p1, p2, p3]) fun a b c d e g us h0 => by
    obtain ⟨u1, r1, rfl, h1⟩ := cons_of (n := 2) h0
    obtain ⟨u2, r2, rfl, h2⟩ := cons_of (n := 1) h1
    obtain ⟨u3, r3, rfl, h3⟩ := cons_of (n := 0) h2
    obtain rfl := List.eq_nil_of_length_eq_zero h3
    exact h a b c d e g u1 u2 u3
theorem Fun.binds4 (F : Fun K x qual st f fd) (h : ∀ (kV doc pm : Value) (an : Option Addr) (cdv ct u1 u2 u3 u4 : Value), bindArgs (PySem.W.fnOf x qual (defArgs st) (defBody st) (defScope st) .none kV doc pm an cdv ct) ⟨[u1, u2, u3, u4], []⟩ = pure [(p1, u1), (p2, u2), (p3, u3), (p4, u4)]) : Binds K fd [p1, p2, p3, p4] [] :=
  F.binds (ps := [p1, p2, p3, p4]) fun a b c d e g us h0 => by
    obtain ⟨u1, r1, rfl, h1⟩ := cons_of (n := 3) h0
    obtain ⟨u2, r2, rfl, h2⟩ := cons_of (n := 2) h1
    obtain ⟨u3, r3, rfl, h3⟩ := cons_of (n := 1) h2
    obtain ⟨u4, r4, rfl, h4⟩ := cons_of (n := 0) h3
    obtain rfl := List.eq_nil_of_length_eq_zero h4
    exact h a b c d e g u1 u2 u3 u4
end
/-- the rest of the statements kept shut while the first is read -/
theorem seq_gen {t u : TS} {D : Ends} {σ : St} {H : Hp} (h : ∀ U : TS, U = u → t { D with nx := U D } σ H) : tSeq t u D σ H := h u rfl
/-- what is to be shown as a name, while the facts are taken apart -/
theorem shut {G : Prop} (h : ∀ g : Prop, (G → g) → g) : G := h G id
/-- a loop's promise as a name: the term bears the name, not the promise -/
theorem abs3 (P : Nat → St → Hp → Prop) : ∃ Pv : Nat → St → Hp → Prop, ∀ i σ H, Pv i σ H ↔ P i σ H := ⟨P, fun _ _ _ => Iff.rfl⟩
theorem abs3k {G : Prop} (P : Nat → St → Hp → Prop) (h : ∀ Pv : Nat → St → Hp → Prop, (∀ i σ H, Pv i σ H ↔ P i σ H) → G) : G := h P fun _ _ _ => Iff.rfl
end L2

set_option Elab.async false
set_option linter.all false
set_option maxRecDepth 100000
set_option maxHeartbeats 4000000
/-! PARCELWALL: the mirror, the data, the promises of the defs that the texts share. -/
namespace Pw
open PySem L2

/-! ### draws -/
def cellOf (ns : List Int) (k : Int) : Int := if 0 < ns.length then ns.getD (k % (ns.length : Int)).toNat 0 else 7
def drawn (ns : List Int) (k many : Int) : Int :=
  ((((cellOf ns k * 48271 + (k + 1) * 7919 + (ns.length : Int)) % 2147483647) * ((cellOf ns k * 48271 + (k + 1) * 7919 + (ns.length : Int)) % 2147483647) + k * 16807 + 11) % 2147483647) * 48271 % 2147483647 / 16 % many
theorem drawn_lo (ns : List Int) (k : Int) {many : Int} (h : 0 < many) : 0 ≤ drawn ns k many := Int.emod_nonneg _ (by (first | lia | omega))
theorem drawn_hi (ns : List Int) (k : Int) {many : Int} (h : 0 < many) : drawn ns k many < many := Int.emod_lt_of_pos _ h
/-- _law_drawn(script, k, many) -/
def spDrawn (K : PySem.W.Frag) : Sp := fun vs H Q _ => ∃ (a : Addr) (ns : List Int) (k many : Int), vs = [.ref a, .int k, .int many] ∧ SqL K H a (ns.map V.int) ∧ ns.length ≤ 63 ∧ 0 ≤ k ∧ k < 1000000 ∧ 0 < many ∧ many < 1000000 ∧ Q (.int (drawn ns k many)) H
/-- _law_whole(found): an int -/
def spWhole : Sp := fun vs H Q _ => ∃ i : Int, vs = [.int i] ∧ Q (.bl true) H
/-- _law_row(found, due): the same ints -/
def spRow (K : PySem.W.Frag) : Sp := fun vs H Q _ => ∃ (a b : Addr) (xs : List Int), vs = [.ref a, .ref b] ∧ H a = some (.lst (xs.map V.int)) ∧ SqL K H b (xs.map V.int) ∧ xs.length ≤ 1000000 ∧ Q (.bl true) H
/-- None or a number -/
def oV : Option Int → V
  | none => .non
  | some i => .int i
/-- _law_held(found, due): the same -/
def spHeldEq (K : PySem.W.Frag) : Sp := fun vs H Q _ => ∃ (a b : Addr) (xs : List (Option Int)), vs = [.ref a, .ref b] ∧ H a = some (.lst (xs.map oV)) ∧ SqL K H b (xs.map oV) ∧ xs.length ≤ 1000000 ∧ Q (.bl true) H

/-! ### sizes of a wall -/
def okSizes (sz : List Int) : Bool := decide (1 ≤ sz.length) && decide (sz.length ≤ 8) && sz.all fun z => decide (1 ≤ z) && decide (z ≤ 9)
/-- in_bounds(number) -/
def spBounds : Sp := fun vs H Q _ => ∃ n : Int, vs = [.int n] ∧ Q (.bl (decide (1 ≤ n) && decide (n ≤ 9))) H
/-- check_wall(sizes) -/
def spCheckWall (K : PySem.W.Frag) (cNW : Addr) : Sp := fun vs H Q E => ∃ (a : Addr) (sz : List Int), vs = [.ref a] ∧ SqL K H a (sz.map V.int) ∧ (okSizes sz = true → Q .non H) ∧ (okSizes sz = false → E (.ref cNW) none H)

/-! ### a wall as it stands -/
/-- a parcel: its object, its number, its size, its last night -/
structure Pc where
  ad : Addr
  num : Int
  size : Int
  last : Int
structure Wl where
  sz : List Int
  ps : List (Option Pc)
  came : Int
  gone : Int
def pV : Option Pc → V
  | none => .non
  | some p => .ref p.ad
def wflds (l1 l2 : Addr) (came gone : Int) : List (Str × V) := putF "nights_gone" (.int gone) (putF "came" (.int came) (putF "parcels" (.ref l2) (putF "box_sizes" (.ref l1) [])))
def pflds (n z l : Int) : List (Str × V) := putF "last_night" (.int l) (putF "size" (.int z) (putF "number" (.int n) []))
structure WallAt (cW cP : Addr) (H : Hp) (p l1 l2 : Addr) (w : Wl) : Prop where
  ob : ∃ dx, H p = some (.ins cW dx (wflds l1 l2 w.came w.gone))
  s1 : H l1 = some (.lst (w.sz.map V.int))
  s2 : H l2 = some (.lst (w.ps.map pV))
  pc : ∀ q, some q ∈ w.ps → ∃ dx, H q.ad = some (.ins cP dx (pflds q.num q.size q.last))
  len : w.ps.length = w.sz.length
  few : w.sz.length ≤ 8
  ne : l1 ≠ l2
  pn : ∀ q, some q ∈ w.ps → q.ad ≠ p
def heldOf (w : Wl) : List (Option Int) := w.ps.map fun o => o.map (·.num)
def freeOf (w : Wl) : List Int := ((List.range w.ps.length).filter fun i => (w.ps[i]?.join).isNone).map (fun i : Nat => (i : Int))
theorem WallAt.mono {cW cP : Addr} {H H' : Hp} {p l1 l2 : Addr} {w : Wl} (W : WallAt cW cP H p l1 l2 w) (s : Same H H') : WallAt cW cP H' p l1 l2 w :=
  ⟨let ⟨dx, h⟩ := W.ob; ⟨dx, s _ _ h⟩, s _ _ W.s1, s _ _ W.s2, fun q hq => let ⟨dx, h⟩ := W.pc q hq; ⟨dx, s _ _ h⟩, W.len, W.few, W.ne, W.pn⟩
theorem ne1 : ¬ (("box_sizes" : Str) = "parcels") := by decide +kernel
theorem ne2 : ¬ (("box_sizes" : Str) = "came") := by decide +kernel
theorem ne3 : ¬ (("box_sizes" : Str) = "nights_gone") := by decide +kernel
theorem ne4 : ¬ (("parcels" : Str) = "came") := by decide +kernel
theorem ne5 : ¬ (("parcels" : Str) = "nights_gone") := by decide +kernel
theorem ne6 : ¬ (("came" : Str) = "nights_gone") := by decide +kernel
theorem wf_sizes (l1 l2 : Addr) (c g : Int) : (wflds l1 l2 c g).lookup ("box_sizes" : Str) = some (.ref l1) := by
  unfold wflds; rw [lookup_putF, if_neg ne3, lookup_putF, if_neg ne2, lookup_putF, if_neg ne1, lookup_putF, if_pos rfl]
theorem wf_parcels (l1 l2 : Addr) (c g : Int) : (wflds l1 l2 c g).lookup ("parcels" : Str) = some (.ref l2) := by
  unfold wflds; rw [lookup_putF, if_neg ne5, lookup_putF, if_neg ne4, lookup_putF, if_pos rfl]
theorem wf_came (l1 l2 : Addr) (c g : Int) : (wflds l1 l2 c g).lookup ("came" : Str) = some (.int c) := by
  unfold wflds; rw [lookup_putF, if_neg ne6, lookup_putF, if_pos rfl]
theorem wf_gone (l1 l2 : Addr) (c g : Int) : (wflds l1 l2 c g).lookup ("nights_gone" : Str) = some (.int g) := by
  unfold wflds; rw [lookup_putF, if_pos rfl]
theorem wf_no (l1 l2 : Addr) (c g : Int) {m : Str} (h1 : ¬ m = "box_sizes") (h2 : ¬ m = "parcels") (h3 : ¬ m = "came") (h4 : ¬ m = "nights_gone") : (wflds l1 l2 c g).lookup m = none := by
  unfold wflds; rw [lookup_putF, if_neg h4, lookup_putF, if_neg h3, lookup_putF, if_neg h2, lookup_putF, if_neg h1]; rfl
/-- what the walk asks of the class Wall -/
structure WTxt (K : PySem.W.Frag) (cW : Addr) : Prop where
  cl : Cls K cW
  n1 : NoAttr K cW "box_sizes"
  n2 : NoAttr K cW "parcels"
  n3 : NoAttr K cW "came"
  n4 : NoAttr K cW "nights_gone"
structure PTxt (K : PySem.W.Frag) (cP : Addr) : Prop where
  cl : Cls K cP
  n1 : NoAttr K cP "number"
  n2 : NoAttr K cP "size"
  n3 : NoAttr K cP "last_night"
/-- Wall.__init__ -/
def spInit (K : PySem.W.Frag) (cW cP cNW : Addr) : Sp := fun vs H Q E => ∃ (p dx a : Addr) (sz : List Int), vs = [.ref p, .ref a] ∧ H p = some (.ins cW dx []) ∧ SqL K H a (sz.map V.int) ∧
  (okSizes sz = true → ∀ (l1 l2 : Addr) (H' : Hp), H l1 = none → H l2 = none → WallAt cW cP H' p l1 l2 ⟨sz, List.replicate sz.length none, 0, 0⟩ → (∀ b o, H b = some o → b ≠ p → H' b = some o) → Q .non H') ∧ (okSizes sz = false → E (.ref cNW) none H)
/-- a new list is told, all else stays -/
def tells (H : Hp) (xs : List V) (Q : VK) : Prop := ∀ (l : Addr) (H' : Hp), H l = none → Same H H' → H' l = some (.lst xs) → Q (.ref l) H'
def spSizes (cW cP : Addr) : Sp := fun vs H Q _ => ∃ (p l1 l2 : Addr) (w : Wl), vs = [.ref p] ∧ WallAt cW cP H p l1 l2 w ∧ tells H (w.sz.map V.int) Q
def spHeld (cW cP : Addr) : Sp := fun vs H Q _ => ∃ (p l1 l2 : Addr) (w : Wl), vs = [.ref p] ∧ WallAt cW cP H p l1 l2 w ∧ tells H ((heldOf w).map oV) Q
def spFree (cW cP : Addr) : Sp := fun vs H Q _ => ∃ (p l1 l2 : Addr) (w : Wl), vs = [.ref p] ∧ WallAt cW cP H p l1 l2 w ∧ tells H ((freeOf w).map V.int) Q
def spDay (cW cP : Addr) : Sp := fun vs H Q _ => ∃ (p l1 l2 : Addr) (w : Wl), vs = [.ref p] ∧ WallAt cW cP H p l1 l2 w ∧ Q (.int w.gone) H
/-- _law_stands(side, sizes, held, day), where all is as it stands -/
def spStands (K : PySem.W.Frag) (cW cP : Addr) : Sp := fun vs H Q _ => ∃ (p l1 l2 a b : Addr) (w : Wl), vs = [.ref p, .ref a, .ref b, .int w.gone] ∧ WallAt cW cP H p l1 l2 w ∧ SqL K H a (w.sz.map V.int) ∧ SqL K H b ((heldOf w).map oV) ∧ ∀ H', Same H H' → Q (.bl true) H'
theorem ixN_nat {n j : Nat} {i : Int} (e : i = (j : Int)) (h : j < n) : ixN n i = some j := by
  subst e; unfold ixN; rw [if_pos (by (first | lia | omega)), if_pos (by (first | lia | omega))]; simp
theorem iteFe {b : Bool} {A B : Prop} (e : b = false) (h : B) : if b = true then A else B := by subst e; exact iteF h
theorem iteTe {b : Bool} {A B : Prop} (e : b = true) (h : A) : if b = true then A else B := by subst e; exact iteT h
theorem sameR {H : Hp} : Same H H := fun _ _ e => e
/-- the body of a for -/
def forBody : Stmt → List Stmt
  | .For _ _ b _ _ => b
  | _ => []
/-! ### parcels come, are fetched, moved -/
def okNum (z : Int) : Bool := decide (1 ≤ z) && decide (z ≤ 9)
/-- check_size(size), check_nights(nights) -/
def spCheckNum (c : Addr) : Sp := fun vs H Q E => ∃ z : Int, vs = [.int z] ∧ (okNum z = true → Q .non H) ∧ (okNum z = false → E (.ref c) none H)
/-- Parcel.__init__ -/
def spParcel (cP : Addr) : Sp := fun vs H Q _ => ∃ (x dx : Addr) (n z l : Int), vs = [.ref x, .int n, .int z, .int l] ∧ H x = some (.ins cP dx []) ∧ ∀ H', H' x = some (.ins cP dx (pflds n z l)) → (∀ b, b ≠ x → H' b = H b) → Q .non H'
/-- box i is empty and holds the size -/
def fitsAt (w : Wl) (size : Int) (i : Nat) : Prop := i < w.ps.length ∧ (w.ps[i]?.join).isNone = true ∧ size ≤ w.sz.getD i 0
def boxesFor (w : Wl) (size : Int) : List Int := (freeOf w).filter fun b => decide (size ≤ w.sz.getD b.toNat 0)
def spBoxesFor (cW cP : Addr) : Sp := fun vs H Q _ => ∃ (p l1 l2 : Addr) (w : Wl) (size : Int), vs = [.ref p, .int size] ∧ WallAt cW cP H p l1 l2 w ∧ tells H ((boxesFor w size).map V.int) Q
def IsLeast (w : Wl) (size : Int) (b : Nat) : Prop := fitsAt w size b ∧ ∀ c : Nat, fitsAt w size c → pLt (w.sz.getD c 0, (c : Int)) (w.sz.getD b 0, (b : Int)) = false
def NoneFits (w : Wl) (size : Int) : Prop := ∀ c : Nat, ¬ fitsAt w size c
def spLeastBox (cW cP cNB : Addr) : Sp := fun vs H Q E => ∃ (p l1 l2 : Addr) (w : Wl) (size : Int), vs = [.ref p, .int size] ∧ WallAt cW cP H p l1 l2 w ∧ (NoneFits w size → ∀ H', Same H H' → E (.ref cNB) none H') ∧ (∀ b : Nat, IsLeast w size b → ∀ H', Same H H' → Q (.int b) H')
def Wl.comes (w : Wl) (b : Nat) (ad : Addr) (size nights : Int) : Wl := ⟨w.sz, w.ps.set b (some ⟨ad, w.came, size, w.gone + nights⟩), w.came + 1, w.gone⟩
/-- all stays but the wall's object and its list of parcels -/
def Keeps (H H' : Hp) (p l2 : Addr) : Prop := ∀ b o, H b = some o → b ≠ p → b ≠ l2 → H' b = some o
def spCome (cW cP cNS cNN cNB : Addr) : Sp := fun vs H Q E => ∃ (p l1 l2 : Addr) (w : Wl) (size nights : Int), vs = [.ref p, .int size, .int nights] ∧ WallAt cW cP H p l1 l2 w ∧
  (okNum size = false → E (.ref cNS) none H) ∧ (okNum size = true → okNum nights = false → E (.ref cNN) none H) ∧
  (okNum size = true → okNum nights = true → NoneFits w size → ∀ H', Same H H' → E (.ref cNB) none H') ∧
  (okNum size = true → okNum nights = true → ∀ b : Nat, IsLeast w size b → ∀ (ad : Addr) (H' : Hp), H ad = none → WallAt cW cP H' p l1 l2 (w.comes b ad size nights) → Keeps H H' p l2 → Q (.int w.came) H')
/-- the first place of a number -/
def FirstAt (xs : List (Option Int)) (n : Int) (b : Nat) : Prop := xs[b]? = some (some n) ∧ ∀ m, m < b → xs[m]? ≠ some (some n)
def spBoxOf (cW cP cNP : Addr) : Sp := fun vs H Q E => ∃ (p l1 l2 : Addr) (w : Wl) (n : Int), vs = [.ref p, .int n] ∧ WallAt cW cP H p l1 l2 w ∧ (some n ∉ heldOf w → ∀ H', Same H H' → E (.ref cNP) none H') ∧ (∀ b, FirstAt (heldOf w) n b → ∀ H', Same H H' → Q (.int (b : Nat)) H')
def Wl.gone_at (w : Wl) (b : Nat) : Wl := ⟨w.sz, w.ps.set b none, w.came, w.gone⟩
def spFetch (cW cP cNP : Addr) : Sp := fun vs H Q E => ∃ (p l1 l2 : Addr) (w : Wl) (n : Int), vs = [.ref p, .int n] ∧ WallAt cW cP H p l1 l2 w ∧ (some n ∉ heldOf w → ∀ H', Same H H' → E (.ref cNP) none H') ∧
  (∀ b, FirstAt (heldOf w) n b → ∀ H', WallAt cW cP H' p l1 l2 (w.gone_at b) → Keeps H H' p l2 → Q (.int (b : Nat)) H')
/-- size_of, left: what is told of the parcel in the number's first place -/
def spTells (f : Wl → Pc → Int) (cW cP cNP : Addr) : Sp := fun vs H Q E => ∃ (p l1 l2 : Addr) (w : Wl) (n : Int), vs = [.ref p, .int n] ∧ WallAt cW cP H p l1 l2 w ∧ (some n ∉ heldOf w → ∀ H', Same H H' → E (.ref cNP) none H') ∧
  (∀ b q, FirstAt (heldOf w) n b → w.ps[b]? = some (some q) → ∀ H', Same H H' → Q (.int (f w q)) H')
def Wl.moved (w : Wl) (a b : Nat) : Wl := ⟨w.sz, (w.ps.set b (w.ps[a]?.join)).set a none, w.came, w.gone⟩
def spMove (cW cP cNP cNB : Addr) : Sp := fun vs H Q E => ∃ (p l1 l2 : Addr) (w : Wl) (n k : Int), vs = [.ref p, .int n, .int k] ∧ WallAt cW cP H p l1 l2 w ∧ (some n ∉ heldOf w → ∀ H', Same H H' → E (.ref cNP) none H') ∧
  (∀ a q, FirstAt (heldOf w) n a → w.ps[a]? = some (some q) → (∀ b : Nat, k = (b : Int) → ¬ fitsAt w q.size b) → ∀ H', Same H H' → E (.ref cNB) none H') ∧
  (∀ a q (b : Nat), FirstAt (heldOf w) n a → w.ps[a]? = some (some q) → k = (b : Int) → fitsAt w q.size b → ∀ H', WallAt cW cP H' p l1 l2 (w.moved a b) → Keeps H H' p l2 → Q .non H')
/-- a def of the text that a law calls -/
structure Gd (P : Program) (w : World) (K : PySem.W.Frag) (mg : Str → Option Value) (base : Heap) (x : Str) (st : Stmt) (ps : List Str) (CX : CXT) (k : Nat) (sp : Sp) (f : Addr) (fd : FuncData) : Prop where
  F : Fun K x x st f fd
  b : Binds K fd ps []
  m : mg x = some (.ref f)
  G : FnOk P w K mg base CX k f fd ps sp
/-- a method -/
structure Md (P : Program) (w : World) (K : PySem.W.Frag) (mg : Str → Option Value) (base : Heap) (C : Addr) (m : Str) (ps : List Str) (CX : CXT) (k : Nat) (sp : Sp) (f : Addr) (fd : FuncData) : Prop where
  b : Binds K fd ps []
  me : Meth K C m f
  G : FnOk P w K mg base CX k f fd ps sp
/-- an own error class that is raised -/
structure Rs (K : PySem.W.Frag) (mg : Str → Option Value) (cWE c : Addr) (nm : Str) : Prop where
  xc : XCls K c (.ref cWE :: mroVE) "ValueError.__new__"
  xt : XTail K (.ref cWE :: mroVE)
  m : mg nm = some (.ref c)
end Pw

set_option Elab.async false
set_option linter.all false
/-! one rule for what a tuple of a run says in many: the object is smaller -/
namespace L2
open PySem PyProof.Rows
theorem evr {α : Sort _} {A R : α → Prop} {x : α} (h : A x) (k : R x) : ∃ x, A x ∧ R x := ⟨x, h, k⟩
theorem ev2 {α β : Sort _} {A : α → Prop} {B : β → Prop} {R : α → β → Prop} {x : α} {y : β} (h : A x) (h' : B y) (k : R x y) : ∃ x y, A x ∧ B y ∧ R x y := ⟨x, y, h, h', k⟩
theorem evv {α β : Sort _} {A : α → Prop} {B R : α → β → Prop} {x : α} {y : β} (h : A x) (h' : B x y) (k : R x y) : ∃ x, A x ∧ ∃ y, B x y ∧ R x y := ⟨x, h, y, h', k⟩
theorem ev3r {α β γ : Sort _} {A : α → Prop} {B : α → β → Prop} {C R : α → β → γ → Prop} {x : α} {y : β} {z : γ} (h : A x) (h' : B x y) (h'' : C x y z) (k : R x y z) : ∃ x, A x ∧ ∃ y, B x y ∧ ∃ z, C x y z ∧ R x y z := ⟨x, h, y, h', z, h'', k⟩
theorem ev4r {α β γ δ : Sort _} {A : α → Prop} {B : α → β → Prop} {C : α → β → γ → Prop} {D R : α → β → γ → δ → Prop} {x : α} {y : β} {z : γ} {u : δ} (h : A x) (h' : B x y) (h'' : C x y z) (h3 : D x y z u) (k : R x y z u) : ∃ x, A x ∧ ∃ y, B x y ∧ ∃ z, C x y z ∧ ∃ u, D x y z u ∧ R x y z u := ⟨x, h, y, h', z, h'', u, h3, k⟩
theorem ix4 {S : Addr → List V → Prop} {p : Addr} {xs : List V} {i : Int} {v : V} {Q : V → Prop} (h1 : S p xs) (h2 : atI xs i = some v) (k : Q v) :
    ∃ p' xs' i' v', V.ref p = .ref p' ∧ V.int i = .int i' ∧ S p' xs' ∧ atI xs' i' = some v' ∧ Q v' := ⟨p, xs, i, v, rfl, rfl, h1, h2, k⟩
theorem vix {a : Option (Option V)} {S : Addr → List V → Prop} {p : Addr} {xs : List V} {i : Int} {v : V} {Q : V → Prop} (e : a = some (some (.ref p))) (h1 : S p xs) (h2 : atI xs i = some v) (k : Q v) :
    ∃ x, a = some (some x) ∧ ∃ p' xs' i' v', x = .ref p' ∧ V.int i = .int i' ∧ S p' xs' ∧ atI xs' i' = some v' ∧ Q v' := ⟨_, e, p, xs, i, v, rfl, rfl, h1, h2, k⟩


theorem ex2 {α0 α1 : Sort _} {P : α0 → α1 → Prop} (x0 : α0) (x1 : α1) (h : P x0 x1) : ∃ x0 x1, P x0 x1 := ⟨x0, x1, h⟩
theorem ex3 {α0 α1 α2 : Sort _} {P : α0 → α1 → α2 → Prop} (x0 : α0) (x1 : α1) (x2 : α2) (h : P x0 x1 x2) : ∃ x0 x1 x2, P x0 x1 x2 := ⟨x0, x1, x2, h⟩
theorem ex4 {α0 α1 α2 α3 : Sort _} {P : α0 → α1 → α2 → α3 → Prop} (x0 : α0) (x1 : α1) (x2 : α2) (x3 : α3) (h : P x0 x1 x2 x3) : ∃ x0 x1 x2 x3, P x0 x1 x2 x3 := ⟨x0, x1, x2, x3, h⟩
theorem ex6 {α0 α1 α2 α3 α4 α5 : Sort _} {P : α0 → α1 → α2 → α3 → α4 → α5 → Prop} (x0 : α0) (x1 : α1) (x2 : α2) (x3 : α3) (x4 : α4) (x5 : α5) (h : P x0 x1 x2 x3 x4 x5) : ∃ x0 x1 x2 x3 x4 x5, P x0 x1 x2 x3 x4 x5 := ⟨x0, x1, x2, x3, x4, x5, h⟩
theorem mk2_2 {α0 α1 : Sort _} {A0 A1 : α0 → α1 → Prop} (x0 : α0) (x1 : α1) (h0 : A0 x0 x1) (h1 : A1 x0 x1) : ∃ x0 x1, A0 x0 x1 ∧ A1 x0 x1 := ⟨x0, x1, h0, h1⟩
theorem mk2_3 {α0 α1 : Sort _} {A0 A1 A2 : α0 → α1 → Prop} (x0 : α0) (x1 : α1) (h0 : A0 x0 x1) (h1 : A1 x0 x1) (h2 : A2 x0 x1) : ∃ x0 x1, A0 x0 x1 ∧ A1 x0 x1 ∧ A2 x0 x1 := ⟨x0, x1, h0, h1, h2⟩
theorem mk2_4 {α0 α1 : Sort _} {A0 A1 A2 A3 : α0 → α1 → Prop} (x0 : α0) (x1 : α1) (h0 : A0 x0 x1) (h1 : A1 x0 x1) (h2 : A2 x0 x1) (h3 : A3 x0 x1) : ∃ x0 x1, A0 x0 x1 ∧ A1 x0 x1 ∧ A2 x0 x1 ∧ A3 x0 x1 := ⟨x0, x1, h0, h1, h2, h3⟩
theorem mk2_5 {α0 α1 : Sort _} {A0 A1 A2 A3 A4 : α0 → α1 → Prop} (x0 : α0) (x1 : α1) (h0 : A0 x0 x1) (h1 : A1 x0 x1) (h2 : A2 x0 x1) (h3 : A3 x0 x1) (h4 : A4 x0 x1) : ∃ x0 x1, A0 x0 x1 ∧ A1 x0 x1 ∧ A2 x0 x1 ∧ A3 x0 x1 ∧ A4 x0 x1 := ⟨x0, x1, h0, h1, h2, h3, h4⟩
theorem mk3_3 {α0 α1 α2 : Sort _} {A0 A1 A2 : α0 → α1 → α2 → Prop} (x0 : α0) (x1 : α1) (x2 : α2) (h0 : A0 x0 x1 x2) (h1 : A1 x0 x1 x2) (h2 : A2 x0 x1 x2) : ∃ x0 x1 x2, A0 x0 x1 x2 ∧ A1 x0 x1 x2 ∧ A2 x0 x1 x2 := ⟨x0, x1, x2, h0, h1, h2⟩
theorem mk3_4 {α0 α1 α2 : Sort _} {A0 A1 A2 A3 : α0 → α1 → α2 → Prop} (x0 : α0) (x1 : α1) (x2 : α2) (h0 : A0 x0 x1 x2) (h1 : A1 x0 x1 x2) (h2 : A2 x0 x1 x2) (h3 : A3 x0 x1 x2) : ∃ x0 x1 x2, A0 x0 x1 x2 ∧ A1 x0 x1 x2 ∧ A2 x0 x1 x2 ∧ A3 x0 x1 x2 := ⟨x0, x1, x2, h0, h1, h2, h3⟩
theorem mk3_5 {α0 α1 α2 : Sort _} {A0 A1 A2 A3 A4 : α0 → α1 → α2 → Prop} (x0 : α0) (x1 : α1) (x2 : α2) (h0 : A0 x0 x1 x2) (h1 : A1 x0 x1 x2) (h2 : A2 x0 x1 x2) (h3 : A3 x0 x1 x2) (h4 : A4 x0 x1 x2) : ∃ x0 x1 x2, A0 x0 x1 x2 ∧ A1 x0 x1 x2 ∧ A2 x0 x1 x2 ∧ A3 x0 x1 x2 ∧ A4 x0 x1 x2 := ⟨x0, x1, x2, h0, h1, h2, h3, h4⟩
theorem mk3_6 {α0 α1 α2 : Sort _} {A0 A1 A2 A3 A4 A5 : α0 → α1 → α2 → Prop} (x0 : α0) (x1 : α1) (x2 : α2) (h0 : A0 x0 x1 x2) (h1 : A1 x0 x1 x2) (h2 : A2 x0 x1 x2) (h3 : A3 x0 x1 x2) (h4 : A4 x0 x1 x2) (h5 : A5 x0 x1 x2) : ∃ x0 x1 x2, A0 x0 x1 x2 ∧ A1 x0 x1 x2 ∧ A2 x0 x1 x2 ∧ A3 x0 x1 x2 ∧ A4 x0 x1 x2 ∧ A5 x0 x1 x2 := ⟨x0, x1, x2, h0, h1, h2, h3, h4, h5⟩
theorem mk3_7 {α0 α1 α2 : Sort _} {A0 A1 A2 A3 A4 A5 A6 : α0 → α1 → α2 → Prop} (x0 : α0) (x1 : α1) (x2 : α2) (h0 : A0 x0 x1 x2) (h1 : A1 x0 x1 x2) (h2 : A2 x0 x1 x2) (h3 : A3 x0 x1 x2) (h4 : A4 x0 x1 x2) (h5 : A5 x0 x1 x2) (h6 : A6 x0 x1 x2) : ∃ x0 x1 x2, A0 x0 x1 x2 ∧ A1 x0 x1 x2 ∧ A2 x0 x1 x2 ∧ A3 x0 x1 x2 ∧ A4 x0 x1 x2 ∧ A5 x0 x1 x2 ∧ A6 x0 x1 x2 := ⟨x0, x1, x2, h0, h1, h2, h3, h4, h5, h6⟩
theorem mk4_5 {α0 α1 α2 α3 : Sort _} {A0 A1 A2 A3 A4 : α0 → α1 → α2 → α3 → Prop} (x0 : α0) (x1 : α1) (x2 : α2) (x3 : α3) (h0 : A0 x0 x1 x2 x3) (h1 : A1 x0 x1 x2 x3) (h2 : A2 x0 x1 x2 x3) (h3 : A3 x0 x1 x2 x3) (h4 : A4 x0 x1 x2 x3) : ∃ x0 x1 x2 x3, A0 x0 x1 x2 x3 ∧ A1 x0 x1 x2 x3 ∧ A2 x0 x1 x2 x3 ∧ A3 x0 x1 x2 x3 ∧ A4 x0 x1 x2 x3 := ⟨x0, x1, x2, x3, h0, h1, h2, h3, h4⟩
theorem mk4_6 {α0 α1 α2 α3 : Sort _} {A0 A1 A2 A3 A4 A5 : α0 → α1 → α2 → α3 → Prop} (x0 : α0) (x1 : α1) (x2 : α2) (x3 : α3) (h0 : A0 x0 x1 x2 x3) (h1 : A1 x0 x1 x2 x3) (h2 : A2 x0 x1 x2 x3) (h3 : A3 x0 x1 x2 x3) (h4 : A4 x0 x1 x2 x3) (h5 : A5 x0 x1 x2 x3) : ∃ x0 x1 x2 x3, A0 x0 x1 x2 x3 ∧ A1 x0 x1 x2 x3 ∧ A2 x0 x1 x2 x3 ∧ A3 x0 x1 x2 x3 ∧ A4 x0 x1 x2 x3 ∧ A5 x0 x1 x2 x3 := ⟨x0, x1, x2, x3, h0, h1, h2, h3, h4, h5⟩
theorem mk4_7 {α0 α1 α2 α3 : Sort _} {A0 A1 A2 A3 A4 A5 A6 : α0 → α1 → α2 → α3 → Prop} (x0 : α0) (x1 : α1) (x2 : α2) (x3 : α3) (h0 : A0 x0 x1 x2 x3) (h1 : A1 x0 x1 x2 x3) (h2 : A2 x0 x1 x2 x3) (h3 : A3 x0 x1 x2 x3) (h4 : A4 x0 x1 x2 x3) (h5 : A5 x0 x1 x2 x3) (h6 : A6 x0 x1 x2 x3) : ∃ x0 x1 x2 x3, A0 x0 x1 x2 x3 ∧ A1 x0 x1 x2 x3 ∧ A2 x0 x1 x2 x3 ∧ A3 x0 x1 x2 x3 ∧ A4 x0 x1 x2 x3 ∧ A5 x0 x1 x2 x3 ∧ A6 x0 x1 x2 x3 := ⟨x0, x1, x2, x3, h0, h1, h2, h3, h4, h5, h6⟩
theorem mk4_8 {α0 α1 α2 α3 : Sort _} {A0 A1 A2 A3 A4 A5 A6 A7 : α0 → α1 → α2 → α3 → Prop} (x0 : α0) (x1 : α1) (x2 : α2) (x3 : α3) (h0 : A0 x0 x1 x2 x3) (h1 : A1 x0 x1 x2 x3) (h2 : A2 x0 x1 x2 x3) (h3 : A3 x0 x1 x2 x3) (h4 : A4 x0 x1 x2 x3) (h5 : A5 x0 x1 x2 x3) (h6 : A6 x0 x1 x2 x3) (h7 : A7 x0 x1 x2 x3) : ∃ x0 x1 x2 x3, A0 x0 x1 x2 x3 ∧ A1 x0 x1 x2 x3 ∧ A2 x0 x1 x2 x3 ∧ A3 x0 x1 x2 x3 ∧ A4 x0 x1 x2 x3 ∧ A5 x0 x1 x2 x3 ∧ A6 x0 x1 x2 x3 ∧ A7 x0 x1 x2 x3 := ⟨x0, x1, x2, x3, h0, h1, h2, h3, h4, h5, h6, h7⟩
theorem mk4_9 {α0 α1 α2 α3 : Sort _} {A0 A1 A2 A3 A4 A5 A6 A7 A8 : α0 → α1 → α2 → α3 → Prop} (x0 : α0) (x1 : α1) (x2 : α2) (x3 : α3) (h0 : A0 x0 x1 x2 x3) (h1 : A1 x0 x1 x2 x3) (h2 : A2 x0 x1 x2 x3) (h3 : A3 x0 x1 x2 x3) (h4 : A4 x0 x1 x2 x3) (h5 : A5 x0 x1 x2 x3) (h6 : A6 x0 x1 x2 x3) (h7 : A7 x0 x1 x2 x3) (h8 : A8 x0 x1 x2 x3) : ∃ x0 x1 x2 x3, A0 x0 x1 x2 x3 ∧ A1 x0 x1 x2 x3 ∧ A2 x0 x1 x2 x3 ∧ A3 x0 x1 x2 x3 ∧ A4 x0 x1 x2 x3 ∧ A5 x0 x1 x2 x3 ∧ A6 x0 x1 x2 x3 ∧ A7 x0 x1 x2 x3 ∧ A8 x0 x1 x2 x3 := ⟨x0, x1, x2, x3, h0, h1, h2, h3, h4, h5, h6, h7, h8⟩
theorem mk5_3 {α0 α1 α2 α3 α4 : Sort _} {A0 A1 A2 : α0 → α1 → α2 → α3 → α4 → Prop} (x0 : α0) (x1 : α1) (x2 : α2) (x3 : α3) (x4 : α4) (h0 : A0 x0 x1 x2 x3 x4) (h1 : A1 x0 x1 x2 x3 x4) (h2 : A2 x0 x1 x2 x3 x4) : ∃ x0 x1 x2 x3 x4, A0 x0 x1 x2 x3 x4 ∧ A1 x0 x1 x2 x3 x4 ∧ A2 x0 x1 x2 x3 x4 := ⟨x0, x1, x2, x3, x4, h0, h1, h2⟩
theorem mk5_4 {α0 α1 α2 α3 α4 : Sort _} {A0 A1 A2 A3 : α0 → α1 → α2 → α3 → α4 → Prop} (x0 : α0) (x1 : α1) (x2 : α2) (x3 : α3) (x4 : α4) (h0 : A0 x0 x1 x2 x3 x4) (h1 : A1 x0 x1 x2 x3 x4) (h2 : A2 x0 x1 x2 x3 x4) (h3 : A3 x0 x1 x2 x3 x4) : ∃ x0 x1 x2 x3 x4, A0 x0 x1 x2 x3 x4 ∧ A1 x0 x1 x2 x3 x4 ∧ A2 x0 x1 x2 x3 x4 ∧ A3 x0 x1 x2 x3 x4 := ⟨x0, x1, x2, x3, x4, h0, h1, h2, h3⟩
theorem mk5_6 {α0 α1 α2 α3 α4 : Sort _} {A0 A1 A2 A3 A4 A5 : α0 → α1 → α2 → α3 → α4 → Prop} (x0 : α0) (x1 : α1) (x2 : α2) (x3 : α3) (x4 : α4) (h0 : A0 x0 x1 x2 x3 x4) (h1 : A1 x0 x1 x2 x3 x4) (h2 : A2 x0 x1 x2 x3 x4) (h3 : A3 x0 x1 x2 x3 x4) (h4 : A4 x0 x1 x2 x3 x4) (h5 : A5 x0 x1 x2 x3 x4) : ∃ x0 x1 x2 x3 x4, A0 x0 x1 x2 x3 x4 ∧ A1 x0 x1 x2 x3 x4 ∧ A2 x0 x1 x2 x3 x4 ∧ A3 x0 x1 x2 x3 x4 ∧ A4 x0 x1 x2 x3 x4 ∧ A5 x0 x1 x2 x3 x4 := ⟨x0, x1, x2, x3, x4, h0, h1, h2, h3, h4, h5⟩
theorem mk5_8 {α0 α1 α2 α3 α4 : Sort _} {A0 A1 A2 A3 A4 A5 A6 A7 : α0 → α1 → α2 → α3 → α4 → Prop} (x0 : α0) (x1 : α1) (x2 : α2) (x3 : α3) (x4 : α4) (h0 : A0 x0 x1 x2 x3 x4) (h1 : A1 x0 x1 x2 x3 x4) (h2 : A2 x0 x1 x2 x3 x4) (h3 : A3 x0 x1 x2 x3 x4) (h4 : A4 x0 x1 x2 x3 x4) (h5 : A5 x0 x1 x2 x3 x4) (h6 : A6 x0 x1 x2 x3 x4) (h7 : A7 x0 x1 x2 x3 x4) : ∃ x0 x1 x2 x3 x4, A0 x0 x1 x2 x3 x4 ∧ A1 x0 x1 x2 x3 x4 ∧ A2 x0 x1 x2 x3 x4 ∧ A3 x0 x1 x2 x3 x4 ∧ A4 x0 x1 x2 x3 x4 ∧ A5 x0 x1 x2 x3 x4 ∧ A6 x0 x1 x2 x3 x4 ∧ A7 x0 x1 x2 x3 x4 := ⟨x0, x1, x2, x3, x4, h0, h1, h2, h3, h4, h5, h6, h7⟩
theorem mk6_4 {α0 α1 α2 α3 α4 α5 : Sort _} {A0 A1 A2 A3 : α0 → α1 → α2 → α3 → α4 → α5 → Prop} (x0 : α0) (x1 : α1) (x2 : α2) (x3 : α3) (x4 : α4) (x5 : α5) (h0 : A0 x0 x1 x2 x3 x4 x5) (h1 : A1 x0 x1 x2 x3 x4 x5) (h2 : A2 x0 x1 x2 x3 x4 x5) (h3 : A3 x0 x1 x2 x3 x4 x5) : ∃ x0 x1 x2 x3 x4 x5, A0 x0 x1 x2 x3 x4 x5 ∧ A1 x0 x1 x2 x3 x4 x5 ∧ A2 x0 x1 x2 x3 x4 x5 ∧ A3 x0 x1 x2 x3 x4 x5 := ⟨x0, x1, x2, x3, x4, x5, h0, h1, h2, h3⟩
theorem mk6_5 {α0 α1 α2 α3 α4 α5 : Sort _} {A0 A1 A2 A3 A4 : α0 → α1 → α2 → α3 → α4 → α5 → Prop} (x0 : α0) (x1 : α1) (x2 : α2) (x3 : α3) (x4 : α4) (x5 : α5) (h0 : A0 x0 x1 x2 x3 x4 x5) (h1 : A1 x0 x1 x2 x3 x4 x5) (h2 : A2 x0 x1 x2 x3 x4 x5) (h3 : A3 x0 x1 x2 x3 x4 x5) (h4 : A4 x0 x1 x2 x3 x4 x5) : ∃ x0 x1 x2 x3 x4 x5, A0 x0 x1 x2 x3 x4 x5 ∧ A1 x0 x1 x2 x3 x4 x5 ∧ A2 x0 x1 x2 x3 x4 x5 ∧ A3 x0 x1 x2 x3 x4 x5 ∧ A4 x0 x1 x2 x3 x4 x5 := ⟨x0, x1, x2, x3, x4, x5, h0, h1, h2, h3, h4⟩
theorem mk6_6 {α0 α1 α2 α3 α4 α5 : Sort _} {A0 A1 A2 A3 A4 A5 : α0 → α1 → α2 → α3 → α4 → α5 → Prop} (x0 : α0) (x1 : α1) (x2 : α2) (x3 : α3) (x4 : α4) (x5 : α5) (h0 : A0 x0 x1 x2 x3 x4 x5) (h1 : A1 x0 x1 x2 x3 x4 x5) (h2 : A2 x0 x1 x2 x3 x4 x5) (h3 : A3 x0 x1 x2 x3 x4 x5) (h4 : A4 x0 x1 x2 x3 x4 x5) (h5 : A5 x0 x1 x2 x3 x4 x5) : ∃ x0 x1 x2 x3 x4 x5, A0 x0 x1 x2 x3 x4 x5 ∧ A1 x0 x1 x2 x3 x4 x5 ∧ A2 x0 x1 x2 x3 x4 x5 ∧ A3 x0 x1 x2 x3 x4 x5 ∧ A4 x0 x1 x2 x3 x4 x5 ∧ A5 x0 x1 x2 x3 x4 x5 := ⟨x0, x1, x2, x3, x4, x5, h0, h1, h2, h3, h4, h5⟩
theorem mk6_7 {α0 α1 α2 α3 α4 α5 : Sort _} {A0 A1 A2 A3 A4 A5 A6 : α0 → α1 → α2 → α3 → α4 → α5 → Prop} (x0 : α0) (x1 : α1) (x2 : α2) (x3 : α3) (x4 : α4) (x5 : α5) (h0 : A0 x0 x1 x2 x3 x4 x5) (h1 : A1 x0 x1 x2 x3 x4 x5) (h2 : A2 x0 x1 x2 x3 x4 x5) (h3 : A3 x0 x1 x2 x3 x4 x5) (h4 : A4 x0 x1 x2 x3 x4 x5) (h5 : A5 x0 x1 x2 x3 x4 x5) (h6 : A6 x0 x1 x2 x3 x4 x5) : ∃ x0 x1 x2 x3 x4 x5, A0 x0 x1 x2 x3 x4 x5 ∧ A1 x0 x1 x2 x3 x4 x5 ∧ A2 x0 x1 x2 x3 x4 x5 ∧ A3 x0 x1 x2 x3 x4 x5 ∧ A4 x0 x1 x2 x3 x4 x5 ∧ A5 x0 x1 x2 x3 x4 x5 ∧ A6 x0 x1 x2 x3 x4 x5 := ⟨x0, x1, x2, x3, x4, x5, h0, h1, h2, h3, h4, h5, h6⟩
theorem mk8_8 {α0 α1 α2 α3 α4 α5 α6 α7 : Sort _} {A0 A1 A2 A3 A4 A5 A6 A7 : α0 → α1 → α2 → α3 → α4 → α5 → α6 → α7 → Prop} (x0 : α0) (x1 : α1) (x2 : α2) (x3 : α3) (x4 : α4) (x5 : α5) (x6 : α6) (x7 : α7) (h0 : A0 x0 x1 x2 x3 x4 x5 x6 x7) (h1 : A1 x0 x1 x2 x3 x4 x5 x6 x7) (h2 : A2 x0 x1 x2 x3 x4 x5 x6 x7) (h3 : A3 x0 x1 x2 x3 x4 x5 x6 x7) (h4 : A4 x0 x1 x2 x3 x4 x5 x6 x7) (h5 : A5 x0 x1 x2 x3 x4 x5 x6 x7) (h6 : A6 x0 x1 x2 x3 x4 x5 x6 x7) (h7 : A7 x0 x1 x2 x3 x4 x5 x6 x7) : ∃ x0 x1 x2 x3 x4 x5 x6 x7, A0 x0 x1 x2 x3 x4 x5 x6 x7 ∧ A1 x0 x1 x2 x3 x4 x5 x6 x7 ∧ A2 x0 x1 x2 x3 x4 x5 x6 x7 ∧ A3 x0 x1 x2 x3 x4 x5 x6 x7 ∧ A4 x0 x1 x2 x3 x4 x5 x6 x7 ∧ A5 x0 x1 x2 x3 x4 x5 x6 x7 ∧ A6 x0 x1 x2 x3 x4 x5 x6 x7 ∧ A7 x0 x1 x2 x3 x4 x5 x6 x7 := ⟨x0, x1, x2, x3, x4, x5, x6, x7, h0, h1, h2, h3, h4, h5, h6, h7⟩
theorem ob1_3 {α0 : Sort _} {A0 A1 A2 : α0 → Prop} {G : Prop} (h : ∃ x0, A0 x0 ∧ A1 x0 ∧ A2 x0) (k : ∀ x0, A0 x0 → A1 x0 → A2 x0 → G) : G := h.elim fun x0 h => k x0 h.1 h.2.1 h.2.2
theorem ob2_4 {α0 α1 : Sort _} {A0 A1 A2 A3 : α0 → α1 → Prop} {G : Prop} (h : ∃ x0 x1, A0 x0 x1 ∧ A1 x0 x1 ∧ A2 x0 x1 ∧ A3 x0 x1) (k : ∀ x0 x1, A0 x0 x1 → A1 x0 x1 → A2 x0 x1 → A3 x0 x1 → G) : G := h.elim fun x0 h => h.elim fun x1 h => k x0 x1 h.1 h.2.1 h.2.2.1 h.2.2.2
theorem ob2_5 {α0 α1 : Sort _} {A0 A1 A2 A3 A4 : α0 → α1 → Prop} {G : Prop} (h : ∃ x0 x1, A0 x0 x1 ∧ A1 x0 x1 ∧ A2 x0 x1 ∧ A3 x0 x1 ∧ A4 x0 x1) (k : ∀ x0 x1, A0 x0 x1 → A1 x0 x1 → A2 x0 x1 → A3 x0 x1 → A4 x0 x1 → G) : G := h.elim fun x0 h => h.elim fun x1 h => k x0 x1 h.1 h.2.1 h.2.2.1 h.2.2.2.1 h.2.2.2.2
theorem ob3_2 {α0 α1 α2 : Sort _} {A0 A1 : α0 → α1 → α2 → Prop} {G : Prop} (h : ∃ x0 x1 x2, A0 x0 x1 x2 ∧ A1 x0 x1 x2) (k : ∀ x0 x1 x2, A0 x0 x1 x2 → A1 x0 x1 x2 → G) : G := h.elim fun x0 h => h.elim fun x1 h => h.elim fun x2 h => k x0 x1 x2 h.1 h.2
theorem ob3_5 {α0 α1 α2 : Sort _} {A0 A1 A2 A3 A4 : α0 → α1 → α2 → Prop} {G : Prop} (h : ∃ x0 x1 x2, A0 x0 x1 x2 ∧ A1 x0 x1 x2 ∧ A2 x0 x1 x2 ∧ A3 x0 x1 x2 ∧ A4 x0 x1 x2) (k : ∀ x0 x1 x2, A0 x0 x1 x2 → A1 x0 x1 x2 → A2 x0 x1 x2 → A3 x0 x1 x2 → A4 x0 x1 x2 → G) : G := h.elim fun x0 h => h.elim fun x1 h => h.elim fun x2 h => k x0 x1 x2 h.1 h.2.1 h.2.2.1 h.2.2.2.1 h.2.2.2.2
theorem ob3_6 {α0 α1 α2 : Sort _} {A0 A1 A2 A3 A4 A5 : α0 → α1 → α2 → Prop} {G : Prop} (h : ∃ x0 x1 x2, A0 x0 x1 x2 ∧ A1 x0 x1 x2 ∧ A2 x0 x1 x2 ∧ A3 x0 x1 x2 ∧ A4 x0 x1 x2 ∧ A5 x0 x1 x2) (k : ∀ x0 x1 x2, A0 x0 x1 x2 → A1 x0 x1 x2 → A2 x0 x1 x2 → A3 x0 x1 x2 → A4 x0 x1 x2 → A5 x0 x1 x2 → G) : G := h.elim fun x0 h => h.elim fun x1 h => h.elim fun x2 h => k x0 x1 x2 h.1 h.2.1 h.2.2.1 h.2.2.2.1 h.2.2.2.2.1 h.2.2.2.2.2
theorem ob3_7 {α0 α1 α2 : Sort _} {A0 A1 A2 A3 A4 A5 A6 : α0 → α1 → α2 → Prop} {G : Prop} (h : ∃ x0 x1 x2, A0 x0 x1 x2 ∧ A1 x0 x1 x2 ∧ A2 x0 x1 x2 ∧ A3 x0 x1 x2 ∧ A4 x0 x1 x2 ∧ A5 x0 x1 x2 ∧ A6 x0 x1 x2) (k : ∀ x0 x1 x2, A0 x0 x1 x2 → A1 x0 x1 x2 → A2 x0 x1 x2 → A3 x0 x1 x2 → A4 x0 x1 x2 → A5 x0 x1 x2 → A6 x0 x1 x2 → G) : G := h.elim fun x0 h => h.elim fun x1 h => h.elim fun x2 h => k x0 x1 x2 h.1 h.2.1 h.2.2.1 h.2.2.2.1 h.2.2.2.2.1 h.2.2.2.2.2.1 h.2.2.2.2.2.2
theorem ob4_2 {α0 α1 α2 α3 : Sort _} {A0 A1 : α0 → α1 → α2 → α3 → Prop} {G : Prop} (h : ∃ x0 x1 x2 x3, A0 x0 x1 x2 x3 ∧ A1 x0 x1 x2 x3) (k : ∀ x0 x1 x2 x3, A0 x0 x1 x2 x3 → A1 x0 x1 x2 x3 → G) : G := h.elim fun x0 h => h.elim fun x1 h => h.elim fun x2 h => h.elim fun x3 h => k x0 x1 x2 x3 h.1 h.2
theorem ob4_3 {α0 α1 α2 α3 : Sort _} {A0 A1 A2 : α0 → α1 → α2 → α3 → Prop} {G : Prop} (h : ∃ x0 x1 x2 x3, A0 x0 x1 x2 x3 ∧ A1 x0 x1 x2 x3 ∧ A2 x0 x1 x2 x3) (k : ∀ x0 x1 x2 x3, A0 x0 x1 x2 x3 → A1 x0 x1 x2 x3 → A2 x0 x1 x2 x3 → G) : G := h.elim fun x0 h => h.elim fun x1 h => h.elim fun x2 h => h.elim fun x3 h => k x0 x1 x2 x3 h.1 h.2.1 h.2.2
theorem ob4_5 {α0 α1 α2 α3 : Sort _} {A0 A1 A2 A3 A4 : α0 → α1 → α2 → α3 → Prop} {G : Prop} (h : ∃ x0 x1 x2 x3, A0 x0 x1 x2 x3 ∧ A1 x0 x1 x2 x3 ∧ A2 x0 x1 x2 x3 ∧ A3 x0 x1 x2 x3 ∧ A4 x0 x1 x2 x3) (k : ∀ x0 x1 x2 x3, A0 x0 x1 x2 x3 → A1 x0 x1 x2 x3 → A2 x0 x1 x2 x3 → A3 x0 x1 x2 x3 → A4 x0 x1 x2 x3 → G) : G := h.elim fun x0 h => h.elim fun x1 h => h.elim fun x2 h => h.elim fun x3 h => k x0 x1 x2 x3 h.1 h.2.1 h.2.2.1 h.2.2.2.1 h.2.2.2.2
theorem ob4_6 {α0 α1 α2 α3 : Sort _} {A0 A1 A2 A3 A4 A5 : α0 → α1 → α2 → α3 → Prop} {G : Prop} (h : ∃ x0 x1 x2 x3, A0 x0 x1 x2 x3 ∧ A1 x0 x1 x2 x3 ∧ A2 x0 x1 x2 x3 ∧ A3 x0 x1 x2 x3 ∧ A4 x0 x1 x2 x3 ∧ A5 x0 x1 x2 x3) (k : ∀ x0 x1 x2 x3, A0 x0 x1 x2 x3 → A1 x0 x1 x2 x3 → A2 x0 x1 x2 x3 → A3 x0 x1 x2 x3 → A4 x0 x1 x2 x3 → A5 x0 x1 x2 x3 → G) : G := h.elim fun x0 h => h.elim fun x1 h => h.elim fun x2 h => h.elim fun x3 h => k x0 x1 x2 x3 h.1 h.2.1 h.2.2.1 h.2.2.2.1 h.2.2.2.2.1 h.2.2.2.2.2
theorem ob4_8 {α0 α1 α2 α3 : Sort _} {A0 A1 A2 A3 A4 A5 A6 A7 : α0 → α1 → α2 → α3 → Prop} {G : Prop} (h : ∃ x0 x1 x2 x3, A0 x0 x1 x2 x3 ∧ A1 x0 x1 x2 x3 ∧ A2 x0 x1 x2 x3 ∧ A3 x0 x1 x2 x3 ∧ A4 x0 x1 x2 x3 ∧ A5 x0 x1 x2 x3 ∧ A6 x0 x1 x2 x3 ∧ A7 x0 x1 x2 x3) (k : ∀ x0 x1 x2 x3, A0 x0 x1 x2 x3 → A1 x0 x1 x2 x3 → A2 x0 x1 x2 x3 → A3 x0 x1 x2 x3 → A4 x0 x1 x2 x3 → A5 x0 x1 x2 x3 → A6 x0 x1 x2 x3 → A7 x0 x1 x2 x3 → G) : G := h.elim fun x0 h => h.elim fun x1 h => h.elim fun x2 h => h.elim fun x3 h => k x0 x1 x2 x3 h.1 h.2.1 h.2.2.1 h.2.2.2.1 h.2.2.2.2.1 h.2.2.2.2.2.1 h.2.2.2.2.2.2.1 h.2.2.2.2.2.2.2
theorem ob5_2 {α0 α1 α2 α3 α4 : Sort _} {A0 A1 : α0 → α1 → α2 → α3 → α4 → Prop} {G : Prop} (h : ∃ x0 x1 x2 x3 x4, A0 x0 x1 x2 x3 x4 ∧ A1 x0 x1 x2 x3 x4) (k : ∀ x0 x1 x2 x3 x4, A0 x0 x1 x2 x3 x4 → A1 x0 x1 x2 x3 x4 → G) : G := h.elim fun x0 h => h.elim fun x1 h => h.elim fun x2 h => h.elim fun x3 h => h.elim fun x4 h => k x0 x1 x2 x3 x4 h.1 h.2
theorem ob5_3 {α0 α1 α2 α3 α4 : Sort _} {A0 A1 A2 : α0 → α1 → α2 → α3 → α4 → Prop} {G : Prop} (h : ∃ x0 x1 x2 x3 x4, A0 x0 x1 x2 x3 x4 ∧ A1 x0 x1 x2 x3 x4 ∧ A2 x0 x1 x2 x3 x4) (k : ∀ x0 x1 x2 x3 x4, A0 x0 x1 x2 x3 x4 → A1 x0 x1 x2 x3 x4 → A2 x0 x1 x2 x3 x4 → G) : G := h.elim fun x0 h => h.elim fun x1 h => h.elim fun x2 h => h.elim fun x3 h => h.elim fun x4 h => k x0 x1 x2 x3 x4 h.1 h.2.1 h.2.2
theorem ob5_4 {α0 α1 α2 α3 α4 : Sort _} {A0 A1 A2 A3 : α0 → α1 → α2 → α3 → α4 → Prop} {G : Prop} (h : ∃ x0 x1 x2 x3 x4, A0 x0 x1 x2 x3 x4 ∧ A1 x0 x1 x2 x3 x4 ∧ A2 x0 x1 x2 x3 x4 ∧ A3 x0 x1 x2 x3 x4) (k : ∀ x0 x1 x2 x3 x4, A0 x0 x1 x2 x3 x4 → A1 x0 x1 x2 x3 x4 → A2 x0 x1 x2 x3 x4 → A3 x0 x1 x2 x3 x4 → G) : G := h.elim fun x0 h => h.elim fun x1 h => h.elim fun x2 h => h.elim fun x3 h => h.elim fun x4 h => k x0 x1 x2 x3 x4 h.1 h.2.1 h.2.2.1 h.2.2.2
theorem ob5_6 {α0 α1 α2 α3 α4 : Sort _} {A0 A1 A2 A3 A4 A5 : α0 → α1 → α2 → α3 → α4 → Prop} {G : Prop} (h : ∃ x0 x1 x2 x3 x4, A0 x0 x1 x2 x3 x4 ∧ A1 x0 x1 x2 x3 x4 ∧ A2 x0 x1 x2 x3 x4 ∧ A3 x0 x1 x2 x3 x4 ∧ A4 x0 x1 x2 x3 x4 ∧ A5 x0 x1 x2 x3 x4) (k : ∀ x0 x1 x2 x3 x4, A0 x0 x1 x2 x3 x4 → A1 x0 x1 x2 x3 x4 → A2 x0 x1 x2 x3 x4 → A3 x0 x1 x2 x3 x4 → A4 x0 x1 x2 x3 x4 → A5 x0 x1 x2 x3 x4 → G) : G := h.elim fun x0 h => h.elim fun x1 h => h.elim fun x2 h => h.elim fun x3 h => h.elim fun x4 h => k x0 x1 x2 x3 x4 h.1 h.2.1 h.2.2.1 h.2.2.2.1 h.2.2.2.2.1 h.2.2.2.2.2
theorem ob5_8 {α0 α1 α2 α3 α4 : Sort _} {A0 A1 A2 A3 A4 A5 A6 A7 : α0 → α1 → α2 → α3 → α4 → Prop} {G : Prop} (h : ∃ x0 x1 x2 x3 x4, A0 x0 x1 x2 x3 x4 ∧ A1 x0 x1 x2 x3 x4 ∧ A2 x0 x1 x2 x3 x4 ∧ A3 x0 x1 x2 x3 x4 ∧ A4 x0 x1 x2 x3 x4 ∧ A5 x0 x1 x2 x3 x4 ∧ A6 x0 x1 x2 x3 x4 ∧ A7 x0 x1 x2 x3 x4) (k : ∀ x0 x1 x2 x3 x4, A0 x0 x1 x2 x3 x4 → A1 x0 x1 x2 x3 x4 → A2 x0 x1 x2 x3 x4 → A3 x0 x1 x2 x3 x4 → A4 x0 x1 x2 x3 x4 → A5 x0 x1 x2 x3 x4 → A6 x0 x1 x2 x3 x4 → A7 x0 x1 x2 x3 x4 → G) : G := h.elim fun x0 h => h.elim fun x1 h => h.elim fun x2 h => h.elim fun x3 h => h.elim fun x4 h => k x0 x1 x2 x3 x4 h.1 h.2.1 h.2.2.1 h.2.2.2.1 h.2.2.2.2.1 h.2.2.2.2.2.1 h.2.2.2.2.2.2.1 h.2.2.2.2.2.2.2
theorem ob6_2 {α0 α1 α2 α3 α4 α5 : Sort _} {A0 A1 : α0 → α1 → α2 → α3 → α4 → α5 → Prop} {G : Prop} (h : ∃ x0 x1 x2 x3 x4 x5, A0 x0 x1 x2 x3 x4 x5 ∧ A1 x0 x1 x2 x3 x4 x5) (k : ∀ x0 x1 x2 x3 x4 x5, A0 x0 x1 x2 x3 x4 x5 → A1 x0 x1 x2 x3 x4 x5 → G) : G := h.elim fun x0 h => h.elim fun x1 h => h.elim fun x2 h => h.elim fun x3 h => h.elim fun x4 h => h.elim fun x5 h => k x0 x1 x2 x3 x4 x5 h.1 h.2
theorem ob6_5 {α0 α1 α2 α3 α4 α5 : Sort _} {A0 A1 A2 A3 A4 : α0 → α1 → α2 → α3 → α4 → α5 → Prop} {G : Prop} (h : ∃ x0 x1 x2 x3 x4 x5, A0 x0 x1 x2 x3 x4 x5 ∧ A1 x0 x1 x2 x3 x4 x5 ∧ A2 x0 x1 x2 x3 x4 x5 ∧ A3 x0 x1 x2 x3 x4 x5 ∧ A4 x0 x1 x2 x3 x4 x5) (k : ∀ x0 x1 x2 x3 x4 x5, A0 x0 x1 x2 x3 x4 x5 → A1 x0 x1 x2 x3 x4 x5 → A2 x0 x1 x2 x3 x4 x5 → A3 x0 x1 x2 x3 x4 x5 → A4 x0 x1 x2 x3 x4 x5 → G) : G := h.elim fun x0 h => h.elim fun x1 h => h.elim fun x2 h => h.elim fun x3 h => h.elim fun x4 h => h.elim fun x5 h => k x0 x1 x2 x3 x4 x5 h.1 h.2.1 h.2.2.1 h.2.2.2.1 h.2.2.2.2
theorem ob6_6 {α0 α1 α2 α3 α4 α5 : Sort _} {A0 A1 A2 A3 A4 A5 : α0 → α1 → α2 → α3 → α4 → α5 → Prop} {G : Prop} (h : ∃ x0 x1 x2 x3 x4 x5, A0 x0 x1 x2 x3 x4 x5 ∧ A1 x0 x1 x2 x3 x4 x5 ∧ A2 x0 x1 x2 x3 x4 x5 ∧ A3 x0 x1 x2 x3 x4 x5 ∧ A4 x0 x1 x2 x3 x4 x5 ∧ A5 x0 x1 x2 x3 x4 x5) (k : ∀ x0 x1 x2 x3 x4 x5, A0 x0 x1 x2 x3 x4 x5 → A1 x0 x1 x2 x3 x4 x5 → A2 x0 x1 x2 x3 x4 x5 → A3 x0 x1 x2 x3 x4 x5 → A4 x0 x1 x2 x3 x4 x5 → A5 x0 x1 x2 x3 x4 x5 → G) : G := h.elim fun x0 h => h.elim fun x1 h => h.elim fun x2 h => h.elim fun x3 h => h.elim fun x4 h => h.elim fun x5 h => k x0 x1 x2 x3 x4 x5 h.1 h.2.1 h.2.2.1 h.2.2.2.1 h.2.2.2.2.1 h.2.2.2.2.2
theorem ob6_7 {α0 α1 α2 α3 α4 α5 : Sort _} {A0 A1 A2 A3 A4 A5 A6 : α0 → α1 → α2 → α3 → α4 → α5 → Prop} {G : Prop} (h : ∃ x0 x1 x2 x3 x4 x5, A0 x0 x1 x2 x3 x4 x5 ∧ A1 x0 x1 x2 x3 x4 x5 ∧ A2 x0 x1 x2 x3 x4 x5 ∧ A3 x0 x1 x2 x3 x4 x5 ∧ A4 x0 x1 x2 x3 x4 x5 ∧ A5 x0 x1 x2 x3 x4 x5 ∧ A6 x0 x1 x2 x3 x4 x5) (k : ∀ x0 x1 x2 x3 x4 x5, A0 x0 x1 x2 x3 x4 x5 → A1 x0 x1 x2 x3 x4 x5 → A2 x0 x1 x2 x3 x4 x5 → A3 x0 x1 x2 x3 x4 x5 → A4 x0 x1 x2 x3 x4 x5 → A5 x0 x1 x2 x3 x4 x5 → A6 x0 x1 x2 x3 x4 x5 → G) : G := h.elim fun x0 h => h.elim fun x1 h => h.elim fun x2 h => h.elim fun x3 h => h.elim fun x4 h => h.elim fun x5 h => k x0 x1 x2 x3 x4 x5 h.1 h.2.1 h.2.2.1 h.2.2.2.1 h.2.2.2.2.1 h.2.2.2.2.2.1 h.2.2.2.2.2.2
theorem ob8_2 {α0 α1 α2 α3 α4 α5 α6 α7 : Sort _} {A0 A1 : α0 → α1 → α2 → α3 → α4 → α5 → α6 → α7 → Prop} {G : Prop} (h : ∃ x0 x1 x2 x3 x4 x5 x6 x7, A0 x0 x1 x2 x3 x4 x5 x6 x7 ∧ A1 x0 x1 x2 x3 x4 x5 x6 x7) (k : ∀ x0 x1 x2 x3 x4 x5 x6 x7, A0 x0 x1 x2 x3 x4 x5 x6 x7 → A1 x0 x1 x2 x3 x4 x5 x6 x7 → G) : G := h.elim fun x0 h => h.elim fun x1 h => h.elim fun x2 h => h.elim fun x3 h => h.elim fun x4 h => h.elim fun x5 h => h.elim fun x6 h => h.elim fun x7 h => k x0 x1 x2 x3 x4 x5 x6 x7 h.1 h.2
theorem ob8_8 {α0 α1 α2 α3 α4 α5 α6 α7 : Sort _} {A0 A1 A2 A3 A4 A5 A6 A7 : α0 → α1 → α2 → α3 → α4 → α5 → α6 → α7 → Prop} {G : Prop} (h : ∃ x0 x1 x2 x3 x4 x5 x6 x7, A0 x0 x1 x2 x3 x4 x5 x6 x7 ∧ A1 x0 x1 x2 x3 x4 x5 x6 x7 ∧ A2 x0 x1 x2 x3 x4 x5 x6 x7 ∧ A3 x0 x1 x2 x3 x4 x5 x6 x7 ∧ A4 x0 x1 x2 x3 x4 x5 x6 x7 ∧ A5 x0 x1 x2 x3 x4 x5 x6 x7 ∧ A6 x0 x1 x2 x3 x4 x5 x6 x7 ∧ A7 x0 x1 x2 x3 x4 x5 x6 x7) (k : ∀ x0 x1 x2 x3 x4 x5 x6 x7, A0 x0 x1 x2 x3 x4 x5 x6 x7 → A1 x0 x1 x2 x3 x4 x5 x6 x7 → A2 x0 x1 x2 x3 x4 x5 x6 x7 → A3 x0 x1 x2 x3 x4 x5 x6 x7 → A4 x0 x1 x2 x3 x4 x5 x6 x7 → A5 x0 x1 x2 x3 x4 x5 x6 x7 → A6 x0 x1 x2 x3 x4 x5 x6 x7 → A7 x0 x1 x2 x3 x4 x5 x6 x7 → G) : G := h.elim fun x0 h => h.elim fun x1 h => h.elim fun x2 h => h.elim fun x3 h => h.elim fun x4 h => h.elim fun x5 h => h.elim fun x6 h => h.elim fun x7 h => k x0 x1 x2 x3 x4 x5 x6 x7 h.1 h.2.1 h.2.2.1 h.2.2.2.1 h.2.2.2.2.1 h.2.2.2.2.2.1 h.2.2.2.2.2.2.1 h.2.2.2.2.2.2.2
end L2

set_option Elab.async false
set_option linter.all false
namespace Pw
open PySem L2
def top (i : Nat) : Stmt := PySem.Challenge.pw_parcelwall_k09_whole_room_or_too_many.main.body.getD i (.Pass ⟨0, 0, 0, 0⟩)
abbrev s_in_bounds : Stmt := top 12
abbrev s_check_wall : Stmt := top 13
abbrev s_check_size : Stmt := top 14
abbrev s_check_nights : Stmt := top 15
abbrev s_check_both : Stmt := top 17
abbrev s_places_by_size : Stmt := top 18
abbrev s_fit : Stmt := top 19
abbrev s_room_for : Stmt := top 21
abbrev s_fewest_moves : Stmt := top 22
abbrev s__law_drawn : Stmt := top 27
abbrev s__law_whole : Stmt := top 28
abbrev s__law_row : Stmt := top 29
abbrev s__law_sizes_by : Stmt := top 31
abbrev s__law_held : Stmt := top 32
abbrev s__law_stands : Stmt := top 33
abbrev s__law_filled_by : Stmt := top 34
abbrev s__law_side_of : Stmt := top 35
abbrev s__law_many : Stmt := top 36
abbrev s__law_moved : Stmt := top 37
abbrev s_law : Stmt := top 38
abbrev s_Parcel___init__ : Stmt := inClass (top 24) 0
abbrev s_Wall___init__ : Stmt := inClass (top 25) 0
abbrev s_Wall_sizes : Stmt := inClass (top 25) 1
abbrev s_Wall_held : Stmt := inClass (top 25) 2
abbrev s_Wall_free : Stmt := inClass (top 25) 3
abbrev s_Wall_day : Stmt := inClass (top 25) 4
abbrev s_Wall_come : Stmt := inClass (top 25) 5
abbrev s_Wall_fetch : Stmt := inClass (top 25) 6
abbrev s_Wall_size_of : Stmt := inClass (top 25) 7
abbrev s_Wall_left : Stmt := inClass (top 25) 8
abbrev s_Wall_move : Stmt := inClass (top 25) 10
abbrev s_Wall_boxes_for : Stmt := inClass (top 25) 11
abbrev s_Wall_least_box : Stmt := inClass (top 25) 12
abbrev s_Wall_box_of : Stmt := inClass (top 25) 13
end Pw

set_option Elab.async false
set_option linter.all false
set_option maxRecDepth 100000
set_option maxHeartbeats 4000000
namespace Pw
open PySem L2
section
variable {P : Program} {w : World} {K : PySem.W.Frag} {mg : Str → Option Value} {base : Heap}

theorem scDrawn : FnScope ["script", "k", "many", "cell", "stir"] ["script", "k", "many"] (defScope s__law_drawn) := ⟨rfl, rfl, rfl, by decide +kernel, rfl, by decide +kernel, by decide +kernel⟩
theorem ok_drawn {f : Addr} {fd : FuncData} (F : Fun K "_law_drawn" "_law_drawn" s__law_drawn f fd) (mlen : mg "len" = none) : FnOk P w K mg base CX0 1 f fd ["script", "k", "many"] (spDrawn K) := by
  refine F.ok scDrawn (fun vs H Q E h => ?_) (fun cdv A outer s H vs Q E hr h => ?_)
  · refine ob4_2 h (fun a ns k many eRfl _ => ?_); clear h; subst eRfl
    rfl
  · refine ob4_8 h (fun a ns k many eRfl hS hlen hk0 hk1 hm0 hm1 q => ?_); clear h; subst eRfl
    refine ⟨_, pss_cons (ps_set (i := 3) scDrawn.nd rfl (Or.inl rfl) pe_int)
      (pss_cons (ps_if (pt_cmpR op_gt (pe_callB call_len_seq (by rfl) mlen PySem.boot_len (pa_cons (pv 0) pa_nil)) pe_int (nomark _))
        (pss_one (ps_set (i := 3) scDrawn.nd rfl (Or.inl rfl) (pe_ix ix_list (pv 0) (pe_op op_mod (pv 1) (pe_callB call_len_seq (by rfl) mlen PySem.boot_len (pa_cons (pv 0) pa_nil))) (fun _ _ => rfl)))) pss_nil)
      (pss_cons (ps_set (i := 4) scDrawn.nd rfl (Or.inl rfl) (pe_op op_mod (pe_op op_add (pe_op op_add (pe_op op_mul (pv 3) pe_int) (pe_op op_mul (pe_op op_add (pv 1) pe_int) pe_int)) (pe_callB call_len_seq (by rfl) mlen PySem.boot_len (pa_cons (pv 0) pa_nil))) pe_int))
      (pss_cons (ps_set (i := 4) scDrawn.nd rfl (Or.inl rfl) (pe_op op_mod (pe_op op_add (pe_op op_add (pe_op op_mul (pv 4) (pv 4)) (pe_op op_mul (pv 1) pe_int)) pe_int) pe_int))
      (pss_one (ps_ret (pe_op op_mod (pe_op op_fdiv (pe_op op_mod (pe_op op_mul (pv 4) pe_int) pe_int) pe_int) (pv 2))))))), ?_⟩
    try dsimp only [cxOf]
    refine (evr rfl ⟨a, evr rfl ⟨.inl hS, ev2 rfl rfl (evr rfl ?_)⟩⟩)
    have em : ((ns.map V.int).length : Int) = (ns.length : Int) := by rw [List.length_map]
    have c1 : ∀ i : Int, CMul i 48271 := fun i => .inr ⟨by decide, by decide⟩
    have c2 : ∀ i : Int, CMul i 7919 := fun i => .inr ⟨by decide, by decide⟩
    have c3 : ∀ i : Int, CMul i 16807 := fun i => .inr ⟨by decide, by decide⟩
    have c4 : ∀ i : Int, CMul (i % 2147483647) (i % 2147483647) := fun i => .inl ⟨Int.lt_of_lt_of_le (by decide) (Int.emod_nonneg _ (by decide)), Int.lt_trans (Int.emod_lt_of_pos _ (by decide)) (by decide)⟩
    refine ite2 (fun h => ?_) (fun h => ?_)
    · have hp : 0 < ns.length := by
        have h := of_decide_eq_true h
        rw [em] at h; (first | lia | omega)
      have hm : 0 ≤ k % (ns.length : Int) := Int.emod_nonneg _ (by (first | lia | omega))
      have hm2 : k % (ns.length : Int) < ns.length := Int.emod_lt_of_pos _ (by (first | lia | omega))
      have hj : (k % (ns.length : Int)).toNat < ns.length := by (first | lia | omega)
      have hat : atI (ns.map V.int) (k % ((ns.map V.int).length : Int)) = some (V.int (cellOf ns k)) := by
        rw [em]
        have e : ((k % (ns.length : Int)).toNat : Int) = k % (ns.length : Int) := Int.toNat_of_nonneg hm
        rw [← e]
        refine atI_nat ?_
        unfold cellOf
        rw [if_pos hp, List.getElem?_map, List.getElem?_eq_getElem hj]
        simp [List.getD, hj]
      refine (ev3r rfl rfl rfl ⟨a, evr rfl ⟨.inl hS, ev2 rfl rfl ⟨(by rw [em]; (first | lia | omega)), ix4 (p := a) hS hat ?_⟩⟩⟩)
      refine (evr rfl (ev2 rfl rfl ⟨c1 _, evr rfl (ev2 rfl rfl (ev2 rfl rfl ⟨c2 _, ev2 rfl rfl (evr rfl ⟨a, evr rfl ⟨.inl hS, ev2 rfl rfl (ev2 rfl rfl ⟨(by show (0 : Int) < 2147483647; decide), ?_⟩)⟩⟩)⟩))⟩))
      refine (evv rfl rfl (ev2 rfl rfl ⟨c4 _, evr rfl (ev2 rfl rfl ⟨c3 _, ev2 rfl rfl (ev2 rfl rfl (ev2 rfl rfl ⟨(by show (0 : Int) < 2147483647; decide), ?_⟩))⟩)⟩))
      refine (evr rfl (ev2 rfl rfl ⟨c1 _, ev2 rfl rfl ⟨(by show (0 : Int) < 2147483647; decide), ev2 rfl rfl ⟨⟨by decide, by decide⟩, evr rfl (ev2 rfl rfl ⟨hm0, ?_⟩)⟩⟩⟩))
      rw [em]
      exact q
    · have hp : ¬ 0 < ns.length := by
        intro z
        refine h (decide_eq_true ?_)
        rw [em]; (first | lia | omega)
      have hc : cellOf ns k = 7 := by unfold cellOf; rw [if_neg hp]
      refine (evr rfl (ev2 rfl rfl ⟨c1 _, evr rfl (ev2 rfl rfl (ev2 rfl rfl ⟨c2 _, ev2 rfl rfl (evr rfl ⟨a, evr rfl ⟨.inl hS, ev2 rfl rfl (ev2 rfl rfl ⟨(by show (0 : Int) < 2147483647; decide), ?_⟩)⟩⟩)⟩))⟩))
      refine (evv rfl rfl (ev2 rfl rfl ⟨c4 _, evr rfl (ev2 rfl rfl ⟨c3 _, ev2 rfl rfl (ev2 rfl rfl (ev2 rfl rfl ⟨(by show (0 : Int) < 2147483647; decide), ?_⟩))⟩)⟩))
      refine (evr rfl (ev2 rfl rfl ⟨c1 _, ev2 rfl rfl ⟨(by show (0 : Int) < 2147483647; decide), ev2 rfl rfl ⟨⟨by decide, by decide⟩, evr rfl (ev2 rfl rfl ⟨hm0, ?_⟩)⟩⟩⟩))
      rw [em]
      unfold drawn at q
      rw [hc] at q
      exact q

end
end Pw

set_option Elab.async false
set_option linter.all false
set_option maxRecDepth 100000
set_option maxHeartbeats 4000000
namespace Pw
open PySem L2
section
variable {P : Program} {w : World} {K : PySem.W.Frag} {mg : Str → Option Value} {base : Heap}
theorem scWhole : FnScope ["found"] ["found"] (defScope s__law_whole) := ⟨rfl, rfl, rfl, by decide +kernel, rfl, by decide +kernel, by decide +kernel⟩
theorem ok_whole {f : Addr} {fd : FuncData} (F : Fun K "_law_whole" "_law_whole" s__law_whole f fd) (misi : mg "isinstance" = none) (mint : mg "int" = none) (mbool : mg "bool" = none)
    (k1 : PySem.W.kitOne K (.type "int") (.type "int") = some true) (k2 : PySem.W.kitOne K (.type "int") (.type "bool") = some false) : FnOk P w K mg base CX0 1 f fd ["found"] spWhole := by
  refine F.ok scWhole (fun vs H Q E h => ?_) (fun cdv A outer s H vs Q E hr h => ?_)
  · refine ob1_2 h (fun i eRfl _ => ?_); clear h; subst eRfl
    rfl
  · refine ob1_2 h (fun i eRfl q => ?_); clear h; subst eRfl
    refine ⟨_, pss_one (ps_ret (pe_and (pe_callB call_isi (by rfl) misi PyProof.Rows.boot_isinstance (pa_cons (pv 0) (pa_cons (pe_bltn (v := .ty "int") (by rfl) mint (by decide +kernel) rfl) pa_nil)))
      (pe_one (pe_not (pe_callB call_isi (by rfl) misi PyProof.Rows.boot_isinstance (pa_cons (pv 0) (pa_cons (pe_bltn (v := .ty "bool") (by rfl) mbool (by decide +kernel) rfl) pa_nil))))))), ?_⟩
    try dsimp only [cxOf]
    refine (evr rfl (mk4_5 _ _ _ _ rfl (.of (.int i)) (by intro z; cases z) k1 (evr rfl (iteT ?_))))
    refine (evr rfl (mk4_5 _ _ _ _ rfl (.of (.int i)) (by intro z; cases z) k2 (evr rfl ?_)))
    exact q

theorem at_int {xs : List Int} {i : Nat} (h : i < xs.length) : atI (xs.map V.int) ((0 : Int) + (i : Nat)) = some (V.int (xs[i])) := by
  rw [Int.zero_add]
  exact atI_nat (by rw [List.getElem?_map, List.getElem?_eq_getElem h]; rfl)
theorem scRow : FnScope ["found", "due", "k"] ["found", "due"] (defScope s__law_row) := ⟨rfl, rfl, rfl, by decide +kernel, rfl, by decide +kernel, by decide +kernel⟩
theorem ok_row {f fW : Addr} {fd fdW : FuncData} (F : Fun K "_law_row" "_law_row" s__law_row f fd) (gW : Gd P w K mg base "_law_whole" s__law_whole ["found"] CX0 1 spWhole fW fdW)
    (misi : mg "isinstance" = none) (mlist : mg "list" = none) (mlen : mg "len" = none) (mrange : mg "range" = none) (k1 : PySem.W.kitOne K (.type "list") (.type "list") = some true) : FnOk P w K mg base CX0 2 f fd ["found", "due"] (spRow K) := by
  refine F.ok scRow (fun vs H Q E h => ?_) (fun cdv A outer s H vs Q E hr h => ?_)
  · refine ob3_2 h (fun a b xs eRfl _ => ?_); clear h; subst eRfl
    rfl
  · refine ob3_5 h (fun a b xs eRfl ha hb hl q => ?_); clear h; subst eRfl
    refine ⟨_, pss_cons (ps_if (pw_or (pt_not (pt_val (pe_callB call_isi (by rfl) misi PyProof.Rows.boot_isinstance (pa_cons (pv 0) (pa_cons (pe_bltn (v := .ty "list") (by rfl) mlist (by decide +kernel) rfl) pa_nil)))))
        (pw_or1 (pt_cmpR op_ne (pe_callB call_len_seq (by rfl) mlen PySem.boot_len (pa_cons (pv 0) pa_nil)) (pe_callB call_len_seq (by rfl) mlen PySem.boot_len (pa_cons (pv 1) pa_nil)) (nomark _)))).pt (pss_one (ps_ret pe_bl)) pss_nil)
      (pss_cons (ps_for PassesOwn.never rfl (pi_range1 (by rfl) mrange (pa_cons (pe_callB call_len_seq (by rfl) mlen PySem.boot_len (pa_cons (pv 1) pa_nil)) pa_nil)) (pg_name (i := 2) scRow.nd rfl (Or.inl rfl))
        (pss_one (ps_if (pw_or (pt_not (pt_val (pe_call gW.G hr (by rfl) gW.m gW.F.kp gW.b .nil pass0 (pa_cons (pe_ix ix_list (pv 0) (pv 2) (fun _ _ => rfl)) pa_nil))))
          (pw_or1 (pt_cmpR op_ne (pe_ix ix_list (pv 0) (pv 2) (fun _ _ => rfl)) (pe_ix ix_list (pv 1) (pv 2) (fun _ _ => rfl)) (nomark _)))).pt (pss_one (ps_ret pe_bl)) pss_nil)))
      (pss_one (ps_ret pe_bl))), ?_⟩
    try dsimp only [cxOf]
    refine (evr rfl (mk4_5 _ _ _ _ rfl (.of (.lst ha)) (by intro z; cases z) k1 (evr rfl (iteF ?_))))
    refine (evr rfl (mk2_2 a _ rfl ⟨.inl (SqL.of ha), evr rfl (mk2_4 b _ rfl (.inl hb) rfl (evr rfl (iteNS rfl ?_)))⟩))
    refine (evr rfl ⟨b, evr rfl ⟨.inl hb, evr rfl ⟨(by rw [List.length_map]; (first | lia | omega)), (by rw [List.length_map]; (first | lia | omega)), ?_⟩⟩⟩)
    have el : ((xs.map V.int).length : Int).toNat = xs.length := by rw [List.length_map]; (first | lia | omega)
    rw [el]
    refine for_range (n := xs.length) (fun i σ H2 => H2 = H ∧ ∃ v, σ = [some (.ref a), some (.ref b), v]) ⟨rfl, none, rfl⟩ ?_ ?_
    · rintro i σ H2 hi ⟨rfl, v, rfl⟩
      refine (evv rfl rfl (ix4 (p := a) (SqL.of ha) (at_int hi) (evv rfl rfl (iteF ?_))))
      refine (evv rfl rfl (ix4 (p := a) (SqL.of ha) (at_int hi) (evv rfl rfl (ix4 (p := b) hb (at_int hi) ⟨rfl, evr rfl (iteNS rfl ?_)⟩))))
      exact ⟨rfl, _, rfl⟩
    · rintro σ H2 ⟨rfl, v, rfl⟩
      exact q
end
end Pw

set_option Elab.async false
set_option linter.all false
set_option maxRecDepth 100000
set_option maxHeartbeats 4000000
namespace Pw
open PySem L2
section
variable {P : Program} {w : World} {K : PySem.W.Frag} {mg : Str → Option Value} {base : Heap}
theorem at_o {xs : List (Option Int)} {i : Nat} (h : i < xs.length) : atI (xs.map oV) ((0 : Int) + (i : Nat)) = some (oV (xs[i])) := by
  rw [Int.zero_add]
  exact atI_nat (by rw [List.getElem?_map, List.getElem?_eq_getElem h]; rfl)
theorem scHeldEq : FnScope ["found", "due", "k"] ["found", "due"] (defScope s__law_held) := ⟨rfl, rfl, rfl, by decide +kernel, rfl, by decide +kernel, by decide +kernel⟩
theorem ok_heldEq {f fW : Addr} {fd fdW : FuncData} (F : Fun K "_law_held" "_law_held" s__law_held f fd) (gW : Gd P w K mg base "_law_whole" s__law_whole ["found"] CX0 1 spWhole fW fdW)
    (misi : mg "isinstance" = none) (mlist : mg "list" = none) (mlen : mg "len" = none) (mrange : mg "range" = none) (k1 : PySem.W.kitOne K (.type "list") (.type "list") = some true) : FnOk P w K mg base CX0 2 f fd ["found", "due"] (spHeldEq K) := by
  refine F.ok scHeldEq (fun vs H Q E h => ?_) (fun cdv A outer s H vs Q E hr h => ?_)
  · refine ob3_2 h (fun a b xs eRfl _ => ?_); clear h; subst eRfl
    rfl
  · refine ob3_5 h (fun a b xs eRfl ha hb hl q => ?_); clear h; subst eRfl
    refine ⟨_, pss_cons (ps_if (pw_or (pt_not (pt_val (pe_callB call_isi (by rfl) misi PyProof.Rows.boot_isinstance (pa_cons (pv 0) (pa_cons (pe_bltn (v := .ty "list") (by rfl) mlist (by decide +kernel) rfl) pa_nil)))))
        (pw_or1 (pt_cmpR op_ne (pe_callB call_len_seq (by rfl) mlen PySem.boot_len (pa_cons (pv 0) pa_nil)) (pe_callB call_len_seq (by rfl) mlen PySem.boot_len (pa_cons (pv 1) pa_nil)) (nomark _)))).pt (pss_one (ps_ret pe_bl)) pss_nil)
      (pss_cons (ps_for PassesOwn.never rfl (pi_range1 (by rfl) mrange (pa_cons (pe_callB call_len_seq (by rfl) mlen PySem.boot_len (pa_cons (pv 1) pa_nil)) pa_nil)) (pg_name (i := 2) scHeldEq.nd rfl (Or.inl rfl))
        (pss_one (ps_if (pt_cmp (pc_isN (pe_ix ix_list (pv 1) (pv 2) (fun _ _ => rfl))))
          (pss_one (ps_if (pt_cmp (pc_notN (pe_ix ix_list (pv 0) (pv 2) (fun _ _ => rfl)))) (pss_one (ps_ret pe_bl)) pss_nil))
          (pss_one (ps_if (pw_or (pt_not (pt_val (pe_call gW.G hr (by rfl) gW.m gW.F.kp gW.b .nil pass0 (pa_cons (pe_ix ix_list (pv 0) (pv 2) (fun _ _ => rfl)) pa_nil))))
            (pw_or1 (pt_cmpR op_ne (pe_ix ix_list (pv 0) (pv 2) (fun _ _ => rfl)) (pe_ix ix_list (pv 1) (pv 2) (fun _ _ => rfl)) (nomark _)))).pt (pss_one (ps_ret pe_bl)) pss_nil)))))
      (pss_one (ps_ret pe_bl))), ?_⟩
    try dsimp only [cxOf]
    refine (evr rfl (mk4_5 _ _ _ _ rfl (.of (.lst ha)) (by intro z; cases z) k1 (evr rfl (iteF ?_))))
    refine (evr rfl (mk2_2 a _ rfl ⟨.inl (SqL.of ha), evr rfl (mk2_4 b _ rfl (.inl hb) rfl (evr rfl (iteNS rfl ?_)))⟩))
    refine (evr rfl ⟨b, evr rfl ⟨.inl hb, evr rfl ⟨(by rw [List.length_map]; (first | lia | omega)), (by rw [List.length_map]; (first | lia | omega)), ?_⟩⟩⟩)
    have el : ((xs.map oV).length : Int).toNat = xs.length := by rw [List.length_map]; (first | lia | omega)
    rw [el]
    refine for_range (n := xs.length) (fun i σ H2 => H2 = H ∧ ∃ v, σ = [some (.ref a), some (.ref b), v]) ⟨rfl, none, rfl⟩ ?_ ?_
    · rintro i σ H2 hi ⟨rfl, v, rfl⟩
      have h1 := at_o hi
      cases e : xs[i] with
      | none =>
        rw [e] at h1
        refine (evv rfl rfl (ix4 (p := b) hb h1 (evr rfl (iteT ?_))))
        refine (evv rfl rfl (ix4 (p := a) (SqL.of ha) h1 (evr rfl (iteF ?_))))
        exact ⟨rfl, _, rfl⟩
      | some j =>
        rw [e] at h1
        refine (evv rfl rfl (ix4 (p := b) hb h1 (evr rfl (iteF ?_))))
        refine (evv rfl rfl (ix4 (p := a) (SqL.of ha) h1 (evv rfl rfl (iteF ?_))))
        refine (evv rfl rfl (ix4 (p := a) (SqL.of ha) h1 (evv rfl rfl (ix4 (p := b) hb h1 ⟨rfl, evr rfl (iteNS rfl ?_)⟩))))
        exact ⟨rfl, _, rfl⟩
    · rintro σ H2 ⟨rfl, v, rfl⟩
      exact q
end
end Pw

set_option Elab.async false
set_option linter.all false
set_option maxRecDepth 100000
set_option maxHeartbeats 4000000
namespace Pw
open PySem L2
section
variable {P : Program} {w : World} {K : PySem.W.Frag} {mg : Str → Option Value} {base : Heap}
/-! ### the checks -/
theorem scBounds : FnScope ["number"] ["number"] (defScope s_in_bounds) := ⟨rfl, rfl, rfl, by decide +kernel, rfl, by decide +kernel, by decide +kernel⟩
theorem ok_bounds {f : Addr} {fd : FuncData} {t1 t2 : Tok} (F : Fun K "in_bounds" "in_bounds" s_in_bounds f fd) (m1 : mg "LEAST" = some (.int 1 t1)) (m2 : mg "GREATEST" = some (.int 9 t2)) : FnOk P w K mg base CX0 1 f fd ["number"] spBounds := by
  refine F.ok scBounds (fun vs H Q E h => ?_) (fun cdv A outer s H vs Q E hr h => ?_)
  · refine ob1_2 h (fun n eRfl _ => ?_); clear h; subst eRfl
    rfl
  · refine ob1_2 h (fun n eRfl q => ?_); clear h; subst eRfl
    refine ⟨_, pss_one (ps_ret (pe_chain op_le op_le (pe_glob (v := .int 1) (by rfl) m1 ⟨_, rfl⟩) (pv 0) (pe_glob (v := .int 9) (by rfl) m2 ⟨_, rfl⟩))), ?_⟩
    try dsimp only [cxOf]
    refine (evr rfl (ev2 rfl rfl (evr rfl (ite2 (fun h => ?_) (fun h => ?_)))))
    · refine (ev2 rfl rfl ?_)
      rw [h, Bool.true_and] at q
      exact q
    · rw [Bool.eq_false_iff.mpr h, Bool.false_and] at q
      exact q
theorem scCheckWall : FnScope ["sizes", "size"] ["sizes"] (defScope s_check_wall) := ⟨rfl, rfl, rfl, by decide +kernel, rfl, by decide +kernel, by decide +kernel⟩
theorem okSizes_all {sz : List Int} (h : okSizes sz = true) : 1 ≤ sz.length ∧ sz.length ≤ 8 ∧ ∀ z ∈ sz, 1 ≤ z ∧ z ≤ 9 := by
  unfold okSizes at h
  rw [Bool.and_eq_true, Bool.and_eq_true] at h
  obtain ⟨⟨h1, h2⟩, h3⟩ := h
  refine ⟨of_decide_eq_true h1, of_decide_eq_true h2, fun z hz => ?_⟩
  have := List.all_eq_true.mp h3 z hz
  rw [Bool.and_eq_true] at this
  exact ⟨of_decide_eq_true this.1, of_decide_eq_true this.2⟩
theorem okSizes_of {sz : List Int} (h1 : 1 ≤ sz.length) (h2 : sz.length ≤ 8) (h3 : ∀ z ∈ sz, 1 ≤ z ∧ z ≤ 9) : okSizes sz = true := by
  unfold okSizes
  rw [decide_eq_true h1, decide_eq_true h2, Bool.true_and, Bool.true_and]
  exact List.all_eq_true.mpr fun z hz => by rw [decide_eq_true (h3 z hz).1, decide_eq_true (h3 z hz).2]; rfl
theorem ok_checkWall {f fB cNW : Addr} {fd fdB : FuncData} {t1 t2 t3 : Tok} {cWE : Addr} (F : Fun K "check_wall" "check_wall" s_check_wall f fd) (gB : Gd P w K mg base "in_bounds" s_in_bounds ["number"] CX0 1 spBounds fB fdB)
    (mlen : mg "len" = none) (mM : mg "MOST_BOXES" = some (.int 8 t1)) (mL : mg "LEAST" = some (.int 1 t2)) (mGr : mg "GREATEST" = some (.int 9 t3)) (R : Rs K mg cWE cNW "NoWall") : FnOk P w K mg base (CXF P w) 2 f fd ["sizes"] (spCheckWall K cNW) := by
  refine F.okX scCheckWall (fun vs H Q E h => ?_) (fun cdv A outer s H vs Q E hr h => ?_)
  · refine ob2_2 h (fun a sz eRfl _ => ?_); clear h; subst eRfl
    rfl
  · refine ob2_4 h (fun a sz eRfl ha q1 q2 => ?_); clear h; subst eRfl
    have GB' := gB.G.cxf
    refine ⟨_, pss_cons (ps_if (pw_or (pt_cmpR op_lt (pe_callB call_len_seq (by rfl) mlen PySem.boot_len (pa_cons (pv 0) pa_nil)) pe_int (nomark _)) (pw_or1 (pt_cmpR op_gt (pe_callB call_len_seq (by rfl) mlen PySem.boot_len (pa_cons (pv 0) pa_nil)) (pe_glob (v := .int 8) (by rfl) mM ⟨_, rfl⟩) (nomark _)))).pt
        (pss_one (ps_raise PySem.F.excBase_ValueError rfl passM_def rfl R.xc R.xt (by rfl) R.m (pa_cons (pe_fstr (pj_str (k := 100) (by decide +kernel) (pj_int (pe_glob (v := .int 8) (by rfl) mM ⟨_, rfl⟩) (pj_str (k := 100) (by decide +kernel) pj_nil (by decide)) (by decide)) (by decide)) (by decide)) pa_nil))) pss_nil)
      (pss_one (ps_for own_def rfl (pi_list (pv 0)) (pg_name (i := 1) scCheckWall.nd rfl (Or.inl rfl))
        (pss_one (ps_if (pt_not (pt_val (pe_call GB' hr (by rfl) gB.m gB.F.kp gB.b .nil pass_def (pa_cons (pv 1) pa_nil))))
          (pss_one (ps_raise PySem.F.excBase_ValueError rfl passM_def rfl R.xc R.xt (by rfl) R.m (pa_cons (pe_fstr (pj_str (k := 100) (by decide +kernel) (pj_int (pe_glob (v := .int 1) (by rfl) mL ⟨_, rfl⟩) (pj_str (k := 100) (by decide +kernel) (pj_int (pe_glob (v := .int 9) (by rfl) mGr ⟨_, rfl⟩) pj_nil (by decide)) (by decide)) (by decide)) (by decide)) (by decide)) pa_nil))) pss_nil)))), ?_⟩
    try dsimp only [cxOf]
    have em : ((sz.map V.int).length : Int) = (sz.length : Int) := by rw [List.length_map]
    have one : ([V.str Str.empty] : List V).length ≤ sizeLine := by show 1 ≤ sizeLine; decide
    refine (evr rfl ⟨a, evr rfl ⟨.inl ha, ev2 rfl rfl (evr rfl (ite2 (fun h => iteT ?_) (fun h => ?_)))⟩⟩)
    · have h := of_decide_eq_true h
      refine ⟨8, rfl, (by decide), fun out => ⟨one, q2 ?_⟩⟩
      rw [em] at h
      refine Bool.eq_false_iff.mpr fun z => ?_
      have := (okSizes_all z).1
      (first | lia | omega)
    · have h := of_decide_eq_false (Bool.eq_false_iff.mpr h)
      rw [em] at h
      refine (evr rfl ⟨a, evr rfl ⟨.inl ha, ev2 rfl rfl (evr rfl (ite2 (fun h2 => ?_) (fun h2 => ?_)))⟩⟩)
      · have h2 := of_decide_eq_true h2
        refine ⟨8, rfl, (by decide), fun out => ⟨one, q2 ?_⟩⟩
        rw [em] at h2
        refine Bool.eq_false_iff.mpr fun z => ?_
        have := (okSizes_all z).2.1
        (first | lia | omega)
      · have h2 := of_decide_eq_false (Bool.eq_false_iff.mpr h2)
        rw [em] at h2
        refine ⟨_, rfl, a, rfl, ⟨_, ha⟩, for_list (K := K) (a := a) (xs := sz.map V.int) (fun i σ H2 => H2 = H ∧ (∃ v, σ = [some (.ref a), v]) ∧ ∀ (j : Nat) z, j < i → sz[j]? = some z → 1 ≤ z ∧ z ≤ 9)
          ⟨rfl, ⟨none, rfl⟩, fun j z hj => absurd hj (Nat.not_lt_zero _)⟩ (fun i σ H2 _ ⟨e, _⟩ => by rw [e]; exact ha) ?_ ?_⟩
        · rintro i y σ H2 hi ⟨rfl, ⟨v, rfl⟩, hall⟩
          obtain ⟨z, hz, rfl⟩ : ∃ z, sz[i]? = some z ∧ y = V.int z := by
            rw [List.getElem?_map] at hi
            cases e : sz[i]? with
            | none => rw [e] at hi; cases hi
            | some z => rw [e] at hi; exact ⟨z, rfl, (Option.some.inj hi).symm⟩
          have hmem : z ∈ sz := List.mem_of_getElem? hz
          refine (evr rfl ⟨z, rfl, evr rfl ?_⟩)
          by_cases hb : 1 ≤ z ∧ z ≤ 9
          · rw [decide_eq_true hb.1, decide_eq_true hb.2]
            refine iteF ⟨rfl, ⟨_, rfl⟩, fun j z' hj e => ?_⟩
            by_cases hji : j = i
            · subst hji
              rw [hz] at e; cases e
              exact hb
            · exact hall j z' (by (first | lia | omega)) e
          · have hb' : (decide (1 ≤ z) && decide (z ≤ 9)) = false := by
              refine Bool.eq_false_iff.mpr fun z' => hb ?_
              rw [Bool.and_eq_true] at z'
              exact ⟨of_decide_eq_true z'.1, of_decide_eq_true z'.2⟩
            rw [hb']
            refine iteT ⟨1, rfl, (by decide), 9, rfl, (by decide), fun out => ⟨one, q2 ?_⟩⟩
            exact Bool.eq_false_iff.mpr fun z' => hb ((okSizes_all z').2.2 z hmem)
        · rintro σ H2 ⟨rfl, ⟨v, rfl⟩, hall⟩
          refine q1 (okSizes_of (by (first | lia | omega)) (by (first | lia | omega)) fun z hz => ?_)
          obtain ⟨j, hj, e⟩ := List.mem_iff_getElem.mp hz
          exact hall j z (by rw [List.length_map]; exact hj) (by rw [List.getElem?_eq_getElem hj, e])
end
end Pw

set_option Elab.async false
set_option linter.all false
set_option maxRecDepth 100000
set_option maxHeartbeats 4000000
namespace Pw
open PySem L2
section
variable {P : Program} {w : World} {K : PySem.W.Frag} {mg : Str → Option Value} {base : Heap}
theorem wflds_eq (l1 l2 : Addr) (c g : Int) : wflds l1 l2 c g = ([("box_sizes", V.ref l1), ("parcels", V.ref l2), ("came", V.int c), ("nights_gone", V.int g)] : List (Str × V)) := by
  unfold wflds
  simp only [putF, ne1, ne2, ne3, ne4, ne5, ne6, if_false]
theorem boot_listT : bootBuiltins "list" = some (.type "list") := by decide +kernel
theorem scInit : FnScope ["self", "sizes"] ["self", "sizes"] (defScope s_Wall___init__) := ⟨rfl, rfl, rfl, by decide +kernel, rfl, by decide +kernel, by decide +kernel⟩
theorem ok_init {f fC cW cP cNW : Addr} {fd fdC : FuncData} (F : Fun K "__init__" "Wall.__init__" s_Wall___init__ f fd) (T : WTxt K cW) (gC : Gd P w K mg base "check_wall" s_check_wall ["sizes"] (CXF P w) 2 (spCheckWall K cNW) fC fdC)
    (mlist : mg "list" = none) : FnOk P w K mg base (CXF P w) 3 f fd ["self", "sizes"] (spInit K cW cP cNW) := by
  refine F.okX scInit (fun vs H Q E h => ?_) (fun cdv A outer s H vs Q E hr h => ?_)
  · refine ob4_2 h (fun p dx a sz eRfl _ => ?_); clear h; subst eRfl
    rfl
  · refine ob4_5 h (fun p dx a sz eRfl hp ha q1 q2 => ?_); clear h; subst eRfl
    refine ⟨_, pss_cons (ps_expr (pe_call gC.G hr (by rfl) gC.m gC.F.kp gC.b .nil pass_def (pa_cons (pv 1) pa_nil)))
      (pss_cons (ps_fld (pv 0) (pe_callTy call_list_of (by rfl) mlist boot_listT (pa_cons (pv 1) pa_nil)) rfl)
      (pss_cons (ps_fld (pv 0) (pe_comp (N := ["size"]) (src := [none]) rfl (blk (osc := defScope s_Wall___init__) (oN := ["self", "sizes"]) rfl rfl (by decide +kernel)) (pi_list (pv 1))
        (fun C s₀ H₀ ex pn => pg_name (i := 0) (show (["size"] : List Str).Nodup by decide +kernel) rfl (Or.inl rfl) (Or.inr rfl)) (fun C s₀ H₀ ex pn => pts_nil) (fun C s₀ H₀ ex pn => pe_non)) rfl)
      (pss_cons (ps_fld (pv 0) pe_int rfl)
      (pss_one (ps_fld (pv 0) pe_int rfl))))), ?_⟩
    try dsimp only [cxOf]
    refine (evr rfl (mk2_4 a sz rfl ha (fun hok => ?_) (fun hno => q2 hno)))
    -- box_sizes
    refine (evr rfl (mk2_3 a _ rfl (.inl ha) (fun l1 hl1 => (evr rfl ⟨p, cW, dx, [], rfl, (by rw [upd_ne (ne_of_none hp hl1)]; exact hp), T.cl, T.n1, (by show 0 < 1000; decide), ?_⟩))))
    have npl1 : p ≠ l1 := ne_of_none hp hl1
    have ha1 : SqL K (upd (upd H l1 (.lst (sz.map V.int))) p (.ins cW dx (putF "box_sizes" (.ref l1) []))) a (sz.map V.int) := by
      rcases ha with (h | ⟨o, h⟩) | h
      · have nap : a ≠ p := ne_of h hp (by intro z; cases z)
        exact .inl (.inl (by rw [upd_ne nap, upd_ne (ne_of_none h hl1)]; exact h))
      · have nap : a ≠ p := ne_of h hp (by intro z; cases z)
        exact .inl (.inr ⟨o, by rw [upd_ne nap, upd_ne (ne_of_none h hl1)]; exact h⟩)
      · exact .inr h
    refine (evr rfl ⟨a, rfl, ⟨_, ha1⟩, fun l2 hl2 => ?_⟩)
    have n2p : l2 ≠ p := fun z => by rw [z, upd_same] at hl2; cases hl2
    have n21 : l2 ≠ l1 := fun z => by rw [upd_ne n2p, z, upd_same] at hl2; cases hl2
    have hl2' : H l2 = none := by rw [upd_ne n2p, upd_ne n21] at hl2; exact hl2
    have hsz : sz.length ≤ 8 := (okSizes_all hok).2.1
    have hline : (8 : Nat) < sizeLine := by decide
    have z0 : ([] : List (Str × V)).length = 0 := rfl
    refine comp_list (K := K) (a := a) (src := [none]) (xs := sz.map V.int) (fun i σ1 H2 => (∃ v, σ1 = [v]) ∧ H2 = upd (upd (upd H l1 (.lst (sz.map V.int))) p (.ins cW dx (putF "box_sizes" (.ref l1) []))) l2 (.lst (List.replicate i .non)) ∧ i ≤ sz.length) ⟨⟨none, rfl⟩, rfl, Nat.zero_le _⟩ ?_ ?_ ?_
    · rintro i σ1 H2 _ ⟨_, rfl, _⟩
      rcases ha1 with (h | ⟨o, h⟩) | h
      · exact .inl (.inl (by rw [upd_ne (ne_of_none h hl2)]; exact h))
      · exact .inl (.inr ⟨o, by rw [upd_ne (ne_of_none h hl2)]; exact h⟩)
      · exact .inr h
    · rintro i x σ1 H2 hx ⟨⟨v, rfl⟩, rfl, hi⟩
      have hil : i < sz.length := by have := (List.getElem?_eq_some_iff.mp hx).1; rw [List.length_map] at this; exact this
      refine gN ?_
      refine tT ?_
      refine ⟨_, upd_same, ?_, ⟨_, rfl⟩, ?_, hil⟩
      · rw [List.length_replicate]; (first | lia | omega)
      · rw [upd_upd, ← List.replicate_succ']
    · rintro σ1 H2 ⟨⟨v, rfl⟩, rfl, hi⟩
      rw [List.length_map]
      refine (evr rfl (mk4_6 p cW dx _ rfl (by rw [upd_ne (Ne.symm n2p)]; exact upd_same) T.cl T.n2 (by show 1 < 1000; decide) ?_))
      refine (evr rfl (mk4_6 p cW dx _ rfl upd_same T.cl T.n3 (by have := length_putF "parcels" (V.ref l2) (putF "box_sizes" (V.ref l1) []); have := length_putF "box_sizes" (V.ref l1) []; (first | lia | omega)) ?_))
      refine (evr rfl (mk4_6 p cW dx _ rfl upd_same T.cl T.n4 (by have := length_putF "came" (V.int 0) (putF "parcels" (V.ref l2) (putF "box_sizes" (V.ref l1) [])); have := length_putF "parcels" (V.ref l2) (putF "box_sizes" (V.ref l1) []); have := length_putF "box_sizes" (V.ref l1) []; (first | lia | omega)) ?_))
      refine q1 hok l1 l2 _ hl1 hl2' ⟨⟨dx, upd_same⟩, ?_, ?_, fun q hq => ?_, ?_, hsz, Ne.symm n21, fun q hq => by have := List.eq_of_mem_replicate hq; cases this⟩ fun b o e hb => ?_
      · rw [upd_ne (Ne.symm npl1), upd_ne (Ne.symm npl1), upd_ne (Ne.symm npl1), upd_ne (Ne.symm n21), upd_ne (Ne.symm npl1), upd_same]
      · rw [upd_ne n2p, upd_ne n2p, upd_ne n2p, upd_same, List.map_replicate]; rfl
      · have := List.eq_of_mem_replicate hq; cases this
      · rw [List.length_replicate]
      · rw [upd_ne hb, upd_ne hb, upd_ne hb, upd_ne (ne_of_none e hl2'), upd_ne hb, upd_ne (ne_of_none e hl1)]
        exact e
end
end Pw

set_option Elab.async false
set_option linter.all false
set_option maxRecDepth 100000
set_option maxHeartbeats 4000000
namespace Pw
open PySem L2
section
variable {P : Program} {w : World} {K : PySem.W.Frag} {mg : Str → Option Value} {base : Heap}
theorem same_upd {H : Hp} {a : Addr} {o : HO} (h : H a = none) : Same H (upd H a o) := fun b u e => by rw [upd_ne (ne_of_none e h)]; exact e
theorem same_put {H H1 : Hp} {a : Addr} {o : HO} (s : Same H H1) (h : H a = none) : Same H (upd H1 a o) := fun b u e => by rw [upd_ne (ne_of_none e h)]; exact s b u e
theorem WallAt.put {cW cP : Addr} {H : Hp} {p l1 l2 b : Addr} {o : HO} {w : Wl} (W : WallAt cW cP H p l1 l2 w) (hp : p ≠ b) (h1 : l1 ≠ b) (h2 : l2 ≠ b) (hq : ∀ q, some q ∈ w.ps → q.ad ≠ b) : WallAt cW cP (upd H b o) p l1 l2 w :=
  ⟨let ⟨dx, h⟩ := W.ob; ⟨dx, by rw [upd_ne hp]; exact h⟩, by rw [upd_ne h1]; exact W.s1, by rw [upd_ne h2]; exact W.s2, fun q hq' => let ⟨dx, h⟩ := W.pc q hq'; ⟨dx, by rw [upd_ne (hq q hq')]; exact h⟩, W.len, W.few, W.ne, W.pn⟩
theorem pf_num (n z l : Int) : (pflds n z l).lookup ("number" : Str) = some (.int n) := by
  unfold pflds; rw [lookup_putF, if_neg (by decide +kernel), lookup_putF, if_neg (by decide +kernel), lookup_putF, if_pos rfl]
theorem take_map_snoc {α β : Type} {f : α → β} {xs : List α} {i : Nat} {x : α} (h : xs[i]? = some x) : (xs.take i).map f ++ [f x] = (xs.take (i + 1)).map f := by
  have hi : i < xs.length := (List.getElem?_eq_some_iff.mp h).1
  have e : xs[i] = x := (List.getElem?_eq_some_iff.mp h).2
  rw [List.take_succ_eq_append_getElem hi, List.map_append, e]
  rfl
def freeTo (ps : List (Option Pc)) (n : Nat) : List Int := ((List.range n).filter fun i => (ps[i]?.join).isNone).map (fun i : Nat => (i : Int))
theorem freeTo_succ (ps : List (Option Pc)) (n : Nat) : freeTo ps (n + 1) = freeTo ps n ++ (if (ps[n]?.join).isNone then [(n : Int)] else []) := by
  unfold freeTo
  rw [List.range_succ, List.filter_append, List.map_append]
  congr 1
  by_cases h : (ps[n]?.join).isNone = true
  · simp [h]
  · simp [h]
theorem freeTo_len (ps : List (Option Pc)) (n : Nat) : (freeTo ps n).length ≤ n := by
  unfold freeTo
  rw [List.length_map]
  exact Nat.le_trans (List.length_filter_le _ _) (by rw [List.length_range]; exact Nat.le_refl _)
theorem scSizes : FnScope ["self"] ["self"] (defScope s_Wall_sizes) := ⟨rfl, rfl, rfl, by decide +kernel, rfl, by decide +kernel, by decide +kernel⟩
theorem ok_sizes {f cW cP : Addr} {fd : FuncData} (F : Fun K "sizes" "Wall.sizes" s_Wall_sizes f fd) (T : WTxt K cW) (mlist : mg "list" = none) : FnOk P w K mg base CX0 1 f fd ["self"] (spSizes cW cP) := by
  refine F.ok scSizes (fun vs H Q E h => ?_) (fun cdv A outer s H vs Q E hr h => ?_)
  · refine ob4_2 h (fun p l1 l2 w eRfl _ => ?_); clear h; subst eRfl
    rfl
  · refine ob4_3 h (fun p l1 l2 w eRfl W q => ?_); clear h; subst eRfl
    obtain ⟨dx, ho⟩ := W.ob
    refine ⟨_, pss_one (ps_ret (pe_callTy call_list_of (by rfl) mlist boot_listT (pa_cons (pe_fld (pv 0) rfl) pa_nil))), ?_⟩
    try dsimp only [cxOf]
    exact (evr rfl (mk5_6 p cW dx _ _ rfl ho T.cl T.n1 (wf_sizes _ _ _ _) (mk2_3 l1 _ rfl (.inl (SqL.of W.s1)) (fun l hl => q l _ hl (same_upd hl) upd_same))))
theorem scDay : FnScope ["self"] ["self"] (defScope s_Wall_day) := ⟨rfl, rfl, rfl, by decide +kernel, rfl, by decide +kernel, by decide +kernel⟩
theorem ok_day {f cW cP : Addr} {fd : FuncData} (F : Fun K "day" "Wall.day" s_Wall_day f fd) (T : WTxt K cW) : FnOk P w K mg base CX0 1 f fd ["self"] (spDay cW cP) := by
  refine F.ok scDay (fun vs H Q E h => ?_) (fun cdv A outer s H vs Q E hr h => ?_)
  · refine ob4_2 h (fun p l1 l2 w eRfl _ => ?_); clear h; subst eRfl
    rfl
  · refine ob4_3 h (fun p l1 l2 w eRfl W q => ?_); clear h; subst eRfl
    obtain ⟨dx, ho⟩ := W.ob
    exact ⟨_, pss_one (ps_ret (pe_fld (pv 0) rfl)), evr rfl (mk5_6 p cW dx _ _ rfl ho T.cl T.n4 (wf_gone _ _ _ _) q)⟩
theorem scHeld : FnScope ["self"] ["self"] (defScope s_Wall_held) := ⟨rfl, rfl, rfl, by decide +kernel, rfl, by decide +kernel, by decide +kernel⟩
theorem ok_held {f cW cP : Addr} {fd : FuncData} (F : Fun K "held" "Wall.held" s_Wall_held f fd) (T : WTxt K cW) (TP : PTxt K cP) : FnOk P w K mg base CX0 1 f fd ["self"] (spHeld cW cP) := by
  refine F.ok scHeld (fun vs H Q E h => ?_) (fun cdv A outer s H vs Q E hr h => ?_)
  · refine ob4_2 h (fun p l1 l2 w eRfl _ => ?_); clear h; subst eRfl
    rfl
  · refine ob4_3 h (fun p l1 l2 w eRfl W q => ?_); clear h; subst eRfl
    obtain ⟨dx, ho⟩ := W.ob
    refine ⟨_, pss_one (ps_ret (pe_comp (N := ["parcel"]) (src := [none]) rfl (blk (osc := defScope s_Wall_held) (oN := ["self"]) rfl rfl (by decide +kernel)) (pi_list (pe_fld (pv 0) rfl))
      (fun C s₀ H₀ ex pn => pg_name (i := 0) (show (["parcel"] : List Str).Nodup by decide +kernel) rfl (Or.inl rfl) (Or.inr rfl)) (fun C s₀ H₀ ex pn => pts_nil)
      (fun C s₀ H₀ ex pn => pe_ifExp (pt_cmp (pc_isN (pv 0))) pe_non (pe_fldB (K := K) rfl (pv 0) rfl)))), ?_⟩
    try dsimp only [cxOf]
    refine ⟨_, rfl, p, cW, dx, _, _, rfl, ho, T.cl, T.n2, wf_parcels _ _ _ _, l2, rfl, ⟨_, SqL.of W.s2⟩, fun D hD => ?_⟩
    have hlen : w.ps.length ≤ 8 := by rw [W.len]; exact W.few
    have hline : (8 : Nat) < sizeLine := by decide
    refine comp_list (K := K) (a := l2) (src := [none]) (xs := w.ps.map pV) (fun i σ1 H2 => (∃ v, σ1 = [v]) ∧ H2 = upd H D (.lst ((w.ps.take i).map fun o => oV (o.map (·.num)))) ∧ i ≤ w.ps.length) ⟨⟨none, rfl⟩, by rw [List.take_zero]; rfl, Nat.zero_le _⟩ ?_ ?_ ?_
    · rintro i σ1 H2 _ ⟨_, rfl, _⟩
      exact SqL.of (by rw [upd_ne (ne_of_none W.s2 hD)]; exact W.s2)
    · rintro i x σ1 H2 hx ⟨⟨v, rfl⟩, rfl, hi⟩
      obtain ⟨o, ho', rfl⟩ : ∃ o, w.ps[i]? = some o ∧ x = pV o := by
        rw [List.getElem?_map] at hx
        cases e : w.ps[i]? with
        | none => rw [e] at hx; cases hx
        | some z => rw [e] at hx; exact ⟨z, rfl, (Option.some.inj hx).symm⟩
      have hil : i < w.ps.length := (List.getElem?_eq_some_iff.mp ho').1
      refine gN ?_
      refine tT ?_
      have fin : ∀ y, y = oV (o.map (·.num)) → ∃ zs, (upd H D (.lst ((w.ps.take i).map fun o => oV (o.map (·.num))))) D = some (.lst zs) ∧ zs.length < sizeLine ∧ (∃ v_1, [some (pV o)] = [v_1]) ∧ upd (upd H D (.lst ((w.ps.take i).map fun o => oV (o.map (·.num))))) D (.lst (zs ++ [y])) = upd H D (.lst ((w.ps.take (i + 1)).map fun o => oV (o.map (·.num)))) ∧ i + 1 ≤ w.ps.length := by
        rintro y rfl
        refine ⟨_, upd_same, by rw [List.length_map, List.length_take]; (first | lia | omega), ⟨_, rfl⟩, ?_, hil⟩
        rw [upd_upd, take_map_snoc (f := fun o : Option Pc => oV (o.map (·.num))) ho']
      cases o with
      | none => exact (evv rfl rfl (iteT (fin _ rfl)))
      | some pc =>
        obtain ⟨dp, hpc⟩ := W.pc pc (List.mem_of_getElem? ho')
        refine (evv rfl rfl (iteF (evr rfl (mk5_6 pc.ad cP dp _ _ rfl (by rw [upd_ne (ne_of_none hpc hD)]; exact hpc) TP.cl TP.n1 (pf_num _ _ _) (fin _ rfl)))))
    · rintro σ1 H2 ⟨⟨v, rfl⟩, rfl, hi⟩
      refine q D _ hD (same_upd hD) ?_
      rw [upd_same, List.length_map, List.take_length]
      unfold heldOf
      rw [List.map_map]
      rfl
theorem scFree : FnScope ["self"] ["self"] (defScope s_Wall_free) := ⟨rfl, rfl, rfl, by decide +kernel, rfl, by decide +kernel, by decide +kernel⟩
theorem ok_free {f cW cP : Addr} {fd : FuncData} (F : Fun K "free" "Wall.free" s_Wall_free f fd) (T : WTxt K cW) (menum : mg "enumerate" = none) : FnOk P w K mg base CX0 1 f fd ["self"] (spFree cW cP) := by
  refine F.ok scFree (fun vs H Q E h => ?_) (fun cdv A outer s H vs Q E hr h => ?_)
  · refine ob4_2 h (fun p l1 l2 w eRfl _ => ?_); clear h; subst eRfl
    rfl
  · refine ob4_3 h (fun p l1 l2 w eRfl W q => ?_); clear h; subst eRfl
    obtain ⟨dx, ho⟩ := W.ob
    refine ⟨_, pss_one (ps_ret (pe_comp (N := ["box", "parcel"]) (src := [none, none]) rfl (blk (osc := defScope s_Wall_free) (oN := ["self"]) rfl rfl (by decide +kernel)) (pi_enum (by rfl) menum (pa_cons (pe_fld (pv 0) rfl) pa_nil))
      (fun C s₀ H₀ ex pn => pg_tupB (K := K) (n := 2) rfl rfl (pgs_cons (pg_name (i := 0) (show (["box", "parcel"] : List Str).Nodup by decide +kernel) rfl (Or.inl rfl) (Or.inr rfl)) (pgs_cons (pg_name (i := 1) (show (["box", "parcel"] : List Str).Nodup by decide +kernel) rfl (Or.inl rfl) (Or.inr rfl)) pgs_nil)) rfl rfl)
      (fun C s₀ H₀ ex pn => pts_one (pt_cmp (pc_isN (pv 1)))) (fun C s₀ H₀ ex pn => pv 0))), ?_⟩
    try dsimp only [cxOf]
    refine ⟨_, rfl, p, cW, dx, _, _, rfl, ho, T.cl, T.n2, wf_parcels _ _ _ _, l2, rfl, ⟨_, SqL.of W.s2⟩, fun D hD => ?_⟩
    have hlen : w.ps.length ≤ 8 := by rw [W.len]; exact W.few
    have hline : (8 : Nat) < sizeLine := by decide
    refine comp_enum (K := K) (a := l2) (src := [none, none]) (xs := w.ps.map pV) (fun i σ1 H2 => (∃ u v, σ1 = [u, v]) ∧ Same H H2 ∧ H2 D = some (.lst ((freeTo w.ps i).map V.int)) ∧ i ≤ w.ps.length) ⟨⟨none, none, rfl⟩, same_upd hD, upd_same, Nat.zero_le _⟩ ?_ ?_ ?_
    · rintro i σ1 H2 _ ⟨_, sm, _⟩
      exact SqL.of (sm _ _ W.s2)
    · rintro i x pp σ1 H2 hx hpp ⟨⟨u, v, rfl⟩, sm, hD2, hi⟩
      obtain ⟨o, ho', rfl⟩ : ∃ o, w.ps[i]? = some o ∧ x = pV o := by
        rw [List.getElem?_map] at hx
        cases e : w.ps[i]? with
        | none => rw [e] at hx; cases hx
        | some z => rw [e] at hx; exact ⟨z, rfl, (Option.some.inj hx).symm⟩
      have hil : i < w.ps.length := (List.getElem?_eq_some_iff.mp ho').1
      have nDp : D ≠ pp := ne_of_none hD2 hpp
      have sm2 : Same H (upd H2 pp (.tup [.int i, pV o])) := same_put sm (sm.free hpp)
      have hD3 : (upd H2 pp (.tup [.int i, pV o])) D = some (.lst ((freeTo w.ps i).map V.int)) := by rw [upd_ne nDp]; exact hD2
      have hfl := freeTo_len w.ps i
      refine ⟨pp, _, rfl, SqT.of upd_same, rfl, _, _, rfl, _, _, rfl, rfl, ?_⟩
      cases o with
      | none =>
        refine (evv rfl rfl (iteT (evr rfl ⟨_, hD3, (by rw [List.length_map]; (first | lia | omega)), ⟨_, _, rfl⟩, same_put sm2 hD, ?_, hil⟩)))
        rw [upd_same, freeTo_succ, ho', List.map_append]
        rfl
      | some pc =>
        refine (evv rfl rfl (iteF ⟨⟨_, _, rfl⟩, sm2, ?_, hil⟩))
        rw [hD3, freeTo_succ, ho']
        simp
    · rintro σ1 H2 ⟨⟨u, v, rfl⟩, sm, hD2, hi⟩
      refine q D _ hD sm ?_
      rw [hD2, List.length_map]
      rfl
end
end Pw

set_option Elab.async false
set_option linter.all false
set_option maxRecDepth 100000
set_option maxHeartbeats 4000000
namespace Pw
open PySem L2
section
variable {P : Program} {w : World} {K : PySem.W.Frag} {mg : Str → Option Value} {base : Heap}
theorem free_eq (w : Wl) : freeOf w = ((List.range w.ps.length).filter fun i => ((heldOf w)[i]?.join).isNone).map (fun i : Nat => (i : Int)) := by
  unfold freeOf
  congr 1
  refine List.filter_congr fun i hi => ?_
  unfold heldOf
  rw [List.getElem?_map]
  cases w.ps[i]? with
  | none => rfl
  | some o => cases o <;> rfl
def freeL (hs : List (Option Int)) (n : Nat) : List Int := ((List.range n).filter fun i => (hs[i]?.join).isNone).map (fun i : Nat => (i : Int))
theorem freeL_succ (hs : List (Option Int)) (n : Nat) : freeL hs (n + 1) = freeL hs n ++ (if (hs[n]?.join).isNone then [(n : Int)] else []) := by
  unfold freeL
  rw [List.range_succ, List.filter_append, List.map_append]
  congr 1
  by_cases h : (hs[n]?.join).isNone = true
  · simp [h]
  · simp [h]
theorem freeL_len (hs : List (Option Int)) (n : Nat) : (freeL hs n).length ≤ n := by
  unfold freeL
  rw [List.length_map]
  exact Nat.le_trans (List.length_filter_le _ _) (by rw [List.length_range]; exact Nat.le_refl _)
theorem scStands : FnScope ["side", "sizes", "held", "day", "free", "told"] ["side", "sizes", "held", "day"] (defScope s__law_stands) := ⟨rfl, rfl, rfl, by decide +kernel, rfl, by decide +kernel, by decide +kernel⟩
theorem ok_stands {f fR fH fW f1 f2 f3 f4 cW cP : Addr} {fd fdR fdH fdW fd1 fd2 fd3 fd4 : FuncData} (F : Fun K "_law_stands" "_law_stands" s__law_stands f fd) (T : WTxt K cW)
    (gR : Gd P w K mg base "_law_row" s__law_row ["found", "due"] CX0 2 (spRow K) fR fdR) (gH : Gd P w K mg base "_law_held" s__law_held ["found", "due"] CX0 2 (spHeldEq K) fH fdH) (gW : Gd P w K mg base "_law_whole" s__law_whole ["found"] CX0 1 spWhole fW fdW)
    (m1 : Md P w K mg base cW "sizes" ["self"] CX0 1 (spSizes cW cP) f1 fd1) (m2 : Md P w K mg base cW "held" ["self"] CX0 1 (spHeld cW cP) f2 fd2) (m3 : Md P w K mg base cW "free" ["self"] CX0 1 (spFree cW cP) f3 fd3) (m4 : Md P w K mg base cW "day" ["self"] CX0 1 (spDay cW cP) f4 fd4)
    (mlen : mg "len" = none) (mrange : mg "range" = none) : FnOk P w K mg base CX0 3 f fd ["side", "sizes", "held", "day"] (spStands K cW cP) := by
  refine F.ok scStands (fun vs H Q E h => ?_) (fun cdv A outer s H vs Q E hr h => ?_)
  · refine ob6_2 h (fun p l1 l2 a b w eRfl _ => ?_); clear h; subst eRfl
    rfl
  · refine ob6_5 h (fun p l1 l2 a b w eRfl W ha hb q => ?_); clear h; subst eRfl
    have hr1 : Room 1 _ := hr.mono (by decide)
    refine ⟨_, pss_cons (ps_setC (i := 4) scStands.nd rfl rfl rfl (N := ["box", "held"]) (src := [none, some 2]) (blk (osc := defScope s__law_stands) (oN := ["side", "sizes", "held", "day", "free", "told"]) rfl rfl (by decide +kernel))
        (pi_range1 (by rfl) mrange (pa_cons (pe_callB call_len_seq (by rfl) mlen PySem.boot_len (pa_cons (pv 1) pa_nil)) pa_nil))
        (fun C s₀ H₀ ex pn => pg_name (i := 0) (show (["box", "held"] : List Str).Nodup by decide +kernel) rfl (Or.inl rfl) (Or.inr rfl))
        (fun C s₀ H₀ ex pn => pts_one (pt_cmp (pc_isN (pe_ixB (K := K) rfl (pv 1) (pv 0) (fun _ _ => rfl))))) (fun C s₀ H₀ ex pn => pv 0))
      (pss_cons (ps_if (pw_or (pt_not (pt_val (pe_call gR.G hr (by rfl) gR.m gR.F.kp gR.b .nil pass0 (pa_cons (pe_meth0 (pv 0) T.cl m1.me m1.G hr1 m1.b .nil pass0) (pa_cons (pv 1) pa_nil)))))
          (pw_or (pt_not (pt_val (pe_call gH.G hr (by rfl) gH.m gH.F.kp gH.b .nil pass0 (pa_cons (pe_meth0 (pv 0) T.cl m2.me m2.G hr1 m2.b .nil pass0) (pa_cons (pv 2) pa_nil)))))
          (pw_or1 (pt_not (pt_val (pe_call gR.G hr (by rfl) gR.m gR.F.kp gR.b .nil pass0 (pa_cons (pe_meth0 (pv 0) T.cl m3.me m3.G hr1 m3.b .nil pass0) (pa_cons (pv 4) pa_nil)))))))).pt (pss_one (ps_ret pe_bl)) pss_nil)
      (pss_cons (ps_set (i := 5) scStands.nd rfl (Or.inl rfl) (pe_meth0 (pv 0) T.cl m4.me m4.G hr1 m4.b .nil pass0))
      (pss_one (ps_ret (pe_and (pe_call gW.G hr1 (by rfl) gW.m gW.F.kp gW.b .nil pass0 (pa_cons (pv 5) pa_nil)) (pe_one (pe_cmpR op_eq (pv 5) (pv 3) (nomark _)))))))), ?_⟩
    try dsimp only [cxOf]
    have hlen : w.ps.length ≤ 8 := by rw [W.len]; exact W.few
    have hhl : (heldOf w).length = w.ps.length := by unfold heldOf; rw [List.length_map]
    have hline : (8 : Nat) < sizeLine := by decide
    refine (evr rfl ⟨a, evr rfl ⟨.inl ha, evr rfl ⟨(by rw [List.length_map]; have := W.few; (first | lia | omega)), (by rw [List.length_map]; have := W.few; (first | lia | omega)), fun D hD => ?_⟩⟩⟩)
    have el : ((w.sz.map V.int).length : Int).toNat = w.ps.length := by rw [List.length_map, W.len]; (first | lia | omega)
    rw [el]
    refine abs3k (fun i σ1 H2 => (∃ v, σ1 = [v, some (.ref b)]) ∧ H2 = upd H D (.lst ((freeL (heldOf w) i).map V.int)) ∧ i ≤ w.ps.length) fun Pv hv => ?_
    refine comp_range (lo := 0) (n := w.ps.length) (src := [none, some 2]) Pv ((hv _ _ _).mpr ⟨⟨none, rfl⟩, rfl, Nat.zero_le _⟩) ?_ ?_
    · intro i σ1 H2 hi hP
      obtain ⟨⟨v, rfl⟩, rfl, _⟩ := (hv _ _ _).mp hP
      have hi' : i < (heldOf w).length := by rw [hhl]; exact hi
      have hbD : SqL K (upd H D (.lst ((freeL (heldOf w) i).map V.int))) b ((heldOf w).map oV) := (same_upd hD).seq hb
      have hfl := freeL_len (heldOf w) i
      refine gN ?_
      have hat := at_o hi'
      have hx : (heldOf w)[i]? = some (heldOf w)[i] := List.getElem?_eq_getElem hi'
      cases e : (heldOf w)[i] with
      | none =>
        rw [e] at hat hx
        refine (evv rfl rfl (ix4 (p := b) hbD hat (evr rfl (iteT (evr rfl ⟨_, upd_same, (by rw [List.length_map]; (first | lia | omega)), (hv _ _ _).mpr ⟨⟨_, rfl⟩, ?_, hi⟩⟩)))))
        rw [upd_upd, freeL_succ, hx, List.map_append]
        simp
      | some j =>
        rw [e] at hat hx
        refine (evv rfl rfl (ix4 (p := b) hbD hat (evr rfl (iteF ((hv _ _ _).mpr ⟨⟨_, rfl⟩, ?_, hi⟩)))))
        rw [freeL_succ, hx]
        simp
    · intro σ1 H2 hP
      obtain ⟨⟨v, rfl⟩, rfl, _⟩ := (hv _ _ _).mp hP
      have s0 : Same H (upd H D (.lst ((freeL (heldOf w) w.ps.length).map V.int))) := same_upd hD
      have W0 := W.mono s0
      have ho0 := W0.ob.choose_spec
      have hfr : freeL (heldOf w) w.ps.length = freeOf w := (free_eq w).symm
      -- the three looks
      refine (evr rfl ⟨p, ex2 _ _ ⟨rfl, ho0, wf_no _ _ _ _ (by decide +kernel) (by decide +kernel) (by decide +kernel) (by decide +kernel), ex4 p l1 l2 w ⟨rfl, W0, fun r1 H3 n1 s1 h1 => ?_⟩⟩⟩)
      refine (evr rfl (mk3_4 r1 a w.sz rfl h1 ((s0.trans s1).seq ha) ⟨(by have := W.few; (first | lia | omega)), evr rfl (iteF ?_)⟩))
      have W3 := W0.mono s1
      have ho3 := W3.ob.choose_spec
      refine (evr rfl ⟨p, ex2 _ _ ⟨rfl, ho3, wf_no _ _ _ _ (by decide +kernel) (by decide +kernel) (by decide +kernel) (by decide +kernel), ex4 p l1 l2 w ⟨rfl, W3, fun r2 H4 n2 s2 h2 => ?_⟩⟩⟩)
      refine (evr rfl (mk3_4 r2 b (heldOf w) rfl h2 (((s0.trans s1).trans s2).seq hb) ⟨(by (first | lia | omega)), evr rfl (iteF ?_)⟩))
      have W4 := W3.mono s2
      have ho4 := W4.ob.choose_spec
      refine (evr rfl ⟨p, ex2 _ _ ⟨rfl, ho4, wf_no _ _ _ _ (by decide +kernel) (by decide +kernel) (by decide +kernel) (by decide +kernel), ex4 p l1 l2 w ⟨rfl, W4, fun r3 H5 n3 s3 h3 => ?_⟩⟩⟩)
      refine (evr rfl (mk3_4 r3 D (freeOf w) rfl h3 (SqL.of (s3 _ _ (s2 _ _ (s1 _ _ (by rw [upd_same, hfr]))))) ⟨(by have := freeL_len (heldOf w) w.ps.length; rw [hfr] at this; (first | lia | omega)), evr rfl (iteF ?_)⟩))
      have W5 := W4.mono s3
      have ho5 := W5.ob.choose_spec
      refine (evr rfl ⟨p, ex2 _ _ ⟨rfl, ho5, wf_no _ _ _ _ (by decide +kernel) (by decide +kernel) (by decide +kernel) (by decide +kernel), ex4 p l1 l2 w ⟨rfl, W5, ?_⟩⟩⟩)
      refine (evr rfl ⟨w.gone, rfl, evr rfl (iteT (evv rfl rfl ⟨rfl, ?_⟩))⟩)
      have qq := q H5 (((s0.trans s1).trans s2).trans s3)
      rw [decide_eq_true rfl]
      exact qq
end
end Pw

set_option Elab.async false
set_option linter.all false
set_option maxRecDepth 100000
set_option maxHeartbeats 4000000
namespace Pw
open PySem L2
section
variable {P : Program} {w : World} {K : PySem.W.Frag} {mg : Str → Option Value} {base : Heap}
/-- _law_sizes_by(script, base): sizes of a wall -/
def spSizesBy (K : PySem.W.Frag) : Sp := fun vs H Q _ => ∃ (a : Addr) (ns : List Int) (b : Int), vs = [.ref a, .int b] ∧ SqL K H a (ns.map V.int) ∧ ns.length ≤ 63 ∧ 0 ≤ b ∧ b < 10000 ∧ ∀ sz, okSizes sz = true → tells H (sz.map V.int) Q
theorem three_at {d x y z : Int} (h1 : 0 ≤ d) (h2 : d < 3) : ∃ v, atI [V.int x, V.int y, V.int z] d = some (.int v) ∧ (v = x ∨ v = y ∨ v = z) := by
  have : d = ((0 : Nat) : Int) ∨ d = ((1 : Nat) : Int) ∨ d = ((2 : Nat) : Int) := by (first | lia | omega)
  rcases this with h | h | h
  · exact ⟨x, by rw [h]; exact atI_nat (j := 0) rfl, .inl rfl⟩
  · exact ⟨y, by rw [h]; exact atI_nat (j := 1) rfl, .inr (.inl rfl)⟩
  · exact ⟨z, by rw [h]; exact atI_nat (j := 2) rfl, .inr (.inr rfl)⟩
theorem scSB : FnScope ["script", "base", "many", "top"] ["script", "base"] (defScope s__law_sizes_by) := ⟨rfl, rfl, rfl, by decide +kernel, rfl, by decide +kernel, by decide +kernel⟩
theorem ok_sizesBy {f fD : Addr} {fd fdD : FuncData} (F : Fun K "_law_sizes_by" "_law_sizes_by" s__law_sizes_by f fd) (gD : Gd P w K mg base "_law_drawn" s__law_drawn ["script", "k", "many"] CX0 1 (spDrawn K) fD fdD) (mrange : mg "range" = none) : FnOk P w K mg base CX0 2 f fd ["script", "base"] (spSizesBy K) := by
  refine F.ok scSB (fun vs H Q E h => ?_) (fun cdv A outer s H vs Q E hr h => ?_)
  · refine ob3_2 h (fun a ns b eRfl _ => ?_); clear h; subst eRfl
    rfl
  · refine ob3_6 h (fun a ns b eRfl hS hl hb0 hb1 q => ?_); clear h; subst eRfl
    have hr1 : Room 1 _ := hr
    refine ⟨_, (pss_cons (ps_set (i := 2) scSB.nd rfl (Or.inl rfl) (pe_op op_add pe_int (pe_call gD.G hr1 (by rfl) gD.m gD.F.kp gD.b .nil pass0 (pa_cons (pv 0) (pa_cons (pv 1) (pa_cons pe_int pa_nil))))))
      (pss_cons (ps_set (i := 3) scSB.nd rfl (Or.inr rfl) (pe_ix ix_list (pe_lst (pa_cons pe_int (pa_cons pe_int (pa_cons pe_int pa_nil)))) (pe_call gD.G hr1 (by rfl) gD.m gD.F.kp gD.b .nil pass0 (pa_cons (pv 0) (pa_cons (pe_op op_add (pv 1) pe_int) (pa_cons pe_int pa_nil)))) (fun _ _ => rfl)))
      (pss_one (ps_ret (pe_comp (N := ["k", "script", "top", "base"]) (src := [none, some 0, some 3, some 1]) rfl (blk (osc := defScope s__law_sizes_by) (oN := ["script", "base", "many", "top"]) rfl rfl (by decide +kernel)) (pi_range1 (by rfl) mrange (pa_cons (pv 2) pa_nil)) (fun C s₀ H₀ ex pn => pg_name (i := 0) (show (["k", "script", "top", "base"] : List Str).Nodup by decide +kernel) rfl (Or.inl rfl) (Or.inr rfl)) (fun C s₀ H₀ ex pn => pts_nil) (fun C s₀ H₀ ex pn => (pe_op op_add pe_int (pe_call gD.G hr1 (by rfl) gD.m gD.F.kp gD.b .nil pass0 (pa_cons (pv 1) (pa_cons (pe_op op_add (pe_op op_add (pv 3) pe_int) (pv 0)) (pa_cons (pv 2) pa_nil))))))))))), ?_⟩
    try dsimp only [cxOf]
    have d1 := drawn_lo ns b (many := 8) (by decide)
    have d2 := drawn_hi ns b (many := 8) (by decide)
    refine (evv rfl rfl (mk4_7 a ns b 8 rfl hS hl (by (first | lia | omega)) (by (first | lia | omega)) (by decide) ⟨by decide, ev2 rfl rfl ?_⟩))
    generalize drawn ns b 8 = d at d1 d2 ⊢
    refine ⟨(by show 3 ≤ sizeLine; decide), fun L hL => ?_⟩
    have sL : ∀ o, Same H (upd H L o) := fun o => same_upd hL
    obtain ⟨top, ht, htop⟩ := three_at (x := 3) (y := 5) (z := 9) (drawn_lo ns (b + 1) (many := 3) (by decide)) (drawn_hi ns (b + 1) (many := 3) (by decide))
    refine (evv rfl rfl (ev2 rfl rfl (mk4_8 a ns (b + 1) 3 rfl ((sL _).seq hS) hl (by (first | lia | omega)) (by (first | lia | omega)) (by decide) (by decide) (ix4 (p := L) (SqL.of upd_same) ht ?_))))
    generalize hH1 : upd H L (.lst [.int 3, .int 5, .int 9]) = H1
    have s1 : Same H H1 := by rw [← hH1]; exact sL _
    have ht2 : 0 < top ∧ top ≤ 9 := by (first | lia | omega)
    have hline : (63 : Nat) < sizeLine := by decide
    refine (evv rfl rfl ⟨(by (first | lia | omega)), (by (first | lia | omega)), fun D hD => ?_⟩)
    refine comp_range (lo := 0) (n := (1 + d).toNat) (src := [none, some 0, some 3, some 1]) (fun i σ1 H2 => (∃ v, σ1 = [v, some (.ref a), some (.int top), some (.int b)]) ∧ Same H1 H2 ∧ (∃ sz : List Int, H2 = upd H1 D (.lst (sz.map V.int)) ∧ sz.length = i ∧ ∀ z ∈ sz, 1 ≤ z ∧ z ≤ 9) ∧ i ≤ 8)
      ⟨⟨none, rfl⟩, same_upd hD, ⟨[], rfl, rfl, fun z hz => by cases hz⟩, Nat.zero_le _⟩ ?_ ?_
    · rintro i σ1 H2 hi ⟨⟨v, rfl⟩, s2, ⟨sz, rfl, hsl, hsz⟩, _⟩
      refine gN ?_
      refine tT ?_
      have e1 := drawn_lo ns (b + 2 + (0 + (i : Int))) (many := top) ht2.1
      have e2 := drawn_hi ns (b + 2 + (0 + (i : Int))) (many := top) ht2.1
      refine (evv rfl rfl (ev2 rfl rfl (evr rfl (ev2 rfl rfl (evr rfl ⟨a, ns, b + 2 + (0 + (i : Int)), top, rfl, (s1.trans s2).seq hS, hl, by (first | lia | omega), by (first | lia | omega), ht2.1, by (first | lia | omega), ev2 rfl rfl ⟨_, upd_same, (by rw [List.length_map]; (first | lia | omega)), ⟨_, rfl⟩, ?_, ⟨sz ++ [1 + drawn ns (b + 2 + (0 + (i : Int))) top], ?_, (by rw [List.length_append, hsl]; rfl), ?_⟩, by (first | lia | omega)⟩⟩)))))
      · rw [upd_upd]; exact same_upd hD
      · rw [upd_upd, List.map_append]; rfl
      · intro z hz
        rcases List.mem_append.mp hz with hz | hz
        · exact hsz z hz
        · rw [List.mem_singleton.mp hz]; (first | lia | omega)
    · rintro σ1 H2 ⟨_, s2, ⟨sz, rfl, hsl, hsz⟩, _⟩
      exact q sz (okSizes_of (by (first | lia | omega)) (by (first | lia | omega)) hsz) D _ (s1.free hD) (s1.trans s2) upd_same
/-! ### a list made of a call's numbers, None in every place -/
theorem nones_comp {K : PySem.W.Frag} {a D : Addr} {xs : List V} {σ : St} {H : Hp} {Q : VK} (hS : SqL K H a xs) (hD : H D = none) (hl : xs.length ≤ 63) (q : ∀ H', Same H H' → H' D = some (.lst (List.replicate xs.length .non)) → H' = upd H D (.lst (List.replicate xs.length .non)) → Q (.ref D) H') :
    CompW (Itl K a) [none] (gName 0) tTrue (tC .non) Q σ H D := by
  have hline : (63 : Nat) < sizeLine := by decide
  refine comp_list (K := K) (a := a) (src := [none]) (xs := xs) (fun i σ1 H2 => (∃ v, σ1 = [v]) ∧ H2 = upd H D (.lst (List.replicate i .non)) ∧ i ≤ xs.length) ⟨⟨none, rfl⟩, rfl, Nat.zero_le _⟩ ?_ ?_ ?_
  · rintro i σ1 H2 _ ⟨_, rfl, _⟩
    exact (same_upd hD).seq hS
  · rintro i x σ1 H2 hx ⟨⟨v, rfl⟩, rfl, hi⟩
    have hil : i < xs.length := (List.getElem?_eq_some_iff.mp hx).1
    refine gN (tT ⟨_, upd_same, ?_, ⟨_, rfl⟩, ?_, hil⟩)
    · rw [List.length_replicate]; (first | lia | omega)
    · rw [upd_upd, ← List.replicate_succ']
  · rintro σ1 H2 ⟨_, rfl, _⟩
    exact q _ (same_upd hD) upd_same rfl
end
end Pw

set_option Elab.async false
set_option linter.all false
set_option maxRecDepth 100000
set_option maxHeartbeats 4000000
namespace Pw
open PySem L2
section
variable {P : Program} {w : World} {K : PySem.W.Frag} {mg : Str → Option Value} {base : Heap}
theorem scCS : FnScope ["size"] ["size"] (defScope s_check_size) := ⟨rfl, rfl, rfl, by decide +kernel, rfl, by decide +kernel, by decide +kernel⟩
theorem ok_checkSize {f fB cWE cNS : Addr} {fd fdB : FuncData} {t2 t3 : Tok} (F : Fun K "check_size" "check_size" s_check_size f fd) (gB : Gd P w K mg base "in_bounds" s_in_bounds ["number"] CX0 1 spBounds fB fdB)
    (mLEAST : mg "LEAST" = some (.int 1 t2)) (mGREATEST : mg "GREATEST" = some (.int 9 t3)) (RNoSize : Rs K mg cWE cNS "NoSize") : FnOk P w K mg base (CXF P w) 2 f fd ["size"] (spCheckNum cNS) := by
  refine F.okX scCS (fun vs H Q E h => ?_) (fun cdv A outer s H vs Q E hr h => ?_)
  · refine ob1_2 h (fun z eRfl _ => ?_); clear h; subst eRfl
    rfl
  · refine ob1_3 h (fun z eRfl q1 q2 => ?_); clear h; subst eRfl
    refine ⟨_, (pss_one (ps_if (pt_not (pt_val (pe_call gB.G.cxf hr (by rfl) gB.m gB.F.kp gB.b .nil pass_def (pa_cons (pv 0) pa_nil)))) (pss_one (ps_raise PySem.F.excBase_ValueError rfl passM_def rfl RNoSize.xc RNoSize.xt (by rfl) RNoSize.m (pa_cons (pe_fstr (pj_str (k := 100) (by decide +kernel) (pj_int (pe_glob (v := .int 1) (by rfl) mLEAST ⟨_, rfl⟩) (pj_str (k := 100) (by decide +kernel) (pj_int (pe_glob (v := .int 9) (by rfl) mGREATEST ⟨_, rfl⟩) pj_nil (by decide)) (by decide)) (by decide)) (by decide)) (by decide)) pa_nil))) pss_nil)), ?_⟩
    try dsimp only [cxOf]
    refine (evr rfl ⟨z, rfl, evr rfl ?_⟩)
    have q1 : (decide (1 ≤ z) && decide (z ≤ 9)) = true → Q .non H := q1
    have q2 : (decide (1 ≤ z) && decide (z ≤ 9)) = false → E (.ref cNS) none H := q2
    cases e : (decide (1 ≤ z) && decide (z ≤ 9)) with
    | true => exact iteF (q1 e)
    | false => exact iteT ⟨1, rfl, (by decide), 9, rfl, (by decide), fun out => ⟨(by show 1 ≤ sizeLine; decide), q2 e⟩⟩
theorem scCN : FnScope ["nights"] ["nights"] (defScope s_check_nights) := ⟨rfl, rfl, rfl, by decide +kernel, rfl, by decide +kernel, by decide +kernel⟩
theorem ok_checkNights {f fB cWE cNN : Addr} {fd fdB : FuncData} {t2 t3 : Tok} (F : Fun K "check_nights" "check_nights" s_check_nights f fd) (gB : Gd P w K mg base "in_bounds" s_in_bounds ["number"] CX0 1 spBounds fB fdB)
    (mLEAST : mg "LEAST" = some (.int 1 t2)) (mGREATEST : mg "GREATEST" = some (.int 9 t3)) (RNoNights : Rs K mg cWE cNN "NoNights") : FnOk P w K mg base (CXF P w) 2 f fd ["nights"] (spCheckNum cNN) := by
  refine F.okX scCN (fun vs H Q E h => ?_) (fun cdv A outer s H vs Q E hr h => ?_)
  · refine ob1_2 h (fun z eRfl _ => ?_); clear h; subst eRfl
    rfl
  · refine ob1_3 h (fun z eRfl q1 q2 => ?_); clear h; subst eRfl
    refine ⟨_, (pss_one (ps_if (pt_not (pt_val (pe_call gB.G.cxf hr (by rfl) gB.m gB.F.kp gB.b .nil pass_def (pa_cons (pv 0) pa_nil)))) (pss_one (ps_raise PySem.F.excBase_ValueError rfl passM_def rfl RNoNights.xc RNoNights.xt (by rfl) RNoNights.m (pa_cons (pe_fstr (pj_str (k := 100) (by decide +kernel) (pj_int (pe_glob (v := .int 1) (by rfl) mLEAST ⟨_, rfl⟩) (pj_str (k := 100) (by decide +kernel) (pj_int (pe_glob (v := .int 9) (by rfl) mGREATEST ⟨_, rfl⟩) (pj_str (k := 100) (by decide +kernel) pj_nil (by decide)) (by decide)) (by decide)) (by decide)) (by decide)) (by decide)) pa_nil))) pss_nil)), ?_⟩
    try dsimp only [cxOf]
    refine (evr rfl ⟨z, rfl, evr rfl ?_⟩)
    have q1 : (decide (1 ≤ z) && decide (z ≤ 9)) = true → Q .non H := q1
    have q2 : (decide (1 ≤ z) && decide (z ≤ 9)) = false → E (.ref cNN) none H := q2
    cases e : (decide (1 ≤ z) && decide (z ≤ 9)) with
    | true => exact iteF (q1 e)
    | false => exact iteT ⟨1, rfl, (by decide), 9, rfl, (by decide), fun out => ⟨(by show 1 ≤ sizeLine; decide), q2 e⟩⟩
/-! ### Parcel.__init__ -/
theorem scPI : FnScope ["self", "number", "size", "last_night"] ["self", "number", "size", "last_night"] (defScope s_Parcel___init__) := ⟨rfl, rfl, rfl, by decide +kernel, rfl, by decide +kernel, by decide +kernel⟩
theorem ok_parcel {f cP : Addr} {fd : FuncData} (F : Fun K "__init__" "Parcel.__init__" s_Parcel___init__ f fd) (TP : PTxt K cP) : FnOk P w K mg base CX0 1 f fd ["self", "number", "size", "last_night"] (spParcel cP) := by
  refine F.ok scPI (fun vs H Q E h => ?_) (fun cdv A outer s H vs Q E hr h => ?_)
  · refine ob5_2 h (fun x dx n z l eRfl _ => ?_); clear h; subst eRfl
    rfl
  · refine ob5_3 h (fun x dx n z l eRfl hx q => ?_); clear h; subst eRfl
    refine ⟨_, (pss_cons (ps_fld (pv 0) (pv 1) rfl)
      (pss_cons (ps_fld (pv 0) (pv 2) rfl)
      (pss_one (ps_fld (pv 0) (pv 3) rfl)))), ?_⟩
    try dsimp only [cxOf]
    refine (evv rfl rfl ⟨x, cP, dx, [], rfl, hx, TP.cl, TP.n1, (by show 0 < 1000; decide), ?_⟩)
    refine (evv rfl rfl (mk4_6 x cP dx _ rfl upd_same TP.cl TP.n2 (by show 1 < 1000; decide) ?_))
    refine (evv rfl rfl (mk4_6 x cP dx _ rfl upd_same TP.cl TP.n3 (by have := length_putF "size" (V.int z) (putF "number" (V.int n) []); have := length_putF "number" (V.int n) []; have z0 : ([] : List (Str × V)).length = 0 := rfl; (first | lia | omega)) ?_))
    exact q _ upd_same fun b hb => by rw [upd_ne hb, upd_ne hb, upd_ne hb]
/-! ### the boxes that hold a size -/
theorem free_mem {w : Wl} {b : Int} : b ∈ freeOf w ↔ ∃ i : Nat, b = (i : Int) ∧ i < w.ps.length ∧ (w.ps[i]?.join).isNone = true := by
  unfold freeOf
  rw [List.mem_map]
  constructor
  · rintro ⟨i, h, rfl⟩
    obtain ⟨h1, h2⟩ := List.mem_filter.mp h
    exact ⟨i, rfl, List.mem_range.mp h1, h2⟩
  · rintro ⟨i, rfl, h1, h2⟩
    exact ⟨i, List.mem_filter.mpr ⟨List.mem_range.mpr h1, h2⟩, rfl⟩
theorem boxes_mem {w : Wl} {size b : Int} : b ∈ boxesFor w size ↔ ∃ i : Nat, b = (i : Int) ∧ fitsAt w size i := by
  unfold boxesFor fitsAt
  rw [List.mem_filter, free_mem]
  constructor
  · rintro ⟨⟨i, rfl, h1, h2⟩, h3⟩
    rw [Int.toNat_natCast, decide_eq_true_eq] at h3
    exact ⟨i, rfl, h1, h2, h3⟩
  · rintro ⟨i, rfl, h1, h2, h3⟩
    refine ⟨⟨i, rfl, h1, h2⟩, ?_⟩
    rw [Int.toNat_natCast, decide_eq_true_eq]
    exact h3
theorem free_len (w : Wl) : (freeOf w).length ≤ w.ps.length := freeTo_len w.ps w.ps.length
theorem boxes_len (w : Wl) (size : Int) : (boxesFor w size).length ≤ w.ps.length := Nat.le_trans (List.length_filter_le _ _) (free_len w)
theorem size_at {w : Wl} {i : Nat} (h : i < w.sz.length) : atI (w.sz.map V.int) ((i : Nat) : Int) = some (.int (w.sz.getD i 0)) := atI_nat (by rw [List.getElem?_map, List.getElem?_eq_getElem h]; simp [h])
theorem take_filter_snoc {α : Type} {p : α → Bool} {xs : List α} {i : Nat} {x : α} (h : xs[i]? = some x) : (xs.take (i + 1)).filter p = (xs.take i).filter p ++ (if p x = true then [x] else []) := by
  have hi : i < xs.length := (List.getElem?_eq_some_iff.mp h).1
  have e : xs[i] = x := (List.getElem?_eq_some_iff.mp h).2
  rw [List.take_succ_eq_append_getElem hi, List.filter_append, e]
  congr 1
  by_cases hp : p x = true
  · simp [hp]
  · simp [hp]
theorem scBF : FnScope ["self", "size"] ["self", "size"] (defScope s_Wall_boxes_for) := ⟨rfl, rfl, rfl, by decide +kernel, rfl, by decide +kernel, by decide +kernel⟩
theorem ok_boxesFor {f fF cW cP : Addr} {fd fdF : FuncData} (F : Fun K "boxes_for" "Wall.boxes_for" s_Wall_boxes_for f fd) (T : WTxt K cW) (dF : Md P w K mg base cW "free" ["self"] CX0 1 (spFree cW cP) fF fdF) : FnOk P w K mg base CX0 2 f fd ["self", "size"] (spBoxesFor cW cP) := by
  refine F.ok scBF (fun vs H Q E h => ?_) (fun cdv A outer s H vs Q E hr h => ?_)
  · refine ob5_2 h (fun p l1 l2 w size eRfl _ => ?_); clear h; subst eRfl
    rfl
  · refine ob5_3 h (fun p l1 l2 w size eRfl W q => ?_); clear h; subst eRfl
    obtain ⟨dx, ho⟩ := W.ob
    refine ⟨_, (pss_one (ps_ret (pe_comp (N := ["box", "size", "self"]) (src := [none, some 1, some 0]) rfl (blk (osc := defScope s_Wall_boxes_for) (oN := ["self", "size"]) rfl rfl (by decide +kernel)) (pi_list (pe_meth0 (pv 0) T.cl dF.me dF.G hr dF.b .nil pass0)) (fun C s₀ H₀ ex pn => pg_name (i := 0) (show (["box", "size", "self"] : List Str).Nodup by decide +kernel) rfl (Or.inl rfl) (Or.inr rfl)) (fun C s₀ H₀ ex pn => pts_one (pt_cmpR op_ge (pe_ixB (K := K) rfl (pe_fldB (K := K) rfl (pv 2) rfl) (pv 0) (fun _ _ => rfl)) (pv 1) (nomark _))) (fun C s₀ H₀ ex pn => (pv 0))))), ?_⟩
    try dsimp only [cxOf]
    refine (evr rfl (ex3 p dx _ ⟨rfl, ho, wf_no _ _ _ _ (by decide +kernel) (by decide +kernel) (by decide +kernel) (by decide +kernel), ex4 p l1 l2 w ⟨rfl, W, fun r H1 n1 s1 h1 => ⟨r, rfl, ⟨_, SqL.of h1⟩, fun D hD => ?_⟩⟩⟩))
    have W1 := W.mono s1
    have hlen : w.ps.length ≤ 8 := by rw [W.len]; exact W.few
    have hline : (8 : Nat) < sizeLine := by decide
    refine abs3k (fun i σ1 H2 => (∃ v, σ1 = [v, some (.int size), some (.ref p)]) ∧ H2 = upd H1 D (.lst ((((freeOf w).take i).filter fun b => decide (size ≤ w.sz.getD b.toNat 0)).map V.int)) ∧ i ≤ (freeOf w).length) fun Pv hv => ?_
    refine comp_list (K := K) (a := r) (src := [none, some 1, some 0]) (xs := (freeOf w).map V.int) Pv ((hv _ _ _).mpr ⟨⟨none, rfl⟩, rfl, Nat.zero_le _⟩) ?_ ?_ ?_
    · intro i σ1 H2 _ hP
      obtain ⟨_, rfl, _⟩ := (hv _ _ _).mp hP
      exact SqL.of (by rw [upd_ne (ne_of_none h1 hD)]; exact h1)
    · intro i x σ1 H2 hx hP
      obtain ⟨⟨v, rfl⟩, rfl, hi⟩ := (hv _ _ _).mp hP
      rw [List.getElem?_map] at hx
      cases hb : (freeOf w)[i]? with
      | none => rw [hb] at hx; cases hx
      | some b =>
        rw [hb] at hx
        cases hx
        obtain ⟨j, rfl, hj, _⟩ := free_mem.mp (List.mem_of_getElem? hb)
        have W2 := W1.mono (same_upd (o := .lst ((((freeOf w).take i).filter fun b => decide (size ≤ w.sz.getD b.toNat 0)).map V.int)) hD)
        obtain ⟨dx2, ho2⟩ := W2.ob
        have hil : i < (freeOf w).length := (List.getElem?_eq_some_iff.mp hb).1
        have hsz : j < w.sz.length := by rw [← W.len]; exact hj
        have hfl : (((freeOf w).take i).filter fun b => decide (size ≤ w.sz.getD b.toNat 0)).length ≤ i := Nat.le_trans (List.length_filter_le _ _) (by rw [List.length_take]; (first | lia | omega))
        have hfw := free_len w
        refine gN ?_
        refine (evr rfl (mk5_6 p cW dx2 _ _ rfl ho2 T.cl T.n1 (wf_sizes _ _ _ _) (evr rfl (ix4 (p := l1) (SqL.of W2.s1) (size_at hsz) (evr rfl (ev2 rfl rfl (evr rfl ?_)))))))
        have es := take_filter_snoc (p := fun b : Int => decide (size ≤ w.sz.getD b.toNat 0)) hb
        rw [Int.toNat_natCast] at es
        refine ite2 (fun c => ?_) (fun c => ?_)
        · refine (evr rfl ⟨_, upd_same, (by rw [List.length_map]; (first | lia | omega)), (hv _ _ _).mpr ⟨⟨_, rfl⟩, ?_, hil⟩⟩)
          rw [upd_upd, es, if_pos c, List.map_append]
          rfl
        · refine (hv _ _ _).mpr ⟨⟨_, rfl⟩, ?_, hil⟩
          rw [es, if_neg c, List.append_nil]
    · intro σ1 H2 hP
      obtain ⟨⟨v, rfl⟩, rfl, hi⟩ := (hv _ _ _).mp hP
      refine q D _ (s1.free hD) (s1.trans (same_upd hD)) ?_
      rw [upd_same, List.length_map, List.take_length]
      rfl
/-! ### the least of them -/
theorem PairsAt.snoc {H : Hp} {ts : List Addr} {ps : List (Int × Int)} {D t : Addr} {m : Int × Int} {o : HO} (h : PairsAt K H ts ps) (hD : ∀ a ∈ ts, a ≠ D) (ht : H t = none) (htD : t ≠ D) : PairsAt K (upd (upd H t (.tup [.int m.1, .int m.2])) D o) (ts ++ [t]) (ps ++ [m]) := by
  refine ⟨by rw [List.length_append, List.length_append, h.1]; rfl, fun i a n ha hn => ?_⟩
  by_cases hi : i < ts.length
  · rw [List.getElem?_append_left hi] at ha
    rw [List.getElem?_append_left (by rw [← h.1]; exact hi)] at hn
    have := h.2 i a n ha hn
    rw [upd_ne (hD a (List.mem_of_getElem? ha)), upd_ne (ne_of_none this ht)]
    exact this
  · rw [List.getElem?_append_right (by (first | lia | omega))] at ha
    rw [List.getElem?_append_right (by rw [← h.1]; (first | lia | omega)), ← h.1] at hn
    have e : i - ts.length = 0 := by
      cases z : i - ts.length with
      | zero => rfl
      | succ k => rw [z] at ha; cases ha
    rw [e] at ha hn
    cases ha; cases hn
    rw [upd_ne htD, upd_same]
def pairOf (w : Wl) (b : Int) : Int × Int := (w.sz.getD b.toNat 0, b)
theorem scLB : FnScope ["self", "size", "boxes"] ["self", "size"] (defScope s_Wall_least_box) := ⟨rfl, rfl, rfl, by decide +kernel, rfl, by decide +kernel, by decide +kernel⟩
theorem ok_leastBox {f fB cW cP cWE cNB : Addr} {fd fdB : FuncData} (F : Fun K "least_box" "Wall.least_box" s_Wall_least_box f fd) (T : WTxt K cW) (dB : Md P w K mg base cW "boxes_for" ["self", "size"] CX0 2 (spBoxesFor cW cP) fB fdB) (RNoBox : Rs K mg cWE cNB "NoBox") (mlen : mg "len" = none) (mmin : mg "min" = none) :
    FnOk P w K mg base (CXF P w) 3 f fd ["self", "size"] (spLeastBox cW cP cNB) := by
  refine F.okX scLB (fun vs H Q E h => ?_) (fun cdv A outer s H vs Q E hr h => ?_)
  · refine ob5_2 h (fun p l1 l2 w size eRfl _ => ?_); clear h; subst eRfl
    rfl
  · refine ob5_4 h (fun p l1 l2 w size eRfl W q2 q1 => ?_); clear h; subst eRfl
    obtain ⟨dx, ho⟩ := W.ob
    have hu : (A.deeper (PyProof.Rows.envOfC "Wall.least_box" (defScope s_Wall_least_box) s.heap.objs.size f cdv)).units + 60 < cLine := by have := hr.units; (first | lia | omega)
    refine ⟨_, (pss_cons (ps_setC (i := 2) scLB.nd rfl rfl rfl (N := ["box", "self"]) (src := [none, some 0]) (blk (osc := defScope s_Wall_least_box) (oN := ["self", "size", "boxes"]) rfl rfl (by decide +kernel)) (pi_list (pe_meth (pv 0) T.cl dB.me dB.G.cxf hr dB.b .nil pass_def (pa_cons (pv 1) pa_nil))) (fun C s₀ H₀ ex pn => pg_name (i := 0) (show (["box", "self"] : List Str).Nodup by decide +kernel) rfl (Or.inl rfl) (Or.inr rfl)) (fun C s₀ H₀ ex pn => pts_nil) (fun C s₀ H₀ ex pn => (pe_tup (pa_cons (pe_ixB (K := K) rfl (pe_fldB (K := K) rfl (pv 1) rfl) (pv 0) (fun _ _ => rfl)) (pa_cons (pv 0) pa_nil)))))
      (pss_cons (ps_if (pt_cmpR op_eq (pe_callB call_len_seq (by rfl) mlen PySem.boot_len (pa_cons (pv 2) pa_nil)) pe_int (nomark _)) (pss_one (ps_raise PySem.F.excBase_ValueError rfl passM_def rfl RNoBox.xc RNoBox.xt (by rfl) RNoBox.m (pa_cons pe_str pa_nil))) pss_nil)
      (pss_one (ps_ret (pe_ix ix_tup (pe_callB (call_minT rfl hu) (by rfl) mmin PyProof.Rows.boot_min (pa_cons (pv 2) pa_nil)) pe_int (fun _ _ => rfl)))))), ?_⟩
    try dsimp only [cxOf]
    refine (evr rfl (mk3_3 p dx _ rfl ho ⟨wf_no _ _ _ _ (by decide +kernel) (by decide +kernel) (by decide +kernel) (by decide +kernel), evr rfl (mk5_3 p l1 l2 w size rfl W (fun r H1 n1 s1 h1 => ⟨r, rfl, ⟨_, SqL.of h1⟩, fun D hD => ?_⟩))⟩))
    have W1 := W.mono s1
    have hlen : w.ps.length ≤ 8 := by rw [W.len]; exact W.few
    have hbl := boxes_len w size
    have hline : (8 : Nat) < sizeLine := by decide
    refine abs3k (fun i σ1 H2 => (∃ v, σ1 = [v, some (.ref p)]) ∧ Same H1 H2 ∧ (∃ ts, H2 D = some (.lst (ts.map V.ref)) ∧ ts.length = i ∧ PairsAt K H2 ts (((boxesFor w size).take i).map (pairOf w)) ∧ ∀ a ∈ ts, a ≠ D) ∧ i ≤ (boxesFor w size).length) fun Pv hv => ?_
    refine comp_list (K := K) (a := r) (src := [none, some 0]) (xs := (boxesFor w size).map V.int) Pv
      ((hv _ _ _).mpr ⟨⟨none, rfl⟩, same_upd hD, ⟨[], upd_same, rfl, ⟨rfl, fun i a m ha => by cases ha⟩, fun a ha => by cases ha⟩, Nat.zero_le _⟩) ?_ ?_ ?_
    · intro i σ1 H2 _ hP
      have s2 := ((hv _ _ _).mp hP).2.1
      exact SqL.of (s2 _ _ h1)
    · intro i x σ1 H2 hx hP
      obtain ⟨⟨v, rfl⟩, s2, ⟨ts, hts, hti, hps, hne⟩, hi⟩ := (hv _ _ _).mp hP
      rw [List.getElem?_map] at hx
      cases hb : (boxesFor w size)[i]? with
      | none => rw [hb] at hx; cases hx
      | some b =>
        rw [hb] at hx
        cases hx
        obtain ⟨j, rfl, hj, _⟩ := boxes_mem.mp (List.mem_of_getElem? hb)
        have W2 := W1.mono s2
        obtain ⟨dx2, ho2⟩ := W2.ob
        have hil : i < (boxesFor w size).length := (List.getElem?_eq_some_iff.mp hb).1
        have hsz : j < w.sz.length := by rw [← W.len]; exact hj
        refine gN ?_
        refine tT ?_
        refine (evr rfl (mk5_6 p cW dx2 _ _ rfl ho2 T.cl T.n1 (wf_sizes _ _ _ _) (evr rfl (ix4 (p := l1) (SqL.of W2.s1) (size_at hsz) (evr rfl ⟨(by show 2 ≤ sizeLine; decide), fun t ht => ?_⟩)))))
        have ntD : t ≠ D := fun z => by rw [z, hts] at ht; cases ht
        refine ⟨_, (by rw [upd_ne (Ne.symm ntD)]; exact hts), (by rw [List.length_map]; (first | lia | omega)), (hv _ _ _).mpr ⟨⟨_, rfl⟩, ?_, ⟨ts ++ [t], (by rw [upd_same, List.map_append]; rfl), (by rw [List.length_append, hti]; rfl), ?_, ?_⟩, hil⟩⟩
        · exact fun b o e => by
            have e2 := s2 b o e
            rw [upd_ne (ne_of_none e hD), upd_ne (ne_of_none e2 ht)]; exact e2
        · rw [← take_map_snoc (f := pairOf w) hb]
          exact PairsAt.snoc hps (m := pairOf w (j : Int)) hne ht ntD
        · intro a ha
          rcases List.mem_append.mp ha with ha | ha
          · exact hne a ha
          · rw [List.mem_singleton.mp ha]; exact ntD
    · intro σ1 H2 hP
      obtain ⟨⟨v, rfl⟩, s2, ⟨ts, hts, hti, hps, hne⟩, hi⟩ := (hv _ _ _).mp hP
      rw [List.length_map] at hti
      rw [List.length_map, List.take_length] at hps
      have s3 := s1.trans s2
      refine (evr rfl (mk2_4 D _ rfl (.inl (SqL.of hts)) rfl (evr rfl (ite2 (fun c => ?_) (fun c => ?_)))))
      · refine ⟨(by show 1 ≤ sizeLine; decide), q2 (fun c' hc' => ?_) _ s3⟩
        have hm : ((c' : Nat) : Int) ∈ boxesFor w size := boxes_mem.mpr ⟨c', rfl, hc'⟩
        have c := of_decide_eq_true c
        rw [List.length_map] at c
        have h0 : ts.length = 0 := by have := V.int.inj c; (first | lia | omega)
        have : boxesFor w size = [] := List.length_eq_zero_iff.mp (by (first | lia | omega))
        rw [this] at hm
        cases hm
      · have hne0 : ts ≠ [] := fun z => c (decide_eq_true (by rw [z]; rfl))
        refine (evr rfl (mk3_5 D ts _ rfl (SqL.of hts) hps hne0 (fun i a m ha hm hlo => ?_)))
        refine (ix4 (p := a) (SqT.of (hps.2 i a m ha hm)) (atI_nat (j := 1) rfl) ?_)
        rw [List.getElem?_map] at hm
        cases hb : (boxesFor w size)[i]? with
        | none => rw [hb] at hm; cases hm
        | some b =>
          rw [hb] at hm
          cases hm
          obtain ⟨j, rfl, hj⟩ := boxes_mem.mp (List.mem_of_getElem? hb)
          refine q1 j ⟨hj, fun c' hc' => ?_⟩ _ s3
          have := hlo (pairOf w (c' : Int)) (List.mem_map.mpr ⟨_, boxes_mem.mpr ⟨c', rfl, hc'⟩, rfl⟩)
          exact this
/-! ### a parcel comes -/
theorem scCo : FnScope ["self", "size", "nights", "box", "number"] ["self", "size", "nights"] (defScope s_Wall_come) := ⟨rfl, rfl, rfl, by decide +kernel, rfl, by decide +kernel, by decide +kernel⟩
theorem wf_putCame (l1 l2 : Addr) (c g v : Int) : putF "came" (.int v) (wflds l1 l2 c g) = wflds l1 l2 v g := by
  rw [wflds_eq, wflds_eq]
  simp only [putF, ne2, ne4, ne6, if_false, if_true, Ne.symm ne2, Ne.symm ne4]
theorem ok_come {f fS fN fL fP cW cP cNS cNN cNB : Addr} {fd fdS fdN fdL fdP : FuncData} (F : Fun K "come" "Wall.come" s_Wall_come f fd) (T : WTxt K cW)
    (gS : Gd P w K mg base "check_size" s_check_size ["size"] (CXF P w) 2 (spCheckNum cNS) fS fdS) (gN : Gd P w K mg base "check_nights" s_check_nights ["nights"] (CXF P w) 2 (spCheckNum cNN) fN fdN)
    (dL : Md P w K mg base cW "least_box" ["self", "size"] (CXF P w) 3 (spLeastBox cW cP cNB) fL fdL) (MP : Mk K cP fP) (bP : Binds K fdP ["self", "number", "size", "last_night"] []) (GP : FnOk P w K mg base CX0 1 fP fdP ["self", "number", "size", "last_night"] (spParcel cP)) (mP : mg "Parcel" = some (.ref cP)) :
    FnOk P w K mg base (CXF P w) 4 f fd ["self", "size", "nights"] (spCome cW cP cNS cNN cNB) := by
  refine F.okX scCo (fun vs H Q E h => ?_) (fun cdv A outer s H vs Q E hr h => ?_)
  · refine ob6_2 h (fun p l1 l2 w size nights eRfl _ => ?_); clear h; subst eRfl
    rfl
  · refine ob6_6 h (fun p l1 l2 w size nights eRfl W e1 e2 e3 q => ?_); clear h; subst eRfl
    obtain ⟨dx, ho⟩ := W.ob
    have hr2 : Room 2 _ := hr.mono (by decide)
    refine ⟨_, (pss_cons (ps_expr (pe_call gS.G hr2 (by rfl) gS.m gS.F.kp gS.b .nil pass_def (pa_cons (pv 1) pa_nil)))
      (pss_cons (ps_expr (pe_call gN.G hr2 (by rfl) gN.m gN.F.kp gN.b .nil pass_def (pa_cons (pv 2) pa_nil)))
      (pss_cons (ps_set (i := 3) scCo.nd rfl (Or.inl rfl) (pe_meth (pv 0) T.cl dL.me dL.G hr dL.b .nil pass_def (pa_cons (pv 1) pa_nil)))
      (pss_cons (ps_set (i := 4) scCo.nd rfl (Or.inl rfl) (pe_fld (pv 0) rfl))
      (pss_cons (ps_asg (pe_make MP GP.cxf hr2 (by rfl) mP bP .nil pass_def (pa_cons (pv 4) (pa_cons (pv 1) (pa_cons (pe_op op_add (pe_fld (pv 0) rfl) (pv 2)) pa_nil)))) (pg_sub (pe_fld (pv 0) rfl) (pv 3) set_list))
      (pss_cons (ps_fld (pv 0) (pe_op op_add (pv 4) pe_int) rfl)
      (pss_one (ps_ret (pv 4))))))))), ?_⟩
    try dsimp only [cxOf]
    refine (evr rfl ⟨size, rfl, fun k1 => ?_, e1⟩)
    refine (evr rfl ⟨nights, rfl, fun k2 => ?_, e2 k1⟩)
    refine (evr rfl (mk3_3 p dx _ rfl ho ⟨wf_no _ _ _ _ (by decide +kernel) (by decide +kernel) (by decide +kernel) (by decide +kernel), evr rfl (mk5_4 p l1 l2 w size rfl W (fun hn => e3 k1 k2 hn) (fun b hb H1 s1 => ?_))⟩))
    have W1 := W.mono s1
    obtain ⟨dx1, ho1⟩ := W1.ob
    refine (evr rfl (mk5_6 p cW dx1 _ _ rfl ho1 T.cl T.n3 (wf_came _ _ _ _) ?_))
    refine (ev3r rfl rfl rfl (mk5_6 p cW dx1 _ _ rfl ho1 T.cl T.n4 (wf_gone _ _ _ _) (evr rfl (ev2 rfl rfl (fun x dy hx hdy ndx => ?_)))))
    refine (mk5_3 x dy _ _ _ rfl upd_same (fun H2 hx2 k2' => ⟨rfl, ?_⟩))
    have s2 : Same H1 H2 := fun c o e => by
      rw [k2' c (ne_of_none e hx), upd_ne (ne_of_none e hx), upd_ne (ne_of_none e hdy)]; exact e
    have W2 := W1.mono s2
    obtain ⟨dx2, ho2⟩ := W2.ob
    have hbl : b < w.ps.length := hb.1.1
    refine (evr rfl (mk5_6 p cW dx2 _ _ rfl ho2 T.cl T.n2 (wf_parcels _ _ _ _) (evr rfl (mk4_5 l2 _ _ b rfl rfl W2.s2 (ixN_nat rfl (by rw [List.length_map]; exact hbl)) ?_))))
    have np2 : p ≠ l2 := ne_of ho2 W2.s2 (by intro z; cases z)
    have np1 : p ≠ l1 := ne_of ho2 W2.s1 (by intro z; cases z)
    have nx2 : x ≠ l2 := fun z => by have := s1.free hx; rw [z, W.s2] at this; cases this
    have nxp : x ≠ p := fun z => by have := s1.free hx; rw [z, ho] at this; cases this
    refine (evr rfl (ev2 rfl rfl (evr rfl (mk4_6 p cW dx2 _ rfl (by rw [upd_ne np2]; exact ho2) T.cl T.n3 (by rw [wflds_eq]; show 4 < 1000; decide) ?_))))
    rw [wf_putCame]
    refine (evr rfl (q k1 k2 b hb x _ (s1.free hx) ⟨⟨dx2, upd_same⟩, ?_, ?_, fun pc hpc => ?_, ?_, W.few, W.ne, fun pc hpc => ?_⟩ fun c o e nc1 nc2 => ?_))
    · rw [upd_ne (Ne.symm np1), upd_ne W.ne]; exact W2.s1
    · rw [upd_ne (Ne.symm np2), upd_same]
      show _ = some (HO.lst ((w.ps.set b _).map pV))
      rw [List.map_set]
      rfl
    · rcases List.mem_or_eq_of_mem_set hpc with h | h
      · obtain ⟨dq, hq⟩ := W2.pc pc h
        have n1 : pc.ad ≠ p := W.pn pc h
        have n2 : pc.ad ≠ l2 := ne_of hq W2.s2 (by intro z; cases z)
        exact ⟨dq, by rw [upd_ne n1, upd_ne n2]; exact hq⟩
      · cases h
        exact ⟨dy, by rw [upd_ne nxp, upd_ne nx2]; exact hx2⟩
    · show (w.ps.set b _).length = _
      rw [List.length_set]; exact W.len
    · rcases List.mem_or_eq_of_mem_set hpc with h | h
      · exact W.pn pc h
      · cases h; exact nxp
    · rw [upd_ne nc1, upd_ne nc2]; exact s2 _ _ (s1 _ _ e)
end
end Pw

set_option Elab.async false
set_option linter.all false
set_option maxRecDepth 100000
set_option maxHeartbeats 4000000
namespace Pw
open PySem L2
section
variable {P : Program} {w : World} {K : PySem.W.Frag} {mg : Str → Option Value} {base : Heap}
theorem flat_held (xs : List (Option Int)) : (xs.map oV).all flatV = true := by
  rw [List.all_eq_true]
  intro v hv
  obtain ⟨o, _, rfl⟩ := List.mem_map.mp hv
  cases o <;> rfl
theorem eqV_o (o : Option Int) (n : Int) : eqV (oV o) (.int n) = decide (o = some n) := by
  cases o with
  | none => simp [oV, eqV]
  | some i => simp [oV, eqV]; rfl
theorem in_held (xs : List (Option Int)) (n : Int) : inV (.int n) (xs.map oV) = decide (some n ∈ xs) := by
  unfold inV
  induction xs with
  | nil => rfl
  | cons o xs ih =>
    rw [List.map_cons, List.any_cons, ih, eqV_o]
    by_cases h : o = some n
    · simp [h]
    · have h' : ¬ some n = o := fun z => h z.symm
      simp [h, h']
theorem first_ex : ∀ {xs : List (Option Int)} {n : Int}, some n ∈ xs → ∃ b, FirstAt xs n b
  | o :: xs, n, h => by
    by_cases e : o = some n
    · exact ⟨0, by rw [e]; rfl, fun m hm => absurd hm (Nat.not_lt_zero _)⟩
    · obtain ⟨b, h1, h2⟩ := first_ex (List.mem_of_ne_of_mem (fun z => e z.symm) h)
      refine ⟨b + 1, h1, fun m hm => ?_⟩
      cases m with
      | zero => intro z; exact e (Option.some.inj z)
      | succ m => exact h2 m (by (first | lia | omega))
theorem FirstAt.lt {xs : List (Option Int)} {n : Int} {b : Nat} (h : FirstAt xs n b) : b < xs.length := (List.getElem?_eq_some_iff.mp h.1).1
theorem FirstAt.uniq {xs : List (Option Int)} {n : Int} {b c : Nat} (h : FirstAt xs n b) (h' : FirstAt xs n c) : b = c := by
  rcases Nat.lt_trichotomy b c with z | z | z
  · exact absurd h.1 (h'.2 b z)
  · exact z
  · exact absurd h'.1 (h.2 c z)
theorem held_len (w : Wl) : (heldOf w).length = w.ps.length := by unfold heldOf; rw [List.length_map]
theorem held_at {w : Wl} {b : Nat} {n : Int} (h : (heldOf w)[b]? = some (some n)) : ∃ q, w.ps[b]? = some (some q) ∧ q.num = n := by
  unfold heldOf at h
  rw [List.getElem?_map] at h
  cases e : w.ps[b]? with
  | none => rw [e] at h; cases h
  | some o =>
    rw [e] at h
    cases o with
    | none => cases h
    | some q => exact ⟨q, rfl, by cases h; rfl⟩
theorem ps_at {w : Wl} {b : Nat} {q : Pc} (h : w.ps[b]? = some (some q)) : atI (w.ps.map pV) ((b : Nat) : Int) = some (.ref q.ad) := atI_nat (by rw [List.getElem?_map, h]; rfl)
/-- the index rule's reading in a row of numbers -/
theorem ix_read {xs : List (Option Int)} {n : Int} {b : Nat} (h : FirstAt xs n b) : b < (xs.map oV).length ∧ (∀ z, (xs.map oV)[b]? = some z → eqV z (.int n) = true) ∧ ∀ (m : Nat) z, m < b → (xs.map oV)[m]? = some z → eqV z (.int n) = false := by
  refine ⟨by rw [List.length_map]; exact h.lt, fun z hz => ?_, fun m z hm hz => ?_⟩
  · rw [List.getElem?_map, h.1] at hz
    cases hz
    rw [eqV_o]; exact decide_eq_true rfl
  · rw [List.getElem?_map] at hz
    cases e : xs[m]? with
    | none => rw [e] at hz; cases hz
    | some o =>
      rw [e] at hz
      cases hz
      rw [eqV_o]
      exact decide_eq_false fun z => h.2 m hm (by rw [e, z])
theorem scBO : FnScope ["self", "parcel", "held"] ["self", "parcel"] (defScope s_Wall_box_of) := ⟨rfl, rfl, rfl, by decide +kernel, rfl, by decide +kernel, by decide +kernel⟩
theorem ok_boxOf {f fH cW cP cWE cNP : Addr} {fd fdH : FuncData} (F : Fun K "box_of" "Wall.box_of" s_Wall_box_of f fd) (T : WTxt K cW) (dH : Md P w K mg base cW "held" ["self"] CX0 1 (spHeld cW cP) fH fdH) (RNoParcel : Rs K mg cWE cNP "NoParcel") : FnOk P w K mg base (CXF P w) 2 f fd ["self", "parcel"] (spBoxOf cW cP cNP) := by
  refine F.okX scBO (fun vs H Q E h => ?_) (fun cdv A outer s H vs Q E hr h => ?_)
  · refine ob5_2 h (fun p l1 l2 w n eRfl _ => ?_); clear h; subst eRfl
    rfl
  · refine ob5_4 h (fun p l1 l2 w n eRfl W q2 q1 => ?_); clear h; subst eRfl
    obtain ⟨dx, ho⟩ := W.ob
    have hr1 : Room 1 _ := hr
    refine ⟨_, (pss_cons (ps_set (i := 2) scBO.nd rfl (Or.inl rfl) (pe_meth0 (pv 0) T.cl dH.me dH.G.cxf hr1 dH.b .nil pass_def))
      (pss_cons (ps_if (pt_cmpR op_notIn_seq (pv 1) (pv 2) (by with_unfolding_all rfl)) (pss_one (ps_raise PySem.F.excBase_ValueError rfl passM_def rfl RNoParcel.xc RNoParcel.xt (by rfl) RNoParcel.m (pa_cons pe_str pa_nil))) pss_nil)
      (pss_one (ps_ret (pe_bm PySem.F.plainAttrs_list PySem.F.slot_list_index PySem.F.type_list_index mt_index (pv 2) (pa_cons (pv 1) pa_nil)))))), ?_⟩
    try dsimp only [cxOf]
    refine (evr rfl (ex3 p dx _ ⟨rfl, ho, wf_no _ _ _ _ (by decide +kernel) (by decide +kernel) (by decide +kernel) (by decide +kernel), ex4 p l1 l2 w ⟨rfl, W, fun r H1 n1 s1 h1 => ?_⟩⟩))
    refine (evv rfl rfl ⟨r, evr rfl ⟨.inl (SqL.of h1), rfl, flat_held _, evr rfl ?_⟩⟩)
    rw [in_held]
    by_cases hm : some n ∈ heldOf w
    · refine iteFe (by rw [decide_eq_true hm]; rfl) ?_
      obtain ⟨b, hb⟩ := first_ex hm
      have x1 := (ix_read hb).1
      have x2 := (ix_read hb).2.1
      have x3 := (ix_read hb).2.2
      exact (evr rfl ⟨.inl ⟨rfl, _, SqL.of h1⟩, evr rfl (mk4_9 r _ _ b rfl rfl (SqL.of h1) rfl (flat_held _) x1 x2 x3 (q1 b hb _ s1))⟩)
    · refine iteTe (by rw [decide_eq_false hm]; rfl) ?_
      exact ⟨(by show 1 ≤ sizeLine; decide), q2 hm _ s1⟩
theorem set_ps {w : Wl} {b : Nat} {o : Option Pc} : (w.ps.set b o).map pV = (w.ps.map pV).set b (pV o) := by rw [List.map_set]
/-- the wall's list of parcels is written -/
theorem WallAt.setPs {cW cP : Addr} {H : Hp} {p l1 l2 : Addr} {w : Wl} {ps : List (Option Pc)} (W : WallAt cW cP H p l1 l2 w) (hl : ps.length = w.ps.length) (hm : ∀ q, some q ∈ ps → some q ∈ w.ps) : WallAt cW cP (upd H l2 (.lst (ps.map pV))) p l1 l2 ⟨w.sz, ps, w.came, w.gone⟩ := by
  obtain ⟨dx, ho⟩ := W.ob
  have np2 : p ≠ l2 := ne_of ho W.s2 (by intro z; cases z)
  refine ⟨⟨dx, by rw [upd_ne np2]; exact ho⟩, by rw [upd_ne W.ne]; exact W.s1, upd_same, fun q hq => ?_, by rw [← W.len]; exact hl, W.few, W.ne, fun q hq => W.pn q (hm q hq)⟩
  obtain ⟨dq, h⟩ := W.pc q (hm q hq)
  exact ⟨dq, by rw [upd_ne (ne_of h W.s2 (by intro z; cases z))]; exact h⟩
theorem keeps_upd {H H1 : Hp} {p l2 : Addr} {o : HO} (s : Same H H1) : Keeps H (upd H1 l2 o) p l2 := fun b u e _ n2 => by rw [upd_ne n2]; exact s _ _ e
theorem scFe : FnScope ["self", "parcel", "box"] ["self", "parcel"] (defScope s_Wall_fetch) := ⟨rfl, rfl, rfl, by decide +kernel, rfl, by decide +kernel, by decide +kernel⟩
theorem ok_fetch {f fO cW cP cNP : Addr} {fd fdO : FuncData} (F : Fun K "fetch" "Wall.fetch" s_Wall_fetch f fd) (T : WTxt K cW) (dO : Md P w K mg base cW "box_of" ["self", "parcel"] (CXF P w) 2 (spBoxOf cW cP cNP) fO fdO) : FnOk P w K mg base (CXF P w) 3 f fd ["self", "parcel"] (spFetch cW cP cNP) := by
  refine F.okX scFe (fun vs H Q E h => ?_) (fun cdv A outer s H vs Q E hr h => ?_)
  · refine ob5_2 h (fun p l1 l2 w n eRfl _ => ?_); clear h; subst eRfl
    rfl
  · refine ob5_4 h (fun p l1 l2 w n eRfl W q2 q1 => ?_); clear h; subst eRfl
    obtain ⟨dx, ho⟩ := W.ob
    have hr2 : Room 2 _ := hr
    refine ⟨_, (pss_cons (ps_set (i := 2) scFe.nd rfl (Or.inl rfl) (pe_meth (pv 0) T.cl dO.me dO.G hr2 dO.b .nil pass_def (pa_cons (pv 1) pa_nil)))
      (pss_cons (ps_asg pe_non (pg_sub (pe_fld (pv 0) rfl) (pv 2) set_list))
      (pss_one (ps_ret (pv 2))))), ?_⟩
    try dsimp only [cxOf]
    refine (evr rfl (mk3_3 p dx _ rfl ho ⟨wf_no _ _ _ _ (by decide +kernel) (by decide +kernel) (by decide +kernel) (by decide +kernel), evr rfl (mk5_4 p l1 l2 w n rfl W q2 (fun b hb H1 s1 => ?_))⟩))
    have W1 := W.mono s1
    obtain ⟨dx1, ho1⟩ := W1.ob
    have hbl : b < w.ps.length := by rw [← held_len]; exact hb.lt
    refine (evr rfl (mk5_6 p cW dx1 _ _ rfl ho1 T.cl T.n2 (wf_parcels _ _ _ _) (evr rfl (mk4_5 l2 _ _ b rfl rfl W1.s2 (ixN_nat rfl (by rw [List.length_map]; exact hbl)) ?_))))
    refine (evr rfl (q1 b hb _ ?_ (keeps_upd s1)))
    have := W1.setPs (ps := w.ps.set b none) (by rw [List.length_set]) (fun q hq => by
      rcases List.mem_or_eq_of_mem_set hq with h | h
      · exact h
      · cases h)
    rw [set_ps] at this
    exact this
theorem join_none {ps : List (Option Pc)} {i : Nat} (hi : i < ps.length) (h : (ps[i]?.join).isNone = true) : ps[i]? = some none := by
  rw [List.getElem?_eq_getElem hi] at h ⊢
  cases e : ps[i] with
  | none => rfl
  | some q => rw [e] at h; cases h
theorem heldOf_set (w : Wl) (b : Nat) (q : Pc) (c g : Int) : heldOf ⟨w.sz, w.ps.set b (some q), c, g⟩ = (heldOf w).set b (some q.num) := by
  unfold heldOf
  rw [List.map_set]
  rfl
theorem keeps_same {H0 H2 H3 : Hp} {p l2 : Addr} (s : Same H0 H2) (k : Keeps H2 H3 p l2) (hp : H0 p = none) (h2 : H0 l2 = none) : Same H0 H3 := fun b o e => k b o (s b o e) (ne_of_none e hp) (ne_of_none e h2)
end
end Pw

set_option Elab.async false
set_option linter.all false
set_option maxRecDepth 100000
set_option maxHeartbeats 4000000
namespace Pw
open PySem L2
section
variable {P : Program} {w : World} {K : PySem.W.Frag} {mg : Str → Option Value} {base : Heap}
theorem pf_size (n z l : Int) : (pflds n z l).lookup ("size" : Str) = some (.int z) := by
  unfold pflds; rw [lookup_putF, if_neg (by decide +kernel), lookup_putF, if_pos rfl]
theorem pf_last (n z l : Int) : (pflds n z l).lookup ("last_night" : Str) = some (.int l) := by
  unfold pflds; rw [lookup_putF, if_pos rfl]
theorem scMv : FnScope ["self", "parcel", "box", "start"] ["self", "parcel", "box"] (defScope s_Wall_move) := ⟨rfl, rfl, rfl, by decide +kernel, rfl, by decide +kernel, by decide +kernel⟩
theorem flat_ints (ns : List Int) : (ns.map V.int).all flatV = true := by
  rw [List.all_eq_true]
  intro v hv
  obtain ⟨o, _, rfl⟩ := List.mem_map.mp hv
  rfl
theorem in_ints (ns : List Int) (n : Int) : inV (.int n) (ns.map V.int) = decide (n ∈ ns) := by
  unfold inV
  induction ns with
  | nil => rfl
  | cons o xs ih =>
    rw [List.map_cons, List.any_cons, ih]
    have e : eqV (.int o) (.int n) = (o == n) := rfl
    rw [e]
    by_cases h : o = n
    · simp [h]
    · have h' : ¬ n = o := fun z => h z.symm
      simp [h, h']
theorem ok_move {f fO fB cW cP cWE cNP cNB : Addr} {fd fdO fdB : FuncData} (F : Fun K "move" "Wall.move" s_Wall_move f fd) (T : WTxt K cW) (TP : PTxt K cP) (dO : Md P w K mg base cW "box_of" ["self", "parcel"] (CXF P w) 2 (spBoxOf cW cP cNP) fO fdO)
    (dB : Md P w K mg base cW "boxes_for" ["self", "size"] CX0 2 (spBoxesFor cW cP) fB fdB) (RNoBox : Rs K mg cWE cNB "NoBox") : FnOk P w K mg base (CXF P w) 3 f fd ["self", "parcel", "box"] (spMove cW cP cNP cNB) := by
  refine F.okX scMv (fun vs H Q E h => ?_) (fun cdv A outer s H vs Q E hr h => ?_)
  · refine ob6_2 h (fun p l1 l2 w n k eRfl _ => ?_); clear h; subst eRfl
    rfl
  · refine ob6_5 h (fun p l1 l2 w n k eRfl W q3 q2 q1 => ?_); clear h; subst eRfl
    obtain ⟨dx, ho⟩ := W.ob
    have hr2 : Room 2 _ := hr
    refine ⟨_, (pss_cons (ps_set (i := 3) scMv.nd rfl (Or.inl rfl) (pe_meth (pv 0) T.cl dO.me dO.G hr2 dO.b .nil pass_def (pa_cons (pv 1) pa_nil)))
      (pss_cons (ps_if (pt_cmpR op_notIn_seq (pv 2) (pe_meth (pv 0) T.cl dB.me dB.G.cxf hr2 dB.b .nil pass_def (pa_cons (pe_fld (pe_ix ix_list (pe_fld (pv 0) rfl) (pv 3) (fun _ _ => rfl)) rfl) pa_nil)) (by with_unfolding_all rfl)) (pss_one (ps_raise PySem.F.excBase_ValueError rfl passM_def rfl RNoBox.xc RNoBox.xt (by rfl) RNoBox.m (pa_cons pe_str pa_nil))) pss_nil)
      (pss_cons (ps_asg (pe_ix ix_list (pe_fld (pv 0) rfl) (pv 3) (fun _ _ => rfl)) (pg_sub (pe_fld (pv 0) rfl) (pv 2) set_list))
      (pss_one (ps_asg pe_non (pg_sub (pe_fld (pv 0) rfl) (pv 3) set_list)))))), ?_⟩
    try dsimp only [cxOf]
    refine (evr rfl (mk3_3 p dx _ rfl ho ⟨wf_no _ _ _ _ (by decide +kernel) (by decide +kernel) (by decide +kernel) (by decide +kernel), evr rfl (mk5_4 p l1 l2 w n rfl W q3 (fun a ha H1 s1 => ?_))⟩))
    have W1 := W.mono s1
    obtain ⟨dx1, ho1⟩ := W1.ob
    obtain ⟨q, hq, hn⟩ := held_at ha.1
    obtain ⟨dq, hqo⟩ := W1.pc q (List.mem_of_getElem? hq)
    have hal : a < w.ps.length := (List.getElem?_eq_some_iff.mp hq).1
    refine ⟨_, rfl, _, rfl, p, dx1, _, rfl, ho1, wf_no _ _ _ _ (by decide +kernel) (by decide +kernel) (by decide +kernel) (by decide +kernel), _, rfl, p, cW, dx1, _, _, rfl, ho1, T.cl, T.n2, wf_parcels _ _ _ _, _, rfl, l2, _, _, _, rfl, rfl, SqL.of W1.s2, ps_at hq,
      q.ad, cP, dq, _, _, rfl, hqo, TP.cl, TP.n2, pf_size _ _ _, p, l1, l2, w, q.size, rfl, W1, fun r H2 n2 s2 h2 => ?_⟩
    refine ⟨r, evr rfl ⟨.inl (SqL.of h2), rfl, flat_ints _, evr rfl ?_⟩⟩
    rw [in_ints]
    have s3 := s1.trans s2
    by_cases hm : k ∈ boxesFor w q.size
    · refine iteFe (by rw [decide_eq_true hm]; rfl) ?_
      obtain ⟨b, rfl, hb⟩ := boxes_mem.mp hm
      have W2 := W1.mono s2
      obtain ⟨dx2, ho2⟩ := W2.ob
      have np2 : p ≠ l2 := ne_of ho2 W2.s2 (by intro z; cases z)
      have hab : a ≠ b := fun z => by
        have := hb.2.1
        rw [← z, hq] at this
        cases this
      refine (evr rfl (mk5_6 p cW dx2 _ _ rfl ho2 T.cl T.n2 (wf_parcels _ _ _ _) (evr rfl (ix4 (p := l2) (SqL.of W2.s2) (ps_at hq) (evr rfl (mk5_6 p cW dx2 _ _ rfl ho2 T.cl T.n2 (wf_parcels _ _ _ _) (evr rfl (mk4_5 l2 _ _ b rfl rfl W2.s2 (ixN_nat rfl (by rw [List.length_map]; exact hb.1)) ?_))))))))
      refine (evr rfl (mk5_6 p cW dx2 _ _ rfl (by rw [upd_ne np2]; exact ho2) T.cl T.n2 (wf_parcels _ _ _ _) (evr rfl (mk4_5 l2 _ _ a rfl rfl upd_same (ixN_nat rfl (by rw [List.length_set, List.length_map]; exact hal)) ?_))))
      rw [upd_upd]
      refine q1 a q b ha hq rfl hb _ ?_ (keeps_upd s3)
      have e : (w.ps.set b (w.ps[a]?.join)).set a none = (w.ps.set b (some q)).set a none := by rw [hq]; rfl
      have := W2.setPs (ps := (w.ps.set b (some q)).set a none) (by rw [List.length_set, List.length_set]) (fun c hc => by
        rcases List.mem_or_eq_of_mem_set hc with h | h
        · rcases List.mem_or_eq_of_mem_set h with h | h
          · exact h
          · rw [h]; exact List.mem_of_getElem? hq
        · cases h)
      unfold Wl.moved
      rw [e]
      rw [List.map_set, List.map_set] at this
      exact this
    · refine iteTe (by rw [decide_eq_false hm]; rfl) ?_
      exact ⟨(by show 1 ≤ sizeLine; decide), q2 a q ha hq (fun b hb hf => hm (boxes_mem.mpr ⟨b, hb, hf⟩)) _ s3⟩
end
end Pw

set_option Elab.async false
set_option linter.all false
set_option maxRecDepth 100000
set_option maxHeartbeats 4000000
namespace Pw
open PySem L2
section
variable {P : Program} {w : World} {K : PySem.W.Frag} {mg : Str → Option Value} {base : Heap}
theorem scSz : FnScope ["self", "parcel"] ["self", "parcel"] (defScope s_Wall_size_of) := ⟨rfl, rfl, rfl, by decide +kernel, rfl, by decide +kernel, by decide +kernel⟩
theorem ok_sizeOf {f fO cW cP cNP : Addr} {fd fdO : FuncData} (F : Fun K "size_of" "Wall.size_of" s_Wall_size_of f fd) (T : WTxt K cW) (TP : PTxt K cP) (dO : Md P w K mg base cW "box_of" ["self", "parcel"] (CXF P w) 2 (spBoxOf cW cP cNP) fO fdO) : FnOk P w K mg base (CXF P w) 3 f fd ["self", "parcel"] (spTells (fun _ q => q.size) cW cP cNP) := by
  refine F.okX scSz (fun vs H Q E h => ?_) (fun cdv A outer s H vs Q E hr h => ?_)
  · refine ob5_2 h (fun p l1 l2 w n eRfl _ => ?_); clear h; subst eRfl
    rfl
  · refine ob5_4 h (fun p l1 l2 w n eRfl W q2 q1 => ?_); clear h; subst eRfl
    obtain ⟨dx, ho⟩ := W.ob
    have hr2 : Room 2 _ := hr
    refine ⟨_, (pss_one (ps_ret (pe_fld (pe_ix ix_list (pe_fld (pv 0) rfl) (pe_meth (pv 0) T.cl dO.me dO.G hr2 dO.b .nil pass_def (pa_cons (pv 1) pa_nil)) (fun _ _ => rfl)) rfl))), ?_⟩
    try dsimp only [cxOf]
    refine (evr rfl (mk5_6 p cW dx _ _ rfl ho T.cl T.n2 (wf_parcels _ _ _ _) (evr rfl (mk3_4 p dx _ rfl ho (wf_no _ _ _ _ (by decide +kernel) (by decide +kernel) (by decide +kernel) (by decide +kernel)) (evr rfl (mk5_4 p l1 l2 w n rfl W q2 (fun b hb H1 s1 => ?_)))))))
    have W1 := W.mono s1
    obtain ⟨r, hr', _⟩ := held_at hb.1
    obtain ⟨dq, hq⟩ := W1.pc r (List.mem_of_getElem? hr')
    exact (ix4 (p := l2) (SqL.of W1.s2) (ps_at hr') (mk5_6 r.ad cP dq _ _ rfl hq TP.cl TP.n2 (pf_size _ _ _) (q1 b r hb hr' H1 s1)))
theorem scLe : FnScope ["self", "parcel"] ["self", "parcel"] (defScope s_Wall_left) := ⟨rfl, rfl, rfl, by decide +kernel, rfl, by decide +kernel, by decide +kernel⟩
theorem ok_left {f fO cW cP cNP : Addr} {fd fdO : FuncData} (F : Fun K "left" "Wall.left" s_Wall_left f fd) (T : WTxt K cW) (TP : PTxt K cP) (dO : Md P w K mg base cW "box_of" ["self", "parcel"] (CXF P w) 2 (spBoxOf cW cP cNP) fO fdO) : FnOk P w K mg base (CXF P w) 3 f fd ["self", "parcel"] (spTells (fun w q => q.last - w.gone) cW cP cNP) := by
  refine F.okX scLe (fun vs H Q E h => ?_) (fun cdv A outer s H vs Q E hr h => ?_)
  · refine ob5_2 h (fun p l1 l2 w n eRfl _ => ?_); clear h; subst eRfl
    rfl
  · refine ob5_4 h (fun p l1 l2 w n eRfl W q2 q1 => ?_); clear h; subst eRfl
    obtain ⟨dx, ho⟩ := W.ob
    have hr2 : Room 2 _ := hr
    refine ⟨_, (pss_one (ps_ret (pe_op op_sub (pe_fld (pe_ix ix_list (pe_fld (pv 0) rfl) (pe_meth (pv 0) T.cl dO.me dO.G hr2 dO.b .nil pass_def (pa_cons (pv 1) pa_nil)) (fun _ _ => rfl)) rfl) (pe_fld (pv 0) rfl)))), ?_⟩
    try dsimp only [cxOf]
    refine (evr rfl (mk5_6 p cW dx _ _ rfl ho T.cl T.n2 (wf_parcels _ _ _ _) (evr rfl (mk3_4 p dx _ rfl ho (wf_no _ _ _ _ (by decide +kernel) (by decide +kernel) (by decide +kernel) (by decide +kernel)) (evr rfl (mk5_4 p l1 l2 w n rfl W q2 (fun b hb H1 s1 => ?_)))))))
    have W1 := W.mono s1
    obtain ⟨dx1, ho1⟩ := W1.ob
    obtain ⟨r, hr', _⟩ := held_at hb.1
    obtain ⟨dq, hq⟩ := W1.pc r (List.mem_of_getElem? hr')
    exact (ix4 (p := l2) (SqL.of W1.s2) (ps_at hr') (mk5_6 r.ad cP dq _ _ rfl hq TP.cl TP.n3 (pf_last _ _ _) (evr rfl (mk5_6 p cW dx1 _ _ rfl ho1 T.cl T.n4 (wf_gone _ _ _ _) (ev2 rfl rfl (q1 b r hb hr' H1 s1))))))
end
end Pw

set_option Elab.async false
set_option linter.all false
set_option maxRecDepth 100000
set_option maxHeartbeats 4000000
namespace Pw
open PySem L2
section
variable {P : Program} {w : World} {K : PySem.W.Frag} {mg : Str → Option Value} {base : Heap}
/-! ### a wall with drawn parcels -/
/-- sizes of parcels in the boxes -/
def insOk (sz : List Int) (ins : List (Option Int)) : Prop := ins.length = sz.length ∧ ∀ (i : Nat) z, ins[i]? = some (some z) → 1 ≤ z ∧ z ≤ sz.getD i 0
def spFilledBy (K : PySem.W.Frag) : Sp := fun vs H Q _ => ∃ (a c : Addr) (ns : List Int) (b : Int) (sz : List Int), vs = [.ref a, .int b, .ref c] ∧ SqL K H a (ns.map V.int) ∧ ns.length ≤ 63 ∧ 0 ≤ b ∧ b < 10000 ∧ SqL K H c (sz.map V.int) ∧ okSizes sz = true ∧ ∀ ins, insOk sz ins → tells H (ins.map oV) Q
theorem scFB : FnScope ["script", "base", "sizes", "held", "box"] ["script", "base", "sizes"] (defScope s__law_filled_by) := ⟨rfl, rfl, rfl, by decide +kernel, rfl, by decide +kernel, by decide +kernel⟩
theorem nones_o (n : Nat) : List.replicate n V.non = (List.replicate n (none : Option Int)).map oV := by rw [List.map_replicate]; rfl
theorem ok_filledBy {f fD : Addr} {fd fdD : FuncData} (F : Fun K "_law_filled_by" "_law_filled_by" s__law_filled_by f fd) (gD : Gd P w K mg base "_law_drawn" s__law_drawn ["script", "k", "many"] CX0 1 (spDrawn K) fD fdD) (mrange : mg "range" = none) (mlen : mg "len" = none) : FnOk P w K mg base CX0 2 f fd ["script", "base", "sizes"] (spFilledBy K) := by
  refine F.ok scFB (fun vs H Q E h => ?_) (fun cdv A outer s H vs Q E hr h => ?_)
  · refine ob5_2 h (fun a c ns b sz eRfl _ => ?_); clear h; subst eRfl
    rfl
  · refine ob5_8 h (fun a c ns b sz eRfl hS hl hb0 hb1 hc hok q => ?_); clear h; subst eRfl
    have o1 := (okSizes_all hok).1
    have o2 := (okSizes_all hok).2.1
    have o3 := (okSizes_all hok).2.2
    have hr1 : Room 1 _ := hr
    refine ⟨_, (pss_cons (ps_setC (i := 3) scFB.nd rfl rfl rfl (N := ["size"]) (src := [none]) (blk (osc := defScope s__law_filled_by) (oN := ["script", "base", "sizes", "held", "box"]) rfl rfl (by decide +kernel)) (pi_list (pv 2)) (fun C s₀ H₀ ex pn => pg_name (i := 0) (show (["size"] : List Str).Nodup by decide +kernel) rfl (Or.inl rfl) (Or.inr rfl)) (fun C s₀ H₀ ex pn => pts_nil) (fun C s₀ H₀ ex pn => pe_non))
      (pss_cons (ps_for PassesOwn.never rfl (pi_range1 (by rfl) mrange (pa_cons (pe_callB call_len_seq (by rfl) mlen PySem.boot_len (pa_cons (pv 2) pa_nil)) pa_nil)) (pg_name (i := 4) scFB.nd rfl (Or.inl rfl)) (pss_one (ps_if (pt_cmpR op_gt (pe_call gD.G hr1 (by rfl) gD.m gD.F.kp gD.b .nil pass0 (pa_cons (pv 0) (pa_cons (pe_op op_add (pv 1) (pe_op op_mul pe_int (pv 4))) (pa_cons pe_int pa_nil)))) pe_int (nomark _)) (pss_one (ps_asg (pe_op op_add pe_int (pe_call gD.G hr1 (by rfl) gD.m gD.F.kp gD.b .nil pass0 (pa_cons (pv 0) (pa_cons (pe_op op_add (pe_op op_add (pv 1) (pe_op op_mul pe_int (pv 4))) pe_int) (pa_cons (pe_ix ix_list (pv 2) (pv 4) (fun _ _ => rfl)) pa_nil))))) (pg_sub (pv 3) (pv 4) set_list))) pss_nil)))
      (pss_one (ps_ret (pv 3))))), ?_⟩
    try dsimp only [cxOf]
    refine (evr rfl ⟨c, rfl, ⟨_, hc⟩, fun D hD => nones_comp hc hD (by rw [List.length_map]; (first | lia | omega)) fun H1 s1 hD1 _ => ?_⟩)
    rw [List.length_map] at hD1
    refine (evr rfl (mk2_2 c _ rfl ⟨.inl (s1.seq hc), evr rfl ⟨(by rw [List.length_map]; (first | lia | omega)), (by rw [List.length_map]; (first | lia | omega)), ?_⟩⟩))
    have el : ((sz.map V.int).length : Int).toNat = sz.length := by rw [List.length_map]; (first | lia | omega)
    rw [el]
    refine abs3k (fun i σ H2 => ∃ v ins, σ = [some (.ref a), some (.int b), some (.ref c), some (.ref D), v] ∧ Same H H2 ∧ H2 D = some (.lst (ins.map oV)) ∧ insOk sz ins) fun Pv hv => ?_
    refine for_range (n := sz.length) Pv ((hv _ _ _).mpr ⟨none, List.replicate sz.length none, rfl, s1, by rw [hD1, nones_o], by rw [List.length_replicate], fun i z hz => by have := List.eq_of_mem_replicate (List.mem_of_getElem? hz); cases this⟩) ?_ ?_
    · intro i σ H2 hi hP
      have hP := (hv _ _ _).mp hP
      refine ob2_4 hP (fun v ins eRfl s2 hD2 hin => ?_); clear hP; subst eRfl
      have c2 : CMul 2 (0 + (i : Int)) := .inl ⟨by decide, by decide⟩
      refine (ev3r rfl rfl rfl (ev2 rfl rfl ⟨c2, ev2 rfl rfl ⟨a, ns, b + 2 * (0 + (i : Int)), 6, rfl, s2.seq hS, hl, by (first | lia | omega), by (first | lia | omega), by decide, by decide, ev2 rfl rfl (evr rfl (ite2 (fun _ => ?_) (fun _ => (hv _ _ _).mpr (mk2_4 _ ins rfl s2 hD2 hin))))⟩⟩))
      have hz := o3 sz[i] (List.getElem_mem hi)
      have e1 := drawn_lo ns (b + 2 * (0 + (i : Int)) + 1) (many := sz[i]) (by (first | lia | omega))
      have e2 := drawn_hi ns (b + 2 * (0 + (i : Int)) + 1) (many := sz[i]) (by (first | lia | omega))
      refine (ev3r rfl rfl rfl (ev2 rfl rfl ⟨c2, ev2 rfl rfl (ev2 rfl rfl (evv rfl rfl (ix4 (p := c) (s2.seq hc) (at_int hi) ⟨a, ns, b + 2 * (0 + (i : Int)) + 1, sz[i], rfl, s2.seq hS, hl, by (first | lia | omega), by (first | lia | omega), by (first | lia | omega), by (first | lia | omega), ev2 rfl rfl (evv rfl rfl (mk4_5 D _ _ i rfl rfl hD2 (ixN_nat (Int.zero_add _) (by rw [List.length_map, hin.1]; exact hi)) ?_))⟩)))⟩))
      refine (hv _ _ _).mpr ⟨_, ins.set i (some (1 + drawn ns (b + 2 * (0 + (i : Int)) + 1) sz[i])), rfl, same_put s2 hD, ?_, by rw [List.length_set]; exact hin.1, fun j z hj => ?_⟩
      · rw [upd_same, List.map_set]; rfl
      · by_cases hji : j = i
        · subst hji
          rw [List.getElem?_set_self (by rw [hin.1]; exact hi)] at hj
          cases hj
          have : sz.getD j 0 = sz[j] := by simp [hi]
          rw [this]
          (first | lia | omega)
        · rw [List.getElem?_set_ne (fun z => hji z.symm)] at hj
          exact hin.2 j z hj
    · intro σ H2 hP
      have hP := (hv _ _ _).mp hP
      refine ob2_4 hP (fun v ins eRfl s2 hD2 hin => ?_); clear hP; subst eRfl
      exact (evr rfl (q ins hin D H2 hD s2 hD2))
/-- how many are there -/
def cnt (ps : List (Option Pc)) : Nat := (ps.filter Option.isSome).length
theorem cnt_set : ∀ {ps : List (Option Pc)} {b : Nat} {q : Pc}, ps[b]? = some none → cnt (ps.set b (some q)) = cnt ps + 1
  | o :: ps, 0, q, h => by
    cases h
    simp [cnt]
  | o :: ps, b + 1, q, h => by
    have := cnt_set (ps := ps) (b := b) (q := q) h
    cases o with
    | none => simpa [cnt] using this
    | some z => simp [cnt] at this ⊢; (first | lia | omega)
/-- a wall with the parcels of the sizes ins put in, behind one that came and was fetched -/
structure Filled (Z : List Int) (ins : List (Option Int)) (w : Wl) : Prop where
  sz : w.sz = Z
  len : w.ps.length = Z.length
  size : ∀ i : Nat, (w.ps[i]?.join).map (·.size) = ins[i]?.join
  gone : w.gone = 0
  came : w.came = 1 + (cnt w.ps : Nat)
  num : ∀ (i : Nat) q, w.ps[i]? = some (some q) → 1 ≤ q.num ∧ q.num < w.came ∧ q.last = 9
  inj : ∀ (i j : Nat) q r, w.ps[i]? = some (some q) → w.ps[j]? = some (some r) → q.num = r.num → i = j
def spSideOf (K : PySem.W.Frag) (cW cP : Addr) : Sp := fun vs H Q _ => ∃ (a b : Addr) (sz : List Int) (ins : List (Option Int)), vs = [.ref a, .ref b] ∧ SqL K H a (sz.map V.int) ∧ okSizes sz = true ∧ SqL K H b (ins.map oV) ∧ insOk sz ins ∧
  ∀ (t p l1 l2 lh : Addr) (w : Wl) (H' : Hp), Same H H' → H t = none → H p = none → H l1 = none → H l2 = none → H lh = none → lh ≠ p → lh ≠ l1 → lh ≠ l2 → (∀ q, some q ∈ w.ps → H q.ad = none ∧ q.ad ≠ lh) → H' t = some (.tup [.ref p, .ref lh]) → H' lh = some (.lst ((heldOf w).map oV)) → WallAt cW cP H' p l1 l2 w → Filled sz ins w → Q (.ref t) H'
end
end Pw

set_option Elab.async false
set_option linter.all false
set_option maxRecDepth 100000
set_option maxHeartbeats 4000000
namespace Pw
open PySem L2
section
variable {P : Program} {w : World} {K : PySem.W.Frag} {mg : Str → Option Value} {base : Heap}
/-- the boxes S have their parcels -/
structure Part (Z : List Int) (ins : List (Option Int)) (S : Nat → Prop) (w : Wl) : Prop where
  sz : w.sz = Z
  len : w.ps.length = Z.length
  size : ∀ i : Nat, S i → (w.ps[i]?.join).map (·.size) = ins[i]?.join
  emp : ∀ i : Nat, ¬ S i → i < Z.length → w.ps[i]? = some none
  gone : w.gone = 0
  came : w.came = 1 + (cnt w.ps : Nat)
  num : ∀ (i : Nat) q, w.ps[i]? = some (some q) → 1 ≤ q.num ∧ q.num < w.came ∧ q.last = 9
  inj : ∀ (i j : Nat) q r, w.ps[i]? = some (some q) → w.ps[j]? = some (some r) → q.num = r.num → i = j
theorem Part.skip {sz : List Int} {ins : List (Option Int)} {S S' : Nat → Prop} {w : Wl} {j : Nat} (h : Part sz ins S w) (hj : ¬ S j) (hl : j < sz.length) (hi : ins[j]? = some none) (hS : ∀ i, S' i ↔ S i ∨ i = j) : Part sz ins S' w where
  sz := h.sz
  len := h.len
  size := fun i hi' => by
    rcases (hS i).mp hi' with z | z
    · exact h.size i z
    · subst z; rw [h.emp i hj hl, hi]; rfl
  emp := fun i hi' hl => h.emp i (fun z => hi' ((hS i).mpr (.inl z))) hl
  gone := h.gone
  came := h.came
  num := h.num
  inj := h.inj
theorem Part.put {sz : List Int} {ins : List (Option Int)} {S S' : Nat → Prop} {w : Wl} {j : Nat} {ad : Addr} {z : Int} (h : Part sz ins S w) (hj : ¬ S j) (hl : j < sz.length) (hi : ins[j]? = some (some z)) (hS : ∀ i, S' i ↔ S i ∨ i = j) :
    Part sz ins S' ⟨w.sz, w.ps.set j (some ⟨ad, w.came, z, w.gone + 9⟩), w.came + 1, w.gone⟩ := by
  have hjl : j < w.ps.length := by rw [h.len]; exact hl
  have at_j : (w.ps.set j (some ⟨ad, w.came, z, w.gone + 9⟩))[j]? = some (some ⟨ad, w.came, z, w.gone + 9⟩) := List.getElem?_set_self hjl
  have at_i : ∀ i, i ≠ j → (w.ps.set j (some ⟨ad, w.came, z, w.gone + 9⟩))[i]? = w.ps[i]? := fun i hij => List.getElem?_set_ne (fun e => hij e.symm)
  refine ⟨h.sz, by rw [List.length_set]; exact h.len, fun i hi' => ?_, fun i hi' hl' => ?_, h.gone, ?_, fun i q hq => ?_, fun i k q r hq hr e => ?_⟩
  · by_cases e : i = j
    · subst e; show ((w.ps.set i _)[i]?.join).map _ = _; rw [at_j, hi]; rfl
    · show ((w.ps.set j _)[i]?.join).map _ = _; rw [at_i i e]
      exact h.size i (((hS i).mp hi').resolve_right e)
  · have hij : i ≠ j := fun e => hi' ((hS i).mpr (.inr e))
    show (w.ps.set j _)[i]? = _
    rw [at_i i hij]; exact h.emp i (fun z => hi' ((hS i).mpr (.inl z))) hl'
  · show w.came + 1 = 1 + (cnt (w.ps.set j _) : Nat)
    rw [cnt_set (h.emp j hj hl), h.came]; (first | lia | omega)
  · have hq : (w.ps.set j (some ⟨ad, w.came, z, w.gone + 9⟩))[i]? = some (some q) := hq
    show 1 ≤ q.num ∧ q.num < w.came + 1 ∧ q.last = 9
    by_cases e : i = j
    · subst e; rw [at_j] at hq; cases hq
      have := h.came; have := h.gone
      exact ⟨by show 1 ≤ w.came; (first | lia | omega), by show w.came < w.came + 1; (first | lia | omega), by show w.gone + 9 = 9; (first | lia | omega)⟩
    · rw [at_i i e] at hq
      have := h.num i q hq
      exact ⟨this.1, by (first | lia | omega), this.2.2⟩
  · have hq : (w.ps.set j (some ⟨ad, w.came, z, w.gone + 9⟩))[i]? = some (some q) := hq
    have hr : (w.ps.set j (some ⟨ad, w.came, z, w.gone + 9⟩))[k]? = some (some r) := hr
    by_cases ei : i = j
    · by_cases ek : k = j
      · rw [ei, ek]
      · rw [at_i k ek] at hr; have := (h.num k r hr).2.1
        subst ei; rw [at_j] at hq; cases hq
        have e : w.came = r.num := e
        (first | lia | omega)
    · rw [at_i i ei] at hq
      have hq2 := (h.num i q hq).2.1
      by_cases ek : k = j
      · subst ek; rw [at_j] at hr; cases hr
        have e : q.num = w.came := e
        (first | lia | omega)
      · rw [at_i k ek] at hr
        exact h.inj i k q r hq hr e
theorem first_new {w : Wl} {b0 : Nat} {q : Pc} (hb : b0 < w.ps.length) (hn : ∀ (i : Nat) r, w.ps[i]? = some (some r) → r.num ≠ q.num) (c g : Int) : FirstAt (heldOf ⟨w.sz, w.ps.set b0 (some q), c, g⟩) q.num b0 := by
  rw [heldOf_set]
  refine ⟨List.getElem?_set_self (by rw [held_len]; exact hb), fun m hm z => ?_⟩
  rw [List.getElem?_set_ne (by (first | lia | omega))] at z
  obtain ⟨r, hr, e⟩ := held_at z
  exact hn m r hr e
theorem moved_put {w : Wl} {b0 j : Nat} {q : Pc} (hb : w.ps[b0]? = some none) (hj : j < w.ps.length) (hne : b0 ≠ j) (c g : Int) : (Wl.moved ⟨w.sz, w.ps.set b0 (some q), c, g⟩ b0 j) = ⟨w.sz, w.ps.set j (some q), c, g⟩ := by
  unfold Wl.moved
  have hbl : b0 < w.ps.length := (List.getElem?_eq_some_iff.mp hb).1
  simp only
  rw [List.getElem?_set_self hbl]
  congr 1
  refine List.ext_getElem? fun i => ?_
  by_cases e : i = b0
  · subst e
    rw [List.getElem?_set_self (by simp; exact hbl), List.getElem?_set_ne (by (first | lia | omega)), hb]
  · rw [List.getElem?_set_ne (by (first | lia | omega))]
    by_cases e2 : i = j
    · subst e2
      rw [List.getElem?_set_self (by simp; exact hj), List.getElem?_set_self hj]
      rfl
    · rw [List.getElem?_set_ne (by (first | lia | omega)), List.getElem?_set_ne (by (first | lia | omega)), List.getElem?_set_ne (by (first | lia | omega))]
theorem scSO : FnScope ["sizes", "inside", "side", "held", "boxes", "box", "number"] ["sizes", "inside"] (defScope s__law_side_of) := ⟨rfl, rfl, rfl, by decide +kernel, rfl, by decide +kernel, by decide +kernel⟩
theorem ok_sideOf {f fI fC fF fM fH cW cP cNW cNS cNN cNB cNP : Addr} {fd fdI fdC fdF fdM fdH : FuncData} (F : Fun K "_law_side_of" "_law_side_of" s__law_side_of f fd) (T : WTxt K cW) (MW : Mk K cW fI) (bI : Binds K fdI ["self", "sizes"] []) (GI : FnOk P w K mg base (CXF P w) 3 fI fdI ["self", "sizes"] (spInit K cW cP cNW)) (mW : mg "Wall" = some (.ref cW))
    (dC : Md P w K mg base cW "come" ["self", "size", "nights"] (CXF P w) 4 (spCome cW cP cNS cNN cNB) fC fdC) (dF : Md P w K mg base cW "fetch" ["self", "parcel"] (CXF P w) 3 (spFetch cW cP cNP) fF fdF) (dM : Md P w K mg base cW "move" ["self", "parcel", "box"] (CXF P w) 3 (spMove cW cP cNP cNB) fM fdM)
    (dH : Md P w K mg base cW "held" ["self"] CX0 1 (spHeld cW cP) fH fdH) (mrange : mg "range" = none) (mlen : mg "len" = none) (mlist : mg "list" = none) : FnOk P w K mg base CX0 5 f fd ["sizes", "inside"] (spSideOf K cW cP) := by
  refine F.ok scSO (fun vs H Q E h => ?_) (fun cdv A outer s H vs Q E hr h => ?_)
  · refine ob4_2 h (fun a b sz ins eRfl _ => ?_); clear h; subst eRfl
    rfl
  · refine ob4_6 h (fun a b sz ins eRfl ha hok hb hin q => ?_); clear h; subst eRfl
    have o1 := (okSizes_all hok).1
    have o2 := (okSizes_all hok).2.1
    have o3 := (okSizes_all hok).2.2
    have hr4 : Room 4 _ := hr
    have hr3 : Room 3 _ := hr.mono (by decide)
    have hr1 : Room 1 _ := hr.mono (by decide)
    have wn : ∀ {l1 l2 : Addr} {c g : Int} {m : Str}, ¬ m = "box_sizes" → ¬ m = "parcels" → ¬ m = "came" → ¬ m = "nights_gone" → (wflds l1 l2 c g).lookup m = none := fun h1 h2 h3 h4 => wf_no _ _ _ _ h1 h2 h3 h4
    have tail : ∃ t, PSs (cxOf CX0 P w K mg base ["sizes", "inside", "side", "held", "boxes", "box", "number"] "_law_side_of" (defScope s__law_side_of) f cdv A outer s H E).nox ((defBody s__law_side_of).drop 5) t ∧
        ∀ (p l1 l2 lh lb : Addr) (ord : List Nat) (H5 : Hp), ord.Nodup → (∀ i, i ∈ ord ↔ i < sz.length) → Same H H5 → H p = none → H l1 = none → H l2 = none → H lh = none → H lb = none → lh ≠ p → lh ≠ l1 → lh ≠ l2 → lb ≠ p → lb ≠ l1 → lb ≠ l2 → lb ≠ lh →
          WallAt cW cP H5 p l1 l2 ⟨sz, List.replicate sz.length none, 1, 0⟩ → H5 lh = some (.lst (List.replicate sz.length .non)) → H5 lb = some (.lst (ord.map fun i : Nat => V.int i)) → t { nx := fun _ H' => Q .non H', rt := Q } [some (.ref a), some (.ref b), some (.ref p), some (.ref lh), some (.ref lb), none, none] H5 := by
      refine ⟨_, (pss_cons (ps_for PassesOwn.never rfl (pi_list (pv 4)) (pg_name (i := 5) scSO.nd rfl (Or.inl rfl)) (pss_one (ps_if (pt_cmp (pc_notN (pe_ix ix_list (pv 1) (pv 5) (fun _ _ => rfl)))) (pss_cons (ps_set (i := 6) scSO.nd rfl (Or.inl rfl) (pe_meth (pv 2) T.cl dC.me dC.G hr4 dC.b .nil passF (pa_cons (pe_ix ix_list (pv 1) (pv 5) (fun _ _ => rfl)) (pa_cons pe_int pa_nil))))
      (pss_cons (ps_if (pt_cmpR op_ne (pe_bm PySem.F.plainAttrs_list PySem.F.slot_list_index PySem.F.type_list_index mt_index (pe_meth0 (pv 2) T.cl dH.me dH.G hr1 dH.b .nil pass0) (pa_cons (pv 6) pa_nil)) (pv 5) (nomark _)) (pss_one (ps_expr (pe_meth (pv 2) T.cl dM.me dM.G hr3 dM.b .nil passF (pa_cons (pv 6) (pa_cons (pv 5) pa_nil))))) pss_nil)
      (pss_one (ps_asg (pv 6) (pg_sub (pv 3) (pv 5) set_list))))) pss_nil)))
      (pss_one (ps_ret (pe_tup (pa_cons (pv 2) (pa_cons (pv 3) pa_nil)))))), ?_⟩
      try dsimp only [cxOf]
      intro p l1 l2 lh lb ord H5 hnd hord s5 np nl1 nl2 nlh nlb x1 x2 x3 y1 y2 y3 y4 W5 hl5 hb5
      refine abs3k (fun i σ H2 => ∃ v5 v6 w, σ = [some (.ref a), some (.ref b), some (.ref p), some (.ref lh), some (.ref lb), v5, v6] ∧ Same H H2 ∧ WallAt cW cP H2 p l1 l2 w ∧ H2 lh = some (.lst ((heldOf w).map oV)) ∧ H2 lb = some (.lst (ord.map fun i : Nat => V.int i)) ∧ Part sz ins (fun j => j ∈ ord.take i) w ∧ ∀ q, some q ∈ w.ps → H q.ad = none ∧ q.ad ≠ lh) fun Pv hv => ?_
      refine ⟨_, rfl, lb, rfl, ⟨_, SqL.of hb5⟩, for_list (K := K) (a := lb) (xs := ord.map fun i : Nat => V.int i) Pv
        ((hv _ _ _).mpr ⟨none, none, _, rfl, s5, W5, ?_, hb5, ?_, ?_⟩) ?_ ?_ ?_⟩
      · rw [hl5]
        show _ = some (HO.lst (((List.replicate sz.length (none : Option Pc)).map fun o => o.map (·.num)).map oV))
        rw [List.map_replicate, List.map_replicate]; rfl
      · refine ⟨rfl, by rw [List.length_replicate], fun i hi => ?_, fun i _ hi => ?_, rfl, ?_, fun i q hq => ?_, fun i j q r hq => ?_⟩
        · rw [List.take_zero] at hi; cases hi
        · show (List.replicate _ _)[i]? = _
          rw [List.getElem?_replicate, if_pos hi]
        · show (1 : Int) = 1 + (cnt (List.replicate sz.length none) : Nat)
          have : cnt (List.replicate sz.length (none : Option Pc)) = 0 := by unfold cnt; simp
          rw [this]; rfl
        · have := List.eq_of_mem_replicate (List.mem_of_getElem? hq); cases this
        · have := List.eq_of_mem_replicate (List.mem_of_getElem? hq); cases this
      · intro q hq; have := List.eq_of_mem_replicate hq; cases this
      · intro i σ H2 _ hP
        have hP := (hv _ _ _).mp hP
        obtain ⟨_, _, _, _, _, _, _, h, _⟩ := hP
        exact SqL.of h
      · intro i x σ H2 hx hP
        have hP := (hv _ _ _).mp hP
        refine ob3_7 hP (fun v5 v6 w eRfl s2 W2 hh2 hb2 pt had => ?_); clear hP; subst eRfl
        rw [List.getElem?_map] at hx
        obtain ⟨j, hj, hx⟩ := Option.map_eq_some_iff.mp hx
        · subst hx
          refine shut fun g kk => ?_
          have hil : i < ord.length := (List.getElem?_eq_some_iff.mp hj).1
          have eij : ord[i] = j := (List.getElem?_eq_some_iff.mp hj).2
          have hjl : j < sz.length := (hord j).mp (List.mem_of_getElem? hj)
          have hnot : ¬ j ∈ ord.take i := fun z => by
            obtain ⟨k, hk, ek⟩ := List.mem_iff_getElem.mp z
            rw [List.length_take] at hk
            rw [List.getElem_take] at ek
            have := (List.getElem_inj hnd).mp (ek.trans eij.symm)
            (first | lia | omega)
          have hS : ∀ k, k ∈ ord.take (i + 1) ↔ k ∈ ord.take i ∨ k = j := fun k => by
            rw [List.take_succ_eq_append_getElem hil, List.mem_append, List.mem_singleton, eij]
          have hjin : j < ins.length := by rw [hin.1]; exact hjl
          have hat : atI (ins.map oV) ((j : Nat) : Int) = some (oV ins[j]) := atI_nat (by rw [List.getElem?_map, List.getElem?_eq_getElem hjin]; rfl)
          have hix : ins[j]? = some ins[j] := List.getElem?_eq_getElem hjin
          have hb2' := s2.seq hb
          obtain ⟨dx2, ho2⟩ := W2.ob
          cases e : ins[j] with
          | none =>
            rw [e] at hat hix
            exact kk (evv rfl rfl (ix4 (p := b) hb2' hat (evr rfl (iteF ((hv _ _ _).mpr (mk3_7 _ _ w rfl s2 W2 hh2 hb2 (pt.skip hnot hjl hix hS) had))))))
          | some z =>
            rw [e] at hat hix
            have hz := hin.2 j z hix
            have hsz : w.sz.getD j 0 ≤ 9 := by
              rw [pt.sz]
              have : sz.getD j 0 = sz[j] := by simp [hjl]
              rw [this]; exact (o3 _ (List.getElem_mem hjl)).2
            have hps : w.ps[j]? = some none := pt.emp j hnot hjl
            have hjp : j < w.ps.length := by rw [pt.len]; exact hjl
            have fj : fitsAt w z j := ⟨hjp, by rw [hps]; rfl, by rw [pt.sz]; exact hz.2⟩
            have okz : okNum z = true := by
              unfold okNum
              have : sz.getD j 0 ≤ 9 := by rw [← pt.sz]; exact hsz
              rw [decide_eq_true hz.1, decide_eq_true (by (first | lia | omega))]; rfl
            refine kk ?_
            refine (evv rfl rfl (ix4 (p := b) hb2' hat (evr rfl (iteT ?_))))
            refine seq_gen fun U hU => ?_
            refine (evr rfl (mk3_3 p dx2 _ rfl ho2 ⟨wn (by decide +kernel) (by decide +kernel) (by decide +kernel) (by decide +kernel), evv rfl rfl (ix4 (p := b) hb2' hat (mk6_6 p l1 l2 w z 9 rfl W2 (fun c => by rw [okz] at c; cases c) (fun _ c => by cases c) (fun _ _ c => absurd fj (c j)) (fun _ _ b0 hb0 ad H3 hadn W3 k3 => gN ?_)))⟩))
            subst hU
            dsimp only
            have s3 := keeps_same s2 k3 np nl2
            have nad : H ad = none := s2.free hadn
            have adlh : ad ≠ lh := fun z => by rw [z, hh2] at hadn; cases hadn
            have hh3 : H3 lh = some (.lst ((heldOf w).map oV)) := k3 _ _ hh2 x1 x3
            have hb3 : H3 lb = some (.lst (ord.map fun i : Nat => V.int i)) := k3 _ _ hb2 y1 y3
            have hb0l : b0 < w.ps.length := hb0.1.1
            have hb0n : w.ps[b0]? = some none := join_none hb0l hb0.1.2.1
            have fst : FirstAt (heldOf (w.comes b0 ad z 9)) w.came b0 := first_new (q := ⟨ad, w.came, z, w.gone + 9⟩) hb0l (fun k r hr e => by have := (pt.num k r hr).2.1; have e : r.num = w.came := e; (first | lia | omega)) _ _
            have i1 := (ix_read fst).1
            have i2 := (ix_read fst).2.1
            have i3 := (ix_read fst).2.2
            obtain ⟨dx3, ho3⟩ := W3.ob
            -- what stands in the end
            have fin : ∀ (H6 : Hp), Same H H6 → WallAt cW cP H6 p l1 l2 ⟨w.sz, w.ps.set j (some ⟨ad, w.came, z, w.gone + 9⟩), w.came + 1, w.gone⟩ → H6 lh = some (.lst ((heldOf w).map oV)) → H6 lb = some (.lst (ord.map fun i : Nat => V.int i)) →
                Pv (i + 1) [some (.ref a), some (.ref b), some (.ref p), some (.ref lh), some (.ref lb), some (V.int j), some (V.int w.came)] (upd H6 lh (.lst (((heldOf w).map oV).set j (.int w.came)))) := by
              intro H6 s6 W6 hh6 hb6
              have had' : ∀ q, some q ∈ (w.ps.set j (some ⟨ad, w.came, z, w.gone + 9⟩)) → H q.ad = none ∧ q.ad ≠ lh := fun q hq => by
                rcases List.mem_or_eq_of_mem_set hq with h | h
                · exact had q h
                · cases h; exact ⟨nad, adlh⟩
              refine (hv _ _ _).mpr ⟨_, _, ⟨w.sz, w.ps.set j (some ⟨ad, w.came, z, w.gone + 9⟩), w.came + 1, w.gone⟩, rfl, same_put s6 nlh, W6.put (Ne.symm x1) (Ne.symm x2) (Ne.symm x3) (fun q hq => (had' q hq).2), ?_, ?_, pt.put hnot hjl hix hS, had'⟩
              · rw [upd_same, heldOf_set, List.map_set]; rfl
              · rw [upd_ne y4]; exact hb6
            refine (evr rfl (ex3 p dx3 _ ⟨rfl, ho3, wn (by decide +kernel) (by decide +kernel) (by decide +kernel) (by decide +kernel), ex4 p l1 l2 _ ⟨rfl, W3, fun r H4 n4 s4 h4 => ⟨.inl ⟨rfl, _, SqL.of h4⟩, evr rfl (ex4 r _ _ b0 ⟨rfl, rfl, SqL.of h4, rfl, flat_held _, i1, i2, i3, ?_⟩)⟩⟩⟩))
            have W4 := W3.mono s4
            have hh4 := s4 _ _ hh3
            have hb4 := s4 _ _ hb3
            have s04 := s3.trans s4
            have hjx : j < ((heldOf w).map oV).length := by rw [List.length_map, held_len]; exact hjp
            refine (evr rfl ⟨rfl, evr rfl (ite2 (fun c => ?_) (fun c => ?_))⟩)
            · have hne : b0 ≠ j := fun z => by rw [z] at c; simp at c
              obtain ⟨dx4, ho4⟩ := W4.ob
              have hq4 : (w.comes b0 ad z 9).ps[b0]? = some (some ⟨ad, w.came, z, w.gone + 9⟩) := List.getElem?_set_self hb0l
              have fj4 : fitsAt (w.comes b0 ad z 9) z j := by
                refine ⟨by show j < (w.ps.set _ _).length; rw [List.length_set]; exact hjp, ?_, fj.2.2⟩
                show ((w.ps.set b0 _)[j]?.join).isNone = true
                rw [List.getElem?_set_ne hne, hps]; rfl
              refine (evr rfl (mk3_3 p dx4 _ rfl ho4 ⟨wn (by decide +kernel) (by decide +kernel) (by decide +kernel) (by decide +kernel), evv rfl rfl ⟨p, l1, l2, _, w.came, (j : Nat), rfl, W4, (fun c => absurd (List.mem_of_getElem? fst.1) c), ?_, ?_⟩⟩))
              · intro a' q' hfa hq' hno
                have := hfa.uniq fst
                subst this
                rw [hq4] at hq'; cases hq'
                exact absurd fj4 (hno j rfl)
              · intro a' q' b' hfa hq' e' hf H5' W5' k5
                have := hfa.uniq fst
                subst this
                have e' : j = b' := by (first | lia | omega)
                subst e'
                have em : (w.comes a' ad z 9).moved a' j = ⟨w.sz, w.ps.set j (some ⟨ad, w.came, z, w.gone + 9⟩), w.came + 1, w.gone⟩ := moved_put hb0n hjp hne _ _
                rw [em] at W5'
                have hh5 := k5 _ _ hh4 x1 x3
                exact (ev3r rfl rfl rfl (mk4_5 lh _ _ j rfl rfl hh5 (ixN_nat rfl hjx) (fin H5' (keeps_same s04 k5 np nl2) W5' hh5 (k5 _ _ hb4 y1 y3))))
            · have hee : b0 = j := by
                by_cases e : b0 = j
                · exact e
                · refine absurd ?_ c
                  have : ¬ V.int ((b0 : Nat) : Int) = V.int ((j : Nat) : Int) := fun z => e (by have := V.int.inj z; (first | lia | omega))
                  rw [decide_eq_false this]; rfl
              subst hee
              exact (ev3r rfl rfl rfl (mk4_5 lh _ _ b0 rfl rfl hh4 (ixN_nat rfl hjx) (fin H4 s04 W4 hh4 hb4)))
      · intro σ H2 hP
        have hP := (hv _ _ _).mp hP
        refine ob3_7 hP (fun v5 v6 w eRfl s2 W2 hh2 hb2 pt had => ?_); clear hP; subst eRfl
        refine (evv rfl rfl ⟨(by show 2 ≤ sizeLine; decide), fun t ht => ?_⟩)
        have s3 := same_upd (o := .tup [.ref p, .ref lh]) ht
        have all : ∀ j, j ∈ ord.take (ord.map fun i : Nat => V.int i).length ↔ j < sz.length := fun j => by rw [List.length_map, List.take_length]; exact hord j
        refine q t p l1 l2 lh w _ (s2.trans s3) (s2.free ht) np nl1 nl2 nlh x1 x2 x3 had upd_same (s3 _ _ hh2) (W2.mono s3) ⟨pt.sz, pt.len, fun i => ?_, pt.gone, pt.came, pt.num, pt.inj⟩
        by_cases hi : i < sz.length
        · exact pt.size i ((all i).mpr hi)
        · rw [List.getElem?_eq_none (by rw [pt.len]; (first | lia | omega)), List.getElem?_eq_none (by rw [hin.1]; (first | lia | omega))]; rfl
    obtain ⟨tl, ptl, hq⟩ := tail
    refine ⟨_, (pss_cons (ps_set (i := 2) scSO.nd rfl (Or.inl rfl) (pe_make MW GI hr4 (by rfl) mW bI .nil passF (pa_cons (pv 0) pa_nil)))
      (pss_cons (ps_expr (pe_meth (pv 2) T.cl dF.me dF.G hr3 dF.b .nil passF (pa_cons (pe_meth (pv 2) T.cl dC.me dC.G hr4 dC.b .nil passF (pa_cons pe_int (pa_cons pe_int pa_nil))) pa_nil)))
      (pss_cons (ps_setC (i := 3) scSO.nd rfl rfl rfl (N := ["size"]) (src := [none]) (blk (osc := defScope s__law_side_of) (oN := ["sizes", "inside", "side", "held", "boxes", "box", "number"]) rfl rfl (by decide +kernel)) (pi_list (pv 0)) (fun C s₀ H₀ ex pn => pg_name (i := 0) (show (["size"] : List Str).Nodup by decide +kernel) rfl (Or.inl rfl) (Or.inr rfl)) (fun C s₀ H₀ ex pn => pts_nil) (fun C s₀ H₀ ex pn => pe_non))
      (pss_cons (ps_set (i := 4) scSO.nd rfl (Or.inl rfl) (pe_callTy (call_list_rng rfl) (by rfl) mlist boot_listT (pa_cons (pe_callTy call_rangeV (by rfl) mrange boot_rangeT (pa_cons (pe_callB call_len_seq (by rfl) mlen PySem.boot_len (pa_cons (pv 0) pa_nil)) pa_nil)) pa_nil)))
      (pss_cons (ps_if (pt_cmpR op_eq (pe_op op_mod (pe_ix ix_list (pv 0) pe_int (fun _ _ => rfl)) pe_int) pe_int (nomark _)) (pss_one (ps_expr (pe_bm0 PySem.F.plainAttrs_list PySem.F.slot_list_reverse PySem.F.type_list_reverse mt_reverse (pv 4)))) pss_nil)
      ptl))))), ?_⟩
    try dsimp only [cxOf]
    refine (evr rfl (fun p dx hp hdx ndx => ?_))
    have s0 : Same H (upd (upd H dx (.own p)) p (.ins cW dx [])) := fun b o e => by
      rw [upd_ne (ne_of_none e hp), upd_ne (ne_of_none e hdx)]; exact e
    refine ⟨p, dx, a, sz, rfl, upd_same, s0.seq ha, fun _ l1 l2 H1 n1 n2 W kp => ⟨rfl, ?_⟩, fun hno => by rw [hok] at hno; cases hno⟩
    have s1 : Same H H1 := fun b o e => kp b o (s0 b o e) (ne_of_none e hp)
    have hn1 : H l1 = none := s0.free n1
    have hn2 : H l2 = none := s0.free n2
    obtain ⟨dx1, ho1⟩ := W.ob
    have fit0 : fitsAt ⟨sz, List.replicate sz.length none, 0, 0⟩ 1 0 := by
      refine ⟨by show 0 < (List.replicate _ _).length; rw [List.length_replicate]; (first | lia | omega), ?_, ?_⟩
      · show ((List.replicate sz.length (none : Option Pc))[0]?.join).isNone = true
        rw [List.getElem?_replicate, if_pos (by (first | lia | omega))]; rfl
      · show 1 ≤ sz.getD 0 0
        have : sz.getD 0 0 = sz[0] := by simp [show 0 < sz.length by (first | lia | omega)]
        rw [this]
        exact (o3 _ (List.getElem_mem _)).1
    refine (evr rfl (ex3 p dx1 _ ⟨rfl, ho1, wn (by decide +kernel) (by decide +kernel) (by decide +kernel) (by decide +kernel), evr rfl (ex3 p dx1 _ ⟨rfl, ho1, wn (by decide +kernel) (by decide +kernel) (by decide +kernel) (by decide +kernel), ex6 p l1 l2 _ 1 1 ⟨rfl, W, (fun z => by cases z), (fun _ z => by cases z), (fun _ _ z => absurd fit0 (z 0)), fun _ _ b0 hb0 ad H2 had W2 k2 => ?_⟩⟩)⟩))
    obtain ⟨dx2, ho2⟩ := W2.ob
    have hb0l : b0 < sz.length := by have := hb0.1.1; rw [List.length_replicate] at this; exact this
    have first0 : FirstAt (heldOf (Wl.comes ⟨sz, List.replicate sz.length none, 0, 0⟩ b0 ad 1 1)) 0 b0 :=
      first_new (w := ⟨sz, List.replicate sz.length none, 0, 0⟩) (q := ⟨ad, 0, 1, 0 + 1⟩) (by show b0 < (List.replicate _ _).length; rw [List.length_replicate]; exact hb0l) (fun i r hr => by have := List.eq_of_mem_replicate (List.mem_of_getElem? hr); cases this) _ _
    refine ⟨p, l1, l2, _, 0, rfl, W2, (fun z => absurd (List.mem_of_getElem? first0.1) z), fun c hc H3 W3 k3 => ?_⟩
    have ec : c = b0 := hc.uniq first0
    subst ec
    have s2 : Same H H2 := keeps_same s1 k2 hp hn2
    have s3 : Same H H3 := keeps_same s2 k3 hp hn2
    have e0 : (Wl.comes ⟨sz, List.replicate sz.length none, 0, 0⟩ c ad 1 1).gone_at c = ⟨sz, List.replicate sz.length none, 1, 0⟩ := by
      unfold Wl.comes Wl.gone_at
      simp only
      rw [List.set_set]
      congr 1
      refine List.ext_getElem? fun i => ?_
      by_cases e : i = c
      · subst e; rw [List.getElem?_set_self (by rw [List.length_replicate]; exact hb0l), List.getElem?_replicate, if_pos hb0l]
      · rw [List.getElem?_set_ne (by (first | lia | omega))]
    rw [e0] at W3
    -- held
    refine (evr rfl ⟨a, rfl, ⟨_, s3.seq ha⟩, fun lh hlh => nones_comp (s3.seq ha) hlh (by rw [List.length_map]; (first | lia | omega)) fun H4 s4 hl4 _ => ?_⟩)
    rw [List.length_map] at hl4
    have W4 := W3.mono s4
    have nlh : H lh = none := s3.free hlh
    have x1 : lh ≠ p := fun z => by obtain ⟨d, h⟩ := W3.ob; rw [z, h] at hlh; cases hlh
    have x2 : lh ≠ l1 := fun z => by rw [z, W3.s1] at hlh; cases hlh
    have x3 : lh ≠ l2 := fun z => by rw [z, W3.s2] at hlh; cases hlh
    -- boxes
    refine (evr rfl (mk2_2 a _ rfl ⟨.inl ((s3.trans s4).seq ha), evr rfl (fun rr hrr => (mk2_5 rr _ rfl upd_same (by rw [List.length_map]; (first | lia | omega)) (by rw [List.length_map]; (first | lia | omega)) (fun lb hlb => ?_)))⟩))
    have el : ((sz.map V.int).length : Int).toNat = sz.length := by rw [List.length_map]; (first | lia | omega)
    rw [el]
    have s5 : ∀ o o', Same H4 (upd (upd H4 rr o) lb o') := fun o o' b u e => by
      have e1 : (upd H4 rr o) b = some u := by rw [upd_ne (ne_of_none e hrr)]; exact e
      have hlb' : upd H4 rr (.rng 0 ((sz.map V.int).length : Int)) lb = none := hlb
      have : b ≠ lb := fun z => by
        rw [← z, upd_ne (ne_of_none e hrr), e] at hlb'; cases hlb'
      rw [upd_ne this]; exact e1
    have hlbH4 : H4 lb = none := by
      cases z : H4 lb with
      | none => rfl
      | some u =>
        rw [upd_ne (ne_of_none z hrr), z] at hlb; cases hlb
    have y1 : lb ≠ p := fun z => by obtain ⟨d, h⟩ := W4.ob; rw [z, h] at hlbH4; cases hlbH4
    have y2 : lb ≠ l1 := fun z => by rw [z, W4.s1] at hlbH4; cases hlbH4
    have y3 : lb ≠ l2 := fun z => by rw [z, W4.s2] at hlbH4; cases hlbH4
    have y4 : lb ≠ lh := fun z => by rw [z, hl4] at hlbH4; cases hlbH4
    have nlb : H lb = none := (s3.trans s4).free hlbH4
    have fin : ∀ (ord : List Nat) (o : HO), ord.Nodup → (∀ i, i ∈ ord ↔ i < sz.length) → tl { nx := fun _ H' => Q .non H', rt := Q } [some (.ref a), some (.ref b), some (.ref p), some (.ref lh), some (.ref lb), none, none] (upd (upd H4 rr o) lb (.lst (ord.map fun i : Nat => V.int i))) := fun ord o h1 h2 =>
      hq p l1 l2 lh lb ord _ h1 h2 ((s3.trans s4).trans (s5 _ _)) hp hn1 hn2 nlh nlb x1 x2 x3 y1 y2 y3 y4 (W4.mono (s5 _ _)) (s5 _ _ _ _ hl4) upd_same
    have at0 : atI (sz.map V.int) 0 = some (.int sz[0]) := atI_nat (j := 0) (by rw [List.getElem?_map, List.getElem?_eq_getElem (by (first | lia | omega))]; rfl)
    refine (evr rfl (ix4 (p := a) (((s3.trans s4).trans (s5 _ _)).seq ha) at0 (ev2 rfl rfl ⟨(by show (0 : Int) < 2; decide), rfl, evr rfl (ite2 (fun _ => ?_) (fun _ => ?_))⟩)))
    · refine (evr rfl ⟨.inl ⟨rfl, _, SqL.of upd_same⟩, mk2_4 lb _ rfl rfl upd_same ?_⟩)
      rw [upd_upd, ← List.map_reverse]
      exact fin _ _ ((List.reverse_perm _).nodup_iff.mpr List.nodup_range) (fun i => by rw [List.mem_reverse, List.mem_range])
    · exact fin _ _ List.nodup_range (fun i => List.mem_range)
end
end Pw

set_option Elab.async false
set_option linter.all false
set_option maxRecDepth 100000
set_option maxHeartbeats 4000000
namespace Pw
open PySem L2
section
variable {P : Program} {w : World} {K : PySem.W.Frag} {mg : Str → Option Value} {base : Heap}
/-! ### check_both -/
def allNum (ps : List Int) : Bool := ps.all okNum
def spBoth (K : PySem.W.Frag) (cNW cNS : Addr) : Sp := fun vs H Q E => ∃ (a b : Addr) (sz ps : List Int), vs = [.ref a, .ref b] ∧ SqL K H a (sz.map V.int) ∧ SqL K H b (ps.map V.int) ∧
  (okSizes sz = false → E (.ref cNW) none H) ∧ (okSizes sz = true → allNum ps = false → E (.ref cNS) none H) ∧ (okSizes sz = true → allNum ps = true → Q .non H)
theorem scBoth : FnScope ["sizes", "parcels", "size"] ["sizes", "parcels"] (defScope s_check_both) := ⟨rfl, rfl, rfl, by decide +kernel, rfl, by decide +kernel, by decide +kernel⟩
theorem int_at {ps : List Int} {i : Nat} {y : V} (h : (ps.map V.int)[i]? = some y) : ∃ z, ps[i]? = some z ∧ y = V.int z := by
  rw [List.getElem?_map] at h
  cases e : ps[i]? with
  | none => rw [e] at h; cases h
  | some z => rw [e] at h; exact ⟨z, rfl, (Option.some.inj h).symm⟩
theorem ok_both {f fW fS cNW cNS : Addr} {fd fdW fdS : FuncData} (F : Fun K "check_both" "check_both" s_check_both f fd) (gW : Gd P w K mg base "check_wall" s_check_wall ["sizes"] (CXF P w) 2 (spCheckWall K cNW) fW fdW)
    (gS : Gd P w K mg base "check_size" s_check_size ["size"] (CXF P w) 2 (spCheckNum cNS) fS fdS) : FnOk P w K mg base (CXF P w) 3 f fd ["sizes", "parcels"] (spBoth K cNW cNS) := by
  refine F.okX scBoth (fun vs H Q E h => ?_) (fun cdv A outer s H vs Q E hr h => ?_)
  · refine ob4_2 h (fun a b sz ps eRfl _ => ?_); clear h; subst eRfl
    rfl
  · refine ob4_6 h (fun a b sz ps eRfl ha hb q1 q2 q3 => ?_); clear h; subst eRfl
    refine ⟨_, (pss_cons (ps_expr (pe_call gW.G hr (by rfl) gW.m gW.F.kp gW.b .nil pass_def (pa_cons (pv 0) pa_nil)))
      (pss_one (ps_for own_def rfl (pi_list (pv 1)) (pg_name (i := 2) scBoth.nd rfl (Or.inl rfl)) (pss_one (ps_expr (pe_call gS.G hr (by rfl) gS.m gS.F.kp gS.b .nil pass_def (pa_cons (pv 2) pa_nil))))))), ?_⟩
    try dsimp only [cxOf]
    refine (evr rfl (mk2_4 a sz rfl ha (fun hok => ?_) (fun hno => q1 hno)))
    refine ⟨_, rfl, b, rfl, ⟨_, hb⟩, for_list (K := K) (a := b) (xs := ps.map V.int) (fun i σ H2 => H2 = H ∧ (∃ v, σ = [some (.ref a), some (.ref b), v]) ∧ ∀ (j : Nat) z, j < i → ps[j]? = some z → okNum z = true)
      ⟨rfl, ⟨none, rfl⟩, fun j z hj => absurd hj (Nat.not_lt_zero _)⟩ (fun i σ H2 _ ⟨e, _⟩ => by rw [e]; exact hb) ?_ ?_⟩
    · rintro i y σ H2 hi ⟨rfl, ⟨v, rfl⟩, hall⟩
      obtain ⟨z, hz, rfl⟩ := int_at hi
      refine (evr rfl ⟨z, rfl, fun h => ⟨rfl, ⟨_, rfl⟩, fun j z' hj e => ?_⟩, fun h => q2 hok ?_⟩)
      · by_cases hji : j = i
        · subst hji
          rw [hz] at e; cases e
          exact h
        · exact hall j z' (by (first | lia | omega)) e
      · refine Bool.eq_false_iff.mpr fun z' => ?_
        have := List.all_eq_true.mp z' z (List.mem_of_getElem? hz)
        rw [h] at this; cases this
    · rintro σ H2 ⟨rfl, ⟨v, rfl⟩, hall⟩
      refine q3 hok (List.all_eq_true.mpr fun z hz => ?_)
      obtain ⟨j, hj, e⟩ := List.mem_iff_getElem.mp hz
      exact hall j z (by rw [List.length_map]; exact hj) (by rw [List.getElem?_eq_getElem hj, e])
/-! ### places_by_size -/
def lamOf (st : Stmt) : Pos := match defBody st with
  | .Return (some (.Call _ _ (⟨_, .Lambda _ _ _ p, _⟩ :: _) _)) _ :: _ => p
  | _ => ⟨0, 0, 0, 0⟩
def tabOf (p : Addr) : Tab := ⟨p, lamOf s_places_by_size, "places_by_size.<locals>.<lambda>"⟩
/-- the places, the sizes rising -/
def spPlaces (T : Tab) (K : PySem.W.Frag) : Sp := fun vs H Q _ => ∃ (a : Addr) (ns : List Int), vs = [.ref a] ∧ SqL K H a (ns.map V.int) ∧ ns.length < 64 ∧ T.Ok H ∧
  ∀ (D : Addr) (H' : Hp) (ms : List Int), H D = none → H' D = some (.lst (ms.map V.int)) → Gw T H H' → ms.Perm ((List.range ns.length).map fun i : Nat => (i : Int)) → ms.Pairwise (fun x y => ns.getD x.toNat 0 ≤ ns.getD y.toNat 0) → Q (.ref D) H'
theorem scPl : FnScope ["sizes"] ["sizes"] (defScope s_places_by_size) := ⟨rfl, rfl, rfl, by decide +kernel, rfl, by decide +kernel, by decide +kernel⟩
theorem ok_places {f c pT : Addr} {fd : FuncData} (F : Fun K "places_by_size" "places_by_size" s_places_by_size f fd) (hc : fd.code = .ref c) (hK : PySem.W.codeHdIn K c pT = true) (hB : base.BuiltinsAt mg pT)
    (mlen : mg "len" = none) (mrange : mg "range" = none) (msorted : mg "sorted" = none) : FnOk P w K mg base CX0 2 f fd ["sizes"] (spPlaces (tabOf pT) K) := by
  refine F.okC scPl (fun vs H Q E h => ?_) (fun cdv A outer s H vs Q E hcd hr h => ?_)
  · refine ob2_2 h (fun a ns eRfl _ => ?_); clear h; subst eRfl
    rfl
  · refine ob2_5 h (fun a ns eRfl ha h64 hT q => ?_); clear h; subst eRfl
    have hcv : cdv = .ref c := hcd.symm.trans hc
    subst hcv
    refine ⟨_, pss_one (ps_ret (pe_sortK (T := tabOf pT) (c := c) (i := 0) (pa_cons (pe_callTy call_rangeV (by rfl) mrange boot_rangeT (pa_cons (pe_callB call_len_seq (by rfl) mlen PySem.boot_len (pa_cons (pv 0) pa_nil)) pa_nil)) pa_nil)
      (by rfl) msorted rfl hr rfl hK hB (show ("places_by_size" : Str) ++ ".<locals>." ++ "<lambda>" = ("places_by_size.<locals>.<lambda>" : Str) by decide +kernel) rfl rfl (fun d e => by cases e; rfl) rfl (fun v d b pm cv ctv => rfl) rfl rfl (by decide +kernel) rfl rfl rfl (by decide) (by decide) (by decide) (fun _ _ => rfl) rfl rfl)), ?_⟩
    try dsimp only [cxOf]
    refine (evr rfl ⟨a, evr rfl ⟨.inl ha, evr rfl (fun r hr0 => ?_)⟩⟩)
    have sr : Same H (upd H r (.rng 0 ((ns.map V.int).length : Nat))) := fun b u e => by rw [upd_ne (ne_of_none e hr0)]; exact e
    refine ⟨r, a, ns, rfl, by rw [upd_same, List.length_map], rfl, sr.seq ha, h64, hT.same sr, fun D H' ms hD hl g hp hw => ?_⟩
    exact q D H' ms (sr.free hD) hl ((Gw.of hT sr).trans g) hp hw
end
end Pw

set_option Elab.async false
set_option linter.all false
set_option maxRecDepth 100000
set_option maxHeartbeats 4000000
namespace Pw
open PySem L2
section
variable {P : Program} {w : World} {K : PySem.W.Frag} {mg : Str → Option Value} {base : Heap}
/-! ### counting by places -/
theorem by_places (ns : List Int) : ((List.range ns.length).map fun i : Nat => (i : Int)).map (fun x => ns.getD x.toNat 0) = ns := by
  rw [List.map_map]
  apply List.ext_getElem?
  intro i
  by_cases hi : i < ns.length
  · simp [hi]
  · simp [hi]
theorem cnt_perm {ns ms : List Int} (hp : ms.Perm ((List.range ns.length).map fun i : Nat => (i : Int))) (q : Int → Bool) : (ms.filter fun x => q (ns.getD x.toNat 0)).length = (ns.filter q).length := by
  rw [(hp.filter _).length_eq]
  conv => rhs; rw [← by_places ns, List.filter_map, List.length_map]
  rfl
theorem desc_few {L : List Int} {f : Int → Int} {i : Nat} {v : Int} (hw : L.Pairwise (fun x y => f y ≤ f x)) (h : L.length ≤ i ∨ ∃ x, L[i]? = some x ∧ f x < v) : (L.filter fun x => decide (v ≤ f x)).length ≤ i := by
  rcases h with h | ⟨x, hx, hv⟩
  · exact Nat.le_trans (List.length_filter_le _ _) h
  · obtain ⟨hi, e⟩ := List.getElem?_eq_some_iff.mp hx
    have hd : (L.drop i).filter (fun x => decide (v ≤ f x)) = [] := by
      rw [List.filter_eq_nil_iff]
      intro y hy
      obtain ⟨j, hj, ey⟩ := List.mem_iff_getElem.mp hy
      rw [List.getElem_drop] at ey
      rw [List.length_drop] at hj
      have : f y ≤ f x := by
        by_cases hj0 : j = 0
        · subst hj0
          have : y = x := by rw [← ey, ← e]; rfl
          rw [this]; exact Int.le_refl _
        · rw [← ey, ← e]
          exact List.pairwise_iff_getElem.mp hw i (i + j) hi (by (first | lia | omega)) (by (first | lia | omega))
      rw [decide_eq_true_eq]
      (first | lia | omega)
    have e2 : L.filter (fun x => decide (v ≤ f x)) = (L.take i).filter (fun x => decide (v ≤ f x)) := by
      conv => lhs; rw [← List.take_append_drop i L, List.filter_append, hd, List.append_nil]
    rw [e2]
    exact Nat.le_trans (List.length_filter_le _ _) (by rw [List.length_take]; (first | lia | omega))
theorem desc_many {L : List Int} {f : Int → Int} {i : Nat} {x : Int} (hw : L.Pairwise (fun x y => f y ≤ f x)) (hx : L[i]? = some x) : i + 1 ≤ (L.filter fun y => decide (f x ≤ f y)).length := by
  obtain ⟨hi, e⟩ := List.getElem?_eq_some_iff.mp hx
  have h1 : (L.take (i + 1)).filter (fun y => decide (f x ≤ f y)) = L.take (i + 1) := by
    rw [List.filter_eq_self]
    intro y hy
    obtain ⟨j, hj, ey⟩ := List.mem_iff_getElem.mp hy
    rw [List.length_take] at hj
    rw [List.getElem_take] at ey
    rw [decide_eq_true_eq, ← ey, ← e]
    by_cases hji : j = i
    · subst hji; exact Int.le_refl _
    · exact List.pairwise_iff_getElem.mp hw j i (by (first | lia | omega)) hi (by (first | lia | omega))
  have h2 : ((L.take (i + 1)).filter (fun y => decide (f x ≤ f y))).length ≤ (L.filter fun y => decide (f x ≤ f y)).length := (List.Sublist.filter _ (List.take_sublist _ _)).length_le
  rw [h1, List.length_take] at h2
  (first | lia | omega)
/-- too many: of this size or more there are more parcels than boxes -/
def Many (sz ps : List Int) (v : Int) : Prop := 1 ≤ v ∧ v ≤ 9 ∧ (sz.filter fun z => decide (v ≤ z)).length < (ps.filter fun z => decide (v ≤ z)).length
/-- a box for each parcel -/
def Boxes (sz ps ch : List Int) : Prop := ch.length = ps.length ∧ ch.Nodup ∧ ∀ (k : Nat) b z, ch[k]? = some b → ps[k]? = some z → 0 ≤ b ∧ b < sz.length ∧ z ≤ sz.getD b.toNat 0
structure Sorts (ns ms : List Int) : Prop where
  perm : ms.Perm ((List.range ns.length).map fun i : Nat => (i : Int))
  up : ms.Pairwise (fun x y => ns.getD x.toNat 0 ≤ ns.getD y.toNat 0)
theorem Sorts.len {ns ms : List Int} (s : Sorts ns ms) : ms.length = ns.length := by rw [s.perm.length_eq, List.length_map, List.length_range]
theorem Sorts.mem {ns ms : List Int} (s : Sorts ns ms) {x : Int} (h : x ∈ ms) : 0 ≤ x ∧ x < ns.length := by
  have := s.perm.mem_iff.mp h
  obtain ⟨i, hi, rfl⟩ := List.mem_map.mp this
  have := List.mem_range.mp hi
  (first | lia | omega)
theorem Sorts.has {ns ms : List Int} (s : Sorts ns ms) {i : Nat} (h : i < ns.length) : (i : Int) ∈ ms := s.perm.mem_iff.mpr (List.mem_map.mpr ⟨i, List.mem_range.mpr h, rfl⟩)
theorem Sorts.nodup {ns ms : List Int} (s : Sorts ns ms) : ms.Nodup := by
  refine s.perm.nodup_iff.mpr ?_
  rw [List.nodup_iff_pairwise_ne, List.pairwise_map]
  exact List.nodup_range.imp fun h z => h (by (first | lia | omega))
theorem Sorts.down {ns ms : List Int} (s : Sorts ns ms) : ms.reverse.Pairwise (fun x y => ns.getD y.toNat 0 ≤ ns.getD x.toNat 0) := by
  rw [List.pairwise_reverse]; exact s.up
theorem Sorts.cnt {ns ms : List Int} (s : Sorts ns ms) (q : Int → Bool) : (ms.reverse.filter fun x => q (ns.getD x.toNat 0)).length = (ns.filter q).length := by
  rw [List.filter_reverse, List.length_reverse]; exact cnt_perm s.perm q
theorem many_of {sz ps m1 m2 : List Int} {i : Nat} {p : Int} (s1 : Sorts sz m1) (s2 : Sorts ps m2) (hall : allNum ps = true) (hp : m2.reverse[i]? = some p) (h : m1.reverse.length ≤ i ∨ ∃ x, m1.reverse[i]? = some x ∧ sz.getD x.toNat 0 < ps.getD p.toNat 0) :
    Many sz ps (ps.getD p.toNat 0) := by
  have hm := s2.mem (List.mem_reverse.mp (List.mem_of_getElem? hp))
  have hl : p.toNat < ps.length := by (first | lia | omega)
  have e : ps.getD p.toNat 0 = ps[p.toNat] := by simp [List.getD, hl]
  have hn : okNum (ps.getD p.toNat 0) = true := by rw [e]; exact List.all_eq_true.mp hall _ (List.getElem_mem hl)
  unfold okNum at hn
  rw [Bool.and_eq_true] at hn
  have c1 := desc_few (f := fun x => sz.getD x.toNat 0) (i := i) (v := ps.getD p.toNat 0) s1.down h
  have c2 := desc_many (f := fun x => ps.getD x.toNat 0) (i := i) s2.down hp
  rw [s1.cnt (fun z => decide (ps.getD p.toNat 0 ≤ z))] at c1
  rw [s2.cnt (fun z => decide (ps.getD p.toNat 0 ≤ z))] at c2
  exact ⟨of_decide_eq_true hn.1, of_decide_eq_true hn.2, by (first | lia | omega)⟩
/-- the boxes chosen ahead of rank i -/
def Chosen (sz ps bs ws : List Int) (i : Nat) (ch : List (Option Int)) : Prop := ch.length = ps.length ∧ i ≤ bs.length ∧ ∀ (j : Nat) p b, j < i → ws[j]? = some p → bs[j]? = some b → ch[p.toNat]? = some (some b) ∧ ps.getD p.toNat 0 ≤ sz.getD b.toNat 0
theorem boxes_of {sz ps m1 m2 : List Int} {ch : List (Option Int)} (s1 : Sorts sz m1) (s2 : Sorts ps m2) (c : Chosen sz ps m1.reverse m2.reverse ps.length ch) : ∃ cs : List Int, ch = cs.map some ∧ Boxes sz ps cs := by
  obtain ⟨h1, h2, h3⟩ := c
  have l2 : m2.reverse.length = ps.length := by rw [List.length_reverse]; exact s2.len
  have n1 : m1.reverse.Nodup := (List.reverse_perm m1).nodup_iff.mpr s1.nodup
  -- each place has a rank
  have rank : ∀ k, k < ps.length → ∃ j b, j < ps.length ∧ m2.reverse[j]? = some (k : Int) ∧ m1.reverse[j]? = some b ∧ ch[k]? = some (some b) ∧ ps.getD k 0 ≤ sz.getD b.toNat 0 := fun k hk => by
    obtain ⟨j, hj, e⟩ := List.mem_iff_getElem.mp (List.mem_reverse.mpr (s2.has hk))
    have hj' : j < ps.length := by (first | lia | omega)
    have hb : j < m1.reverse.length := by (first | lia | omega)
    have e' : m2.reverse[j]? = some (k : Int) := by rw [List.getElem?_eq_getElem hj, e]
    have := h3 j (k : Int) _ hj' e' (List.getElem?_eq_getElem hb)
    exact ⟨j, _, hj', e', List.getElem?_eq_getElem hb, by simpa using this.1, by simpa using this.2⟩
  refine ⟨ch.map fun o => o.getD 0, ?_, by rw [List.length_map, h1], ?_, ?_⟩
  · apply List.ext_getElem?
    intro k
    rw [List.map_map, List.getElem?_map]
    by_cases hk : k < ps.length
    · obtain ⟨j, b, _, _, _, e, _⟩ := rank k hk
      rw [e]; rfl
    · rw [List.getElem?_eq_none (by (first | lia | omega))]; rfl
  · rw [List.nodup_iff_pairwise_ne, List.pairwise_iff_getElem]
    intro k k' hk hk' hlt z
    rw [List.length_map, h1] at hk hk'
    obtain ⟨j, b, hj, e1, e2, e3, _⟩ := rank k hk
    obtain ⟨j', b', hj', e1', e2', e3', _⟩ := rank k' hk'
    have z1 : (ch.map fun o => o.getD 0)[k]? = some b := by rw [List.getElem?_map, e3]; rfl
    have z2 : (ch.map fun o => o.getD 0)[k']? = some b' := by rw [List.getElem?_map, e3']; rfl
    rw [List.getElem?_eq_getElem (by rw [List.length_map, h1]; exact hk)] at z1
    rw [List.getElem?_eq_getElem (by rw [List.length_map, h1]; exact hk')] at z2
    have hb : b = b' := by rw [← Option.some.inj z1, ← Option.some.inj z2]; exact z
    subst hb
    obtain ⟨i1, f1⟩ := List.getElem?_eq_some_iff.mp e2
    obtain ⟨i2, f2⟩ := List.getElem?_eq_some_iff.mp e2'
    have : j = j' := by
      rcases Nat.lt_trichotomy j j' with t | t | t
      · exact absurd (f1.trans f2.symm) (List.pairwise_iff_getElem.mp (List.nodup_iff_pairwise_ne.mp n1) j j' i1 i2 t)
      · exact t
      · exact absurd (f2.trans f1.symm) (List.pairwise_iff_getElem.mp (List.nodup_iff_pairwise_ne.mp n1) j' j i2 i1 t)
    subst this
    rw [e1] at e1'
    have := Option.some.inj e1'
    (first | lia | omega)
  · intro k b z hb hz
    have hk : k < ps.length := (List.getElem?_eq_some_iff.mp hz).1
    obtain ⟨j, b', hj, e1, e2, e3, e4⟩ := rank k hk
    rw [List.getElem?_map, e3] at hb
    have hb' : b' = b := Option.some.inj hb
    subst hb'
    have hm := s1.mem (List.mem_reverse.mp (List.mem_of_getElem? e2))
    refine ⟨hm.1, hm.2, ?_⟩
    have : ps.getD k 0 = z := by rw [List.getD_eq_getElem?_getD, hz]; rfl
    rw [← this]; exact e4
theorem chosen_set {sz ps m1 m2 : List Int} {ch : List (Option Int)} {i : Nat} {p b : Int} (s1 : Sorts sz m1) (s2 : Sorts ps m2) (c : Chosen sz ps m1.reverse m2.reverse i ch) (hp : m2.reverse[i]? = some p) (hb : m1.reverse[i]? = some b) (hle : ps.getD p.toNat 0 ≤ sz.getD b.toNat 0) :
    Chosen sz ps m1.reverse m2.reverse (i + 1) (ch.set p.toNat (some b)) := by
  obtain ⟨h1, h2, h3⟩ := c
  have hm := s2.mem (List.mem_reverse.mp (List.mem_of_getElem? hp))
  have n2 : m2.reverse.Nodup := (List.reverse_perm m2).nodup_iff.mpr s2.nodup
  refine ⟨by rw [List.length_set, h1], by have := (List.getElem?_eq_some_iff.mp hb).1; (first | lia | omega), fun j p' b' hj e1 e2 => ?_⟩
  by_cases hji : j = i
  · subst hji
    rw [hp] at e1; rw [hb] at e2
    cases e1; cases e2
    exact ⟨by rw [List.getElem?_set_self (by (first | lia | omega))], hle⟩
  · obtain ⟨g1, g2⟩ := h3 j p' b' (by (first | lia | omega)) e1 e2
    refine ⟨?_, g2⟩
    have hm' := s2.mem (List.mem_reverse.mp (List.mem_of_getElem? e1))
    have hne : p.toNat ≠ p'.toNat := fun z => by
      have z' : p' = p := by (first | lia | omega)
      subst z'
      obtain ⟨i1, f1⟩ := List.getElem?_eq_some_iff.mp e1
      obtain ⟨i2, f2⟩ := List.getElem?_eq_some_iff.mp hp
      exact absurd (f1.trans f2.symm) (List.pairwise_iff_getElem.mp (List.nodup_iff_pairwise_ne.mp n2) j i i1 i2 (by (first | lia | omega)))
    rw [List.getElem?_set_ne hne]; exact g1
end
end Pw

set_option Elab.async false
set_option linter.all false
set_option maxRecDepth 100000
set_option maxHeartbeats 4000000
namespace Pw
open PySem L2
section
variable {P : Program} {w : World} {K : PySem.W.Frag} {mg : Str → Option Value} {base : Heap}
/-- fit(sizes, parcels) -/
def spFit (T : Tab) (K : PySem.W.Frag) (cNW cNS : Addr) : Sp := fun vs H Q E => ∃ (a b : Addr) (sz ps : List Int), vs = [.ref a, .ref b] ∧ SqL K H a (sz.map V.int) ∧ SqL K H b (ps.map V.int) ∧ ps.length < 64 ∧ T.Ok H ∧
  (okSizes sz = false → E (.ref cNW) none H) ∧ (okSizes sz = true → allNum ps = false → E (.ref cNS) none H) ∧
  (okSizes sz = true → allNum ps = true → (∀ (D : Addr) (H' : Hp) (v : Int), H D = none → H' D = some (.tup [.str "many", .int v]) → Gw T H H' → Many sz ps v → Q (.ref D) H') ∧
    (∀ (D l : Addr) (H' : Hp) (ch : List Int), H D = none → H l = none → H' D = some (.tup [.str "boxes", .ref l]) → H' l = some (.lst (ch.map V.int)) → Gw T H H' → Boxes sz ps ch → Q (.ref D) H'))
theorem nones_compF {K : PySem.W.Frag} {a D : Addr} {xs : List V} {σ : St} {H : Hp} {Q : VK} (hS : SqL K H a xs) (hD : H D = none) (hl : xs.length ≤ 63) (q : Q (.ref D) (upd H D (.lst (List.replicate xs.length .non)))) :
    CompW (Itl K a) [none] (gName 0) tTrue (tC .non) Q σ H D := by
  have hline : (63 : Nat) < sizeLine := by decide
  refine comp_list (K := K) (a := a) (src := [none]) (xs := xs) (fun i σ1 H2 => (∃ v, σ1 = [v]) ∧ H2 = upd H D (.lst (List.replicate i .non)) ∧ i ≤ xs.length) ⟨⟨none, rfl⟩, rfl, Nat.zero_le _⟩ ?_ ?_ ?_
  · rintro i σ1 H2 _ ⟨_, rfl, _⟩
    exact Same.seq (fun b u e => by rw [upd_ne (ne_of_none e hD)]; exact e) hS
  · rintro i x σ1 H2 hx ⟨⟨v, rfl⟩, rfl, hi⟩
    have hil : i < xs.length := (List.getElem?_eq_some_iff.mp hx).1
    refine gN (tT ⟨_, upd_same, ?_, ⟨_, rfl⟩, ?_, hil⟩)
    · rw [List.length_replicate]; (first | lia | omega)
    · rw [upd_upd, ← List.replicate_succ']
  · rintro σ1 H2 ⟨_, rfl, _⟩
    exact q
theorem at_intF {ns : List Int} {x : Int} (h0 : 0 ≤ x) (h1 : x < ns.length) : atI (ns.map V.int) x = some (.int (ns.getD x.toNat 0)) := by
  have hl : x.toNat < ns.length := by (first | lia | omega)
  have e : ((x.toNat : Nat) : Int) = x := by (first | lia | omega)
  conv => lhs; rw [← e]
  exact atI_nat (by rw [List.getElem?_map, List.getElem?_eq_getElem hl]; simp [List.getD, hl])
theorem tabOk_set {T : Tab} {H : Hp} {l : Addr} {xs ys : List V} (h : T.Ok H) (hl : H l = some (.lst xs)) : T.Ok (upd H l (.lst ys)) := by
  rcases h with h | ⟨c', oc, vs, t, h1, h2, h3⟩
  · exact .inl (by rw [upd_ne (ne_of h hl (by intro z; cases z))]; exact h)
  · exact .inr ⟨c', oc, vs, t, by rw [upd_ne (ne_of h1 hl (by intro z; cases z))]; exact h1, by rw [upd_ne (ne_of h2 hl (by intro z; cases z))]; exact h2, h3⟩
/-- a list of ours is written -/
theorem gw_set {T : Tab} {H H' : Hp} {l : Addr} {xs ys : List V} (g : Gw T H H') (f : H l = none) (hl : H' l = some (.lst xs)) : Gw T H (upd H' l (.lst ys)) :=
  ⟨tabOk_set g.ok hl, fun b o hb e => by rw [upd_ne (ne_of_none e f)]; exact g.keep b o hb e⟩
theorem scFit : FnScope ["sizes", "parcels", "boxes", "chosen", "rank", "place"] ["sizes", "parcels"] (defScope s_fit) := ⟨rfl, rfl, rfl, by decide +kernel, rfl, by decide +kernel, by decide +kernel⟩
theorem ok_fit {f fC fP cNW cNS pT : Addr} {fd fdC fdP : FuncData} (F : Fun K "fit" "fit" s_fit f fd) (gC : Gd P w K mg base "check_both" s_check_both ["sizes", "parcels"] (CXF P w) 3 (spBoth K cNW cNS) fC fdC)
    (gP : Gd P w K mg base "places_by_size" s_places_by_size ["sizes"] CX0 2 (spPlaces (tabOf pT) K) fP fdP) (mlen : mg "len" = none) (mlist : mg "list" = none) (mreversed : mg "reversed" = none) (menumerate : mg "enumerate" = none) :
    FnOk P w K mg base (CXF P w) 4 f fd ["sizes", "parcels"] (spFit (tabOf pT) K cNW cNS) := by
  refine F.okX scFit (fun vs H Q E h => ?_) (fun cdv A outer s H vs Q E hr h => ?_)
  · refine ob4_2 h (fun a b sz ps eRfl _ => ?_); clear h; subst eRfl
    rfl
  · refine ob4_8 h (fun a b sz ps eRfl ha hb h64 hT q1 q2 q3 => ?_); clear h; subst eRfl
    have hr2 : Room 2 _ := hr.mono (by decide)
    refine ⟨_, (pss_cons (ps_expr (pe_call gC.G hr (by rfl) gC.m gC.F.kp gC.b .nil pass_def (pa_cons (pv 0) (pa_cons (pv 1) pa_nil))))
      (pss_cons (ps_set (i := 2) scFit.nd rfl (Or.inl rfl) (pe_listRev (pa_cons (pe_call gP.G.cxf hr2 (by rfl) gP.m gP.F.kp gP.b .nil pass_def (pa_cons (pv 0) pa_nil)) pa_nil) rfl (by rfl) mlist (by rfl) mreversed))
      (pss_cons (ps_setC (i := 3) scFit.nd rfl rfl rfl (N := ["size"]) (src := [none]) (blk (osc := defScope s_fit) (oN := ["sizes", "parcels", "boxes", "chosen", "rank", "place"]) rfl rfl (by decide +kernel)) (pi_list (pv 1)) (fun C s₀ H₀ ex pn => pg_name (i := 0) (show (["size"] : List Str).Nodup by decide +kernel) rfl (Or.inl rfl) (Or.inr rfl)) (fun C s₀ H₀ ex pn => pts_nil) (fun C s₀ H₀ ex pn => pe_non))
      (pss_cons (ps_for own_def rfl (pi_enumRev (by rfl) menumerate (by rfl) mreversed (pa_cons (pe_call gP.G.cxf hr2 (by rfl) gP.m gP.F.kp gP.b .nil pass_def (pa_cons (pv 1) pa_nil)) pa_nil)) (pg_tup rfl (pgs_cons (pg_name (i := 4) scFit.nd rfl (Or.inl rfl)) (pgs_cons (pg_name (i := 5) scFit.nd rfl (Or.inl rfl)) pgs_nil))) (pss_cons (ps_if (pw_or (pt_cmpR op_ge (pv 4) (pe_callB call_len_seq (by rfl) mlen PySem.boot_len (pa_cons (pv 2) pa_nil)) (nomark _)) (pw_or1 (pt_cmpR op_lt (pe_ix ix_list (pv 0) (pe_ix ix_list (pv 2) (pv 4) (fun _ _ => rfl)) (fun _ _ => rfl)) (pe_ix ix_list (pv 1) (pv 5) (fun _ _ => rfl)) (nomark _)))).pt (pss_one (ps_ret (pe_tup (pa_cons pe_str (pa_cons (pe_ix ix_list (pv 1) (pv 5) (fun _ _ => rfl)) pa_nil))))) pss_nil)
      (pss_one (ps_asg (pe_ix ix_list (pv 2) (pv 4) (fun _ _ => rfl)) (pg_sub (pv 3) (pv 5) set_list)))))
      (pss_one (ps_ret (pe_tup (pa_cons pe_str (pa_cons (pv 3) pa_nil))))))))), ?_⟩
    try dsimp only [cxOf]
    refine seq_gen fun U hU => ?_
    refine (evv rfl rfl (mk4_6 a b sz ps rfl ha hb q1 q2 (fun hok hall => ?_)))
    subst hU
    dsimp only
    have o1 := (okSizes_all hok).1
    have o2 := (okSizes_all hok).2.1
    have o3 := (okSizes_all hok).2.2
    have q4 := (q3 hok hall).2
    have q3 := (q3 hok hall).1
    refine seq_gen fun U hU => ?_
    refine (evr rfl (mk2_5 a sz rfl ha (by (first | lia | omega)) hT (fun D1 H1 m1 hD1 hl1 g1 p1 w1 => (mk2_3 D1 _ rfl (SqL.of hl1) (fun l2 hl2 => gN ?_)))))
    subst hU
    dsimp only
    have S1 : Sorts sz m1 := ⟨p1, w1⟩
    rw [← List.map_reverse]
    have s2 : Same H1 (upd H1 l2 (.lst (m1.reverse.map V.int))) := fun c u e => by rw [upd_ne (ne_of_none e hl2)]; exact e
    have g2 := g1.trans (Gw.of g1.ok s2)
    have hl2' : upd H1 l2 (.lst (m1.reverse.map V.int)) l2 = some (.lst (m1.reverse.map V.int)) := upd_same
    have f2 : H l2 = none := g1.free hT hl2
    generalize upd H1 l2 (.lst (m1.reverse.map V.int)) = H2 at s2 g2 hl2' ⊢
    refine seq_gen fun U hU => ?_
    refine (evr rfl ⟨b, rfl, ⟨_, g2.seq hT hb⟩, fun l3 hl3 => nones_compF (g2.seq hT hb) hl3 (by rw [List.length_map]; (first | lia | omega)) (gN ?_)⟩)
    subst hU
    dsimp only
    rw [List.length_map]
    have s3 : Same H2 (upd H2 l3 (.lst (List.replicate ps.length .non))) := fun c u e => by rw [upd_ne (ne_of_none e hl3)]; exact e
    have g3 := g2.trans (Gw.of g2.ok s3)
    have f3 : H l3 = none := g2.free hT hl3
    have n23 : l2 ≠ l3 := ne_of_none hl2' hl3
    have hl2'' := s3 _ _ hl2'
    have hl3' : upd H2 l3 (.lst (List.replicate ps.length .non)) l3 = some (.lst (List.replicate ps.length .non)) := upd_same
    generalize upd H2 l3 (.lst (List.replicate ps.length .non)) = H3 at s3 g3 hl2'' hl3' ⊢
    refine (evr rfl (mk2_5 b ps rfl (g3.seq hT hb) h64 g3.ok (fun D4 H4 m2 hD4 hl4 g4 p2 w2 => (mk2_3 D4 _ rfl (SqL.of hl4) ?_))))
    have S2 : Sorts ps m2 := ⟨p2, w2⟩
    have notb : ∀ (xs : List V) ps, HO.lst xs ≠ .tbl ps := fun xs ps z => by cases z
    have g34 := g3.trans g4
    have e2 := g4.at g3.ok hl2'' (notb _)
    have e3 := g4.at g3.ok hl3' (notb _)
    have n4 : ∀ {c : Addr} {u : HO}, H3 c = some u → c ≠ D4 := fun e => ne_of_none e hD4
    refine abs3k (fun i σ H5 => (∃ v4 v5, σ = [some (.ref a), some (.ref b), some (.ref l2), some (.ref l3), v4, v5]) ∧ Gw (tabOf pT) H H5 ∧ H5 D4 = some (.lst (m2.map V.int)) ∧ H5 l2 = some (.lst (m1.reverse.map V.int)) ∧ ∃ ch, H5 l3 = some (.lst (ch.map oV)) ∧ Chosen sz ps m1.reverse m2.reverse i ch) fun Pv hv => ?_
    refine for_enumRev (K := K) (a := D4) (xs := m2.map V.int) Pv
      ((hv _ _ _).mpr ⟨⟨none, none, rfl⟩, g34, hl4, e2, List.replicate ps.length none, by rw [e3, List.map_replicate]; rfl, by rw [List.length_replicate], Nat.zero_le _, fun j _ _ hj => absurd hj (Nat.not_lt_zero _)⟩) (fun i σ H5 _ hP => SqL.of ((hv _ _ _).mp hP).2.2.1) ?_ ?_
    · intro i x p σ H5 hx hP hp
      obtain ⟨⟨v4, v5, rfl⟩, g5, h4, h2, ch, h3, hch⟩ := (hv _ _ _).mp hP
      rw [← List.map_reverse] at hx
      obtain ⟨pl, hpl, rfl⟩ := int_at hx
      have s5 : Same H5 (upd H5 p (.tup [.int i, .int pl])) := fun c u e => by rw [upd_ne (ne_of_none e hp)]; exact e
      have g6 := g5.trans (Gw.of g5.ok s5)
      refine ⟨p, _, rfl, SqT.of upd_same, rfl, _, _, rfl, _, _, rfl, rfl, ?_⟩
      have h2' := s5 _ _ h2
      have h3' := s5 _ _ h3
      have h4' := s5 _ _ h4
      generalize upd H5 p (.tup [.int i, .int pl]) = H6 at s5 g6 h2' h3' h4' ⊢
      have hm := S2.mem (List.mem_reverse.mp (List.mem_of_getElem? hpl))
      have hpn : pl = ((pl.toNat : Nat) : Int) := by (first | lia | omega)
      have hpl2 : pl.toNat < ps.length := by (first | lia | omega)
      have atP : atI (ps.map V.int) pl = some (.int (ps.getD pl.toNat 0)) := at_intF hm.1 hm.2
      have bl : ((m1.reverse.map V.int).length : Int) = (m1.reverse.length : Int) := by rw [List.length_map]
      have many : (m1.reverse.length ≤ i ∨ ∃ x, m1.reverse[i]? = some x ∧ sz.getD x.toNat 0 < ps.getD pl.toNat 0) → ∀ D, H6 D = none → Q (.ref D) (upd H6 D (.tup [.str "many", .int (ps.getD pl.toNat 0)])) := fun h D hD =>
        q3 D _ _ (g6.free hT hD) upd_same (g6.trans (Gw.of g6.ok fun c u e => by rw [upd_ne (ne_of_none e hD)]; exact e)) (many_of S1 S2 hall hpl h)
      refine (evv rfl rfl (mk2_2 l2 _ rfl ⟨.inl (SqL.of h2'), ev2 rfl rfl (evr rfl (ite2 (fun h => iteT ?_) (fun h => ?_)))⟩))
      · have h := of_decide_eq_true h
        rw [bl] at h
        exact (evv rfl rfl (ix4 (p := b) (g6.seq hT hb) atP ⟨(by show 2 ≤ sizeLine; decide), fun D hD => many (.inl (by (first | lia | omega))) D hD⟩))
      · have h := of_decide_eq_false (Bool.eq_false_iff.mpr h)
        rw [bl] at h
        have hil : i < m1.reverse.length := by (first | lia | omega)
        obtain ⟨bx, hbx⟩ : ∃ bx, m1.reverse[i]? = some bx := ⟨_, List.getElem?_eq_getElem hil⟩
        have hmb := S1.mem (List.mem_reverse.mp (List.mem_of_getElem? hbx))
        have hbl : bx.toNat < sz.length := by (first | lia | omega)
        have atB : atI (m1.reverse.map V.int) (i : Int) = some (.int bx) := atI_nat (by rw [List.getElem?_map, hbx]; rfl)
        have atS : atI (sz.map V.int) bx = some (.int (sz.getD bx.toNat 0)) := at_intF hmb.1 hmb.2
        refine (ev3r rfl rfl rfl (ix4 (p := l2) (SqL.of h2') atB (ix4 (p := a) (g6.seq hT ha) atS (evv rfl rfl (ix4 (p := b) (g6.seq hT hb) atP (ev2 rfl rfl (evr rfl (ite2 (fun h5 => ?_) (fun h5 => ?_)))))))))
        · have h5 := of_decide_eq_true h5
          exact (evv rfl rfl (ix4 (p := b) (g6.seq hT hb) atP ⟨(by show 2 ≤ sizeLine; decide), fun D hD => many (.inr ⟨bx, hbx, h5⟩) D hD⟩))
        · have h5 := of_decide_eq_false (Bool.eq_false_iff.mpr h5)
          refine (evv rfl rfl (ix4 (p := l2) (SqL.of h2') atB (evv rfl rfl (mk4_5 l3 _ _ pl.toNat rfl rfl h3' (ixN_nat hpn (by rw [List.length_map, hch.1]; exact hpl2)) ?_))))
          refine (hv _ _ _).mpr ⟨⟨_, _, rfl⟩, gw_set g6 f3 h3', ?_, ?_, ch.set pl.toNat (some bx), ?_, chosen_set S1 S2 hch hpl hbx (by (first | lia | omega))⟩
          · rw [upd_ne (Ne.symm (n4 hl3'))]; exact h4'
          · rw [upd_ne n23]; exact h2'
          · rw [upd_same, List.map_set]; rfl
    · intro σ H5 hP
      obtain ⟨⟨v4, v5, rfl⟩, g5, h4, h2, ch, h3, hch⟩ := (hv _ _ _).mp hP
      rw [List.length_map, S2.len] at hch
      obtain ⟨cs, rfl, hB⟩ := boxes_of S1 S2 hch
      refine (evr rfl ⟨(by show 2 ≤ sizeLine; decide), fun D hD => ?_⟩)
      have s6 : Same H5 (upd H5 D (.tup [.str "boxes", .ref l3])) := fun c u e => by rw [upd_ne (ne_of_none e hD)]; exact e
      refine q4 D l3 _ cs (g5.free hT hD) f3 upd_same ?_ (g5.trans (Gw.of g5.ok s6)) hB
      rw [s6 _ _ h3, List.map_map]
      rfl
end
end Pw

set_option Elab.async false
set_option linter.all false
set_option maxRecDepth 100000
set_option maxHeartbeats 4000000
namespace Pw
open PySem L2
section
variable {P : Program} {w : World} {K : PySem.W.Frag} {mg : Str → Option Value} {base : Heap}
/-! ### two lists of ints, as data -/
/-- the law's promise, where a table of code objects is tracked -/
def spLawT (T : Tab) (K : PySem.W.Frag) : Sp := fun vs H Q _ => ∃ (a : Addr) (ns : List Int), vs = [.ref a] ∧ SqL K H a (ns.map V.int) ∧ ns.length ≤ 63 ∧ T.Ok H ∧ ∀ H', Q (.bl true) H'
end
end Pw

set_option Elab.async false
set_option linter.all false
set_option maxRecDepth 100000
set_option maxHeartbeats 4000000
namespace Pw
open PySem L2
section
variable {P : Program} {w : World} {K : PySem.W.Frag} {mg : Str → Option Value} {base : Heap}
/-! ### counting -/
theorem erase_len {a : Int} : ∀ {R : List Int}, a ∈ R → (R.erase a).length + 1 = R.length := fun {R} h => by
  have := List.length_erase_of_mem h
  have : 0 < R.length := List.length_pos_of_mem h
  (first | lia | omega)
theorem nodup_le : ∀ {L R : List Int}, L.Nodup → (∀ x ∈ L, x ∈ R) → L.length ≤ R.length
  | [], _, _, _ => Nat.zero_le _
  | a :: L, R, hn, hs => by
    have ha := hs a (List.mem_cons_self ..)
    have hn' := List.nodup_cons.mp hn
    have := nodup_le (L := L) (R := R.erase a) hn'.2 fun x hx => (List.mem_erase_of_ne (fun e => hn'.1 (by rw [← e]; exact hx))).mpr (hs x (List.mem_cons_of_mem _ hx))
    have := erase_len ha
    rw [List.length_cons]
    (first | lia | omega)
theorem hall_of_boxes {sz ps ch : List Int} (B : Boxes sz ps ch) (v : Int) : (ps.filter fun z => decide (v ≤ z)).length ≤ (sz.filter fun z => decide (v ≤ z)).length := by
  obtain ⟨h1, h2, h3⟩ := B
  have e1 : (ps.filter fun z => decide (v ≤ z)).length = (((ch.zip ps).filter fun p => decide (v ≤ p.2)).map Prod.fst).length := by
    rw [List.length_map]
    have : ps = (ch.zip ps).map Prod.snd := (List.map_snd_zip (by (first | lia | omega))).symm
    conv => lhs; rw [this, List.filter_map, List.length_map]
    rfl
  have e2 : (sz.filter fun z => decide (v ≤ z)).length = (((List.range sz.length).map fun i : Nat => (i : Int)).filter fun x => decide (v ≤ sz.getD x.toNat 0)).length := by
    conv => lhs; rw [← by_places sz, List.filter_map, List.length_map]
    rfl
  rw [e1, e2]
  refine nodup_le ?_ fun x hx => ?_
  · refine List.Nodup.sublist ?_ (show ch.Nodup from h2)
    have : List.Sublist (((ch.zip ps).filter fun p => decide (v ≤ p.2)).map Prod.fst) ((ch.zip ps).map Prod.fst) := List.filter_sublist.map _
    rw [List.map_fst_zip (by (first | lia | omega))] at this
    exact this
  · obtain ⟨⟨b, z⟩, hp, rfl⟩ := List.mem_map.mp hx
    obtain ⟨hm, hv⟩ := List.mem_filter.mp hp
    obtain ⟨k, hk, e⟩ := List.mem_iff_getElem.mp hm
    rw [List.length_zip] at hk
    rw [List.getElem_zip] at e
    have ec : ch[k]? = some b := by rw [List.getElem?_eq_getElem (by (first | lia | omega))]; exact congrArg (fun p => some p.1) e
    have ez : ps[k]? = some z := by rw [List.getElem?_eq_getElem (by (first | lia | omega))]; exact congrArg (fun p => some p.2) e
    obtain ⟨g1, g2, g3⟩ := h3 k b z ec ez
    have hv := of_decide_eq_true hv
    refine List.mem_filter.mpr ⟨List.mem_map.mpr ⟨b.toNat, List.mem_range.mpr (by (first | lia | omega)), by show ((b.toNat : Nat) : Int) = b; (first | lia | omega)⟩, decide_eq_true ?_⟩
    have hv' : v ≤ z := hv
    show v ≤ sz.getD b.toNat 0
    (first | lia | omega)
theorem cnt_app (v z : Int) (xs : List Int) : ((xs ++ [z]).filter fun y => decide (v ≤ y)).length = (xs.filter fun y => decide (v ≤ y)).length + (if v ≤ z then 1 else 0) := by
  rw [List.filter_append, List.length_append]
  by_cases h : v ≤ z
  · rw [if_pos h]; simp [h]
  · rw [if_neg h]; simp [h]
/-- the sizes of the parcels in the wall -/
def inW (ps : List (Option Pc)) : List Int := ps.filterMap fun o => o.map (·.size)
theorem inW_none {ps : List (Option Pc)} : inW (none :: ps) = inW ps := rfl
theorem inW_some {q : Pc} {ps : List (Option Pc)} : inW (some q :: ps) = q.size :: inW ps := rfl
theorem inW_ge {v : Int} : ∀ (sz : List Int) (ps : List (Option Pc)), ps.length = sz.length → (∀ (i : Nat) z, sz[i]? = some z → v ≤ z → ∃ q, ps[i]? = some (some q) ∧ v ≤ q.size) → (sz.filter fun z => decide (v ≤ z)).length ≤ ((inW ps).filter fun z => decide (v ≤ z)).length
  | [], _, _, _ => Nat.zero_le _
  | z :: sz, [], h, _ => by simp at h
  | z :: sz, o :: ps, h, hs => by
    have ih := inW_ge (v := v) sz ps (by simpa using h) fun i z' e1 e2 => by
      obtain ⟨q, h1, h2⟩ := hs (i + 1) z' (by simpa using e1) e2
      exact ⟨q, by simpa using h1, h2⟩
    rw [List.filter_cons]
    by_cases hv : v ≤ z
    · obtain ⟨q, h1, h2⟩ := hs 0 z rfl hv
      have h1 : o = some q := by simpa using h1
      subst h1
      rw [if_pos (decide_eq_true hv), inW_some, List.filter_cons, if_pos (decide_eq_true h2), List.length_cons, List.length_cons]; (first | lia | omega)
    · rw [if_neg (by rw [decide_eq_true_eq]; exact hv)]
      cases o with
      | none => rw [inW_none]; exact ih
      | some q =>
        rw [inW_some, List.filter_cons]
        split
        · rw [List.length_cons]; (first | lia | omega)
        · exact ih
theorem getD_of {xs : List Int} {i : Nat} {z : Int} (h : xs[i]? = some z) : xs.getD i 0 = z := by rw [List.getD_eq_getElem?_getD, h]; rfl
end
end Pw

set_option Elab.async false
set_option linter.all false
set_option maxRecDepth 100000
set_option maxHeartbeats 4000000
namespace Pw
open PySem L2
section
variable {P : Program} {w : World} {K : PySem.W.Frag} {mg : Str → Option Value} {base : Heap}
/-! ### a wall, where the table may grow -/
theorem WallAt.gw {T : Tab} {cW cP : Addr} {H H' : Hp} {p l1 l2 : Addr} {w : Wl} (W : WallAt cW cP H p l1 l2 w) (t : T.Ok H) (g : Gw T H H') : WallAt cW cP H' p l1 l2 w :=
  ⟨let ⟨dx, h⟩ := W.ob; ⟨dx, g.at t h (by intro ps z; cases z)⟩, g.at t W.s1 (by intro ps z; cases z), g.at t W.s2 (by intro ps z; cases z), fun q hq => let ⟨dx, h⟩ := W.pc q hq; ⟨dx, g.at t h (by intro ps z; cases z)⟩, W.len, W.few, W.ne, W.pn⟩
theorem tab_keeps {T : Tab} {cW cP : Addr} {H H' : Hp} {p l1 l2 : Addr} {w : Wl} (t : T.Ok H) (W : WallAt cW cP H p l1 l2 w) (k : Keeps H H' p l2) : T.Ok H' := by
  obtain ⟨dx, ho⟩ := W.ob
  have go : ∀ {a : Addr} {u : HO}, H a = some u → (∀ C dx fs, u ≠ .ins C dx fs) → (∀ xs, u ≠ .lst xs) → H' a = some u := fun {a u} e h1 h2 => k a u e (fun z => by rw [z, ho] at e; cases e; exact h1 _ _ _ rfl) (fun z => by rw [z, W.s2] at e; cases e; exact h2 _ rfl)
  rcases t with h | ⟨c', oc, vs, tq, h1, h2, h3⟩
  · exact .inl (go h (by intro _ _ _ z; cases z) (by intro _ z; cases z))
  · exact .inr ⟨c', oc, vs, tq, go h1 (by intro _ _ _ z; cases z) (by intro _ z; cases z), go h2 (by intro _ _ _ z; cases z) (by intro _ z; cases z), h3⟩
end
end Pw

set_option Elab.async false
set_option linter.all false
set_option maxRecDepth 100000
set_option maxHeartbeats 4000000
namespace Pw
open PySem L2
section
variable {P : Program} {w : World} {K : PySem.W.Frag} {mg : Str → Option Value} {base : Heap}
/-! ### the search for a hole -/
theorem bound_of (f : Int → Int) : ∀ em : List Int, ∃ v : Int, 1 ≤ v ∧ (∀ b ∈ em, f b < v) ∧ ∀ u : Int, 1 ≤ u → (∀ b ∈ em, f b < u) → v ≤ u
  | [] => ⟨1, Int.le_refl _, (fun b hb => by cases hb), fun u h _ => h⟩
  | b :: em => by
    obtain ⟨v, h1, h2, h3⟩ := bound_of f em
    by_cases h : f b < v
    · refine ⟨v, h1, fun c hc => ?_, fun u hu hs => h3 u hu fun c hc => hs c (List.mem_cons_of_mem _ hc)⟩
      rcases List.mem_cons.mp hc with rfl | hc
      · exact h
      · exact h2 c hc
    · refine ⟨f b + 1, by (first | lia | omega), fun c hc => ?_, fun u hu hs => ?_⟩
      · rcases List.mem_cons.mp hc with rfl | hc
        · (first | lia | omega)
        · have := h2 c hc; (first | lia | omega)
      · have := hs b (List.mem_cons_self ..); (first | lia | omega)
structure Bf (w : Wl) (size : Int) (em : List Int) (r : Nat) : Prop where
  mem : ∀ b ∈ em, 0 ≤ b ∧ b < w.sz.length
  nd : em.Nodup
  free : ∀ i : Nat, w.ps[i]? = some none → (i : Int) ∈ em
  low : ∀ (j : Nat) b, j < r → em[j]? = some b → w.sz.getD b.toNat 0 < size
  big : ∀ (j : Nat) b, j < r → em[j]? = some b → ∀ (i : Nat) q, w.ps[i]? = some (some q) → (i : Int) ∉ em → w.sz.getD b.toNat 0 < q.size
  rl : r ≤ em.length
/-- a place for each: what the search leans on -/
structure Hl (w : Wl) (size : Int) : Prop where
  len : w.ps.length = w.sz.length
  few : w.sz.length ≤ 8
  pos : ∀ (i : Nat) q, w.ps[i]? = some (some q) → 1 ≤ q.size
  inj : ∀ (i j : Nat) q r, w.ps[i]? = some (some q) → w.ps[j]? = some (some r) → q.num = r.num → i = j
  one : 1 ≤ size
  hall : ∀ v : Int, ((inW w.ps ++ [size]).filter fun z => decide (v ≤ z)).length ≤ (w.sz.filter fun z => decide (v ≤ z)).length
theorem Bf.lt {w : Wl} {size : Int} {em : List Int} {r : Nat} (B : Bf w size em r) (L : Hl w size) : r < em.length := by
  rcases Nat.lt_or_ge r em.length with h | h
  · exact h
  exfalso
  have hr : r = em.length := by have := B.rl; (first | lia | omega)
  obtain ⟨v, h1, h2, h3⟩ := bound_of (fun b => w.sz.getD b.toNat 0) em
  have at' : ∀ b ∈ em, ∃ j, j < r ∧ em[j]? = some b := fun b hb => by
    obtain ⟨j, hj, e⟩ := List.mem_iff_getElem.mp hb
    exact ⟨j, by (first | lia | omega), by rw [List.getElem?_eq_getElem hj, e]⟩
  have hs : v ≤ size := h3 size L.one fun b hb => by obtain ⟨j, hj, e⟩ := at' b hb; exact B.low j b hj e
  have := inW_ge (v := v) w.sz w.ps L.len fun i z ez hz => by
    have hil : i < w.ps.length := by rw [L.len]; exact (List.getElem?_eq_some_iff.mp ez).1
    have hne : (i : Int) ∉ em := fun hm => by
      have := h2 _ hm
      have e : w.sz.getD ((i : Int)).toNat 0 = z := by rw [Int.toNat_natCast]; exact getD_of ez
      have : w.sz.getD ((i : Int)).toNat 0 < v := this
      (first | lia | omega)
    cases ho : w.ps[i] with
    | none => exact absurd (B.free i (by rw [List.getElem?_eq_getElem hil, ho])) hne
    | some q =>
      have e1 : w.ps[i]? = some (some q) := by rw [List.getElem?_eq_getElem hil, ho]
      exact ⟨q, e1, h3 q.size (L.pos i q e1) fun b hb => by obtain ⟨j, hj, e⟩ := at' b hb; exact B.big j b hj e i q e1 hne⟩
  have hh := L.hall v
  rw [cnt_app, if_pos hs] at hh
  (first | lia | omega)
theorem Bf.few {w : Wl} {size : Int} {em : List Int} {r : Nat} (B : Bf w size em r) : em.length ≤ w.sz.length := by
  have := nodup_le (R := (List.range w.sz.length).map fun i : Nat => (i : Int)) B.nd fun x hx => by
    have := B.mem x hx
    exact List.mem_map.mpr ⟨x.toNat, List.mem_range.mpr (by (first | lia | omega)), by show ((x.toNat : Nat) : Int) = x; (first | lia | omega)⟩
  rw [List.length_map, List.length_range] at this
  exact this
/-- a box more is emptied -/
theorem Bf.more {w : Wl} {size : Int} {em : List Int} {r : Nat} {b : Nat} (B : Bf w size em r) (hb : b < w.sz.length) (hn : (b : Int) ∉ em) : Bf w size (em ++ [(b : Int)]) r := by
  have hr := B.rl
  have old : ∀ {j : Nat} {c : Int}, j < r → (em ++ [(b : Int)])[j]? = some c → em[j]? = some c := fun {j c} hj e => by rw [List.getElem?_append_left (by (first | lia | omega))] at e; exact e
  refine ⟨fun c hc => ?_, ?_, fun i hi => List.mem_append_left _ (B.free i hi), fun j c hj e => B.low j c hj (old hj e), fun j c hj e i q hq hni => B.big j c hj (old hj e) i q hq fun hm => hni (List.mem_append_left _ hm), by rw [List.length_append]; (first | lia | omega)⟩
  · rcases List.mem_append.mp hc with hc | hc
    · exact B.mem c hc
    · rw [List.mem_singleton.mp hc]; (first | lia | omega)
  · rw [List.nodup_append]
    refine ⟨B.nd, by simp, fun x hx y hy z => ?_⟩
    rw [List.mem_singleton.mp hy] at z
    exact hn (z ▸ hx)
/-- a hole is done -/
theorem Bf.next {w : Wl} {size : Int} {em : List Int} {r : Nat} {hole : Int} (B : Bf w size em r) (L : Hl w size) (he : em[r]? = some hole) (hlow : w.sz.getD hole.toNat 0 < size)
    (hb : ∀ (k : Nat) q, k < w.ps.length → w.ps[k]? = some (some q) → (k : Int) ∉ em → w.sz.getD hole.toNat 0 < q.size) : Bf w size em (r + 1) := by
  have hr := (List.getElem?_eq_some_iff.mp he).1
  refine ⟨B.mem, B.nd, B.free, fun j b hj e => ?_, fun j b hj e i q hq hni => ?_, hr⟩
  · by_cases h : j = r
    · subst h; rw [he] at e; cases e; exact hlow
    · exact B.low j b (by (first | lia | omega)) e
  · by_cases h : j = r
    · subst h; rw [he] at e; cases e
      exact hb i q (List.getElem?_eq_some_iff.mp hq).1 hq hni
    · exact B.big j b (by (first | lia | omega)) e i q hq hni
/-! ### keys -/
theorem val_some {kvs : List (Key × V)} {em : List Int} (hk : kvs.map Prod.fst = em.map Sum.inl) {b : Int} : (valV kvs (.inl b)).isSome = true ↔ b ∈ em := by
  unfold valV
  rw [Option.isSome_map, List.find?_isSome]
  constructor
  · rintro ⟨kv, hkv, e⟩
    have e : kv.1 = .inl b := of_decide_eq_true e
    have : kv.1 ∈ em.map Sum.inl := by rw [← hk]; exact List.mem_map_of_mem hkv
    rw [e] at this
    obtain ⟨c, hc, ec⟩ := List.mem_map.mp this
    cases ec; exact hc
  · intro h
    have : (Sum.inl b : Key) ∈ kvs.map Prod.fst := by rw [hk]; exact List.mem_map_of_mem h
    obtain ⟨kv, hkv, e⟩ := List.mem_map.mp this
    exact ⟨kv, hkv, decide_eq_true e⟩
theorem val_mem {kvs : List (Key × V)} {k : Key} {v : V} (h : valV kvs k = some v) : (k, v) ∈ kvs := by
  unfold valV at h
  cases e : kvs.find? fun kv => decide (kv.1 = k) with
  | none => rw [e] at h; cases h
  | some kv =>
    rw [e] at h
    have h : kv.2 = v := Option.some.inj h
    have h1 := List.find?_some e
    have h1 : kv.1 = k := of_decide_eq_true h1
    have := List.mem_of_find?_eq_some e
    rw [← h, ← h1]
    exact this
theorem put_new {kvs : List (Key × V)} {em : List Int} (hk : kvs.map Prod.fst = em.map Sum.inl) {b : Int} {v : V} (hn : b ∉ em) : putK kvs (.inl b) v = kvs ++ [(.inl b, v)] ∧ (putK kvs (.inl b) v).map Prod.fst = (em ++ [b]).map Sum.inl := by
  have e : putK kvs (.inl b) v = kvs ++ [(.inl b, v)] := by
    refine putK_new v ?_
    cases h : valV kvs (.inl b) with
    | none => rfl
    | some u => exact absurd ((val_some hk).mp (by rw [h]; rfl)) hn
  exact ⟨e, by rw [e, List.map_append, List.map_append, hk]; rfl⟩
end
end Pw

set_option Elab.async false
set_option linter.all false
set_option maxRecDepth 100000
set_option maxHeartbeats 4000000
namespace Pw
open PySem L2
/-! ### what a list of moves does -/
/-- the moves (number, box), done one after the other, lead from wall to wall -/
inductive Mvs : Wl → List (Int × Int) → Wl → Prop
  | nil {w : Wl} : Mvs w [] w
  | cons {w w' : Wl} {n : Int} {a b : Nat} {q : Pc} {ms : List (Int × Int)} (h1 : FirstAt (heldOf w) n a) (h2 : w.ps[a]? = some (some q)) (h3 : fitsAt w q.size b) (h4 : Mvs (w.moved a b) ms w') : Mvs w ((n, (b : Int)) :: ms) w'
theorem Mvs.snoc {w w' : Wl} {ms : List (Int × Int)} (h : Mvs w ms w') : ∀ {n : Int} {a b : Nat} {q : Pc}, FirstAt (heldOf w') n a → w'.ps[a]? = some (some q) → fitsAt w' q.size b → Mvs w (ms ++ [(n, (b : Int))]) (w'.moved a b) := by
  induction h with
  | nil => intro n a b q h1 h2 h3; exact .cons h1 h2 h3 .nil
  | cons h1 h2 h3 _ ih => intro n a b q k1 k2 k3; exact .cons h1 h2 h3 (ih k1 k2 k3)
/-- each number once -/
def Once (w : Wl) : Prop := ∀ (i j : Nat) q r, w.ps[i]? = some (some q) → w.ps[j]? = some (some r) → q.num = r.num → i = j
theorem Once.first {w : Wl} {a : Nat} {q : Pc} (h : Once w) (e : w.ps[a]? = some (some q)) : FirstAt (heldOf w) q.num a := by
  unfold heldOf
  refine ⟨by rw [List.getElem?_map, e]; rfl, fun m hm z => ?_⟩
  rw [List.getElem?_map] at z
  cases e2 : w.ps[m]? with
  | none => rw [e2] at z; cases z
  | some o =>
    rw [e2] at z
    cases o with
    | none => cases z
    | some r =>
      have : r.num = q.num := Option.some.inj (Option.some.inj z)
      exact absurd (h m a r q e2 e this) (by (first | lia | omega))
theorem moved_at {w : Wl} {a b : Nat} (i : Nat) : (w.moved a b).ps[i]? = if i = a then (if i < w.ps.length then some none else none) else if i = b then (if i < w.ps.length then some (w.ps[a]?.join) else none) else w.ps[i]? := by
  unfold Wl.moved
  simp only
  by_cases h1 : i = a
  · subst h1
    rw [if_pos rfl]
    by_cases hl : i < w.ps.length
    · rw [List.getElem?_set_self (by rw [List.length_set]; exact hl), if_pos hl]
    · rw [if_neg hl, List.getElem?_eq_none (by rw [List.length_set, List.length_set]; (first | lia | omega))]
  · rw [if_neg h1, List.getElem?_set_ne (Ne.symm h1)]
    by_cases h2 : i = b
    · subst h2
      rw [if_pos rfl]
      by_cases hl : i < w.ps.length
      · rw [List.getElem?_set_self hl, if_pos hl]
      · rw [if_neg hl, List.getElem?_eq_none (by rw [List.length_set]; (first | lia | omega))]
    · rw [if_neg h2, List.getElem?_set_ne (Ne.symm h2)]
/-- a parcel that is moved into an empty box: where all are then -/
theorem moved_some {w : Wl} {a b : Nat} {q : Pc} (e : w.ps[a]? = some (some q)) {i : Nat} {r : Pc} (h : (w.moved a b).ps[i]? = some (some r)) : i ≠ a ∧ ((i = b ∧ r = q) ∨ (i ≠ b ∧ w.ps[i]? = some (some r))) := by
  rw [moved_at] at h
  split at h
  · split at h <;> cases h
  · rename_i h1
    refine ⟨h1, ?_⟩
    split at h
    · rename_i h2
      split at h
      · rw [e] at h; cases h; exact .inl ⟨h2, rfl⟩
      · cases h
    · rename_i h2
      exact .inr ⟨h2, h⟩
theorem Once.moved {w : Wl} {a b : Nat} {q : Pc} (h : Once w) (e : w.ps[a]? = some (some q)) : Once (w.moved a b) := fun i j x y hx hy z => by
  obtain ⟨i1, i2⟩ := moved_some e hx
  obtain ⟨j1, j2⟩ := moved_some e hy
  rcases i2 with ⟨rfl, rfl⟩ | ⟨_, i2⟩
  · rcases j2 with ⟨rfl, _⟩ | ⟨_, j2⟩
    · rfl
    · exact absurd (h a j _ _ e j2 z) (Ne.symm j1)
  · rcases j2 with ⟨rfl, rfl⟩ | ⟨_, j2⟩
    · exact absurd (h i a _ _ i2 e z) i1
    · exact h i j _ _ i2 j2 z
/-- what is written down for the box b: moves that empty it; no box that is not yet written down is touched -/
structure Way (w : Wl) (em : List Int) (b : Int) (ms : List (Int × Int)) (w' : Wl) : Prop where
  go : Mvs w ms w'
  sz : w'.sz = w.sz
  len : w'.ps.length = w.ps.length
  at0 : 0 ≤ b
  free : w'.ps[b.toNat]? = some none
  out : ∀ i : Nat, (i : Int) ∉ em → w'.ps[i]? = w.ps[i]?
  once : Once w'
  came : w'.came = w.came
  gone : w'.gone = w.gone
  /-- no parcel is new, and none is lost -/
  same : ∀ q : Pc, some q ∈ w'.ps ↔ some q ∈ w.ps
theorem Way.start {w : Wl} {em : List Int} {b : Int} (h0 : 0 ≤ b) (hb : w.ps[b.toNat]? = some none) (h : Once w) : Way w em b [] w :=
  ⟨.nil, rfl, rfl, h0, hb, fun _ _ => rfl, h, rfl, rfl, fun _ => Iff.rfl⟩
theorem Way.more {w w' : Wl} {em : List Int} {b c : Int} {ms : List (Int × Int)} (h : Way w em b ms w') : Way w (em ++ [c]) b ms w' :=
  ⟨h.go, h.sz, h.len, h.at0, h.free, fun i hi => h.out i fun z => hi (List.mem_append_left _ z), h.once, h.came, h.gone, h.same⟩
theorem moved_same {w : Wl} {a b : Nat} {q : Pc} (e : w.ps[a]? = some (some q)) (hb : w.ps[b]? = some none) (r : Pc) : some r ∈ (w.moved a b).ps ↔ some r ∈ w.ps := by
  have hal := (List.getElem?_eq_some_iff.mp e).1
  have hbl := (List.getElem?_eq_some_iff.mp hb).1
  have nab : a ≠ b := fun z => by rw [z, hb] at e; cases e
  constructor
  · intro h
    obtain ⟨i, hi⟩ := List.mem_iff_getElem?.mp h
    rcases moved_some e hi with ⟨_, ⟨_, rfl⟩ | ⟨_, z⟩⟩
    · exact List.mem_iff_getElem?.mpr ⟨a, e⟩
    · exact List.mem_iff_getElem?.mpr ⟨i, z⟩
  · intro h
    obtain ⟨i, hi⟩ := List.mem_iff_getElem?.mp h
    by_cases h1 : i = a
    · subst h1
      rw [e] at hi; cases hi
      exact List.mem_iff_getElem?.mpr ⟨b, by rw [moved_at, if_neg (Ne.symm nab), if_pos rfl, if_pos hbl, e]; rfl⟩
    · have h2 : i ≠ b := fun z => by rw [z, hb] at hi; cases hi
      exact List.mem_iff_getElem?.mpr ⟨i, by rw [moved_at, if_neg h1, if_neg h2]; exact hi⟩
/-- the parcel of a box not yet written down goes into the hole -/
theorem Way.step {w w' : Wl} {em : List Int} {hole : Int} {ms : List (Int × Int)} {b : Nat} {q : Pc} (h : Way w em hole ms w') (hm : hole ∈ em) (hb : (b : Int) ∉ em) (hq : w.ps[b]? = some (some q)) (hs : q.size ≤ w.sz.getD hole.toNat 0) :
    Way w (em ++ [(b : Int)]) b (ms ++ [(q.num, hole)]) (w'.moved b hole.toNat) := by
  have hq' : w'.ps[b]? = some (some q) := by rw [h.out b hb]; exact hq
  have hbl := (List.getElem?_eq_some_iff.mp hq').1
  have hhl := (List.getElem?_eq_some_iff.mp h.free).1
  have e : ((hole.toNat : Nat) : Int) = hole := Int.toNat_of_nonneg h.at0
  have nh : ∀ i : Nat, (i : Int) ∉ em → i ≠ hole.toNat := fun i hi z => hi (by rw [z, e]; exact hm)
  have hgo := h.go.snoc (b := hole.toNat) (h.once.first hq') hq' ⟨hhl, by rw [h.free]; rfl, by rw [h.sz]; exact hs⟩
  rw [e] at hgo
  refine ⟨hgo, h.sz, by show (List.set (List.set _ _ _) _ _).length = _; rw [List.length_set, List.length_set]; exact h.len, by (first | lia | omega), ?_, fun i hi => ?_, h.once.moved hq', h.came, h.gone, fun r => (moved_same hq' h.free r).trans (h.same r)⟩
  · rw [Int.toNat_natCast, moved_at, if_pos rfl, if_pos hbl]
  · have n1 : (i : Int) ∉ em := fun z => hi (List.mem_append_left _ z)
    have n2 : i ≠ b := fun z => hi (List.mem_append_right _ (by rw [z]; exact List.mem_singleton.mpr rfl))
    rw [moved_at, if_neg n2, if_neg (nh i n1)]
    exact h.out i n1
end Pw

set_option Elab.async false
set_option linter.all false
set_option maxRecDepth 100000
set_option maxHeartbeats 4000000
namespace Pw
open PySem L2
section
variable {P : Program} {w : World} {K : PySem.W.Frag} {mg : Str → Option Value} {base : Heap}
theorem for_enum {K : PySem.W.Frag} {a : Addr} {xs : List V} {g : TG} {tb : TS} {D : Ends} {σ : St} {H : Hp} (Pv : Nat → St → Hp → Prop) (h0 : Pv 0 σ H) (hl : ∀ i σ H, i ≤ xs.length → Pv i σ H → SqL K H a xs)
    (hs : ∀ i x p σ H, xs[i]? = some x → Pv i σ H → H p = none → g (.ref p) σ (upd H p (.tup [.int i, x])) fun σ2 H2 => tb { D with nx := Pv (i + 1), ct := Pv (i + 1), bk := D.nx } σ2 H2) (hd : ∀ σ H, Pv xs.length σ H → D.nx σ H) :
    ∃ W : Nat → Nat → St → Hp → Prop, (∃ m, W 0 m σ H) ∧ ∀ i m σ H, W i m σ H →
      ((Ite K a).stop i H ∧ D.nx σ H) ∨ ((Ite K a).go i H ∧ ∃ N : St → Hp → Prop, (∀ σ' H', N σ' H' → ∃ m', m' < m ∧ W (i + 1) m' σ' H') ∧ ∀ x H', (Ite K a).yld i H x H' → g x σ H' fun σ2 H2 => tb { D with nx := N, ct := N, bk := D.nx } σ2 H2) := by
  refine ⟨fun i m σ H => m = xs.length - i ∧ i ≤ xs.length ∧ Pv i σ H, ⟨xs.length, by simp, Nat.zero_le _, h0⟩, ?_⟩
  rintro i m σ H ⟨rfl, hi, p⟩
  have q := hl i σ H hi p
  by_cases hlt : i < xs.length
  · refine .inr ⟨⟨xs, xs[i], q, by simp [hlt]⟩, Pv (i + 1), fun σ' H' p' => ⟨xs.length - (i + 1), by (first | lia | omega), rfl, hlt, p'⟩, fun x H' y => ?_⟩
    obtain ⟨pa, v, rfl, hp, rfl, y⟩ := y
    exact hs i v pa σ H (y xs q) p hp
  · have e : i = xs.length := by (first | lia | omega)
    subst e
    exact .inl ⟨⟨xs, q, Nat.le_refl _⟩, hd σ H p⟩
/-- the list's tuples are the moves -/
def MvAt (H : Hp) (ts : List Addr) (ms : List (Int × Int)) : Prop := ts.length = ms.length ∧ ∀ (i : Nat) a m, ts[i]? = some a → ms[i]? = some m → H a = some (.tup [.int m.1, .int m.2])
theorem MvAt.keep {H H' : Hp} {ts : List Addr} {ms : List (Int × Int)} (h : MvAt H ts ms) (s : ∀ a x y, H a = some (.tup [x, y]) → H' a = some (.tup [x, y])) : MvAt H' ts ms := ⟨h.1, fun i a m h1 h2 => s _ _ _ (h.2 i a m h1 h2)⟩
theorem MvAt.snoc {H : Hp} {ts : List Addr} {ms : List (Int × Int)} {t : Addr} {n b : Int} (h : MvAt H ts ms) (ht : H t = some (.tup [.int n, .int b])) : MvAt H (ts ++ [t]) (ms ++ [(n, b)]) := by
  refine ⟨by rw [List.length_append, List.length_append, h.1]; rfl, fun i a m h1 h2 => ?_⟩
  by_cases hi : i < ts.length
  · rw [List.getElem?_append_left hi] at h1
    rw [List.getElem?_append_left (by rw [← h.1]; exact hi)] at h2
    exact h.2 i a m h1 h2
  · have e1 := (List.getElem?_eq_some_iff.mp h1).1
    rw [List.length_append, List.length_singleton] at e1
    have e : i = ts.length := by (first | lia | omega)
    subst e
    rw [List.getElem?_append_right (Nat.le_refl _), Nat.sub_self] at h1
    rw [h.1, List.getElem?_append_right (Nat.le_refl _), Nat.sub_self] at h2
    cases h1; cases h2; exact ht
/-- what stands for a box in the search's dict -/
structure Row (H0 H : Hp) (le : Addr) (w : Wl) (em : List Int) (n : Nat) (b : Int) (l : Addr) (ts : List Addr) (ms : List (Int × Int)) (w' : Wl) : Prop where
  lst : H l = some (.lst (ts.map V.ref))
  nle : l ≠ le
  new : H0 l = none
  few : ms.length ≤ n
  mv : MvAt H ts ms
  way : Way w em b ms w'
  fr : b ∈ freeOf w → ms = []
theorem Row.len {H0 H : Hp} {le l : Addr} {w w' : Wl} {em : List Int} {n : Nat} {b : Int} {ts : List Addr} {ms : List (Int × Int)} (R : Row H0 H le w em n b l ts ms w') : (ts.map V.ref).length ≤ n := by rw [List.length_map, R.mv.1]; exact R.few
/-- fewest_moves(wall, size), where there is room -/
def spMoves (cW cP : Addr) : Sp := fun vs H Q _ => ∃ (p l1 l2 : Addr) (w : Wl) (size : Int), vs = [.ref p, .int size] ∧ WallAt cW cP H p l1 l2 w ∧ Hl w size ∧ ∀ (l : Addr) (ts : List Addr) (ms : List (Int × Int)) (em : List Int) (b : Int) (w' : Wl) (H' : Hp), Same H H' → H l = none → H' l = some (.lst (ts.map V.ref)) → MvAt H' ts ms → Way w em b ms w' → size ≤ w.sz.getD b.toNat 0 → ms.length ≤ 8 → (∀ c : Nat, fitsAt w size c → ms = []) → Q (.ref l) H'
/-- the search as it stands -/
structure Sr (cW cP : Addr) (H0 H : Hp) (p l1 l2 lz lh le d : Addr) (w : Wl) (em : List Int) (kvs : List (Key × V)) : Prop where
  s : Same H0 H
  W : WallAt cW cP H p l1 l2 w
  z : H lz = some (.lst (w.sz.map V.int))
  h : H lh = some (.lst ((heldOf w).map oV))
  e : H le = some (.lst (em.map V.int))
  dd : H d = some (.dK kvs)
  k : kvs.map Prod.fst = em.map Sum.inl
  v : ∀ kv ∈ kvs, ∃ b l ts ms w', kv = (.inl b, .ref l) ∧ Row H0 H le w em kvs.length b l ts ms w'
  pre : ∃ rest, em = freeOf w ++ rest
  ne : H0 le = none
  nd : H0 d = none
  n1 : lz ≠ le
  n2 : lh ≠ le
  n3 : le ≠ l1
  n4 : le ≠ l2
section
variable {cW cP : Addr} {H0 H : Hp} {p l1 l2 lz lh le d : Addr} {w : Wl} {em : List Int} {kvs : List (Key × V)}
theorem Sr.same {H' : Hp} (S : Sr cW cP H0 H p l1 l2 lz lh le d w em kvs) (s' : Same H H') : Sr cW cP H0 H' p l1 l2 lz lh le d w em kvs :=
  ⟨S.s.trans s', S.W.mono s', s' _ _ S.z, s' _ _ S.h, s' _ _ S.e, s' _ _ S.dd, S.k, fun kv hkv => let ⟨b, l, ts, ms, w', a, R⟩ := S.v kv hkv; ⟨b, l, ts, ms, w', a, s' _ _ R.lst, R.nle, R.new, R.few, R.mv.keep fun a x y e => s' _ _ e, R.way, R.fr⟩, S.pre, S.ne, S.nd, S.n1, S.n2, S.n3, S.n4⟩
/-- a key is put, a box written down -/
theorem Sr.put {l : Addr} {ts : List Addr} {ms : List (Int × Int)} {w' : Wl} {b : Int} (S : Sr cW cP H0 H p l1 l2 lz lh le d w em kvs) (hb : b ∉ em) (R : Row H0 H le w (em ++ [b]) (kvs.length + 1) b l ts ms w') :
    upd H d (.dK (putK kvs (.inl b) (.ref l))) le = some (.lst (em.map V.int)) ∧ Sr cW cP H0 (upd (upd H d (.dK (putK kvs (.inl b) (.ref l)))) le (.lst (em.map V.int ++ [.int b]))) p l1 l2 lz lh le d w (em ++ [b]) (putK kvs (.inl b) (.ref l)) := by
  obtain ⟨e1, e2⟩ := put_new S.k hb (v := .ref l)
  have nld : ∀ {a : Addr} {xs : List V}, H a = some (.lst xs) → a ≠ d := fun e => ne_of e S.dd (by intro z; cases z)
  have hle : upd H d (.dK (putK kvs (.inl b) (.ref l))) le = some (.lst (em.map V.int)) := by rw [upd_ne (nld S.e)]; exact S.e
  obtain ⟨dx, ho⟩ := S.W.ob
  have npd : p ≠ d := ne_of ho S.dd (by intro z; cases z)
  have npe : p ≠ le := ne_of ho S.e (by intro z; cases z)
  have qd : ∀ q, some q ∈ w.ps → q.ad ≠ d ∧ q.ad ≠ le := fun q hq => by
    obtain ⟨dq, hq'⟩ := S.W.pc q hq
    exact ⟨ne_of hq' S.dd (by intro z; cases z), ne_of hq' S.e (by intro z; cases z)⟩
  have nde : d ≠ le := ne_of S.dd S.e (by intro z; cases z)
  refine ⟨hle, ⟨fun c o e => by rw [upd_ne (ne_of_none e S.ne), upd_ne (ne_of_none e S.nd)]; exact S.s c o e, (S.W.put npd (nld S.W.s1) (nld S.W.s2) fun q hq => (qd q hq).1).put npe (Ne.symm S.n3) (Ne.symm S.n4) fun q hq => (qd q hq).2,
    by rw [upd_ne S.n1, upd_ne (nld S.z)]; exact S.z, by rw [upd_ne S.n2, upd_ne (nld S.h)]; exact S.h, by rw [upd_same, List.map_append]; rfl, by rw [upd_ne nde, upd_same], e2, fun kv hkv => ?_, (let ⟨r, hr⟩ := S.pre; ⟨r ++ [b], by rw [hr, List.append_assoc]⟩), S.ne, S.nd, S.n1, S.n2, S.n3, S.n4⟩⟩
  have hlen : (putK kvs (.inl b) (.ref l)).length = kvs.length + 1 := by rw [e1, List.length_append]; rfl
  rw [e1] at hkv
  have tup : ∀ a x y, H a = some (.tup [x, y]) → (upd (upd H d (.dK (putK kvs (.inl b) (.ref l)))) le (.lst (em.map V.int ++ [.int b]))) a = some (.tup [x, y]) := fun a x y e => by
    rw [upd_ne (ne_of e S.e (by intro z; cases z)), upd_ne (ne_of e S.dd (by intro z; cases z))]; exact e
  rcases List.mem_append.mp hkv with hkv | hkv
  · obtain ⟨b', l', ts', ms', w'', a1, R'⟩ := S.v kv hkv
    exact ⟨b', l', ts', ms', w'', a1, by rw [upd_ne R'.nle, upd_ne (nld R'.lst)]; exact R'.lst, R'.nle, R'.new, by rw [hlen]; have := R'.few; (first | lia | omega), R'.mv.keep tup, R'.way.more, R'.fr⟩
  · rw [List.mem_singleton.mp hkv]
    exact ⟨b, l, ts, ms, w', rfl, by rw [upd_ne R.nle, upd_ne (nld R.lst)]; exact R.lst, R.nle, R.new, by rw [hlen]; exact R.few, R.mv.keep tup, R.way, R.fr⟩
end
theorem mem_freeOf {w : Wl} {x : Int} : x ∈ freeOf w ↔ ∃ i : Nat, i < w.ps.length ∧ (w.ps[i]?.join).isNone = true ∧ x = (i : Int) := by
  unfold freeOf
  constructor
  · intro h
    obtain ⟨i, hi, rfl⟩ := List.mem_map.mp h
    obtain ⟨h1, h2⟩ := List.mem_filter.mp hi
    exact ⟨i, List.mem_range.mp h1, h2, rfl⟩
  · rintro ⟨i, h1, h2, rfl⟩
    exact List.mem_map.mpr ⟨i, List.mem_filter.mpr ⟨List.mem_range.mpr h1, h2⟩, rfl⟩
theorem bf0 {w : Wl} {size : Int} (L : Hl w size) : Bf w size (freeOf w) 0 := by
  refine ⟨fun b hb => ?_, ?_, fun i hi => ?_, fun j _ hj => absurd hj (Nat.not_lt_zero _), fun j _ hj => absurd hj (Nat.not_lt_zero _), Nat.zero_le _⟩
  · obtain ⟨i, h1, _, rfl⟩ := mem_freeOf.mp hb
    have := L.len
    (first | lia | omega)
  · unfold freeOf
    rw [List.nodup_iff_pairwise_ne, List.pairwise_map]
    exact (List.nodup_range.sublist List.filter_sublist).imp fun h z => h (by (first | lia | omega))
  · exact mem_freeOf.mpr ⟨i, (List.getElem?_eq_some_iff.mp hi).1, by rw [hi]; rfl, rfl⟩
theorem scFM : FnScope ["wall", "size", "sizes", "held", "emptied", "moves_to", "box", "rank", "hole", "parcel"] ["wall", "size"] (defScope s_fewest_moves) := ⟨rfl, rfl, rfl, by decide +kernel, rfl, by decide +kernel, by decide +kernel⟩
theorem ok_moves {f fS fH fF fZ cW cP cNP : Addr} {fd fdS fdH fdF fdZ : FuncData} (F : Fun K "fewest_moves" "fewest_moves" s_fewest_moves f fd) (T : WTxt K cW) (dS : Md P w K mg base cW "sizes" ["self"] CX0 1 (spSizes cW cP) fS fdS) (dH : Md P w K mg base cW "held" ["self"] CX0 1 (spHeld cW cP) fH fdH) (dF : Md P w K mg base cW "free" ["self"] CX0 1 (spFree cW cP) fF fdF)
    (dZ : Md P w K mg base cW "size_of" ["self", "parcel"] (CXF P w) 3 (spTells (fun _ q => q.size) cW cP cNP) fZ fdZ) (menumerate : mg "enumerate" = none) : FnOk P w K mg base CX0 4 f fd ["wall", "size"] (spMoves cW cP) := by
  refine F.ok scFM (fun vs H Q E h => ?_) (fun cdv A outer s H vs Q E hr h => ?_)
  · refine ob5_2 h (fun p l1 l2 w size eRfl _ => ?_); clear h; subst eRfl
    rfl
  · refine ob5_4 h (fun p l1 l2 w size eRfl W L q => ?_); clear h; subst eRfl
    have hr1 : Room 1 _ := hr.mono (by decide)
    have hu1 : (A.deeper (PyProof.Rows.envOfC "fewest_moves" (defScope s_fewest_moves) s.heap.objs.size f cdv)).units + 1 < cLine := by have := hr.units; (first | lia | omega)
    refine ⟨_, (pss_cons (ps_set (i := 2) scFM.nd rfl (Or.inl rfl) (pe_meth0 (pv 0) T.cl dS.me dS.G hr1 dS.b .nil pass0))
      (pss_cons (ps_set (i := 3) scFM.nd rfl (Or.inl rfl) (pe_meth0 (pv 0) T.cl dH.me dH.G hr1 dH.b .nil pass0))
      (pss_cons (ps_set (i := 4) scFM.nd rfl (Or.inl rfl) (pe_meth0 (pv 0) T.cl dF.me dF.G hr1 dF.b .nil pass0))
      (pss_cons (ps_set (i := 5) scFM.nd rfl (Or.inl rfl) pe_dnewK)
      (pss_cons (ps_for PassesOwn.never rfl (pi_list (pv 4)) (pg_name (i := 6) scFM.nd rfl (Or.inl rfl)) (pss_one (ps_dput hu1 (pv 5) (pv 6) (pe_lst pa_nil) rfl)))
      (pss_cons (ps_set (i := 7) scFM.nd rfl (Or.inl rfl) pe_int)
      (pss_cons (ps_while PassesOwn.never (pt_cmpR op_lt (pe_ix ix_list (pv 2) (pe_ix ix_list (pv 4) (pv 7) (fun _ _ => rfl)) (fun _ _ => rfl)) (pv 1) (nomark _)) (pss_cons (ps_set (i := 8) scFM.nd rfl (Or.inl rfl) (pe_ix ix_list (pv 4) (pv 7) (fun _ _ => rfl)))
      (pss_cons (ps_for PassesOwn.never rfl (pi_enum (by rfl) menumerate (pa_cons (pv 3) pa_nil)) (pg_tup rfl (pgs_cons (pg_name (i := 6) scFM.nd rfl (Or.inl rfl)) (pgs_cons (pg_name (i := 9) scFM.nd rfl (Or.inl rfl)) pgs_nil))) (pss_one (ps_if (pw_and (pt_cmp (pc_dnotin hu1 (pv 6) (pv 5))) (pw_and1 (pt_cmpR op_le (pe_meth (pv 0) T.cl dZ.me dZ.G hr dZ.b .nil passF (pa_cons (pv 9) pa_nil)) (pe_ix ix_list (pv 2) (pv 8) (fun _ _ => rfl)) (nomark _)))).pt (pss_cons (ps_dput hu1 (pv 5) (pv 6) (pe_op op_cat (pe_dget hu1 (pv 5) (pv 8) (fun _ _ => rfl)) (pe_lst (pa_cons (pe_tup (pa_cons (pv 9) (pa_cons (pv 8) pa_nil))) pa_nil))) rfl)
      (pss_one (ps_expr (pe_bm PySem.F.plainAttrs_list PySem.F.slot_list_append PySem.F.type_list_append mt_append (pv 4) (pa_cons (pv 6) pa_nil))))) pss_nil)))
      (pss_one (ps_set (i := 7) scFM.nd rfl (Or.inl rfl) (pe_op op_add (pv 7) pe_int))))))
      (pss_one (ps_ret (pe_dget hu1 (pv 5) (pe_ix ix_list (pv 4) (pv 7) (fun _ _ => rfl)) (fun _ _ => rfl))))))))))), ?_⟩
    try dsimp only [cxOf]
    obtain ⟨dx, ho⟩ := W.ob
    have hline : (1000 : Nat) < sizeLine := by decide
    have few := L.few
    refine seq_gen fun U hU => ?_
    refine (evr rfl (ex3 p dx _ ⟨rfl, ho, wf_no _ _ _ _ (by decide +kernel) (by decide +kernel) (by decide +kernel) (by decide +kernel), ex4 p l1 l2 w ⟨rfl, W, fun lz H1 nz s1 ez => gN ?_⟩⟩))
    subst hU
    dsimp only
    have W1 := W.mono s1
    refine seq_gen fun U hU => ?_
    refine (evr rfl (ex3 p dx _ ⟨rfl, s1 _ _ ho, wf_no _ _ _ _ (by decide +kernel) (by decide +kernel) (by decide +kernel) (by decide +kernel), ex4 p l1 l2 w ⟨rfl, W1, fun lh H2 nh s2 eh => gN ?_⟩⟩))
    subst hU
    dsimp only
    have W2 := W1.mono s2
    refine seq_gen fun U hU => ?_
    refine (evr rfl (ex3 p dx _ ⟨rfl, s2 _ _ (s1 _ _ ho), wf_no _ _ _ _ (by decide +kernel) (by decide +kernel) (by decide +kernel) (by decide +kernel), ex4 p l1 l2 w ⟨rfl, W2, fun le H3 ne s3 ee => gN ?_⟩⟩))
    subst hU
    dsimp only
    refine seq_gen fun U hU => ?_
    refine fun d hd => gN ?_
    subst hU
    dsimp only
    have W3 := W2.mono s3
    have sA := (s1.trans s2).trans s3
    have ez3 := s3 _ _ (s2 _ _ ez)
    have eh3 := s3 _ _ eh
    have n1 : lz ≠ le := ne_of_none (s2 _ _ ez) ne
    have n2 : lh ≠ le := ne_of_none eh ne
    have n3 : le ≠ l1 := Ne.symm (ne_of_none W2.s1 ne)
    have n4 : le ≠ l2 := Ne.symm (ne_of_none W2.s2 ne)
    have fe : H le = none := (s1.trans s2).free ne
    have fd' : H d = none := sA.free hd
    have B0 := bf0 (size := size) L
    have lf : (freeOf w).length ≤ 8 := by have := B0.few; (first | lia | omega)
    refine seq_gen fun U hU => ?_
    obtain ⟨P1, h1'⟩ := abs3 (fun i σ H5 => ∃ v6 kvs, σ = [some (.ref p), some (.int size), some (.ref lz), some (.ref lh), some (.ref le), some (.ref d), v6, none, none, none] ∧ Same H3 H5 ∧ H5 d = some (.dK kvs) ∧ kvs.map Prod.fst = ((freeOf w).take i).map Sum.inl ∧
        ∀ kv ∈ kvs, ∃ b l ts ms w', kv = (.inl b, .ref l) ∧ Row H H5 le w (freeOf w) kvs.length b l ts ms w')
    refine ⟨_, rfl, le, rfl, ⟨_, SqL.of (same_upd hd _ _ ee)⟩, for_list (K := K) (a := le) (xs := (freeOf w).map V.int) P1
      ((h1' _ _ _).mpr ⟨none, [], rfl, same_upd hd, upd_same, rfl, fun kv hkv => by cases hkv⟩) (fun i σ H5 _ hP => by obtain ⟨_, _, _, s5, _⟩ := (h1' _ _ _).mp hP; exact SqL.of (s5 _ _ ee)) ?_ ?_⟩
    · intro i y σ H5 hy hP
      have hP := (h1' _ _ _).mp hP
      refine ob2_5 hP (fun v6 kvs eRfl s5 h5 k5 v5 => ?_); clear hP; subst eRfl
      obtain ⟨b, hb, rfl⟩ := int_at hy
      have hil := (List.getElem?_eq_some_iff.mp hb).1
      refine ⟨Nat.zero_le _, fun l hl => (evv rfl rfl (mk2_3 d _ rfl (DPut.k (k := .inl b) (same_upd hl _ _ h5) ?_) ?_))⟩
      · have := congrArg List.length k5
        rw [List.length_map, List.length_map, List.length_take] at this
        (first | lia | omega)
      · have hn : b ∉ (freeOf w).take i := fun hm => by
          obtain ⟨j, hj, e⟩ := List.mem_iff_getElem.mp hm
          rw [List.length_take] at hj
          rw [List.getElem_take] at e
          exact List.pairwise_iff_getElem.mp (List.nodup_iff_pairwise_ne.mp B0.nd) j i (by (first | lia | omega)) hil (by (first | lia | omega)) (e.trans (List.getElem?_eq_some_iff.mp hb).2.symm)
        obtain ⟨e1, e2⟩ := put_new k5 hn (v := .ref l)
        have nld : l ≠ d := Ne.symm (ne_of_none h5 hl)
        refine (h1' _ _ _).mpr (mk2_5 _ _ rfl (fun c o e => ?_) upd_same ?_ (fun kv hkv => ?_))
        · rw [upd_ne (ne_of_none e hd), upd_ne (ne_of_none (s5 _ _ e) hl)]; exact s5 c o e
        · rw [e2, List.take_succ_eq_append_getElem hil, (List.getElem?_eq_some_iff.mp hb).2]
        · have hlen : (putK kvs (.inl b) (.ref l)).length = kvs.length + 1 := by rw [e1, List.length_append]; rfl
          rw [e1] at hkv
          rcases List.mem_append.mp hkv with hkv | hkv
          · obtain ⟨b', l', ts', ms', w'', a1, R'⟩ := v5 kv hkv
            exact ⟨b', l', ts', ms', w'', a1, by rw [upd_ne (ne_of R'.lst h5 (by intro z; cases z)), upd_ne (ne_of_none R'.lst hl)]; exact R'.lst, R'.nle, R'.new, by rw [hlen]; have := R'.few; (first | lia | omega), R'.mv.keep (fun a x y e => by rw [upd_ne (ne_of e h5 (by intro z; cases z)), upd_ne (ne_of_none e hl)]; exact e), R'.way, R'.fr⟩
          · rw [List.mem_singleton.mp hkv]
            have hbm := mem_freeOf.mp (List.mem_of_getElem? hb)
            refine ⟨b, l, [], [], w, rfl, by rw [upd_ne nld, upd_same]; rfl, Ne.symm (ne_of_none (s5 _ _ ee) hl), sA.free (s5.free hl), Nat.zero_le _, ⟨rfl, fun i a m h1 _ => by cases h1⟩, ?_, fun _ => rfl⟩
            obtain ⟨bi, b1, b2, rfl⟩ := hbm
            exact .start (by (first | lia | omega)) (by rw [Int.toNat_natCast]; rw [List.getElem?_eq_getElem b1] at b2 ⊢; cases z : w.ps[bi] with | none => rfl | some r => rw [z] at b2; cases b2) L.inj
    · intro σ H5 hP
      have hP := (h1' _ _ _).mp hP
      refine ob2_5 hP (fun v6 kvs eRfl s5 h5 k5 v5 => ?_); clear hP; subst eRfl
      subst hU
      rw [show ((freeOf w).map V.int).length = (freeOf w).length from List.length_map .., List.take_length] at k5
      have S0 : Sr cW cP H H5 p l1 l2 lz lh le d w (freeOf w) kvs := ⟨sA.trans s5, W3.mono s5, s5 _ _ ez3, s5 _ _ eh3, s5 _ _ ee, h5, k5, v5, ⟨[], (List.append_nil _).symm⟩, fe, fd', n1, n2, n3, n4⟩
      refine abs3k (fun m σ H6 => ∃ v6 v8 v9 em kvs, ∃ r : Nat, σ = [some (.ref p), some (.int size), some (.ref lz), some (.ref lh), some (.ref le), some (.ref d), v6, some (.int r), v8, v9] ∧ Sr cW cP H H6 p l1 l2 lz lh le d w em kvs ∧ Bf w size em r ∧ m = 9 - r) fun P2 h2' => ?_
      refine ⟨P2, ⟨_, (h2' _ _ _).mpr ⟨v6, none, none, _, kvs, 0, rfl, S0, B0, rfl⟩⟩, ?_⟩
      intro m σ H6 hP
      have hP := (h2' _ _ _).mp hP
      obtain ⟨v6, v8, v9, em, kvs, r, rfl, S, B, rfl⟩ := hP
      have hrl := B.lt L
      have hem := B.few
      obtain ⟨hole, hh⟩ : ∃ hole, em[r]? = some hole := ⟨_, List.getElem?_eq_getElem hrl⟩
      have hhm := B.mem hole (List.mem_of_getElem? hh)
      have atE : atI (em.map V.int) (r : Int) = some (.int hole) := atI_nat (by rw [List.getElem?_map, hh]; rfl)
      refine (ev3r rfl rfl rfl (ix4 (p := le) (SqL.of S.e) atE (ix4 (p := lz) (SqL.of S.z) (at_intF hhm.1 hhm.2) (evr rfl (ev2 rfl rfl (evr rfl (ite2 (fun h => ?_) (fun h => ?_))))))))
      · have h := of_decide_eq_true h
        refine ⟨fun σ' H' => ∃ m', m' < 9 - r ∧ P2 m' σ' H', fun σ' H' z => z, ?_⟩
        refine seq_gen fun U hU => ?_
        refine (evv rfl rfl (ix4 (p := le) (SqL.of S.e) atE (gN ?_)))
        subst hU
        dsimp only
        refine seq_gen fun U hU => ?_
        obtain ⟨P3, h3'⟩ := abs3 (fun i σ H7 => ∃ v6 v9 em kvs, σ = [some (.ref p), some (.int size), some (.ref lz), some (.ref lh), some (.ref le), some (.ref d), v6, some (.int r), some (.int hole), v9] ∧ Sr cW cP H H7 p l1 l2 lz lh le d w em kvs ∧ Bf w size em r ∧ em[r]? = some hole ∧
            ∀ (k : Nat) q, k < i → w.ps[k]? = some (some q) → (k : Int) ∉ em → w.sz.getD hole.toNat 0 < q.size)
        refine ⟨_, rfl, lh, rfl, ⟨_, SqL.of S.h⟩, for_enum (K := K) (a := lh) (xs := (heldOf w).map oV) P3
          ((h3' _ _ _).mpr ⟨v6, v9, em, kvs, rfl, S, B, hh, fun k _ hk => absurd hk (Nat.not_lt_zero _)⟩) (fun i σ H7 _ hP => by obtain ⟨_, _, _, _, _, S7, _⟩ := (h3' _ _ _).mp hP; exact SqL.of S7.h) ?_ ?_⟩
        · intro i x t σ H7 hx hP ht
          have hP := (h3' _ _ _).mp hP
          refine ob4_5 hP (fun v6 v9 em kvs eRfl S7 B7 hh7 big => ?_); clear hP; subst eRfl
          have hxl : i < w.ps.length := by have := (List.getElem?_eq_some_iff.mp hx).1; rw [List.length_map] at this; unfold heldOf at this; rw [List.length_map] at this; exact this
          have S8 := S7.same (same_upd (o := .tup [.int i, x]) ht)
          refine ⟨t, _, rfl, SqT.of upd_same, rfl, _, _, rfl, _, _, rfl, rfl, ?_⟩
          generalize upd H7 t (.tup [.int i, x]) = H8 at S8 ⊢
          have lk : kvs.length ≤ 8 := by
            have := congrArg List.length S8.k
            rw [List.length_map, List.length_map] at this
            have := B7.few
            (first | lia | omega)
          have skip : ((i : Int) ∉ em → ∀ q, w.ps[i]? = some (some q) → w.sz.getD hole.toNat 0 < q.size) → ∀ H9, Same H8 H9 → P3 (i + 1) [some (.ref p), some (.int size), some (.ref lz), some (.ref lh), some (.ref le), some (.ref d), some (.int i), some (.int r), some (.int hole), some x] H9 := fun hno H9 s9 =>
            (h3' _ _ _).mpr ⟨_, _, em, kvs, rfl, S8.same s9, B7, hh7, fun k q hk hq hni => by
              by_cases hki : k = i
              · subst hki; exact hno hni q hq
              · exact big k q (by (first | lia | omega)) hq hni⟩
          refine (evv rfl rfl (mk2_2 d _ rfl ⟨DGet.k (k := .inl (i : Int)) S8.dd, evr rfl (ite2 (fun h1 => ?_) (fun h1 => ?_))⟩))
          · have hni : (i : Int) ∉ em := fun hm => by rw [(val_some S8.k).mpr hm] at h1; cases h1
            cases ho' : w.ps[i] with
            | none => exact absurd (B7.free i (by rw [List.getElem?_eq_getElem hxl, ho'])) hni
            | some qq =>
              have e1 : w.ps[i]? = some (some qq) := by rw [List.getElem?_eq_getElem hxl, ho']
              have ex : x = .int qq.num := by
                rw [List.getElem?_map] at hx
                unfold heldOf at hx
                rw [List.getElem?_map, e1] at hx
                cases hx; rfl
              subst ex
              obtain ⟨dx8, ho8⟩ := S8.W.ob
              have hmem : some qq.num ∈ heldOf w := by
                unfold heldOf
                exact List.mem_map.mpr ⟨some qq, List.mem_of_getElem? e1, rfl⟩
              refine (evr rfl (mk3_3 p dx8 _ rfl ho8 ⟨wf_no _ _ _ _ (by decide +kernel) (by decide +kernel) (by decide +kernel) (by decide +kernel), evr rfl (mk5_4 p l1 l2 w qq.num rfl S8.W (fun z => absurd hmem z) (fun bq q' hF hq' H9 s9 => ?_))⟩))
              have eq : q' = qq := by
                obtain ⟨q2, hq2, en⟩ := held_at hF.1
                rw [hq'] at hq2; cases hq2
                have := L.inj bq i q' qq hq' e1 en
                subst this
                rw [hq'] at e1; cases e1; rfl
              subst eq
              have S9 := S8.same s9
              refine (evv rfl rfl (ix4 (p := lz) (SqL.of S9.z) (at_intF hhm.1 hhm.2) (ev2 rfl rfl (evr rfl (ite2 (fun h2 => ?_) (fun h2 => ?_))))))
              · obtain ⟨lv, ts, ms, w1, hv1, R⟩ : ∃ lv ts ms w1, valV kvs (.inl hole) = some (.ref lv) ∧ Row H H9 le w em kvs.length hole lv ts ms w1 := by
                  have hs : (valV kvs (.inl hole)).isSome = true := (val_some S9.k).mpr (List.mem_of_getElem? hh7)
                  cases e : valV kvs (.inl hole) with
                  | none => rw [e] at hs; cases hs
                  | some u =>
                    obtain ⟨b', l, ts, ms, w1, a1, R⟩ := S9.v _ (val_mem e)
                    cases a1
                    exact ⟨l, ts, ms, w1, rfl, R⟩
                have hv2 := R.lst
                have hv3 := R.len
                have dg : DGet H9 d (kV (.inl hole)) (some (.ref lv)) := by rw [← hv1]; exact DGet.k S9.dd
                refine (evv rfl rfl ⟨d, evr rfl ⟨dg, evv rfl rfl ⟨(by show 2 ≤ sizeLine; decide), fun t2 ht2 => ⟨(by show 1 ≤ sizeLine; decide), fun c2 hc2 => (mk4_6 lv c2 _ _ rfl rfl (same_upd hc2 _ _ (same_upd ht2 _ _ hv2)) upd_same ?_ (fun c3 hc3 => ?_))⟩⟩⟩⟩)
                · rw [List.length_singleton]; (first | lia | omega)
                · have ss := ((same_upd (o := .tup [.int q'.num, .int hole]) ht2).trans (same_upd (o := .lst [.ref t2]) hc2)).trans (same_upd (o := .lst (ts.map V.ref ++ [.ref t2])) hc3)
                  have S10 := S9.same ss
                  have hc3' : upd (upd (upd H9 t2 (.tup [.int q'.num, .int hole])) c2 (.lst [.ref t2])) c3 (.lst (ts.map V.ref ++ [.ref t2])) c3 = some (.lst (ts.map V.ref ++ [.ref t2])) := upd_same
                  have nc3 : c3 ≠ le := Ne.symm (ne_of_none (same_upd hc2 _ _ (same_upd ht2 _ _ S9.e)) hc3)
                  have fc3 : H c3 = none := S9.s.free ((same_upd (o := .tup [.int q'.num, .int hole]) ht2).free ((same_upd (o := .lst [.ref t2]) hc2).free hc3))
                  have R10 : Row H _ le w (em ++ [(i : Int)]) (kvs.length + 1) i c3 (ts ++ [t2]) (ms ++ [(q'.num, hole)]) (w1.moved i hole.toNat) :=
                    ⟨by rw [hc3', List.map_append]; rfl, nc3, fc3, by rw [List.length_append, List.length_singleton]; have := R.few; (first | lia | omega),
                     (R.mv.keep (fun a x y e => ss _ _ e)).snoc (by rw [upd_ne (ne_of_none (same_upd hc2 _ _ upd_same) hc3), upd_ne (ne_of_none upd_same hc2), upd_same]),
                     R.way.step (List.mem_of_getElem? hh7) hni e1 (of_decide_eq_true h2), fun hf => absurd (let ⟨r', hr'⟩ := S9.pre; hr' ▸ List.mem_append_left r' hf) hni⟩
                  generalize upd (upd (upd H9 t2 (.tup [.int q'.num, .int hole])) c2 (.lst [.ref t2])) c3 (.lst (ts.map V.ref ++ [.ref t2])) = H10 at S10 hc3' R10 ⊢
                  have hle := (S10.put hni R10).1
                  have S11 := (S10.put hni R10).2
                  refine (evv rfl rfl (mk2_3 d _ rfl (DPut.k (k := .inl (i : Int)) S10.dd (by (first | lia | omega))) ?_))
                  refine (evr rfl ⟨.inl ⟨rfl, _, SqL.of hle⟩, evr rfl (mk3_5 le _ _ rfl rfl hle (by rw [List.length_map]; have := B7.few; (first | lia | omega)) ?_)⟩)
                  have B11 := B7.more (b := i) (by rw [← L.len]; exact hxl) hni
                  refine (h3' _ _ _).mpr ⟨_, _, em ++ [(i : Int)], evr rfl ⟨S11, B11, by rw [List.getElem?_append_left (List.getElem?_eq_some_iff.mp hh7).1]; exact hh7, fun k q hk hq hnk => ?_⟩⟩
                  by_cases hki : k = i
                  · subst hki; exact absurd (List.mem_append_right em (List.mem_singleton.mpr rfl)) hnk
                  · exact big k q (by (first | lia | omega)) hq fun hm => hnk (List.mem_append_left _ hm)
              · have h2 := of_decide_eq_false (Bool.eq_false_iff.mpr h2)
                have h2 : ¬ (q'.size ≤ w.sz.getD hole.toNat 0) := h2
                exact skip (fun _ q hq => by rw [e1] at hq; cases hq; exact Int.not_le.mp h2) H9 s9
          · refine skip (fun hni => ?_) H8 sameR
            exfalso
            cases hval : valV kvs (.inl (i : Int)) with
            | none => rw [hval] at h1; exact h1 rfl
            | some u => exact hni ((val_some S8.k).mp (by rw [hval]; rfl))
        · intro σ H7 hP
          have hP := (h3' _ _ _).mp hP
          refine ob4_5 hP (fun v6 v9 em kvs eRfl S7 B7 hh7 big => ?_); clear hP; subst eRfl
          have hhl : ((heldOf w).map oV).length = w.ps.length := by rw [List.length_map]; unfold heldOf; rw [List.length_map]
          rw [hhl] at big
          have B8 := B7.next L hh7 h big
          have := B8.few
          have := B8.rl
          have := L.few
          subst hU
          exact (evr rfl (ev2 rfl rfl ⟨9 - (r + 1), by (first | lia | omega), (h2' _ _ _).mpr (mk6_4 v6 _ v9 em kvs (r + 1) rfl S7 B8 rfl)⟩))
      · obtain ⟨lv, ts, ms, w1, hv1, R⟩ : ∃ lv ts ms w1, valV kvs (.inl hole) = some (.ref lv) ∧ Row H H6 le w em kvs.length hole lv ts ms w1 := by
          have hs : (valV kvs (.inl hole)).isSome = true := (val_some S.k).mpr (List.mem_of_getElem? hh)
          cases e : valV kvs (.inl hole) with
          | none => rw [e] at hs; cases hs
          | some u =>
            obtain ⟨b', l, ts, ms, w1, a1, R⟩ := S.v _ (val_mem e)
            cases a1
            exact ⟨l, ts, ms, w1, rfl, R⟩
        have hsz : size ≤ w.sz.getD hole.toNat 0 := Int.not_lt.mp (of_decide_eq_false (Bool.eq_false_iff.mpr h))
        have lk : kvs.length ≤ 8 := by
          have := congrArg List.length S.k
          rw [List.length_map, List.length_map] at this
          (first | lia | omega)
        have hnil : ∀ c : Nat, fitsAt w size c → ms = [] := fun c hc => R.fr (by
          obtain ⟨rest, hr'⟩ := S.pre
          have hcm : (c : Int) ∈ freeOf w := mem_freeOf.mpr ⟨c, hc.1, hc.2.1, rfl⟩
          obtain ⟨j, hj, ej⟩ := List.mem_iff_getElem.mp hcm
          have hrj : ¬ j < r := fun z => by
            have := B.low j c z (by rw [hr', List.getElem?_append_left hj, List.getElem?_eq_getElem hj, ej])
            rw [Int.toNat_natCast] at this
            have := hc.2.2
            (first | lia | omega)
          rw [hr', List.getElem?_append_left (by (first | lia | omega))] at hh
          exact List.mem_of_getElem? hh)
        have dg : DGet H6 d (kV (.inl hole)) (some (.ref lv)) := by rw [← hv1]; exact DGet.k S.dd
        exact (ev3r rfl rfl rfl (ix4 (p := le) (SqL.of S.e) atE (mk2_3 d _ rfl dg (q lv ts ms em hole w1 H6 S.s R.new R.lst R.mv R.way hsz (by have := R.few; (first | lia | omega)) hnil))))
end
end Pw

set_option Elab.async false
set_option linter.all false
set_option maxRecDepth 100000
set_option maxHeartbeats 4000000
namespace Pw
open PySem L2
section
variable {P : Program} {w : World} {K : PySem.W.Frag} {mg : Str → Option Value} {base : Heap}
/-- a wall of parcels in boxes that hold them, no number twice -/
structure Fw (w : Wl) : Prop where
  len : w.ps.length = w.sz.length
  ok : okSizes w.sz = true
  pos : ∀ (i : Nat) q, w.ps[i]? = some (some q) → 1 ≤ q.size ∧ q.size ≤ 9
  inj : ∀ (i j : Nat) q r, w.ps[i]? = some (some q) → w.ps[j]? = some (some r) → q.num = r.num → i = j
/-- room_for(wall, size) -/
def spRoom (T : Tab) (cW cP cNS : Addr) : Sp := fun vs H Q E => ∃ (p l1 l2 : Addr) (w : Wl) (size : Int), vs = [.ref p, .int size] ∧ WallAt cW cP H p l1 l2 w ∧ Fw w ∧ T.Ok H ∧ (okNum size = false → E (.ref cNS) none H) ∧
  (okNum size = true → (∀ (D : Addr) (H' : Hp) (v : Int), H D = none → H' D = some (.tup [.str "many", .int v]) → Gw T H H' → Many w.sz (inW w.ps ++ [size]) v → Q (.ref D) H') ∧
    (∀ (D l : Addr) (ts : List Addr) (ms : List (Int × Int)) (em : List Int) (b : Int) (w' : Wl) (H' : Hp), H D = none → H l = none → H' D = some (.tup [.str "moves", .ref l]) → H' l = some (.lst (ts.map V.ref)) → MvAt H' ts ms → Way w em b ms w' → size ≤ w.sz.getD b.toNat 0 → ms.length ≤ 8 → (∀ c : Nat, fitsAt w size c → ms = []) → Gw T H H' → Q (.ref D) H'))
theorem inW_snoc {ps : List (Option Pc)} {i : Nat} {o : Option Pc} (h : ps[i]? = some o) : inW (ps.take (i + 1)) = inW (ps.take i) ++ inW [o] := by
  obtain ⟨hi, e⟩ := List.getElem?_eq_some_iff.mp h
  rw [List.take_succ_eq_append_getElem hi, e]
  unfold inW
  rw [List.filterMap_append]
theorem inW_few {ps : List (Option Pc)} : (inW ps).length ≤ ps.length := List.length_filterMap_le _ _
theorem inW_num {w : Wl} (f : Fw w) : allNum (inW w.ps) = true := by
  refine List.all_eq_true.mpr fun z hz => ?_
  unfold inW at hz
  obtain ⟨o, ho, e⟩ := List.mem_filterMap.mp hz
  cases o with
  | none => cases e
  | some q =>
    have e : q.size = z := Option.some.inj e
    obtain ⟨i, hi, ei⟩ := List.mem_iff_getElem.mp ho
    have := f.pos i q (by rw [List.getElem?_eq_getElem hi, ei])
    unfold okNum
    rw [decide_eq_true (show 1 ≤ z by (first | lia | omega)), decide_eq_true (show z ≤ 9 by (first | lia | omega))]; rfl
theorem scRF : FnScope ["wall", "size", "inside", "fitting"] ["wall", "size"] (defScope s_room_for) := ⟨rfl, rfl, rfl, by decide +kernel, rfl, by decide +kernel, by decide +kernel⟩
theorem ok_room {f fC fS fH fF fZ fM cW cP cNW cNS cNP pT : Addr} {fd fdC fdS fdH fdF fdZ fdM : FuncData} (F : Fun K "room_for" "room_for" s_room_for f fd) (T : WTxt K cW) (gS : Gd P w K mg base "check_size" s_check_size ["size"] (CXF P w) 2 (spCheckNum cNS) fC fdC)
    (dS : Md P w K mg base cW "sizes" ["self"] CX0 1 (spSizes cW cP) fS fdS) (dH : Md P w K mg base cW "held" ["self"] CX0 1 (spHeld cW cP) fH fdH) (dZ : Md P w K mg base cW "size_of" ["self", "parcel"] (CXF P w) 3 (spTells (fun _ q => q.size) cW cP cNP) fZ fdZ)
    (gF : Gd P w K mg base "fit" s_fit ["sizes", "parcels"] (CXF P w) 4 (spFit (tabOf pT) K cNW cNS) fF fdF) (gM : Gd P w K mg base "fewest_moves" s_fewest_moves ["wall", "size"] CX0 4 (spMoves cW cP) fM fdM) : FnOk P w K mg base (CXF P w) 5 f fd ["wall", "size"] (spRoom (tabOf pT) cW cP cNS) := by
  refine F.okX scRF (fun vs H Q E h => ?_) (fun cdv A outer s H vs Q E hr h => ?_)
  · refine ob5_2 h (fun p l1 l2 w size eRfl _ => ?_); clear h; subst eRfl
    rfl
  · refine ob5_6 h (fun p l1 l2 w size eRfl W fw hT q1 q2 => ?_); clear h; subst eRfl
    have hr1 : Room 1 _ := hr.mono (by decide)
    have hr2 : Room 2 _ := hr.mono (by decide)
    have hr3 : Room 3 _ := hr.mono (by decide)
    refine ⟨_, (pss_cons (ps_expr (pe_call gS.G hr2 (by rfl) gS.m gS.F.kp gS.b .nil pass_def (pa_cons (pv 1) pa_nil)))
      (pss_cons (ps_setC (i := 2) scRF.nd rfl rfl rfl (N := ["parcel", "wall"]) (src := [none, some 0]) (blk (osc := defScope s_room_for) (oN := ["wall", "size", "inside", "fitting"]) rfl rfl (by decide +kernel)) (pi_list (pe_meth0 (pv 0) T.cl dH.me dH.G.cxf hr1 dH.b .nil pass_def)) (fun C s₀ H₀ ex pn => pg_name (i := 0) (show (["parcel", "wall"] : List Str).Nodup by decide +kernel) rfl (Or.inl rfl) (Or.inr rfl)) (fun C s₀ H₀ ex pn => pts_one (pt_cmp (pc_notN (pv 0)))) (fun C s₀ H₀ ex pn => (pe_meth (pv 1) T.cl dZ.me dZ.G hr3 dZ.b .nil passF (pa_cons (pv 0) pa_nil))))
      (pss_cons (ps_set (i := 3) scRF.nd rfl (Or.inl rfl) (pe_call gF.G hr (by rfl) gF.m gF.F.kp gF.b .nil pass_def (pa_cons (pe_meth0 (pv 0) T.cl dS.me dS.G.cxf hr1 dS.b .nil pass_def) (pa_cons (pe_op op_cat (pv 2) (pe_lst (pa_cons (pv 1) pa_nil))) pa_nil))))
      (pss_cons (ps_if (pt_cmpR op_eq (pe_ix ix_tup (pv 3) pe_int (fun _ _ => rfl)) pe_str (nomark _)) (pss_one (ps_ret (pv 3))) pss_nil)
      (pss_one (ps_ret (pe_tup (pa_cons pe_str (pa_cons (pe_call gM.G.cxf hr (by rfl) gM.m gM.F.kp gM.b .nil pass_def (pa_cons (pv 0) (pa_cons (pv 1) pa_nil))) pa_nil))))))))), ?_⟩
    try dsimp only [cxOf]
    obtain ⟨dx, ho⟩ := W.ob
    have hline : (1000 : Nat) < sizeLine := by decide
    have o1 := (okSizes_all fw.ok).1
    have o2 := (okSizes_all fw.ok).2.1
    have o3 := (okSizes_all fw.ok).2.2
    have hlen := fw.len
    refine (evr rfl ⟨size, rfl, fun hok => ?_, fun hno => q1 hno⟩)
    have q3 := (q2 hok).2
    have q2 := (q2 hok).1
    refine (evr rfl (ex3 p dx _ ⟨rfl, ho, wf_no _ _ _ _ (by decide +kernel) (by decide +kernel) (by decide +kernel) (by decide +kernel), ex4 p l1 l2 w ⟨rfl, W, fun lh H1 nh s1 eh => ⟨lh, rfl, ⟨_, SqL.of eh⟩, fun D hD => ?_⟩⟩⟩))
    have hhl : (heldOf w).length = w.ps.length := by unfold heldOf; rw [List.length_map]
    refine abs3k (fun i σ1 H2 => (∃ v, σ1 = [v, some (.ref p)]) ∧ Same H1 H2 ∧ H2 D = some (.lst ((inW (w.ps.take i)).map V.int)) ∧ i ≤ w.ps.length) fun Pv hv => ?_
    refine comp_list (K := K) (a := lh) (src := [none, some 0]) (xs := (heldOf w).map oV) Pv ((hv _ _ _).mpr ⟨⟨none, rfl⟩, same_upd hD, upd_same, Nat.zero_le _⟩) (fun i σ1 H2 _ hP => SqL.of (((hv _ _ _).mp hP).2.1 _ _ eh)) ?_ ?_
    · intro i x σ1 H2 hx hP
      obtain ⟨⟨v, rfl⟩, s2, e2, _⟩ := (hv _ _ _).mp hP
      have hxl : i < w.ps.length := by have := (List.getElem?_eq_some_iff.mp hx).1; rw [List.length_map, hhl] at this; exact this
      refine gN ?_
      cases ho' : w.ps[i] with
      | none =>
        have e1 : w.ps[i]? = some none := by rw [List.getElem?_eq_getElem hxl, ho']
        have ex : x = .non := by
          rw [List.getElem?_map] at hx
          unfold heldOf at hx
          rw [List.getElem?_map, e1] at hx
          cases hx; rfl
        subst ex
        refine (evv rfl rfl (iteFe (by decide) ((hv _ _ _).mpr ⟨⟨_, rfl⟩, s2, ?_, hxl⟩)))
        rw [e2, inW_snoc e1]
        show _ = some (HO.lst ((inW (w.ps.take i) ++ []).map V.int))
        rw [List.append_nil]
      | some qq =>
        have e1 : w.ps[i]? = some (some qq) := by rw [List.getElem?_eq_getElem hxl, ho']
        have ex : x = .int qq.num := by
          rw [List.getElem?_map] at hx
          unfold heldOf at hx
          rw [List.getElem?_map, e1] at hx
          cases hx; rfl
        subst ex
        have hmem : some qq.num ∈ heldOf w := by
          unfold heldOf
          exact List.mem_map.mpr ⟨some qq, List.mem_of_getElem? e1, rfl⟩
        have W2 := (W.mono s1).mono s2
        refine (evv rfl rfl (iteTe (by rw [decide_eq_false (by intro z; cases z)]; rfl) ?_))
        refine (evr rfl (mk3_3 p dx _ rfl (s2 _ _ (s1 _ _ ho)) ⟨wf_no _ _ _ _ (by decide +kernel) (by decide +kernel) (by decide +kernel) (by decide +kernel), evr rfl (mk5_4 p l1 l2 w qq.num rfl W2 (fun z => absurd hmem z) (fun bq q' hF hq' H9 s9 => ?_))⟩))
        have eq : q' = qq := by
          obtain ⟨q2, hq2, en⟩ := held_at hF.1
          rw [hq'] at hq2; cases hq2
          have := fw.inj bq i q' qq hq' e1 en
          subst this
          rw [hq'] at e1; cases e1; rfl
        subst eq
        refine ⟨_, s9 _ _ e2, ?_, (hv _ _ _).mpr ⟨⟨_, rfl⟩, ?_, ?_, hxl⟩⟩
        · rw [List.length_map]
          have := inW_few (ps := w.ps.take i)
          rw [List.length_take] at this
          (first | lia | omega)
        · exact fun c o e => by rw [upd_ne (ne_of_none e hD)]; exact s9 c o (s2 c o e)
        · rw [upd_same, inW_snoc e1, List.map_append]; rfl
    · intro σ1 H2 hP
      obtain ⟨⟨v, rfl⟩, s2, e2, _⟩ := (hv _ _ _).mp hP
      rw [show ((heldOf w).map oV).length = w.ps.length by rw [List.length_map, hhl], List.take_length] at e2
      have sA := s1.trans s2
      have W2 := W.mono sA
      have fin := inW_few (ps := w.ps)
      refine (evr rfl (ex3 p dx _ ⟨rfl, sA _ _ ho, wf_no _ _ _ _ (by decide +kernel) (by decide +kernel) (by decide +kernel) (by decide +kernel), ex4 p l1 l2 w ⟨rfl, W2, fun lz H3 nz s3 ez => ?_⟩⟩))
      refine (evv rfl rfl ⟨(by show 1 ≤ sizeLine; decide), fun c2 hc2 => (mk4_6 D c2 _ _ rfl rfl (same_upd hc2 _ _ (s3 _ _ e2)) upd_same (by rw [List.length_map, List.length_singleton]; (first | lia | omega)) (fun c3 hc3 => ?_))⟩)
      have ss := (sA.trans s3).trans ((same_upd (o := .lst [.int size]) hc2).trans (same_upd (o := .lst ((inW w.ps).map V.int ++ [.int size])) hc3))
      have b1 := same_upd (o := .lst ((inW w.ps).map V.int ++ [.int size])) hc3 _ _ (same_upd (o := .lst [.int size]) hc2 _ _ ez)
      have b3 : upd (upd H3 c2 (.lst [.int size])) c3 (.lst ((inW w.ps).map V.int ++ [.int size])) c3 = some (.lst ((inW w.ps ++ [size]).map V.int)) := by rw [upd_same, List.map_append]; rfl
      generalize upd (upd H3 c2 (.lst [.int size])) c3 (.lst ((inW w.ps).map V.int ++ [.int size])) = H4 at ss b1 b3 ⊢
      have hall : allNum (inW w.ps ++ [size]) = true := List.all_eq_true.mpr fun y hy => by
        rcases List.mem_append.mp hy with hy | hy
        · exact List.all_eq_true.mp (inW_num fw) y hy
        · rw [List.mem_singleton.mp hy]; exact hok
      refine ⟨lz, c3, w.sz, inW w.ps ++ [size], rfl, SqL.of b1, SqL.of b3, by rw [List.length_append, List.length_singleton]; (first | lia | omega), hT.same ss, (fun z => by rw [fw.ok] at z; cases z), (fun _ z => by rw [hall] at z; cases z), fun _ _ => ⟨fun D' H5 v nD hD' g hM => ?_, fun D' l H5 ch nD hl0 hD' hl5 g hB => ?_⟩⟩
      · refine (vix (p := D') rfl (SqT.of hD') (atI_nat (j := 0) rfl) ⟨rfl, evr rfl (iteTe (by decide +kernel) ?_)⟩)
        exact (evr rfl (q2 D' H5 v (ss.free nD) hD' ((Gw.of hT ss).trans g) hM))
      · refine (vix (p := D') rfl (SqT.of hD') (atI_nat (j := 0) rfl) ⟨rfl, evr rfl (iteFe (by decide +kernel) ?_)⟩)
        have gA := (Gw.of hT ss).trans g
        have W5 := W.gw hT gA
        have L : Hl w size := ⟨fw.len, o2, fun i q e => (fw.pos i q e).1, fw.inj, by unfold okNum at hok; rw [Bool.and_eq_true] at hok; exact of_decide_eq_true hok.1, fun v => hall_of_boxes hB v⟩
        refine (evv rfl rfl (mk5_4 p l1 l2 w size rfl W5 L (fun l6 ts ms em b w' H6 s6 n6 e6 mv wy hz h8 hn => ⟨(by show 2 ≤ sizeLine; decide), fun D7 hD7 => ?_⟩)))
        have g7 := (gA.trans (Gw.of g.ok s6)).trans (Gw.of (g.ok.same s6) (same_upd (o := .tup [.str "moves", .ref l6]) hD7))
        exact q3 D7 l6 ts ms em b w' _ ((gA.trans (Gw.of g.ok s6)).free hT hD7) (gA.free hT n6) upd_same (same_upd hD7 _ _ e6) (mv.keep fun a x y e => same_upd hD7 _ _ e) wy hz h8 hn g7
end
end Pw

set_option Elab.async false
set_option linter.all false
set_option maxRecDepth 100000
set_option maxHeartbeats 4000000
namespace Pw
open PySem L2
section
variable {P : Program} {w : World} {K : PySem.W.Frag} {mg : Str → Option Value} {base : Heap}
/-- the moves are done, one after the other -/
def spMoved9 (cW cP : Addr) : Sp := fun vs H Q _ => ∃ (p l1 l2 l : Addr) (w w' : Wl) (ts : List Addr) (ms : List (Int × Int)), vs = [.ref p, .ref l] ∧ WallAt cW cP H p l1 l2 w ∧ H l = some (.lst (ts.map V.ref)) ∧ l ≠ l2 ∧ l ≠ p ∧ MvAt H ts ms ∧ Mvs w ms w' ∧ (∀ H', WallAt cW cP H' p l1 l2 w' → Keeps H H' p l2 → Q (.bl true) H')
theorem first_uniq {xs : List (Option Int)} {n : Int} {a b : Nat} (h : FirstAt xs n a) (k : FirstAt xs n b) : a = b := by
  rcases Nat.lt_trichotomy a b with z | z | z
  · exact absurd h.1 (k.2 _ z)
  · exact z
  · exact absurd k.1 (h.2 _ z)
theorem scMv9 : FnScope ["side", "moves", "move"] ["side", "moves"] (defScope s__law_moved) := ⟨rfl, rfl, rfl, by decide +kernel, rfl, by decide +kernel, by decide +kernel⟩
theorem ok_moved9 {f fW fS fH fF fZ fM cW cP cNP cNB : Addr} {fd fdW fdS fdH fdF fdZ fdM : FuncData} (F : Fun K "_law_moved" "_law_moved" s__law_moved f fd) (T : WTxt K cW) (gW : Gd P w K mg base "_law_whole" s__law_whole ["found"] CX0 1 spWhole fW fdW)
    (dS : Md P w K mg base cW "sizes" ["self"] CX0 1 (spSizes cW cP) fS fdS) (dH : Md P w K mg base cW "held" ["self"] CX0 1 (spHeld cW cP) fH fdH) (dF : Md P w K mg base cW "free" ["self"] CX0 1 (spFree cW cP) fF fdF) (dZ : Md P w K mg base cW "size_of" ["self", "parcel"] (CXF P w) 3 (spTells (fun _ q => q.size) cW cP cNP) fZ fdZ)
    (dM : Md P w K mg base cW "move" ["self", "parcel", "box"] (CXF P w) 3 (spMove cW cP cNP cNB) fM fdM) (misinstance : mg "isinstance" = none) (mlen : mg "len" = none) (mtuple : mg "tuple" = none) (kt : PySem.W.kitOne K (.type "tuple") (.type "tuple") = some true) : FnOk P w K mg base CX0 5 f fd ["side", "moves"] (spMoved9 cW cP) := by
  refine F.ok scMv9 (fun vs H Q E h => ?_) (fun cdv A outer s H vs Q E hr h => ?_)
  · refine ob8_2 h (fun p l1 l2 l w w' ts ms eRfl _ => ?_); clear h; subst eRfl
    rfl
  · refine ob8_8 h (fun p l1 l2 l w w' ts ms eRfl W hl n1 n2 mv go q => ?_); clear h; subst eRfl
    have hr1 : Room 1 _ := hr.mono (by decide)
    have hr3 : Room 3 _ := hr.mono (by decide)
    have hr4 : Room 3 _ := hr.mono (by decide)
    refine ⟨_, (pss_cons (ps_for PassesOwn.never rfl (pi_list (pv 1)) (pg_name (i := 2) scMv9.nd rfl (Or.inl rfl)) (pss_cons (ps_if (pw_or (pt_not (pt_val (pe_callB (call_isiB (K := K) rfl) (by rfl) misinstance PyProof.Rows.boot_isinstance (pa_cons (pv 2) (pa_cons (pe_bltn (v := .ty "tuple") (by rfl) mtuple (by decide +kernel) rfl) pa_nil))))) (pw_or (pt_cmpR op_ne (pe_callB call_len_seq (by rfl) mlen PySem.boot_len (pa_cons (pv 2) pa_nil)) pe_int (nomark _)) (pw_or (pt_not (pt_val (pe_call gW.G hr1 (by rfl) gW.m gW.F.kp gW.b .nil pass0 (pa_cons (pe_ix ix_tup (pv 2) pe_int (fun _ _ => rfl)) pa_nil)))) (pw_or1 (pt_not (pt_val (pe_call gW.G hr1 (by rfl) gW.m gW.F.kp gW.b .nil pass0 (pa_cons (pe_ix ix_tup (pv 2) pe_int (fun _ _ => rfl)) pa_nil)))))))).pt (pss_one (ps_ret pe_bl)) pss_nil)
      (pss_cons (ps_if (pw_or (pt_cmpR op_notIn_seq (pe_ix ix_tup (pv 2) pe_int (fun _ _ => rfl)) (pe_meth0 (pv 0) T.cl dH.me dH.G hr1 dH.b .nil pass0) (by with_unfolding_all rfl)) (pw_or1 (pt_cmpR op_notIn_seq (pe_ix ix_tup (pv 2) pe_int (fun _ _ => rfl)) (pe_meth0 (pv 0) T.cl dF.me dF.G hr1 dF.b .nil pass0) (by with_unfolding_all rfl)))).pt (pss_one (ps_ret pe_bl)) pss_nil)
      (pss_cons (ps_if (pt_cmpR op_lt (pe_ix ix_list (pe_meth0 (pv 0) T.cl dS.me dS.G hr1 dS.b .nil pass0) (pe_ix ix_tup (pv 2) pe_int (fun _ _ => rfl)) (fun _ _ => rfl)) (pe_meth (pv 0) T.cl dZ.me dZ.G hr3 dZ.b .nil passF (pa_cons (pe_ix ix_tup (pv 2) pe_int (fun _ _ => rfl)) pa_nil)) (nomark _)) (pss_one (ps_ret pe_bl)) pss_nil)
      (pss_one (ps_expr (pe_meth (pv 0) T.cl dM.me dM.G hr4 dM.b .nil passF (pa_cons (pe_ix ix_tup (pv 2) pe_int (fun _ _ => rfl)) (pa_cons (pe_ix ix_tup (pv 2) pe_int (fun _ _ => rfl)) pa_nil)))))))))
      (pss_one (ps_ret pe_bl))), ?_⟩
    try dsimp only [cxOf]
    refine abs3k (fun i σ Hi => ∃ v wi, σ = [some (.ref p), some (.ref l), v] ∧ WallAt cW cP Hi p l1 l2 wi ∧ Keeps H Hi p l2 ∧ Mvs wi (ms.drop i) w') fun Pv hv => ?_
    refine ⟨_, rfl, l, rfl, ⟨_, SqL.of hl⟩, for_list (K := K) (a := l) (xs := ts.map V.ref) Pv
      ((hv _ _ _).mpr ⟨none, w, rfl, W, fun _ _ e _ _ => e, go⟩) (fun i σ Hi _ hP => by obtain ⟨_, _, _, _, ki, _⟩ := (hv _ _ _).mp hP; exact SqL.of (ki _ _ hl n2 n1)) ?_ ?_⟩
    · intro i y σ Hi hy hP
      have hP := (hv _ _ _).mp hP
      refine ob2_4 hP (fun v wi eRfl Wi ki gi => ?_); clear hP; subst eRfl
      rw [List.getElem?_map] at hy
      obtain ⟨t, ht, rfl⟩ := Option.map_eq_some_iff.mp hy
      refine shut fun g kk => ?_
      have hil := (List.getElem?_eq_some_iff.mp ht).1
      have him : i < ms.length := by rw [← mv.1]; exact hil
      have hm := mv.2 i t _ ht (List.getElem?_eq_getElem him)
      rw [List.drop_eq_getElem_cons him] at gi
      obtain ⟨dx0, ho0⟩ := W.ob
      have hmi := ki _ _ hm (ne_of hm ho0 (by intro z; cases z)) (ne_of hm W.s2 (by intro z; cases z))
      generalize ms[i] = m at gi hm hmi
      obtain ⟨n, k⟩ := m
      cases gi with
      | @cons _ _ _ a b q' _ h1 h2 h3 h4 =>
        obtain ⟨dx, ho⟩ := Wi.ob
        refine kk (gN ?_)
        refine (evr rfl (mk4_5 _ _ _ _ rfl (.of (.tup hmi)) (by intro z; cases z) kt (evr rfl (iteFe (by rfl) ?_))))
        refine (evr rfl (mk2_4 t _ rfl (.inr (SqT.of hmi)) rfl (evr rfl (iteFe (by show (!decide (V.int 2 = V.int 2)) = false; decide +kernel) ?_))))
        refine (vix (p := t) rfl (SqT.of hmi) (atI_nat (j := 0) rfl) (evv rfl rfl (iteFe (by rfl) ?_)))
        refine (vix (p := t) rfl (SqT.of hmi) (atI_nat (j := 1) rfl) (evv rfl rfl (iteFe (by rfl) ?_)))
        have hmem : some n ∈ heldOf wi := List.mem_of_getElem? h1.1
        have hfr : (b : Int) ∈ freeOf wi := mem_freeOf.mpr ⟨b, h3.1, h3.2.1, rfl⟩
        refine (vix (p := t) rfl (SqT.of hmi) (atI_nat (j := 0) rfl) (evr rfl (ex3 p dx _ ⟨rfl, ho, wf_no _ _ _ _ (by decide +kernel) (by decide +kernel) (by decide +kernel) (by decide +kernel), ex4 p l1 l2 wi ⟨rfl, Wi, fun lh H1 nh s1 eh => ⟨lh, evr rfl ⟨.inl (SqL.of eh), rfl, flat_held _, evr rfl (iteFe (by rw [in_held, decide_eq_true hmem]; rfl) ?_)⟩⟩⟩⟩)))
        have W1 := Wi.mono s1
        have hm1 := s1 _ _ hmi
        refine (vix (p := t) rfl (SqT.of hm1) (atI_nat (j := 1) rfl) (evr rfl (ex3 p dx _ ⟨rfl, s1 _ _ ho, wf_no _ _ _ _ (by decide +kernel) (by decide +kernel) (by decide +kernel) (by decide +kernel), ex4 p l1 l2 wi ⟨rfl, W1, fun lf H2 nf s2 ef => ⟨lf, evr rfl ⟨.inl (SqL.of ef), rfl, flat_ints _, evr rfl (iteFe (by rw [in_ints, decide_eq_true hfr]; rfl) ?_)⟩⟩⟩⟩)))
        have W2 := W1.mono s2
        have hm2 := s2 _ _ hm1
        refine (evr rfl (ex3 p dx _ ⟨rfl, s2 _ _ (s1 _ _ ho), wf_no _ _ _ _ (by decide +kernel) (by decide +kernel) (by decide +kernel) (by decide +kernel), ex4 p l1 l2 wi ⟨rfl, W2, fun lz H3 nz s3 ez => ?_⟩⟩))
        have W3 := W2.mono s3
        have hm3 := s3 _ _ hm2
        refine (vix (p := t) rfl (SqT.of hm3) (atI_nat (j := 1) rfl) (ix4 (p := lz) (SqL.of ez) (at_intF (by (first | lia | omega)) (by have := W3.len; have := h3.1; (first | lia | omega))) ?_))
        refine (evr rfl (mk3_3 p dx _ rfl (s3 _ _ (s2 _ _ (s1 _ _ ho))) ⟨wf_no _ _ _ _ (by decide +kernel) (by decide +kernel) (by decide +kernel) (by decide +kernel), vix (p := t) rfl (SqT.of hm3) (atI_nat (j := 0) rfl) (mk5_4 p l1 l2 wi n rfl W3 (fun z => absurd hmem z) (fun b2 q2 hF hq2 H4 s4 => ?_))⟩))
        have eb : b2 = a := first_uniq hF h1
        subst eb
        rw [h2] at hq2
        cases hq2
        have W4 := W3.mono s4
        have hm4 := s4 _ _ hm3
        refine (ev2 rfl rfl (evr rfl (iteFe (decide_eq_false (by rw [Int.toNat_natCast]; exact Int.not_lt.mpr h3.2.2)) ?_)))
        refine (evr rfl (mk3_3 p dx _ rfl (s4 _ _ (s3 _ _ (s2 _ _ (s1 _ _ ho)))) ⟨wf_no _ _ _ _ (by decide +kernel) (by decide +kernel) (by decide +kernel) (by decide +kernel), vix (p := t) rfl (SqT.of hm4) (atI_nat (j := 0) rfl) (vix (p := t) rfl (SqT.of hm4) (atI_nat (j := 1) rfl) (mk6_5 p l1 l2 wi n b rfl W4 (fun z => absurd hmem z) (fun a' q3 hF' hq' hno => absurd ?_ (hno b rfl)) (fun a' q3 b' hF' hq' eb' hf' H5 W5 k5 => ?_)))⟩))
        · have e' := first_uniq hF' h1
          subst e'
          rw [h2] at hq'
          cases hq'
          exact h3
        · have e' := first_uniq hF' h1
          subst e'
          have e'' : b' = b := by (first | lia | omega)
          subst e''
          refine (hv _ _ _).mpr (mk2_4 _ _ rfl W5 (fun c o e np nl => ?_) h4)
          exact k5 _ _ (s4 _ _ (s3 _ _ (s2 _ _ (s1 _ _ (ki _ _ e np nl))))) np nl
    · intro σ Hi hP
      have hP := (hv _ _ _).mp hP
      refine ob2_4 hP (fun v wi eRfl Wi ki gi => ?_); clear hP; subst eRfl
      rw [List.length_map, mv.1, List.drop_length] at gi
      cases gi
      exact q Hi Wi ki
end
end Pw

set_option Elab.async false
set_option linter.all false
set_option maxRecDepth 100000
set_option maxHeartbeats 4000000
namespace Pw
open PySem L2
section
variable {P : Program} {w : World} {K : PySem.W.Frag} {mg : Str → Option Value} {base : Heap}
/-- more parcels than boxes -/
def spMany9 (K : PySem.W.Frag) : Sp := fun vs H Q _ => ∃ (a b : Addr) (sz : List Int) (ins : List (Option Int)) (v size : Int), vs = [.int v, .ref a, .ref b, .int size] ∧ SqL K H a (sz.map V.int) ∧ sz.length ≤ 8 ∧ SqL K H b (ins.map oV) ∧ ins.length ≤ 8 ∧ Many sz (ins.filterMap id ++ [size]) v ∧ ∀ H', Same H H' → Q (.bl true) H'
theorem scMy9 : FnScope ["found", "sizes", "inside", "size", "parcels"] ["found", "sizes", "inside", "size"] (defScope s__law_many) := ⟨rfl, rfl, rfl, by decide +kernel, rfl, by decide +kernel, by decide +kernel⟩
theorem filt_snoc {ps : List Int} {v z : Int} {i : Nat} (h : ps[i]? = some z) : (ps.take (i + 1)).filter (fun z => decide (v ≤ z)) = (ps.take i).filter (fun z => decide (v ≤ z)) ++ (if v ≤ z then [z] else []) := by
  obtain ⟨hi, e⟩ := List.getElem?_eq_some_iff.mp h
  rw [List.take_succ_eq_append_getElem hi, List.filter_append, e]
  by_cases hz : v ≤ z <;> simp [hz]
theorem some_snoc {xs : List (Option Int)} {o : Option Int} {i : Nat} (h : xs[i]? = some o) : (xs.take (i + 1)).filterMap id = (xs.take i).filterMap id ++ [o].filterMap id := by
  obtain ⟨hi, e⟩ := List.getElem?_eq_some_iff.mp h
  rw [List.take_succ_eq_append_getElem hi, List.filterMap_append, e]
/-- [one for one in .. if one is not None] -/
theorem some_comp {K : PySem.W.Frag} {a D : Addr} {ins : List (Option Int)} {σ : St} {H : Hp} {Q : VK} (hS : SqL K H a (ins.map oV)) (hD : H D = none) (h8 : ins.length ≤ 8) (q : ∀ H', Same H H' → H' D = some (.lst ((ins.filterMap id).map V.int)) → Q (.ref D) H') :
    CompW (Itl K a) [none] (gName 0) (tB (tNotN (tVar 0))) (tVar 0) Q σ H D := by
  have hline : (1000 : Nat) < sizeLine := by decide
  refine comp_list (K := K) (a := a) (src := [none]) (xs := ins.map oV) (fun i σ1 H2 => (∃ u, σ1 = [u]) ∧ H2 = upd H D (.lst (((ins.take i).filterMap id).map V.int)) ∧ i ≤ ins.length) ⟨⟨none, rfl⟩, rfl, Nat.zero_le _⟩ ?_ ?_ ?_
  · rintro i σ1 H2 _ ⟨_, rfl, _⟩
    exact (same_upd hD).seq hS
  · rintro i x σ1 H2 hx ⟨⟨u, rfl⟩, rfl, hi⟩
    rw [List.getElem?_map] at hx
    obtain ⟨o, ho, rfl⟩ := Option.map_eq_some_iff.mp hx
    have hil := (List.getElem?_eq_some_iff.mp ho).1
    refine gN ?_
    cases o with
    | none => exact (evv rfl rfl (iteFe (by decide) ⟨⟨_, rfl⟩, by rw [some_snoc ho]; show _ = upd H D (.lst ((((ins.take i).filterMap id) ++ []).map V.int)); rw [List.append_nil], hil⟩))
    | some z =>
      refine (evv rfl rfl (iteTe (by show (!decide (V.int z = V.non)) = true; rw [decide_eq_false (by intro z; cases z)]; rfl) ?_))
      refine (evr rfl ⟨_, upd_same, ?_, ⟨_, rfl⟩, ?_, hil⟩)
      · rw [List.length_map]; exact Nat.lt_of_le_of_lt (Nat.le_trans (List.length_filterMap_le _ _) (by rw [List.length_take]; (first | lia | omega))) hline
      · rw [upd_upd, some_snoc ho, List.map_append]; rfl
  · rintro σ1 H2 ⟨_, rfl, _⟩
    rw [show (ins.map oV).length = ins.length from List.length_map .., List.take_length]
    exact q _ (same_upd hD) upd_same
/-- [one for one in .. if one >= v] -/
theorem ge_comp {K : PySem.W.Frag} {a D : Addr} {zs : List Int} {v : Int} {σ : St} {H : Hp} {Q : VK} (hσ : capOf [none, some 0] σ = [none, some (.int v)]) (hS : SqL K H a (zs.map V.int)) (hD : H D = none) (h8 : zs.length ≤ 9) (q : ∀ H', Same H H' → H' D = some (.lst ((zs.filter fun z => decide (v ≤ z)).map V.int)) → Q (.ref D) H') :
    CompW (Itl K a) [none, some 0] (gName 0) (tTest (tOp (rI0 fun i j => .bl (decide (j ≤ i))) (tVar 0) (tVar 1))) (tVar 0) Q σ H D := by
  have hline : (1000 : Nat) < sizeLine := by decide
  refine comp_list (K := K) (a := a) (src := [none, some 0]) (xs := zs.map V.int) (fun i σ1 H2 => (∃ u, σ1 = [u, some (.int v)]) ∧ H2 = upd H D (.lst (((zs.take i).filter fun z => decide (v ≤ z)).map V.int)) ∧ i ≤ zs.length) ⟨⟨none, hσ⟩, rfl, Nat.zero_le _⟩ ?_ ?_ ?_
  · rintro i σ1 H2 _ ⟨_, rfl, _⟩
    exact (same_upd hD).seq hS
  · rintro i x σ1 H2 hx ⟨⟨u, rfl⟩, rfl, hi⟩
    obtain ⟨z, hz', rfl⟩ := int_at hx
    have hil := (List.getElem?_eq_some_iff.mp hz').1
    refine gN ?_
    refine (evv rfl rfl (ev2 rfl rfl (evr rfl (ite2 (fun h => ?_) (fun h => ?_)))))
    · have h := of_decide_eq_true h
      refine (evr rfl ⟨_, upd_same, ?_, ⟨_, rfl⟩, ?_, hil⟩)
      · rw [List.length_map]; exact Nat.lt_of_le_of_lt (Nat.le_trans (List.length_filter_le _ _) (by rw [List.length_take]; (first | lia | omega))) hline
      · rw [upd_upd, filt_snoc hz', if_pos h, List.map_append]; rfl
    · have h := of_decide_eq_false (Bool.eq_false_iff.mpr h)
      exact ⟨⟨_, rfl⟩, by rw [filt_snoc hz', if_neg h, List.append_nil], hil⟩
  · rintro σ1 H2 ⟨_, rfl, _⟩
    rw [show (zs.map V.int).length = zs.length from List.length_map .., List.take_length]
    exact q _ (same_upd hD) upd_same
theorem ok_many9 {f fW : Addr} {fd fdW : FuncData} (F : Fun K "_law_many" "_law_many" s__law_many f fd) (gW : Gd P w K mg base "_law_whole" s__law_whole ["found"] CX0 1 spWhole fW fdW) (mlen : mg "len" = none) : FnOk P w K mg base CX0 2 f fd ["found", "sizes", "inside", "size"] (spMany9 K) := by
  refine F.ok scMy9 (fun vs H Q E h => ?_) (fun cdv A outer s H vs Q E hr h => ?_)
  · refine ob6_2 h (fun a b sz ins v size eRfl _ => ?_); clear h; subst eRfl
    rfl
  · refine ob6_7 h (fun a b sz ins v size eRfl ha hz8 hb hi8 hM q => ?_); clear h; subst eRfl
    have hr1 : Room 1 _ := hr
    have hline : (1000 : Nat) < sizeLine := by decide
    refine ⟨_, (pss_cons (ps_if (pw_or (pt_not (pt_val (pe_call gW.G hr1 (by rfl) gW.m gW.F.kp gW.b .nil pass0 (pa_cons (pv 0) pa_nil)))) (pw_or (pt_cmpR op_lt (pv 0) pe_int (nomark _)) (pw_or1 (pt_cmpR op_gt (pv 0) pe_int (nomark _))))).pt (pss_one (ps_ret pe_bl)) pss_nil)
      (pss_cons (ps_set (i := 4) scMy9.nd rfl (Or.inl rfl) (pe_op op_cat (pe_comp (N := ["one"]) (src := [none]) rfl (blk (osc := defScope s__law_many) (oN := ["found", "sizes", "inside", "size", "parcels"]) rfl rfl (by decide +kernel)) (pi_list (pv 2)) (fun C s₀ H₀ ex pn => pg_name (i := 0) (show (["one"] : List Str).Nodup by decide +kernel) rfl (Or.inl rfl) (Or.inr rfl)) (fun C s₀ H₀ ex pn => pts_one (pt_cmp (pc_notN (pv 0)))) (fun C s₀ H₀ ex pn => (pv 0))) (pe_lst (pa_cons (pv 3) pa_nil))))
      (pss_one (ps_ret (pe_cmpR op_gt (pe_callB call_len_seq (by rfl) mlen PySem.boot_len (pa_cons (pe_comp (N := ["one", "found"]) (src := [none, some 0]) rfl (blk (osc := defScope s__law_many) (oN := ["found", "sizes", "inside", "size", "parcels"]) rfl rfl (by decide +kernel)) (pi_list (pv 4)) (fun C s₀ H₀ ex pn => pg_name (i := 0) (show (["one", "found"] : List Str).Nodup by decide +kernel) rfl (Or.inl rfl) (Or.inr rfl)) (fun C s₀ H₀ ex pn => pts_one (pt_cmpR op_ge (pv 0) (pv 1) (nomark _))) (fun C s₀ H₀ ex pn => (pv 0))) pa_nil)) (pe_callB call_len_seq (by rfl) mlen PySem.boot_len (pa_cons (pe_comp (N := ["box", "found"]) (src := [none, some 0]) rfl (blk (osc := defScope s__law_many) (oN := ["found", "sizes", "inside", "size", "parcels"]) rfl rfl (by decide +kernel)) (pi_list (pv 1)) (fun C s₀ H₀ ex pn => pg_name (i := 0) (show (["box", "found"] : List Str).Nodup by decide +kernel) rfl (Or.inl rfl) (Or.inr rfl)) (fun C s₀ H₀ ex pn => pts_one (pt_cmpR op_ge (pv 0) (pv 1) (nomark _))) (fun C s₀ H₀ ex pn => (pv 0))) pa_nil)) (nomark _)))))), ?_⟩
    try dsimp only [cxOf]
    have m1 := hM.1
    have m2 := hM.2.1
    have m3 := hM.2.2
    refine (ev3r rfl rfl rfl (iteFe (by rfl) ?_))
    refine (evr rfl (ev2 rfl rfl (evr rfl (iteFe (decide_eq_false (by (first | lia | omega))) ?_))))
    refine (evr rfl (ev2 rfl rfl (evr rfl (iteFe (decide_eq_false (by (first | lia | omega))) ?_))))
    refine (evr rfl ⟨b, rfl, ⟨_, hb⟩, fun L0 hL0 => some_comp hb hL0 hi8 fun H0 s0 e0 => ?_⟩)
    · refine (evr rfl ⟨(by show 1 ≤ sizeLine; decide), fun c2 hc2 => (mk4_6 L0 c2 _ _ rfl rfl (same_upd hc2 _ _ e0) upd_same ?_ (fun c3 hc3 => gN ?_))⟩)
      · rw [List.length_map, List.length_singleton]
        have := List.length_filterMap_le id ins
        (first | lia | omega)
      have ss := s0.trans ((same_upd (o := .lst [.int size]) hc2).trans (same_upd (o := .lst ((ins.filterMap id).map V.int ++ [.int size])) hc3))
      have b3 : upd (upd H0 c2 (.lst [.int size])) c3 (.lst ((ins.filterMap id).map V.int ++ [.int size])) c3 = some (.lst ((ins.filterMap id ++ [size]).map V.int)) := by rw [upd_same, List.map_append]; rfl
      have hp9 : (ins.filterMap id ++ [size]).length ≤ 9 := by
        rw [List.length_append, List.length_singleton]
        have := List.length_filterMap_le id ins
        (first | lia | omega)
      generalize upd (upd H0 c2 (.lst [.int size])) c3 (.lst ((ins.filterMap id).map V.int ++ [.int size])) = H4 at ss b3 ⊢
      generalize ins.filterMap id ++ [size] = ps at b3 hp9 m3 ⊢
      refine (evr rfl ⟨c3, rfl, ⟨_, SqL.of b3⟩, fun L1 hL1 => ge_comp rfl (SqL.of b3) hL1 hp9 fun H5 s1 e1 => ?_⟩)
      · have s5 := ss.trans s1
        refine (mk2_3 L1 _ rfl (.inl (SqL.of e1)) ?_)
        refine (evr rfl ⟨a, rfl, ⟨_, s5.seq ha⟩, fun L2 hL2 => ge_comp rfl (s5.seq ha) hL2 (by (first | lia | omega)) fun H6 s6 e6 => ?_⟩)
        · refine (mk2_2 L2 _ rfl ⟨.inl (SqL.of e6), ev2 rfl rfl ?_⟩)
          have e : decide ((((sz.filter fun z => decide (v ≤ z)).map V.int).length : Int) < (((ps.filter fun z => decide (v ≤ z)).map V.int).length : Int)) = true := decide_eq_true (by simp only [List.length_map]; (first | lia | omega))
          have fin := q H6 (s5.trans s6)
          rw [← e] at fin
          exact fin
end
end Pw

set_option Elab.async false
set_option linter.all false
set_option maxRecDepth 100000
set_option maxHeartbeats 4000000
namespace Pw
open PySem L2
/-! ### where a box is ready there are not too many -/
theorem cnt_cons {v z : Int} {zs : List Int} : ((z :: zs).filter fun z => decide (v ≤ z)).length = (zs.filter fun z => decide (v ≤ z)).length + (if v ≤ z then 1 else 0) := by
  rw [List.filter_cons]
  by_cases h : v ≤ z
  · rw [if_pos (decide_eq_true h), if_pos h]; rfl
  · rw [if_neg (by simp [h]), if_neg h]; rfl
theorem inW_le9 {v : Int} : ∀ (sz : List Int) (ps : List (Option Pc)), ps.length = sz.length → (∀ (i : Nat) q, ps[i]? = some (some q) → q.size ≤ sz.getD i 0) → ((inW ps).filter fun z => decide (v ≤ z)).length ≤ (sz.filter fun z => decide (v ≤ z)).length
  | [], [], _, _ => Nat.le_refl _
  | z :: sz, o :: ps, hl, hf => by
    have ih := inW_le9 (v := v) sz ps (by simpa using hl) (fun i q e => hf (i + 1) q e)
    cases o with
    | none => rw [inW_none, cnt_cons]; (first | lia | omega)
    | some q =>
      have h0 : q.size ≤ z := hf 0 q rfl
      rw [inW_some, cnt_cons, cnt_cons]
      by_cases h : v ≤ q.size
      · rw [if_pos h, if_pos (by (first | lia | omega))]; (first | lia | omega)
      · rw [if_neg h]; (first | lia | omega)
theorem inW_lt9 {v : Int} : ∀ (sz : List Int) (ps : List (Option Pc)) (c : Nat), ps.length = sz.length → (∀ (i : Nat) q, ps[i]? = some (some q) → q.size ≤ sz.getD i 0) → ps[c]? = some none → v ≤ sz.getD c 0 → ((inW ps).filter fun z => decide (v ≤ z)).length + 1 ≤ (sz.filter fun z => decide (v ≤ z)).length
  | [], [], c, _, _, h, _ => by cases h
  | z :: sz, o :: ps, 0, hl, hf, hc, hv => by
    have ih := inW_le9 (v := v) sz ps (by simpa using hl) (fun i q e => hf (i + 1) q e)
    have e : o = none := Option.some.inj hc
    subst e
    have hv : v ≤ z := hv
    rw [inW_none, cnt_cons, if_pos hv]; (first | lia | omega)
  | z :: sz, o :: ps, c + 1, hl, hf, hc, hv => by
    have ih := inW_lt9 (v := v) sz ps c (by simpa using hl) (fun i q e => hf (i + 1) q e) hc hv
    cases o with
    | none => rw [inW_none, cnt_cons]; (first | lia | omega)
    | some q =>
      have h0 : q.size ≤ z := hf 0 q rfl
      rw [inW_some, cnt_cons, cnt_cons]
      by_cases h : v ≤ q.size
      · rw [if_pos h, if_pos (by (first | lia | omega))]; (first | lia | omega)
      · rw [if_neg h]; (first | lia | omega)
/-- where an empty box holds the size there are not too many -/
theorem ready_few {w : Wl} {size v : Int} {c : Nat} (hl : w.ps.length = w.sz.length) (hf : ∀ (i : Nat) q, w.ps[i]? = some (some q) → q.size ≤ w.sz.getD i 0) (hc : fitsAt w size c) : ¬ Many w.sz (inW w.ps ++ [size]) v := fun ⟨_, _, h⟩ => by
  have e : w.ps[c]? = some none := by
    have hcl := hc.1
    have z := hc.2.1
    rw [List.getElem?_eq_getElem hcl] at z ⊢
    cases y : w.ps[c] with
    | none => rfl
    | some q => rw [y] at z; cases z
  rw [cnt_app] at h
  by_cases hv : v ≤ size
  · have := inW_lt9 (v := v) w.sz w.ps c hl hf e (Int.le_trans hv hc.2.2)
    rw [if_pos hv] at h; (first | lia | omega)
  · have := inW_le9 (v := v) w.sz w.ps hl hf
    rw [if_neg hv] at h; (first | lia | omega)
/-- the sizes that were asked for are those that lie there -/
theorem Filled.ins {Z : List Int} {ins : List (Option Int)} {w : Wl} (h : Filled Z ins w) (hl : ins.length = Z.length) : ins = w.ps.map fun o => o.map (·.size) := by
  refine List.ext_getElem? fun i => ?_
  have e := h.size i
  rw [List.getElem?_map]
  by_cases hi : i < w.ps.length
  · have hi' : i < ins.length := by rw [hl, ← h.len]; exact hi
    rw [List.getElem?_eq_getElem hi, List.getElem?_eq_getElem hi'] at e ⊢
    exact congrArg some e.symm
  · have hw := h.len
    rw [List.getElem?_eq_none (by (first | lia | omega)), List.getElem?_eq_none (by (first | lia | omega))]; rfl
theorem inW_map (ps : List (Option Pc)) : (ps.map fun o => o.map (·.size)).filterMap id = inW ps := by
  induction ps with
  | nil => rfl
  | cons o ps ih =>
    cases o with
    | none => exact ih
    | some q => exact congrArg (q.size :: ·) ih
/-- the wall behind the moves is of the same kind -/
theorem Way.fw {w w' : Wl} {em : List Int} {b : Int} {ms : List (Int × Int)} (h : Way w em b ms w') (f : Fw w) : Fw w' :=
  ⟨by rw [h.len, h.sz]; exact f.len, by rw [h.sz]; exact f.ok, fun i q e => by
    obtain ⟨j, hj⟩ := List.mem_iff_getElem?.mp ((h.same q).mp (List.mem_of_getElem? e))
    exact f.pos j q hj, h.once⟩
theorem Way.fits {w w' : Wl} {em : List Int} {b size : Int} {ms : List (Int × Int)} (h : Way w em b ms w') (hs : size ≤ w.sz.getD b.toNat 0) : fitsAt w' size b.toNat :=
  ⟨(List.getElem?_eq_some_iff.mp h.free).1, by rw [h.free]; rfl, by rw [h.sz]; exact hs⟩
end Pw

set_option Elab.async false
set_option linter.all false
set_option maxRecDepth 100000
set_option maxHeartbeats 4000000
namespace Pw
open PySem L2
section
variable {P : Program} {w : World} {K : PySem.W.Frag} {mg : Str → Option Value} {base : Heap}
/-! ### what stands in the law -/
structure I9 (T : Tab) (cW cP : Addr) (H : Hp) (lz li t0 p l1 l2 lh : Addr) (Z : List Int) (ins hs : List (Option Int)) (w : Wl) : Prop where
  z : H lz = some (.lst (Z.map V.int))
  i : H li = some (.lst (ins.map oV))
  m : H t0 = some (.tup [.ref p, .ref lh])
  h : H lh = some (.lst (hs.map oV))
  W : WallAt cW cP H p l1 l2 w
  t : T.Ok H
  z2 : lz ≠ l2
  i2 : li ≠ l2
  h2 : lh ≠ l2
theorem I9.gw {T : Tab} {cW cP : Addr} {H H' : Hp} {lz li t0 p l1 l2 lh : Addr} {Z : List Int} {ins hs : List (Option Int)} {w : Wl} (I : I9 T cW cP H lz li t0 p l1 l2 lh Z ins hs w) (g : Gw T H H') : I9 T cW cP H' lz li t0 p l1 l2 lh Z ins hs w :=
  ⟨g.at I.t I.z (by intro ps z; cases z), g.at I.t I.i (by intro ps z; cases z), g.at I.t I.m (by intro ps z; cases z), g.at I.t I.h (by intro ps z; cases z), I.W.gw I.t g, g.ok, I.z2, I.i2, I.h2⟩
theorem I9.same {T : Tab} {cW cP : Addr} {H H' : Hp} {lz li t0 p l1 l2 lh : Addr} {Z : List Int} {ins hs : List (Option Int)} {w : Wl} (I : I9 T cW cP H lz li t0 p l1 l2 lh Z ins hs w) (s : Same H H') : I9 T cW cP H' lz li t0 p l1 l2 lh Z ins hs w := I.gw (Gw.of I.t s)
theorem I9.keeps {T : Tab} {cW cP : Addr} {H H' : Hp} {lz li t0 p l1 l2 lh : Addr} {Z : List Int} {ins hs : List (Option Int)} {w w' : Wl} (I : I9 T cW cP H lz li t0 p l1 l2 lh Z ins hs w) (k : Keeps H H' p l2) (W : WallAt cW cP H' p l1 l2 w') : I9 T cW cP H' lz li t0 p l1 l2 lh Z ins hs w' := by
  obtain ⟨dx, ho⟩ := I.W.ob
  exact ⟨k _ _ I.z (ne_of I.z ho (by intro z; cases z)) I.z2, k _ _ I.i (ne_of I.i ho (by intro z; cases z)) I.i2, k _ _ I.m (ne_of I.m ho (by intro z; cases z)) (ne_of I.m I.W.s2 (by intro z; cases z)), k _ _ I.h (ne_of I.h ho (by intro z; cases z)) I.h2, W, tab_keeps I.t I.W k, I.z2, I.i2, I.h2⟩
abbrev N9 : List Str := ["script", "sizes", "inside", "made", "side", "size", "ready", "lap", "found", "parcel", "number"]
theorem scLaw : FnScope N9 ["script"] (defScope s_law) := ⟨rfl, rfl, rfl, by decide +kernel, rfl, by decide +kernel, by decide +kernel⟩
/-- the parcel comes -/
theorem tail_come {f fC fH cW cP cNS cNN cNB pT : Addr} {fdC fdH : FuncData} {cdv : Value} {A : Around} {outer : List Env} {s : Shared} {H : Hp} {Q : VK} {E : XK} (T : WTxt K cW) (hr : Room 6 (A.deeper (PyProof.Rows.envOfC "law" (defScope s_law) s.heap.objs.size f cdv)))
    (dC : Md P w K mg base cW "come" ["self", "size", "nights"] (CXF P w) 4 (spCome cW cP cNS cNN cNB) fC fdC) (dH : Md P w K mg base cW "held" ["self"] CX0 1 (spHeld cW cP) fH fdH) (mlen : mg "len" = none) :
    ∃ t, PSs (cxOf CX0 P w K mg base N9 "law" (defScope s_law) f cdv A outer s H E).nox ((defBody s_law).drop 11) t ∧
      ∀ (sc v6 v7 v8 v9 v10 : Option V) (lz li t0 p l1 l2 lh : Addr) (sz : List Int) (ins hs : List (Option Int)) (w : Wl) (size : Int) (c : Nat) (H0 : Hp), I9 (tabOf pT) cW cP H0 lz li t0 p l1 l2 lh sz ins hs w → w.sz = sz → okNum size = true → fitsAt w size c → ins.length ≤ 8 →
        (∀ (i : Nat) r, w.ps[i]? = some (some r) → r.num ≠ w.came) → w.came = 1 + ((ins.filterMap id).length : Nat) → (∀ H', Q (.bl true) H') → t { nx := fun _ H' => Q .non H', rt := Q } [sc, some (.ref lz), some (.ref li), some (.ref t0), some (.ref p), some (.int size), v6, v7, v8, v9, v10] H0 := by
  have hr1 : Room 1 _ := hr.mono (by decide)
  have hr4 : Room 4 _ := hr.mono (by decide)
  have hline : (1000 : Nat) < sizeLine := by decide
  refine ⟨_, (pss_cons (ps_set (i := 10) scLaw.nd rfl (Or.inl rfl) (pe_meth (pv 4) T.cl dC.me dC.G hr4 dC.b .nil passF (pa_cons (pv 5) (pa_cons pe_int pa_nil))))
      (pss_cons (ps_if (pt_cmpR op_ne (pv 10) (pe_op op_add pe_int (pe_callB call_len_seq (by rfl) mlen PySem.boot_len (pa_cons (pe_comp (N := ["one"]) (src := [none]) rfl (blk (osc := defScope s_law) (oN := ["script", "sizes", "inside", "made", "side", "size", "ready", "lap", "found", "parcel", "number"]) rfl rfl (by decide +kernel)) (pi_list (pv 2)) (fun C s₀ H₀ ex pn => pg_name (i := 0) (show (["one"] : List Str).Nodup by decide +kernel) rfl (Or.inl rfl) (Or.inr rfl)) (fun C s₀ H₀ ex pn => pts_one (pt_cmp (pc_notN (pv 0)))) (fun C s₀ H₀ ex pn => (pv 0))) pa_nil))) (nomark _)) (pss_one (ps_ret pe_bl)) pss_nil)
      (pss_one (ps_ret (pe_cmpR op_ge (pe_ix ix_list (pv 1) (pe_bm PySem.F.plainAttrs_list PySem.F.slot_list_index PySem.F.type_list_index mt_index (pe_meth0 (pv 4) T.cl dH.me dH.G hr1 dH.b .nil pass0) (pa_cons (pv 10) pa_nil)) (fun _ _ => rfl)) (pv 5) (nomark _)))))), ?_⟩
  try dsimp only [cxOf]
  intro sc v6 v7 v8 v9 v10 lz li t0 p l1 l2 lh sz ins hs w size c H0 I es ok fit i8 hn hc q
  obtain ⟨dx, ho⟩ := I.W.ob
  refine (evr rfl (mk3_3 p dx _ rfl ho ⟨wf_no _ _ _ _ (by decide +kernel) (by decide +kernel) (by decide +kernel) (by decide +kernel), evr rfl (mk6_6 p l1 l2 w size 1 rfl I.W (fun k => by rw [ok] at k; cases k) (fun _ k => by cases k) (fun _ _ k => absurd fit (k c)) (fun _ _ b hb ad H1 had W1 k1 => ?_))⟩))
  have I1 := I.keeps k1 W1
  have hbl := hb.1.1
  have hbs := hb.1.2.2
  have fst : FirstAt (heldOf (w.comes b ad size 1)) w.came b := first_new (q := ⟨ad, w.came, size, w.gone + 1⟩) hbl (fun k r hr e => hn k r hr e) _ _
  refine (evv rfl rfl ⟨li, rfl, ⟨_, SqL.of I1.i⟩, fun L0 hL0 => some_comp (SqL.of I1.i) hL0 i8 fun H2 s2' e0 => ?_⟩)
  · have I2 := I1.same s2'
    refine (mk2_2 L0 _ rfl ⟨.inl (SqL.of e0), ev2 rfl rfl ⟨rfl, evr rfl (iteFe (by rw [List.length_map, hc, decide_eq_true rfl]; rfl) ?_)⟩⟩)
    obtain ⟨dx2, ho2⟩ := I2.W.ob
    refine (evv rfl rfl (ex3 p dx2 _ ⟨rfl, ho2, wf_no _ _ _ _ (by decide +kernel) (by decide +kernel) (by decide +kernel) (by decide +kernel), ex4 p l1 l2 _ ⟨rfl, I2.W, fun lk H3 nk s3 hk => ?_⟩⟩))
    have i1 := (ix_read fst).1
    have i2 := (ix_read fst).2.1
    have i3 := (ix_read fst).2.2
    have I3 := I2.same s3
    refine ⟨.inl ⟨rfl, _, SqL.of hk⟩, evr rfl (mk4_9 lk _ _ b rfl rfl (SqL.of hk) rfl (flat_held _) i1 i2 i3 (ix4 (p := lz) (SqL.of I3.z) (at_intF (by (first | lia | omega)) (by rw [← es]; have := I.W.len; (first | lia | omega))) (evr rfl (ev2 rfl rfl ?_))))⟩
    have e : decide (size ≤ sz.getD ((b : Nat) : Int).toNat 0) = true := decide_eq_true (by rw [Int.toNat_natCast, ← es]; exact hbs)
    have fin := q H3
    rw [← e] at fin
    exact fin
end
end Pw

set_option Elab.async false
set_option linter.all false
set_option maxRecDepth 100000
set_option maxHeartbeats 4000000
namespace Pw
open PySem L2
section
variable {P : Program} {w : World} {K : PySem.W.Frag} {mg : Str → Option Value} {base : Heap}
/-- ("moves", []) compared -/
theorem moves_ne {H : Hp} {t l L t2 : Addr} {R : VK} (h1 : H t = some (.tup [.str "moves", .ref l])) (h2 : H l = some (.lst [])) (hL : H L = none) (ht2 : upd H L (.lst []) t2 = none) (q : ∀ H', Same H H' → R (.bl false) H') : rEqD K true (.ref t) (.ref t2) (upd (upd H L (.lst [])) t2 (.tup [.str "moves", .ref L])) R := by
  have n : L ≠ t2 := fun z => by rw [z, upd_same] at ht2; cases ht2
  have s := (same_upd (o := .lst []) hL).trans (same_upd (o := .tup [.str "moves", .ref L]) ht2)
  refine ⟨.tuple [.str "moves", .list []], .tuple [.str "moves", .list []], .tup (SqT.of (s _ _ h1)) (.cons (.str _) (.cons (.lst (SqL.of (s _ _ h2)) .nil) .nil)), .tup (SqT.of upd_same) (.cons (.str _) (.cons (.lst (SqL.of (by rw [upd_ne n, upd_same])) .nil) .nil)), by decide +kernel, by decide +kernel, by decide +kernel, ?_⟩
  have e : (if true = true then !PyData.eqv (.tuple [.str "moves", .list []]) (.tuple [.str "moves", .list []]) else PyData.eqv (.tuple [.str "moves", .list []]) (.tuple [.str "moves", .list []])) = false := by decide +kernel
  rw [e]
  exact q _ s
/-- a parcel in a box that holds it, also behind the moves -/
def Holds (w : Wl) : Prop := ∀ (i : Nat) q, w.ps[i]? = some (some q) → q.size ≤ w.sz.getD i 0
theorem Mvs.holds {w w' : Wl} {ms : List (Int × Int)} (h : Mvs w ms w') : Holds w → Holds w' := by
  induction h with
  | nil => exact id
  | @cons w w' n a b q ms h1 h2 h3 h4 ih =>
    intro hw
    refine ih fun i r e => ?_
    rcases moved_some h2 e with ⟨_, ⟨rfl, rfl⟩ | ⟨_, z⟩⟩
    · exact h3.2.2
    · exact hw i r z
/-- the second question, and how long the parcels are kept -/
theorem tail_again {f fR fL fC fH cW cP cNS cNN cNB cNP pT : Addr} {fdR fdL fdC fdH : FuncData} {cdv : Value} {A : Around} {outer : List Env} {s : Shared} {H : Hp} {Q : VK} {E : XK} (T : WTxt K cW) (hr6 : Room 6 (A.deeper (PyProof.Rows.envOfC "law" (defScope s_law) s.heap.objs.size f cdv)))
    (gR : Gd P w K mg base "room_for" s_room_for ["wall", "size"] (CXF P w) 5 (spRoom (tabOf pT) cW cP cNS) fR fdR) (dL : Md P w K mg base cW "left" ["self", "parcel"] (CXF P w) 3 (spTells (fun w q => q.last - w.gone) cW cP cNP) fL fdL)
    (dC : Md P w K mg base cW "come" ["self", "size", "nights"] (CXF P w) 4 (spCome cW cP cNS cNN cNB) fC fdC) (dH : Md P w K mg base cW "held" ["self"] CX0 1 (spHeld cW cP) fH fdH) (mlen : mg "len" = none) :
    ∃ t, PSs (cxOf CX0 P w K mg base N9 "law" (defScope s_law) f cdv A outer s H E).nox ((defBody s_law).drop 9) t ∧
      ∀ (sc v6 v7 v8 v9 v10 : Option V) (lz li t0 p l1 l2 lh : Addr) (sz : List Int) (ins hs : List (Option Int)) (w : Wl) (size : Int) (c : Nat) (H0 : Hp), I9 (tabOf pT) cW cP H0 lz li t0 p l1 l2 lh sz ins hs w → w.sz = sz → okNum size = true → fitsAt w size c → ins.length ≤ 8 →
        (∀ (i : Nat) r, w.ps[i]? = some (some r) → r.num ≠ w.came) → w.came = 1 + ((ins.filterMap id).length : Nat) → Fw w → Holds w → (∀ n, some n ∈ hs → some n ∈ heldOf w) → (∀ (i : Nat) r, w.ps[i]? = some (some r) → r.last - w.gone = 9) →
        (∀ H', Q (.bl true) H') → t { nx := fun _ H' => Q .non H', rt := Q } [sc, some (.ref lz), some (.ref li), some (.ref t0), some (.ref p), some (.int size), v6, v7, v8, v9, v10] H0 := by
  have hr3 : Room 3 _ := hr6.mono (by decide)
  have hu : (A.deeper (PyProof.Rows.envOfC "law" (defScope s_law) s.heap.objs.size f cdv)).units + 60 < cLine := by have := hr6.units; (first | lia | omega)
  obtain ⟨tl, ptl, hq⟩ := tail_come (pT := pT) (f := f) (cdv := cdv) (A := A) (outer := outer) (s := s) (H := H) (Q := Q) (E := E) T hr6 dC dH mlen
  have hr6 : Room 5 _ := hr6.mono (by decide)
  refine ⟨_, (pss_cons (ps_if (pt_cmpR (op_neD hu) (pe_call gR.G hr6 (by rfl) gR.m gR.F.kp gR.b .nil passF (pa_cons (pv 4) (pa_cons (pv 5) pa_nil))) (pe_tup (pa_cons pe_str (pa_cons (pe_lst pa_nil) pa_nil))) (nomark _)) (pss_one (ps_ret pe_bl)) pss_nil)
      (pss_cons (ps_for PassesOwn.never rfl (pi_list (pe_ix ix_tup (pv 3) pe_int (fun _ _ => rfl))) (pg_name (i := 9) scLaw.nd rfl (Or.inl rfl)) (pss_one (ps_if (pw_and (pt_cmp (pc_notN (pv 9))) (pw_and1 (pt_cmpR op_ne (pe_meth (pv 4) T.cl dL.me dL.G hr3 dL.b .nil passF (pa_cons (pv 9) pa_nil)) pe_int (nomark _)))).pt (pss_one (ps_ret pe_bl)) pss_nil)))
      ptl)), ?_⟩
  try dsimp only [cxOf]
  intro sc v6 v7 v8 v9 v10 lz li t0 p l1 l2 lh sz ins hs w size c H0 I es ok fit i8 hn hc fw hf hmem hlast q
  refine (evv rfl rfl (mk5_6 p l1 l2 w size rfl I.W fw I.t (fun k => by rw [ok] at k; cases k) (fun _ => ⟨fun D H1 v _ _ _ hM => absurd hM (ready_few fw.len hf fit), fun D l ts ms em b w' H1 _ _ hD hl mv _ _ _ he g => ?_⟩)))
  have em0 := he c fit
  subst em0
  have et : ts = [] := List.eq_nil_of_length_eq_zero mv.1
  subst et
  refine ⟨Nat.zero_le _, fun L hL => ⟨(by show 2 ≤ sizeLine; decide), fun t2 ht2 => moves_ne hD hl hL ht2 fun H2 s2 => (evr rfl (iteF ?_))⟩⟩
  have I2 := (I.gw g).same s2
  refine abs3k (fun i σ H5 => ∃ v9, σ = [sc, some (.ref lz), some (.ref li), some (.ref t0), some (.ref p), some (.int size), v6, v7, v8, v9, v10] ∧ I9 (tabOf pT) cW cP H5 lz li t0 p l1 l2 lh sz ins hs w) fun Pv hv => ?_
  refine (vix (p := t0) rfl (SqT.of I2.m) (atI_nat (j := 1) rfl) ⟨lh, rfl, ⟨_, SqL.of I2.h⟩, for_list (K := K) (a := lh) (xs := hs.map oV) Pv ((hv _ _ _).mpr (evr rfl I2)) (fun i σ H5 _ hP => by obtain ⟨_, _, h⟩ := (hv _ _ _).mp hP; exact SqL.of h.h) ?_ ?_⟩)
  · intro i x σ H5 hx hP
    have hP := (hv _ _ _).mp hP
    refine ob1_2 hP (fun v9 eRfl I5 => ?_); clear hP; subst eRfl
    rw [List.getElem?_map] at hx
    obtain ⟨o, ho, rfl⟩ := Option.map_eq_some_iff.mp hx
    refine gN ?_
    cases o with
    | none => exact (evv rfl rfl (iteFe (by decide) ((hv _ _ _).mpr (evr rfl I5))))
    | some n =>
      obtain ⟨dx, hob⟩ := I5.W.ob
      have hm := hmem n (List.mem_of_getElem? ho)
      refine (evv rfl rfl (iteTe (by show (!decide (V.int n = V.non)) = true; rw [decide_eq_false (by intro z; cases z)]; rfl) ?_))
      refine (evr rfl (mk3_3 p dx _ rfl hob ⟨wf_no _ _ _ _ (by decide +kernel) (by decide +kernel) (by decide +kernel) (by decide +kernel), evr rfl (mk5_4 p l1 l2 w n rfl I5.W (fun z => absurd hm z) (fun bq q' hF hq' H9 s9 => ?_))⟩))
      refine ⟨rfl, evr rfl (iteFe (by show (!decide (V.int (q'.last - w.gone) = V.int 9)) = false; rw [hlast bq q' hq']; rfl) ((hv _ _ _).mpr (evr rfl (I5.same s9))))⟩
  · intro σ H5 hP
    have hP := (hv _ _ _).mp hP
    refine ob1_2 hP (fun v9 eRfl I5 => ?_); clear hP; subst eRfl
    exact hq sc v6 v7 v8 v9 v10 lz li t0 p l1 l2 lh sz ins hs w size c H5 I5 es ok fit i8 hn hc q
end
end Pw

set_option Elab.async false
set_option linter.all false
set_option maxRecDepth 100000
set_option maxHeartbeats 4000000
namespace Pw
open PySem L2
section
variable {P : Program} {w : World} {K : PySem.W.Frag} {mg : Str → Option Value} {base : Heap}
/-- the greatest of the empty boxes -/
def frees (w : Wl) (Z : List Int) : List Int := (freeOf w).map fun b => Z.getD b.toNat 0
theorem fits_max {w : Wl} {size M : Int} (hs : 1 ≤ size) (h0 : frees w w.sz = [] → M = 0) (h1 : frees w w.sz ≠ [] → M ∈ frees w w.sz ∧ ∀ b ∈ frees w w.sz, b ≤ M) : size ≤ M ↔ ∃ c, fitsAt w size c := by
  constructor
  · intro h
    have hne : frees w w.sz ≠ [] := fun z => by have := h0 z; (first | lia | omega)
    obtain ⟨hm, _⟩ := h1 hne
    obtain ⟨b, hb, e⟩ := List.mem_map.mp hm
    obtain ⟨c, c1, c2, rfl⟩ := mem_freeOf.mp hb
    have e : w.sz.getD ((c : Nat) : Int).toNat 0 = M := e
    rw [Int.toNat_natCast] at e
    exact ⟨c, c1, c2, by rw [e]; exact h⟩
  · rintro ⟨c, c1, c2, c3⟩
    have hm : w.sz.getD c 0 ∈ frees w w.sz := List.mem_map.mpr ⟨(c : Int), mem_freeOf.mpr ⟨c, c1, c2, rfl⟩, by rw [Int.toNat_natCast]⟩
    have := (h1 (List.ne_nil_of_mem hm)).2 _ hm
    (first | lia | omega)
theorem free_few (w : Wl) : (freeOf w).length ≤ w.ps.length := by
  unfold freeOf
  rw [List.length_map]
  exact Nat.le_trans (List.length_filter_le _ _) (by rw [List.length_range]; exact Nat.le_refl _)
theorem frees_snoc {w : Wl} {Z : List Int} {i : Nat} {b : Int} (h : (freeOf w)[i]? = some b) : (((freeOf w).take (i + 1)).map fun b => Z.getD b.toNat 0) = (((freeOf w).take i).map fun b => Z.getD b.toNat 0) ++ [Z.getD b.toNat 0] := by
  obtain ⟨hi, e⟩ := List.getElem?_eq_some_iff.mp h
  rw [List.take_succ_eq_append_getElem hi, List.map_append, e]; rfl
theorem cnt_inW (ps : List (Option Pc)) : cnt ps = (inW ps).length := by
  unfold cnt
  induction ps with
  | nil => rfl
  | cons o ps ih =>
    cases o with
    | none => rw [inW_none, ← ih]; rfl
    | some q => rw [inW_some, List.length_cons, ← ih]; rfl
/-- [sizes[box] for box in side.free()] -/
theorem free_comp {K : PySem.W.Frag} {lf lz D : Addr} {wl : Wl} {Z : List Int} {σ : St} {H : Hp} {Q : VK} (hσ : capOf [none, some 1] σ = [none, some (.ref lz)]) (hS : H lf = some (.lst ((freeOf wl).map V.int))) (hz : H lz = some (.lst (Z.map V.int))) (hl : wl.ps.length = Z.length) (h8 : Z.length ≤ 8) (hD : H D = none)
    (q : ∀ H', Same H H' → H' D = some (.lst ((frees wl Z).map V.int)) → Q (.ref D) H') : CompW (Itl K lf) [none, some 1] (gName 0) tTrue (tOp (rIxL K) (tVar 1) (tVar 0)) Q σ H D := by
  have hline : (1000 : Nat) < sizeLine := by decide
  have f8 := free_few wl
  refine comp_list (K := K) (a := lf) (src := [none, some 1]) (xs := (freeOf wl).map V.int) (fun i σ1 H5 => (∃ u, σ1 = [u, some (.ref lz)]) ∧ H5 = upd H D (.lst ((((freeOf wl).take i).map fun b => Z.getD b.toNat 0).map V.int)) ∧ i ≤ (freeOf wl).length) ⟨⟨none, hσ⟩, rfl, Nat.zero_le _⟩ ?_ ?_ ?_
  · rintro i σ1 H5 _ ⟨_, rfl, _⟩
    exact SqL.of (same_upd hD _ _ hS)
  · rintro i x σ1 H5 hx ⟨⟨u, rfl⟩, rfl, hi⟩
    obtain ⟨z, hz', rfl⟩ := int_at hx
    have hil := (List.getElem?_eq_some_iff.mp hz').1
    obtain ⟨c, c1, c2, rfl⟩ := mem_freeOf.mp (List.mem_of_getElem? hz')
    refine gN ?_
    refine tT (evv rfl rfl (ix4 (p := lz) (SqL.of (same_upd hD _ _ hz)) (at_intF (by (first | lia | omega)) (by (first | lia | omega))) ⟨_, upd_same, ?_, ⟨_, rfl⟩, ?_, hil⟩))
    · rw [List.length_map, List.length_map, List.length_take]; (first | lia | omega)
    · rw [upd_upd, frees_snoc hz', List.map_append]; rfl
  · rintro σ1 H5 ⟨_, rfl, _⟩
    rw [show ((freeOf wl).map V.int).length = (freeOf wl).length from List.length_map .., List.take_length]
    exact q _ (same_upd hD) upd_same
/-- what was found -/
def Out9 (H : Hp) (D p l2 : Addr) (size : Int) (w : Wl) : Prop := (∃ v : Int, H D = some (.tup [.str "many", .int v])) ∨
  ∃ (l : Addr) (ts : List Addr) (ms : List (Int × Int)) (em : List Int) (b : Int) (w' : Wl), H D = some (.tup [.str "moves", .ref l]) ∧ H l = some (.lst (ts.map V.ref)) ∧ MvAt H ts ms ∧ Way w em b ms w' ∧ size ≤ w.sz.getD b.toNat 0 ∧ l ≠ l2 ∧ l ≠ p
/-- the moves are done -/
theorem tail_moved {f fR fL fC fH fF fM cW cP cNS cNN cNB cNP pT : Addr} {fdR fdL fdC fdH fdF fdM : FuncData} {cdv : Value} {A : Around} {outer : List Env} {s : Shared} {H : Hp} {Q : VK} {E : XK} (T : WTxt K cW) (hr6 : Room 6 (A.deeper (PyProof.Rows.envOfC "law" (defScope s_law) s.heap.objs.size f cdv)))
    (gR : Gd P w K mg base "room_for" s_room_for ["wall", "size"] (CXF P w) 5 (spRoom (tabOf pT) cW cP cNS) fR fdR) (dL : Md P w K mg base cW "left" ["self", "parcel"] (CXF P w) 3 (spTells (fun w q => q.last - w.gone) cW cP cNP) fL fdL)
    (dC : Md P w K mg base cW "come" ["self", "size", "nights"] (CXF P w) 4 (spCome cW cP cNS cNN cNB) fC fdC) (dH : Md P w K mg base cW "held" ["self"] CX0 1 (spHeld cW cP) fH fdH) (dF : Md P w K mg base cW "free" ["self"] CX0 1 (spFree cW cP) fF fdF)
    (gM : Gd P w K mg base "_law_moved" s__law_moved ["side", "moves"] CX0 5 (spMoved9 cW cP) fM fdM) (mlen : mg "len" = none) (mmax : mg "max" = none) :
    ∃ t, PSs (cxOf CX0 P w K mg base N9 "law" (defScope s_law) f cdv A outer s H E).nox ((defBody s_law).drop 7) t ∧
      ∀ (sc v6 v7 v9 v10 : Option V) (D lz li t0 p l1 l2 lh : Addr) (sz : List Int) (ins : List (Option Int)) (w : Wl) (size : Int) (H0 : Hp), I9 (tabOf pT) cW cP H0 lz li t0 p l1 l2 lh sz ins (heldOf w) w → Filled sz ins w → ins.length = sz.length → okNum size = true → Fw w → Holds w → Out9 H0 D p l2 size w →
        (∀ H', Q (.bl true) H') → t { nx := fun _ H' => Q .non H', rt := Q } [sc, some (.ref lz), some (.ref li), some (.ref t0), some (.ref p), some (.int size), v6, v7, some (.ref D), v9, v10] H0 := by
  have hr1 : Room 1 _ := hr6.mono (by decide)
  have hr5 : Room 5 _ := hr6.mono (by decide)
  have hline : (1000 : Nat) < sizeLine := by decide
  obtain ⟨tl, ptl, hq⟩ := tail_again (pT := pT) (f := f) (cdv := cdv) (A := A) (outer := outer) (s := s) (H := H) (Q := Q) (E := E) T hr6 gR dL dC dH mlen
  refine ⟨_, (pss_cons (ps_if (pt_cmpR op_eq (pe_ix ix_tup (pv 8) pe_int (fun _ _ => rfl)) pe_str (nomark _)) (pss_one (ps_ret pe_bl)) pss_nil)
      (pss_cons (ps_if (pw_or (pt_not (pt_val (pe_call gM.G hr5 (by rfl) gM.m gM.F.kp gM.b .nil pass0 (pa_cons (pv 4) (pa_cons (pe_ix ix_tup (pv 8) pe_int (fun _ _ => rfl)) pa_nil))))) (pw_or1 (pt_cmpR op_lt (pe_maxD (pa_cons (pe_comp (N := ["box", "sizes"]) (src := [none, some 1]) rfl (blk (osc := defScope s_law) (oN := ["script", "sizes", "inside", "made", "side", "size", "ready", "lap", "found", "parcel", "number"]) rfl rfl (by decide +kernel)) (pi_list (pe_meth0 (pv 4) T.cl dF.me dF.G hr1 dF.b .nil pass0)) (fun C s₀ H₀ ex pn => pg_name (i := 0) (show (["box", "sizes"] : List Str).Nodup by decide +kernel) rfl (Or.inl rfl) (Or.inr rfl)) (fun C s₀ H₀ ex pn => pts_nil) (fun C s₀ H₀ ex pn => (pe_ixB (K := K) rfl (pv 1) (pv 0) (fun _ _ => rfl)))) pa_nil) pe_int rfl (by rfl) mmax) (pv 5) (nomark _)))).pt (pss_one (ps_ret pe_bl)) pss_nil)
      ptl)), ?_⟩
  try dsimp only [cxOf]
  intro sc v6 v7 v9 v10 D lz li t0 p l1 l2 lh sz ins w size H0 I FL il ok fw hf out q
  refine shut fun g kk => ?_
  rcases out with ⟨v, hD⟩ | ⟨l, ts, ms, em, b, w', hD, hl, mv, wy, hb, n2, n1⟩
  · exact kk (vix (p := D) rfl (SqT.of hD) (atI_nat (j := 0) rfl) ⟨rfl, evr rfl (iteTe (by decide +kernel) (q _))⟩)
  refine kk ?_
  refine (vix (p := D) rfl (SqT.of hD) (atI_nat (j := 0) rfl) ⟨rfl, evr rfl (iteFe (by decide +kernel) ?_)⟩)
  refine (evr rfl (evr rfl (ix4 (p := D) (SqT.of hD) (atI_nat (j := 1) rfl) (mk8_8 p l1 l2 l w w' ts ms rfl I.W hl n2 n1 mv wy.go (fun H1 W1 k1 => (evr rfl (iteF ?_)))))))
  have I1 := I.keeps k1 W1
  have esz : w'.sz = sz := by rw [wy.sz, FL.sz]
  have fit := wy.fits hb
  have o1 : 1 ≤ size := by unfold okNum at ok; rw [Bool.and_eq_true] at ok; exact of_decide_eq_true ok.1
  obtain ⟨dx, hob⟩ := W1.ob
  have w8 : w'.ps.length ≤ 8 := by rw [W1.len]; exact W1.few
  have f8 := free_few w'
  refine (evr rfl (ex3 p dx _ ⟨rfl, hob, wf_no _ _ _ _ (by decide +kernel) (by decide +kernel) (by decide +kernel) (by decide +kernel), ex4 p l1 l2 w' ⟨rfl, W1, fun lf H2 nf s2 ef => ⟨lf, rfl, ⟨_, SqL.of ef⟩, fun L hL => free_comp rfl ef (I1.same s2).z (by rw [W1.len, esz]) (by have := W1.few; rw [esz] at this; exact this) hL fun H3 s3 e3 => ?_⟩⟩⟩))
  · have I3 := (I1.same s2).same s3
    rw [← esz] at e3
    refine ⟨L, _, 0, rfl, rfl, SqL.of e3, fun M m0 m1 => ?_⟩
    have hM := (fits_max o1 m0 m1).mpr ⟨_, fit⟩
    refine (evr rfl (ev2 rfl rfl (evr rfl (iteFe (decide_eq_false (by (first | lia | omega))) ?_))))
    have back : ∀ (i : Nat) r, w'.ps[i]? = some (some r) → ∃ j, w.ps[j]? = some (some r) := fun i r e => List.mem_iff_getElem?.mp ((wy.same r).mp (List.mem_of_getElem? e))
    refine hq sc v6 v7 _ v9 v10 lz li t0 p l1 l2 lh sz ins (heldOf w) w' size _ H3 I3 esz ok fit (by have := W1.few; rw [esz] at this; (first | lia | omega)) (fun i r e => ?_) ?_ (wy.fw fw) (wy.go.holds hf) (fun n hn => ?_) (fun i r e => ?_) q
    · obtain ⟨j, hj⟩ := back i r e
      have := (FL.num j r hj).2.1
      rw [wy.came]; (first | lia | omega)
    · rw [wy.came, FL.came, FL.ins il, inW_map]
      congr 2
      exact cnt_inW w.ps
    · obtain ⟨j, hj⟩ := List.mem_iff_getElem?.mp hn
      obtain ⟨r, hr, e⟩ := held_at hj
      have := (wy.same r).mpr (List.mem_of_getElem? hr)
      exact List.mem_map.mpr ⟨some r, this, by show some r.num = some n; rw [e]⟩
    · obtain ⟨j, hj⟩ := back i r e
      rw [(FL.num j r hj).2.2, wy.gone, FL.gone]; rfl
end
end Pw

set_option Elab.async false
set_option linter.all false
set_option maxRecDepth 100000
set_option maxHeartbeats 4000000
namespace Pw
open PySem L2
section
variable {P : Program} {w : World} {K : PySem.W.Frag} {mg : Str → Option Value} {base : Heap}
theorem fw_of {sz : List Int} {ins : List (Option Int)} {w : Wl} (h : Filled sz ins w) (hok : okSizes sz = true) (hin : insOk sz ins) : Fw w ∧ Holds w := by
  have o1 := (okSizes_all hok).1
  have o2 := (okSizes_all hok).2.1
  have o3 := (okSizes_all hok).2.2
  have at' : ∀ (i : Nat) q, w.ps[i]? = some (some q) → 1 ≤ q.size ∧ q.size ≤ sz.getD i 0 ∧ sz.getD i 0 ≤ 9 := fun i q e => by
    have hs := h.size i
    rw [e] at hs
    have hs : some q.size = ins[i]?.join := hs
    have hil : i < sz.length := by rw [← h.len]; exact (List.getElem?_eq_some_iff.mp e).1
    have hii : i < ins.length := by rw [hin.1]; exact hil
    rw [List.getElem?_eq_getElem hii] at hs
    have hs : some q.size = ins[i] := hs
    have := hin.2 i q.size (by rw [List.getElem?_eq_getElem hii, hs])
    have e2 : sz.getD i 0 = sz[i] := by simp [List.getD, hil]
    have := o3 sz[i] (List.getElem_mem hil)
    (first | lia | omega)
  exact ⟨⟨by rw [h.len, h.sz], by rw [h.sz]; exact hok, fun i q e => by have := at' i q e; (first | lia | omega), h.inj⟩, fun i q e => by rw [h.sz]; exact (at' i q e).2.1⟩
/-- asked once -/
theorem lap_body {f fR fS fY cW cP cNS pT : Addr} {fdR fdS fdY : FuncData} {cdv : Value} {A : Around} {outer : List Env} {s : Shared} {H : Hp} {E : XK} (hr6 : Room 6 (A.deeper (PyProof.Rows.envOfC "law" (defScope s_law) s.heap.objs.size f cdv)))
    (gR : Gd P w K mg base "room_for" s_room_for ["wall", "size"] (CXF P w) 5 (spRoom (tabOf pT) cW cP cNS) fR fdR) (gS : Gd P w K mg base "_law_stands" s__law_stands ["side", "sizes", "held", "day"] CX0 3 (spStands K cW cP) fS fdS)
    (gY : Gd P w K mg base "_law_many" s__law_many ["found", "sizes", "inside", "size"] CX0 2 (spMany9 K) fY fdY) (misinstance : mg "isinstance" = none) (mlen : mg "len" = none) (mtuple : mg "tuple" = none) (mlist : mg "list" = none) (kt : PySem.W.kitOne K (.type "tuple") (.type "tuple") = some true) (kl : PySem.W.kitOne K (.type "list") (.type "list") = some true) :
    ∃ t, PSs (cxOf CX0 P w K mg base N9 "law" (defScope s_law) f cdv A outer s H E).nox ((forBody ((defBody s_law).getD 6 (.Pass ⟨0, 0, 0, 0⟩))).drop 0) t ∧
      ∀ (Dn : Ends) (sc v8 v9 v10 : Option V) (lz li t0 p l1 l2 lh : Addr) (sz : List Int) (ins : List (Option Int)) (w : Wl) (size lap : Int) (rd : Bool) (H0 : Hp), I9 (tabOf pT) cW cP H0 lz li t0 p l1 l2 lh sz ins (heldOf w) w → Filled sz ins w → ins.length = sz.length → okNum size = true → Fw w → Holds w → (rd = true ↔ ∃ c, fitsAt w size c) →
        (∀ (D : Addr) (H' : Hp), I9 (tabOf pT) cW cP H' lz li t0 p l1 l2 lh sz ins (heldOf w) w → (lap ≠ 0 → Out9 H' D p l2 size w) → Dn.nx [sc, some (.ref lz), some (.ref li), some (.ref t0), some (.ref p), some (.int size), some (.bl rd), some (.int lap), some (.ref D), v9, v10] H') →
        t Dn [sc, some (.ref lz), some (.ref li), some (.ref t0), some (.ref p), some (.int size), some (.bl rd), some (.int lap), v8, v9, v10] H0 := by
  have hr2 : Room 2 _ := hr6.mono (by decide)
  have hr3 : Room 3 _ := hr6.mono (by decide)
  have hr6 : Room 5 _ := hr6.mono (by decide)
  have hline : (1000 : Nat) < sizeLine := by decide
  refine ⟨_, (pss_cons (ps_set (i := 8) scLaw.nd rfl (Or.inl rfl) (pe_call gR.G hr6 (by rfl) gR.m gR.F.kp gR.b .nil passF (pa_cons (pv 4) (pa_cons (pv 5) pa_nil))))
      (pss_cons (ps_if (pw_or (pt_not (pt_val (pe_callB (call_isiB (K := K) rfl) (by rfl) misinstance PyProof.Rows.boot_isinstance (pa_cons (pv 8) (pa_cons (pe_bltn (v := .ty "tuple") (by rfl) mtuple (by decide +kernel) rfl) pa_nil))))) (pw_or (pt_cmpR op_ne (pe_callB call_len_seq (by rfl) mlen PySem.boot_len (pa_cons (pv 8) pa_nil)) pe_int (nomark _)) (pw_or1 (pt_not (pt_val (pe_call gS.G hr3 (by rfl) gS.m gS.F.kp gS.b .nil pass0 (pa_cons (pv 4) (pa_cons (pv 1) (pa_cons (pe_ix ix_tup (pv 3) pe_int (fun _ _ => rfl)) (pa_cons pe_int pa_nil)))))))))).pt (pss_one (ps_ret pe_bl)) pss_nil)
      (pss_one (ps_if (pt_cmpR op_eq (pe_ix ix_tup (pv 8) pe_int (fun _ _ => rfl)) pe_str (nomark _)) (pss_one (ps_if (pw_or (pt_val (pv 6)) (pw_or1 (pt_not (pt_val (pe_call gY.G hr2 (by rfl) gY.m gY.F.kp gY.b .nil pass0 (pa_cons (pe_ix ix_tup (pv 8) pe_int (fun _ _ => rfl)) (pa_cons (pv 1) (pa_cons (pv 2) (pa_cons (pv 5) pa_nil))))))))).pt (pss_one (ps_ret pe_bl)) pss_nil)) (pss_one (ps_if (pw_or (pt_cmpR op_ne (pe_ix ix_tup (pv 8) pe_int (fun _ _ => rfl)) pe_str (nomark _)) (pw_or (pt_not (pt_val (pe_callB (call_isiB (K := K) rfl) (by rfl) misinstance PyProof.Rows.boot_isinstance (pa_cons (pe_ix ix_tup (pv 8) pe_int (fun _ _ => rfl)) (pa_cons (pe_bltn (v := .ty "list") (by rfl) mlist (by decide +kernel) rfl) pa_nil))))) (pw_or1 (pt_cmpR op_ne (pe_cmpR op_eq (pe_callB call_len_seq (by rfl) mlen PySem.boot_len (pa_cons (pe_ix ix_tup (pv 8) pe_int (fun _ _ => rfl)) pa_nil)) pe_int (nomark _)) (pv 6) (nomark _))))).pt (pss_one (ps_ret pe_bl)) (pss_one (ps_if (pt_cmpR op_eq (pv 7) pe_int (nomark _)) (pss_one (ps_expr (pe_bm PySem.F.plainAttrs_list PySem.F.slot_list_append PySem.F.type_list_append mt_append (pe_ix ix_tup (pv 8) pe_int (fun _ _ => rfl)) (pa_cons (pe_tup (pa_cons pe_int (pa_cons pe_int pa_nil))) pa_nil)))) pss_nil)))))))), ?_⟩
  try dsimp only [cxOf]
  intro Dn sc v8 v9 v10 lz li t0 p l1 l2 lh sz ins w size lap rd H0 I FL il ok fw hf hrd q
  have i8 : sz.length ≤ 8 := by have := I.W.few; rw [FL.sz] at this; exact this
  refine (evv rfl rfl (mk5_6 p l1 l2 w size rfl I.W fw I.t (fun k => by rw [ok] at k; cases k) (fun _ => ⟨fun D H1 v _ hD g hM => ?_, fun D l ts ms em b w' H1 nD nl hD hl mv wy hb m8 he g => ?_⟩)))
  · have I1 := I.gw g
    refine (evr rfl (mk4_5 _ _ _ _ rfl (.of (.tup hD)) (by intro z; cases z) kt (evr rfl (iteFe (by rfl) ?_)))); refine (evr rfl ⟨D, evr rfl ⟨.inr (SqT.of hD), rfl, evr rfl (iteFe (by show (!decide (V.int 2 = V.int 2)) = false; decide +kernel) ?_)⟩⟩); refine (evv rfl rfl (evr rfl (ix4 (p := t0) (SqT.of I1.m) (atI_nat (j := 1) rfl) ⟨p, l1, l2, lz, lh, w, (by rw [FL.gone]; rfl), I1.W, (by rw [FL.sz]; exact SqL.of I1.z), SqL.of I1.h, fun H2 s2 => (evr rfl (iteF ?_))⟩)))
    have I2 := I1.same s2
    have hD2 := s2 _ _ hD
    have r0 : rd = false := Bool.eq_false_iff.mpr fun z => by obtain ⟨c, hc⟩ := hrd.mp z; exact ready_few fw.len hf hc hM
    subst r0
    rw [FL.sz, ← inW_map, ← FL.ins il] at hM
    refine (vix (p := D) rfl (SqT.of hD2) (atI_nat (j := 0) rfl) ⟨rfl, evr rfl (iteTe (by decide +kernel) ?_)⟩)
    refine (evv rfl rfl (iteF (vix (p := D) rfl (SqT.of hD2) (atI_nat (j := 1) rfl) (ev3r rfl rfl rfl (mk6_7 lz li sz ins v size rfl (SqL.of I2.z) i8 (SqL.of I2.i) (by (first | lia | omega)) hM (fun H3 s3 => (evr rfl (iteF ?_))))))))
    exact q D H3 (I2.same s3) fun _ => .inl ⟨v, s3 _ _ hD2⟩
  · have I1 := I.gw g
    refine (evr rfl (mk4_5 _ _ _ _ rfl (.of (.tup hD)) (by intro z; cases z) kt (evr rfl (iteFe (by rfl) ?_)))); refine (evr rfl ⟨D, evr rfl ⟨.inr (SqT.of hD), rfl, evr rfl (iteFe (by show (!decide (V.int 2 = V.int 2)) = false; decide +kernel) ?_)⟩⟩); refine (evv rfl rfl (evr rfl (ix4 (p := t0) (SqT.of I1.m) (atI_nat (j := 1) rfl) ⟨p, l1, l2, lz, lh, w, (by rw [FL.gone]; rfl), I1.W, (by rw [FL.sz]; exact SqL.of I1.z), SqL.of I1.h, fun H2 s2 => (evr rfl (iteF ?_))⟩)))
    have I2 := I1.same s2
    have hD2 := s2 _ _ hD
    have hl2 := s2 _ _ hl
    have g2 := g.trans (Gw.of g.ok s2)
    have er : decide (V.int (((ts.map V.ref).length : Nat) : Int) = V.int 0) = rd := by
      rw [List.length_map, mv.1]
      cases rd with
      | true =>
        obtain ⟨c, hc⟩ := hrd.mp rfl
        rw [he c hc]; rfl
      | false =>
        refine decide_eq_false fun z => ?_
        have z : ((ms.length : Nat) : Int) = 0 := V.int.inj z
        have z : ms = [] := List.eq_nil_of_length_eq_zero (by (first | lia | omega))
        subst z
        have e : w = w' := by cases wy.go; rfl
        subst e
        exact absurd (hrd.mpr ⟨_, wy.fits hb⟩) (by decide)
    refine (vix (p := D) rfl (SqT.of hD2) (atI_nat (j := 0) rfl) ⟨rfl, evr rfl (iteFe (by decide +kernel) ?_)⟩)
    refine (vix (p := D) rfl (SqT.of hD2) (atI_nat (j := 0) rfl) ⟨rfl, evr rfl (iteFe (by decide +kernel) ?_)⟩)
    refine (vix (p := D) rfl (SqT.of hD2) (atI_nat (j := 1) rfl) (mk4_5 _ _ _ _ rfl (.of (.lst hl2)) (by intro z; cases z) kl (evr rfl (iteFe (by rfl) ?_))))
    refine (vix (p := D) rfl (SqT.of hD2) (atI_nat (j := 1) rfl) (mk2_4 l _ rfl (.inl (SqL.of hl2)) rfl (evr rfl ⟨rfl, evr rfl (iteFe (by rw [er, decide_eq_true rfl]; rfl) ?_)⟩)))
    refine (evr rfl ⟨rfl, evr rfl (ite2 (fun h => ?_) (fun h => ?_))⟩)
    · have h : lap = 0 := V.int.inj (of_decide_eq_true h)
      refine (vix (p := D) rfl (SqT.of hD2) (atI_nat (j := 1) rfl) ⟨.inl ⟨rfl, _, SqL.of hl2⟩, (by show 2 ≤ sizeLine; decide), fun D9 hD9 => ?_⟩)
      have hl3 := same_upd (o := .tup [.int 9, .int 9]) hD9 _ _ hl2
      have g3 := g2.trans (Gw.of g2.ok (same_upd (o := .tup [.int 9, .int 9]) hD9))
      refine (mk3_5 l _ _ rfl rfl hl3 (by rw [List.length_map, mv.1]; (first | lia | omega)) ?_)
      exact q D _ (I.gw (gw_set g3 nl hl3)) fun z => absurd h z
    · refine q D H2 I2 fun _ => .inr ⟨l, ts, ms, em, b, w', hD2, hl2, mv.keep (fun a x y e => s2 _ _ e), wy, hb, ?_, ?_⟩
      · exact Ne.symm (ne_of_none I.W.s2 nl)
      · obtain ⟨dx, ho⟩ := I.W.ob
        exact Ne.symm (ne_of_none ho nl)
end
end Pw

set_option Elab.async false
set_option linter.all false
set_option maxRecDepth 100000
set_option maxHeartbeats 4000000
namespace Pw
open PySem L2
section
variable {P : Program} {w : World} {K : PySem.W.Frag} {mg : Str → Option Value} {base : Heap}
theorem ok_law {f fD fZ fB fO fR fS fY fM fL fC fH fF cW cP cNS cNN cNB cNP pT : Addr} {fd fdD fdZ fdB fdO fdR fdS fdY fdM fdL fdC fdH fdF : FuncData} (F : Fun K "law" "law" s_law f fd) (T : WTxt K cW)
    (gD : Gd P w K mg base "_law_drawn" s__law_drawn ["script", "k", "many"] CX0 1 (spDrawn K) fD fdD) (gZ : Gd P w K mg base "_law_sizes_by" s__law_sizes_by ["script", "base"] CX0 2 (spSizesBy K) fZ fdZ) (gB : Gd P w K mg base "_law_filled_by" s__law_filled_by ["script", "base", "sizes"] CX0 2 (spFilledBy K) fB fdB)
    (gO : Gd P w K mg base "_law_side_of" s__law_side_of ["sizes", "inside"] CX0 5 (spSideOf K cW cP) fO fdO) (gR : Gd P w K mg base "room_for" s_room_for ["wall", "size"] (CXF P w) 5 (spRoom (tabOf pT) cW cP cNS) fR fdR) (gS : Gd P w K mg base "_law_stands" s__law_stands ["side", "sizes", "held", "day"] CX0 3 (spStands K cW cP) fS fdS)
    (gY : Gd P w K mg base "_law_many" s__law_many ["found", "sizes", "inside", "size"] CX0 2 (spMany9 K) fY fdY) (gM : Gd P w K mg base "_law_moved" s__law_moved ["side", "moves"] CX0 5 (spMoved9 cW cP) fM fdM) (dL : Md P w K mg base cW "left" ["self", "parcel"] (CXF P w) 3 (spTells (fun w q => q.last - w.gone) cW cP cNP) fL fdL)
    (dC : Md P w K mg base cW "come" ["self", "size", "nights"] (CXF P w) 4 (spCome cW cP cNS cNN cNB) fC fdC) (dH : Md P w K mg base cW "held" ["self"] CX0 1 (spHeld cW cP) fH fdH) (dF : Md P w K mg base cW "free" ["self"] CX0 1 (spFree cW cP) fF fdF)
    (misinstance : mg "isinstance" = none) (mlen : mg "len" = none) (mtuple : mg "tuple" = none) (mlist : mg "list" = none) (mrange : mg "range" = none) (mmax : mg "max" = none) (kt : PySem.W.kitOne K (.type "tuple") (.type "tuple") = some true) (kl : PySem.W.kitOne K (.type "list") (.type "list") = some true) : FnOk P w K mg base CX0 7 f fd ["script"] (spLawT (tabOf pT) K) := by
  refine F.ok scLaw (fun vs H Q E h => ?_) (fun cdv A outer s H vs Q E hr h => ?_)
  · refine ob2_2 h (fun a ns eRfl _ => ?_); clear h; subst eRfl
    rfl
  · refine ob2_5 h (fun a ns eRfl hS hl hT q => ?_); clear h; subst eRfl
    have hr1 : Room 1 _ := hr.mono (by decide)
    have hr2 : Room 2 _ := hr.mono (by decide)
    have hr5 : Room 5 _ := hr.mono (by decide)
    have hline : (1000 : Nat) < sizeLine := by decide
    obtain ⟨tl, ptl, hq⟩ := tail_moved (pT := pT) (f := f) (cdv := cdv) (A := A) (outer := outer) (s := s) (H := H) (Q := Q) (E := E) T hr gR dL dC dH dF gM mlen mmax
    obtain ⟨tb, ptb, hb⟩ := lap_body (pT := pT) (f := f) (cdv := cdv) (A := A) (outer := outer) (s := s) (H := H) (E := E) hr gR gS gY misinstance mlen mtuple mlist kt kl
    refine ⟨_, (pss_cons (ps_set (i := 1) scLaw.nd rfl (Or.inr rfl) (pe_call gZ.G hr2 (by rfl) gZ.m gZ.F.kp gZ.b .nil pass0 (pa_cons (pv 0) (pa_cons pe_int pa_nil))))
      (pss_cons (ps_set (i := 2) scLaw.nd rfl (Or.inl rfl) (pe_call gB.G hr2 (by rfl) gB.m gB.F.kp gB.b .nil pass0 (pa_cons (pv 0) (pa_cons pe_int (pa_cons (pv 1) pa_nil)))))
      (pss_cons (ps_set (i := 3) scLaw.nd rfl (Or.inl rfl) (pe_call gO.G hr5 (by rfl) gO.m gO.F.kp gO.b .nil pass0 (pa_cons (pv 1) (pa_cons (pv 2) pa_nil))))
      (pss_cons (ps_set (i := 4) scLaw.nd rfl (Or.inl rfl) (pe_ix ix_tup (pv 3) pe_int (fun _ _ => rfl)))
      (pss_cons (ps_set (i := 5) scLaw.nd rfl (Or.inl rfl) (pe_op op_add pe_int (pe_call gD.G hr1 (by rfl) gD.m gD.F.kp gD.b .nil pass0 (pa_cons (pv 0) (pa_cons pe_int (pa_cons pe_int pa_nil))))))
      (pss_cons (ps_set (i := 6) scLaw.nd rfl (Or.inl rfl) (pe_cmpR op_ge (pe_maxD (pa_cons (pe_comp (N := ["box", "sizes"]) (src := [none, some 1]) rfl (blk (osc := defScope s_law) (oN := ["script", "sizes", "inside", "made", "side", "size", "ready", "lap", "found", "parcel", "number"]) rfl rfl (by decide +kernel)) (pi_list (pe_meth0 (pv 4) T.cl dF.me dF.G hr1 dF.b .nil pass0)) (fun C s₀ H₀ ex pn => pg_name (i := 0) (show (["box", "sizes"] : List Str).Nodup by decide +kernel) rfl (Or.inl rfl) (Or.inr rfl)) (fun C s₀ H₀ ex pn => pts_nil) (fun C s₀ H₀ ex pn => (pe_ixB (K := K) rfl (pv 1) (pv 0) (fun _ _ => rfl)))) pa_nil) pe_int rfl (by rfl) mmax) (pv 5) (nomark _)))
      (pss_cons (ps_for PassesOwn.never rfl (pi_range1 (by rfl) mrange (pa_cons pe_int pa_nil)) (pg_name (i := 7) scLaw.nd rfl (Or.inl rfl)) ptb)
      ptl))))))), ?_⟩
    try dsimp only [cxOf]
    refine (evr rfl (mk3_6 a ns 0 rfl hS hl (by decide) (by decide) (fun sz hok lz H1 nz s1 hz => ?_)))
    refine (evv rfl rfl (mk5_8 a lz ns 100 sz rfl (s1.seq hS) hl (by decide) (by decide) (SqL.of hz) hok (fun ins hin li H2 ni s2 hi => ?_)))
    refine (evv rfl rfl (mk4_6 lz li sz ins rfl (SqL.of (s2 _ _ hz)) hok (SqL.of hi) hin (fun t p l1 l2 lh w H3 s3 nt np n1 n2 nh x1 x2 x3 had ht hh W FL => ?_)))
    have sA := (s1.trans s2).trans s3
    have hS3 := sA.seq hS
    have hz2 := s2 _ _ hz
    have fw := (fw_of FL hok hin).1
    have hf := (fw_of FL hok hin).2
    have I3 : I9 (tabOf pT) cW cP H3 lz li t p l1 l2 lh sz ins (heldOf w) w := ⟨s3 _ _ hz2, s3 _ _ hi, ht, hh, W, hT.same sA, ne_of_none hz2 n2, ne_of_none hi n2, x3⟩
    refine (vix (p := t) rfl (SqT.of ht) (atI_nat (j := 0) rfl) ?_)
    have e1 := drawn_lo ns 20 (many := 9) (by decide)
    have e2 := drawn_hi ns 20 (many := 9) (by decide)
    refine (evr rfl (mk4_7 a ns 20 9 rfl hS3 hl (by decide) (by decide) (by decide) ⟨by decide, ev2 rfl rfl ?_⟩))
    dsimp only
    generalize hsz : 1 + drawn ns 20 9 = size
    have ok : okNum size = true := by unfold okNum; rw [decide_eq_true (show 1 ≤ size by (first | lia | omega)), decide_eq_true (show size ≤ 9 by (first | lia | omega))]; rfl
    obtain ⟨dx, hob⟩ := W.ob
    have w8 : w.ps.length ≤ 8 := by rw [W.len]; exact W.few
    have f8 := free_few w
    refine (evr rfl (ex3 p dx _ ⟨rfl, hob, wf_no _ _ _ _ (by decide +kernel) (by decide +kernel) (by decide +kernel) (by decide +kernel), ex4 p l1 l2 w ⟨rfl, W, fun lf H4 nf s4 ef => ⟨lf, rfl, ⟨_, SqL.of ef⟩, fun L hL => free_comp rfl ef (I3.same s4).z (by rw [W.len, FL.sz]) (by have := W.few; rw [FL.sz] at this; exact this) hL fun H5 s5 e5 => ?_⟩⟩⟩))
    · have I5 := (I3.same s4).same s5
      rw [← FL.sz] at e5
      refine ⟨L, _, 0, rfl, rfl, SqL.of e5, fun M m0 m1 => ?_⟩
      have hM := fits_max (size := size) (show 1 ≤ size by (first | lia | omega)) m0 m1
      refine (evr rfl (ev2 rfl rfl ?_))
      dsimp only
      have hrd : decide (size ≤ M) = true ↔ ∃ c, fitsAt w size c := ⟨fun z => hM.mp (of_decide_eq_true z), fun z => decide_eq_true (hM.mpr z)⟩
      generalize decide (size ≤ M) = rd at hrd ⊢
      refine abs3k (fun i σ H6 => ∃ v7 v8, σ = [some (.ref a), some (.ref lz), some (.ref li), some (.ref t), some (.ref p), some (.int size), some (.bl rd), v7, v8, none, none] ∧ I9 (tabOf pT) cW cP H6 lz li t p l1 l2 lh sz ins (heldOf w) w ∧ (i = 2 → ∃ D, v8 = some (.ref D) ∧ Out9 H6 D p l2 size w)) fun Pv hv => ?_
      refine (evr rfl ⟨(by decide), (by decide), for_range (n := 2) Pv ((hv _ _ _).mpr (mk2_3 _ _ rfl I5 (fun z => by cases z))) ?_ ?_⟩)
      · intro i σ H6 hi hP
        have hP := (hv _ _ _).mp hP
        refine ob2_3 hP (fun v7 v8 eRfl I6 hno => ?_); clear hP; subst eRfl
        refine gN ?_
        exact hb _ _ v8 none none lz li t p l1 l2 lh sz ins w size (0 + (i : Int)) rd H6 I6 FL hin.1 ok fw hf hrd fun D H7 I7 ho => (hv _ _ _).mpr (mk2_3 _ _ rfl I7 (fun z => ⟨D, rfl, ho (by (first | lia | omega))⟩))
      · intro σ H6 hP
        have hP := (hv _ _ _).mp hP
        refine ob2_3 hP (fun v7 v8 eRfl I6 ho => ?_); clear hP; subst eRfl
        obtain ⟨D, rfl, hout⟩ := ho rfl
        exact hq _ _ v7 none none D lz li t p l1 l2 lh sz ins w size H6 I6 FL hin.1 ok fw hf hout q
end
end Pw

set_option Elab.async false
set_option linter.all false
set_option maxRecDepth 100000
set_option maxHeartbeats 4000000
namespace Pw
open PySem L2 PyProof.Rows
theorem all_mk {l : PySem.W.OpenLaw} {w : World} {K : PySem.W.Frag} {h : Heap} {mg : Str → Option Value} {fa cParcel cWall fParcel___init__ fWall___init__ fWall_sizes fWall_held fWall_free fWall_day fWall_come fWall_fetch fWall_size_of fWall_left fWall_move fWall_boxes_for fWall_least_box fWall_box_of fin_bounds fcheck_wall fcheck_size fcheck_nights fcheck_both fplaces_by_size ffit froom_for ffewest_moves f_law_drawn f_law_whole f_law_row f_law_sizes_by f_law_held f_law_stands f_law_filled_by f_law_side_of f_law_many f_law_moved flaw cWallError NWallError cNoWall NNoWall cNoSize NNoSize cNoNights NNoNights cNoBox NNoBox cNoParcel NNoParcel cC pT : Addr} (X : K.In h) (G : h.Ns mainGlobals mg) (hfa : mg "law" = some (.ref fa))
    {odParcel___init__ anParcel___init__ : Option Addr} {slParcel___init__ : Array (Option Value)} {ocParcel___init__ kVParcel___init__ dcParcel___init__ pmParcel___init__ cdParcel___init__ ctParcel___init__ : Value}
    {odWall___init__ anWall___init__ : Option Addr} {slWall___init__ : Array (Option Value)} {ocWall___init__ kVWall___init__ dcWall___init__ pmWall___init__ cdWall___init__ ctWall___init__ : Value}
    {odWall_sizes anWall_sizes : Option Addr} {slWall_sizes : Array (Option Value)} {ocWall_sizes kVWall_sizes dcWall_sizes pmWall_sizes cdWall_sizes ctWall_sizes : Value}
    {odWall_held anWall_held : Option Addr} {slWall_held : Array (Option Value)} {ocWall_held kVWall_held dcWall_held pmWall_held cdWall_held ctWall_held : Value}
    {odWall_free anWall_free : Option Addr} {slWall_free : Array (Option Value)} {ocWall_free kVWall_free dcWall_free pmWall_free cdWall_free ctWall_free : Value}
    {odWall_day anWall_day : Option Addr} {slWall_day : Array (Option Value)} {ocWall_day kVWall_day dcWall_day pmWall_day cdWall_day ctWall_day : Value}
    {odWall_come anWall_come : Option Addr} {slWall_come : Array (Option Value)} {ocWall_come kVWall_come dcWall_come pmWall_come cdWall_come ctWall_come : Value}
    {odWall_fetch anWall_fetch : Option Addr} {slWall_fetch : Array (Option Value)} {ocWall_fetch kVWall_fetch dcWall_fetch pmWall_fetch cdWall_fetch ctWall_fetch : Value}
    {odWall_size_of anWall_size_of : Option Addr} {slWall_size_of : Array (Option Value)} {ocWall_size_of kVWall_size_of dcWall_size_of pmWall_size_of cdWall_size_of ctWall_size_of : Value}
    {odWall_left anWall_left : Option Addr} {slWall_left : Array (Option Value)} {ocWall_left kVWall_left dcWall_left pmWall_left cdWall_left ctWall_left : Value}
    {odWall_move anWall_move : Option Addr} {slWall_move : Array (Option Value)} {ocWall_move kVWall_move dcWall_move pmWall_move cdWall_move ctWall_move : Value}
    {odWall_boxes_for anWall_boxes_for : Option Addr} {slWall_boxes_for : Array (Option Value)} {ocWall_boxes_for kVWall_boxes_for dcWall_boxes_for pmWall_boxes_for cdWall_boxes_for ctWall_boxes_for : Value}
    {odWall_least_box anWall_least_box : Option Addr} {slWall_least_box : Array (Option Value)} {ocWall_least_box kVWall_least_box dcWall_least_box pmWall_least_box cdWall_least_box ctWall_least_box : Value}
    {odWall_box_of anWall_box_of : Option Addr} {slWall_box_of : Array (Option Value)} {ocWall_box_of kVWall_box_of dcWall_box_of pmWall_box_of cdWall_box_of ctWall_box_of : Value}
    {odin_bounds anin_bounds : Option Addr} {slin_bounds : Array (Option Value)} {ocin_bounds kVin_bounds dcin_bounds pmin_bounds cdin_bounds ctin_bounds : Value}
    {odcheck_wall ancheck_wall : Option Addr} {slcheck_wall : Array (Option Value)} {occheck_wall kVcheck_wall dccheck_wall pmcheck_wall cdcheck_wall ctcheck_wall : Value}
    {odcheck_size ancheck_size : Option Addr} {slcheck_size : Array (Option Value)} {occheck_size kVcheck_size dccheck_size pmcheck_size cdcheck_size ctcheck_size : Value}
    {odcheck_nights ancheck_nights : Option Addr} {slcheck_nights : Array (Option Value)} {occheck_nights kVcheck_nights dccheck_nights pmcheck_nights cdcheck_nights ctcheck_nights : Value}
    {odcheck_both ancheck_both : Option Addr} {slcheck_both : Array (Option Value)} {occheck_both kVcheck_both dccheck_both pmcheck_both cdcheck_both ctcheck_both : Value}
    {odplaces_by_size anplaces_by_size : Option Addr} {slplaces_by_size : Array (Option Value)} {ocplaces_by_size kVplaces_by_size dcplaces_by_size pmplaces_by_size cdplaces_by_size ctplaces_by_size : Value}
    {odfit anfit : Option Addr} {slfit : Array (Option Value)} {ocfit kVfit dcfit pmfit cdfit ctfit : Value}
    {odroom_for anroom_for : Option Addr} {slroom_for : Array (Option Value)} {ocroom_for kVroom_for dcroom_for pmroom_for cdroom_for ctroom_for : Value}
    {odfewest_moves anfewest_moves : Option Addr} {slfewest_moves : Array (Option Value)} {ocfewest_moves kVfewest_moves dcfewest_moves pmfewest_moves cdfewest_moves ctfewest_moves : Value}
    {od_law_drawn an_law_drawn : Option Addr} {sl_law_drawn : Array (Option Value)} {oc_law_drawn kV_law_drawn dc_law_drawn pm_law_drawn cd_law_drawn ct_law_drawn : Value}
    {od_law_whole an_law_whole : Option Addr} {sl_law_whole : Array (Option Value)} {oc_law_whole kV_law_whole dc_law_whole pm_law_whole cd_law_whole ct_law_whole : Value}
    {od_law_row an_law_row : Option Addr} {sl_law_row : Array (Option Value)} {oc_law_row kV_law_row dc_law_row pm_law_row cd_law_row ct_law_row : Value}
    {od_law_sizes_by an_law_sizes_by : Option Addr} {sl_law_sizes_by : Array (Option Value)} {oc_law_sizes_by kV_law_sizes_by dc_law_sizes_by pm_law_sizes_by cd_law_sizes_by ct_law_sizes_by : Value}
    {od_law_held an_law_held : Option Addr} {sl_law_held : Array (Option Value)} {oc_law_held kV_law_held dc_law_held pm_law_held cd_law_held ct_law_held : Value}
    {od_law_stands an_law_stands : Option Addr} {sl_law_stands : Array (Option Value)} {oc_law_stands kV_law_stands dc_law_stands pm_law_stands cd_law_stands ct_law_stands : Value}
    {od_law_filled_by an_law_filled_by : Option Addr} {sl_law_filled_by : Array (Option Value)} {oc_law_filled_by kV_law_filled_by dc_law_filled_by pm_law_filled_by cd_law_filled_by ct_law_filled_by : Value}
    {od_law_side_of an_law_side_of : Option Addr} {sl_law_side_of : Array (Option Value)} {oc_law_side_of kV_law_side_of dc_law_side_of pm_law_side_of cd_law_side_of ct_law_side_of : Value}
    {od_law_many an_law_many : Option Addr} {sl_law_many : Array (Option Value)} {oc_law_many kV_law_many dc_law_many pm_law_many cd_law_many ct_law_many : Value}
    {od_law_moved an_law_moved : Option Addr} {sl_law_moved : Array (Option Value)} {oc_law_moved kV_law_moved dc_law_moved pm_law_moved cd_law_moved ct_law_moved : Value}
    {odlaw anlaw : Option Addr} {sllaw : Array (Option Value)} {oclaw kVlaw dclaw pmlaw cdlaw ctlaw : Value}
    {nmWallError qWallError : Str} {bsWallError subWallError : List Value} {hdctWallError abWallError : Bool} {snWallError : List Str} {colWallError : Option Bool} {ddWallError : Option Addr} {k0WallError k1WallError k2WallError k3WallError k5WallError : Option Value}
    {nmNoWall qNoWall : Str} {bsNoWall subNoWall : List Value} {hdctNoWall abNoWall : Bool} {snNoWall : List Str} {colNoWall : Option Bool} {ddNoWall : Option Addr} {k0NoWall k1NoWall k2NoWall k3NoWall k5NoWall : Option Value}
    {nmNoSize qNoSize : Str} {bsNoSize subNoSize : List Value} {hdctNoSize abNoSize : Bool} {snNoSize : List Str} {colNoSize : Option Bool} {ddNoSize : Option Addr} {k0NoSize k1NoSize k2NoSize k3NoSize k5NoSize : Option Value}
    {nmNoNights qNoNights : Str} {bsNoNights subNoNights : List Value} {hdctNoNights abNoNights : Bool} {snNoNights : List Str} {colNoNights : Option Bool} {ddNoNights : Option Addr} {k0NoNights k1NoNights k2NoNights k3NoNights k5NoNights : Option Value}
    {nmNoBox qNoBox : Str} {bsNoBox subNoBox : List Value} {hdctNoBox abNoBox : Bool} {snNoBox : List Str} {colNoBox : Option Bool} {ddNoBox : Option Addr} {k0NoBox k1NoBox k2NoBox k3NoBox k5NoBox : Option Value}
    {nmNoParcel qNoParcel : Str} {bsNoParcel subNoParcel : List Value} {hdctNoParcel abNoParcel : Bool} {snNoParcel : List Str} {colNoParcel : Option Bool} {ddNoParcel : Option Addr} {k0NoParcel k1NoParcel k2NoParcel k3NoParcel k5NoParcel : Option Value}
    {tMOST_BOXES : Tok}
    {tLEAST : Tok}
    {tGREATEST : Tok}
    (aParcel : PySem.W.nsIn K mainGlobals "Parcel" = some (some (.ref cParcel)))
    (pgParcel : PySem.W.plainGet K cParcel Str.empty = true)
    (hdParcel : PySem.W.hasDictIn K cParcel = true)
    (poParcel : PySem.W.plainOver K cParcel = true)
    (saParcel : PySem.W.findIn K (.ref cParcel) "__setattr__" = some (some (.builtin "object.__setattr__")))
    (mkParcel : PySem.W.makesIn K cParcel = true)
    (kcParcel : PySem.W.keepIn K (.ref cParcel) = true)
    (nParcel1 : PySem.W.findIn K (.ref cParcel) "number" = some none)
    (nParcel2 : PySem.W.findIn K (.ref cParcel) "size" = some none)
    (nParcel3 : PySem.W.findIn K (.ref cParcel) "last_night" = some none)
    (aWall : PySem.W.nsIn K mainGlobals "Wall" = some (some (.ref cWall)))
    (pgWall : PySem.W.plainGet K cWall Str.empty = true)
    (hdWall : PySem.W.hasDictIn K cWall = true)
    (poWall : PySem.W.plainOver K cWall = true)
    (saWall : PySem.W.findIn K (.ref cWall) "__setattr__" = some (some (.builtin "object.__setattr__")))
    (mkWall : PySem.W.makesIn K cWall = true)
    (kcWall : PySem.W.keepIn K (.ref cWall) = true)
    (nWall1 : PySem.W.findIn K (.ref cWall) "box_sizes" = some none)
    (nWall2 : PySem.W.findIn K (.ref cWall) "parcels" = some none)
    (nWall3 : PySem.W.findIn K (.ref cWall) "came" = some none)
    (nWall4 : PySem.W.findIn K (.ref cWall) "nights_gone" = some none)
    (aParcel___init__ : PySem.W.findIn K (.ref cParcel) "__init__" = some (some (.ref fParcel___init__)))
    (iParcel___init__ : PySem.W.isFn K (.ref fParcel___init__) = true)
    (lParcel___init__ : K.lookup fParcel___init__ = some ⟨ocParcel___init__, odParcel___init__, .func (PySem.W.fnOf "__init__" "Parcel.__init__" (defArgs s_Parcel___init__) (defBody s_Parcel___init__) (defScope s_Parcel___init__) .none kVParcel___init__ dcParcel___init__ pmParcel___init__ anParcel___init__ cdParcel___init__ ctParcel___init__), slParcel___init__⟩)
    (cParcel___init___ : PySem.W.codeIn K cdParcel___init__ "Parcel.__init__" = true)
    (kParcel___init__ : PySem.W.keepIn K (.ref fParcel___init__) = true)
    (aWall___init__ : PySem.W.findIn K (.ref cWall) "__init__" = some (some (.ref fWall___init__)))
    (iWall___init__ : PySem.W.isFn K (.ref fWall___init__) = true)
    (lWall___init__ : K.lookup fWall___init__ = some ⟨ocWall___init__, odWall___init__, .func (PySem.W.fnOf "__init__" "Wall.__init__" (defArgs s_Wall___init__) (defBody s_Wall___init__) (defScope s_Wall___init__) .none kVWall___init__ dcWall___init__ pmWall___init__ anWall___init__ cdWall___init__ ctWall___init__), slWall___init__⟩)
    (cWall___init___ : PySem.W.codeIn K cdWall___init__ "Wall.__init__" = true)
    (kWall___init__ : PySem.W.keepIn K (.ref fWall___init__) = true)
    (aWall_sizes : PySem.W.findIn K (.ref cWall) "sizes" = some (some (.ref fWall_sizes)))
    (iWall_sizes : PySem.W.isFn K (.ref fWall_sizes) = true)
    (lWall_sizes : K.lookup fWall_sizes = some ⟨ocWall_sizes, odWall_sizes, .func (PySem.W.fnOf "sizes" "Wall.sizes" (defArgs s_Wall_sizes) (defBody s_Wall_sizes) (defScope s_Wall_sizes) .none kVWall_sizes dcWall_sizes pmWall_sizes anWall_sizes cdWall_sizes ctWall_sizes), slWall_sizes⟩)
    (cWall_sizes_ : PySem.W.codeIn K cdWall_sizes "Wall.sizes" = true)
    (kWall_sizes : PySem.W.keepIn K (.ref fWall_sizes) = true)
    (aWall_held : PySem.W.findIn K (.ref cWall) "held" = some (some (.ref fWall_held)))
    (iWall_held : PySem.W.isFn K (.ref fWall_held) = true)
    (lWall_held : K.lookup fWall_held = some ⟨ocWall_held, odWall_held, .func (PySem.W.fnOf "held" "Wall.held" (defArgs s_Wall_held) (defBody s_Wall_held) (defScope s_Wall_held) .none kVWall_held dcWall_held pmWall_held anWall_held cdWall_held ctWall_held), slWall_held⟩)
    (cWall_held_ : PySem.W.codeIn K cdWall_held "Wall.held" = true)
    (kWall_held : PySem.W.keepIn K (.ref fWall_held) = true)
    (aWall_free : PySem.W.findIn K (.ref cWall) "free" = some (some (.ref fWall_free)))
    (iWall_free : PySem.W.isFn K (.ref fWall_free) = true)
    (lWall_free : K.lookup fWall_free = some ⟨ocWall_free, odWall_free, .func (PySem.W.fnOf "free" "Wall.free" (defArgs s_Wall_free) (defBody s_Wall_free) (defScope s_Wall_free) .none kVWall_free dcWall_free pmWall_free anWall_free cdWall_free ctWall_free), slWall_free⟩)
    (cWall_free_ : PySem.W.codeIn K cdWall_free "Wall.free" = true)
    (kWall_free : PySem.W.keepIn K (.ref fWall_free) = true)
    (aWall_day : PySem.W.findIn K (.ref cWall) "day" = some (some (.ref fWall_day)))
    (iWall_day : PySem.W.isFn K (.ref fWall_day) = true)
    (lWall_day : K.lookup fWall_day = some ⟨ocWall_day, odWall_day, .func (PySem.W.fnOf "day" "Wall.day" (defArgs s_Wall_day) (defBody s_Wall_day) (defScope s_Wall_day) .none kVWall_day dcWall_day pmWall_day anWall_day cdWall_day ctWall_day), slWall_day⟩)
    (cWall_day_ : PySem.W.codeIn K cdWall_day "Wall.day" = true)
    (kWall_day : PySem.W.keepIn K (.ref fWall_day) = true)
    (aWall_come : PySem.W.findIn K (.ref cWall) "come" = some (some (.ref fWall_come)))
    (iWall_come : PySem.W.isFn K (.ref fWall_come) = true)
    (lWall_come : K.lookup fWall_come = some ⟨ocWall_come, odWall_come, .func (PySem.W.fnOf "come" "Wall.come" (defArgs s_Wall_come) (defBody s_Wall_come) (defScope s_Wall_come) .none kVWall_come dcWall_come pmWall_come anWall_come cdWall_come ctWall_come), slWall_come⟩)
    (cWall_come_ : PySem.W.codeIn K cdWall_come "Wall.come" = true)
    (kWall_come : PySem.W.keepIn K (.ref fWall_come) = true)
    (aWall_fetch : PySem.W.findIn K (.ref cWall) "fetch" = some (some (.ref fWall_fetch)))
    (iWall_fetch : PySem.W.isFn K (.ref fWall_fetch) = true)
    (lWall_fetch : K.lookup fWall_fetch = some ⟨ocWall_fetch, odWall_fetch, .func (PySem.W.fnOf "fetch" "Wall.fetch" (defArgs s_Wall_fetch) (defBody s_Wall_fetch) (defScope s_Wall_fetch) .none kVWall_fetch dcWall_fetch pmWall_fetch anWall_fetch cdWall_fetch ctWall_fetch), slWall_fetch⟩)
    (cWall_fetch_ : PySem.W.codeIn K cdWall_fetch "Wall.fetch" = true)
    (kWall_fetch : PySem.W.keepIn K (.ref fWall_fetch) = true)
    (aWall_size_of : PySem.W.findIn K (.ref cWall) "size_of" = some (some (.ref fWall_size_of)))
    (iWall_size_of : PySem.W.isFn K (.ref fWall_size_of) = true)
    (lWall_size_of : K.lookup fWall_size_of = some ⟨ocWall_size_of, odWall_size_of, .func (PySem.W.fnOf "size_of" "Wall.size_of" (defArgs s_Wall_size_of) (defBody s_Wall_size_of) (defScope s_Wall_size_of) .none kVWall_size_of dcWall_size_of pmWall_size_of anWall_size_of cdWall_size_of ctWall_size_of), slWall_size_of⟩)
    (cWall_size_of_ : PySem.W.codeIn K cdWall_size_of "Wall.size_of" = true)
    (kWall_size_of : PySem.W.keepIn K (.ref fWall_size_of) = true)
    (aWall_left : PySem.W.findIn K (.ref cWall) "left" = some (some (.ref fWall_left)))
    (iWall_left : PySem.W.isFn K (.ref fWall_left) = true)
    (lWall_left : K.lookup fWall_left = some ⟨ocWall_left, odWall_left, .func (PySem.W.fnOf "left" "Wall.left" (defArgs s_Wall_left) (defBody s_Wall_left) (defScope s_Wall_left) .none kVWall_left dcWall_left pmWall_left anWall_left cdWall_left ctWall_left), slWall_left⟩)
    (cWall_left_ : PySem.W.codeIn K cdWall_left "Wall.left" = true)
    (kWall_left : PySem.W.keepIn K (.ref fWall_left) = true)
    (aWall_move : PySem.W.findIn K (.ref cWall) "move" = some (some (.ref fWall_move)))
    (iWall_move : PySem.W.isFn K (.ref fWall_move) = true)
    (lWall_move : K.lookup fWall_move = some ⟨ocWall_move, odWall_move, .func (PySem.W.fnOf "move" "Wall.move" (defArgs s_Wall_move) (defBody s_Wall_move) (defScope s_Wall_move) .none kVWall_move dcWall_move pmWall_move anWall_move cdWall_move ctWall_move), slWall_move⟩)
    (cWall_move_ : PySem.W.codeIn K cdWall_move "Wall.move" = true)
    (kWall_move : PySem.W.keepIn K (.ref fWall_move) = true)
    (aWall_boxes_for : PySem.W.findIn K (.ref cWall) "boxes_for" = some (some (.ref fWall_boxes_for)))
    (iWall_boxes_for : PySem.W.isFn K (.ref fWall_boxes_for) = true)
    (lWall_boxes_for : K.lookup fWall_boxes_for = some ⟨ocWall_boxes_for, odWall_boxes_for, .func (PySem.W.fnOf "boxes_for" "Wall.boxes_for" (defArgs s_Wall_boxes_for) (defBody s_Wall_boxes_for) (defScope s_Wall_boxes_for) .none kVWall_boxes_for dcWall_boxes_for pmWall_boxes_for anWall_boxes_for cdWall_boxes_for ctWall_boxes_for), slWall_boxes_for⟩)
    (cWall_boxes_for_ : PySem.W.codeIn K cdWall_boxes_for "Wall.boxes_for" = true)
    (kWall_boxes_for : PySem.W.keepIn K (.ref fWall_boxes_for) = true)
    (aWall_least_box : PySem.W.findIn K (.ref cWall) "least_box" = some (some (.ref fWall_least_box)))
    (iWall_least_box : PySem.W.isFn K (.ref fWall_least_box) = true)
    (lWall_least_box : K.lookup fWall_least_box = some ⟨ocWall_least_box, odWall_least_box, .func (PySem.W.fnOf "least_box" "Wall.least_box" (defArgs s_Wall_least_box) (defBody s_Wall_least_box) (defScope s_Wall_least_box) .none kVWall_least_box dcWall_least_box pmWall_least_box anWall_least_box cdWall_least_box ctWall_least_box), slWall_least_box⟩)
    (cWall_least_box_ : PySem.W.codeIn K cdWall_least_box "Wall.least_box" = true)
    (kWall_least_box : PySem.W.keepIn K (.ref fWall_least_box) = true)
    (aWall_box_of : PySem.W.findIn K (.ref cWall) "box_of" = some (some (.ref fWall_box_of)))
    (iWall_box_of : PySem.W.isFn K (.ref fWall_box_of) = true)
    (lWall_box_of : K.lookup fWall_box_of = some ⟨ocWall_box_of, odWall_box_of, .func (PySem.W.fnOf "box_of" "Wall.box_of" (defArgs s_Wall_box_of) (defBody s_Wall_box_of) (defScope s_Wall_box_of) .none kVWall_box_of dcWall_box_of pmWall_box_of anWall_box_of cdWall_box_of ctWall_box_of), slWall_box_of⟩)
    (cWall_box_of_ : PySem.W.codeIn K cdWall_box_of "Wall.box_of" = true)
    (kWall_box_of : PySem.W.keepIn K (.ref fWall_box_of) = true)
    (ain_bounds : PySem.W.nsIn K mainGlobals "in_bounds" = some (some (.ref fin_bounds)))
    (lin_bounds : K.lookup fin_bounds = some ⟨ocin_bounds, odin_bounds, .func (PySem.W.fnOf "in_bounds" "in_bounds" (defArgs s_in_bounds) (defBody s_in_bounds) (defScope s_in_bounds) .none kVin_bounds dcin_bounds pmin_bounds anin_bounds cdin_bounds ctin_bounds), slin_bounds⟩)
    (cin_bounds_ : PySem.W.codeIn K cdin_bounds "in_bounds" = true)
    (kin_bounds : PySem.W.keepIn K (.ref fin_bounds) = true)
    (acheck_wall : PySem.W.nsIn K mainGlobals "check_wall" = some (some (.ref fcheck_wall)))
    (lcheck_wall : K.lookup fcheck_wall = some ⟨occheck_wall, odcheck_wall, .func (PySem.W.fnOf "check_wall" "check_wall" (defArgs s_check_wall) (defBody s_check_wall) (defScope s_check_wall) .none kVcheck_wall dccheck_wall pmcheck_wall ancheck_wall cdcheck_wall ctcheck_wall), slcheck_wall⟩)
    (ccheck_wall_ : PySem.W.codeIn K cdcheck_wall "check_wall" = true)
    (kcheck_wall : PySem.W.keepIn K (.ref fcheck_wall) = true)
    (acheck_size : PySem.W.nsIn K mainGlobals "check_size" = some (some (.ref fcheck_size)))
    (lcheck_size : K.lookup fcheck_size = some ⟨occheck_size, odcheck_size, .func (PySem.W.fnOf "check_size" "check_size" (defArgs s_check_size) (defBody s_check_size) (defScope s_check_size) .none kVcheck_size dccheck_size pmcheck_size ancheck_size cdcheck_size ctcheck_size), slcheck_size⟩)
    (ccheck_size_ : PySem.W.codeIn K cdcheck_size "check_size" = true)
    (kcheck_size : PySem.W.keepIn K (.ref fcheck_size) = true)
    (acheck_nights : PySem.W.nsIn K mainGlobals "check_nights" = some (some (.ref fcheck_nights)))
    (lcheck_nights : K.lookup fcheck_nights = some ⟨occheck_nights, odcheck_nights, .func (PySem.W.fnOf "check_nights" "check_nights" (defArgs s_check_nights) (defBody s_check_nights) (defScope s_check_nights) .none kVcheck_nights dccheck_nights pmcheck_nights ancheck_nights cdcheck_nights ctcheck_nights), slcheck_nights⟩)
    (ccheck_nights_ : PySem.W.codeIn K cdcheck_nights "check_nights" = true)
    (kcheck_nights : PySem.W.keepIn K (.ref fcheck_nights) = true)
    (acheck_both : PySem.W.nsIn K mainGlobals "check_both" = some (some (.ref fcheck_both)))
    (lcheck_both : K.lookup fcheck_both = some ⟨occheck_both, odcheck_both, .func (PySem.W.fnOf "check_both" "check_both" (defArgs s_check_both) (defBody s_check_both) (defScope s_check_both) .none kVcheck_both dccheck_both pmcheck_both ancheck_both cdcheck_both ctcheck_both), slcheck_both⟩)
    (ccheck_both_ : PySem.W.codeIn K cdcheck_both "check_both" = true)
    (kcheck_both : PySem.W.keepIn K (.ref fcheck_both) = true)
    (aplaces_by_size : PySem.W.nsIn K mainGlobals "places_by_size" = some (some (.ref fplaces_by_size)))
    (lplaces_by_size : K.lookup fplaces_by_size = some ⟨ocplaces_by_size, odplaces_by_size, .func (PySem.W.fnOf "places_by_size" "places_by_size" (defArgs s_places_by_size) (defBody s_places_by_size) (defScope s_places_by_size) .none kVplaces_by_size dcplaces_by_size pmplaces_by_size anplaces_by_size cdplaces_by_size ctplaces_by_size), slplaces_by_size⟩)
    (cplaces_by_size_ : PySem.W.codeIn K cdplaces_by_size "places_by_size" = true)
    (kplaces_by_size : PySem.W.keepIn K (.ref fplaces_by_size) = true)
    (afit : PySem.W.nsIn K mainGlobals "fit" = some (some (.ref ffit)))
    (lfit : K.lookup ffit = some ⟨ocfit, odfit, .func (PySem.W.fnOf "fit" "fit" (defArgs s_fit) (defBody s_fit) (defScope s_fit) .none kVfit dcfit pmfit anfit cdfit ctfit), slfit⟩)
    (cfit_ : PySem.W.codeIn K cdfit "fit" = true)
    (kfit : PySem.W.keepIn K (.ref ffit) = true)
    (aroom_for : PySem.W.nsIn K mainGlobals "room_for" = some (some (.ref froom_for)))
    (lroom_for : K.lookup froom_for = some ⟨ocroom_for, odroom_for, .func (PySem.W.fnOf "room_for" "room_for" (defArgs s_room_for) (defBody s_room_for) (defScope s_room_for) .none kVroom_for dcroom_for pmroom_for anroom_for cdroom_for ctroom_for), slroom_for⟩)
    (croom_for_ : PySem.W.codeIn K cdroom_for "room_for" = true)
    (kroom_for : PySem.W.keepIn K (.ref froom_for) = true)
    (afewest_moves : PySem.W.nsIn K mainGlobals "fewest_moves" = some (some (.ref ffewest_moves)))
    (lfewest_moves : K.lookup ffewest_moves = some ⟨ocfewest_moves, odfewest_moves, .func (PySem.W.fnOf "fewest_moves" "fewest_moves" (defArgs s_fewest_moves) (defBody s_fewest_moves) (defScope s_fewest_moves) .none kVfewest_moves dcfewest_moves pmfewest_moves anfewest_moves cdfewest_moves ctfewest_moves), slfewest_moves⟩)
    (cfewest_moves_ : PySem.W.codeIn K cdfewest_moves "fewest_moves" = true)
    (kfewest_moves : PySem.W.keepIn K (.ref ffewest_moves) = true)
    (a_law_drawn : PySem.W.nsIn K mainGlobals "_law_drawn" = some (some (.ref f_law_drawn)))
    (l_law_drawn : K.lookup f_law_drawn = some ⟨oc_law_drawn, od_law_drawn, .func (PySem.W.fnOf "_law_drawn" "_law_drawn" (defArgs s__law_drawn) (defBody s__law_drawn) (defScope s__law_drawn) .none kV_law_drawn dc_law_drawn pm_law_drawn an_law_drawn cd_law_drawn ct_law_drawn), sl_law_drawn⟩)
    (c_law_drawn_ : PySem.W.codeIn K cd_law_drawn "_law_drawn" = true)
    (k_law_drawn : PySem.W.keepIn K (.ref f_law_drawn) = true)
    (a_law_whole : PySem.W.nsIn K mainGlobals "_law_whole" = some (some (.ref f_law_whole)))
    (l_law_whole : K.lookup f_law_whole = some ⟨oc_law_whole, od_law_whole, .func (PySem.W.fnOf "_law_whole" "_law_whole" (defArgs s__law_whole) (defBody s__law_whole) (defScope s__law_whole) .none kV_law_whole dc_law_whole pm_law_whole an_law_whole cd_law_whole ct_law_whole), sl_law_whole⟩)
    (c_law_whole_ : PySem.W.codeIn K cd_law_whole "_law_whole" = true)
    (k_law_whole : PySem.W.keepIn K (.ref f_law_whole) = true)
    (a_law_row : PySem.W.nsIn K mainGlobals "_law_row" = some (some (.ref f_law_row)))
    (l_law_row : K.lookup f_law_row = some ⟨oc_law_row, od_law_row, .func (PySem.W.fnOf "_law_row" "_law_row" (defArgs s__law_row) (defBody s__law_row) (defScope s__law_row) .none kV_law_row dc_law_row pm_law_row an_law_row cd_law_row ct_law_row), sl_law_row⟩)
    (c_law_row_ : PySem.W.codeIn K cd_law_row "_law_row" = true)
    (k_law_row : PySem.W.keepIn K (.ref f_law_row) = true)
    (a_law_sizes_by : PySem.W.nsIn K mainGlobals "_law_sizes_by" = some (some (.ref f_law_sizes_by)))
    (l_law_sizes_by : K.lookup f_law_sizes_by = some ⟨oc_law_sizes_by, od_law_sizes_by, .func (PySem.W.fnOf "_law_sizes_by" "_law_sizes_by" (defArgs s__law_sizes_by) (defBody s__law_sizes_by) (defScope s__law_sizes_by) .none kV_law_sizes_by dc_law_sizes_by pm_law_sizes_by an_law_sizes_by cd_law_sizes_by ct_law_sizes_by), sl_law_sizes_by⟩)
    (c_law_sizes_by_ : PySem.W.codeIn K cd_law_sizes_by "_law_sizes_by" = true)
    (k_law_sizes_by : PySem.W.keepIn K (.ref f_law_sizes_by) = true)
    (a_law_held : PySem.W.nsIn K mainGlobals "_law_held" = some (some (.ref f_law_held)))
    (l_law_held : K.lookup f_law_held = some ⟨oc_law_held, od_law_held, .func (PySem.W.fnOf "_law_held" "_law_held" (defArgs s__law_held) (defBody s__law_held) (defScope s__law_held) .none kV_law_held dc_law_held pm_law_held an_law_held cd_law_held ct_law_held), sl_law_held⟩)
    (c_law_held_ : PySem.W.codeIn K cd_law_held "_law_held" = true)
    (k_law_held : PySem.W.keepIn K (.ref f_law_held) = true)
    (a_law_stands : PySem.W.nsIn K mainGlobals "_law_stands" = some (some (.ref f_law_stands)))
    (l_law_stands : K.lookup f_law_stands = some ⟨oc_law_stands, od_law_stands, .func (PySem.W.fnOf "_law_stands" "_law_stands" (defArgs s__law_stands) (defBody s__law_stands) (defScope s__law_stands) .none kV_law_stands dc_law_stands pm_law_stands an_law_stands cd_law_stands ct_law_stands), sl_law_stands⟩)
    (c_law_stands_ : PySem.W.codeIn K cd_law_stands "_law_stands" = true)
    (k_law_stands : PySem.W.keepIn K (.ref f_law_stands) = true)
    (a_law_filled_by : PySem.W.nsIn K mainGlobals "_law_filled_by" = some (some (.ref f_law_filled_by)))
    (l_law_filled_by : K.lookup f_law_filled_by = some ⟨oc_law_filled_by, od_law_filled_by, .func (PySem.W.fnOf "_law_filled_by" "_law_filled_by" (defArgs s__law_filled_by) (defBody s__law_filled_by) (defScope s__law_filled_by) .none kV_law_filled_by dc_law_filled_by pm_law_filled_by an_law_filled_by cd_law_filled_by ct_law_filled_by), sl_law_filled_by⟩)
    (c_law_filled_by_ : PySem.W.codeIn K cd_law_filled_by "_law_filled_by" = true)
    (k_law_filled_by : PySem.W.keepIn K (.ref f_law_filled_by) = true)
    (a_law_side_of : PySem.W.nsIn K mainGlobals "_law_side_of" = some (some (.ref f_law_side_of)))
    (l_law_side_of : K.lookup f_law_side_of = some ⟨oc_law_side_of, od_law_side_of, .func (PySem.W.fnOf "_law_side_of" "_law_side_of" (defArgs s__law_side_of) (defBody s__law_side_of) (defScope s__law_side_of) .none kV_law_side_of dc_law_side_of pm_law_side_of an_law_side_of cd_law_side_of ct_law_side_of), sl_law_side_of⟩)
    (c_law_side_of_ : PySem.W.codeIn K cd_law_side_of "_law_side_of" = true)
    (k_law_side_of : PySem.W.keepIn K (.ref f_law_side_of) = true)
    (a_law_many : PySem.W.nsIn K mainGlobals "_law_many" = some (some (.ref f_law_many)))
    (l_law_many : K.lookup f_law_many = some ⟨oc_law_many, od_law_many, .func (PySem.W.fnOf "_law_many" "_law_many" (defArgs s__law_many) (defBody s__law_many) (defScope s__law_many) .none kV_law_many dc_law_many pm_law_many an_law_many cd_law_many ct_law_many), sl_law_many⟩)
    (c_law_many_ : PySem.W.codeIn K cd_law_many "_law_many" = true)
    (k_law_many : PySem.W.keepIn K (.ref f_law_many) = true)
    (a_law_moved : PySem.W.nsIn K mainGlobals "_law_moved" = some (some (.ref f_law_moved)))
    (l_law_moved : K.lookup f_law_moved = some ⟨oc_law_moved, od_law_moved, .func (PySem.W.fnOf "_law_moved" "_law_moved" (defArgs s__law_moved) (defBody s__law_moved) (defScope s__law_moved) .none kV_law_moved dc_law_moved pm_law_moved an_law_moved cd_law_moved ct_law_moved), sl_law_moved⟩)
    (c_law_moved_ : PySem.W.codeIn K cd_law_moved "_law_moved" = true)
    (k_law_moved : PySem.W.keepIn K (.ref f_law_moved) = true)
    (alaw : PySem.W.nsIn K mainGlobals "law" = some (some (.ref flaw)))
    (llaw : K.lookup flaw = some ⟨oclaw, odlaw, .func (PySem.W.fnOf "law" "law" (defArgs s_law) (defBody s_law) (defScope s_law) .none kVlaw dclaw pmlaw anlaw cdlaw ctlaw), sllaw⟩)
    (claw_ : PySem.W.codeIn K cdlaw "law" = true)
    (klaw : PySem.W.keepIn K (.ref flaw) = true)
    (aWallError : PySem.W.nsIn K mainGlobals "WallError" = some (some (.ref cWallError)))
    (xWallError : K.lookup cWallError = some (excClassObj nmWallError qWallError cWallError NWallError bsWallError mroVE hdctWallError snWallError subWallError abWallError colWallError ddWallError k0WallError k1WallError k2WallError k3WallError k5WallError "ValueError.__new__"))
    (yWallError : noKey K NWallError "__init__" = true)
    (aNoWall : PySem.W.nsIn K mainGlobals "NoWall" = some (some (.ref cNoWall)))
    (xNoWall : K.lookup cNoWall = some (excClassObj nmNoWall qNoWall cNoWall NNoWall bsNoWall (.ref cWallError :: mroVE) hdctNoWall snNoWall subNoWall abNoWall colNoWall ddNoWall k0NoWall k1NoWall k2NoWall k3NoWall k5NoWall "ValueError.__new__"))
    (yNoWall : noKey K NNoWall "__init__" = true)
    (aNoSize : PySem.W.nsIn K mainGlobals "NoSize" = some (some (.ref cNoSize)))
    (xNoSize : K.lookup cNoSize = some (excClassObj nmNoSize qNoSize cNoSize NNoSize bsNoSize (.ref cWallError :: mroVE) hdctNoSize snNoSize subNoSize abNoSize colNoSize ddNoSize k0NoSize k1NoSize k2NoSize k3NoSize k5NoSize "ValueError.__new__"))
    (yNoSize : noKey K NNoSize "__init__" = true)
    (aNoNights : PySem.W.nsIn K mainGlobals "NoNights" = some (some (.ref cNoNights)))
    (xNoNights : K.lookup cNoNights = some (excClassObj nmNoNights qNoNights cNoNights NNoNights bsNoNights (.ref cWallError :: mroVE) hdctNoNights snNoNights subNoNights abNoNights colNoNights ddNoNights k0NoNights k1NoNights k2NoNights k3NoNights k5NoNights "ValueError.__new__"))
    (yNoNights : noKey K NNoNights "__init__" = true)
    (aNoBox : PySem.W.nsIn K mainGlobals "NoBox" = some (some (.ref cNoBox)))
    (xNoBox : K.lookup cNoBox = some (excClassObj nmNoBox qNoBox cNoBox NNoBox bsNoBox (.ref cWallError :: mroVE) hdctNoBox snNoBox subNoBox abNoBox colNoBox ddNoBox k0NoBox k1NoBox k2NoBox k3NoBox k5NoBox "ValueError.__new__"))
    (yNoBox : noKey K NNoBox "__init__" = true)
    (aNoParcel : PySem.W.nsIn K mainGlobals "NoParcel" = some (some (.ref cNoParcel)))
    (xNoParcel : K.lookup cNoParcel = some (excClassObj nmNoParcel qNoParcel cNoParcel NNoParcel bsNoParcel (.ref cWallError :: mroVE) hdctNoParcel snNoParcel subNoParcel abNoParcel colNoParcel ddNoParcel k0NoParcel k1NoParcel k2NoParcel k3NoParcel k5NoParcel "ValueError.__new__"))
    (yNoParcel : noKey K NNoParcel "__init__" = true)
    (aMOST_BOXES : PySem.W.nsIn K mainGlobals "MOST_BOXES" = some (some (.int 8 tMOST_BOXES)))
    (aLEAST : PySem.W.nsIn K mainGlobals "LEAST" = some (some (.int 1 tLEAST)))
    (aGREATEST : PySem.W.nsIn K mainGlobals "GREATEST" = some (some (.int 9 tGREATEST)))
    (zlen : PySem.W.nsIn K mainGlobals "len" = some none)
    (zrange : PySem.W.nsIn K mainGlobals "range" = some none)
    (zlist : PySem.W.nsIn K mainGlobals "list" = some none)
    (zmin : PySem.W.nsIn K mainGlobals "min" = some none)
    (zmax : PySem.W.nsIn K mainGlobals "max" = some none)
    (zisinstance : PySem.W.nsIn K mainGlobals "isinstance" = some none)
    (zint : PySem.W.nsIn K mainGlobals "int" = some none)
    (zbool : PySem.W.nsIn K mainGlobals "bool" = some none)
    (zenumerate : PySem.W.nsIn K mainGlobals "enumerate" = some none)
    (zsorted : PySem.W.nsIn K mainGlobals "sorted" = some none)
    (ztuple : PySem.W.nsIn K mainGlobals "tuple" = some none)
    (zreversed : PySem.W.nsIn K mainGlobals "reversed" = some none)
    (kit_int_int : PySem.W.kitOne K (.type "int") (.type "int") = some true)
    (kit_int_bool : PySem.W.kitOne K (.type "int") (.type "bool") = some false)
    (kit_list_list : PySem.W.kitOne K (.type "list") (.type "list") = some true)
    (kit_tuple_tuple : PySem.W.kitOne K (.type "tuple") (.type "tuple") = some true)
    (eC : cdplaces_by_size = .ref cC)
    (hC : PySem.W.codeHdIn K cC pT = true)
    (hKT : K.lookup pT = none) :
    ∃ (fd : FuncData) (cC : Addr), PySem.W.codeHdIn K cC pT = true ∧ K.lookup pT = none ∧ (∀ (s : Shared) (v : Value), BindsTo s fd ⟨[v], []⟩ [("script", v)]) ∧ ∀ base : Heap, K.In base → base.Ns mainGlobals mg → base.BuiltinsAt mg pT → FnOk l.prog w K mg base CX0 7 fa fd ["script"] (spLawT (tabOf pT) K) := by
  have e := hfa.symm.trans (PySem.W.mg_of X G alaw)
  cases e
  have clParcel : Cls K cParcel := ⟨pgParcel, hdParcel, poParcel, saParcel⟩
  have mParcel : mg "Parcel" = some (.ref cParcel) := PySem.W.mg_of X G aParcel
  have clWall : Cls K cWall := ⟨pgWall, hdWall, poWall, saWall⟩
  have mWall : mg "Wall" = some (.ref cWall) := PySem.W.mg_of X G aWall
  have FParcel___init__ := fun_mk (st := s_Parcel___init__) lParcel___init__ cParcel___init___ kParcel___init__
  have bParcel___init__ := FParcel___init__.binds4 (p1 := "self") (p2 := "number") (p3 := "size") (p4 := "last_night") fun _ _ _ _ _ _ _ _ _ _ => rfl
  have MParcel : Mk K cParcel fParcel___init__ := ⟨mkParcel, aParcel___init__, iParcel___init__, kcParcel⟩
  have FWall___init__ := fun_mk (st := s_Wall___init__) lWall___init__ cWall___init___ kWall___init__
  have bWall___init__ := FWall___init__.binds2 (p1 := "self") (p2 := "sizes") fun _ _ _ _ _ _ _ _ => rfl
  have MWall : Mk K cWall fWall___init__ := ⟨mkWall, aWall___init__, iWall___init__, kcWall⟩
  have FWall_sizes := fun_mk (st := s_Wall_sizes) lWall_sizes cWall_sizes_ kWall_sizes
  have bWall_sizes := FWall_sizes.binds1 (p1 := "self") fun _ _ _ _ _ _ _ => rfl
  have meWall_sizes : Meth K cWall "sizes" fWall_sizes := ⟨aWall_sizes, iWall_sizes, kWall_sizes⟩
  have FWall_held := fun_mk (st := s_Wall_held) lWall_held cWall_held_ kWall_held
  have bWall_held := FWall_held.binds1 (p1 := "self") fun _ _ _ _ _ _ _ => rfl
  have meWall_held : Meth K cWall "held" fWall_held := ⟨aWall_held, iWall_held, kWall_held⟩
  have FWall_free := fun_mk (st := s_Wall_free) lWall_free cWall_free_ kWall_free
  have bWall_free := FWall_free.binds1 (p1 := "self") fun _ _ _ _ _ _ _ => rfl
  have meWall_free : Meth K cWall "free" fWall_free := ⟨aWall_free, iWall_free, kWall_free⟩
  have FWall_day := fun_mk (st := s_Wall_day) lWall_day cWall_day_ kWall_day
  have bWall_day := FWall_day.binds1 (p1 := "self") fun _ _ _ _ _ _ _ => rfl
  have meWall_day : Meth K cWall "day" fWall_day := ⟨aWall_day, iWall_day, kWall_day⟩
  have FWall_come := fun_mk (st := s_Wall_come) lWall_come cWall_come_ kWall_come
  have bWall_come := FWall_come.binds3 (p1 := "self") (p2 := "size") (p3 := "nights") fun _ _ _ _ _ _ _ _ _ => rfl
  have meWall_come : Meth K cWall "come" fWall_come := ⟨aWall_come, iWall_come, kWall_come⟩
  have FWall_fetch := fun_mk (st := s_Wall_fetch) lWall_fetch cWall_fetch_ kWall_fetch
  have bWall_fetch := FWall_fetch.binds2 (p1 := "self") (p2 := "parcel") fun _ _ _ _ _ _ _ _ => rfl
  have meWall_fetch : Meth K cWall "fetch" fWall_fetch := ⟨aWall_fetch, iWall_fetch, kWall_fetch⟩
  have FWall_size_of := fun_mk (st := s_Wall_size_of) lWall_size_of cWall_size_of_ kWall_size_of
  have bWall_size_of := FWall_size_of.binds2 (p1 := "self") (p2 := "parcel") fun _ _ _ _ _ _ _ _ => rfl
  have meWall_size_of : Meth K cWall "size_of" fWall_size_of := ⟨aWall_size_of, iWall_size_of, kWall_size_of⟩
  have FWall_left := fun_mk (st := s_Wall_left) lWall_left cWall_left_ kWall_left
  have bWall_left := FWall_left.binds2 (p1 := "self") (p2 := "parcel") fun _ _ _ _ _ _ _ _ => rfl
  have meWall_left : Meth K cWall "left" fWall_left := ⟨aWall_left, iWall_left, kWall_left⟩
  have FWall_move := fun_mk (st := s_Wall_move) lWall_move cWall_move_ kWall_move
  have bWall_move := FWall_move.binds3 (p1 := "self") (p2 := "parcel") (p3 := "box") fun _ _ _ _ _ _ _ _ _ => rfl
  have meWall_move : Meth K cWall "move" fWall_move := ⟨aWall_move, iWall_move, kWall_move⟩
  have FWall_boxes_for := fun_mk (st := s_Wall_boxes_for) lWall_boxes_for cWall_boxes_for_ kWall_boxes_for
  have bWall_boxes_for := FWall_boxes_for.binds2 (p1 := "self") (p2 := "size") fun _ _ _ _ _ _ _ _ => rfl
  have meWall_boxes_for : Meth K cWall "boxes_for" fWall_boxes_for := ⟨aWall_boxes_for, iWall_boxes_for, kWall_boxes_for⟩
  have FWall_least_box := fun_mk (st := s_Wall_least_box) lWall_least_box cWall_least_box_ kWall_least_box
  have bWall_least_box := FWall_least_box.binds2 (p1 := "self") (p2 := "size") fun _ _ _ _ _ _ _ _ => rfl
  have meWall_least_box : Meth K cWall "least_box" fWall_least_box := ⟨aWall_least_box, iWall_least_box, kWall_least_box⟩
  have FWall_box_of := fun_mk (st := s_Wall_box_of) lWall_box_of cWall_box_of_ kWall_box_of
  have bWall_box_of := FWall_box_of.binds2 (p1 := "self") (p2 := "parcel") fun _ _ _ _ _ _ _ _ => rfl
  have meWall_box_of : Meth K cWall "box_of" fWall_box_of := ⟨aWall_box_of, iWall_box_of, kWall_box_of⟩
  have Fin_bounds := fun_mk (st := s_in_bounds) lin_bounds cin_bounds_ kin_bounds
  have bin_bounds := Fin_bounds.binds1 (p1 := "number") fun _ _ _ _ _ _ _ => rfl
  have min_bounds : mg "in_bounds" = some (.ref fin_bounds) := PySem.W.mg_of X G ain_bounds
  have Fcheck_wall := fun_mk (st := s_check_wall) lcheck_wall ccheck_wall_ kcheck_wall
  have bcheck_wall := Fcheck_wall.binds1 (p1 := "sizes") fun _ _ _ _ _ _ _ => rfl
  have mcheck_wall : mg "check_wall" = some (.ref fcheck_wall) := PySem.W.mg_of X G acheck_wall
  have Fcheck_size := fun_mk (st := s_check_size) lcheck_size ccheck_size_ kcheck_size
  have bcheck_size := Fcheck_size.binds1 (p1 := "size") fun _ _ _ _ _ _ _ => rfl
  have mcheck_size : mg "check_size" = some (.ref fcheck_size) := PySem.W.mg_of X G acheck_size
  have Fcheck_nights := fun_mk (st := s_check_nights) lcheck_nights ccheck_nights_ kcheck_nights
  have bcheck_nights := Fcheck_nights.binds1 (p1 := "nights") fun _ _ _ _ _ _ _ => rfl
  have mcheck_nights : mg "check_nights" = some (.ref fcheck_nights) := PySem.W.mg_of X G acheck_nights
  have Fcheck_both := fun_mk (st := s_check_both) lcheck_both ccheck_both_ kcheck_both
  have bcheck_both := Fcheck_both.binds2 (p1 := "sizes") (p2 := "parcels") fun _ _ _ _ _ _ _ _ => rfl
  have mcheck_both : mg "check_both" = some (.ref fcheck_both) := PySem.W.mg_of X G acheck_both
  have Fplaces_by_size := fun_mk (st := s_places_by_size) lplaces_by_size cplaces_by_size_ kplaces_by_size
  have bplaces_by_size := Fplaces_by_size.binds1 (p1 := "sizes") fun _ _ _ _ _ _ _ => rfl
  have mplaces_by_size : mg "places_by_size" = some (.ref fplaces_by_size) := PySem.W.mg_of X G aplaces_by_size
  have Ffit := fun_mk (st := s_fit) lfit cfit_ kfit
  have bfit := Ffit.binds2 (p1 := "sizes") (p2 := "parcels") fun _ _ _ _ _ _ _ _ => rfl
  have mfit : mg "fit" = some (.ref ffit) := PySem.W.mg_of X G afit
  have Froom_for := fun_mk (st := s_room_for) lroom_for croom_for_ kroom_for
  have broom_for := Froom_for.binds2 (p1 := "wall") (p2 := "size") fun _ _ _ _ _ _ _ _ => rfl
  have mroom_for : mg "room_for" = some (.ref froom_for) := PySem.W.mg_of X G aroom_for
  have Ffewest_moves := fun_mk (st := s_fewest_moves) lfewest_moves cfewest_moves_ kfewest_moves
  have bfewest_moves := Ffewest_moves.binds2 (p1 := "wall") (p2 := "size") fun _ _ _ _ _ _ _ _ => rfl
  have mfewest_moves : mg "fewest_moves" = some (.ref ffewest_moves) := PySem.W.mg_of X G afewest_moves
  have F_law_drawn := fun_mk (st := s__law_drawn) l_law_drawn c_law_drawn_ k_law_drawn
  have b_law_drawn := F_law_drawn.binds3 (p1 := "script") (p2 := "k") (p3 := "many") fun _ _ _ _ _ _ _ _ _ => rfl
  have m_law_drawn : mg "_law_drawn" = some (.ref f_law_drawn) := PySem.W.mg_of X G a_law_drawn
  have F_law_whole := fun_mk (st := s__law_whole) l_law_whole c_law_whole_ k_law_whole
  have b_law_whole := F_law_whole.binds1 (p1 := "found") fun _ _ _ _ _ _ _ => rfl
  have m_law_whole : mg "_law_whole" = some (.ref f_law_whole) := PySem.W.mg_of X G a_law_whole
  have F_law_row := fun_mk (st := s__law_row) l_law_row c_law_row_ k_law_row
  have b_law_row := F_law_row.binds2 (p1 := "found") (p2 := "due") fun _ _ _ _ _ _ _ _ => rfl
  have m_law_row : mg "_law_row" = some (.ref f_law_row) := PySem.W.mg_of X G a_law_row
  have F_law_sizes_by := fun_mk (st := s__law_sizes_by) l_law_sizes_by c_law_sizes_by_ k_law_sizes_by
  have b_law_sizes_by := F_law_sizes_by.binds2 (p1 := "script") (p2 := "base") fun _ _ _ _ _ _ _ _ => rfl
  have m_law_sizes_by : mg "_law_sizes_by" = some (.ref f_law_sizes_by) := PySem.W.mg_of X G a_law_sizes_by
  have F_law_held := fun_mk (st := s__law_held) l_law_held c_law_held_ k_law_held
  have b_law_held := F_law_held.binds2 (p1 := "found") (p2 := "due") fun _ _ _ _ _ _ _ _ => rfl
  have m_law_held : mg "_law_held" = some (.ref f_law_held) := PySem.W.mg_of X G a_law_held
  have F_law_stands := fun_mk (st := s__law_stands) l_law_stands c_law_stands_ k_law_stands
  have b_law_stands := F_law_stands.binds4 (p1 := "side") (p2 := "sizes") (p3 := "held") (p4 := "day") fun _ _ _ _ _ _ _ _ _ _ => rfl
  have m_law_stands : mg "_law_stands" = some (.ref f_law_stands) := PySem.W.mg_of X G a_law_stands
  have F_law_filled_by := fun_mk (st := s__law_filled_by) l_law_filled_by c_law_filled_by_ k_law_filled_by
  have b_law_filled_by := F_law_filled_by.binds3 (p1 := "script") (p2 := "base") (p3 := "sizes") fun _ _ _ _ _ _ _ _ _ => rfl
  have m_law_filled_by : mg "_law_filled_by" = some (.ref f_law_filled_by) := PySem.W.mg_of X G a_law_filled_by
  have F_law_side_of := fun_mk (st := s__law_side_of) l_law_side_of c_law_side_of_ k_law_side_of
  have b_law_side_of := F_law_side_of.binds2 (p1 := "sizes") (p2 := "inside") fun _ _ _ _ _ _ _ _ => rfl
  have m_law_side_of : mg "_law_side_of" = some (.ref f_law_side_of) := PySem.W.mg_of X G a_law_side_of
  have F_law_many := fun_mk (st := s__law_many) l_law_many c_law_many_ k_law_many
  have b_law_many := F_law_many.binds4 (p1 := "found") (p2 := "sizes") (p3 := "inside") (p4 := "size") fun _ _ _ _ _ _ _ _ _ _ => rfl
  have m_law_many : mg "_law_many" = some (.ref f_law_many) := PySem.W.mg_of X G a_law_many
  have F_law_moved := fun_mk (st := s__law_moved) l_law_moved c_law_moved_ k_law_moved
  have b_law_moved := F_law_moved.binds2 (p1 := "side") (p2 := "moves") fun _ _ _ _ _ _ _ _ => rfl
  have m_law_moved : mg "_law_moved" = some (.ref f_law_moved) := PySem.W.mg_of X G a_law_moved
  have Flaw := fun_mk (st := s_law) llaw claw_ klaw
  have blaw := Flaw.binds1 (p1 := "script") fun _ _ _ _ _ _ _ => rfl
  have mWallError : mg "WallError" = some (.ref cWallError) := PySem.W.mg_of X G aWallError
  have XWallError : XCls K cWallError mroVE "ValueError.__new__" := ⟨_, _, _, _, _, _, _, _, _, _, _, _, _, _, _, xWallError, yWallError⟩
  have mNoWall : mg "NoWall" = some (.ref cNoWall) := PySem.W.mg_of X G aNoWall
  have XNoWall : XCls K cNoWall (.ref cWallError :: mroVE) "ValueError.__new__" := ⟨_, _, _, _, _, _, _, _, _, _, _, _, _, _, _, xNoWall, yNoWall⟩
  have RNoWall : Rs K mg cWallError cNoWall "NoWall" := ⟨XNoWall, .own XWallError .base, mNoWall⟩
  have mNoSize : mg "NoSize" = some (.ref cNoSize) := PySem.W.mg_of X G aNoSize
  have XNoSize : XCls K cNoSize (.ref cWallError :: mroVE) "ValueError.__new__" := ⟨_, _, _, _, _, _, _, _, _, _, _, _, _, _, _, xNoSize, yNoSize⟩
  have RNoSize : Rs K mg cWallError cNoSize "NoSize" := ⟨XNoSize, .own XWallError .base, mNoSize⟩
  have mNoNights : mg "NoNights" = some (.ref cNoNights) := PySem.W.mg_of X G aNoNights
  have XNoNights : XCls K cNoNights (.ref cWallError :: mroVE) "ValueError.__new__" := ⟨_, _, _, _, _, _, _, _, _, _, _, _, _, _, _, xNoNights, yNoNights⟩
  have RNoNights : Rs K mg cWallError cNoNights "NoNights" := ⟨XNoNights, .own XWallError .base, mNoNights⟩
  have mNoBox : mg "NoBox" = some (.ref cNoBox) := PySem.W.mg_of X G aNoBox
  have XNoBox : XCls K cNoBox (.ref cWallError :: mroVE) "ValueError.__new__" := ⟨_, _, _, _, _, _, _, _, _, _, _, _, _, _, _, xNoBox, yNoBox⟩
  have RNoBox : Rs K mg cWallError cNoBox "NoBox" := ⟨XNoBox, .own XWallError .base, mNoBox⟩
  have mNoParcel : mg "NoParcel" = some (.ref cNoParcel) := PySem.W.mg_of X G aNoParcel
  have XNoParcel : XCls K cNoParcel (.ref cWallError :: mroVE) "ValueError.__new__" := ⟨_, _, _, _, _, _, _, _, _, _, _, _, _, _, _, xNoParcel, yNoParcel⟩
  have RNoParcel : Rs K mg cWallError cNoParcel "NoParcel" := ⟨XNoParcel, .own XWallError .base, mNoParcel⟩
  have mMOST_BOXES : mg "MOST_BOXES" = some (.int 8 tMOST_BOXES) := PySem.W.mg_of X G aMOST_BOXES
  have mLEAST : mg "LEAST" = some (.int 1 tLEAST) := PySem.W.mg_of X G aLEAST
  have mGREATEST : mg "GREATEST" = some (.int 9 tGREATEST) := PySem.W.mg_of X G aGREATEST
  have mlen : mg "len" = none := PySem.W.mg_none_of X G zlen
  have mrange : mg "range" = none := PySem.W.mg_none_of X G zrange
  have mlist : mg "list" = none := PySem.W.mg_none_of X G zlist
  have mmin : mg "min" = none := PySem.W.mg_none_of X G zmin
  have mmax : mg "max" = none := PySem.W.mg_none_of X G zmax
  have misinstance : mg "isinstance" = none := PySem.W.mg_none_of X G zisinstance
  have mint : mg "int" = none := PySem.W.mg_none_of X G zint
  have mbool : mg "bool" = none := PySem.W.mg_none_of X G zbool
  have menumerate : mg "enumerate" = none := PySem.W.mg_none_of X G zenumerate
  have msorted : mg "sorted" = none := PySem.W.mg_none_of X G zsorted
  have mtuple : mg "tuple" = none := PySem.W.mg_none_of X G ztuple
  have mreversed : mg "reversed" = none := PySem.W.mg_none_of X G zreversed
  refine ⟨PySem.W.fnOf "law" "law" (defArgs s_law) (defBody s_law) (defScope s_law) .none kVlaw dclaw pmlaw anlaw cdlaw ctlaw, cC, hC, hKT, fun s v => .of_eq rfl, fun base _ _ hB => ?_⟩
  have T : WTxt K cWall := ⟨clWall, nWall1, nWall2, nWall3, nWall4⟩
  have TP : PTxt K cParcel := ⟨clParcel, nParcel1, nParcel2, nParcel3⟩
  have g__law_drawn : Gd l.prog w K mg base "_law_drawn" s__law_drawn ["script", "k", "many"] CX0 1 (spDrawn K) f_law_drawn _ := ⟨F_law_drawn, b_law_drawn, m_law_drawn, ok_drawn (P := l.prog) (w := w) (mg := mg) (base := base) F_law_drawn mlen⟩
  have g__law_whole : Gd l.prog w K mg base "_law_whole" s__law_whole ["found"] CX0 1 (spWhole) f_law_whole _ := ⟨F_law_whole, b_law_whole, m_law_whole, ok_whole (P := l.prog) (w := w) (mg := mg) (base := base) F_law_whole misinstance mint mbool kit_int_int kit_int_bool⟩
  have g__law_row : Gd l.prog w K mg base "_law_row" s__law_row ["found", "due"] CX0 2 (spRow K) f_law_row _ := ⟨F_law_row, b_law_row, m_law_row, ok_row F_law_row g__law_whole misinstance mlist mlen mrange kit_list_list⟩
  have g__law_held : Gd l.prog w K mg base "_law_held" s__law_held ["found", "due"] CX0 2 (spHeldEq K) f_law_held _ := ⟨F_law_held, b_law_held, m_law_held, ok_heldEq F_law_held g__law_whole misinstance mlist mlen mrange kit_list_list⟩
  have g_in_bounds : Gd l.prog w K mg base "in_bounds" s_in_bounds ["number"] CX0 1 (spBounds) fin_bounds _ := ⟨Fin_bounds, bin_bounds, min_bounds, ok_bounds (P := l.prog) (w := w) (mg := mg) (base := base) Fin_bounds mLEAST mGREATEST⟩
  have g_check_wall : Gd l.prog w K mg base "check_wall" s_check_wall ["sizes"] (CXF l.prog w) 2 (spCheckWall K cNoWall) fcheck_wall _ := ⟨Fcheck_wall, bcheck_wall, mcheck_wall, ok_checkWall Fcheck_wall g_in_bounds mlen mMOST_BOXES mLEAST mGREATEST RNoWall⟩
  have GI := ok_init (cP := cParcel) FWall___init__ T g_check_wall mlist
  have d_sizes : Md l.prog w K mg base cWall "sizes" ["self"] CX0 1 (spSizes cWall cParcel) fWall_sizes _ := ⟨bWall_sizes, meWall_sizes, ok_sizes (P := l.prog) (w := w) (mg := mg) (base := base) FWall_sizes T mlist⟩
  have d_held : Md l.prog w K mg base cWall "held" ["self"] CX0 1 (spHeld cWall cParcel) fWall_held _ := ⟨bWall_held, meWall_held, ok_held (P := l.prog) (w := w) (mg := mg) (base := base) FWall_held T TP⟩
  have d_free : Md l.prog w K mg base cWall "free" ["self"] CX0 1 (spFree cWall cParcel) fWall_free _ := ⟨bWall_free, meWall_free, ok_free (P := l.prog) (w := w) (mg := mg) (base := base) FWall_free T menumerate⟩
  have d_day : Md l.prog w K mg base cWall "day" ["self"] CX0 1 (spDay cWall cParcel) fWall_day _ := ⟨bWall_day, meWall_day, ok_day (P := l.prog) (w := w) (mg := mg) (base := base) FWall_day T⟩
  have g__law_stands : Gd l.prog w K mg base "_law_stands" s__law_stands ["side", "sizes", "held", "day"] CX0 3 (spStands K cWall cParcel) f_law_stands _ := ⟨F_law_stands, b_law_stands, m_law_stands, ok_stands F_law_stands T g__law_row g__law_held g__law_whole d_sizes d_held d_free d_day mlen mrange⟩
  have g_check_size : Gd l.prog w K mg base "check_size" s_check_size ["size"] (CXF l.prog w) 2 (spCheckNum cNoSize) fcheck_size _ := ⟨Fcheck_size, bcheck_size, mcheck_size, ok_checkSize Fcheck_size g_in_bounds mLEAST mGREATEST RNoSize⟩
  have g_check_nights : Gd l.prog w K mg base "check_nights" s_check_nights ["nights"] (CXF l.prog w) 2 (spCheckNum cNoNights) fcheck_nights _ := ⟨Fcheck_nights, bcheck_nights, mcheck_nights, ok_checkNights Fcheck_nights g_in_bounds mLEAST mGREATEST RNoNights⟩
  have GP := ok_parcel (P := l.prog) (w := w) (mg := mg) (base := base) FParcel___init__ TP
  have d_boxes_for : Md l.prog w K mg base cWall "boxes_for" ["self", "size"] CX0 2 (spBoxesFor cWall cParcel) fWall_boxes_for _ := ⟨bWall_boxes_for, meWall_boxes_for, ok_boxesFor FWall_boxes_for T d_free⟩
  have d_least_box : Md l.prog w K mg base cWall "least_box" ["self", "size"] (CXF l.prog w) 3 (spLeastBox cWall cParcel cNoBox) fWall_least_box _ := ⟨bWall_least_box, meWall_least_box, ok_leastBox FWall_least_box T d_boxes_for RNoBox mlen mmin⟩
  have d_come : Md l.prog w K mg base cWall "come" ["self", "size", "nights"] (CXF l.prog w) 4 (spCome cWall cParcel cNoSize cNoNights cNoBox) fWall_come _ := ⟨bWall_come, meWall_come, ok_come FWall_come T g_check_size g_check_nights d_least_box MParcel bParcel___init__ GP mParcel⟩
  have d_box_of : Md l.prog w K mg base cWall "box_of" ["self", "parcel"] (CXF l.prog w) 2 (spBoxOf cWall cParcel cNoParcel) fWall_box_of _ := ⟨bWall_box_of, meWall_box_of, ok_boxOf FWall_box_of T d_held RNoParcel⟩
  have d_fetch : Md l.prog w K mg base cWall "fetch" ["self", "parcel"] (CXF l.prog w) 3 (spFetch cWall cParcel cNoParcel) fWall_fetch _ := ⟨bWall_fetch, meWall_fetch, ok_fetch FWall_fetch T d_box_of⟩
  have d_move : Md l.prog w K mg base cWall "move" ["self", "parcel", "box"] (CXF l.prog w) 3 (spMove cWall cParcel cNoParcel cNoBox) fWall_move _ := ⟨bWall_move, meWall_move, ok_move FWall_move T TP d_box_of d_boxes_for RNoBox⟩
  have d_size_of : Md l.prog w K mg base cWall "size_of" ["self", "parcel"] (CXF l.prog w) 3 (spTells (fun _ q => q.size) cWall cParcel cNoParcel) fWall_size_of _ := ⟨bWall_size_of, meWall_size_of, ok_sizeOf FWall_size_of T TP d_box_of⟩
  have d_left : Md l.prog w K mg base cWall "left" ["self", "parcel"] (CXF l.prog w) 3 (spTells (fun w q => q.last - w.gone) cWall cParcel cNoParcel) fWall_left _ := ⟨bWall_left, meWall_left, ok_left FWall_left T TP d_box_of⟩
  have g__law_sizes_by : Gd l.prog w K mg base "_law_sizes_by" s__law_sizes_by ["script", "base"] CX0 2 (spSizesBy K) f_law_sizes_by _ := ⟨F_law_sizes_by, b_law_sizes_by, m_law_sizes_by, ok_sizesBy F_law_sizes_by g__law_drawn mrange⟩
  have g__law_filled_by : Gd l.prog w K mg base "_law_filled_by" s__law_filled_by ["script", "base", "sizes"] CX0 2 (spFilledBy K) f_law_filled_by _ := ⟨F_law_filled_by, b_law_filled_by, m_law_filled_by, ok_filledBy F_law_filled_by g__law_drawn mrange mlen⟩
  have g__law_side_of : Gd l.prog w K mg base "_law_side_of" s__law_side_of ["sizes", "inside"] CX0 5 (spSideOf K cWall cParcel) f_law_side_of _ := ⟨F_law_side_of, b_law_side_of, m_law_side_of, ok_sideOf F_law_side_of T MWall bWall___init__ GI mWall d_come d_fetch d_move d_held mrange mlen mlist⟩
  have g_check_both : Gd l.prog w K mg base "check_both" s_check_both ["sizes", "parcels"] (CXF l.prog w) 3 (spBoth K cNoWall cNoSize) fcheck_both _ := ⟨Fcheck_both, bcheck_both, mcheck_both, ok_both Fcheck_both g_check_wall g_check_size⟩
  have g_places_by_size : Gd l.prog w K mg base "places_by_size" s_places_by_size ["sizes"] CX0 2 (spPlaces (tabOf pT) K) fplaces_by_size _ := ⟨Fplaces_by_size, bplaces_by_size, mplaces_by_size, ok_places (P := l.prog) (w := w) (c := cC) Fplaces_by_size eC hC hB mlen mrange msorted⟩
  have g_fit : Gd l.prog w K mg base "fit" s_fit ["sizes", "parcels"] (CXF l.prog w) 4 (spFit (tabOf pT) K cNoWall cNoSize) ffit _ := ⟨Ffit, bfit, mfit, ok_fit Ffit g_check_both g_places_by_size mlen mlist mreversed menumerate⟩
  have g_fewest_moves : Gd l.prog w K mg base "fewest_moves" s_fewest_moves ["wall", "size"] CX0 4 (spMoves cWall cParcel) ffewest_moves _ := ⟨Ffewest_moves, bfewest_moves, mfewest_moves, ok_moves Ffewest_moves T d_sizes d_held d_free d_size_of menumerate⟩
  have g_room_for : Gd l.prog w K mg base "room_for" s_room_for ["wall", "size"] (CXF l.prog w) 5 (spRoom (tabOf pT) cWall cParcel cNoSize) froom_for _ := ⟨Froom_for, broom_for, mroom_for, ok_room Froom_for T g_check_size d_sizes d_held d_size_of g_fit g_fewest_moves⟩
  have g__law_many : Gd l.prog w K mg base "_law_many" s__law_many ["found", "sizes", "inside", "size"] CX0 2 (spMany9 K) f_law_many _ := ⟨F_law_many, b_law_many, m_law_many, ok_many9 F_law_many g__law_whole mlen⟩
  have g__law_moved : Gd l.prog w K mg base "_law_moved" s__law_moved ["side", "moves"] CX0 5 (spMoved9 cWall cParcel) f_law_moved _ := ⟨F_law_moved, b_law_moved, m_law_moved, ok_moved9 F_law_moved T g__law_whole d_sizes d_held d_free d_size_of d_move misinstance mlen mtuple kit_tuple_tuple⟩
  exact ok_law Flaw T g__law_drawn g__law_sizes_by g__law_filled_by g__law_side_of g_room_for g__law_stands g__law_many g__law_moved d_left d_come d_held d_free misinstance mlen mtuple mlist mrange mmax kit_tuple_tuple kit_list_list
theorem walk {l : PySem.W.OpenLaw} {q : Program} {loose : List Str} {XP : (Str → Option Value) → Heap → Prop} {YP : World → Heap → Prop} {d : DefRec} {K : Params → PySem.W.Frag} {pT : Addr} (hn : l.most = some 63) (hdf : d.params.defaults = [])
    (hY : ∀ (w : World) (h : Heap), YP w h → (K w.params).In h ∧ h.get? pT = some (PySem.W.tabObj #[]))
    (F : ∀ (w : World) (mg : Str → Option Value) (fa : Addr) (h : Heap), (K w.params).In h → h.Ns mainGlobals mg → mg d.name = some (.ref fa) →
      ∃ (fd : FuncData) (cC : Addr), PySem.W.codeHdIn (K w.params) cC pT = true ∧ (K w.params).lookup pT = none ∧ (∀ (s : Shared) (u : Value), BindsTo s fd ⟨[u], []⟩ [("script", u)]) ∧ ∀ base : Heap, (K w.params).In base → base.Ns mainGlobals mg → base.BuiltinsAt mg pT → FnOk l.prog w (K w.params) mg base CX0 7 fa fd ["script"] (spLawT (tabOf pT) (K w.params))) :
    PySem.W.WalkO q loose XP YP l.row.toRowW d [] (fun f vs => PySem.call f vs) :=
  L2.walk_ofT (n := 63) (k := 7) (x := "script") (CX := fun _ => CX0) (sp := fun w => spLawT (tabOf pT) (K w.params)) hn (by decide) hdf ⟨rfl, by decide, by decide⟩ hY F (fun _ _ a ns hl hP hS => ⟨a, ns, rfl, hS, hl, .inl hP, fun _ => rfl⟩) fun _ _ _ _ _ z => z
end Pw
open PySem PySem.W PyProof.Rows
set_option maxRecDepth 100000 in
set_option maxHeartbeats 0 in
theorem PySem.Challenge.cw_parcelwall_k09_whole_room_or_too_many_holds : PySem.Challenge.rw_parcelwall_k09_whole_room_or_too_many.Holds := by
  w_on; o_law; k_head; (case hw => w_witness2)
  k_fill
  refine Pw.walk (l := PySem.Challenge.rw_parcelwall_k09_whole_room_or_too_many) rfl rfl (fun w h Y => ⟨PySem.W.km_in_of Y, PySem.W.km_tabs_of Y _ (List.Mem.head _)⟩) ?F
  case F =>
    intro w mg fa h KX G hmg
    refine' Pw.all_mk KX G hmg ?aParcel ?pgParcel ?hdParcel ?poParcel ?saParcel ?mkParcel ?kcParcel ?nParcel1 ?nParcel2 ?nParcel3 ?aWall ?pgWall ?hdWall ?poWall ?saWall ?mkWall ?kcWall ?nWall1 ?nWall2 ?nWall3 ?nWall4 ?aParcel___init__ ?iParcel___init__ ?lParcel___init__ ?cParcel___init___ ?kParcel___init__ ?aWall___init__ ?iWall___init__ ?lWall___init__ ?cWall___init___ ?kWall___init__ ?aWall_sizes ?iWall_sizes ?lWall_sizes ?cWall_sizes_ ?kWall_sizes ?aWall_held ?iWall_held ?lWall_held ?cWall_held_ ?kWall_held ?aWall_free ?iWall_free ?lWall_free ?cWall_free_ ?kWall_free ?aWall_day ?iWall_day ?lWall_day ?cWall_day_ ?kWall_day ?aWall_come ?iWall_come ?lWall_come ?cWall_come_ ?kWall_come ?aWall_fetch ?iWall_fetch ?lWall_fetch ?cWall_fetch_ ?kWall_fetch ?aWall_size_of ?iWall_size_of ?lWall_size_of ?cWall_size_of_ ?kWall_size_of ?aWall_left ?iWall_left ?lWall_left ?cWall_left_ ?kWall_left ?aWall_move ?iWall_move ?lWall_move ?cWall_move_ ?kWall_move ?aWall_boxes_for ?iWall_boxes_for ?lWall_boxes_for ?cWall_boxes_for_ ?kWall_boxes_for ?aWall_least_box ?iWall_least_box ?lWall_least_box ?cWall_least_box_ ?kWall_least_box ?aWall_box_of ?iWall_box_of ?lWall_box_of ?cWall_box_of_ ?kWall_box_of ?ain_bounds ?lin_bounds ?cin_bounds_ ?kin_bounds ?acheck_wall ?lcheck_wall ?ccheck_wall_ ?kcheck_wall ?acheck_size ?lcheck_size ?ccheck_size_ ?kcheck_size ?acheck_nights ?lcheck_nights ?ccheck_nights_ ?kcheck_nights ?acheck_both ?lcheck_both ?ccheck_both_ ?kcheck_both ?aplaces_by_size ?lplaces_by_size ?cplaces_by_size_ ?kplaces_by_size ?afit ?lfit ?cfit_ ?kfit ?aroom_for ?lroom_for ?croom_for_ ?kroom_for ?afewest_moves ?lfewest_moves ?cfewest_moves_ ?kfewest_moves ?a_law_drawn ?l_law_drawn ?c_law_drawn_ ?k_law_drawn ?a_law_whole ?l_law_whole ?c_law_whole_ ?k_law_whole ?a_law_row ?l_law_row ?c_law_row_ ?k_law_row ?a_law_sizes_by ?l_law_sizes_by ?c_law_sizes_by_ ?k_law_sizes_by ?a_law_held ?l_law_held ?c_law_held_ ?k_law_held ?a_law_stands ?l_law_stands ?c_law_stands_ ?k_law_stands ?a_law_filled_by ?l_law_filled_by ?c_law_filled_by_ ?k_law_filled_by ?a_law_side_of ?l_law_side_of ?c_law_side_of_ ?k_law_side_of ?a_law_many ?l_law_many ?c_law_many_ ?k_law_many ?a_law_moved ?l_law_moved ?c_law_moved_ ?k_law_moved ?alaw ?llaw ?claw_ ?klaw ?aWallError ?xWallError ?yWallError ?aNoWall ?xNoWall ?yNoWall ?aNoSize ?xNoSize ?yNoSize ?aNoNights ?xNoNights ?yNoNights ?aNoBox ?xNoBox ?yNoBox ?aNoParcel ?xNoParcel ?yNoParcel ?aMOST_BOXES ?aLEAST ?aGREATEST ?zlen ?zrange ?zlist ?zmin ?zmax ?zisinstance ?zint ?zbool ?zenumerate ?zsorted ?ztuple ?zreversed ?kit_int_int ?kit_int_bool ?kit_list_list ?kit_tuple_tuple ?eC ?hC ?hKT
    (case aParcel => k_is)
    (case pgParcel => k_is)
    (case hdParcel => k_is)
    (case poParcel => k_is)
    (case saParcel => k_is)
    (case mkParcel => k_is)
    (case kcParcel => k_is)
    (case nParcel1 => k_is)
    (case nParcel2 => k_is)
    (case nParcel3 => k_is)
    (case aWall => k_is)
    (case pgWall => k_is)
    (case hdWall => k_is)
    (case poWall => k_is)
    (case saWall => k_is)
    (case mkWall => k_is)
    (case kcWall => k_is)
    (case nWall1 => k_is)
    (case nWall2 => k_is)
    (case nWall3 => k_is)
    (case nWall4 => k_is)
    (case aParcel___init__ => k_is)
    (case iParcel___init__ => k_is)
    (case lParcel___init__ => k_is)
    (case cParcel___init___ => k_is)
    (case kParcel___init__ => k_is)
    (case aWall___init__ => k_is)
    (case iWall___init__ => k_is)
    (case lWall___init__ => k_is)
    (case cWall___init___ => k_is)
    (case kWall___init__ => k_is)
    (case aWall_sizes => k_is)
    (case iWall_sizes => k_is)
    (case lWall_sizes => k_is)
    (case cWall_sizes_ => k_is)
    (case kWall_sizes => k_is)
    (case aWall_held => k_is)
    (case iWall_held => k_is)
    (case lWall_held => k_is)
    (case cWall_held_ => k_is)
    (case kWall_held => k_is)
    (case aWall_free => k_is)
    (case iWall_free => k_is)
    (case lWall_free => k_is)
    (case cWall_free_ => k_is)
    (case kWall_free => k_is)
    (case aWall_day => k_is)
    (case iWall_day => k_is)
    (case lWall_day => k_is)
    (case cWall_day_ => k_is)
    (case kWall_day => k_is)
    (case aWall_come => k_is)
    (case iWall_come => k_is)
    (case lWall_come => k_is)
    (case cWall_come_ => k_is)
    (case kWall_come => k_is)
    (case aWall_fetch => k_is)
    (case iWall_fetch => k_is)
    (case lWall_fetch => k_is)
    (case cWall_fetch_ => k_is)
    (case kWall_fetch => k_is)
    (case aWall_size_of => k_is)
    (case iWall_size_of => k_is)
    (case lWall_size_of => k_is)
    (case cWall_size_of_ => k_is)
    (case kWall_size_of => k_is)
    (case aWall_left => k_is)
    (case iWall_left => k_is)
    (case lWall_left => k_is)
    (case cWall_left_ => k_is)
    (case kWall_left => k_is)
    (case aWall_move => k_is)
    (case iWall_move => k_is)
    (case lWall_move => k_is)
    (case cWall_move_ => k_is)
    (case kWall_move => k_is)
    (case aWall_boxes_for => k_is)
    (case iWall_boxes_for => k_is)
    (case lWall_boxes_for => k_is)
    (case cWall_boxes_for_ => k_is)
    (case kWall_boxes_for => k_is)
    (case aWall_least_box => k_is)
    (case iWall_least_box => k_is)
    (case lWall_least_box => k_is)
    (case cWall_least_box_ => k_is)
    (case kWall_least_box => k_is)
    (case aWall_box_of => k_is)
    (case iWall_box_of => k_is)
    (case lWall_box_of => k_is)
    (case cWall_box_of_ => k_is)
    (case kWall_box_of => k_is)
    (case ain_bounds => k_is)
    (case lin_bounds => k_is)
    (case cin_bounds_ => k_is)
    (case kin_bounds => k_is)
    (case acheck_wall => k_is)
    (case lcheck_wall => k_is)
    (case ccheck_wall_ => k_is)
    (case kcheck_wall => k_is)
    (case acheck_size => k_is)
    (case lcheck_size => k_is)
    (case ccheck_size_ => k_is)
    (case kcheck_size => k_is)
    (case acheck_nights => k_is)
    (case lcheck_nights => k_is)
    (case ccheck_nights_ => k_is)
    (case kcheck_nights => k_is)
    (case acheck_both => k_is)
    (case lcheck_both => k_is)
    (case ccheck_both_ => k_is)
    (case kcheck_both => k_is)
    (case aplaces_by_size => k_is)
    (case lplaces_by_size => k_is)
    (case cplaces_by_size_ => k_is)
    (case kplaces_by_size => k_is)
    (case afit => k_is)
    (case lfit => k_is)
    (case cfit_ => k_is)
    (case kfit => k_is)
    (case aroom_for => k_is)
    (case lroom_for => k_is)
    (case croom_for_ => k_is)
    (case kroom_for => k_is)
    (case afewest_moves => k_is)
    (case lfewest_moves => k_is)
    (case cfewest_moves_ => k_is)
    (case kfewest_moves => k_is)
    (case a_law_drawn => k_is)
    (case l_law_drawn => k_is)
    (case c_law_drawn_ => k_is)
    (case k_law_drawn => k_is)
    (case a_law_whole => k_is)
    (case l_law_whole => k_is)
    (case c_law_whole_ => k_is)
    (case k_law_whole => k_is)
    (case a_law_row => k_is)
    (case l_law_row => k_is)
    (case c_law_row_ => k_is)
    (case k_law_row => k_is)
    (case a_law_sizes_by => k_is)
    (case l_law_sizes_by => k_is)
    (case c_law_sizes_by_ => k_is)
    (case k_law_sizes_by => k_is)
    (case a_law_held => k_is)
    (case l_law_held => k_is)
    (case c_law_held_ => k_is)
    (case k_law_held => k_is)
    (case a_law_stands => k_is)
    (case l_law_stands => k_is)
    (case c_law_stands_ => k_is)
    (case k_law_stands => k_is)
    (case a_law_filled_by => k_is)
    (case l_law_filled_by => k_is)
    (case c_law_filled_by_ => k_is)
    (case k_law_filled_by => k_is)
    (case a_law_side_of => k_is)
    (case l_law_side_of => k_is)
    (case c_law_side_of_ => k_is)
    (case k_law_side_of => k_is)
    (case a_law_many => k_is)
    (case l_law_many => k_is)
    (case c_law_many_ => k_is)
    (case k_law_many => k_is)
    (case a_law_moved => k_is)
    (case l_law_moved => k_is)
    (case c_law_moved_ => k_is)
    (case k_law_moved => k_is)
    (case alaw => k_is)
    (case llaw => k_is)
    (case claw_ => k_is)
    (case klaw => k_is)
    (case aWallError => k_is)
    (case xWallError => k_is)
    (case yWallError => kernel_rfl)
    (case aNoWall => k_is)
    (case xNoWall => k_is)
    (case yNoWall => kernel_rfl)
    (case aNoSize => k_is)
    (case xNoSize => k_is)
    (case yNoSize => kernel_rfl)
    (case aNoNights => k_is)
    (case xNoNights => k_is)
    (case yNoNights => kernel_rfl)
    (case aNoBox => k_is)
    (case xNoBox => k_is)
    (case yNoBox => kernel_rfl)
    (case aNoParcel => k_is)
    (case xNoParcel => k_is)
    (case yNoParcel => kernel_rfl)
    (case aMOST_BOXES => k_is)
    (case aLEAST => k_is)
    (case aGREATEST => k_is)
    (case zlen => k_is)
    (case zrange => k_is)
    (case zlist => k_is)
    (case zmin => k_is)
    (case zmax => k_is)
    (case zisinstance => k_is)
    (case zint => k_is)
    (case zbool => k_is)
    (case zenumerate => k_is)
    (case zsorted => k_is)
    (case ztuple => k_is)
    (case zreversed => k_is)
    (case kit_int_int => kernel_rfl)
    (case kit_int_bool => kernel_rfl)
    (case kit_list_list => kernel_rfl)
    (case kit_tuple_tuple => kernel_rfl)
    (case eC => exact rfl)
    (case hC => kernel_rfl)
    (case hKT => kernel_rfl)
