import PyProof.Rows.All
import Wide.All
import OpenK.AllK
import Wide.FinOn
import Lean
import PyProof.EqAt
import PyProof.EqKinds
import PyProof.TupleCall
import KE.KSortTup
import PySem.Challenge.RW_parcelwall_k12_logs_done_again
set_option Elab.async false
set_option linter.all false
/-! what is there, taken apart without a matcher -/
namespace L2
theorem ob1_2 {α0 : Sort _} {A0 A1 : α0 → Prop} {G : Prop} (h : ∃ x0, A0 x0 ∧ A1 x0) (k : ∀ x0, A0 x0 → A1 x0 → G) : G := h.elim fun x0 h => k x0 h.1 h.2
theorem ob2_2 {α0 α1 : Sort _} {A0 A1 : α0 → α1 → Prop} {G : Prop} (h : ∃ x0 x1, A0 x0 x1 ∧ A1 x0 x1) (k : ∀ x0 x1, A0 x0 x1 → A1 x0 x1 → G) : G := h.elim fun x0 h => h.elim fun x1 h => k x0 x1 h.1 h.2
theorem ob2_3 {α0 α1 : Sort _} {A0 A1 A2 : α0 → α1 → Prop} {G : Prop} (h : ∃ x0 x1, A0 x0 x1 ∧ A1 x0 x1 ∧ A2 x0 x1) (k : ∀ x0 x1, A0 x0 x1 → A1 x0 x1 → A2 x0 x1 → G) : G := h.elim fun x0 h => h.elim fun x1 h => k x0 x1 h.1 h.2.1 h.2.2
end L2

set_option Elab.async false
set_option linter.all false
set_option maxRecDepth 100000
/-! THE HAND LAYER, for ints, bools, texts, own classes, LISTS and tuples (index, slices, in, append, pop ..), calls, loops. Paste it whole ahead of your own text; what your proof does not reach may be deleted. -/
namespace L2
open PySem PySem.Spec PyProof.Rows

/-- a key: an int or a str -/
abbrev Key := Sum Int Str
def keyIs : Key → Value → Bool
  | .inl k, v => Value.isInt k v
  | .inr x, v => Value.isStrOf x v
def keyH (w : World) : Key → Int
  | .inl k => hashInt k
  | .inr x => hashStr w x
theorem keyIs_shape : ∀ {k : Key} {v : Value}, keyIs k v = true → (∃ i t, k = Sum.inl i ∧ v = Value.int i t) ∨ (∃ x t, k = Sum.inr x ∧ v = Value.str x t)
  | .inl i, v, h => by
    obtain ⟨t, e⟩ := Value.isInt_shape (k := i) (v := v) h
    exact .inl ⟨i, t, rfl, e⟩
  | .inr x, v, h => by
    obtain ⟨t, e⟩ := Value.isStrOf_shape (x := x) (v := v) h
    exact .inr ⟨x, t, rfl, e⟩
theorem key_ll (a b : Int) : decide ((Sum.inl a : Key) = Sum.inl b) = (a == b) := by
  by_cases e : a = b
  · subst e; simp
  · have h : ¬ (Sum.inl a : Key) = Sum.inl b := fun q => e (Sum.inl.inj q)
    rw [decide_eq_false h]
    exact (beq_eq_false_iff_ne.mpr e).symm
theorem key_rr (a b : Str) : decide ((Sum.inr a : Key) = Sum.inr b) = decide (a = b) := by
  by_cases e : a = b
  · subst e; simp
  · have h : ¬ (Sum.inr a : Key) = Sum.inr b := fun q => e (Sum.inr.inj q)
    rw [decide_eq_false h, decide_eq_false e]
theorem key_lr (a : Int) (b : Str) : decide ((Sum.inl a : Key) = Sum.inr b) = false := decide_eq_false (fun q => nomatch q)
theorem key_rl (a : Str) (b : Int) : decide ((Sum.inr a : Key) = Sum.inl b) = false := decide_eq_false (fun q => nomatch q)

def mixKind (prog : Program) (w : World) : PySem.KeyKind prog w Key where
  is := keyIs
  hash := keyH w
  inj := fun v a b ha hb => by
    rcases keyIs_shape ha with ⟨i, t, rfl, rfl⟩ | ⟨x, t, rfl, rfl⟩
    · rcases keyIs_shape hb with ⟨j, u, rfl, e⟩ | ⟨y, u, rfl, e⟩
      · injection e with e1 _; rw [e1]
      · exact nomatch e
    · rcases keyIs_shape hb with ⟨j, u, rfl, e⟩ | ⟨y, u, rfl, e⟩
      · exact nomatch e
      · injection e with e1 _; rw [e1]
  byValue := fun k v h => by
    rcases keyIs_shape h with ⟨i, t, rfl, rfl⟩ | ⟨x, t, rfl, rfl⟩ <;> rfl
  pyHash := fun hv h => by
    rcases keyIs_shape hv with ⟨i, t, rfl, rfl⟩ | ⟨x, t, rfl, rfl⟩
    · exact wpAny_pyHash_int h
    · exact wpAny_pyHash_str h
  eqBool := fun hu hv h => by
    rcases keyIs_shape hu with ⟨i, t, rfl, rfl⟩ | ⟨x, t, rfl, rfl⟩
    · rcases keyIs_shape hv with ⟨j, u, rfl, rfl⟩ | ⟨y, u, rfl, rfl⟩
      · rw [key_ll] at h; exact wpAny_eqBool_int h
      · rw [key_lr] at h; exact SeqAt.EqAt.int_str i t y u _ _ _ _ h
    · rcases keyIs_shape hv with ⟨j, u, rfl, rfl⟩ | ⟨y, u, rfl, rfl⟩
      · rw [key_rl] at h; exact SeqAt.EqAt.str_int x t j u _ _ _ _ h
      · rw [key_rr] at h; exact wpAny_eqBool_str h
  «strs» := fun k x t v h => by
    rcases keyIs_shape h with ⟨i, u, rfl, e⟩ | ⟨y, u, rfl, e⟩
    · exact nomatch e
    · injection e with e1 _
      subst e1
      cases v <;> rfl

end L2

namespace L2
open PySem PySem.Spec PyProof.Rows

/-- a value, without the heap -/
inductive V where
  | non | bl (b : Bool) | int (i : Int) | str (x : Str) | byt (b : Array UInt8) | flt (b : UInt64) | ref (a : Addr) | ty (n : String)
  deriving DecidableEq

def RelV : V → Value → Prop
  | .non, u => u = Value.none
  | .bl b, u => u = Value.bool b
  | .int i, u => ∃ t, u = Value.int i t
  | .str x, u => ∃ t, u = Value.str x t
  | .byt b, u => ∃ t, u = Value.bytes b t
  | .flt b, u => ∃ t, u = Value.float b t
  | .ref a, u => u = Value.ref a
  | .ty n, u => u = Value.type n

abbrev Vals : List V → List Value → Prop := Paired RelV
theorem Vals.length {xs : List V} {us : List Value} (r : Vals xs us) : xs.length = us.length := Paired.length r
theorem Vals.get : ∀ {xs : List V} {us : List Value} {i : Nat} {x : V}, Vals xs us → xs[i]? = some x → ∃ u, us[i]? = some u ∧ RelV x u
  | _, _, _, _, .nil, e => by simp at e
  | _, _, 0, _, .cons r _, e => by simp at e; subst e; exact ⟨_, rfl, r⟩
  | _, _, i + 1, x, .cons _ t, e => by
    obtain ⟨u, h1, h2⟩ := Vals.get (i := i) (x := x) t (by simpa using e)
    exact ⟨u, by simpa using h1, h2⟩
theorem Vals.set {x : V} {u : Value} (r : RelV x u) : ∀ {xs : List V} {us : List Value} (i : Nat), Vals xs us → Vals (xs.set i x) (us.set i u)
  | _, _, _, .nil => .nil
  | _, _, 0, .cons _ t => .cons r t
  | _, _, i + 1, .cons q t => .cons q (Vals.set r i t)
theorem Vals.append : ∀ {xs ys : List V} {us ws : List Value}, Vals xs us → Vals ys ws → Vals (xs ++ ys) (us ++ ws)
  | _, _, _, _, .nil, s => s
  | _, _, _, _, .cons r t, s => .cons r (Vals.append t s)
theorem Vals.take : ∀ {xs : List V} {us : List Value} (n : Nat), Vals xs us → Vals (xs.take n) (us.take n)
  | _, _, 0, _ => .nil
  | _, _, _ + 1, .nil => .nil
  | _, _, n + 1, .cons r t => .cons r (Vals.take n t)
theorem Vals.drop : ∀ {xs : List V} {us : List Value} (n : Nat), Vals xs us → Vals (xs.drop n) (us.drop n)
  | _, _, 0, r => r
  | _, _, _ + 1, .nil => .nil
  | _, _, n + 1, .cons _ t => Vals.drop n t

def RelO : Option V → Option Value → Prop
  | some v, some u => RelV v u
  | none, none => True
  | _, _ => False
def KV {κ : Type} : List (κ × V) → List (κ × Value) → Prop := Paired fun (p : κ × V) (q : κ × Value) => p.1 = q.1 ∧ RelV p.2 q.2

/-- a key of a dict (00_mix): an int or a text -/
def kV : Key → V
  | .inl i => .int i
  | .inr x => .str x

/-- what stands at a tracked address -/
inductive HO where
  /-- a list -/
  | lst (xs : List V)
  /-- a tuple (never changes) -/
  | tup (xs : List V)
  /-- a dict whose keys are ints and texts; one whose keys are tuples of ints and texts (the empty one is both) -/
  | dK (kvs : List (Key × V)) | dT (kvs : List (List Key × V))
  /-- a set of ints: its members, its size -/
  | set (S : Int → Bool) (n : Nat)
  /-- an instance of the class at C, its dict at dx, its attributes -/
  | ins (C dx : Addr) (fs : List (Str × V))
  /-- the dict of the instance at x -/
  | own (x : Addr)
  /-- the dict of an exception -/
  | xd (fs : List (Str × V))
  /-- a bound method, f of x -/
  | met (f x : Addr)
  /-- a range object lo, lo + 1, .. below hi -/
  | rng (lo hi : Int)
  /-- a thing that is known to the object (the script; a dict while a loop walks it): read, never written while it is so -/
  | frz (o : Obj) (u : HO)
  /-- a code object's table -/
  | tbl (ps : Array Value)
  /-- any other thing, by what is true of its one object (a def of one's own: SetO a S n := HO.ext fun h => ..) -/
  | ext (φ : Heap → Prop)

abbrev Hp := Addr → Option HO
def upd (H : Hp) (a : Addr) (o : HO) : Hp := fun b => if b = a then some o else H b
theorem upd_same {H : Hp} {a : Addr} {o : HO} : upd H a o a = some o := by unfold upd; rw [if_pos rfl]
theorem upd_ne {H : Hp} {a b : Addr} {o : HO} (h : b ≠ a) : upd H a o b = H b := by unfold upd; rw [if_neg h]
theorem upd_upd {H : Hp} {a : Addr} {o u : HO} : upd (upd H a o) a u = upd H a u := by
  funext b; unfold upd; split <;> rfl
/-- two objects of different content stand apart -/
theorem ne_of {H : Hp} {a b : Addr} {o u : HO} (h : H a = some o) (h' : H b = some u) (d : o ≠ u) : a ≠ b := by
  intro e; subst e; rw [h] at h'; exact d (Option.some.inj h')
theorem ne_of_none {H : Hp} {a b : Addr} {o : HO} (h : H a = some o) (h' : H b = none) : a ≠ b := by
  intro e; subst e; rw [h] at h'; cases h'

section
variable (P : Program) (w : World)
def ObjOk (H : Hp) (h : Heap) (a : Addr) : HO → Prop
  | .lst xs => xs.length ≤ sizeLine ∧ ∃ (its : List Value) (n : Nat), Vals xs its ∧ h.get? a = some { cls := .type "list", data := .seq its.toArray n }
  | .tup xs => xs.length ≤ sizeLine ∧ ∃ its : List Value, Vals xs its ∧ IsTup h a its.toArray
  | .dK kvs => kvs.length ≤ sizeLine ∧ (a == sysModules) = false ∧ ∃ vs, KV kvs vs ∧ h.DictOf (mixKind P w) a vs
  | .dT kvs => kvs.length ≤ sizeLine ∧ (a == sysModules) = false ∧ ∃ xs : List (List Key × Addr × Value),
      Paired (fun (p : List Key × V) (q : List Key × Addr × Value) => p.1 = q.1 ∧ H q.2.1 = some (.tup (p.1.map kV)) ∧ RelV p.2 q.2.2) kvs xs ∧
      ∃ o es ep, h.get? a = some o ∧ o.ExactDict ∧ o.data = .dict es ep ∧ es.toList = xs.map (entryOfKey (tupleKind (mixKind P w))) ∧ (xs.map (·.1)).Nodup
  | .set S n => h.SetOf (intKind P w) a S n
  | .ins C dx fs => H dx = some (.own a) ∧ fs.length ≤ 1000 ∧ dx ≠ a ∧ h.get? a = some (PySem.W.instObj C dx) ∧
      ∃ mA, h.Ns1 dx mA ∧ (∀ f, RelO (fs.lookup f) (mA f)) ∧ PySem.Within mA (fs.map (·.1))
  | .own _ => ∃ o, h.get? a = some o
  | .xd fs => ∃ mA, h.Ns1 a mA ∧ ∀ f, RelO (fs.lookup f) (mA f)
  | .rng lo hi => ∃ t u v, h.get? a = some { cls := .type "range", data := .fields #[.int lo t, .int hi u, .int 1 v] }
  | .frz o u => h.get? a = some o ∧ ObjOk H h a u
  | .tbl ps => h.get? a = some { cls := .none, data := .fields ps }
  | .met f x => h.get? a = some (PySem.W.methodObj (.ref f) (.ref x))
  | .ext φ => φ h ∧ (∃ o, h.get? a = some o) ∧ ∀ h1 h2 : Heap, φ h1 → (∀ o, h1.get? a = some o → h2.get? a = some o) → φ h2
/-- the abstract heap is held -/
def HOk (H : Hp) (h : Heap) : Prop := ∀ a o, H a = some o → ObjOk P w H h a o
end

section
variable {P : Program} {w : World} {H H' : Hp} {h h' : Heap} {a : Addr} {o : HO}
theorem ObjOk.lt (x : ObjOk P w H h a o) : a < h.objs.size := by
  cases o with
  | lst xs => obtain ⟨_, _, _, _, e⟩ := x; exact Heap.lt_size e
  | tup xs => obtain ⟨_, _, _, p⟩ := x; exact p.lt
  | dK kvs => obtain ⟨_, _, _, _, o, _, _, e, _⟩ := x; exact Heap.lt_size e
  | dT kvs => obtain ⟨_, _, _, _, o, _, _, e, _⟩ := x; exact Heap.lt_size e
  | set S n => obtain ⟨o, _, _, _, e, _⟩ := x; exact Heap.lt_size e
  | ins C dx fs => obtain ⟨_, _, _, e, _⟩ := x; exact Heap.lt_size e
  | own y => obtain ⟨_, e⟩ := x; exact Heap.lt_size e
  | xd fs => obtain ⟨_, ⟨_, _, _, e, _⟩, _⟩ := x; exact Heap.lt_size e
  | rng lo hi => obtain ⟨_, _, _, e⟩ := x; exact Heap.lt_size e
  | frz ob u => obtain ⟨e, _⟩ := x; exact Heap.lt_size e
  | tbl ps => exact Heap.lt_size (show h.get? a = some _ from x)
  | met f y => exact Heap.lt_size (show h.get? a = some _ from x)
  | ext φ => obtain ⟨_, ⟨_, e⟩, _⟩ := x; exact Heap.lt_size e
theorem Paired.mapP {α β : Type} {F G : α → β → Prop} : ∀ {l₁ : List α} {l₂ : List β}, Paired F l₁ l₂ → (∀ a b, F a b → G a b) → Paired G l₁ l₂
  | _, _, .nil, _ => .nil
  | _, _, .cons r t, f => .cons (f _ _ r) (Paired.mapP t f)
/-- what an object's description leans on: its own object, its own dict, the tuples -/
theorem ObjOk.stay (x : ObjOk P w H h a o) (k : ∀ b u, (b = a ∨ H b = some (.own a)) → h.get? b = some u → h'.get? b = some u)
    (ho : ∀ b, H b = some (.own a) → H' b = some (.own a)) (ht : ∀ b xs, H b = some (.tup xs) → H' b = some (.tup xs)) : ObjOk P w H' h' a o := by
  induction o with
  | lst xs => obtain ⟨z, its, n, r, e⟩ := x; exact ⟨z, its, n, r, k _ _ (.inl rfl) e⟩
  | tup xs => obtain ⟨z, its, r, ob, e, c⟩ := x; exact ⟨z, its, r, ob, k _ _ (.inl rfl) e, c⟩
  | dK kvs => obtain ⟨z, y, vs, r, ob, es, ep, e, c⟩ := x; exact ⟨z, y, vs, r, ob, es, ep, k _ _ (.inl rfl) e, c⟩
  | dT kvs =>
    obtain ⟨z, y, xs, r, ob, es, ep, e, c⟩ := x
    exact ⟨z, y, xs, Paired.mapP r fun p q z => ⟨z.1, ht _ _ z.2.1, z.2.2⟩, ob, es, ep, k _ _ (.inl rfl) e, c⟩
  | set S n => obtain ⟨ob, es, ep, t, e, c⟩ := x; exact ⟨ob, es, ep, t, k _ _ (.inl rfl) e, c⟩
  | ins C dx fs =>
    obtain ⟨d, z, ne, e, mA, ⟨od, es, ep, e2, c⟩, r⟩ := x
    exact ⟨ho _ d, z, ne, k _ _ (.inl rfl) e, mA, ⟨od, es, ep, k _ _ (.inr d) e2, c⟩, r⟩
  | own y => obtain ⟨ob, e⟩ := x; exact ⟨ob, k _ _ (.inl rfl) e⟩
  | xd fs => obtain ⟨mA, ⟨od, es, ep, e, c⟩, r⟩ := x; exact ⟨mA, ⟨od, es, ep, k _ _ (.inl rfl) e, c⟩, r⟩
  | rng lo hi => obtain ⟨t, u, v, e⟩ := x; exact ⟨t, u, v, k _ _ (.inl rfl) e⟩
  | frz ob u ih => obtain ⟨e, q⟩ := x; exact ⟨k _ _ (.inl rfl) e, ih q⟩
  | tbl ps =>
    have e : h.get? a = some { cls := .none, data := .fields ps } := x
    show h'.get? a = some { cls := .none, data := .fields ps }
    exact k a _ (.inl rfl) e
  | met f y =>
    have e : h.get? a = some (PySem.W.methodObj (.ref f) (.ref y)) := x
    show h'.get? a = some (PySem.W.methodObj (.ref f) (.ref y))
    exact k a _ (.inl rfl) e
  | ext φ => obtain ⟨p, ⟨o, e⟩, st⟩ := x; exact ⟨st _ _ p fun o q => k _ _ (.inl rfl) q, ⟨o, k _ _ (.inl rfl) e⟩, st⟩
theorem HOk.lt (x : HOk P w H h) (e : H a = some o) : a < h.objs.size := (x a o e).lt
theorem HOk.fresh (x : HOk P w H h) (e : h.objs.size ≤ a) : H a = none := by
  cases q : H a with
  | none => rfl
  | some u => exact absurd (Nat.lt_of_lt_of_le (x.lt q) e) (Nat.lt_irrefl _)
/-- every object of the heap is kept -/
theorem HOk.kept (x : HOk P w H h) (k : ∀ b u, h.get? b = some u → h'.get? b = some u) : HOk P w H h' := fun a o e =>
  (x a o e).stay (fun b u _ q => k b u q) (fun _ q => q) fun _ _ q => q
/-- a new object is laid and tracked -/
theorem HOk.laid (x : HOk P w H h) (k : ∀ b u, h.get? b = some u → h'.get? b = some u) (hp : h.objs.size ≤ a) (new : ObjOk P w (upd H a o) h' a o) : HOk P w (upd H a o) h' := fun b u e => by
  have hn := x.fresh hp
  by_cases hb : b = a
  · subst hb; rw [upd_same] at e; cases e; exact new
  · rw [upd_ne hb] at e
    exact (x b u e).stay (fun c v _ q => k c v q) (fun c q => by rw [upd_ne (ne_of_none q hn)]; exact q) fun c xs q => by rw [upd_ne (ne_of_none q hn)]; exact q
end

/-- what may be read as u: it is u, or a known u -/
def Rd (H : Hp) (a : Addr) (u : HO) : Prop := H a = some u ∨ ∃ o, H a = some (.frz o u)
theorem Rd.ok {P : Program} {w : World} {H : Hp} {h : Heap} {a : Addr} {u : HO} (r : Rd H a u) (x : HOk P w H h) : ObjOk P w H h a u := by
  rcases r with r | ⟨o, r⟩
  · exact x a u r
  · obtain ⟨_, q⟩ := x a _ r
    exact q
/-- what may be written -/
def Mut : Option HO → Prop
  | some (.lst _) => True
  | some (.dK _) => True
  | some (.dT _) => True
  | some (.set _ _) => True
  | some (.ins _ _ _) => True
  | some (.ext _) => True
  | _ => False
section
variable {P : Program} {w : World} {H : Hp} {h h' : Heap} {x e : Addr} {o' : HO}
/-- the object at e is changed: x itself, or the dict of the instance x -/
theorem HOk.write (ok : HOk P w H h) (mu : Mut (H x)) (he : e = x ∨ H e = some (.own x)) (k : ∀ b u, b ≠ e → h.get? b = some u → h'.get? b = some u) (heo : ∃ u, h'.get? e = some u)
    (new : ObjOk P w (upd H x o') h' x o') : HOk P w (upd H x o') h' := fun b u q => by
  have nown : ∀ c y, H c = some (.own y) → c ≠ x := fun c y r z => by subst z; rw [r] at mu; exact mu
  have ntup : ∀ c xs, H c = some (.tup xs) → c ≠ x := fun c xs r z => by subst z; rw [r] at mu; exact mu
  by_cases hb : b = x
  · subst hb; rw [upd_same] at q; cases q; exact new
  · rw [upd_ne hb] at q
    by_cases hbe : b = e
    · have q' : H b = some (.own x) := by
        rcases he with z | z
        · exact absurd (hbe.trans z) hb
        · rw [hbe]; exact z
      rw [q] at q'; cases q'
      obtain ⟨v, hv⟩ := heo
      exact ⟨v, by rw [hbe]; exact hv⟩
    · refine (ok b u q).stay (fun c v hc r => k c v ?_ r) (fun c r => by rw [upd_ne (nown c b r)]; exact r) fun c xs r => by rw [upd_ne (ntup c xs r)]; exact r
      rcases hc with rfl | hc
      · exact hbe
      · rintro rfl
        rcases he with z | z
        · exact nown c b hc z
        · rw [hc] at z; cases z; exact hb rfl
end

/-! ### kept unless tracked; of the frames at fs (the callers') the slots may change (an exception that passes writes there); of the records at ex (iterators) nothing is said -/
structure Un (fs ex : List Addr) (H H' : Hp) (h h' : Heap) : Prop where
  keep : ∀ b o, h.get? b = some o → H b = none → b ∉ fs → b ∉ ex → h'.get? b = some o
  slot : ∀ b o, h.get? b = some o → H b = none → b ∈ fs → b ∉ ex → ∃ sl, h'.get? b = some { o with slots := sl }
  free : ∀ b o, h.get? b = some o → H b = none → b ∉ ex → H' b = none
  there : ∀ b o, h.get? b = some o → b ∉ ex → ∃ o', h'.get? b = some o'
  tups : ∀ b xs, H b = some (.tup xs) → H' b = some (.tup xs)
  frzs : ∀ b o u, H b = some (.frz o u) → H' b = some (.frz o u)
  tbls : ∀ b ps, H b = some (.tbl ps) → ∃ more, H' b = some (.tbl (ps ++ more))
section
variable {fs fs' ex ex' : List Addr} {H H1 H2 : Hp} {h h1 h2 h' : Heap} {a x e : Addr} {o : HO}
theorem Un.any (u : Un fs ex H H1 h h1) {b : Addr} {ob : Obj} (q : h.get? b = some ob) (n : H b = none) (hx : b ∉ ex) : ∃ sl, h1.get? b = some { ob with slots := sl } := by
  by_cases hb : b ∈ fs
  · exact u.slot b ob q n hb hx
  · exact ⟨ob.slots, u.keep b ob q n hb hx⟩
theorem Un.kept (k : ∀ b u, h.get? b = some u → h'.get? b = some u) : Un fs ex H H h h' :=
  ⟨fun b ob q _ _ _ => k b ob q, fun b ob q _ _ _ => ⟨ob.slots, k b ob q⟩, fun _ _ _ n _ => n, fun b ob q _ => ⟨ob, k b ob q⟩, fun _ _ q => q, fun _ _ _ q => q, fun _ ps q => ⟨#[], by rw [q]; simp⟩⟩
theorem Un.refl : Un fs ex H H h h := Un.kept fun _ _ q => q
theorem Un.laid (k : ∀ b u, h.get? b = some u → h'.get? b = some u) (hp : h.objs.size ≤ a) (hn : H a = none) : Un fs ex H (upd H a o) h h' where
  keep := fun b u q _ _ _ => k b u q
  slot := fun b u q _ _ _ => ⟨u.slots, k b u q⟩
  free := fun b u q n _ => by rw [upd_ne (Nat.ne_of_lt (Nat.lt_of_lt_of_le (Heap.lt_size q) hp))]; exact n
  there := fun b u q _ => ⟨u, k b u q⟩
  tups := fun b xs q => by rw [upd_ne (ne_of_none q hn)]; exact q
  frzs := fun b u xs q => by rw [upd_ne (ne_of_none q hn)]; exact q
  tbls := fun b ps q => ⟨#[], by rw [upd_ne (ne_of_none q hn), q]; simp⟩
theorem Un.write (mu : Mut (H x)) (he : e = x ∨ H e = some (.own x)) (k : ∀ b u, b ≠ e → h.get? b = some u → h'.get? b = some u) (heo : ∃ u, h'.get? e = some u) : Un fs ex H (upd H x o) h h' := by
  have hx : ∀ b, H b = none → b ≠ x := fun b n z => by subst z; rw [n] at mu; exact mu
  have hb : ∀ b, H b = none → b ≠ e := fun b n z => by
    subst z
    rcases he with r | r
    · exact hx b n r
    · rw [n] at r; cases r
  have hm : ∀ b u, H b = some u → ¬ Mut (some u) → b ≠ x := fun b u q nm z => by subst z; rw [q] at mu; exact nm mu
  refine ⟨fun b u q n _ _ => k b u (hb b n) q, fun b u q n _ _ => ⟨u.slots, k b u (hb b n) q⟩, fun b u q n _ => by rw [upd_ne (hx b n)]; exact n, fun b u q _ => ?_,
    fun b xs q => by rw [upd_ne (hm b _ q fun z => z)]; exact q, fun b u xs q => by rw [upd_ne (hm b _ q fun z => z)]; exact q, fun b ps q => ⟨#[], by rw [upd_ne (hm b _ q fun z => z), q]; simp⟩⟩
  by_cases hbe : b = e
  · subst hbe; exact heo
  · exact ⟨u, k b u hbe q⟩
end

/-! ### the heap without what is tracked -/
def trk (h : Heap) (H : Hp) : List Addr := (List.range h.objs.size).filter fun a => (H a).isSome
def hidT (h : Heap) (H : Hp) : Heap := PySem.W.hideAll h (trk h H)
theorem hidT_size (h : Heap) (H : Hp) : (hidT h H).objs.size = h.objs.size := PySem.W.hideAll_size _ _
theorem hidT_get {h : Heap} {H : Hp} {b : Addr} {o : Obj} (e : h.get? b = some o) (n : H b = none) : (hidT h H).get? b = some o :=
  PySem.W.hideAll_get _ e fun hm => by
    have q : (H b).isSome = true := (List.mem_filter.mp hm).2
    rw [n] at q; simp at q
theorem of_hidT {h : Heap} {H : Hp} {b : Addr} {o : Obj} (e : (hidT h H).get? b = some o) : h.get? b = some o ∧ H b = none := by
  have e' : h.get? b = some o := PySem.W.of_hideAll (trk h H) e
  refine ⟨e', ?_⟩
  cases q : H b with
  | none => rfl
  | some x =>
    have hm : b ∈ trk h H := List.mem_filter.mpr ⟨List.mem_range.mpr (Heap.lt_size e'), by simp [q]⟩
    have z : (hidT h H).get? b = none := PySem.W.hideAll_none (trk h H) hm
    rw [z] at e; cases e

/-! ### OpenK's ledger, filled with every new object but one -/
end L2

namespace L2
open PySem PySem.Spec PyProof.Rows

/-- the module's facts, over the base: the heap at the law's entry without what is tracked there -/
structure Mod (K : PySem.W.Frag) (mg : Str → Option Value) (base : Heap) : Prop where
  kin : K.In base
  glob : base.Ns mainGlobals mg
  blt : ∃ mb, base.Ns builtinsNs mb ∧ ∀ x : Str, x ≠ "__name__" → mb x = bootBuiltins x
  nolimit : base.NoLimit

/-- the context: a def's body (or a comprehension's block) running. base: fixed through the whole law; s₀, H₀: the entry; outer: the frames whose slots others may change (a def's callers); stack: all frames that run;
   ex: iterators that were made ahead of the entry and are walked here (a comprehension's); fn: the names whose cells were made at the entry (a def: all; a comprehension's block: its own); calm: not within an except suite; pn: pins that every state bears; xe: what is wanted of an exception that leaves the code -/
structure Cx where
  prog : Program
  w : World
  K : PySem.W.Frag
  mg : Str → Option Value
  base : Heap
  A : Around
  N : List Str
  s₀ : Shared
  H₀ : Hp
  env : Env
  outer : List Env
  stack : List Env
  ex : List Addr
  fn : Str → Bool
  calm : Bool
  pn : List (Addr × Obj)
  xe : Value → Shared → Prop
/-- the callers' frames -/
def frs (l : List Env) : List Addr := l.filterMap (·.frame)
abbrev Cx.fs (X : Cx) : List Addr := frs X.outer

def Vis (sc : Scope) (x : Str) : Prop := sc.names.lookup x = some .local ∨ sc.names.lookup x = some .cell ∨ sc.names.lookup x = some .free
def Loc (sc : Scope) (x : Str) : Prop := sc.names.lookup x = some .local ∨ sc.names.lookup x = some .cell
def Look (env : Env) (h : Heap) (m : Str → Option Value) (x : Str) (u : Value) : Prop :=
  (env.kindOf x = some .local ∧ m x = some u) ∨ ((env.kindOf x = some .cell ∨ env.kindOf x = some .free) ∧ ∃ c, env.cells.lookup x = some c ∧ h.IsCell c (some u))

structure Cx.Ok (X : Cx) : Prop where
  mod : Mod X.K X.mg X.base
  kind : X.env.scope.kind = .function
  glob : X.env.globals = mainGlobals
  blt : X.env.builtins = builtinsNs
  above : X.s₀.heap.objs.size ≤ X.env.locals
  inj : ∀ x y c, X.env.cells.lookup x = some c → X.env.cells.lookup y = some c → x = y
  has : ∀ x, (X.env.kindOf x = some .cell ∨ X.env.kindOf x = some .free) → ∃ c, X.env.cells.lookup x = some c
  cab : ∀ x c, X.fn x = true → X.env.cells.lookup x = some c → X.s₀.heap.objs.size ≤ c
  hd : X.calm = true → X.A.handled = none
  frames : X.A.frames = some X.stack
  stk : X.stack = X.outer ∨ (X.stack = X.env :: X.outer ∧ X.env.frame = some X.env.locals)
  exf : ∀ b ∈ X.ex, b ≠ X.env.locals ∧ ∀ x c, X.env.cells.lookup x = some c → c ≠ b
  bs : ∀ b o, X.base.get? b = some o → X.s₀.heap.get? b = some o ∧ X.H₀ b = none
  bsz : X.base.objs.size ≤ X.s₀.heap.objs.size
  noex : ∀ b o, X.base.get? b = some o → b ∉ X.ex
  exfs : ∀ b ∈ X.ex, b ∉ X.fs
  funs : X.s₀.heap.FunFrames X.base X.outer
  frf : ∀ b ∈ X.fs, X.H₀ b = none

structure Inv (X : Cx) (pins : List (Addr × Obj)) (σ : List (Option V)) (H : Hp) (s : Shared) : Prop where
  ok : X.Ok
  os : s.os = X.s₀.os
  bare : AllBare s.gens
  base : Un X.fs X.ex X.H₀ H X.s₀.heap s.heap
  loc : ∃ m, s.heap.Ns X.env.locals m ∧ ∀ (i : Nat) (x : Str) (v : V), X.N[i]? = some x → σ[i]? = some (some v) → Vis X.env.scope x → ∃ u, RelV v u ∧ Look X.env s.heap m x u
  cell : ∀ x c, X.env.cells.lookup x = some c → ∃ v, s.heap.IsCell c v
  free : H X.env.locals = none
  freeC : ∀ x c, X.env.cells.lookup x = some c → H c = none
  pin : ∀ p ∈ X.pn ++ pins, s.heap.get? p.1 = some p.2 ∧ H p.1 = none ∧ p.1 ≠ X.env.locals ∧ p.1 ∉ X.fs ∧ ∀ v, p.2.data ≠ .cell v
  hok : HOk X.prog X.w H s.heap
  len : σ.length = X.N.length

section
variable {X : Cx} {pins : List (Addr × Obj)} {σ : List (Option V)} {H H' : Hp} {s : Shared} {h' : Heap}

theorem Cx.Ok.nofr (ok : X.Ok) {b : Addr} {o : Obj} (e : X.base.get? b = some o) : b ∉ X.fs := fun hb => by
  have := (ok.funs.mem hb).1
  rw [e] at this; cases this
theorem Inv.bs (I : Inv X pins σ H s) : ∀ b o, X.base.get? b = some o → s.heap.get? b = some o ∧ H b = none := fun b o e =>
  ⟨I.base.keep b o (I.ok.bs b o e).1 (I.ok.bs b o e).2 (I.ok.nofr e) (I.ok.noex b o e), I.base.free b o (I.ok.bs b o e).1 (I.ok.bs b o e).2 (I.ok.noex b o e)⟩
theorem Inv.bk (I : Inv X pins σ H s) : ∀ b o, X.base.get? b = some o → s.heap.get? b = some o := fun b o e => (I.bs b o e).1
theorem Inv.mod (I : Inv X pins σ H s) : Mod X.K X.mg X.base := I.ok.mod
theorem Inv.kIn (I : Inv X pins σ H s) : X.K.In s.heap := I.ok.mod.kin.keeps I.bk
theorem Inv.lt (I : Inv X pins σ H s) : X.env.locals < s.heap.objs.size := let ⟨_, hn, _⟩ := I.loc; hn.lt
theorem Inv.sz (I : Inv X pins σ H s) : X.s₀.heap.objs.size ≤ s.heap.objs.size := Nat.le_trans I.ok.above (Nat.le_of_lt I.lt)
theorem Inv.nofs (I : Inv X pins σ H s) {a : Addr} (h : s.heap.objs.size ≤ a) : a ∉ X.fs := fun hb => by
  obtain ⟨_, o, ho, _⟩ := I.ok.funs.mem hb
  exact absurd (Nat.lt_of_lt_of_le (Heap.lt_size ho) (Nat.le_trans I.sz h)) (Nat.lt_irrefl _)
theorem Inv.cne (I : Inv X pins σ H s) : ∀ x c, X.env.cells.lookup x = some c → c ≠ X.env.locals := fun x c e z => by
  obtain ⟨v, o, ho, hd⟩ := I.cell x c e
  obtain ⟨m, ⟨o', es, ep, ho', hd', _⟩, _⟩ := I.loc
  rw [z, ho'] at ho; cases ho; rw [hd'] at hd; cases hd
theorem Inv.funs (I : Inv X pins σ H s) : s.heap.FunFrames X.base X.outer := by
  have all : ∀ (l : List Env), (∀ b ∈ frs l, b ∈ X.fs) → X.s₀.heap.FunFrames X.base l → s.heap.FunFrames X.base l := by
    intro l
    induction l with
    | nil => intro _ _; trivial
    | cons env r ih =>
      intro hs hl
      obtain ⟨hk, ⟨L, o, hf, hn, ho, hd⟩, hr⟩ := hl
      have hL : L ∈ X.fs := hs L (by unfold frs; rw [List.filterMap_cons, hf]; exact List.mem_cons_self)
      obtain ⟨sl, e⟩ := I.base.slot L o ho (I.ok.frf L hL) hL fun z => I.ok.exfs L z hL
      exact ⟨hk, ⟨L, _, hf, hn, e, hd⟩, ih (fun b hb => hs b (by unfold frs; rw [List.filterMap_cons, hf]; exact List.mem_cons_of_mem _ hb)) hr⟩
  exact all X.outer (fun _ hb => hb) I.ok.funs

/-- the frames that run, for a call -/
theorem Inv.stack (I : Inv X pins σ H s) : s.heap.FunFrames X.base X.stack := by
  rcases I.ok.stk with e | ⟨e, hf⟩
  · rw [e]; exact I.funs
  · rw [e]
    obtain ⟨m, hn, _⟩ := I.loc
    refine .cons (by rw [I.ok.kind]; decide) hf hn ?_ I.funs
    exact Heap.get?_none_of_le (Nat.le_trans I.ok.bsz I.ok.above)
theorem Inv.stkSub (I : Inv X pins σ H s) : ∀ b ∈ frs X.stack, b ∈ X.env.locals :: X.fs := fun b hb => by
  rcases I.ok.stk with e | ⟨e, hf⟩
  · rw [e] at hb; exact List.mem_cons_of_mem _ hb
  · rw [e] at hb
    unfold frs at hb
    rw [List.filterMap_cons, hf] at hb
    exact hb
theorem Inv.stkFree (I : Inv X pins σ H s) : ∀ b ∈ frs X.stack, H b = none := fun b hb => by
  rcases List.mem_cons.mp (I.stkSub b hb) with e | hb
  · rw [e]; exact I.free
  · obtain ⟨_, o, ho, _⟩ := I.ok.funs.mem hb
    exact I.base.free b o ho (I.ok.frf b hb) fun z => I.ok.exfs b z hb

/-- THE STEP: the untracked objects but the frame and the records at ch are kept (the callers' frames up to slots), the frame's map is kept, the new abstract heap is held -/
theorem Inv.step {g' : Array GenState} {t' : Nat} {d' : Drawn} {ch : List Addr} (I : Inv X pins σ H s)
    (hch : ∀ b ∈ ch, (b ∈ X.ex ∨ X.s₀.heap.objs.size ≤ b) ∧ b ≠ X.env.locals ∧ (∀ x c, X.env.cells.lookup x = some c → c ≠ b) ∧ ∀ p ∈ X.pn ++ pins, p.1 ≠ b)
    (keep : ∀ b o, b ≠ X.env.locals → b ∉ X.fs → b ∉ ch → s.heap.get? b = some o → H b = none → h'.get? b = some o)
    (slot : ∀ b o, b ≠ X.env.locals → b ∈ X.fs → b ∉ ch → s.heap.get? b = some o → H b = none → ∃ sl, h'.get? b = some { o with slots := sl }) (free : ∀ b o, b ∉ ch → s.heap.get? b = some o → H b = none → H' b = none)
    (there : ∀ b o, b ∉ ch → s.heap.get? b = some o → ∃ o', h'.get? b = some o')
    (tups : ∀ b xs, H b = some (.tup xs) → H' b = some (.tup xs)) (frzs : ∀ b o u, H b = some (.frz o u) → H' b = some (.frz o u)) (tbls : ∀ b ps, H b = some (.tbl ps) → ∃ more, H' b = some (.tbl (ps ++ more)))
    (ns : ∀ m, s.heap.Ns X.env.locals m → h'.Ns X.env.locals m) (hok : HOk X.prog X.w H' h') (hg : AllBare g') :
    Inv X pins σ H' { s with heap := h', gens := g', drawn := d', toks := t' } := by
  have neL : ∀ b o, X.s₀.heap.get? b = some o → b ≠ X.env.locals := fun b o e => Nat.ne_of_lt (Nat.lt_of_lt_of_le (Heap.lt_size e) I.ok.above)
  have neC : ∀ b o, X.s₀.heap.get? b = some o → b ∉ X.ex → b ∉ ch := fun b o e hx hb => by
    rcases (hch b hb).1 with z | z
    · exact hx z
    · exact absurd (Nat.lt_of_lt_of_le (Heap.lt_size e) z) (Nat.lt_irrefl _)
  have cellK : ∀ x c, X.env.cells.lookup x = some c → ∀ v, s.heap.IsCell c v → h'.IsCell c v := fun x c e v ⟨o, ho, hd⟩ => by
    have nch : c ∉ ch := fun z => (hch c z).2.2.1 x c e rfl
    by_cases hc : c ∈ X.fs
    · obtain ⟨sl, q⟩ := slot c o (I.cne x c e) hc nch ho (I.freeC x c e)
      exact ⟨_, q, hd⟩
    · exact ⟨o, keep c o (I.cne x c e) hc nch ho (I.freeC x c e), hd⟩
  refine ⟨I.ok, I.os, hg, ⟨fun b o e n hb hx => ?_, fun b o e n hb hx => ?_, fun b o e n hx => ?_, fun b o e hx => ?_, fun b xs e => tups b xs (I.base.tups b xs e), fun b o xs e => frzs b o xs (I.base.frzs b o xs e), fun b ps e => ?_⟩, ?_, fun x c e => ?_, ?_, fun x c e => ?_, fun p hp => ?_, hok, I.len⟩
  · exact keep b o (neL b o e) hb (neC b o e hx) (I.base.keep b o e n hb hx) (I.base.free b o e n hx)
  · obtain ⟨sl, e1⟩ := I.base.slot b o e n hb hx
    obtain ⟨sl', e2⟩ := slot b _ (neL b o e) hb (neC b o e hx) e1 (I.base.free b o e n hx)
    exact ⟨sl', e2⟩
  · obtain ⟨o', e1⟩ := I.base.there b o e hx
    exact free b o' (neC b o e hx) e1 (I.base.free b o e n hx)
  · obtain ⟨o', e1⟩ := I.base.there b o e hx
    exact there b o' (neC b o e hx) e1
  · obtain ⟨m1, e1⟩ := I.base.tbls b ps e
    obtain ⟨m2, e2⟩ := tbls b _ e1
    exact ⟨m1 ++ m2, by rw [e2, Array.append_assoc]⟩
  · obtain ⟨m, hn, hl⟩ := I.loc
    refine ⟨m, ns m hn, fun i x v e1 e2 e3 => ?_⟩
    obtain ⟨u, r, l⟩ := hl i x v e1 e2 e3
    refine ⟨u, r, ?_⟩
    rcases l with l | ⟨k, c, e, z⟩
    · exact .inl l
    · exact .inr ⟨k, c, e, cellK x c e _ z⟩
  · obtain ⟨v, z⟩ := I.cell x c e
    exact ⟨v, cellK x c e v z⟩
  · obtain ⟨m, ⟨o, _, _, ho, _⟩, _⟩ := I.loc
    exact free _ o (fun z => (hch _ z).2.1 rfl) ho I.free
  · obtain ⟨v, o, ho, hd⟩ := I.cell x c e
    exact free c o (fun z => (hch c z).2.2.1 x c e rfl) ho (I.freeC x c e)
  · obtain ⟨e, n, ne, nf, d⟩ := I.pin p hp
    have nch : p.1 ∉ ch := fun z => (hch p.1 z).2.2.2 p hp rfl
    exact ⟨keep p.1 p.2 ne nf nch e n, free p.1 p.2 nch e n, ne, nf, d⟩
/-- .. where the frame's own object is kept too -/
theorem Inv.un {t' : Nat} (I : Inv X pins σ H s) (u : Un X.fs [] H H' s.heap h') (hok : HOk X.prog X.w H' h') : Inv X pins σ H' { s with heap := h', toks := t' } := by
  obtain ⟨m, ⟨o, es, ep, ho, r⟩, _⟩ := id I.loc
  obtain ⟨sl, hL⟩ := u.any ho I.free (by simp)
  exact I.step (g' := s.gens) (d' := s.drawn) (ch := []) (fun _ z => nomatch z) (fun b o _ hb _ e n => u.keep b o e n hb (by simp)) (fun b o _ hb _ e n => u.slot b o e n hb (by simp)) (fun b o _ e n => u.free b o e n (by simp)) (fun b o _ e => u.there b o e (by simp)) u.tups u.frzs u.tbls (fun m' hm => by
    obtain ⟨o', es', ep', ho', r'⟩ := hm
    rw [ho] at ho'; cases ho'
    exact ⟨_, es', ep', hL, r'⟩) hok I.bare
/-- behind a call (or a comprehension's block): the slots of this frame may have changed too, the records at ch may have turned -/
theorem Inv.call {g' : Array GenState} {t' : Nat} {d' : Drawn} {ch : List Addr} (I : Inv X pins σ H s) (u : Un (frs X.stack) ch H H' s.heap h') (hok : HOk X.prog X.w H' h') (hg : AllBare g')
    (hch : ∀ b ∈ ch, (b ∈ X.ex ∨ X.s₀.heap.objs.size ≤ b) ∧ b ≠ X.env.locals ∧ (∀ x c, X.env.cells.lookup x = some c → c ≠ b) ∧ ∀ p ∈ X.pn ++ pins, p.1 ≠ b) :
    Inv X pins σ H' { s with heap := h', gens := g', drawn := d', toks := t' } := by
  obtain ⟨m, ⟨o, es, ep, ho, r⟩, _⟩ := id I.loc
  obtain ⟨sl, hL⟩ := u.any ho I.free fun z => (hch _ z).2.1 rfl
  exact I.step (ch := ch) hch (fun b o hL hb hc e n => u.keep b o e n (fun z => (List.mem_cons.mp (I.stkSub b z)).elim hL hb) hc) (fun b o _ _ hc e n => u.any e n hc) (fun b o hc e n => u.free b o e n hc) (fun b o hc e => u.there b o e hc) u.tups u.frzs u.tbls (fun m' hm => by
    obtain ⟨o', es', ep', ho', r'⟩ := hm
    rw [ho] at ho'; cases ho'
    exact ⟨_, es', ep', hL, r'⟩) hok hg
/-- an untracked record of ours (an iterator) has turned -/
theorem Inv.turned {t' : Nat} {it : Addr} (I : Inv X pins σ H s) (k : ∀ b o, b ≠ it → s.heap.get? b = some o → h'.get? b = some o) (hn : H it = none) (hL : it ≠ X.env.locals)
    (h1 : it ∈ X.ex ∨ X.s₀.heap.objs.size ≤ it) (h2 : ∀ x c, X.env.cells.lookup x = some c → c ≠ it) (h3 : ∀ p ∈ X.pn ++ pins, p.1 ≠ it) : Inv X pins σ H { s with heap := h', toks := t' } := by
  have nit : ∀ b u, H b = some u → b ≠ it := fun b u e z => by rw [z, hn] at e; cases e
  refine I.step (g' := s.gens) (d' := s.drawn) (ch := [it]) (fun b hb => ?_) (fun b o _ _ hc e _ => k b o (fun z => hc (by simp [z])) e) (fun b o _ _ hc e _ => ⟨o.slots, k b o (fun z => hc (by simp [z])) e⟩) (fun _ _ _ _ n => n)
    (fun b o hc e => ⟨o, k b o (fun z => hc (by simp [z])) e⟩) (fun _ _ e => e) (fun _ _ _ e => e) (fun b ps e => ⟨#[], by rw [e]; simp⟩) (fun m hm => ?_) (fun b u e => ?_) I.bare
  · have e : b = it := by simpa using hb
    subst e
    exact ⟨h1, hL, h2, h3⟩
  · obtain ⟨o, es, ep, ho, r⟩ := hm
    exact ⟨o, es, ep, k _ o (Ne.symm hL) ho, r⟩
  · refine (I.hok b u e).stay (fun c v hc q => k c v ?_ q) (fun _ q => q) fun _ _ q => q
    rcases hc with z | z
    · rw [z]; exact nit b u e
    · exact nit c _ z
theorem Inv.tok (I : Inv X pins σ H s) (t : Nat) : Inv X pins σ H { s with toks := t } := I.un (h' := s.heap) (t' := t) Un.refl I.hok
/-- all objects kept -/
theorem Inv.kept {t' : Nat} (I : Inv X pins σ H s) (k : ∀ b u, s.heap.get? b = some u → h'.get? b = some u) : Inv X pins σ H { s with heap := h', toks := t' } := I.un (Un.kept k) (I.hok.kept k)
/-- a new object laid and tracked -/
theorem Inv.laid {a : Addr} {o : HO} {t' : Nat} (I : Inv X pins σ H s) (k : ∀ b u, s.heap.get? b = some u → h'.get? b = some u) (hp : s.heap.objs.size ≤ a) (new : ObjOk X.prog X.w (upd H a o) h' a o) :
    Inv X pins σ (upd H a o) { s with heap := h', toks := t' } := I.un (Un.laid k hp (I.hok.fresh hp)) (I.hok.laid k hp new)
/-- an object written -/
theorem Inv.write {x e : Addr} {o : HO} {t' : Nat} (I : Inv X pins σ H s) (mu : Mut (H x)) (he : e = x ∨ H e = some (.own x)) (k : ∀ b u, b ≠ e → s.heap.get? b = some u → h'.get? b = some u) (heo : ∃ u, h'.get? e = some u)
    (new : ObjOk X.prog X.w (upd H x o) h' x o) : Inv X pins σ (upd H x o) { s with heap := h', toks := t' } := I.un (Un.write mu he k heo) (I.hok.write mu he k heo new)
theorem Inv.pins_of {pins' : List (Addr × Obj)} (I : Inv X pins σ H s) (h : ∀ p ∈ pins', s.heap.get? p.1 = some p.2 ∧ H p.1 = none ∧ p.1 ≠ X.env.locals ∧ p.1 ∉ X.fs ∧ ∀ v, p.2.data ≠ .cell v) : Inv X pins' σ H s :=
  ⟨I.ok, I.os, I.bare, I.base, I.loc, I.cell, I.free, I.freeC, fun p hp => (List.mem_append.mp hp).elim (fun z => I.pin p (List.mem_append_left _ z)) (h p), I.hok, I.len⟩

theorem nodup_ix {N : List Str} (hN : N.Nodup) {i j : Nat} {x : Str} (a : N[i]? = some x) (b : N[j]? = some x) : i = j := by
  obtain ⟨h1, e1⟩ := List.getElem?_eq_some_iff.mp a
  obtain ⟨h2, e2⟩ := List.getElem?_eq_some_iff.mp b
  exact (List.getElem_inj hN).mp (e1.trans e2.symm)

/-- a name is stored; what changed -/
theorem store_ok2 {M : Model} {A : Around} {E : Value → Shared → Prop} {i : Nat} {x : Str} {v : V} {u : Value} {Q : Unit → Shared → Prop} (I : Inv X pins σ H s) (hN : X.N.Nodup) (hi : X.N[i]? = some x) (hx : Loc X.env.scope x) (r : RelV v u)
    (h : ∀ s', Inv X pins (σ.set i (some v)) H s' → (∃ a, Heap.SameBut a s.heap s'.heap ∧ (a = X.env.locals ∨ X.env.cells.lookup x = some a)) → Q () s') (hf : X.fn x = true ∨ X.env.scope.names.lookup x = some .local := by first | exact .inl rfl | exact .inr rfl | assumption) : wpAny M A (storeName X.env x u) Q E s := by
  obtain ⟨m, hn, hl⟩ := id I.loc
  have hcls : (X.env.scope.kind == .class || (X.env.scope.kind == .module && X.env.locals != X.env.globals)) = false := by rw [I.ok.kind]; rfl
  have hiσ : i < σ.length := by rw [I.len]; exact (List.getElem?_eq_some_iff.mp hi).1
  have cne := I.cne
  have tracked : ∀ {a : Addr} {h' : Heap}, (∃ o, s.heap.get? a = some o ∧ H a = none) → Heap.SameBut a s.heap h' → HOk X.prog X.w H h' := fun {a h'} ha hs b ob e => by
    obtain ⟨_, _, hfree⟩ := ha
    refine (I.hok b ob e).stay (fun c w' hc q => (hs.2 c ?_).trans q) (fun _ q => q) fun _ _ q => q
    rintro rfl
    rcases hc with rfl | hc
    · rw [hfree] at e; cases e
    · rw [hfree] at hc; cases hc
  rcases hx with hk | hk
  · refine wpAny_storeName_local hk hn (fun h' hn' hs => ?_) hcls
    obtain ⟨oL, _, _, hoL, _⟩ := id hn
    refine h _ ⟨I.ok, I.os, I.bare, ⟨fun b o e n hb hx => ?_, fun b o e n hb hx => ?_, I.base.free, fun b o e hx => ?_, I.base.tups, I.base.frzs, I.base.tbls⟩, ⟨_, hn', fun j y v' e1 e2 e3 => ?_⟩, fun y c e => ?_, I.free, I.freeC, fun p hp => ?_, tracked ⟨oL, hoL, I.free⟩ hs, by simpa using I.len⟩ ⟨_, hs, .inl rfl⟩
    · exact (hs.2 b (Nat.ne_of_lt (Nat.lt_of_lt_of_le (Heap.lt_size e) I.ok.above))).trans (I.base.keep b o e n hb hx)
    · obtain ⟨sl, e1⟩ := I.base.slot b o e n hb hx
      exact ⟨sl, (hs.2 b (Nat.ne_of_lt (Nat.lt_of_lt_of_le (Heap.lt_size e) I.ok.above))).trans e1⟩
    · obtain ⟨o', e1⟩ := I.base.there b o e hx
      exact ⟨o', (hs.2 b (Nat.ne_of_lt (Nat.lt_of_lt_of_le (Heap.lt_size e) I.ok.above))).trans e1⟩
    · by_cases hj : j = i
      · subst hj
        rw [hi] at e1; cases e1
        rw [List.getElem?_set_self hiσ] at e2
        cases e2
        exact ⟨u, r, .inl ⟨hk, by simp⟩⟩
      · rw [List.getElem?_set_ne (Ne.symm hj)] at e2
        obtain ⟨u', r', q⟩ := hl j y v' e1 e2 e3
        refine ⟨u', r', ?_⟩
        rcases q with ⟨k, e⟩ | ⟨k, c, e, z⟩
        · refine .inl ⟨k, ?_⟩
          have : y ≠ x := fun e => hj (nodup_ix hN e1 (e ▸ hi))
          simp [this, e]
        · exact .inr ⟨k, c, e, z.sameBut hs (cne y c e)⟩
    · obtain ⟨w', z⟩ := I.cell y c e
      exact ⟨w', z.sameBut hs (cne y c e)⟩
    · obtain ⟨e, n, ne, nf, d⟩ := I.pin p hp
      exact ⟨(hs.2 p.1 ne).trans e, n, ne, nf, d⟩
  · have hfn : X.fn x = true := by
      rcases hf with z | z
      · exact z
      · rw [z] at hk; cases hk
    obtain ⟨c, hc⟩ := I.ok.has x (.inl hk)
    obtain ⟨w', z⟩ := I.cell x c hc
    refine wpAny_storeName_cell I.ok.kind hk hc z (fun h' hc' hs => ?_)
    obtain ⟨oc, hoc, hocd⟩ := id z
    refine h { s with heap := h' } ⟨I.ok, I.os, I.bare, ⟨fun b o e n hb hx => ?_, fun b o e n hb hx => ?_, I.base.free, fun b o e hx => ?_, I.base.tups, I.base.frzs, I.base.tbls⟩, ⟨m, hn.sameBut hs (Ne.symm (cne x c hc)), fun j y v' e1 e2 e3 => ?_⟩, fun y c' e => ?_, I.free, I.freeC, fun p hp => ?_, tracked ⟨oc, hoc, I.freeC x c hc⟩ hs, by simpa using I.len⟩ ⟨c, hs, .inr hc⟩
    · exact (hs.2 b (Nat.ne_of_lt (Nat.lt_of_lt_of_le (Heap.lt_size e) (I.ok.cab x c hfn hc)))).trans (I.base.keep b o e n hb hx)
    · obtain ⟨sl, e1⟩ := I.base.slot b o e n hb hx
      exact ⟨sl, (hs.2 b (Nat.ne_of_lt (Nat.lt_of_lt_of_le (Heap.lt_size e) (I.ok.cab x c hfn hc)))).trans e1⟩
    · obtain ⟨o', e1⟩ := I.base.there b o e hx
      exact ⟨o', (hs.2 b (Nat.ne_of_lt (Nat.lt_of_lt_of_le (Heap.lt_size e) (I.ok.cab x c hfn hc)))).trans e1⟩
    · by_cases hj : j = i
      · subst hj
        rw [hi] at e1; cases e1
        rw [List.getElem?_set_self hiσ] at e2
        cases e2
        exact ⟨u, r, .inr ⟨.inl hk, c, hc, hc'⟩⟩
      · rw [List.getElem?_set_ne (Ne.symm hj)] at e2
        obtain ⟨u', r', q⟩ := hl j y v' e1 e2 e3
        refine ⟨u', r', ?_⟩
        rcases q with q | ⟨k, c', e, z'⟩
        · exact .inl q
        · refine .inr ⟨k, c', e, z'.sameBut hs ?_⟩
          rintro rfl
          exact hj (nodup_ix hN e1 (I.ok.inj _ _ _ e hc ▸ hi))
    · by_cases hcc : c' = c
      · subst hcc; exact ⟨_, hc'⟩
      · obtain ⟨w2, z2⟩ := I.cell y c' e
        exact ⟨w2, z2.sameBut hs hcc⟩
    · obtain ⟨e, n, ne, nf, d⟩ := I.pin p hp
      refine ⟨(hs.2 p.1 ?_).trans e, n, ne, nf, d⟩
      intro q
      rw [q, hoc] at e
      have q' : oc = p.2 := Option.some.inj e
      exact d w' (by rw [← q']; exact hocd)
theorem store_ok {M : Model} {A : Around} {E : Value → Shared → Prop} {i : Nat} {x : Str} {v : V} {u : Value} {Q : Unit → Shared → Prop} (I : Inv X pins σ H s) (hN : X.N.Nodup) (hi : X.N[i]? = some x) (hx : Loc X.env.scope x) (r : RelV v u)
    (h : ∀ s', Inv X pins (σ.set i (some v)) H s' → Q () s') (hf : X.fn x = true ∨ X.env.scope.names.lookup x = some .local := by first | exact .inl rfl | exact .inr rfl | assumption) : wpAny M A (storeName X.env x u) Q E s :=
  store_ok2 I hN hi hx r (fun s' I' _ => h s' I') hf
/-- behind a call or a block, the state as it is -/
theorem Inv.call' {s' : Shared} {ch : List Addr} (I : Inv X pins σ H s) (ho : s'.os = s.os) (u : Un (frs X.stack) ch H H' s.heap s'.heap) (hok : HOk X.prog X.w H' s'.heap) (hg : AllBare s'.gens)
    (hch : ∀ b ∈ ch, (b ∈ X.ex ∨ X.s₀.heap.objs.size ≤ b) ∧ b ≠ X.env.locals ∧ (∀ x c, X.env.cells.lookup x = some c → c ≠ b) ∧ ∀ p ∈ X.pn ++ pins, p.1 ≠ b) : Inv X pins σ H' s' := by
  obtain ⟨h', g', d', t', o'⟩ := s'
  have e : o' = s.os := ho
  subst e
  exact I.call (g' := g') (t' := t') (d' := d') u hok hg hch
end

/-! ### the judgements -/
/-- an exception: its class, its own dict's address (where it has one), the abstract heap behind it -/
abbrev XK := Value → Option Addr → Hp → Prop
abbrev St := List (Option V)
abbrev VK := V → Hp → Prop
/-- an expression's reading; a test's; an argument list's -/
abbrev TE := St → Hp → VK → Prop
abbrev TT := St → Hp → (Bool → Hp → Prop) → Prop
abbrev TA := St → Hp → (List V → Hp → Prop) → Prop
/-- what is wanted behind a statement -/
structure Ends where
  nx : St → Hp → Prop
  rt : VK
  bk : St → Hp → Prop := fun _ _ => False
  ct : St → Hp → Prop := fun _ _ => False
abbrev TS := Ends → St → Hp → Prop

def EP (X : Cx) (pins : List (Addr × Obj)) (σ : St) (Q : VK) (u : Value) (s' : Shared) : Prop := ∃ v H', Inv X pins σ H' s' ∧ RelV v u ∧ Q v H'
def TP (X : Cx) (pins : List (Addr × Obj)) (σ : St) (Q : Bool → Hp → Prop) (b : Bool) (s' : Shared) : Prop := ∃ H', Inv X pins σ H' s' ∧ Q b H'
def AP (X : Cx) (pins : List (Addr × Obj)) (σ : St) (Q : List V → Hp → Prop) (us : List Value) (s' : Shared) : Prop := ∃ vs H', Inv X pins σ H' s' ∧ Vals vs us ∧ Q vs H'
def SP (X : Cx) (pins : List (Addr × Obj)) (D : Ends) (f : Flow) (s' : Shared) : Prop :=
  match f with
  | .next => ∃ σ' H', Inv X pins σ' H' s' ∧ D.nx σ' H'
  | .brk => ∃ σ' H', Inv X pins σ' H' s' ∧ D.bk σ' H'
  | .cont => ∃ σ' H', Inv X pins σ' H' s' ∧ D.ct σ' H'
  | .ret u => ∃ v σ' H', Inv X pins σ' H' s' ∧ RelV v u ∧ D.rt v H'

def PE (X : Cx) (e : Expr) (t : TE) : Prop :=
  ∀ (pins : List (Addr × Obj)) (s : Shared) (σ : St) (H : Hp) (Q : VK), Inv X pins σ H s → t σ H Q → wpAny (model X.prog X.w) X.A (eval e X.env) (EP X pins σ Q) X.xe s
def PT (X : Cx) (e : Expr) (t : TT) : Prop :=
  ∀ (pins : List (Addr × Obj)) (s : Shared) (σ : St) (H : Hp) (Q : Bool → Hp → Prop), Inv X pins σ H s → t σ H Q → wpAny (model X.prog X.w) X.A (isTrue e X.env (eval e X.env)) (TP X pins σ Q) X.xe s
/-- a test whatever its 'whole' is (and, or) -/
def PW (X : Cx) (e : Expr) (t : TT) : Prop :=
  ∀ (whole : Sem Value) (pins : List (Addr × Obj)) (s : Shared) (σ : St) (H : Hp) (Q : Bool → Hp → Prop), Inv X pins σ H s → t σ H Q → wpAny (model X.prog X.w) X.A (isTrue e X.env whole) (TP X pins σ Q) X.xe s
theorem PW.pt {X : Cx} {e : Expr} {t : TT} (h : PW X e t) : PT X e t := h _
/-- an argument list (no star), from the left -/
def PA (X : Cx) (es : List Expr) (t : TA) : Prop :=
  ∀ (pos : Pos) (pins : List (Addr × Obj)) (s : Shared) (σ : St) (H : Hp) (Q : List V → Hp → Prop), Inv X pins σ H s → t σ H Q → wpAny (model X.prog X.w) X.A (spliced (backTo pos (starEach es X.env))) (AP X pins σ Q) X.xe s
def PS (X : Cx) (st : Stmt) (t : TS) : Prop :=
  ∀ (pins : List (Addr × Obj)) (s : Shared) (σ : St) (H : Hp) (D : Ends), Inv X pins σ H s → t D σ H → wpAny (model X.prog X.w) X.A (exec st X.env) (SP X pins D) X.xe s
def PSs (X : Cx) (st : List Stmt) (t : TS) : Prop :=
  ∀ (pins : List (Addr × Obj)) (s : Shared) (σ : St) (H : Hp) (D : Ends), Inv X pins σ H s → t D σ H → wpAny (model X.prog X.w) X.A (execs st X.env) (SP X pins D) X.xe s
/-- weaken the end -/
theorem thn {α : Type} {t : Sem α} {Q Q' : α → Shared → Prop} {M : Model} {A : Around} {E : Value → Shared → Prop} {s : Shared} (h : wpAny M A t Q E s) (hQ : ∀ a s, Q a s → Q' a s) : wpAny M A t Q' E s := wpAny_mono h hQ fun _ _ x => x
end L2

namespace L2
open PySem PySem.Spec PyProof.Rows
section
variable {X : Cx}

/-- two expressions in a row -/
theorem bin {a b : Expr} {ta tb : TE} (ha : PE X a ta) (hb : PE X b tb) {pins : List (Addr × Obj)} {s : Shared} {σ : St} {H : Hp} {R : V → V → Hp → Prop} (I : Inv X pins σ H s) (h : ta σ H fun x H1 => tb σ H1 fun y H2 => R x y H2)
    {α : Type} {Q : α → Shared → Prop} {f : Value → Value → Sem α}
    (hf : ∀ v u s2 x y H2, Inv X pins σ H2 s2 → RelV x v → RelV y u → R x y H2 → wpAny (model X.prog X.w) X.A (f v u) Q X.xe s2) :
    wpAny (model X.prog X.w) X.A (eval a X.env) (fun v s₁ => wpAny (model X.prog X.w) X.A (eval b X.env) (fun u s₂ => wpAny (model X.prog X.w) X.A (f v u) Q X.xe s₂) X.xe s₁) X.xe s := by
  refine thn (ha pins s σ H _ I h) fun v s1 hPz => ?_; obtain ⟨x, H1, I1, r1, q1⟩ := hPz
  refine thn (hb pins s1 σ H1 _ I1 q1) fun u s2 hPz => ?_; obtain ⟨y, H2, I2, r2, q2⟩ := hPz
  exact hf v u s2 x y H2 I2 r1 r2 q2

/-! ### names and constants -/
def tVar (i : Nat) : TE := fun σ H Q => ∃ v, σ[i]? = some (some v) ∧ Q v H
def tC (v : V) : TE := fun _ H Q => Q v H
theorem pe_var {i : Nat} {x : Str} {pos : Pos} (hN : X.N[i]? = some x) (hv : Vis X.env.scope x) (hd : (x == ("__debug__" : Str)) = false := by decide) (hcd : (x == ("__classdict__" : Str)) = false := by decide) : PE X (.Name x pos) (tVar i) := by
  intro pins s σ H Q I h
  obtain ⟨v, e, h⟩ := h
  obtain ⟨m, hn, hl⟩ := I.loc
  obtain ⟨u, r, l⟩ := hl i x v hN e hv
  have fin : EP X pins σ Q u s := ⟨v, H, I, r, h⟩
  rcases l with ⟨hk, hm⟩ | ⟨hk, c, hc, hcell⟩
  · exact wpAny_Name (wpAny_loadName_local I.ok.kind hk hn hm fin) hd
  · rcases hk with hk | hk
    · exact wpAny_Name (wpAny_loadName_cell I.ok.kind hk hc hcell fin) hd
    · exact wpAny_Name (wpAny_loadName_free I.ok.kind hk hc hcell fin hcd) hd
theorem pe_int {i j pos} : PE X (.Constant (.int i) j pos) (tC (.int i)) := fun _ _ _ H _ I h => wpAny_Constant_int ⟨.int i, H, I.tok _, ⟨_, rfl⟩, h⟩
theorem pe_bl {b j pos} : PE X (.Constant (.bool b) j pos) (tC (.bl b)) := fun _ _ _ H _ I h => Constant_bool ⟨.bl b, H, I, rfl, h⟩
theorem pe_non {j pos} : PE X (.Constant .none j pos) (tC .non) := fun _ _ _ H _ I h => Constant_none ⟨.non, H, I, rfl, h⟩
theorem pe_str {x j pos} : PE X (.Constant (.str x) j pos) (tC (.str x)) := fun _ _ _ H _ I h => Calls.Constant_str ⟨.str x, H, I.tok _, ⟨_, rfl⟩, h⟩

/-- a global name of the def -/
def Gl (X : Cx) (x : Str) : Prop := X.env.kindOf x = some .globalImplicit
theorem ld_glob {E : Value → Shared → Prop} {pins : List (Addr × Obj)} {s : Shared} {σ : St} {H : Hp} {x : Str} {u : Value} {pos : Pos} {Q : Value → Shared → Prop} (I : Inv X pins σ H s) (hg : Gl X x) (hm : X.mg x = some u) (h : Q u s)
    (hd : (x == ("__debug__" : Str)) = false := by decide) : wpAny (model X.prog X.w) X.A (eval (.Name x pos) X.env) Q E s :=
  Calls.Name_function_global I.ok.kind hg (Calls.loadGlobal_global (by rw [I.ok.glob]; exact I.mod.glob.keeps I.bk) hm h) hd
theorem ld_blt {E : Value → Shared → Prop} {pins : List (Addr × Obj)} {s : Shared} {σ : St} {H : Hp} {x : Str} {u : Value} {pos : Pos} {Q : Value → Shared → Prop} (I : Inv X pins σ H s) (hg : Gl X x) (hm : X.mg x = none) (hv : bootBuiltins x = some u) (h : Q u s)
    (hn : x ≠ "__name__" := by decide) (hd : (x == ("__debug__" : Str)) = false := by decide) : wpAny (model X.prog X.w) X.A (eval (.Name x pos) X.env) Q E s := by
  obtain ⟨mb, h1, h2⟩ := I.mod.blt
  exact Calls.Name_function_global I.ok.kind hg (Calls.loadGlobal_builtin (by rw [I.ok.glob]; exact I.mod.glob.keeps I.bk) hm (by rw [I.ok.blt]; exact h1.keeps I.bk) ((h2 x hn).trans hv) h) hd
/-- a module's constant, a class, a function, as a value -/
theorem pe_glob {x : Str} {v : V} {u : Value} {pos : Pos} (hg : Gl X x) (hm : X.mg x = some u) (r : RelV v u) (hd : (x == ("__debug__" : Str)) = false := by decide) : PE X (.Name x pos) (tC v) :=
  fun _ _ _ H _ I h => ld_glob I hg hm ⟨v, H, I, r, h⟩ hd
theorem pe_bltn {x : Str} {v : V} {u : Value} {pos : Pos} (hg : Gl X x) (hm : X.mg x = none) (hv : bootBuiltins x = some u) (r : RelV v u) (hn : x ≠ "__name__" := by decide) (hd : (x == ("__debug__" : Str)) = false := by decide) : PE X (.Name x pos) (tC v) :=
  fun _ _ _ H _ I h => ld_blt I hg hm hv ⟨v, H, I, r, h⟩ hn hd

/-! ### arithmetic -/
variable {a b : Expr} {ta tb : TE} {pos : Pos}

/-! ### comparisons -/
def PC (X : Cx) (op : CmpOp) (a b : Expr) (t : TE) : Prop :=
  ∀ (pins : List (Addr × Obj)) (s : Shared) (σ : St) (H : Hp) (Q : VK), Inv X pins σ H s → t σ H Q →
    wpAny (model X.prog X.w) X.A (eval a X.env) (fun v s₁ => wpAny (model X.prog X.w) X.A (eval b X.env) (fun u s₂ => wpAny (model X.prog X.w) X.A (compareOp op v u) (EP X pins σ Q) X.xe s₂) X.xe s₁) X.xe s
theorem nobehind (b : Expr) {op : CmpOp} (h : op ≠ .In) (h2 : op ≠ .NotIn) : behindInMarks op b = false := by
  have e1 : (op == CmpOp.In) = false := by cases op <;> first | rfl | exact absurd rfl h
  have e2 : (op == CmpOp.NotIn) = false := by cases op <;> first | rfl | exact absurd rfl h2
  cases b <;> simp [behindInMarks, e1, e2]
/-- is None -/
def tIsN (ta : TE) : TE := fun σ H Q => ta σ H fun x H1 => Q (.bl (decide (x = .non))) H1
def tNotN (ta : TE) : TE := fun σ H Q => ta σ H fun x H1 => Q (.bl (!decide (x = .non))) H1
theorem RelV.none_iff {x : V} {v : Value} (r : RelV x v) : (v == Value.none) = decide (x = .non) := by
  cases x with
  | non => cases r; rfl
  | bl _ => cases r; rfl
  | int _ => obtain ⟨t, rfl⟩ := r; rfl
  | str _ => obtain ⟨t, rfl⟩ := r; rfl
  | byt _ => obtain ⟨t, rfl⟩ := r; rfl
  | flt _ => obtain ⟨t, rfl⟩ := r; rfl
  | ref _ => cases r; rfl
  | ty _ => cases r; rfl
theorem pc_isN {j pos'} (ha : PE X a ta) : PC X .Is a (.Constant .none j pos') (tIsN ta) := by
  intro pins s σ H Q I h
  refine thn (ha pins s σ H _ I h) fun v s1 hPz => ?_; obtain ⟨x, H1, I1, r1, q1⟩ := hPz
  exact Constant_none (is_none_gen ⟨.bl _, H1, I1, by rw [r1.none_iff]; rfl, q1⟩)
theorem pc_notN {j pos'} (ha : PE X a ta) : PC X .IsNot a (.Constant .none j pos') (tNotN ta) := by
  intro pins s σ H Q I h
  refine thn (ha pins s σ H _ I h) fun v s1 hPz => ?_; obtain ⟨x, H1, I1, r1, q1⟩ := hPz
  exact Constant_none (isnot_none_gen ⟨.bl _, H1, I1, by rw [r1.none_iff]; rfl, q1⟩)
/-- a comparison as a value, as a test -/
def tB (t : TE) : TT := fun σ H Q => t σ H fun x H1 => ∃ c, x = .bl c ∧ Q c H1
theorem pt_cmp {op : CmpOp} {t : TE} (h : PC X op a b t) (h1 : behindInMarks op b = false := by first | exact nobehind _ (by decide) (by decide) | rfl) : PT X (.Compare a [op] [b] pos) (tB t) := by
  intro pins s σ H Q I hw
  refine wpAny_isTrue_Compare1 (thn (h pins s σ H _ I hw) fun v s1 h1 => thn h1 fun u s2 h2 => thn h2 fun c s3 hPz => ?_) h1; obtain ⟨x, H1, I1, r1, q1⟩ := hPz
  obtain ⟨d, rfl, q⟩ := q1
  cases r1
  exact wpAny_truthy_bool ⟨H1, I1, q⟩
/-- an expression whose value is a bool, as a test -/
theorem pt_val {e : Expr} {t : TE} (h : PE X e t) (he : ∀ whole, isTrue e X.env whole = (do let v ← whole; standAt e.pos; holding [v] (truthy v)) := by intro _; rfl) : PT X e (tB t) := by
  intro pins s σ H Q I hw
  refine isTrue_plain (thn (h pins s σ H _ I hw) fun v s1 hPz => ?_) (he _); obtain ⟨x, H1, I1, r1, q1⟩ := hPz
  obtain ⟨d, rfl, q⟩ := q1
  cases r1
  exact wpAny_truthy_bool ⟨H1, I1, q⟩

/-! ### and, or, not -/
variable {tA tB' : TT} {rest : List Expr}
def tAnd (t u : TT) : TT := fun σ H Q => t σ H fun c H1 => if c = true then u σ H1 Q else Q false H1
def tOr (t u : TT) : TT := fun σ H Q => t σ H fun c H1 => if c = true then Q true H1 else u σ H1 Q
def tNot (t : TT) : TT := fun σ H Q => t σ H fun c H1 => Q (!c) H1
theorem pw_and1 (ha : PT X a tA) : PW X (.BoolOp .And [a] pos) tA := by
  intro wh pins s σ H Q I h
  refine isTrue_and (thn (ha pins s σ H Q I h) fun c s1 e => ?_)
  cases c with
  | true => exact isTrue_and_nil e
  | false => exact e
theorem pw_or1 (ha : PT X a tA) : PW X (.BoolOp .Or [a] pos) tA := by
  intro wh pins s σ H Q I h
  refine isTrue_or (thn (ha pins s σ H Q I h) fun c s1 e => ?_)
  cases c with
  | false => exact isTrue_or_nil e
  | true => exact e
theorem pw_and (ha : PT X a tA) (hb : PW X (.BoolOp .And (b :: rest) pos) tB') : PW X (.BoolOp .And (a :: b :: rest) pos) (tAnd tA tB') := by
  intro wh pins s σ H Q I h
  refine isTrue_and (thn (ha pins s σ H _ I h) fun c s1 hPz => ?_); obtain ⟨H1, I1, q1⟩ := hPz
  cases c with
  | true => exact hb wh pins s1 σ H1 Q I1 q1
  | false => exact ⟨H1, I1, q1⟩
theorem pw_or (ha : PT X a tA) (hb : PW X (.BoolOp .Or (b :: rest) pos) tB') : PW X (.BoolOp .Or (a :: b :: rest) pos) (tOr tA tB') := by
  intro wh pins s σ H Q I h
  refine isTrue_or (thn (ha pins s σ H _ I h) fun c s1 hPz => ?_); obtain ⟨H1, I1, q1⟩ := hPz
  cases c with
  | true => exact ⟨H1, I1, q1⟩
  | false => exact hb wh pins s1 σ H1 Q I1 q1
theorem pt_not (ha : PT X a tA) : PT X (.UnaryOp .Not a pos) (tNot tA) := by
  intro pins s σ H Q I h
  exact isTrue_not (ha pins s σ H (fun c H1 => Q (!c) H1) I h)
/-- .. as values (bools) -/
def tAndV (ta tb : TE) : TE := fun σ H Q => ta σ H fun x H1 => ∃ c, x = .bl c ∧ if c = true then tb σ H1 Q else Q (.bl false) H1
def tNotV (ta : TE) : TE := fun σ H Q => ta σ H fun x H1 => ∃ c, x = .bl c ∧ Q (.bl (!c)) H1
theorem pe_one {op} {t : TE} (h : PE X a t) : PE X (.BoolOp op [a] pos) t := fun pins s σ H Q I hw => BoolOp_one (h pins s σ H Q I hw)
theorem pe_and (ha : PE X a ta) (hb : PE X (.BoolOp .And (b :: rest) pos) tb) : PE X (.BoolOp .And (a :: b :: rest) pos) (tAndV ta tb) := by
  intro pins s σ H Q I h
  refine BoolOp_and (thn (ha pins s σ H _ I h) fun v s1 hPz => ?_); obtain ⟨x, H1, I1, r1, q1⟩ := hPz
  obtain ⟨c, rfl, q1⟩ := q1
  cases r1
  refine wpAny_truthy_bool ?_
  cases c with
  | true => exact hb pins s1 σ H1 Q I1 q1
  | false => exact ⟨.bl false, H1, I1, rfl, q1⟩
theorem pe_not (ha : PE X a ta) : PE X (.UnaryOp .Not a pos) (tNotV ta) := by
  intro pins s σ H Q I h
  refine UnaryOp_ (thn (ha pins s σ H _ I h) fun v s1 hPz => ?_); obtain ⟨x, H1, I1, r1, q1⟩ := hPz
  obtain ⟨c, rfl, q1⟩ := q1
  cases r1
  exact not_of (wpAny_truthy_bool ⟨.bl (!c), H1, I1, rfl, q1⟩)
/-- a if t else b -/
def tIf (t : TT) (ta tb : TE) : TE := fun σ H Q => t σ H fun c H1 => if c = true then ta σ H1 Q else tb σ H1 Q
theorem pe_ifExp {c : Expr} (hc : PT X c tA) (ha : PE X a ta) (hb : PE X b tb) : PE X (.IfExp c a b pos) (tIf tA ta tb) := by
  intro pins s σ H Q I h
  refine wpAny_IfExp (thn (hc pins s σ H _ I h) fun d s1 hPz => ?_); obtain ⟨H1, I1, q1⟩ := hPz
  cases d with
  | true => exact ha pins s1 σ H1 Q I1 q1
  | false => exact hb pins s1 σ H1 Q I1 q1
end
end L2

namespace L2
open PySem PySem.Spec PyProof.Rows

/-! ### a list, a tuple that is read: tracked, frozen, or an object of the module -/
def SqL (K : PySem.W.Frag) (H : Hp) (a : Addr) (xs : List V) : Prop :=
  Rd H a (.lst xs) ∨
    ∃ (o : Obj) (its : Array Value) (n : Nat), K.lookup a = some o ∧ o.cls = .type "list" ∧ o.dict = none ∧ o.data = .seq its n ∧ its.size ≤ sizeLine ∧ Vals xs its.toList
def SqT (K : PySem.W.Frag) (H : Hp) (a : Addr) (xs : List V) : Prop :=
  Rd H a (.tup xs) ∨
    ∃ (o : Obj) (its : Array Value) (n : Nat), K.lookup a = some o ∧ o.cls = .type "tuple" ∧ o.data = .seq its n ∧ its.size ≤ sizeLine ∧ Vals xs its.toList
def absV : Value → Option V
  | .none => some .non
  | .bool b => some (.bl b)
  | .int i _ => some (.int i)
  | .str x _ => some (.str x)
  | .bytes b _ => some (.byt b)
  | .float b _ => some (.flt b)
  | .ref a => some (.ref a)
  | .type n => some (.ty n)
  | _ => none
theorem RelV.abs {x : V} {u : Value} (r : RelV x u) : absV u = some x := by
  cases x with
  | non => cases r; rfl
  | bl _ => cases r; rfl
  | int _ => obtain ⟨t, rfl⟩ := r; rfl
  | str _ => obtain ⟨t, rfl⟩ := r; rfl
  | byt _ => obtain ⟨t, rfl⟩ := r; rfl
  | flt _ => obtain ⟨t, rfl⟩ := r; rfl
  | ref _ => cases r; rfl
  | ty _ => cases r; rfl
theorem RelV.inj {x y : V} {u : Value} (r : RelV x u) (q : RelV y u) : x = y := Option.some.inj (r.abs.symm.trans q.abs)
theorem Vals.inj : ∀ {xs ys : List V} {us : List Value}, Vals xs us → Vals ys us → xs = ys
  | _, _, _, .nil, .nil => rfl
  | _, _, _, .cons r t, .cons r' t' => by rw [r.inj r', Vals.inj t t']
section
variable {X : Cx} {pins : List (Addr × Obj)} {σ : St} {H : Hp} {s : Shared} {a : Addr} {xs ys : List V}
theorem SqL.of {K : PySem.W.Frag} (h : H a = some (.lst xs)) : SqL K H a xs := .inl (.inl h)
theorem SqT.of {K : PySem.W.Frag} (h : H a = some (.tup xs)) : SqT K H a xs := .inl (.inl h)
theorem Inv.list (I : Inv X pins σ H s) (h : SqL X.K H a xs) : ∃ its : List Value, Vals xs its ∧ PlainL s.heap a its.toArray ∧ xs.length ≤ sizeLine := by
  rcases h with h | ⟨o, its, n, hk, hc, hd, hs, hz, r⟩
  · obtain ⟨z, its, n, r, e⟩ := h.ok I.hok
    exact ⟨its, r, ⟨_, n, e, rfl, rfl, rfl⟩, z⟩
  · refine ⟨its.toList, r, ⟨o, n, I.kIn a o hk, hc, hd, by simpa using hs⟩, ?_⟩
    have e := r.length
    simp only [Array.length_toList] at e
    (first | lia | omega)
theorem Inv.tuple (I : Inv X pins σ H s) (h : SqT X.K H a xs) : ∃ its : List Value, Vals xs its ∧ IsTup s.heap a its.toArray ∧ xs.length ≤ sizeLine := by
  rcases h with h | ⟨o, its, n, hk, hc, hs, hz, r⟩
  · obtain ⟨z, its, r, p⟩ := h.ok I.hok
    exact ⟨its, r, p, z⟩
  · refine ⟨its.toList, r, ⟨o, I.kIn a o hk, hc, n, by simpa using hs⟩, ?_⟩
    have e := r.length
    simp only [Array.length_toList] at e
    (first | lia | omega)
theorem Inv.list_inj (I : Inv X pins σ H s) (h : SqL X.K H a xs) (h' : SqL X.K H a ys) : xs = ys := by
  obtain ⟨its, r, ⟨o, n, e, _, _, d⟩, _⟩ := I.list h
  obtain ⟨its', r', ⟨o', n', e', _, _, d'⟩, _⟩ := I.list h'
  rw [e] at e'; cases e'
  rw [d] at d'
  injection d' with d1 _
  have : its = its' := by simpa using congrArg Array.toList d1
  subst this
  exact r.inj r'
end

/-! ### another wish about exceptions -/
abbrev Cx.wish (X : Cx) (E : Value → Shared → Prop) : Cx := { X with xe := E }
/-- no exception leaves -/
abbrev Cx.nox (X : Cx) : Cx := X.wish fun _ _ => False
theorem Cx.Ok.wish {X : Cx} (ok : X.Ok) (E : Value → Shared → Prop) : (X.wish E).Ok :=
  ⟨ok.mod, ok.kind, ok.glob, ok.blt, ok.above, ok.inj, ok.has, ok.cab, ok.hd, ok.frames, ok.stk, ok.exf, ok.bs, ok.bsz, ok.noex, ok.exfs, ok.funs, ok.frf⟩
theorem Cx.Ok.unwish {X : Cx} {E : Value → Shared → Prop} (ok : (X.wish E).Ok) : X.Ok :=
  ⟨ok.mod, ok.kind, ok.glob, ok.blt, ok.above, ok.inj, ok.has, ok.cab, ok.hd, ok.frames, ok.stk, ok.exf, ok.bs, ok.bsz, ok.noex, ok.exfs, ok.funs, ok.frf⟩
section
variable {X : Cx} {pins : List (Addr × Obj)} {σ : St} {H : Hp} {s : Shared} {E : Value → Shared → Prop}
theorem Inv.wish (I : Inv X pins σ H s) (E : Value → Shared → Prop) : Inv (X.wish E) pins σ H s := ⟨I.ok.wish E, I.os, I.bare, I.base, I.loc, I.cell, I.free, I.freeC, I.pin, I.hok, I.len⟩
theorem Inv.unwish (I : Inv (X.wish E) pins σ H s) : Inv X pins σ H s := ⟨I.ok.unwish, I.os, I.bare, I.base, I.loc, I.cell, I.free, I.freeC, I.pin, I.hok, I.len⟩
theorem SP.unwish {D : Ends} {f : Flow} {s' : Shared} (h : SP (X.wish E) pins D f s') : SP X pins D f s' := by
  cases f with
  | next => obtain ⟨σ', H', I, q⟩ := h; exact ⟨σ', H', I.unwish, q⟩
  | brk => obtain ⟨σ', H', I, q⟩ := h; exact ⟨σ', H', I.unwish, q⟩
  | cont => obtain ⟨σ', H', I, q⟩ := h; exact ⟨σ', H', I.unwish, q⟩
  | ret u => obtain ⟨v, σ', H', I, r, q⟩ := h; exact ⟨v, σ', H', I.unwish, r, q⟩
theorem PSs.nox {st : List Stmt} {t : TS} (h : PSs X.nox st t) : PSs X st t := fun pins s σ H D I hw =>
  wpAny_mono (h pins s σ H D (I.wish _) hw) (fun _ _ q => q.unwish) fun _ _ z => False.elim z
end

/-! ### blocks and small statements -/
section
variable {X : Cx} {st : Stmt} {rest : List Stmt} {t u : TS} {e : Expr} {te : TE} {pos : Pos}
def tNext : TS := fun D σ H => D.nx σ H
def tSeq (t u : TS) : TS := fun D σ H => t { D with nx := u D } σ H
theorem pss_nil : PSs X [] tNext := fun _ _ σ H _ I h => wpAny_execs_nil ⟨σ, H, I, h⟩
theorem pss_cons (h1 : PS X st t) (h2 : PSs X rest u) : PSs X (st :: rest) (tSeq t u) := by
  intro pins s σ H D I h
  refine wpAny_execs_cons (thn (h1 pins s σ H { D with nx := u D } I h) fun f s1 q => ?_)
  cases f with
  | next =>
    obtain ⟨σ', H', I', q⟩ := q
    exact h2 pins s1 σ' H' D I' q
  | ret v => exact q
  | brk => exact q
  | cont => exact q
theorem pss_one (h1 : PS X st t) : PSs X [st] t := by
  intro pins s σ H D I h
  refine wpAny_execs_cons (thn (h1 pins s σ H D I h) fun f s1 q => ?_)
  cases f with
  | next => exact wpAny_execs_nil q
  | ret v => exact q
  | brk => exact q
  | cont => exact q
/-- in a def's body nothing is shown -/
theorem Inv.quiet {pins : List (Addr × Obj)} {σ : St} {H : Hp} {s : Shared} (I : Inv X pins σ H s) : interactive X.env = false := by simp [interactive, I.ok.kind]
/-- an expression whose value is dropped -/
def tDrop (te : TE) : TS := fun D σ H => te σ H fun _ H1 => D.nx σ H1
theorem ps_expr (he : PE X e te) (hs : swapsWith e none pos.line X.env = pure false := by rfl) : PS X (.Expr e pos) (tDrop te) := by
  intro pins s σ H D I h
  exact wpAny_Expr_any (thn (he pins s σ H _ I h) fun v s1 hPy => ob2_3 hPy fun x H1 I1 r1 q1 => ⟨σ, H1, I1, q1⟩) I.quiet hs
def tRet (te : TE) : TS := fun D σ H => te σ H D.rt
theorem ps_ret (he : PE X e te) : PS X (.Return (some e) pos) (tRet te) := by
  intro pins s σ H D I h
  exact wpAny_Return_some (thn (he pins s σ H _ I h) fun v s1 hPy => ob2_3 hPy fun x H1 I1 r1 q1 => ⟨x, σ, H1, I1, r1, q1⟩)
def tIfS (c : TT) (t u : TS) : TS := fun D σ H => c σ H fun b H1 => if b = true then t D σ H1 else u D σ H1
theorem ps_if {c : Expr} {a b : List Stmt} {tc : TT} (hc : PT X c tc) (ha : PSs X a t) (hb : PSs X b u) : PS X (.If c a b pos) (tIfS tc t u) := by
  intro pins s σ H D I h
  refine wpAny_If (thn (hc pins s σ H _ I h) fun d s1 hPz => ?_); obtain ⟨H1, I1, q1⟩ := hPz
  cases d with
  | true => exact ha pins s1 σ H1 D I1 q1
  | false => exact hb pins s1 σ H1 D I1 q1
end

/-! ### targets -/
abbrev TG := V → St → Hp → (St → Hp → Prop) → Prop
abbrev TGs := List V → St → Hp → (St → Hp → Prop) → Prop
def PG (X : Cx) (target : Expr) (t : TG) : Prop :=
  ∀ (pins : List (Addr × Obj)) (s : Shared) (σ : St) (H : Hp) (v : V) (u : Value) (Q : St → Hp → Prop), Inv X pins σ H s → RelV v u → t v σ H Q →
    wpAny (model X.prog X.w) X.A (assign target X.env u) (fun _ s' => ∃ σ' H', Inv X pins σ' H' s' ∧ Q σ' H') X.xe s
/-- several targets, one after another -/
def PGs (X : Cx) (ts : List Expr) (t : TGs) : Prop :=
  ∀ (pins : List (Addr × Obj)) (s : Shared) (σ : St) (H : Hp) (vs : List V) (us : List Value) (Q : St → Hp → Prop), Inv X pins σ H s → Vals vs us → t vs σ H Q →
    wpAny (model X.prog X.w) X.A (assignInOrder ((assignEach ts X.env).map (·.2)) us) (fun _ s' => ∃ σ' H', Inv X pins σ' H' s' ∧ Q σ' H') X.xe s
/-- o[i] = v, by values -/
abbrev TSet := V → V → V → Hp → (Hp → Prop) → Prop
def PSet (X : Cx) (t : TSet) : Prop :=
  ∀ (pins : List (Addr × Obj)) (s : Shared) (σ : St) (H : Hp) (o i v : V) (ov iv u : Value) (Q : Hp → Prop), Inv X pins σ H s → RelV o ov → RelV i iv → RelV v u → t o i v H Q →
    wpAny (model X.prog X.w) X.A (setItem ov iv u) (fun _ s' => ∃ H', Inv X pins σ H' s' ∧ Q H') X.xe s
section
variable {X : Cx} {pos : Pos}
def gName (i : Nat) : TG := fun v σ H Q => Q (σ.set i (some v)) H
theorem pg_name {i : Nat} {x : Str} (hN : X.N.Nodup) (hi : X.N[i]? = some x) (hx : Loc X.env.scope x) (hf : X.fn x = true ∨ X.env.scope.names.lookup x = some .local := by first | exact .inl rfl | exact .inr rfl | assumption) : PG X (.Name x pos) (gName i) := by
  intro pins s σ H v u Q I r h
  exact wpAny_assign_Name (store_ok I hN hi hx r (fun s' I' => ⟨_, H, I', h⟩) hf)
def gNil : TGs := fun vs σ H Q => vs = [] ∧ Q σ H
def gCons (t : TG) (u : TGs) : TGs := fun vs σ H Q => ∃ v r, vs = v :: r ∧ t v σ H fun σ' H' => u r σ' H' Q
theorem pgs_nil : PGs X [] gNil := by
  intro pins s σ H vs us Q I r h
  obtain ⟨e, h⟩ := h
  subst e
  cases r
  exact assignInOrder_nil ⟨σ, H, I, h⟩
theorem pgs_cons {e : Expr} {es : List Expr} {t : TG} {u : TGs} (h1 : PG X e t) (h2 : PGs X es u)
    (hs : (assignEach (e :: es) X.env).map (·.2) = assign e X.env :: (assignEach es X.env).map (·.2) := by rfl) : PGs X (e :: es) (gCons t u) := by
  intro pins s σ H vs us Q I r h
  obtain ⟨v, vr, e1, h⟩ := h
  subst e1
  cases r with
  | cons r rr =>
    rw [hs]
    refine assignInOrder_cons (thn (h1 pins s σ H _ _ _ I r h) fun _ s1 hPz => ?_); obtain ⟨σ1, H1, I1, q1⟩ := hPz
    exact h2 pins s1 σ1 H1 _ _ Q I1 rr q1
/-- (a, b, ..) = a tuple of that length -/
def gTup (K : PySem.W.Frag) (n : Nat) (t : TGs) : TG := fun v σ H Q => ∃ a xs, v = .ref a ∧ SqT K H a xs ∧ xs.length = n ∧ t xs σ H Q
theorem pg_tup {es : List Expr} {k : Nat} {t : TGs} {n : Nat} (hc : X.calm = true) (h : PGs X es t)
    (hn : (assignEach es X.env).length = n := by rfl) (hst : (assignEach es X.env).findIdx? (·.1) = none := by rfl) : PG X (.Tuple es k pos) (gTup X.K n t) := by
  intro pins s σ H v u Q I r hw
  obtain ⟨a, xs, e1, hq, hl, hw⟩ := hw
  subst e1
  cases r
  obtain ⟨its, rv, ht, hz⟩ := I.tuple hq
  refine assign_Tuple_tuple (I.ok.hd hc) ht (by simp [hn, ← hl, rv.length]) hst fun h' hx => ?_
  have I1 : Inv X pins σ H { s with heap := h' } := I.kept (t' := s.toks) fun b o e => hx b o (Nat.ne_of_lt (Heap.lt_size e)) e
  exact h pins _ σ H xs _ Q I1 (by simpa using rv) hw
/-- o[i] = .. -/
def gSub (to ti : TE) (t : TSet) : TG := fun v σ H Q => to σ H fun o H1 => ti σ H1 fun i H2 => t o i v H2 fun H3 => Q σ H3
theorem pg_sub {o i : Expr} {to ti : TE} {t : TSet} (ho : PE X o to) (hi : PE X i ti) (hs : PSet X t)
    (ha : ∀ v, assign (.Subscript o i pos) X.env v = (do
      let ov ← holding [v] (eval o X.env)
      let iv ← holding [v, ov] (eval i X.env)
      standAt pos
      holding [v, ov, iv] (setItem ov iv v)
      release [v, ov, iv] []) := by intro _; rfl) : PG X (.Subscript o i pos) (gSub to ti t) := by
  intro pins s σ H v u Q I r h
  rw [ha]
  refine wpAny_bind (wpAny_holding (thn (ho pins s σ H _ I h) fun ov s1 hPz => ?_)); obtain ⟨x, H1, I1, r1, q1⟩ := hPz
  refine wpAny_bind (wpAny_holding (thn (hi pins s1 σ H1 _ I1 q1) fun iv s2 hPz => ?_)); obtain ⟨y, H2, I2, r2, q2⟩ := hPz
  refine wpAny_bind (wpAny_standAt (wpAny_bind (wpAny_holding (thn (hs pins s2 σ H2 x y v ov iv u _ I2 r1 r2 r q2) fun _ s3 hPz => ?_)))); obtain ⟨H3, I3, q3⟩ := hPz
  exact wpAny_release ⟨σ, H3, I3, q3⟩
/-- target = value -/
def tAsg (te : TE) (g : TG) : TS := fun D σ H => te σ H fun x H1 => g x σ H1 D.nx
theorem ps_asg {tg e : Expr} {te : TE} {g : TG} (he : PE X e te) (hg : PG X tg g) (hs : swapsWithSole [tg] e pos.line X.env = pure false := by rfl) (hw : swappedStores [tg] e X.env = pure none := by rfl)
    (h1 : (assignEach [tg] X.env).map (·.2) = [assign tg X.env] := by rfl) : PS X (.Assign [tg] e pos) (tAsg te g) := by
  intro pins s σ H D I h
  refine wpAny_Assign_stores (thn (he pins s σ H _ I h) fun v s1 hPz => ?_) hs hw; obtain ⟨x, H1, I1, r1, q1⟩ := hPz
  rw [h1]
  exact thn (hg pins s1 σ H1 x v _ I1 r1 q1) fun _ s2 q => q
/-- name = value -/
theorem ps_set {i : Nat} {x : Str} {e : Expr} {te : TE} {pos' : Pos} (hN : X.N.Nodup) (hi : X.N[i]? = some x) (hx : Loc X.env.scope x) (he : PE X e te) (hs : swapsWith e (some (.Name x pos')) pos.line X.env = pure false := by rfl) (hf : X.fn x = true ∨ X.env.scope.names.lookup x = some .local := by first | exact .inl rfl | exact .inr rfl | assumption) :
    PS X (.Assign [.Name x pos'] e pos) (tAsg te (gName i)) := by
  intro pins s σ H D I h
  refine wpAny_Assign_Name (thn (he pins s σ H _ I h) fun v s1 hPz => ?_) hs; obtain ⟨y, H1, I1, r1, q1⟩ := hPz
  exact store_ok I1 hN hi hx r1 (fun s2 I2 => ⟨_, H1, I2, q1⟩) hf
end

/-! ### while -/
section
variable {X : Cx} {pos : Pos}
end

/-! ### what a loop or a comprehension walks -/
/-- at turn i: it yields x (the heap may grow), or it stops -/
structure It where
  go : Nat → Hp → Prop
  yld : Nat → Hp → V → Hp → Prop
  stop : Nat → Hp → Prop
/-- the iterator's own objects may turn: they are not the frame's, not pinned, younger than the entry (or a comprehension's own) -/
def FpOk (X : Cx) (pins : List (Addr × Obj)) (H : Hp) (b : Addr) : Prop :=
  H b = none ∧ b ≠ X.env.locals ∧ b ∉ X.fs ∧ (b ∈ X.ex ∨ X.s₀.heap.objs.size ≤ b) ∧ (∀ x c, X.env.cells.lookup x = some c → c ≠ b) ∧ ∀ p ∈ X.pn ++ pins, p.1 ≠ b
theorem Inv.fpOk {X : Cx} {pins : List (Addr × Obj)} {σ : St} {H H' : Hp} {s : Shared} {b : Addr} (I : Inv X pins σ H s) (hb : s.heap.objs.size ≤ b) (hn : H' b = none) : FpOk X pins H' b := by
  refine ⟨hn, Nat.ne_of_gt (Nat.lt_of_lt_of_le I.lt hb), I.nofs hb, .inr (Nat.le_trans I.sz hb), fun x c e z => ?_, fun p hp z => ?_⟩
  · obtain ⟨v, q⟩ := I.cell x c e
    exact absurd (Nat.lt_of_lt_of_le q.lt (by rw [z]; exact hb)) (Nat.lt_irrefl _)
  · exact absurd (Nat.lt_of_lt_of_le (Heap.lt_size (I.pin p hp).1) (by rw [z]; exact hb)) (Nat.lt_irrefl _)
structure Turn (P : Program) (w : World) (K : PySem.W.Frag) (tg : Expr) (J : It) (fp : List Addr) (it : Addr) (tn : Nat → Heap → Prop) : Prop where
  mem : it ∈ fp
  obj : ∀ i h, tn i h → ∀ b ∈ fp, ∃ o, h.get? b = some o ∧ ∀ v, o.data ≠ .cell v
  keep : ∀ i h h', tn i h → (∀ b ∈ fp, ∀ o, h.get? b = some o → h'.get? b = some o) → tn i h'
  item : ∀ (X : Cx), X.prog = P → X.w = w → X.K = K → X.calm = true → ∀ (i : Nat) (pins : List (Addr × Obj)) (s : Shared) (σ : St) (H : Hp) (E : Value → Shared → Prop), Inv X pins σ H s → (∀ b ∈ fp, FpOk X pins H b) → tn i s.heap → J.go i H →
    wpAny (model P w) X.A (pyNext (.ref it)) (fun r s1 => ∃ u, r = some u ∧
      wpAny (model P w) X.A (letOwnedTupleGo tg (.ref it) u) (fun _ s2 => ∃ x H', Inv X pins σ H' s2 ∧ RelV x u ∧ J.yld i H x H' ∧ tn (i + 1) s2.heap ∧ ∀ b ∈ fp, H' b = none) E s1) E s
  done : ∀ (X : Cx), X.prog = P → X.w = w → X.K = K → X.calm = true → ∀ (i : Nat) (pins : List (Addr × Obj)) (s : Shared) (σ : St) (H : Hp) (E : Value → Shared → Prop), Inv X pins σ H s → (∀ b ∈ fp, FpOk X pins H b) → tn i s.heap → J.stop i H →
    wpAny (model P w) X.A (pyNext (.ref it)) (fun r s1 => r = none ∧ Inv X pins σ H s1) E s
  self : ∀ (A : Around) (i : Nat) (s : Shared) (Q : Value → Shared → Prop) (E : Value → Shared → Prop), tn i s.heap → Q (.ref it) s → wpAny (model P w) A (pyIter (.ref it)) Q E s
abbrev TI := St → Hp → (It → Hp → Prop) → Prop
/-- an iterator has come -/
def PIE (X : Cx) (pins : List (Addr × Obj)) (σ : St) (tg : Expr) (R : It → Hp → Prop) (itv : Value) (s2 : Shared) : Prop :=
  ∃ (it : Addr) (fp : List Addr) (tn : Nat → Heap → Prop) (J : It) (H' : Hp), itv = .ref it ∧ Inv X pins σ H' s2 ∧ Turn X.prog X.w X.K tg J fp it tn ∧ tn 0 s2.heap ∧ (∀ b ∈ fp, FpOk X pins H' b) ∧ R J H'
def PI (X : Cx) (tg iter : Expr) (wi : TI) : Prop :=
  ∀ (pins : List (Addr × Obj)) (s : Shared) (σ : St) (H : Hp) (R : It → Hp → Prop), Inv X pins σ H s → wi σ H R →
    wpAny (model X.prog X.w) X.A (eval iter X.env) (fun v s1 => wpAny (model X.prog X.w) X.A (pyIter v) (PIE X pins σ tg R) X.xe s1) X.xe s

/-- the step ahead of the store is nothing for an iterator that keeps no tuple -/
theorem go_of {M : Model} {A : Around} {E : Value → Shared → Prop} {s : Shared} {tg : Expr} {it : Addr} {u : Value} {o : Obj} {n : String} {vs : Array Value} {Q : Unit → Shared → Prop} (ho : s.heap.get? it = some o) (hc : o.cls = .type n) (hd : o.data = .fields vs)
    (hn : ["enumerate", "zip", "dict_itemiterator", "dict_reverseitemiterator", "odict_iterator", "itertools.zip_longest", "itertools.pairwise"].contains n = false) (hQ : Q () s) : wpAny M A (letOwnedTupleGo tg (.ref it) u) Q E s := by
  unfold letOwnedTupleGo
  cases tg <;> first
    | exact wpAny_pure hQ
    | (cases u <;> first
        | exact wpAny_pure hQ
        | (refine wpAny_bind (wpAny_load ho ?_)
           rw [hc, hd]
           show wpAny M A (if (["enumerate", "zip", "dict_itemiterator", "dict_reverseitemiterator", "odict_iterator", "itertools.zip_longest", "itertools.pairwise"].contains n && vs[0]? == some (rawInt _)) = true then _ else _) Q E s
           rw [if_neg (by intro h; rw [hn, Bool.false_and] at h; cases h)]
           exact wpAny_pure hQ))

/-- the list at a, as it stands at each turn (a loop may append to it) -/
def Itl (K : PySem.W.Frag) (a : Addr) : It :=
  ⟨fun i H => ∃ xs x, SqL K H a xs ∧ xs[i]? = some x, fun i H x H' => H' = H ∧ ∀ xs, SqL K H a xs → xs[i]? = some x, fun i H => ∃ xs, SqL K H a xs ∧ xs.length ≤ i⟩
/-- lo, lo + 1, .. (n of them) -/
def Itr (lo : Int) (n : Nat) : It := ⟨fun i _ => i < n, fun i H x H' => H' = H ∧ x = .int (lo + i), fun i _ => n ≤ i⟩
theorem turn_list {P : Program} {w : World} {K : PySem.W.Frag} {tg : Expr} (a it : Addr) : Turn P w K tg (Itl K a) [it] it (fun i h => h.IsListIter it a i) where
  mem := by simp
  obj := fun i h st b hb => by
    have e : b = it := by simpa using hb
    subst e
    obtain ⟨o, e, c, d⟩ := st
    exact ⟨o, e, fun v z => by rw [d] at z; cases z⟩
  keep := fun i h h' st k => st.at fun o e => k it (by simp) o e
  item := by
    intro X hP hw hK hc i pins s σ H E I hf st hg
    subst hP hw hK
    obtain ⟨xs, x, hq, hx⟩ := hg
    obtain ⟨its, rv, p, hz⟩ := I.list hq
    obtain ⟨u, hu, ru⟩ := rv.get hx
    obtain ⟨f0, f1, f2, f3, f4, f5⟩ := hf it (by simp)
    refine wpAny_pyNext_list_item st p.isList (x := u) (by simpa using hu) fun h' st' sb => ?_
    have I1 : Inv X pins σ H { s with heap := h' } := I.turned (t' := s.toks) (fun b o hb e => (sb.2 b hb).trans e) f0 f1 f3 f4 f5
    obtain ⟨o, e, c, d⟩ := id st'
    exact ⟨u, rfl, go_of (s := { s with heap := h' }) e c d (by decide) ⟨x, H, I1, ru, ⟨rfl, fun ys hy => by rw [I.list_inj hy hq]; exact hx⟩, st', fun b hb => (hf b hb).1⟩⟩
  done := by
    intro X hP hw hK hc i pins s σ H E I hf st hg
    subst hP hw hK
    obtain ⟨xs, hq, hx⟩ := hg
    obtain ⟨its, rv, p, hz⟩ := I.list hq
    obtain ⟨f0, f1, f2, f3, f4, f5⟩ := hf it (by simp)
    have hl := rv.length
    exact wpAny_pyNext_list_end (I.ok.hd hc) st p.isList (by simp; (first | lia | omega)) fun h' eb => ⟨rfl, I.turned (t' := s.toks) (fun b o hb e => eb b o hb e) f0 f1 f3 f4 f5⟩
  self := fun _ _ _ _ _ st h => wpAny_pyIter_listiter st h
theorem turn_range {P : Program} {w : World} {K : PySem.W.Frag} {tg : Expr} (it : Addr) (lo : Int) (n : Nat) : Turn P w K tg (Itr lo n) [it] it (fun i h => IsRangeIter h it (lo + (i : Nat) * 1) ((n : Int) - (i : Nat)) 1) where
  mem := by simp
  obj := fun i h st b hb => by
    have e : b = it := by simpa using hb
    subst e
    exact ⟨_, st, fun v z => by
      have z' : Data.fields _ = Data.cell v := z
      cases z'⟩
  keep := fun i h h' st k => k it (by simp) _ st
  item := by
    intro X hP hw hK hc i pins s σ H E I hf st hg
    subst hP hw hK
    obtain ⟨f0, f1, f2, f3, f4, f5⟩ := hf it (by simp)
    have W := Walks.range (prog := X.prog) (w := X.w) (I.ok.hd hc) it lo 1 n
    refine W.item i s _ _ hg st fun v h' tk hv st' kk => ?_
    obtain ⟨t, rfl⟩ := hv
    have I1 : Inv X pins σ H { s with heap := h', toks := tk } := I.turned (fun b o hb e => kk b o (by simpa using hb) e) f0 f1 f3 f4 f5
    refine ⟨_, rfl, go_of (s := { s with heap := h', toks := tk }) (n := "range_iterator") st' rfl rfl (by decide) ⟨.int (lo + i), H, I1, ⟨t, ?_⟩, ⟨rfl, rfl⟩, st', fun b hb => (hf b hb).1⟩⟩
    rw [Int.mul_one]
  done := by
    intro X hP hw hK hc i pins s σ H E I hf st hg
    subst hP hw hK
    obtain ⟨f0, f1, f2, f3, f4, f5⟩ := hf it (by simp)
    exact wpAny_pyNext_range_end (I.ok.hd hc) st (by have : n ≤ i := hg; (first | lia | omega)) fun h' eb => ⟨rfl, I.turned (t' := s.toks) (fun b o hb e => eb b o hb e) f0 f1 f3 f4 f5⟩
  self := fun _ _ _ _ _ st h => wpAny_pyIter_rangeiter st h
end L2

namespace L2
open PySem PySem.Spec PyProof.Rows
section
variable {X : Cx} {tg : Expr}
def iList (K : PySem.W.Frag) (tl : TE) : TI := fun σ H R => tl σ H fun x H1 => ∃ a, x = .ref a ∧ (∃ xs, SqL K H1 a xs) ∧ R (Itl K a) H1
theorem pi_list {l : Expr} {tl : TE} (hl : PE X l tl) : PI X tg l (iList X.K tl) := by
  intro pins s σ H R I h
  refine thn (hl pins s σ H _ I h) fun v s1 hPz => ?_; obtain ⟨x, H1, I1, r1, q1⟩ := hPz
  obtain ⟨a, e, ⟨xs, hq⟩, q⟩ := q1
  subst e
  cases r1
  obtain ⟨its, rv, p, hz⟩ := I1.list hq
  refine wpAny_pyIter_list p.isList ?_
  refine ⟨s1.heap.objs.size, [s1.heap.objs.size], _, _, H1, rfl, I1.kept (t' := s1.toks) fun b o e => Heap.get?_push_of_some _ e, turn_list a _, ⟨_, Heap.get?_push_size _ rfl, rfl, rfl⟩, fun b hb => ?_, q⟩
  have e : b = s1.heap.objs.size := by simpa using hb
  subst e
  exact I1.fpOk (Nat.le_refl _) (I1.hok.fresh (Nat.le_refl _))
/-- a range object just made, walked -/
theorem range_it {pins : List (Addr × Obj)} {σ : St} {H : Hp} {s : Shared} {R : It → Hp → Prop} {E : Value → Shared → Prop} {lo hi : Int} {t u v : Tok} {tk : Nat} (I : Inv X pins σ H s) (h1 : -(2 ^ 62) ≤ lo) (h2 : lo < 2 ^ 62) (h3 : -(2 ^ 62) ≤ hi) (h4 : hi < 2 ^ 62)
    (q : R (Itr lo (hi - lo).toNat) H) : wpAny (model X.prog X.w) X.A (pyIter (.ref s.heap.objs.size)) (PIE X pins σ tg R) E { s with heap := s.heap.push { cls := .type "range", data := .fields #[.int lo t, .int hi u, .int 1 v] }, toks := tk } := by
  refine wpAny_pyIter_range (IsRange.new ..) (small_one h1 h2 h3 h4) ?_
  have I1 : Inv X pins σ H { s with heap := s.heap.push { cls := .type "range", data := .fields #[.int lo t, .int hi u, .int 1 v] }, toks := tk } := I.kept fun b o e => Heap.get?_push_of_some _ e
  refine ⟨(s.heap.push { cls := .type "range", data := .fields #[.int lo t, .int hi u, .int 1 v] }).objs.size, [(s.heap.push { cls := .type "range", data := .fields #[.int lo t, .int hi u, .int 1 v] }).objs.size], _, _, H, rfl,
    I1.kept (t' := tk) fun b o e => Heap.get?_push_of_some _ e, turn_range _ lo (hi - lo).toNat, ?_, fun b hb => ?_, q⟩
  · have e1 : lo + ((0 : Nat) : Int) * 1 = lo := by simp
    have e2 : (((hi - lo).toNat : Nat) : Int) - ((0 : Nat) : Int) = Builtin.Range.rangeSize lo hi 1 := by rw [rangeSize_one]; split <;> (first | lia | omega)
    show IsRangeIter _ _ (lo + ((0 : Nat) : Int) * 1) ((((hi - lo).toNat : Nat) : Int) - ((0 : Nat) : Int)) 1
    rw [e1, e2]
    exact Heap.get?_push_size _ rfl
  · have e : b = (s.heap.push { cls := .type "range", data := .fields #[.int lo t, .int hi u, .int 1 v] }).objs.size := by simpa using hb
    subst e
    exact I1.fpOk (Nat.le_refl _) (I1.hok.fresh (Nat.le_refl _))
def iRng1 (ta : TA) : TI := fun σ H R => ta σ H fun vs H1 => ∃ j : Int, vs = [.int j] ∧ -(2 ^ 62) ≤ j ∧ j < 2 ^ 62 ∧ R (Itr 0 j.toNat) H1
theorem pi_range1 {a : Expr} {ta : TA} {p pos : Pos} (hg : Gl X "range") (hm : X.mg "range" = none) (ha : PA X [a] ta) (hs : starEach [a] X.env = [(false, eval a X.env)] := by rfl) : PI X tg (.Call (.Name "range" p) [a] [] pos) (iRng1 ta) := by
  intro pins s σ H R I h
  refine Call_ (ld_blt I hg hm boot_range (PyProof.Rows.callWith_type1 (thn (ha pos pins s σ H _ I h) fun us s1 hPz => ?_) hs rfl)); obtain ⟨vs, H1, I1, r1, q1⟩ := hPz
  obtain ⟨j, e, q1, q2, q⟩ := q1
  subst e
  cases r1 with
  | cons r rr =>
    cases rr
    obtain ⟨t, rfl⟩ := r
    exact call_range_1 (range_it I1 (by (first | lia | omega)) (by (first | lia | omega)) q1 q2 (by simpa using q))

/-! ### for -/
/-- W: the invariant by the turn and a measure; N: what the body is to reach -/
def tFor (wi : TI) (g : TG) (tb : TS) : TS := fun D σ H => wi σ H fun J H1 => ∃ W : Nat → Nat → St → Hp → Prop, (∃ m, W 0 m σ H1) ∧ ∀ i m σ H, W i m σ H →
  (J.stop i H ∧ D.nx σ H) ∨ (J.go i H ∧ ∃ N : St → Hp → Prop, (∀ σ' H', N σ' H' → ∃ m', m' < m ∧ W (i + 1) m' σ' H') ∧ ∀ x H', J.yld i H x H' → g x σ H' fun σ2 H2 => tb { D with nx := N, ct := N, bk := D.nx } σ2 H2)
/-- the records at fp as they stand -/
def pinsAt (fp : List Addr) (h : Heap) : List (Addr × Obj) := fp.filterMap fun b => (h.get? b).map fun o => (b, o)
theorem mem_pinsAt {fp : List Addr} {h : Heap} {b : Addr} {o : Obj} (hb : b ∈ fp) (e : h.get? b = some o) : (b, o) ∈ pinsAt fp h := List.mem_filterMap.mpr ⟨b, hb, by rw [e]; rfl⟩
theorem of_pinsAt {fp : List Addr} {h : Heap} {p : Addr × Obj} (hp : p ∈ pinsAt fp h) : p.1 ∈ fp ∧ h.get? p.1 = some p.2 := by
  obtain ⟨b, hb, e⟩ := List.mem_filterMap.mp hp
  cases q : h.get? b with
  | none => rw [q] at e; cases e
  | some o =>
    rw [q] at e
    have e' : (b, o) = p := Option.some.inj e
    subst e'
    exact ⟨hb, q⟩
theorem Inv.pinned {pins : List (Addr × Obj)} {σ : St} {H : Hp} {s : Shared} {fp : List Addr} (I : Inv X pins σ H s) (hf : ∀ b ∈ fp, FpOk X pins H b) (ho : ∀ b ∈ fp, ∃ o, s.heap.get? b = some o ∧ ∀ v, o.data ≠ .cell v) : Inv X (pins ++ pinsAt fp s.heap) σ H s :=
  I.pins_of fun p hp => (List.mem_append.mp hp).elim (fun z => I.pin p (List.mem_append_right _ z)) fun z => by
    obtain ⟨hb, e⟩ := of_pinsAt z
    obtain ⟨f0, f1, f2, _⟩ := hf p.1 hb
    obtain ⟨o, e', d⟩ := ho p.1 hb
    rw [e] at e'; cases e'
    exact ⟨e, f0, f1, f2, d⟩
theorem Inv.unpinned {pins pl : List (Addr × Obj)} {σ : St} {H : Hp} {s : Shared} (I : Inv X (pins ++ pl) σ H s) : Inv X pins σ H s := I.pins_of fun p hp => I.pin p (List.mem_append_right _ (List.mem_append_left _ hp))
theorem ps_for {iter : Expr} {body : List Stmt} {wi : TI} {g : TG} {tb : TS} {pos : Pos} (hp : PassesOwn (model X.prog X.w) X.A X.env X.xe) (hc : X.calm = true) (hi : PI X tg iter wi) (hg : PG X tg g) (hb : PSs X body tb)
    (hs : ∀ x, foldedSetIterable iter X.env x = pure x := by intro _; rfl) : PS X (.For tg iter body [] pos) (tFor wi g tb) := by
  intro pins s σ H D I h
  refine wpAny_For (thn (hi pins s σ H _ I h) fun v s1 h1 => thn h1 fun itv s2 h2 => ?_) hs
  obtain ⟨it, fp, tn, J, H2, e, I2, T, st2, f2, W, ⟨m0, w0⟩, turn⟩ := h2
  subst e
  -- what stays true of the iterator's objects through the loop
  have stat : ∀ {H' : Hp}, (∀ b ∈ fp, H' b = none) → ∀ b ∈ fp, FpOk X pins H' b := fun hn b hb => ⟨hn b hb, (f2 b hb).2⟩
  refine codeAny_forLoop_any (fun n s' => ∃ i σ' H', Inv X pins σ' H' s' ∧ tn i s'.heap ∧ (∀ b ∈ fp, H' b = none) ∧ W i n σ' H') ?_ m0 ⟨0, σ, H2, I2, st2, fun b hb => (f2 b hb).1, w0⟩
  rintro n s3 ⟨i, σ3, H3, I3, st3, fr3, w3⟩
  rcases turn i n σ3 H3 w3 with ⟨stop, qn⟩ | ⟨go, N, hN, step⟩
  · refine wpAny_passesOwn hp (thn (T.done X rfl rfl rfl hc i pins s3 σ3 H3 X.xe I3 (stat fr3) st3 stop) fun r s4 hPz => ?_); obtain ⟨hr, I4⟩ := hPz
    subst hr
    exact wpAny_execs_nil ⟨σ3, H3, I4, qn⟩
  · refine wpAny_passesOwn hp (thn (T.item X rfl rfl rfl hc i pins s3 σ3 H3 X.xe I3 (stat fr3) st3 go) fun r s4 hPz => ?_); obtain ⟨u, hr, h4⟩ := hPz
    subst hr
    refine wpAny_passesOwn hp (thn h4 fun _ s5 hPz => ?_); obtain ⟨x, H5, I5, r5, y5, st5, fr5⟩ := hPz
    have I5' := I5.pinned (stat fr5) (T.obj _ _ st5)
    refine wpAny_passesOwn hp (thn (hg _ s5 σ3 H5 x u _ I5' r5 (step x H5 y5)) fun _ s6 hPz => ?_); obtain ⟨σ6, H6, I6, q6⟩ := hPz
    refine wpAny_passesOwn hp (thn (hb _ s6 σ6 H6 _ I6 q6) fun f s7 q7 => ?_)
    have again : ∀ {σ7 : St} {H7 : Hp}, Inv X (pins ++ pinsAt fp s5.heap) σ7 H7 s7 → N σ7 H7 → ∃ m, m < n ∧ ∃ i σ' H', Inv X pins σ' H' s7 ∧ tn i s7.heap ∧ (∀ b ∈ fp, H' b = none) ∧ W i m σ' H' := fun {σ7 H7} I7 n7 => by
      obtain ⟨m', hm, w7⟩ := hN σ7 H7 n7
      refine ⟨m', hm, i + 1, σ7, H7, I7.unpinned, T.keep _ _ _ st5 fun b hb o e => (I7.pin (b, o) (List.mem_append_right _ (List.mem_append_right _ (mem_pinsAt hb e)))).1, fun b hb => ?_, w7⟩
      obtain ⟨o, e, d⟩ := T.obj _ _ st5 b hb
      exact (I7.pin (b, o) (List.mem_append_right _ (List.mem_append_right _ (mem_pinsAt hb e)))).2.1
    cases f with
    | next => obtain ⟨σ7, H7, I7, n7⟩ := q7; exact again I7 n7
    | cont => obtain ⟨σ7, H7, I7, n7⟩ := q7; exact again I7 n7
    | brk => obtain ⟨σ7, H7, I7, q7⟩ := q7; exact ⟨σ7, H7, I7.unpinned, q7⟩
    | ret v => obtain ⟨x7, σ7, H7, I7, r7, q7⟩ := q7; exact ⟨x7, σ7, H7, I7.unpinned, r7, q7⟩
end

/-! ### the forms one uses -/
/-- over a list that the body leaves as it is -/
theorem for_list {K : PySem.W.Frag} {a : Addr} {xs : List V} {g : TG} {tb : TS} {D : Ends} {σ : St} {H : Hp} (Pv : Nat → St → Hp → Prop) (h0 : Pv 0 σ H) (hl : ∀ i σ H, i ≤ xs.length → Pv i σ H → SqL K H a xs)
    (hs : ∀ i x σ H, xs[i]? = some x → Pv i σ H → g x σ H fun σ2 H2 => tb { D with nx := Pv (i + 1), ct := Pv (i + 1), bk := D.nx } σ2 H2) (hd : ∀ σ H, Pv xs.length σ H → D.nx σ H) :
    ∃ W : Nat → Nat → St → Hp → Prop, (∃ m, W 0 m σ H) ∧ ∀ i m σ H, W i m σ H →
      ((Itl K a).stop i H ∧ D.nx σ H) ∨ ((Itl K a).go i H ∧ ∃ N : St → Hp → Prop, (∀ σ' H', N σ' H' → ∃ m', m' < m ∧ W (i + 1) m' σ' H') ∧ ∀ x H', (Itl K a).yld i H x H' → g x σ H' fun σ2 H2 => tb { D with nx := N, ct := N, bk := D.nx } σ2 H2) := by
  refine ⟨fun i m σ H => m = xs.length - i ∧ i ≤ xs.length ∧ Pv i σ H, ⟨xs.length, by simp, Nat.zero_le _, h0⟩, ?_⟩
  rintro i m σ H ⟨rfl, hi, p⟩
  have q := hl i σ H hi p
  by_cases hlt : i < xs.length
  · refine .inr ⟨⟨xs, xs[i], q, by simp [hlt]⟩, Pv (i + 1), fun σ' H' p' => ⟨xs.length - (i + 1), by (first | lia | omega), rfl, hlt, p'⟩, fun x H' y => ?_⟩
    obtain ⟨e, y⟩ := y
    subst e
    exact hs i x σ _ (y xs q) p
  · have e : i = xs.length := by (first | lia | omega)
    subst e
    exact .inl ⟨⟨xs, q, Nat.le_refl _⟩, hd σ H p⟩
theorem for_range {lo : Int} {n : Nat} {g : TG} {tb : TS} {D : Ends} {σ : St} {H : Hp} (Pv : Nat → St → Hp → Prop) (h0 : Pv 0 σ H)
    (hs : ∀ i σ H, i < n → Pv i σ H → g (.int (lo + i)) σ H fun σ2 H2 => tb { D with nx := Pv (i + 1), ct := Pv (i + 1), bk := D.nx } σ2 H2) (hd : ∀ σ H, Pv n σ H → D.nx σ H) :
    ∃ W : Nat → Nat → St → Hp → Prop, (∃ m, W 0 m σ H) ∧ ∀ i m σ H, W i m σ H →
      ((Itr lo n).stop i H ∧ D.nx σ H) ∨ ((Itr lo n).go i H ∧ ∃ N : St → Hp → Prop, (∀ σ' H', N σ' H' → ∃ m', m' < m ∧ W (i + 1) m' σ' H') ∧ ∀ x H', (Itr lo n).yld i H x H' → g x σ H' fun σ2 H2 => tb { D with nx := N, ct := N, bk := D.nx } σ2 H2) := by
  refine ⟨fun i m σ H => m = n - i ∧ i ≤ n ∧ Pv i σ H, ⟨n, by simp, Nat.zero_le _, h0⟩, ?_⟩
  rintro i m σ H ⟨rfl, hi, p⟩
  by_cases hlt : i < n
  · refine .inr ⟨hlt, Pv (i + 1), fun σ' H' p' => ⟨n - (i + 1), by (first | lia | omega), rfl, hlt, p'⟩, fun x H' y => ?_⟩
    obtain ⟨e, y⟩ := y
    subst e y
    exact hs i σ _ hlt p
  · have e : i = n := by (first | lia | omega)
    subst e
    exact .inl ⟨Nat.le_refl _, hd σ H p⟩
end L2

namespace L2
open PySem PySem.Spec PyProof.Rows

abbrev R2 := V → V → Hp → VK → Prop
/-- a two-place operation on values: f is binaryOp op, inplaceOp op or compareOp op -/
def OpR (X : Cx) (f : Value → Value → Sem Value) (r : R2) : Prop :=
  ∀ (pins : List (Addr × Obj)) (s : Shared) (σ : St) (H : Hp) (x y : V) (v u : Value) (Q : VK), Inv X pins σ H s → RelV x v → RelV y u → r x y H Q →
    wpAny (model X.prog X.w) X.A (f v u) (EP X pins σ Q) X.xe s
/-- a one-place operation -/
def UnR (X : Cx) (f : Value → Sem Value) (r : V → Hp → VK → Prop) : Prop :=
  ∀ (pins : List (Addr × Obj)) (s : Shared) (σ : St) (H : Hp) (x : V) (v : Value) (Q : VK), Inv X pins σ H s → RelV x v → r x H Q →
    wpAny (model X.prog X.w) X.A (f v) (EP X pins σ Q) X.xe s
/-- a call of a value that is known (a builtin, a type) with values -/
def CallR (X : Cx) (f : Value) (r : List V → Hp → VK → Prop) : Prop :=
  ∀ (pins : List (Addr × Obj)) (s : Shared) (σ : St) (H : Hp) (xs : List V) (us : List Value) (Q : VK), Inv X pins σ H s → Vals xs us → r xs H Q →
    wpAny (model X.prog X.w) X.A (call f us) (EP X pins σ Q) X.xe s

def tOp (r : R2) (ta tb : TE) : TE := fun σ H Q => ta σ H fun x H1 => tb σ H1 fun y H2 => r x y H2 Q
def tUn (r : V → Hp → VK → Prop) (ta : TE) : TE := fun σ H Q => ta σ H fun x H1 => r x H1 Q
/-- ints in, under C, and a value out -/
def rI (C : Int → Int → Prop) (g : Int → Int → V) : R2 := fun x y H Q => ∃ i j, x = .int i ∧ y = .int j ∧ C i j ∧ Q (g i j) H
def rI0 (g : Int → Int → V) : R2 := fun x y H Q => ∃ i j, x = .int i ∧ y = .int j ∧ Q (g i j) H
def rU (g : Int → V) : V → Hp → VK → Prop := fun x H Q => ∃ i, x = .int i ∧ Q (g i) H

section
variable {X : Cx} {a b c : Expr} {ta tb tc : TE} {pos : Pos}

theorem binT (ha : PE X a ta) (hb : PE X b tb) {pins : List (Addr × Obj)} {s : Shared} {σ : St} {H : Hp} {R : V → V → Hp → Prop} (I : Inv X pins σ H s)
    (h : ta σ H fun x H1 => tb σ H1 fun y H2 => R x y H2) {Q : Value → Shared → Prop} {f : Value → Value → Sem Value}
    (hf : ∀ v u s2 x y H2, Inv X pins σ H2 s2 → RelV x v → RelV y u → R x y H2 → wpAny (model X.prog X.w) X.A (f v u) Q X.xe s2) :
    wpAny (model X.prog X.w) X.A (eval a X.env) (fun v s₁ => wpAny (model X.prog X.w) X.A (eval b X.env) (fun u s₂ => wpAny (model X.prog X.w) X.A (f v u) Q X.xe s₂) X.xe s₁) X.xe s := by
  refine thn (ha pins s σ H _ I h) fun v s1 hPz => ?_; obtain ⟨x, H1, I1, r1, q1⟩ := hPz
  refine thn (hb pins s1 σ H1 _ I1 q1) fun u s2 hPz => ?_; obtain ⟨y, H2, I2, r2, q2⟩ := hPz
  exact hf v u s2 x y H2 I2 r1 r2 q2

theorem pe_op {op : Operator} {r : R2} (ho : OpR X (binaryOp op) r) (ha : PE X a ta) (hb : PE X b tb) : PE X (.BinOp a op b pos) (tOp r ta tb) := by
  intro pins s σ H Q I h
  exact wpAny_BinOp (binT ha hb I h fun v u s2 x y H2 I2 rx ry q => ho pins s2 σ H2 x y v u Q I2 rx ry q)
theorem pe_un {op : UnaryOp} {r : V → Hp → VK → Prop} (ho : UnR X (unaryOp op) r) (ha : PE X a ta) : PE X (.UnaryOp op a pos) (tUn r ta) := by
  intro pins s σ H Q I h
  exact UnaryOp_ (thn (ha pins s σ H _ I h) fun v s1 hPy => ob2_3 hPy fun x H1 I1 r1 q1 => ho pins s1 σ H1 x v Q I1 r1 q1)

/-! ### ints -/
theorem opI {f : Value → Value → Sem Value} {C : Int → Int → Prop} {g : Int → Int → Int}
    (rule : ∀ (i j : Int) (t u : Tok) (s : Shared) (Q : Value → Shared → Prop) (E : Value → Shared → Prop), C i j → Q (.int (g i j) s.toks) { s with toks := s.toks + 1 } → wpAny (model X.prog X.w) X.A (f (.int i t) (.int j u)) Q E s) :
    OpR X f (rI C fun i j => .int (g i j)) := by
  intro pins s σ H x y v u Q I rx ry h
  obtain ⟨i, j, rfl, rfl, hc, q⟩ := h
  obtain ⟨t, rfl⟩ := rx
  obtain ⟨t', rfl⟩ := ry
  exact rule i j t t' s _ _ hc ⟨.int (g i j), H, I.tok _, ⟨_, rfl⟩, q⟩
theorem opI0 {f : Value → Value → Sem Value} {g : Int → Int → Int}
    (rule : ∀ (i j : Int) (t u : Tok) (s : Shared) (Q : Value → Shared → Prop) (E : Value → Shared → Prop), Q (.int (g i j) s.toks) { s with toks := s.toks + 1 } → wpAny (model X.prog X.w) X.A (f (.int i t) (.int j u)) Q E s) :
    OpR X f (rI0 fun i j => .int (g i j)) := by
  intro pins s σ H x y v u Q I rx ry h
  obtain ⟨i, j, rfl, rfl, q⟩ := h
  obtain ⟨t, rfl⟩ := rx
  obtain ⟨t', rfl⟩ := ry
  exact rule i j t t' s _ _ ⟨.int (g i j), H, I.tok _, ⟨_, rfl⟩, q⟩
theorem opB0 {f : Value → Value → Sem Value} {g : Int → Int → Bool}
    (rule : ∀ (i j : Int) (t u : Tok) (s : Shared) (Q : Value → Shared → Prop) (E : Value → Shared → Prop), Q (.bool (g i j)) s → wpAny (model X.prog X.w) X.A (f (.int i t) (.int j u)) Q E s) :
    OpR X f (rI0 fun i j => .bl (g i j)) := by
  intro pins s σ H x y v u Q I rx ry h
  obtain ⟨i, j, rfl, rfl, q⟩ := h
  obtain ⟨t, rfl⟩ := rx
  obtain ⟨t', rfl⟩ := ry
  exact rule i j t t' s _ _ ⟨.bl (g i j), H, I, rfl, q⟩

def CDiv (i j : Int) : Prop := 0 < j ∧ j < 1073741824
def CPow (i j : Int) : Prop := 0 ≤ j ∧ j ≤ 1000000 ∧ i.natAbs < 2 ^ 64
def CMul (i j : Int) : Prop := (-(2 ^ 64) < i ∧ i < 2 ^ 64) ∨ (-(2 ^ 64) < j ∧ j < 2 ^ 64)
theorem CMul.ok {i j : Int} (h : CMul i j) : IntMulOk i j := by
  rcases h with ⟨h1, h2⟩ | ⟨h1, h2⟩
  · exact .of_left (intBits_le_64 h1 h2)
  · exact .of_right (intBits_le_64 h1 h2)

theorem op_add : OpR X (binaryOp .Add) (rI0 fun i j => .int (i + j)) := opI0 fun _ _ _ _ _ _ _ q => add_int q
theorem op_mul : OpR X (binaryOp .Mult) (rI CMul fun i j => .int (i * j)) := opI fun _ _ _ _ _ _ _ hc q => mul_int q hc.ok
/-- // by a positive divisor -/
theorem op_fdiv : OpR X (binaryOp .FloorDiv) (rI CDiv fun i j => .int (i / j)) := opI fun i j _ _ _ _ _ hc q => by
  have h1 : (0 : Int) < j := hc.1
  have h2 : j < 1073741824 := hc.2
  exact floordiv_int (by (first | lia | omega)) (by rw [Int.fdiv_eq_ediv_of_nonneg i (by (first | lia | omega))]; exact q) (.inl (PyProof.noPylong_small (by (first | lia | omega))))
/-- % by a positive divisor of any size -/
theorem op_mod : OpR X (binaryOp .Mod) (rI (fun _ j => 0 < j) fun i j => .int (i % j)) := opI fun i j _ _ _ _ _ hc q => by
  have h1 : (0 : Int) < j := hc
  exact mod_int' (by (first | lia | omega)) (by rw [Int.fmod_eq_emod_of_nonneg i (by (first | lia | omega))]; exact q)
theorem op_pow : OpR X (binaryOp .Pow) (rI CPow fun i j => .int (i ^ j.toNat)) := opI fun _ _ _ _ _ _ _ hc q => pow_int_small hc.1 hc.2.1 hc.2.2 q


theorem unI {f : Value → Sem Value} {g : Int → Int}
    (rule : ∀ (i : Int) (t : Tok) (s : Shared) (Q : Value → Shared → Prop) (E : Value → Shared → Prop), Q (.int (g i) s.toks) { s with toks := s.toks + 1 } → wpAny (model X.prog X.w) X.A (f (.int i t)) Q E s) :
    UnR X f (rU fun i => .int (g i)) := by
  intro pins s σ H x v Q I rx h
  obtain ⟨i, rfl, q⟩ := h
  obtain ⟨t, rfl⟩ := rx
  exact rule i t s _ _ ⟨.int (g i), H, I.tok _, ⟨_, rfl⟩, q⟩
theorem un_neg : UnR X (unaryOp .USub) (rU fun i => .int (-i)) := unI fun _ _ _ _ _ q => neg_int q

/-! ### bools among ints: n += (a < b) -/
end

/-! ### comparisons -/
/-- the scalars that == tells apart as data does -/
def scal : V → V → Bool
  | .non, .non => true | .non, .int _ => true | .int _, .non => true | .non, .bl _ => true | .bl _, .non => true | .non, .str _ => true | .str _, .non => true
  | .int _, .int _ => true | .bl _, .bl _ => true | .str _, .str _ => true | .byt _, .byt _ => true
  | .int _, .str _ => true | .str _, .int _ => true | .bl _, .str _ => true | .str _, .bl _ => true
  | _, _ => false
def rEq : R2 := fun x y H Q => scal x y = true ∧ Q (.bl (decide (x = y))) H
def rNe : R2 := fun x y H Q => scal x y = true ∧ Q (.bl (!decide (x = y))) H

theorem dec_int {i j : Int} : decide (V.int i = V.int j) = (i == j) := by
  rw [Bool.eq_iff_iff]
  simp
theorem dec_bl {i j : Bool} : decide (V.bl i = V.bl j) = (i == j) := by
  rw [Bool.eq_iff_iff]
  simp
theorem dec_str {i j : Str} : decide (V.str i = V.str j) = (i == j) := by
  rw [Bool.eq_iff_iff]
  simp
theorem dec_byt {i j : Array UInt8} : decide (V.byt i = V.byt j) = (i.toList == j.toList) := by
  rw [Bool.eq_iff_iff]
  cases i
  cases j
  simp

section
variable {X : Cx} {a b c : Expr} {ta tb tc : TE} {pos : Pos}
theorem fin_bl {pins : List (Addr × Obj)} {σ : St} {H : Hp} {s : Shared} {Q : VK} {k k' : Bool} (I : Inv X pins σ H s) (q : Q (.bl k) H) (e : k = k') : EP X pins σ Q (.bool k') s := by
  subst e
  exact ⟨.bl k, H, I, rfl, q⟩
theorem op_eq : OpR X (compareOp .Eq) rEq := by
  intro pins s σ H x y v u Q I rx ry h
  obtain ⟨hs, q⟩ := h
  cases x with
  | non =>
    cases rx
    cases y with
    | non => cases ry; exact PySem.EqNone.eq_none_none (fin_bl I q (by simp))
    | bl j => cases ry; exact PySem.EqNone.eq_none_bool (fin_bl I q (by simp))
    | int j => obtain ⟨t', rfl⟩ := ry; exact PySem.EqNone.eq_none_int (fin_bl I q (by simp))
    | str j => obtain ⟨t', rfl⟩ := ry; exact PySem.EqNone.eq_none_str (fin_bl I q (by simp))
    | _ => exact absurd (show false = true from hs) Bool.false_ne_true
  | bl i =>
    cases rx
    cases y with
    | non => cases ry; exact PySem.EqNone.eq_bool_none (fin_bl I q (by simp))
    | bl j => cases ry; exact eq_bool (fin_bl I q dec_bl)
    | str j => obtain ⟨t', rfl⟩ := ry; exact PySem.EqMixed.eq_bool_str (fin_bl I q (by simp))
    | _ => exact absurd (show false = true from hs) Bool.false_ne_true
  | int i =>
    obtain ⟨t, rfl⟩ := rx
    cases y with
    | non => cases ry; exact PySem.EqNone.eq_int_none (fin_bl I q (by simp))
    | int j => obtain ⟨t', rfl⟩ := ry; exact eq_int (fin_bl I q dec_int)
    | str j => obtain ⟨t', rfl⟩ := ry; exact PySem.EqMixed.eq_int_str (fin_bl I q (by simp))
    | _ => exact absurd (show false = true from hs) Bool.false_ne_true
  | str i =>
    obtain ⟨t, rfl⟩ := rx
    cases y with
    | non => cases ry; exact PySem.EqNone.eq_str_none (fin_bl I q (by simp))
    | bl j => cases ry; exact PySem.EqMixed.eq_str_bool (fin_bl I q (by simp))
    | int j => obtain ⟨t', rfl⟩ := ry; exact PySem.EqMixed.eq_str_int (fin_bl I q (by simp))
    | str j => obtain ⟨t', rfl⟩ := ry; exact eq_str (fin_bl I q dec_str)
    | _ => exact absurd (show false = true from hs) Bool.false_ne_true
  | byt i =>
    obtain ⟨t, rfl⟩ := rx
    cases y with
    | byt j => obtain ⟨t', rfl⟩ := ry; exact PySem.W.eq_bytes (fin_bl I q dec_byt)
    | _ => exact absurd (show false = true from hs) Bool.false_ne_true
  | _ => cases y <;> exact absurd (show false = true from hs) Bool.false_ne_true
theorem op_ne : OpR X (compareOp .NotEq) rNe := by
  intro pins s σ H x y v u Q I rx ry h
  obtain ⟨hs, q⟩ := h
  cases x with
  | non =>
    cases rx
    cases y with
    | non => cases ry; exact PySem.EqNone.ne_none_none (fin_bl I q (by simp))
    | bl j => cases ry; exact PySem.EqNone.ne_none_bool (fin_bl I q (by simp))
    | int j => obtain ⟨t', rfl⟩ := ry; exact PySem.EqNone.ne_none_int (fin_bl I q (by simp))
    | str j => obtain ⟨t', rfl⟩ := ry; exact PySem.EqNone.ne_none_str (fin_bl I q (by simp))
    | _ => exact absurd (show false = true from hs) Bool.false_ne_true
  | bl i =>
    cases rx
    cases y with
    | non => cases ry; exact PySem.EqNone.ne_bool_none (fin_bl I q (by simp))
    | bl j => cases ry; exact ne_bool (fin_bl I q (congrArg not dec_bl))
    | str j => obtain ⟨t', rfl⟩ := ry; exact PySem.EqMixed.ne_bool_str (fin_bl I q (by simp))
    | _ => exact absurd (show false = true from hs) Bool.false_ne_true
  | int i =>
    obtain ⟨t, rfl⟩ := rx
    cases y with
    | non => cases ry; exact PySem.EqNone.ne_int_none (fin_bl I q (by simp))
    | int j => obtain ⟨t', rfl⟩ := ry; exact ne_int (fin_bl I q (congrArg not dec_int))
    | str j => obtain ⟨t', rfl⟩ := ry; exact PySem.EqMixed.ne_int_str (fin_bl I q (by simp))
    | _ => exact absurd (show false = true from hs) Bool.false_ne_true
  | str i =>
    obtain ⟨t, rfl⟩ := rx
    cases y with
    | non => cases ry; exact PySem.EqNone.ne_str_none (fin_bl I q (by simp))
    | bl j => cases ry; exact PySem.EqMixed.ne_str_bool (fin_bl I q (by simp))
    | int j => obtain ⟨t', rfl⟩ := ry; exact PySem.EqMixed.ne_str_int (fin_bl I q (by simp))
    | str j => obtain ⟨t', rfl⟩ := ry; exact ne_str (fin_bl I q (congrArg not dec_str))
    | _ => exact absurd (show false = true from hs) Bool.false_ne_true
  | byt i =>
    obtain ⟨t, rfl⟩ := rx
    cases y with
    | byt j => obtain ⟨t', rfl⟩ := ry; exact PySem.W.ne_bytes (fin_bl I q (congrArg not dec_byt))
    | _ => exact absurd (show false = true from hs) Bool.false_ne_true
  | _ => cases y <;> exact absurd (show false = true from hs) Bool.false_ne_true

theorem op_lt : OpR X (compareOp .Lt) (rI0 fun i j => .bl (decide (i < j))) := opB0 fun _ _ _ _ _ _ _ q => lt_int q
theorem op_le : OpR X (compareOp .LtE) (rI0 fun i j => .bl (decide (i ≤ j))) := opB0 fun _ _ _ _ _ _ _ q => le_int q
theorem op_gt : OpR X (compareOp .Gt) (rI0 fun i j => .bl (decide (j < i))) := opB0 fun _ _ _ _ _ _ _ q => gt_int q
theorem op_ge : OpR X (compareOp .GtE) (rI0 fun i j => .bl (decide (j ≤ i))) := opB0 fun _ _ _ _ _ _ _ q => ge_int q




theorem nomark (b : Expr) {op : CmpOp} (h : op ≠ .In := by decide) (h2 : op ≠ .NotIn := by decide) : behindInMarks op b = false := by
  have e1 : (op == CmpOp.In) = false := by cases op <;> first | rfl | exact absurd rfl h
  have e2 : (op == CmpOp.NotIn) = false := by cases op <;> first | rfl | exact absurd rfl h2
  cases b <;> simp [behindInMarks, e1, e2]
/-- a comparison as a value; hm: nomark b, or (for in, not in) by with_unfolding_all rfl -/
theorem pe_cmpR {op : CmpOp} {r : R2} (ho : OpR X (compareOp op) r) (ha : PE X a ta) (hb : PE X b tb) (hm : behindInMarks op b = false) : PE X (.Compare a [op] [b] pos) (tOp r ta tb) := by
  intro pins s σ H Q I h
  exact wpAny_Compare1 (binT ha hb I h fun v u s2 x y H2 I2 rx ry q => ho pins s2 σ H2 x y v u Q I2 rx ry q) hm
/-- a reading of a value as a test -/
def tTest (t : TE) : TT := fun σ H Q => t σ H fun x H' => ∃ k, x = .bl k ∧ Q k H'
theorem pt_cmpR {op : CmpOp} {r : R2} (ho : OpR X (compareOp op) r) (ha : PE X a ta) (hb : PE X b tb) (hm : behindInMarks op b = false) : PT X (.Compare a [op] [b] pos) (tTest (tOp r ta tb)) := by
  intro pins s σ H Q I h
  refine wpAny_isTrue_Compare1 (thn (ha pins s σ H _ I h) fun v s1 hPy => ob2_3 hPy fun x H1 I1 r1 q1 => thn (hb pins s1 σ H1 _ I1 q1) fun u s2 ⟨y, H2, I2, r2, q2⟩ =>
    thn (ho pins s2 σ H2 x y v u _ I2 r1 r2 q2) fun c s3 ⟨z, H3, I3, r3, k, e, q3⟩ => ?_) hm
  subst e
  cases r3
  exact wpAny_truthy_bool ⟨H3, I3, q3⟩
/-- a op1 b op2 c -/
def tChain (r r' : R2) (ta tb tc : TE) : TE := fun σ H Q => ta σ H fun x H1 => tb σ H1 fun y H2 => r x y H2 fun z H3 => ∃ k, z = .bl k ∧
  (if k = true then tc σ H3 fun w' H4 => r' y w' H4 Q else Q (.bl false) H3)
theorem pe_chain {op op' : CmpOp} {r r' : R2} (ho : OpR X (compareOp op) r) (ho' : OpR X (compareOp op') r') (ha : PE X a ta) (hb : PE X b tb) (hc : PE X c tc)
    (hm : lastMarks [op, op'] [b, c] = false := by with_unfolding_all rfl) : PE X (.Compare a [op, op'] [b, c] pos) (tChain r r' ta tb tc) := by
  intro pins s σ H Q I h
  refine Compare_chain (thn (ha pins s σ H _ I h) fun v s1 hPy => ob2_3 hPy fun x H1 I1 r1 q1 => chain_link (thn (hb pins s1 σ H1 _ I1 q1) fun u s2 ⟨y, H2, I2, r2, q2⟩ =>
    thn (ho pins s2 σ H2 x y v u _ I2 r1 r2 q2) fun d s3 ⟨z, H3, I3, r3, k, e, q3⟩ => ?_)) hm
  subst e
  cases r3
  refine wpAny_truthy_bool ?_
  cases k with
  | false => exact ite_ff ⟨.bl false, H3, I3, rfl, q3⟩
  | true => exact ite_tt (chain_last (thn (hc pins s3 σ H3 _ I3 q3) fun w' s4 hPy => ob2_3 hPy fun z' H4 I4 r4 q4 => ho' pins s4 σ H4 y z' u w' Q I4 r2 r4 q4))

/-! ### truth -/
theorem line63 : (sizeLine : Nat) < 2 ^ 63 := by rw [sizeLine_eq]; decide

/-! ### strs and bytes -/


/-! ### scalar builtins, by CallR -/
theorem vals1 {x : V} {us : List Value} (r : Vals [x] us) : ∃ u, us = [u] ∧ RelV x u := by
  cases r with
  | cons r1 r2 => cases r2; exact ⟨_, rfl, r1⟩
end
end L2

namespace L2
open PySem PySem.Spec PyProof.Rows

/-! ### an instance, its attributes a map -/
structure ObjM (h : Heap) (x dx C : Addr) (mA : Str → Option Value) : Prop where
  obj : h.get? x = some (PySem.W.instObj C dx)
  ns : h.Ns1 dx mA
  ne : dx ≠ x

theorem lookIn_ns {h : Heap} {dx : Addr} {mA : Str → Option Value} (n : h.Ns1 dx mA) : ∃ od, h.get? dx = some od ∧ ∀ name, PySem.W.lookIn name od = some (mA name) := by
  obtain ⟨o, es, ep, ho, hd, hk, _, hm⟩ := n
  refine ⟨o, ho, fun name => ?_⟩
  have e := hm name
  unfold nsFind findBy at e
  rw [← Array.find?_toList] at e
  unfold PySem.W.lookIn
  rw [hd]
  dsimp only
  split
  · rename_i y q
    rw [q] at e
    exact congrArg some e
  · rename_i q
    rw [q] at e
    have a : es.toList.any (·.refKey) = false := by
      rw [List.any_eq_false]
      intro y hy
      obtain ⟨z, t, hkey⟩ := hk y (Array.mem_toList_iff.mp hy)
      simp [DictEntry.refKey, hkey]
    have a' : ¬ es.toList.any (·.refKey) = true := by rw [a]; exact Bool.false_ne_true
    rw [if_neg a']
    exact congrArg some e

theorem ObjM.look {h : Heap} {x dx C : Addr} {mA : Str → Option Value} (I : ObjM h x dx C mA) : ∃ od, PySem.W.InstAt h x (PySem.W.instObj C dx) C (some od) ∧ ∀ name, PySem.W.lookIn name od = some (mA name) :=
  let ⟨od, ho, hl⟩ := lookIn_ns I.ns
  ⟨od, ⟨I.obj, rfl, rfl, ho⟩, hl⟩

section
variable {prog : Program} {w : World} {A : Around} {E : Value → Shared → Prop} {s : Shared} {K : PySem.W.Frag} {x dx C f : Addr} {mA : Str → Option Value} {name : Str} {v : Value}

theorem get_map {expr : Bool} {Q : Value → Shared → Prop} (X : K.In s.heap) (I : ObjM s.heap x dx C mA) (hg : PySem.W.plainGet K C name = true) (hh : PySem.W.hasDictIn K C = true)
    (ha : PySem.W.findIn K (.ref C) name = some none) (hv : mA name = some v) (hv' : PySem.W.handedIn v = true) (h : Q v { s with toks := s.toks + 1 }) :
    wpAny (model prog w) A (getAttr (.ref x) name expr) Q E s := by
  obtain ⟨od, J, hl⟩ := I.look
  exact PySem.W.get_value X J (PySem.W.plainGet_of hg).1 (PySem.W.findObj_own hh ha rfl (by rw [hl, hv])) hv' h


theorem get_meth {pl : Sem Bool} {Q : Value × List Value → Shared → Prop} (X : K.In s.heap) (I : ObjM s.heap x dx C mA) (hg : PySem.W.plainGet K C name = true)
    (hf : PySem.W.findIn K (.ref C) name = some (some (.ref f))) (ht : PySem.W.isFn K (.ref f) = true) (hv : mA name = none) (h : Q (.ref f, [.ref x]) s) :
    wpAny (model prog w) A (getMethod (.ref x) name pl) Q E s := by
  obtain ⟨od, J, hl⟩ := I.look
  exact PySem.W.method_fn X J (PySem.W.plainGet_of hg).1 (PySem.W.plainGet_of hg).2 hf (beq_iff_eq.mp ht) (by show (PySem.W.lookIn name od).map (·.isSome) = some false; rw [hl, hv]; rfl) h

theorem set_map {ns : List Str} {Q : Unit → Shared → Prop} (X : K.In s.heap) (I : ObjM s.heap x dx C mA)
    (hs : PySem.W.findIn K (.ref C) "__setattr__" = some (some (.builtin "object.__setattr__"))) (hp : PySem.W.plainOver K C = true) (ht : PySem.W.takerIn K C name = some none) (hh : PySem.W.hasDictIn K C = true)
    (hw : PySem.Within mA ns) (hsz : ns.length ≤ sizeLine)
    (h : ∀ h', ObjM h' x dx C (fun y => if y = name then some v else mA y) → Heap.SameBut dx s.heap h' → Q () { s with heap := h', toks := s.toks + 2 }) :
    wpAny (model prog w) A (setAttr (.ref x) name v) Q E s := by
  obtain ⟨od, J, hl⟩ := I.look
  refine PySem.W.set_plain X J hs (PySem.W.osa_open (s := { s with toks := s.toks + 1 }) (r := none) X J hp ht fun b => ?_)
  obtain ⟨cd, hc, hd'⟩ := PySem.W.any_some hh
  have hx : s.heap.get? x = some ⟨.ref C, some dx, .plain, #[]⟩ := I.obj
  refine wpAny_bind (wpAny_pure (wpAny_bind (wpAny_bind (wpAny_loadPart hx (wpAny_bind (PySem.W.Looks.here (s := { s with toks := s.toks + 1 }) (PySem.W.looks_clsIn X hc) ?_))))))
  rw [hd']
  refine wpAny_pure (a := some dx) (wpAny_bind (wpAny_pure (wpAny_bind ?_)))
  refine wpAny_nsSet1 (s := { s with toks := s.toks + 1 }) I.ns fun h' hn2 hs2 => ?_
  obtain ⟨oD, esD, epD, hoD, hdD, hcD⟩ := hn2.count (PySem.Within.cons name v hw)
  refine wpAny_bind (wpAny_lookBehind hoD (by rw [hdD]; exact pastItsLine_dict (Nat.le_trans hcD (by rw [List.length_cons]; (first | lia | omega)))) ?_)
  exact wpAny_pure (h _ ⟨(hs2.2 _ (Ne.symm I.ne)).trans I.obj, hn2, I.ne⟩ hs2)

/-- C(..): the dict at the heap's end, the instance behind it; then its __init__ -/
theorem make_map {R : Result → Shared → Prop} {vs : List Value} {kw : List (Str × Value)} (X : K.In s.heap) (hm : PySem.W.makesIn K C = true)
    (hi : PySem.W.findIn K (.ref C) "__init__" = some (some (.ref f))) (hf : PySem.W.typeIn K (.ref f) = some (.type "function"))
    (h : codeAny (model prog w) (A.under (.builtin "type.__call__" ⟨.ref C :: vs, kw⟩)) (.call (.ref f) ⟨.ref (s.heap.objs.size + 1) :: vs, kw⟩) (PySem.W.InitBack (s.heap.objs.size + 1) R)
      { s with heap := (s.heap.push PySem.W.emptyDict).push (PySem.W.instObj C s.heap.objs.size) }) :
    codeAny (model prog w) A (.call (.ref C) ⟨vs, kw⟩) R s := by
  obtain ⟨hh, g, d, t, os⟩ := s
  exact PySem.W.make_core (PySem.W.makes_of X hm) (PySem.W.looks_findIn X hi) (fun self => PySem.W.bind_fn X self hf) (.inl rfl) h
end

/-! ### the attributes as a list of pairs -/
def putF (f : Str) (v : V) : List (Str × V) → List (Str × V)
  | [] => [(f, v)]
  | (g, x) :: r => if g = f then (g, v) :: r else (g, x) :: putF f v r
theorem lookup_putF (f g : Str) (v : V) : ∀ fs : List (Str × V), (putF f v fs).lookup g = if g = f then some v else fs.lookup g
  | [] => by
    show List.lookup g [(f, v)] = _
    by_cases h : g = f
    · have hb : (g == f) = true := beq_iff_eq.mpr h
      simp only [List.lookup, hb, if_pos h]
    · have hb : (g == f) = false := beq_eq_false_iff_ne.mpr h
      simp only [List.lookup, hb, if_neg h]
  | (k, x) :: r => by
    have ih := lookup_putF f g v r
    rw [show putF f v ((k, x) :: r) = (if k = f then (k, v) :: r else (k, x) :: putF f v r) from rfl]
    by_cases hk : k = f
    · rw [if_pos hk]
      by_cases h : g = k
      · have hb : (g == k) = true := beq_iff_eq.mpr h
        simp only [List.lookup, hb, if_pos (h.trans hk)]
      · have hb : (g == k) = false := beq_eq_false_iff_ne.mpr h
        simp only [List.lookup, hb, if_neg (fun e : g = f => h (e.trans hk.symm))]
    · rw [if_neg hk]
      by_cases h : g = k
      · have hb : (g == k) = true := beq_iff_eq.mpr h
        simp only [List.lookup, hb, if_neg (fun e : g = f => hk (h.symm.trans e))]
      · have hb : (g == k) = false := beq_eq_false_iff_ne.mpr h
        simp only [List.lookup, hb]
        exact ih
theorem keys_putF (f : Str) (v : V) : ∀ fs : List (Str × V), f ∈ (putF f v fs).map (·.1) ∧ ∀ g, g ∈ fs.map (·.1) → g ∈ (putF f v fs).map (·.1)
  | [] => ⟨by simp [putF], fun g h => by simp at h⟩
  | (k, x) :: r => by
    obtain ⟨i1, i2⟩ := keys_putF f v r
    rw [show putF f v ((k, x) :: r) = (if k = f then (k, v) :: r else (k, x) :: putF f v r) from rfl]
    by_cases hk : k = f
    · rw [if_pos hk]
      subst hk
      exact ⟨by simp, fun g h => by simpa using h⟩
    · rw [if_neg hk]
      refine ⟨?_, fun g h => ?_⟩
      · rw [List.map_cons]
        exact List.mem_cons_of_mem _ i1
      · rw [List.map_cons] at h ⊢
        rcases List.mem_cons.mp h with e | e
        · exact List.mem_cons.mpr (.inl e)
        · exact List.mem_cons_of_mem _ (i2 g e)
theorem length_putF (f : Str) (v : V) : ∀ fs : List (Str × V), (putF f v fs).length ≤ fs.length + 1
  | [] => by simp [putF]
  | (k, x) :: r => by
    have ih := length_putF f v r
    rw [show putF f v ((k, x) :: r) = (if k = f then (k, v) :: r else (k, x) :: putF f v r) from rfl]
    by_cases hk : k = f
    · rw [if_pos hk, List.length_cons, List.length_cons]; (first | lia | omega)
    · rw [if_neg hk, List.length_cons, List.length_cons]; (first | lia | omega)

theorem RelO.some_of {v : V} {o : Option Value} (r : RelO (some v) o) : ∃ u, o = some u ∧ RelV v u := by
  cases o with
  | none => exact (show False from r).elim
  | some u => exact ⟨u, rfl, r⟩
theorem RelO.none_of {o : Option Value} (r : RelO none o) : o = none := by
  cases o with
  | none => rfl
  | some u => exact (show False from r).elim
theorem handed_of {v : V} {u : Value} (r : RelV v u) : PySem.W.handedIn u = true := by
  cases v with
  | non => cases (show u = Value.none from r); rfl
  | bl b => cases (show u = Value.bool b from r); rfl
  | int i => obtain ⟨t, e⟩ := (show ∃ t, u = Value.int i t from r); cases e; rfl
  | str x => obtain ⟨t, e⟩ := (show ∃ t, u = Value.str x t from r); cases e; rfl
  | byt b => obtain ⟨t, e⟩ := (show ∃ t, u = Value.bytes b t from r); cases e; rfl
  | flt b => obtain ⟨t, e⟩ := (show ∃ t, u = Value.float b t from r); cases e; rfl
  | ref a => cases (show u = Value.ref a from r); rfl
  | ty n => cases (show u = Value.type n from r); rfl

section
variable {P : Program} {w : World} {H H' : Hp} {h h' : Heap} {a C dx : Addr} {fs fs' : List (Str × V)}
theorem ins_get (hok : HOk P w H h) (e : H a = some (.ins C dx fs)) : ∃ mA, ObjM h a dx C mA ∧ (∀ f, RelO (fs.lookup f) (mA f)) ∧ PySem.Within mA (fs.map (·.1)) ∧ fs.length ≤ 1000 ∧ H dx = some (.own a) := by
  obtain ⟨d, z, ne, ob, mA, n, r, q⟩ := (show ObjOk P w H h a (.ins C dx fs) from hok a _ e)
  exact ⟨mA, ⟨ob, n, ne⟩, r, q, z, d⟩
end

/-! ### what of the text a class must have -/
structure Cls (K : PySem.W.Frag) (C : Addr) : Prop where
  pg : PySem.W.plainGet K C Str.empty = true
  hd : PySem.W.hasDictIn K C = true
  po : PySem.W.plainOver K C = true
  sa : PySem.W.findIn K (.ref C) "__setattr__" = some (some (.builtin "object.__setattr__"))
theorem Cls.get {K : PySem.W.Frag} {C : Addr} (c : Cls K C) (f : Str) : PySem.W.plainGet K C f = true := c.pg
/-- no class of it has the name -/
def NoAttr (K : PySem.W.Frag) (C : Addr) (f : Str) : Prop := PySem.W.findIn K (.ref C) f = some none
theorem NoAttr.taker {K : PySem.W.Frag} {C : Addr} {f : Str} (n : NoAttr K C f) : PySem.W.takerIn K C f = some none := by
  unfold PySem.W.takerIn
  rw [show PySem.W.findIn K (.ref C) f = some none from n]
  rfl
/-- a method: a plain def of the class or of one above it -/
structure Meth (K : PySem.W.Frag) (C : Addr) (m : Str) (f : Addr) : Prop where
  at_ : PySem.W.findIn K (.ref C) m = some (some (.ref f))
  fn : PySem.W.isFn K (.ref f) = true
  kp : PySem.W.keepIn K (.ref f) = true

section
variable {X : Cx} {pins : List (Addr × Obj)} {σ : St} {H : Hp} {s : Shared} {a C dx : Addr} {fs : List (Str × V)} {f : Str} {v : V} {A : Around} {E : Value → Shared → Prop}

theorem getattr_ok {b : Bool} {Q : Value → Shared → Prop} (I : Inv X pins σ H s) (e : H a = some (.ins C dx fs)) (c : Cls X.K C) (n : NoAttr X.K C f) (l : fs.lookup f = some v)
    (h : ∀ u s', Inv X pins σ H s' → RelV v u → Q u s') : wpAny (model X.prog X.w) A (getAttr (.ref a) f b) Q E s := by
  obtain ⟨mA, O, r, _, _, _⟩ := ins_get I.hok e
  obtain ⟨u, hu, ru⟩ := RelO.some_of (v := v) (o := mA f) (by rw [← l]; exact r f)
  exact get_map I.kIn O (c.get f) c.hd n hu (handed_of ru) (h u _ (I.tok _) ru)


theorem getmeth_ok {m : Str} {g : Addr} {pl : Sem Bool} {Q : Value × List Value → Shared → Prop} (I : Inv X pins σ H s) (e : H a = some (.ins C dx fs)) (c : Cls X.K C) (k : Meth X.K C m g) (l : fs.lookup m = none)
    (h : Q (.ref g, [.ref a]) s) : wpAny (model X.prog X.w) A (getMethod (.ref a) m pl) Q E s := by
  obtain ⟨mA, O, r, _, _, _⟩ := ins_get I.hok e
  have hn : mA m = none := RelO.none_of (by rw [← l]; exact r m)
  exact get_meth I.kIn O (c.get m) k.at_ k.fn hn h

theorem setattr_ok {y : V} {u : Value} {Q : Unit → Shared → Prop} (I : Inv X pins σ H s) (e : H a = some (.ins C dx fs)) (c : Cls X.K C) (n : NoAttr X.K C f) (hl : fs.length < 1000) (ry : RelV y u)
    (h : ∀ s', Inv X pins σ (upd H a (.ins C dx (putF f y fs))) s' → Q () s') : wpAny (model X.prog X.w) A (setAttr (.ref a) f u) Q E s := by
  obtain ⟨mA, O, r, wi, _, ho⟩ := ins_get I.hok e
  have hz : (fs.map (·.1)).length ≤ sizeLine := by rw [List.length_map, sizeLine_eq]; (first | lia | omega)
  refine set_map I.kIn O c.sa c.po n.taker c.hd wi hz fun h' O' sb => h _ ?_
  have hd : ∃ o, h'.get? dx = some o := let ⟨o, _, _, e', _⟩ := O'.ns; ⟨o, e'⟩
  refine I.write (x := a) (e := dx) (by rw [e]; exact True.intro) (.inr ho) (fun b q hb z => (sb.2 b hb).trans z) hd ?_
  refine ⟨by rw [upd_ne O.ne]; exact ho, ?_, O.ne, O'.obj, _, O'.ns, fun g => ?_, fun g hg => ?_⟩
  · have := length_putF f y fs; (first | lia | omega)
  · show RelO ((putF f y fs).lookup g) (if g = f then some u else mA g)
    rw [lookup_putF]
    by_cases q : g = f
    · rw [if_pos q, if_pos q]; exact ry
    · rw [if_neg q, if_neg q]; exact r g
  · by_cases q : g = f
    · rw [q]; exact (keys_putF f y fs).1
    · refine (keys_putF f y fs).2 g (wi g fun z => hg ?_)
      show (if g = f then some u else mA g) = none
      rw [if_neg q]; exact z

/-- a new instance, tracked, without attributes -/
theorem Inv.made (I : Inv X pins σ H s) : Inv X pins σ (upd (upd H s.heap.objs.size (.own (s.heap.objs.size + 1))) (s.heap.objs.size + 1) (.ins C s.heap.objs.size []))
    { s with heap := (s.heap.push PySem.W.emptyDict).push (PySem.W.instObj C s.heap.objs.size) } := by
  have e1 : (s.heap.push PySem.W.emptyDict).get? s.heap.objs.size = some PySem.W.emptyDict := Heap.get?_push_size s.heap rfl
  have e2 : ((s.heap.push PySem.W.emptyDict).push (PySem.W.instObj C s.heap.objs.size)).get? (s.heap.objs.size + 1) = some (PySem.W.instObj C s.heap.objs.size) := by
    have := Heap.get?_push_size (s.heap.push PySem.W.emptyDict) (o := PySem.W.instObj C s.heap.objs.size) rfl
    rwa [Heap.size_push] at this
  have e3 : (s.heap.push PySem.W.emptyDict).Ns s.heap.objs.size (fun _ => none) := ⟨PySem.W.emptyDict, #[], _, e1, rfl, (fun e he => absurd he (by simp)), fun _ => rfl⟩
  have I1 := I.laid (a := s.heap.objs.size) (o := .own (s.heap.objs.size + 1)) (h' := s.heap.push PySem.W.emptyDict) (t' := s.toks) (fun b u q => Heap.get?_push_of_some _ q) (Nat.le_refl _) ⟨_, e1⟩
  refine I1.laid (a := s.heap.objs.size + 1) (o := .ins C s.heap.objs.size []) (t' := s.toks) (fun b u q => Heap.get?_push_of_some _ q) (Nat.le_of_eq (Heap.size_push _ _)) ?_
  have ne : s.heap.objs.size ≠ s.heap.objs.size + 1 := Nat.ne_of_lt (Nat.lt_succ_self _)
  refine ⟨by rw [upd_ne ne, upd_same], Nat.zero_le _, ne, e2, fun _ => none, (Heap.Ns1.of_empty e3).at fun o q => Heap.get?_push_of_some _ q, fun _ => True.intro, fun y hy => absurd rfl hy⟩

/-- e.f where nothing but the object is asked: through attributeBase (super) and the last hold -/
theorem attr_of {prog : Program} {w : World} {env : Env} {e : Expr} {f : Str} {pos : Pos} {s : Shared} {Q : Value → Shared → Prop} (hb : attributeBase e f env (eval e env) = eval e env)
    (h : wpAny (model prog w) A (eval e env) (fun o s₁ => wpAny (model prog w) A (getAttr o f true) Q E s₁) E s) : wpAny (model prog w) A (eval (.Attribute e f pos) env) Q E s :=
  Attribute_any_ h (by rw [arm_eval_Attribute, hb])
end

/-! ### readings and rules -/
/-- e.f, an attribute of the instance -/
def tFld (K : PySem.W.Frag) (ta : TE) (f : Str) : TE := fun σ H Q => ta σ H fun x H1 => ∃ a C dx fs v, x = .ref a ∧ H1 a = some (.ins C dx fs) ∧ Cls K C ∧ NoAttr K C f ∧ fs.lookup f = some v ∧ Q v H1
/-- e.f = value -/
def sFld (K : PySem.W.Frag) (ta tv : TE) (f : Str) : TS := fun D σ H => tv σ H fun y H1 => ta σ H1 fun x H2 => ∃ a C dx fs, x = .ref a ∧ H2 a = some (.ins C dx fs) ∧ Cls K C ∧ NoAttr K C f ∧ fs.length < 1000 ∧
  D.nx σ (upd H2 a (.ins C dx (putF f y fs)))

section
variable {X : Cx} {o e value : Expr} {f : Str} {pos pos' tpos : Pos} {ta tv : TE}
theorem pe_fld (he : PE X e ta) (hb : attributeBase e f X.env (eval e X.env) = eval e X.env) : PE X (.Attribute e f pos) (tFld X.K ta f) := by
  intro pins s σ H Q I h
  refine attr_of hb (thn (he pins s σ H _ I h) fun u s1 hPz => ?_); obtain ⟨x, H1, I1, rx, a, C, dx, fs, v, ex, ea, c, n, l, q⟩ := hPz
  subst ex
  obtain rfl : u = Value.ref a := rx
  exact getattr_ok I1 ea c n l fun u' s2 I2 ru => ⟨v, H1, I2, ru, q⟩
theorem ps_fld (ha : PE X o ta) (hv : PE X value tv) (hs : swapsWith value (some (.Attribute o f pos')) pos.line X.env = pure false) : PS X (.Assign [.Attribute o f pos'] value pos) (sFld X.K ta tv f) := by
  intro pins s σ H D I h
  refine plainObj_wpAny_Assign_Attribute (thn (hv pins s σ H _ I h) fun u s1 hPy => ob2_3 hPy fun y H1 I1 ry q => thn (ha pins s1 σ H1 _ I1 q) fun ov s2 hPz => ?_) hs; obtain ⟨x, H2, I2, rx, a, C, dx, fs, ex, ea, c, n, l, q2⟩ := hPz
  subst ex
  obtain rfl : ov = Value.ref a := rx
  exact setattr_ok I2 ea c n l ry fun s3 I3 => ⟨σ, _, I3, q2⟩

/-- what is between an instance and its method: the tree of a method call -/
theorem methcall_of {pl : Sem Bool} {m : Str} {apos : Pos} {args : List Expr} {pins : List (Addr × Obj)} {s : Shared} {σ : St} {H : Hp} {Q : Value → Shared → Prop} {te : TE} (he : PE X e te) (I : Inv X pins σ H s)
    (h : te σ H fun x H1 => ∃ a C dx fs g, x = .ref a ∧ H1 a = some (.ins C dx fs) ∧ Cls X.K C ∧ Meth X.K C m g ∧ fs.lookup m = none ∧
      ∀ s1, Inv X pins σ H1 s1 → wpAny (model X.prog X.w) X.A (callWith pos (.ref g) [.ref a] (backTo pos (starEach args X.env)) (backToKw pos (keywordEach [] X.env))) Q X.xe s1)
    (ht : eval (.Call (.Attribute e m apos) args [] pos) X.env = (do
      let ov ← eval e X.env
      standAt apos.atName
      let (f, first) ← holding [ov] (getMethod ov m pl)
      callWith pos f first (backTo pos (starEach args X.env)) (backToKw pos (keywordEach [] X.env)))) :
    wpAny (model X.prog X.w) X.A (eval (.Call (.Attribute e m apos) args [] pos) X.env) Q X.xe s := by
  refine PySem.W.methodCall_KW (pl := pl) (thn (he pins s σ H _ I h) fun u s1 hPz => ?_) ht; obtain ⟨x, H1, I1, rx, a, C, dx, fs, g, ex, ea, c, k, l, q⟩ := hPz
  subst ex
  obtain rfl : u = Value.ref a := rx
  exact getmeth_ok I1 ea c k l (q s1 I1)
end

/-! ### isinstance -/
section
variable {X : Cx} {pins : List (Addr × Obj)} {σ : St} {H : Hp} {s : Shared} {A : Around} {E : Value → Shared → Prop} {Q : Value → Shared → Prop} {c : Value} {b : Bool}
/-- the type of a value, as the fragment's deciders take it; for an instance its class -/
inductive TyOf (K : PySem.W.Frag) (H : Hp) : V → Value → Prop where
  | non : TyOf K H .non (.type "NoneType")
  | bl (x : Bool) : TyOf K H (.bl x) (.type "bool")
  | int (i : Int) : TyOf K H (.int i) (.type "int")
  | str (x : Str) : TyOf K H (.str x) (.type "str")
  | flt (x : UInt64) : TyOf K H (.flt x) (.type "float")
  | lst {a : Addr} {xs : List V} (e : H a = some (.lst xs)) : TyOf K H (.ref a) (.type "list")
  | frz {a : Addr} {o : Obj} {xs : List V} (e : H a = some (.frz o (.lst xs))) : TyOf K H (.ref a) (.type "list")
  | tup {a : Addr} {xs : List V} (e : H a = some (.tup xs)) : TyOf K H (.ref a) (.type "tuple")
  | dK {a : Addr} {kvs : List (Key × V)} (e : H a = some (.dK kvs)) : TyOf K H (.ref a) (.type "dict")
  | dT {a : Addr} {kvs : List (List Key × V)} (e : H a = some (.dT kvs)) : TyOf K H (.ref a) (.type "dict")
  | ins {a C dx : Addr} {fs : List (Str × V)} (e : H a = some (.ins C dx fs)) (cl : Cls K C) (ha : PySem.W.findIn K (.ref C) "__class__" = some (some (.builtin "object.__class__")))
      (hn : PySem.W.specialIn K (.builtin "object.__class__") "__get__" = some (some (.builtin "getset_descriptor.__get__"))) (htk : PySem.W.takesIn K (.builtin "object.__class__") = some true)
      (hm : PySem.W.mroIn K C (.type "object") = some true) : TyOf K H (.ref a) (.ref C)
/-- isinstance(x, c) for one class c, a built-in or an own one: kitOne's answer -/
theorem isinst_ok {x : V} {u t : Value} (I : Inv X pins σ H s) (rx : RelV x u) (ty : TyOf X.K H x t) (e : PySem.W.kitOne X.K t c = some b) (h : ∀ tk, Q (.bool b) { s with toks := tk }) :
    wpAny (model X.prog X.w) A (call (.builtin "isinstance") [u, c]) Q E s := by
  cases ty with
  | non => cases (show u = Value.none from rx); exact PySem.W.kia_one PySem.W.kitx_none I.kIn True.intro e (fun z => nomatch z) h
  | bl y => cases (show u = Value.bool y from rx); exact PySem.W.kia_one PySem.W.kitx_bool I.kIn True.intro e (fun z => nomatch z) h
  | int i => obtain ⟨t, q⟩ := (show ∃ t, u = Value.int i t from rx); cases q; exact PySem.W.kia_one PySem.W.kitx_int I.kIn True.intro e (fun z => nomatch z) h
  | str y => obtain ⟨t, q⟩ := (show ∃ t, u = Value.str y t from rx); cases q; exact PySem.W.kia_one PySem.W.kitx_str I.kIn True.intro e (fun z => nomatch z) h
  | flt y => obtain ⟨t, q⟩ := (show ∃ t, u = Value.float y t from rx); cases q; exact PySem.W.kia_one PySem.W.kitx_float I.kIn True.intro e (fun z => nomatch z) h
  | @lst a xs ea =>
    cases (show u = Value.ref a from rx)
    obtain ⟨_, _, n, _, h1⟩ := (show ObjOk X.prog X.w H s.heap a (.lst xs) from I.hok a _ ea)
    exact PySem.W.kia_one PySem.W.kitx_list I.kIn ⟨_, h1, rfl⟩ e (fun z => nomatch z) h
  | @frz a ob xs ea =>
    cases (show u = Value.ref a from rx)
    obtain ⟨_, _, _, n, _, h1⟩ := (show ObjOk X.prog X.w H s.heap a (.frz ob (.lst xs)) from I.hok a _ ea)
    exact PySem.W.kia_one PySem.W.kitx_list I.kIn ⟨_, h1, rfl⟩ e (fun z => nomatch z) h
  | @tup a xs ea =>
    cases (show u = Value.ref a from rx)
    obtain ⟨_, _, _, p⟩ := (show ObjOk X.prog X.w H s.heap a (.tup xs) from I.hok a _ ea)
    obtain ⟨o, h1, h2, _⟩ := p
    exact PySem.W.kia_one PySem.W.kitx_tuple I.kIn ⟨o, h1, h2⟩ e (fun z => nomatch z) h
  | @dK a kvs ea =>
    cases (show u = Value.ref a from rx)
    obtain ⟨_, _, vs, _, p⟩ := (show ObjOk X.prog X.w H s.heap a (.dK kvs) from I.hok a _ ea)
    obtain ⟨o, es, ep, h1, h2, _⟩ := p
    exact PySem.W.kia_one PySem.W.kitx_dict I.kIn ⟨o, h1, h2.1⟩ e (fun z => nomatch z) h
  | @dT a kvs ea =>
    cases (show u = Value.ref a from rx)
    obtain ⟨_, _, xs, _, o, es, ep, h1, h2, _⟩ := (show ObjOk X.prog X.w H s.heap a (.dT kvs) from I.hok a _ ea)
    exact PySem.W.kia_one PySem.W.kitx_dict I.kIn ⟨o, h1, h2.1⟩ e (fun z => nomatch z) h
  | @ins a C dx fs ea cl ha hn htk hm =>
    cases (show u = Value.ref a from rx)
    obtain ⟨mA, O, _⟩ := ins_get I.hok ea
    obtain ⟨od, J, _⟩ := O.look
    exact PySem.W.kia_one (PySem.W.kitx_own (cl.get _) cl.hd ha hn htk hm) I.kIn J e (fun z => nomatch z) h
end
end L2

namespace L2
open PySem PySem.Spec PyProof.Rows

/-! ### room -/
structure Room (k : Nat) (A : Around) : Prop where
  hd : A.handled = none
  dp : A.depth + 3 * k + 5 < recursionLimit
  un : A.units + 16 * k + 200 < cLine
theorem Room.mono {j k : Nat} {A : Around} (r : Room k A) (h : j ≤ k) : Room j A := ⟨r.hd, by have := r.dp; (first | lia | omega), by have := r.un; (first | lia | omega)⟩
theorem Room.deeper {k : Nat} {A : Around} (r : Room (k + 1) A) (env : Env) : Room k (A.deeper env) :=
  ⟨r.hd, by have := r.dp; show A.depth + 1 + 3 * k + 5 < _; (first | lia | omega), by have := r.un; show A.units + 3 + 16 * k + 200 < _; (first | lia | omega)⟩
theorem make_depth {A : Around} {C : Addr} {us : List Value} {kw : List (Str × Value)} : (A.under (.builtin "type.__call__" ⟨.ref C :: us, kw⟩)).depth = A.depth + 1 := by
  first | rfl | simp [Around.under, Code.weight, Code.isCreation, Code.isGuard, Code.isCaller, Code.frames, Code.isFrame, guardIds]
theorem make_units {A : Around} {C : Addr} {us : List Value} {kw : List (Str × Value)} : (A.under (.builtin "type.__call__" ⟨.ref C :: us, kw⟩)).units = A.units + 1 := by
  first | rfl | simp [Around.under, Code.cUnits, Code.frames, Code.isFrame]
theorem Room.make {k : Nat} {A : Around} (r : Room (k + 1) A) (C : Addr) (us : List Value) (kw : List (Str × Value)) : Room k (A.under (.builtin "type.__call__" ⟨.ref C :: us, kw⟩)) :=
  ⟨r.hd, by have := r.dp; rw [make_depth]; (first | lia | omega), by have := r.un; rw [make_units]; (first | lia | omega)⟩
theorem Room.depth {k : Nat} {A : Around} (r : Room k A) : A.depth < recursionLimit := by have := r.dp; (first | lia | omega)
theorem Room.units {k : Nat} {A : Around} (r : Room k A) : A.units + 64 < cLine := by have := r.un; (first | lia | omega)

/-! ### argument lists and displays -/
def tNil : TA := fun _ H Q => Q [] H
def tCons (ta : TE) (tr : TA) : TA := fun σ H Q => ta σ H fun x H1 => tr σ H1 fun xs H2 => Q (x :: xs) H2
section
variable {X : Cx} {e : Expr} {es : List Expr} {te : TE} {t : TA} {pos : Pos}
theorem pa_nil : PA X [] tNil := fun _ _ _ _ H Q I h => Calls.spliced_nil ⟨[], H, I, .nil, h⟩
theorem pa_cons (ha : PE X e te) (hr : PA X es t) (hs : starEach (e :: es) X.env = (false, eval e X.env) :: starEach es X.env := by rfl) : PA X (e :: es) (tCons te t) := by
  intro pos pins s σ H Q I h
  rw [hs]
  show wpAny _ _ (spliced ((false, eval e X.env) :: backTo pos (starEach es X.env))) _ _ s
  refine Calls.spliced_cons (thn (ha pins s σ H _ I h) fun u s1 hPz => ?_); obtain ⟨x, H1, I1, r1, q1⟩ := hPz
  exact thn (hr pos pins s1 σ H1 _ I1 q1) fun us s2 hPy => ob2_3 hPy fun xs H2 I2 r2 q2 => ⟨x :: xs, H2, I2, .cons r1 r2, q2⟩

/-- a tuple, a list of written items -/
def tTup (t : TA) : TE := fun σ H Q => t σ H fun xs H1 => xs.length ≤ sizeLine ∧ ∀ p, H1 p = none → Q (.ref p) (upd H1 p (.tup xs))
def tLst (t : TA) : TE := fun σ H Q => t σ H fun xs H1 => xs.length ≤ sizeLine ∧ ∀ p, H1 p = none → Q (.ref p) (upd H1 p (.lst xs))
theorem pe_tup {x1} (h : PA X es t) : PE X (.Tuple es x1 pos) (tTup t) := by
  intro pins s σ H Q I hq
  refine wpAny_Tuple_spliced (thn (h pos pins s σ H _ I hq) fun us s1 ⟨xs, H1, I1, r, z, q⟩ => ⟨by rw [← r.length]; exact z, ?_⟩)
  have hf : H1 s1.heap.objs.size = none := I1.hok.fresh (Nat.le_refl _)
  refine ⟨.ref s1.heap.objs.size, upd H1 s1.heap.objs.size (.tup xs), I1.laid (t' := s1.toks) (fun b u e => Heap.get?_push_of_some _ e) (Nat.le_refl _) ?_, rfl, q _ hf⟩
  exact ⟨z, us, r, ⟨_, Heap.get?_push_size _ rfl, rfl, _, rfl⟩⟩
theorem pe_lst (h : PA X es t) : PE X (.List es pos) (tLst t) := by
  intro pins s σ H Q I hq
  refine wpAny_List_spliced (thn (h pos pins s σ H _ I hq) fun us s1 ⟨xs, H1, I1, r, z, q⟩ => ⟨by rw [← r.length]; exact z, ?_⟩)
  have hf : H1 s1.heap.objs.size = none := I1.hok.fresh (Nat.le_refl _)
  refine ⟨.ref s1.heap.objs.size, upd H1 s1.heap.objs.size (.lst xs), I1.laid (t' := s1.toks) (fun b u e => Heap.get?_push_of_some _ e) (Nat.le_refl _) ?_, rfl, q _ hf⟩
  exact ⟨z, us, 0, r, Heap.get?_push_size _ rfl⟩
end

/-! ### what a def promises -/
/-- a def's promise: the bound arguments in the parameters' order, the heap, the wanted end, the wanted exception -/
abbrev Sp := List V → Hp → VK → XK → Prop
/-- how an exception lies behind a call (file 08 gives it): the callers' frames, abstract heap and state ahead of the call, the wish, the exception, the state -/
abbrev CXT := List Env → Hp → Shared → XK → Value → Shared → Prop

/-- the state at a call -/
structure Env0 (P : Program) (w : World) (K : PySem.W.Frag) (mg : Str → Option Value) (base : Heap) (A : Around) (outer : List Env) (s : Shared) (H : Hp) : Prop where
  frames : A.frames = some outer
  mod : Mod K mg base
  bs : ∀ b o, base.get? b = some o → s.heap.get? b = some o ∧ H b = none
  bsz : base.objs.size ≤ s.heap.objs.size
  funs : s.heap.FunFrames base outer
  frf : ∀ b ∈ frs outer, H b = none
  hok : HOk P w H s.heap
  bare : AllBare s.gens
/-- a call's end -/
def CE (outer : List Env) (P : Program) (w : World) (H : Hp) (s : Shared) (Q : VK) (u : Value) (s' : Shared) : Prop :=
  ∃ v H', s'.os = s.os ∧ AllBare s'.gens ∧ Un (frs outer) [] H H' s.heap s'.heap ∧ HOk P w H' s'.heap ∧ RelV v u ∧ Q v H'
def CR (CX : CXT) (outer : List Env) (P : Program) (w : World) (H : Hp) (s : Shared) (Q : VK) (E : XK) (r : Result) (s' : Shared) : Prop :=
  match r with
  | .ok (.ret u) => CE outer P w H s Q u s'
  | .ok _ => False
  | .error e => CX outer H s E e s'
structure FnOk (P : Program) (w : World) (K : PySem.W.Frag) (mg : Str → Option Value) (base : Heap) (CX : CXT) (k : Nat) (f : Addr) (fd : FuncData) (ps : List Str) (sp : Sp) : Prop where
  len : ∀ vs H Q E, sp vs H Q E → vs.length = ps.length
  run : ∀ (A : Around) (outer : List Env) (s : Shared) (H : Hp) (args : Args) (us : List Value) (vs : List V) (Q : VK) (E : XK), Room k A → Env0 P w K mg base A outer s H → BindsTo s fd args (ps.zip us) → Vals vs us → sp vs H Q E →
    codeAny (model P w) A (.call (.ref f) args) (CR CX outer P w H s Q E) s

theorem Env0.make {P : Program} {w : World} {K : PySem.W.Frag} {mg : Str → Option Value} {base : Heap} {A : Around} {outer : List Env} {s : Shared} {H : Hp} (e : Env0 P w K mg base A outer s H) (C : Addr) (us : List Value) (kw : List (Str × Value)) :
    Env0 P w K mg base (A.under (.builtin "type.__call__" ⟨.ref C :: us, kw⟩)) outer s H := ⟨by first | exact e.frames | (simpa [Around.under, Code.envs, Code.isFrame, pushEnvs] using e.frames), e.mod, e.bs, e.bsz, e.funs, e.frf, e.hok, e.bare⟩

section
variable {X : Cx} {pins : List (Addr × Obj)} {σ : St} {H : Hp} {s s' : Shared}
/-- from a body: what a callee wants -/
theorem Inv.env0 (I : Inv X pins σ H s) : Env0 X.prog X.w X.K X.mg X.base X.A X.stack s H :=
  ⟨I.ok.frames, I.ok.mod, I.bs, Nat.le_trans I.ok.bsz I.sz, I.stack, I.stkFree, I.hok, I.bare⟩
/-- behind a call -/
theorem Inv.after {Q : VK} {u : Value} (I : Inv X pins σ H s) (h : CE X.stack X.prog X.w H s Q u s') : EP X pins σ Q u s' := by
  obtain ⟨v, H', os, bare, un, hok, r, q⟩ := h
  obtain ⟨hh, g, d, t, os'⟩ := s'
  obtain rfl : os' = s.os := os
  exact ⟨v, H', I.call (h' := hh) (g' := g) (d' := d) (t' := t) (ch := []) un hok bare (fun b z => absurd z (by simp)), r, q⟩
end

/-! ### calls -/
/-- f(..): the written arguments, then the defaults dvs; E: what is wanted of an exception -/
def tCall (sp : Sp) (dvs : List V) (E : XK) (t : TA) : TE := fun σ H Q => t σ H fun vs H1 => sp (vs ++ dvs) H1 Q E
/-- o.m(..) of an instance of the class at C -/
def tMeth (C : Addr) (m : Str) (sp : Sp) (dvs : List V) (E : XK) (ta : TE) (t : TA) : TE := fun σ H Q => ta σ H fun x H1 => ∃ a dx fs, x = .ref a ∧ H1 a = some (.ins C dx fs) ∧ fs.lookup m = none ∧
  t σ H1 fun vs H2 => sp (x :: (vs ++ dvs)) H2 Q E
/-- C(..): a new instance and its dict, then __init__ -/
def tMake (C : Addr) (sp : Sp) (dvs : List V) (E : XK) (t : TA) : TE := fun σ H Q => t σ H fun vs H1 => ∀ x dx, H1 x = none → H1 dx = none → dx ≠ x →
  sp (.ref x :: (vs ++ dvs)) (upd (upd H1 dx (.own x)) x (.ins C dx [])) (fun v H2 => v = .non ∧ Q (.ref x) H2) E

/-- how the parameters are bound: us the positional arguments, kw the keywords' values by name, ds the defaults that fill up -/
def Binds (K : PySem.W.Frag) (fd : FuncData) (ps : List Str) (ds : List Value) : Prop :=
  ∀ (s : Shared) (us : List Value), K.In s.heap → (us ++ ds).length = ps.length → BindsTo s fd ⟨us, []⟩ (ps.zip (us ++ ds))
/-- every parameter is given -/
theorem Binds.all {K : PySem.W.Frag} {fd : FuncData} {ps : List Str} (h : ∀ us : List Value, us.length = ps.length → bindArgs fd ⟨us, []⟩ = pure (ps.zip us)) : Binds K fd ps [] := fun s us _ hl => by
  rw [List.append_nil] at hl ⊢
  exact .of_eq (h us hl)

/-- an exception of a callee reaches what this body wants of exceptions -/
def Passes (CX : CXT) (X : Cx) (E : XK) : Prop := ∀ (pins : List (Addr × Obj)) (σ : St) (H : Hp) (s : Shared) (e : Value) (s' : Shared), Inv X pins σ H s → CX X.stack H s E e s' → X.xe e s'

section
variable {X : Cx} {CX : CXT} {k : Nat} {f C : Addr} {fd : FuncData} {ps : List Str} {sp : Sp} {dvs : List V} {ds : List Value} {E : XK} {x m : Str} {p pos apos : Pos} {e o : Expr} {es : List Expr} {ta : TE} {t : TA}

/-- the callee runs -/
theorem run_fn {pins : List (Addr × Obj)} {σ : St} {H : Hp} {s : Shared} {Q : VK} {us : List Value} {vs : List V} (F : FnOk X.prog X.w X.K X.mg X.base CX k f fd ps sp) (hr : Room k X.A) (hb : Binds X.K fd ps ds) (hd : Vals dvs ds) (hx : Passes CX X E)
    (I : Inv X pins σ H s) (r : Vals vs us) (h : sp (vs ++ dvs) H Q E) : wpAny (model X.prog X.w) X.A (call (.ref f) us) (EP X pins σ Q) X.xe s := by
  have r2 : Vals (vs ++ dvs) (us ++ ds) := r.append hd
  have hl : (us ++ ds).length = ps.length := by rw [← r2.length]; exact F.len _ _ _ _ h
  refine wpAny_call (codeAny_mono (F.run X.A X.stack s H ⟨us, []⟩ (us ++ ds) (vs ++ dvs) Q E hr I.env0 (hb s us I.kIn hl) r2 h) fun r s' hq => ?_)
  cases r with
  | error e => exact hx pins σ H s e s' I hq
  | ok fl =>
    cases fl with
    | ret u => exact I.after hq
    | next => exact False.elim hq
    | brk => exact False.elim hq
    | cont => exact False.elim hq

theorem pe_call (F : FnOk X.prog X.w X.K X.mg X.base CX k f fd ps sp) (hr : Room k X.A) (hg : Gl X x) (hm : X.mg x = some (.ref f)) (hk : PySem.W.keepIn X.K (.ref f) = true) (hb : Binds X.K fd ps ds) (hd : Vals dvs ds) (hx : Passes CX X E)
    (ha : PA X (e :: es) t) (hdb : (x == ("__debug__" : Str)) = false := by decide) (he : starEach (e :: es) X.env = (false, eval e X.env) :: starEach es X.env := by rfl) (hpl : (backTo pos (starEach es X.env)).any (·.1) = false := by rfl) :
    PE X (.Call (.Name x p) (e :: es) [] pos) (tCall sp dvs E t) := by
  intro pins s σ H Q I h
  refine wpAny_Call_Name_kw (ld_glob I hg hm ?_ hdb)
  refine PySem.W.callWith_K (h₀ := X.base) I.ok.mod.kin hk (thn (ha pos pins s σ H _ I h) fun us s1 hPy => ob2_3 hPy fun vs H1 I1 r q => ⟨I1.kIn, ?_⟩) he hpl
  exact run_fn F hr hb hd hx I1 r q

/-- o.m(e, ..) -/
theorem pe_meth {pl : Sem Bool} (he : PE X o ta) (c : Cls X.K C) (hm : Meth X.K C m f) (F : FnOk X.prog X.w X.K X.mg X.base CX k f fd ps sp) (hr : Room k X.A) (hb : Binds X.K fd ps ds) (hd : Vals dvs ds) (hx : Passes CX X E) (ha : PA X (e :: es) t)
    (hst : starEach (e :: es) X.env = (false, eval e X.env) :: starEach es X.env := by rfl) (hpl : (backTo pos (starEach es X.env)).any (·.1) = false := by rfl)
    (ht : eval (.Call (.Attribute o m apos) (e :: es) [] pos) X.env = (do
      let ov ← eval o X.env
      standAt apos.atName
      let (f, first) ← holding [ov] (getMethod ov m pl)
      callWith pos f first (backTo pos (starEach (e :: es) X.env)) (backToKw pos (keywordEach [] X.env))) := by rfl) :
    PE X (.Call (.Attribute o m apos) (e :: es) [] pos) (tMeth C m sp dvs E ta t) := by
  intro pins s σ H Q I h
  refine PySem.W.methodCall_KW (pl := pl) (thn (he pins s σ H _ I h) fun u s1 hPz => ?_) ht; obtain ⟨x, H1, I1, rx, a, dx, fs, ex, ea, l, q⟩ := hPz
  subst ex
  obtain rfl : u = Value.ref a := rx
  refine getmeth_ok I1 ea c hm l ?_
  refine PySem.W.callWith_K (first := [.ref a]) (h₀ := X.base) I.ok.mod.kin hm.kp (thn (ha pos pins s1 σ H1 _ I1 q) fun us s2 hPy => ob2_3 hPy fun vs H2 I2 r q2 => ⟨I2.kIn, ?_⟩) hst hpl
  exact run_fn (us := .ref a :: us) (vs := .ref a :: vs) F hr hb hd hx I2 (.cons rfl r) q2
/-- o.m() -/
theorem pe_meth0 {pl : Sem Bool} (he : PE X o ta) (c : Cls X.K C) (hm : Meth X.K C m f) (F : FnOk X.prog X.w X.K X.mg X.base CX k f fd ps sp) (hr : Room k X.A) (hb : Binds X.K fd ps ds) (hd : Vals dvs ds) (hx : Passes CX X E)
    (ht : eval (.Call (.Attribute o m apos) [] [] pos) X.env = (do
      let ov ← eval o X.env
      standAt apos.atName
      let (f, first) ← holding [ov] (getMethod ov m pl)
      callWith pos f first (backTo pos (starEach [] X.env)) (backToKw pos (keywordEach [] X.env))) := by rfl) :
    PE X (.Call (.Attribute o m apos) [] [] pos) (tMeth C m sp dvs E ta tNil) := by
  intro pins s σ H Q I h
  refine PySem.W.methodCall_KW (pl := pl) (thn (he pins s σ H _ I h) fun u s1 hPz => ?_) ht; obtain ⟨x, H1, I1, rx, a, dx, fs, ex, ea, l, q⟩ := hPz
  subst ex
  obtain rfl : u = Value.ref a := rx
  refine getmeth_ok I1 ea c hm l ?_
  exact PySem.W.callWith_K0 (first := [.ref a]) I1.kIn hm.kp (run_fn (us := [.ref a]) (vs := [.ref a]) F hr hb hd hx I1 (.cons rfl .nil) q)

/-- what a class must have to be made -/
structure Mk (K : PySem.W.Frag) (C f : Addr) : Prop where
  makes : PySem.W.makesIn K C = true
  init : PySem.W.findIn K (.ref C) "__init__" = some (some (.ref f))
  fn : PySem.W.isFn K (.ref f) = true
  kp : PySem.W.keepIn K (.ref C) = true

theorem run_make {pins : List (Addr × Obj)} {σ : St} {H : Hp} {s : Shared} {Q : VK} {us : List Value} {vs : List V} (M : Mk X.K C f) (F : FnOk X.prog X.w X.K X.mg X.base CX k f fd ps sp) (hr : Room (k + 1) X.A) (hb : Binds X.K fd ps ds) (hd : Vals dvs ds)
    (hx : Passes CX X E) (I : Inv X pins σ H s) (r : Vals vs us)
    (h : ∀ x dx, H x = none → H dx = none → dx ≠ x → sp (.ref x :: (vs ++ dvs)) (upd (upd H dx (.own x)) x (.ins C dx [])) (fun v H2 => v = .non ∧ Q (.ref x) H2) E) :
    wpAny (model X.prog X.w) X.A (call (.ref C) us) (EP X pins σ Q) X.xe s := by
  have hq := h (s.heap.objs.size + 1) s.heap.objs.size (I.hok.fresh (Nat.le_succ _)) (I.hok.fresh (Nat.le_refl _)) (Nat.ne_of_lt (Nat.lt_succ_self _))
  have I2 := Inv.made (C := C) I
  have r2 : Vals (V.ref (s.heap.objs.size + 1) :: (vs ++ dvs)) (Value.ref (s.heap.objs.size + 1) :: (us ++ ds)) := .cons rfl (r.append hd)
  have hl : (Value.ref (s.heap.objs.size + 1) :: us ++ ds).length = ps.length := by
    have e := r2.length
    rw [F.len _ _ _ _ hq] at e
    exact e.symm
  refine wpAny_call (make_map (f := f) I.kIn M.makes M.init (beq_iff_eq.mp M.fn) (codeAny_mono (F.run _ X.stack _ _ ⟨Value.ref (s.heap.objs.size + 1) :: us, []⟩ (Value.ref (s.heap.objs.size + 1) :: (us ++ ds)) _ _ E (hr.make C us [])
    (I2.env0.make C us []) (hb _ (Value.ref (s.heap.objs.size + 1) :: us) I2.kIn hl) r2 hq) fun r s' hq' => ?_))
  cases r with
  | error e => exact hx pins σ _ _ e s' I2 hq'
  | ok fl =>
    cases fl with
    | ret u =>
      obtain ⟨v, H', I3, rv, ev, q3⟩ := I2.after hq'
      subst ev
      exact ⟨rv, ⟨V.ref (s.heap.objs.size + 1), H', I3, rfl, q3⟩⟩
    | next => exact False.elim hq'
    | brk => exact False.elim hq'
    | cont => exact False.elim hq'
theorem pe_make (M : Mk X.K C f) (F : FnOk X.prog X.w X.K X.mg X.base CX k f fd ps sp) (hr : Room (k + 1) X.A) (hg : Gl X x) (hm : X.mg x = some (.ref C)) (hb : Binds X.K fd ps ds) (hd : Vals dvs ds) (hx : Passes CX X E)
    (ha : PA X (e :: es) t) (hdb : (x == ("__debug__" : Str)) = false := by decide) (he : starEach (e :: es) X.env = (false, eval e X.env) :: starEach es X.env := by rfl) (hpl : (backTo pos (starEach es X.env)).any (·.1) = false := by rfl) :
    PE X (.Call (.Name x p) (e :: es) [] pos) (tMake C sp dvs E t) := by
  intro pins s σ H Q I h
  refine wpAny_Call_Name_kw (ld_glob I hg hm ?_ hdb)
  refine PySem.W.callWith_K (h₀ := X.base) I.ok.mod.kin M.kp (thn (ha pos pins s σ H _ I h) fun us s1 hPy => ob2_3 hPy fun vs H1 I1 r q => ⟨I1.kIn, ?_⟩) he hpl
  exact run_make M F hr hb hd hx I1 r q
end

/-! ### keywords -/
section
variable {X : Cx} {CX : CXT} {k : Nat} {f C : Addr} {fd : FuncData} {ps ks : List Str} {sp : Sp} {E : XK} {x m : Str} {p pos apos kpos : Pos} {e o : Expr} {es : List Expr} {kws : List Keyword} {te ta : TE} {t tk : TA} {nm : Option Str}

variable {g : List Value → List Value → List Value} {gV : List V → List V → List V}
end

/-! ### a def's body keeps its promise -/
/-- names: the parameters first -/
structure FnScope (N P : List Str) (sc : Scope) : Prop where
  kind : sc.kind = .function
  co : sc.isCoroutine = false
  gen : sc.isGenerator = false
  nd : N.Nodup
  pre : N.take P.length = P
  par : ∀ x ∈ P, sc.names.lookup x = some .local ∨ sc.names.lookup x = some .cell
  nofree : ∀ y ∈ sc.names, y.2 ≠ .free

theorem bindL_out {kindOf : Str → Option NameKind} {x : Str} : ∀ {binds : List (Str × Value)} {m : Str → Option Value}, (∀ v, (x, v) ∉ binds) → bindL kindOf binds m x = m x
  | [], _, _ => rfl
  | (n, v) :: r, m, h => by
    unfold bindL
    rw [bindL_out fun w hw => h w (List.mem_cons_of_mem _ hw)]
    split
    · have : x ≠ n := by rintro rfl; exact h v List.mem_cons_self
      simp [this]
    · rfl
theorem bindC_out {kindOf : Str → Option NameKind} {x : Str} : ∀ {binds : List (Str × Value)} {m : Str → Option Value}, (∀ v, (x, v) ∉ binds) → bindC kindOf binds m x = m x
  | [], _, _ => rfl
  | (n, v) :: r, m, h => by
    unfold bindC
    rw [bindC_out fun w hw => h w (List.mem_cons_of_mem _ hw)]
    split
    · rfl
    · have : x ≠ n := by rintro rfl; exact h v List.mem_cons_self
      simp [this]
theorem bindL_get {kindOf : Str → Option NameKind} {x : Str} {v : Value} : ∀ {P : List Str} {vs : List Value} {i : Nat} {m : Str → Option Value}, P.Nodup → P[i]? = some x → vs[i]? = some v → kindOf x = some .local →
    bindL kindOf (P.zip vs) m x = some v
  | [], _, _, _, _, h, _, _ => by simp at h
  | _ :: _, [], _, _, _, _, h, _ => by simp at h
  | p :: P, w :: vs, 0, m, nd, h1, h2, hk => by
    simp at h1 h2; subst h1; subst h2
    show bindL kindOf ((p, w) :: P.zip vs) m p = _
    unfold bindL
    rw [bindL_out fun v hv => (List.nodup_cons.mp nd).1 (List.of_mem_zip hv).1, if_pos hk]
    simp
  | p :: P, w :: vs, i + 1, m, nd, h1, h2, hk => by
    show bindL kindOf ((p, w) :: P.zip vs) m x = _
    unfold bindL
    exact bindL_get (i := i) (List.nodup_cons.mp nd).2 (by simpa using h1) (by simpa using h2) hk
theorem bindC_get {kindOf : Str → Option NameKind} {x : Str} {v : Value} : ∀ {P : List Str} {vs : List Value} {i : Nat} {m : Str → Option Value}, P.Nodup → P[i]? = some x → vs[i]? = some v → kindOf x ≠ some .local →
    bindC kindOf (P.zip vs) m x = some v
  | [], _, _, _, _, h, _, _ => by simp at h
  | _ :: _, [], _, _, _, _, h, _ => by simp at h
  | p :: P, w :: vs, 0, m, nd, h1, h2, hk => by
    simp at h1 h2; subst h1; subst h2
    show bindC kindOf ((p, w) :: P.zip vs) m p = _
    unfold bindC
    rw [bindC_out fun v hv => (List.nodup_cons.mp nd).1 (List.of_mem_zip hv).1, if_neg hk]
    simp
  | p :: P, w :: vs, i + 1, m, nd, h1, h2, hk => by
    show bindC kindOf ((p, w) :: P.zip vs) m x = _
    unfold bindC
    exact bindC_get (i := i) (List.nodup_cons.mp nd).2 (by simpa using h1) (by simpa using h2) hk

/-- the names' values at the entry -/
def start (N : List Str) (vs : List V) : St := vs.map some ++ List.replicate (N.length - vs.length) none

/-- the context of a def's body, at its entry; an exception leaves the frame, then lies as CX says -/
def cxOf (CX : CXT) (P : Program) (w : World) (K : PySem.W.Frag) (mg : Str → Option Value) (base : Heap) (N : List Str) (qual : Str) (scope : Scope) (f : Addr) (cd : Value) (A : Around) (outer : List Env) (s : Shared) (H : Hp) (E : XK) : Cx where
  prog := P
  w := w
  K := K
  mg := mg
  base := base
  A := A.deeper (envOfC qual scope s.heap.objs.size f cd)
  N := N
  s₀ := s
  H₀ := H
  env := envOfC qual scope s.heap.objs.size f cd
  outer := outer
  stack := envOfC qual scope s.heap.objs.size f cd :: outer
  ex := []
  calm := true
  fn := fun _ => true
  pn := []
  xe := fun e s' => wpAny (model P w) (A.deeper (envOfC qual scope s.heap.objs.size f cd)) (leaving (envOfC qual scope s.heap.objs.size f cd) e) (fun _ s'' => CX outer H s E e s'') (fun e' s'' => CX outer H s E e' s'') s'

theorem cell_has {sc : Scope} {n : Nat} {x : Str} (h : sc.names.lookup x = some .cell) : ∃ c, (cellsFrom n sc.names []).lookup x = some c := by
  have q := PySem.W.cellsFrom_some sc.names n [] (.inl h)
  exact Option.isSome_iff_exists.mp q

theorem inv_start {CX : CXT} {P : Program} {w : World} {K : PySem.W.Frag} {mg : Str → Option Value} {base : Heap} {N ps : List Str} {qual : Str} {scope : Scope} {f : Addr} {cd : Value} {A : Around} {outer : List Env} {s s1 : Shared} {H : Hp} {E : XK} {us : List Value} {vs : List V}
    (S : FnScope N ps scope) (hd : A.handled = none) (e0 : Env0 P w K mg base A outer s H) (hl : vs.length = ps.length) (r : Vals vs us)
    (x : InCallC s s.heap.objs.size (bindL (envOfC qual scope s.heap.objs.size f cd).kindOf (ps.zip us) fun _ => none) (cellsFrom (s.heap.objs.size + 1) scope.names []) (bindC (envOfC qual scope s.heap.objs.size f cd).kindOf (ps.zip us) fun _ => none) s1) :
    Inv (cxOf CX P w K mg base N qual scope f cd A outer s H E) [] (start N vs) H s1 := by
  have hpl : ps.length ≤ N.length := by have := congrArg List.length S.pre; rw [List.length_take] at this; (first | lia | omega)
  obtain ⟨h1, tk, rfl, hk⟩ := x.done
  have noA : ∀ b : Addr, b ∉ (cxOf CX P w K mg base N qual scope f cd A outer s H E).ex := fun b z => absurd (show b ∈ ([] : List Addr) from z) (by simp)
  refine ⟨⟨e0.mod, S.kind, rfl, rfl, Nat.le_refl _, fun y z c h1 h2 => ?_, fun y hy => ?_, fun y c _ h => ?_, fun _ => hd, Around.frames_deeper e0.frames, .inr ⟨rfl, rfl⟩, fun b z => absurd z (noA b), e0.bs, e0.bsz, fun b _ _ => noA b, fun b z => absurd z (noA b), e0.funs, e0.frf⟩,
    rfl, e0.bare, Un.kept hk, ⟨_, x.toInCall.ns, fun i y v h1 h2 h3 => ?_⟩, fun y c h => ⟨_, x.cell y c h⟩, e0.hok.fresh (Nat.le_refl _), fun y c h => ?_, fun p hp => absurd (show p ∈ ([] : List (Addr × Obj)) from hp) (by simp), e0.hok.kept hk, ?_⟩
  · exact name_of_addr x.apart (PySem.mem_of_lookup h1) (PySem.mem_of_lookup h2)
  · have hy : scope.names.lookup y = some .cell ∨ scope.names.lookup y = some .free := hy
    rcases hy with hy | hy
    · exact cell_has hy
    · exact absurd rfl (S.nofree _ (PySem.mem_of_lookup hy))
  · exact Nat.le_of_lt (x.above y c (PySem.mem_of_lookup h))
  · have hi : i < vs.length := by
      unfold start at h2
      by_cases hi : i < vs.length
      · exact hi
      · rw [List.getElem?_append_right (by simpa using hi)] at h2
        rw [List.getElem?_replicate] at h2
        split at h2 <;> cases h2
    have ha : vs[i]? = some v := by
      unfold start at h2
      rw [List.getElem?_append_left (by simpa using hi), List.getElem?_map] at h2
      cases e : vs[i]? with
      | none => rw [e] at h2; cases h2
      | some a => rw [e] at h2; cases h2; rfl
    obtain ⟨u, hu, rv⟩ := r.get ha
    have hp : ps[i]? = some y := by
      rw [← S.pre, List.getElem?_take_of_lt (by (first | lia | omega))]; exact h1
    have ndP : ps.Nodup := by rw [← S.pre]; exact S.nd.sublist (List.take_sublist _ _)
    refine ⟨u, rv, ?_⟩
    rcases S.par y (List.mem_of_getElem? hp) with k | k
    · exact .inl ⟨k, bindL_get ndP hp hu k⟩
    · obtain ⟨c, e⟩ := cell_has (n := s.heap.objs.size + 1) k
      refine .inr ⟨.inl k, c, e, ?_⟩
      have q := x.cell y c e
      rw [bindC_get ndP hp hu (by show scope.names.lookup y ≠ _; rw [k]; decide)] at q
      exact q
  · exact e0.hok.fresh (Nat.le_of_lt (x.above y c (PySem.mem_of_lookup h)))
  · unfold start
    show _ = N.length
    rw [List.length_append, List.length_map, List.length_replicate]
    (first | lia | omega)

/-- THE RULE: a def (or a method) of the text, by its body. The body's reading t is chosen for each entry; it is run at the parameters' values -/
theorem fn_of {CX : CXT} {P : Program} {w : World} {K : PySem.W.Frag} {mg : Str → Option Value} {base : Heap} {k : Nat} {f : Addr} {name qual : Str} {params : Arguments} {body : List Stmt} {scope : Scope} {dV kV doc pm cdv ct oc : Value} {an od : Option Addr}
    {osl : Array (Option Value)} {N ps : List Str} {sp : Sp} (lk : K.lookup f = some ⟨oc, od, .func (PySem.W.fnOf name qual params body scope dV kV doc pm an cdv ct), osl⟩) (hcd : PySem.W.codeIn K cdv qual = true) (S : FnScope N ps scope)
    (len : ∀ vs H Q E, sp vs H Q E → vs.length = ps.length)
    (hbody : ∀ (A : Around) (outer : List Env) (s : Shared) (H : Hp) (vs : List V) (Q : VK) (E : XK), Room k (A.deeper (envOfC qual scope s.heap.objs.size f cdv)) → sp vs H Q E →
      ∃ t, PSs (cxOf CX P w K mg base N qual scope f cdv A outer s H E) body t ∧ t { nx := fun _ H' => Q .non H', rt := Q } (start N vs) H) :
    FnOk P w K mg base CX (k + 1) f (PySem.W.fnOf name qual params body scope dV kV doc pm an cdv ct) ps sp := by
  refine ⟨len, fun A outer s H args us vs Q E hr e0 hb r hsp => ?_⟩
  have hl := len _ _ _ _ hsp
  have KX : K.In s.heap := e0.mod.kin.keeps fun b o e => (e0.bs b o e).1
  have lim : s.heap.NoLimit := e0.mod.nolimit.keeps fun b o e => (e0.bs b o e).1
  have hkind : ∀ y ∈ ps.zip us, scope.names.lookup y.1 = some .local ∨ (scope.names.lookup y.1 = some .cell ∧ ((cellsFrom (s.heap.objs.size + 1) scope.names []).lookup y.1).isSome = true) := fun ⟨n, v⟩ hy => by
    rcases S.par n (List.of_mem_zip hy).1 with q | q
    · exact .inl q
    · exact .inr ⟨q, PySem.W.cellsFrom_some _ _ _ (.inl q)⟩
  refine codeAny_call_function hr.depth (KX _ _ lk) rfl S.co S.gen rfl (PySem.W.codeRec_of KX hcd) (hb _ _ _ _ ?_)
  refine wpAny_newFunctionEnv_cells S.kind hkind fun env he s1 x => ?_
  subst he
  refine ⟨lim.keeps x.toInCall.keep, codeAny_func ?_⟩
  obtain ⟨t, ht, hq⟩ := hbody A outer s H vs Q E (hr.deeper _) hsp
  have I : Inv (cxOf CX P w K mg base N qual scope f cdv A outer s H E) [] (start N vs) H s1 := inv_start S hr.hd e0 hl r x
  refine wpAny_mono (ht [] s1 (start N vs) H _ I hq) (fun fl s' hs => ?_) fun e s' hs => hs
  have fin : ∀ {σ' : St} {H' : Hp} {v : V} {u : Value}, Inv (cxOf CX P w K mg base N qual scope f cdv A outer s H E) [] σ' H' s' → RelV v u → Q v H' → CE outer P w H s Q u s' :=
    fun {σ' H' v u} J rv q => ⟨v, H', J.os, J.bare, J.base, J.hok, rv, q⟩
  cases fl with
  | ret u =>
    obtain ⟨v, σ', H', J, rv, q⟩ := hs
    exact fin J rv q
  | next =>
    obtain ⟨σ', H', J, q⟩ := hs
    exact fin (v := V.non) (u := Value.none) J rfl q
  | brk =>
    obtain ⟨_, _, _, q⟩ := hs
    exact False.elim q
  | cont =>
    obtain ⟨_, _, _, q⟩ := hs
    exact False.elim q
end L2

namespace L2
open PySem PySem.Spec PyProof.Rows
section
variable {X : Cx} {x : Str} {p pos : Pos} {e : Expr} {es : List Expr} {t : TA} {id T : String} {r : List V → Hp → VK → Prop}

def tCB (r : List V → Hp → VK → Prop) (t : TA) : TE := fun σ H Q => t σ H fun vs H1 => r vs H1 Q
/-- f(e, ..), f a built-in function -/
theorem pe_callB (hc : CallR X (.builtin id) r) (hg : Gl X x) (hm : X.mg x = none) (hv : bootBuiltins x = some (.builtin id)) (ha : PA X (e :: es) t) (hn : x ≠ "__name__" := by decide) (hdb : (x == ("__debug__" : Str)) = false := by decide)
    (he : starEach (e :: es) X.env = (false, eval e X.env) :: starEach es X.env := by rfl) (hpl : (backTo pos (starEach es X.env)).any (·.1) = false := by rfl) : PE X (.Call (.Name x p) (e :: es) [] pos) (tCB r t) := by
  intro pins s σ H Q I h
  refine wpAny_Call_Name_kw (ld_blt I hg hm hv ?_ hn hdb)
  exact PyProof.Rows.callWith_builtin1 (thn (ha pos pins s σ H _ I h) fun us s1 hPy => ob2_3 hPy fun vs H1 I1 r1 q1 => hc pins s1 σ H1 vs us Q I1 r1 q1) he hpl
/-- T(e, ..), T a built-in type -/
theorem pe_callTy (hc : CallR X (.type T) r) (hg : Gl X x) (hm : X.mg x = none) (hv : bootBuiltins x = some (.type T)) (ha : PA X (e :: es) t) (hn : x ≠ "__name__" := by decide) (hdb : (x == ("__debug__" : Str)) = false := by decide)
    (he : starEach (e :: es) X.env = (false, eval e X.env) :: starEach es X.env := by rfl) (hpl : (backTo pos (starEach es X.env)).any (·.1) = false := by rfl) : PE X (.Call (.Name x p) (e :: es) [] pos) (tCB r t) := by
  intro pins s σ H Q I h
  refine wpAny_Call_Name_kw (ld_blt I hg hm hv ?_ hn hdb)
  exact PyProof.Rows.callWith_type1 (thn (ha pos pins s σ H _ I h) fun us s1 hPy => ob2_3 hPy fun vs H1 I1 r1 q1 => hc pins s1 σ H1 vs us Q I1 r1 q1) he hpl
end
end L2

namespace HT
open PySem PyProof.Rows

/-- t < u of tuples of ints -/
def lexLt : List Int → List Int → Bool
  | [], [] => false
  | [], _ :: _ => true
  | _ :: _, [] => false
  | x :: xs, y :: ys => if x = y then lexLt xs ys else decide (x < y)
theorem lexLt_cons (x y : Int) (xs ys : List Int) : lexLt (x :: xs) (y :: ys) = if x = y then lexLt xs ys else decide (x < y) := rfl
theorem lexLt_nil_nil : lexLt [] [] = false := rfl
theorem lexLt_nil_cons (y : Int) (ys : List Int) : lexLt [] (y :: ys) = true := rfl
theorem lexLt_cons_nil (x : Int) (xs : List Int) : lexLt (x :: xs) [] = false := rfl

theorem eqAt_int (A : Around) (s : Shared) (a : Int) (t : Tok) (c : Int) (u : Tok) : ∃ e, SeqAt.EqAt A s (.int a t) (.int c u) e ∧ (e = true ↔ a = c) :=
  ⟨(a == c), SeqAt.EqAt.int_int a t c u, by simp⟩
theorem rcLt_int (A : Around) (s : Shared) (a : Int) (t : Tok) (c : Int) (u : Tok) (prog : Program) (w : World) (E : Value → Shared → Prop) (Q : Value → Shared → Prop) (h : Q (.bool (decide (a < c))) s) :
    wpAny (model prog w) A (richCompare .Lt (.int a t) (.int c u)) Q E s :=
  (PyProof.Rows.lt_int h : wpAny (model prog w) A (compareOp .Lt (.int a t) (.int c u)) Q E s)

section
open PySem.SeqAt
open PySem.AutoSeq1 (wpAny_loadPart')
open PySem.MeetsSeq PySem.MeetsSeq2 PySem.MeetsSeq3

theorem tuple_lt_ints (l b : Addr) (items items2 : Array Value) (n n2 : Nat) (dd dd2 : Option Addr) (sl sl2 : Array (Option Value)) (ns ms : List Int) (hi : IntsAre items.toList ns) (hj : IntsAre items2.toList ms) :
    Meets (Builtin.«tuple.__lt__» ⟨[.ref l, .ref b], []⟩)
      (fun _ R s => s.heap.get? l = some { cls := .type "tuple", dict := dd, data := .seq items n, slots := sl } ∧ s.heap.get? b = some { cls := .type "tuple", dict := dd2, data := .seq items2 n2, slots := sl2 } ∧
        R (.ok (.ret (.bool (lexLt ns ms)))) s) :=
  .of_wp fun prog w A R s h => by
    obtain ⟨hp, g, d, tk, os⟩ := s; obtain ⟨hl, hb, h⟩ := h
    have f2 := AutoSeq1.sub_tuple_tuple
    have z1 : items.size = ns.length := by rw [← hi.length]; simp
    have z2 : items2.size = ms.length := by rw [← hj.length]; simp
    wp_walk using wpAny_loadPart' hl, wpAny_loadPart' hb, wpAny_forIn_list _ (fun rest b s' => b.1 = none ∧ s' = ⟨hp, g, d, tk, os⟩ ∧ ∃ (vs ws : List Value) (ns' ms' : List Int), rest = vs.zip ws ∧
      IntsAre vs ns' ∧ IntsAre ws ms' ∧ ns'.length + items2.size = ms'.length + items.size ∧ R (.ok (.ret (.bool (lexLt ns' ms')))) ⟨hp, g, d, tk, os⟩) _
    case turn =>
      rintro ⟨y, x⟩ rest b s' ⟨hb', rfl, vs, ws, ns', ms', hz, hvi, hwi, hlen, hR⟩
      cases hvi with
      | nil => rw [List.zip_nil_left] at hz; cases hz
      | cons a t hvi' =>
        cases hwi with
        | nil => rw [List.zip_nil_right] at hz; cases hz
        | cons c u hwi' =>
          rw [List.zip_cons_cons] at hz
          injection hz with hyx hrest
          injection hyx with hy hx
          subst hy hx
          rw [lexLt_cons] at hR
          simp only [List.length_cons] at hlen
          obtain ⟨e, he, hiff⟩ := eqAt_int A.in1 ⟨hp, g, d, tk, os⟩ a t c u
          refine wpAny_bind (he prog w _ _ ?_)
          cases e with
          | true =>
            rw [if_pos (hiff.mp rfl)] at hR
            wp_walk
            exact ⟨rfl, rfl, _, _, _, _, hrest, hvi', hwi', by (first | lia | omega), hR⟩
          | false =>
            rw [if_neg (fun q => absurd (hiff.mpr q) Bool.false_ne_true)] at hR
            have hri := rcLt_int A.in1 ⟨hp, g, d, tk, os⟩ a t c u prog w
            wp_walk using hri
            exact ⟨_, rfl, by simpa using hR⟩
    case fin =>
      rintro ⟨b1, b2⟩ s' ⟨hb', rfl, vs, ws, ns', ms', hz, hvi, hwi, hlen, hR⟩
      simp only at hb'
      subst hb'
      have hv : lexLt ns' ms' = decide (items.size < items2.size) := by
        cases hvi with
        | nil =>
          cases hwi with
          | nil =>
            simp only [List.length_nil] at hlen
            rw [lexLt_nil_nil]
            exact (decide_eq_false (by (first | lia | omega))).symm
          | cons c u hw =>
            simp only [List.length_nil, List.length_cons] at hlen
            rw [lexLt_nil_cons]
            exact (decide_eq_true (by (first | lia | omega))).symm
        | cons a t hv =>
          cases hwi with
          | nil =>
            simp only [List.length_nil, List.length_cons] at hlen
            rw [lexLt_cons_nil]
            exact (decide_eq_false (by (first | lia | omega))).symm
          | cons c u hw =>
            rw [List.zip_cons_cons] at hz
            cases hz
      rw [hv] at hR
      wp_walk
      exact ⟨_, rfl, by simpa [Builtin.Tuple.tupleCompareSizes] using hR⟩
    case h =>
      exact ⟨rfl, rfl, items.toList, items2.toList, ns, ms, rfl, hi, hj, by (first | lia | omega), h⟩
end

section
variable {prog : Program} {w : World} {A : Around} {E : Value → Shared → Prop} {s : Shared}

theorem lt_tupInts {l b : Addr} {items items2 : Array Value} {ns ms : List Int} {Q : Value → Shared → Prop} (hl : IsTup s.heap l items) (hb : IsTup s.heap b items2) (hi : IntsAre items.toList ns) (hj : IntsAre items2.toList ms)
    (hu : A.units < cLine) (h : Q (.bool (lexLt ns ms)) s) : wpAny (model prog w) A (compareOp .Lt (.ref l) (.ref b)) Q E s := by
  obtain ⟨⟨cls, dd, data, sl⟩, ho, hc, n, hd⟩ := id hl
  obtain ⟨⟨cls2, dd2, data2, sl2⟩, ho2, hc2, n2, hd2⟩ := id hb
  simp only at hc hd hc2 hd2
  subst hc hd hc2 hd2
  exact richCompare_meets_room (op := .Lt) ⟨_, ho, rfl⟩ ⟨_, ho2, rfl⟩ PySem.F.slot_tuple_lt PySem.F.entry_tuple_lt (PySem.F.args_tuple_lt_2 _ _) (tuple_lt_ints l b items items2 n n2 dd dd2 sl sl2 ns ms hi hj)
    ⟨ho, ho2, show Value.bool (lexLt ns ms) ≠ Value.notImplemented ∧ Q (.bool (lexLt ns ms)) s from ⟨(fun x => nomatch x), h⟩⟩ hu


/-! ### t[a:b], not the whole -/
/-- a slice's bound as a place among n (d where it is left out) -/
def sIx (n d : Nat) : Option Int → Nat
  | none => d
  | some v => if v < 0 then (v + (n : Int)).toNat else min v.toNat n

end
end HT

namespace L2
open PySem PySem.Spec PyProof.Rows

/-! ### the parts of a slice -/

theorem intsAre_of {ns : List Int} : ∀ {us : List Value}, Vals (ns.map V.int) us → IntsAre us ns := by
  induction ns with
  | nil => intro us r; rw [List.map_nil] at r; cases r; exact .nil
  | cons n ns ih =>
    intro us r
    rw [List.map_cons] at r
    cases r with
    | cons r1 r2 =>
      obtain ⟨t, e⟩ := r1
      subst e
      exact .cons n t (ih r2)

section
variable {X : Cx} {e : Expr} {te : TE} {lo hi : Option Expr} {tl th : TO} {pos p2 : Pos}


/-- what a slice of a value is, by values: the slice object stands at sl -/
def SlR (X : Cx) (r : V → Option Int → Option Int → Hp → VK → Prop) : Prop :=
  ∀ (pins : List (Addr × Obj)) (s : Shared) (σ : St) (H : Hp) (x : V) (v vl vu : Value) (lo hi : Option Int) (sl : Addr) (Q : VK), Inv X pins σ H s → RelV x v → s.heap.IsSliceOf sl vl vu .none → IsPart vl lo → IsPart vu hi → r x lo hi H Q →
    ∃ T id, typeLookup (.type T) "__getitem__" = pure (some (.builtin id)) ∧ s.TypeIs v T ∧ wpAny (model X.prog X.w) X.A (getItem v (.ref sl)) (EP X pins σ Q) X.xe s

/-- the items of xs[lo:hi] -/
def cutV (xs : List V) (lo hi : Option Int) : List V := (xs.drop (HT.sIx xs.length 0 lo)).take (HT.sIx xs.length xs.length hi - HT.sIx xs.length 0 lo)
theorem cutV_length (xs : List V) (lo hi : Option Int) : (cutV xs lo hi).length ≤ xs.length := by
  unfold cutV
  rw [List.length_take, List.length_drop]
  (first | lia | omega)

/-! ### t < u, t + u -/
end
end L2

namespace L2
open PySem PySem.Spec PyProof.Rows

/-! ### places -/
/-- the place that an index of any sign means -/
def ixN (n : Nat) (i : Int) : Option Nat := if 0 ≤ i then (if i < n then some i.toNat else none) else if -(n : Int) ≤ i then some (i + n).toNat else none
def atI {α : Type} (xs : List α) (i : Int) : Option α := (ixN xs.length i).bind fun j => xs[j]?
theorem ixN_seq {n : Nat} {i : Int} {j : Nat} (h : ixN n i = some j) : seqIndex? i n = some j ∧ j < n ∧ -(n : Int) ≤ i ∧ i < n := by
  unfold ixN at h
  by_cases h0 : 0 ≤ i
  · rw [if_pos h0] at h
    by_cases h1 : i < n
    · rw [if_pos h1] at h
      have e : i.toNat = j := Option.some.inj h
      exact ⟨by rw [seqIndex_of h0 h1, e], by (first | lia | omega), by (first | lia | omega), h1⟩
    · rw [if_neg h1] at h; cases h
  · rw [if_neg h0] at h
    by_cases h1 : -(n : Int) ≤ i
    · rw [if_pos h1] at h
      have e : (i + n).toNat = j := Option.some.inj h
      exact ⟨by rw [seqIndex_neg (by (first | lia | omega)) h1, e], by (first | lia | omega), h1, by (first | lia | omega)⟩
    · rw [if_neg h1] at h; cases h
theorem atI_get {α : Type} {xs : List α} {i : Int} {v : α} (h : atI xs i = some v) : ∃ j, seqIndex? i xs.length = some j ∧ xs[j]? = some v ∧ j < xs.length ∧ -(xs.length : Int) ≤ i ∧ i < xs.length := by
  unfold atI at h
  cases e : ixN xs.length i with
  | none => rw [e] at h; cases h
  | some j =>
    rw [e] at h
    obtain ⟨h1, h2, h3, h4⟩ := ixN_seq e
    exact ⟨j, h1, h, h2, h3, h4⟩
theorem atI_nat {α : Type} {xs : List α} {j : Nat} {v : α} (h : xs[j]? = some v) : atI xs (j : Int) = some v := by
  have hj : j < xs.length := (List.getElem?_eq_some_iff.mp h).1
  have e : ixN xs.length (j : Int) = some j := by
    unfold ixN
    rw [if_pos (by (first | lia | omega)), if_pos (by (first | lia | omega))]; simp
  unfold atI; rw [e]; exact h

/-! ### what may be subscripted -/
/-- what stands as an index of a plain subscript -/
def PlainIx (b : Expr) : Prop := ∀ o i, subscripted b false o i = operate [o, i] (getItem o i)
/-- a subscript by values -/
def IxR (X : Cx) (r : R2) : Prop :=
  ∀ (value slice : Expr) (pins : List (Addr × Obj)) (s : Shared) (σ : St) (H : Hp) (x y : V) (v u : Value) (Q : VK), Inv X pins σ H s → RelV x v → RelV y u → r x y H Q →
    subscripted slice false v u = operate [v, u] (getItem v u) → wpAny (model X.prog X.w) X.A (subscriptTail value slice v u) (EP X pins σ Q) X.xe s
/-- a call of a builtin's method by values: the receiver, the arguments -/
def MtR (X : Cx) (id : String) (r : V → List V → Hp → VK → Prop) : Prop :=
  ∀ (pins : List (Addr × Obj)) (s : Shared) (σ : St) (H : Hp) (x : V) (xs : List V) (v : Value) (us : List Value) (Q : VK), Inv X pins σ H s → RelV x v → Vals xs us → r x xs H Q →
    wpAny (model X.prog X.w) X.A (call (.builtin id) (v :: us)) (EP X pins σ Q) X.xe s
section
variable {X : Cx} {a b : Expr} {ta tb : TE} {pos : Pos}
/-- a[b] -/
theorem pe_ix {r : R2} (hr : IxR X r) (ha : PE X a ta) (hb : PE X b tb) (hs : PlainIx b) : PE X (.Subscript a b pos) (tOp r ta tb) := by
  intro pins s σ H Q I h
  exact Subscript_ (binT ha hb I h fun v u s2 x y H2 I2 rx ry q => hr a b pins s2 σ H2 x y v u Q I2 rx ry q (hs _ _))

def rIxL (K : PySem.W.Frag) : R2 := fun x y H Q => ∃ p xs i v, x = .ref p ∧ y = .int i ∧ SqL K H p xs ∧ atI xs i = some v ∧ Q v H
def rIxT (K : PySem.W.Frag) : R2 := fun x y H Q => ∃ p xs i v, x = .ref p ∧ y = .int i ∧ SqT K H p xs ∧ atI xs i = some v ∧ Q v H
theorem ix_list : IxR X (rIxL X.K) := by
  intro value slice pins s σ H x y v u Q I rx ry h hs
  obtain ⟨p, xs, i, z, rfl, rfl, hq, he, q⟩ := h
  cases rx
  obtain ⟨t, rfl⟩ := ry
  obtain ⟨its, r, pl, hz⟩ := I.list hq
  obtain ⟨j, h1, h2, h3, h4, h5⟩ := atI_get he
  obtain ⟨w, ew, rw'⟩ := r.get h2
  have hl := r.length
  have hn := line63
  have fin : EP X pins σ Q w s := ⟨z, H, I, rw', q⟩
  by_cases h0 : 0 ≤ i
  · have hj : i.toNat = j := by
      rw [seqIndex_of h0 h5] at h1
      exact Option.some.inj h1
    exact item_listR pl.isList h0 (by (first | lia | omega)) (by rw [hj]; simpa using ew) fin hs
  · have hj : (i + (its.toArray.size : Int)).toNat = j := by
      rw [seqIndex_neg (by (first | lia | omega)) h4] at h1
      rw [List.size_toArray, ← hl]
      exact Option.some.inj h1
    exact subscriptTail_builtinR (x := w) pl.isList.typeIs slot_list_getitem.lookup
      (wpAny_getItem_list_neg (Q := fun r s' => r = w ∧ EP X pins σ Q r s') pl.isList (by (first | lia | omega)) (by rw [List.size_toArray] <;> (first | lia | omega)) (by (first | lia | omega)) (by rw [hj]; simpa using ew) ⟨rfl, fin⟩) hs
theorem ix_tup : IxR X (rIxT X.K) := by
  intro value slice pins s σ H x y v u Q I rx ry h hs
  obtain ⟨p, xs, i, z, rfl, rfl, hq, he, q⟩ := h
  cases rx
  obtain ⟨t, rfl⟩ := ry
  obtain ⟨its, r, pl, hz⟩ := I.tuple hq
  obtain ⟨j, h1, h2, h3, h4, h5⟩ := atI_get he
  obtain ⟨w, ew, rw'⟩ := r.get h2
  have hl := r.length
  have hn := line63
  have fin : EP X pins σ Q w s := ⟨z, H, I, rw', q⟩
  exact subscriptTail_builtinR (x := w) pl.typeIs slot_tuple_getitem.lookup
    (getItem_tuple (j := j) (Q := fun r s' => r = w ∧ EP X pins σ Q r s') pl (by (first | lia | omega)) (by (first | lia | omega)) (by rw [List.size_toArray, ← hl]; exact h1) (by simpa using ew) ⟨rfl, fin⟩) hs

/-! ### xs[i] = v, any sign -/
/-- the list's object behind a store -/
theorem mapSeq_set (its : List Value) (n j : Nat) (u : Value) : Obj.mapSeq (·.setIfInBounds j u) { cls := .type "list", data := .seq its.toArray n } = { cls := .type "list", data := .seq (its.set j u).toArray n } := by
  simp [Obj.mapSeq]
theorem Inv.lst {pins : List (Addr × Obj)} {σ : St} {H : Hp} {s : Shared} {p : Addr} {xs : List V} (I : Inv X pins σ H s) (h : H p = some (.lst xs)) :
    ∃ (its : List Value) (n : Nat), Vals xs its ∧ s.heap.get? p = some { cls := .type "list", data := .seq its.toArray n } ∧ xs.length ≤ sizeLine := by
  obtain ⟨z, its, n, r, e⟩ := I.hok p _ h
  exact ⟨its, n, r, e, z⟩
/-- the list at p is written by an update of its object -/
theorem Inv.lstUpd {pins : List (Addr × Obj)} {σ : St} {H : Hp} {s : Shared} {p : Addr} {xs ys : List V} {its its' : List Value} {n n' : Nat} {f : Obj → Obj} (I : Inv X pins σ H s) (h : H p = some (.lst xs))
    (ho : s.heap.get? p = some { cls := .type "list", data := .seq its.toArray n }) (hf : f { cls := .type "list", data := .seq its.toArray n } = { cls := .type "list", data := .seq its'.toArray n' }) (r : Vals ys its') (hz : ys.length ≤ sizeLine) (t : Nat) :
    Inv X pins σ (upd H p (.lst ys)) { s with heap := s.heap.update p f, toks := t } := by
  have e : (s.heap.update p f).get? p = some { cls := .type "list", data := .seq its'.toArray n' } := by
    rw [Heap.get?_update_self f ho (by rw [hf] <;> rfl), hf]
  refine I.write (x := p) (e := p) (by rw [h]; trivial) (.inl rfl) (fun b u hb q => (Heap.get?_update_other _ _ (Ne.symm hb)).trans q) ⟨_, e⟩ ?_
  exact ⟨hz, its', n', r, e⟩
def rSetL : V → V → V → Hp → (Hp → Prop) → Prop := fun o i v H Q => ∃ p xs k j, o = .ref p ∧ i = .int k ∧ H p = some (.lst xs) ∧ ixN xs.length k = some j ∧ Q (upd H p (.lst (xs.set j v)))
theorem set_list : PSet X rSetL := by
  intro pins s σ H o i v ov iv u Q I ro ri rv h
  obtain ⟨p, xs, k, j, rfl, rfl, hp, hj, q⟩ := h
  cases ro
  obtain ⟨t, rfl⟩ := ri
  obtain ⟨its, n, r, ho, hz⟩ := I.lst hp
  obtain ⟨h1, h2, h3, h4⟩ := ixN_seq hj
  have hl := r.length
  have hn := line63
  have I' : Inv X pins σ (upd H p (.lst (xs.set j v))) { s with heap := s.heap.update p (Obj.mapSeq (·.setIfInBounds j u)) } :=
    I.lstUpd hp ho (mapSeq_set its n j u) (r.set rv j) (by rw [List.length_set]; exact hz) s.toks
  by_cases h0 : 0 ≤ k
  · have hk : k.toNat = j := by
      rw [seqIndex_of h0 h4] at h1
      exact Option.some.inj h1
    exact PySem.W.ki_setAt ho h0 (by (first | lia | omega)) (by rw [List.size_toArray, ← hl]; exact h4) (by rw [hk]; exact ⟨_, I', q⟩)
  · have hk : (k + (its.toArray.size : Int)).toNat = j := by
      rw [seqIndex_neg (by (first | lia | omega)) h3] at h1
      rw [List.size_toArray, ← hl]
      exact Option.some.inj h1
    exact PySem.W.ki_setBack ho (by (first | lia | omega)) (by rw [List.size_toArray, ← hl]; exact h3) (by (first | lia | omega)) (by rw [hk]; exact ⟨_, I', q⟩)

/-! ### slices -/
theorem slice_bounds (lo hi : Option Int) (n : Nat) : (sliceBounds lo hi none n).1 = ((HT.sIx n 0 lo : Nat) : Int) ∧ (sliceBounds lo hi none n).2.1 = ((HT.sIx n n hi : Nat) : Int) ∧ (sliceBounds lo hi none n).2.2 = 1 := by
  refine ⟨?_, ?_, rfl⟩
  · cases lo with
    | none => simp [sliceBounds, HT.sIx]
    | some i =>
      simp only [sliceBounds, HT.sIx, Option.getD_none, show (1 : Int) > 0 by decide, if_true]
      by_cases h : i < 0
      · simp only [h, if_true] <;> (first | lia | omega)
      · simp only [h, if_false] <;> (first | lia | omega)
  · cases hi with
    | none => simp [sliceBounds, HT.sIx]
    | some i =>
      simp only [sliceBounds, HT.sIx, Option.getD_none, show (1 : Int) > 0 by decide, if_true]
      by_cases h : i < 0
      · simp only [h, if_true] <;> (first | lia | omega)
      · simp only [h, if_false] <;> (first | lia | omega)
theorem slicePick_cut (its : List Value) (lo hi : Option Int) : slicePick its.toArray lo hi none = ((its.drop (HT.sIx its.length 0 lo)).take (HT.sIx its.length its.length hi - HT.sIx its.length 0 lo)).toArray := by
  obtain ⟨h1, h2, h3⟩ := slice_bounds lo hi its.toArray.size
  unfold slicePick
  rw [h1, h2, h3]
  simp only [sliceRange_one, pick_run, List.size_toArray] <;> rfl
/-- xs[lo:hi] of a list: a new list -/
def rSlL (K : PySem.W.Frag) : V → Option Int → Option Int → Hp → VK → Prop := fun x lo hi H Q => ∃ a xs, x = .ref a ∧ SqL K H a xs ∧ ∀ p, H p = none → Q (.ref p) (upd H p (.lst (cutV xs lo hi)))
theorem sl_list : SlR X (rSlL X.K) := by
  intro pins s σ H x v vl vu lo hi sl Q I rx hs pl pu h
  obtain ⟨a, xs, rfl, hx, q⟩ := h
  cases rx
  obtain ⟨its, r, ht, hz⟩ := I.list hx
  have hlen := r.length
  refine ⟨"list", _, slot_list_getitem.lookup, ht.isList.typeIs, ?_⟩
  refine wpAny_getItem_list_slice ht.isList hs pl pu .none (by simp) ?_ (by rw [List.size_toArray] <;> (first | lia | omega))
  rw [slicePick_cut, ← hlen]
  refine ⟨.ref s.heap.objs.size, _, I.laid (t' := s.toks) (o := .lst (cutV xs lo hi)) (fun b ob q => Heap.get?_push_of_some _ q) (Nat.le_refl _) ?_, rfl, q _ (I.hok.fresh (Nat.le_refl _))⟩
  exact ⟨Nat.le_trans (cutV_length xs lo hi) hz, _, 0, (r.drop (HT.sIx xs.length 0 lo)).take (HT.sIx xs.length xs.length hi - HT.sIx xs.length 0 lo), Heap.get?_push_size _ rfl⟩

/-! ### in, not in: flat items -/
def flatV : V → Bool
  | .non => true
  | .bl _ => true
  | .int _ => true
  | .str _ => true
  | _ => false
/-- == of flat values -/
def eqV : V → V → Bool
  | .non, .non => true
  | .bl a, .bl b => a == b
  | .bl a, .int b => (if a then 1 else 0) == b
  | .int a, .bl b => a == (if b then 1 else 0)
  | .int a, .int b => a == b
  | .str a, .str b => a == b
  | _, _ => false
theorem eqAt_V {A : Around} {s : Shared} {y x : V} {u v : Value} (ry : RelV y u) (rx : RelV x v) (fy : flatV y = true) (fx : flatV x = true) : SeqAt.EqAt A s u v (eqV y x) := by
  cases y with
  | non =>
    cases ry
    cases x with
    | non => cases rx; exact SeqAt.EqAt.same _
    | bl b => cases rx; exact SeqAt.EqAt.none_bool b
    | int b => obtain ⟨t, rfl⟩ := rx; exact SeqAt.EqAt.none_int b t
    | str b => obtain ⟨t, rfl⟩ := rx; exact SeqAt.EqAt.none_str b t
    | _ => exact absurd (show false = true from fx) Bool.false_ne_true
  | bl a =>
    cases ry
    cases x with
    | non => cases rx; exact SeqAt.EqAt.bool_none a
    | bl b => cases rx; exact SeqAt.EqAt.bool_bool a b
    | int b => obtain ⟨t, rfl⟩ := rx; exact SeqAt.EqAt.bool_int a b t
    | str b => obtain ⟨t, rfl⟩ := rx; exact SeqAt.EqAt.bool_str a b t
    | _ => exact absurd (show false = true from fx) Bool.false_ne_true
  | int a =>
    obtain ⟨t', rfl⟩ := ry
    cases x with
    | non => cases rx; exact SeqAt.EqAt.int_none a t'
    | bl b => cases rx; exact SeqAt.EqAt.int_bool a t' b
    | int b => obtain ⟨t, rfl⟩ := rx; exact SeqAt.EqAt.int_int a t' b t
    | str b => obtain ⟨t, rfl⟩ := rx; exact SeqAt.EqAt.int_str a t' b t
    | _ => exact absurd (show false = true from fx) Bool.false_ne_true
  | str a =>
    obtain ⟨t', rfl⟩ := ry
    cases x with
    | non => cases rx; exact SeqAt.EqAt.str_none a t'
    | bl b => cases rx; exact SeqAt.EqAt.str_bool a t' b
    | int b => obtain ⟨t, rfl⟩ := rx; exact SeqAt.EqAt.str_int a t' b t
    | str b => obtain ⟨t, rfl⟩ := rx; exact SeqAt.EqAt.str_str a t' b t
    | _ => exact absurd (show false = true from fx) Bool.false_ne_true
  | _ => exact absurd (show false = true from fy) Bool.false_ne_true
/-- the items' answers, read off the values (a value's own answer does not lean on its token) -/
def eqU (x : V) (u : Value) : Bool := match u with
  | .none => eqV .non x
  | .bool b => eqV (.bl b) x
  | .int i _ => eqV (.int i) x
  | .str z _ => eqV (.str z) x
  | _ => false
theorem eqU_of {x y : V} {u : Value} (r : RelV y u) (f : flatV y = true) : eqU x u = eqV y x := by
  cases y with
  | non => cases r; rfl
  | bl b => cases r; rfl
  | int i => obtain ⟨t, rfl⟩ := r; rfl
  | str z => obtain ⟨t, rfl⟩ := r; rfl
  | _ => exact absurd (show false = true from f) Bool.false_ne_true
theorem any_eqU {x : V} : ∀ {xs : List V} {us : List Value}, Vals xs us → xs.all flatV = true → us.any (eqU x) = xs.any fun y => eqV y x
  | _, _, .nil, _ => rfl
  | y :: xs, u :: us, .cons r t, f => by
    rw [List.all_cons, Bool.and_eq_true] at f
    rw [List.any_cons, List.any_cons, eqU_of r f.1, any_eqU t f.2]
theorem mem_eqAt {A : Around} {s : Shared} {x : V} {v : Value} (rx : RelV x v) (fx : flatV x = true) : ∀ {xs : List V} {us : List Value}, Vals xs us → xs.all flatV = true → ∀ u ∈ us, SeqAt.EqAt A s u v (eqU x u)
  | _, _, .nil, _ => fun u hu => by cases hu
  | y :: xs, u :: us, .cons r t, f => fun u' hu => by
    rw [List.all_cons, Bool.and_eq_true] at f
    rcases List.mem_cons.mp hu with rfl | hu
    · rw [eqU_of r f.1]; exact eqAt_V r rx f.1 fx
    · exact mem_eqAt rx fx t f.2 u' hu
def inV (x : V) (xs : List V) : Bool := xs.any fun y => eqV y x
/-- x in a list or tuple of flat items -/
def rIn (K : PySem.W.Frag) (neg : Bool) : R2 := fun x y H Q => ∃ p xs, y = .ref p ∧ (SqL K H p xs ∨ SqT K H p xs) ∧ flatV x = true ∧ xs.all flatV = true ∧ Q (.bl (if neg then !inV x xs else inV x xs)) H
theorem op_in_seq : OpR X (compareOp .In) (rIn X.K false) := by
  intro pins s σ H x y v u Q I rx ry h
  obtain ⟨p, xs, rfl, hq, fx, fs, q⟩ := h
  cases ry
  rcases hq with hq | hq
  · obtain ⟨its, r, pl, hz⟩ := I.list hq
    refine SeqAt.in_listAt (eqU x) pl.isList (fun w hw => mem_eqAt rx fx r fs w (by simpa using hw)) ⟨.bl _, H, I, rfl, ?_⟩
    rw [show its.toArray.any (eqU x) = its.any (eqU x) by simp, any_eqU r fs]
    exact q
  · obtain ⟨its, r, pl, hz⟩ := I.tuple hq
    refine SeqAt.in_tupleAt (eqU x) pl (fun w hw => mem_eqAt rx fx r fs w (by simpa using hw)) ⟨.bl _, H, I, rfl, ?_⟩
    rw [show its.toArray.any (eqU x) = its.any (eqU x) by simp, any_eqU r fs]
    exact q
theorem op_notIn_seq : OpR X (compareOp .NotIn) (rIn X.K true) := by
  intro pins s σ H x y v u Q I rx ry h
  obtain ⟨p, xs, rfl, hq, fx, fs, q⟩ := h
  cases ry
  rcases hq with hq | hq
  · obtain ⟨its, r, pl, hz⟩ := I.list hq
    refine SeqAt.notIn_listAt (eqU x) pl.isList (fun w hw => mem_eqAt rx fx r fs w (by simpa using hw)) ⟨.bl _, H, I, rfl, ?_⟩
    rw [show its.toArray.any (eqU x) = its.any (eqU x) by simp, any_eqU r fs]
    exact q
  · obtain ⟨its, r, pl, hz⟩ := I.tuple hq
    refine SeqAt.notIn_tupleAt (eqU x) pl (fun w hw => mem_eqAt rx fx r fs w (by simpa using hw)) ⟨.bl _, H, I, rfl, ?_⟩
    rw [show its.toArray.any (eqU x) = its.any (eqU x) by simp, any_eqU r fs]
    exact q

/-! ### len, list(x), tuple(x) of any list or tuple that is read -/
theorem call_len_seq : CallR X (.builtin "len") (fun xs H Q => ∃ p ys, xs = [.ref p] ∧ (SqL X.K H p ys ∨ SqT X.K H p ys) ∧ Q (.int ys.length) H) := by
  intro pins s σ H xs us Q I r h
  obtain ⟨p, ys, rfl, hq, q⟩ := h
  obtain ⟨u, rfl, rx⟩ := vals1 r
  cases rx
  have hn := line63
  rcases hq with hq | hq
  · obtain ⟨its, r', pl, hz⟩ := I.list hq
    have hlen := r'.length
    exact Calls.call_len_list pl.isList (by simp only [List.size_toArray] <;> (first | lia | omega)) ⟨.int ys.length, H, I.tok _, ⟨s.toks + 1, by rw [List.size_toArray, hlen]⟩, q⟩
  · obtain ⟨its, r', pl, hz⟩ := I.tuple hq
    have hlen := r'.length
    exact len_tuple pl (by simp only [List.size_toArray] <;> (first | lia | omega)) ⟨.int ys.length, H, I.tok _, ⟨s.toks + 1, by rw [List.size_toArray, hlen]⟩, q⟩
theorem call_list_of : CallR X (.type "list") (fun xs H Q => ∃ p ys, xs = [.ref p] ∧ (SqL X.K H p ys ∨ SqT X.K H p ys) ∧ ∀ l, H l = none → Q (.ref l) (upd H l (.lst ys))) := by
  intro pins s σ H xs us Q I r h
  obtain ⟨p, ys, rfl, hq, q⟩ := h
  obtain ⟨u, rfl, rx⟩ := vals1 r
  cases rx
  have fin : ∀ (its : List Value), Vals ys its → ys.length ≤ sizeLine → ∀ (h' : Heap) (c' : Nat), (∀ b o', s.heap.get? b = some o' → h'.get? b = some o') →
      h'.get? s.heap.objs.size = some { cls := .type "list", dict := none, data := .seq its.toArray c', slots := #[] } → EP X pins σ Q (.ref s.heap.objs.size) { s with heap := h' } := fun its r' hz h' c' kp e =>
    ⟨.ref s.heap.objs.size, _, I.laid (t' := s.toks) kp (Nat.le_refl _) (show ObjOk X.prog X.w _ h' _ (.lst ys) from ⟨hz, its, c', r', e⟩), rfl, q _ (I.hok.fresh (Nat.le_refl _))⟩
  rcases hq with hq | hq
  · obtain ⟨its, r', pl, hz⟩ := I.list hq
    have hlen := r'.length
    obtain ⟨o, ho, hc, n, hd⟩ := pl.isList
    exact call_list_seq p (.inl rfl) ho hc hd (fun h' c' kp e => fin its r' hz h' c' kp e) (by simp only [List.size_toArray] <;> (first | lia | omega))
  · obtain ⟨its, r', pl, hz⟩ := I.tuple hq
    have hlen := r'.length
    obtain ⟨o, ho, hc, n, hd⟩ := pl
    exact call_list_seq p (.inr rfl) ho hc hd (fun h' c' kp e => fin its r' hz h' c' kp e) (by simp only [List.size_toArray] <;> (first | lia | omega))

/-! ### the call of a builtin's method: o.m(..) -/
/-- the value is of that builtin type -/
def tyV (K : PySem.W.Frag) (T : String) (x : V) (H : Hp) : Prop := match x with
  | .str _ => T = "str"
  | .int _ => T = "int"
  | .ref p => (T = "list" ∧ ∃ xs, SqL K H p xs) ∨ (T = "tuple" ∧ ∃ o, K.lookup p = some o ∧ o.cls = .type "tuple" ∧ o.dict = none) ∨
      (T = "dict" ∧ ((∃ kvs, H p = some (.dK kvs)) ∨ ∃ kvs, H p = some (.dT kvs))) ∨ (T = "set" ∧ ∃ S n, H p = some (.set S n))
  | _ => False
theorem tyV_is {pins : List (Addr × Obj)} {σ : St} {H : Hp} {s : Shared} {T : String} {x : V} {v : Value} (I : Inv X pins σ H s) (r : RelV x v) (ty : tyV X.K T x H) :
    s.TypeIs v T ∧ ∀ a, v = .ref a → ∃ ob, s.heap.get? a = some ob ∧ ob.dict = none := by
  cases x with
  | str z =>
    obtain ⟨t, rfl⟩ := r
    cases (show T = "str" from ty)
    exact ⟨typeIs_str s z t, fun _ e => nomatch e⟩
  | int i =>
    obtain ⟨t, rfl⟩ := r
    cases (show T = "int" from ty)
    exact ⟨typeIs_int s i t, fun _ e => nomatch e⟩
  | ref p =>
    cases r
    rcases ty with ⟨rfl, xs, hq⟩ | ⟨rfl, o, hk, hc, hd⟩ | ⟨rfl, hk⟩ | ⟨rfl, S, n, hk⟩
    · obtain ⟨its, _, pl, _⟩ := I.list hq
      refine ⟨pl.isList.typeIs, fun a e => ?_⟩
      cases e
      obtain ⟨o, n, e, c, hd, _⟩ := pl
      exact ⟨o, e, hd⟩
    · refine ⟨⟨o, I.kIn p o hk, hc⟩, fun a e => ?_⟩
      cases e
      exact ⟨o, I.kIn _ o hk, hd⟩
    · have z : ∃ o, s.heap.get? p = some o ∧ o.ExactDict := by
        rcases hk with ⟨kvs, hk⟩ | ⟨kvs, hk⟩
        · obtain ⟨_, _, _, _, o, _, _, e, ex, _⟩ := I.hok p _ hk
          exact ⟨o, e, ex⟩
        · obtain ⟨_, _, _, _, o, _, _, e, ex, _⟩ := I.hok p _ hk
          exact ⟨o, e, ex⟩
      obtain ⟨o, e, ex⟩ := z
      refine ⟨⟨o, e, ex.1⟩, fun a e2 => ?_⟩
      cases e2
      exact ⟨o, e, ex.2.1⟩
    · obtain ⟨o, _, _, _, e, ex, _⟩ := I.hok p _ hk
      refine ⟨⟨o, e, ex.1⟩, fun a e2 => ?_⟩
      cases e2
      exact ⟨o, e, ex.2.1⟩
  | _ => exact False.elim ty
def tBM0 (K : PySem.W.Frag) (T : String) (r : V → List V → Hp → VK → Prop) (to : TE) : TE := fun σ H Q => to σ H fun x H1 => tyV K T x H1 ∧ r x [] H1 Q
def tBM (K : PySem.W.Frag) (T : String) (r : V → List V → Hp → VK → Prop) (to : TE) (t : TA) : TE := fun σ H Q => to σ H fun x H1 => tyV K T x H1 ∧ t σ H1 fun xs H2 => r x xs H2 Q
variable {o e : Expr} {es : List Expr} {to : TE} {t : TA} {name : Str} {apos cpos : Pos} {T id : String} {r : V → List V → Hp → VK → Prop}
theorem pe_bm0 (pa : PlainAttrs T) (slot : Slot T name id) (hty : typeOf (.builtin id) = pure (.type "method_descriptor")) (hm : MtR X id r) (ho : PE X o to)
    (hbase : attributeBase o name X.env (eval o X.env) = eval o X.env := by rfl) (hline : (apos.endLine == cpos.line) = true := by rfl) : PE X (.Call (.Attribute o name apos) [] [] cpos) (tBM0 X.K T r to) := by
  intro pins s σ H Q I h
  refine wpAny_Call_method0_late hbase hline (thn (ho pins s σ H _ I h) fun v s1 hPz => ?_); obtain ⟨x, H1, I1, r1, ty, q1⟩ := hPz
  obtain ⟨h1, h2⟩ := tyV_is I1 r1 ty
  exact ⟨T, id, pa, slot, hty, h1, h2, Calls.callWith_builtin rfl (PySem.evalArgs_none (hm pins s1 σ H1 x [] v [] Q I1 r1 .nil q1))⟩
theorem pe_bm (pa : PlainAttrs T) (slot : Slot T name id) (hty : typeOf (.builtin id) = pure (.type "method_descriptor")) (hm : MtR X id r) (ho : PE X o to) (ha : PA X (e :: es) t)
    (hbase : attributeBase o name X.env (eval o X.env) = eval o X.env := by rfl)
    (hfew : ((backTo cpos (starEach (e :: es) X.env)).all (fun x => !x.1) && (backToKw cpos (keywordEach [] X.env)).all (fun x => x.1.isSome)
      && decide ((e :: es).length + ([] : List Keyword).length + (if ([] : List Keyword).isEmpty then 0 else 1) < 30)) = true := by rfl)
    (hline : (apos.endLine == cpos.line) = true := by rfl) (hs : starEach (e :: es) X.env = (false, eval e X.env) :: starEach es X.env := by rfl) (hplain : (backTo cpos (starEach es X.env)).any (·.1) = false := by rfl) :
    PE X (.Call (.Attribute o name apos) (e :: es) [] cpos) (tBM X.K T r to t) := by
  intro pins s σ H Q I h
  refine wpAny_Call_method_late hbase hfew hline rfl (thn (ho pins s σ H _ I h) fun v s1 hPz => ?_); obtain ⟨x, H1, I1, r1, ty, q1⟩ := hPz
  obtain ⟨h1, h2⟩ := tyV_is I1 r1 ty
  refine ⟨T, id, pa, slot, hty, h1, h2, ?_⟩
  have hA := ha cpos pins s1 σ H1 _ I1 q1
  rw [hs] at hA ⊢
  refine Calls.callWith_builtin (by show (false || (backTo cpos (starEach es X.env)).any (·.1)) = false; rw [hplain] <;> rfl) (Calls.evalArgs_plain ?_)
  exact thn hA fun us s2 hPy => ob2_3 hPy fun vs H2 I2 r2 q2 => hm pins s2 σ H2 x vs v us Q I2 r1 r2 q2
/- xs.append(e), list.index on a module's tuple .. are MtR facts of 06m -/
end
end L2

namespace L2
open PySem PySem.Spec PyProof.Rows

def MtM (X : Cx) (id : String) (r : V → List V → Hp → VK → Prop) : Prop :=
  ∀ (pins : List (Addr × Obj)) (s : Shared) (σ : St) (H : Hp) (x : V) (xs : List V) (v : Value) (us : List Value) (Q : VK), Inv X pins σ H s → RelV x v → Vals xs us → r x xs H Q →
    wpAny (model X.prog X.w) X.A (call (.builtin id) (v :: us)) (EP X pins σ Q) X.xe s

/-! ### lists of values -/
theorem Vals.one : ∀ {x : V} {us : List Value}, Vals [x] us → ∃ u, us = [u] ∧ RelV x u
  | _, _, .cons r .nil => ⟨_, rfl, r⟩
theorem Vals.two : ∀ {x y : V} {us : List Value}, Vals [x, y] us → ∃ u v, us = [u, v] ∧ RelV x u ∧ RelV y v
  | _, _, _, .cons r (.cons q .nil) => ⟨_, _, rfl, r, q⟩
theorem Vals.zero : ∀ {us : List Value}, Vals [] us → us = []
  | _, .nil => rfl
theorem Vals.dropLast {xs : List V} {us : List Value} (h : Vals xs us) : Vals xs.dropLast us.dropLast := by
  induction h with
  | nil => exact .nil
  | cons r t ih =>
    cases t with
    | nil => exact .nil
    | cons q t' => exact .cons r ih
theorem Vals.rep {xs : List V} {us : List Value} (h : Vals xs us) : ∀ k : Nat, Vals (List.replicate k xs).flatten (List.replicate k us).flatten
  | 0 => .nil
  | k + 1 => by
    rw [List.replicate_succ, List.replicate_succ, List.flatten_cons, List.flatten_cons]
    exact Vals.append h (Vals.rep h k)
theorem erase_last {α : Type} (l : List α) : l.eraseIdx (l.length - 1) = l.dropLast := by
  induction l with
  | nil => rfl
  | cons a r ih =>
    cases r with
    | nil => rfl
    | cons b r =>
      have e : (a :: b :: r).length - 1 = ((b :: r).length - 1) + 1 := by
        have h1 : (a :: b :: r).length = r.length + 2 := rfl
        have h2 : (b :: r).length = r.length + 1 := rfl
        (first | lia | omega)
      rw [e, List.eraseIdx_cons_succ, ih]
      all_goals rfl
theorem foldl_rep (its : List Value) : ∀ (k : Nat) (acc : List Value),
    List.foldl (fun x1 x2 => x1 ++ x2) acc.toArray (List.replicate k its.toArray) = (acc ++ (List.replicate k its).flatten).toArray
  | 0, acc => by simp
  | k + 1, acc => by
    have e : acc.toArray ++ its.toArray = (acc ++ its).toArray := by simp
    have e2 : (acc ++ its) ++ (List.replicate k its).flatten = acc ++ (List.replicate (k + 1) its).flatten := by
      rw [List.replicate_succ, List.flatten_cons, List.append_assoc]
    rw [← e2, ← foldl_rep its k (acc ++ its), ← e, List.replicate_succ, List.foldl_cons]

section
variable {X : Cx} {pins : List (Addr × Obj)} {σ : St} {H : Hp} {s : Shared} {l b : Addr} {xs ys zs : List V}

/-! ### the two steps: a tracked list is rewritten, a new list is laid -/
theorem Inv.lset {its its' : List Value} {n : Nat} {f : Array Value → Array Value} {t' : Nat} (I : Inv X pins σ H s) (hH : H l = some (.lst xs))
    (e : s.heap.get? l = some { cls := .type "list", data := .seq its.toArray n }) (hf : f its.toArray = its'.toArray) (hv : Vals ys its') (hz : ys.length ≤ sizeLine) :
    Inv X pins σ (upd H l (.lst ys)) { s with heap := s.heap.update l (Obj.mapSeq f), toks := t' } := by
  have q := PySem.IsL.update e f
  rw [hf] at q
  refine I.write (x := l) (e := l) (by rw [hH]; exact trivial) (.inl rfl) (fun b' u hb hu => (Heap.get?_update_other s.heap (Obj.mapSeq f) (Ne.symm hb)).trans hu) ⟨_, q⟩ ?_
  exact ⟨hz, its', _, hv, q⟩
theorem Inv.lnew {its : List Value} {t' : Nat} (I : Inv X pins σ H s) (hv : Vals ys its) (hz : ys.length ≤ sizeLine) :
    Inv X pins σ (upd H s.heap.objs.size (.lst ys)) { s with heap := s.heap.push { cls := .type "list", data := .seq its.toArray }, toks := t' } :=
  I.laid (fun _ _ q => Heap.get?_push_of_some _ q) (Nat.le_refl _) ⟨hz, its, 0, hv, Heap.get?_push_size _ rfl⟩
theorem Inv.fresh (I : Inv X pins σ H s) : H s.heap.objs.size = none := I.hok.fresh (Nat.le_refl _)
theorem Inv.lstM (I : Inv X pins σ H s) (hH : H l = some (.lst xs)) : xs.length ≤ sizeLine ∧ ∃ (its : List Value) (n : Nat), Vals xs its ∧ xs.length = its.length ∧ s.heap.get? l = some { cls := .type "list", data := .seq its.toArray n } := by
  obtain ⟨z, its, n, r, e⟩ := I.hok l _ hH
  exact ⟨z, its, n, r, r.length, e⟩

theorem notLongL {n : Nat} (h : n ≤ sizeLine) : Builtin.List.listTooLong n = false := by
  unfold Builtin.List.listTooLong
  exact decide_eq_false (by (first | lia | omega))
end

section
variable {X : Cx}

/-! ### methods -/
def rAppend : V → List V → Hp → VK → Prop := fun x vs H Q => ∃ l xs y, x = .ref l ∧ vs = [y] ∧ H l = some (.lst xs) ∧ xs.length < sizeLine ∧ Q .non (upd H l (.lst (xs ++ [y])))
theorem mt_append : MtM X "list.append" rAppend := by
  intro pins s σ H x vs v us Q I rx rv h
  obtain ⟨l, xs, y, rfl, rfl, hH, hz, q⟩ := h
  cases rx
  obtain ⟨u, rfl, ru⟩ := rv.one
  obtain ⟨z, its, n, r, hl, e⟩ := I.lstM hH
  refine call_meets F.slot_list_append ⟨_, e, rfl⟩ F.entry_list_append (F.args_list_append_2 _ _) (PySem.list_append l its.toArray n u (by rw [List.size_toArray]; (first | lia | omega))) ⟨e, ?_⟩
  refine ⟨.non, _, I.lset (its' := its ++ [u]) hH e (by simp) (r.append (.cons ru .nil)) ?_, rfl, q⟩
  rw [List.length_append, List.length_singleton]
  (first | lia | omega)

def rExtend : V → List V → Hp → VK → Prop := fun x vs H Q => ∃ l b xs zs, x = .ref l ∧ vs = [.ref b] ∧ H l = some (.lst xs) ∧ H b = some (.lst zs) ∧ xs.length + zs.length ≤ sizeLine ∧ Q .non (upd H l (.lst (xs ++ zs)))
theorem mt_extend : MtM X "list.extend" rExtend := by
  intro pins s σ H x vs v us Q I rx rv h
  obtain ⟨l, b, xs, zs, rfl, rfl, hH, hB, hz, q⟩ := h
  cases rx
  obtain ⟨u, rfl, ru⟩ := rv.one
  cases ru
  obtain ⟨z, its, n, r, hl, e⟩ := I.lstM hH
  obtain ⟨z2, its2, n2, r2, hl2, e2⟩ := I.lstM hB
  have hsz : its.toArray.size + its2.toArray.size ≤ sizeLine := by rw [List.size_toArray, List.size_toArray]; (first | lia | omega)
  have hlong : ¬ (!its.toArray.isEmpty && Builtin.List.listTooLong (its.toArray.size + its2.toArray.size)) = true := by
    rw [notLongL hsz, Bool.and_false]
    exact Bool.false_ne_true
  refine call_meets F.slot_list_extend ⟨_, e, rfl⟩ F.entry_list_extend (F.args_list_extend_2 _ _)
    (AutoSeq1.list_extend_list_list_0 l its.toArray n b its2.toArray n2 hlong (by rw [List.size_toArray]; (first | lia | omega)) (by (first | lia | omega))) ⟨e, e2, ?_⟩
  refine ⟨.non, _, I.lset (its' := its ++ its2) hH e (by simp) (r.append r2) ?_, rfl, q⟩
  rw [List.length_append]
  (first | lia | omega)

def rPop : V → List V → Hp → VK → Prop := fun x vs H Q => ∃ l xs y, x = .ref l ∧ vs = [] ∧ H l = some (.lst xs) ∧ xs[xs.length - 1]? = some y ∧ Q y (upd H l (.lst xs.dropLast))
theorem mt_pop : MtM X "list.pop" rPop := by
  intro pins s σ H x vs v us Q I rx rv h
  obtain ⟨l, xs, y, rfl, rfl, hH, hy, q⟩ := h
  cases rx
  have hus := rv.zero
  subst hus
  obtain ⟨z, its, n, r, hl, e⟩ := I.lstM hH
  obtain ⟨u, hu, ru⟩ := r.get hy
  have hy' : its.toArray[its.toArray.size - 1]? = some u := by
    show its.toArray[its.length - 1]? = some u
    rw [← Array.getElem?_toList, ← hl]
    exact hu
  refine call_meets F.slot_list_pop ⟨_, e, rfl⟩ F.entry_list_pop (F.args_list_pop_1 _) (MeetsSeq.list_pop_last l its.toArray n u hy' (by rw [List.size_toArray]; (first | lia | omega))) ⟨e, ?_⟩
  refine ⟨y, _, I.lset (its' := its.dropLast) hH e ?_ r.dropLast ?_, ru, q⟩
  · show its.toArray.eraseIdxIfInBounds (its.toArray.size - 1) = its.dropLast.toArray
    rw [List.size_toArray, List.eraseIdxIfInBounds_toArray, erase_last]
  · rw [List.length_dropLast]
    (first | lia | omega)



def rClear : V → List V → Hp → VK → Prop := fun x vs H Q => ∃ l xs, x = .ref l ∧ vs = [] ∧ H l = some (.lst xs) ∧ Q .non (upd H l (.lst []))
theorem mt_clear : MtM X "list.clear" rClear := by
  intro pins s σ H x vs v us Q I rx rv h
  obtain ⟨l, xs, rfl, rfl, hH, q⟩ := h
  cases rx
  have hus := rv.zero
  subst hus
  obtain ⟨z, its, n, r, hl, e⟩ := I.lstM hH
  refine call_meets F.slot_list_clear ⟨_, e, rfl⟩ F.entry_list_clear (F.args_list_clear_1 _) (AutoSeq1.list_clear_list_0 l its.toArray n (by rw [List.size_toArray]; (first | lia | omega))) ⟨e, ?_⟩
  exact ⟨.non, _, I.lset (its' := []) (ys := []) hH e rfl .nil (Nat.zero_le _), rfl, q⟩

/-! ### list + list, list += list, list * int -/
def rCat : R2 := fun x y H Q => ∃ l b xs zs, x = .ref l ∧ y = .ref b ∧ H l = some (.lst xs) ∧ H b = some (.lst zs) ∧ xs.length + zs.length ≤ sizeLine ∧ ∀ p, H p = none → Q (.ref p) (upd H p (.lst (xs ++ zs)))
theorem op_cat : OpR X (binaryOp .Add) rCat := by
  intro pins s σ H x y v u Q I rx ry h
  obtain ⟨l, b, xs, zs, rfl, rfl, hH, hB, hz, q⟩ := h
  cases rx
  cases ry
  obtain ⟨z, its, n, r, hl, e⟩ := I.lstM hH
  obtain ⟨z2, its2, n2, r2, hl2, e2⟩ := I.lstM hB
  refine PySem.P.add_list e e2 ?_ (by rw [List.size_toArray, List.size_toArray]; (first | lia | omega))
  have ea : its.toArray ++ its2.toArray = (its ++ its2).toArray := by simp
  rw [ea]
  exact ⟨.ref _, _, I.lnew (t' := s.toks) (r.append r2) (by rw [List.length_append]; (first | lia | omega)), rfl, q _ I.fresh⟩
/-- a list times an int (a negative one is nothing) -/
def rRep : R2 := fun x y H Q => ∃ l k xs, x = .ref l ∧ y = .int k ∧ H l = some (.lst xs) ∧ -(2 ^ 63) ≤ k ∧ k < 2 ^ 63 ∧ xs.length * k.toNat ≤ sizeLine ∧
  ∀ p, H p = none → Q (.ref p) (upd H p (.lst (List.replicate k.toNat xs).flatten))
theorem len_rep {α : Type} (xs : List α) (k : Nat) : (List.replicate k xs).flatten.length = k * xs.length := by
  induction k with
  | zero => simp
  | succ k ih => rw [List.replicate_succ, List.flatten_cons, List.length_append, ih, Nat.succ_mul, Nat.add_comm]
theorem op_rep : OpR X (binaryOp .Mult) rRep := by
  intro pins s σ H x y v u Q I rx ry h
  obtain ⟨l, k, xs, rfl, rfl, hH, h1, h2, hz, q⟩ := h
  cases rx
  obtain ⟨t, rfl⟩ := ry
  obtain ⟨z, its, n, r, hl, e⟩ := I.lstM hH
  have hlen : its.toArray.size * k.toNat ≤ sizeLine := by rw [List.size_toArray, ← hl]; exact hz
  have hcap : ¬ its.toArray.size * k.toNat > (2 ^ 63 - 1) / 8 := by
    have : (sizeLine : Nat) ≤ (2 ^ 63 - 1) / 8 := by decide
    (first | lia | omega)
  have hfit : ¬ (!Builtin.List.listFitsIndex k) = true := by
    rw [fitsIndex_both h1 h2]
    exact Bool.false_ne_true
  have hlong : ¬ Builtin.List.listTooLong (its.toArray.size * k.toNat) = true := by
    rw [notLongL hlen]
    exact Bool.false_ne_true
  have hnew : List.foldl (fun x1 x2 => x1 ++ x2) #[] (List.replicate (if its.toArray.isEmpty = true then 0 else k.toNat) its.toArray) = (List.replicate k.toNat its).flatten.toArray := by
    have f0 : ∀ m : Nat, List.foldl (fun x1 x2 => x1 ++ x2) #[] (List.replicate m its.toArray) = (List.replicate m its).flatten.toArray := fun m => by
      have := foldl_rep its m []
      rw [List.nil_append] at this
      exact this
    rw [f0]
    cases its with
    | nil => simp
    | cons a r' => rw [if_neg (by simp)]
  refine wpAny_binaryOp_repeat_ref (T := "list") (U := "int") (by decide) ⟨_, e, rfl⟩ (fun s' => typeIs_int s' k t) noFill_list_mul F.fills_int_mul F.slot_int_rmul repeat_list F.slot_int_index.lookup
    (call_meets F.slot_int_rmul (typeIs_int s k t) F.entry_int_rmul (F.args_int_rmul_2 _ _) (int___rmul___int_list k t l its.toArray n)
      ⟨e, rfl, ⟨_, e, rfl⟩, call_meets F.slot_list_mul ⟨_, e, rfl⟩ F.entry_list_mul (F.args_list_mul_2 _ _) (AutoListH.list___mul___list_int_3 l its.toArray n k t hfit hcap hlong) ⟨e, ?_⟩⟩)
  rw [hnew]
  exact ⟨.ref _, _, I.lnew (t' := s.toks) (r.rep k.toNat) (by rw [len_rep, Nat.mul_comm]; exact hz), rfl, q _ I.fresh⟩

/-! ### del xs[i] -/
end

/-! ### xs[a:b] = ys -/
section
variable {prog : Program} {w : World} {A : Around} {E : Value → Shared → Prop} {s : Shared}
end

section
variable {X : Cx}
end
end L2

namespace Att
open PySem PySem.W PySem.Calls PyProof.Rows

/-! ### the script -/
theorem ints_of_wellAll {P : Params} {h : Heap} : ∀ (ns : List Int) (vs : List Value), WellAll P h vs (ns.map WData.int) → IntsAre vs ns := by
  intro ns
  induction ns with
  | nil =>
    intro vs w
    rw [List.map_nil] at w
    cases w
    exact .nil
  | cons n ns ih =>
    intro vs w
    rw [List.map_cons] at w
    cases w with
    | cons a b =>
      cases a
      exact .cons _ _ (ih _ b)

theorem script_of {l : OpenLaw} {n : Nat} (hn : l.most = some n) {P : Params} {h : Heap} {args : List WData} {vals : List Value}
    (hpre : l.row.toRowW.claim.pre args = true) (hwl : WellAll P h vals args) :
    ∃ a vs ns, vals = [Value.ref a] ∧ args = [WData.list (ns.map WData.int)] ∧ h.get? a = some { cls := .type "list", data := .seq vs.toArray } ∧ IntsAre vs ns ∧ ns.length ≤ n := by
  have hsh : WShape.hasAll [] args [.list .int] = true := (pre_splitW hpre).1
  have hc : l.pre.holds [] { args := args } = true := (pre_splitW hpre).2
  obtain ⟨d, r, rfl, h1, h2⟩ := hasAllW_cons hsh
  obtain rfl := hasAllW_nil h2
  obtain ⟨xs, rfl, h3⟩ := hasW_list h1
  obtain ⟨ns, rfl⟩ := items_int h3
  have hlen : ns.length ≤ n := by
    unfold OpenLaw.pre at hc
    have h4 : (WTm.not (.lt (.lit (.int (n : Int))) (.len (.arg 0)))).holds [] { args := [.list (ns.map .int)] } = true := by
      have h4 := (holds_andW hc).1
      rw [hn] at h4
      exact h4
    have h5 := condW_of h4 (w_not (w_lt w_lit (w_len_list (w_arg rfl))))
    rw [List.length_map] at h5
    refine Nat.le_of_not_lt fun q => ?_
    have q' : (n : Int) < ((ns.length : Nat) : Int) := by (first | lia | omega)
    first
      | (rw [decide_eq_true q'] at h5; exact absurd h5 (by decide))
      | (simp at h5; (first | lia | omega))
  cases hwl with
  | cons w1 w2 =>
    cases w2
    cases w1 with
    | list ho hall => exact ⟨_, _, ns, rfl, rfl, ho, ints_of_wellAll ns _ hall, hlen⟩

theorem post_true (l : OpenLaw) (args : List WData) : l.row.toRowW.claim.post args (.bool true) args = true :=
  postW_of (r := l.row.toRowW) (X := (true == true))
    (show WShape.has [] (.bool true) .bool = true by first | rfl | decide | simp [WShape.has, WShape.arms, WShape.armsAll])
    (show (WTm.eq .res (.lit (.bool true))).value [] { args := args, res := some (.bool true), after := args } = some (.bool (true == true)) from w_eq_bool (w_res rfl) w_lit) rfl

/-! ### the attachment: holds_open's last premise (the goal 'hc' behind k_head) from a wpAny of the law's body -/

/-- the same from a codeAny of the CALL (for a layer whose function contracts speak of calls) -/
theorem attach_call {l : OpenLaw} {n : Nat} {q : Program} {loose : List Str} {XP : (Str → Option Value) → Heap → Prop} {YP : World → Heap → Prop} {d : DefRec}
    (hn : l.most = some n) (hdf : d.params.defaults = [])
    (call : ∀ (w : World) (s₀ s₁ : Shared) (mg mb : Str → Option Value) (fa : Addr) (o : Obj) (pm cd doc : Value) (a : Addr) (vs : List Value) (ns : List Int),
      Ground q loose [] XP w s₀ mg mb s₁.heap → YP w s₁.heap →
      s₁.heap.get? fa = some o → o.data = .func (docDef d.name d.params d.body d.scope pm cd doc) → s₁.heap.CodeRec cd d.name → mg d.name = some (.ref fa) →
      s₁.heap.get? a = some { cls := .type "list", data := .seq vs.toArray } → IntsAre vs ns → ns.length ≤ n → s₁.gens = #[] →
      codeAny (model l.prog w) callerA (.call (.ref fa) ⟨[.ref a], []⟩) (fun r s' => r = .ok (.ret (.bool true)) ∧ OldK s₁.heap s'.heap ∧ s'.os = s₁.os ∧ AllBare s'.gens) s₁) :
    WalkO q loose XP YP l.row.toRowW d [] (fun f vs => PySem.call f vs) := by
  intro w s₀ s₁ mg mb G Y fa o pm cd doc dV kV ho hd hcd hD hmg hg args vals as hpre hlay hrd hwl hlo
  obtain rfl : dV = .none := Dflts.none hD hdf
  obtain rfl : kV = .none := Dflts.noKw hD
  obtain ⟨a, vs, ns, rfl, rfl, hobj, hints, hlen⟩ := script_of hn hpre hwl
  refine enter_call (codeAny_mono (call w s₀ s₁ mg mb fa o pm cd doc a vs ns G Y ho (fd_plain hd) hcd hmg hobj hints hlen hg) fun r s' hq => ?_)
  obtain ⟨rfl, h2, h3, h4⟩ := hq
  exact ⟨.inl ⟨.bool true, .bool true, [], rfl, fun _ => rfl, .bool true, post_true l _, fun _ => ⟨List.Pairwise.nil, fun _ hm => (nomatch hm)⟩⟩, h2, h3, h4⟩


/-! ### rules over ANY heap (no ledger) from facts about the written part K: the library's own take a ledger (News) for what they write -/
section
variable {prog : Program} {w : World} {A : Around} {E : Value → Shared → Prop} {s : Shared} {K : Frag}





/-! the whole heap as the ledger: makes every rule that writes through a ledger a rule over any heap -/

end
end Att

namespace L2
open PySem PySem.Spec PyProof.Rows

theorem vals_ints : ∀ {vs : List Value} {ns : List Int}, IntsAre vs ns → Vals (ns.map V.int) vs
  | _, _, .nil => .nil
  | _, _, .cons n t h => .cons ⟨t, rfl⟩ (vals_ints h)

/-- nothing is tracked but the script, known to the object (or it is an object of the module) -/
def Only (H : Hp) : Prop := ∀ b, H b = none ∨ ∃ o xs, H b = some (.frz o (.lst xs))

/-- THE HEAD: the law's promise, at the heap behind the top. F, the promise of the law's def, may use that base is part of the heap (so K.In base, base.Ns mainGlobals mg stand in Mod) -/
theorem law_call {P : Program} {w : World} {K : PySem.W.Frag} {mg mb : Str → Option Value} {CX : CXT} {k : Nat} {fa a : Addr} {fd : FuncData} {x : Str} {sp : Sp} {s₁ : Shared} {vs : List Value} {ns : List Int}
    (KX : K.In s₁.heap) (hns : s₁.heap.Ns mainGlobals mg) (hb : s₁.heap.Ns builtinsNs mb) (hbb : ∀ x : Str, x ≠ "__name__" → mb x = bootBuiltins x) (hlim : s₁.heap.NoLimit) (hg : s₁.gens = #[])
    (ha : s₁.heap.get? a = some { cls := .type "list", data := .seq vs.toArray }) (hi : IntsAre vs ns) (hl : ns.length ≤ sizeLine) (hr : Room k callerA)
    (F : ∀ base : Heap, K.In base → base.Ns mainGlobals mg → FnOk P w K mg base CX k fa fd [x] sp) (hbind : ∀ (s : Shared) (u : Value), BindsTo s fd ⟨[u], []⟩ [(x, u)])
    (hsp : ∀ H : Hp, Only H → SqL K H a (ns.map V.int) → sp [.ref a] H (fun v _ => v = .bl true) fun _ _ _ => False)
    (hCX : ∀ H e s', CX [] H s₁ (fun _ _ _ => False) e s' → False) :
    codeAny (model P w) callerA (.call (.ref fa) ⟨[.ref a], []⟩) (fun r s' => r = .ok (.ret (.bool true)) ∧ OldK s₁.heap s'.heap ∧ s'.os = s₁.os ∧ AllBare s'.gens) s₁ := by
  have rv := vals_ints hi
  have lenV := hi.length
  -- from an abstract heap in which nothing but the script may be tracked
  have core : ∀ H : Hp, Only H → SqL K H a (ns.map V.int) → HOk P w H s₁.heap → (∀ b, H b ≠ none → b = a) → (H a ≠ none → K.lookup a = none) →
      codeAny (model P w) callerA (.call (.ref fa) ⟨[.ref a], []⟩) (fun r s' => r = .ok (.ret (.bool true)) ∧ OldK s₁.heap s'.heap ∧ s'.os = s₁.os ∧ AllBare s'.gens) s₁ := by
    intro H hO hS hok hA hK
    have base_of : ∀ {b : Addr} {o : Obj}, s₁.heap.get? b = some o → H b = none → (hidT s₁.heap H).get? b = some o := fun e n => hidT_get e n
    have noA : ∀ {b : Addr} {o : Obj} {es : Array DictEntry} {ep : Nat}, s₁.heap.get? b = some o → o.data = .dict es ep → H b = none := fun {b o es ep} e d => by
      cases q : H b with
      | none => rfl
      | some u =>
        have e' : b = a := hA b (by rw [q]; simp)
        subst e'
        rw [ha] at e; cases e
        have d' : Data.seq vs.toArray _ = Data.dict es ep := d
        cases d'
    have nsK : ∀ {b : Addr} {m : Str → Option Value}, s₁.heap.Ns b m → (hidT s₁.heap H).Ns b m := fun {b m} ⟨o, es, ep, e, d, r⟩ => ⟨o, es, ep, base_of e (noA e d), d, r⟩
    have hKb : K.In (hidT s₁.heap H) := fun b o e => base_of (KX b o e) (by
      cases q : H b with
      | none => rfl
      | some u =>
        have e' : b = a := hA b (by rw [q]; simp)
        subst e'
        rw [hK (by rw [q]; simp)] at e; cases e)
    have hM : Mod K mg (hidT s₁.heap H) := ⟨hKb, nsK hns, ⟨mb, nsK hb, hbb⟩, let ⟨mc, h1, h2⟩ := hlim; ⟨mc, nsK h1, h2⟩⟩
    have e0 : Env0 P w K mg (hidT s₁.heap H) callerA [] s₁ H := ⟨rfl, hM, fun b o e => of_hidT e, Nat.le_of_eq (hidT_size _ _), trivial, fun b hb => absurd (show b ∈ ([] : List Addr) from hb) (by simp), hok, .of_eq hg⟩
    refine codeAny_mono ((F _ hKb (nsK hns)).run callerA [] s₁ H ⟨[.ref a], []⟩ [.ref a] [.ref a] _ _ hr e0 (hbind s₁ (.ref a)) (.cons rfl .nil) (hsp H hO hS)) fun r s' h => ?_
    cases r with
    | error e => exact (hCX H e s' h).elim
    | ok fl =>
      cases fl with
      | next => exact False.elim h
      | brk => exact False.elim h
      | cont => exact False.elim h
      | ret u =>
        obtain ⟨v, H', os, bare, un, hok', r', q⟩ := h
        have q' : v = .bl true := q
        subst q'
        obtain rfl : u = Value.bool true := r'
        refine ⟨rfl, OldK.of_keep fun b o e => ?_, os, bare⟩
        cases q : H b with
        | none => exact un.keep b o e q (by intro z; exact absurd (show b ∈ ([] : List Addr) from z) (by simp)) (by simp)
        | some u =>
          rcases hO b with z | ⟨ob, xs, z⟩
          · rw [q] at z; cases z
          · have z2 := un.frzs b ob _ z
            obtain ⟨e1, _⟩ := hok b _ z
            obtain ⟨e2, _⟩ := hok' b _ z2
            rw [e] at e1; cases e1
            exact e2
  cases hk : K.lookup a with
  | some o =>
    -- the script is one of the module's own objects
    have e := KX a o hk
    rw [ha] at e
    cases e
    refine core (fun _ => none) (fun _ => .inl rfl) (.inr ⟨_, vs.toArray, _, hk, rfl, rfl, rfl, by rw [List.size_toArray, lenV]; exact hl, by simpa using rv⟩) (fun b u z => by have z' : (none : Option HO) = some u := z; cases z') (fun b z => absurd rfl z) fun z => absurd rfl z
  | none =>
    refine core (fun b => if b = a then some (.frz { cls := .type "list", data := .seq vs.toArray } (.lst (ns.map V.int))) else none) (fun b => ?_) (.inl (.inr ⟨{ cls := .type "list", data := .seq vs.toArray }, if_pos rfl⟩)) (fun b u z => ?_) (fun b z => ?_) fun _ => hk
    · by_cases hb : b = a
      · exact .inr ⟨_, _, if_pos hb⟩
      · exact .inl (if_neg hb)
    · by_cases hb : b = a
      · have z' := (if_pos hb).symm.trans z
        cases z'
        subst hb
        exact ⟨ha, by rw [List.length_map]; exact hl, vs, _, rv, ha⟩
      · have z' := (if_neg hb).symm.trans z
        cases z'
    · by_cases hb : b = a
      · exact hb
      · exact absurd (if_neg hb) z
end L2

namespace L2
open PySem PySem.Spec PyProof.Rows


/-- the goal that k_head leaves (case hc), from the law's promise. F gives the function object fd (K's own) once, then the promise over every base -/
theorem walk_of {l : PySem.W.OpenLaw} {n k : Nat} {q : Program} {loose : List Str} {XP : (Str → Option Value) → Heap → Prop} {YP : World → Heap → Prop} {d : DefRec} {K : Params → PySem.W.Frag} {CX : World → CXT} {sp : World → Sp} {x : Str}
    (hn : l.most = some n) (hn2 : n ≤ sizeLine) (hdf : d.params.defaults = []) (hr : Room k callerA)
    (hY : ∀ (w : World) (h : Heap), YP w h → (K w.params).In h)
    (F : ∀ (w : World) (mg : Str → Option Value) (fa : Addr) (h : Heap), (K w.params).In h → h.Ns mainGlobals mg → mg d.name = some (.ref fa) →
      ∃ fd : FuncData, (∀ (s : Shared) (u : Value), BindsTo s fd ⟨[u], []⟩ [(x, u)]) ∧
        ∀ base : Heap, (K w.params).In base → base.Ns mainGlobals mg → FnOk l.prog w (K w.params) mg base (CX w) k fa fd [x] (sp w))
    (hsp : ∀ (w : World) (H : Hp) (a : Addr) (ns : List Int), ns.length ≤ n → Only H → SqL (K w.params) H a (ns.map V.int) → sp w [.ref a] H (fun v _ => v = .bl true) fun _ _ _ => False)
    (hCX : ∀ (w : World) (H : Hp) (s : Shared) (e : Value) (s' : Shared), CX w [] H s (fun _ _ _ => False) e s' → False) :
    PySem.W.WalkO q loose XP YP l.row.toRowW d [] (fun f vs => PySem.call f vs) := by
  refine Att.attach_call hn hdf fun w s₀ s₁ mg mb fa o pm cd doc a vs ns G Y ho hd hcd hmg hobj hints hlen hg => ?_
  have KX := hY w _ Y
  obtain ⟨fd, hb, hF⟩ := F w mg fa _ KX G.T.g hmg
  exact law_call KX G.T.g G.T.b G.T.builtins G.T.nolimit hg hobj hints (Nat.le_trans hlen hn2) hr hF hb (fun H hO hS => hsp w H a ns hlen hO hS) fun H e s' => hCX w H s₁ e s'
end L2

/- THE LAST THEOREM (shape; LID, My.* are yours):
   My.Adr: a structure of the addresses that your layer names (classes, functions); My.Txt K t: a structure (Prop) of the equations over K;
   My.txt_mk : {K} {implicit addresses ..} (e1 : nsIn K mainGlobals "law" = some (some (.ref f))) (e2 : K.lookup f = some ⟨oc, od, .func (fnOf "law" "law" params body scope dV kV doc pm an cdv ct), sl⟩) (e3 : codeIn K cdv "law" = true) .. : ∃ t, My.Txt K t

set_option maxRecDepth 100000 in
set_option maxHeartbeats 0 in
theorem PySem.Challenge.cw_LID_holds : PySem.Challenge.rw_LID.Holds := by
  w_on; o_law; k_head; (case hw => w_witness2)
  k_fill
  refine L2.walk_of (l := PySem.Challenge.rw_LID) (n := 63) (k := 40) (x := "script") (CX := fun w => ..) (sp := fun _ => My.sp_law) rfl (by decide) rfl ⟨rfl, by decide, by decide⟩ (fun w h Y => PySem.W.kIn_of Y) ?F ?S ?C
  case F =>
    intro w mg fa h KX G hmg
    have T : ∃ t, My.Txt (L2.KOf KX) t := by
      dsimp only [L2.KOf]                          -- K must stand as «<heap const> w.params» for k_is
      refine' My.txt_mk ?e1 ?e2 ?e3 ..
      (case e1 => PySem.W.k_is)                    -- in the order: a name -> its address -> its object -> its parts
      (case e2 => PySem.W.k_is)
      ..
    obtain ⟨t, T⟩ := T
    have e0 := hmg.symm.trans (PySem.W.mg_of KX G T.law)
    cases e0                                       -- fa is the law's own address
    exact ⟨_, fun s u => .of_eq rfl, fun base kb nb => My.law_fn T kb nb⟩     -- if «.of_eq rfl» comes too early: refine' ⟨_, ?b, fun base kb nb => My.law_fn T kb nb⟩; exact fun s u => .of_eq rfl
  case S => exact fun w H a ns hl hO hS => ..
  case C => exact ..
(the tactic k_is has no namespace: write k_is) -/

/-! SHORT WORDS over the layer: a def of the text, its body, what a loop and a test want. -/
namespace L2
open PySem PySem.Spec PyProof.Rows

/-! ### the text by places -/
/-- the j-th statement of a class's body -/
def inClass (s : Stmt) (j : Nat) : Stmt := match s with
  | .ClassDef _ _ _ body _ _ _ _ _ _ _ => body.getD j (.Pass ⟨0, 0, 0, 0⟩)
  | _ => .Pass ⟨0, 0, 0, 0⟩
def defArgs (s : Stmt) : Arguments := match s with
  | .FunctionDef _ a _ _ _ _ _ _ _ _ => a
  | _ => { posonlyargs := [], args := [], vararg := none, kwonlyargs := [], kw_defaults := [], kwarg := none, defaults := [] }
def defBody (s : Stmt) : List Stmt := match s with
  | .FunctionDef _ _ b _ _ _ _ _ _ _ => b
  | _ => []
def defScope (s : Stmt) : Scope := match s with
  | .FunctionDef _ _ _ _ _ _ sc _ _ _ => sc
  | _ => { kind := .function, names := [], isGenerator := false, isCoroutine := false }

/-! ### no exception leaves a def -/
abbrev CX0 : CXT := fun _ _ _ _ _ _ => False
abbrev E0 : XK := fun _ _ _ => False
theorem pass0 {X : Cx} : Passes CX0 X E0 := fun _ _ _ _ _ _ _ h => h.elim

/-! ### a def (or method) of the text as it stands behind the top -/
structure Fun (K : PySem.W.Frag) (x qual : Str) (st : Stmt) (f : Addr) (fd : FuncData) : Prop where
  ex : ∃ (oc : Value) (od : Option Addr) (kV doc pm : Value) (an : Option Addr) (cdv ct : Value) (osl : Array (Option Value)),
    fd = PySem.W.fnOf x qual (defArgs st) (defBody st) (defScope st) .none kV doc pm an cdv ct ∧ K.lookup f = some ⟨oc, od, .func fd, osl⟩ ∧ PySem.W.codeIn K cdv qual = true
  kp : PySem.W.keepIn K (.ref f) = true
section
variable {P : Program} {w : World} {K : PySem.W.Frag} {mg : Str → Option Value} {base : Heap}
/-- THE RULE for a def: its body as a term of rules, and the reading of that term -/
theorem Fun.ok {x qual : Str} {st : Stmt} {f : Addr} {fd : FuncData} {N ps : List Str} {k : Nat} {sp : Sp} (F : Fun K x qual st f fd) (S : FnScope N ps (defScope st)) (len : ∀ vs H Q E, sp vs H Q E → vs.length = ps.length)
    (hbody : ∀ (cdv : Value) (A : Around) (outer : List Env) (s : Shared) (H : Hp) (vs : List V) (Q : VK) (E : XK), Room k (A.deeper (envOfC qual (defScope st) s.heap.objs.size f cdv)) → sp vs H Q E →
      ∃ t, PSs (cxOf CX0 P w K mg base N qual (defScope st) f cdv A outer s H E).nox (defBody st) t ∧ t { nx := fun _ H' => Q .non H', rt := Q } (start N vs) H) : FnOk P w K mg base CX0 (k + 1) f fd ps sp := by
  obtain ⟨oc, od, kV, doc, pm, an, cdv, ct, osl, rfl, lk, hcd⟩ := F.ex
  refine fn_of lk hcd S len fun A outer s H vs Q E hr hsp => ?_
  obtain ⟨t, h, q⟩ := hbody cdv A outer s H vs Q E hr hsp
  exact ⟨t, h.nox, q⟩
/-- how its arguments bind (no defaults): h is «fun _ _ _ _ _ _ us hl => match us, hl with | [_, _], _ => rfl», one _ a parameter -/
theorem Fun.binds {x qual : Str} {st : Stmt} {f : Addr} {fd : FuncData} {ps : List Str} (F : Fun K x qual st f fd)
    (h : ∀ (kV doc pm : Value) (an : Option Addr) (cdv ct : Value) (us : List Value), us.length = ps.length → bindArgs (PySem.W.fnOf x qual (defArgs st) (defBody st) (defScope st) .none kV doc pm an cdv ct) ⟨us, []⟩ = pure (ps.zip us)) : Binds K fd ps [] := by
  obtain ⟨oc, od, kV, doc, pm, an, cdv, ct, osl, rfl, lk, hcd⟩ := F.ex
  exact .all (h kV doc pm an cdv ct)
theorem fun_mk {x qual : Str} {st : Stmt} {f : Addr} {oc : Value} {od an : Option Addr} {osl : Array (Option Value)} {kV doc pm cdv ct : Value} (l : K.lookup f = some ⟨oc, od, .func (PySem.W.fnOf x qual (defArgs st) (defBody st) (defScope st) .none kV doc pm an cdv ct), osl⟩)
    (c : PySem.W.codeIn K cdv qual = true) (k : PySem.W.keepIn K (.ref f) = true) : Fun K x qual st f (PySem.W.fnOf x qual (defArgs st) (defBody st) (defScope st) .none kV doc pm an cdv ct) := ⟨⟨oc, od, kV, doc, pm, an, cdv, ct, osl, rfl, l, c⟩, k⟩
end

/-! ### expressions in short: the name that stands in the i-th slot -/
section
variable {X : Cx}
theorem pv (i : Nat) {x : Str} {pos : Pos} (hN : X.N[i]? = some x := by rfl) (hv : Vis X.env.scope x := by first | exact Or.inl rfl | exact Or.inr (Or.inl rfl) | exact Or.inr (Or.inr rfl)) (hd : (x == ("__debug__" : Str)) = false := by decide)
    (hcd : (x == ("__classdict__" : Str)) = false := by decide) : PE X (.Name x pos) (tVar i) := pe_var hN hv hd hcd
end

/-! ### tests -/
theorem iteF {A B : Prop} (h : B) : if false = true then A else B := by
  rw [if_neg Bool.false_ne_true]
  exact h
theorem iteT {A B : Prop} (h : A) : if true = true then A else B := by
  rw [if_pos rfl]
  exact h
theorem ite2 {c A B : Prop} [Decidable c] (h1 : c → A) (h2 : ¬ c → B) : if c then A else B := by
  by_cases h : c
  · rw [if_pos h]
    exact h1 h
  · rw [if_neg h]
    exact h2 h
theorem iteNS {c A B : Prop} [Decidable c] (hc : c) (h : B) : if (!decide c) = true then A else B := by
  rw [decide_eq_true hc]
  exact iteF h

/-! ### heaps -/
/-- all that was tracked is as it was -/
def Same (H H' : Hp) : Prop := ∀ b o, H b = some o → H' b = some o
theorem Same.trans {H H1 H2 : Hp} (a : Same H H1) (b : Same H1 H2) : Same H H2 := fun c o h => b c o (a c o h)
theorem Same.free {H H' : Hp} (e : Same H H') {l : Addr} (h : H' l = Option.none) : H l = Option.none := by
  cases q : H l with
  | none => rfl
  | some o =>
    rw [e l o q] at h
    cases h
theorem Same.seq {K : PySem.W.Frag} {H H' : Hp} {a : Addr} {xs : List V} (e : Same H H') (h : SqL K H a xs) : SqL K H' a xs := by
  rcases h with (h | ⟨o, h⟩) | h
  · exact .inl (.inl (e _ _ h))
  · exact .inl (.inr ⟨o, e _ _ h⟩)
  · exact .inr h

end L2

set_option Elab.async false
set_option linter.all false
set_option maxRecDepth 100000
set_option maxHeartbeats 4000000
/-! EXCEPTIONS over the layer: an own error class raised, passed on by defs, taken by a try. -/
namespace L2
open PySem PySem.Spec PyProof.Rows

theorem ObjOk.thereO {P : Program} {w : World} {H : Hp} {h : Heap} {a : Addr} {o : HO} (x : ObjOk P w H h a o) : ∃ u, h.get? a = some u := by
  cases o with
  | lst xs => obtain ⟨_, _, _, _, e⟩ := x; exact ⟨_, e⟩
  | tup xs => obtain ⟨_, _, _, o, e, _⟩ := x; exact ⟨_, e⟩
  | dK kvs => obtain ⟨_, _, _, _, o, _, _, e, _⟩ := x; exact ⟨_, e⟩
  | dT kvs => obtain ⟨_, _, _, _, o, _, _, e, _⟩ := x; exact ⟨_, e⟩
  | set S n => obtain ⟨o, _, _, _, e, _⟩ := x; exact ⟨_, e⟩
  | ins C dx fs => obtain ⟨_, _, _, e, _⟩ := x; exact ⟨_, e⟩
  | own y => exact x
  | xd fs => obtain ⟨_, ⟨o, _, _, e, _⟩, _⟩ := x; exact ⟨_, e⟩
  | rng lo hi => obtain ⟨_, _, _, e⟩ := x; exact ⟨_, e⟩
  | frz ob u => obtain ⟨e, _⟩ := x; exact ⟨_, e⟩
  | tbl ps => exact ⟨_, (show h.get? a = some _ from x)⟩
  | met f y => exact ⟨_, (show h.get? a = some _ from x)⟩
  | ext φ => obtain ⟨_, e, _⟩ := x; exact e

/-- an exception at ea, of the own class at C, in flight: B, what stands apart from the frames and stays -/
structure Fly (P : Program) (w : World) (outer : List Env) (H : Hp) (s : Shared) (ea C t : Addr) (B : Heap) (H' : Hp) (s' : Shared) : Prop where
  os : s'.os = s.os
  bare : AllBare s'.gens
  fly : Heap.FlyingW B outer ea (.ref C) (.ref t) s'.heap
  hok : HOk P w H' B
  old : ∀ b o, s.heap.get? b = some o → H b = none → b ∉ frs outer → B.get? b = some o
  there : ∀ b o, s.heap.get? b = some o → b ∉ frs outer → ∃ o', B.get? b = some o'
  free : ∀ b o, s.heap.get? b = some o → H b = none → H' b = none
  slot : ∀ b ∈ frs outer, ∀ o, s.heap.get? b = some o → ∃ sl, s'.heap.get? b = some { o with slots := sl }
  tups : ∀ b xs, H b = some (.tup xs) → H' b = some (.tup xs)
  frzs : ∀ b o u, H b = some (.frz o u) → H' b = some (.frz o u)
  tbls : ∀ b ps, H b = some (.tbl ps) → ∃ more, H' b = some (.tbl (ps ++ more))
def CXF (P : Program) (w : World) : CXT := fun outer H s E e s' => ∃ (ea C t : Addr) (B : Heap) (H' : Hp), e = .ref ea ∧ Fly P w outer H s ea C t B H' s' ∧ E (.ref C) none H'
/-- an exception just made -/
def PassesM (X : Cx) (E : XK) : Prop := ∀ (pins : List (Addr × Obj)) (σ : St) (H : Hp) (s : Shared) (h' : Heap) (ea C : Addr) (vs : List Value), Inv X pins σ H s → Heap.MadeExcOf s.heap h' ea (.ref C) vs → E (.ref C) none H →
  X.xe (.ref ea) { s with heap := h' }

theorem mem_frs_cons {env : Env} {outer : List Env} {L b : Addr} (hf : env.frame = some L) (hb : b ∈ frs (env :: outer)) : b = L ∨ b ∈ frs outer := by
  unfold frs at hb
  rw [List.filterMap_cons, hf] at hb
  exact List.mem_cons.mp hb
theorem mem_frs_tail {env : Env} {outer : List Env} {b : Addr} (hb : b ∈ frs outer) : b ∈ frs (env :: outer) := by
  unfold frs at hb ⊢
  rw [List.filterMap_cons]
  split
  · exact hb
  · exact List.mem_cons_of_mem _ hb

section
variable {P : Program} {w : World} {K : PySem.W.Frag} {mg : Str → Option Value} {base : Heap} {N : List Str} {qual : Str} {scope : Scope} {f : Addr} {cd : Value} {A : Around} {outer : List Env} {s : Shared} {H : Hp} {E : XK} {CX : CXT}

/-- a def hands a callee's exception on -/
theorem pass_def : Passes (CXF P w) (cxOf (CXF P w) P w K mg base N qual scope f cd A outer s H E) E := by
  intro pins σ H1 s1 e s' I hq
  obtain ⟨ea, C, t, B, H', rfl, F, hE⟩ := hq
  have F : Fly P w (envOfC qual scope s.heap.objs.size f cd :: outer) H1 s1 ea C t B H' s' := F
  have noex : ∀ b : Addr, b ∉ (cxOf (CXF P w) P w K mg base N qual scope f cd A outer s H E).ex := fun b z => nomatch z
  have hne : ∀ b o, s.heap.get? b = some o → b ∉ frs outer → b ∉ frs (envOfC qual scope s.heap.objs.size f cd :: outer) := fun b o e nb hb => by
    rcases mem_frs_cons (L := s.heap.objs.size) rfl hb with z | z
    · exact absurd (Heap.lt_size e) (by rw [z]; exact Nat.lt_irrefl _)
    · exact nb z
  show wpAny (model P w) (A.deeper (envOfC qual scope s.heap.objs.size f cd)) (leaving (envOfC qual scope s.heap.objs.size f cd) (.ref ea)) (fun _ s'' => CXF P w outer H s E (.ref ea) s'') (fun e' s'' => CXF P w outer H s E e' s'') s'
  refine wpAny_leaves_onW (outer := outer) (L := s.heap.objs.size) I.ok.frames rfl F.fly fun h' x1 x2 => ⟨ea, C, t, B, H', rfl, ⟨?_, F.bare, x1, F.hok, fun b o e n nb => ?_, fun b o e nb => ?_, fun b o e n => ?_, fun b hb o e => ?_, fun b xs e => ?_, fun b o u e => ?_, fun b ps e => ?_⟩, hE⟩
  · exact F.os.trans I.os
  · exact F.old b o (I.base.keep b o e n nb (noex b)) (I.base.free b o e n (noex b)) (hne b o e nb)
  · obtain ⟨o1, e1⟩ := I.base.there b o e (noex b)
    exact F.there b o1 e1 (hne b o e nb)
  · obtain ⟨o1, e1⟩ := I.base.there b o e (noex b)
    exact F.free b o1 e1 (I.base.free b o e n (noex b))
  · obtain ⟨sl, e1⟩ := I.base.slot b o e (I.ok.frf b hb) hb (noex b)
    obtain ⟨sl2, e2⟩ := F.slot b (mem_frs_tail hb) _ e1
    obtain ⟨_, o', eo, nf⟩ := I.ok.funs.mem hb
    have eo : s.heap.get? b = some o' := eo
    rw [e] at eo; cases eo
    obtain ⟨sl3, e3⟩ := x2 b _ e2 nf
    exact ⟨sl3, e3⟩
  · exact F.tups b xs (I.base.tups b xs e)
  · exact F.frzs b o u (I.base.frzs b o u e)
  · obtain ⟨m1, e1⟩ := I.base.tbls b ps e
    obtain ⟨m2, e2⟩ := F.tbls b _ e1
    exact ⟨m1 ++ m2, by rw [e2, Array.append_assoc]⟩

/-- a def's own raise -/
theorem passM_def : PassesM (cxOf (CXF P w) P w K mg base N qual scope f cd A outer s H E) E := by
  intro pins σ H1 s1 h' ea C vs I hx hE
  have noex : ∀ b : Addr, b ∉ (cxOf (CXF P w) P w K mg base N qual scope f cd A outer s H E).ex := fun b z => nomatch z
  have hne : ∀ b o, s.heap.get? b = some o → b ∉ frs outer → b ∉ frs (envOfC qual scope s.heap.objs.size f cd :: outer) := fun b o e nb hb => by
    rcases mem_frs_cons (L := s.heap.objs.size) rfl hb with z | z
    · exact absurd (Heap.lt_size e) (by rw [z]; exact Nat.lt_irrefl _)
    · exact nb z
  have stk := I.stack
  have stk : s1.heap.FunFrames base (envOfC qual scope s.heap.objs.size f cd :: outer) := stk
  have sfr : ∀ b ∈ frs (envOfC qual scope s.heap.objs.size f cd :: outer), H1 b = none := I.stkFree
  have hin : ∀ env ∈ (envOfC qual scope s.heap.objs.size f cd :: outer), ∀ a, env.frame = some a → a ∈ frs (envOfC qual scope s.heap.objs.size f cd :: outer) := fun env he a ha => List.mem_filterMap.mpr ⟨env, he, ha⟩
  show wpAny (model P w) (A.deeper (envOfC qual scope s.heap.objs.size f cd)) (leaving (envOfC qual scope s.heap.objs.size f cd) (.ref ea)) (fun _ s'' => CXF P w outer H s E (.ref ea) s'') (fun e' s'' => CXF P w outer H s E e' s'') { s1 with heap := h' }
  refine wpAny_leaves_madeW (base := PySem.W.hideAll s1.heap (frs (envOfC qual scope s.heap.objs.size f cd :: outer))) (h := s1.heap) (outer := outer) (L := s.heap.objs.size) I.ok.frames rfl (fun b o q => PySem.W.of_hideAll _ q)
    (PySem.W.funFrames_hide stk hin) hx fun h2 t x1 x2 x3 x4 => ⟨ea, C, t, _, H1, rfl, ⟨I.os, I.bare, x1, fun a o e => ?_, fun b o e n nb => ?_, fun b o e nb => ?_, fun b o e n => ?_, fun b hb o e => ?_, I.base.tups, I.base.frzs, I.base.tbls⟩, hE⟩
  · refine (I.hok a o e).stay (fun b u hb q => PySem.W.hideAll_get _ q fun hm => ?_) (fun _ q => q) fun _ _ q => q
    have z := sfr b hm
    rcases hb with rfl | hb
    · rw [z] at e; cases e
    · rw [z] at hb; cases hb
  · exact PySem.W.hideAll_get _ (I.base.keep b o e n nb (noex b)) (hne b o e nb)
  · obtain ⟨o1, e1⟩ := I.base.there b o e (noex b)
    exact ⟨o1, PySem.W.hideAll_get _ e1 (hne b o e nb)⟩
  · exact I.base.free b o e n (noex b)
  · obtain ⟨sl, e1⟩ := I.base.slot b o e (I.ok.frf b hb) hb (noex b)
    have e2 := hx.keeps b _ e1
    obtain ⟨_, o', eo, nf⟩ := I.ok.funs.mem hb
    have eo : s.heap.get? b = some o' := eo
    rw [e] at eo; cases eo
    obtain ⟨sl3, e3⟩ := x4 b _ e2 nf
    exact ⟨sl3, e3⟩
theorem own_def : PassesOwn (model P w) (cxOf CX P w K mg base N qual scope f cd A outer s H E).A (cxOf CX P w K mg base N qual scope f cd A outer s H E).env (cxOf CX P w K mg base N qual scope f cd A outer s H E).xe := PassesOwn.leaving (Q₁ := fun e s'' => CX outer H s E e s'')
/-- a promise that raises nothing, as one that may -/
theorem FnOk.cxf {k : Nat} {f : Addr} {fd : FuncData} {ps : List Str} {sp : Sp} (F : FnOk P w K mg base CX0 k f fd ps sp) : FnOk P w K mg base (CXF P w) k f fd ps sp :=
  ⟨F.len, fun A outer s H args us vs Q E hr he hb hv hs => codeAny_mono (F.run A outer s H args us vs Q E hr he hb hv hs) fun r s' h => by
    cases r with
    | error e => exact False.elim h
    | ok fl => cases fl with
      | ret u => exact h
      | next => exact h
      | brk => exact h
      | cont => exact h⟩
/-- THE RULE for a def that may raise -/
theorem Fun.okX {x qual : Str} {st : Stmt} {f : Addr} {fd : FuncData} {N ps : List Str} {k : Nat} {sp : Sp} (F : Fun K x qual st f fd) (S : FnScope N ps (defScope st)) (len : ∀ vs H Q E, sp vs H Q E → vs.length = ps.length)
    (hbody : ∀ (cdv : Value) (A : Around) (outer : List Env) (s : Shared) (H : Hp) (vs : List V) (Q : VK) (E : XK), Room k (A.deeper (envOfC qual (defScope st) s.heap.objs.size f cdv)) → sp vs H Q E →
      ∃ t, PSs (cxOf (CXF P w) P w K mg base N qual (defScope st) f cdv A outer s H E) (defBody st) t ∧ t { nx := fun _ H' => Q .non H', rt := Q } (start N vs) H) : FnOk P w K mg base (CXF P w) (k + 1) f fd ps sp := by
  obtain ⟨oc, od, kV, doc, pm, an, cdv, ct, osl, rfl, lk, hcd⟩ := F.ex
  exact fn_of lk hcd S len fun A outer s H vs Q E hr hsp => hbody cdv A outer s H vs Q E hr hsp
end

/-! ### an own error class, as the fragment has it -/
/-- the dict at N has text keys alone, none of them x -/
def noKey (K : PySem.W.Frag) (N : Addr) (x : Str) : Bool := match K.lookup N with
  | some ⟨_, _, .dict es _, _⟩ => es.toList.all fun e => match e.key with | .str y _ => !(y == x) | _ => false
  | _ => false
theorem noKey_ns {K : PySem.W.Frag} {h : Heap} {N : Addr} {x : Str} (X : K.In h) (e : noKey K N x = true) : ∃ m, h.Ns N m ∧ m x = none := by
  unfold noKey at e
  split at e
  · rename_i oc od es ep sl ho
    have hk : StrKeys es := fun y hy => by
      have q := List.all_eq_true.mp e y (Array.mem_toList_iff.mpr hy)
      cases k : y.key with
      | str z t => exact ⟨z, t, rfl⟩
      | _ => rw [k] at q; cases q
    refine ⟨nsFind es, ⟨_, es, ep, X _ _ ho, rfl, hk, fun _ => rfl⟩, ?_⟩
    unfold nsFind findBy
    rw [← Array.find?_toList]
    have : es.toList.find? (fun e => e.key.isStr x) = none := by
      rw [List.find?_eq_none]
      intro y hy
      have q := List.all_eq_true.mp e y hy
      obtain ⟨z, t, k⟩ := hk y (Array.mem_toList_iff.mp hy)
      rw [k] at q ⊢
      intro hz
      have hz' : (z == x) = true := by simpa [Value.isStr] using hz
      simp [hz'] at q
    rw [this]
    rfl
  · cases e
structure XCls (K : PySem.W.Frag) (C : Addr) (tl : List Value) (newId : String) : Prop where
  obj : ∃ (N : Addr) (nm q : Str) (bs : List Value) (hdct : Bool) (sn : List Str) (sub : List Value) (ab : Bool) (col : Option Bool) (dd : Option Addr) (k0 k1 k2 k3 k5 : Option Value),
    K.lookup C = some (excClassObj nm q C N bs tl hdct sn sub ab col dd k0 k1 k2 k3 k5 newId) ∧ noKey K N "__init__" = true
abbrev mroVE : List Value := [.type "ValueError", .type "Exception", .type "BaseException", .type "object"]
/-- the classes above: own ones, then ValueError's -/
inductive XTail (K : PySem.W.Frag) : List Value → Prop where
  | base : XTail K mroVE
  | own {C : Addr} {tl : List Value} {n : String} : XCls K C tl n → XTail K tl → XTail K (.ref C :: tl)
theorem XTail.tail {K : PySem.W.Frag} {h : Heap} {tl : List Value} (X : K.In h) (T : XTail K tl) : OwnTail h mroVE tl := by
  induction T with
  | base => exact .base
  | own c _ ih =>
    obtain ⟨N, nm, q, bs, hdct, sn, sub, ab, col, dd, k0, k1, k2, k3, k5, lk, nk⟩ := c.obj
    obtain ⟨m, hn, hm⟩ := noKey_ns X nk
    exact .own (X _ _ lk) hn hm ih

/-! ### raise C(e) -/
section
variable {X : Cx} {x : Str} {C : Addr} {tl : List Value} {np cpos pos : Pos} {e0 : Expr} {ta : TA} {E : XK} {newId Bn inN : String} {bmN : List Value}
def tRaise (C : Addr) (E : XK) (ta : TA) : TS := fun _ σ H => ta σ H fun vs H1 => vs.length ≤ sizeLine ∧ E (.ref C) none H1
theorem ps_raise (Fn : ExcBaseFacts Bn newId inN bmN) (hBn : mroVE.contains (.type Bn) = true) (hp : PassesM X E) (hc : X.calm = true) (xc : XCls X.K C tl newId) (T : XTail X.K tl) (hg : Gl X x) (hm : X.mg x = some (.ref C)) (ha : PA X [e0] ta)
    (hs : starEach [e0] X.env = [(false, eval e0 X.env)] := by rfl) (hd : (x == ("__debug__" : Str)) = false := by decide) :
    PS X (.Raise (some (.Call (.Name x np) [e0] [] cpos)) none pos) (tRaise C E ta) := by
  intro pins s σ H D I h
  obtain ⟨N, nm, q, bs, hdct, sn, sub, ab, col, dd, k0, k1, k2, k3, k5, lk, nk⟩ := xc.obj
  obtain ⟨m, hn, hm0⟩ := noKey_ns (h := X.base) I.ok.mod.kin nk
  have hni : m "__init__" = none := hm0
  have Tb : OwnTail X.base mroVE tl := T.tail I.ok.mod.kin
  refine wpAny_Raise_call_subU (C := C) (nm := nm) (q := q) (N := N) (bs := bs) (bm := tl) (hdct := hdct) (sn := sn) (sub := sub) (ab := ab) (col := col) (dd := dd) (k0 := k0) (k1 := k1) (k2 := k2) (k3 := k3) (k5 := k5)
    Fn hBn PySem.F.excBase_ValueError (mN := m) (Tb.hasType PySem.F.excBase_ValueError.hasBase) (I.ok.hd hc) (by rw [hs]; rfl) hni (ld_glob I hg hm ⟨rfl, ?_⟩ hd)
  have h2 := ha cpos pins s σ H _ I h
  rw [hs] at h2 ⊢
  exact Calls.evalArgs_plain (thn h2 fun us s2 ⟨vs, H2, I2, r, hl, q2⟩ => ⟨rfl, by rw [← r.length]; exact hl, I2.kIn _ _ lk, hn.keeps I2.bk, Tb.keeps I2.bk, fun h' e hx => hp pins σ H2 s2 h' e C us I2 hx q2⟩)
end

/-! ### f-strings: some text -/
section
variable {X : Cx} {e : Expr} {es : List Expr} {te : TE} {pos : Pos}
/-- the parts from the left, the length so far at most n -/
def PJ (X : Cx) (es : List Expr) (n m : Nat) (t : St → Hp → (Hp → Prop) → Prop) : Prop :=
  ∀ (pins : List (Addr × Obj)) (s : Shared) (σ : St) (H : Hp) (acc : Str) (Q : Hp → Prop), Inv X pins σ H s → acc.length ≤ n → t σ H Q →
    Joins (model X.prog X.w) X.A X.xe (evalEach es X.env) acc (fun out s1 => out.length ≤ m ∧ ∃ H1, Inv X pins σ H1 s1 ∧ Q H1) s
theorem pj_nil {n : Nat} : PJ X [] n n (fun _ H Q => Q H) := fun _ _ _ H _ _ I h q => ⟨h, H, I, q⟩
theorem pj_str {x : Str} {j : Nat} {n k m : Nat} {t : St → Hp → (Hp → Prop) → Prop} (hx : x.length ≤ k) (hr : PJ X es (n + k) m t) (hm : n + k ≤ sizeLine) (he : evalEach (.Constant (.str x) j pos :: es) X.env = eval (.Constant (.str x) j pos) X.env :: evalEach es X.env := by rfl) :
    PJ X (.Constant (.str x) j pos :: es) n m t := by
  intro pins s σ H acc Q I ha h
  rw [he]
  refine Calls.Constant_str ?_
  have hl : (acc ++ x).length ≤ n + k := by rw [strLen_append]; (first | lia | omega)
  exact ⟨x, _, rfl, Nat.le_trans hl hm, hr pins _ σ H _ Q (I.tok _) hl h⟩
theorem pj_int {n m : Nat} {p2 : Pos} {t : St → Hp → (Hp → Prop) → Prop} (he : PE X e te) (hr : PJ X es (n + 2000) m t) (hm : n + 2000 ≤ sizeLine)
    (hE : evalEach (.FormattedValue e (-1) none p2 :: es) X.env = eval (.FormattedValue e (-1) none p2) X.env :: evalEach es X.env := by rfl) :
    PJ X (.FormattedValue e (-1) none p2 :: es) n m (fun σ H Q => te σ H fun v H1 => ∃ i : Int, v = .int i ∧ i.natAbs.log2 < 1920 ∧ t σ H1 Q) := by
  intro pins s σ H acc Q I ha h
  rw [hE]
  refine wpAny_FormattedValue_plain (thn (he pins s σ H _ I h) fun u s1 hPz => ?_); obtain ⟨v, H1, I1, r1, i, e1, hi, q1⟩ := hPz
  subst e1
  obtain ⟨tk, rfl⟩ := r1
  refine wpAny_formatField_int hi ?_
  have hl : (acc ++ Str.ofString (toString i)).length ≤ n + 2000 := by
    have := int_text_length_le (k := 1920) (by decide) hi
    rw [strLen_append, PySem.ofString_length]; (first | lia | omega)
  exact ⟨_, _, rfl, Nat.le_trans hl hm, hr pins _ σ H1 _ Q (I1.tok _) hl q1⟩
theorem pe_fstr {v1 v2 : Expr} {rest : List Expr} {m : Nat} {t : St → Hp → (Hp → Prop) → Prop} (h : PJ X (v1 :: v2 :: rest) 0 m t) (hm : m ≤ sizeLine) : PE X (.JoinedStr (v1 :: v2 :: rest) pos) (fun σ H Q => t σ H fun H1 => ∀ out, Q (.str out) H1) := by
  intro pins s σ H Q I hq
  refine wpAny_JoinedStr ?_
  have h2 := h pins s σ H Str.empty _ I (Nat.zero_le _) hq
  have mono : ∀ (parts : List (Sem Value)) (acc : Str) (s : Shared) (Q1 Q2 : Str → Shared → Prop), (∀ o s, Q1 o s → Q2 o s) → Joins (model X.prog X.w) X.A X.xe parts acc Q1 s → Joins (model X.prog X.w) X.A X.xe parts acc Q2 s := by
    intro parts
    induction parts with
    | nil => intro acc s Q1 Q2 hq h; exact hq _ _ h
    | cons p r ih => intro acc s Q1 Q2 hq h; exact thn h fun v s1 ⟨y, t, e, l, j⟩ => ⟨y, t, e, l, ih _ _ _ _ hq j⟩
  refine mono _ _ _ _ _ (fun out s1 ⟨hl, H1, I1, q⟩ => ⟨Nat.le_trans hl hm, .str out, H1, I1.tok _, ⟨_, rfl⟩, q out⟩) h2
end
end L2

set_option Elab.async false
set_option linter.all false
set_option maxRecDepth 100000
set_option maxHeartbeats 4000000
/-! TRY over the layer; isinstance. -/
namespace L2
open PySem PySem.Spec PyProof.Rows

/-- an exception of a callee, by the frame's values -/
def PassesS (CX : CXT) (X : Cx) (E : St → XK) : Prop := ∀ (pins : List (Addr × Obj)) (σ : St) (H : Hp) (s : Shared) (e : Value) (s' : Shared), Inv X pins σ H s → CX X.stack H s (E σ) e s' → X.xe e s'
def tCallS (sp : Sp) (dvs : List V) (E : St → XK) (t : TA) : TE := fun σ H Q => t σ H fun vs H1 => sp (vs ++ dvs) H1 Q (E σ)
section
variable {X : Cx} {CX : CXT} {k : Nat} {f C : Addr} {fd : FuncData} {ps : List Str} {sp : Sp} {dvs : List V} {ds : List Value} {E : St → XK} {x m : Str} {p pos apos : Pos} {e o : Expr} {es : List Expr} {ta : TE} {t : TA}
theorem run_fnS {pins : List (Addr × Obj)} {σ : St} {H : Hp} {s : Shared} {Q : VK} {us : List Value} {vs : List V} (F : FnOk X.prog X.w X.K X.mg X.base CX k f fd ps sp) (hr : Room k X.A) (hb : Binds X.K fd ps ds) (hd : Vals dvs ds) (hx : PassesS CX X E)
    (I : Inv X pins σ H s) (r : Vals vs us) (h : sp (vs ++ dvs) H Q (E σ)) : wpAny (model X.prog X.w) X.A (call (.ref f) us) (EP X pins σ Q) X.xe s := by
  have r2 : Vals (vs ++ dvs) (us ++ ds) := r.append hd
  have hl : (us ++ ds).length = ps.length := by rw [← r2.length]; exact F.len _ _ _ _ h
  refine wpAny_call (codeAny_mono (F.run X.A X.stack s H ⟨us, []⟩ (us ++ ds) (vs ++ dvs) Q (E σ) hr I.env0 (hb s us I.kIn hl) r2 h) fun r s' hq => ?_)
  cases r with
  | error e => exact hx pins σ H s e s' I hq
  | ok fl =>
    cases fl with
    | ret u => exact I.after hq
    | next => exact False.elim hq
    | brk => exact False.elim hq
    | cont => exact False.elim hq
theorem pe_callS (F : FnOk X.prog X.w X.K X.mg X.base CX k f fd ps sp) (hr : Room k X.A) (hg : Gl X x) (hm : X.mg x = some (.ref f)) (hk : PySem.W.keepIn X.K (.ref f) = true) (hb : Binds X.K fd ps ds) (hd : Vals dvs ds) (hx : PassesS CX X E)
    (ha : PA X (e :: es) t) (hdb : (x == ("__debug__" : Str)) = false := by decide) (he : starEach (e :: es) X.env = (false, eval e X.env) :: starEach es X.env := by rfl) (hpl : (backTo pos (starEach es X.env)).any (·.1) = false := by rfl) :
    PE X (.Call (.Name x p) (e :: es) [] pos) (tCallS sp dvs E t) := by
  intro pins s σ H Q I h
  refine wpAny_Call_Name_kw (ld_glob I hg hm ?_ hdb)
  refine PySem.W.callWith_K (h₀ := X.base) I.ok.mod.kin hk (thn (ha pos pins s σ H _ I h) fun us s1 hPy => ob2_3 hPy fun vs H1 I1 r q => ⟨I1.kIn, ?_⟩) he hpl
  exact run_fnS F hr hb hd hx I1 r q
end

section
variable {X : Cx} {CX : CXT} {k : Nat} {f C : Addr} {fd : FuncData} {ps : List Str} {sp : Sp} {dvs : List V} {ds : List Value} {E : St → XK} {x m : Str} {p pos apos : Pos} {e o : Expr} {es : List Expr} {ta : TE} {t : TA}
end

/-! ### the state where an exception has landed -/
section
variable {X : Cx} {pins : List (Addr × Obj)} {σ : St} {H H' : Hp} {s s' : Shared} {ea C t : Addr} {B h6 : Heap}
theorem Fly.un (I : Inv X pins σ H s) (F : Fly X.prog X.w X.stack H s ea C t B H' s') (k : B.StaysIn h6) (u : s'.heap.UpToSlots h6) : Un (frs X.stack) [] H H' s.heap h6 where
  keep := fun b o e n nb _ => k b o (F.old b o e n nb)
  slot := fun b o e n hb _ => by
    obtain ⟨sl, e1⟩ := F.slot b hb o e
    obtain ⟨_, o', eo, nf⟩ := I.stack.mem hb
    rw [e] at eo; cases eo
    obtain ⟨sl2, e2⟩ := u b _ e1 nf
    exact ⟨sl2, e2⟩
  free := fun b o e n _ => F.free b o e n
  there := fun b o e _ => by
    by_cases hb : b ∈ frs X.stack
    · obtain ⟨sl, e1⟩ := F.slot b hb o e
      obtain ⟨_, o', eo, nf⟩ := I.stack.mem hb
      rw [e] at eo; cases eo
      obtain ⟨sl2, e2⟩ := u b _ e1 nf
      exact ⟨_, e2⟩
    · obtain ⟨o', e'⟩ := F.there b o e hb
      exact ⟨o', k _ _ e'⟩
  tups := F.tups
  frzs := F.frzs
  tbls := F.tbls
theorem Fly.inv (I : Inv X pins σ H s) (F : Fly X.prog X.w X.stack H s ea C t B H' s') (k : B.StaysIn h6) (u : s'.heap.UpToSlots h6) : Inv X pins σ H' { s' with heap := h6 } :=
  I.call' (s' := { s' with heap := h6 }) (ch := []) F.os (F.un I k u) (fun a o e => (F.hok.kept (fun b v q => k b v q)) a o e) F.bare (fun _ z => nomatch z)
/-- an object that stands there and is nobody's becomes tracked -/
theorem Inv.adopt {φ : Heap → Prop} {o : Obj} (I : Inv X pins σ H s) (hn : H ea = none) (ho : s.heap.get? ea = some o) (hφ : φ s.heap) (st : ∀ h1 h2 : Heap, φ h1 → (∀ o, h1.get? ea = some o → h2.get? ea = some o) → φ h2)
    (h0 : ∀ u, X.s₀.heap.get? ea = some u → ea ∈ X.ex) (hL : ea ≠ X.env.locals) (hc : ∀ x c, X.env.cells.lookup x = some c → c ≠ ea) (hp : ∀ p ∈ X.pn ++ pins, p.1 ≠ ea) : Inv X pins σ (upd H ea (.ext φ)) s := by
  refine ⟨I.ok, I.os, I.bare, ⟨I.base.keep, I.base.slot, fun b u e n hx => ?_, I.base.there, fun b xs e => ?_, fun b u v e => ?_, fun b ps e => ?_⟩, I.loc, I.cell, ?_, fun x c e => ?_, fun p hp' => ?_, fun b u e => ?_, I.len⟩
  · have : b ≠ ea := fun z => hx (by rw [z]; exact h0 u (by rw [← z]; exact e))
    rw [upd_ne this]; exact I.base.free b u e n hx
  · have q := I.base.tups b xs e
    rw [upd_ne (ne_of_none q hn)]; exact q
  · have q := I.base.frzs b u v e
    rw [upd_ne (ne_of_none q hn)]; exact q
  · obtain ⟨more, q⟩ := I.base.tbls b ps e
    exact ⟨more, by rw [upd_ne (ne_of_none q hn)]; exact q⟩
  · rw [upd_ne (Ne.symm hL)]; exact I.free
  · rw [upd_ne (hc x c e)]; exact I.freeC x c e
  · obtain ⟨a, b, c, d, g⟩ := I.pin p hp'
    exact ⟨a, by rw [upd_ne (hp p hp')]; exact b, c, d, g⟩
  · by_cases hb : b = ea
    · subst hb
      rw [upd_same] at e; cases e
      exact ⟨hφ, ⟨o, ho⟩, st⟩
    · rw [upd_ne hb] at e
      exact (I.hok b u e).stay (fun _ _ _ q => q) (fun c q => by rw [upd_ne (ne_of_none q hn)]; exact q) fun c xs q => by rw [upd_ne (ne_of_none q hn)]; exact q
/-- what an exception's object is known by -/
def excAt (ea C : Addr) : Heap → Prop := fun h => ∃ o, h.get? ea = some o ∧ o.cls = .ref C
theorem excAt_st {ea C : Addr} : ∀ h1 h2 : Heap, excAt ea C h1 → (∀ o, h1.get? ea = some o → h2.get? ea = some o) → excAt ea C h2 := fun _ _ ⟨o, e, c⟩ k => ⟨o, k o e, c⟩
theorem Fly.land (I : Inv X pins σ H s) (F : Fly X.prog X.w X.stack H s ea C t B H' s') (hex : X.ex = []) (f6 : Heap.FlyingW B X.stack ea (.ref C) (.ref t) h6) (u : s'.heap.UpToSlots h6) (hst : X.env.locals ∈ frs X.stack) :
    H' ea = none ∧ Inv X pins σ (upd H' ea (.ext (excAt ea C))) { s' with heap := h6 } := by
  have I6 := F.inv I f6.1 u
  obtain ⟨oe, vs, he, hc, hd, h0⟩ := f6.first
  have hB : B.get? ea = none := f6.2.1
  have hn : H' ea = none := by
    cases q : H' ea with
    | none => rfl
    | some o =>
      obtain ⟨v, e⟩ := (F.hok ea o q).thereO
      rw [hB] at e; cases e
  have nfr : ea ∉ frs X.stack := fun hb => by
    obtain ⟨_, o', eo, nf⟩ := I6.stack.mem hb
    have eo : h6.get? ea = some o' := eo
    rw [he] at eo; cases eo
    exact nf vs hd
  have ns1 : ∀ v, s.heap.get? ea = some v → False := fun v e => by
    obtain ⟨o', e'⟩ := F.there ea v e nfr
    rw [hB] at e'; cases e'
  refine ⟨hn, I6.adopt hn he ⟨oe, he, hc⟩ excAt_st (fun v e => ?_) (fun z => nfr (by rw [z]; exact hst)) (fun x c e z => ?_) fun p hp z => ?_⟩
  · obtain ⟨o', e'⟩ := I.base.there ea v e (by rw [hex]; exact fun z => nomatch z)
    exact (ns1 o' e').elim
  · obtain ⟨v, o', eo, dd⟩ := I6.cell x c e
    rw [z] at eo
    have eo : h6.get? ea = some o' := eo
    rw [he] at eo; cases eo
    rw [hd] at dd; cases dd
  · obtain ⟨e, _⟩ := I.pin p hp
    rw [z] at e
    exact ns1 _ e
/-- a name goes: its slot is forgotten -/
theorem gone_ok {M : Model} {A : Around} {E : Value → Shared → Prop} {i : Nat} {n : Str} {pos : Pos} {Q : Unit → Shared → Prop} (I : Inv X pins σ H s) (hN : X.N.Nodup) (hi : X.N[i]? = some n) (hk : X.env.scope.names.lookup n = some .local)
    (h : ∀ s', Inv X pins (σ.set i none) H s' → Q () s') : wpAny M A (do bindName X.env n .none; unbindBehindTheSuite X.env n pos) Q E s := by
  have cne := I.cne
  obtain ⟨m, hm, hl⟩ := id I.loc
  refine wpAny_nameGoes_keeps hk hm (by rw [I.ok.kind]; rfl) fun h' v hm' hs => h _ ?_
  have keep : ∀ b o, b ≠ X.env.locals → s.heap.get? b = some o → h'.get? b = some o := fun b o nb e => (hs.2 b nb).trans e
  refine ⟨I.ok, I.os, I.bare, ⟨fun b o e n hb hx => ?_, fun b o e n hb hx => ?_, I.base.free, fun b o e hx => ?_, I.base.tups, I.base.frzs, I.base.tbls⟩, ⟨_, hm', fun j y w e1 e2 e3 => ?_⟩, fun y c e => ?_, I.free, I.freeC, fun p hp => ?_, fun b o e => ?_, by rw [List.length_set]; exact I.len⟩
  · exact keep b o (Nat.ne_of_lt (Nat.lt_of_lt_of_le (Heap.lt_size e) I.ok.above)) (I.base.keep b o e n hb hx)
  · obtain ⟨sl, e1⟩ := I.base.slot b o e n hb hx
    exact ⟨sl, keep b _ (Nat.ne_of_lt (Nat.lt_of_lt_of_le (Heap.lt_size e) I.ok.above)) e1⟩
  · obtain ⟨o', e1⟩ := I.base.there b o e hx
    exact ⟨o', keep b _ (Nat.ne_of_lt (Nat.lt_of_lt_of_le (Heap.lt_size e) I.ok.above)) e1⟩
  · have hj : j ≠ i := fun z => by
      subst z
      have hjl : j < σ.length := by rw [I.len]; exact (List.getElem?_eq_some_iff.mp e1).1
      rw [List.getElem?_set_self hjl] at e2
      cases e2
    rw [List.getElem?_set_ne (Ne.symm hj)] at e2
    obtain ⟨u', r', q⟩ := hl j y w e1 e2 e3
    refine ⟨u', r', ?_⟩
    rcases q with ⟨k, e⟩ | ⟨k, c, e, z⟩
    · refine .inl ⟨k, ?_⟩
      have : y ≠ n := fun e => hj (nodup_ix hN e1 (e ▸ hi))
      simp [this, e]
    · exact .inr ⟨k, c, e, z.sameBut hs (cne y c e)⟩
  · obtain ⟨w', z⟩ := I.cell y c e
    exact ⟨w', z.sameBut hs (cne y c e)⟩
  · obtain ⟨e, n, ne, nf, d⟩ := I.pin p hp
    exact ⟨(hs.2 p.1 ne).trans e, n, ne, nf, d⟩
  · refine (I.hok b o e).stay (fun c v hc q => keep c v ?_ q) (fun _ q => q) fun _ _ q => q
    rintro rfl
    rcases hc with hc | hc
    · rw [← hc, I.free] at e; cases e
    · rw [I.free] at hc; cases hc
end

/-! ### e is taken by a class above its own -/
/-- an own error class that a handler names -/
structure HCls (K : PySem.W.Frag) (W : Addr) : Prop where
  ty : PySem.W.typeIn K (.ref W) = some (.type "type")
  sb : PySem.W.subIn K (.ref W) (.type "BaseException") = some true
  cl : (PySem.W.clsIn K W).isSome = true
theorem looks_isType {K : PySem.W.Frag} {M : Model} {h : Heap} {W : Addr} (X : K.In h) (c : (PySem.W.clsIn K W).isSome = true) : PySem.W.Looks M h (isType (.ref W)) true := by
  unfold PySem.W.clsIn at c
  split at c
  · rename_i c' d' cd' sl' ho
    intro A' Q' E' s' k q
    unfold isType loadHead
    exact wpAny_bind (wpAny_loadPart (k _ _ (X _ _ ho)) (wpAny_pure q))
  · cases c
theorem looks_excType {M : Model} {h : Heap} {e C : Addr} (x : excAt e C h) : PySem.W.Looks M h (typeOf (.ref e)) (.ref C) := by
  obtain ⟨o, h1, h2⟩ := x
  exact h2 ▸ (PySem.W.Looks.ld h1).andThen .now
theorem excMatches_own {M : Model} {A : Around} {E : Value → Shared → Prop} {K : PySem.W.Frag} {h : Heap} {g : Array GenState} {d : Drawn} {t : Nat} {os : OsState} {e C W : Addr} {b : Bool} {Q : Bool → Shared → Prop}
    (X : K.In h) (hx : excAt e C h) (hW : HCls K W) (hs : PySem.W.subIn K (.ref C) (.ref W) = some b) (hq : Q b ⟨h, g, d, t, os⟩) : wpAny M A (excMatches (.ref e) (.ref W)) Q E ⟨h, g, d, t, os⟩ := by
  have L1 : PySem.W.Looks M h (isInstance (.ref W) (.type "tuple")) false := (PySem.W.looks_typeIn X hW.ty).andThen (PySem.W.Looks.of_pure tc_notTuple)
  have L2 : PySem.W.Looks M h (isExcClass (.ref W)) true := (looks_isType X hW.cl).andThen (PySem.W.looks_subIn X hW.sb)
  have L3 := looks_excType (M := M) hx
  have L4 := PySem.W.looks_subIn (M := M) X hs
  unfold excMatches
  refine wpAny_bind (L1.at ?_)
  simp only [Bool.false_eq_true, if_false]
  refine wpAny_bind (wpAny_pure ?_)
  simp only [List.forIn_cons, List.forIn_nil]
  refine wpAny_bind (wpAny_bind (wpAny_bind (L2.at ?_)))
  simp only [Bool.not_true, Bool.false_eq_true, if_false]
  refine wpAny_pure (wpAny_pure ?_)
  refine wpAny_bind (L3.at ?_)
  refine wpAny_bind (wpAny_bind (wpAny_bind (L4.at ?_)))
  cases b with
  | true =>
    simp only [if_true]
    exact wpAny_pure (wpAny_pure (wpAny_pure hq))
  | false =>
    simp only [Bool.false_eq_true, if_false]
    exact wpAny_pure (wpAny_pure (wpAny_pure hq))

/-! ### try .. except W as n .. -/
section
variable {X : Cx} {body : List Stmt} {b0 : Stmt} {suite : List Stmt} {x n : Str} {np hpos pos : Pos} {W : Addr} {i : Nat} {tb : (St → XK) → TS} {ts : TS}
abbrev Cx.inTry (X : Cx) (pn : List (Addr × Obj)) (xe : Value → Shared → Prop) : Cx := { X with pn := pn, xe := xe }
abbrev Cx.inSuite (X : Cx) (A : Around) (pn : List (Addr × Obj)) : Cx := { X with A := A, pn := pn, calm := false, xe := fun _ _ => False }
theorem Cx.Ok.inTry {pn : List (Addr × Obj)} {xe : Value → Shared → Prop} (ok : X.Ok) : (X.inTry pn xe).Ok :=
  ⟨ok.mod, ok.kind, ok.glob, ok.blt, ok.above, ok.inj, ok.has, ok.cab, ok.hd, ok.frames, ok.stk, ok.exf, ok.bs, ok.bsz, ok.noex, ok.exfs, ok.funs, ok.frf⟩
theorem Cx.Ok.ofTry {pn : List (Addr × Obj)} {xe : Value → Shared → Prop} (ok : (X.inTry pn xe).Ok) : X.Ok :=
  ⟨ok.mod, ok.kind, ok.glob, ok.blt, ok.above, ok.inj, ok.has, ok.cab, ok.hd, ok.frames, ok.stk, ok.exf, ok.bs, ok.bsz, ok.noex, ok.exfs, ok.funs, ok.frf⟩
theorem Cx.Ok.inSuite {pn : List (Addr × Obj)} {h : Option Value} (ok : X.Ok) : (X.inSuite (X.A.mark h) pn).Ok :=
  ⟨ok.mod, ok.kind, ok.glob, ok.blt, ok.above, ok.inj, ok.has, ok.cab, (fun z => nomatch z), ok.frames, ok.stk, ok.exf, ok.bs, ok.bsz, ok.noex, ok.exfs, ok.funs, ok.frf⟩
section
variable {pins pn : List (Addr × Obj)} {σ : St} {H : Hp} {s : Shared} {xe : Value → Shared → Prop} {h : Option Value} {A : Around}
theorem Inv.inTry (I : Inv X pins σ H s) : Inv (X.inTry (X.pn ++ pins) xe) [] σ H s :=
  ⟨I.ok.inTry, I.os, I.bare, I.base, I.loc, I.cell, I.free, I.freeC, fun p hp => I.pin p (by simpa using hp), I.hok, I.len⟩
theorem Inv.ofTry {pins' : List (Addr × Obj)} (I : Inv (X.inTry (X.pn ++ pins) xe) pins' σ H s) : Inv X pins σ H s :=
  ⟨I.ok.ofTry, I.os, I.bare, I.base, I.loc, I.cell, I.free, I.freeC, fun p hp => I.pin p (List.mem_append_left _ hp), I.hok, I.len⟩
theorem Inv.inSuite (I : Inv X pins σ H s) : Inv (X.inSuite (X.A.mark h) (X.pn ++ pins)) [] σ H s :=
  ⟨I.ok.inSuite, I.os, I.bare, I.base, I.loc, I.cell, I.free, I.freeC, fun p hp => I.pin p (by simpa using hp), I.hok, I.len⟩
theorem Inv.ofSuite (ok : X.Ok) (I : Inv (X.inSuite A (X.pn ++ pins)) [] σ H s) : Inv X pins σ H s :=
  ⟨ok, I.os, I.bare, I.base, I.loc, I.cell, I.free, I.freeC, fun p hp => I.pin p (List.mem_append_left _ hp), I.hok, I.len⟩
theorem SP.ofTry {D : Ends} {f : Flow} {s' : Shared} (q : SP (X.inTry (X.pn ++ pins) xe) [] D f s') : SP X pins D f s' := by
  cases f with
  | next => obtain ⟨σ', H', I, q⟩ := q; exact ⟨σ', H', I.ofTry, q⟩
  | brk => obtain ⟨σ', H', I, q⟩ := q; exact ⟨σ', H', I.ofTry, q⟩
  | cont => obtain ⟨σ', H', I, q⟩ := q; exact ⟨σ', H', I.ofTry, q⟩
  | ret u => obtain ⟨v, σ', H', I, r, q⟩ := q; exact ⟨v, σ', H', I.ofTry, r, q⟩
end
/-- what is wanted behind a suite whose name goes -/
def Ends.gone (i : Nat) (D : Ends) : Ends := { nx := fun σ H => D.nx (σ.set i none) H, rt := D.rt, bk := fun σ H => D.bk (σ.set i none) H, ct := fun σ H => D.ct (σ.set i none) H }
/-- the exception (class C, at ea) is bound to slot i, the suite is run -/
def tTryAs (K : PySem.W.Frag) (W : Addr) (i : Nat) (tb : (St → XK) → TS) (ts : TS) : TS := fun D σ H =>
  tb (fun σ' c _ H' => ∃ C, c = .ref C ∧ PySem.W.subIn K (.ref C) (.ref W) = some true ∧ ∀ ea, H' ea = none → ts (D.gone i) (σ'.set i (some (.ref ea))) (upd H' ea (.ext (excAt ea C)))) D σ H
theorem ps_tryAs (hex : X.ex = []) (hsk : X.stack = X.env :: X.outer) (hfr : X.env.frame = some X.env.locals) (hN : X.N.Nodup) (hi : X.N[i]? = some n) (hk : X.env.scope.names.lookup n = some .local)
    (hg : Gl X x) (hm : X.mg x = some (.ref W)) (hW : HCls X.K W)
    (hb : ∀ (pn : List (Addr × Obj)) (xe : Value → Shared → Prop) (E : St → XK), PassesS (CXF X.prog X.w) (X.inTry pn xe) E → PSs (X.inTry pn xe) body (tb E))
    (hs : ∀ (h : Option Value) (pn : List (Addr × Obj)), PSs (X.inSuite (X.A.mark h) pn) (b0 :: suite) ts) (hd : (x == ("__debug__" : Str)) = false := by decide) :
    PS X (.Try body [.ExceptHandler (some (.Name x np)) (some n) (b0 :: suite) hpos] [] [] pos) (tTryAs X.K W i tb ts) := by
  intro pins s σ H D I h
  refine wpAny_Try_except ?_
  refine wpAny_mono (hb (X.pn ++ pins) _ _ ?_ [] s σ H D I.inTry h) (fun f s1 q => ?_) (fun e s1 q => q)
  · intro pins' σ' H1 s1 e s' I1 hq
    obtain ⟨ea, C, t, B, H', rfl, F, C', hC', hsub, hth⟩ := hq
    cases hC'
    have I1 := I1.ofTry (pins' := pins')
    have F : Fly X.prog X.w X.stack H1 s1 ea C t B H' s' := F
    have hst : X.env.locals ∈ frs X.stack := by rw [hsk]; unfold frs; rw [List.filterMap_cons, hfr]; exact List.mem_cons_self
    have bB : ∀ b o, X.base.get? b = some o → B.get? b = some o := fun b o e => by
      obtain ⟨e1, n1⟩ := I1.bs b o e
      refine F.old b o e1 n1 fun hb => ?_
      have := (I1.stack.mem hb).1
      rw [e] at this; cases this
    show wpAny (model X.prog X.w) X.A (noteFrame (.ref ea) X.env) _ X.xe s'
    refine wpAny_looks_onW (base := B) (env := X.env) (outer := X.outer) (L := X.env.locals) (by rw [I1.ok.frames, hsk]) hfr (by rw [← hsk]; exact F.fly) fun h4 held4 u4 => ?_
    refine wpAny_landsW held4 fun h5 fly5 u5 => ?_
    have k5 : ∀ b o, X.base.get? b = some o → h5.get? b = some o := fun b o e => fly5.1 b o (bB b o e)
    have x5 : excAt ea C h5 := let ⟨o, e, c⟩ := fly5.there; ⟨o, e, c⟩
    refine wpAny_handleBy_cons (codeAny_handlers_test ?_) (by intro q; cases q)
    refine Calls.Name_function_global I1.ok.kind hg (Calls.loadGlobal_global (by rw [I1.ok.glob]; exact I1.mod.glob.keeps k5) hm ?_) hd
    refine excMatches_own (I1.ok.mod.kin.keeps k5) x5 hW hsub ?_
    refine codeAny_handlers_suite_as ?_
    refine lands_againW fly5 fun h6 fly6 u6 => ?_
    obtain ⟨hn, I6⟩ := F.land I1 hex (by rw [hsk]; exact fly6) ((u4.trans u5).trans u6) hst
    refine store_ok I6 hN hi (.inl hk) (show RelV (.ref ea) (.ref ea) from rfl) (fun s7 I7 => ?_) (.inr hk)
    have h7 := hs (some (.ref ea)) (X.pn ++ pins) [] s7 _ _ (D.gone i) I7.inSuite (hth ea hn)
    refine wpAny_mono h7 (fun f s8 q8 => ?_) fun _ _ z => False.elim z
    show wpAny (model X.prog X.w) X.A (do bindName X.env n .none; unbindBehindTheSuite X.env n hpos) (fun _ s5 => SP X pins D f s5) X.xe s8
    cases f with
    | next =>
      obtain ⟨σ8, H8, I8, q8⟩ := q8
      exact gone_ok (I8.ofSuite I1.ok) hN hi hk fun s9 I9 => ⟨_, H8, I9, q8⟩
    | brk =>
      obtain ⟨σ8, H8, I8, q8⟩ := q8
      exact gone_ok (I8.ofSuite I1.ok) hN hi hk fun s9 I9 => ⟨_, H8, I9, q8⟩
    | cont =>
      obtain ⟨σ8, H8, I8, q8⟩ := q8
      exact gone_ok (I8.ofSuite I1.ok) hN hi hk fun s9 I9 => ⟨_, H8, I9, q8⟩
    | ret u =>
      obtain ⟨v, σ8, H8, I8, r8, q8⟩ := q8
      exact gone_ok (I8.ofSuite I1.ok) hN hi hk fun s9 I9 => ⟨v, _, H8, I9, r8, q8⟩
  · have q := q.ofTry
    cases f with
    | next => exact wpAny_execs_nil q
    | brk => exact q
    | cont => exact q
    | ret u => exact q
end

/-! ### isinstance of an exception -/
/-- what the fragment must say of an own error class, to be asked of -/
structure ECls (K : PySem.W.Frag) (C : Addr) : Prop where
  ga : PySem.W.findIn K (.ref C) "__getattribute__" = some (some (.builtin "BaseException.__getattribute__"))
  gt : PySem.W.findIn K (.ref C) "__getattr__" = some none
  cls : PySem.W.findIn K (.ref C) "__class__" = some (some (.builtin "object.__class__"))
  sb : PySem.W.subIn K (.ref C) (.type "BaseException") = some true
  so : PySem.W.subIn K (.ref C) (.type "object") = some true
  cl : (PySem.W.clsIn K C).isSome = true
section
variable {K : PySem.W.Frag} {e C : Addr} {prog : Program} {w : World} {A : Around} {E : Value → Shared → Prop} {h : Heap} {g : Array GenState} {d : Drawn} {t : Nat} {os : OsState}
theorem exc_class_get {R : Result → Shared → Prop} (X : K.In h) (hc : ECls K C) (hx : excAt e C h) (hq : R (.ok (.ret (.ref C))) ⟨h, g, d, t, os⟩) :
    codeAny (model prog w) A (.call (.builtin "getset_descriptor.__get__") ⟨[.builtin "object.__class__", .ref e, .ref C], []⟩) R ⟨h, g, d, t, os⟩ := by
  have L0 := looks_excType (M := model prog w) hx
  have L1 := PySem.W.looks_subIn (M := model prog w) X hc.so
  refine codeAny_call_builtin PySem.W.KF.slot_gs.plain PySem.W.KF.entry_gs (PySem.W.KF.slot_gs.check _ _ _ _ _ _ _ _ PySem.W.KF.type_class (PySem.W.KF.args_gs _ _ _) ?_)
  unfold Builtin.«getset_descriptor.__get__» Builtin.Getset_descriptor.descrGet
  rw [PySem.W.dga_obj]
  refine wpAny_bind (wpAny_pure ?_)
  unfold Builtin.Getset_descriptor.descrGetter Builtin.Getset_descriptor.descrCheckInstance Builtin.Getset_descriptor.descrNameAndClass isInstance
  simp only [PySem.W.KF.owner_class]
  repeat lk
  refine ⟨Code.quiet_builtin _ (by decide +kernel), codeAny_builtin PySem.W.KF.entry_class ?_⟩
  unfold Builtin.«object.__class__» shownTypeOf
  repeat lk
  exact hq
theorem exc_class_entry {tk : Tok} {Q : Fin → Shared → Prop} (X : K.In h) (hc : ECls K C) (hx : excAt e C h) (hq : Q (.done (.ret (.ref C))) ⟨h, g, d, t, os⟩) :
    wpAny (model prog w) A (Builtin.«object.__getattribute__» ⟨[.ref e, .str "__class__" tk], []⟩) Q E ⟨h, g, d, t, os⟩ := by
  obtain ⟨o, ho, hcl⟩ := id hx
  have hT5 : (⟨h, g, d, t, os⟩ : Shared).TypeIs (.builtin "object.__class__") "getset_descriptor" := F.typeOf_object_class
  have f5 := F.typeOf_object_class
  have f6 := F.slot_gs_get.lookup
  have f7 := F.slot_gs_set.lookup
  have lk1 : ∀ {A : Around} {E : Value → Shared → Prop} {Q : Option Value → Shared → Prop} {g d t os}, Q (some (.builtin "object.__class__")) ⟨h, g, d, t, os⟩ → wpAny (model prog w) A (typeLookup (.ref C) "__class__") Q E ⟨h, g, d, t, os⟩ := fun q => (PySem.W.looks_findIn X hc.cls).at q
  repeat (any_goals (first | assumption | (with_reducible refine wpAny_loadPart_at ho ?_; rw [hcl]) | with_reducible refine lk1 ?_ | wp_step))
  refine exc_class_get X hc hx ?_
  repeat (any_goals (first | assumption | wp_step))
theorem exc_check_ga {M : Model} {nameV : Value} {Q : Unit → Shared → Prop} (X : K.In h) (hc : ECls K C) (hx : excAt e C h) (hq : Q () ⟨h, g, d, t, os⟩) : wpAny M A (checkBuiltinCall "BaseException.__getattribute__" ⟨[.ref e, nameV], []⟩) Q E ⟨h, g, d, t, os⟩ := by
  have hk : builtinKind "BaseException.__getattribute__" = some .slot := by decide +kernel
  have hsplit : splitId "BaseException.__getattribute__" = some ("BaseException", "__getattribute__") := by decide +kernel
  have L : PySem.W.Looks M h (isInstance (.ref e) (.type "BaseException")) true := (looks_excType hx).andThen (PySem.W.looks_subIn X hc.sb)
  have ha := F.args_bexc_ga (.ref e) nameV
  exact PySem.W.check_slot (s := ⟨h, g, d, t, os⟩) (i := "BaseException.__getattribute__") (rest := [nameV]) (kw := []) hk hsplit L ha hq
theorem exc_class_call {tk : Tok} {R : Result → Shared → Prop} (X : K.In h) (hc : ECls K C) (hx : excAt e C h) (hq : R (.ok (.ret (.ref C))) ⟨h, g, d, t, os⟩) :
    codeAny (model prog w) A (.call (.builtin "BaseException.__getattribute__") ⟨[.ref e, .str "__class__" tk], []⟩) R ⟨h, g, d, t, os⟩ :=
  codeAny_call_builtin F.excAttr_ValueError.ga.plain F.entry_bexc_ga (exc_check_ga X hc hx (exc_class_entry X hc hx hq))
theorem exc_class_by {tk : Tok} {Q : Value → Shared → Prop} (X : K.In h) (hc : ECls K C) (hx : excAt e C h) (hq : Q (.ref C) ⟨h, g, d, t, os⟩) : wpAny (model prog w) A (getAttrBy (.ref e) (.str "__class__" tk) false) Q E ⟨h, g, d, t, os⟩ := by
  obtain ⟨o, ho, hcl⟩ := id hx
  have f3 := F.excAttr_ValueError.ga.bind (.ref e)
  have hx2 : (Value.builtin "BaseException.__getattribute__" == Value.builtin "object.__getattribute__") = false := by decide +kernel
  have hx1 : (onTheHeap (Value.ref C) && Value.builtin "BaseException.__getattribute__" == Value.builtin "object.__getattribute__") = false := by rw [hx2]; rfl
  have lk1 : ∀ {A : Around} {E : Value → Shared → Prop} {Q : Option Value → Shared → Prop} {g d t os}, Q (some (.builtin "BaseException.__getattribute__")) ⟨h, g, d, t, os⟩ → wpAny (model prog w) A (typeLookup (.ref C) "__getattribute__") Q E ⟨h, g, d, t, os⟩ := fun q => (PySem.W.looks_findIn X hc.ga).at q
  have lk2 : ∀ {A : Around} {E : Value → Shared → Prop} {Q : Option Value → Shared → Prop} {g d t os}, Q none ⟨h, g, d, t, os⟩ → wpAny (model prog w) A (typeLookup (.ref C) "__getattr__") Q E ⟨h, g, d, t, os⟩ := fun q => (PySem.W.looks_findIn X hc.gt).at q
  repeat (any_goals (first | assumption | (with_reducible refine wpAny_loadPart_at ho ?_; rw [hcl]) | with_reducible refine lk1 ?_ | with_reducible refine lk2 ?_ | wp_step))
  refine exc_class_call X hc hx ?_
  repeat (any_goals (first | assumption | wp_step))
theorem exc_class_attr {Q : Option Value → Shared → Prop} (X : K.In h) (hc : ECls K C) (hx : excAt e C h) (hq : Q (some (.ref C)) ⟨h, g, d, t + 1, os⟩) : wpAny (model prog w) A (getAttr? (.ref e) "__class__") Q E ⟨h, g, d, t, os⟩ := by
  unfold getAttr? getAttrBy?
  repeat (any_goals (first | assumption | with_reducible apply exc_class_by X hc hx | wp_step))
end
theorem kitx_exc {K : PySem.W.Frag} {e C : Addr} (hc : ECls K C) : PySem.W.KitX K (.ref e) (.ref C) (excAt e C) where
  ty := fun _ _ _ p => looks_excType p
  it := fun _ _ X _ => looks_isType X hc.cl
  ne := fun h tp dd its n sl X htp => by
    have z0 := hc.cl
    refine Bool.eq_false_iff.mpr fun q => ?_
    have e : C = tp := Value.ref.inj (beq_iff_eq.mp q)
    subst e
    unfold PySem.W.clsIn at z0
    split at z0
    · rename_i c' d' cd' sl' ho
      have z := (X _ _ ho).symm.trans htp
      cases z
    · cases z0
  ca := fun {prog w A E Q s} X p k => by
    obtain ⟨hh, g, d, t, os⟩ := s
    exact exc_class_attr X hc p k
end L2

set_option Elab.async false
set_option linter.all false
set_option maxRecDepth 100000
set_option maxHeartbeats 4000000
/-! LIST COMPREHENSIONS over the layer. -/
namespace L2
open PySem PySem.Spec PyProof.Rows

/-! ### the cells that a block closes over -/
def closOf (cells : List (Str × Addr)) : List (Str × NameKind) → List (Str × Addr) → List (Str × Addr)
  | [], acc => acc
  | (n, k) :: r, acc => closOf cells r (if k == .free then (n, (cells.lookup n).getD 0) :: acc else acc)
theorem closureFor_eq {scope : Scope} {env : Env} (h : ∀ p ∈ scope.names, p.2 = .free → ∃ c, env.cells.lookup p.1 = some c) : closureFor scope env = pure (closOf env.cells scope.names []) := by
  unfold closureFor
  have gen : ∀ (l : List (Str × NameKind)) (acc : List (Str × Addr)), (∀ p ∈ l, p.2 = .free → ∃ c, env.cells.lookup p.1 = some c) →
      (forIn l acc fun (x : Str × NameKind) (r : List (Str × Addr)) => (if (x.2 == NameKind.free) = true then do let a ← cellOf env x.1; pure (ForInStep.yield ((x.1, a) :: r)) else pure (ForInStep.yield r) : Sem (ForInStep (List (Str × Addr))))) = (pure (closOf env.cells l acc) : Sem (List (Str × Addr))) := by
    intro l
    induction l with
    | nil => intro acc _; rfl
    | cons p r ih =>
      intro acc hp
      obtain ⟨n, k⟩ := p
      rw [List.forIn_cons]
      by_cases hk : (k == NameKind.free) = true
      · obtain ⟨c, hc⟩ := hp (n, k) List.mem_cons_self (by simpa using hk)
        have e : cellOf env n = pure c := by unfold cellOf; rw [show env.cells.lookup n = some c from hc]
        simp only [hk, if_true, e, pure_bind]
        rw [ih _ fun q hq => hp q (List.mem_cons_of_mem _ hq)]
        show _ = pure (closOf env.cells r (if (k == NameKind.free) = true then (n, (env.cells.lookup n).getD 0) :: acc else acc))
        rw [if_pos hk, show env.cells.lookup n = some c from hc]
        rfl
      · simp only [hk, Bool.false_eq_true, if_false, pure_bind]
        rw [ih _ fun q hq => hp q (List.mem_cons_of_mem _ hq)]
        show _ = pure (closOf env.cells r (if (k == NameKind.free) = true then (n, (env.cells.lookup n).getD 0) :: acc else acc))
        rw [if_neg hk]
  have := gen scope.names [] h
  simpa using congrArg (fun t => t >>= fun cs => pure cs) this
theorem closOf_lookup {cells : List (Str × Addr)} {y : Str} {c : Addr} : ∀ (l : List (Str × NameKind)) (acc : List (Str × Addr)), (∀ p ∈ l, p.2 = .free → ∃ c, cells.lookup p.1 = some c) → (∀ y c, acc.lookup y = some c → cells.lookup y = some c) → (closOf cells l acc).lookup y = some c → cells.lookup y = some c
  | [], acc, _, ha, h => ha y c h
  | (n, k) :: r, acc, hp, ha, h => by
    refine closOf_lookup r _ (fun q hq => hp q (List.mem_cons_of_mem _ hq)) ?_ h
    intro y' c' e
    by_cases hk : (k == NameKind.free) = true
    · rw [if_pos hk] at e
      obtain ⟨c0, hc⟩ := hp (n, k) List.mem_cons_self (by simpa using hk)
      have hc : cells.lookup n = some c0 := hc
      rw [List.lookup_cons] at e
      by_cases hy : y' = n
      · subst hy
        simp only [beq_self_eq_true] at e
        rw [hc] at e ⊢
        exact e
      · have hb : (y' == n) = false := beq_eq_false_iff_ne.mpr hy
        rw [hb] at e
        exact ha y' c' e
    · rw [if_neg hk] at e
      exact ha y' c' e
theorem closOf_has {cells : List (Str × Addr)} {y : Str} : ∀ (l : List (Str × NameKind)) (acc : List (Str × Addr)), ((y, NameKind.free) ∈ l ∨ ∃ c, acc.lookup y = some c) → ∃ c, (closOf cells l acc).lookup y = some c
  | [], acc, h => h.elim (fun z => nomatch z) fun z => z
  | (n, k) :: r, acc, h => by
    refine closOf_has r _ ?_
    rcases h with h | ⟨c, h⟩
    · rcases List.mem_cons.mp h with e | e
      · cases e
        right
        rw [if_pos (by rfl)]
        exact ⟨_, by rw [List.lookup_cons, beq_self_eq_true]⟩
      · exact .inl e
    · right
      by_cases hk : (k == NameKind.free) = true
      · rw [if_pos hk, List.lookup_cons]
        by_cases hy : (y == n) = true
        · rw [hy]; exact ⟨_, rfl⟩
        · rw [Bool.eq_false_iff.mpr hy]; exact ⟨c, h⟩
      · rw [if_neg hk]; exact ⟨c, h⟩
theorem relabel_free {env : Env} (hk : env.scope.kind = .function) : ∀ {names : List (Str × NameKind)} {x : Str}, names.lookup x = some .free → env.kindOf x = some .cell →
    (names.map fun (n, k) => if (k == NameKind.free && env.scope.kind == .function && env.kindOf n == some .cell) then (n, NameKind.cell) else (n, k)).lookup x = some .cell
  | [], _, h, _ => by simp at h
  | (n, k) :: r, x, h, hx => by
    have ih := @relabel_free env hk r x
    show List.lookup x ((if (k == NameKind.free && env.scope.kind == .function && env.kindOf n == some .cell) = true then (n, NameKind.cell) else (n, k)) :: _) = _
    cases hxn : x == n with
    | true =>
      simp only [List.lookup_cons, hxn] at h
      have e : x = n := by simpa using hxn
      subst e
      cases h
      have hb : (NameKind.free == NameKind.free && env.scope.kind == ScopeKind.function && env.kindOf x == some NameKind.cell) = true := by rw [hk, hx]; rfl
      rw [if_pos hb]
      simp only [List.lookup_cons, beq_self_eq_true]
    | false =>
      simp only [List.lookup_cons, hxn] at h
      by_cases hc : (k == NameKind.free && env.scope.kind == .function && env.kindOf n == some .cell) = true
      · rw [if_pos hc]; simp only [List.lookup_cons, hxn]; exact ih h hx
      · rw [if_neg hc]; simp only [List.lookup_cons, hxn]; exact ih h hx
/-- what is a cell or free in the block is free in its scope -/
theorem relabel_back {env : Env} : ∀ {names : List (Str × NameKind)} {x : Str}, (∀ p ∈ names, p.2 ≠ .cell) →
    ((names.map fun (n, k) => if (k == NameKind.free && env.scope.kind == .function && env.kindOf n == some .cell) then (n, NameKind.cell) else (n, k)).lookup x = some .cell ∨
     (names.map fun (n, k) => if (k == NameKind.free && env.scope.kind == .function && env.kindOf n == some .cell) then (n, NameKind.cell) else (n, k)).lookup x = some .free) → (x, NameKind.free) ∈ names
  | [], _, _, h => by simp at h
  | (n, k) :: r, x, hc, h => by
    have ih := @relabel_back env r x fun p hp => hc p (List.mem_cons_of_mem _ hp)
    by_cases hb : (k == NameKind.free && env.scope.kind == .function && env.kindOf n == some .cell) = true
    · have hk : k = .free := by
        rw [Bool.and_eq_true, Bool.and_eq_true] at hb
        simpa using hb.1.1
      cases hx : x == n with
      | true =>
        have e : x = n := by simpa using hx
        rw [e, hk]; exact List.mem_cons_self
      | false =>
        simp only [List.map_cons, hb, if_true, List.lookup_cons, hx] at h
        exact List.mem_cons_of_mem _ (ih h)
    · cases hx : x == n with
      | true =>
        have e : x = n := by simpa using hx
        simp only [List.map_cons, hb, Bool.false_eq_true, if_false, List.lookup_cons, hx, Option.some.injEq] at h
        rcases h with h | h
        · exact absurd h (hc (n, k) List.mem_cons_self)
        · rw [e, h]; exact List.mem_cons_self
      | false =>
        simp only [List.map_cons, hb, Bool.false_eq_true, if_false, List.lookup_cons, hx] at h
        exact List.mem_cons_of_mem _ (ih h)

/-! ### one turn, whatever the target is -/
theorem codeAny_compLoop_any {prog : Program} {w : World} {A : Around} {R : Result → Shared → Prop} {s : Shared} {elt target iter : Expr} {ifs : List Expr} {scope : Scope} {pos : Pos} {it acc : Value} {env : Env} (I : Nat → Shared → Prop)
    (turn : ∀ n s, I n s → wpAny (model prog w) A (pyNext it) (fun r s₁ => match r with
      | none => R (.ok .next) s₁
      | some v => wpAny (model prog w) A (letOwnedTupleGo target it v) (fun _ s₁' => wpAny (model prog w) A (assign target env v) (fun _ s₂ =>
          wpAny (model prog w) A (forIn ifs true fun c r => if r = true then do let ok ← isTrue c env (eval c env); pure (ForInStep.yield ok) else pure (ForInStep.yield r)) (fun ok s₃ =>
            if ok = true then wpAny (model prog w) A (eval elt env) (fun x s₄ =>
              wpAny (model prog w) A (call (.builtin "list.append") [acc, x]) (fun _ s₅ => ∃ m, m < n ∧ I m s₅) (fun _ _ => False) s₄) (fun _ _ => False) s₃
            else ∃ m, m < n ∧ I m s₃) (fun _ _ => False) s₂) (fun _ _ => False) s₁') (fun _ _ => False) s₁) (fun _ _ => False) s)
    (n : Nat) (h : I n s) :
    codeAny (model prog w) A (.compLoop (.ListComp elt [⟨target, iter, ifs, 0⟩] scope pos) 0 it acc env) R s := by
  refine codeAny_loop rfl I (fun n s hI => ?_) n h
  show wpAny _ A ((compTurn (.ListComp elt [⟨target, iter, ifs, 0⟩] scope pos) 0 it acc env).onRaise (fun x => do noteFrame x env; theTreesLotGoes x)) _ _ s
  refine wpAny_noted ?_
  rw [compTurn_list]
  refine wpAny_bind (wpAny_standAt (wpAny_bind (wpAny_mono (turn n s hI) (fun r s₁ h₁ => ?_) fun _ _ h' => h'.elim)))
  cases r with
  | none => exact wpAny_pure h₁
  | some v =>
    refine wpAny_bind (wpAny_mono h₁ (fun _ s₁' h₁' => ?_) fun _ _ h' => h'.elim)
    refine wpAny_bind (wpAny_mono h₁' (fun _ s₂ h₂ => wpAny_bind (wpAny_mono h₂ (fun ok s₃ h₃ => ?_) fun _ _ h' => h'.elim)) fun _ _ h' => h'.elim)
    cases ok with
    | true =>
      simp only [if_true] at h₃ ⊢
      exact wpAny_bind (wpAny_bind (wpAny_mono h₃ (fun x s₄ h₄ => wpAny_bind (wpAny_mono h₄ (fun _ s₅ h₅ => wpAny_pure (wpAny_pure ⟨rfl, h₅⟩)) fun _ _ h' => h'.elim)) fun _ _ h' => h'.elim))
    | false =>
      simp only [Bool.false_eq_true, if_false] at h₃ ⊢
      exact wpAny_bind (wpAny_pure (wpAny_pure ⟨rfl, h₃⟩))

/-! ### the block's context -/
def cxComp (X : Cx) (scope : Scope) (N : List Str) (C : Addr) (s₀ : Shared) (H₀ : Hp) (ex : List Addr) (pn : List (Addr × Obj)) : Cx :=
  { X with N := N, s₀ := s₀, H₀ := H₀, env := compEnvC scope (closOf X.env.cells scope.names []) C X.env, outer := X.stack, stack := X.stack, ex := ex, fn := fun _ => false, pn := pn, xe := fun _ _ => False }
/-- the block's names: its own (none), or the slot of the def's that it closes over -/
def capOf (src : List (Option Nat)) (σ : St) : St := src.map fun o => match o with | none => none | some i => (σ[i]?).join
theorem capOf_get {src : List (Option Nat)} {σ : St} {j : Nat} {v : V} (h : (capOf src σ)[j]? = some (some v)) : ∃ i, src[j]? = some (some i) ∧ σ[i]? = some (some v) := by
  unfold capOf at h
  rw [List.getElem?_map] at h
  cases e : src[j]? with
  | none => rw [e] at h; cases h
  | some o =>
    rw [e] at h
    cases o with
    | none => cases h
    | some i =>
      refine ⟨i, rfl, ?_⟩
      have h : (σ[i]?).join = some v := Option.some.inj h
      cases q : σ[i]? with
      | none => rw [q] at h; cases h
      | some z => rw [q] at h; exact congrArg some h
structure BlockOk (X : Cx) (scope : Scope) (N : List Str) (src : List (Option Nat)) : Prop where
  kind : scope.kind = .function
  nocell : ∀ p ∈ scope.names, p.2 ≠ .cell
  names : ∀ x ∈ scope.names, x.2 = .local → scope.names.lookup x.1 = some .local
  free : ∀ p ∈ scope.names, p.2 = .free → X.env.kindOf p.1 = some .cell
  nd : N.Nodup
  len : src.length = N.length
  cap : ((N.zip src).all fun p => match p.2 with | none => true | some i => X.N[i]? == some p.1 && X.env.kindOf p.1 == some .cell && scope.names.lookup p.1 == some .free) = true
theorem BlockOk.at {X : Cx} {scope : Scope} {N : List Str} {src : List (Option Nat)} (b : BlockOk X scope N src) {j i : Nat} {y : Str} (h1 : N[j]? = some y) (h2 : src[j]? = some (some i)) :
    X.N[i]? = some y ∧ X.env.kindOf y = some .cell ∧ scope.names.lookup y = some .free := by
  have hz : (N.zip src)[j]? = some (y, some i) := by rw [List.getElem?_zip_eq_some]; exact ⟨h1, h2⟩
  have q := List.all_eq_true.mp b.cap _ (List.mem_of_getElem? hz)
  simp only [Bool.and_eq_true, beq_iff_eq] at q
  exact ⟨q.1.1, q.1.2, q.2⟩
/-- the same, to be decided: the def's scope and names, the block's -/
def blockOk (osc scope : Scope) (oN N : List Str) (src : List (Option Nat)) : Bool :=
  scope.kind == .function && (scope.names.all fun p => p.2 != .cell) && (scope.names.all fun p => p.2 != .local || scope.names.lookup p.1 == some .local) && (scope.names.all fun p => p.2 != .free || osc.names.lookup p.1 == some .cell) && decide N.Nodup && src.length == N.length &&
  (N.zip src).all fun p => match p.2 with | none => true | some i => oN[i]? == some p.1 && osc.names.lookup p.1 == some .cell && scope.names.lookup p.1 == some .free
theorem blk {X : Cx} {osc scope : Scope} {oN N : List Str} {src : List (Option Nat)} (e1 : X.env.scope = osc) (e2 : X.N = oN) (h : blockOk osc scope oN N src = true) : BlockOk X scope N src := by
  subst e1 e2
  unfold blockOk at h
  simp only [Bool.and_eq_true, List.all_eq_true, Bool.or_eq_true, bne_iff_ne, beq_iff_eq, decide_eq_true_eq, ne_eq] at h
  obtain ⟨⟨⟨⟨⟨⟨h1, h2⟩, h3⟩, h4⟩, h5⟩, h6⟩, h7⟩ := h
  refine ⟨h1, h2, fun x hx e => (h3 x hx).resolve_left (fun z => z e), fun x hx e => (h4 x hx).resolve_left (fun z => z e), h5, h6, List.all_eq_true.mpr fun p hp => ?_⟩
  have q := h7 p hp
  cases e : p.2 with
  | none => rfl
  | some i =>
    rw [e] at q
    simp only [Bool.and_eq_true, beq_iff_eq] at q ⊢
    exact q
/-- W: by the turn, a measure, the block's values and the heap; the list stands at D -/
def CompW (J : It) (src : List (Option Nat)) (g : TG) (tt : TT) (te : TE) (Q : VK) (σ : St) (H1 : Hp) (D : Addr) : Prop :=
  ∃ W : Nat → Nat → St → Hp → Prop, (∃ m, W 0 m (capOf src σ) (upd H1 D (.lst []))) ∧ ∀ i m σ1 H2, W i m σ1 H2 →
    (J.stop i H2 ∧ Q (.ref D) H2) ∨
    (J.go i H2 ∧ ∃ N : St → Hp → Prop, (∀ σ' H', N σ' H' → ∃ m', m' < m ∧ W (i + 1) m' σ' H') ∧ ∀ x H3, J.yld i H2 x H3 → g x σ1 H3 fun σ4 H4 => tt σ4 H4 fun b H5 =>
      if b = true then te σ4 H5 fun y H6 => ∃ zs, H6 D = some (.lst zs) ∧ zs.length < sizeLine ∧ N σ4 (upd H6 D (.lst (zs ++ [y])))
      else N σ4 H5)
def tComp (wi : TI) (src : List (Option Nat)) (g : TG) (tt : TT) (te : TE) : TE := fun σ H Q => wi σ H fun J H1 => ∀ D, H1 D = none → CompW J src g tt te Q σ H1 D
def tTrue : TT := fun _ H Q => Q true H
theorem gN {i : Nat} {v : V} {σ : St} {H : Hp} {Q : St → Hp → Prop} (h : Q (σ.set i (some v)) H) : gName i v σ H Q := h
theorem tT {σ : St} {H : Hp} {A B : Hp → Prop} (h : A H) : tTrue σ H (fun b H5 => if b = true then A H5 else B H5) := by
  show if true = true then A H else B H
  rw [if_pos rfl]; exact h
/-- the tests: none, or one -/
def PTs (X : Cx) (ifs : List Expr) (t : TT) : Prop := ∀ (pins : List (Addr × Obj)) (s : Shared) (σ : St) (H : Hp) (Q : Bool → Hp → Prop), Inv X pins σ H s → t σ H Q →
  wpAny (model X.prog X.w) X.A (forIn ifs true fun c r => if r = true then do let ok ← isTrue c X.env (eval c X.env); pure (ForInStep.yield ok) else pure (ForInStep.yield r)) (TP X pins σ Q) X.xe s
theorem pts_nil {X : Cx} : PTs X [] tTrue := fun _ _ _ H _ I h => wpAny_tests_nil ⟨H, I, h⟩
theorem pts_one {X : Cx} {c : Expr} {t : TT} (h : PT X c t) : PTs X [c] t := fun pins s σ H Q I hq => wpAny_tests_one (h pins s σ H Q I hq)

section
variable {X : Cx} {elt tg iter : Expr} {ifs : List Expr} {scope : Scope} {pos : Pos} {N : List Str} {src : List (Option Nat)} {wi : TI} {g : TG} {tt : TT} {te : TE}
theorem BlockOk.cells {b : BlockOk X scope N src} (ok : X.Ok) : ∀ p ∈ scope.names, p.2 = .free → ∃ c, X.env.cells.lookup p.1 = some c := fun p hp hf => ok.has p.1 (.inl (b.free p hp hf))
theorem stk_not {pins : List (Addr × Obj)} {σ : St} {H : Hp} {s : Shared} {b : Addr} (I : Inv X pins σ H s) (h1 : b ≠ X.env.locals) (h2 : b ∉ X.fs) : b ∉ frs X.stack := fun hb => (List.mem_cons.mp (I.stkSub b hb)).elim h1 h2
theorem clos_cells {b : BlockOk X scope N src} (ok : X.Ok) {y : Str} {c : Addr} (h : (closOf X.env.cells scope.names []).lookup y = some c) : X.env.cells.lookup y = some c :=
  closOf_lookup scope.names [] (b.cells ok) (fun _ _ z => by cases z) h
/-- the block's state at its entry -/
theorem Inv.block {pins : List (Addr × Obj)} {σ : St} {H : Hp} {s : Shared} {ex : List Addr} {h1 : Heap} {t' : Nat} {mC : Str → Option Value} (b : BlockOk X scope N src) (I : Inv X pins σ H s) (hk : ∀ b u, s.heap.get? b = some u → h1.get? b = some u) (hC : h1.Ns s.heap.objs.size mC)
    (hex : ∀ c ∈ ex, FpOk X pins H c ∧ c < s.heap.objs.size) : Inv (cxComp X scope N s.heap.objs.size s H ex (X.pn ++ pins)) [] (capOf src σ) H { s with heap := h1, toks := t' } := by
  refine ⟨⟨I.ok.mod, b.kind, I.ok.glob, I.ok.blt, Nat.le_refl _, fun x y c e1 e2 => I.ok.inj x y c (clos_cells (b := b) I.ok e1) (clos_cells (b := b) I.ok e2), fun x hx => ?_, (fun x c z => nomatch z), I.ok.hd, I.ok.frames, .inl rfl, fun c hc => ⟨Nat.ne_of_lt (hex c hc).2, fun x c' e z => (hex c hc).1.2.2.2.2.1 x c' (clos_cells (b := b) I.ok e) z⟩,
    fun c o e => I.bs c o e, Nat.le_trans I.ok.bsz I.sz, fun c o e hc => ?_, fun c hc => stk_not I (hex c hc).1.2.1 (hex c hc).1.2.2.1, I.stack, I.stkFree⟩, rfl, I.bare, Un.kept hk, ⟨mC, hC, fun j y v e1 e2 e3 => ?_⟩, fun y c e => ?_, I.hok.fresh (Nat.le_refl _), fun y c e => I.freeC y c (clos_cells (b := b) I.ok e), fun p hp => ?_, I.hok.kept hk, ?_⟩
  · exact closOf_has scope.names [] (.inl (relabel_back b.nocell hx))
  · rcases (hex c hc).1.2.2.2.1 with z | z
    · exact I.ok.noex c o e z
    · exact absurd (Nat.lt_of_lt_of_le (Nat.lt_of_lt_of_le (Heap.lt_size e) I.ok.bsz) z) (Nat.lt_irrefl _)
  · obtain ⟨i, e4, e5⟩ := capOf_get e2
    obtain ⟨n1, n2, n3⟩ := b.at (show N[j]? = some y from e1) e4
    obtain ⟨m, hm, hl⟩ := I.loc
    obtain ⟨u, r, l⟩ := hl i y v n1 e5 (.inr (.inl n2))
    refine ⟨u, r, .inr ⟨.inl (relabel_free I.ok.kind n3 n2), ?_⟩⟩
    rcases l with ⟨k, _⟩ | ⟨_, c, e, z⟩
    · rw [n2] at k; cases k
    · obtain ⟨c', e'⟩ := closOf_has (cells := X.env.cells) (y := y) scope.names [] (.inl (PySem.mem_of_lookup n3))
      have e2 := clos_cells (b := b) I.ok e'
      rw [e] at e2; cases e2
      obtain ⟨o, ho, hd⟩ := z
      exact ⟨c, e', o, hk _ _ ho, hd⟩
  · obtain ⟨v, o, ho, hd⟩ := I.cell y c (clos_cells (b := b) I.ok e)
    exact ⟨v, o, hk _ _ ho, hd⟩
  · have hp : p ∈ X.pn ++ pins := by simpa [cxComp] using hp
    obtain ⟨e, n, ne, nf, d⟩ := I.pin p hp
    exact ⟨hk _ _ e, n, Nat.ne_of_lt (Heap.lt_size e), stk_not I ne nf, d⟩
  · show (capOf src σ).length = N.length
    unfold capOf
    rw [List.length_map]; exact b.len
/-- behind the block -/
theorem Inv.unblock {pins pins' : List (Addr × Obj)} {σ σ' : St} {H H' : Hp} {s s' : Shared} {ex : List Addr} {h2 : Heap} (b : BlockOk X scope N src) (I : Inv X pins σ H s) (hex : ∀ c ∈ ex, FpOk X pins H c ∧ c < s.heap.objs.size)
    (J : Inv (cxComp X scope N s.heap.objs.size s H ex (X.pn ++ pins)) pins' σ' H' s') (sb : Heap.SameBut s.heap.objs.size s'.heap h2) : Inv X pins σ H' { s' with heap := h2 } := by
  have nC : ∀ b o, s.heap.get? b = some o → b ≠ s.heap.objs.size := fun b o e => Nat.ne_of_lt (Heap.lt_size e)
  have u := J.base
  have u : Un (frs X.stack) ex H H' s.heap s'.heap := u
  refine I.call' (s' := { s' with heap := h2 }) (ch := ex) J.os ⟨fun c o e n hb hx => (sb.2 c (nC c o e)).trans (u.keep c o e n hb hx), fun c o e n hb hx => ?_, u.free, fun c o e hx => ?_, u.tups, u.frzs, u.tbls⟩ (fun a o e => ?_) J.bare fun c hc => ?_
  · obtain ⟨sl, e1⟩ := u.slot c o e n hb hx
    exact ⟨sl, (sb.2 c (nC c o e)).trans e1⟩
  · obtain ⟨o', e1⟩ := u.there c o e hx
    exact ⟨o', (sb.2 c (nC c o e)).trans e1⟩
  · refine (J.hok a o e).stay (fun c v hc q => (sb.2 c ?_).trans q) (fun _ q => q) fun _ _ q => q
    rintro rfl
    have z : H' s.heap.objs.size = none := J.free
    rcases hc with hc | hc
    · rw [← hc, z] at e; cases e
    · rw [z] at hc; cases hc
  · obtain ⟨⟨f0, f1, f2, f3, f4, f5⟩, _⟩ := hex c hc
    exact ⟨f3, f1, f4, f5⟩
theorem comp_core (hc : X.calm = true) (b : BlockOk X scope N src) (hi : PI X tg iter wi)
    (hg : ∀ (C : Addr) (s₀ : Shared) (H₀ : Hp) (ex : List Addr) (pn : List (Addr × Obj)), PG (cxComp X scope N C s₀ H₀ ex pn) tg g)
    (ht : ∀ (C : Addr) (s₀ : Shared) (H₀ : Hp) (ex : List Addr) (pn : List (Addr × Obj)), PTs (cxComp X scope N C s₀ H₀ ex pn) ifs tt)
    (he : ∀ (C : Addr) (s₀ : Shared) (H₀ : Hp) (ex : List Addr) (pn : List (Addr × Obj)), PE (cxComp X scope N C s₀ H₀ ex pn) elt te)
    (hs : ∀ x, foldedSetIterable iter X.env x = pure x) {use : Option (Value → Sem Unit)} {Qv : Value → Shared → Prop} {pins : List (Addr × Obj)} {s : Shared} {σ : St} {H : Hp} {Q : VK} {p1 : Pos} (I : Inv X pins σ H s) (h : tComp wi src g tt te σ H Q)
    (hend : ∀ (D C : Addr) (s5 : Shared) (H5 : Hp), (∃ m, s5.heap.Ns C m) → C ≠ X.env.locals → (∀ x c, X.env.cells.lookup x = some c → c ≠ C) → (∀ p ∈ X.pn ++ pins, p.1 ≠ C) → X.s₀.heap.objs.size ≤ C → H5 C = none → Inv X pins σ H5 s5 → Q (.ref D) H5 →
      compPost (model X.prog X.w) X.A X.xe use Qv (.ref D) C (.ok .next) s5) :
    wpAny (model X.prog X.w) X.A (comprehension (.ListComp elt [⟨tg, iter, ifs, 0⟩] scope pos) scope X.env p1 (newList []) false (eval iter X.env) use) Qv X.xe s := by
  refine wpAny_comprehension_free (use := use) rfl hs (closureFor_eq (b.cells I.ok)) b.kind b.names (thn (hi pins s σ H _ I h) fun v s1 h1 => thn h1 fun itv s2 h2 => ?_)
  obtain ⟨it, fp, tn, J, H2, e, I2, T, st2, f2, hW⟩ := h2
  subst e
  have hD : H2 s2.heap.objs.size = none := I2.hok.fresh (Nat.le_refl _)
  obtain ⟨W, ⟨m0, w0⟩, turn⟩ := hW s2.heap.objs.size hD
  refine wpAny_newObj_type (wpAny_newFunctionEnv b.nocell (fun y hy => nomatch hy) (fun h1 hns1 hsb1 => ?_) b.kind)
  have I3 := I2.lnew (its := []) (ys := []) (t' := s2.toks) .nil (Nat.zero_le _)
  have hsz3 : (s2.heap.push { cls := .type "list", data := .seq ([] : List Value).toArray }).objs.size = s2.heap.objs.size + 1 := Heap.size_push _ _
  have nfpD : ∀ c ∈ fp, c < s2.heap.objs.size := fun c hcf => by
    obtain ⟨o, ho, _⟩ := T.obj 0 _ st2 c hcf
    exact Heap.lt_size ho
  have hex3 : ∀ c ∈ fp, FpOk X pins (upd H2 s2.heap.objs.size (.lst [])) c ∧ c < (s2.heap.push { cls := .type "list", data := .seq ([] : List Value).toArray }).objs.size := fun c hcf => by
    have hl := nfpD c hcf
    obtain ⟨f0, fr⟩ := f2 c hcf
    exact ⟨⟨by rw [upd_ne (Nat.ne_of_lt hl)]; exact f0, fr⟩, by rw [hsz3]; exact Nat.lt_succ_of_lt hl⟩
  have hk3 : ∀ c u, (s2.heap.push { cls := .type "list", data := .seq ([] : List Value).toArray }).get? c = some u → h1.get? c = some u := fun c u e =>
    (hsb1.2 c (Nat.ne_of_lt (Heap.lt_size e))).trans (Heap.get?_push_of_some _ e)
  have IC := Inv.block (t' := s2.toks + ([] : List (Str × Value)).length) b I3 hk3 hns1 hex3
  have st3 : tn 0 h1 := T.keep _ _ _ st2 fun c hcf o ho => hk3 c o (Heap.get?_push_of_some _ ho)
  -- the block
  have loop : codeAny (model X.prog X.w) X.A (.compLoop (.ListComp elt [⟨tg, iter, ifs, 0⟩] scope pos) 0 (.ref it) (.ref s2.heap.objs.size) (cxComp X scope N (s2.heap.push { cls := .type "list", data := .seq ([] : List Value).toArray }).objs.size { s2 with heap := s2.heap.push { cls := .type "list", data := .seq ([] : List Value).toArray }, toks := s2.toks } (upd H2 s2.heap.objs.size (.lst [])) fp (X.pn ++ pins)).env)
      (compPost (model X.prog X.w) X.A X.xe use Qv (.ref s2.heap.objs.size) (s2.heap.push { cls := .type "list", data := .seq ([] : List Value).toArray }).objs.size) { s2 with heap := h1, toks := s2.toks + ([] : List (Str × Value)).length } := by
    generalize hXc : cxComp X scope N (s2.heap.push { cls := .type "list", data := .seq ([] : List Value).toArray }).objs.size { s2 with heap := s2.heap.push { cls := .type "list", data := .seq ([] : List Value).toArray }, toks := s2.toks } (upd H2 s2.heap.objs.size (.lst [])) fp (X.pn ++ pins) = Xc at IC
    have stat : ∀ {H' : Hp}, (∀ c ∈ fp, H' c = none) → ∀ c ∈ fp, FpOk Xc [] H' c := fun {H'} hn c hcf => by
      subst hXc
      obtain ⟨⟨f0, f1, f3, f4, f5, f6⟩, hl⟩ := hex3 c hcf
      exact ⟨hn c hcf, Nat.ne_of_lt hl, stk_not I3 f1 f3, .inl hcf, fun x c' e => f5 x c' (clos_cells (b := b) I3.ok e), fun p hp => f6 p (by simpa [cxComp] using hp)⟩
    have eP : Xc.prog = X.prog := (congrArg Cx.prog hXc).symm
    have eW : Xc.w = X.w := (congrArg Cx.w hXc).symm
    have eK : Xc.K = X.K := (congrArg Cx.K hXc).symm
    have eA : Xc.A = X.A := (congrArg Cx.A hXc).symm
    have eC : Xc.calm = true := (congrArg Cx.calm hXc).symm.trans hc
    have hgc : PG Xc tg g := @Eq.rec _ _ (fun Y _ => PG Y tg g) (hg _ _ _ _ _) _ hXc
    have htc : PTs Xc ifs tt := @Eq.rec _ _ (fun Y _ => PTs Y ifs tt) (ht _ _ _ _ _) _ hXc
    have hec : PE Xc elt te := @Eq.rec _ _ (fun Y _ => PE Y elt te) (he _ _ _ _ _) _ hXc
    have ex0 : Xc.xe = fun _ _ => False := (congrArg Cx.xe hXc).symm
    refine codeAny_compLoop_any (fun n s' => ∃ i σ' H', Inv Xc [] σ' H' s' ∧ tn i s'.heap ∧ (∀ c ∈ fp, H' c = none) ∧ W i n σ' H') ?_ m0 ⟨0, _, _, IC, st3, fun c hcf => (hex3 c hcf).1.1, w0⟩
    rintro n s4 ⟨i, σ4, H4, I4, st4, fr4, w4⟩
    rcases turn i n σ4 H4 w4 with ⟨stop, qn⟩ | ⟨go, Nx, hNx, step⟩
    · have hd := T.done Xc eP eW eK eC i [] s4 σ4 H4 (fun _ _ => False) I4 (stat fr4) st4 stop
      rw [eA] at hd
      refine thn hd fun r s5 hPz => ?_; obtain ⟨hr, I5⟩ := hPz
      subst hr
      subst hXc
      obtain ⟨m5, hm5, _⟩ := I5.loc
      refine hend s2.heap.objs.size _ s5 H4 ⟨m5, hm5⟩ (Nat.ne_of_gt I3.lt) (fun x c e z => ?_) (fun p hp => Nat.ne_of_lt (Heap.lt_size (I3.pin p hp).1)) I3.sz I5.free (Inv.unblock b I3 hex3 I5 (Heap.SameBut.refl ..)) qn
      obtain ⟨v, q⟩ := I3.cell x c e
      exact absurd q.lt (by rw [z]; exact Nat.lt_irrefl _)
    · have hd := T.item Xc eP eW eK eC i [] s4 σ4 H4 (fun _ _ => False) I4 (stat fr4) st4 go
      rw [eA] at hd
      refine thn hd fun r s5 hPz => ?_; obtain ⟨u, hr, h5⟩ := hPz
      subst hr
      refine thn h5 fun _ s6 hPz => ?_; obtain ⟨x, H6, I6, r6, y6, st6, fr6⟩ := hPz
      have I6' := I6.pinned (stat fr6) (T.obj _ _ st6)
      have hq := hgc _ s6 σ4 H6 x u _ I6' r6 (step x H6 y6)
      rw [eP, eW, eA, ex0] at hq
      refine thn hq fun _ s7 hPz => ?_; obtain ⟨σ7, H7, I7, q7⟩ := hPz
      have hq := htc _ s7 σ7 H7 _ I7 q7
      rw [eP, eW, eA, ex0] at hq
      refine thn hq fun ok s8 hPz => ?_; obtain ⟨H8, I8, q8⟩ := hPz
      have again : ∀ {σ9 : St} {H9 : Hp} {s9 : Shared}, Inv Xc ([] ++ pinsAt fp s6.heap) σ9 H9 s9 → Nx σ9 H9 → ∃ m, m < n ∧ ∃ i σ' H', Inv Xc [] σ' H' s9 ∧ tn i s9.heap ∧ (∀ c ∈ fp, H' c = none) ∧ W i m σ' H' := fun {σ9 H9 s9} I9 nx9 => by
        obtain ⟨m', hm, w9⟩ := hNx σ9 H9 nx9
        refine ⟨m', hm, i + 1, σ9, H9, I9.unpinned, T.keep _ _ _ st6 fun c hcf o e => (I9.pin (c, o) (List.mem_append_right _ (List.mem_append_right _ (mem_pinsAt hcf e)))).1, fun c hcf => ?_, w9⟩
        obtain ⟨o, e, d⟩ := T.obj _ _ st6 c hcf
        exact (I9.pin (c, o) (List.mem_append_right _ (List.mem_append_right _ (mem_pinsAt hcf e)))).2.1
      cases ok with
      | false =>
        rw [if_neg Bool.false_ne_true] at q8
        rw [if_neg Bool.false_ne_true]
        exact again I8 q8
      | true =>
        rw [if_pos rfl] at q8
        rw [if_pos rfl]
        have hq := hec _ s8 σ7 H8 _ I8 q8
        rw [eP, eW, eA, ex0] at hq
        refine thn hq fun y s9 hPz => ?_; obtain ⟨yv, H9, I9, ry, zs, hz, hzl, q9⟩ := hPz
        have ha := mt_append (X := Xc) _ s9 σ7 H9 (.ref s2.heap.objs.size) [yv] (.ref s2.heap.objs.size) [y] (fun _ H' => H' = upd H9 s2.heap.objs.size (.lst (zs ++ [yv]))) I9 rfl (.cons ry .nil) ⟨_, zs, yv, rfl, rfl, hz, hzl, rfl⟩
        rw [eP, eW, eA, ex0] at ha
        refine thn ha fun _ s10 hPz => ?_; obtain ⟨v10, H10, I10, _, e10⟩ := hPz
        subst e10
        exact again I10 q9
  exact codeAny_compStart_list loop (T.self X.A 0 _ _ _ st3 loop)
theorem pe_comp (hc : X.calm = true) (b : BlockOk X scope N src) (hi : PI X tg iter wi)
    (hg : ∀ (C : Addr) (s₀ : Shared) (H₀ : Hp) (ex : List Addr) (pn : List (Addr × Obj)), PG (cxComp X scope N C s₀ H₀ ex pn) tg g)
    (ht : ∀ (C : Addr) (s₀ : Shared) (H₀ : Hp) (ex : List Addr) (pn : List (Addr × Obj)), PTs (cxComp X scope N C s₀ H₀ ex pn) ifs tt)
    (he : ∀ (C : Addr) (s₀ : Shared) (H₀ : Hp) (ex : List Addr) (pn : List (Addr × Obj)), PE (cxComp X scope N C s₀ H₀ ex pn) elt te)
    (hs : ∀ x, foldedSetIterable iter X.env x = pure x := by intro _; rfl) : PE X (.ListComp elt [⟨tg, iter, ifs, 0⟩] scope pos) (tComp wi src g tt te) := by
  intro pins s σ H Q I h
  rw [eval_ListComp]
  refine comp_core hc b hi hg ht he hs (use := none) I h fun D C s5 H5 ⟨m, hm⟩ h1 h2 h3 h4 h5 I5 q => ?_
  exact ⟨m, hm, fun h' sb => ⟨.ref D, H5, I5.turned (t' := s5.toks) (fun c o nc e => (sb.2 c nc).trans e) h5 h1 (.inr h4) h2 h3, rfl, q⟩⟩
/-- y = [..], where the store stands ahead of the letting go -/
theorem ps_setC {i : Nat} {y : Str} {py spos : Pos} (hN : X.N.Nodup) (hi0 : X.N[i]? = some y) (hy : X.env.scope.names.lookup y = some .local) (hc : X.calm = true) (b : BlockOk X scope N src) (hi : PI X tg iter wi)
    (hg : ∀ (C : Addr) (s₀ : Shared) (H₀ : Hp) (ex : List Addr) (pn : List (Addr × Obj)), PG (cxComp X scope N C s₀ H₀ ex pn) tg g)
    (ht : ∀ (C : Addr) (s₀ : Shared) (H₀ : Hp) (ex : List Addr) (pn : List (Addr × Obj)), PTs (cxComp X scope N C s₀ H₀ ex pn) ifs tt)
    (he : ∀ (C : Addr) (s₀ : Shared) (H₀ : Hp) (ex : List Addr) (pn : List (Addr × Obj)), PE (cxComp X scope N C s₀ H₀ ex pn) elt te)
    (hsw : swapsWith (.ListComp elt [⟨tg, iter, ifs, 0⟩] scope pos) (some (.Name y py)) spos.line X.env = pure true := by with_unfolding_all rfl)
    (hs : ∀ x, foldedSetIterable iter X.env x = pure x := by intro _; rfl) : PS X (.Assign [.Name y py] (.ListComp elt [⟨tg, iter, ifs, 0⟩] scope pos) spos) (tAsg (tComp wi src g tt te) (gName i)) := by
  intro pins s σ H D I h
  rw [exec_Assign_Name_used _ _ _ _ hsw]
  refine wpAny_bind (wpAny_standAt (wpAny_bind ?_))
  show wpAny _ X.A (do let _ ← comprehension (.ListComp elt [⟨tg, iter, ifs, 0⟩] scope pos) scope X.env _ (newList []) false (eval iter X.env) (some (assign (.Name y py) X.env))) _ _ s
  refine wpAny_bind (wpAny_mono (comp_core hc b hi hg ht he hs (use := some (assign (.Name y py) X.env)) (Qv := fun _ s' => SP X pins D .next s') I h fun D' C s5 H5 ⟨m, hm⟩ h1 h2 h3 h4 h5 I5 q => ?_) (fun _ s' hq => wpAny_pure (wpAny_pure hq)) fun _ _ e => e)
  show wpAny _ X.A (assign (.Name y py) X.env (.ref D')) _ _ _
  refine wpAny_assign_Name (store_ok2 I5 hN hi0 (.inl hy) (show RelV (.ref D') (.ref D') from rfl) (fun s6 I6 hPz => ?_) (.inr hy)); obtain ⟨a, sb6, ha⟩ := hPz
  have hCa : C ≠ a := by
    rcases ha with rfl | ha
    · exact h1
    · exact fun z => h2 _ _ ha z.symm
  exact ⟨m, hm.sameBut sb6 hCa, fun h' sb => ⟨_, H5, I6.turned (t' := s6.toks) (fun c o nc e => (sb.2 c nc).trans e) h5 h1 (.inr h4) h2 h3, q⟩⟩
end

/-! ### inside a block: the fragment by its own name -/
section
variable {X : Cx} {K : PySem.W.Frag} {a b e : Expr} {f : Str} {ta tb : TE} {pos : Pos}
theorem pe_fldB (hK : X.K = K) (he : PE X e ta) (hb : attributeBase e f X.env (eval e X.env) = eval e X.env) : PE X (.Attribute e f pos) (tFld K ta f) := by subst hK; exact pe_fld he hb
theorem pe_ixB (hK : X.K = K) (ha : PE X a ta) (hb : PE X b tb) (hs : PlainIx b) : PE X (.Subscript a b pos) (tOp (rIxL K) ta tb) := by subst hK; exact pe_ix ix_list ha hb hs
theorem pe_ixTB (hK : X.K = K) (ha : PE X a ta) (hb : PE X b tb) (hs : PlainIx b) : PE X (.Subscript a b pos) (tOp (rIxT K) ta tb) := by subst hK; exact pe_ix ix_tup ha hb hs
theorem pg_tupB {es : List Expr} {k n : Nat} {t : TGs} (hK : X.K = K) (hc : X.calm = true) (h : PGs X es t)
    (hn : (assignEach es X.env).length = n) (hst : (assignEach es X.env).findIdx? (·.1) = none) : PG X (.Tuple es k pos) (gTup K n t) := by subst hK; exact pg_tup hc h hn hst
end
/-! ### the forms one uses -/
/-- over a list that the block leaves as it is -/
theorem comp_list {K : PySem.W.Frag} {a : Addr} {xs : List V} {src : List (Option Nat)} {g : TG} {tt : TT} {te : TE} {Q : VK} {σ : St} {H1 : Hp} {D : Addr} (Pv : Nat → St → Hp → Prop) (h0 : Pv 0 (capOf src σ) (upd H1 D (.lst [])))
    (hl : ∀ i σ1 H2, i ≤ xs.length → Pv i σ1 H2 → SqL K H2 a xs)
    (hs : ∀ i x σ1 H2, xs[i]? = some x → Pv i σ1 H2 → g x σ1 H2 fun σ4 H4 => tt σ4 H4 fun b H5 =>
      if b = true then te σ4 H5 fun y H6 => ∃ zs, H6 D = some (.lst zs) ∧ zs.length < sizeLine ∧ Pv (i + 1) σ4 (upd H6 D (.lst (zs ++ [y]))) else Pv (i + 1) σ4 H5)
    (hd : ∀ σ1 H2, Pv xs.length σ1 H2 → Q (.ref D) H2) :
    CompW (Itl K a) src g tt te Q σ H1 D := by
  refine ⟨fun i m σ H => m = xs.length - i ∧ i ≤ xs.length ∧ Pv i σ H, ⟨xs.length, by simp, Nat.zero_le _, h0⟩, ?_⟩
  rintro i m σ1 H2 ⟨rfl, hi, p⟩
  have q := hl i σ1 H2 hi p
  by_cases hlt : i < xs.length
  · refine .inr ⟨⟨xs, xs[i], q, by simp [hlt]⟩, Pv (i + 1), fun σ' H' p' => ⟨xs.length - (i + 1), by (first | lia | omega), rfl, hlt, p'⟩, fun x H' y => ?_⟩
    obtain ⟨e, y⟩ := y
    subst e
    exact hs i x σ1 _ (y xs q) p
  · have e : i = xs.length := by (first | lia | omega)
    subst e
    exact .inl ⟨⟨xs, q, Nat.le_refl _⟩, hd σ1 H2 p⟩
theorem comp_range {lo : Int} {n : Nat} {src : List (Option Nat)} {g : TG} {tt : TT} {te : TE} {Q : VK} {σ : St} {H1 : Hp} {D : Addr} (Pv : Nat → St → Hp → Prop) (h0 : Pv 0 (capOf src σ) (upd H1 D (.lst [])))
    (hs : ∀ i σ1 H2, i < n → Pv i σ1 H2 → g (.int (lo + i)) σ1 H2 fun σ4 H4 => tt σ4 H4 fun b H5 =>
      if b = true then te σ4 H5 fun y H6 => ∃ zs, H6 D = some (.lst zs) ∧ zs.length < sizeLine ∧ Pv (i + 1) σ4 (upd H6 D (.lst (zs ++ [y]))) else Pv (i + 1) σ4 H5)
    (hd : ∀ σ1 H2, Pv n σ1 H2 → Q (.ref D) H2) :
    CompW (Itr lo n) src g tt te Q σ H1 D := by
  refine ⟨fun i m σ H => m = n - i ∧ i ≤ n ∧ Pv i σ H, ⟨n, by simp, Nat.zero_le _, h0⟩, ?_⟩
  rintro i m σ1 H2 ⟨rfl, hi, p⟩
  by_cases hlt : i < n
  · refine .inr ⟨hlt, Pv (i + 1), fun σ' H' p' => ⟨n - (i + 1), by (first | lia | omega), rfl, hlt, p'⟩, fun x H' y => ?_⟩
    obtain ⟨e, y⟩ := y
    subst e y
    exact hs i σ1 _ hlt p
  · have e : i = n := by (first | lia | omega)
    subst e
    exact .inl ⟨Nat.le_refl _, hd σ1 H2 p⟩
end L2

set_option Elab.async false
set_option linter.all false
set_option maxRecDepth 100000
set_option maxHeartbeats 4000000
/-! enumerate; min, max; == of data; isinstance. -/
namespace L2
open PySem PySem.Spec PyProof.Rows

/-! ### for i, x in enumerate(xs) -/
/-- at turn i the pair (i, xs[i]), a new tuple -/
def Ite (K : PySem.W.Frag) (a : Addr) : It :=
  ⟨fun i H => ∃ xs x, SqL K H a xs ∧ xs[i]? = some x, fun i H x H' => ∃ p v, x = .ref p ∧ H p = none ∧ H' = upd H p (.tup [.int i, v]) ∧ ∀ xs, SqL K H a xs → xs[i]? = some v, fun i H => ∃ xs, SqL K H a xs ∧ xs.length ≤ i⟩
theorem turn_enum {P : Program} {w : World} {K : PySem.W.Frag} {es : List Expr} {k1 : Nat} {tp : Pos} (a it e : Addr) (hei : e ≠ it) :
    Turn P w K (.Tuple es k1 tp) (Ite K a) [e, it] e (fun i h => (∃ old, IsEnum h e it i old) ∧ h.IsListIter it a i) where
  mem := by simp
  obj := fun i h st b hb => by
    obtain ⟨⟨old, he⟩, hit⟩ := st
    rcases List.mem_cons.mp hb with rfl | hb
    · exact ⟨_, he, fun v z => nomatch z⟩
    · have e1 : b = it := by simpa using hb
      subst e1
      obtain ⟨o, e, c, d⟩ := hit
      exact ⟨o, e, fun v z => by rw [d] at z; cases z⟩
  keep := fun i h h' st k => by
    obtain ⟨⟨old, he⟩, hit⟩ := st
    exact ⟨⟨old, k e (by simp) _ he⟩, hit.at fun o e => k it (by simp) o e⟩
  item := by
    intro X hP hw hK hc i pins s σ H E I hf st hg
    subst hP hw hK
    obtain ⟨⟨old, he⟩, hit⟩ := st
    obtain ⟨xs, x, hq, hx⟩ := hg
    obtain ⟨its, rv, p, hz⟩ := I.list hq
    obtain ⟨u, hu, ru⟩ := rv.get hx
    obtain ⟨e0, e1, e2, e3, e4, e5⟩ := hf e (by simp)
    obtain ⟨f0, f1, f2, f3, f4, f5⟩ := hf it (by simp)
    refine wpAny_pyNext_enum_item he hit p.isList (x := u) (by simpa using hu) hei fun h' ho hit' hT hsz kk => ?_
    refine ⟨_, rfl, wpAny_letOwnedTupleGo_enum ho fun h2 he2 hs2 => ?_⟩
    have helt : e < s.heap.objs.size := Heap.lt_size he
    have hilt : it < s.heap.objs.size := by obtain ⟨_, x, _⟩ := hit; exact Heap.lt_size x
    -- both records turned, the tuple laid
    have I1 : Inv X pins σ (upd H s.heap.objs.size (.tup [.int i, x])) { s with heap := h2, toks := s.toks + 1 } := by
      have hn : H s.heap.objs.size = none := I.hok.fresh (Nat.le_refl _)
      have keep : ∀ b o, b ≠ e → b ≠ it → s.heap.get? b = some o → h2.get? b = some o := fun b o h1 h2' e' => (hs2.2 b h1).trans (kk b o h1 h2' e')
      have nb : ∀ b o, s.heap.get? b = some o → b ≠ s.heap.objs.size := fun b o e' => Nat.ne_of_lt (Heap.lt_size e')
      have tr : ∀ b u, H b = some u → b ≠ e ∧ b ≠ it := fun b u e' => ⟨fun z => (by rw [z, e0] at e'; cases e'), fun z => (by rw [z, f0] at e'; cases e')⟩
      refine I.step (g' := s.gens) (d' := s.drawn) (ch := [e, it]) (fun b hb => ?_) (fun b o _ _ hc e' _ => keep b o (fun z => hc (by simp [z])) (fun z => hc (by simp [z])) e') (fun b o _ _ hc e' _ => ⟨o.slots, keep b o (fun z => hc (by simp [z])) (fun z => hc (by simp [z])) e'⟩)
        (fun b o _ e' n => by rw [upd_ne (nb b o e')]; exact n) (fun b o hc e' => ⟨o, keep b o (fun z => hc (by simp [z])) (fun z => hc (by simp [z])) e'⟩) (fun b ys e' => by rw [upd_ne (ne_of_none e' hn)]; exact e') (fun b o v e' => by rw [upd_ne (ne_of_none e' hn)]; exact e')
        (fun b ps e' => ⟨#[], by rw [upd_ne (ne_of_none e' hn), e']; simp⟩) (fun m hm => ?_) (fun b v e' => ?_) I.bare
      · rcases List.mem_cons.mp hb with rfl | hb
        · exact ⟨e3, e1, e4, e5⟩
        · have e1' : b = it := by simpa using hb
          subst e1'
          exact ⟨f3, f1, f4, f5⟩
      · obtain ⟨o, es', ep, ho', r⟩ := hm
        exact ⟨o, es', ep, keep _ o (Ne.symm e1) (Ne.symm f1) ho', r⟩
      · by_cases hb : b = s.heap.objs.size
        · subst hb
          rw [upd_same] at e'; cases e'
          refine ⟨by show 2 ≤ sizeLine; decide, [.int i s.toks, u], .cons ⟨_, rfl⟩ (.cons ru .nil), ?_⟩
          exact ⟨_, (hs2.2 _ (Nat.ne_of_gt helt)).trans hT, rfl, 0, rfl⟩
        · rw [upd_ne hb] at e'
          refine (I.hok b v e').stay (fun c v' hc q => ?_) (fun c q => by rw [upd_ne (ne_of_none q hn)]; exact q) fun c ys q => by rw [upd_ne (ne_of_none q hn)]; exact q
          rcases hc with rfl | hc
          · exact keep c v' (tr c _ e').1 (tr c _ e').2 q
          · exact keep c v' (tr c _ hc).1 (tr c _ hc).2 q
    refine ⟨.ref s.heap.objs.size, _, I1, rfl, ⟨s.heap.objs.size, x, rfl, I.hok.fresh (Nat.le_refl _), rfl, fun ys hy => by rw [I.list_inj hy hq]; exact hx⟩, ⟨⟨_, by simpa using he2⟩, hit'.at fun o y => (hs2.2 it (Ne.symm hei)).trans y⟩, fun b hb => ?_⟩
    rcases List.mem_cons.mp hb with rfl | hb
    · rw [upd_ne (Nat.ne_of_lt helt)]; exact e0
    · have e1' : b = it := by simpa using hb
      subst e1'
      rw [upd_ne (Nat.ne_of_lt hilt)]; exact f0
  done := by
    intro X hP hw hK hc i pins s σ H E I hf st hg
    subst hP hw hK
    obtain ⟨⟨old, he⟩, hit⟩ := st
    obtain ⟨xs, hq, hx⟩ := hg
    obtain ⟨its, rv, p, hz⟩ := I.list hq
    obtain ⟨f0, f1, f2, f3, f4, f5⟩ := hf it (by simp)
    have hl := rv.length
    exact wpAny_pyNext_enum_end (I.ok.hd hc) he hit p.isList (by simp; (first | lia | omega)) fun h' eb => ⟨rfl, I.turned (t' := s.toks) (fun b o hb e => eb b o hb e) f0 f1 f3 f4 f5⟩
  self := fun _ _ _ _ _ st h => let ⟨⟨_, he⟩, _⟩ := st; wpAny_pyIter_enum he h
section
variable {X : Cx} {es : List Expr} {k1 : Nat} {tp : Pos}
def iEnum (K : PySem.W.Frag) (ta : TA) : TI := fun σ H R => ta σ H fun vs H1 => ∃ a, vs = [.ref a] ∧ (∃ xs, SqL K H1 a xs) ∧ R (Ite K a) H1
theorem pi_enum {a : Expr} {ta : TA} {p pos : Pos} (hg : Gl X "enumerate") (hm : X.mg "enumerate" = none) (ha : PA X [a] ta) (hs : starEach [a] X.env = [(false, eval a X.env)] := by rfl) : PI X (.Tuple es k1 tp) (.Call (.Name "enumerate" p) [a] [] pos) (iEnum X.K ta) := by
  intro pins s σ H R I h
  refine Call_ (ld_blt I hg hm boot_enumerate (PyProof.Rows.callWith_type1 (thn (ha pos pins s σ H _ I h) fun us s1 hPz => ?_) hs rfl)); obtain ⟨vs, H1, I1, r1, q1⟩ := hPz
  obtain ⟨l, e, ⟨xs, hq⟩, q⟩ := q1
  subst e
  obtain ⟨u, rfl, ru⟩ := r1.one
  cases ru
  obtain ⟨its, rv, p, hz⟩ := I1.list hq
  refine call_enumerate_list p.isList fun h' he hit hsz kk => ?_
  refine wpAny_pyIter_enum he ?_
  have hel : s1.heap.objs.size ≤ s1.heap.objs.size + 1 := Nat.le_succ _
  refine ⟨s1.heap.objs.size + 1, [s1.heap.objs.size + 1, s1.heap.objs.size], _, _, H1, rfl, I1.kept (t' := s1.toks) kk, turn_enum l s1.heap.objs.size (s1.heap.objs.size + 1) (Nat.succ_ne_self _), ⟨⟨_, he⟩, hit⟩, fun b hb => ?_, q⟩
  rcases List.mem_cons.mp hb with rfl | hb
  · exact I1.fpOk hel (I1.hok.fresh hel)
  · have e : b = s1.heap.objs.size := by simpa using hb
    subst e
    exact I1.fpOk (Nat.le_refl _) (I1.hok.fresh (Nat.le_refl _))
end

theorem comp_enum {K : PySem.W.Frag} {a : Addr} {xs : List V} {src : List (Option Nat)} {g : TG} {tt : TT} {te : TE} {Q : VK} {σ : St} {H1 : Hp} {D : Addr} (Pv : Nat → St → Hp → Prop) (h0 : Pv 0 (capOf src σ) (upd H1 D (.lst [])))
    (hl : ∀ i σ1 H2, i ≤ xs.length → Pv i σ1 H2 → SqL K H2 a xs)
    (hs : ∀ i x p σ1 H2, xs[i]? = some x → H2 p = none → Pv i σ1 H2 → g (.ref p) σ1 (upd H2 p (.tup [.int i, x])) fun σ4 H4 => tt σ4 H4 fun b H5 =>
      if b = true then te σ4 H5 fun y H6 => ∃ zs, H6 D = some (.lst zs) ∧ zs.length < sizeLine ∧ Pv (i + 1) σ4 (upd H6 D (.lst (zs ++ [y]))) else Pv (i + 1) σ4 H5)
    (hd : ∀ σ1 H2, Pv xs.length σ1 H2 → Q (.ref D) H2) :
    CompW (Ite K a) src g tt te Q σ H1 D := by
  refine ⟨fun i m σ H => m = xs.length - i ∧ i ≤ xs.length ∧ Pv i σ H, ⟨xs.length, by simp, Nat.zero_le _, h0⟩, ?_⟩
  rintro i m σ1 H2 ⟨rfl, hi, p⟩
  have q := hl i σ1 H2 hi p
  by_cases hlt : i < xs.length
  · refine .inr ⟨⟨xs, xs[i], q, by simp [hlt]⟩, Pv (i + 1), fun σ' H' p' => ⟨xs.length - (i + 1), by (first | lia | omega), rfl, hlt, p'⟩, fun x H' y => ?_⟩
    obtain ⟨pp, v, e1, hn, e2, y⟩ := y
    subst e1 e2
    exact hs i v pp σ1 _ (y xs q) hn p
  · have e : i = xs.length := by (first | lia | omega)
    subst e
    exact .inl ⟨⟨xs, q, Nat.le_refl _⟩, hd σ1 H2 p⟩

/-! ### min(xs), max(xs) of a list of ints -/
theorem ints_of_vals : ∀ {ns : List Int} {vs : List Value}, Vals (ns.map V.int) vs → IntsAre vs ns
  | [], _, .nil => .nil
  | n :: ns, _, .cons ⟨t, e⟩ r => by subst e; exact .cons n t (ints_of_vals r)
section
variable {X : Cx}
end

/-! ### a value as data -/
mutual
inductive Dt (K : PySem.W.Frag) (H : Hp) : V → PyData → Prop
  | non : Dt K H .non .none
  | bl (b : Bool) : Dt K H (.bl b) (.bool b)
  | int (i : Int) : Dt K H (.int i) (.int i)
  | str (x : Str) : Dt K H (.str x) (.str x)
  | lst {a : Addr} {xs : List V} {ds : List PyData} : SqL K H a xs → Dts K H xs ds → Dt K H (.ref a) (.list ds)
  | tup {a : Addr} {xs : List V} {ds : List PyData} : SqT K H a xs → Dts K H xs ds → Dt K H (.ref a) (.tuple ds)
inductive Dts (K : PySem.W.Frag) (H : Hp) : List V → List PyData → Prop
  | nil : Dts K H [] []
  | cons {x : V} {d : PyData} {xs : List V} {ds : List PyData} : Dt K H x d → Dts K H xs ds → Dts K H (x :: xs) (d :: ds)
end
theorem dts_ints {K : PySem.W.Frag} {H : Hp} : ∀ (ns : List Int), Dts K H (ns.map V.int) (ns.map PyData.int)
  | [] => .nil
  | n :: ns => .cons (.int n) (dts_ints ns)
section
variable {X : Cx} {pins : List (Addr × Obj)} {σ : St} {H : Hp} {s : Shared}
mutual
theorem Dt.reads (I : Inv X pins σ H s) : ∀ {v : V} {d : PyData} {u : Value}, Dt X.K H v d → RelV v u → ∃ as, Reads s.heap u d as
  | _, _, _, .non, r => by cases r; exact ⟨_, .none⟩
  | _, _, _, .bl b, r => by cases r; exact ⟨_, .bool b⟩
  | _, _, _, .int i, r => by obtain ⟨t, rfl⟩ := r; exact ⟨_, .int i t⟩
  | _, _, _, .str x, r => by obtain ⟨t, rfl⟩ := r; exact ⟨_, .str x t⟩
  | _, _, _, .lst hq hd, r => by
    cases r
    obtain ⟨its, rv, ⟨o, n, e, c, _, d⟩, _⟩ := I.list hq
    obtain ⟨as, q⟩ := Dts.reads I hd rv
    exact ⟨_, .list e c d (by simpa using q)⟩
  | _, _, _, .tup hq hd, r => by
    cases r
    obtain ⟨its, rv, ⟨o, e, c, n, d⟩, _⟩ := I.tuple hq
    obtain ⟨as, q⟩ := Dts.reads I hd rv
    exact ⟨_, .tuple e c d (by simpa using q)⟩
theorem Dts.reads (I : Inv X pins σ H s) : ∀ {vs : List V} {ds : List PyData} {us : List Value}, Dts X.K H vs ds → Vals vs us → ∃ as, ReadsAll s.heap us ds as
  | _, _, _, .nil, r => by cases r; exact ⟨_, .nil⟩
  | _, _, _, .cons hd hr, r => by
    cases r with
    | cons r1 r2 =>
      obtain ⟨as, q⟩ := Dt.reads I hd r1
      obtain ⟨bs, q2⟩ := Dts.reads I hr r2
      exact ⟨_, .cons q q2⟩
end
/-- == and != of data -/
def rEqD (K : PySem.W.Frag) (neg : Bool) : R2 := fun x y H Q => ∃ dx dy, Dt K H x dx ∧ Dt K H y dy ∧ dx.canLay0 = true ∧ dy.canLay0 = true ∧ min dx.depth dy.depth ≤ 60 ∧ Q (.bl (if neg then !PyData.eqv dx dy else PyData.eqv dx dy)) H
theorem op_eqD (hu : X.A.units + 60 < cLine) : OpR X (compareOp .Eq) (rEqD X.K false) := by
  intro pins s σ H x y v u Q I rx ry h
  obtain ⟨dx, dy, hx, hy, cx, cy, hd, q⟩ := h
  obtain ⟨as, ra⟩ := Dt.reads I hx rx
  obtain ⟨bs, rb⟩ := Dt.reads I hy ry
  exact SeqAt.compareEq_reads ra rb cx cy (by (first | lia | omega)) ⟨.bl _, H, I, rfl, q⟩
theorem op_neD (hu : X.A.units + 60 < cLine) : OpR X (compareOp .NotEq) (rEqD X.K true) := by
  intro pins s σ H x y v u Q I rx ry h
  obtain ⟨dx, dy, hx, hy, cx, cy, hd, q⟩ := h
  obtain ⟨as, ra⟩ := Dt.reads I hx rx
  obtain ⟨bs, rb⟩ := Dt.reads I hy ry
  exact SeqAt.compareNe_reads ra rb cx cy (by (first | lia | omega)) ⟨.bl _, H, I, rfl, q⟩
end
theorem can_ints : ∀ (ns : List Int), PyData.canLayAll0 (ns.map PyData.int) = true
  | [] => by simp [PyData.canLayAll0]
  | n :: ns => by rw [List.map_cons, PyData.canLayAll0, can_ints ns]; simp [PyData.canLay0]

/-! ### isinstance(x, C) -/
section
variable {X : Cx} {x : Str} {p pos np : Pos} {e : Expr} {te : TE} {c : Value}
/-- what a value's class is: built-in kinds, own instances, exceptions -/
inductive TyX (K : PySem.W.Frag) (H : Hp) : V → Value → Prop where
  | of {v : V} {t : Value} : TyOf K H v t → TyX K H v t
  | exc {ea C : Addr} : H ea = some (.ext (excAt ea C)) → ECls K C → TyX K H (.ref ea) (.ref C)
theorem isi_ok {pins : List (Addr × Obj)} {σ : St} {H : Hp} {s : Shared} {v : V} {u t : Value} {b : Bool} {Q : Value → Shared → Prop} {A : Around} {E : Value → Shared → Prop} (I : Inv X pins σ H s) (r : RelV v u) (ty : TyX X.K H v t) (e : PySem.W.kitOne X.K t c = some b) (h : ∀ tk, Q (.bool b) { s with toks := tk }) :
    wpAny (model X.prog X.w) A (call (.builtin "isinstance") [u, c]) Q E s := by
  cases ty with
  | of ty => exact isinst_ok I r ty e h
  | @exc ea C hH hc =>
    cases r
    obtain ⟨hx, _, _⟩ := (show ObjOk X.prog X.w H s.heap ea (.ext (excAt ea C)) from I.hok ea _ hH)
    exact PySem.W.kia_one (kitx_exc hc) I.kIn hx e (fun z => nomatch z) h
def clsV : V → Value
  | .ref a => .ref a
  | .ty n => .type n
  | _ => .none
theorem call_isi : CallR X (.builtin "isinstance") (fun xs H Q => ∃ v cV t b, xs = [v, cV] ∧ TyX X.K H v t ∧ clsV cV ≠ .none ∧ PySem.W.kitOne X.K t (clsV cV) = some b ∧ Q (.bl b) H) := by
  intro pins s σ H xs us Q I r h
  obtain ⟨v, cV, t, b, rfl, ty, nc, ek, q⟩ := h
  obtain ⟨u1, u2, rfl, ru, rc⟩ := r.two
  have ec : u2 = clsV cV := by
    cases cV with
    | ref a => exact rc
    | ty n => exact rc
    | _ => exact absurd rfl nc
  subst ec
  exact isi_ok I ru ty ek fun tk => ⟨.bl b, H, I.tok _, rfl, q⟩
theorem call_isiB {K : PySem.W.Frag} (hK : X.K = K) : CallR X (.builtin "isinstance") (fun xs H Q => ∃ v cV t b, xs = [v, cV] ∧ TyX K H v t ∧ clsV cV ≠ .none ∧ PySem.W.kitOne K t (clsV cV) = some b ∧ Q (.bl b) H) := by subst hK; exact call_isi
end
end L2

set_option Elab.async false
set_option linter.all false
set_option maxRecDepth 100000
set_option maxHeartbeats 4000000
/-! xs.index(v); min of a list of pairs; sorted of ints. -/
namespace L2
open PySem PySem.Spec PyProof.Rows

/-! ### xs.index(v), flat items -/
def rIndex (K : PySem.W.Frag) : V → List V → Hp → VK → Prop := fun x vs H Q => ∃ l xs y j, x = .ref l ∧ vs = [y] ∧ SqL K H l xs ∧ flatV y = true ∧ xs.all flatV = true ∧ j < xs.length ∧ (∀ z, xs[j]? = some z → eqV z y = true) ∧ (∀ (m : Nat) z, m < j → xs[m]? = some z → eqV z y = false) ∧ Q (.int (j : Nat)) H
theorem vals_at : ∀ {xs : List V} {us : List Value} {i : Nat} {u : Value}, Vals xs us → us[i]? = some u → ∃ x, xs[i]? = some x ∧ RelV x u
  | _, _, i, u, .nil, h => by cases i <;> cases h
  | x :: xs, v :: us, 0, u, .cons r t, h => ⟨x, rfl, by cases h; exact r⟩
  | x :: xs, v :: us, i + 1, u, .cons r t, h => by
    have := vals_at (xs := xs) (us := us) (i := i) (u := u) t (by simpa using h)
    simpa using this
theorem flat_at {xs : List V} {i : Nat} {x : V} (f : xs.all flatV = true) (h : xs[i]? = some x) : flatV x = true := List.all_eq_true.mp f x (List.mem_of_getElem? h)
theorem mt_index {X : Cx} : MtM X "list.index" (rIndex X.K) := by
  intro pins s σ H x vs v us Q I rx rv h
  obtain ⟨l, xs, y, j, rfl, rfl, hq, fy, fx, hj, h1, h2, q⟩ := h
  cases rx
  obtain ⟨u, rfl, ru⟩ := rv.one
  obtain ⟨its, r, pl, hz⟩ := I.list hq
  obtain ⟨⟨c, dd, da, sl⟩, n, e, hc, hd, hda⟩ := pl
  simp only at hc hd hda
  subst hc hd hda
  have hlen := r.length
  have hn := line63
  have hji : j < its.toArray.size := by rw [List.size_toArray]; (first | lia | omega)
  refine call_meets PySem.F.slot_list_index ⟨_, e, rfl⟩ PySem.F.entry_list_index (PySem.F.args_list_index_2 _ _) (SeqAt.list_indexAt l its.toArray n none sl u (eqU y) j hji (by (first | lia | omega)) ?_ ?_)
    ⟨e, fun w hw => mem_eqAt ru fy r fx w (by simpa using hw), ⟨.int j, H, I.tok _, ⟨_, rfl⟩, q⟩⟩
  · obtain ⟨z, hz1, rz⟩ := vals_at r (i := j) (u := its.toArray[j]) (by simp)
    rw [eqU_of rz (flat_at fx hz1)]
    exact h1 z hz1
  · intro m hm hmj
    obtain ⟨z, hz1, rz⟩ := vals_at r (i := m) (u := its.toArray[m]) (by simp)
    rw [eqU_of rz (flat_at fx hz1)]
    exact h2 m z hmj hz1

/-! ### min(xs) where the items are compared by what the heap holds -/
section
variable {prog : Program} {w : World} {A : Around} {R : Result → Shared → Prop} {I S : Addr} {fp wr : List Addr} {n : Nat} {P : Nat → Value → Prop} {St : Nat → Heap → Prop} {bt : Nat → Nat → Bool} {G : Heap → Prop}
/-- the items' order, over the heaps G -/
def CmpG (prog : Program) (w : World) (A : Around) (P : Nat → Value → Prop) (G : Heap → Prop) (bt : Nat → Nat → Bool) : Prop :=
  ∀ i j vi vj (s : Shared) (Q : Value → Shared → Prop) (E : Value → Shared → Prop), G s.heap → P i vi → P j vj → Q (.bool (bt i j)) s → wpAny (model prog w) A (richCompare .Lt vi vj) Q E s
def bestAt (S : Addr) (vb : Value) (h : Heap) : Prop := ∃ c, h.get? S = some { cls := .type "list", dict := none, data := .seq #[vb, vb] c, slots := #[] }
theorem min_turns (W : Walks prog w A.in1 I fp wr n P St) (hc : CmpG prog w A.in1 P G bt) (hSf : S ∉ fp) (gk : ∀ h h' : Heap, G h → (∀ b o, b ∉ wr → b ≠ S → h.get? b = some o → h'.get? b = some o) → G h') :
    ∀ (k j : Nat) (s : Shared) (vb : Value), n - (j + 1) = k → j + 1 ≤ n → G s.heap → St (j + 1) s.heap → P (argBest bt j) vb → bestAt S vb s.heap →
    (∀ v h' tk, P (argBest bt (n - 1)) v → (∀ b o, b ∉ wr → b ≠ S → s.heap.get? b = some o → h'.get? b = some o) → R (.ok (.ret v)) { s with heap := h', toks := tk }) →
    codeAny (model prog w) A (.builtin "min.loop" ⟨[.ref I, .none, .ref S], []⟩) R s := by
  have hw : S ∉ wr := fun z => hSf (W.sub S z)
  have nm : (toString "min" ++ toString ".loop" : String) = "min.loop" := by decide
  intro k
  induction k with
  | zero =>
    rintro j s vb hk hj hg st pb ⟨c, hS⟩ fin
    have e : j + 1 = n := by (first | lia | omega)
    subst e
    refine codeAny_builtin PySem.F.entry_min_loop ?_; rw [Around.under_plainId PySem.F.plain_min_loop _]
    show wpAny _ A.in1 (seqItems? (.ref S) >>= _) _ _ _; refine wpAny_bind (wpAny_seqItems hS rfl ?_)
    show wpAny _ A.in1 (tryCatch (pyNext (.ref I)) _ >>= _) _ _ _; refine wpAny_bind (wpAny_tryCatch (W.done s _ _ st fun h1 tk k1 => ?_))
    show wpAny _ A.in1 (updateSeq S (fun _ => #[]) >>= _) _ _ _; refine wpAny_bind (wpAny_updateSeq (k1 S _ hw hS) rfl (wpAny_bind (wpAny_letGo (wpAny_pure ?_))))
    exact fin vb _ tk pb fun b o h1' h2' q => (Heap.get?_update_other _ _ (Ne.symm h2')).trans (k1 b o h1' q)
  | succ k ih =>
    rintro j s vb hk hj hg st pb ⟨c, hS⟩ fin
    have hlt : j + 1 < n := by (first | lia | omega)
    refine codeAny_builtin PySem.F.entry_min_loop ?_; rw [Around.under_plainId PySem.F.plain_min_loop _]
    show wpAny _ A.in1 (seqItems? (.ref S) >>= _) _ _ _; refine wpAny_bind (wpAny_seqItems hS rfl ?_)
    show wpAny _ A.in1 (tryCatch (pyNext (.ref I)) _ >>= _) _ _ _; refine wpAny_bind (wpAny_tryCatch (W.item (j + 1) s _ _ hlt st fun v h1 tk pv st1 k1 => ?_))
    have hg1 : G h1 := gk _ _ hg fun b o hb _ q => k1 b o hb q
    have hS1 := k1 S _ hw hS
    show wpAny _ A.in1 (tryCatch (holding [v, v] (richCompare .Lt v vb >>= _)) _ >>= _) _ _ _; refine wpAny_bind (wpAny_tryCatch (wpAny_holding (wpAny_bind (hc (j + 1) (argBest bt j) v vb _ _ _ hg1 pv pb ?_))))
    refine wpAny_bind (wpAny_holding (wpAny_truthy_bool (wpAny_bind (wpAny_letGo (wpAny_pure ?_)))))
    cases hb : bt (j + 1) (argBest bt j) with
    | true =>
      simp only [if_true]
      refine wpAny_bind (wpAny_updateSeq hS1 rfl (wpAny_bind (wpAny_letGo ?_)))
      rw [nm]
      have kk : ∀ b o, b ∉ wr → b ≠ S → s.heap.get? b = some o → (h1.update S (Obj.mapSeq fun _ => #[v, v])).get? b = some o := fun b o x1 x2 q => (Heap.get?_update_other _ _ (Ne.symm x2)).trans (k1 b o x1 q)
      refine wpAny_pure ⟨plainId_quiet PySem.F.plain_min_loop _, ih (j + 1) _ v (by (first | lia | omega)) hlt (gk _ _ hg kk) (W.frame _ _ _ st1 fun b hbf o q => ?_) (by simp only [argBest, hb, if_true]; exact pv) ⟨_, Heap.get?_update_self _ hS1 rfl⟩ fun v' h'' tk'' p' k'' => ?_⟩
      · exact (Heap.get?_update_other _ _ (fun z : S = b => hSf (by rw [z]; exact hbf))).trans q
      · exact fin v' h'' tk'' p' fun b o x1 x2 q => k'' b o x1 x2 (kk b o x1 x2 q)
    | false =>
      simp only [Bool.false_eq_true, if_false]
      refine wpAny_bind (wpAny_letGo ?_)
      rw [nm]
      refine wpAny_pure ⟨plainId_quiet PySem.F.plain_min_loop _, ih (j + 1) _ vb (by (first | lia | omega)) hlt hg1 st1 (by simp only [argBest, hb, Bool.false_eq_true, if_false]; exact pb) ⟨c, hS1⟩ fun v' h'' tk'' p' k'' => ?_⟩
      exact fin v' h'' tk'' p' fun b o x1 x2 q => k'' b o x1 x2 (k1 b o x1 q)
theorem min_starts (W : Walks prog w A.in1 I fp wr n P St) (hc : CmpG prog w A.in1 P G bt) (hSf : S ∉ fp) (gk : ∀ h h' : Heap, G h → (∀ b o, b ∉ wr → b ≠ S → h.get? b = some o → h'.get? b = some o) → G h') (hn : 0 < n) {s : Shared} {c : Nat}
    (hg : G s.heap) (st : St 0 s.heap) (hS : s.heap.get? S = some { cls := .type "list", dict := none, data := .seq #[] c, slots := #[] })
    (fin : ∀ v h' tk, P (argBest bt (n - 1)) v → (∀ b o, b ∉ wr → b ≠ S → s.heap.get? b = some o → h'.get? b = some o) → R (.ok (.ret v)) { s with heap := h', toks := tk }) :
    codeAny (model prog w) A (.builtin "min.loop" ⟨[.ref I, .none, .ref S], []⟩) R s := by
  have hw : S ∉ wr := fun z => hSf (W.sub S z)
  have nm : (toString "min" ++ toString ".loop" : String) = "min.loop" := by decide
  refine codeAny_builtin PySem.F.entry_min_loop ?_; rw [Around.under_plainId PySem.F.plain_min_loop _]
  show wpAny _ A.in1 (seqItems? (.ref S) >>= _) _ _ _; refine wpAny_bind (wpAny_seqItems hS rfl ?_)
  show wpAny _ A.in1 (tryCatch (pyNext (.ref I)) _ >>= _) _ _ _; refine wpAny_bind (wpAny_tryCatch (W.item 0 s _ _ hn st fun v h1 tk pv st1 k1 => ?_))
  have hS1 := k1 S _ hw hS
  show wpAny _ A.in1 (updateSeq S (fun _ => #[v, v]) >>= _) _ _ _; refine wpAny_bind (wpAny_updateSeq hS1 rfl ?_)
  rw [nm]
  have kk : ∀ b o, b ∉ wr → b ≠ S → s.heap.get? b = some o → (h1.update S (Obj.mapSeq fun _ => #[v, v])).get? b = some o := fun b o x1 x2 q => (Heap.get?_update_other _ _ (Ne.symm x2)).trans (k1 b o x1 q)
  refine wpAny_pure ⟨plainId_quiet PySem.F.plain_min_loop _, min_turns W hc hSf gk _ 0 _ v rfl hn (gk _ _ hg kk) (W.frame _ _ _ st1 fun b hbf o q => ?_) pv ⟨_, Heap.get?_update_self _ hS1 rfl⟩ fun v' h'' tk'' p' k'' => ?_⟩
  · exact (Heap.get?_update_other _ _ (fun z : S = b => hSf (by rw [z]; exact hbf))).trans q
  · exact fin v' h'' tk'' p' fun b o x1 x2 q => k'' b o x1 x2 (kk b o x1 x2 q)
end
/-- min of the list at l: by the order bt of the places -/
theorem call_min_list {prog : Program} {w : World} {A : Around} {E : Value → Shared → Prop} {s : Shared} {l : Addr} {vs : Array Value} {bt : Nat → Nat → Bool} {Q : Value → Shared → Prop} (hh : A.handled = none) (hl : s.heap.IsList l vs) (hne : 0 < vs.size)
    (hc : ∀ (h0 : Heap), (∀ b o, s.heap.get? b = some o → h0.get? b = some o) → ∀ i j vi vj (s' : Shared) (Q : Value → Shared → Prop) (E : Value → Shared → Prop), s'.heap = h0 → vs[i]? = some vi → vs[j]? = some vj → Q (.bool (bt i j)) s' → wpAny (model prog w) A.in1 (richCompare .Lt vi vj) Q E s')
    (h : ∀ v h' tk, vs[argBest bt (vs.size - 1)]? = some v → (∀ b o, s.heap.get? b = some o → h'.get? b = some o) → Q v { s with heap := h', toks := tk }) :
    wpAny (model prog w) A (call (.builtin "min") [.ref l]) Q E s := by
  have nm : (toString "min" ++ toString ".loop" : String) = "min.loop" := by decide
  have hlt : (l : Nat) < s.heap.objs.size := by obtain ⟨_, e, _⟩ := hl; exact Heap.lt_size e
  refine call_function_tree PySem.F.kind_min PySem.F.plain_min PySem.F.entry_min (PySem.F.args_min1 _) ?_
  show wpAny _ A.in1 (Builtin.Builtins.bindParams "min" ["key", "default"] 0 ⟨[], []⟩ >>= _) _ _ _
  refine wpAny_bind (wpAny_of_eq (show Builtin.Builtins.bindParams "min" ["key", "default"] 0 ⟨[], []⟩ = pure [none, none] from rfl) (wpAny_bind (wpAny_pure ?_)))
  refine wpAny_bind (wpAny_pyIter_list hl (wpAny_bind (wpAny_newObj_type ?_)))
  rw [nm]
  have e1 : ∀ b o, s.heap.get? b = some o → (s.heap.push { cls := .type "list_iterator", data := .fields #[.ref l, .int 0 0] }).get? b = some o := fun b o q => Heap.get?_push_of_some _ q
  have hsz : (s.heap.push { cls := .type "list_iterator", data := .fields #[.ref l, .int 0 0] }).objs.size = s.heap.objs.size + 1 := Heap.size_push ..
  refine wpAny_pure ⟨plainId_quiet PySem.F.plain_min_loop _, min_starts (G := fun h0 => ∀ b o, s.heap.get? b = some o → h0.get? b = some o) (S := (s.heap.push { cls := .type "list_iterator", data := .fields #[.ref l, .int 0 0] }).objs.size)
    (Walks.list (A := A.in1) hh s.heap.objs.size l (Nat.ne_of_lt hlt) vs) (fun i j vi vj s' Q E g p1 p2 q => hc s'.heap g i j vi vj s' Q E rfl p1 p2 q) ?_ ?_ hne ?_ ⟨?_, ?_⟩ (Heap.get?_push_size _ rfl) ?_⟩
  · intro z
    rw [hsz] at z
    rcases List.mem_cons.mp z with z | z
    · have z : (_ : Nat) = (_ : Nat) := z; (first | lia | omega)
    · rcases List.mem_cons.mp z with z | z
      · have z : (_ : Nat) = (_ : Nat) := z; have hl2 : (_ : Nat) < (_ : Nat) := hlt; (first | lia | omega)
      · cases z
  · intro h0 h1 g k b o q
    refine k b o (fun z => ?_) (fun z => ?_) (g b o q)
    · have : (_ : Nat) < (_ : Nat) := Heap.lt_size q
      rcases List.mem_cons.mp z with z | z
      · have z : (_ : Nat) = (_ : Nat) := z; (first | lia | omega)
      · cases z
    · have : (_ : Nat) < (_ : Nat) := Heap.lt_size q
      rw [hsz] at z
      have z : (_ : Nat) = (_ : Nat) := z; (first | lia | omega)
  · exact fun b o q => Heap.get?_push_of_some _ (e1 b o q)
  · exact ⟨_, Heap.get?_push_of_some _ (Heap.get?_push_size _ rfl), rfl, rfl⟩
  · exact (hl.push _).push _
  · intro v h' tk p k
    refine h v h' tk p fun b o q => k b o (fun z => ?_) (fun z => ?_) (Heap.get?_push_of_some _ (e1 b o q))
    · have : (_ : Nat) < (_ : Nat) := Heap.lt_size q
      rcases List.mem_cons.mp z with z | z
      · have z : (_ : Nat) = (_ : Nat) := z; (first | lia | omega)
      · cases z
    · have : (_ : Nat) < (_ : Nat) := Heap.lt_size q
      rw [hsz] at z
      have z : (_ : Nat) = (_ : Nat) := z; (first | lia | omega)
/-- pairs of ints, by the first, then by the second -/
def pLt (a b : Int × Int) : Bool := decide (a.1 < b.1) || (decide (a.1 = b.1) && decide (a.2 < b.2))
def pL (a : Int × Int) : List Int := [a.1, a.2]
theorem lex_p (a b : Int × Int) : HT.lexLt (pL a) (pL b) = pLt a b := by
  unfold pL pLt
  rw [HT.lexLt_cons, HT.lexLt_cons, HT.lexLt_nil_nil]
  by_cases h : a.1 = b.1
  · rw [if_pos h]
    by_cases h2 : a.2 = b.2
    · rw [if_pos h2]; simp [h, h2]
    · rw [if_neg h2]; simp [h]
  · rw [if_neg h]; simp [h]
theorem pLt_iff (a b : Int × Int) : pLt a b = true ↔ a.1 < b.1 ∨ (a.1 = b.1 ∧ a.2 < b.2) := by
  unfold pLt
  simp
theorem pLt_not (a b : Int × Int) : pLt a b = false ↔ b.1 < a.1 ∨ (a.1 = b.1 ∧ b.2 ≤ a.2) := by
  rw [Bool.eq_false_iff, Ne, pLt_iff]
  (first | lia | omega)
theorem best_p (f : Nat → Int × Int) : ∀ k, argBest (fun i j => pLt (f i) (f j)) k ≤ k ∧ ∀ j, j ≤ k → pLt (f j) (f (argBest (fun i j => pLt (f i) (f j)) k)) = false
  | 0 => ⟨Nat.le_refl _, fun j hj => by
      have e : j = 0 := by (first | lia | omega)
      subst e
      rw [pLt_not]; exact .inr ⟨rfl, Int.le_refl _⟩⟩
  | k + 1 => by
    obtain ⟨h1, h2⟩ := best_p f k
    simp only [argBest]
    by_cases hb : pLt (f (k + 1)) (f (argBest (fun i j => pLt (f i) (f j)) k)) = true
    · rw [if_pos hb]
      refine ⟨Nat.le_refl _, fun j hj => ?_⟩
      by_cases e : j = k + 1
      · subst e; rw [pLt_not]; exact .inr ⟨rfl, Int.le_refl _⟩
      · have := h2 j (by (first | lia | omega))
        rw [pLt_not] at this ⊢
        rw [pLt_iff] at hb
        (first | lia | omega)
    · rw [if_neg hb]
      refine ⟨by (first | lia | omega), fun j hj => ?_⟩
      by_cases e : j = k + 1
      · subst e; exact Bool.eq_false_iff.mpr hb
      · exact h2 j (by (first | lia | omega))
/-- the list at p holds refs to the pairs ps -/
def PairsAt (K : PySem.W.Frag) (H : Hp) (ts : List Addr) (ps : List (Int × Int)) : Prop := ts.length = ps.length ∧ ∀ (i : Nat) a m, ts[i]? = some a → ps[i]? = some m → H a = some (.tup [.int m.1, .int m.2])
theorem call_minT {X : Cx} (hc : X.calm = true) (hu : X.A.units + 60 < cLine) : CallR X (.builtin "min") (fun xs H Q => ∃ (p : Addr) (ts : List Addr) (ps : List (Int × Int)), xs = [.ref p] ∧ SqL X.K H p (ts.map V.ref) ∧ PairsAt X.K H ts ps ∧ ts ≠ [] ∧
    ∀ (i : Nat) (a : Addr) (m : Int × Int), ts[i]? = some a → ps[i]? = some m → (∀ m' ∈ ps, pLt m' m = false) → Q (.ref a) H) := by
  intro pins s σ H xs us Q I r h
  obtain ⟨p, ts, ps, rfl, hq, ⟨hlen, hp⟩, hne, q⟩ := h
  obtain ⟨u, rfl, ru⟩ := r.one
  cases ru
  obtain ⟨its, rv, pl, hz⟩ := I.list hq
  have hit : its.length = ts.length := by rw [← rv.length, List.length_map]
  have hpos : 0 < ts.length := List.length_pos_iff.mpr hne
  have item : ∀ (i : Nat) v, its.toArray[i]? = some v → ∃ a m, v = .ref a ∧ ts[i]? = some a ∧ ps[i]? = some m := fun i v e => by
    have e : its[i]? = some v := by simpa using e
    obtain ⟨x, hx, rx⟩ := vals_at rv e
    rw [List.getElem?_map] at hx
    cases ha : ts[i]? with
    | none => rw [ha] at hx; cases hx
    | some a =>
      rw [ha] at hx
      cases hx
      have hi : i < ps.length := by rw [← hlen]; exact (List.getElem?_eq_some_iff.mp ha).1
      exact ⟨a, ps[i], rx, rfl, List.getElem?_eq_getElem hi⟩
  refine call_min_list (bt := fun i j => pLt (ps.getD i (0, 0)) (ps.getD j (0, 0))) (I.ok.hd hc) pl.isList (by rw [List.size_toArray]; (first | lia | omega)) ?_ fun v h' tk hv hk => ?_
  · intro h0 k0 i j vi vj s' Q' E' e0 h1 h2 q'
    obtain ⟨a, m, rfl, ha, hm⟩ := item i vi h1
    obtain ⟨b, m2, rfl, hb, hm2⟩ := item j vj h2
    obtain ⟨_, ia, ra, ta⟩ := I.hok a _ (hp i a m ha hm)
    obtain ⟨_, ib, rb, tb⟩ := I.hok b _ (hp j b m2 hb hm2)
    have kt : ∀ {x : Addr} {z : Array Value}, IsTup s.heap x z → IsTup s'.heap x z := fun ⟨o, e, r⟩ => ⟨o, by rw [e0]; exact k0 _ _ e, r⟩
    have c1 : IntsAre ia.toArray.toList (pL m) := intsAre_of ra
    have c2 : IntsAre ib.toArray.toList (pL m2) := intsAre_of rb
    refine HT.lt_tupInts (kt ta) (kt tb) c1 c2 (show X.A.units + 1 < cLine by (first | lia | omega)) ?_
    rw [lex_p]
    simp only [List.getD, hm, hm2, Option.getD_some] at q'
    exact q'
  · obtain ⟨h1, h2⟩ := best_p (fun i => ps.getD i (0, 0)) (its.toArray.size - 1)
    obtain ⟨a, m, rfl, ha, hm⟩ := item _ v hv
    refine ⟨.ref a, H, I.kept (t' := tk) hk, rfl, q _ a m ha hm fun m' hm' => ?_⟩
    obtain ⟨j, hj, e⟩ := List.mem_iff_getElem.mp hm'
    have h3 : pLt (ps.getD j (0, 0)) (ps.getD _ (0, 0)) = false := h2 j (by rw [List.size_toArray]; (first | lia | omega))
    have e1 : ps.getD j (0, 0) = m' := by simp [List.getD, List.getElem?_eq_getElem hj, e]
    have e2 : ps.getD (argBest (fun i j => pLt (ps.getD i (0, 0)) (ps.getD j (0, 0))) (its.toArray.size - 1)) (0, 0) = m := by rw [List.getD_eq_getElem?_getD, hm]; rfl
    rw [e1, e2] at h3
    exact h3

/-! ### sorted(xs) of ints -/
theorem vals_of_ints : ∀ {vs : List Value} {ns : List Int}, IntsAre vs ns → Vals (ns.map V.int) vs
  | _, _, .nil => .nil
  | _, _, .cons n t r => .cons ⟨t, rfl⟩ (vals_of_ints r)
theorem call_sortedI {X : Cx} : CallR X (.builtin "sorted") (fun xs H Q => ∃ (p : Addr) (ns : List Int), xs = [.ref p] ∧ SqL X.K H p (ns.map V.int) ∧ ns.length < 64 ∧ ∀ (l : Addr) (ms : List Int), H l = none → ms.Perm ns → ms.Pairwise (· ≤ ·) → Q (.ref l) (upd H l (.lst (ms.map V.int)))) := by
  intro pins s σ H xs us Q I r h
  obtain ⟨p, ns, rfl, hq, h64, q⟩ := h
  obtain ⟨u, rfl, ru⟩ := r.one
  cases ru
  obtain ⟨its, rv, pl, hz⟩ := I.list hq
  have hi := ints_of_vals rv
  have hl : its.length = ns.length := by rw [← rv.length, List.length_map]
  refine sorted_ints pl.isList hi (by (first | lia | omega)) fun out ms a1 a2 a3 => ?_
  obtain ⟨e, he⟩ := sortedAll_at s.heap its out
  have hsl : (64 : Nat) ≤ sizeLine := by decide
  refine ⟨.ref (s.heap.objs.size + 1), _, I.laid (t' := s.toks) (o := .lst (ms.map V.int)) (fun b o q => sortedAll_old q) (Nat.le_succ _) ⟨by rw [List.length_map, a2.length_eq]; (first | lia | omega), out.toList, e, vals_of_ints a1, ?_⟩, rfl, q _ ms (I.hok.fresh (Nat.le_succ _)) a2 a3⟩
  rw [he, Array.toArray_toList]
end L2

set_option Elab.async false
set_option linter.all false
set_option maxRecDepth 100000
set_option maxHeartbeats 4000000
namespace L2
open PySem PySem.W PySem.Spec PyProof.Rows
/-! THE SORT, over a pure order of the places: KasT's tree ends with the places in order. -/
section
variable {α β : Type} {lt : Nat → Nat → Bool} {n : Nat}
/-- the tree's end, all questions answered by lt, all places below n -/
def kwp (lt : Nat → Nat → Bool) (n : Nat) : KasT α → (α → Prop) → Prop
  | .ret a, Q => Q a
  | .ask i j k, Q => i < n ∧ j < n ∧ kwp lt n (k (lt i j)) Q
theorem kwp_bind {f : α → KasT β} {Q : β → Prop} : ∀ (t : KasT α), kwp lt n t (fun a => kwp lt n (f a) Q) → kwp lt n (t.bind f) Q
  | .ret a, h => h
  | .ask i j k, ⟨h1, h2, h3⟩ => ⟨h1, h2, kwp_bind (k (lt i j)) h3⟩
theorem kwp_mono {Q Q' : α → Prop} (hq : ∀ a, Q a → Q' a) : ∀ (t : KasT α), kwp lt n t Q → kwp lt n t Q'
  | .ret a, h => hq a h
  | .ask i j k, ⟨h1, h2, h3⟩ => ⟨h1, h2, kwp_mono hq (k (lt i j)) h3⟩
/-- a strict order of all places below n -/
structure Ord (lt : Nat → Nat → Bool) (n : Nat) : Prop where
  tr : ∀ a b c, a < n → b < n → c < n → lt a b = true → lt b c = true → lt a c = true
  tot : ∀ a b, a < n → b < n → a ≠ b → lt a b = false → lt b a = true
/-- an order of the places 0 .. n - 1 -/
structure Pl (n : Nat) (p : Array Nat) : Prop where
  sz : p.size = n
  lt : ∀ i, i < n → p.getD i 0 < n
  inj : ∀ i j, i < n → j < n → p.getD i 0 = p.getD j 0 → i = j
  onto : ∀ k, k < n → ∃ i, i < n ∧ p.getD i 0 = k
def Up (lt : Nat → Nat → Bool) (p : Array Nat) (m : Nat) : Prop := ∀ i j, i < j → j < m → lt (p.getD i 0) (p.getD j 0) = true
def Dn (lt : Nat → Nat → Bool) (p : Array Nat) (m : Nat) : Prop := ∀ i j, i < j → j < m → lt (p.getD j 0) (p.getD i 0) = true
theorem up_one {p : Array Nat} : Up lt p 1 := fun i j h1 h2 => by (first | lia | omega)
theorem up_step {p : Array Nat} {m : Nat} (O : Ord lt n) (P : Pl n p) (hm : m < n) (h1 : 1 ≤ m) (u : Up lt p m) (h : lt (p.getD (m - 1) 0) (p.getD m 0) = true) : Up lt p (m + 1) := by
  intro i j hij hj
  by_cases e : j = m
  · subst e
    by_cases e2 : i = j - 1
    · subst e2; exact h
    · exact O.tr _ _ _ (P.lt i (by (first | lia | omega))) (P.lt (j - 1) (by (first | lia | omega))) (P.lt j hm) (u i (j - 1) (by (first | lia | omega)) (by (first | lia | omega))) h
  · exact u i j hij (by (first | lia | omega))
theorem dn_step {p : Array Nat} {m : Nat} (O : Ord lt n) (P : Pl n p) (hm : m < n) (h1 : 1 ≤ m) (u : Dn lt p m) (h : lt (p.getD m 0) (p.getD (m - 1) 0) = true) : Dn lt p (m + 1) := by
  intro i j hij hj
  by_cases e : j = m
  · subst e
    by_cases e2 : i = j - 1
    · subst e2; exact h
    · exact O.tr _ _ _ (P.lt j hm) (P.lt (j - 1) (by (first | lia | omega))) (P.lt i (by (first | lia | omega))) h (u i (j - 1) (by (first | lia | omega)) (by (first | lia | omega)))
  · exact u i j hij (by (first | lia | omega))
theorem k_asc (O : Ord lt n) {p : Array Nat} (P : Pl n p) : ∀ (f m : Nat), m + f = n → 1 ≤ m → Up lt p m → kwp lt n (kas_asc p f m) fun m' => m ≤ m' ∧ m' ≤ n ∧ Up lt p m' ∧ (m' = n ∨ lt (p.getD m' 0) (p.getD (m' - 1) 0) = true)
  | 0, m, hm, h1, u => ⟨Nat.le_refl _, by (first | lia | omega), u, .inl (by (first | lia | omega))⟩
  | f + 1, m, hm, h1, u => by
    have a := P.lt m (by (first | lia | omega))
    have b := P.lt (m - 1) (by (first | lia | omega))
    refine ⟨a, b, ?_⟩
    cases e : lt (p.getD m 0) (p.getD (m - 1) 0) with
    | true => exact ⟨Nat.le_refl _, by (first | lia | omega), u, .inr e⟩
    | false =>
      have h := O.tot _ _ a b (fun z => by have := P.inj _ _ (by (first | lia | omega)) (by (first | lia | omega)) z; (first | lia | omega)) e
      exact kwp_mono (fun m' ⟨h1, h2⟩ => ⟨by (first | lia | omega), h2⟩) _ (k_asc O P f (m + 1) (by (first | lia | omega)) (by (first | lia | omega)) (up_step O P (by (first | lia | omega)) h1 u h))
theorem k_desc (O : Ord lt n) {p : Array Nat} (P : Pl n p) : ∀ (f m : Nat), m + f = n → 1 ≤ m → Dn lt p m → kwp lt n (kas_desc f p m 0) fun r => r.1 = p ∧ r.2.2 = 0 ∧ m ≤ r.2.1 ∧ r.2.1 ≤ n ∧ Dn lt p r.2.1
  | 0, m, hm, h1, u => ⟨rfl, rfl, Nat.le_refl _, (show m ≤ n by (first | lia | omega)), u⟩
  | f + 1, m, hm, h1, u => by
    have a := P.lt m (by (first | lia | omega))
    have b := P.lt (m - 1) (by (first | lia | omega))
    refine ⟨a, b, ?_⟩
    cases e : lt (p.getD m 0) (p.getD (m - 1) 0) with
    | true =>
      have := k_desc O P f (m + 1) (by (first | lia | omega)) (by (first | lia | omega)) (dn_step O P (by (first | lia | omega)) h1 u e)
      exact kwp_mono (fun r ⟨h1, h2, h3, h4⟩ => ⟨h1, h2, by (first | lia | omega), h4⟩) _ this
    | false =>
      have h := O.tot _ _ a b (fun z => by have := P.inj _ _ (by (first | lia | omega)) (by (first | lia | omega)) z; (first | lia | omega)) e
      refine ⟨b, a, ?_⟩
      rw [h]
      exact ⟨rfl, rfl, Nat.le_refl _, (show m ≤ n by (first | lia | omega)), u⟩
theorem getD_of {p q : Array Nat} {i j : Nat} (h : p[i]? = q[j]?) : p.getD i 0 = q.getD j 0 := by
  rw [Array.getD_eq_getD_getElem?, Array.getD_eq_getD_getElem?, h]
theorem rev_at {p : Array Nat} {m : Nat} (hm : m ≤ p.size) (k : Nat) : (kas_rev p 0 m).getD k 0 = if k < m then p.getD (m - 1 - k) 0 else p.getD k 0 := by
  have h := getElem?_mirror_all (i := 0) hm k
  rw [show (m - 0) / 2 = (m - 0) / 2 from rfl] at h
  by_cases hk : k < m
  · rw [if_pos ⟨Nat.zero_le _, hk⟩] at h
    rw [if_pos hk, show m - 1 - k = 0 + m - 1 - k by (first | lia | omega)]
    exact getD_of h
  · rw [if_neg (fun z => hk z.2)] at h
    rw [if_neg hk]
    exact getD_of h
theorem rev_size {p : Array Nat} {m : Nat} : (kas_rev p 0 m).size = p.size := mirror_size _ _ _ _
theorem Pl.of {p q : Array Nat} (P : Pl n p) (hs : q.size = n) (f : Nat → Nat) (hf : ∀ i, i < n → f i < n ∧ f (f i) = i) (e : ∀ i, i < n → q.getD i 0 = p.getD (f i) 0) : Pl n q where
  sz := hs
  lt := fun i hi => by rw [e i hi]; exact P.lt _ (hf i hi).1
  inj := fun i j hi hj h => by
    rw [e i hi, e j hj] at h
    have := P.inj _ _ (hf i hi).1 (hf j hj).1 h
    rw [← (hf i hi).2, ← (hf j hj).2, this]
  onto := fun k hk => by
    obtain ⟨i, hi, h⟩ := P.onto k hk
    refine ⟨f i, (hf i hi).1, ?_⟩
    rw [e _ (hf i hi).1, (hf i hi).2, h]
theorem rev_pl {p : Array Nat} {m : Nat} (P : Pl n p) (hm : m ≤ n) : Pl n (kas_rev p 0 m) := by
  refine P.of (rev_size.trans P.sz) (fun k => if k < m then m - 1 - k else k) (fun i hi => ?_) (fun i hi => ?_)
  · by_cases h : i < m
    · have h2 : m - 1 - i < m := by (first | lia | omega)
      simp only [h, h2, if_true]; (first | lia | omega)
    · simp only [h, if_false]; exact ⟨hi, trivial⟩
  · rw [rev_at (by rw [P.sz]; exact hm)]
    by_cases h : i < m
    · simp only [h, if_true]
    · simp only [h, if_false]
theorem rev_up {p : Array Nat} {m : Nat} (hm : m ≤ p.size) (d : Dn lt p m) : Up lt (kas_rev p 0 m) m := by
  intro i j hij hj
  rw [rev_at hm, rev_at hm, if_pos (by (first | lia | omega)), if_pos (by (first | lia | omega))]
  exact d _ _ (by (first | lia | omega)) (by (first | lia | omega))
theorem k_count (O : Ord lt n) {p : Array Nat} (P : Pl n p) (hn : 1 ≤ n) : kwp lt n (kas_count n p) fun r => Pl n r.2 ∧ r.1 ≤ n ∧ 1 ≤ r.1 ∧ Up lt r.2 r.1 := by
  unfold kas_count
  refine kwp_bind _ (kwp_mono (fun m hPz => ?_) _ (k_asc O P (n - 1) 1 (by (first | lia | omega)) (Nat.le_refl _) up_one)); obtain ⟨h1, h2, h3, h4⟩ := hPz
  by_cases e : m = n
  · subst e
    rw [if_pos (by simp)]
    exact ⟨P, Nat.le_refl _, h1, h3⟩
  · rw [if_neg (by simpa using e)]
    have h4 := h4.resolve_left e
    by_cases hm : m > 1
    · rw [if_pos hm]
      refine ⟨P.lt 0 (by (first | lia | omega)), P.lt (m - 1) (by (first | lia | omega)), ?_⟩
      rw [h3 0 (m - 1) (by (first | lia | omega)) (by (first | lia | omega))]
      exact ⟨P, h2, h1, h3⟩
    · have e1 : m = 1 := by (first | lia | omega)
      subst e1
      rw [if_neg (by (first | lia | omega))]
      unfold kas_descPart
      have d2 : Dn lt p 2 := fun i j hij hj => by
        have ei : i = 0 := by (first | lia | omega)
        have ej : j = 1 := by (first | lia | omega)
        subst ei ej; exact h4
      refine kwp_bind _ (kwp_mono (fun r hPz => ?_) _ (k_desc O P (n - (1 + 1)) (1 + 1) (by (first | lia | omega)) (by (first | lia | omega)) d2)); obtain ⟨r1, r2, r3, r4, r5⟩ := hPz
      obtain ⟨p', m, q⟩ := r
      simp only at r1 r2 r3 r4 r5
      subst r1 r2
      simp only [Nat.lt_irrefl, gt_iff_lt, if_false]
      unfold kas_tail3
      have P' := rev_pl P r4
      refine kwp_bind _ (kwp_mono (fun m' hPz => ?_) _ (k_asc O P' (n - m) m (by (first | lia | omega)) (by (first | lia | omega)) (rev_up (by rw [P.sz]; exact r4) r5))); obtain ⟨a1, a2, a3, _⟩ := hPz
      exact ⟨P', a2, by show 1 ≤ m'; (first | lia | omega), a3⟩
theorem k_place (O : Ord lt n) {p : Array Nat} (P : Pl n p) {k : Nat} (hk : k < n) (u : Up lt p k) : ∀ (f l r : Nat), r - l ≤ f → l ≤ r → r ≤ k → (∀ i, i < l → lt (p.getD i 0) (p.getD k 0) = true) → (∀ i, r ≤ i → i < k → lt (p.getD k 0) (p.getD i 0) = true) →
    kwp lt n (kas_place p k f l r) fun m => m ≤ k ∧ (∀ i, i < m → lt (p.getD i 0) (p.getD k 0) = true) ∧ (∀ i, m ≤ i → i < k → lt (p.getD k 0) (p.getD i 0) = true)
  | 0, l, r, hf, hl, hr, h1, h2 => ⟨by (first | lia | omega), h1, fun i hi => h2 i (by (first | lia | omega))⟩
  | f + 1, l, r, hf, hl, hr, h1, h2 => by
    unfold kas_place
    by_cases hlr : l ≥ r
    · rw [if_pos hlr]; exact ⟨by (first | lia | omega), h1, fun i hi => h2 i (by (first | lia | omega))⟩
    · rw [if_neg hlr]
      have hm : (l + r) / 2 < k := by (first | lia | omega)
      have a := P.lt k hk
      have b := P.lt ((l + r) / 2) (by (first | lia | omega))
      refine ⟨a, b, ?_⟩
      cases e : lt (p.getD k 0) (p.getD ((l + r) / 2) 0) with
      | true =>
        refine k_place O P hk u f l _ (by (first | lia | omega)) (by (first | lia | omega)) (by (first | lia | omega)) h1 fun i hi hik => ?_
        by_cases ei : i = (l + r) / 2
        · subst ei; exact e
        · exact O.tr _ _ _ a b (P.lt i (by (first | lia | omega))) e (u _ i (by (first | lia | omega)) hik)
      | false =>
        have h := O.tot _ _ a b (fun z => by have := P.inj _ _ hk (by (first | lia | omega)) z; (first | lia | omega)) e
        refine k_place O P hk u f _ r (by (first | lia | omega)) (by (first | lia | omega)) hr (fun i hi => ?_) h2
        by_cases ei : i = (l + r) / 2
        · subst ei; exact h
        · exact O.tr _ _ _ (P.lt i (by (first | lia | omega))) b a (u i _ (by (first | lia | omega)) hm) h
theorem bub_at {p : Array Nat} {k l : Nat} (hk : k < p.size) (hl : l ≤ k) (i : Nat) : (bubble p k (k - l)).getD i 0 = if i = l then p.getD k 0 else if l < i ∧ i ≤ k then p.getD (i - 1) 0 else p.getD i 0 := by
  have h := getElem?_bubble hk (k - l) (by (first | lia | omega)) i
  rw [show k - (k - l) = l by (first | lia | omega)] at h
  by_cases e : i = l
  · rw [if_pos e] at h ⊢; exact getD_of h
  · rw [if_neg e] at h ⊢
    by_cases e2 : l < i ∧ i ≤ k
    · rw [if_pos e2] at h ⊢; exact getD_of h
    · rw [if_neg e2] at h ⊢; exact getD_of h
theorem bub_pl {p : Array Nat} {k l : Nat} (P : Pl n p) (hk : k < n) (hl : l ≤ k) : Pl n (bubble p k (k - l)) := by
  have e := bub_at (p := p) (k := k) (l := l) (by rw [P.sz]; exact hk) hl
  have ea : ∀ i, (bubble p k (k - l)).getD i 0 = p.getD (if i = l then k else if l < i ∧ i ≤ k then i - 1 else i) 0 := fun i => by
    rw [e i]
    by_cases h1 : i = l
    · simp only [h1, if_true]
    · by_cases h2 : l < i ∧ i ≤ k
      · simp only [h1, h2, if_false, if_true, and_self]
      · simp only [h1, h2, if_false]
  refine ⟨(bubble_size ..).trans P.sz, fun i hi => ?_, fun i j hi hj h => ?_, fun m hm => ?_⟩
  · rw [ea]; refine P.lt _ ?_
    repeat' split
    all_goals (first | lia | omega)
  · rw [ea, ea] at h
    have := P.inj _ _ (by (repeat' split); all_goals (first | lia | omega))
      (by (repeat' split); all_goals (first | lia | omega))
      h
    repeat' split at this
    all_goals (first | lia | omega)
  · obtain ⟨i, hi, h⟩ := P.onto m hm
    by_cases h1 : i = k
    · refine ⟨l, by (first | lia | omega), ?_⟩
      rw [ea, if_pos rfl, ← h1, h]
    · by_cases h2 : l ≤ i ∧ i < k
      · refine ⟨i + 1, by (first | lia | omega), ?_⟩
        rw [ea, if_neg (by (first | lia | omega)), if_pos (by (first | lia | omega)), Nat.add_sub_cancel, h]
      · refine ⟨i, hi, ?_⟩
        rw [ea, if_neg (by (first | lia | omega)), if_neg (by (first | lia | omega)), h]
theorem k_bin (O : Ord lt n) : ∀ (f : Nat) (p : Array Nat) (k : Nat), Pl n p → k + f = n → Up lt p k → kwp lt n (kas_bin f p k) fun q => Pl n q ∧ Up lt q n
  | 0, p, k, P, hk, u => ⟨P, (show k = n by (first | lia | omega)) ▸ u⟩
  | f + 1, p, k, P, hk, u => by
    unfold kas_bin
    refine kwp_bind _ (kwp_mono (fun l hPz => ?_) _ (k_place O P (by (first | lia | omega)) u k 0 k (by (first | lia | omega)) (Nat.zero_le _) (Nat.le_refl _) (fun i hi => by (first | lia | omega)) (fun i hi hi2 => by (first | lia | omega)))); obtain ⟨h1, h2, h3⟩ := hPz
    refine k_bin O f _ (k + 1) (bub_pl P (by (first | lia | omega)) h1) (by (first | lia | omega)) fun i j hij hj => ?_
    have e := bub_at (p := p) (k := k) (l := l) (by rw [P.sz]; (first | lia | omega)) h1
    rw [e, e]
    repeat' split
    all_goals first | (exfalso; (first | lia | omega)) | exact h3 _ (by (first | lia | omega)) (by (first | lia | omega)) | exact h2 _ (by (first | lia | omega)) | exact u _ _ (by (first | lia | omega)) (by (first | lia | omega))
theorem range_pl : Pl n (List.toArray (List.range n)) := by
  have e : ∀ i, i < n → (List.toArray (List.range n)).getD i 0 = i := fun i hi => by simp [Array.getD, hi]
  exact ⟨by simp, fun i hi => by rw [e i hi]; exact hi, fun i j hi hj h => by rw [e i hi, e j hj] at h; exact h, fun k hk => ⟨k, hk, e k hk⟩⟩
/-- THE TREE SORTS -/
theorem k_sort (O : Ord lt n) (hn : 1 ≤ n) : kwp lt n (kas_sort n) fun q => Pl n q ∧ Up lt q n := by
  unfold kas_sort
  refine kwp_bind _ (kwp_mono (fun r hPz => ?_) _ (k_count O range_pl hn)); obtain ⟨h1, h2, h3, h4⟩ := hPz
  by_cases h : r.1 < n
  · rw [if_pos h]
    have e : max r.1 1 = r.1 := by (first | lia | omega)
    rw [e]
    exact k_bin O _ _ _ h1 (by (first | lia | omega)) h4
  · rw [if_neg h]
    have e : r.1 = n := by (first | lia | omega)
    exact ⟨h1, by rw [← e]; exact h4⟩
end
theorem kasWp_of {α : Type} {lt : Nat → Nat → Bool} {n : Nat} {cmp : Nat → Nat → (Bool → Shared → Prop) → Shared → Prop} {s : Shared} {Q : α → Prop} (hc : ∀ i j (C : Bool → Shared → Prop), i < n → j < n → C (lt i j) s → cmp i j C s) :
    ∀ (t : KasT α), kwp lt n t Q → t.kasWp cmp (fun a s' => s' = s ∧ Q a) s
  | .ret a, h => ⟨rfl, h⟩
  | .ask i j k, ⟨h1, h2, h3⟩ => hc i j _ h1 h2 (kasWp_of hc (k (lt i j)) h3)
section
variable {prog : Program} {w : World} {A : Around} {E : Value → Shared → Prop} {s : Shared} {a : Addr} {vs : List Value} {lt : Nat → Nat → Bool}
/-- the keys' kind and the order of the places, in every heap that keeps the old objects but a -/
structure TupKeys (prog : Program) (w : World) (A : Around) (s : Shared) (a : Addr) (vs : List Value) (lt : Nat → Nat → Bool) : Prop where
  ord : Ord lt vs.length
  kind : 2 ≤ vs.length → ∀ (s' : Shared), (∀ b o, b ≠ a → s.heap.get? b = some o → s'.heap.get? b = some o) → ∀ (Q : SortKind → Shared → Prop) (E : Value → Shared → Prop), Q (tuples' true) s' → wpAny (model prog w) A (keyKind' vs.toArray) Q E s'
  cmp : ∀ (s' : Shared), (∀ b o, b ≠ a → s.heap.get? b = some o → s'.heap.get? b = some o) → ∀ i j (C : Bool → Shared → Prop), i < vs.length → j < vs.length → C (lt i j) s' → kas_ask prog w A (tuples' true) vs i j C s'
def outOf (vs : List Value) (p : Array Nat) : Array Value := List.toArray (p.toList.map fun i => vs.getD i Value.none)
theorem range_out (vs : List Value) : outOf vs (List.toArray (List.range vs.length)) = vs.toArray := by
  unfold outOf
  rw [List.toList_toArray]
  congr 1
  refine List.ext_getElem (by simp) fun i h1 h2 => ?_
  simp at h1
  simp [h1]
theorem outOf_size {p : Array Nat} : (outOf vs p).size = p.size := by unfold outOf; simp
theorem sort_tups {n : Nat} {P : PySem.Fin → Shared → Prop} (ho : s.heap.get? a = some (seqObj "list" vs.toArray n)) (h64 : vs.length < 64) (T : TupKeys prog w A s a vs lt)
    (h : ∀ p : Array Nat, Pl vs.length p → Up lt p vs.length → P (.done (.ret .none)) { s with heap := sortedHeap s.heap a vs (outOf vs p) }) :
    wpAny (model prog w) A (Builtin.«list.sort» ⟨[.ref a], []⟩) P E s := by
  have hlt : a < s.heap.objs.size := Heap.lt_size ho
  have sz : vs.toArray.size = vs.length := by simp
  have big : (64 : Nat) ≤ sizeLine := by decide
  rw [list_sort_plain]
  refine wpAny_bind (listItems_at ho rfl (wpAny_bind (listUpdate_at ho rfl ?_)))
  obtain ⟨e1, o1⟩ : ∃ e1, (s.heap.update a (Obj.mapSeq fun _ => (#[] : Array Value))).get? a = some (seqObj "list" #[] e1) := ⟨_, get?_update_seq ho fun _ => #[]⟩
  refine wpAny_bind (seqEpoch_at o1 rfl (wpAny_bind (wpAny_newTuple (wpAny_bind (wpAny_newList (wpAny_holding ?_))))))
  have o6 : (((s.heap.update a (Obj.mapSeq fun _ => (#[] : Array Value))).push (seqObj "tuple" vs.toArray 0)).push (seqObj "list" #[] 0)).get? a = some (seqObj "list" #[] e1) := Heap.get?_push_of_some _ (Heap.get?_push_of_some _ o1)
  have kk : ∀ b o, b ≠ a → s.heap.get? b = some o → (((s.heap.update a (Obj.mapSeq fun _ => (#[] : Array Value))).push (seqObj "tuple" vs.toArray 0)).push (seqObj "list" #[] 0)).get? b = some o := fun b o hb q =>
    Heap.get?_push_of_some _ (Heap.get?_push_of_some _ ((Heap.get?_update_other _ _ (Ne.symm hb)).trans q))
  show wpAny (model prog w) A _ P E { s with heap := (((s.heap.update a (Obj.mapSeq fun _ => (#[] : Array Value))).push (seqObj "tuple" vs.toArray 0)).push (seqObj "list" #[] 0)) }
  dsimp only
  by_cases h2 : vs.toArray.size < 2
  · rw [if_pos h2, if_pos h2]
    refine wpAny_bind (wpAny_pure ?_)
    rw [StateT.run_pure]
    refine wpAny_bind (wpAny_pure ?_)
    dsimp only
    refine wpAny_bind (seqEpoch_at o6 rfl (wpAny_bind (listUpdate_at o6 rfl ?_ (Nat.zero_le _) ?_)))
    · simp only [bne_self_eq_false, Bool.false_eq_true, if_false]
      have q := h _ range_pl fun i j h1 h3 => by (first | lia | omega)
      rw [range_out] at q
      refine wpAny_pure ?_
      have e : ((vs.toArray.zip vs.toArray).map fun x => x.2) = vs.toArray := by
        apply Array.toList_inj.mp
        simp
        rw [List.map_snd_zip (Nat.le_refl _)]
      have e' : (arrOf (SortSt.mk' general' (vs.toArray.zip vs.toArray) #[] 7 none)).map (fun x => x.2) = vs.toArray := e
      rw [e']
      exact q
    · show (Array.map _ (vs.toArray.zip vs.toArray)).size ≤ _
      rw [Array.size_map]
      simp
      (first | lia | omega)
  · rw [if_neg h2, if_neg h2]
    have h2' : 2 ≤ vs.length := by rw [sz] at h2; (first | lia | omega)
    refine wpAny_bind (T.kind h2' _ kk _ _ ?_)
    refine wpAny_bind (wpAny_mono (kat_run (ks := vs) (vs := vs) (Q := fun st' s' => s' = { s with heap := (((s.heap.update a (Obj.mapSeq fun _ => (#[] : Array Value))).push (seqObj "tuple" vs.toArray 0)).push (seqObj "list" #[] 0)) } ∧ failedOf st' = none ∧ ∃ p, (arrOf st').map (·.2) = outOf vs p ∧ Pl vs.length p ∧ Up lt p vs.length)
      rfl h2' h64 (fun p st' s' hp har hf hg => ⟨hg.1, hf, p, kat_snds rfl har, hg.2⟩) (kasWp_of (fun i j C hi hj hC => T.cmp _ kk i j C hi hj hC) _ (k_sort T.ord (by (first | lia | omega))))) ?_ fun _ _ e => e)
    rintro ⟨⟨⟩, st'⟩ s' ⟨e, hf, p, hout, hp, hs⟩
    simp only at e hf hout
    subst e
    dsimp only
    refine wpAny_bind (seqEpoch_at o6 rfl (wpAny_bind (listUpdate_at o6 rfl ?_ (Nat.zero_le _) ?_)))
    · rw [hf]
      simp only [bne_self_eq_false, Bool.false_eq_true, if_false]
      refine wpAny_pure ?_
      rw [hout]
      exact h p hp hs
    · rw [hout, outOf_size, hp.sz]; (first | lia | omega)
theorem sorted_tups {l : Addr} {Q : Value → Shared → Prop} (hl : s.heap.IsList l vs.toArray) (h64 : vs.length < 64)
    (T : ∀ s' : Shared, (∀ b o, s.heap.get? b = some o → s'.heap.get? b = some o) → TupKeys prog w A.in1.in1 s' (s.heap.objs.size + 1) vs lt)
    (h : ∀ p : Array Nat, Pl vs.length p → Up lt p vs.length → Q (.ref (s.heap.objs.size + 1)) { s with heap := sortedAll s.heap vs (outOf vs p) }) :
    wpAny (model prog w) A (call (.builtin "sorted") [.ref l]) Q E s := by
  refine Calls.call_function_entry kind_sorted plain_sorted entry_sorted (args_sorted1 _) ?_; unfold Builtin.«sorted»
  refine wpAny_bind (m := checkCount "sorted" 1 1 _) (wpAny_pure (wpAny_bind (collect_list hl (wpAny_bind (wpAny_newList ?_)))))
  have sz : ((s.heap.push (seqObj "list" #[] 0)).update s.heap.objs.size (Obj.mapSeq (· ++ vs.toArray))).objs.size = s.heap.objs.size + 1 := by rw [Heap.size_update, size_push']
  have oL : (((s.heap.push (seqObj "list" #[] 0)).update s.heap.objs.size (Obj.mapSeq (· ++ vs.toArray))).push (seqObj "list" vs.toArray 0)).get? (s.heap.objs.size + 1) = some (seqObj "list" vs.toArray 0) := by rw [← sz]; exact Heap.get?_push_size _ rfl
  have kk : ∀ b o, s.heap.get? b = some o → (((s.heap.push (seqObj "list" #[] 0)).update s.heap.objs.size (Obj.mapSeq (· ++ vs.toArray))).push (seqObj "list" vs.toArray 0)).get? b = some o := fun b o q =>
    Heap.get?_push_of_some _ ((Heap.get?_update_other _ _ (Nat.ne_of_gt (Heap.lt_size q))).trans (Heap.get?_push_of_some _ q))
  show wpAny _ _ _ _ _ { s with heap := ((s.heap.push (seqObj "list" #[] 0)).update s.heap.objs.size (Obj.mapSeq (· ++ vs.toArray))).push (seqObj "list" vs.toArray 0) }; rw [sz]
  refine wpAny_bind (wpAny_holding (wpAny_call_entry slot_list_sort ⟨_, oL, rfl⟩ entry_list_sort (sort_tups oL h64 (T _ kk) fun p p1 p2 => ⟨_, rfl, ?_⟩) (args_list_sort _)))
  exact wpAny_pure ⟨_, rfl, h p p1 p2⟩
end
/-- sorted(xs) of a list of pairs, all of them unlike -/
theorem call_sortedT {X : Cx} : CallR X (.builtin "sorted") (fun xs H Q => ∃ (p : Addr) (ts : List Addr) (ps : List (Int × Int)), xs = [.ref p] ∧ SqL X.K H p (ts.map V.ref) ∧ PairsAt X.K H ts ps ∧ ts.length < 64 ∧ ps.Nodup ∧
    ∀ (l : Addr) (ts' : List Addr) (ps' : List (Int × Int)), H l = none → PairsAt X.K (upd H l (.lst (ts'.map V.ref))) ts' ps' → ps'.Perm ps → ps'.Pairwise (fun a b => pLt a b = true) → Q (.ref l) (upd H l (.lst (ts'.map V.ref)))) := by
  intro pins s σ H xs us Q I r h
  obtain ⟨p, ts, ps, rfl, hq, ⟨hlen, hp⟩, h64, hnd, q⟩ := h
  obtain ⟨u, rfl, ru⟩ := r.one
  cases ru
  obtain ⟨its, rv, pl, hz⟩ := I.list hq
  have hit : its.length = ts.length := by rw [← rv.length, List.length_map]
  have item : ∀ (i : Nat), i < its.length → ∃ a m, its.getD i Value.none = .ref a ∧ ts[i]? = some a ∧ ps[i]? = some m ∧ H a = some (.tup [.int m.1, .int m.2]) := fun i hi => by
    have e : its[i]? = some (its.getD i Value.none) := by simp [hi]
    obtain ⟨x, hx, rx⟩ := vals_at rv e
    rw [List.getElem?_map] at hx
    cases ha : ts[i]? with
    | none => rw [ha] at hx; cases hx
    | some a =>
      rw [ha] at hx
      cases hx
      have hi2 : i < ps.length := by (first | lia | omega)
      exact ⟨a, ps[i], rx, rfl, List.getElem?_eq_getElem hi2, hp i a _ ha (List.getElem?_eq_getElem hi2)⟩
  have hord : Ord (fun i j => pLt (ps.getD i (0, 0)) (ps.getD j (0, 0))) its.length := by
    refine ⟨fun a b c ha hb hc h1 h2 => ?_, fun a b ha hb hab h => ?_⟩
    · rw [pLt_iff] at h1 h2 ⊢; (first | lia | omega)
    · have hpa : a < ps.length := by (first | lia | omega)
      have hpb : b < ps.length := by (first | lia | omega)
      have hne : ps.getD a (0, 0) ≠ ps.getD b (0, 0) := fun z => by
        simp only [List.getD, List.getElem?_eq_getElem hpa, List.getElem?_eq_getElem hpb, Option.getD_some] at z
        exact hab ((List.getElem_inj hnd).mp z)
      rw [pLt_not] at h
      rw [pLt_iff]
      have : ¬ ((ps.getD a (0, 0)).1 = (ps.getD b (0, 0)).1 ∧ (ps.getD a (0, 0)).2 = (ps.getD b (0, 0)).2) := fun ⟨z1, z2⟩ => hne (Prod.ext z1 z2)
      (first | lia | omega)
  refine sorted_tups (lt := fun i j => pLt (ps.getD i (0, 0)) (ps.getD j (0, 0))) pl.isList (by (first | lia | omega)) ?_ ?_
  · intro s' k'
    have tup : ∀ (s2 : Shared), (∀ b o, b ≠ s.heap.objs.size + 1 → s'.heap.get? b = some o → s2.heap.get? b = some o) → ∀ i, i < its.length → ∃ a m o t1 t2 n, its.getD i Value.none = .ref a ∧ ps[i]? = some m ∧ s2.heap.get? a = some o ∧ o.cls = .type "tuple" ∧ o.data = .seq #[.int m.1 t1, .int m.2 t2] n := fun s2 k2 i hi => by
      obtain ⟨a, m, e1, e2, e3, e4⟩ := item i hi
      obtain ⟨_, ia, ra, o, ho, hc, n, hd⟩ := I.hok a _ e4
      obtain ⟨u1, u2, rfl, ⟨t1, rfl⟩, ⟨t2, rfl⟩⟩ : ∃ u1 u2, ia = [u1, u2] ∧ RelV (.int m.1) u1 ∧ RelV (.int m.2) u2 := by
        cases ra with
        | cons r1 ra => cases ra with
          | cons r2 ra => cases ra with
            | nil => exact ⟨_, _, rfl, r1, r2⟩
      have hlt := Heap.lt_size ho
      exact ⟨a, m, o, t1, t2, n, e1, e3, k2 a o (fun z => by have z : (_ : Nat) = (_ : Nat) := z; have hlt : (_ : Nat) < (_ : Nat) := hlt; (first | lia | omega)) (k' a o ho), hc, hd⟩
    refine ⟨hord, fun h2 s2 k2 Q' E' q' => ?_, fun s2 k2 i j C hi hj hC => ?_⟩
    · have hT : ∃ fs, KatTups s2.heap its fs ∧ fs.length = its.length ∧ ∀ v ∈ fs, ∃ i t, v = .int i t := by
        have go : ∀ (m : Nat), m ≤ its.length → ∃ fs, KatTups s2.heap (its.drop (its.length - m)) fs ∧ fs.length = m ∧ ∀ v ∈ fs, ∃ i t, v = Value.int i t := by
          intro m
          induction m with
          | zero => intro _; exact ⟨[], by rw [Nat.sub_zero, List.drop_length]; exact .nil, rfl, fun v hv => by cases hv⟩
          | succ m ih =>
            intro hm
            obtain ⟨fs, f1, f2, f3⟩ := ih (by (first | lia | omega))
            have hi : its.length - (m + 1) < its.length := by (first | lia | omega)
            obtain ⟨a, mm, o, t1, t2, n, e1, e2, e3, e4, e5⟩ := tup s2 k2 _ hi
            have ed : its.drop (its.length - (m + 1)) = .ref a :: its.drop (its.length - m) := by
              rw [List.drop_eq_getElem_cons hi]
              congr 1
              · rw [← e1]; simp [hi]
              · congr 1; (first | lia | omega)
            refine ⟨.int mm.1 t1 :: fs, by rw [ed]; exact .cons e3 e4 e5 (by simp) f1, by simp [f2], fun v hv => ?_⟩
            rcases List.mem_cons.mp hv with rfl | hv
            · exact ⟨_, _, rfl⟩
            · exact f3 v hv
        have := go its.length (Nat.le_refl _)
        rw [Nat.sub_self, List.drop_zero] at this
        exact this
      obtain ⟨fs, f1, f2, f3⟩ := hT
      refine kat_kind (T := .type "int") f1 (by (first | lia | omega)) (fun v hv => ?_) (by decide) (by rw [show (Value.type "int" != Value.type "tuple") = true by decide]; exact q')
      obtain ⟨i, t, rfl⟩ := f3 v hv
      exact .now
    · obtain ⟨a, m, o, t1, t2, n, e1, e2, e3, e4, e5⟩ := tup s2 k2 i hi
      obtain ⟨a', m', o', t1', t2', n', e1', e2', e3', e4', e5'⟩ := tup s2 k2 j hj
      unfold kas_ask
      rw [e1, e1']
      refine kat_lt e3 e5 e3' e5' ?_
      have hp1 : ps.getD i (0, 0) = m := by simp [List.getD, e2]
      have hp2 : ps.getD j (0, 0) = m' := by simp [List.getD, e2']
      simp only [hp1, hp2] at hC
      obtain ⟨b1, h1, i1⟩ := HT.eqAt_int X.A.in1.in1 s2 m.1 t1 m'.1 t1'
      obtain ⟨b2, h2, i2⟩ := HT.eqAt_int X.A.in1.in1 s2 m.2 t2 m'.2 t2'
      refine kat_cons (h1 _ _ _ _ ?_)
      cases b1 with
      | false =>
        have n1 : ¬ m.1 = m'.1 := fun z => by have := i1.mpr z; cases this
        refine kat_no (show wpAny _ _ (oneLt' true _ _) _ _ _ from oneLt_int ?_)
        have : pLt m m' = decide (m.1 < m'.1) := by unfold pLt; simp [n1]
        rw [← this]; exact hC
      | true =>
        have n1 := i1.mp rfl
        refine kat_yes (kat_cons (h2 _ _ _ _ ?_))
        cases b2 with
        | false =>
          refine kat_no (show wpAny _ _ (oneLt' false _ _) _ _ _ from kat_one _ _ (lt_int ?_))
          have : pLt m m' = decide (m.2 < m'.2) := by unfold pLt; simp [n1]
          rw [this] at hC
          exact hC
        | true =>
          have n2 := i2.mp rfl
          refine kat_yes (kat_nil ?_)
          have : pLt m m' = false := by rw [pLt_not]; right; (first | lia | omega)
          rw [this] at hC
          exact hC
  · intro pp hpl hup
    obtain ⟨e, he⟩ := sortedAll_at s.heap its (outOf its pp)
    have big : (64 : Nat) ≤ sizeLine := by decide
    have hs : pp.size = ts.length := by rw [hpl.sz, hit]
    have vals : ∀ (L : List Nat), (∀ i ∈ L, i < its.length) → Vals ((L.map fun i => ts.getD i 0).map V.ref) (L.map fun i => its.getD i Value.none) := by
      intro L
      induction L with
      | nil => intro _; exact .nil
      | cons i L ih =>
        intro hL
        obtain ⟨a, m, e1, e2, e3, e4⟩ := item i (hL i (.head _))
        refine .cons ?_ (ih fun j hj => hL j (.tail _ hj))
        show RelV (.ref (ts.getD i 0)) (its.getD i Value.none)
        rw [e1]
        simp [List.getD, e2]
        rfl
    have mem : ∀ i ∈ pp.toList, i < its.length := fun i hi => by
      obtain ⟨k, hk, ek⟩ := List.mem_iff_getElem.mp hi
      have hk' : k < pp.size := by simpa using hk
      have := hpl.lt k (by rw [← hpl.sz]; exact hk')
      simp only [Array.getD, hk', dif_pos] at this
      rw [← ek]; simpa using this
    refine ⟨.ref (s.heap.objs.size + 1), _, I.laid (t' := s.toks) (o := .lst ((pp.toList.map fun i => ts.getD i 0).map V.ref)) (fun b o q => sortedAll_old q) (Nat.le_succ _) ⟨?_, pp.toList.map fun i => its.getD i Value.none, e, vals _ mem, ?_⟩, rfl,
      q _ (pp.toList.map fun i => ts.getD i 0) (pp.toList.map fun i => ps.getD i (0, 0)) (I.hok.fresh (Nat.le_succ _)) ⟨by simp, fun i a m ha hm => ?_⟩ ?_ ?_⟩
    · simp; (first | lia | omega)
    · exact he
    · rw [List.getElem?_map] at ha hm
      cases hk : pp.toList[i]? with
      | none => rw [hk] at ha; cases ha
      | some k =>
        rw [hk] at ha hm
        have hkl := mem k (List.mem_of_getElem? hk)
        obtain ⟨a', m', e1, e2, e3, e4⟩ := item k hkl
        simp [List.getD, e2] at ha
        simp [List.getD, e3] at hm
        subst ha hm
        rw [upd_ne (ne_of_none e4 (I.hok.fresh (Nat.le_succ _)))]
        exact e4
    · have hperm : pp.toList.Perm (List.range its.length) := by
        refine (List.perm_ext_iff_of_nodup ?_ List.nodup_range).mpr fun k => ?_
        · rw [List.Nodup, List.pairwise_iff_getElem]
          intro i j hi hj hij hc
          have hj' : j < pp.size := by simpa using hj
          have hi' : i < pp.size := by (first | lia | omega)
          have := hpl.inj i j (by rw [← hpl.sz]; exact hi') (by rw [← hpl.sz]; exact hj') (by
            simp only [Array.getD, hi', hj', dif_pos]
            simpa using hc)
          (first | lia | omega)
        · rw [List.mem_range]
          refine ⟨mem k, fun hk => ?_⟩
          obtain ⟨i, hi, ei⟩ := hpl.onto k hk
          have hi' : i < pp.size := by rw [hpl.sz]; exact hi
          simp only [Array.getD, hi', dif_pos] at ei
          rw [← ei]
          simp
      have h1 := hperm.map fun i => ps.getD i (0, 0)
      have h2 : (List.range its.length).map (fun i => ps.getD i (0, 0)) = ps := by
        refine List.ext_getElem (by simp; (first | lia | omega)) fun i h1 h2 => ?_
        simp at h1
        simp [h2]
      rw [h2] at h1
      exact h1
    · rw [List.pairwise_iff_getElem]
      intro i j hi hj hij
      have hj' : j < pp.size := by simpa using hj
      have hi' : i < pp.size := by (first | lia | omega)
      have := hup i j hij (by rw [← hpl.sz]; exact hj')
      simp only [Array.getD, hi', hj', dif_pos] at this
      simpa using this
end L2

set_option Elab.async false
set_option linter.all false
set_option maxRecDepth 100000
set_option maxHeartbeats 4000000
/-! range as a value, list of it; calls that raise nothing here. -/
namespace L2
open PySem PySem.Spec PyProof.Rows
/-- what would be raised is shown not to be -/
theorem passF {X : Cx} : Passes (CXF X.prog X.w) X (fun _ _ _ => False) := fun _ _ _ _ _ _ _ ⟨_, _, _, _, _, _, _, z⟩ => z.elim
end L2

set_option Elab.async false
set_option linter.all false
set_option maxRecDepth 100000
set_option maxHeartbeats 4000000
/-! texts: slices, startswith. -/
namespace L2
open PySem PySem.Spec PyProof.Rows
/-! ### len within a try; a def that is called while an exception is handled -/
section
variable {P : Program} {w : World} {K : PySem.W.Frag} {mg : Str → Option Value} {base : Heap} {N ps : List Str} {qual : Str} {scope : Scope} {f : Addr} {cd : Value} {A : Around} {outer : List Env} {s s1 : Shared} {H : Hp} {E : XK}
end
end L2

set_option Elab.async false
set_option linter.all false
/-! how arguments bind, by the number of the parameters; a statement read with the rest kept shut -/
namespace L2
open PySem PySem.Spec PyProof.Rows
theorem cons_of {α : Type} {us : List α} {n : Nat} (h : us.length = n + 1) : ∃ u r, us = u :: r ∧ r.length = n := by
  cases us with
  | nil => cases h
  | cons u r => exact ⟨u, r, rfl, Nat.succ.inj h⟩
section
variable {K : PySem.W.Frag} {x qual : Str} {st : Stmt} {f : Addr} {fd : FuncData} {p1 p2 p3 p4 p5 : Str}
theorem Fun.binds1 (F : Fun K x qual st f fd) (h : ∀ (kV doc pm : Value) (an : Option Addr) (cdv ct u1 : Value), bindArgs (PySem.W.fnOf x qual (defArgs st) (defBody st) (defScope st) .none kV doc pm an cdv ct) ⟨[u1], []⟩ = pure [(p1, u1)]) : Binds K fd [p1] [] :=
  F.binds (ps := [p1]) fun a b c d e g us h0 => by
    obtain ⟨u1, r1, rfl, h1⟩ := cons_of (n := 0) h0
    obtain rfl := List.eq_nil_of_length_eq_zero h1
    exact h a b c d e g u1
theorem Fun.binds2 (F : Fun K x qual st f fd) (h : ∀ (kV doc pm : Value) (an : Option Addr) (cdv ct u1 u2 : Value), bindArgs (PySem.W.fnOf x qual (defArgs st) (defBody st) (defScope st) .none kV doc pm an cdv ct) ⟨[u1, u2], []⟩ = pure [(p1, u1), (p2, u2)]) : Binds K fd [p1, p2] [] :=
  F.binds (ps := [p1, p2]) fun a b c d e g us h0 => by
    obtain ⟨u1, r1, rfl, h1⟩ := cons_of (n := 1) h0
    obtain ⟨u2, r2, rfl, h2⟩ := cons_of (n := 0) h1
    obtain rfl := List.eq_nil_of_length_eq_zero h2
    exact h a b c d e g u1 u2
theorem Fun.binds3 (F : Fun K x qual st f fd) (h : ∀ (kV doc pm : Value) (an : Option Addr) (cdv ct u1 u2 u3 : Value), bindArgs (PySem.W.fnOf x qual (defArgs st) (defBody st) (defScope st) .none kV doc pm an cdv ct) ⟨[u1, u2, u3], []⟩ = pure [(p1, u1), (p2, u2), (p3, u3)]) : Binds K fd [p1, p2, p3] [] :=
  F.binds (ps := [p1, p2, p3]) fun a b c d e g us h0 => by
    obtain ⟨u1, r1, rfl, h1⟩ := cons_of (n := 2) h0
    obtain ⟨u2, r2, rfl, h2⟩ := cons_of (n := 1) h1
    obtain ⟨u3, r3, rfl, h3⟩ := cons_of (n := 0) h2
    obtain rfl := List.eq_nil_of_length_eq_zero h3
    exact h a b c d e g u1 u2 u3
theorem Fun.binds4 (F : Fun K x qual st f fd) (h : ∀ (kV doc pm : Value) (an : Option Addr) (cdv ct u1 u2 u3 u4 : Value), bindArgs (PySem.W.fnOf x qual (defArgs st) (defBody st) (defScope st) .none kV doc pm an cdv ct) ⟨[u1, u2, u3, u4], []⟩ = pure [(p1, u1), (p2, u2), (p3, u3), (p4, u4)]) : Binds K fd [p1, p2, p3, p4] [] :=
  F.binds (ps := [p1, p2, p3, p4]) fun a b c d e g us h0 => by
    obtain ⟨u1, r1, rfl, h1⟩ := cons_of (n := 3) h0
    obtain ⟨u2, r2, rfl, h2⟩ := cons_of (n := 2) h1
    obtain ⟨u3, r3, rfl, h3⟩ := cons_of (n := 1) h2
    obtain ⟨u4, r4, rfl, h4⟩ := cons_of (n := 0) h3
    obtain rfl := List.eq_nil_of_length_eq_zero h4
    exact h a b c d e g u1 u2 u3 u4
end
/-- a loop's promise as a name: the term bears the name, not the promise -/
theorem abs3 (P : Nat → St → Hp → Prop) : ∃ Pv : Nat → St → Hp → Prop, ∀ i σ H, Pv i σ H ↔ P i σ H := ⟨P, fun _ _ _ => Iff.rfl⟩
end L2

set_option Elab.async false
set_option linter.all false
set_option maxRecDepth 100000
set_option maxHeartbeats 4000000
/-! try with several handlers that name nothing. -/
namespace L2
open PySem PySem.Spec PyProof.Rows
section
variable {X : Cx} {body : List Stmt} {pos : Pos} {tb : (St → XK) → TS}
inductive Hs (X : Cx) : List ExceptHandler → List (Addr × TS) → Prop
  | nil : Hs X [] []
  | cons {x : Str} {np hpos : Pos} {W : Addr} {b0 : Stmt} {suite : List Stmt} {ts : TS} {hl : List ExceptHandler} {r : List (Addr × TS)} (hg : Gl X x) (hm : X.mg x = some (.ref W)) (hW : HCls X.K W)
      (hs : ∀ (h : Option Value) (pn : List (Addr × Obj)), PSs (X.inSuite (X.A.mark h) pn) (b0 :: suite) ts) (hd : (x == ("__debug__" : Str)) = false) (t : Hs X hl r) :
      Hs X (.ExceptHandler (some (.Name x np)) none (b0 :: suite) hpos :: hl) ((W, ts) :: r)
/-- the first handler that takes the class C -/
def pickH (K : PySem.W.Frag) (C : Addr) : List (Addr × TS) → Ends → St → Hp → Prop
  | [], _, _, _ => False
  | (W, ts) :: r, D, σ, H => (PySem.W.subIn K (.ref C) (.ref W) = some true ∧ ts D σ H) ∨ (PySem.W.subIn K (.ref C) (.ref W) = some false ∧ pickH K C r D σ H)
def tTryN (K : PySem.W.Frag) (cs : List (Addr × TS)) (tb : (St → XK) → TS) : TS := fun D σ H => tb (fun σ' c _ H' => ∃ C, c = .ref C ∧ pickH K C cs D σ' H') D σ H
theorem ps_tryN {h0 : ExceptHandler} {hl : List ExceptHandler} {cs : List (Addr × TS)} (hex : X.ex = []) (hsk : X.stack = X.env :: X.outer) (hfr : X.env.frame = some X.env.locals)
    (hb : ∀ (pn : List (Addr × Obj)) (xe : Value → Shared → Prop) (E : St → XK), PassesS (CXF X.prog X.w) (X.inTry pn xe) E → PSs (X.inTry pn xe) body (tb E))
    (hh : Hs X (h0 :: hl) cs) : PS X (.Try body (h0 :: hl) [] [] pos) (tTryN X.K cs tb) := by
  intro pins s σ H D I h
  refine wpAny_Try_except ?_
  refine wpAny_mono (hb (X.pn ++ pins) _ _ ?_ [] s σ H D I.inTry h) (fun f s1 q => ?_) (fun e s1 q => q)
  · intro pins' σ' H1 s1 e s' I1 hq
    obtain ⟨ea, C, t, B, H', rfl, F, C', hC', hth⟩ := hq
    cases hC'
    have I1 := I1.ofTry (pins' := pins')
    have F : Fly X.prog X.w X.stack H1 s1 ea C t B H' s' := F
    have bB : ∀ b o, X.base.get? b = some o → B.get? b = some o := fun b o e => by
      obtain ⟨e1, n1⟩ := I1.bs b o e
      refine F.old b o e1 n1 fun hb => ?_
      have := (I1.stack.mem hb).1
      rw [e] at this; cases this
    show wpAny (model X.prog X.w) X.A (noteFrame (.ref ea) X.env) _ X.xe s'
    refine wpAny_looks_onW (base := B) (env := X.env) (outer := X.outer) (L := X.env.locals) (by rw [I1.ok.frames, hsk]) hfr (by rw [← hsk]; exact F.fly) fun h4 held4 u4 => ?_
    refine wpAny_landsW held4 fun h5 fly5 u5 => ?_
    have k5 : ∀ b o, X.base.get? b = some o → h5.get? b = some o := fun b o e => fly5.1 b o (bB b o e)
    have x5 : excAt ea C h5 := let ⟨o, e, c⟩ := fly5.there; ⟨o, e, c⟩
    clear h hb
    generalize h0 :: hl = hall at hh ⊢
    induction hh with
    | nil => exact False.elim hth
    | @cons x np hpos W b0 suite ts hl r hg hm hW hs hd t ih =>
      refine wpAny_handleBy_cons (codeAny_handlers_test ?_) (by intro q; cases q)
      refine Calls.Name_function_global I1.ok.kind hg (Calls.loadGlobal_global (by rw [I1.ok.glob]; exact I1.mod.glob.keeps k5) hm ?_) hd
      rcases hth with ⟨hsub, hth⟩ | ⟨hsub, hth⟩
      · refine excMatches_own (I1.ok.mod.kin.keeps k5) x5 hW hsub ?_
        refine codeAny_handlers_suite ?_
        refine lands_againW fly5 fun h6 fly6 u6 => ?_
        have I7 := F.inv I1 fly6.1 ((u4.trans u5).trans u6)
        have h7 := hs (some (.ref ea)) (X.pn ++ pins) [] _ _ _ D I7.inSuite hth
        refine wpAny_mono h7 (fun f s8 q8 => ?_) fun _ _ z => False.elim z
        show SP X pins D f s8
        cases f with
        | next =>
          obtain ⟨σ8, H8, I8, q8⟩ := q8
          exact ⟨_, H8, I8.ofSuite I1.ok, q8⟩
        | brk =>
          obtain ⟨σ8, H8, I8, q8⟩ := q8
          exact ⟨_, H8, I8.ofSuite I1.ok, q8⟩
        | cont =>
          obtain ⟨σ8, H8, I8, q8⟩ := q8
          exact ⟨_, H8, I8.ofSuite I1.ok, q8⟩
        | ret u =>
          obtain ⟨v, σ8, H8, I8, r8, q8⟩ := q8
          exact ⟨v, _, H8, I8.ofSuite I1.ok, r8, q8⟩
      · refine excMatches_own (I1.ok.mod.kin.keeps k5) x5 hW hsub ?_
        exact ih hth
  · have q := q.ofTry
    cases f with
    | next => exact wpAny_execs_nil q
    | brk => exact q
    | cont => exact q
    | ret u => exact q
end
end L2

set_option Elab.async false
set_option linter.all false
set_option maxRecDepth 100000
set_option maxHeartbeats 4000000
/-! PARCELWALL: the mirror, the data, the promises of the defs that the texts share. -/
namespace Pw
open PySem L2

/-! ### draws -/
def cellOf (ns : List Int) (k : Int) : Int := if 0 < ns.length then ns.getD (k % (ns.length : Int)).toNat 0 else 7
def drawn (ns : List Int) (k many : Int) : Int :=
  ((((cellOf ns k * 48271 + (k + 1) * 7919 + (ns.length : Int)) % 2147483647) * ((cellOf ns k * 48271 + (k + 1) * 7919 + (ns.length : Int)) % 2147483647) + k * 16807 + 11) % 2147483647) * 48271 % 2147483647 / 16 % many
theorem drawn_lo (ns : List Int) (k : Int) {many : Int} (h : 0 < many) : 0 ≤ drawn ns k many := Int.emod_nonneg _ (by (first | lia | omega))
theorem drawn_hi (ns : List Int) (k : Int) {many : Int} (h : 0 < many) : drawn ns k many < many := Int.emod_lt_of_pos _ h
/-- _law_drawn(script, k, many) -/
def spDrawn (K : PySem.W.Frag) : Sp := fun vs H Q _ => ∃ (a : Addr) (ns : List Int) (k many : Int), vs = [.ref a, .int k, .int many] ∧ SqL K H a (ns.map V.int) ∧ ns.length ≤ 63 ∧ 0 ≤ k ∧ k < 1000000 ∧ 0 < many ∧ many < 1000000 ∧ Q (.int (drawn ns k many)) H
/-- _law_whole(found): an int -/
def spWhole : Sp := fun vs H Q _ => ∃ i : Int, vs = [.int i] ∧ Q (.bl true) H
/-- _law_row(found, due): the same ints -/
def spRow (K : PySem.W.Frag) : Sp := fun vs H Q _ => ∃ (a b : Addr) (xs : List Int), vs = [.ref a, .ref b] ∧ H a = some (.lst (xs.map V.int)) ∧ SqL K H b (xs.map V.int) ∧ xs.length ≤ 1000000 ∧ Q (.bl true) H
/-- None or a number -/
def oV : Option Int → V
  | none => .non
  | some i => .int i
/-- _law_held(found, due): the same -/
def spHeldEq (K : PySem.W.Frag) : Sp := fun vs H Q _ => ∃ (a b : Addr) (xs : List (Option Int)), vs = [.ref a, .ref b] ∧ H a = some (.lst (xs.map oV)) ∧ SqL K H b (xs.map oV) ∧ xs.length ≤ 1000000 ∧ Q (.bl true) H

/-! ### sizes of a wall -/
def okSizes (sz : List Int) : Bool := decide (1 ≤ sz.length) && decide (sz.length ≤ 8) && sz.all fun z => decide (1 ≤ z) && decide (z ≤ 9)
/-- in_bounds(number) -/
def spBounds : Sp := fun vs H Q _ => ∃ n : Int, vs = [.int n] ∧ Q (.bl (decide (1 ≤ n) && decide (n ≤ 9))) H
/-- check_wall(sizes) -/
def spCheckWall (K : PySem.W.Frag) (cNW : Addr) : Sp := fun vs H Q E => ∃ (a : Addr) (sz : List Int), vs = [.ref a] ∧ SqL K H a (sz.map V.int) ∧ (okSizes sz = true → Q .non H) ∧ (okSizes sz = false → E (.ref cNW) none H)

/-! ### a wall as it stands -/
/-- a parcel: its object, its number, its size, its last night -/
structure Pc where
  ad : Addr
  num : Int
  size : Int
  last : Int
structure Wl where
  sz : List Int
  ps : List (Option Pc)
  came : Int
  gone : Int
def pV : Option Pc → V
  | none => .non
  | some p => .ref p.ad
def wflds (l1 l2 : Addr) (came gone : Int) : List (Str × V) := putF "nights_gone" (.int gone) (putF "came" (.int came) (putF "parcels" (.ref l2) (putF "box_sizes" (.ref l1) [])))
def pflds (n z l : Int) : List (Str × V) := putF "last_night" (.int l) (putF "size" (.int z) (putF "number" (.int n) []))
structure WallAt (cW cP : Addr) (H : Hp) (p l1 l2 : Addr) (w : Wl) : Prop where
  ob : ∃ dx, H p = some (.ins cW dx (wflds l1 l2 w.came w.gone))
  s1 : H l1 = some (.lst (w.sz.map V.int))
  s2 : H l2 = some (.lst (w.ps.map pV))
  pc : ∀ q, some q ∈ w.ps → ∃ dx, H q.ad = some (.ins cP dx (pflds q.num q.size q.last))
  len : w.ps.length = w.sz.length
  few : w.sz.length ≤ 8
  ne : l1 ≠ l2
  pn : ∀ q, some q ∈ w.ps → q.ad ≠ p
def heldOf (w : Wl) : List (Option Int) := w.ps.map fun o => o.map (·.num)
def freeOf (w : Wl) : List Int := ((List.range w.ps.length).filter fun i => (w.ps[i]?.join).isNone).map (fun i : Nat => (i : Int))
theorem WallAt.mono {cW cP : Addr} {H H' : Hp} {p l1 l2 : Addr} {w : Wl} (W : WallAt cW cP H p l1 l2 w) (s : Same H H') : WallAt cW cP H' p l1 l2 w :=
  ⟨let ⟨dx, h⟩ := W.ob; ⟨dx, s _ _ h⟩, s _ _ W.s1, s _ _ W.s2, fun q hq => let ⟨dx, h⟩ := W.pc q hq; ⟨dx, s _ _ h⟩, W.len, W.few, W.ne, W.pn⟩
theorem ne1 : ¬ (("box_sizes" : Str) = "parcels") := by decide +kernel
theorem ne2 : ¬ (("box_sizes" : Str) = "came") := by decide +kernel
theorem ne3 : ¬ (("box_sizes" : Str) = "nights_gone") := by decide +kernel
theorem ne4 : ¬ (("parcels" : Str) = "came") := by decide +kernel
theorem ne5 : ¬ (("parcels" : Str) = "nights_gone") := by decide +kernel
theorem ne6 : ¬ (("came" : Str) = "nights_gone") := by decide +kernel
theorem wf_sizes (l1 l2 : Addr) (c g : Int) : (wflds l1 l2 c g).lookup ("box_sizes" : Str) = some (.ref l1) := by
  unfold wflds; rw [lookup_putF, if_neg ne3, lookup_putF, if_neg ne2, lookup_putF, if_neg ne1, lookup_putF, if_pos rfl]
theorem wf_parcels (l1 l2 : Addr) (c g : Int) : (wflds l1 l2 c g).lookup ("parcels" : Str) = some (.ref l2) := by
  unfold wflds; rw [lookup_putF, if_neg ne5, lookup_putF, if_neg ne4, lookup_putF, if_pos rfl]
theorem wf_came (l1 l2 : Addr) (c g : Int) : (wflds l1 l2 c g).lookup ("came" : Str) = some (.int c) := by
  unfold wflds; rw [lookup_putF, if_neg ne6, lookup_putF, if_pos rfl]
theorem wf_gone (l1 l2 : Addr) (c g : Int) : (wflds l1 l2 c g).lookup ("nights_gone" : Str) = some (.int g) := by
  unfold wflds; rw [lookup_putF, if_pos rfl]
theorem wf_no (l1 l2 : Addr) (c g : Int) {m : Str} (h1 : ¬ m = "box_sizes") (h2 : ¬ m = "parcels") (h3 : ¬ m = "came") (h4 : ¬ m = "nights_gone") : (wflds l1 l2 c g).lookup m = none := by
  unfold wflds; rw [lookup_putF, if_neg h4, lookup_putF, if_neg h3, lookup_putF, if_neg h2, lookup_putF, if_neg h1]; rfl
/-- what the walk asks of the class Wall -/
structure WTxt (K : PySem.W.Frag) (cW : Addr) : Prop where
  cl : Cls K cW
  n1 : NoAttr K cW "box_sizes"
  n2 : NoAttr K cW "parcels"
  n3 : NoAttr K cW "came"
  n4 : NoAttr K cW "nights_gone"
structure PTxt (K : PySem.W.Frag) (cP : Addr) : Prop where
  cl : Cls K cP
  n1 : NoAttr K cP "number"
  n2 : NoAttr K cP "size"
  n3 : NoAttr K cP "last_night"
/-- Wall.__init__ -/
def spInit (K : PySem.W.Frag) (cW cP cNW : Addr) : Sp := fun vs H Q E => ∃ (p dx a : Addr) (sz : List Int), vs = [.ref p, .ref a] ∧ H p = some (.ins cW dx []) ∧ SqL K H a (sz.map V.int) ∧
  (okSizes sz = true → ∀ (l1 l2 : Addr) (H' : Hp), H l1 = none → H l2 = none → WallAt cW cP H' p l1 l2 ⟨sz, List.replicate sz.length none, 0, 0⟩ → (∀ b o, H b = some o → b ≠ p → H' b = some o) → Q .non H') ∧ (okSizes sz = false → E (.ref cNW) none H)
/-- a new list is told, all else stays -/
def tells (H : Hp) (xs : List V) (Q : VK) : Prop := ∀ (l : Addr) (H' : Hp), H l = none → Same H H' → H' l = some (.lst xs) → Q (.ref l) H'
def spHeld (cW cP : Addr) : Sp := fun vs H Q _ => ∃ (p l1 l2 : Addr) (w : Wl), vs = [.ref p] ∧ WallAt cW cP H p l1 l2 w ∧ tells H ((heldOf w).map oV) Q
def spFree (cW cP : Addr) : Sp := fun vs H Q _ => ∃ (p l1 l2 : Addr) (w : Wl), vs = [.ref p] ∧ WallAt cW cP H p l1 l2 w ∧ tells H ((freeOf w).map V.int) Q
theorem ixN_nat {n j : Nat} {i : Int} (e : i = (j : Int)) (h : j < n) : ixN n i = some j := by
  subst e; unfold ixN; rw [if_pos (by (first | lia | omega)), if_pos (by (first | lia | omega))]; simp
theorem iteFe {b : Bool} {A B : Prop} (e : b = false) (h : B) : if b = true then A else B := by subst e; exact iteF h
theorem iteTe {b : Bool} {A B : Prop} (e : b = true) (h : A) : if b = true then A else B := by subst e; exact iteT h
theorem sameR {H : Hp} : Same H H := fun _ _ e => e
/-- the body of a for -/
def forBody : Stmt → List Stmt
  | .For _ _ b _ _ => b
  | _ => []
/-- law(script): a list of at most 63 ints; True comes back -/
def spLaw (K : PySem.W.Frag) : Sp := fun vs H Q _ => ∃ (a : Addr) (ns : List Int), vs = [.ref a] ∧ SqL K H a (ns.map V.int) ∧ ns.length ≤ 63 ∧ ∀ H', Q (.bl true) H'
/-! ### parcels come, are fetched, moved -/
def okNum (z : Int) : Bool := decide (1 ≤ z) && decide (z ≤ 9)
/-- check_size(size), check_nights(nights) -/
def spCheckNum (c : Addr) : Sp := fun vs H Q E => ∃ z : Int, vs = [.int z] ∧ (okNum z = true → Q .non H) ∧ (okNum z = false → E (.ref c) none H)
/-- Parcel.__init__ -/
def spParcel (cP : Addr) : Sp := fun vs H Q _ => ∃ (x dx : Addr) (n z l : Int), vs = [.ref x, .int n, .int z, .int l] ∧ H x = some (.ins cP dx []) ∧ ∀ H', H' x = some (.ins cP dx (pflds n z l)) → (∀ b, b ≠ x → H' b = H b) → Q .non H'
/-- box i is empty and holds the size -/
def fitsAt (w : Wl) (size : Int) (i : Nat) : Prop := i < w.ps.length ∧ (w.ps[i]?.join).isNone = true ∧ size ≤ w.sz.getD i 0
def boxesFor (w : Wl) (size : Int) : List Int := (freeOf w).filter fun b => decide (size ≤ w.sz.getD b.toNat 0)
def spBoxesFor (cW cP : Addr) : Sp := fun vs H Q _ => ∃ (p l1 l2 : Addr) (w : Wl) (size : Int), vs = [.ref p, .int size] ∧ WallAt cW cP H p l1 l2 w ∧ tells H ((boxesFor w size).map V.int) Q
def IsLeast (w : Wl) (size : Int) (b : Nat) : Prop := fitsAt w size b ∧ ∀ c : Nat, fitsAt w size c → pLt (w.sz.getD c 0, (c : Int)) (w.sz.getD b 0, (b : Int)) = false
def NoneFits (w : Wl) (size : Int) : Prop := ∀ c : Nat, ¬ fitsAt w size c
def spLeastBox (cW cP cNB : Addr) : Sp := fun vs H Q E => ∃ (p l1 l2 : Addr) (w : Wl) (size : Int), vs = [.ref p, .int size] ∧ WallAt cW cP H p l1 l2 w ∧ (NoneFits w size → ∀ H', Same H H' → E (.ref cNB) none H') ∧ (∀ b : Nat, IsLeast w size b → ∀ H', Same H H' → Q (.int b) H')
def Wl.comes (w : Wl) (b : Nat) (ad : Addr) (size nights : Int) : Wl := ⟨w.sz, w.ps.set b (some ⟨ad, w.came, size, w.gone + nights⟩), w.came + 1, w.gone⟩
/-- all stays but the wall's object and its list of parcels -/
def Keeps (H H' : Hp) (p l2 : Addr) : Prop := ∀ b o, H b = some o → b ≠ p → b ≠ l2 → H' b = some o
def spCome (cW cP cNS cNN cNB : Addr) : Sp := fun vs H Q E => ∃ (p l1 l2 : Addr) (w : Wl) (size nights : Int), vs = [.ref p, .int size, .int nights] ∧ WallAt cW cP H p l1 l2 w ∧
  (okNum size = false → E (.ref cNS) none H) ∧ (okNum size = true → okNum nights = false → E (.ref cNN) none H) ∧
  (okNum size = true → okNum nights = true → NoneFits w size → ∀ H', Same H H' → E (.ref cNB) none H') ∧
  (okNum size = true → okNum nights = true → ∀ b : Nat, IsLeast w size b → ∀ (ad : Addr) (H' : Hp), H ad = none → WallAt cW cP H' p l1 l2 (w.comes b ad size nights) → Keeps H H' p l2 → Q (.int w.came) H')
/-- the first place of a number -/
def FirstAt (xs : List (Option Int)) (n : Int) (b : Nat) : Prop := xs[b]? = some (some n) ∧ ∀ m, m < b → xs[m]? ≠ some (some n)
def spBoxOf (cW cP cNP : Addr) : Sp := fun vs H Q E => ∃ (p l1 l2 : Addr) (w : Wl) (n : Int), vs = [.ref p, .int n] ∧ WallAt cW cP H p l1 l2 w ∧ (some n ∉ heldOf w → ∀ H', Same H H' → E (.ref cNP) none H') ∧ (∀ b, FirstAt (heldOf w) n b → ∀ H', Same H H' → Q (.int (b : Nat)) H')
def Wl.gone_at (w : Wl) (b : Nat) : Wl := ⟨w.sz, w.ps.set b none, w.came, w.gone⟩
def spFetch (cW cP cNP : Addr) : Sp := fun vs H Q E => ∃ (p l1 l2 : Addr) (w : Wl) (n : Int), vs = [.ref p, .int n] ∧ WallAt cW cP H p l1 l2 w ∧ (some n ∉ heldOf w → ∀ H', Same H H' → E (.ref cNP) none H') ∧
  (∀ b, FirstAt (heldOf w) n b → ∀ H', WallAt cW cP H' p l1 l2 (w.gone_at b) → Keeps H H' p l2 → Q (.int (b : Nat)) H')
/-- a def of the text that a law calls -/
structure Gd (P : Program) (w : World) (K : PySem.W.Frag) (mg : Str → Option Value) (base : Heap) (x : Str) (st : Stmt) (ps : List Str) (CX : CXT) (k : Nat) (sp : Sp) (f : Addr) (fd : FuncData) : Prop where
  F : Fun K x x st f fd
  b : Binds K fd ps []
  m : mg x = some (.ref f)
  G : FnOk P w K mg base CX k f fd ps sp
/-- a method -/
structure Md (P : Program) (w : World) (K : PySem.W.Frag) (mg : Str → Option Value) (base : Heap) (C : Addr) (m : Str) (ps : List Str) (CX : CXT) (k : Nat) (sp : Sp) (f : Addr) (fd : FuncData) : Prop where
  b : Binds K fd ps []
  me : Meth K C m f
  G : FnOk P w K mg base CX k f fd ps sp
/-- an own error class that is raised -/
structure Rs (K : PySem.W.Frag) (mg : Str → Option Value) (cWE c : Addr) (nm : Str) : Prop where
  xc : XCls K c (.ref cWE :: mroVE) "ValueError.__new__"
  xt : XTail K (.ref cWE :: mroVE)
  m : mg nm = some (.ref c)
end Pw

set_option Elab.async false
set_option linter.all false
/-! one rule for what a tuple of a run says in many: the object is smaller -/
namespace L2
open PySem PyProof.Rows
theorem evr {α : Sort _} {A R : α → Prop} {x : α} (h : A x) (k : R x) : ∃ x, A x ∧ R x := ⟨x, h, k⟩
theorem ev2 {α β : Sort _} {A : α → Prop} {B : β → Prop} {R : α → β → Prop} {x : α} {y : β} (h : A x) (h' : B y) (k : R x y) : ∃ x y, A x ∧ B y ∧ R x y := ⟨x, y, h, h', k⟩
theorem evv {α β : Sort _} {A : α → Prop} {B R : α → β → Prop} {x : α} {y : β} (h : A x) (h' : B x y) (k : R x y) : ∃ x, A x ∧ ∃ y, B x y ∧ R x y := ⟨x, h, y, h', k⟩
theorem ev3r {α β γ : Sort _} {A : α → Prop} {B : α → β → Prop} {C R : α → β → γ → Prop} {x : α} {y : β} {z : γ} (h : A x) (h' : B x y) (h'' : C x y z) (k : R x y z) : ∃ x, A x ∧ ∃ y, B x y ∧ ∃ z, C x y z ∧ R x y z := ⟨x, h, y, h', z, h'', k⟩
theorem ev4r {α β γ δ : Sort _} {A : α → Prop} {B : α → β → Prop} {C : α → β → γ → Prop} {D R : α → β → γ → δ → Prop} {x : α} {y : β} {z : γ} {u : δ} (h : A x) (h' : B x y) (h'' : C x y z) (h3 : D x y z u) (k : R x y z u) : ∃ x, A x ∧ ∃ y, B x y ∧ ∃ z, C x y z ∧ ∃ u, D x y z u ∧ R x y z u := ⟨x, h, y, h', z, h'', u, h3, k⟩
theorem ix4 {S : Addr → List V → Prop} {p : Addr} {xs : List V} {i : Int} {v : V} {Q : V → Prop} (h1 : S p xs) (h2 : atI xs i = some v) (k : Q v) :
    ∃ p' xs' i' v', V.ref p = .ref p' ∧ V.int i = .int i' ∧ S p' xs' ∧ atI xs' i' = some v' ∧ Q v' := ⟨p, xs, i, v, rfl, rfl, h1, h2, k⟩
theorem vix {a : Option (Option V)} {S : Addr → List V → Prop} {p : Addr} {xs : List V} {i : Int} {v : V} {Q : V → Prop} (e : a = some (some (.ref p))) (h1 : S p xs) (h2 : atI xs i = some v) (k : Q v) :
    ∃ x, a = some (some x) ∧ ∃ p' xs' i' v', x = .ref p' ∧ V.int i = .int i' ∧ S p' xs' ∧ atI xs' i' = some v' ∧ Q v' := ⟨_, e, p, xs, i, v, rfl, rfl, h1, h2, k⟩


theorem ex3 {α0 α1 α2 : Sort _} {P : α0 → α1 → α2 → Prop} (x0 : α0) (x1 : α1) (x2 : α2) (h : P x0 x1 x2) : ∃ x0 x1 x2, P x0 x1 x2 := ⟨x0, x1, x2, h⟩
theorem ex4 {α0 α1 α2 α3 : Sort _} {P : α0 → α1 → α2 → α3 → Prop} (x0 : α0) (x1 : α1) (x2 : α2) (x3 : α3) (h : P x0 x1 x2 x3) : ∃ x0 x1 x2 x3, P x0 x1 x2 x3 := ⟨x0, x1, x2, x3, h⟩
theorem mk2_2 {α0 α1 : Sort _} {A0 A1 : α0 → α1 → Prop} (x0 : α0) (x1 : α1) (h0 : A0 x0 x1) (h1 : A1 x0 x1) : ∃ x0 x1, A0 x0 x1 ∧ A1 x0 x1 := ⟨x0, x1, h0, h1⟩
theorem mk2_3 {α0 α1 : Sort _} {A0 A1 A2 : α0 → α1 → Prop} (x0 : α0) (x1 : α1) (h0 : A0 x0 x1) (h1 : A1 x0 x1) (h2 : A2 x0 x1) : ∃ x0 x1, A0 x0 x1 ∧ A1 x0 x1 ∧ A2 x0 x1 := ⟨x0, x1, h0, h1, h2⟩
theorem mk2_4 {α0 α1 : Sort _} {A0 A1 A2 A3 : α0 → α1 → Prop} (x0 : α0) (x1 : α1) (h0 : A0 x0 x1) (h1 : A1 x0 x1) (h2 : A2 x0 x1) (h3 : A3 x0 x1) : ∃ x0 x1, A0 x0 x1 ∧ A1 x0 x1 ∧ A2 x0 x1 ∧ A3 x0 x1 := ⟨x0, x1, h0, h1, h2, h3⟩
theorem mk2_9 {α0 α1 : Sort _} {A0 A1 A2 A3 A4 A5 A6 A7 A8 : α0 → α1 → Prop} (x0 : α0) (x1 : α1) (h0 : A0 x0 x1) (h1 : A1 x0 x1) (h2 : A2 x0 x1) (h3 : A3 x0 x1) (h4 : A4 x0 x1) (h5 : A5 x0 x1) (h6 : A6 x0 x1) (h7 : A7 x0 x1) (h8 : A8 x0 x1) : ∃ x0 x1, A0 x0 x1 ∧ A1 x0 x1 ∧ A2 x0 x1 ∧ A3 x0 x1 ∧ A4 x0 x1 ∧ A5 x0 x1 ∧ A6 x0 x1 ∧ A7 x0 x1 ∧ A8 x0 x1 := ⟨x0, x1, h0, h1, h2, h3, h4, h5, h6, h7, h8⟩
theorem mk3_3 {α0 α1 α2 : Sort _} {A0 A1 A2 : α0 → α1 → α2 → Prop} (x0 : α0) (x1 : α1) (x2 : α2) (h0 : A0 x0 x1 x2) (h1 : A1 x0 x1 x2) (h2 : A2 x0 x1 x2) : ∃ x0 x1 x2, A0 x0 x1 x2 ∧ A1 x0 x1 x2 ∧ A2 x0 x1 x2 := ⟨x0, x1, x2, h0, h1, h2⟩
theorem mk3_4 {α0 α1 α2 : Sort _} {A0 A1 A2 A3 : α0 → α1 → α2 → Prop} (x0 : α0) (x1 : α1) (x2 : α2) (h0 : A0 x0 x1 x2) (h1 : A1 x0 x1 x2) (h2 : A2 x0 x1 x2) (h3 : A3 x0 x1 x2) : ∃ x0 x1 x2, A0 x0 x1 x2 ∧ A1 x0 x1 x2 ∧ A2 x0 x1 x2 ∧ A3 x0 x1 x2 := ⟨x0, x1, x2, h0, h1, h2, h3⟩
theorem mk3_5 {α0 α1 α2 : Sort _} {A0 A1 A2 A3 A4 : α0 → α1 → α2 → Prop} (x0 : α0) (x1 : α1) (x2 : α2) (h0 : A0 x0 x1 x2) (h1 : A1 x0 x1 x2) (h2 : A2 x0 x1 x2) (h3 : A3 x0 x1 x2) (h4 : A4 x0 x1 x2) : ∃ x0 x1 x2, A0 x0 x1 x2 ∧ A1 x0 x1 x2 ∧ A2 x0 x1 x2 ∧ A3 x0 x1 x2 ∧ A4 x0 x1 x2 := ⟨x0, x1, x2, h0, h1, h2, h3, h4⟩
theorem mk3_6 {α0 α1 α2 : Sort _} {A0 A1 A2 A3 A4 A5 : α0 → α1 → α2 → Prop} (x0 : α0) (x1 : α1) (x2 : α2) (h0 : A0 x0 x1 x2) (h1 : A1 x0 x1 x2) (h2 : A2 x0 x1 x2) (h3 : A3 x0 x1 x2) (h4 : A4 x0 x1 x2) (h5 : A5 x0 x1 x2) : ∃ x0 x1 x2, A0 x0 x1 x2 ∧ A1 x0 x1 x2 ∧ A2 x0 x1 x2 ∧ A3 x0 x1 x2 ∧ A4 x0 x1 x2 ∧ A5 x0 x1 x2 := ⟨x0, x1, x2, h0, h1, h2, h3, h4, h5⟩
theorem mk3_9 {α0 α1 α2 : Sort _} {A0 A1 A2 A3 A4 A5 A6 A7 A8 : α0 → α1 → α2 → Prop} (x0 : α0) (x1 : α1) (x2 : α2) (h0 : A0 x0 x1 x2) (h1 : A1 x0 x1 x2) (h2 : A2 x0 x1 x2) (h3 : A3 x0 x1 x2) (h4 : A4 x0 x1 x2) (h5 : A5 x0 x1 x2) (h6 : A6 x0 x1 x2) (h7 : A7 x0 x1 x2) (h8 : A8 x0 x1 x2) : ∃ x0 x1 x2, A0 x0 x1 x2 ∧ A1 x0 x1 x2 ∧ A2 x0 x1 x2 ∧ A3 x0 x1 x2 ∧ A4 x0 x1 x2 ∧ A5 x0 x1 x2 ∧ A6 x0 x1 x2 ∧ A7 x0 x1 x2 ∧ A8 x0 x1 x2 := ⟨x0, x1, x2, h0, h1, h2, h3, h4, h5, h6, h7, h8⟩
theorem mk4_5 {α0 α1 α2 α3 : Sort _} {A0 A1 A2 A3 A4 : α0 → α1 → α2 → α3 → Prop} (x0 : α0) (x1 : α1) (x2 : α2) (x3 : α3) (h0 : A0 x0 x1 x2 x3) (h1 : A1 x0 x1 x2 x3) (h2 : A2 x0 x1 x2 x3) (h3 : A3 x0 x1 x2 x3) (h4 : A4 x0 x1 x2 x3) : ∃ x0 x1 x2 x3, A0 x0 x1 x2 x3 ∧ A1 x0 x1 x2 x3 ∧ A2 x0 x1 x2 x3 ∧ A3 x0 x1 x2 x3 ∧ A4 x0 x1 x2 x3 := ⟨x0, x1, x2, x3, h0, h1, h2, h3, h4⟩
theorem mk4_6 {α0 α1 α2 α3 : Sort _} {A0 A1 A2 A3 A4 A5 : α0 → α1 → α2 → α3 → Prop} (x0 : α0) (x1 : α1) (x2 : α2) (x3 : α3) (h0 : A0 x0 x1 x2 x3) (h1 : A1 x0 x1 x2 x3) (h2 : A2 x0 x1 x2 x3) (h3 : A3 x0 x1 x2 x3) (h4 : A4 x0 x1 x2 x3) (h5 : A5 x0 x1 x2 x3) : ∃ x0 x1 x2 x3, A0 x0 x1 x2 x3 ∧ A1 x0 x1 x2 x3 ∧ A2 x0 x1 x2 x3 ∧ A3 x0 x1 x2 x3 ∧ A4 x0 x1 x2 x3 ∧ A5 x0 x1 x2 x3 := ⟨x0, x1, x2, x3, h0, h1, h2, h3, h4, h5⟩
theorem mk4_7 {α0 α1 α2 α3 : Sort _} {A0 A1 A2 A3 A4 A5 A6 : α0 → α1 → α2 → α3 → Prop} (x0 : α0) (x1 : α1) (x2 : α2) (x3 : α3) (h0 : A0 x0 x1 x2 x3) (h1 : A1 x0 x1 x2 x3) (h2 : A2 x0 x1 x2 x3) (h3 : A3 x0 x1 x2 x3) (h4 : A4 x0 x1 x2 x3) (h5 : A5 x0 x1 x2 x3) (h6 : A6 x0 x1 x2 x3) : ∃ x0 x1 x2 x3, A0 x0 x1 x2 x3 ∧ A1 x0 x1 x2 x3 ∧ A2 x0 x1 x2 x3 ∧ A3 x0 x1 x2 x3 ∧ A4 x0 x1 x2 x3 ∧ A5 x0 x1 x2 x3 ∧ A6 x0 x1 x2 x3 := ⟨x0, x1, x2, x3, h0, h1, h2, h3, h4, h5, h6⟩
theorem mk4_8 {α0 α1 α2 α3 : Sort _} {A0 A1 A2 A3 A4 A5 A6 A7 : α0 → α1 → α2 → α3 → Prop} (x0 : α0) (x1 : α1) (x2 : α2) (x3 : α3) (h0 : A0 x0 x1 x2 x3) (h1 : A1 x0 x1 x2 x3) (h2 : A2 x0 x1 x2 x3) (h3 : A3 x0 x1 x2 x3) (h4 : A4 x0 x1 x2 x3) (h5 : A5 x0 x1 x2 x3) (h6 : A6 x0 x1 x2 x3) (h7 : A7 x0 x1 x2 x3) : ∃ x0 x1 x2 x3, A0 x0 x1 x2 x3 ∧ A1 x0 x1 x2 x3 ∧ A2 x0 x1 x2 x3 ∧ A3 x0 x1 x2 x3 ∧ A4 x0 x1 x2 x3 ∧ A5 x0 x1 x2 x3 ∧ A6 x0 x1 x2 x3 ∧ A7 x0 x1 x2 x3 := ⟨x0, x1, x2, x3, h0, h1, h2, h3, h4, h5, h6, h7⟩
theorem mk4_9 {α0 α1 α2 α3 : Sort _} {A0 A1 A2 A3 A4 A5 A6 A7 A8 : α0 → α1 → α2 → α3 → Prop} (x0 : α0) (x1 : α1) (x2 : α2) (x3 : α3) (h0 : A0 x0 x1 x2 x3) (h1 : A1 x0 x1 x2 x3) (h2 : A2 x0 x1 x2 x3) (h3 : A3 x0 x1 x2 x3) (h4 : A4 x0 x1 x2 x3) (h5 : A5 x0 x1 x2 x3) (h6 : A6 x0 x1 x2 x3) (h7 : A7 x0 x1 x2 x3) (h8 : A8 x0 x1 x2 x3) : ∃ x0 x1 x2 x3, A0 x0 x1 x2 x3 ∧ A1 x0 x1 x2 x3 ∧ A2 x0 x1 x2 x3 ∧ A3 x0 x1 x2 x3 ∧ A4 x0 x1 x2 x3 ∧ A5 x0 x1 x2 x3 ∧ A6 x0 x1 x2 x3 ∧ A7 x0 x1 x2 x3 ∧ A8 x0 x1 x2 x3 := ⟨x0, x1, x2, x3, h0, h1, h2, h3, h4, h5, h6, h7, h8⟩
theorem mk5_10 {α0 α1 α2 α3 α4 : Sort _} {A0 A1 A2 A3 A4 A5 A6 A7 A8 A9 : α0 → α1 → α2 → α3 → α4 → Prop} (x0 : α0) (x1 : α1) (x2 : α2) (x3 : α3) (x4 : α4) (h0 : A0 x0 x1 x2 x3 x4) (h1 : A1 x0 x1 x2 x3 x4) (h2 : A2 x0 x1 x2 x3 x4) (h3 : A3 x0 x1 x2 x3 x4) (h4 : A4 x0 x1 x2 x3 x4) (h5 : A5 x0 x1 x2 x3 x4) (h6 : A6 x0 x1 x2 x3 x4) (h7 : A7 x0 x1 x2 x3 x4) (h8 : A8 x0 x1 x2 x3 x4) (h9 : A9 x0 x1 x2 x3 x4) : ∃ x0 x1 x2 x3 x4, A0 x0 x1 x2 x3 x4 ∧ A1 x0 x1 x2 x3 x4 ∧ A2 x0 x1 x2 x3 x4 ∧ A3 x0 x1 x2 x3 x4 ∧ A4 x0 x1 x2 x3 x4 ∧ A5 x0 x1 x2 x3 x4 ∧ A6 x0 x1 x2 x3 x4 ∧ A7 x0 x1 x2 x3 x4 ∧ A8 x0 x1 x2 x3 x4 ∧ A9 x0 x1 x2 x3 x4 := ⟨x0, x1, x2, x3, x4, h0, h1, h2, h3, h4, h5, h6, h7, h8, h9⟩
theorem mk5_3 {α0 α1 α2 α3 α4 : Sort _} {A0 A1 A2 : α0 → α1 → α2 → α3 → α4 → Prop} (x0 : α0) (x1 : α1) (x2 : α2) (x3 : α3) (x4 : α4) (h0 : A0 x0 x1 x2 x3 x4) (h1 : A1 x0 x1 x2 x3 x4) (h2 : A2 x0 x1 x2 x3 x4) : ∃ x0 x1 x2 x3 x4, A0 x0 x1 x2 x3 x4 ∧ A1 x0 x1 x2 x3 x4 ∧ A2 x0 x1 x2 x3 x4 := ⟨x0, x1, x2, x3, x4, h0, h1, h2⟩
theorem mk5_4 {α0 α1 α2 α3 α4 : Sort _} {A0 A1 A2 A3 : α0 → α1 → α2 → α3 → α4 → Prop} (x0 : α0) (x1 : α1) (x2 : α2) (x3 : α3) (x4 : α4) (h0 : A0 x0 x1 x2 x3 x4) (h1 : A1 x0 x1 x2 x3 x4) (h2 : A2 x0 x1 x2 x3 x4) (h3 : A3 x0 x1 x2 x3 x4) : ∃ x0 x1 x2 x3 x4, A0 x0 x1 x2 x3 x4 ∧ A1 x0 x1 x2 x3 x4 ∧ A2 x0 x1 x2 x3 x4 ∧ A3 x0 x1 x2 x3 x4 := ⟨x0, x1, x2, x3, x4, h0, h1, h2, h3⟩
theorem mk5_6 {α0 α1 α2 α3 α4 : Sort _} {A0 A1 A2 A3 A4 A5 : α0 → α1 → α2 → α3 → α4 → Prop} (x0 : α0) (x1 : α1) (x2 : α2) (x3 : α3) (x4 : α4) (h0 : A0 x0 x1 x2 x3 x4) (h1 : A1 x0 x1 x2 x3 x4) (h2 : A2 x0 x1 x2 x3 x4) (h3 : A3 x0 x1 x2 x3 x4) (h4 : A4 x0 x1 x2 x3 x4) (h5 : A5 x0 x1 x2 x3 x4) : ∃ x0 x1 x2 x3 x4, A0 x0 x1 x2 x3 x4 ∧ A1 x0 x1 x2 x3 x4 ∧ A2 x0 x1 x2 x3 x4 ∧ A3 x0 x1 x2 x3 x4 ∧ A4 x0 x1 x2 x3 x4 ∧ A5 x0 x1 x2 x3 x4 := ⟨x0, x1, x2, x3, x4, h0, h1, h2, h3, h4, h5⟩
theorem mk5_7 {α0 α1 α2 α3 α4 : Sort _} {A0 A1 A2 A3 A4 A5 A6 : α0 → α1 → α2 → α3 → α4 → Prop} (x0 : α0) (x1 : α1) (x2 : α2) (x3 : α3) (x4 : α4) (h0 : A0 x0 x1 x2 x3 x4) (h1 : A1 x0 x1 x2 x3 x4) (h2 : A2 x0 x1 x2 x3 x4) (h3 : A3 x0 x1 x2 x3 x4) (h4 : A4 x0 x1 x2 x3 x4) (h5 : A5 x0 x1 x2 x3 x4) (h6 : A6 x0 x1 x2 x3 x4) : ∃ x0 x1 x2 x3 x4, A0 x0 x1 x2 x3 x4 ∧ A1 x0 x1 x2 x3 x4 ∧ A2 x0 x1 x2 x3 x4 ∧ A3 x0 x1 x2 x3 x4 ∧ A4 x0 x1 x2 x3 x4 ∧ A5 x0 x1 x2 x3 x4 ∧ A6 x0 x1 x2 x3 x4 := ⟨x0, x1, x2, x3, x4, h0, h1, h2, h3, h4, h5, h6⟩
theorem mk6_6 {α0 α1 α2 α3 α4 α5 : Sort _} {A0 A1 A2 A3 A4 A5 : α0 → α1 → α2 → α3 → α4 → α5 → Prop} (x0 : α0) (x1 : α1) (x2 : α2) (x3 : α3) (x4 : α4) (x5 : α5) (h0 : A0 x0 x1 x2 x3 x4 x5) (h1 : A1 x0 x1 x2 x3 x4 x5) (h2 : A2 x0 x1 x2 x3 x4 x5) (h3 : A3 x0 x1 x2 x3 x4 x5) (h4 : A4 x0 x1 x2 x3 x4 x5) (h5 : A5 x0 x1 x2 x3 x4 x5) : ∃ x0 x1 x2 x3 x4 x5, A0 x0 x1 x2 x3 x4 x5 ∧ A1 x0 x1 x2 x3 x4 x5 ∧ A2 x0 x1 x2 x3 x4 x5 ∧ A3 x0 x1 x2 x3 x4 x5 ∧ A4 x0 x1 x2 x3 x4 x5 ∧ A5 x0 x1 x2 x3 x4 x5 := ⟨x0, x1, x2, x3, x4, x5, h0, h1, h2, h3, h4, h5⟩
theorem mk8_6 {α0 α1 α2 α3 α4 α5 α6 α7 : Sort _} {A0 A1 A2 A3 A4 A5 : α0 → α1 → α2 → α3 → α4 → α5 → α6 → α7 → Prop} (x0 : α0) (x1 : α1) (x2 : α2) (x3 : α3) (x4 : α4) (x5 : α5) (x6 : α6) (x7 : α7) (h0 : A0 x0 x1 x2 x3 x4 x5 x6 x7) (h1 : A1 x0 x1 x2 x3 x4 x5 x6 x7) (h2 : A2 x0 x1 x2 x3 x4 x5 x6 x7) (h3 : A3 x0 x1 x2 x3 x4 x5 x6 x7) (h4 : A4 x0 x1 x2 x3 x4 x5 x6 x7) (h5 : A5 x0 x1 x2 x3 x4 x5 x6 x7) : ∃ x0 x1 x2 x3 x4 x5 x6 x7, A0 x0 x1 x2 x3 x4 x5 x6 x7 ∧ A1 x0 x1 x2 x3 x4 x5 x6 x7 ∧ A2 x0 x1 x2 x3 x4 x5 x6 x7 ∧ A3 x0 x1 x2 x3 x4 x5 x6 x7 ∧ A4 x0 x1 x2 x3 x4 x5 x6 x7 ∧ A5 x0 x1 x2 x3 x4 x5 x6 x7 := ⟨x0, x1, x2, x3, x4, x5, x6, x7, h0, h1, h2, h3, h4, h5⟩
theorem mk8_9 {α0 α1 α2 α3 α4 α5 α6 α7 : Sort _} {A0 A1 A2 A3 A4 A5 A6 A7 A8 : α0 → α1 → α2 → α3 → α4 → α5 → α6 → α7 → Prop} (x0 : α0) (x1 : α1) (x2 : α2) (x3 : α3) (x4 : α4) (x5 : α5) (x6 : α6) (x7 : α7) (h0 : A0 x0 x1 x2 x3 x4 x5 x6 x7) (h1 : A1 x0 x1 x2 x3 x4 x5 x6 x7) (h2 : A2 x0 x1 x2 x3 x4 x5 x6 x7) (h3 : A3 x0 x1 x2 x3 x4 x5 x6 x7) (h4 : A4 x0 x1 x2 x3 x4 x5 x6 x7) (h5 : A5 x0 x1 x2 x3 x4 x5 x6 x7) (h6 : A6 x0 x1 x2 x3 x4 x5 x6 x7) (h7 : A7 x0 x1 x2 x3 x4 x5 x6 x7) (h8 : A8 x0 x1 x2 x3 x4 x5 x6 x7) : ∃ x0 x1 x2 x3 x4 x5 x6 x7, A0 x0 x1 x2 x3 x4 x5 x6 x7 ∧ A1 x0 x1 x2 x3 x4 x5 x6 x7 ∧ A2 x0 x1 x2 x3 x4 x5 x6 x7 ∧ A3 x0 x1 x2 x3 x4 x5 x6 x7 ∧ A4 x0 x1 x2 x3 x4 x5 x6 x7 ∧ A5 x0 x1 x2 x3 x4 x5 x6 x7 ∧ A6 x0 x1 x2 x3 x4 x5 x6 x7 ∧ A7 x0 x1 x2 x3 x4 x5 x6 x7 ∧ A8 x0 x1 x2 x3 x4 x5 x6 x7 := ⟨x0, x1, x2, x3, x4, x5, x6, x7, h0, h1, h2, h3, h4, h5, h6, h7, h8⟩
theorem ob1_3 {α0 : Sort _} {A0 A1 A2 : α0 → Prop} {G : Prop} (h : ∃ x0, A0 x0 ∧ A1 x0 ∧ A2 x0) (k : ∀ x0, A0 x0 → A1 x0 → A2 x0 → G) : G := h.elim fun x0 h => k x0 h.1 h.2.1 h.2.2
theorem ob2_4 {α0 α1 : Sort _} {A0 A1 A2 A3 : α0 → α1 → Prop} {G : Prop} (h : ∃ x0 x1, A0 x0 x1 ∧ A1 x0 x1 ∧ A2 x0 x1 ∧ A3 x0 x1) (k : ∀ x0 x1, A0 x0 x1 → A1 x0 x1 → A2 x0 x1 → A3 x0 x1 → G) : G := h.elim fun x0 h => h.elim fun x1 h => k x0 x1 h.1 h.2.1 h.2.2.1 h.2.2.2
theorem ob2_6 {α0 α1 : Sort _} {A0 A1 A2 A3 A4 A5 : α0 → α1 → Prop} {G : Prop} (h : ∃ x0 x1, A0 x0 x1 ∧ A1 x0 x1 ∧ A2 x0 x1 ∧ A3 x0 x1 ∧ A4 x0 x1 ∧ A5 x0 x1) (k : ∀ x0 x1, A0 x0 x1 → A1 x0 x1 → A2 x0 x1 → A3 x0 x1 → A4 x0 x1 → A5 x0 x1 → G) : G := h.elim fun x0 h => h.elim fun x1 h => k x0 x1 h.1 h.2.1 h.2.2.1 h.2.2.2.1 h.2.2.2.2.1 h.2.2.2.2.2
theorem ob3_2 {α0 α1 α2 : Sort _} {A0 A1 : α0 → α1 → α2 → Prop} {G : Prop} (h : ∃ x0 x1 x2, A0 x0 x1 x2 ∧ A1 x0 x1 x2) (k : ∀ x0 x1 x2, A0 x0 x1 x2 → A1 x0 x1 x2 → G) : G := h.elim fun x0 h => h.elim fun x1 h => h.elim fun x2 h => k x0 x1 x2 h.1 h.2
theorem ob3_5 {α0 α1 α2 : Sort _} {A0 A1 A2 A3 A4 : α0 → α1 → α2 → Prop} {G : Prop} (h : ∃ x0 x1 x2, A0 x0 x1 x2 ∧ A1 x0 x1 x2 ∧ A2 x0 x1 x2 ∧ A3 x0 x1 x2 ∧ A4 x0 x1 x2) (k : ∀ x0 x1 x2, A0 x0 x1 x2 → A1 x0 x1 x2 → A2 x0 x1 x2 → A3 x0 x1 x2 → A4 x0 x1 x2 → G) : G := h.elim fun x0 h => h.elim fun x1 h => h.elim fun x2 h => k x0 x1 x2 h.1 h.2.1 h.2.2.1 h.2.2.2.1 h.2.2.2.2
theorem ob3_6 {α0 α1 α2 : Sort _} {A0 A1 A2 A3 A4 A5 : α0 → α1 → α2 → Prop} {G : Prop} (h : ∃ x0 x1 x2, A0 x0 x1 x2 ∧ A1 x0 x1 x2 ∧ A2 x0 x1 x2 ∧ A3 x0 x1 x2 ∧ A4 x0 x1 x2 ∧ A5 x0 x1 x2) (k : ∀ x0 x1 x2, A0 x0 x1 x2 → A1 x0 x1 x2 → A2 x0 x1 x2 → A3 x0 x1 x2 → A4 x0 x1 x2 → A5 x0 x1 x2 → G) : G := h.elim fun x0 h => h.elim fun x1 h => h.elim fun x2 h => k x0 x1 x2 h.1 h.2.1 h.2.2.1 h.2.2.2.1 h.2.2.2.2.1 h.2.2.2.2.2
theorem ob4_2 {α0 α1 α2 α3 : Sort _} {A0 A1 : α0 → α1 → α2 → α3 → Prop} {G : Prop} (h : ∃ x0 x1 x2 x3, A0 x0 x1 x2 x3 ∧ A1 x0 x1 x2 x3) (k : ∀ x0 x1 x2 x3, A0 x0 x1 x2 x3 → A1 x0 x1 x2 x3 → G) : G := h.elim fun x0 h => h.elim fun x1 h => h.elim fun x2 h => h.elim fun x3 h => k x0 x1 x2 x3 h.1 h.2
theorem ob4_3 {α0 α1 α2 α3 : Sort _} {A0 A1 A2 : α0 → α1 → α2 → α3 → Prop} {G : Prop} (h : ∃ x0 x1 x2 x3, A0 x0 x1 x2 x3 ∧ A1 x0 x1 x2 x3 ∧ A2 x0 x1 x2 x3) (k : ∀ x0 x1 x2 x3, A0 x0 x1 x2 x3 → A1 x0 x1 x2 x3 → A2 x0 x1 x2 x3 → G) : G := h.elim fun x0 h => h.elim fun x1 h => h.elim fun x2 h => h.elim fun x3 h => k x0 x1 x2 x3 h.1 h.2.1 h.2.2
theorem ob4_5 {α0 α1 α2 α3 : Sort _} {A0 A1 A2 A3 A4 : α0 → α1 → α2 → α3 → Prop} {G : Prop} (h : ∃ x0 x1 x2 x3, A0 x0 x1 x2 x3 ∧ A1 x0 x1 x2 x3 ∧ A2 x0 x1 x2 x3 ∧ A3 x0 x1 x2 x3 ∧ A4 x0 x1 x2 x3) (k : ∀ x0 x1 x2 x3, A0 x0 x1 x2 x3 → A1 x0 x1 x2 x3 → A2 x0 x1 x2 x3 → A3 x0 x1 x2 x3 → A4 x0 x1 x2 x3 → G) : G := h.elim fun x0 h => h.elim fun x1 h => h.elim fun x2 h => h.elim fun x3 h => k x0 x1 x2 x3 h.1 h.2.1 h.2.2.1 h.2.2.2.1 h.2.2.2.2
theorem ob4_7 {α0 α1 α2 α3 : Sort _} {A0 A1 A2 A3 A4 A5 A6 : α0 → α1 → α2 → α3 → Prop} {G : Prop} (h : ∃ x0 x1 x2 x3, A0 x0 x1 x2 x3 ∧ A1 x0 x1 x2 x3 ∧ A2 x0 x1 x2 x3 ∧ A3 x0 x1 x2 x3 ∧ A4 x0 x1 x2 x3 ∧ A5 x0 x1 x2 x3 ∧ A6 x0 x1 x2 x3) (k : ∀ x0 x1 x2 x3, A0 x0 x1 x2 x3 → A1 x0 x1 x2 x3 → A2 x0 x1 x2 x3 → A3 x0 x1 x2 x3 → A4 x0 x1 x2 x3 → A5 x0 x1 x2 x3 → A6 x0 x1 x2 x3 → G) : G := h.elim fun x0 h => h.elim fun x1 h => h.elim fun x2 h => h.elim fun x3 h => k x0 x1 x2 x3 h.1 h.2.1 h.2.2.1 h.2.2.2.1 h.2.2.2.2.1 h.2.2.2.2.2.1 h.2.2.2.2.2.2
theorem ob4_8 {α0 α1 α2 α3 : Sort _} {A0 A1 A2 A3 A4 A5 A6 A7 : α0 → α1 → α2 → α3 → Prop} {G : Prop} (h : ∃ x0 x1 x2 x3, A0 x0 x1 x2 x3 ∧ A1 x0 x1 x2 x3 ∧ A2 x0 x1 x2 x3 ∧ A3 x0 x1 x2 x3 ∧ A4 x0 x1 x2 x3 ∧ A5 x0 x1 x2 x3 ∧ A6 x0 x1 x2 x3 ∧ A7 x0 x1 x2 x3) (k : ∀ x0 x1 x2 x3, A0 x0 x1 x2 x3 → A1 x0 x1 x2 x3 → A2 x0 x1 x2 x3 → A3 x0 x1 x2 x3 → A4 x0 x1 x2 x3 → A5 x0 x1 x2 x3 → A6 x0 x1 x2 x3 → A7 x0 x1 x2 x3 → G) : G := h.elim fun x0 h => h.elim fun x1 h => h.elim fun x2 h => h.elim fun x3 h => k x0 x1 x2 x3 h.1 h.2.1 h.2.2.1 h.2.2.2.1 h.2.2.2.2.1 h.2.2.2.2.2.1 h.2.2.2.2.2.2.1 h.2.2.2.2.2.2.2
theorem ob5_10 {α0 α1 α2 α3 α4 : Sort _} {A0 A1 A2 A3 A4 A5 A6 A7 A8 A9 : α0 → α1 → α2 → α3 → α4 → Prop} {G : Prop} (h : ∃ x0 x1 x2 x3 x4, A0 x0 x1 x2 x3 x4 ∧ A1 x0 x1 x2 x3 x4 ∧ A2 x0 x1 x2 x3 x4 ∧ A3 x0 x1 x2 x3 x4 ∧ A4 x0 x1 x2 x3 x4 ∧ A5 x0 x1 x2 x3 x4 ∧ A6 x0 x1 x2 x3 x4 ∧ A7 x0 x1 x2 x3 x4 ∧ A8 x0 x1 x2 x3 x4 ∧ A9 x0 x1 x2 x3 x4) (k : ∀ x0 x1 x2 x3 x4, A0 x0 x1 x2 x3 x4 → A1 x0 x1 x2 x3 x4 → A2 x0 x1 x2 x3 x4 → A3 x0 x1 x2 x3 x4 → A4 x0 x1 x2 x3 x4 → A5 x0 x1 x2 x3 x4 → A6 x0 x1 x2 x3 x4 → A7 x0 x1 x2 x3 x4 → A8 x0 x1 x2 x3 x4 → A9 x0 x1 x2 x3 x4 → G) : G := h.elim fun x0 h => h.elim fun x1 h => h.elim fun x2 h => h.elim fun x3 h => h.elim fun x4 h => k x0 x1 x2 x3 x4 h.1 h.2.1 h.2.2.1 h.2.2.2.1 h.2.2.2.2.1 h.2.2.2.2.2.1 h.2.2.2.2.2.2.1 h.2.2.2.2.2.2.2.1 h.2.2.2.2.2.2.2.2.1 h.2.2.2.2.2.2.2.2.2
theorem ob5_2 {α0 α1 α2 α3 α4 : Sort _} {A0 A1 : α0 → α1 → α2 → α3 → α4 → Prop} {G : Prop} (h : ∃ x0 x1 x2 x3 x4, A0 x0 x1 x2 x3 x4 ∧ A1 x0 x1 x2 x3 x4) (k : ∀ x0 x1 x2 x3 x4, A0 x0 x1 x2 x3 x4 → A1 x0 x1 x2 x3 x4 → G) : G := h.elim fun x0 h => h.elim fun x1 h => h.elim fun x2 h => h.elim fun x3 h => h.elim fun x4 h => k x0 x1 x2 x3 x4 h.1 h.2
theorem ob5_3 {α0 α1 α2 α3 α4 : Sort _} {A0 A1 A2 : α0 → α1 → α2 → α3 → α4 → Prop} {G : Prop} (h : ∃ x0 x1 x2 x3 x4, A0 x0 x1 x2 x3 x4 ∧ A1 x0 x1 x2 x3 x4 ∧ A2 x0 x1 x2 x3 x4) (k : ∀ x0 x1 x2 x3 x4, A0 x0 x1 x2 x3 x4 → A1 x0 x1 x2 x3 x4 → A2 x0 x1 x2 x3 x4 → G) : G := h.elim fun x0 h => h.elim fun x1 h => h.elim fun x2 h => h.elim fun x3 h => h.elim fun x4 h => k x0 x1 x2 x3 x4 h.1 h.2.1 h.2.2
theorem ob5_4 {α0 α1 α2 α3 α4 : Sort _} {A0 A1 A2 A3 : α0 → α1 → α2 → α3 → α4 → Prop} {G : Prop} (h : ∃ x0 x1 x2 x3 x4, A0 x0 x1 x2 x3 x4 ∧ A1 x0 x1 x2 x3 x4 ∧ A2 x0 x1 x2 x3 x4 ∧ A3 x0 x1 x2 x3 x4) (k : ∀ x0 x1 x2 x3 x4, A0 x0 x1 x2 x3 x4 → A1 x0 x1 x2 x3 x4 → A2 x0 x1 x2 x3 x4 → A3 x0 x1 x2 x3 x4 → G) : G := h.elim fun x0 h => h.elim fun x1 h => h.elim fun x2 h => h.elim fun x3 h => h.elim fun x4 h => k x0 x1 x2 x3 x4 h.1 h.2.1 h.2.2.1 h.2.2.2
theorem ob5_7 {α0 α1 α2 α3 α4 : Sort _} {A0 A1 A2 A3 A4 A5 A6 : α0 → α1 → α2 → α3 → α4 → Prop} {G : Prop} (h : ∃ x0 x1 x2 x3 x4, A0 x0 x1 x2 x3 x4 ∧ A1 x0 x1 x2 x3 x4 ∧ A2 x0 x1 x2 x3 x4 ∧ A3 x0 x1 x2 x3 x4 ∧ A4 x0 x1 x2 x3 x4 ∧ A5 x0 x1 x2 x3 x4 ∧ A6 x0 x1 x2 x3 x4) (k : ∀ x0 x1 x2 x3 x4, A0 x0 x1 x2 x3 x4 → A1 x0 x1 x2 x3 x4 → A2 x0 x1 x2 x3 x4 → A3 x0 x1 x2 x3 x4 → A4 x0 x1 x2 x3 x4 → A5 x0 x1 x2 x3 x4 → A6 x0 x1 x2 x3 x4 → G) : G := h.elim fun x0 h => h.elim fun x1 h => h.elim fun x2 h => h.elim fun x3 h => h.elim fun x4 h => k x0 x1 x2 x3 x4 h.1 h.2.1 h.2.2.1 h.2.2.2.1 h.2.2.2.2.1 h.2.2.2.2.2.1 h.2.2.2.2.2.2
theorem ob6_2 {α0 α1 α2 α3 α4 α5 : Sort _} {A0 A1 : α0 → α1 → α2 → α3 → α4 → α5 → Prop} {G : Prop} (h : ∃ x0 x1 x2 x3 x4 x5, A0 x0 x1 x2 x3 x4 x5 ∧ A1 x0 x1 x2 x3 x4 x5) (k : ∀ x0 x1 x2 x3 x4 x5, A0 x0 x1 x2 x3 x4 x5 → A1 x0 x1 x2 x3 x4 x5 → G) : G := h.elim fun x0 h => h.elim fun x1 h => h.elim fun x2 h => h.elim fun x3 h => h.elim fun x4 h => h.elim fun x5 h => k x0 x1 x2 x3 x4 x5 h.1 h.2
theorem ob6_6 {α0 α1 α2 α3 α4 α5 : Sort _} {A0 A1 A2 A3 A4 A5 : α0 → α1 → α2 → α3 → α4 → α5 → Prop} {G : Prop} (h : ∃ x0 x1 x2 x3 x4 x5, A0 x0 x1 x2 x3 x4 x5 ∧ A1 x0 x1 x2 x3 x4 x5 ∧ A2 x0 x1 x2 x3 x4 x5 ∧ A3 x0 x1 x2 x3 x4 x5 ∧ A4 x0 x1 x2 x3 x4 x5 ∧ A5 x0 x1 x2 x3 x4 x5) (k : ∀ x0 x1 x2 x3 x4 x5, A0 x0 x1 x2 x3 x4 x5 → A1 x0 x1 x2 x3 x4 x5 → A2 x0 x1 x2 x3 x4 x5 → A3 x0 x1 x2 x3 x4 x5 → A4 x0 x1 x2 x3 x4 x5 → A5 x0 x1 x2 x3 x4 x5 → G) : G := h.elim fun x0 h => h.elim fun x1 h => h.elim fun x2 h => h.elim fun x3 h => h.elim fun x4 h => h.elim fun x5 h => k x0 x1 x2 x3 x4 x5 h.1 h.2.1 h.2.2.1 h.2.2.2.1 h.2.2.2.2.1 h.2.2.2.2.2
theorem ob8_2 {α0 α1 α2 α3 α4 α5 α6 α7 : Sort _} {A0 A1 : α0 → α1 → α2 → α3 → α4 → α5 → α6 → α7 → Prop} {G : Prop} (h : ∃ x0 x1 x2 x3 x4 x5 x6 x7, A0 x0 x1 x2 x3 x4 x5 x6 x7 ∧ A1 x0 x1 x2 x3 x4 x5 x6 x7) (k : ∀ x0 x1 x2 x3 x4 x5 x6 x7, A0 x0 x1 x2 x3 x4 x5 x6 x7 → A1 x0 x1 x2 x3 x4 x5 x6 x7 → G) : G := h.elim fun x0 h => h.elim fun x1 h => h.elim fun x2 h => h.elim fun x3 h => h.elim fun x4 h => h.elim fun x5 h => h.elim fun x6 h => h.elim fun x7 h => k x0 x1 x2 x3 x4 x5 x6 x7 h.1 h.2
theorem ob8_5 {α0 α1 α2 α3 α4 α5 α6 α7 : Sort _} {A0 A1 A2 A3 A4 : α0 → α1 → α2 → α3 → α4 → α5 → α6 → α7 → Prop} {G : Prop} (h : ∃ x0 x1 x2 x3 x4 x5 x6 x7, A0 x0 x1 x2 x3 x4 x5 x6 x7 ∧ A1 x0 x1 x2 x3 x4 x5 x6 x7 ∧ A2 x0 x1 x2 x3 x4 x5 x6 x7 ∧ A3 x0 x1 x2 x3 x4 x5 x6 x7 ∧ A4 x0 x1 x2 x3 x4 x5 x6 x7) (k : ∀ x0 x1 x2 x3 x4 x5 x6 x7, A0 x0 x1 x2 x3 x4 x5 x6 x7 → A1 x0 x1 x2 x3 x4 x5 x6 x7 → A2 x0 x1 x2 x3 x4 x5 x6 x7 → A3 x0 x1 x2 x3 x4 x5 x6 x7 → A4 x0 x1 x2 x3 x4 x5 x6 x7 → G) : G := h.elim fun x0 h => h.elim fun x1 h => h.elim fun x2 h => h.elim fun x3 h => h.elim fun x4 h => h.elim fun x5 h => h.elim fun x6 h => h.elim fun x7 h => k x0 x1 x2 x3 x4 x5 x6 x7 h.1 h.2.1 h.2.2.1 h.2.2.2.1 h.2.2.2.2
theorem ob8_6 {α0 α1 α2 α3 α4 α5 α6 α7 : Sort _} {A0 A1 A2 A3 A4 A5 : α0 → α1 → α2 → α3 → α4 → α5 → α6 → α7 → Prop} {G : Prop} (h : ∃ x0 x1 x2 x3 x4 x5 x6 x7, A0 x0 x1 x2 x3 x4 x5 x6 x7 ∧ A1 x0 x1 x2 x3 x4 x5 x6 x7 ∧ A2 x0 x1 x2 x3 x4 x5 x6 x7 ∧ A3 x0 x1 x2 x3 x4 x5 x6 x7 ∧ A4 x0 x1 x2 x3 x4 x5 x6 x7 ∧ A5 x0 x1 x2 x3 x4 x5 x6 x7) (k : ∀ x0 x1 x2 x3 x4 x5 x6 x7, A0 x0 x1 x2 x3 x4 x5 x6 x7 → A1 x0 x1 x2 x3 x4 x5 x6 x7 → A2 x0 x1 x2 x3 x4 x5 x6 x7 → A3 x0 x1 x2 x3 x4 x5 x6 x7 → A4 x0 x1 x2 x3 x4 x5 x6 x7 → A5 x0 x1 x2 x3 x4 x5 x6 x7 → G) : G := h.elim fun x0 h => h.elim fun x1 h => h.elim fun x2 h => h.elim fun x3 h => h.elim fun x4 h => h.elim fun x5 h => h.elim fun x6 h => h.elim fun x7 h => k x0 x1 x2 x3 x4 x5 x6 x7 h.1 h.2.1 h.2.2.1 h.2.2.2.1 h.2.2.2.2.1 h.2.2.2.2.2
theorem ob8_9 {α0 α1 α2 α3 α4 α5 α6 α7 : Sort _} {A0 A1 A2 A3 A4 A5 A6 A7 A8 : α0 → α1 → α2 → α3 → α4 → α5 → α6 → α7 → Prop} {G : Prop} (h : ∃ x0 x1 x2 x3 x4 x5 x6 x7, A0 x0 x1 x2 x3 x4 x5 x6 x7 ∧ A1 x0 x1 x2 x3 x4 x5 x6 x7 ∧ A2 x0 x1 x2 x3 x4 x5 x6 x7 ∧ A3 x0 x1 x2 x3 x4 x5 x6 x7 ∧ A4 x0 x1 x2 x3 x4 x5 x6 x7 ∧ A5 x0 x1 x2 x3 x4 x5 x6 x7 ∧ A6 x0 x1 x2 x3 x4 x5 x6 x7 ∧ A7 x0 x1 x2 x3 x4 x5 x6 x7 ∧ A8 x0 x1 x2 x3 x4 x5 x6 x7) (k : ∀ x0 x1 x2 x3 x4 x5 x6 x7, A0 x0 x1 x2 x3 x4 x5 x6 x7 → A1 x0 x1 x2 x3 x4 x5 x6 x7 → A2 x0 x1 x2 x3 x4 x5 x6 x7 → A3 x0 x1 x2 x3 x4 x5 x6 x7 → A4 x0 x1 x2 x3 x4 x5 x6 x7 → A5 x0 x1 x2 x3 x4 x5 x6 x7 → A6 x0 x1 x2 x3 x4 x5 x6 x7 → A7 x0 x1 x2 x3 x4 x5 x6 x7 → A8 x0 x1 x2 x3 x4 x5 x6 x7 → G) : G := h.elim fun x0 h => h.elim fun x1 h => h.elim fun x2 h => h.elim fun x3 h => h.elim fun x4 h => h.elim fun x5 h => h.elim fun x6 h => h.elim fun x7 h => k x0 x1 x2 x3 x4 x5 x6 x7 h.1 h.2.1 h.2.2.1 h.2.2.2.1 h.2.2.2.2.1 h.2.2.2.2.2.1 h.2.2.2.2.2.2.1 h.2.2.2.2.2.2.2.1 h.2.2.2.2.2.2.2.2
end L2

set_option Elab.async false
set_option linter.all false
namespace Pw
open PySem L2
def top (i : Nat) : Stmt := PySem.Challenge.pw_parcelwall_k12_logs_done_again.main.body.getD i (.Pass ⟨0, 0, 0, 0⟩)
abbrev s_in_bounds : Stmt := top 12
abbrev s_check_wall : Stmt := top 13
abbrev s_check_size : Stmt := top 14
abbrev s_check_nights : Stmt := top 15
abbrev s_replay : Stmt := top 20
abbrev s_answer_to : Stmt := top 21
abbrev s_done : Stmt := top 22
abbrev s__law_drawn : Stmt := top 24
abbrev s__law_whole : Stmt := top 25
abbrev s__law_row : Stmt := top 26
abbrev s__law_sizes_by : Stmt := top 28
abbrev s__law_held : Stmt := top 29
abbrev s__law_box_for : Stmt := top 31
abbrev s__law_due : Stmt := top 32
abbrev s__law_deed_by : Stmt := top 33
abbrev s__law_refused : Stmt := top 34
abbrev s__law_alike : Stmt := top 35
abbrev s_law : Stmt := top 36
abbrev s_Parcel___init__ : Stmt := inClass (top 17) 0
abbrev s_Wall___init__ : Stmt := inClass (top 18) 0
abbrev s_Wall_sizes : Stmt := inClass (top 18) 1
abbrev s_Wall_held : Stmt := inClass (top 18) 2
abbrev s_Wall_free : Stmt := inClass (top 18) 3
abbrev s_Wall_come : Stmt := inClass (top 18) 5
abbrev s_Wall_fetch : Stmt := inClass (top 18) 6
abbrev s_Wall_night : Stmt := inClass (top 18) 9
abbrev s_Wall_boxes_for : Stmt := inClass (top 18) 11
abbrev s_Wall_least_box : Stmt := inClass (top 18) 12
abbrev s_Wall_box_of : Stmt := inClass (top 18) 13
end Pw

set_option Elab.async false
set_option linter.all false
set_option maxRecDepth 100000
set_option maxHeartbeats 4000000
namespace Pw
open PySem L2
section
variable {P : Program} {w : World} {K : PySem.W.Frag} {mg : Str → Option Value} {base : Heap}

theorem scDrawn : FnScope ["script", "k", "many", "cell", "stir"] ["script", "k", "many"] (defScope s__law_drawn) := ⟨rfl, rfl, rfl, by decide +kernel, rfl, by decide +kernel, by decide +kernel⟩
theorem ok_drawn {f : Addr} {fd : FuncData} (F : Fun K "_law_drawn" "_law_drawn" s__law_drawn f fd) (mlen : mg "len" = none) : FnOk P w K mg base CX0 1 f fd ["script", "k", "many"] (spDrawn K) := by
  refine F.ok scDrawn (fun vs H Q E h => ?_) (fun cdv A outer s H vs Q E hr h => ?_)
  · refine ob4_2 h (fun a ns k many eRfl _ => ?_); clear h; subst eRfl
    rfl
  · refine ob4_8 h (fun a ns k many eRfl hS hlen hk0 hk1 hm0 hm1 q => ?_); clear h; subst eRfl
    refine ⟨_, pss_cons (ps_set (i := 3) scDrawn.nd rfl (Or.inl rfl) pe_int)
      (pss_cons (ps_if (pt_cmpR op_gt (pe_callB call_len_seq (by rfl) mlen PySem.boot_len (pa_cons (pv 0) pa_nil)) pe_int (nomark _))
        (pss_one (ps_set (i := 3) scDrawn.nd rfl (Or.inl rfl) (pe_ix ix_list (pv 0) (pe_op op_mod (pv 1) (pe_callB call_len_seq (by rfl) mlen PySem.boot_len (pa_cons (pv 0) pa_nil))) (fun _ _ => rfl)))) pss_nil)
      (pss_cons (ps_set (i := 4) scDrawn.nd rfl (Or.inl rfl) (pe_op op_mod (pe_op op_add (pe_op op_add (pe_op op_mul (pv 3) pe_int) (pe_op op_mul (pe_op op_add (pv 1) pe_int) pe_int)) (pe_callB call_len_seq (by rfl) mlen PySem.boot_len (pa_cons (pv 0) pa_nil))) pe_int))
      (pss_cons (ps_set (i := 4) scDrawn.nd rfl (Or.inl rfl) (pe_op op_mod (pe_op op_add (pe_op op_add (pe_op op_mul (pv 4) (pv 4)) (pe_op op_mul (pv 1) pe_int)) pe_int) pe_int))
      (pss_one (ps_ret (pe_op op_mod (pe_op op_fdiv (pe_op op_mod (pe_op op_mul (pv 4) pe_int) pe_int) pe_int) (pv 2))))))), ?_⟩
    try dsimp only [cxOf]
    refine (evr rfl ⟨a, evr rfl ⟨.inl hS, ev2 rfl rfl (evr rfl ?_)⟩⟩)
    have em : ((ns.map V.int).length : Int) = (ns.length : Int) := by rw [List.length_map]
    have c1 : ∀ i : Int, CMul i 48271 := fun i => .inr ⟨by decide, by decide⟩
    have c2 : ∀ i : Int, CMul i 7919 := fun i => .inr ⟨by decide, by decide⟩
    have c3 : ∀ i : Int, CMul i 16807 := fun i => .inr ⟨by decide, by decide⟩
    have c4 : ∀ i : Int, CMul (i % 2147483647) (i % 2147483647) := fun i => .inl ⟨Int.lt_of_lt_of_le (by decide) (Int.emod_nonneg _ (by decide)), Int.lt_trans (Int.emod_lt_of_pos _ (by decide)) (by decide)⟩
    refine ite2 (fun h => ?_) (fun h => ?_)
    · have hp : 0 < ns.length := by
        have h := of_decide_eq_true h
        rw [em] at h; (first | lia | omega)
      have hm : 0 ≤ k % (ns.length : Int) := Int.emod_nonneg _ (by (first | lia | omega))
      have hm2 : k % (ns.length : Int) < ns.length := Int.emod_lt_of_pos _ (by (first | lia | omega))
      have hj : (k % (ns.length : Int)).toNat < ns.length := by (first | lia | omega)
      have hat : atI (ns.map V.int) (k % ((ns.map V.int).length : Int)) = some (V.int (cellOf ns k)) := by
        rw [em]
        have e : ((k % (ns.length : Int)).toNat : Int) = k % (ns.length : Int) := Int.toNat_of_nonneg hm
        rw [← e]
        refine atI_nat ?_
        unfold cellOf
        rw [if_pos hp, List.getElem?_map, List.getElem?_eq_getElem hj]
        simp [List.getD, hj]
      refine (ev3r rfl rfl rfl ⟨a, evr rfl ⟨.inl hS, ev2 rfl rfl ⟨(by rw [em]; (first | lia | omega)), ix4 (p := a) hS hat ?_⟩⟩⟩)
      refine (evr rfl (ev2 rfl rfl ⟨c1 _, evr rfl (ev2 rfl rfl (ev2 rfl rfl ⟨c2 _, ev2 rfl rfl (evr rfl ⟨a, evr rfl ⟨.inl hS, ev2 rfl rfl (ev2 rfl rfl ⟨(by show (0 : Int) < 2147483647; decide), ?_⟩)⟩⟩)⟩))⟩))
      refine (evv rfl rfl (ev2 rfl rfl ⟨c4 _, evr rfl (ev2 rfl rfl ⟨c3 _, ev2 rfl rfl (ev2 rfl rfl (ev2 rfl rfl ⟨(by show (0 : Int) < 2147483647; decide), ?_⟩))⟩)⟩))
      refine (evr rfl (ev2 rfl rfl ⟨c1 _, ev2 rfl rfl ⟨(by show (0 : Int) < 2147483647; decide), ev2 rfl rfl ⟨⟨by decide, by decide⟩, evr rfl (ev2 rfl rfl ⟨hm0, ?_⟩)⟩⟩⟩))
      rw [em]
      exact q
    · have hp : ¬ 0 < ns.length := by
        intro z
        refine h (decide_eq_true ?_)
        rw [em]; (first | lia | omega)
      have hc : cellOf ns k = 7 := by unfold cellOf; rw [if_neg hp]
      refine (evr rfl (ev2 rfl rfl ⟨c1 _, evr rfl (ev2 rfl rfl (ev2 rfl rfl ⟨c2 _, ev2 rfl rfl (evr rfl ⟨a, evr rfl ⟨.inl hS, ev2 rfl rfl (ev2 rfl rfl ⟨(by show (0 : Int) < 2147483647; decide), ?_⟩)⟩⟩)⟩))⟩))
      refine (evv rfl rfl (ev2 rfl rfl ⟨c4 _, evr rfl (ev2 rfl rfl ⟨c3 _, ev2 rfl rfl (ev2 rfl rfl (ev2 rfl rfl ⟨(by show (0 : Int) < 2147483647; decide), ?_⟩))⟩)⟩))
      refine (evr rfl (ev2 rfl rfl ⟨c1 _, ev2 rfl rfl ⟨(by show (0 : Int) < 2147483647; decide), ev2 rfl rfl ⟨⟨by decide, by decide⟩, evr rfl (ev2 rfl rfl ⟨hm0, ?_⟩)⟩⟩⟩))
      rw [em]
      unfold drawn at q
      rw [hc] at q
      exact q

end
end Pw

set_option Elab.async false
set_option linter.all false
set_option maxRecDepth 100000
set_option maxHeartbeats 4000000
namespace Pw
open PySem L2
section
variable {P : Program} {w : World} {K : PySem.W.Frag} {mg : Str → Option Value} {base : Heap}
theorem scWhole : FnScope ["found"] ["found"] (defScope s__law_whole) := ⟨rfl, rfl, rfl, by decide +kernel, rfl, by decide +kernel, by decide +kernel⟩
theorem ok_whole {f : Addr} {fd : FuncData} (F : Fun K "_law_whole" "_law_whole" s__law_whole f fd) (misi : mg "isinstance" = none) (mint : mg "int" = none) (mbool : mg "bool" = none)
    (k1 : PySem.W.kitOne K (.type "int") (.type "int") = some true) (k2 : PySem.W.kitOne K (.type "int") (.type "bool") = some false) : FnOk P w K mg base CX0 1 f fd ["found"] spWhole := by
  refine F.ok scWhole (fun vs H Q E h => ?_) (fun cdv A outer s H vs Q E hr h => ?_)
  · refine ob1_2 h (fun i eRfl _ => ?_); clear h; subst eRfl
    rfl
  · refine ob1_2 h (fun i eRfl q => ?_); clear h; subst eRfl
    refine ⟨_, pss_one (ps_ret (pe_and (pe_callB call_isi (by rfl) misi PyProof.Rows.boot_isinstance (pa_cons (pv 0) (pa_cons (pe_bltn (v := .ty "int") (by rfl) mint (by decide +kernel) rfl) pa_nil)))
      (pe_one (pe_not (pe_callB call_isi (by rfl) misi PyProof.Rows.boot_isinstance (pa_cons (pv 0) (pa_cons (pe_bltn (v := .ty "bool") (by rfl) mbool (by decide +kernel) rfl) pa_nil))))))), ?_⟩
    try dsimp only [cxOf]
    refine (evr rfl (mk4_5 _ _ _ _ rfl (.of (.int i)) (by intro z; cases z) k1 (evr rfl (iteT ?_))))
    refine (evr rfl (mk4_5 _ _ _ _ rfl (.of (.int i)) (by intro z; cases z) k2 (evr rfl ?_)))
    exact q

theorem at_int {xs : List Int} {i : Nat} (h : i < xs.length) : atI (xs.map V.int) ((0 : Int) + (i : Nat)) = some (V.int (xs[i])) := by
  rw [Int.zero_add]
  exact atI_nat (by rw [List.getElem?_map, List.getElem?_eq_getElem h]; rfl)
theorem scRow : FnScope ["found", "due", "k"] ["found", "due"] (defScope s__law_row) := ⟨rfl, rfl, rfl, by decide +kernel, rfl, by decide +kernel, by decide +kernel⟩
theorem ok_row {f fW : Addr} {fd fdW : FuncData} (F : Fun K "_law_row" "_law_row" s__law_row f fd) (gW : Gd P w K mg base "_law_whole" s__law_whole ["found"] CX0 1 spWhole fW fdW)
    (misi : mg "isinstance" = none) (mlist : mg "list" = none) (mlen : mg "len" = none) (mrange : mg "range" = none) (k1 : PySem.W.kitOne K (.type "list") (.type "list") = some true) : FnOk P w K mg base CX0 2 f fd ["found", "due"] (spRow K) := by
  refine F.ok scRow (fun vs H Q E h => ?_) (fun cdv A outer s H vs Q E hr h => ?_)
  · refine ob3_2 h (fun a b xs eRfl _ => ?_); clear h; subst eRfl
    rfl
  · refine ob3_5 h (fun a b xs eRfl ha hb hl q => ?_); clear h; subst eRfl
    refine ⟨_, pss_cons (ps_if (pw_or (pt_not (pt_val (pe_callB call_isi (by rfl) misi PyProof.Rows.boot_isinstance (pa_cons (pv 0) (pa_cons (pe_bltn (v := .ty "list") (by rfl) mlist (by decide +kernel) rfl) pa_nil)))))
        (pw_or1 (pt_cmpR op_ne (pe_callB call_len_seq (by rfl) mlen PySem.boot_len (pa_cons (pv 0) pa_nil)) (pe_callB call_len_seq (by rfl) mlen PySem.boot_len (pa_cons (pv 1) pa_nil)) (nomark _)))).pt (pss_one (ps_ret pe_bl)) pss_nil)
      (pss_cons (ps_for PassesOwn.never rfl (pi_range1 (by rfl) mrange (pa_cons (pe_callB call_len_seq (by rfl) mlen PySem.boot_len (pa_cons (pv 1) pa_nil)) pa_nil)) (pg_name (i := 2) scRow.nd rfl (Or.inl rfl))
        (pss_one (ps_if (pw_or (pt_not (pt_val (pe_call gW.G hr (by rfl) gW.m gW.F.kp gW.b .nil pass0 (pa_cons (pe_ix ix_list (pv 0) (pv 2) (fun _ _ => rfl)) pa_nil))))
          (pw_or1 (pt_cmpR op_ne (pe_ix ix_list (pv 0) (pv 2) (fun _ _ => rfl)) (pe_ix ix_list (pv 1) (pv 2) (fun _ _ => rfl)) (nomark _)))).pt (pss_one (ps_ret pe_bl)) pss_nil)))
      (pss_one (ps_ret pe_bl))), ?_⟩
    try dsimp only [cxOf]
    refine (evr rfl (mk4_5 _ _ _ _ rfl (.of (.lst ha)) (by intro z; cases z) k1 (evr rfl (iteF ?_))))
    refine (evr rfl (mk2_2 a _ rfl ⟨.inl (SqL.of ha), evr rfl (mk2_4 b _ rfl (.inl hb) rfl (evr rfl (iteNS rfl ?_)))⟩))
    refine (evr rfl ⟨b, evr rfl ⟨.inl hb, evr rfl ⟨(by rw [List.length_map]; (first | lia | omega)), (by rw [List.length_map]; (first | lia | omega)), ?_⟩⟩⟩)
    have el : ((xs.map V.int).length : Int).toNat = xs.length := by rw [List.length_map]; (first | lia | omega)
    rw [el]
    refine for_range (n := xs.length) (fun i σ H2 => H2 = H ∧ ∃ v, σ = [some (.ref a), some (.ref b), v]) ⟨rfl, none, rfl⟩ ?_ ?_
    · rintro i σ H2 hi ⟨rfl, v, rfl⟩
      refine (evv rfl rfl (ix4 (p := a) (SqL.of ha) (at_int hi) (evv rfl rfl (iteF ?_))))
      refine (evv rfl rfl (ix4 (p := a) (SqL.of ha) (at_int hi) (evv rfl rfl (ix4 (p := b) hb (at_int hi) ⟨rfl, evr rfl (iteNS rfl ?_)⟩))))
      exact ⟨rfl, _, rfl⟩
    · rintro σ H2 ⟨rfl, v, rfl⟩
      exact q
end
end Pw

set_option Elab.async false
set_option linter.all false
set_option maxRecDepth 100000
set_option maxHeartbeats 4000000
namespace Pw
open PySem L2
section
variable {P : Program} {w : World} {K : PySem.W.Frag} {mg : Str → Option Value} {base : Heap}
theorem at_o {xs : List (Option Int)} {i : Nat} (h : i < xs.length) : atI (xs.map oV) ((0 : Int) + (i : Nat)) = some (oV (xs[i])) := by
  rw [Int.zero_add]
  exact atI_nat (by rw [List.getElem?_map, List.getElem?_eq_getElem h]; rfl)
theorem scHeldEq : FnScope ["found", "due", "k"] ["found", "due"] (defScope s__law_held) := ⟨rfl, rfl, rfl, by decide +kernel, rfl, by decide +kernel, by decide +kernel⟩
theorem ok_heldEq {f fW : Addr} {fd fdW : FuncData} (F : Fun K "_law_held" "_law_held" s__law_held f fd) (gW : Gd P w K mg base "_law_whole" s__law_whole ["found"] CX0 1 spWhole fW fdW)
    (misi : mg "isinstance" = none) (mlist : mg "list" = none) (mlen : mg "len" = none) (mrange : mg "range" = none) (k1 : PySem.W.kitOne K (.type "list") (.type "list") = some true) : FnOk P w K mg base CX0 2 f fd ["found", "due"] (spHeldEq K) := by
  refine F.ok scHeldEq (fun vs H Q E h => ?_) (fun cdv A outer s H vs Q E hr h => ?_)
  · refine ob3_2 h (fun a b xs eRfl _ => ?_); clear h; subst eRfl
    rfl
  · refine ob3_5 h (fun a b xs eRfl ha hb hl q => ?_); clear h; subst eRfl
    refine ⟨_, pss_cons (ps_if (pw_or (pt_not (pt_val (pe_callB call_isi (by rfl) misi PyProof.Rows.boot_isinstance (pa_cons (pv 0) (pa_cons (pe_bltn (v := .ty "list") (by rfl) mlist (by decide +kernel) rfl) pa_nil)))))
        (pw_or1 (pt_cmpR op_ne (pe_callB call_len_seq (by rfl) mlen PySem.boot_len (pa_cons (pv 0) pa_nil)) (pe_callB call_len_seq (by rfl) mlen PySem.boot_len (pa_cons (pv 1) pa_nil)) (nomark _)))).pt (pss_one (ps_ret pe_bl)) pss_nil)
      (pss_cons (ps_for PassesOwn.never rfl (pi_range1 (by rfl) mrange (pa_cons (pe_callB call_len_seq (by rfl) mlen PySem.boot_len (pa_cons (pv 1) pa_nil)) pa_nil)) (pg_name (i := 2) scHeldEq.nd rfl (Or.inl rfl))
        (pss_one (ps_if (pt_cmp (pc_isN (pe_ix ix_list (pv 1) (pv 2) (fun _ _ => rfl))))
          (pss_one (ps_if (pt_cmp (pc_notN (pe_ix ix_list (pv 0) (pv 2) (fun _ _ => rfl)))) (pss_one (ps_ret pe_bl)) pss_nil))
          (pss_one (ps_if (pw_or (pt_not (pt_val (pe_call gW.G hr (by rfl) gW.m gW.F.kp gW.b .nil pass0 (pa_cons (pe_ix ix_list (pv 0) (pv 2) (fun _ _ => rfl)) pa_nil))))
            (pw_or1 (pt_cmpR op_ne (pe_ix ix_list (pv 0) (pv 2) (fun _ _ => rfl)) (pe_ix ix_list (pv 1) (pv 2) (fun _ _ => rfl)) (nomark _)))).pt (pss_one (ps_ret pe_bl)) pss_nil)))))
      (pss_one (ps_ret pe_bl))), ?_⟩
    try dsimp only [cxOf]
    refine (evr rfl (mk4_5 _ _ _ _ rfl (.of (.lst ha)) (by intro z; cases z) k1 (evr rfl (iteF ?_))))
    refine (evr rfl (mk2_2 a _ rfl ⟨.inl (SqL.of ha), evr rfl (mk2_4 b _ rfl (.inl hb) rfl (evr rfl (iteNS rfl ?_)))⟩))
    refine (evr rfl ⟨b, evr rfl ⟨.inl hb, evr rfl ⟨(by rw [List.length_map]; (first | lia | omega)), (by rw [List.length_map]; (first | lia | omega)), ?_⟩⟩⟩)
    have el : ((xs.map oV).length : Int).toNat = xs.length := by rw [List.length_map]; (first | lia | omega)
    rw [el]
    refine for_range (n := xs.length) (fun i σ H2 => H2 = H ∧ ∃ v, σ = [some (.ref a), some (.ref b), v]) ⟨rfl, none, rfl⟩ ?_ ?_
    · rintro i σ H2 hi ⟨rfl, v, rfl⟩
      have h1 := at_o hi
      cases e : xs[i] with
      | none =>
        rw [e] at h1
        refine (evv rfl rfl (ix4 (p := b) hb h1 (evr rfl (iteT ?_))))
        refine (evv rfl rfl (ix4 (p := a) (SqL.of ha) h1 (evr rfl (iteF ?_))))
        exact ⟨rfl, _, rfl⟩
      | some j =>
        rw [e] at h1
        refine (evv rfl rfl (ix4 (p := b) hb h1 (evr rfl (iteF ?_))))
        refine (evv rfl rfl (ix4 (p := a) (SqL.of ha) h1 (evv rfl rfl (iteF ?_))))
        refine (evv rfl rfl (ix4 (p := a) (SqL.of ha) h1 (evv rfl rfl (ix4 (p := b) hb h1 ⟨rfl, evr rfl (iteNS rfl ?_)⟩))))
        exact ⟨rfl, _, rfl⟩
    · rintro σ H2 ⟨rfl, v, rfl⟩
      exact q
end
end Pw

set_option Elab.async false
set_option linter.all false
set_option maxRecDepth 100000
set_option maxHeartbeats 4000000
namespace Pw
open PySem L2
section
variable {P : Program} {w : World} {K : PySem.W.Frag} {mg : Str → Option Value} {base : Heap}
/-! ### the checks -/
theorem scBounds : FnScope ["number"] ["number"] (defScope s_in_bounds) := ⟨rfl, rfl, rfl, by decide +kernel, rfl, by decide +kernel, by decide +kernel⟩
theorem ok_bounds {f : Addr} {fd : FuncData} {t1 t2 : Tok} (F : Fun K "in_bounds" "in_bounds" s_in_bounds f fd) (m1 : mg "LEAST" = some (.int 1 t1)) (m2 : mg "GREATEST" = some (.int 9 t2)) : FnOk P w K mg base CX0 1 f fd ["number"] spBounds := by
  refine F.ok scBounds (fun vs H Q E h => ?_) (fun cdv A outer s H vs Q E hr h => ?_)
  · refine ob1_2 h (fun n eRfl _ => ?_); clear h; subst eRfl
    rfl
  · refine ob1_2 h (fun n eRfl q => ?_); clear h; subst eRfl
    refine ⟨_, pss_one (ps_ret (pe_chain op_le op_le (pe_glob (v := .int 1) (by rfl) m1 ⟨_, rfl⟩) (pv 0) (pe_glob (v := .int 9) (by rfl) m2 ⟨_, rfl⟩))), ?_⟩
    try dsimp only [cxOf]
    refine (evr rfl (ev2 rfl rfl (evr rfl (ite2 (fun h => ?_) (fun h => ?_)))))
    · refine (ev2 rfl rfl ?_)
      rw [h, Bool.true_and] at q
      exact q
    · rw [Bool.eq_false_iff.mpr h, Bool.false_and] at q
      exact q
theorem scCheckWall : FnScope ["sizes", "size"] ["sizes"] (defScope s_check_wall) := ⟨rfl, rfl, rfl, by decide +kernel, rfl, by decide +kernel, by decide +kernel⟩
theorem okSizes_all {sz : List Int} (h : okSizes sz = true) : 1 ≤ sz.length ∧ sz.length ≤ 8 ∧ ∀ z ∈ sz, 1 ≤ z ∧ z ≤ 9 := by
  unfold okSizes at h
  rw [Bool.and_eq_true, Bool.and_eq_true] at h
  obtain ⟨⟨h1, h2⟩, h3⟩ := h
  refine ⟨of_decide_eq_true h1, of_decide_eq_true h2, fun z hz => ?_⟩
  have := List.all_eq_true.mp h3 z hz
  rw [Bool.and_eq_true] at this
  exact ⟨of_decide_eq_true this.1, of_decide_eq_true this.2⟩
theorem okSizes_of {sz : List Int} (h1 : 1 ≤ sz.length) (h2 : sz.length ≤ 8) (h3 : ∀ z ∈ sz, 1 ≤ z ∧ z ≤ 9) : okSizes sz = true := by
  unfold okSizes
  rw [decide_eq_true h1, decide_eq_true h2, Bool.true_and, Bool.true_and]
  exact List.all_eq_true.mpr fun z hz => by rw [decide_eq_true (h3 z hz).1, decide_eq_true (h3 z hz).2]; rfl
theorem ok_checkWall {f fB cNW : Addr} {fd fdB : FuncData} {t1 t2 t3 : Tok} {cWE : Addr} (F : Fun K "check_wall" "check_wall" s_check_wall f fd) (gB : Gd P w K mg base "in_bounds" s_in_bounds ["number"] CX0 1 spBounds fB fdB)
    (mlen : mg "len" = none) (mM : mg "MOST_BOXES" = some (.int 8 t1)) (mL : mg "LEAST" = some (.int 1 t2)) (mGr : mg "GREATEST" = some (.int 9 t3)) (R : Rs K mg cWE cNW "NoWall") : FnOk P w K mg base (CXF P w) 2 f fd ["sizes"] (spCheckWall K cNW) := by
  refine F.okX scCheckWall (fun vs H Q E h => ?_) (fun cdv A outer s H vs Q E hr h => ?_)
  · refine ob2_2 h (fun a sz eRfl _ => ?_); clear h; subst eRfl
    rfl
  · refine ob2_4 h (fun a sz eRfl ha q1 q2 => ?_); clear h; subst eRfl
    have GB' := gB.G.cxf
    refine ⟨_, pss_cons (ps_if (pw_or (pt_cmpR op_lt (pe_callB call_len_seq (by rfl) mlen PySem.boot_len (pa_cons (pv 0) pa_nil)) pe_int (nomark _)) (pw_or1 (pt_cmpR op_gt (pe_callB call_len_seq (by rfl) mlen PySem.boot_len (pa_cons (pv 0) pa_nil)) (pe_glob (v := .int 8) (by rfl) mM ⟨_, rfl⟩) (nomark _)))).pt
        (pss_one (ps_raise PySem.F.excBase_ValueError rfl passM_def rfl R.xc R.xt (by rfl) R.m (pa_cons (pe_fstr (pj_str (k := 100) (by decide +kernel) (pj_int (pe_glob (v := .int 8) (by rfl) mM ⟨_, rfl⟩) (pj_str (k := 100) (by decide +kernel) pj_nil (by decide)) (by decide)) (by decide)) (by decide)) pa_nil))) pss_nil)
      (pss_one (ps_for own_def rfl (pi_list (pv 0)) (pg_name (i := 1) scCheckWall.nd rfl (Or.inl rfl))
        (pss_one (ps_if (pt_not (pt_val (pe_call GB' hr (by rfl) gB.m gB.F.kp gB.b .nil pass_def (pa_cons (pv 1) pa_nil))))
          (pss_one (ps_raise PySem.F.excBase_ValueError rfl passM_def rfl R.xc R.xt (by rfl) R.m (pa_cons (pe_fstr (pj_str (k := 100) (by decide +kernel) (pj_int (pe_glob (v := .int 1) (by rfl) mL ⟨_, rfl⟩) (pj_str (k := 100) (by decide +kernel) (pj_int (pe_glob (v := .int 9) (by rfl) mGr ⟨_, rfl⟩) pj_nil (by decide)) (by decide)) (by decide)) (by decide)) (by decide)) pa_nil))) pss_nil)))), ?_⟩
    try dsimp only [cxOf]
    have em : ((sz.map V.int).length : Int) = (sz.length : Int) := by rw [List.length_map]
    have one : ([V.str Str.empty] : List V).length ≤ sizeLine := by show 1 ≤ sizeLine; decide
    refine (evr rfl ⟨a, evr rfl ⟨.inl ha, ev2 rfl rfl (evr rfl (ite2 (fun h => iteT ?_) (fun h => ?_)))⟩⟩)
    · have h := of_decide_eq_true h
      refine ⟨8, rfl, (by decide), fun out => ⟨one, q2 ?_⟩⟩
      rw [em] at h
      refine Bool.eq_false_iff.mpr fun z => ?_
      have := (okSizes_all z).1
      (first | lia | omega)
    · have h := of_decide_eq_false (Bool.eq_false_iff.mpr h)
      rw [em] at h
      refine (evr rfl ⟨a, evr rfl ⟨.inl ha, ev2 rfl rfl (evr rfl (ite2 (fun h2 => ?_) (fun h2 => ?_)))⟩⟩)
      · have h2 := of_decide_eq_true h2
        refine ⟨8, rfl, (by decide), fun out => ⟨one, q2 ?_⟩⟩
        rw [em] at h2
        refine Bool.eq_false_iff.mpr fun z => ?_
        have := (okSizes_all z).2.1
        (first | lia | omega)
      · have h2 := of_decide_eq_false (Bool.eq_false_iff.mpr h2)
        rw [em] at h2
        refine ⟨_, rfl, a, rfl, ⟨_, ha⟩, for_list (K := K) (a := a) (xs := sz.map V.int) (fun i σ H2 => H2 = H ∧ (∃ v, σ = [some (.ref a), v]) ∧ ∀ (j : Nat) z, j < i → sz[j]? = some z → 1 ≤ z ∧ z ≤ 9)
          ⟨rfl, ⟨none, rfl⟩, fun j z hj => absurd hj (Nat.not_lt_zero _)⟩ (fun i σ H2 _ ⟨e, _⟩ => by rw [e]; exact ha) ?_ ?_⟩
        · rintro i y σ H2 hi ⟨rfl, ⟨v, rfl⟩, hall⟩
          obtain ⟨z, hz, rfl⟩ : ∃ z, sz[i]? = some z ∧ y = V.int z := by
            rw [List.getElem?_map] at hi
            cases e : sz[i]? with
            | none => rw [e] at hi; cases hi
            | some z => rw [e] at hi; exact ⟨z, rfl, (Option.some.inj hi).symm⟩
          have hmem : z ∈ sz := List.mem_of_getElem? hz
          refine (evr rfl ⟨z, rfl, evr rfl ?_⟩)
          by_cases hb : 1 ≤ z ∧ z ≤ 9
          · rw [decide_eq_true hb.1, decide_eq_true hb.2]
            refine iteF ⟨rfl, ⟨_, rfl⟩, fun j z' hj e => ?_⟩
            by_cases hji : j = i
            · subst hji
              rw [hz] at e; cases e
              exact hb
            · exact hall j z' (by (first | lia | omega)) e
          · have hb' : (decide (1 ≤ z) && decide (z ≤ 9)) = false := by
              refine Bool.eq_false_iff.mpr fun z' => hb ?_
              rw [Bool.and_eq_true] at z'
              exact ⟨of_decide_eq_true z'.1, of_decide_eq_true z'.2⟩
            rw [hb']
            refine iteT ⟨1, rfl, (by decide), 9, rfl, (by decide), fun out => ⟨one, q2 ?_⟩⟩
            exact Bool.eq_false_iff.mpr fun z' => hb ((okSizes_all z').2.2 z hmem)
        · rintro σ H2 ⟨rfl, ⟨v, rfl⟩, hall⟩
          refine q1 (okSizes_of (by (first | lia | omega)) (by (first | lia | omega)) fun z hz => ?_)
          obtain ⟨j, hj, e⟩ := List.mem_iff_getElem.mp hz
          exact hall j z (by rw [List.length_map]; exact hj) (by rw [List.getElem?_eq_getElem hj, e])
end
end Pw

set_option Elab.async false
set_option linter.all false
set_option maxRecDepth 100000
set_option maxHeartbeats 4000000
namespace Pw
open PySem L2
section
variable {P : Program} {w : World} {K : PySem.W.Frag} {mg : Str → Option Value} {base : Heap}
theorem wflds_eq (l1 l2 : Addr) (c g : Int) : wflds l1 l2 c g = ([("box_sizes", V.ref l1), ("parcels", V.ref l2), ("came", V.int c), ("nights_gone", V.int g)] : List (Str × V)) := by
  unfold wflds
  simp only [putF, ne1, ne2, ne3, ne4, ne5, ne6, if_false]
theorem boot_listT : bootBuiltins "list" = some (.type "list") := by decide +kernel
theorem scInit : FnScope ["self", "sizes"] ["self", "sizes"] (defScope s_Wall___init__) := ⟨rfl, rfl, rfl, by decide +kernel, rfl, by decide +kernel, by decide +kernel⟩
theorem ok_init {f fC cW cP cNW : Addr} {fd fdC : FuncData} (F : Fun K "__init__" "Wall.__init__" s_Wall___init__ f fd) (T : WTxt K cW) (gC : Gd P w K mg base "check_wall" s_check_wall ["sizes"] (CXF P w) 2 (spCheckWall K cNW) fC fdC)
    (mlist : mg "list" = none) : FnOk P w K mg base (CXF P w) 3 f fd ["self", "sizes"] (spInit K cW cP cNW) := by
  refine F.okX scInit (fun vs H Q E h => ?_) (fun cdv A outer s H vs Q E hr h => ?_)
  · refine ob4_2 h (fun p dx a sz eRfl _ => ?_); clear h; subst eRfl
    rfl
  · refine ob4_5 h (fun p dx a sz eRfl hp ha q1 q2 => ?_); clear h; subst eRfl
    refine ⟨_, pss_cons (ps_expr (pe_call gC.G hr (by rfl) gC.m gC.F.kp gC.b .nil pass_def (pa_cons (pv 1) pa_nil)))
      (pss_cons (ps_fld (pv 0) (pe_callTy call_list_of (by rfl) mlist boot_listT (pa_cons (pv 1) pa_nil)) rfl)
      (pss_cons (ps_fld (pv 0) (pe_comp (N := ["size"]) (src := [none]) rfl (blk (osc := defScope s_Wall___init__) (oN := ["self", "sizes"]) rfl rfl (by decide +kernel)) (pi_list (pv 1))
        (fun C s₀ H₀ ex pn => pg_name (i := 0) (show (["size"] : List Str).Nodup by decide +kernel) rfl (Or.inl rfl) (Or.inr rfl)) (fun C s₀ H₀ ex pn => pts_nil) (fun C s₀ H₀ ex pn => pe_non)) rfl)
      (pss_cons (ps_fld (pv 0) pe_int rfl)
      (pss_one (ps_fld (pv 0) pe_int rfl))))), ?_⟩
    try dsimp only [cxOf]
    refine (evr rfl (mk2_4 a sz rfl ha (fun hok => ?_) (fun hno => q2 hno)))
    -- box_sizes
    refine (evr rfl (mk2_3 a _ rfl (.inl ha) (fun l1 hl1 => (evr rfl ⟨p, cW, dx, [], rfl, (by rw [upd_ne (ne_of_none hp hl1)]; exact hp), T.cl, T.n1, (by show 0 < 1000; decide), ?_⟩))))
    have npl1 : p ≠ l1 := ne_of_none hp hl1
    have ha1 : SqL K (upd (upd H l1 (.lst (sz.map V.int))) p (.ins cW dx (putF "box_sizes" (.ref l1) []))) a (sz.map V.int) := by
      rcases ha with (h | ⟨o, h⟩) | h
      · have nap : a ≠ p := ne_of h hp (by intro z; cases z)
        exact .inl (.inl (by rw [upd_ne nap, upd_ne (ne_of_none h hl1)]; exact h))
      · have nap : a ≠ p := ne_of h hp (by intro z; cases z)
        exact .inl (.inr ⟨o, by rw [upd_ne nap, upd_ne (ne_of_none h hl1)]; exact h⟩)
      · exact .inr h
    refine (evr rfl ⟨a, rfl, ⟨_, ha1⟩, fun l2 hl2 => ?_⟩)
    have n2p : l2 ≠ p := fun z => by rw [z, upd_same] at hl2; cases hl2
    have n21 : l2 ≠ l1 := fun z => by rw [upd_ne n2p, z, upd_same] at hl2; cases hl2
    have hl2' : H l2 = none := by rw [upd_ne n2p, upd_ne n21] at hl2; exact hl2
    have hsz : sz.length ≤ 8 := (okSizes_all hok).2.1
    have hline : (8 : Nat) < sizeLine := by decide
    have z0 : ([] : List (Str × V)).length = 0 := rfl
    refine comp_list (K := K) (a := a) (src := [none]) (xs := sz.map V.int) (fun i σ1 H2 => (∃ v, σ1 = [v]) ∧ H2 = upd (upd (upd H l1 (.lst (sz.map V.int))) p (.ins cW dx (putF "box_sizes" (.ref l1) []))) l2 (.lst (List.replicate i .non)) ∧ i ≤ sz.length) ⟨⟨none, rfl⟩, rfl, Nat.zero_le _⟩ ?_ ?_ ?_
    · rintro i σ1 H2 _ ⟨_, rfl, _⟩
      rcases ha1 with (h | ⟨o, h⟩) | h
      · exact .inl (.inl (by rw [upd_ne (ne_of_none h hl2)]; exact h))
      · exact .inl (.inr ⟨o, by rw [upd_ne (ne_of_none h hl2)]; exact h⟩)
      · exact .inr h
    · rintro i x σ1 H2 hx ⟨⟨v, rfl⟩, rfl, hi⟩
      have hil : i < sz.length := by have := (List.getElem?_eq_some_iff.mp hx).1; rw [List.length_map] at this; exact this
      refine gN ?_
      refine tT ?_
      refine ⟨_, upd_same, ?_, ⟨_, rfl⟩, ?_, hil⟩
      · rw [List.length_replicate]; (first | lia | omega)
      · rw [upd_upd, ← List.replicate_succ']
    · rintro σ1 H2 ⟨⟨v, rfl⟩, rfl, hi⟩
      rw [List.length_map]
      refine (evr rfl (mk4_6 p cW dx _ rfl (by rw [upd_ne (Ne.symm n2p)]; exact upd_same) T.cl T.n2 (by show 1 < 1000; decide) ?_))
      refine (evr rfl (mk4_6 p cW dx _ rfl upd_same T.cl T.n3 (by have := length_putF "parcels" (V.ref l2) (putF "box_sizes" (V.ref l1) []); have := length_putF "box_sizes" (V.ref l1) []; (first | lia | omega)) ?_))
      refine (evr rfl (mk4_6 p cW dx _ rfl upd_same T.cl T.n4 (by have := length_putF "came" (V.int 0) (putF "parcels" (V.ref l2) (putF "box_sizes" (V.ref l1) [])); have := length_putF "parcels" (V.ref l2) (putF "box_sizes" (V.ref l1) []); have := length_putF "box_sizes" (V.ref l1) []; (first | lia | omega)) ?_))
      refine q1 hok l1 l2 _ hl1 hl2' ⟨⟨dx, upd_same⟩, ?_, ?_, fun q hq => ?_, ?_, hsz, Ne.symm n21, fun q hq => by have := List.eq_of_mem_replicate hq; cases this⟩ fun b o e hb => ?_
      · rw [upd_ne (Ne.symm npl1), upd_ne (Ne.symm npl1), upd_ne (Ne.symm npl1), upd_ne (Ne.symm n21), upd_ne (Ne.symm npl1), upd_same]
      · rw [upd_ne n2p, upd_ne n2p, upd_ne n2p, upd_same, List.map_replicate]; rfl
      · have := List.eq_of_mem_replicate hq; cases this
      · rw [List.length_replicate]
      · rw [upd_ne hb, upd_ne hb, upd_ne hb, upd_ne (ne_of_none e hl2'), upd_ne hb, upd_ne (ne_of_none e hl1)]
        exact e
end
end Pw

set_option Elab.async false
set_option linter.all false
set_option maxRecDepth 100000
set_option maxHeartbeats 4000000
namespace Pw
open PySem L2
section
variable {P : Program} {w : World} {K : PySem.W.Frag} {mg : Str → Option Value} {base : Heap}
theorem same_upd {H : Hp} {a : Addr} {o : HO} (h : H a = none) : Same H (upd H a o) := fun b u e => by rw [upd_ne (ne_of_none e h)]; exact e
theorem same_put {H H1 : Hp} {a : Addr} {o : HO} (s : Same H H1) (h : H a = none) : Same H (upd H1 a o) := fun b u e => by rw [upd_ne (ne_of_none e h)]; exact s b u e
theorem WallAt.put {cW cP : Addr} {H : Hp} {p l1 l2 b : Addr} {o : HO} {w : Wl} (W : WallAt cW cP H p l1 l2 w) (hp : p ≠ b) (h1 : l1 ≠ b) (h2 : l2 ≠ b) (hq : ∀ q, some q ∈ w.ps → q.ad ≠ b) : WallAt cW cP (upd H b o) p l1 l2 w :=
  ⟨let ⟨dx, h⟩ := W.ob; ⟨dx, by rw [upd_ne hp]; exact h⟩, by rw [upd_ne h1]; exact W.s1, by rw [upd_ne h2]; exact W.s2, fun q hq' => let ⟨dx, h⟩ := W.pc q hq'; ⟨dx, by rw [upd_ne (hq q hq')]; exact h⟩, W.len, W.few, W.ne, W.pn⟩
theorem pf_num (n z l : Int) : (pflds n z l).lookup ("number" : Str) = some (.int n) := by
  unfold pflds; rw [lookup_putF, if_neg (by decide +kernel), lookup_putF, if_neg (by decide +kernel), lookup_putF, if_pos rfl]
theorem take_map_snoc {α β : Type} {f : α → β} {xs : List α} {i : Nat} {x : α} (h : xs[i]? = some x) : (xs.take i).map f ++ [f x] = (xs.take (i + 1)).map f := by
  have hi : i < xs.length := (List.getElem?_eq_some_iff.mp h).1
  have e : xs[i] = x := (List.getElem?_eq_some_iff.mp h).2
  rw [List.take_succ_eq_append_getElem hi, List.map_append, e]
  rfl
def freeTo (ps : List (Option Pc)) (n : Nat) : List Int := ((List.range n).filter fun i => (ps[i]?.join).isNone).map (fun i : Nat => (i : Int))
theorem freeTo_succ (ps : List (Option Pc)) (n : Nat) : freeTo ps (n + 1) = freeTo ps n ++ (if (ps[n]?.join).isNone then [(n : Int)] else []) := by
  unfold freeTo
  rw [List.range_succ, List.filter_append, List.map_append]
  congr 1
  by_cases h : (ps[n]?.join).isNone = true
  · simp [h]
  · simp [h]
theorem freeTo_len (ps : List (Option Pc)) (n : Nat) : (freeTo ps n).length ≤ n := by
  unfold freeTo
  rw [List.length_map]
  exact Nat.le_trans (List.length_filter_le _ _) (by rw [List.length_range]; exact Nat.le_refl _)
theorem scSizes : FnScope ["self"] ["self"] (defScope s_Wall_sizes) := ⟨rfl, rfl, rfl, by decide +kernel, rfl, by decide +kernel, by decide +kernel⟩
theorem scHeld : FnScope ["self"] ["self"] (defScope s_Wall_held) := ⟨rfl, rfl, rfl, by decide +kernel, rfl, by decide +kernel, by decide +kernel⟩
theorem ok_held {f cW cP : Addr} {fd : FuncData} (F : Fun K "held" "Wall.held" s_Wall_held f fd) (T : WTxt K cW) (TP : PTxt K cP) : FnOk P w K mg base CX0 1 f fd ["self"] (spHeld cW cP) := by
  refine F.ok scHeld (fun vs H Q E h => ?_) (fun cdv A outer s H vs Q E hr h => ?_)
  · refine ob4_2 h (fun p l1 l2 w eRfl _ => ?_); clear h; subst eRfl
    rfl
  · refine ob4_3 h (fun p l1 l2 w eRfl W q => ?_); clear h; subst eRfl
    obtain ⟨dx, ho⟩ := W.ob
    refine ⟨_, pss_one (ps_ret (pe_comp (N := ["parcel"]) (src := [none]) rfl (blk (osc := defScope s_Wall_held) (oN := ["self"]) rfl rfl (by decide +kernel)) (pi_list (pe_fld (pv 0) rfl))
      (fun C s₀ H₀ ex pn => pg_name (i := 0) (show (["parcel"] : List Str).Nodup by decide +kernel) rfl (Or.inl rfl) (Or.inr rfl)) (fun C s₀ H₀ ex pn => pts_nil)
      (fun C s₀ H₀ ex pn => pe_ifExp (pt_cmp (pc_isN (pv 0))) pe_non (pe_fldB (K := K) rfl (pv 0) rfl)))), ?_⟩
    try dsimp only [cxOf]
    refine ⟨_, rfl, p, cW, dx, _, _, rfl, ho, T.cl, T.n2, wf_parcels _ _ _ _, l2, rfl, ⟨_, SqL.of W.s2⟩, fun D hD => ?_⟩
    have hlen : w.ps.length ≤ 8 := by rw [W.len]; exact W.few
    have hline : (8 : Nat) < sizeLine := by decide
    refine comp_list (K := K) (a := l2) (src := [none]) (xs := w.ps.map pV) (fun i σ1 H2 => (∃ v, σ1 = [v]) ∧ H2 = upd H D (.lst ((w.ps.take i).map fun o => oV (o.map (·.num)))) ∧ i ≤ w.ps.length) ⟨⟨none, rfl⟩, by rw [List.take_zero]; rfl, Nat.zero_le _⟩ ?_ ?_ ?_
    · rintro i σ1 H2 _ ⟨_, rfl, _⟩
      exact SqL.of (by rw [upd_ne (ne_of_none W.s2 hD)]; exact W.s2)
    · rintro i x σ1 H2 hx ⟨⟨v, rfl⟩, rfl, hi⟩
      obtain ⟨o, ho', rfl⟩ : ∃ o, w.ps[i]? = some o ∧ x = pV o := by
        rw [List.getElem?_map] at hx
        cases e : w.ps[i]? with
        | none => rw [e] at hx; cases hx
        | some z => rw [e] at hx; exact ⟨z, rfl, (Option.some.inj hx).symm⟩
      have hil : i < w.ps.length := (List.getElem?_eq_some_iff.mp ho').1
      refine gN ?_
      refine tT ?_
      have fin : ∀ y, y = oV (o.map (·.num)) → ∃ zs, (upd H D (.lst ((w.ps.take i).map fun o => oV (o.map (·.num))))) D = some (.lst zs) ∧ zs.length < sizeLine ∧ (∃ v_1, [some (pV o)] = [v_1]) ∧ upd (upd H D (.lst ((w.ps.take i).map fun o => oV (o.map (·.num))))) D (.lst (zs ++ [y])) = upd H D (.lst ((w.ps.take (i + 1)).map fun o => oV (o.map (·.num)))) ∧ i + 1 ≤ w.ps.length := by
        rintro y rfl
        refine ⟨_, upd_same, by rw [List.length_map, List.length_take]; (first | lia | omega), ⟨_, rfl⟩, ?_, hil⟩
        rw [upd_upd, take_map_snoc (f := fun o : Option Pc => oV (o.map (·.num))) ho']
      cases o with
      | none => exact (evv rfl rfl (iteT (fin _ rfl)))
      | some pc =>
        obtain ⟨dp, hpc⟩ := W.pc pc (List.mem_of_getElem? ho')
        refine (evv rfl rfl (iteF (evr rfl (mk5_6 pc.ad cP dp _ _ rfl (by rw [upd_ne (ne_of_none hpc hD)]; exact hpc) TP.cl TP.n1 (pf_num _ _ _) (fin _ rfl)))))
    · rintro σ1 H2 ⟨⟨v, rfl⟩, rfl, hi⟩
      refine q D _ hD (same_upd hD) ?_
      rw [upd_same, List.length_map, List.take_length]
      unfold heldOf
      rw [List.map_map]
      rfl
theorem scFree : FnScope ["self"] ["self"] (defScope s_Wall_free) := ⟨rfl, rfl, rfl, by decide +kernel, rfl, by decide +kernel, by decide +kernel⟩
theorem ok_free {f cW cP : Addr} {fd : FuncData} (F : Fun K "free" "Wall.free" s_Wall_free f fd) (T : WTxt K cW) (menum : mg "enumerate" = none) : FnOk P w K mg base CX0 1 f fd ["self"] (spFree cW cP) := by
  refine F.ok scFree (fun vs H Q E h => ?_) (fun cdv A outer s H vs Q E hr h => ?_)
  · refine ob4_2 h (fun p l1 l2 w eRfl _ => ?_); clear h; subst eRfl
    rfl
  · refine ob4_3 h (fun p l1 l2 w eRfl W q => ?_); clear h; subst eRfl
    obtain ⟨dx, ho⟩ := W.ob
    refine ⟨_, pss_one (ps_ret (pe_comp (N := ["box", "parcel"]) (src := [none, none]) rfl (blk (osc := defScope s_Wall_free) (oN := ["self"]) rfl rfl (by decide +kernel)) (pi_enum (by rfl) menum (pa_cons (pe_fld (pv 0) rfl) pa_nil))
      (fun C s₀ H₀ ex pn => pg_tupB (K := K) (n := 2) rfl rfl (pgs_cons (pg_name (i := 0) (show (["box", "parcel"] : List Str).Nodup by decide +kernel) rfl (Or.inl rfl) (Or.inr rfl)) (pgs_cons (pg_name (i := 1) (show (["box", "parcel"] : List Str).Nodup by decide +kernel) rfl (Or.inl rfl) (Or.inr rfl)) pgs_nil)) rfl rfl)
      (fun C s₀ H₀ ex pn => pts_one (pt_cmp (pc_isN (pv 1)))) (fun C s₀ H₀ ex pn => pv 0))), ?_⟩
    try dsimp only [cxOf]
    refine ⟨_, rfl, p, cW, dx, _, _, rfl, ho, T.cl, T.n2, wf_parcels _ _ _ _, l2, rfl, ⟨_, SqL.of W.s2⟩, fun D hD => ?_⟩
    have hlen : w.ps.length ≤ 8 := by rw [W.len]; exact W.few
    have hline : (8 : Nat) < sizeLine := by decide
    refine comp_enum (K := K) (a := l2) (src := [none, none]) (xs := w.ps.map pV) (fun i σ1 H2 => (∃ u v, σ1 = [u, v]) ∧ Same H H2 ∧ H2 D = some (.lst ((freeTo w.ps i).map V.int)) ∧ i ≤ w.ps.length) ⟨⟨none, none, rfl⟩, same_upd hD, upd_same, Nat.zero_le _⟩ ?_ ?_ ?_
    · rintro i σ1 H2 _ ⟨_, sm, _⟩
      exact SqL.of (sm _ _ W.s2)
    · rintro i x pp σ1 H2 hx hpp ⟨⟨u, v, rfl⟩, sm, hD2, hi⟩
      obtain ⟨o, ho', rfl⟩ : ∃ o, w.ps[i]? = some o ∧ x = pV o := by
        rw [List.getElem?_map] at hx
        cases e : w.ps[i]? with
        | none => rw [e] at hx; cases hx
        | some z => rw [e] at hx; exact ⟨z, rfl, (Option.some.inj hx).symm⟩
      have hil : i < w.ps.length := (List.getElem?_eq_some_iff.mp ho').1
      have nDp : D ≠ pp := ne_of_none hD2 hpp
      have sm2 : Same H (upd H2 pp (.tup [.int i, pV o])) := same_put sm (sm.free hpp)
      have hD3 : (upd H2 pp (.tup [.int i, pV o])) D = some (.lst ((freeTo w.ps i).map V.int)) := by rw [upd_ne nDp]; exact hD2
      have hfl := freeTo_len w.ps i
      refine ⟨pp, _, rfl, SqT.of upd_same, rfl, _, _, rfl, _, _, rfl, rfl, ?_⟩
      cases o with
      | none =>
        refine (evv rfl rfl (iteT (evr rfl ⟨_, hD3, (by rw [List.length_map]; (first | lia | omega)), ⟨_, _, rfl⟩, same_put sm2 hD, ?_, hil⟩)))
        rw [upd_same, freeTo_succ, ho', List.map_append]
        rfl
      | some pc =>
        refine (evv rfl rfl (iteF ⟨⟨_, _, rfl⟩, sm2, ?_, hil⟩))
        rw [hD3, freeTo_succ, ho']
        simp
    · rintro σ1 H2 ⟨⟨u, v, rfl⟩, sm, hD2, hi⟩
      refine q D _ hD sm ?_
      rw [hD2, List.length_map]
      rfl
theorem mkS {H : Hp} {x dx : Addr} {o1 o2 : HO} (hp : H x = none) (hdx : H dx = none) : Same H (upd (upd H dx o1) x o2) := fun b o e => by
  rw [upd_ne (ne_of_none e hp), upd_ne (ne_of_none e hdx)]; exact e
theorem mkK {H H' : Hp} {x dx : Addr} {o1 o2 : HO} (hp : H x = none) (hdx : H dx = none) (kp : ∀ b o, (upd (upd H dx o1) x o2) b = some o → b ≠ x → H' b = some o) : Same H H' := fun b o e => kp b o (mkS hp hdx b o e) (ne_of_none e hp)
end
end Pw

set_option Elab.async false
set_option linter.all false
set_option maxRecDepth 100000
set_option maxHeartbeats 4000000
namespace Pw
open PySem L2
section
variable {P : Program} {w : World} {K : PySem.W.Frag} {mg : Str → Option Value} {base : Heap}
/-- _law_sizes_by(script, base): sizes of a wall -/
def spSizesBy (K : PySem.W.Frag) : Sp := fun vs H Q _ => ∃ (a : Addr) (ns : List Int) (b : Int), vs = [.ref a, .int b] ∧ SqL K H a (ns.map V.int) ∧ ns.length ≤ 63 ∧ 0 ≤ b ∧ b < 10000 ∧ ∀ sz, okSizes sz = true → tells H (sz.map V.int) Q
theorem three_at {d x y z : Int} (h1 : 0 ≤ d) (h2 : d < 3) : ∃ v, atI [V.int x, V.int y, V.int z] d = some (.int v) ∧ (v = x ∨ v = y ∨ v = z) := by
  have : d = ((0 : Nat) : Int) ∨ d = ((1 : Nat) : Int) ∨ d = ((2 : Nat) : Int) := by (first | lia | omega)
  rcases this with h | h | h
  · exact ⟨x, by rw [h]; exact atI_nat (j := 0) rfl, .inl rfl⟩
  · exact ⟨y, by rw [h]; exact atI_nat (j := 1) rfl, .inr (.inl rfl)⟩
  · exact ⟨z, by rw [h]; exact atI_nat (j := 2) rfl, .inr (.inr rfl)⟩
theorem four_at {d x y z u : Int} (h1 : 0 ≤ d) (h2 : d < 4) : ∃ v, atI [V.int x, V.int y, V.int z, V.int u] d = some (.int v) ∧ (v = x ∨ v = y ∨ v = z ∨ v = u) := by
  have : d = ((0 : Nat) : Int) ∨ d = ((1 : Nat) : Int) ∨ d = ((2 : Nat) : Int) ∨ d = ((3 : Nat) : Int) := by (first | lia | omega)
  rcases this with h | h | h | h
  · exact ⟨x, by rw [h]; exact atI_nat (j := 0) rfl, .inl rfl⟩
  · exact ⟨y, by rw [h]; exact atI_nat (j := 1) rfl, .inr (.inl rfl)⟩
  · exact ⟨z, by rw [h]; exact atI_nat (j := 2) rfl, .inr (.inr (.inl rfl))⟩
  · exact ⟨u, by rw [h]; exact atI_nat (j := 3) rfl, .inr (.inr (.inr rfl))⟩
theorem two_at {d x y : Int} (h1 : 0 ≤ d) (h2 : d < 2) : ∃ v, atI [V.int x, V.int y] d = some (.int v) ∧ (v = x ∨ v = y) := by
  have : d = ((0 : Nat) : Int) ∨ d = ((1 : Nat) : Int) := by (first | lia | omega)
  rcases this with h | h
  · exact ⟨x, by rw [h]; exact atI_nat (j := 0) rfl, .inl rfl⟩
  · exact ⟨y, by rw [h]; exact atI_nat (j := 1) rfl, .inr rfl⟩
theorem scSB : FnScope ["script", "base", "many", "top"] ["script", "base"] (defScope s__law_sizes_by) := ⟨rfl, rfl, rfl, by decide +kernel, rfl, by decide +kernel, by decide +kernel⟩
theorem ok_sizesBy {f fD : Addr} {fd fdD : FuncData} (F : Fun K "_law_sizes_by" "_law_sizes_by" s__law_sizes_by f fd) (gD : Gd P w K mg base "_law_drawn" s__law_drawn ["script", "k", "many"] CX0 1 (spDrawn K) fD fdD) (mrange : mg "range" = none) : FnOk P w K mg base CX0 2 f fd ["script", "base"] (spSizesBy K) := by
  refine F.ok scSB (fun vs H Q E h => ?_) (fun cdv A outer s H vs Q E hr h => ?_)
  · refine ob3_2 h (fun a ns b eRfl _ => ?_); clear h; subst eRfl
    rfl
  · refine ob3_6 h (fun a ns b eRfl hS hl hb0 hb1 q => ?_); clear h; subst eRfl
    have hr1 : Room 1 _ := hr
    refine ⟨_, (pss_cons (ps_set (i := 2) scSB.nd rfl (Or.inl rfl) (pe_op op_add pe_int (pe_call gD.G hr1 (by rfl) gD.m gD.F.kp gD.b .nil pass0 (pa_cons (pv 0) (pa_cons (pv 1) (pa_cons pe_int pa_nil))))))
      (pss_cons (ps_set (i := 3) scSB.nd rfl (Or.inr rfl) (pe_ix ix_list (pe_lst (pa_cons pe_int (pa_cons pe_int (pa_cons pe_int pa_nil)))) (pe_call gD.G hr1 (by rfl) gD.m gD.F.kp gD.b .nil pass0 (pa_cons (pv 0) (pa_cons (pe_op op_add (pv 1) pe_int) (pa_cons pe_int pa_nil)))) (fun _ _ => rfl)))
      (pss_one (ps_ret (pe_comp (N := ["k", "script", "top", "base"]) (src := [none, some 0, some 3, some 1]) rfl (blk (osc := defScope s__law_sizes_by) (oN := ["script", "base", "many", "top"]) rfl rfl (by decide +kernel)) (pi_range1 (by rfl) mrange (pa_cons (pv 2) pa_nil)) (fun C s₀ H₀ ex pn => pg_name (i := 0) (show (["k", "script", "top", "base"] : List Str).Nodup by decide +kernel) rfl (Or.inl rfl) (Or.inr rfl)) (fun C s₀ H₀ ex pn => pts_nil) (fun C s₀ H₀ ex pn => (pe_op op_add pe_int (pe_call gD.G hr1 (by rfl) gD.m gD.F.kp gD.b .nil pass0 (pa_cons (pv 1) (pa_cons (pe_op op_add (pe_op op_add (pv 3) pe_int) (pv 0)) (pa_cons (pv 2) pa_nil))))))))))), ?_⟩
    try dsimp only [cxOf]
    have d1 := drawn_lo ns b (many := 8) (by decide)
    have d2 := drawn_hi ns b (many := 8) (by decide)
    refine (evv rfl rfl (mk4_7 a ns b 8 rfl hS hl (by (first | lia | omega)) (by (first | lia | omega)) (by decide) ⟨by decide, ev2 rfl rfl ?_⟩))
    generalize drawn ns b 8 = d at d1 d2 ⊢
    refine ⟨(by show 3 ≤ sizeLine; decide), fun L hL => ?_⟩
    have sL : ∀ o, Same H (upd H L o) := fun o => same_upd hL
    obtain ⟨top, ht, htop⟩ := three_at (x := 3) (y := 5) (z := 9) (drawn_lo ns (b + 1) (many := 3) (by decide)) (drawn_hi ns (b + 1) (many := 3) (by decide))
    refine (evv rfl rfl (ev2 rfl rfl (mk4_8 a ns (b + 1) 3 rfl ((sL _).seq hS) hl (by (first | lia | omega)) (by (first | lia | omega)) (by decide) (by decide) (ix4 (p := L) (SqL.of upd_same) ht ?_))))
    generalize hH1 : upd H L (.lst [.int 3, .int 5, .int 9]) = H1
    have s1 : Same H H1 := by rw [← hH1]; exact sL _
    have ht2 : 0 < top ∧ top ≤ 9 := by (first | lia | omega)
    have hline : (63 : Nat) < sizeLine := by decide
    refine (evv rfl rfl ⟨(by (first | lia | omega)), (by (first | lia | omega)), fun D hD => ?_⟩)
    refine comp_range (lo := 0) (n := (1 + d).toNat) (src := [none, some 0, some 3, some 1]) (fun i σ1 H2 => (∃ v, σ1 = [v, some (.ref a), some (.int top), some (.int b)]) ∧ Same H1 H2 ∧ (∃ sz : List Int, H2 = upd H1 D (.lst (sz.map V.int)) ∧ sz.length = i ∧ ∀ z ∈ sz, 1 ≤ z ∧ z ≤ 9) ∧ i ≤ 8)
      ⟨⟨none, rfl⟩, same_upd hD, ⟨[], rfl, rfl, fun z hz => by cases hz⟩, Nat.zero_le _⟩ ?_ ?_
    · rintro i σ1 H2 hi ⟨⟨v, rfl⟩, s2, ⟨sz, rfl, hsl, hsz⟩, _⟩
      refine gN ?_
      refine tT ?_
      have e1 := drawn_lo ns (b + 2 + (0 + (i : Int))) (many := top) ht2.1
      have e2 := drawn_hi ns (b + 2 + (0 + (i : Int))) (many := top) ht2.1
      refine (evv rfl rfl (ev2 rfl rfl (evr rfl (ev2 rfl rfl (evr rfl ⟨a, ns, b + 2 + (0 + (i : Int)), top, rfl, (s1.trans s2).seq hS, hl, by (first | lia | omega), by (first | lia | omega), ht2.1, by (first | lia | omega), ev2 rfl rfl ⟨_, upd_same, (by rw [List.length_map]; (first | lia | omega)), ⟨_, rfl⟩, ?_, ⟨sz ++ [1 + drawn ns (b + 2 + (0 + (i : Int))) top], ?_, (by rw [List.length_append, hsl]; rfl), ?_⟩, by (first | lia | omega)⟩⟩)))))
      · rw [upd_upd]; exact same_upd hD
      · rw [upd_upd, List.map_append]; rfl
      · intro z hz
        rcases List.mem_append.mp hz with hz | hz
        · exact hsz z hz
        · rw [List.mem_singleton.mp hz]; (first | lia | omega)
    · rintro σ1 H2 ⟨_, s2, ⟨sz, rfl, hsl, hsz⟩, _⟩
      exact q sz (okSizes_of (by (first | lia | omega)) (by (first | lia | omega)) hsz) D _ (s1.free hD) (s1.trans s2) upd_same
/-! ### a list made of a call's numbers, None in every place -/
theorem nones_comp {K : PySem.W.Frag} {a D : Addr} {xs : List V} {σ : St} {H : Hp} {Q : VK} (hS : SqL K H a xs) (hD : H D = none) (hl : xs.length ≤ 63) (q : ∀ H', Same H H' → H' D = some (.lst (List.replicate xs.length .non)) → H' = upd H D (.lst (List.replicate xs.length .non)) → Q (.ref D) H') :
    CompW (Itl K a) [none] (gName 0) tTrue (tC .non) Q σ H D := by
  have hline : (63 : Nat) < sizeLine := by decide
  refine comp_list (K := K) (a := a) (src := [none]) (xs := xs) (fun i σ1 H2 => (∃ v, σ1 = [v]) ∧ H2 = upd H D (.lst (List.replicate i .non)) ∧ i ≤ xs.length) ⟨⟨none, rfl⟩, rfl, Nat.zero_le _⟩ ?_ ?_ ?_
  · rintro i σ1 H2 _ ⟨_, rfl, _⟩
    exact (same_upd hD).seq hS
  · rintro i x σ1 H2 hx ⟨⟨v, rfl⟩, rfl, hi⟩
    have hil : i < xs.length := (List.getElem?_eq_some_iff.mp hx).1
    refine gN (tT ⟨_, upd_same, ?_, ⟨_, rfl⟩, ?_, hil⟩)
    · rw [List.length_replicate]; (first | lia | omega)
    · rw [upd_upd, ← List.replicate_succ']
  · rintro σ1 H2 ⟨_, rfl, _⟩
    exact q _ (same_upd hD) upd_same rfl
end
end Pw

set_option Elab.async false
set_option linter.all false
set_option maxRecDepth 100000
set_option maxHeartbeats 4000000
namespace Pw
open PySem L2
section
variable {P : Program} {w : World} {K : PySem.W.Frag} {mg : Str → Option Value} {base : Heap}
theorem scCS : FnScope ["size"] ["size"] (defScope s_check_size) := ⟨rfl, rfl, rfl, by decide +kernel, rfl, by decide +kernel, by decide +kernel⟩
theorem ok_checkSize {f fB cWE cNS : Addr} {fd fdB : FuncData} {t2 t3 : Tok} (F : Fun K "check_size" "check_size" s_check_size f fd) (gB : Gd P w K mg base "in_bounds" s_in_bounds ["number"] CX0 1 spBounds fB fdB)
    (mLEAST : mg "LEAST" = some (.int 1 t2)) (mGREATEST : mg "GREATEST" = some (.int 9 t3)) (RNoSize : Rs K mg cWE cNS "NoSize") : FnOk P w K mg base (CXF P w) 2 f fd ["size"] (spCheckNum cNS) := by
  refine F.okX scCS (fun vs H Q E h => ?_) (fun cdv A outer s H vs Q E hr h => ?_)
  · refine ob1_2 h (fun z eRfl _ => ?_); clear h; subst eRfl
    rfl
  · refine ob1_3 h (fun z eRfl q1 q2 => ?_); clear h; subst eRfl
    refine ⟨_, (pss_one (ps_if (pt_not (pt_val (pe_call gB.G.cxf hr (by rfl) gB.m gB.F.kp gB.b .nil pass_def (pa_cons (pv 0) pa_nil)))) (pss_one (ps_raise PySem.F.excBase_ValueError rfl passM_def rfl RNoSize.xc RNoSize.xt (by rfl) RNoSize.m (pa_cons (pe_fstr (pj_str (k := 100) (by decide +kernel) (pj_int (pe_glob (v := .int 1) (by rfl) mLEAST ⟨_, rfl⟩) (pj_str (k := 100) (by decide +kernel) (pj_int (pe_glob (v := .int 9) (by rfl) mGREATEST ⟨_, rfl⟩) pj_nil (by decide)) (by decide)) (by decide)) (by decide)) (by decide)) pa_nil))) pss_nil)), ?_⟩
    try dsimp only [cxOf]
    refine (evr rfl ⟨z, rfl, evr rfl ?_⟩)
    have q1 : (decide (1 ≤ z) && decide (z ≤ 9)) = true → Q .non H := q1
    have q2 : (decide (1 ≤ z) && decide (z ≤ 9)) = false → E (.ref cNS) none H := q2
    cases e : (decide (1 ≤ z) && decide (z ≤ 9)) with
    | true => exact iteF (q1 e)
    | false => exact iteT ⟨1, rfl, (by decide), 9, rfl, (by decide), fun out => ⟨(by show 1 ≤ sizeLine; decide), q2 e⟩⟩
theorem scCN : FnScope ["nights"] ["nights"] (defScope s_check_nights) := ⟨rfl, rfl, rfl, by decide +kernel, rfl, by decide +kernel, by decide +kernel⟩
theorem ok_checkNights {f fB cWE cNN : Addr} {fd fdB : FuncData} {t2 t3 : Tok} (F : Fun K "check_nights" "check_nights" s_check_nights f fd) (gB : Gd P w K mg base "in_bounds" s_in_bounds ["number"] CX0 1 spBounds fB fdB)
    (mLEAST : mg "LEAST" = some (.int 1 t2)) (mGREATEST : mg "GREATEST" = some (.int 9 t3)) (RNoNights : Rs K mg cWE cNN "NoNights") : FnOk P w K mg base (CXF P w) 2 f fd ["nights"] (spCheckNum cNN) := by
  refine F.okX scCN (fun vs H Q E h => ?_) (fun cdv A outer s H vs Q E hr h => ?_)
  · refine ob1_2 h (fun z eRfl _ => ?_); clear h; subst eRfl
    rfl
  · refine ob1_3 h (fun z eRfl q1 q2 => ?_); clear h; subst eRfl
    refine ⟨_, (pss_one (ps_if (pt_not (pt_val (pe_call gB.G.cxf hr (by rfl) gB.m gB.F.kp gB.b .nil pass_def (pa_cons (pv 0) pa_nil)))) (pss_one (ps_raise PySem.F.excBase_ValueError rfl passM_def rfl RNoNights.xc RNoNights.xt (by rfl) RNoNights.m (pa_cons (pe_fstr (pj_str (k := 100) (by decide +kernel) (pj_int (pe_glob (v := .int 1) (by rfl) mLEAST ⟨_, rfl⟩) (pj_str (k := 100) (by decide +kernel) (pj_int (pe_glob (v := .int 9) (by rfl) mGREATEST ⟨_, rfl⟩) (pj_str (k := 100) (by decide +kernel) pj_nil (by decide)) (by decide)) (by decide)) (by decide)) (by decide)) (by decide)) pa_nil))) pss_nil)), ?_⟩
    try dsimp only [cxOf]
    refine (evr rfl ⟨z, rfl, evr rfl ?_⟩)
    have q1 : (decide (1 ≤ z) && decide (z ≤ 9)) = true → Q .non H := q1
    have q2 : (decide (1 ≤ z) && decide (z ≤ 9)) = false → E (.ref cNN) none H := q2
    cases e : (decide (1 ≤ z) && decide (z ≤ 9)) with
    | true => exact iteF (q1 e)
    | false => exact iteT ⟨1, rfl, (by decide), 9, rfl, (by decide), fun out => ⟨(by show 1 ≤ sizeLine; decide), q2 e⟩⟩
/-! ### Parcel.__init__ -/
theorem scPI : FnScope ["self", "number", "size", "last_night"] ["self", "number", "size", "last_night"] (defScope s_Parcel___init__) := ⟨rfl, rfl, rfl, by decide +kernel, rfl, by decide +kernel, by decide +kernel⟩
theorem ok_parcel {f cP : Addr} {fd : FuncData} (F : Fun K "__init__" "Parcel.__init__" s_Parcel___init__ f fd) (TP : PTxt K cP) : FnOk P w K mg base CX0 1 f fd ["self", "number", "size", "last_night"] (spParcel cP) := by
  refine F.ok scPI (fun vs H Q E h => ?_) (fun cdv A outer s H vs Q E hr h => ?_)
  · refine ob5_2 h (fun x dx n z l eRfl _ => ?_); clear h; subst eRfl
    rfl
  · refine ob5_3 h (fun x dx n z l eRfl hx q => ?_); clear h; subst eRfl
    refine ⟨_, (pss_cons (ps_fld (pv 0) (pv 1) rfl)
      (pss_cons (ps_fld (pv 0) (pv 2) rfl)
      (pss_one (ps_fld (pv 0) (pv 3) rfl)))), ?_⟩
    try dsimp only [cxOf]
    refine (evv rfl rfl ⟨x, cP, dx, [], rfl, hx, TP.cl, TP.n1, (by show 0 < 1000; decide), ?_⟩)
    refine (evv rfl rfl (mk4_6 x cP dx _ rfl upd_same TP.cl TP.n2 (by show 1 < 1000; decide) ?_))
    refine (evv rfl rfl (mk4_6 x cP dx _ rfl upd_same TP.cl TP.n3 (by have := length_putF "size" (V.int z) (putF "number" (V.int n) []); have := length_putF "number" (V.int n) []; have z0 : ([] : List (Str × V)).length = 0 := rfl; (first | lia | omega)) ?_))
    exact q _ upd_same fun b hb => by rw [upd_ne hb, upd_ne hb, upd_ne hb]
/-! ### the boxes that hold a size -/
theorem free_mem {w : Wl} {b : Int} : b ∈ freeOf w ↔ ∃ i : Nat, b = (i : Int) ∧ i < w.ps.length ∧ (w.ps[i]?.join).isNone = true := by
  unfold freeOf
  rw [List.mem_map]
  constructor
  · rintro ⟨i, h, rfl⟩
    obtain ⟨h1, h2⟩ := List.mem_filter.mp h
    exact ⟨i, rfl, List.mem_range.mp h1, h2⟩
  · rintro ⟨i, rfl, h1, h2⟩
    exact ⟨i, List.mem_filter.mpr ⟨List.mem_range.mpr h1, h2⟩, rfl⟩
theorem boxes_mem {w : Wl} {size b : Int} : b ∈ boxesFor w size ↔ ∃ i : Nat, b = (i : Int) ∧ fitsAt w size i := by
  unfold boxesFor fitsAt
  rw [List.mem_filter, free_mem]
  constructor
  · rintro ⟨⟨i, rfl, h1, h2⟩, h3⟩
    rw [Int.toNat_natCast, decide_eq_true_eq] at h3
    exact ⟨i, rfl, h1, h2, h3⟩
  · rintro ⟨i, rfl, h1, h2, h3⟩
    refine ⟨⟨i, rfl, h1, h2⟩, ?_⟩
    rw [Int.toNat_natCast, decide_eq_true_eq]
    exact h3
theorem free_len (w : Wl) : (freeOf w).length ≤ w.ps.length := freeTo_len w.ps w.ps.length
theorem boxes_len (w : Wl) (size : Int) : (boxesFor w size).length ≤ w.ps.length := Nat.le_trans (List.length_filter_le _ _) (free_len w)
theorem size_at {w : Wl} {i : Nat} (h : i < w.sz.length) : atI (w.sz.map V.int) ((i : Nat) : Int) = some (.int (w.sz.getD i 0)) := atI_nat (by rw [List.getElem?_map, List.getElem?_eq_getElem h]; simp [h])
theorem take_filter_snoc {α : Type} {p : α → Bool} {xs : List α} {i : Nat} {x : α} (h : xs[i]? = some x) : (xs.take (i + 1)).filter p = (xs.take i).filter p ++ (if p x = true then [x] else []) := by
  have hi : i < xs.length := (List.getElem?_eq_some_iff.mp h).1
  have e : xs[i] = x := (List.getElem?_eq_some_iff.mp h).2
  rw [List.take_succ_eq_append_getElem hi, List.filter_append, e]
  congr 1
  by_cases hp : p x = true
  · simp [hp]
  · simp [hp]
theorem scBF : FnScope ["self", "size"] ["self", "size"] (defScope s_Wall_boxes_for) := ⟨rfl, rfl, rfl, by decide +kernel, rfl, by decide +kernel, by decide +kernel⟩
theorem ok_boxesFor {f fF cW cP : Addr} {fd fdF : FuncData} (F : Fun K "boxes_for" "Wall.boxes_for" s_Wall_boxes_for f fd) (T : WTxt K cW) (dF : Md P w K mg base cW "free" ["self"] CX0 1 (spFree cW cP) fF fdF) : FnOk P w K mg base CX0 2 f fd ["self", "size"] (spBoxesFor cW cP) := by
  refine F.ok scBF (fun vs H Q E h => ?_) (fun cdv A outer s H vs Q E hr h => ?_)
  · refine ob5_2 h (fun p l1 l2 w size eRfl _ => ?_); clear h; subst eRfl
    rfl
  · refine ob5_3 h (fun p l1 l2 w size eRfl W q => ?_); clear h; subst eRfl
    obtain ⟨dx, ho⟩ := W.ob
    refine ⟨_, (pss_one (ps_ret (pe_comp (N := ["box", "size", "self"]) (src := [none, some 1, some 0]) rfl (blk (osc := defScope s_Wall_boxes_for) (oN := ["self", "size"]) rfl rfl (by decide +kernel)) (pi_list (pe_meth0 (pv 0) T.cl dF.me dF.G hr dF.b .nil pass0)) (fun C s₀ H₀ ex pn => pg_name (i := 0) (show (["box", "size", "self"] : List Str).Nodup by decide +kernel) rfl (Or.inl rfl) (Or.inr rfl)) (fun C s₀ H₀ ex pn => pts_one (pt_cmpR op_ge (pe_ixB (K := K) rfl (pe_fldB (K := K) rfl (pv 2) rfl) (pv 0) (fun _ _ => rfl)) (pv 1) (nomark _))) (fun C s₀ H₀ ex pn => (pv 0))))), ?_⟩
    try dsimp only [cxOf]
    refine (evr rfl (ex3 p dx _ ⟨rfl, ho, wf_no _ _ _ _ (by decide +kernel) (by decide +kernel) (by decide +kernel) (by decide +kernel), ex4 p l1 l2 w ⟨rfl, W, fun r H1 n1 s1 h1 => ⟨r, rfl, ⟨_, SqL.of h1⟩, fun D hD => ?_⟩⟩⟩))
    have W1 := W.mono s1
    have hlen : w.ps.length ≤ 8 := by rw [W.len]; exact W.few
    have hline : (8 : Nat) < sizeLine := by decide
    refine comp_list (K := K) (a := r) (src := [none, some 1, some 0]) (xs := (freeOf w).map V.int) (fun i σ1 H2 => (∃ v, σ1 = [v, some (.int size), some (.ref p)]) ∧ H2 = upd H1 D (.lst ((((freeOf w).take i).filter fun b => decide (size ≤ w.sz.getD b.toNat 0)).map V.int)) ∧ i ≤ (freeOf w).length) ⟨⟨none, rfl⟩, rfl, Nat.zero_le _⟩ ?_ ?_ ?_
    · rintro i σ1 H2 _ ⟨_, rfl, _⟩
      exact SqL.of (by rw [upd_ne (ne_of_none h1 hD)]; exact h1)
    · rintro i x σ1 H2 hx ⟨⟨v, rfl⟩, rfl, hi⟩
      rw [List.getElem?_map] at hx
      cases hb : (freeOf w)[i]? with
      | none => rw [hb] at hx; cases hx
      | some b =>
        rw [hb] at hx
        cases hx
        obtain ⟨j, rfl, hj, _⟩ := free_mem.mp (List.mem_of_getElem? hb)
        have W2 := W1.mono (same_upd (o := .lst ((((freeOf w).take i).filter fun b => decide (size ≤ w.sz.getD b.toNat 0)).map V.int)) hD)
        obtain ⟨dx2, ho2⟩ := W2.ob
        have hil : i < (freeOf w).length := (List.getElem?_eq_some_iff.mp hb).1
        have hsz : j < w.sz.length := by rw [← W.len]; exact hj
        have hfl : (((freeOf w).take i).filter fun b => decide (size ≤ w.sz.getD b.toNat 0)).length ≤ i := Nat.le_trans (List.length_filter_le _ _) (by rw [List.length_take]; (first | lia | omega))
        have hfw := free_len w
        refine gN ?_
        refine (evr rfl (mk5_6 p cW dx2 _ _ rfl ho2 T.cl T.n1 (wf_sizes _ _ _ _) (evr rfl (ix4 (p := l1) (SqL.of W2.s1) (size_at hsz) (evr rfl (ev2 rfl rfl (evr rfl ?_)))))))
        have es := take_filter_snoc (p := fun b : Int => decide (size ≤ w.sz.getD b.toNat 0)) hb
        rw [Int.toNat_natCast] at es
        refine ite2 (fun c => ?_) (fun c => ?_)
        · refine (evr rfl ⟨_, upd_same, (by rw [List.length_map]; (first | lia | omega)), ⟨_, rfl⟩, ?_, hil⟩)
          rw [upd_upd, es, if_pos c, List.map_append]
          rfl
        · refine ⟨⟨_, rfl⟩, ?_, hil⟩
          rw [es, if_neg c, List.append_nil]
    · rintro σ1 H2 ⟨⟨v, rfl⟩, rfl, hi⟩
      refine q D _ (s1.free hD) (s1.trans (same_upd hD)) ?_
      rw [upd_same, List.length_map, List.take_length]
      rfl
/-! ### the least of them -/
theorem PairsAt.snoc {H : Hp} {ts : List Addr} {ps : List (Int × Int)} {D t : Addr} {m : Int × Int} {o : HO} (h : PairsAt K H ts ps) (hD : ∀ a ∈ ts, a ≠ D) (ht : H t = none) (htD : t ≠ D) : PairsAt K (upd (upd H t (.tup [.int m.1, .int m.2])) D o) (ts ++ [t]) (ps ++ [m]) := by
  refine ⟨by rw [List.length_append, List.length_append, h.1]; rfl, fun i a n ha hn => ?_⟩
  by_cases hi : i < ts.length
  · rw [List.getElem?_append_left hi] at ha
    rw [List.getElem?_append_left (by rw [← h.1]; exact hi)] at hn
    have := h.2 i a n ha hn
    rw [upd_ne (hD a (List.mem_of_getElem? ha)), upd_ne (ne_of_none this ht)]
    exact this
  · rw [List.getElem?_append_right (by (first | lia | omega))] at ha
    rw [List.getElem?_append_right (by rw [← h.1]; (first | lia | omega)), ← h.1] at hn
    have e : i - ts.length = 0 := by
      cases z : i - ts.length with
      | zero => rfl
      | succ k => rw [z] at ha; cases ha
    rw [e] at ha hn
    cases ha; cases hn
    rw [upd_ne htD, upd_same]
theorem PairsAt.mono {H H' : Hp} {ts : List Addr} {ps : List (Int × Int)} (h : PairsAt K H ts ps) (s : Same H H') : PairsAt K H' ts ps := ⟨h.1, fun i a m ha hm => s _ _ (h.2 i a m ha hm)⟩
def pairOf (w : Wl) (b : Int) : Int × Int := (w.sz.getD b.toNat 0, b)
theorem scLB : FnScope ["self", "size", "boxes"] ["self", "size"] (defScope s_Wall_least_box) := ⟨rfl, rfl, rfl, by decide +kernel, rfl, by decide +kernel, by decide +kernel⟩
theorem ok_leastBox {f fB cW cP cWE cNB : Addr} {fd fdB : FuncData} (F : Fun K "least_box" "Wall.least_box" s_Wall_least_box f fd) (T : WTxt K cW) (dB : Md P w K mg base cW "boxes_for" ["self", "size"] CX0 2 (spBoxesFor cW cP) fB fdB) (RNoBox : Rs K mg cWE cNB "NoBox") (mlen : mg "len" = none) (mmin : mg "min" = none) :
    FnOk P w K mg base (CXF P w) 3 f fd ["self", "size"] (spLeastBox cW cP cNB) := by
  refine F.okX scLB (fun vs H Q E h => ?_) (fun cdv A outer s H vs Q E hr h => ?_)
  · refine ob5_2 h (fun p l1 l2 w size eRfl _ => ?_); clear h; subst eRfl
    rfl
  · refine ob5_4 h (fun p l1 l2 w size eRfl W q2 q1 => ?_); clear h; subst eRfl
    obtain ⟨dx, ho⟩ := W.ob
    have hu : (A.deeper (PyProof.Rows.envOfC "Wall.least_box" (defScope s_Wall_least_box) s.heap.objs.size f cdv)).units + 60 < cLine := by have := hr.units; (first | lia | omega)
    refine ⟨_, (pss_cons (ps_setC (i := 2) scLB.nd rfl rfl rfl (N := ["box", "self"]) (src := [none, some 0]) (blk (osc := defScope s_Wall_least_box) (oN := ["self", "size", "boxes"]) rfl rfl (by decide +kernel)) (pi_list (pe_meth (pv 0) T.cl dB.me dB.G.cxf hr dB.b .nil pass_def (pa_cons (pv 1) pa_nil))) (fun C s₀ H₀ ex pn => pg_name (i := 0) (show (["box", "self"] : List Str).Nodup by decide +kernel) rfl (Or.inl rfl) (Or.inr rfl)) (fun C s₀ H₀ ex pn => pts_nil) (fun C s₀ H₀ ex pn => (pe_tup (pa_cons (pe_ixB (K := K) rfl (pe_fldB (K := K) rfl (pv 1) rfl) (pv 0) (fun _ _ => rfl)) (pa_cons (pv 0) pa_nil)))))
      (pss_cons (ps_if (pt_cmpR op_eq (pe_callB call_len_seq (by rfl) mlen PySem.boot_len (pa_cons (pv 2) pa_nil)) pe_int (nomark _)) (pss_one (ps_raise PySem.F.excBase_ValueError rfl passM_def rfl RNoBox.xc RNoBox.xt (by rfl) RNoBox.m (pa_cons pe_str pa_nil))) pss_nil)
      (pss_one (ps_ret (pe_ix ix_tup (pe_callB (call_minT rfl hu) (by rfl) mmin PyProof.Rows.boot_min (pa_cons (pv 2) pa_nil)) pe_int (fun _ _ => rfl)))))), ?_⟩
    try dsimp only [cxOf]
    refine (evr rfl (mk3_3 p dx _ rfl ho ⟨wf_no _ _ _ _ (by decide +kernel) (by decide +kernel) (by decide +kernel) (by decide +kernel), evr rfl (mk5_3 p l1 l2 w size rfl W (fun r H1 n1 s1 h1 => ⟨r, rfl, ⟨_, SqL.of h1⟩, fun D hD => ?_⟩))⟩))
    have W1 := W.mono s1
    have hlen : w.ps.length ≤ 8 := by rw [W.len]; exact W.few
    have hbl := boxes_len w size
    have hline : (8 : Nat) < sizeLine := by decide
    refine comp_list (K := K) (a := r) (src := [none, some 0]) (xs := (boxesFor w size).map V.int) (fun i σ1 H2 => (∃ v, σ1 = [v, some (.ref p)]) ∧ Same H1 H2 ∧ (∃ ts, H2 D = some (.lst (ts.map V.ref)) ∧ ts.length = i ∧ PairsAt K H2 ts (((boxesFor w size).take i).map (pairOf w)) ∧ ∀ a ∈ ts, a ≠ D) ∧ i ≤ (boxesFor w size).length)
      ⟨⟨none, rfl⟩, same_upd hD, ⟨[], upd_same, rfl, ⟨rfl, fun i a m ha => by cases ha⟩, fun a ha => by cases ha⟩, Nat.zero_le _⟩ ?_ ?_ ?_
    · rintro i σ1 H2 _ ⟨_, s2, _⟩
      exact SqL.of (s2 _ _ h1)
    · rintro i x σ1 H2 hx ⟨⟨v, rfl⟩, s2, ⟨ts, hts, hti, hps, hne⟩, hi⟩
      rw [List.getElem?_map] at hx
      cases hb : (boxesFor w size)[i]? with
      | none => rw [hb] at hx; cases hx
      | some b =>
        rw [hb] at hx
        cases hx
        obtain ⟨j, rfl, hj, _⟩ := boxes_mem.mp (List.mem_of_getElem? hb)
        have W2 := W1.mono s2
        obtain ⟨dx2, ho2⟩ := W2.ob
        have hil : i < (boxesFor w size).length := (List.getElem?_eq_some_iff.mp hb).1
        have hsz : j < w.sz.length := by rw [← W.len]; exact hj
        refine gN ?_
        refine tT ?_
        refine (evr rfl (mk5_6 p cW dx2 _ _ rfl ho2 T.cl T.n1 (wf_sizes _ _ _ _) (evr rfl (ix4 (p := l1) (SqL.of W2.s1) (size_at hsz) (evr rfl ⟨(by show 2 ≤ sizeLine; decide), fun t ht => ?_⟩)))))
        have ntD : t ≠ D := fun z => by rw [z, hts] at ht; cases ht
        refine ⟨_, (by rw [upd_ne (Ne.symm ntD)]; exact hts), (by rw [List.length_map]; (first | lia | omega)), ⟨_, rfl⟩, ?_, ⟨ts ++ [t], (by rw [upd_same, List.map_append]; rfl), (by rw [List.length_append, hti]; rfl), ?_, ?_⟩, hil⟩
        · exact fun b o e => by
            have e2 := s2 b o e
            rw [upd_ne (ne_of_none e hD), upd_ne (ne_of_none e2 ht)]; exact e2
        · rw [← take_map_snoc (f := pairOf w) hb]
          exact PairsAt.snoc hps (m := pairOf w (j : Int)) hne ht ntD
        · intro a ha
          rcases List.mem_append.mp ha with ha | ha
          · exact hne a ha
          · rw [List.mem_singleton.mp ha]; exact ntD
    · rintro σ1 H2 ⟨⟨v, rfl⟩, s2, ⟨ts, hts, hti, hps, hne⟩, hi⟩
      rw [List.length_map] at hti
      rw [List.length_map, List.take_length] at hps
      have s3 := s1.trans s2
      refine (evr rfl (mk2_4 D _ rfl (.inl (SqL.of hts)) rfl (evr rfl (ite2 (fun c => ?_) (fun c => ?_)))))
      · refine ⟨(by show 1 ≤ sizeLine; decide), q2 (fun c' hc' => ?_) _ s3⟩
        have hm : ((c' : Nat) : Int) ∈ boxesFor w size := boxes_mem.mpr ⟨c', rfl, hc'⟩
        have c := of_decide_eq_true c
        rw [List.length_map] at c
        have h0 : ts.length = 0 := by have := V.int.inj c; (first | lia | omega)
        have : boxesFor w size = [] := List.length_eq_zero_iff.mp (by (first | lia | omega))
        rw [this] at hm
        cases hm
      · have hne0 : ts ≠ [] := fun z => c (decide_eq_true (by rw [z]; rfl))
        refine (evr rfl (mk3_5 D ts _ rfl (SqL.of hts) hps hne0 (fun i a m ha hm hlo => ?_)))
        refine (ix4 (p := a) (SqT.of (hps.2 i a m ha hm)) (atI_nat (j := 1) rfl) ?_)
        rw [List.getElem?_map] at hm
        cases hb : (boxesFor w size)[i]? with
        | none => rw [hb] at hm; cases hm
        | some b =>
          rw [hb] at hm
          cases hm
          obtain ⟨j, rfl, hj⟩ := boxes_mem.mp (List.mem_of_getElem? hb)
          refine q1 j ⟨hj, fun c' hc' => ?_⟩ _ s3
          have := hlo (pairOf w (c' : Int)) (List.mem_map.mpr ⟨_, boxes_mem.mpr ⟨c', rfl, hc'⟩, rfl⟩)
          exact this
/-! ### a parcel comes -/
theorem scCo : FnScope ["self", "size", "nights", "box", "number"] ["self", "size", "nights"] (defScope s_Wall_come) := ⟨rfl, rfl, rfl, by decide +kernel, rfl, by decide +kernel, by decide +kernel⟩
theorem wf_putCame (l1 l2 : Addr) (c g v : Int) : putF "came" (.int v) (wflds l1 l2 c g) = wflds l1 l2 v g := by
  rw [wflds_eq, wflds_eq]
  simp only [putF, ne2, ne4, ne6, if_false, if_true, Ne.symm ne2, Ne.symm ne4]
theorem ok_come {f fS fN fL fP cW cP cNS cNN cNB : Addr} {fd fdS fdN fdL fdP : FuncData} (F : Fun K "come" "Wall.come" s_Wall_come f fd) (T : WTxt K cW)
    (gS : Gd P w K mg base "check_size" s_check_size ["size"] (CXF P w) 2 (spCheckNum cNS) fS fdS) (gN : Gd P w K mg base "check_nights" s_check_nights ["nights"] (CXF P w) 2 (spCheckNum cNN) fN fdN)
    (dL : Md P w K mg base cW "least_box" ["self", "size"] (CXF P w) 3 (spLeastBox cW cP cNB) fL fdL) (MP : Mk K cP fP) (bP : Binds K fdP ["self", "number", "size", "last_night"] []) (GP : FnOk P w K mg base CX0 1 fP fdP ["self", "number", "size", "last_night"] (spParcel cP)) (mP : mg "Parcel" = some (.ref cP)) :
    FnOk P w K mg base (CXF P w) 4 f fd ["self", "size", "nights"] (spCome cW cP cNS cNN cNB) := by
  refine F.okX scCo (fun vs H Q E h => ?_) (fun cdv A outer s H vs Q E hr h => ?_)
  · refine ob6_2 h (fun p l1 l2 w size nights eRfl _ => ?_); clear h; subst eRfl
    rfl
  · refine ob6_6 h (fun p l1 l2 w size nights eRfl W e1 e2 e3 q => ?_); clear h; subst eRfl
    obtain ⟨dx, ho⟩ := W.ob
    have hr2 : Room 2 _ := hr.mono (by decide)
    refine ⟨_, (pss_cons (ps_expr (pe_call gS.G hr2 (by rfl) gS.m gS.F.kp gS.b .nil pass_def (pa_cons (pv 1) pa_nil)))
      (pss_cons (ps_expr (pe_call gN.G hr2 (by rfl) gN.m gN.F.kp gN.b .nil pass_def (pa_cons (pv 2) pa_nil)))
      (pss_cons (ps_set (i := 3) scCo.nd rfl (Or.inl rfl) (pe_meth (pv 0) T.cl dL.me dL.G hr dL.b .nil pass_def (pa_cons (pv 1) pa_nil)))
      (pss_cons (ps_set (i := 4) scCo.nd rfl (Or.inl rfl) (pe_fld (pv 0) rfl))
      (pss_cons (ps_asg (pe_make MP GP.cxf hr2 (by rfl) mP bP .nil pass_def (pa_cons (pv 4) (pa_cons (pv 1) (pa_cons (pe_op op_add (pe_fld (pv 0) rfl) (pv 2)) pa_nil)))) (pg_sub (pe_fld (pv 0) rfl) (pv 3) set_list))
      (pss_cons (ps_fld (pv 0) (pe_op op_add (pv 4) pe_int) rfl)
      (pss_one (ps_ret (pv 4))))))))), ?_⟩
    try dsimp only [cxOf]
    refine (evr rfl ⟨size, rfl, fun k1 => ?_, e1⟩)
    refine (evr rfl ⟨nights, rfl, fun k2 => ?_, e2 k1⟩)
    refine (evr rfl (mk3_3 p dx _ rfl ho ⟨wf_no _ _ _ _ (by decide +kernel) (by decide +kernel) (by decide +kernel) (by decide +kernel), evr rfl (mk5_4 p l1 l2 w size rfl W (fun hn => e3 k1 k2 hn) (fun b hb H1 s1 => ?_))⟩))
    have W1 := W.mono s1
    obtain ⟨dx1, ho1⟩ := W1.ob
    refine (evr rfl (mk5_6 p cW dx1 _ _ rfl ho1 T.cl T.n3 (wf_came _ _ _ _) ?_))
    refine (ev3r rfl rfl rfl (mk5_6 p cW dx1 _ _ rfl ho1 T.cl T.n4 (wf_gone _ _ _ _) (evr rfl (ev2 rfl rfl (fun x dy hx hdy ndx => ?_)))))
    refine (mk5_3 x dy _ _ _ rfl upd_same (fun H2 hx2 k2' => ⟨rfl, ?_⟩))
    have s2 : Same H1 H2 := fun c o e => by
      rw [k2' c (ne_of_none e hx), upd_ne (ne_of_none e hx), upd_ne (ne_of_none e hdy)]; exact e
    have W2 := W1.mono s2
    obtain ⟨dx2, ho2⟩ := W2.ob
    have hbl : b < w.ps.length := hb.1.1
    refine (evr rfl (mk5_6 p cW dx2 _ _ rfl ho2 T.cl T.n2 (wf_parcels _ _ _ _) (evr rfl (mk4_5 l2 _ _ b rfl rfl W2.s2 (ixN_nat rfl (by rw [List.length_map]; exact hbl)) ?_))))
    have np2 : p ≠ l2 := ne_of ho2 W2.s2 (by intro z; cases z)
    have np1 : p ≠ l1 := ne_of ho2 W2.s1 (by intro z; cases z)
    have nx2 : x ≠ l2 := fun z => by have := s1.free hx; rw [z, W.s2] at this; cases this
    have nxp : x ≠ p := fun z => by have := s1.free hx; rw [z, ho] at this; cases this
    refine (evr rfl (ev2 rfl rfl (evr rfl (mk4_6 p cW dx2 _ rfl (by rw [upd_ne np2]; exact ho2) T.cl T.n3 (by rw [wflds_eq]; show 4 < 1000; decide) ?_))))
    rw [wf_putCame]
    refine (evr rfl (q k1 k2 b hb x _ (s1.free hx) ⟨⟨dx2, upd_same⟩, ?_, ?_, fun pc hpc => ?_, ?_, W.few, W.ne, fun pc hpc => ?_⟩ fun c o e nc1 nc2 => ?_))
    · rw [upd_ne (Ne.symm np1), upd_ne W.ne]; exact W2.s1
    · rw [upd_ne (Ne.symm np2), upd_same]
      show _ = some (HO.lst ((w.ps.set b _).map pV))
      rw [List.map_set]
      rfl
    · rcases List.mem_or_eq_of_mem_set hpc with h | h
      · obtain ⟨dq, hq⟩ := W2.pc pc h
        have n1 : pc.ad ≠ p := W.pn pc h
        have n2 : pc.ad ≠ l2 := ne_of hq W2.s2 (by intro z; cases z)
        exact ⟨dq, by rw [upd_ne n1, upd_ne n2]; exact hq⟩
      · cases h
        exact ⟨dy, by rw [upd_ne nxp, upd_ne nx2]; exact hx2⟩
    · show (w.ps.set b _).length = _
      rw [List.length_set]; exact W.len
    · rcases List.mem_or_eq_of_mem_set hpc with h | h
      · exact W.pn pc h
      · cases h; exact nxp
    · rw [upd_ne nc1, upd_ne nc2]; exact s2 _ _ (s1 _ _ e)
end
end Pw

set_option Elab.async false
set_option linter.all false
set_option maxRecDepth 100000
set_option maxHeartbeats 4000000
namespace Pw
open PySem L2
section
variable {P : Program} {w : World} {K : PySem.W.Frag} {mg : Str → Option Value} {base : Heap}
theorem flat_held (xs : List (Option Int)) : (xs.map oV).all flatV = true := by
  rw [List.all_eq_true]
  intro v hv
  obtain ⟨o, _, rfl⟩ := List.mem_map.mp hv
  cases o <;> rfl
theorem eqV_o (o : Option Int) (n : Int) : eqV (oV o) (.int n) = decide (o = some n) := by
  cases o with
  | none => simp [oV, eqV]
  | some i => simp [oV, eqV]; rfl
theorem in_held (xs : List (Option Int)) (n : Int) : inV (.int n) (xs.map oV) = decide (some n ∈ xs) := by
  unfold inV
  induction xs with
  | nil => rfl
  | cons o xs ih =>
    rw [List.map_cons, List.any_cons, ih, eqV_o]
    by_cases h : o = some n
    · simp [h]
    · have h' : ¬ some n = o := fun z => h z.symm
      simp [h, h']
theorem first_ex : ∀ {xs : List (Option Int)} {n : Int}, some n ∈ xs → ∃ b, FirstAt xs n b
  | o :: xs, n, h => by
    by_cases e : o = some n
    · exact ⟨0, by rw [e]; rfl, fun m hm => absurd hm (Nat.not_lt_zero _)⟩
    · obtain ⟨b, h1, h2⟩ := first_ex (List.mem_of_ne_of_mem (fun z => e z.symm) h)
      refine ⟨b + 1, h1, fun m hm => ?_⟩
      cases m with
      | zero => intro z; exact e (Option.some.inj z)
      | succ m => exact h2 m (by (first | lia | omega))
theorem FirstAt.lt {xs : List (Option Int)} {n : Int} {b : Nat} (h : FirstAt xs n b) : b < xs.length := (List.getElem?_eq_some_iff.mp h.1).1
theorem FirstAt.uniq {xs : List (Option Int)} {n : Int} {b c : Nat} (h : FirstAt xs n b) (h' : FirstAt xs n c) : b = c := by
  rcases Nat.lt_trichotomy b c with z | z | z
  · exact absurd h.1 (h'.2 b z)
  · exact z
  · exact absurd h'.1 (h.2 c z)
theorem held_len (w : Wl) : (heldOf w).length = w.ps.length := by unfold heldOf; rw [List.length_map]
/-- the index rule's reading in a row of numbers -/
theorem ix_read {xs : List (Option Int)} {n : Int} {b : Nat} (h : FirstAt xs n b) : b < (xs.map oV).length ∧ (∀ z, (xs.map oV)[b]? = some z → eqV z (.int n) = true) ∧ ∀ (m : Nat) z, m < b → (xs.map oV)[m]? = some z → eqV z (.int n) = false := by
  refine ⟨by rw [List.length_map]; exact h.lt, fun z hz => ?_, fun m z hm hz => ?_⟩
  · rw [List.getElem?_map, h.1] at hz
    cases hz
    rw [eqV_o]; exact decide_eq_true rfl
  · rw [List.getElem?_map] at hz
    cases e : xs[m]? with
    | none => rw [e] at hz; cases hz
    | some o =>
      rw [e] at hz
      cases hz
      rw [eqV_o]
      exact decide_eq_false fun z => h.2 m hm (by rw [e, z])
theorem scBO : FnScope ["self", "parcel", "held"] ["self", "parcel"] (defScope s_Wall_box_of) := ⟨rfl, rfl, rfl, by decide +kernel, rfl, by decide +kernel, by decide +kernel⟩
theorem ok_boxOf {f fH cW cP cWE cNP : Addr} {fd fdH : FuncData} (F : Fun K "box_of" "Wall.box_of" s_Wall_box_of f fd) (T : WTxt K cW) (dH : Md P w K mg base cW "held" ["self"] CX0 1 (spHeld cW cP) fH fdH) (RNoParcel : Rs K mg cWE cNP "NoParcel") : FnOk P w K mg base (CXF P w) 2 f fd ["self", "parcel"] (spBoxOf cW cP cNP) := by
  refine F.okX scBO (fun vs H Q E h => ?_) (fun cdv A outer s H vs Q E hr h => ?_)
  · refine ob5_2 h (fun p l1 l2 w n eRfl _ => ?_); clear h; subst eRfl
    rfl
  · refine ob5_4 h (fun p l1 l2 w n eRfl W q2 q1 => ?_); clear h; subst eRfl
    obtain ⟨dx, ho⟩ := W.ob
    have hr1 : Room 1 _ := hr
    refine ⟨_, (pss_cons (ps_set (i := 2) scBO.nd rfl (Or.inl rfl) (pe_meth0 (pv 0) T.cl dH.me dH.G.cxf hr1 dH.b .nil pass_def))
      (pss_cons (ps_if (pt_cmpR op_notIn_seq (pv 1) (pv 2) (by with_unfolding_all rfl)) (pss_one (ps_raise PySem.F.excBase_ValueError rfl passM_def rfl RNoParcel.xc RNoParcel.xt (by rfl) RNoParcel.m (pa_cons pe_str pa_nil))) pss_nil)
      (pss_one (ps_ret (pe_bm PySem.F.plainAttrs_list PySem.F.slot_list_index PySem.F.type_list_index mt_index (pv 2) (pa_cons (pv 1) pa_nil)))))), ?_⟩
    try dsimp only [cxOf]
    refine (evr rfl (ex3 p dx _ ⟨rfl, ho, wf_no _ _ _ _ (by decide +kernel) (by decide +kernel) (by decide +kernel) (by decide +kernel), ex4 p l1 l2 w ⟨rfl, W, fun r H1 n1 s1 h1 => ?_⟩⟩))
    refine (evv rfl rfl ⟨r, evr rfl ⟨.inl (SqL.of h1), rfl, flat_held _, evr rfl ?_⟩⟩)
    rw [in_held]
    by_cases hm : some n ∈ heldOf w
    · refine iteFe (by rw [decide_eq_true hm]; rfl) ?_
      obtain ⟨b, hb⟩ := first_ex hm
      obtain ⟨x1, x2, x3⟩ := ix_read hb
      exact (evr rfl ⟨.inl ⟨rfl, _, SqL.of h1⟩, evr rfl (mk4_9 r _ _ b rfl rfl (SqL.of h1) rfl (flat_held _) x1 x2 x3 (q1 b hb _ s1))⟩)
    · refine iteTe (by rw [decide_eq_false hm]; rfl) ?_
      exact ⟨(by show 1 ≤ sizeLine; decide), q2 hm _ s1⟩
theorem set_ps {w : Wl} {b : Nat} {o : Option Pc} : (w.ps.set b o).map pV = (w.ps.map pV).set b (pV o) := by rw [List.map_set]
/-- the wall's list of parcels is written -/
theorem WallAt.setPs {cW cP : Addr} {H : Hp} {p l1 l2 : Addr} {w : Wl} {ps : List (Option Pc)} (W : WallAt cW cP H p l1 l2 w) (hl : ps.length = w.ps.length) (hm : ∀ q, some q ∈ ps → some q ∈ w.ps) : WallAt cW cP (upd H l2 (.lst (ps.map pV))) p l1 l2 ⟨w.sz, ps, w.came, w.gone⟩ := by
  obtain ⟨dx, ho⟩ := W.ob
  have np2 : p ≠ l2 := ne_of ho W.s2 (by intro z; cases z)
  refine ⟨⟨dx, by rw [upd_ne np2]; exact ho⟩, by rw [upd_ne W.ne]; exact W.s1, upd_same, fun q hq => ?_, by rw [← W.len]; exact hl, W.few, W.ne, fun q hq => W.pn q (hm q hq)⟩
  obtain ⟨dq, h⟩ := W.pc q (hm q hq)
  exact ⟨dq, by rw [upd_ne (ne_of h W.s2 (by intro z; cases z))]; exact h⟩
theorem keeps_upd {H H1 : Hp} {p l2 : Addr} {o : HO} (s : Same H H1) : Keeps H (upd H1 l2 o) p l2 := fun b u e _ n2 => by rw [upd_ne n2]; exact s _ _ e
theorem scFe : FnScope ["self", "parcel", "box"] ["self", "parcel"] (defScope s_Wall_fetch) := ⟨rfl, rfl, rfl, by decide +kernel, rfl, by decide +kernel, by decide +kernel⟩
theorem ok_fetch {f fO cW cP cNP : Addr} {fd fdO : FuncData} (F : Fun K "fetch" "Wall.fetch" s_Wall_fetch f fd) (T : WTxt K cW) (dO : Md P w K mg base cW "box_of" ["self", "parcel"] (CXF P w) 2 (spBoxOf cW cP cNP) fO fdO) : FnOk P w K mg base (CXF P w) 3 f fd ["self", "parcel"] (spFetch cW cP cNP) := by
  refine F.okX scFe (fun vs H Q E h => ?_) (fun cdv A outer s H vs Q E hr h => ?_)
  · refine ob5_2 h (fun p l1 l2 w n eRfl _ => ?_); clear h; subst eRfl
    rfl
  · refine ob5_4 h (fun p l1 l2 w n eRfl W q2 q1 => ?_); clear h; subst eRfl
    obtain ⟨dx, ho⟩ := W.ob
    have hr2 : Room 2 _ := hr
    refine ⟨_, (pss_cons (ps_set (i := 2) scFe.nd rfl (Or.inl rfl) (pe_meth (pv 0) T.cl dO.me dO.G hr2 dO.b .nil pass_def (pa_cons (pv 1) pa_nil)))
      (pss_cons (ps_asg pe_non (pg_sub (pe_fld (pv 0) rfl) (pv 2) set_list))
      (pss_one (ps_ret (pv 2))))), ?_⟩
    try dsimp only [cxOf]
    refine (evr rfl (mk3_3 p dx _ rfl ho ⟨wf_no _ _ _ _ (by decide +kernel) (by decide +kernel) (by decide +kernel) (by decide +kernel), evr rfl (mk5_4 p l1 l2 w n rfl W q2 (fun b hb H1 s1 => ?_))⟩))
    have W1 := W.mono s1
    obtain ⟨dx1, ho1⟩ := W1.ob
    have hbl : b < w.ps.length := by rw [← held_len]; exact hb.lt
    refine (evr rfl (mk5_6 p cW dx1 _ _ rfl ho1 T.cl T.n2 (wf_parcels _ _ _ _) (evr rfl (mk4_5 l2 _ _ b rfl rfl W1.s2 (ixN_nat rfl (by rw [List.length_map]; exact hbl)) ?_))))
    refine (evr rfl (q1 b hb _ ?_ (keeps_upd s1)))
    have := W1.setPs (ps := w.ps.set b none) (by rw [List.length_set]) (fun q hq => by
      rcases List.mem_or_eq_of_mem_set hq with h | h
      · exact h
      · cases h)
    rw [set_ps] at this
    exact this
theorem heldOf_set (w : Wl) (b : Nat) (q : Pc) (c g : Int) : heldOf ⟨w.sz, w.ps.set b (some q), c, g⟩ = (heldOf w).set b (some q.num) := by
  unfold heldOf
  rw [List.map_set]
  rfl
theorem least_uniq {w : Wl} {size : Int} {b c : Nat} (h : IsLeast w size b) (h' : IsLeast w size c) : b = c := by
  have h1 := h.2 c h'.1
  have h2 := h'.2 b h.1
  rw [pLt_not] at h1 h2
  simp only at h1 h2
  (first | lia | omega)
end
end Pw

set_option Elab.async false
set_option linter.all false
set_option maxRecDepth 100000
set_option maxHeartbeats 4000000
namespace Pw
open PySem L2
section
variable {P : Program} {w : World} {K : PySem.W.Frag} {mg : Str → Option Value} {base : Heap}
theorem pf_last (n z l : Int) : (pflds n z l).lookup ("last_night" : Str) = some (.int l) := by
  unfold pflds; rw [lookup_putF, if_pos rfl]
theorem flat_ints (ns : List Int) : (ns.map V.int).all flatV = true := by
  rw [List.all_eq_true]
  intro v hv
  obtain ⟨o, _, rfl⟩ := List.mem_map.mp hv
  rfl
theorem in_ints (ns : List Int) (n : Int) : inV (.int n) (ns.map V.int) = decide (n ∈ ns) := by
  unfold inV
  induction ns with
  | nil => rfl
  | cons o xs ih =>
    rw [List.map_cons, List.any_cons, ih]
    have e : eqV (.int o) (.int n) = (o == n) := rfl
    rw [e]
    by_cases h : o = n
    · simp [h]
    · have h' : ¬ n = o := fun z => h z.symm
      simp [h, h']
end
end Pw

set_option Elab.async false
set_option linter.all false
set_option maxRecDepth 100000
set_option maxHeartbeats 4000000
namespace Pw
open PySem L2
section
variable {P : Program} {w : World} {K : PySem.W.Frag} {mg : Str → Option Value} {base : Heap}
/-! ### a night -/
def goesBack (g : Int) (o : Option Pc) : Option Pc := match o with | none => none | some q => if q.last = g then none else some q
def sentOf (g : Int) (ps : List (Option Pc)) : List Int := ps.filterMap fun o => match o with | none => none | some q => if q.last = g then some q.num else none
def Wl.night (w : Wl) : Wl := ⟨w.sz, w.ps.map (goesBack (w.gone + 1)), w.came, w.gone + 1⟩
def spNight (cW cP : Addr) : Sp := fun vs H Q _ => ∃ (p l1 l2 : Addr) (w : Wl), vs = [.ref p] ∧ WallAt cW cP H p l1 l2 w ∧
  ∀ (ms : List Int) (l : Addr) (H' : Hp), ms.Perm (sentOf (w.gone + 1) w.ps) → ms.Pairwise (· ≤ ·) → H l = none → H' l = some (.lst (ms.map V.int)) → WallAt cW cP H' p l1 l2 w.night → Keeps H H' p l2 → Q (.ref l) H'
theorem scNi : FnScope ["self", "sent", "box", "parcel"] ["self"] (defScope s_Wall_night) := ⟨rfl, rfl, rfl, by decide +kernel, rfl, by decide +kernel, by decide +kernel⟩
theorem wf_putGone (l1 l2 : Addr) (c g v : Int) : putF "nights_gone" (.int v) (wflds l1 l2 c g) = wflds l1 l2 c v := by
  rw [wflds_eq, wflds_eq]
  simp only [putF, ne3, ne5, ne6, if_false, if_true]
/-- the first i boxes have had their night -/
def half (g : Int) (ps : List (Option Pc)) (i : Nat) : List (Option Pc) := (ps.take i).map (goesBack g) ++ ps.drop i
theorem half_at {g : Int} {ps : List (Option Pc)} {i : Nat} : (half g ps i)[i]? = ps[i]? := by
  unfold half
  by_cases h : i < ps.length
  · rw [List.getElem?_append_right (by rw [List.length_map, List.length_take]; (first | lia | omega)), List.length_map, List.length_take, List.getElem?_drop]
    congr 1; (first | lia | omega)
  · rw [List.getElem?_eq_none (by rw [List.length_append, List.length_map, List.length_take, List.length_drop]; (first | lia | omega)), List.getElem?_eq_none (by (first | lia | omega))]
theorem half_len (g : Int) (ps : List (Option Pc)) (i : Nat) : (half g ps i).length = ps.length := by
  unfold half
  rw [List.length_append, List.length_map, List.length_take, List.length_drop]; (first | lia | omega)
theorem half_succ {g : Int} {ps : List (Option Pc)} {i : Nat} (h : i < ps.length) : half g ps (i + 1) = (half g ps i).set i (goesBack g ps[i]) := by
  refine List.ext_getElem? fun j => ?_
  unfold half
  have hd : ps.drop i = ps[i] :: ps.drop (i + 1) := List.drop_eq_getElem_cons h
  rw [List.take_succ_eq_append_getElem h, List.map_append, hd, List.set_append_right _ _ (by rw [List.length_map, List.length_take]; (first | lia | omega))]
  have e : i - ((ps.take i).map (goesBack g)).length = 0 := by rw [List.length_map, List.length_take]; (first | lia | omega)
  rw [e, List.append_assoc]
  rfl
theorem half_same {g : Int} {ps : List (Option Pc)} {i : Nat} (h : i < ps.length) (e : goesBack g ps[i] = ps[i]) : half g ps (i + 1) = half g ps i := by
  rw [half_succ h, e]
  refine List.ext_getElem? fun j => ?_
  by_cases hj : j = i
  · subst hj; rw [List.getElem?_set_self (by rw [half_len]; exact h), half_at, List.getElem?_eq_getElem h]
  · rw [List.getElem?_set_ne (fun z => hj z.symm)]
theorem half_all (g : Int) (ps : List (Option Pc)) : half g ps ps.length = ps.map (goesBack g) := by unfold half; rw [List.take_length, List.drop_length, List.append_nil]
theorem sent_snoc {g : Int} {ps : List (Option Pc)} {i : Nat} (h : i < ps.length) : sentOf g (ps.take (i + 1)) = sentOf g (ps.take i) ++ sentOf g [ps[i]] := by
  unfold sentOf; rw [List.take_succ_eq_append_getElem h, List.filterMap_append]
theorem ok_night {f cW cP : Addr} {fd : FuncData} (F : Fun K "night" "Wall.night" s_Wall_night f fd) (T : WTxt K cW) (TP : PTxt K cP) (mlen : mg "len" = none) (mrange : mg "range" = none) (msorted : mg "sorted" = none) : FnOk P w K mg base CX0 1 f fd ["self"] (spNight cW cP) := by
  refine F.ok scNi (fun vs H Q E h => ?_) (fun cdv A outer s H vs Q E hr h => ?_)
  · refine ob4_2 h (fun p l1 l2 w eRfl _ => ?_); clear h; subst eRfl
    rfl
  · refine ob4_3 h (fun p l1 l2 w eRfl W q => ?_); clear h; subst eRfl
    obtain ⟨dx, ho⟩ := W.ob
    have hlen : w.ps.length ≤ 8 := by rw [W.len]; exact W.few
    have hline : (64 : Nat) < sizeLine := by decide
    have np2 : p ≠ l2 := ne_of ho W.s2 (by intro z; cases z)
    have np1 : p ≠ l1 := ne_of ho W.s1 (by intro z; cases z)
    refine ⟨_, (pss_cons (ps_fld (pv 0) (pe_op op_add (pe_fld (pv 0) rfl) pe_int) rfl)
      (pss_cons (ps_set (i := 1) scNi.nd rfl (Or.inl rfl) (pe_lst pa_nil))
      (pss_cons (ps_for PassesOwn.never rfl (pi_range1 (by rfl) mrange (pa_cons (pe_callB call_len_seq (by rfl) mlen PySem.boot_len (pa_cons (pe_fld (pv 0) rfl) pa_nil)) pa_nil)) (pg_name (i := 2) scNi.nd rfl (Or.inl rfl)) (pss_cons (ps_set (i := 3) scNi.nd rfl (Or.inl rfl) (pe_ix ix_list (pe_fld (pv 0) rfl) (pv 2) (fun _ _ => rfl)))
      (pss_one (ps_if (pw_and (pt_cmp (pc_notN (pv 3))) (pw_and1 (pt_cmpR op_eq (pe_fld (pv 3) rfl) (pe_fld (pv 0) rfl) (nomark _)))).pt (pss_cons (ps_asg pe_non (pg_sub (pe_fld (pv 0) rfl) (pv 2) set_list))
      (pss_one (ps_expr (pe_bm PySem.F.plainAttrs_list PySem.F.slot_list_append PySem.F.type_list_append mt_append (pv 1) (pa_cons (pe_fld (pv 3) rfl) pa_nil))))) pss_nil))))
      (pss_one (ps_ret (pe_callB call_sortedI (by rfl) msorted PyProof.Rows.boot_sorted (pa_cons (pv 1) pa_nil))))))), ?_⟩
    try dsimp only [cxOf]
    refine (evr rfl (mk5_6 p cW dx _ _ rfl ho T.cl T.n4 (wf_gone _ _ _ _) (ev2 rfl rfl (evr rfl (mk4_6 p cW dx _ rfl ho T.cl T.n4 (by rw [wflds_eq]; show 4 < 1000; decide) ?_)))))
    rw [wf_putGone]
    have W1 : WallAt cW cP (upd H p (.ins cW dx (wflds l1 l2 w.came (w.gone + 1)))) p l1 l2 ⟨w.sz, w.ps, w.came, w.gone + 1⟩ :=
      ⟨⟨dx, upd_same⟩, by rw [upd_ne (Ne.symm np1)]; exact W.s1, by rw [upd_ne (Ne.symm np2)]; exact W.s2, fun r hr => by obtain ⟨d, h⟩ := W.pc r hr; exact ⟨d, by rw [upd_ne (W.pn r hr)]; exact h⟩, W.len, W.few, W.ne, W.pn⟩
    have k1 : Keeps H (upd H p (.ins cW dx (wflds l1 l2 w.came (w.gone + 1)))) p l2 := fun b o e n1 n2 => by rw [upd_ne n1]; exact e
    generalize upd H p (.ins cW dx (wflds l1 l2 w.came (w.gone + 1))) = H1 at W1 k1 ⊢
    refine ⟨(by show 0 ≤ sizeLine; decide), fun D hD => ?_⟩
    have s2 := same_upd (o := .lst []) hD
    have W2 := W1.mono s2
    obtain ⟨dx2, ho2⟩ := W2.ob
    refine (evr rfl (mk5_6 p cW dx2 _ _ rfl ho2 T.cl T.n2 (wf_parcels _ _ _ _) (mk2_2 l2 _ rfl ⟨.inl (SqL.of (show _ = some (HO.lst (w.ps.map pV)) from W2.s2)), evr rfl ⟨(by rw [List.length_map]; (first | lia | omega)), (by rw [List.length_map]; (first | lia | omega)), ?_⟩⟩)))
    have el : ((w.ps.map pV).length : Int).toNat = w.ps.length := by rw [List.length_map]; (first | lia | omega)
    rw [el]
    have nD2 : D ≠ l2 := fun z => by rw [z, W1.s2] at hD; cases hD
    have nDp : D ≠ p := fun z => by obtain ⟨d, h⟩ := W1.ob; rw [z, h] at hD; cases hD
    have nD1 : D ≠ l1 := fun z => by rw [z, W1.s1] at hD; cases hD
    refine for_range (n := w.ps.length) (fun i σ H3 => (∃ v2 v3, σ = [some (.ref p), some (.ref D), v2, v3]) ∧ WallAt cW cP H3 p l1 l2 ⟨w.sz, half (w.gone + 1) w.ps i, w.came, w.gone + 1⟩ ∧ Keeps H H3 p l2 ∧ H3 D = some (.lst ((sentOf (w.gone + 1) (w.ps.take i)).map V.int)) ∧ (sentOf (w.gone + 1) (w.ps.take i)).length ≤ i)
      ⟨⟨_, _, rfl⟩, ?_, (fun b o e n1 n2 => s2 _ _ (k1 b o e n1 n2)), upd_same, Nat.le_refl _⟩ ?_ ?_
    · have : half (w.gone + 1) w.ps 0 = w.ps := rfl
      rw [this]; exact W2
    · rintro i σ H3 hi ⟨⟨v2, v3, rfl⟩, W3, k3, h3, hl3⟩
      obtain ⟨dx3, ho3⟩ := W3.ob
      have hat : atI ((half (w.gone + 1) w.ps i).map pV) ((0 : Int) + (i : Nat)) = some (pV w.ps[i]) := by
        rw [Int.zero_add]; exact atI_nat (by rw [List.getElem?_map, half_at, List.getElem?_eq_getElem hi]; rfl)
      refine (evr rfl (mk5_6 p cW dx3 _ _ rfl ho3 T.cl T.n2 (wf_parcels _ _ _ _) (evr rfl (ix4 (p := l2) (SqL.of W3.s2) hat ?_))))
      have es := sent_snoc (g := w.gone + 1) hi
      cases e : w.ps[i] with
      | none =>
        refine (evv rfl rfl (iteF (iteF ?_)))
        have e2 : sentOf (w.gone + 1) (w.ps.take (i + 1)) = sentOf (w.gone + 1) (w.ps.take i) := by rw [es, e]; simp [sentOf]
        rw [half_same hi (by rw [e]; rfl), e2]
        exact ⟨⟨_, _, rfl⟩, W3, k3, h3, by (first | lia | omega)⟩
      | some r =>
        have hr' : some r ∈ half (w.gone + 1) w.ps i := by
          have : (half (w.gone + 1) w.ps i)[i]? = some (some r) := by rw [half_at, List.getElem?_eq_getElem hi, e]
          exact List.mem_of_getElem? this
        obtain ⟨dq, hq⟩ := W3.pc r hr'
        refine (evv rfl rfl (iteT ?_))
        refine (evr rfl (mk5_6 r.ad cP dq _ _ rfl hq TP.cl TP.n3 (pf_last _ _ _) (evr rfl (mk5_7 p cW dx3 _ _ rfl ho3 T.cl T.n4 (wf_gone _ _ _ _) rfl (evr rfl (ite2 (fun c => ?_) (fun c => ?_)))))))
        · have c : r.last = w.gone + 1 := V.int.inj (of_decide_eq_true c)
          have eg : goesBack (w.gone + 1) w.ps[i] = none := by rw [e]; unfold goesBack; simp [c]
          have e2 : sentOf (w.gone + 1) (w.ps.take (i + 1)) = sentOf (w.gone + 1) (w.ps.take i) ++ [r.num] := by rw [es, e]; simp [sentOf, c]
          refine (evr rfl (mk5_6 p cW dx3 _ _ rfl ho3 T.cl T.n2 (wf_parcels _ _ _ _) (evr rfl (mk4_5 l2 _ _ i rfl rfl W3.s2 (ixN_nat (Int.zero_add _) (by rw [List.length_map, half_len]; exact hi)) ?_))))
          have W4 := W3.setPs (ps := (half (w.gone + 1) w.ps i).set i none) (by rw [List.length_set]) (fun q hq => by
            rcases List.mem_or_eq_of_mem_set hq with h | h
            · exact h
            · cases h)
          rw [List.map_set] at W4
          have hq4 : ∀ o, (upd H3 l2 o) r.ad = some (.ins cP dq (pflds r.num r.size r.last)) := fun o => by rw [upd_ne (ne_of hq W3.s2 (by intro z; cases z))]; exact hq
          have h4 : ∀ o, (upd H3 l2 o) D = some (.lst ((sentOf (w.gone + 1) (w.ps.take i)).map V.int)) := fun o => by rw [upd_ne nD2]; exact h3
          refine (evr rfl ⟨.inl ⟨rfl, _, SqL.of (h4 _)⟩, evr rfl (mk5_6 r.ad cP dq _ _ rfl (hq4 _) TP.cl TP.n1 (pf_num _ _ _) (mk3_9 D _ _ rfl rfl (h4 _) (by rw [List.length_map]; (first | lia | omega)) ⟨_, _, rfl⟩ ?_ ?_ ?_ ?_))⟩)
          · rw [half_succ hi, eg]
            have hDq : ∀ q', some q' ∈ (half (w.gone + 1) w.ps i).set i none → q'.ad ≠ D := fun q' hq' z => by
              obtain ⟨d', h'⟩ := W4.pc q' hq'
              rw [z, h4] at h'; cases h'
            exact W4.put (Ne.symm nDp) (Ne.symm nD1) (Ne.symm nD2) hDq
          · intro b o e' n1 n2
            have h5 := k3 b o e' n1 n2
            by_cases hbD : b = D
            · subst hbD
              have h6 := k1 b o e' n1 n2
              rw [hD] at h6; cases h6
            · rw [upd_ne hbD, upd_ne n2]; exact h5
          · rw [upd_same, e2, List.map_append]; rfl
          · rw [e2, List.length_append]; show _ + 1 ≤ _; (first | lia | omega)
        · have c : ¬ r.last = w.gone + 1 := fun z => c (decide_eq_true (by rw [z]))
          have eg : goesBack (w.gone + 1) w.ps[i] = w.ps[i] := by rw [e]; unfold goesBack; simp [c]
          have e2 : sentOf (w.gone + 1) (w.ps.take (i + 1)) = sentOf (w.gone + 1) (w.ps.take i) := by rw [es, e]; simp [sentOf, c]
          rw [half_same hi eg, e2]
          exact ⟨⟨_, _, rfl⟩, W3, k3, h3, by (first | lia | omega)⟩
    · rintro σ H3 ⟨⟨v2, v3, rfl⟩, W3, k3, h3, hl3⟩
      rw [half_all] at W3
      rw [List.take_length] at h3 hl3
      refine (evr rfl (mk2_4 D _ rfl (SqL.of h3) (by (first | lia | omega)) (fun l ms hl hp hs => ?_)))
      have s4 := same_upd (o := .lst (ms.map V.int)) hl
      refine q ms l _ hp hs ?_ upd_same (W3.mono s4) (fun b o e n1 n2 => s4 _ _ (k3 b o e n1 n2))
      cases z : H l with
      | none => rfl
      | some u =>
        have n1 : l ≠ p := fun z => by obtain ⟨d, h⟩ := W3.ob; rw [z, h] at hl; cases hl
        have n2 : l ≠ l2 := fun z => by rw [z, W3.s2] at hl; cases hl
        rw [k3 l u z n1 n2] at hl; cases hl
end
end Pw

set_option Elab.async false
set_option linter.all false
set_option maxRecDepth 100000
set_option maxHeartbeats 4000000
namespace Pw
open PySem L2
section
variable {P : Program} {w : World} {K : PySem.W.Frag} {mg : Str → Option Value} {base : Heap}
/-! ### the law's own least box -/
def spBoxFor (K : PySem.W.Frag) : Sp := fun vs H Q _ => ∃ (a b : Addr) (w : Wl) (size : Int), vs = [.ref a, .ref b, .int size] ∧ SqL K H a (w.sz.map V.int) ∧ SqL K H b ((heldOf w).map oV) ∧ w.ps.length = w.sz.length ∧ w.sz.length ≤ 8 ∧
  (NoneFits w size → ∀ H', Same H H' → Q .non H') ∧ (∀ b : Nat, IsLeast w size b → ∀ H', Same H H' → Q (.int b) H')
def fitTo (w : Wl) (size : Int) (n : Nat) : List Nat := (List.range n).filter fun i => (w.ps[i]?.join).isNone && decide (size ≤ w.sz.getD i 0)
theorem fitTo_succ (w : Wl) (size : Int) (n : Nat) : fitTo w size (n + 1) = fitTo w size n ++ (if ((w.ps[n]?.join).isNone && decide (size ≤ w.sz.getD n 0)) = true then [n] else []) := by
  unfold fitTo
  rw [List.range_succ, List.filter_append]
  congr 1
  by_cases h : ((w.ps[n]?.join).isNone && decide (size ≤ w.sz.getD n 0)) = true
  · rw [if_pos h]; simp only [List.filter_cons, h, if_true, List.filter_nil]
  · rw [if_neg h]; simp only [List.filter_cons, h, List.filter_nil]; rfl
theorem fitTo_mem {w : Wl} {size : Int} {i : Nat} : i ∈ fitTo w size w.ps.length ↔ fitsAt w size i := by
  unfold fitTo fitsAt
  rw [List.mem_filter, List.mem_range, Bool.and_eq_true, decide_eq_true_eq]
theorem fitTo_len (w : Wl) (size : Int) (n : Nat) : (fitTo w size n).length ≤ n := Nat.le_trans (List.length_filter_le _ _) (by rw [List.length_range]; exact Nat.le_refl _)
def pr (w : Wl) (i : Nat) : Int × Int := (w.sz.getD i 0, (i : Int))
theorem pr_nodup (w : Wl) (size : Int) (n : Nat) : ((fitTo w size n).map (pr w)).Nodup := by
  rw [List.Nodup, List.pairwise_map]
  refine List.Pairwise.imp ?_ (List.Pairwise.filter _ (List.nodup_range (n := n)))
  intro a b hab z
  have := congrArg Prod.snd z
  exact hab (by have : (a : Int) = (b : Int) := this; (first | lia | omega))
theorem scBx : FnScope ["sizes", "held", "size", "some"] ["sizes", "held", "size"] (defScope s__law_box_for) := ⟨rfl, rfl, rfl, by decide +kernel, rfl, by decide +kernel, by decide +kernel⟩
theorem ok_boxFor {f : Addr} {fd : FuncData} (F : Fun K "_law_box_for" "_law_box_for" s__law_box_for f fd) (mlen : mg "len" = none) (mrange : mg "range" = none) (msorted : mg "sorted" = none) : FnOk P w K mg base CX0 1 f fd ["sizes", "held", "size"] (spBoxFor K) := by
  refine F.ok scBx (fun vs H Q E h => ?_) (fun cdv A outer s H vs Q E hr h => ?_)
  · refine ob4_2 h (fun a b w size eRfl _ => ?_); clear h; subst eRfl
    rfl
  · refine ob4_7 h (fun a b w size eRfl ha hb hlen hfew q0 q1 => ?_); clear h; subst eRfl
    refine ⟨_, (pss_cons (ps_set (i := 3) scBx.nd rfl (Or.inl rfl) (pe_callB call_sortedT (by rfl) msorted PyProof.Rows.boot_sorted (pa_cons (pe_comp (N := ["box", "size", "held", "sizes"]) (src := [none, some 2, some 1, some 0]) rfl (blk (osc := defScope s__law_box_for) (oN := ["sizes", "held", "size", "some"]) rfl rfl (by decide +kernel)) (pi_range1 (by rfl) mrange (pa_cons (pe_callB call_len_seq (by rfl) mlen PySem.boot_len (pa_cons (pv 0) pa_nil)) pa_nil)) (fun C s₀ H₀ ex pn => pg_name (i := 0) (show (["box", "size", "held", "sizes"] : List Str).Nodup by decide +kernel) rfl (Or.inl rfl) (Or.inr rfl)) (fun C s₀ H₀ ex pn => pts_one (pw_and (pt_cmp (pc_isN (pe_ixB (K := K) rfl (pv 2) (pv 0) (fun _ _ => rfl)))) (pw_and1 (pt_cmpR op_ge (pe_ixB (K := K) rfl (pv 3) (pv 0) (fun _ _ => rfl)) (pv 1) (nomark _)))).pt) (fun C s₀ H₀ ex pn => (pe_tup (pa_cons (pe_ixB (K := K) rfl (pv 3) (pv 0) (fun _ _ => rfl)) (pa_cons (pv 0) pa_nil))))) pa_nil)))
      (pss_cons (ps_if (pt_cmpR op_eq (pe_callB call_len_seq (by rfl) mlen PySem.boot_len (pa_cons (pv 3) pa_nil)) pe_int (nomark _)) (pss_one (ps_ret pe_non)) pss_nil)
      (pss_one (ps_ret (pe_ix ix_tup (pe_ix ix_list (pv 3) pe_int (fun _ _ => rfl)) pe_int (fun _ _ => rfl)))))), ?_⟩
    try dsimp only [cxOf]
    have hline : (8 : Nat) < sizeLine := by decide
    refine (evr rfl ⟨a, evr rfl ⟨.inl ha, evr rfl ⟨(by rw [List.length_map]; (first | lia | omega)), (by rw [List.length_map]; (first | lia | omega)), fun D hD => ?_⟩⟩⟩)
    have el : ((w.sz.map V.int).length : Int).toNat = w.ps.length := by rw [List.length_map, hlen]; (first | lia | omega)
    rw [el]
    refine comp_range (lo := 0) (n := w.ps.length) (src := [none, some 2, some 1, some 0]) (fun i σ1 H2 => (∃ v, σ1 = [v, some (.int size), some (.ref b), some (.ref a)]) ∧ Same H H2 ∧ (∃ ts, H2 D = some (.lst (ts.map V.ref)) ∧ ts.length = (fitTo w size i).length ∧ PairsAt K H2 ts ((fitTo w size i).map (pr w)) ∧ ∀ a ∈ ts, a ≠ D) ∧ i ≤ w.ps.length)
      ⟨⟨none, rfl⟩, same_upd hD, ⟨[], upd_same, rfl, ⟨rfl, fun i a m ha => by cases ha⟩, fun a ha => by cases ha⟩, Nat.zero_le _⟩ ?_ ?_
    · rintro i σ1 H2 hi ⟨⟨v, rfl⟩, s2, ⟨ts, hts, hti, hps, hne⟩, _⟩
      have hi' : i < (heldOf w).length := by rw [held_len]; exact hi
      have hat := at_o hi'
      have hx : (heldOf w)[i] = w.ps[i].map (·.num) := by simp [heldOf]
      have hfl := fitTo_len w size i
      have hsz : i < w.sz.length := by rw [← hlen]; exact hi
      have hpi : w.ps[i]? = some w.ps[i] := List.getElem?_eq_getElem hi
      have hat2 : atI (w.sz.map V.int) ((0 : Int) + (i : Nat)) = some (.int (w.sz.getD i 0)) := by rw [Int.zero_add]; exact size_at hsz
      have es := fitTo_succ w size i
      rw [hpi] at es
      refine gN ?_
      cases e : w.ps[i] with
      | some q =>
        rw [hx, e] at hat
        rw [e] at es
        have es : fitTo w size (i + 1) = fitTo w size i := by rw [es]; simp [Option.join]
        rw [es]
        exact (evv rfl rfl (ix4 (p := b) (s2.seq hb) hat (evr rfl (iteF (iteF ⟨⟨_, rfl⟩, s2, ⟨ts, hts, hti, hps, hne⟩, hi⟩)))))
      | none =>
        rw [hx, e] at hat
        rw [e] at es
        have es : fitTo w size (i + 1) = fitTo w size i ++ if decide (size ≤ w.sz.getD i 0) = true then [i] else [] := by
          rw [es]; simp [Option.join]
        refine (evv rfl rfl (ix4 (p := b) (s2.seq hb) hat (evr rfl (iteT ?_))))
        refine (evv rfl rfl (ix4 (p := a) (s2.seq ha) hat2 (evr rfl (ev2 rfl rfl (evr rfl (ite2 (fun c => ?_) (fun c => ?_)))))))
        · refine (evv rfl rfl (ix4 (p := a) (s2.seq ha) hat2 (evr rfl ⟨(by show 2 ≤ sizeLine; decide), fun t ht => ?_⟩)))
          have ntD : t ≠ D := fun z => by rw [z, hts] at ht; cases ht
          rw [es, if_pos c]
          refine ⟨_, (by rw [upd_ne (Ne.symm ntD)]; exact hts), (by rw [List.length_map]; (first | lia | omega)), ⟨_, rfl⟩, ?_, ⟨ts ++ [t], (by rw [upd_same, List.map_append]; rfl), (by rw [List.length_append, List.length_append, hti]; rfl), ?_, ?_⟩, hi⟩
          · exact fun b o e => by
              have e2 := s2 b o e
              rw [upd_ne (ne_of_none e hD), upd_ne (ne_of_none e2 ht)]; exact e2
          · rw [List.map_append]
            have := PairsAt.snoc (K := K) (o := .lst (List.map V.ref ts ++ [V.ref t])) hps (m := pr w i) hne ht ntD
            rw [show (0 : Int) + (i : Nat) = (i : Nat) from Int.zero_add _]
            exact this
          · intro a ha
            rcases List.mem_append.mp ha with ha | ha
            · exact hne a ha
            · rw [List.mem_singleton.mp ha]; exact ntD
        · rw [es, if_neg c, List.append_nil]
          exact ⟨⟨_, rfl⟩, s2, ⟨ts, hts, hti, hps, hne⟩, hi⟩
    · rintro σ1 H2 ⟨⟨v, rfl⟩, s2, ⟨ts, hts, hti, hps, hne⟩, _⟩
      have hfl := fitTo_len w size w.ps.length
      refine (mk3_6 D ts _ rfl (SqL.of hts) hps (by (first | lia | omega)) (pr_nodup w size _) (fun l ts' ps' hl hp' hperm hsort => ?_))
      have s3 := s2.trans (same_upd (o := .lst (ts'.map V.ref)) hl)
      have hl' : ps'.length = (fitTo w size w.ps.length).length := by rw [hperm.length_eq, List.length_map]
      have hts' : ts'.length = ps'.length := hp'.1
      refine (evr rfl (mk2_4 l _ rfl (.inl (SqL.of upd_same)) rfl (evr rfl (ite2 (fun c => ?_) (fun c => ?_)))))
      · refine q0 (fun c' hc' => ?_) _ s3
        have hm := fitTo_mem.mpr hc'
        have c := of_decide_eq_true c
        rw [List.length_map] at c
        have h0 : ts'.length = 0 := by have := V.int.inj c; (first | lia | omega)
        have : fitTo w size w.ps.length = [] := List.length_eq_zero_iff.mp (by (first | lia | omega))
        rw [this] at hm
        cases hm
      · have hne0 : 0 < ts'.length := by
          cases z : ts' with
          | nil => exact absurd (decide_eq_true (by rw [z]; rfl)) c
          | cons _ _ => exact Nat.succ_pos _
        have hn0 : 0 < ps'.length := by (first | lia | omega)
        have h0 := hp'.2 0 ts'[0] ps'[0] (List.getElem?_eq_getElem hne0) (List.getElem?_eq_getElem hn0)
        have hmem : ps'[0] ∈ (fitTo w size w.ps.length).map (pr w) := hperm.mem_iff.mp (List.getElem_mem hn0)
        obtain ⟨j, hj, ej⟩ := List.mem_map.mp hmem
        refine (vix (p := l) rfl (SqL.of upd_same) (atI_nat (j := 0) (by rw [List.getElem?_map, List.getElem?_eq_getElem hne0]; rfl)) (ix4 (p := ts'[0]) (SqT.of h0) (atI_nat (j := 1) rfl) ?_))
        rw [← ej]
        refine q1 j ⟨fitTo_mem.mp hj, fun c' hc' => ?_⟩ _ s3
        have hc2 : pr w c' ∈ ps' := hperm.mem_iff.mpr (List.mem_map.mpr ⟨c', fitTo_mem.mpr hc', rfl⟩)
        obtain ⟨k, hk, ek⟩ := List.mem_iff_getElem.mp hc2
        show pLt (pr w c') (pr w j) = false
        rw [ej, ← ek]
        by_cases hk0 : k = 0
        · subst hk0
          rw [pLt_not]; exact .inr ⟨rfl, Int.le_refl _⟩
        · have := (List.pairwise_iff_getElem.mp hsort) 0 k hn0 hk (by (first | lia | omega))
          rw [pLt_iff] at this
          rw [pLt_not]
          (first | lia | omega)
end
end Pw

set_option Elab.async false
set_option linter.all false
set_option maxRecDepth 100000
set_option maxHeartbeats 4000000
namespace Pw
open PySem L2
section
variable {P : Program} {w : World} {K : PySem.W.Frag} {mg : Str → Option Value} {base : Heap}
/-! ### the law's own state -/
/-- state = [held, parcels, day]; the parcels that came: their sizes and last nights -/
structure StAt (K : PySem.W.Frag) (H : Hp) (st lh lp : Addr) (hs : List (Option Int)) (ts : List Addr) (prs : List (Int × Int)) (g : Int) : Prop where
  hst : H st = some (.lst [.ref lh, .ref lp, .int g])
  hh : H lh = some (.lst (hs.map oV))
  hp : H lp = some (.lst (ts.map V.ref))
  pa : PairsAt K H ts prs
  n1 : st ≠ lh
  n2 : st ≠ lp
  n3 : lh ≠ lp
theorem StAt.mono {H H' : Hp} {st lh lp : Addr} {hs : List (Option Int)} {ts : List Addr} {prs : List (Int × Int)} {g : Int} (S : StAt K H st lh lp hs ts prs g) (s : Same H H') : StAt K H' st lh lp hs ts prs g :=
  ⟨s _ _ S.hst, s _ _ S.hh, s _ _ S.hp, PairsAt.mono S.pa s, S.n1, S.n2, S.n3⟩
theorem PairsAt.tup {H : Hp} {ts : List Addr} {ps : List (Int × Int)} {a : Addr} (h : PairsAt K H ts ps) (ha : a ∈ ts) : ∃ m : Int × Int, H a = some (.tup [.int m.1, .int m.2]) := by
  obtain ⟨i, hi, e⟩ := List.mem_iff_getElem.mp ha
  have hi2 : i < ps.length := by rw [← h.1]; exact hi
  exact ⟨ps[i], h.2 i a ps[i] (by rw [List.getElem?_eq_getElem hi, e]) (List.getElem?_eq_getElem hi2)⟩
theorem PairsAt.put {H : Hp} {ts : List Addr} {ps : List (Int × Int)} {b : Addr} {xs : List V} {o : HO} (h : PairsAt K H ts ps) (hb : H b = some (.lst xs)) : PairsAt K (upd H b o) ts ps :=
  ⟨h.1, fun i a m ha hm => by
    have e := h.2 i a m ha hm
    have n : a ≠ b := fun z => by rw [z, hb] at e; cases e
    rw [upd_ne n]; exact e⟩
/-- all stays but two lists -/
def Keep2 (H H' : Hp) (a b : Addr) : Prop := ∀ c o, H c = some o → c ≠ a → c ≠ b → H' c = some o
def Keep3 (H H' : Hp) (a b e : Addr) : Prop := ∀ c o, H c = some o → c ≠ a → c ≠ b → c ≠ e → H' c = some o
/-- the parcels in the wall are those that the state tells of -/
def Fits (w : Wl) (prs : List (Int × Int)) : Prop := ∀ (i : Nat) q, w.ps[i]? = some (some q) → 0 ≤ q.num ∧ prs[q.num.toNat]? = some (q.size, q.last) ∧ w.gone < q.last
def spDue (K : PySem.W.Frag) : Sp := fun vs H Q _ => ∃ (a st d lh lp : Addr) (w : Wl) (ts : List Addr) (prs : List (Int × Int)), vs = [.ref a, .ref st, .ref d] ∧ SqL K H a (w.sz.map V.int) ∧ w.ps.length = w.sz.length ∧ w.sz.length ≤ 8 ∧ StAt K H st lh lp (heldOf w) ts prs w.gone ∧ (ts.length : Int) = w.came ∧ ts.length < 1000 ∧ Fits w prs ∧
  ((∃ size nights, H d = some (.tup [.str "come", .int size, .int nights]) ∧
    (okNum size = false → Q (.str "NoSize") H) ∧ (okNum size = true → okNum nights = false → Q (.str "NoNights") H) ∧
    (okNum size = true → okNum nights = true → NoneFits w size → ∀ H', Same H H' → Q (.str "NoBox") H') ∧
    (okNum size = true → okNum nights = true → ∀ b : Nat, IsLeast w size b → ∀ (t : Addr) (H' : Hp), H t = none → StAt K H' st lh lp ((heldOf w).set b (some w.came)) (ts ++ [t]) (prs ++ [(size, w.gone + nights)]) w.gone → Keep2 H H' lh lp → Q (.int w.came) H')) ∨
   (∃ n, H d = some (.tup [.str "fetch", .int n]) ∧ (some n ∉ heldOf w → Q (.str "NoParcel") H) ∧ (∀ b, FirstAt (heldOf w) n b → ∀ H', StAt K H' st lh lp ((heldOf w).set b none) ts prs w.gone → Keep2 H H' lh lp → Q (.int (b : Nat)) H')) ∨
   (H d = some (.tup [.str "night"]) ∧ ∀ (ms : List Int) (l : Addr) (H' : Hp), ms.Perm (sentOf (w.gone + 1) w.ps) → ms.Pairwise (· ≤ ·) → H l = none → H' l = some (.lst (ms.map V.int)) → l ≠ lh → StAt K H' st lh lp (heldOf w.night) ts prs (w.gone + 1) → Keep3 H H' st lh lp → Q (.ref l) H'))
theorem scDu : FnScope ["sizes", "state", "deed", "held", "parcels", "back", "box"] ["sizes", "state", "deed"] (defScope s__law_due) := ⟨rfl, rfl, rfl, by decide +kernel, rfl, by decide +kernel, by decide +kernel⟩
theorem held_half (w : Wl) (i : Nat) (c g g' : Int) (hi : i < w.ps.length) : (heldOf ⟨w.sz, half g w.ps (i + 1), c, g'⟩) = (heldOf ⟨w.sz, half g w.ps i, c, g'⟩).set i ((goesBack g w.ps[i]).map (·.num)) := by
  unfold heldOf
  simp only
  rw [half_succ hi, List.map_set]
theorem sent_mem {g : Int} {ps : List (Option Pc)} {n : Int} : n ∈ sentOf g ps ↔ ∃ r, some r ∈ ps ∧ r.last = g ∧ r.num = n := by
  unfold sentOf
  rw [List.mem_filterMap]
  constructor
  · rintro ⟨o, ho, e⟩
    cases o with
    | none => cases e
    | some r =>
      simp only at e
      split at e
      · rename_i h; exact ⟨r, ho, h, Option.some.inj e⟩
      · cases e
  · rintro ⟨r, hr, h, e⟩
    exact ⟨some r, hr, by simp [h, e]⟩
theorem ok_due {f fB : Addr} {fd fdB : FuncData} (F : Fun K "_law_due" "_law_due" s__law_due f fd) (gB : Gd P w K mg base "_law_box_for" s__law_box_for ["sizes", "held", "size"] CX0 1 (spBoxFor K) fB fdB) (mlen : mg "len" = none) (mrange : mg "range" = none) (msorted : mg "sorted" = none) : FnOk P w K mg base CX0 2 f fd ["sizes", "state", "deed"] (spDue K) := by
  refine F.ok scDu (fun vs H Q E h => ?_) (fun cdv A outer s H vs Q E hr h => ?_)
  · refine ob8_2 h (fun a st d lh lp w ts prs eRfl _ => ?_); clear h; subst eRfl
    rfl
  · refine ob8_9 h (fun a st d lh lp w ts prs eRfl ha hlen hfew S hts htl hfit hdeed => ?_); clear h; subst eRfl
    have hr1 : Room 1 _ := hr
    refine ⟨_, (pss_cons (ps_set (i := 3) scDu.nd rfl (Or.inl rfl) (pe_ix ix_list (pv 1) pe_int (fun _ _ => rfl)))
      (pss_cons (ps_set (i := 4) scDu.nd rfl (Or.inr rfl) (pe_ix ix_list (pv 1) pe_int (fun _ _ => rfl)))
      (pss_cons (ps_if (pt_cmpR op_eq (pe_ix ix_tup (pv 2) pe_int (fun _ _ => rfl)) pe_str (nomark _)) (pss_cons (ps_asg (pe_op op_add (pe_ix ix_list (pv 1) pe_int (fun _ _ => rfl)) pe_int) (pg_sub (pv 1) pe_int set_list))
      (pss_cons (ps_setC (i := 5) scDu.nd rfl rfl rfl (N := ["p", "state", "parcels"]) (src := [none, some 1, some 4]) (blk (osc := defScope s__law_due) (oN := ["sizes", "state", "deed", "held", "parcels", "back", "box"]) rfl rfl (by decide +kernel)) (pi_list (pv 3)) (fun C s₀ H₀ ex pn => pg_name (i := 0) (show (["p", "state", "parcels"] : List Str).Nodup by decide +kernel) rfl (Or.inl rfl) (Or.inr rfl)) (fun C s₀ H₀ ex pn => pts_one (pw_and (pt_cmp (pc_notN (pv 0))) (pw_and1 (pt_cmpR op_le (pe_ixTB (K := K) rfl (pe_ixB (K := K) rfl (pv 2) (pv 0) (fun _ _ => rfl)) pe_int (fun _ _ => rfl)) (pe_ixB (K := K) rfl (pv 1) pe_int (fun _ _ => rfl)) (nomark _)))).pt) (fun C s₀ H₀ ex pn => (pv 0)))
      (pss_cons (ps_for PassesOwn.never rfl (pi_range1 (by rfl) mrange (pa_cons (pe_callB call_len_seq (by rfl) mlen PySem.boot_len (pa_cons (pv 3) pa_nil)) pa_nil)) (pg_name (i := 6) scDu.nd rfl (Or.inl rfl)) (pss_one (ps_if (pt_cmpR op_in_seq (pe_ix ix_list (pv 3) (pv 6) (fun _ _ => rfl)) (pv 5) (by with_unfolding_all rfl)) (pss_one (ps_asg pe_non (pg_sub (pv 3) (pv 6) set_list))) pss_nil)))
      (pss_one (ps_ret (pe_callB call_sortedI (by rfl) msorted PyProof.Rows.boot_sorted (pa_cons (pv 5) pa_nil))))))) pss_nil)
      (pss_cons (ps_if (pt_cmpR op_eq (pe_ix ix_tup (pv 2) pe_int (fun _ _ => rfl)) pe_str (nomark _)) (pss_cons (ps_if (pt_cmpR op_notIn_seq (pe_ix ix_tup (pv 2) pe_int (fun _ _ => rfl)) (pv 3) (by with_unfolding_all rfl)) (pss_one (ps_ret pe_str)) pss_nil)
      (pss_cons (ps_set (i := 6) scDu.nd rfl (Or.inl rfl) (pe_bm PySem.F.plainAttrs_list PySem.F.slot_list_index PySem.F.type_list_index mt_index (pv 3) (pa_cons (pe_ix ix_tup (pv 2) pe_int (fun _ _ => rfl)) pa_nil)))
      (pss_cons (ps_asg pe_non (pg_sub (pv 3) (pv 6) set_list))
      (pss_one (ps_ret (pv 6)))))) pss_nil)
      (pss_cons (ps_if (pw_or (pt_cmpR op_lt (pe_ix ix_tup (pv 2) pe_int (fun _ _ => rfl)) pe_int (nomark _)) (pw_or1 (pt_cmpR op_gt (pe_ix ix_tup (pv 2) pe_int (fun _ _ => rfl)) pe_int (nomark _)))).pt (pss_one (ps_ret pe_str)) pss_nil)
      (pss_cons (ps_if (pw_or (pt_cmpR op_lt (pe_ix ix_tup (pv 2) pe_int (fun _ _ => rfl)) pe_int (nomark _)) (pw_or1 (pt_cmpR op_gt (pe_ix ix_tup (pv 2) pe_int (fun _ _ => rfl)) pe_int (nomark _)))).pt (pss_one (ps_ret pe_str)) pss_nil)
      (pss_cons (ps_set (i := 6) scDu.nd rfl (Or.inl rfl) (pe_call gB.G hr1 (by rfl) gB.m gB.F.kp gB.b .nil pass0 (pa_cons (pv 0) (pa_cons (pv 3) (pa_cons (pe_ix ix_tup (pv 2) pe_int (fun _ _ => rfl)) pa_nil)))))
      (pss_cons (ps_if (pt_cmp (pc_isN (pv 6))) (pss_one (ps_ret pe_str)) pss_nil)
      (pss_cons (ps_asg (pe_callB call_len_seq (by rfl) mlen PySem.boot_len (pa_cons (pv 4) pa_nil)) (pg_sub (pv 3) (pv 6) set_list))
      (pss_cons (ps_expr (pe_bm PySem.F.plainAttrs_list PySem.F.slot_list_append PySem.F.type_list_append mt_append (pv 4) (pa_cons (pe_tup (pa_cons (pe_ix ix_tup (pv 2) pe_int (fun _ _ => rfl)) (pa_cons (pe_op op_add (pe_ix ix_list (pv 1) pe_int (fun _ _ => rfl)) (pe_ix ix_tup (pv 2) pe_int (fun _ _ => rfl))) pa_nil))) pa_nil)))
      (pss_one (ps_ret (pe_ix ix_list (pv 3) (pv 6) (fun _ _ => rfl)))))))))))))), ?_⟩
    try dsimp only [cxOf]
    have hline : (1000 : Nat) < sizeLine := by decide
    refine (vix (p := st) rfl (SqL.of S.hst) (atI_nat (j := 0) rfl) ?_)
    refine (vix (p := st) rfl (SqL.of S.hst) (atI_nat (j := 1) rfl) ?_)
    have hl8 : w.ps.length ≤ 8 := by (first | lia | omega)
    rcases hdeed with ⟨size, nights, hd, q1, q2, q3, q4⟩ | ⟨n, hd, q1, q2⟩ | ⟨hd, q1⟩
    · refine (vix (p := d) rfl (SqT.of hd) (atI_nat (j := 0) rfl) ⟨rfl, evr rfl (iteFe (by decide +kernel) ?_)⟩)
      refine (vix (p := d) rfl (SqT.of hd) (atI_nat (j := 0) rfl) ⟨rfl, evr rfl (iteFe (by decide +kernel) ?_)⟩)
      have k0 : ∀ z : Int, okNum z = true ↔ ¬ z < 1 ∧ ¬ 9 < z := fun z => by unfold okNum; rw [Bool.and_eq_true, decide_eq_true_eq, decide_eq_true_eq]; (first | lia | omega)
      have kf : ∀ z : Int, (z < 1 ∨ 9 < z) → okNum z = false := fun z h => Bool.eq_false_iff.mpr fun c => by have := (k0 z).mp c; (first | lia | omega)
      refine (vix (p := d) rfl (SqT.of hd) (atI_nat (j := 1) rfl) (ev2 rfl rfl (evr rfl (ite2 (fun c => iteT (q1 (kf _ (.inl (of_decide_eq_true c))))) (fun c1 => ?_)))))
      refine (vix (p := d) rfl (SqT.of hd) (atI_nat (j := 1) rfl) (ev2 rfl rfl (evr rfl (ite2 (fun c => q1 (kf _ (.inr (of_decide_eq_true c)))) (fun c2 => ?_)))))
      rw [decide_eq_true_eq] at c1 c2
      have ok1 := (k0 size).mpr ⟨c1, c2⟩
      refine (vix (p := d) rfl (SqT.of hd) (atI_nat (j := 2) rfl) (ev2 rfl rfl (evr rfl (ite2 (fun c => iteT (q2 ok1 (kf _ (.inl (of_decide_eq_true c))))) (fun c3 => ?_)))))
      refine (vix (p := d) rfl (SqT.of hd) (atI_nat (j := 2) rfl) (ev2 rfl rfl (evr rfl (ite2 (fun c => q2 ok1 (kf _ (.inr (of_decide_eq_true c)))) (fun c4 => ?_)))))
      rw [decide_eq_true_eq] at c3 c4
      have ok2 := (k0 nights).mpr ⟨c3, c4⟩
      refine (evv rfl rfl (evr rfl (ix4 (p := d) (SqT.of hd) (atI_nat (j := 1) rfl) (mk4_7 a lh w size rfl ha (SqL.of S.hh) hlen hfew (fun hn H1 s1 => ?_) (fun b hb H1 s1 => ?_)))))
      · exact (evv rfl rfl (iteT (q3 ok1 ok2 hn H1 s1)))
      · have S1 := S.mono s1
        have hd1 := s1 _ _ hd
        have hbl : b < (heldOf w).length := by rw [held_len]; exact hb.1.1
        refine (evv rfl rfl (iteF ?_))
        have ndl : ∀ {x : Addr} {xs : List V}, H1 x = some (.lst xs) → d ≠ x := fun h z => by rw [← z, hd1] at h; cases h
        refine (evr rfl (mk2_2 lp _ rfl ⟨.inl (SqL.of S1.hp), evv rfl rfl (mk4_5 lh _ _ b rfl rfl S1.hh (ixN_nat rfl (by rw [List.length_map]; exact hbl)) ?_)⟩))
        have e1 : ((ts.map V.ref).length : Int) = w.came := by rw [List.length_map]; exact hts
        rw [e1]
        have hp2 : ∀ o, (upd H1 lh o) lp = some (.lst (ts.map V.ref)) := fun o => by rw [upd_ne (Ne.symm S.n3)]; exact S1.hp
        have hd2 : ∀ o, (upd H1 lh o) d = some (.tup [.str "come", .int size, .int nights]) := fun o => by rw [upd_ne (ndl S1.hh)]; exact hd1
        have hs2 : ∀ o, (upd H1 lh o) st = some (.lst [.ref lh, .ref lp, .int w.gone]) := fun o => by rw [upd_ne S.n1]; exact S1.hst
        refine (evr rfl ⟨.inl ⟨rfl, _, SqL.of (hp2 _)⟩, vix (p := d) rfl (SqT.of (hd2 _)) (atI_nat (j := 1) rfl) (vix (p := st) rfl (SqL.of (hs2 _)) (atI_nat (j := 2) rfl) (vix (p := d) rfl (SqT.of (hd2 _)) (atI_nat (j := 2) rfl) (ev2 rfl rfl ⟨(by show 2 ≤ sizeLine; decide), fun t ht => ?_⟩)))⟩)
        have nt : ∀ {x : Addr} {u : HO}, H1 x = some u → t ≠ x := fun h z => by
          by_cases e : t = lh
          · rw [e, upd_same] at ht; cases ht
          · rw [upd_ne e, z, h] at ht; cases ht
        have ntH : H1 t = none := by
          cases z : H1 t with
          | none => rfl
          | some u => exact absurd rfl (nt z)
        refine (mk3_5 lp _ _ rfl rfl (by rw [upd_ne (Ne.symm (nt S1.hp))]; exact hp2 _) (by rw [List.length_map]; (first | lia | omega)) ?_)
        have hh3 : ∀ o1 o2 o3, (upd (upd (upd H1 lh o1) t o2) lp o3) lh = some o1 := fun o1 o2 o3 => by rw [upd_ne S.n3, upd_ne (Ne.symm (nt S1.hh)), upd_same]
        refine (evv rfl rfl (ix4 (p := lh) (SqL.of (hh3 _ _ _)) (atI_nat (j := b) (by rw [List.getElem?_set_self (by rw [List.length_map]; exact hbl)])) ?_))
        refine q4 ok1 ok2 b hb t _ (s1.free ntH) ⟨?_, ?_, ?_, ?_, S.n1, S.n2, S.n3⟩ fun c o e n1 n2 => ?_
        · rw [upd_ne S.n2, upd_ne (Ne.symm (nt S1.hst))]; exact hs2 _
        · rw [hh3, List.map_set]; rfl
        · rw [upd_same, List.map_append]; rfl
        · exact PairsAt.snoc (m := (size, w.gone + nights)) (PairsAt.put S1.pa S1.hh) (fun x hx z => by
            obtain ⟨m, hm⟩ := PairsAt.tup S1.pa hx
            rw [z, S1.hp] at hm; cases hm) ht (nt S1.hp)
        · rw [upd_ne n2, upd_ne (Ne.symm (nt (s1 _ _ e))), upd_ne n1]; exact s1 _ _ e
    · refine (vix (p := d) rfl (SqT.of hd) (atI_nat (j := 0) rfl) ⟨rfl, evr rfl (iteFe (by decide +kernel) ?_)⟩)
      refine (vix (p := d) rfl (SqT.of hd) (atI_nat (j := 0) rfl) ⟨rfl, evr rfl (iteTe (by decide +kernel) ?_)⟩)
      refine (vix (p := d) rfl (SqT.of hd) (atI_nat (j := 1) rfl) (evr rfl ⟨lh, evr rfl ⟨.inl (SqL.of S.hh), rfl, flat_held _, evr rfl ?_⟩⟩))
      rw [in_held]
      by_cases hm : some n ∈ heldOf w
      · refine iteFe (by rw [decide_eq_true hm]; rfl) ?_
        obtain ⟨b, hb⟩ := first_ex hm
        obtain ⟨i1, i2, i3⟩ := ix_read hb
        refine (evr rfl ⟨.inl ⟨rfl, _, SqL.of S.hh⟩, vix (p := d) rfl (SqT.of hd) (atI_nat (j := 1) rfl) (mk4_9 lh _ _ b rfl rfl (SqL.of S.hh) rfl (flat_held _) i1 i2 i3 ?_)⟩)
        refine (evv rfl rfl (mk4_5 lh _ _ b rfl rfl S.hh (ixN_nat rfl i1) ?_))
        refine (evr rfl (q2 b hb _ ⟨?_, ?_, ?_, PairsAt.put S.pa S.hh, S.n1, S.n2, S.n3⟩ fun c o e n1 n2 => ?_))
        · rw [upd_ne S.n1]; exact S.hst
        · rw [upd_same, List.map_set]; rfl
        · rw [upd_ne (Ne.symm S.n3)]; exact S.hp
        · rw [upd_ne n1]; exact e
      · exact iteTe (by rw [decide_eq_false hm]; rfl) (q1 hm)
    · refine (vix (p := d) rfl (SqT.of hd) (atI_nat (j := 0) rfl) ⟨rfl, evr rfl (iteTe (by decide +kernel) ?_)⟩)
      refine (vix (p := st) rfl (SqL.of S.hst) (atI_nat (j := 2) rfl) (ev2 rfl rfl (evr rfl (mk4_5 st _ _ 2 rfl rfl S.hst (ixN_nat rfl (by show 2 < 3; decide)) ?_))))
      have S1 : StAt K (upd H st (.lst [.ref lh, .ref lp, .int (w.gone + 1)])) st lh lp (heldOf w) ts prs (w.gone + 1) := ⟨upd_same, by rw [upd_ne (Ne.symm S.n1)]; exact S.hh, by rw [upd_ne (Ne.symm S.n2)]; exact S.hp, PairsAt.put S.pa S.hst, S.n1, S.n2, S.n3⟩
      have k1 : Keep3 H (upd H st (.lst [.ref lh, .ref lp, .int (w.gone + 1)])) st lh lp := fun c o e n1 _ _ => by rw [upd_ne n1]; exact e
      have f1 : ∀ {x : Addr}, (upd H st (.lst [.ref lh, .ref lp, .int (w.gone + 1)])) x = none → H x = none := fun {x} h => by
        by_cases e : x = st
        · rw [e, upd_same] at h; cases h
        · rw [upd_ne e] at h; exact h
      show _
      have goal : ∀ {X : Hp → Prop}, X (upd H st (.lst [.ref lh, .ref lp, .int (w.gone + 1)])) → X (upd H st (.lst ([V.ref lh, .ref lp, .int w.gone].set 2 (.int (w.gone + 1))))) := fun h => h
      refine goal ?_
      generalize upd H st (.lst [.ref lh, .ref lp, .int (w.gone + 1)]) = H1 at S1 k1 f1 ⊢
      have hline8 : (8 : Nat) < sizeLine := by decide
      refine (evr rfl ⟨lh, rfl, ⟨_, SqL.of S1.hh⟩, fun D hD => ?_⟩)
      refine comp_list (K := K) (a := lh) (src := [none, some 1, some 4]) (xs := (heldOf w).map oV) (fun i σ1 H2 => (∃ v, σ1 = [v, some (.ref st), some (.ref lp)]) ∧ H2 = upd H1 D (.lst ((sentOf (w.gone + 1) (w.ps.take i)).map V.int)) ∧ (sentOf (w.gone + 1) (w.ps.take i)).length ≤ i ∧ i ≤ w.ps.length) ⟨⟨none, rfl⟩, rfl, Nat.le_refl _, Nat.zero_le _⟩ ?_ ?_ ?_
      · rintro i σ1 H2 _ ⟨_, rfl, _⟩
        exact SqL.of (same_upd hD _ _ S1.hh)
      · rintro i x σ1 H2 hx ⟨⟨v, rfl⟩, rfl, hsl, hi⟩
        have S2 := S1.mono (same_upd (o := .lst ((sentOf (w.gone + 1) (w.ps.take i)).map V.int)) hD)
        have hil : i < w.ps.length := by have := (List.getElem?_eq_some_iff.mp hx).1; rw [List.length_map, held_len] at this; exact this
        have hxe : x = oV (w.ps[i].map (·.num)) := by
          rw [List.getElem?_map] at hx
          unfold heldOf at hx
          rw [List.getElem?_map, List.getElem?_eq_getElem hil] at hx
          exact (Option.some.inj hx).symm
        subst hxe
        have es := sent_snoc (g := w.gone + 1) hil
        refine gN ?_
        cases e : w.ps[i] with
        | none =>
          have e2 : sentOf (w.gone + 1) (w.ps.take (i + 1)) = sentOf (w.gone + 1) (w.ps.take i) := by rw [es, e]; simp [sentOf]
          rw [e2]
          exact (evv rfl rfl (iteF (iteF ⟨⟨_, rfl⟩, rfl, by (first | lia | omega), hil⟩)))
        | some r =>
          obtain ⟨r0, r1, r2⟩ := hfit i r (by rw [List.getElem?_eq_getElem hil, e])
          have hrl : r.num.toNat < prs.length := (List.getElem?_eq_some_iff.mp r1).1
          have hrt : r.num.toNat < ts.length := by rw [S.pa.1]; exact hrl
          have hta : atI (ts.map V.ref) r.num = some (.ref ts[r.num.toNat]) := by
            have h := atI_nat (xs := ts.map V.ref) (j := r.num.toNat) (v := .ref ts[r.num.toNat]) (by rw [List.getElem?_map, List.getElem?_eq_getElem hrt]; rfl)
            rw [Int.toNat_of_nonneg r0] at h
            exact h
          have htu := S2.pa.2 r.num.toNat ts[r.num.toNat] _ (List.getElem?_eq_getElem hrt) r1
          refine (evv rfl rfl (iteT ?_))
          refine (evv rfl rfl (ix4 (p := lp) (SqL.of S2.hp) hta (ix4 (p := ts[r.num.toNat]) (SqT.of htu) (atI_nat (j := 1) rfl) (vix (p := st) rfl (SqL.of S2.hst) (atI_nat (j := 2) rfl) (ev2 rfl rfl (evr rfl (ite2 (fun c => ?_) (fun c => ?_))))))))
          · have c : r.last = w.gone + 1 := by have := of_decide_eq_true c; have : r.last ≤ w.gone + 1 := this; (first | lia | omega)
            have e2 : sentOf (w.gone + 1) (w.ps.take (i + 1)) = sentOf (w.gone + 1) (w.ps.take i) ++ [r.num] := by rw [es, e]; simp [sentOf, c]
            rw [e2]
            refine (evr rfl ⟨_, upd_same, (by rw [List.length_map]; (first | lia | omega)), ⟨_, rfl⟩, ?_, (by rw [List.length_append]; show _ + 1 ≤ _; (first | lia | omega)), hil⟩)
            rw [upd_upd, List.map_append]; rfl
          · have c : ¬ r.last = w.gone + 1 := fun z => c (decide_eq_true (by show r.last ≤ w.gone + 1; (first | lia | omega)))
            have e2 : sentOf (w.gone + 1) (w.ps.take (i + 1)) = sentOf (w.gone + 1) (w.ps.take i) := by rw [es, e]; simp [sentOf, c]
            rw [e2]
            exact ⟨⟨_, rfl⟩, rfl, by (first | lia | omega), hil⟩
      · rintro σ1 H2 ⟨⟨v, rfl⟩, rfl, hsl, _⟩
        rw [List.length_map, held_len, List.take_length] at hsl ⊢
        have s2 := same_upd (o := .lst ((sentOf (w.gone + 1) w.ps).map V.int)) hD
        have S2 := S1.mono s2
        have hD2 : (upd H1 D (.lst ((sentOf (w.gone + 1) w.ps).map V.int))) D = some (.lst ((sentOf (w.gone + 1) w.ps).map V.int)) := upd_same
        generalize upd H1 D (.lst ((sentOf (w.gone + 1) w.ps).map V.int)) = H2 at s2 S2 hD2 ⊢
        refine (evr rfl (mk2_2 lh _ rfl ⟨.inl (SqL.of S2.hh), evr rfl ⟨(by rw [List.length_map, held_len]; (first | lia | omega)), (by rw [List.length_map, held_len]; (first | lia | omega)), ?_⟩⟩))
        have el : (((heldOf w).map oV).length : Int).toNat = w.ps.length := by rw [List.length_map, held_len]; (first | lia | omega)
        rw [el]
        have nDh : D ≠ lh := fun z => by rw [z, S1.hh] at hD; cases hD
        refine for_range (n := w.ps.length) (fun i σ H3 => (∃ v6, σ = [some (.ref a), some (.ref st), some (.ref d), some (.ref lh), some (.ref lp), some (.ref D), v6]) ∧ StAt K H3 st lh lp (heldOf ⟨w.sz, half (w.gone + 1) w.ps i, w.came, w.gone + 1⟩) ts prs (w.gone + 1) ∧ Keep3 H H3 st lh lp ∧ H3 D = some (.lst ((sentOf (w.gone + 1) w.ps).map V.int)))
          ⟨⟨_, rfl⟩, S2, (fun c o e n1 n2 n3 => s2 _ _ (k1 c o e n1 n2 n3)), hD2⟩ ?_ ?_
        · rintro i σ H3 hi ⟨⟨v6, rfl⟩, S3, k3, hD3⟩
          have hat : atI ((heldOf ⟨w.sz, half (w.gone + 1) w.ps i, w.came, w.gone + 1⟩).map oV) ((0 : Int) + (i : Nat)) = some (oV (w.ps[i].map (·.num))) := by
            rw [Int.zero_add]
            refine atI_nat ?_
            unfold heldOf
            simp only
            rw [List.getElem?_map, List.getElem?_map, half_at, List.getElem?_eq_getElem hi]; rfl
          have put : goesBack (w.gone + 1) w.ps[i] = none → (∃ v6, [some (V.ref a), some (.ref st), some (.ref d), some (.ref lh), some (.ref lp), some (.ref D), some (.int (0 + (i : Nat)))] = [some (.ref a), some (.ref st), some (.ref d), some (.ref lh), some (.ref lp), some (.ref D), v6]) ∧ StAt K (upd H3 lh (.lst (((heldOf ⟨w.sz, half (w.gone + 1) w.ps i, w.came, w.gone + 1⟩).map oV).set i .non))) st lh lp (heldOf ⟨w.sz, half (w.gone + 1) w.ps (i + 1), w.came, w.gone + 1⟩) ts prs (w.gone + 1) ∧ Keep3 H (upd H3 lh (.lst (((heldOf ⟨w.sz, half (w.gone + 1) w.ps i, w.came, w.gone + 1⟩).map oV).set i .non))) st lh lp ∧ (upd H3 lh (.lst (((heldOf ⟨w.sz, half (w.gone + 1) w.ps i, w.came, w.gone + 1⟩).map oV).set i .non))) D = some (.lst ((sentOf (w.gone + 1) w.ps).map V.int)) := fun eg => by
            refine ⟨⟨_, rfl⟩, ⟨by rw [upd_ne S.n1]; exact S3.hst, ?_, by rw [upd_ne (Ne.symm S.n3)]; exact S3.hp, PairsAt.put S3.pa S3.hh, S.n1, S.n2, S.n3⟩, fun c o e n1 n2 n3 => by rw [upd_ne n2]; exact k3 c o e n1 n2 n3, by rw [upd_ne nDh]; exact hD3⟩
            rw [upd_same, held_half w i _ _ _ hi, eg, List.map_set]; rfl
          have stay : goesBack (w.gone + 1) w.ps[i] = w.ps[i] → (∃ v6, [some (V.ref a), some (.ref st), some (.ref d), some (.ref lh), some (.ref lp), some (.ref D), some (.int (0 + (i : Nat)))] = [some (.ref a), some (.ref st), some (.ref d), some (.ref lh), some (.ref lp), some (.ref D), v6]) ∧ StAt K H3 st lh lp (heldOf ⟨w.sz, half (w.gone + 1) w.ps (i + 1), w.came, w.gone + 1⟩) ts prs (w.gone + 1) ∧ Keep3 H H3 st lh lp ∧ H3 D = some (.lst ((sentOf (w.gone + 1) w.ps).map V.int)) := fun eg => by
            rw [half_same hi eg]; exact ⟨⟨_, rfl⟩, S3, k3, hD3⟩
          cases e : w.ps[i] with
          | none =>
            rw [e] at hat
            refine (evv rfl rfl (ix4 (p := lh) (SqL.of S3.hh) hat (evr rfl ⟨D, evr rfl ⟨.inl (SqL.of hD3), rfl, flat_ints _, evr rfl (iteFe ?_ (stay (by rw [e]; rfl)))⟩⟩)))
            show inV .non _ = false
            unfold inV
            rw [List.any_eq_false]
            intro y hy
            obtain ⟨m, _, rfl⟩ := List.mem_map.mp hy
            simp [eqV]
          | some r =>
            rw [e] at hat
            obtain ⟨r0, r1, r2⟩ := hfit i r (by rw [List.getElem?_eq_getElem hi, e])
            refine (evv rfl rfl (ix4 (p := lh) (SqL.of S3.hh) hat (evr rfl ⟨D, evr rfl ⟨.inl (SqL.of hD3), rfl, flat_ints _, evr rfl ?_⟩⟩)))
            show if inV (.int r.num) _ = true then _ else _
            rw [in_ints]
            by_cases c : r.last = w.gone + 1
            · have hm : r.num ∈ sentOf (w.gone + 1) w.ps := sent_mem.mpr ⟨r, List.mem_of_getElem? (by rw [List.getElem?_eq_getElem hi, e]), c, rfl⟩
              refine iteTe (decide_eq_true hm) ?_
              exact (evv rfl rfl (mk4_5 lh _ _ i rfl rfl S3.hh (ixN_nat (Int.zero_add _) (by rw [List.length_map, held_len, half_len]; exact hi)) (put (by rw [e]; simp [goesBack, c]))))
            · have hm : ¬ r.num ∈ sentOf (w.gone + 1) w.ps := fun z => by
                obtain ⟨r', hr', h1, h2⟩ := sent_mem.mp z
                obtain ⟨j, hj, ej⟩ := List.mem_iff_getElem.mp hr'
                obtain ⟨_, x1, _⟩ := hfit j r' (by rw [List.getElem?_eq_getElem hj, ej])
                rw [h2, r1] at x1
                have := congrArg Prod.snd (Option.some.inj x1)
                exact c (by have : r.last = r'.last := this; (first | lia | omega))
              exact iteFe (decide_eq_false hm) (stay (by rw [e]; simp [goesBack, c]))
        · rintro σ H3 ⟨⟨v6, rfl⟩, S3, k3, hD3⟩
          rw [half_all] at S3
          refine (evr rfl (mk2_4 D _ rfl (SqL.of hD3) (by (first | lia | omega)) (fun l ms hl hp hs => ?_)))
          have s4 := same_upd (o := .lst (ms.map V.int)) hl
          have nl : l ≠ lh := fun z => by rw [z, S3.hh] at hl; cases hl
          refine q1 ms l _ hp hs ?_ upd_same nl (S3.mono s4) (fun c o e n1 n2 n3 => s4 _ _ (k3 c o e n1 n2 n3))
          cases z : H l with
          | none => rfl
          | some u =>
            have n1 : l ≠ st := fun z => by rw [z, S3.hst] at hl; cases hl
            have n3 : l ≠ lp := fun z => by rw [z, S3.hp] at hl; cases hl
            rw [k3 l u z n1 nl n3] at hl; cases hl
end
end Pw

set_option Elab.async false
set_option linter.all false
set_option maxRecDepth 100000
set_option maxHeartbeats 4000000
namespace Pw
open PySem L2
section
variable {P : Program} {w : World} {K : PySem.W.Frag} {mg : Str → Option Value} {base : Heap}
/-! ### a deed that is drawn -/
inductive DK where
  | night
  | fetch (n : Int)
  | come (size nights : Int)
def DK.v : DK → List V
  | .night => [.str "night"]
  | .fetch n => [.str "fetch", .int n]
  | .come size nights => [.str "come", .int size, .int nights]
def spDeedBy (K : PySem.W.Frag) : Sp := fun vs H Q _ => ∃ (a st lh lp : Addr) (ns : List Int) (k : Int) (ts : List V) (g : Int), vs = [.ref a, .int k, .ref st] ∧ SqL K H a (ns.map V.int) ∧ ns.length ≤ 63 ∧ 0 ≤ k ∧ k < 10000 ∧ H st = some (.lst [.ref lh, .ref lp, .int g]) ∧ H lp = some (.lst ts) ∧ ts.length < 1000 ∧
  ∀ (dk : DK) (d : Addr) (H' : Hp), Same H H' → H d = none → H' d = some (.tup dk.v) → Q (.ref d) H'
theorem scDB : FnScope ["script", "k", "state", "way", "parcel", "size", "nights"] ["script", "k", "state"] (defScope s__law_deed_by) := ⟨rfl, rfl, rfl, by decide +kernel, rfl, by decide +kernel, by decide +kernel⟩
theorem ok_deedBy {f fD : Addr} {fd fdD : FuncData} (F : Fun K "_law_deed_by" "_law_deed_by" s__law_deed_by f fd) (gD : Gd P w K mg base "_law_drawn" s__law_drawn ["script", "k", "many"] CX0 1 (spDrawn K) fD fdD) (mlen : mg "len" = none) : FnOk P w K mg base CX0 2 f fd ["script", "k", "state"] (spDeedBy K) := by
  refine F.ok scDB (fun vs H Q E h => ?_) (fun cdv A outer s H vs Q E hr h => ?_)
  · refine ob8_2 h (fun a st lh lp ns k ts g eRfl _ => ?_); clear h; subst eRfl
    rfl
  · refine ob8_9 h (fun a st lh lp ns k ts g eRfl hS hl hk0 hk1 hst hlp hts q => ?_); clear h; subst eRfl
    have q1 : ∀ d H', Same H H' → H d = none → H' d = some (.tup [.str "night"]) → Q (.ref d) H' := fun d H' => q .night d H'
    have q2 : ∀ n d H', Same H H' → H d = none → H' d = some (.tup [.str "fetch", .int n]) → Q (.ref d) H' := fun n d H' => q (.fetch n) d H'
    have q3 : ∀ size nights d H', Same H H' → H d = none → H' d = some (.tup [.str "come", .int size, .int nights]) → Q (.ref d) H' := fun x y d H' => q (.come x y) d H'
    have hr1 : Room 1 _ := hr
    refine ⟨_, (pss_cons (ps_set (i := 3) scDB.nd rfl (Or.inl rfl) (pe_call gD.G hr1 (by rfl) gD.m gD.F.kp gD.b .nil pass0 (pa_cons (pv 0) (pa_cons (pv 1) (pa_cons pe_int pa_nil)))))
      (pss_cons (ps_if (pt_cmpR op_eq (pv 3) pe_int (nomark _)) (pss_one (ps_ret (pe_tup (pa_cons pe_str pa_nil)))) pss_nil)
      (pss_cons (ps_if (pt_cmpR op_lt (pv 3) pe_int (nomark _)) (pss_cons (ps_set (i := 4) scDB.nd rfl (Or.inl rfl) (pe_call gD.G hr1 (by rfl) gD.m gD.F.kp gD.b .nil pass0 (pa_cons (pv 0) (pa_cons (pe_op op_add (pv 1) pe_int) (pa_cons (pe_op op_add (pe_callB call_len_seq (by rfl) mlen PySem.boot_len (pa_cons (pe_ix ix_list (pv 2) pe_int (fun _ _ => rfl)) pa_nil)) pe_int) pa_nil)))))
      (pss_cons (ps_if (pt_cmpR op_eq (pe_call gD.G hr1 (by rfl) gD.m gD.F.kp gD.b .nil pass0 (pa_cons (pv 0) (pa_cons (pe_op op_add (pv 1) pe_int) (pa_cons pe_int pa_nil)))) pe_int (nomark _)) (pss_one (ps_set (i := 4) scDB.nd rfl (Or.inl rfl) (pe_ix ix_list (pe_lst (pa_cons (pe_un un_neg pe_int) (pa_cons (pe_op op_add (pe_callB call_len_seq (by rfl) mlen PySem.boot_len (pa_cons (pe_ix ix_list (pv 2) pe_int (fun _ _ => rfl)) pa_nil)) (pe_op op_pow pe_int pe_int)) (pa_cons (pe_un un_neg (pe_op op_pow pe_int pe_int)) pa_nil)))) (pe_call gD.G hr1 (by rfl) gD.m gD.F.kp gD.b .nil pass0 (pa_cons (pv 0) (pa_cons (pe_op op_add (pv 1) pe_int) (pa_cons pe_int pa_nil)))) (fun _ _ => rfl)))) pss_nil)
      (pss_one (ps_ret (pe_tup (pa_cons pe_str (pa_cons (pv 4) pa_nil))))))) pss_nil)
      (pss_cons (ps_set (i := 5) scDB.nd rfl (Or.inl rfl) (pe_op op_add pe_int (pe_call gD.G hr1 (by rfl) gD.m gD.F.kp gD.b .nil pass0 (pa_cons (pv 0) (pa_cons (pe_op op_add (pv 1) pe_int) (pa_cons (pe_ix ix_list (pe_lst (pa_cons pe_int (pa_cons pe_int (pa_cons pe_int pa_nil)))) (pe_call gD.G hr1 (by rfl) gD.m gD.F.kp gD.b .nil pass0 (pa_cons (pv 0) (pa_cons (pe_op op_add (pv 1) pe_int) (pa_cons pe_int pa_nil)))) (fun _ _ => rfl)) pa_nil))))))
      (pss_cons (ps_set (i := 6) scDB.nd rfl (Or.inl rfl) (pe_op op_add pe_int (pe_call gD.G hr1 (by rfl) gD.m gD.F.kp gD.b .nil pass0 (pa_cons (pv 0) (pa_cons (pe_op op_add (pv 1) pe_int) (pa_cons pe_int pa_nil))))))
      (pss_cons (ps_if (pt_cmpR op_eq (pe_call gD.G hr1 (by rfl) gD.m gD.F.kp gD.b .nil pass0 (pa_cons (pv 0) (pa_cons (pe_op op_add (pv 1) pe_int) (pa_cons pe_int pa_nil)))) pe_int (nomark _)) (pss_one (ps_set (i := 5) scDB.nd rfl (Or.inl rfl) (pe_ix ix_list (pe_lst (pa_cons pe_int (pa_cons pe_int (pa_cons (pe_un un_neg pe_int) (pa_cons (pe_op op_pow pe_int pe_int) pa_nil))))) (pe_call gD.G hr1 (by rfl) gD.m gD.F.kp gD.b .nil pass0 (pa_cons (pv 0) (pa_cons (pe_op op_add (pv 1) pe_int) (pa_cons pe_int pa_nil)))) (fun _ _ => rfl)))) pss_nil)
      (pss_cons (ps_if (pt_cmpR op_eq (pe_call gD.G hr1 (by rfl) gD.m gD.F.kp gD.b .nil pass0 (pa_cons (pv 0) (pa_cons (pe_op op_add (pv 1) pe_int) (pa_cons pe_int pa_nil)))) pe_int (nomark _)) (pss_one (ps_set (i := 6) scDB.nd rfl (Or.inl rfl) (pe_ix ix_list (pe_lst (pa_cons pe_int (pa_cons pe_int (pa_cons (pe_un un_neg pe_int) (pa_cons (pe_op op_pow pe_int pe_int) pa_nil))))) (pe_call gD.G hr1 (by rfl) gD.m gD.F.kp gD.b .nil pass0 (pa_cons (pv 0) (pa_cons (pe_op op_add (pv 1) pe_int) (pa_cons pe_int pa_nil)))) (fun _ _ => rfl)))) pss_nil)
      (pss_one (ps_ret (pe_tup (pa_cons pe_str (pa_cons (pv 5) (pa_cons (pv 6) pa_nil))))))))))))), ?_⟩
    try dsimp only [cxOf]
    refine (evv rfl rfl (mk4_8 a ns k 8 rfl ((sameR (H := H)).seq hS) hl (by (first | lia | omega)) (by (first | lia | omega)) (by decide) (by decide) ?_))
    generalize drawn ns k 8 = way
    refine (evr rfl ⟨rfl, evr rfl (ite2 (fun _ => ?_) (fun _ => ?_))⟩)
    · exact ⟨(by show 1 ≤ sizeLine; decide), fun d hd => q1 d _ (same_upd hd) hd upd_same⟩
    · refine (evr rfl (ev2 rfl rfl (evr rfl (ite2 (fun _ => ?_) (fun _ => ?_)))))
      · refine (evv rfl rfl (ev2 rfl rfl (vix (p := st) rfl (SqL.of hst) (atI_nat (j := 1) rfl) (mk2_2 lp _ rfl ⟨.inl (SqL.of hlp), ev2 rfl rfl (mk4_8 a ns (k + 1) _ rfl hS hl (by (first | lia | omega)) (by (first | lia | omega)) (by (first | lia | omega)) (by (first | lia | omega)) ?_)⟩))))
        generalize drawn ns (k + 1) (((ts.length : Nat) : Int) + 1) = pn
        refine (evv rfl rfl (ev2 rfl rfl (mk4_9 a ns (k + 2) 9 rfl ((sameR (H := H)).seq hS) hl (by (first | lia | omega)) (by (first | lia | omega)) (by decide) (by decide) rfl (evr rfl (ite2 (fun _ => ?_) (fun _ => ?_))))))
        · obtain ⟨u, hu, _⟩ := three_at (x := -1) (y := ((ts.length : Nat) : Int) + 10 ^ (9 : Int).toNat) (z := -(10 ^ (9 : Int).toNat)) (drawn_lo ns (k + 3) (many := 3) (by decide)) (drawn_hi ns (k + 3) (many := 3) (by decide))
          refine (evr rfl (evr rfl (ix4 (p := st) (SqL.of hst) (atI_nat (j := 1) rfl) (mk2_2 lp _ rfl ⟨.inl (SqL.of hlp), ev2 rfl rfl ⟨⟨by decide, by decide, by decide⟩, ev2 rfl rfl (ev2 rfl rfl ⟨⟨by decide, by decide, by decide⟩, evr rfl ⟨(by show 3 ≤ sizeLine; decide), fun L hL => ?_⟩⟩)⟩⟩))))
          have s1 := same_upd (o := .lst [.int (-1), .int (((ts.length : Nat) : Int) + 10 ^ (9 : Int).toNat), .int (-(10 ^ (9 : Int).toNat))]) hL
          refine (evv rfl rfl (ev2 rfl rfl (mk4_8 a ns (k + 3) 3 rfl ((s1).seq hS) hl (by (first | lia | omega)) (by (first | lia | omega)) (by decide) (by decide) (ix4 (p := L) (SqL.of upd_same) hu (evr rfl ⟨(by show 2 ≤ sizeLine; decide), fun d hd => ?_⟩)))))
          exact q2 u d _ (s1.trans (same_upd hd)) (s1.free hd) upd_same
        · exact (evr rfl ⟨(by show 2 ≤ sizeLine; decide), fun d hd => q2 pn d _ (same_upd hd) hd upd_same⟩)
      · obtain ⟨top, ht, htop⟩ := three_at (x := 3) (y := 5) (z := 9) (drawn_lo ns (k + 4) (many := 3) (by decide)) (drawn_hi ns (k + 4) (many := 3) (by decide))
        refine (evv rfl rfl (ev2 rfl rfl ⟨(by show 3 ≤ sizeLine; decide), fun L hL => ?_⟩))
        have s1 := same_upd (o := .lst [.int 3, .int 5, .int 9]) hL
        refine (evv rfl rfl (ev2 rfl rfl (mk4_8 a ns (k + 4) 3 rfl ((s1).seq hS) hl (by (first | lia | omega)) (by (first | lia | omega)) (by decide) (by decide) (ix4 (p := L) (SqL.of upd_same) ht (mk4_7 a ns (k + 1) top rfl (s1.seq hS) hl (by (first | lia | omega)) (by (first | lia | omega)) (by (first | lia | omega)) ⟨by (first | lia | omega), ev2 rfl rfl ?_⟩)))))
        generalize upd H L (.lst [.int 3, .int 5, .int 9]) = H1 at s1 ⊢
        refine (evv rfl rfl (ev2 rfl rfl (mk4_7 a ns (k + 2) 9 rfl ((s1).seq hS) hl (by (first | lia | omega)) (by (first | lia | omega)) (by decide) ⟨by decide, ev2 rfl rfl ?_⟩)))
        obtain ⟨u1, hu1, _⟩ := four_at (x := 0) (y := 10) (z := -1) (u := 10 ^ (9 : Int).toNat) (drawn_lo ns (k + 5) (many := 4) (by decide)) (drawn_hi ns (k + 5) (many := 4) (by decide))
        obtain ⟨u2, hu2, _⟩ := four_at (x := 0) (y := 10) (z := -1) (u := 10 ^ (9 : Int).toNat) (drawn_lo ns (k + 7) (many := 4) (by decide)) (drawn_hi ns (k + 7) (many := 4) (by decide))
        refine (evv rfl rfl (ev2 rfl rfl (mk4_9 a ns (k + 3) 12 rfl ((s1).seq hS) hl (by (first | lia | omega)) (by (first | lia | omega)) (by decide) (by decide) rfl (evr rfl (ite2 (fun _ => ?_) (fun _ => (evv rfl rfl (ev2 rfl rfl (mk4_9 a ns (k + 6) 12 rfl ((s1).seq hS) hl (by (first | lia | omega)) (by (first | lia | omega)) (by decide) (by decide) rfl (evr rfl (ite2 (fun _ => (evr rfl (ev2 rfl rfl ⟨⟨by decide, by decide, by decide⟩, (by show 4 ≤ sizeLine; decide), fun L2 hL2 => (evv rfl rfl (ev2 rfl rfl (mk4_8 a ns (k + 7) 4 rfl (((s1).trans (same_upd hL2)).seq hS) hl (by (first | lia | omega)) (by (first | lia | omega)) (by decide) (by decide) (ix4 (p := L2) (SqL.of upd_same) hu2 (evv rfl rfl ⟨(by show 3 ≤ sizeLine; decide), fun d hd => q3 _ _ d _ (((s1).trans (same_upd hL2)).trans (same_upd hd)) (((s1).trans (same_upd hL2)).free hd) upd_same⟩)))))⟩))) (fun _ => (evv rfl rfl ⟨(by show 3 ≤ sizeLine; decide), fun d hd => q3 _ _ d _ ((s1).trans (same_upd hd)) ((s1).free hd) upd_same⟩)))))))))))))
        exact (evr rfl (ev2 rfl rfl ⟨⟨by decide, by decide, by decide⟩, (by show 4 ≤ sizeLine; decide), fun L1 hL1 => (evv rfl rfl (ev2 rfl rfl (mk4_8 a ns (k + 5) 4 rfl ((s1.trans (same_upd hL1)).seq hS) hl (by (first | lia | omega)) (by (first | lia | omega)) (by decide) (by decide) (ix4 (p := L1) (SqL.of upd_same) hu1 (evv rfl rfl (ev2 rfl rfl (mk4_9 a ns (k + 6) 12 rfl ((s1.trans (same_upd hL1)).seq hS) hl (by (first | lia | omega)) (by (first | lia | omega)) (by decide) (by decide) rfl (evr rfl (ite2 (fun _ => (evr rfl (ev2 rfl rfl ⟨⟨by decide, by decide, by decide⟩, (by show 4 ≤ sizeLine; decide), fun L2 hL2 => (evv rfl rfl (ev2 rfl rfl (mk4_8 a ns (k + 7) 4 rfl (((s1.trans (same_upd hL1)).trans (same_upd hL2)).seq hS) hl (by (first | lia | omega)) (by (first | lia | omega)) (by decide) (by decide) (ix4 (p := L2) (SqL.of upd_same) hu2 (evv rfl rfl ⟨(by show 3 ≤ sizeLine; decide), fun d hd => q3 _ _ d _ (((s1.trans (same_upd hL1)).trans (same_upd hL2)).trans (same_upd hd)) (((s1.trans (same_upd hL1)).trans (same_upd hL2)).free hd) upd_same⟩)))))⟩))) (fun _ => (evv rfl rfl ⟨(by show 3 ≤ sizeLine; decide), fun d hd => q3 _ _ d _ ((s1.trans (same_upd hL1)).trans (same_upd hd)) ((s1.trans (same_upd hL1)).free hd) upd_same⟩)))))))))))⟩))
end
end Pw

set_option Elab.async false
set_option linter.all false
set_option maxRecDepth 100000
set_option maxHeartbeats 4000000
namespace Pw
open PySem L2
section
variable {P : Program} {w : World} {K : PySem.W.Frag} {mg : Str → Option Value} {base : Heap}
/-! ### a wall without its parcels' objects -/
def Pc.bare (q : Pc) : Pc := ⟨0, q.num, q.size, q.last⟩
def Wl.bare (w : Wl) : Wl := ⟨w.sz, w.ps.map (Option.map Pc.bare), w.came, w.gone⟩
theorem bare_held (w : Wl) : heldOf w.bare = heldOf w := by
  unfold heldOf Wl.bare
  rw [List.map_map]
  refine List.map_congr_left fun o _ => ?_
  cases o <;> rfl
theorem bare_fits {w : Wl} {size : Int} {i : Nat} : fitsAt w.bare size i ↔ fitsAt w size i := by
  unfold fitsAt Wl.bare
  simp only [List.length_map, List.getElem?_map]
  cases w.ps[i]? with
  | none => exact Iff.rfl
  | some o => cases o <;> exact Iff.rfl
theorem bare_least {w : Wl} {size : Int} {b : Nat} : IsLeast w.bare size b ↔ IsLeast w size b := by
  unfold IsLeast
  constructor
  · rintro ⟨h1, h2⟩; exact ⟨bare_fits.mp h1, fun c hc => h2 c (bare_fits.mpr hc)⟩
  · rintro ⟨h1, h2⟩; exact ⟨bare_fits.mpr h1, fun c hc => h2 c (bare_fits.mp hc)⟩
theorem bare_sent (g : Int) (w : Wl) : sentOf g w.bare.ps = sentOf g w.ps := by
  unfold sentOf Wl.bare
  simp only
  rw [List.filterMap_map]
  congr 1
  funext o
  cases o <;> rfl
theorem bare_comes {w : Wl} {b : Nat} {ad : Addr} {size nights : Int} : (w.comes b ad size nights).bare = w.bare.comes b 0 size nights := by
  unfold Wl.comes Wl.bare
  simp only [List.map_set]
  rfl
theorem bare_gone {w : Wl} {b : Nat} : (w.gone_at b).bare = w.bare.gone_at b := by
  unfold Wl.gone_at Wl.bare
  simp only [List.map_set]
  rfl
theorem bare_night {w : Wl} : w.night.bare = w.bare.night := by
  unfold Wl.night Wl.bare
  simp only [List.map_map]
  congr 1
  refine List.map_congr_left fun o _ => ?_
  cases o with
  | none => rfl
  | some q =>
    show Option.map Pc.bare (if q.last = w.gone + 1 then none else some q) = (if q.last = w.gone + 1 then none else some q.bare)
    split <;> rfl
theorem perm_sorted_eq {xs ys : List Int} (h : xs.Perm ys) (h1 : xs.Pairwise (· ≤ ·)) (h2 : ys.Pairwise (· ≤ ·)) : xs = ys := List.Perm.eq_of_pairwise (fun a b _ _ h1 h2 => Int.le_antisymm h1 h2) h1 h2 h
/-! ### what a deed tells, what it leaves -/
inductive An where
  | num (n : Int)
  | nam (x : Str)
  | row (ms : List Int)
inductive Deed : Wl → DK → An → Wl → Prop
  | bad1 {w : Wl} {size nights : Int} (h : okNum size = false) : Deed w (.come size nights) (.nam "NoSize") w
  | bad2 {w : Wl} {size nights : Int} (h : okNum size = true) (k : okNum nights = false) : Deed w (.come size nights) (.nam "NoNights") w
  | bad3 {w : Wl} {size nights : Int} (h : okNum size = true) (k : okNum nights = true) (n : NoneFits w size) : Deed w (.come size nights) (.nam "NoBox") w
  | put {w : Wl} {size nights : Int} {b : Nat} (h : okNum size = true) (k : okNum nights = true) (n : IsLeast w size b) : Deed w (.come size nights) (.num w.came) (w.comes b 0 size nights)
  | lost {w : Wl} {n : Int} (h : some n ∉ heldOf w) : Deed w (.fetch n) (.nam "NoParcel") w
  | got {w : Wl} {n : Int} {b : Nat} (h : FirstAt (heldOf w) n b) : Deed w (.fetch n) (.num (b : Nat)) (w.gone_at b)
  | eve {w : Wl} {ms : List Int} (h : ms.Perm (sentOf (w.gone + 1) w.ps)) (k : ms.Pairwise (· ≤ ·)) : Deed w .night (.row ms) w.night
/-- the value of an answer; a list is new -/
def AnNew (H H' : Hp) (v : V) : An → Prop
  | .num n => v = .int n
  | .nam x => v = .str x
  | .row ms => ∃ l, v = .ref l ∧ H l = none ∧ H' l = some (.lst (ms.map V.int))
def An.told : An → Prop
  | .nam _ => False
  | _ => True
/-- the class of a refusal -/
def ErrOf (cNS cNN cNB cNP : Addr) (x : Str) (c : Addr) : Prop := (x = "NoSize" ∧ c = cNS) ∨ (x = "NoNights" ∧ c = cNN) ∨ (x = "NoBox" ∧ c = cNB) ∨ (x = "NoParcel" ∧ c = cNP)
def spDone (cW cP cNS cNN cNB cNP : Addr) : Sp := fun vs H Q E => ∃ (p l1 l2 d : Addr) (w w1 : Wl) (dk : DK) (a : An), vs = [.ref p, .ref d] ∧ WallAt cW cP H p l1 l2 w ∧ H d = some (.tup dk.v) ∧ Deed w.bare dk a w1 ∧
  (∀ (v : V) (w' : Wl) (H' : Hp), a.told → AnNew H H' v a → w'.bare = w1 → WallAt cW cP H' p l1 l2 w' → Keeps H H' p l2 → Q v H') ∧ (∀ (x : Str) (c : Addr) (H' : Hp), a = .nam x → ErrOf cNS cNN cNB cNP x c → w1 = w.bare → Same H H' → E (.ref c) none H')
theorem scDn : FnScope ["wall", "deed"] ["wall", "deed"] (defScope s_done) := ⟨rfl, rfl, rfl, by decide +kernel, rfl, by decide +kernel, by decide +kernel⟩
theorem ok_done {f fC fF fN cW cP cNS cNN cNB cNP : Addr} {fd fdC fdF fdN : FuncData} (F : Fun K "done" "done" s_done f fd) (T : WTxt K cW) (dC : Md P w K mg base cW "come" ["self", "size", "nights"] (CXF P w) 4 (spCome cW cP cNS cNN cNB) fC fdC)
    (dF : Md P w K mg base cW "fetch" ["self", "parcel"] (CXF P w) 3 (spFetch cW cP cNP) fF fdF) (dN : Md P w K mg base cW "night" ["self"] CX0 1 (spNight cW cP) fN fdN) : FnOk P w K mg base (CXF P w) 5 f fd ["wall", "deed"] (spDone cW cP cNS cNN cNB cNP) := by
  refine F.okX scDn (fun vs H Q E h => ?_) (fun cdv A outer s H vs Q E hr h => ?_)
  · refine ob8_2 h (fun p l1 l2 d w w1 dk a eRfl _ => ?_); clear h; subst eRfl
    rfl
  · refine ob8_6 h (fun p l1 l2 d w w1 dk a eRfl W hd hD q1 q2 => ?_); clear h; subst eRfl
    have hr1 : Room 1 _ := hr.mono (by decide)
    have hr3 : Room 3 _ := hr.mono (by decide)
    have hr4 : Room 4 _ := hr.mono (by decide)
    refine ⟨_, (pss_cons (ps_if (pt_cmpR op_eq (pe_ix ix_tup (pv 1) pe_int (fun _ _ => rfl)) pe_str (nomark _)) (pss_one (ps_ret (pe_meth (pv 0) T.cl dC.me dC.G hr4 dC.b .nil pass_def (pa_cons (pe_ix ix_tup (pv 1) pe_int (fun _ _ => rfl)) (pa_cons (pe_ix ix_tup (pv 1) pe_int (fun _ _ => rfl)) pa_nil))))) pss_nil)
      (pss_cons (ps_if (pt_cmpR op_eq (pe_ix ix_tup (pv 1) pe_int (fun _ _ => rfl)) pe_str (nomark _)) (pss_one (ps_ret (pe_meth (pv 0) T.cl dF.me dF.G hr3 dF.b .nil pass_def (pa_cons (pe_ix ix_tup (pv 1) pe_int (fun _ _ => rfl)) pa_nil)))) pss_nil)
      (pss_one (ps_ret (pe_meth0 (pv 0) T.cl dN.me dN.G.cxf hr1 dN.b .nil pass_def))))), ?_⟩
    try dsimp only [cxOf]
    obtain ⟨dx, ho⟩ := W.ob
    cases dk with
    | come size nights =>
      refine (vix (p := d) rfl (SqT.of hd) (atI_nat (j := 0) rfl) ⟨rfl, evr rfl (iteTe (by decide +kernel) ?_)⟩)
      refine (evr rfl (mk3_3 p dx _ rfl ho ⟨wf_no _ _ _ _ (by decide +kernel) (by decide +kernel) (by decide +kernel) (by decide +kernel), vix (p := d) rfl (SqT.of hd) (atI_nat (j := 1) rfl) (vix (p := d) rfl (SqT.of hd) (atI_nat (j := 2) rfl) (mk6_6 p l1 l2 w size nights rfl W (fun h1 => ?_) (fun h1 h2 => ?_) (fun h1 h2 h3 H1 s1 => ?_) (fun h1 h2 b hb ad H1 had W1 k1 => ?_)))⟩))
      · cases hD with
        | bad1 h => exact q2 _ _ H rfl (.inl ⟨rfl, rfl⟩) rfl sameR
        | bad2 h k => rw [h1] at h; cases h
        | bad3 h k n => rw [h1] at h; cases h
        | put h k n => rw [h1] at h; cases h
      · cases hD with
        | bad1 h => rw [h1] at h; cases h
        | bad2 h k => exact q2 _ _ H rfl (.inr (.inl ⟨rfl, rfl⟩)) rfl sameR
        | bad3 h k n => rw [h2] at k; cases k
        | put h k n => rw [h2] at k; cases k
      · cases hD with
        | bad1 h => rw [h1] at h; cases h
        | bad2 h k => rw [h2] at k; cases k
        | bad3 h k n => exact q2 _ _ H1 rfl (.inr (.inr (.inl ⟨rfl, rfl⟩))) rfl s1
        | @put _ _ b h k n => exact absurd (bare_least.mp n).1 (h3 b)
      · cases hD with
        | bad1 h => rw [h1] at h; cases h
        | bad2 h k => rw [h2] at k; cases k
        | bad3 h k n => exact absurd (bare_fits.mpr hb.1) (n b)
        | @put _ _ b' h k n =>
          have e : b = b' := least_uniq hb (bare_least.mp n)
          subst e
          exact q1 _ _ H1 True.intro rfl bare_comes W1 k1
    | fetch n =>
      refine (vix (p := d) rfl (SqT.of hd) (atI_nat (j := 0) rfl) ⟨rfl, evr rfl (iteFe (by decide +kernel) ?_)⟩)
      refine (vix (p := d) rfl (SqT.of hd) (atI_nat (j := 0) rfl) ⟨rfl, evr rfl (iteTe (by decide +kernel) ?_)⟩)
      refine (evr rfl (mk3_3 p dx _ rfl ho ⟨wf_no _ _ _ _ (by decide +kernel) (by decide +kernel) (by decide +kernel) (by decide +kernel), vix (p := d) rfl (SqT.of hd) (atI_nat (j := 1) rfl) (mk5_4 p l1 l2 w n rfl W (fun h1 H1 s1 => ?_) (fun b hb H1 W1 k1 => ?_))⟩))
      · cases hD with
        | lost h => exact q2 _ _ H1 rfl (.inr (.inr (.inr ⟨rfl, rfl⟩))) rfl s1
        | @got _ b h => rw [bare_held] at h; exact absurd (List.mem_of_getElem? h.1) h1
      · cases hD with
        | lost h => rw [bare_held] at h; exact absurd (List.mem_of_getElem? hb.1) h
        | @got _ b' h =>
          rw [bare_held] at h
          have e : b = b' := hb.uniq h
          subst e
          exact q1 _ _ H1 True.intro rfl bare_gone W1 k1
    | night =>
      refine (vix (p := d) rfl (SqT.of hd) (atI_nat (j := 0) rfl) ⟨rfl, evr rfl (iteFe (by decide +kernel) ?_)⟩)
      refine (vix (p := d) rfl (SqT.of hd) (atI_nat (j := 0) rfl) ⟨rfl, evr rfl (iteFe (by decide +kernel) ?_)⟩)
      refine (evr rfl (ex3 p dx _ ⟨rfl, ho, wf_no _ _ _ _ (by decide +kernel) (by decide +kernel) (by decide +kernel) (by decide +kernel), ex4 p l1 l2 w ⟨rfl, W, fun ms l H1 hp hs hl hl1 W1 k1 => ?_⟩⟩))
      cases hD with
      | @eve ms' h k =>
        have e : ms = ms' := perm_sorted_eq (hp.trans (by rw [bare_sent] at h; exact h.symm)) hs k
        subst e
        exact q1 _ _ H1 True.intro ⟨l, rfl, hl, hl1⟩ bare_night W1 k1
/-- answer_to(wall, deed) -/
def spAnswer (cW cP : Addr) : Sp := fun vs H Q _ => ∃ (p l1 l2 d : Addr) (w w1 : Wl) (dk : DK) (a : An), vs = [.ref p, .ref d] ∧ WallAt cW cP H p l1 l2 w ∧ H d = some (.tup dk.v) ∧ Deed w.bare dk a w1 ∧
  (∀ (v : V) (w' : Wl) (H' : Hp), AnNew H H' v a → w'.bare = w1 → WallAt cW cP H' p l1 l2 w' → Keeps H H' p l2 → Q v H')
structure Er12 (K : PySem.W.Frag) (cNS cNN cNB cNP : Addr) : Prop where
  s1 : PySem.W.subIn K (.ref cNS) (.ref cNS) = some true
  n0 : PySem.W.subIn K (.ref cNN) (.ref cNS) = some false
  n1 : PySem.W.subIn K (.ref cNN) (.ref cNN) = some true
  b0 : PySem.W.subIn K (.ref cNB) (.ref cNS) = some false
  b1 : PySem.W.subIn K (.ref cNB) (.ref cNN) = some false
  b2 : PySem.W.subIn K (.ref cNB) (.ref cNB) = some true
  p0 : PySem.W.subIn K (.ref cNP) (.ref cNS) = some false
  p1 : PySem.W.subIn K (.ref cNP) (.ref cNN) = some false
  p2 : PySem.W.subIn K (.ref cNP) (.ref cNB) = some false
  p3 : PySem.W.subIn K (.ref cNP) (.ref cNP) = some true
theorem scAn : FnScope ["wall", "deed"] ["wall", "deed"] (defScope s_answer_to) := ⟨rfl, rfl, rfl, by decide +kernel, rfl, by decide +kernel, by decide +kernel⟩
theorem ok_answer {f fD cW cP cNS cNN cNB cNP : Addr} {fd fdD : FuncData} (F : Fun K "answer_to" "answer_to" s_answer_to f fd) (gD : Gd P w K mg base "done" s_done ["wall", "deed"] (CXF P w) 5 (spDone cW cP cNS cNN cNB cNP) fD fdD) (x : Er12 K cNS cNN cNB cNP)
    (hNS : HCls K cNS) (hNN : HCls K cNN) (hNB : HCls K cNB) (hNP : HCls K cNP) (mNoSize : mg "NoSize" = some (.ref cNS)) (mNoNights : mg "NoNights" = some (.ref cNN)) (mNoBox : mg "NoBox" = some (.ref cNB)) (mNoParcel : mg "NoParcel" = some (.ref cNP)) :
    FnOk P w K mg base CX0 6 f fd ["wall", "deed"] (spAnswer cW cP) := by
  refine F.ok scAn (fun vs H Q E h => ?_) (fun cdv A outer s H vs Q E hr h => ?_)
  · refine ob8_2 h (fun p l1 l2 d w w1 dk a eRfl _ => ?_); clear h; subst eRfl
    rfl
  · refine ob8_5 h (fun p l1 l2 d w w1 dk a eRfl W hd hD q => ?_); clear h; subst eRfl
    refine ⟨_, (pss_one (ps_tryN rfl rfl rfl (fun pn xe E hx => (pss_one (ps_ret (pe_callS gD.G hr (by rfl) gD.m gD.F.kp gD.b .nil hx (pa_cons (pv 0) (pa_cons (pv 1) pa_nil)))))) (.cons (by rfl) mNoSize hNS (fun A' pn => (pss_one (ps_ret pe_str))) (by decide) (.cons (by rfl) mNoNights hNN (fun A' pn => (pss_one (ps_ret pe_str))) (by decide) (.cons (by rfl) mNoBox hNB (fun A' pn => (pss_one (ps_ret pe_str))) (by decide) (.cons (by rfl) mNoParcel hNP (fun A' pn => (pss_one (ps_ret pe_str))) (by decide) .nil)))))), ?_⟩
    try dsimp only [cxOf]
    refine (evv rfl rfl (mk8_6 p l1 l2 d w w1 dk a rfl W hd hD (fun v w' H' _ hv hw W' k' => q v w' H' hv hw W' k') (fun y c H' ea hc hw s' => ⟨c, rfl, ?_⟩)))
    subst ea
    have fin : Q (.str y) H' := q (.str y) w H' rfl hw.symm (W.mono s') fun b o e _ _ => s' b o e
    rcases hc with ⟨rfl, rfl⟩ | ⟨rfl, rfl⟩ | ⟨rfl, rfl⟩ | ⟨rfl, rfl⟩
    · exact .inl ⟨x.s1, fin⟩
    · exact .inr ⟨x.n0, .inl ⟨x.n1, fin⟩⟩
    · exact .inr ⟨x.b0, .inr ⟨x.b1, .inl ⟨x.b2, fin⟩⟩⟩
    · exact .inr ⟨x.p0, .inr ⟨x.p1, .inr ⟨x.p2, .inl ⟨x.p3, fin⟩⟩⟩⟩
end
end Pw

set_option Elab.async false
set_option linter.all false
set_option maxRecDepth 100000
set_option maxHeartbeats 4000000
namespace Pw
open PySem L2
section
variable {P : Program} {w : World} {K : PySem.W.Frag} {mg : Str → Option Value} {base : Heap}
/-! ### answers that lie in a list -/
def AnAt (H : Hp) (v : V) : An → Prop
  | .num n => v = .int n
  | .nam x => v = .str x
  | .row ms => ∃ l, v = .ref l ∧ H l = some (.lst (ms.map V.int))
theorem AnNew.at' {H H' : Hp} {v : V} {a : An} (h : AnNew H H' v a) : AnAt H' v a := by
  cases a with
  | num n => exact h
  | nam x => exact h
  | row ms => obtain ⟨l, h1, _, h3⟩ := h; exact ⟨l, h1, h3⟩
theorem AnNew.new {H H' : Hp} {l : Addr} {a : An} (h : AnNew H H' (.ref l) a) : H l = none := by
  cases a with
  | num n => exact nomatch (show V.ref l = V.int n from h)
  | nam x => exact nomatch (show V.ref l = V.str x from h)
  | row ms => obtain ⟨l', h1, h2, _⟩ := h; cases h1; exact h2
theorem AnAt.keep {H H' : Hp} {v : V} {a : An} (h : AnAt H v a) (k : ∀ l xs, v = .ref l → H l = some (.lst xs) → H' l = some (.lst xs)) : AnAt H' v a := by
  cases a with
  | num n => exact h
  | nam x => exact h
  | row ms => obtain ⟨l, h1, h2⟩ := h; exact ⟨l, h1, k l _ h1 h2⟩
theorem AnAt.lst {H : Hp} {l : Addr} {a : An} (h : AnAt H (.ref l) a) : ∃ ms : List Int, a = .row ms ∧ H l = some (.lst (ms.map V.int)) := by
  cases a with
  | num n => exact nomatch (show V.ref l = V.int n from h)
  | nam x => exact nomatch (show V.ref l = V.str x from h)
  | row ms => obtain ⟨l', h1, h2⟩ := h; cases h1; exact ⟨ms, rfl, h2⟩
structure AnsAt (H0 H : Hp) (vs : List V) (as : List An) : Prop where
  len : vs.length = as.length
  on : ∀ (i : Nat) v a, vs[i]? = some v → as[i]? = some a → AnAt H v a
  new : ∀ (i : Nat) l, vs[i]? = some (.ref l) → H0 l = none
  inj : ∀ (i j : Nat) l, vs[i]? = some (.ref l) → vs[j]? = some (.ref l) → i = j
theorem AnsAt.nil {H0 H : Hp} : AnsAt H0 H [] [] := ⟨rfl, (fun i v a h => by cases h), (fun i l h => by cases h), (fun i j l h => by cases h)⟩
theorem AnsAt.there {H0 H : Hp} {vs : List V} {as : List An} (h : AnsAt H0 H vs as) {i : Nat} {l : Addr} (e : vs[i]? = some (.ref l)) : ∃ xs, H l = some (.lst xs) := by
  have hi : i < as.length := by rw [← h.len]; exact (List.getElem?_eq_some_iff.mp e).1
  obtain ⟨ms, _, h2⟩ := (h.on i _ _ e (List.getElem?_eq_getElem hi)).lst
  exact ⟨_, h2⟩
theorem AnsAt.keep {H0 H H' : Hp} {vs : List V} {as : List An} (h : AnsAt H0 H vs as) (k : ∀ (i : Nat) l xs, vs[i]? = some (.ref l) → H l = some (.lst xs) → H' l = some (.lst xs)) : AnsAt H0 H' vs as :=
  ⟨h.len, fun i v a e1 e2 => (h.on i v a e1 e2).keep fun l xs e z => k i l xs (by rw [e1, e]) z, h.new, h.inj⟩
theorem snoc_at {α : Type} {xs : List α} {x y : α} {i : Nat} (h : (xs ++ [x])[i]? = some y) : xs[i]? = some y ∨ (i = xs.length ∧ y = x) := by
  by_cases hi : i < xs.length
  · rw [List.getElem?_append_left hi] at h; exact .inl h
  · have := (List.getElem?_eq_some_iff.mp h).1
    rw [List.length_append, List.length_singleton] at this
    have e : i = xs.length := by (first | lia | omega)
    subst e
    rw [List.getElem?_append_right (Nat.le_refl _), Nat.sub_self] at h
    exact .inr ⟨rfl, (Option.some.inj h).symm⟩
/-- one more -/
theorem AnsAt.snoc {H0 H H1 H2 : Hp} {vs : List V} {as : List An} {v : V} {a : An} (h : AnsAt H0 H vs as) (s0 : ∀ c, H c = none → H0 c = none) (hn : AnNew H H1 v a) (k : ∀ (i : Nat) l xs, vs[i]? = some (.ref l) → H l = some (.lst xs) → H2 l = some (.lst xs)) (k1 : ∀ l xs, v = .ref l → H1 l = some (.lst xs) → H2 l = some (.lst xs)) : AnsAt H0 H2 (vs ++ [v]) (as ++ [a]) := by
  have dis : ∀ (i : Nat) l, vs[i]? = some (.ref l) → v = .ref l → False := fun i l e ev => by
    subst ev
    obtain ⟨xs, hx⟩ := h.there e
    rw [hn.new] at hx; cases hx
  refine ⟨by rw [List.length_append, List.length_append, h.len]; rfl, fun i x b e1 e2 => ?_, fun i l e => ?_, fun i j l e1 e2 => ?_⟩
  · rcases snoc_at e1 with e1 | ⟨rfl, rfl⟩
    · rw [List.getElem?_append_left (by rw [← h.len]; exact (List.getElem?_eq_some_iff.mp e1).1)] at e2
      exact (h.on i x b e1 e2).keep fun l xs e z => k i l xs (by rw [e1, e]) z
    · rw [h.len, List.getElem?_append_right (Nat.le_refl _), Nat.sub_self] at e2
      cases e2
      exact hn.at'.keep k1
  · rcases snoc_at e with e | ⟨rfl, e⟩
    · exact h.new i l e
    · rename_i e'
      rw [← e'] at hn; exact s0 _ hn.new
  · rcases snoc_at e1 with e1 | ⟨i1, e1⟩
    · rcases snoc_at e2 with e2 | ⟨j1, e2⟩
      · exact h.inj i j l e1 e2
      · exact (dis i l e1 e2.symm).elim
    · rcases snoc_at e2 with e2 | ⟨j1, e2⟩
      · exact (dis j l e2 e1.symm).elim
      · (first | lia | omega)
/-! ### a log -/
structure Run (w0 : Wl) (ds : List DK) (as : List An) (ws : Nat → Wl) : Prop where
  zero : ws 0 = w0
  len : ds.length = as.length
  step : ∀ (i : Nat) d a, ds[i]? = some d → as[i]? = some a → Deed (ws i) d a (ws (i + 1))
theorem Run.nil {w0 : Wl} : Run w0 [] [] fun _ => w0 := ⟨rfl, rfl, fun i d a h => by cases h⟩
theorem Run.snoc {w0 w2 : Wl} {ds : List DK} {as : List An} {ws : Nat → Wl} {d : DK} {a : An} (R : Run w0 ds as ws) (h : Deed (ws ds.length) d a w2) : Run w0 (ds ++ [d]) (as ++ [a]) fun i => if i ≤ ds.length then ws i else w2 := by
  refine ⟨by show (if 0 ≤ ds.length then ws 0 else w2) = w0; rw [if_pos (Nat.zero_le _)]; exact R.zero, by rw [List.length_append, List.length_append, R.len]; rfl, fun i x b e1 e2 => ?_⟩
  rcases snoc_at e1 with e1 | ⟨rfl, rfl⟩
  · have hi := (List.getElem?_eq_some_iff.mp e1).1
    rw [List.getElem?_append_left (by rw [← R.len]; exact hi)] at e2
    rw [if_pos (by (first | lia | omega)), if_pos (by (first | lia | omega))]
    exact R.step i x b e1 e2
  · rw [R.len, List.getElem?_append_right (Nat.le_refl _), Nat.sub_self] at e2
    cases e2
    rw [if_pos (Nat.le_refl _), if_neg (by (first | lia | omega))]
    exact h
/-- deeds that lie in a list -/
def DsAt (H : Hp) (ts : List Addr) (ds : List DK) : Prop := ts.length = ds.length ∧ ∀ (i : Nat) t d, ts[i]? = some t → ds[i]? = some d → H t = some (.tup d.v)
theorem DsAt.keep {H H' : Hp} {ts : List Addr} {ds : List DK} (h : DsAt H ts ds) (k : ∀ t xs, H t = some (.tup xs) → H' t = some (.tup xs)) : DsAt H' ts ds := ⟨h.1, fun i t d e1 e2 => k _ _ (h.2 i t d e1 e2)⟩
theorem DsAt.snoc {H : Hp} {ts : List Addr} {ds : List DK} {t : Addr} {d : DK} (h : DsAt H ts ds) (e : H t = some (.tup d.v)) : DsAt H (ts ++ [t]) (ds ++ [d]) := by
  refine ⟨by rw [List.length_append, List.length_append, h.1]; rfl, fun i x b e1 e2 => ?_⟩
  rcases snoc_at e1 with e1 | ⟨rfl, rfl⟩
  · rw [List.getElem?_append_left (by rw [← h.1]; exact (List.getElem?_eq_some_iff.mp e1).1)] at e2
    exact h.2 i x b e1 e2
  · rw [h.1, List.getElem?_append_right (Nat.le_refl _), Nat.sub_self] at e2
    cases e2; exact e
def empt (sz : List Int) : Wl := ⟨sz, List.replicate sz.length none, 0, 0⟩
theorem empt_bare (sz : List Int) : (empt sz).bare = empt sz := by
  unfold empt Wl.bare
  simp only [List.map_replicate]
  rfl
/-- replay(sizes, deeds) -/
def spReplay (K : PySem.W.Frag) (cNW : Addr) : Sp := fun vs H Q E => ∃ (a b : Addr) (sz : List Int) (ts : List Addr) (ds : List DK), vs = [.ref a, .ref b] ∧ SqL K H a (sz.map V.int) ∧ SqL K H b (ts.map V.ref) ∧ DsAt H ts ds ∧ ts.length < 1000 ∧ (okSizes sz = false → ∀ H', Same H H' → E (.ref cNW) none H') ∧
  (okSizes sz = true → ∃ as ws, Run (empt sz) ds as ws ∧ ∀ (D la lh : Addr) (xs : List V) (H' : Hp), Same H H' → H la = none → H lh = none → la ≠ lh → (∀ (j : Nat) l, xs[j]? = some (.ref l) → l ≠ la ∧ l ≠ lh) → H' D = some (.tup [.ref la, .ref lh]) → H' la = some (.lst xs) → H' lh = some (.lst ((heldOf (ws ds.length)).map oV)) → AnsAt H H' xs as → Q (.ref D) H')
theorem scRp : FnScope ["sizes", "deeds", "wall", "answers", "deed"] ["sizes", "deeds"] (defScope s_replay) := ⟨rfl, rfl, rfl, by decide +kernel, rfl, by decide +kernel, by decide +kernel⟩
theorem ok_replay {f fI fA fH cW cP cNW : Addr} {fd fdI fdA fdH : FuncData} (F : Fun K "replay" "replay" s_replay f fd) (T : WTxt K cW) (MW : Mk K cW fI) (bI : Binds K fdI ["self", "sizes"] []) (GI : FnOk P w K mg base (CXF P w) 3 fI fdI ["self", "sizes"] (spInit K cW cP cNW)) (mW : mg "Wall" = some (.ref cW))
    (gA : Gd P w K mg base "answer_to" s_answer_to ["wall", "deed"] CX0 6 (spAnswer cW cP) fA fdA) (dH : Md P w K mg base cW "held" ["self"] CX0 1 (spHeld cW cP) fH fdH) : FnOk P w K mg base (CXF P w) 7 f fd ["sizes", "deeds"] (spReplay K cNW) := by
  refine F.okX scRp (fun vs H Q E h => ?_) (fun cdv A outer s H vs Q E hr h => ?_)
  · refine ob5_2 h (fun a b sz ts ds eRfl _ => ?_); clear h; subst eRfl
    rfl
  · refine ob5_7 h (fun a b sz ts ds eRfl ha hb hD hl q2 q1 => ?_); clear h; subst eRfl
    have hr1 : Room 1 _ := hr.mono (by decide)
    have hr4 : Room 4 _ := hr.mono (by decide)
    have hline : (1000 : Nat) < sizeLine := by decide
    refine ⟨_, (pss_cons (ps_set (i := 2) scRp.nd rfl (Or.inl rfl) (pe_make MW GI hr4 (by rfl) mW bI .nil pass_def (pa_cons (pv 0) pa_nil)))
      (pss_cons (ps_set (i := 3) scRp.nd rfl (Or.inl rfl) (pe_lst pa_nil))
      (pss_cons (ps_for own_def rfl (pi_list (pv 1)) (pg_name (i := 4) scRp.nd rfl (Or.inl rfl)) (pss_one (ps_expr (pe_bm PySem.F.plainAttrs_list PySem.F.slot_list_append PySem.F.type_list_append mt_append (pv 3) (pa_cons (pe_call gA.G.cxf hr (by rfl) gA.m gA.F.kp gA.b .nil pass_def (pa_cons (pv 2) (pa_cons (pv 4) pa_nil))) pa_nil)))))
      (pss_one (ps_ret (pe_tup (pa_cons (pv 3) (pa_cons (pe_meth0 (pv 2) T.cl dH.me dH.G.cxf hr1 dH.b .nil pass_def) pa_nil)))))))), ?_⟩
    try dsimp only [cxOf]
    refine (evr rfl (fun p dp np hdp ndp => (mk4_5 p dp a sz rfl upd_same ((mkS np hdp).seq ha) (fun hok l1 l2 H2 n1 n2 W kp => ⟨rfl, ?_⟩) (fun hno => q2 hno _ (mkS np hdp)))))
    obtain ⟨as, ws, R, q⟩ := q1 hok
    have s2 := mkK np hdp kp
    have n1' : H l1 = none := (mkS (o1 := .own p) (o2 := .ins cW dp []) np hdp).free n1
    have n2' : H l2 = none := (mkS (o1 := .own p) (o2 := .ins cW dp []) np hdp).free n2
    refine ⟨Nat.zero_le _, fun la hla => ?_⟩
    have s3 : Same H2 (upd H2 la (.lst [])) := same_upd hla
    have W3 := W.mono s3
    have e3 : upd H2 la (.lst []) la = some (.lst ([] : List V)) := upd_same
    have nla : H la = none := s2.free hla
    have x1 : la ≠ l1 := Ne.symm (ne_of_none W.s1 hla)
    have x2 : la ≠ l2 := Ne.symm (ne_of_none W.s2 hla)
    have sA := s2.trans s3
    generalize upd H2 la (.lst []) = H3 at s3 W3 e3 sA ⊢
    refine ⟨_, rfl, b, rfl, ⟨_, sA.seq hb⟩, for_list (K := K) (a := b) (xs := ts.map V.ref) (fun i σ Hi => ∃ v4 wi xs, σ = [some (.ref a), some (.ref b), some (.ref p), some (.ref la), v4] ∧ Same H Hi ∧ WallAt cW cP Hi p l1 l2 wi ∧ wi.bare = ws i ∧ Hi la = some (.lst xs) ∧ AnsAt H Hi xs (as.take i) ∧ ∀ (j : Nat) l, xs[j]? = some (.ref l) → l ≠ la ∧ l ≠ l2)
      ⟨none, empt sz, [], rfl, sA, W3, by rw [empt_bare]; exact R.zero.symm, e3, AnsAt.nil, fun j l h => by cases h⟩ (fun i σ Hi _ ⟨_, _, _, _, si, _⟩ => si.seq hb) ?_ ?_⟩
    · rintro i x σ Hi hx ⟨v4, wi, xs, rfl, si, Wi, ei, hla', Ai, ni⟩
      rw [List.getElem?_map] at hx
      obtain ⟨t, ht, rfl⟩ := Option.map_eq_some_iff.mp hx
      have hil := (List.getElem?_eq_some_iff.mp ht).1
      have hid : i < ds.length := by rw [← hD.1]; exact hil
      have hia : i < as.length := by rw [← R.len]; exact hid
      have ed := List.getElem?_eq_getElem hid
      have ea := List.getElem?_eq_getElem hia
      have htd := hD.2 i t _ ht ed
      have hdeed := R.step i _ _ ed ea
      rw [← ei] at hdeed
      refine gN ?_
      refine (evr rfl ⟨.inl ⟨rfl, _, SqL.of hla'⟩, evv rfl rfl ⟨p, l1, l2, t, wi, ws (i + 1), ds[i], as[i], rfl, Wi, si _ _ htd, hdeed, fun v w' H5 hv hw W5 k5 => ?_⟩⟩)
      obtain ⟨dx, ho⟩ := Wi.ob
      have nlap : la ≠ p := ne_of hla' ho (by intro z; cases z)
      have hla5 := k5 _ _ hla' nlap x2
      have xl : xs.length = i := by rw [Ai.len, List.length_take]; (first | lia | omega)
      refine (mk3_5 la _ _ rfl rfl hla5 (by (first | lia | omega)) ?_)
      obtain ⟨dx5, ho5⟩ := W5.ob
      refine ⟨_, w', xs ++ [v], rfl, fun c o e => ?_, W5.put (Ne.symm nlap) (Ne.symm x1) (Ne.symm x2) (fun q hq => ?_), hw, upd_same, ?_, fun j l e => ?_⟩
      · rw [upd_ne (ne_of_none e nla)]
        exact k5 c o (si c o e) (ne_of_none e np) (ne_of_none e n2')
      · obtain ⟨dq, hq'⟩ := W5.pc q hq
        exact ne_of hq' hla5 (by intro z; cases z)
      · rw [List.take_succ_eq_append_getElem hia]
        refine Ai.snoc (fun c h => si.free h) hv (fun j l ys e z => ?_) (fun l ys e z => ?_)
        · rw [upd_ne (ni j l e).1]
          exact k5 l _ z (ne_of z ho (by intro z; cases z)) (ni j l e).2
        · subst e
          have h0 := hv.new
          rw [upd_ne (fun z' => by rw [z', hla'] at h0; cases h0)]; exact z
      · rcases snoc_at e with e | ⟨_, e⟩
        · exact ni j l e
        · subst e
          have h0 := hv.new
          exact ⟨(fun z => by rw [z, hla'] at h0; cases h0), (fun z => by rw [z, Wi.s2] at h0; cases h0)⟩
    · rintro σ Hi ⟨v4, wi, xs, rfl, si, Wi, ei, hla', Ai, ni⟩
      rw [List.length_map, hD.1] at ei Ai
      rw [show as.take ds.length = as by rw [R.len]; exact List.take_length] at Ai
      obtain ⟨dx, ho⟩ := Wi.ob
      refine (evv rfl rfl (ex3 p dx _ ⟨rfl, ho, wf_no _ _ _ _ (by decide +kernel) (by decide +kernel) (by decide +kernel) (by decide +kernel), ex4 p l1 l2 wi ⟨rfl, Wi, fun lh H6 nh s6 eh => ⟨(by show 2 ≤ sizeLine; decide), fun D7 hD7 => ?_⟩⟩⟩))
      have s7 := s6.trans (same_upd (o := .tup [.ref la, .ref lh]) hD7)
      refine q D7 la lh xs _ (si.trans s7) nla (si.free nh) (ne_of_none hla' nh) (fun j l e => ⟨(ni j l e).1, ?_⟩) upd_same (s7 _ _ hla') ?_ (Ai.keep fun j l ys _ z => s7 _ _ z)
      · obtain ⟨ys, hy⟩ := Ai.there e
        exact ne_of_none hy nh
      · rw [same_upd hD7 _ _ eh, ← bare_held wi, ei]
end
end Pw

set_option Elab.async false
set_option linter.all false
set_option maxRecDepth 100000
set_option maxHeartbeats 4000000
namespace Pw
open PySem L2
section
variable {P : Program} {w : World} {K : PySem.W.Frag} {mg : Str → Option Value} {base : Heap}
def Short (as : List An) : Prop := ∀ ms, An.row ms ∈ as → ms.length ≤ 8
/-- _law_alike(found, due) -/
def spAlike (K : PySem.W.Frag) : Sp := fun vs H Q _ => ∃ (la lb : Addr) (xs ys : List V) (as : List An), vs = [.ref la, .ref lb] ∧ H la = some (.lst xs) ∧ H lb = some (.lst ys) ∧ xs.length = as.length ∧ ys.length = as.length ∧ as.length < 1000 ∧ Short as ∧ (∀ (i : Nat) v a, xs[i]? = some v → as[i]? = some a → AnAt H v a) ∧ (∀ (i : Nat) v a, ys[i]? = some v → as[i]? = some a → AnAt H v a) ∧ Q (.bl true) H
structure Kt12 (K : PySem.W.Frag) : Prop where
  ll : PySem.W.kitOne K (.type "list") (.type "list") = some true
  sl : PySem.W.kitOne K (.type "str") (.type "list") = some false
  il : PySem.W.kitOne K (.type "int") (.type "list") = some false
  ss : PySem.W.kitOne K (.type "str") (.type "str") = some true
  is : PySem.W.kitOne K (.type "int") (.type "str") = some false
  tt : PySem.W.kitOne K (.type "tuple") (.type "tuple") = some true
theorem scAk : FnScope ["found", "due", "k"] ["found", "due"] (defScope s__law_alike) := ⟨rfl, rfl, rfl, by decide +kernel, rfl, by decide +kernel, by decide +kernel⟩
theorem v_at {xs : List V} {i : Nat} {v : V} (h : xs[i]? = some v) : atI xs ((0 : Int) + (i : Int)) = some v := by rw [Int.zero_add]; exact atI_nat h
theorem ok_alike {f fW fR : Addr} {fd fdW fdR : FuncData} (F : Fun K "_law_alike" "_law_alike" s__law_alike f fd) (gW : Gd P w K mg base "_law_whole" s__law_whole ["found"] CX0 1 spWhole fW fdW) (gR : Gd P w K mg base "_law_row" s__law_row ["found", "due"] CX0 2 (spRow K) fR fdR)
    (misinstance : mg "isinstance" = none) (mlist : mg "list" = none) (mstr : mg "str" = none) (mlen : mg "len" = none) (mrange : mg "range" = none) (kt : Kt12 K) : FnOk P w K mg base CX0 3 f fd ["found", "due"] (spAlike K) := by
  refine F.ok scAk (fun vs H Q E h => ?_) (fun cdv A outer s H vs Q E hr h => ?_)
  · refine ob5_2 h (fun la lb xs ys as eRfl _ => ?_); clear h; subst eRfl
    rfl
  · refine ob5_10 h (fun la lb xs ys as eRfl hx hy lx ly hk hsh hX hY q => ?_); clear h; subst eRfl
    have hr1 : Room 1 _ := hr.mono (by decide)
    have hr2 : Room 2 _ := hr
    refine ⟨_, (pss_cons (ps_if (pw_or (pt_not (pt_val (pe_callB (call_isiB (K := K) rfl) (by rfl) misinstance PyProof.Rows.boot_isinstance (pa_cons (pv 0) (pa_cons (pe_bltn (v := .ty "list") (by rfl) mlist (by decide +kernel) rfl) pa_nil))))) (pw_or1 (pt_cmpR op_ne (pe_callB call_len_seq (by rfl) mlen PySem.boot_len (pa_cons (pv 0) pa_nil)) (pe_callB call_len_seq (by rfl) mlen PySem.boot_len (pa_cons (pv 1) pa_nil)) (nomark _)))).pt (pss_one (ps_ret pe_bl)) pss_nil)
      (pss_cons (ps_for PassesOwn.never rfl (pi_range1 (by rfl) mrange (pa_cons (pe_callB call_len_seq (by rfl) mlen PySem.boot_len (pa_cons (pv 1) pa_nil)) pa_nil)) (pg_name (i := 2) scAk.nd rfl (Or.inl rfl)) (pss_one (ps_if (pt_val (pe_callB (call_isiB (K := K) rfl) (by rfl) misinstance PyProof.Rows.boot_isinstance (pa_cons (pe_ix ix_list (pv 1) (pv 2) (fun _ _ => rfl)) (pa_cons (pe_bltn (v := .ty "list") (by rfl) mlist (by decide +kernel) rfl) pa_nil)))) (pss_one (ps_if (pt_not (pt_val (pe_call gR.G hr2 (by rfl) gR.m gR.F.kp gR.b .nil pass0 (pa_cons (pe_ix ix_list (pv 0) (pv 2) (fun _ _ => rfl)) (pa_cons (pe_ix ix_list (pv 1) (pv 2) (fun _ _ => rfl)) pa_nil))))) (pss_one (ps_ret pe_bl)) pss_nil)) (pss_one (ps_if (pt_val (pe_callB (call_isiB (K := K) rfl) (by rfl) misinstance PyProof.Rows.boot_isinstance (pa_cons (pe_ix ix_list (pv 1) (pv 2) (fun _ _ => rfl)) (pa_cons (pe_bltn (v := .ty "str") (by rfl) mstr (by decide +kernel) rfl) pa_nil)))) (pss_one (ps_if (pw_or (pt_not (pt_val (pe_callB (call_isiB (K := K) rfl) (by rfl) misinstance PyProof.Rows.boot_isinstance (pa_cons (pe_ix ix_list (pv 0) (pv 2) (fun _ _ => rfl)) (pa_cons (pe_bltn (v := .ty "str") (by rfl) mstr (by decide +kernel) rfl) pa_nil))))) (pw_or1 (pt_cmpR op_ne (pe_ix ix_list (pv 0) (pv 2) (fun _ _ => rfl)) (pe_ix ix_list (pv 1) (pv 2) (fun _ _ => rfl)) (nomark _)))).pt (pss_one (ps_ret pe_bl)) pss_nil)) (pss_one (ps_if (pw_or (pt_not (pt_val (pe_call gW.G hr1 (by rfl) gW.m gW.F.kp gW.b .nil pass0 (pa_cons (pe_ix ix_list (pv 0) (pv 2) (fun _ _ => rfl)) pa_nil)))) (pw_or1 (pt_cmpR op_ne (pe_ix ix_list (pv 0) (pv 2) (fun _ _ => rfl)) (pe_ix ix_list (pv 1) (pv 2) (fun _ _ => rfl)) (nomark _)))).pt (pss_one (ps_ret pe_bl)) pss_nil)))))))
      (pss_one (ps_ret pe_bl)))), ?_⟩
    try dsimp only [cxOf]
    refine (evr rfl (mk4_5 _ _ _ _ rfl (.of (.lst hx)) (by intro z; cases z) kt.ll (evr rfl (iteFe (by rfl) ?_))))
    refine (evr rfl (mk2_2 la _ rfl ⟨.inl (SqL.of hx), evr rfl (mk2_4 lb _ rfl (.inl (SqL.of hy)) rfl (evr rfl (iteFe (by rw [lx, ly, decide_eq_true rfl]; rfl) ?_)))⟩))
    refine (evr rfl (mk2_2 lb _ rfl ⟨.inl (SqL.of hy), evr rfl ⟨(by (first | lia | omega)), (by (first | lia | omega)), ?_⟩⟩))
    have el : ((ys.length : Nat) : Int).toNat = as.length := by (first | lia | omega)
    rw [el]
    refine for_range (n := as.length) (fun i σ H2 => H2 = H ∧ ∃ v, σ = [some (.ref la), some (.ref lb), v]) ⟨rfl, none, rfl⟩ ?_ ?_
    · rintro i σ H2 hi ⟨rfl, v, rfl⟩
      have ex := List.getElem?_eq_getElem (show i < xs.length by (first | lia | omega))
      have ey := List.getElem?_eq_getElem (show i < ys.length by (first | lia | omega))
      have ea := List.getElem?_eq_getElem hi
      generalize xs[i] = x at ex
      generalize ys[i] = y at ey
      have AX := hX i x _ ex ea
      have AY := hY i y _ ey ea
      have hmem := List.getElem_mem hi
      refine gN ?_
      cases e : as[i] with
      | row ms =>
        rw [e] at AX AY hmem
        refine ob1_2 AX (fun l1 eRfl h1 => ?_); clear AX; subst eRfl
        refine ob1_2 AY (fun l2 eRfl h2 => ?_); clear AY; subst eRfl
        have := hsh ms hmem
        refine (evv rfl rfl (ix4 (p := lb) (SqL.of hy) (v_at ey) (mk4_5 _ _ _ _ rfl (.of (.lst h2)) (by intro z; cases z) kt.ll (evr rfl (iteT ?_)))))
        exact (evv rfl rfl (ix4 (p := la) (SqL.of hx) (v_at ex) (evv rfl rfl (ix4 (p := lb) (SqL.of hy) (v_at ey) (mk3_4 l1 l2 ms rfl h1 (SqL.of h2) ⟨by (first | lia | omega), evr rfl (iteF ⟨rfl, _, rfl⟩)⟩)))))
      | nam z =>
        rw [e] at AX AY
        have AX : x = .str z := AX
        have AY : y = .str z := AY
        subst AX AY
        refine (evv rfl rfl (ix4 (p := lb) (SqL.of hy) (v_at ey) (mk4_5 _ _ _ _ rfl (.of (.str z)) (by intro z; cases z) kt.sl (evr rfl (iteF ?_)))))
        refine (evv rfl rfl (ix4 (p := lb) (SqL.of hy) (v_at ey) (mk4_5 _ _ _ _ rfl (.of (.str z)) (by intro z; cases z) kt.ss (evr rfl (iteT ?_)))))
        refine (evv rfl rfl (ix4 (p := la) (SqL.of hx) (v_at ex) (mk4_5 _ _ _ _ rfl (.of (.str z)) (by intro z; cases z) kt.ss (evr rfl (iteFe (by rfl) ?_)))))
        exact (evv rfl rfl (ix4 (p := la) (SqL.of hx) (v_at ex) (evv rfl rfl (ix4 (p := lb) (SqL.of hy) (v_at ey) ⟨rfl, evr rfl (iteFe (by rw [decide_eq_true rfl]; rfl) ⟨rfl, _, rfl⟩)⟩))))
      | num z =>
        rw [e] at AX AY
        have AX : x = .int z := AX
        have AY : y = .int z := AY
        subst AX AY
        refine (evv rfl rfl (ix4 (p := lb) (SqL.of hy) (v_at ey) (mk4_5 _ _ _ _ rfl (.of (.int z)) (by intro z; cases z) kt.il (evr rfl (iteF ?_)))))
        refine (evv rfl rfl (ix4 (p := lb) (SqL.of hy) (v_at ey) (mk4_5 _ _ _ _ rfl (.of (.int z)) (by intro z; cases z) kt.is (evr rfl (iteF ?_)))))
        refine (evv rfl rfl (ix4 (p := la) (SqL.of hx) (v_at ex) ⟨z, rfl, evr rfl (iteFe (by rfl) ?_)⟩))
        exact (evv rfl rfl (ix4 (p := la) (SqL.of hx) (v_at ex) (evv rfl rfl (ix4 (p := lb) (SqL.of hy) (v_at ey) ⟨rfl, evr rfl (iteFe (by rw [decide_eq_true rfl]; rfl) ⟨rfl, _, rfl⟩)⟩))))
    · rintro σ H2 ⟨rfl, v, rfl⟩
      exact q
/-- _law_refused(sizes, deeds) -/
def spRefused (K : PySem.W.Frag) : Sp := fun vs H Q _ => ∃ (a b : Addr) (sz : List Int) (ts : List Addr) (ds : List DK), vs = [.ref a, .ref b] ∧ SqL K H a (sz.map V.int) ∧ SqL K H b (ts.map V.ref) ∧ DsAt H ts ds ∧ ts.length < 1000 ∧ okSizes sz = false ∧ ∀ H', Q (.bl true) H'
theorem scRe : FnScope ["sizes", "deeds", "e"] ["sizes", "deeds"] (defScope s__law_refused) := ⟨rfl, rfl, rfl, by decide +kernel, rfl, by decide +kernel, by decide +kernel⟩
theorem ok_refused {f fR cNW cWE : Addr} {fd fdR : FuncData} (F : Fun K "_law_refused" "_law_refused" s__law_refused f fd) (gR : Gd P w K mg base "replay" s_replay ["sizes", "deeds"] (CXF P w) 7 (spReplay K cNW) fR fdR) (hNW : HCls K cNW) (eN : ECls K cNW) (sN : PySem.W.subIn K (.ref cNW) (.ref cNW) = some true) (kN : PySem.W.kitOne K (.ref cNW) (.ref cWE) = some true)
    (mNoWall : mg "NoWall" = some (.ref cNW)) (mWallError : mg "WallError" = some (.ref cWE)) (misinstance : mg "isinstance" = none) : FnOk P w K mg base CX0 8 f fd ["sizes", "deeds"] (spRefused K) := by
  refine F.ok scRe (fun vs H Q E h => ?_) (fun cdv A outer s H vs Q E hr h => ?_)
  · refine ob5_2 h (fun a b sz ts ds eRfl _ => ?_); clear h; subst eRfl
    rfl
  · refine ob5_7 h (fun a b sz ts ds eRfl ha hb hD hl hno q => ?_); clear h; subst eRfl
    refine ⟨_, (pss_cons (ps_tryAs (i := 2) rfl rfl rfl scRe.nd rfl rfl (by rfl) mNoWall hNW (fun pn xe E hx => (pss_one (ps_expr (pe_callS gR.G hr (by rfl) gR.m gR.F.kp gR.b .nil hx (pa_cons (pv 0) (pa_cons (pv 1) pa_nil)))))) (fun A' pn => (pss_one (ps_ret (pe_callB (call_isiB (K := K) rfl) (by rfl) misinstance PyProof.Rows.boot_isinstance (pa_cons (pv 2) (pa_cons (pe_glob (v := .ref cWE) (by rfl) mWallError rfl) pa_nil)))))))
      (pss_one (ps_ret pe_bl))), ?_⟩
    try dsimp only [cxOf]
    refine (evv rfl rfl (mk5_7 a b sz ts ds rfl ha hb hD hl (fun _ H1 s1 => ⟨cNW, rfl, sN, fun ea hea => ?_⟩) (fun hok => by rw [hno] at hok; cases hok)))
    exact (evr rfl (mk4_5 _ _ _ _ rfl (.exc upd_same eN) (by intro z; cases z) kN (q _)))
/-! ### deeds and rows as data -/
def DK.dat : DK → PyData
  | .night => .tuple [.str "night"]
  | .fetch n => .tuple [.str "fetch", .int n]
  | .come size nights => .tuple [.str "come", .int size, .int nights]
theorem DK.dt {H : Hp} {t : Addr} {d : DK} (h : H t = some (.tup d.v)) : Dt K H (.ref t) d.dat := by
  cases d with
  | night => exact .tup (SqT.of h) (.cons (.str _) .nil)
  | fetch n => exact .tup (SqT.of h) (.cons (.str _) (.cons (.int _) .nil))
  | come size nights => exact .tup (SqT.of h) (.cons (.str _) (.cons (.int _) (.cons (.int _) .nil)))
theorem deeds_dt {H : Hp} : ∀ {ts : List Addr} {ds : List DK}, DsAt H ts ds → Dts K H (ts.map V.ref) (ds.map DK.dat)
  | [], [], _ => .nil
  | [], _ :: _, h => by have := h.1; cases this
  | _ :: _, [], h => by have := h.1; cases this
  | t :: ts, d :: ds, h => .cons (DK.dt (h.2 0 t d rfl rfl)) (deeds_dt ⟨by simpa using h.1, fun i a b e1 e2 => h.2 (i + 1) a b e1 e2⟩)
theorem dk_can (d : DK) : d.dat.canLay0 = true := by
  cases d with
  | night => decide +kernel
  | fetch n => show PyData.canLayAll0 [.str "fetch", .int n] = true; rw [PyData.canLayAll0, PyData.canLayAll0, PyData.canLayAll0, PyData.canLay0, PyData.canLay0]; decide +kernel
  | come size nights => show PyData.canLayAll0 [.str "come", .int size, .int nights] = true; rw [PyData.canLayAll0, PyData.canLayAll0, PyData.canLayAll0, PyData.canLayAll0, PyData.canLay0, PyData.canLay0, PyData.canLay0]; decide +kernel
theorem can_all {xs : List PyData} (h : ∀ x ∈ xs, x.canLay0 = true) : PyData.canLayAll0 xs = true := by
  induction xs with
  | nil => rw [PyData.canLayAll0]
  | cons x xs ih => rw [PyData.canLayAll0, h x (List.mem_cons_self ..), ih fun y hy => h y (List.mem_cons_of_mem _ hy)]; rfl
theorem depth_all {xs : List PyData} {n : Nat} (h : ∀ x ∈ xs, x.depth ≤ n) : PyData.depthAll xs ≤ n := by
  induction xs with
  | nil => rw [PyData.depthAll]; exact Nat.zero_le _
  | cons x xs ih =>
    rw [PyData.depthAll]
    exact Nat.max_le.mpr ⟨h x (List.mem_cons_self ..), ih fun y hy => h y (List.mem_cons_of_mem _ hy)⟩
theorem int_depth (i : Int) : (PyData.int i).depth = 0 := by rw [PyData.depth]
theorem ints_depth (ns : List Int) : (PyData.list (ns.map PyData.int)).depth ≤ 1 := by
  rw [PyData.depth]
  have := depth_all (xs := ns.map PyData.int) (n := 0) fun x hx => by
    obtain ⟨i, _, rfl⟩ := List.mem_map.mp hx
    rw [int_depth]; exact Nat.le_refl _
  (first | lia | omega)
theorem dk_depth (d : DK) : d.dat.depth ≤ 1 := by
  have hs : ∀ x : Str, (PyData.str x).depth = 0 := fun x => by rw [PyData.depth]
  cases d with
  | night =>
    show (PyData.tuple _).depth ≤ 1
    rw [PyData.depth, PyData.depthAll, PyData.depthAll, hs]; decide
  | fetch n =>
    show (PyData.tuple _).depth ≤ 1
    rw [PyData.depth, PyData.depthAll, PyData.depthAll, PyData.depthAll, hs, int_depth]; decide
  | come size nights =>
    show (PyData.tuple _).depth ≤ 1
    rw [PyData.depth, PyData.depthAll, PyData.depthAll, PyData.depthAll, PyData.depthAll, hs, int_depth, int_depth]; decide
/-- [sizes, deeds] -/
def handD (sz : List Int) (ds : List DK) : PyData := .list [.list (sz.map PyData.int), .list (ds.map DK.dat)]
theorem hand_can (sz : List Int) (ds : List DK) : (handD sz ds).canLay0 = true := by
  unfold handD
  rw [PyData.canLay0]
  refine can_all fun x hx => ?_
  rcases List.mem_cons.mp hx with rfl | hx
  · rw [PyData.canLay0]; exact can_ints _
  · rw [List.mem_singleton.mp hx, PyData.canLay0]
    exact can_all fun y hy => by obtain ⟨d, _, rfl⟩ := List.mem_map.mp hy; exact dk_can d
theorem hand_depth (sz : List Int) (ds : List DK) : (handD sz ds).depth ≤ 60 := by
  unfold handD
  rw [PyData.depth]
  have := depth_all (xs := [.list (sz.map PyData.int), .list (ds.map DK.dat)]) (n := 2) fun x hx => by
    rcases List.mem_cons.mp hx with rfl | hx
    · have := ints_depth sz; (first | lia | omega)
    · rw [List.mem_singleton.mp hx, PyData.depth]
      have := depth_all (xs := ds.map DK.dat) (n := 1) fun y hy => by obtain ⟨d, _, rfl⟩ := List.mem_map.mp hy; exact dk_depth d
      (first | lia | omega)
  (first | lia | omega)
theorem hand_dt {H : Hp} {l a b : Addr} {sz : List Int} {ts : List Addr} {ds : List DK} (hl : H l = some (.lst [.ref a, .ref b])) (ha : H a = some (.lst (sz.map V.int))) (hb : H b = some (.lst (ts.map V.ref))) (hD : DsAt H ts ds) : Dt K H (.ref l) (handD sz ds) :=
  .lst (SqL.of hl) (.cons (.lst (SqL.of ha) (dts_ints sz)) (.cons (.lst (SqL.of hb) (deeds_dt hD)) .nil))
theorem hand_eq (sz : List Int) (ds : List DK) : PyData.eqv (handD sz ds) (handD sz ds) = true := PySem.SeqAt.eqv_refl _ (hand_can sz ds)
/-- rows, each with a 9 more -/
def RowsAt (H : Hp) (zs : List V) (rows : List (List Int)) : Prop := zs.length = rows.length ∧ ∀ (i : Nat) z ms, zs[i]? = some z → rows[i]? = some ms → ∃ l, z = .ref l ∧ H l = some (.lst ((ms ++ [9]).map V.int))
def rowsD (rows : List (List Int)) : PyData := .list (rows.map fun ms => .list ((ms ++ [9]).map PyData.int))
theorem rows_dts {H : Hp} : ∀ {zs : List V} {rows : List (List Int)}, RowsAt H zs rows → Dts K H zs (rows.map fun ms => .list ((ms ++ [9]).map PyData.int))
  | [], [], _ => .nil
  | [], _ :: _, h => by have := h.1; cases this
  | _ :: _, [], h => by have := h.1; cases this
  | z :: zs, ms :: rows, h => by
    obtain ⟨l, rfl, hl⟩ := h.2 0 z ms rfl rfl
    exact .cons (.lst (SqL.of hl) (dts_ints _)) (rows_dts ⟨by simpa using h.1, fun i a b e1 e2 => h.2 (i + 1) a b e1 e2⟩)
theorem rows_can (rows : List (List Int)) : (rowsD rows).canLay0 = true := by
  unfold rowsD
  rw [PyData.canLay0]
  exact can_all fun y hy => by obtain ⟨d, _, rfl⟩ := List.mem_map.mp hy; rw [PyData.canLay0]; exact can_ints _
theorem rows_depth (rows : List (List Int)) : (rowsD rows).depth ≤ 60 := by
  unfold rowsD
  rw [PyData.depth]
  have := depth_all (xs := rows.map fun ms => PyData.list ((ms ++ [9]).map PyData.int)) (n := 1) fun y hy => by obtain ⟨d, _, rfl⟩ := List.mem_map.mp hy; exact ints_depth _
  (first | lia | omega)
def An.rows (a : An) : Option (List Int) := match a with
  | .row ms => some ms
  | _ => none
end
end Pw

set_option Elab.async false
set_option linter.all false
set_option maxRecDepth 100000
set_option maxHeartbeats 4000000
namespace Pw
open PySem L2
section
variable {P : Program} {w : World} {K : PySem.W.Frag} {mg : Str → Option Value} {base : Heap}
theorem fits_come {w : Wl} {prs : List (Int × Int)} {b : Nat} {ad : Addr} {size nights : Int} (h : Fits w prs) (hb : b < w.ps.length) (hc : w.came = (prs.length : Nat)) (hn : 1 ≤ nights) : Fits (w.comes b ad size nights) (prs ++ [(size, w.gone + nights)]) := by
  intro i q hq
  have hq : (w.ps.set b (some ⟨ad, w.came, size, w.gone + nights⟩))[i]? = some (some q) := hq
  by_cases e : i = b
  · subst e
    rw [List.getElem?_set_self hb] at hq
    cases hq
    refine ⟨by show 0 ≤ w.came; (first | lia | omega), ?_, by show w.gone < w.gone + nights; (first | lia | omega)⟩
    show (prs ++ [(size, w.gone + nights)])[w.came.toNat]? = _
    rw [hc, Int.toNat_natCast, List.getElem?_append_right (Nat.le_refl _), Nat.sub_self]; rfl
  · rw [List.getElem?_set_ne (fun z => e z.symm)] at hq
    obtain ⟨h0, h1, h2⟩ := h i q hq
    exact ⟨h0, by rw [List.getElem?_append_left (List.getElem?_eq_some_iff.mp h1).1]; exact h1, h2⟩
theorem fits_sub {w w' : Wl} {prs : List (Int × Int)} (h : Fits w prs) (hg : w'.gone = w.gone) (hs : ∀ q, some q ∈ w'.ps → some q ∈ w.ps) : Fits w' prs := by
  intro i q hq
  obtain ⟨j, hj, ej⟩ := List.mem_iff_getElem.mp (hs q (List.mem_of_getElem? hq))
  obtain ⟨h0, h1, h2⟩ := h j q (by rw [List.getElem?_eq_getElem hj, ej])
  exact ⟨h0, h1, by rw [hg]; exact h2⟩
theorem fits_night {w : Wl} {prs : List (Int × Int)} (h : Fits w prs) : Fits w.night prs := by
  intro i q hq
  have hq : (w.ps.map (goesBack (w.gone + 1)))[i]? = some (some q) := hq
  rw [List.getElem?_map] at hq
  cases e : w.ps[i]? with
  | none => rw [e] at hq; cases hq
  | some o =>
    rw [e] at hq
    have hq : goesBack (w.gone + 1) o = some q := Option.some.inj hq
    cases o with
    | none => cases hq
    | some r =>
      unfold goesBack at hq
      simp only at hq
      split at hq
      · cases hq
      · cases hq
        obtain ⟨h0, h1, h2⟩ := h i q e
        exact ⟨h0, h1, by show w.gone + 1 < q.last; (first | lia | omega)⟩
/-- what stands while the log is made; tds: the deeds as they lie, ds: those that are answered -/
structure I12 (K : PySem.W.Frag) (HH H0 H : Hp) (lz st lh lp ld lu : Addr) (Z : List Int) (w : Wl) (ts : List Addr) (prs : List (Int × Int)) (tds : List Addr) (dl ds : List DK) (ys : List V) (as : List An) (ws : Nat → Wl) : Prop where
  s : Same HH H
  dom : ∀ c, H c = none → H0 c = none
  z : H lz = some (.lst (Z.map V.int))
  S : StAt K H st lh lp (heldOf w) ts prs w.gone
  d : H ld = some (.lst (tds.map V.ref))
  D : DsAt H tds dl
  u : H lu = some (.lst ys)
  A : AnsAt H0 H ys as
  R : Run (empt Z) ds as ws
  e : ws ds.length = w
  sh : Short as
  fit : Fits w prs
  c : (ts.length : Int) = w.came
  sz : w.sz = Z
  pl : w.ps.length = Z.length
  few : Z.length ≤ 8
  a1 : HH st = none
  a2 : HH lh = none
  a3 : HH lp = none
  a4 : HH ld = none
  a5 : HH lu = none
  z1 : lz ≠ st
  z2 : lz ≠ lh
  z3 : lz ≠ lp
  z4 : lz ≠ ld
  z5 : lz ≠ lu
  d1 : ld ≠ st
  d2 : ld ≠ lh
  d3 : ld ≠ lp
  d5 : ld ≠ lu
  u1 : lu ≠ st
  u2 : lu ≠ lh
  u3 : lu ≠ lp
  x : ∀ c, H0 c = none → c ≠ lz ∧ c ≠ st ∧ c ≠ lh ∧ c ≠ lp ∧ c ≠ ld ∧ c ≠ lu
section
variable {HH H0 H H1 H2 H3 : Hp} {lz st lh lp ld lu d : Addr} {Z : List Int} {wl w2 : Wl} {ts ts2 : List Addr} {prs prs2 : List (Int × Int)} {tds : List Addr} {dl ds : List DK} {ys : List V} {as : List An} {ws : Nat → Wl} {dk : DK} {v : V} {a : An}
theorem upd_dom {o u : HO} {b c : Addr} (hb : H b = some u) (h : upd H b o c = none) : H c = none := by
  by_cases e : c = b
  · rw [e, upd_same] at h; cases h
  · rw [upd_ne e] at h; exact h
theorem StAt.put {hs : List (Option Int)} {g : Int} {c : Addr} {xs ys : List V} (S : StAt K H st lh lp hs ts prs g) (n1 : c ≠ st) (n2 : c ≠ lh) (n3 : c ≠ lp) (hc : H c = some (.lst xs)) : StAt K (upd H c (.lst ys)) st lh lp hs ts prs g :=
  ⟨by rw [upd_ne (Ne.symm n1)]; exact S.hst, by rw [upd_ne (Ne.symm n2)]; exact S.hh, by rw [upd_ne (Ne.symm n3)]; exact S.hp, PairsAt.put S.pa hc, S.n1, S.n2, S.n3⟩
theorem I12.same (I : I12 K HH H0 H lz st lh lp ld lu Z wl ts prs tds dl ds ys as ws) (s : Same H H1) : I12 K HH H0 H1 lz st lh lp ld lu Z wl ts prs tds dl ds ys as ws :=
  { I with s := I.s.trans s, dom := fun c h => I.dom c (s.free h), z := s _ _ I.z, S := I.S.mono s, d := s _ _ I.d, D := I.D.keep fun t xs e => s _ _ e, u := s _ _ I.u, A := I.A.keep fun i l xs _ e => s _ _ e }
/-- a deed is written down -/
theorem I12.add (I : I12 K HH H0 H lz st lh lp ld lu Z wl ts prs tds dl ds ys as ws) (hd : H d = some (.tup dk.v)) : I12 K HH H0 (upd H ld (.lst (tds.map V.ref ++ [.ref d]))) lz st lh lp ld lu Z wl ts prs (tds ++ [d]) (dl ++ [dk]) ds ys as ws := by
  have gt : ∀ {c : Addr} {xs : List V}, H c = some (.tup xs) → upd H ld (.lst (tds.map V.ref ++ [.ref d])) c = some (.tup xs) := fun e => by rw [upd_ne (ne_of e I.d (by intro z; cases z))]; exact e
  exact { I with s := same_put I.s I.a4, dom := fun c h => I.dom c (upd_dom I.d h), z := by rw [upd_ne I.z4]; exact I.z, S := I.S.put I.d1 I.d2 I.d3 I.d, d := by rw [upd_same, List.map_append]; rfl, D := (I.D.keep (H' := upd H ld (.lst (tds.map V.ref ++ [.ref d]))) fun t xs e => gt e).snoc (gt hd), u := by rw [upd_ne (Ne.symm I.d5)]; exact I.u, A := I.A.keep fun i l xs e h => by rw [upd_ne (I.x l (I.A.new i l e)).2.2.2.2.1]; exact h }
theorem deed_short {w w2 : Wl} {dk : DK} {a : An} (h : Deed w dk a w2) (hl : w.ps.length ≤ 8) : ∀ ms, a = .row ms → ms.length ≤ 8 := fun ms e => by
  cases h with
  | eve hp hs =>
    cases e
    rw [hp.length_eq]
    exact Nat.le_trans (List.length_filterMap_le _ _) hl
  | _ => cases e
/-- it is answered -/
theorem I12.due (I : I12 K HH H0 H lz st lh lp ld lu Z wl ts prs tds (ds ++ [dk]) ds ys as ws) (k3 : Keep3 H H3 st lh lp) (S3 : StAt K H3 st lh lp (heldOf w2) ts2 prs2 w2.gone) (hv : AnNew H H3 v a) (hD : Deed wl dk a w2) (hf : Fits w2 prs2) (hc : (ts2.length : Int) = w2.came) (hsz : w2.sz = Z) (hpl : w2.ps.length = Z.length) :
    H3 lu = some (.lst ys) ∧ I12 K HH H0 (upd H3 lu (.lst (ys ++ [v]))) lz st lh lp ld lu Z w2 ts2 prs2 tds (ds ++ [dk]) (ds ++ [dk]) (ys ++ [v]) (as ++ [a]) (fun i => if i ≤ ds.length then ws i else w2) := by
  have hu3 : H3 lu = some (.lst ys) := k3 _ _ I.u I.u1 I.u2 I.u3
  have tup3 : ∀ {c : Addr} {xs : List V}, H c = some (.tup xs) → H3 c = some (.tup xs) := fun e => k3 _ _ e (ne_of e I.S.hst (by intro z; cases z)) (ne_of e I.S.hh (by intro z; cases z)) (ne_of e I.S.hp (by intro z; cases z))
  have sH : Same HH H3 := fun c o e => k3 c o (I.s c o e) (ne_of_none e I.a1) (ne_of_none e I.a2) (ne_of_none e I.a3)
  have dm : ∀ c, H3 c = none → H c = none := fun c h => by
    cases e : H c with
    | none => rfl
    | some o =>
      have n1 : c ≠ st := fun z => by rw [z, S3.hst] at h; cases h
      have n2 : c ≠ lh := fun z => by rw [z, S3.hh] at h; cases h
      have n3 : c ≠ lp := fun z => by rw [z, S3.hp] at h; cases h
      rw [k3 c o e n1 n2 n3] at h; cases h
  have hdl : ws ds.length = wl := I.e
  refine ⟨hu3, { I with s := same_put sH I.a5, dom := fun c h => I.dom c (dm c (upd_dom hu3 h)), z := by rw [upd_ne I.z5]; exact k3 _ _ I.z I.z1 I.z2 I.z3, S := S3.put I.u1 I.u2 I.u3 hu3, d := by rw [upd_ne I.d5]; exact k3 _ _ I.d I.d1 I.d2 I.d3, D := I.D.keep fun t xs e => by rw [upd_ne (ne_of (tup3 e) hu3 (by intro z; cases z))]; exact tup3 e, u := upd_same, A := I.A.snoc I.dom hv (fun i l xs e h => ?_) (fun l xs e h => ?_), R := I.R.snoc (by rw [hdl]; exact hD), e := ?_, sh := fun ms hm => ?_, fit := hf, c := hc, sz := hsz, pl := hpl }⟩
  · have n := I.x l (I.A.new i l e)
    rw [upd_ne n.2.2.2.2.2]; exact k3 l _ h n.2.1 n.2.2.1 n.2.2.2.1
  · subst e
    have h0 := hv.new
    rw [upd_ne (fun z => by rw [z, I.u] at h0; cases h0)]; exact h
  · show (if (ds ++ [dk]).length ≤ ds.length then ws (ds ++ [dk]).length else w2) = w2
    rw [if_neg (by rw [List.length_append, List.length_singleton]; (first | lia | omega))]
  · rcases List.mem_append.mp hm with hm | hm
    · exact I.sh ms hm
    · exact deed_short hD (by have := I.pl; have := I.few; (first | lia | omega)) ms (List.mem_singleton.mp hm).symm
end
abbrev N12 : List Str := ["script", "sizes", "state", "deeds", "due", "k", "deed", "handed", "lap", "found", "one"]
theorem scLaw : FnScope N12 ["script"] (defScope s_law) := ⟨rfl, rfl, rfl, by decide +kernel, rfl, by decide +kernel, by decide +kernel⟩
theorem num_1 {z : Int} (h : okNum z = true) : 1 ≤ z := by unfold okNum at h; rw [Bool.and_eq_true] at h; exact of_decide_eq_true h.1
/-- one deed more -/
theorem log_body {f fDB fDu : Addr} {fdDB fdDu : FuncData} {cdv : Value} {A : Around} {outer : List Env} {s : Shared} {HH : Hp} {E : XK} (hr : Room 2 (A.deeper (PyProof.Rows.envOfC "law" (defScope s_law) s.heap.objs.size f cdv)))
    (gDB : Gd P w K mg base "_law_deed_by" s__law_deed_by ["script", "k", "state"] CX0 2 (spDeedBy K) fDB fdDB) (gDu : Gd P w K mg base "_law_due" s__law_due ["sizes", "state", "deed"] CX0 2 (spDue K) fDu fdDu) :
    ∃ t, PSs (cxOf CX0 P w K mg base N12 "law" (defScope s_law) f cdv A outer s HH E).nox ((forBody ((defBody s_law).getD 4 (.Pass ⟨0, 0, 0, 0⟩))).drop 0) t ∧
      ∀ (Dn : Ends) (sc lz st lh lp ld lu : Addr) (ns : List Int) (k : Nat) (v6 v7 v8 v9 v10 : Option V) (H0 H : Hp) (Z : List Int) (wl : Wl) (ts : List Addr) (prs : List (Int × Int)) (tds : List Addr) (ds : List DK) (ys : List V) (as : List An) (ws : Nat → Wl), SqL K HH sc (ns.map V.int) → ns.length ≤ 63 → k < 100 →
        I12 K HH H0 H lz st lh lp ld lu Z wl ts prs tds ds ds ys as ws → ts.length ≤ k → tds.length = k →
        (∀ (v6 : Option V) (H' : Hp) (wl : Wl) (ts : List Addr) (prs : List (Int × Int)) (tds : List Addr) (ds : List DK) (ys : List V) (as : List An) (ws : Nat → Wl), I12 K HH H0 H' lz st lh lp ld lu Z wl ts prs tds ds ds ys as ws → ts.length ≤ k + 1 → tds.length = k + 1 → Dn.nx [some (.ref sc), some (.ref lz), some (.ref st), some (.ref ld), some (.ref lu), some (.int (0 + (k : Int))), v6, v7, v8, v9, v10] H') →
        t Dn [some (.ref sc), some (.ref lz), some (.ref st), some (.ref ld), some (.ref lu), some (.int (0 + (k : Int))), v6, v7, v8, v9, v10] H := by
  have hline : (1000 : Nat) < sizeLine := by decide
  refine ⟨_, (pss_cons (ps_set (i := 6) scLaw.nd rfl (Or.inl rfl) (pe_call gDB.G hr (by rfl) gDB.m gDB.F.kp gDB.b .nil pass0 (pa_cons (pv 0) (pa_cons (pe_op op_add pe_int (pe_op op_mul pe_int (pv 5))) (pa_cons (pv 2) pa_nil)))))
      (pss_cons (ps_expr (pe_bm PySem.F.plainAttrs_list PySem.F.slot_list_append PySem.F.type_list_append mt_append (pv 3) (pa_cons (pv 6) pa_nil)))
      (pss_one (ps_expr (pe_bm PySem.F.plainAttrs_list PySem.F.slot_list_append PySem.F.type_list_append mt_append (pv 4) (pa_cons (pe_call gDu.G hr (by rfl) gDu.m gDu.F.kp gDu.b .nil pass0 (pa_cons (pv 1) (pa_cons (pv 2) (pa_cons (pv 6) pa_nil)))) pa_nil)))))), ?_⟩
  try dsimp only [cxOf]
  intro Dn sc lz st lh lp ld lu ns k v6 v7 v8 v9 v10 H0 H Z wl ts prs tds ds ys as ws hS hl hk I htl hdl q
  have ci : CMul 10 (0 + (k : Int)) := .inl ⟨by decide, by decide⟩
  refine (evv rfl rfl (ev2 rfl rfl ⟨ci, ev2 rfl rfl (evr rfl ⟨sc, st, lh, lp, ns, 30 + 10 * (0 + (k : Int)), mk2_9 (ts.map V.ref) wl.gone rfl (I.s.seq hS) hl (by (first | lia | omega)) (by (first | lia | omega)) I.S.hst I.S.hp (by rw [List.length_map]; (first | lia | omega)) (fun dk d H1 s1 nd hd => ?_)⟩)⟩))
  have I1 := I.same s1
  refine (evr rfl ⟨.inl ⟨rfl, _, SqL.of I1.d⟩, evr rfl (mk3_5 ld _ _ rfl rfl I1.d (by rw [List.length_map]; (first | lia | omega)) ?_)⟩)
  have I2 := I1.add hd
  have hd2 : upd H1 ld (.lst (tds.map V.ref ++ [.ref d])) d = some (.tup dk.v) := by rw [upd_ne (ne_of hd I1.d (by intro z; cases z))]; exact hd
  generalize upd H1 ld (.lst (tds.map V.ref ++ [.ref d])) = H2 at I2 hd2 ⊢
  have hpl := I.pl
  have hfew := I.few
  have hyl : ys.length = k := by rw [I2.A.len, ← I2.R.len, ← I.D.1]; exact hdl
  have pl2 : wl.ps.length = wl.sz.length := by rw [I.sz]; exact hpl
  have prl := I.S.pa.1
  have fin : ∀ (v : V) (a : An) (H3 : Hp) (w2 : Wl) (ts2 : List Addr) (prs2 : List (Int × Int)), Keep3 H2 H3 st lh lp → StAt K H3 st lh lp (heldOf w2) ts2 prs2 w2.gone → AnNew H2 H3 v a → Deed wl dk a w2 → Fits w2 prs2 → (ts2.length : Int) = w2.came → w2.sz = Z → w2.ps.length = Z.length → ts2.length ≤ k + 1 →
      ∃ l xs y, V.ref lu = .ref l ∧ [v] = [y] ∧ H3 l = some (.lst xs) ∧ xs.length < sizeLine ∧ Dn.nx [some (.ref sc), some (.ref lz), some (.ref st), some (.ref ld), some (.ref lu), some (.int (0 + (k : Int))), some (.ref d), v7, v8, v9, v10] (upd H3 l (.lst (xs ++ [y]))) := fun v a H3 w2 ts2 prs2 k3 S3 hv hD hf hc hsz hp ht2 => by
    obtain ⟨hu3, I3⟩ := I2.due k3 S3 hv hD hf hc hsz hp
    exact (mk3_5 lu _ _ rfl rfl hu3 (by (first | lia | omega)) (q _ _ w2 ts2 prs2 (tds ++ [d]) (ds ++ [dk]) (ys ++ [v]) (as ++ [a]) _ I3 ht2 (by rw [List.length_append, hdl]; rfl)))
  have stay : ∀ {H3 : Hp}, Same H2 H3 → Keep3 H2 H3 st lh lp := fun s3 c o e _ _ _ => s3 c o e
  refine (evr rfl ⟨.inl ⟨rfl, _, SqL.of I2.u⟩, ev3r rfl rfl rfl (mk8_9 lz st d lh lp wl ts prs rfl (by rw [I.sz]; exact SqL.of I2.z) pl2 (by rw [I.sz]; exact hfew) I2.S I.c (by (first | lia | omega)) I.fit ?_)⟩)
  cases dk with
  | come size nights =>
    refine .inl ⟨size, nights, hd2, fun h1 => ?_, fun h1 h2 => ?_, fun h1 h2 h3 H3 s3 => ?_, fun h1 h2 b hb t H3 ht S3 k3 => ?_⟩
    · exact fin _ (.nam "NoSize") H2 wl ts prs (stay sameR) I2.S rfl (.bad1 h1) I.fit I.c I.sz hpl (by (first | lia | omega))
    · exact fin _ (.nam "NoNights") H2 wl ts prs (stay sameR) I2.S rfl (.bad2 h1 h2) I.fit I.c I.sz hpl (by (first | lia | omega))
    · exact fin _ (.nam "NoBox") H3 wl ts prs (stay s3) (I2.S.mono s3) rfl (.bad3 h1 h2 h3) I.fit I.c I.sz hpl (by (first | lia | omega))
    · refine fin _ (.num wl.came) H3 (wl.comes b 0 size nights) (ts ++ [t]) (prs ++ [(size, wl.gone + nights)]) (fun c o e _ n2 n3 => k3 c o e n2 n3) ?_ rfl (.put h1 h2 hb) (fits_come I.fit hb.1.1 (by rw [← I.c, prl]) (num_1 h2)) ?_ I.sz ?_ (by rw [List.length_append, List.length_singleton]; (first | lia | omega))
      · have e : heldOf (wl.comes b 0 size nights) = (heldOf wl).set b (some wl.came) := heldOf_set wl b ⟨0, wl.came, size, wl.gone + nights⟩ _ _
        rw [e]; exact S3
      · show ((ts ++ [t]).length : Int) = wl.came + 1
        rw [List.length_append, List.length_singleton, ← I.c]; (first | lia | omega)
      · show (wl.ps.set b _).length = Z.length
        rw [List.length_set]; exact hpl
  | fetch n =>
    refine .inr (.inl ⟨n, hd2, fun h1 => ?_, fun b hb H3 S3 k3 => ?_⟩)
    · exact fin _ (.nam "NoParcel") H2 wl ts prs (stay sameR) I2.S rfl (.lost h1) I.fit I.c I.sz hpl (by (first | lia | omega))
    · refine fin _ (.num (b : Nat)) H3 (wl.gone_at b) ts prs (fun c o e _ n2 n3 => k3 c o e n2 n3) ?_ rfl (.got hb) (fits_sub I.fit rfl fun q hq => ?_) I.c I.sz ?_ (by (first | lia | omega))
      · have e : heldOf (wl.gone_at b) = (heldOf wl).set b none := by unfold heldOf Wl.gone_at; rw [List.map_set]; rfl
        rw [e]; exact S3
      · have hq : some q ∈ wl.ps.set b none := hq
        rcases List.mem_or_eq_of_mem_set hq with h | h
        · exact h
        · cases h
      · show (wl.ps.set b _).length = Z.length
        rw [List.length_set]; exact hpl
  | night =>
    refine .inr (.inr ⟨hd2, fun ms l H3 hp hs hl hl3 _ S3 k3 => ?_⟩)
    refine fin _ (.row ms) H3 wl.night ts prs k3 S3 ⟨l, rfl, hl, hl3⟩ (.eve hp hs) (fits_night I.fit) I.c I.sz ?_ (by (first | lia | omega))
    show (wl.ps.map _).length = Z.length
    rw [List.length_map]; exact hpl
end
end Pw

set_option Elab.async false
set_option linter.all false
set_option maxRecDepth 100000
set_option maxHeartbeats 4000000
namespace Pw
open PySem L2
section
variable {P : Program} {w : World} {K : PySem.W.Frag} {mg : Str → Option Value} {base : Heap}
/-- of what kind an answer is -/
def Kd (v : V) : An → Prop
  | .num n => v = .int n
  | .nam x => v = .str x
  | .row _ => ∃ l, v = .ref l
theorem AnAt.kd {H : Hp} {v : V} {a : An} (h : AnAt H v a) : Kd v a := by
  cases a with
  | num n => exact h
  | nam x => exact h
  | row ms => obtain ⟨l, h1, _⟩ := h; exact ⟨l, h1⟩
theorem RowsAt.keep {H H' : Hp} {zs : List V} {rows : List (List Int)} (h : RowsAt H zs rows) (k : ∀ (i : Nat) l xs, zs[i]? = some (.ref l) → H l = some (.lst xs) → H' l = some (.lst xs)) : RowsAt H' zs rows :=
  ⟨h.1, fun i z ms e1 e2 => by obtain ⟨l, rfl, hl⟩ := h.2 i z ms e1 e2; exact ⟨l, rfl, k i l _ e1 hl⟩⟩
theorem RowsAt.snoc {H : Hp} {zs : List V} {rows : List (List Int)} {l : Addr} {ms : List Int} (h : RowsAt H zs rows) (hl : H l = some (.lst ((ms ++ [9]).map V.int))) : RowsAt H (zs ++ [.ref l]) (rows ++ [ms]) := by
  refine ⟨by rw [List.length_append, List.length_append, h.1]; rfl, fun i z m e1 e2 => ?_⟩
  rcases snoc_at e1 with e1 | ⟨rfl, rfl⟩
  · rw [List.getElem?_append_left (by rw [← h.1]; exact (List.getElem?_eq_some_iff.mp e1).1)] at e2
    exact h.2 i z m e1 e2
  · rw [h.1, List.getElem?_append_right (Nat.le_refl _), Nat.sub_self] at e2
    cases e2; exact ⟨l, rfl, hl⟩
theorem rows_take {as : List An} {i : Nat} {a : An} (h : as[i]? = some a) : (as.take (i + 1)).filterMap An.rows = (as.take i).filterMap An.rows ++ (match a.rows with | some ms => [ms] | none => []) := by
  obtain ⟨hi, e⟩ := List.getElem?_eq_some_iff.mp h
  rw [List.take_succ_eq_append_getElem hi, List.filterMap_append, e]
  cases a <;> rfl
theorem neRows (rows : List (List Int)) : (if true = true then !PyData.eqv (rowsD rows) (rowsD rows) else PyData.eqv (rowsD rows) (rowsD rows)) = false := by rw [if_pos rfl, PySem.SeqAt.eqv_refl _ (rows_can rows)]; rfl
theorem lap_tail {f : Addr} {cdv : Value} {A : Around} {outer : List Env} {s : Shared} {HH : Hp} {E : XK} (hu : (A.deeper (PyProof.Rows.envOfC "law" (defScope s_law) s.heap.objs.size f cdv)).units + 60 < cLine) (misinstance : mg "isinstance" = none) (mlist : mg "list" = none) (kt : Kt12 K) :
    ∃ t, PSs (cxOf CX0 P w K mg base N12 "law" (defScope s_law) f cdv A outer s HH E).nox ((forBody ((defBody s_law).getD 7 (.Pass ⟨0, 0, 0, 0⟩))).drop 4) t ∧
      ∀ (Dn : Ends) (v0 v1 v2 v3 v5 v6 v7 v8 v10 : Option V) (lu D la lf : Addr) (xs ys hs : List V) (as : List An) (H9 H : Hp), Same H9 H → H9 la = none → H9 lf = none → la ≠ lf → H D = some (.tup [.ref la, .ref lf]) → H la = some (.lst xs) → H lf = some (.lst hs) → hs.length < 100 → H lu = some (.lst ys) → xs.length = as.length → ys.length = as.length → as.length < 1000 → Short as →
        (∀ (i : Nat) v a, xs[i]? = some v → as[i]? = some a → Kd v a) → (∀ (i : Nat) l ms, xs[i]? = some (.ref l) → as[i]? = some (.row ms) → H l = some (.lst ((ms ++ [9]).map V.int))) → (∀ (i : Nat) v a, ys[i]? = some v → as[i]? = some a → AnAt H v a) →
        (∀ H', Same H9 H' → Dn.nx [v0, v1, v2, v3, some (.ref lu), v5, v6, v7, v8, some (.ref D), v10] H') →
        t Dn [v0, v1, v2, v3, some (.ref lu), v5, v6, v7, v8, some (.ref D), v10] H := by
  have hline : (10000 : Nat) < sizeLine := by decide
  refine ⟨_, (pss_cons (ps_if (pt_cmpR (op_neD hu) (pe_comp (N := ["one"]) (src := [none]) rfl (blk (osc := defScope s_law) (oN := ["script", "sizes", "state", "deeds", "due", "k", "deed", "handed", "lap", "found", "one"]) rfl rfl (by decide +kernel)) (pi_list (pe_ix ix_tup (pv 9) pe_int (fun _ _ => rfl))) (fun C s₀ H₀ ex pn => pg_name (i := 0) (show (["one"] : List Str).Nodup by decide +kernel) rfl (Or.inl rfl) (Or.inr rfl)) (fun C s₀ H₀ ex pn => pts_one (pt_val (pe_callB (call_isiB (K := K) rfl) (by rfl) misinstance PyProof.Rows.boot_isinstance (pa_cons (pv 0) (pa_cons (pe_bltn (v := .ty "list") (by rfl) mlist (by decide +kernel) rfl) pa_nil))))) (fun C s₀ H₀ ex pn => (pv 0))) (pe_comp (N := ["one"]) (src := [none]) rfl (blk (osc := defScope s_law) (oN := ["script", "sizes", "state", "deeds", "due", "k", "deed", "handed", "lap", "found", "one"]) rfl rfl (by decide +kernel)) (pi_list (pv 4)) (fun C s₀ H₀ ex pn => pg_name (i := 0) (show (["one"] : List Str).Nodup by decide +kernel) rfl (Or.inl rfl) (Or.inr rfl)) (fun C s₀ H₀ ex pn => pts_one (pt_val (pe_callB (call_isiB (K := K) rfl) (by rfl) misinstance PyProof.Rows.boot_isinstance (pa_cons (pv 0) (pa_cons (pe_bltn (v := .ty "list") (by rfl) mlist (by decide +kernel) rfl) pa_nil))))) (fun C s₀ H₀ ex pn => (pe_op op_cat (pv 0) (pe_lst (pa_cons pe_int pa_nil))))) (nomark _)) (pss_one (ps_ret pe_bl)) pss_nil)
      (pss_cons (ps_expr (pe_bm0 PySem.F.plainAttrs_list PySem.F.slot_list_clear PySem.F.type_list_clear mt_clear (pe_ix ix_tup (pv 9) pe_int (fun _ _ => rfl))))
      (pss_one (ps_expr (pe_bm PySem.F.plainAttrs_list PySem.F.slot_list_append PySem.F.type_list_append mt_append (pe_ix ix_tup (pv 9) pe_int (fun _ _ => rfl)) (pa_cons pe_int pa_nil)))))), ?_⟩
  try dsimp only [cxOf]
  intro Dn v0 v1 v2 v3 v5 v6 v7 v8 v10 lu D la lf xs ys hs as H9 H s9 nla nlf nlal hD hla hlf h100 hlu lx ly l1000 hsh kx hrow hY q
  refine (vix (p := D) rfl (SqT.of (hD)) (atI_nat (j := 0) rfl) ⟨la, rfl, ⟨_, SqL.of hla⟩, fun c1 hc1 => ?_⟩)
  obtain ⟨P1, h1⟩ := abs3 (fun i σ1 H2 => ∃ (u : Option V) (zs : List V), σ1 = [u] ∧ H2 = upd H c1 (.lst zs) ∧ RowsAt H zs ((as.take i).filterMap An.rows) ∧ zs.length ≤ i)
  refine comp_list (K := K) (a := la) (src := [none]) (xs := xs) P1 ((h1 _ _ _).mpr ⟨none, [], rfl, rfl, ⟨rfl, fun i z ms h => by cases h⟩, Nat.zero_le _⟩) ?_ ?_ ?_
  · intro i σ1 H2 _ hP
    have hP := (h1 _ _ _).mp hP
    obtain ⟨_, _, _, rfl, _⟩ := hP
    exact SqL.of (same_upd hc1 _ _ hla)
  · intro i x σ1 H2 hx hP
    have hP := (h1 _ _ _).mp hP
    obtain ⟨u, zs, rfl, rfl, hR, hz⟩ := hP
    have hia : i < as.length := by rw [← lx]; exact (List.getElem?_eq_some_iff.mp hx).1
    have ea := List.getElem?_eq_getElem hia
    have kd := kx i x _ hx ea
    refine gN ?_
    have no : (as[i]).rows = none → P1 (i + 1) [some x] (upd H c1 (.lst zs)) := fun hn => (h1 _ _ _).mpr ⟨_, zs, rfl, rfl, by rw [rows_take ea, hn, List.append_nil]; exact hR, by (first | lia | omega)⟩
    cases e : as[i] with
    | num n =>
      rw [e] at kd no
      have kd : x = .int n := kd
      subst kd
      exact (evr rfl (mk4_5 _ _ _ _ rfl (.of (.int n)) (by intro z; cases z) kt.il (evr rfl (iteF (no rfl)))))
    | nam y =>
      rw [e] at kd no
      have kd : x = .str y := kd
      subst kd
      exact (evr rfl (mk4_5 _ _ _ _ rfl (.of (.str y)) (by intro z; cases z) kt.sl (evr rfl (iteF (no rfl)))))
    | row ms =>
      rw [e] at kd ea
      obtain ⟨l, rfl⟩ := kd
      have hl := hrow i l ms hx ea
      refine (evr rfl (mk4_5 _ _ _ _ rfl (.of (.lst (same_upd hc1 _ _ hl))) (by intro z; cases z) kt.ll (evr rfl (iteT (evr rfl ⟨_, upd_same, by (first | lia | omega), (h1 _ _ _).mpr ⟨_, zs ++ [.ref l], rfl, by rw [upd_upd], ?_, by rw [List.length_append, List.length_singleton]; (first | lia | omega)⟩⟩)))))
      rw [rows_take ea]; exact hR.snoc hl
  · intro σ1 H2 hP
    have hP := (h1 _ _ _).mp hP
    obtain ⟨u, zs, rfl, rfl, hR, hz⟩ := hP
    rw [lx, List.take_length] at hR
    have s2 : Same H (upd H c1 (.lst zs)) := same_upd hc1
    have ec1 : upd H c1 (.lst zs) c1 = some (.lst zs) := upd_same
    generalize upd H c1 (.lst zs) = H2 at s2 ec1 ⊢
    have R2 := hR.keep (H' := H2) fun i l xs _ h => s2 _ _ h
    refine (evr rfl ⟨lu, rfl, ⟨_, SqL.of (s2 _ _ hlu)⟩, fun c2 hc2 => ?_⟩)
    obtain ⟨P2, h2⟩ := abs3 (fun i σ1 H3 => ∃ (u : Option V) (ws : List V), σ1 = [u] ∧ Same H2 H3 ∧ H3 c2 = some (.lst ws) ∧ RowsAt H3 ws ((as.take i).filterMap An.rows) ∧ ws.length ≤ i ∧ ∀ (j : Nat) l, ws[j]? = some (.ref l) → l ≠ c2)
    refine comp_list (K := K) (a := lu) (src := [none]) (xs := ys) P2 ((h2 _ _ _).mpr ⟨none, [], rfl, same_upd hc2, upd_same, ⟨rfl, fun i z ms h => by cases h⟩, Nat.zero_le _, fun j l h => by cases h⟩) ?_ ?_ ?_
    · intro i σ1 H3 _ hP
      have hP := (h2 _ _ _).mp hP
      obtain ⟨_, _, _, s3, _⟩ := hP
      exact SqL.of (s3 _ _ (s2 _ _ hlu))
    · intro i y σ1 H3 hy hP
      have hP := (h2 _ _ _).mp hP
      refine ob2_6 hP (fun u ws eRfl s3 ec2 hW hw nw => ?_); clear hP; subst eRfl
      have hia : i < as.length := by rw [← ly]; exact (List.getElem?_eq_some_iff.mp hy).1
      have ea := List.getElem?_eq_getElem hia
      have AY := hY i y _ hy ea
      refine gN ?_
      have no : (as[i]).rows = none → P2 (i + 1) [some y] H3 := fun hn => (h2 _ _ _).mpr ⟨_, ws, rfl, s3, ec2, by rw [rows_take ea, hn, List.append_nil]; exact hW, by (first | lia | omega), nw⟩
      cases e : as[i] with
      | num n =>
        rw [e] at AY no
        have kd : y = .int n := AY
        subst kd
        exact (evr rfl (mk4_5 _ _ _ _ rfl (.of (.int n)) (by intro z; cases z) kt.il (evr rfl (iteF (no rfl)))))
      | nam z =>
        rw [e] at AY no
        have kd : y = .str z := AY
        subst kd
        exact (evr rfl (mk4_5 _ _ _ _ rfl (.of (.str z)) (by intro z; cases z) kt.sl (evr rfl (iteF (no rfl)))))
      | row ms =>
        rw [e] at AY ea
        refine ob1_2 AY (fun l eRfl hl => ?_); clear AY; subst eRfl
        have hl3 := s3 _ _ (s2 _ _ hl)
        have hm8 := hsh ms (List.mem_of_getElem? ea)
        refine (evr rfl (mk4_5 _ _ _ _ rfl (.of (.lst hl3)) (by intro z; cases z) kt.ll (evr rfl (iteT (evr rfl ⟨(by show 1 ≤ sizeLine; decide), fun n1 hn1 => (mk4_6 l n1 _ _ rfl rfl (same_upd hn1 _ _ hl3) upd_same (by rw [List.length_map, List.length_singleton]; (first | lia | omega)) (fun n2 hn2 => ?_))⟩)))))
        have s4 : Same H3 (upd (upd H3 n1 (.lst [.int 9])) n2 (.lst (ms.map V.int ++ [.int 9]))) := (same_upd hn1).trans (same_upd hn2)
        have e4 : upd (upd H3 n1 (.lst [.int 9])) n2 (.lst (ms.map V.int ++ [.int 9])) n2 = some (.lst ((ms ++ [9]).map V.int)) := by rw [upd_same, List.map_append]; rfl
        have n2c : n2 ≠ c2 := Ne.symm (ne_of_none (same_upd hn1 _ _ ec2) hn2)
        generalize upd (upd H3 n1 (.lst [.int 9])) n2 (.lst (ms.map V.int ++ [.int 9])) = H4 at s4 e4 ⊢
        refine ⟨_, s4 _ _ ec2, by (first | lia | omega), (h2 _ _ _).mpr ⟨_, ws ++ [.ref n2], rfl, same_put (s3.trans s4) hc2, upd_same, ?_, by rw [List.length_append, List.length_singleton]; (first | lia | omega), fun j l' e' => ?_⟩⟩
        · rw [rows_take ea]
          exact RowsAt.snoc (hW.keep fun j l' zs e' h => by rw [upd_ne (nw j l' e')]; exact s4 _ _ h) (by rw [upd_ne n2c]; exact e4)
        · rcases snoc_at e' with e' | ⟨_, e'⟩
          · exact nw j l' e'
          · cases e'; exact n2c
    · intro σ1 H3 hP
      have hP := (h2 _ _ _).mp hP
      refine ob2_6 hP (fun u ws eRfl s3 ec2 hW hw nw => ?_); clear hP; subst eRfl
      rw [ly, List.take_length] at hW
      have sA := s2.trans s3
      refine ⟨rowsD (as.filterMap An.rows), rowsD (as.filterMap An.rows), .lst (SqL.of (s3 _ _ ec1)) (rows_dts (R2.keep fun i l zs _ h => s3 _ _ h)), .lst (SqL.of ec2) (rows_dts hW), rows_can _, rows_can _, by rw [Nat.min_self]; exact rows_depth _, evr rfl (iteFe (neRows _) ?_)⟩
      have hla3 := sA _ _ hla
      have hlf3 := sA _ _ hlf
      refine (vix (p := D) rfl (SqT.of (sA _ _ hD)) (atI_nat (j := 0) rfl) ⟨.inl ⟨rfl, _, SqL.of hla3⟩, mk2_4 la _ rfl rfl hla3 ?_⟩)
      have hD4 : upd H3 la (.lst []) D = some (.tup [.ref la, .ref lf]) := by rw [upd_ne (ne_of (sA _ _ hD) hla3 (by intro z; cases z))]; exact sA _ _ hD
      have hlf4 : upd H3 la (.lst []) lf = some (.lst hs) := by rw [upd_ne (Ne.symm nlal)]; exact hlf3
      refine (vix (p := D) rfl (SqT.of (hD4)) (atI_nat (j := 1) rfl) ⟨.inl ⟨rfl, _, SqL.of hlf4⟩, mk3_5 lf _ _ rfl rfl hlf4 (by (first | lia | omega)) ?_⟩)
      exact q _ (same_put (same_put (s9.trans sA) nla) nlf)
end
end Pw

set_option Elab.async false
set_option linter.all false
set_option maxRecDepth 100000
set_option maxHeartbeats 4000000
namespace Pw
open PySem L2
section
variable {P : Program} {w : World} {K : PySem.W.Frag} {mg : Str → Option Value} {base : Heap}
/-- what is not written any more -/
structure J12 (K : PySem.W.Frag) (H : Hp) (lz st lh lp ld lu hd h1 h2 : Addr) (Z : List Int) (w : Wl) (tds : List Addr) (ds : List DK) (ys : List V) (as : List An) (ws : Nat → Wl) : Prop where
  z : H lz = some (.lst (Z.map V.int))
  st : H st = some (.lst [.ref lh, .ref lp, .int w.gone])
  hh : H lh = some (.lst ((heldOf w).map oV))
  d : H ld = some (.lst (tds.map V.ref))
  D : DsAt H tds ds
  u : H lu = some (.lst ys)
  ly : ys.length = as.length
  Y : ∀ (i : Nat) v a, ys[i]? = some v → as[i]? = some a → AnAt H v a
  hd : H hd = some (.lst [.ref h1, .ref h2])
  h1 : H h1 = some (.lst (Z.map V.int))
  h2 : H h2 = some (.lst (tds.map V.ref))
  R : Run (empt Z) ds as ws
  e : ws ds.length = w
  sh : Short as
  ok : okSizes Z = true
  few : w.ps.length ≤ 8
  len : tds.length < 1000
theorem J12.same {H H' : Hp} {lz st lh lp ld lu hd h1 h2 : Addr} {Z : List Int} {wl : Wl} {tds : List Addr} {ds : List DK} {ys : List V} {as : List An} {ws : Nat → Wl} (J : J12 K H lz st lh lp ld lu hd h1 h2 Z wl tds ds ys as ws) (s : Same H H') : J12 K H' lz st lh lp ld lu hd h1 h2 Z wl tds ds ys as ws :=
  { J with z := s _ _ J.z, st := s _ _ J.st, hh := s _ _ J.hh, d := s _ _ J.d, D := J.D.keep fun t xs e => s _ _ e, u := s _ _ J.u, Y := fun i v a e1 e2 => (J.Y i v a e1 e2).keep fun l xs _ e => s _ _ e, hd := s _ _ J.hd, h1 := s _ _ J.h1, h2 := s _ _ J.h2 }
theorem neHand (sz : List Int) (ds : List DK) : (if true = true then !PyData.eqv (handD sz ds) (handD sz ds) else PyData.eqv (handD sz ds) (handD sz ds)) = false := by rw [if_pos rfl, hand_eq]; rfl
/-- once through the log -/
theorem lap_body {f fR fA fH cNW : Addr} {fdR fdA fdH : FuncData} {cdv : Value} {A : Around} {outer : List Env} {s : Shared} {HH : Hp} {E : XK} (hr7 : Room 8 (A.deeper (PyProof.Rows.envOfC "law" (defScope s_law) s.heap.objs.size f cdv)))
    (gR : Gd P w K mg base "replay" s_replay ["sizes", "deeds"] (CXF P w) 7 (spReplay K cNW) fR fdR) (gA : Gd P w K mg base "_law_alike" s__law_alike ["found", "due"] CX0 3 (spAlike K) fA fdA) (gH : Gd P w K mg base "_law_held" s__law_held ["found", "due"] CX0 2 (spHeldEq K) fH fdH) (misinstance : mg "isinstance" = none) (mlen : mg "len" = none) (mtuple : mg "tuple" = none) (mlist : mg "list" = none) (kt : Kt12 K) :
    ∃ t, PSs (cxOf CX0 P w K mg base N12 "law" (defScope s_law) f cdv A outer s HH E).nox ((forBody ((defBody s_law).getD 7 (.Pass ⟨0, 0, 0, 0⟩))).drop 0) t ∧
      ∀ (Dn : Ends) (v0 v5 v6 v8 v9 v10 : Option V) (lz st lh lp ld lu hd h1 h2 : Addr) (Z : List Int) (wl : Wl) (tds : List Addr) (ds : List DK) (ys : List V) (as : List An) (ws : Nat → Wl) (H9 H : Hp), J12 K H9 lz st lh lp ld lu hd h1 h2 Z wl tds ds ys as ws → Same H9 H →
        (∀ (v9 v10 : Option V) (H' : Hp), Same H9 H' → Dn.nx [v0, some (.ref lz), some (.ref st), some (.ref ld), some (.ref lu), v5, v6, some (.ref hd), v8, v9, v10] H') →
        t Dn [v0, some (.ref lz), some (.ref st), some (.ref ld), some (.ref lu), v5, v6, some (.ref hd), v8, v9, v10] H := by
  have hu : (A.deeper (PyProof.Rows.envOfC "law" (defScope s_law) s.heap.objs.size f cdv)).units + 60 < cLine := by have := hr7.units; (first | lia | omega)
  have hr3 : Room 3 _ := hr7.mono (by decide)
  have hr2 : Room 2 _ := hr7.mono (by decide)
  have hr7 : Room 7 _ := hr7.mono (by decide)
  have hline : (10000 : Nat) < sizeLine := by decide
  obtain ⟨tl, ptl, hq⟩ := lap_tail (f := f) (cdv := cdv) (A := A) (outer := outer) (s := s) (HH := HH) (E := E) (K := K) (P := P) (w := w) (mg := mg) (base := base) hu misinstance mlist kt
  refine ⟨_, (pss_cons (ps_set (i := 9) scLaw.nd rfl (Or.inl rfl) (pe_call gR.G hr7 (by rfl) gR.m gR.F.kp gR.b .nil passF (pa_cons (pe_ix ix_list (pv 7) pe_int (fun _ _ => rfl)) (pa_cons (pe_ix ix_list (pv 7) pe_int (fun _ _ => rfl)) pa_nil))))
      (pss_cons (ps_if (pw_or (pt_not (pt_val (pe_callB (call_isiB (K := K) rfl) (by rfl) misinstance PyProof.Rows.boot_isinstance (pa_cons (pv 9) (pa_cons (pe_bltn (v := .ty "tuple") (by rfl) mtuple (by decide +kernel) rfl) pa_nil))))) (pw_or (pt_cmpR op_ne (pe_callB call_len_seq (by rfl) mlen PySem.boot_len (pa_cons (pv 9) pa_nil)) pe_int (nomark _)) (pw_or1 (pt_cmpR (op_neD hu) (pv 7) (pe_lst (pa_cons (pv 1) (pa_cons (pv 3) pa_nil))) (nomark _))))).pt (pss_one (ps_ret pe_bl)) pss_nil)
      (pss_cons (ps_if (pw_or (pt_not (pt_val (pe_call gA.G hr3 (by rfl) gA.m gA.F.kp gA.b .nil pass0 (pa_cons (pe_ix ix_tup (pv 9) pe_int (fun _ _ => rfl)) (pa_cons (pv 4) pa_nil))))) (pw_or1 (pt_not (pt_val (pe_call gH.G hr2 (by rfl) gH.m gH.F.kp gH.b .nil pass0 (pa_cons (pe_ix ix_tup (pv 9) pe_int (fun _ _ => rfl)) (pa_cons (pe_ix ix_list (pv 2) pe_int (fun _ _ => rfl)) pa_nil))))))).pt (pss_one (ps_ret pe_bl)) pss_nil)
      (pss_cons (ps_for PassesOwn.never rfl (pi_list (pe_ix ix_tup (pv 9) pe_int (fun _ _ => rfl))) (pg_name (i := 10) scLaw.nd rfl (Or.inl rfl)) (pss_one (ps_if (pt_val (pe_callB (call_isiB (K := K) rfl) (by rfl) misinstance PyProof.Rows.boot_isinstance (pa_cons (pv 10) (pa_cons (pe_bltn (v := .ty "list") (by rfl) mlist (by decide +kernel) rfl) pa_nil)))) (pss_one (ps_expr (pe_bm PySem.F.plainAttrs_list PySem.F.slot_list_append PySem.F.type_list_append mt_append (pv 10) (pa_cons pe_int pa_nil)))) pss_nil)))
      ptl)))), ?_⟩
  try dsimp only [cxOf]
  intro Dn v0 v5 v6 v8 v9 v10 lz st lh lp ld lu hd h1 h2 Z wl tds ds ys as ws H9 H J9 s9 q
  have J := J9.same s9
  have la9 : as.length < 1000 := by rw [← J.R.len, ← J.D.1]; exact J.len
  refine (vix (p := hd) rfl (SqL.of J.hd) (atI_nat (j := 0) rfl) (vix (p := hd) rfl (SqL.of J.hd) (atI_nat (j := 1) rfl) (mk5_7 h1 h2 Z tds ds rfl (SqL.of J.h1) (SqL.of J.h2) J.D J.len (fun z => by rw [J.ok] at z; cases z) (fun _ => ⟨as, ws, J.R, fun D la lf xs H1 s1 nla nlf nlal nrows hD hla hlf A1 => ?_⟩))))
  have J1 := J.same s1
  refine (evr rfl (mk4_5 _ _ _ _ rfl (.of (.tup hD)) (by intro z; cases z) kt.tt (evr rfl (iteFe (by rfl) ?_))))
  refine (evr rfl (mk2_4 D _ rfl (.inr (SqT.of hD)) rfl (evr rfl (iteFe (by show (!decide (V.int 2 = V.int 2)) = false; decide +kernel) ?_))))
  refine (ev3r rfl rfl rfl ⟨(by show 2 ≤ sizeLine; decide), fun lq hlq => ?_⟩)
  have s2 : Same H1 (upd H1 lq (.lst [.ref lz, .ref ld])) := same_upd hlq
  have eq2 : upd H1 lq (.lst [.ref lz, .ref ld]) lq = some (.lst [.ref lz, .ref ld]) := upd_same
  generalize upd H1 lq (.lst [.ref lz, .ref ld]) = H2 at s2 eq2 ⊢
  have J2 := J1.same s2
  have hD2 := s2 _ _ hD
  have hla2 := s2 _ _ hla
  have hlf2 := s2 _ _ hlf
  have A2 := A1.keep (H' := H2) fun i l xs _ e => s2 _ _ e
  refine ⟨handD Z ds, handD Z ds, hand_dt J2.hd J2.h1 J2.h2 J2.D, hand_dt eq2 J2.z J2.d J2.D, hand_can _ _, hand_can _ _, by rw [Nat.min_self]; exact hand_depth _ _, evr rfl (iteFe (neHand _ _) ?_)⟩
  refine (vix (p := D) rfl (SqT.of (hD2)) (atI_nat (j := 0) rfl) (evr rfl (mk5_10 la lu xs ys as rfl hla2 J2.u A2.len J2.ly la9 J2.sh A2.on J2.Y (evr rfl (iteF ?_)))))
  have hlen : (heldOf wl).length ≤ 1000000 := by unfold heldOf; rw [List.length_map]; have := J.few; (first | lia | omega)
  refine (vix (p := D) rfl (SqT.of (hD2)) (atI_nat (j := 1) rfl) (vix (p := st) rfl (SqL.of J2.st) (atI_nat (j := 0) rfl) (mk3_5 lf lh (heldOf wl) rfl (by rw [hlf2, J.e]) (SqL.of J2.hh) hlen (evr rfl (iteF ?_)))))
  refine (vix (p := D) rfl (SqT.of (hD2)) (atI_nat (j := 0) rfl) ⟨la, rfl, ⟨_, SqL.of hla2⟩, ?_⟩)
  obtain ⟨Pv, hv⟩ := abs3 (fun j σ Hj => ∃ v10, σ = [v0, some (.ref lz), some (.ref st), some (.ref ld), some (.ref lu), v5, v6, some (.ref hd), v8, some (.ref D), v10] ∧ (∀ c, (∀ i : Nat, i < j → xs[i]? ≠ some (.ref c)) → Hj c = H2 c) ∧ (∀ (i : Nat) l ms, i < j → xs[i]? = some (.ref l) → as[i]? = some (.row ms) → Hj l = some (.lst ((ms ++ [9]).map V.int))))
  have keep : ∀ {j : Nat} {Hj : Hp}, (∀ c, (∀ i : Nat, i < j → xs[i]? ≠ some (.ref c)) → Hj c = H2 c) → ∀ c, H9 c ≠ none ∨ c = la ∨ c = lf → Hj c = H2 c := fun hk c hc => hk c fun i _ e => by
    have h0 := A1.new i c e
    rcases hc with hc | hc | hc
    · exact hc (s9.free h0)
    · exact (nrows i c e).1 hc
    · exact (nrows i c e).2 hc
  refine for_list (K := K) (a := la) (xs := xs) Pv ((hv _ _ _).mpr (evr rfl ⟨fun _ _ => rfl, fun i _ _ hi => absurd hi (Nat.not_lt_zero _)⟩)) (fun j σ Hj _ hP => ?_) ?_ ?_
  · have hP := (hv _ _ _).mp hP
    obtain ⟨_, _, hk, _⟩ := hP
    exact SqL.of ((keep hk la (.inr (.inl rfl))).trans hla2)
  · intro j x σ Hj hx hP
    have hP := (hv _ _ _).mp hP
    refine ob1_3 hP (fun v10 eRfl hk hr => ?_); clear hP; subst eRfl
    have hja : j < as.length := by rw [← A2.len]; exact (List.getElem?_eq_some_iff.mp hx).1
    have ea := List.getElem?_eq_getElem hja
    have AX := A2.on j x _ hx ea
    refine gN ?_
    have no : (∀ l, x ≠ .ref l) → Pv (j + 1) [v0, some (.ref lz), some (.ref st), some (.ref ld), some (.ref lu), v5, v6, some (.ref hd), v8, some (.ref D), some x] Hj := fun hn => (hv _ _ _).mpr ⟨_, rfl, fun c hc => hk c fun i hi => hc i (by (first | lia | omega)), fun i l ms hi e1 e2 => by
      by_cases e : i = j
      · subst e; rw [hx] at e1; cases e1; exact absurd rfl (hn l)
      · exact hr i l ms (by (first | lia | omega)) e1 e2⟩
    cases e : as[j] with
    | num n =>
      rw [e] at AX
      have kd : x = .int n := AX
      subst kd
      exact (evr rfl (mk4_5 _ _ _ _ rfl (.of (.int n)) (by intro z; cases z) kt.il (evr rfl (iteF (no fun l z => by cases z)))))
    | nam y =>
      rw [e] at AX
      have kd : x = .str y := AX
      subst kd
      exact (evr rfl (mk4_5 _ _ _ _ rfl (.of (.str y)) (by intro z; cases z) kt.sl (evr rfl (iteF (no fun l z => by cases z)))))
    | row ms =>
      rw [e] at AX ea
      refine ob1_2 AX (fun l eRfl hl => ?_); clear AX; subst eRfl
      have hlj : Hj l = some (.lst (ms.map V.int)) := (hk l fun i hi z => by have := A2.inj i j l z hx; (first | lia | omega)).trans hl
      have hm8 := J.sh ms (List.mem_of_getElem? ea)
      refine (evr rfl (mk4_5 _ _ _ _ rfl (.of (.lst hlj)) (by intro z; cases z) kt.ll (evr rfl (iteT (evr rfl ⟨.inl ⟨rfl, _, SqL.of hlj⟩, l, ev2 rfl rfl ⟨hlj, by rw [List.length_map]; (first | lia | omega), (hv _ _ _).mpr (evr rfl ⟨fun c hc => ?_, fun i l' ms' hi e1 e2 => ?_⟩)⟩⟩)))))
      · have n : c ≠ l := fun z => hc j (by (first | lia | omega)) (by rw [hx, z])
        rw [upd_ne n]; exact hk c fun i hi => hc i (by (first | lia | omega))
      · by_cases e : i = j
        · subst e; rw [hx] at e1; cases e1; rw [ea] at e2; cases e2
          rw [upd_same, List.map_append]; rfl
        · have n : l' ≠ l := fun z => e (A2.inj i j l (by rw [e1, z]) hx)
          rw [upd_ne n]; exact hr i l' ms' (by (first | lia | omega)) e1 e2
  · intro σ Hj hP
    have hP := (hv _ _ _).mp hP
    refine ob1_3 hP (fun v10 eRfl hk hr => ?_); clear hP; subst eRfl
    have k9 : ∀ c o, H9 c = some o → Hj c = some o := fun c o e => by
      rw [keep hk c (.inl (by rw [e]; intro z; cases z))]; exact s2 _ _ (s1 _ _ (s9 _ _ e))
    have JJ := J9.same k9
    refine hq Dn v0 _ _ _ v5 v6 _ v8 v10 lu D la lf xs ys _ as H9 Hj k9 (s9.free nla) (s9.free nlf) nlal ?_ ((keep hk la (.inr (.inl rfl))).trans hla2) ((keep hk lf (.inr (.inr rfl))).trans hlf2) ?_ JJ.u A2.len J.ly la9 J.sh (fun i v a e1 e2 => (A2.on i v a e1 e2).kd) (fun i l ms e1 e2 => hr i l ms ?_ e1 e2) JJ.Y (fun H' s' => q _ _ H' s')
    · refine (hk D fun i _ e => ?_).trans hD2
      obtain ⟨zs, hz⟩ := A2.there e
      rw [hD2] at hz; cases hz
    · rw [List.length_map, J.e]; unfold heldOf; rw [List.length_map]; have := J.few; (first | lia | omega)
    · exact (List.getElem?_eq_some_iff.mp e1).1
end
end Pw

set_option Elab.async false
set_option linter.all false
set_option maxRecDepth 100000
set_option maxHeartbeats 4000000
namespace Pw
open PySem L2
section
variable {P : Program} {w : World} {K : PySem.W.Frag} {mg : Str → Option Value} {base : Heap}
theorem eqHand (sz : List Int) (ds : List DK) : (if false = true then !PyData.eqv (handD sz ds) (handD sz ds) else PyData.eqv (handD sz ds) (handD sz ds)) = true := by rw [if_neg (by decide), hand_eq]
theorem tail_log {f fD fR fA fH fE cNW : Addr} {fdD fdR fdA fdH fdE : FuncData} {cdv : Value} {A : Around} {outer : List Env} {s : Shared} {HH : Hp} {Q : VK} {E : XK} (hr8 : Room 8 (A.deeper (PyProof.Rows.envOfC "law" (defScope s_law) s.heap.objs.size f cdv)))
    (gD : Gd P w K mg base "_law_drawn" s__law_drawn ["script", "k", "many"] CX0 1 (spDrawn K) fD fdD) (gR : Gd P w K mg base "replay" s_replay ["sizes", "deeds"] (CXF P w) 7 (spReplay K cNW) fR fdR) (gA : Gd P w K mg base "_law_alike" s__law_alike ["found", "due"] CX0 3 (spAlike K) fA fdA) (gH : Gd P w K mg base "_law_held" s__law_held ["found", "due"] CX0 2 (spHeldEq K) fH fdH)
    (gE : Gd P w K mg base "_law_refused" s__law_refused ["sizes", "deeds"] CX0 8 (spRefused K) fE fdE) (misinstance : mg "isinstance" = none) (mlen : mg "len" = none) (mtuple : mg "tuple" = none) (mlist : mg "list" = none) (mrange : mg "range" = none) (kt : Kt12 K) :
    ∃ t, PSs (cxOf CX0 P w K mg base N12 "law" (defScope s_law) f cdv A outer s HH E).nox ((defBody s_law).drop 5) t ∧
      ∀ (sc lz st lh lp ld lu : Addr) (ns : List Int) (v5 v6 v7 v8 v9 v10 : Option V) (H0 H : Hp) (Z : List Int) (wl : Wl) (ts : List Addr) (prs : List (Int × Int)) (tds : List Addr) (ds : List DK) (ys : List V) (as : List An) (ws : Nat → Wl), SqL K HH sc (ns.map V.int) → ns.length ≤ 63 → okSizes Z = true → tds.length < 1000 →
        I12 K HH H0 H lz st lh lp ld lu Z wl ts prs tds ds ds ys as ws → (∀ H', Q (.bl true) H') →
        t { nx := fun _ H' => Q .non H', rt := Q } [some (.ref sc), some (.ref lz), some (.ref st), some (.ref ld), some (.ref lu), v5, v6, v7, v8, v9, v10] H := by
  have hu : (A.deeper (PyProof.Rows.envOfC "law" (defScope s_law) s.heap.objs.size f cdv)).units + 60 < cLine := by have := hr8.units; (first | lia | omega)
  have hr1 : Room 1 _ := hr8.mono (by decide)
  obtain ⟨tb, ptb, hb⟩ := lap_body (f := f) (cdv := cdv) (A := A) (outer := outer) (s := s) (HH := HH) (E := E) hr8 gR gA gH misinstance mlen mtuple mlist kt
  refine ⟨_, (pss_cons (ps_if (pt_cmpR op_eq (pe_call gD.G hr1 (by rfl) gD.m gD.F.kp gD.b .nil pass0 (pa_cons (pv 0) (pa_cons pe_int (pa_cons pe_int pa_nil)))) pe_int (nomark _)) (pss_cons (ps_set (i := 1) scLaw.nd rfl (Or.inl rfl) (pe_ix ix_list (pe_lst (pa_cons (pe_lst pa_nil) (pa_cons (pe_lst (pa_cons pe_int pa_nil)) (pa_cons (pe_lst (pa_cons pe_int pa_nil)) (pa_cons (pe_op op_rep (pe_lst (pa_cons pe_int pa_nil)) pe_int) pa_nil))))) (pe_call gD.G hr1 (by rfl) gD.m gD.F.kp gD.b .nil pass0 (pa_cons (pv 0) (pa_cons pe_int (pa_cons pe_int pa_nil)))) (fun _ _ => rfl)))
      (pss_one (ps_ret (pe_call gE.G hr8 (by rfl) gE.m gE.F.kp gE.b .nil pass0 (pa_cons (pv 1) (pa_cons (pv 3) pa_nil)))))) pss_nil)
      (pss_cons (ps_set (i := 7) scLaw.nd rfl (Or.inl rfl) (pe_lst (pa_cons (pe_callTy call_list_of (by rfl) mlist boot_listT (pa_cons (pv 1) pa_nil)) (pa_cons (pe_callTy call_list_of (by rfl) mlist boot_listT (pa_cons (pv 3) pa_nil)) pa_nil))))
      (pss_cons (ps_for PassesOwn.never rfl (pi_range1 (by rfl) mrange (pa_cons pe_int pa_nil)) (pg_name (i := 8) scLaw.nd rfl (Or.inl rfl)) ptb)
      (pss_one (ps_ret (pe_cmpR (op_eqD hu) (pv 7) (pe_lst (pa_cons (pv 1) (pa_cons (pv 3) pa_nil))) (nomark _))))))), ?_⟩
  try dsimp only [cxOf]
  intro sc lz st lh lp ld lu ns v5 v6 v7 v8 v9 v10 H0 H Z wl ts prs tds ds ys as ws hS hl hok h1000 I q
  refine ⟨_, rfl, sc, ns, 22, 8, rfl, I.s.seq hS, hl, by decide, by decide, by decide, by decide, rfl, _, rfl, ite2 (fun _ => ?_) (fun _ => ?_)⟩
  · refine ⟨Nat.zero_le _, fun l0 n0 => ?_⟩
    have s1 := same_upd (o := .lst []) n0
    have e0 := upd_same (H := H) (a := l0) (o := .lst [])
    generalize upd H l0 (.lst []) = Ha at s1 e0 ⊢
    refine ⟨(by show 1 ≤ sizeLine; decide), fun l1 n1 => ?_⟩
    have s2 := same_upd (o := .lst [.int 0]) n1
    have e1 := upd_same (H := Ha) (a := l1) (o := .lst [.int 0])
    generalize upd Ha l1 (.lst [.int 0]) = Hb at s2 e1 ⊢
    refine ⟨(by show 1 ≤ sizeLine; decide), fun l2 n2 => ?_⟩
    have s3 := same_upd (o := .lst [.int 10]) n2
    have e2 := upd_same (H := Hb) (a := l2) (o := .lst [.int 10])
    generalize upd Hb l2 (.lst [.int 10]) = Hc at s3 e2 ⊢
    refine ⟨(by show 1 ≤ sizeLine; decide), fun l3 n3 => ?_⟩
    have s4 := same_upd (o := .lst [.int 1]) n3
    have e3 := upd_same (H := Hc) (a := l3) (o := .lst [.int 1])
    generalize upd Hc l3 (.lst [.int 1]) = H4 at s4 e3 ⊢
    have sA := ((s1.trans s2).trans s3).trans s4
    refine ⟨l3, 9, _, rfl, rfl, e3, (by decide), (by decide), (by decide), fun l4 n4 => ?_⟩
    have s5 := same_upd (o := .lst (List.replicate (9 : Int).toNat [V.int 1]).flatten) n4
    have e4 := upd_same (H := H4) (a := l4) (o := .lst (List.replicate (9 : Int).toNat [V.int 1]).flatten)
    generalize upd H4 l4 (.lst (List.replicate (9 : Int).toNat [V.int 1]).flatten) = Hd at s5 e4 ⊢
    refine ⟨(by show 4 ≤ sizeLine; decide), fun L hL => ?_⟩
    have s6 := same_upd (o := .lst [.ref l0, .ref l1, .ref l2, .ref l4]) hL
    have eL := upd_same (H := Hd) (a := L) (o := .lst [.ref l0, .ref l1, .ref l2, .ref l4])
    generalize upd Hd L (.lst [.ref l0, .ref l1, .ref l2, .ref l4]) = H5 at s6 eL ⊢
    have g0 := s6 _ _ (s5 _ _ (s4 _ _ (s3 _ _ (s2 _ _ e0))))
    have g1 := s6 _ _ (s5 _ _ (s4 _ _ (s3 _ _ e1)))
    have g2 := s6 _ _ (s5 _ _ (s4 _ _ e2))
    have g4 := s6 _ _ e4
    have sF := (sA.trans s5).trans s6
    have I5 := I.same sF
    have d1 := drawn_lo ns 23 (many := 4) (by decide)
    have d2 := drawn_hi ns 23 (many := 4) (by decide)
    obtain ⟨l, sz, hat, hlz, hno⟩ : ∃ (l : Addr) (sz : List Int), atI [V.ref l0, .ref l1, .ref l2, .ref l4] (drawn ns 23 4) = some (.ref l) ∧ H5 l = some (.lst (sz.map V.int)) ∧ okSizes sz = false := by
      rcases (by (first | lia | omega) : drawn ns 23 4 = ((0 : Nat) : Int) ∨ drawn ns 23 4 = ((1 : Nat) : Int) ∨ drawn ns 23 4 = ((2 : Nat) : Int) ∨ drawn ns 23 4 = ((3 : Nat) : Int)) with e | e | e | e <;> rw [e]
      · exact ⟨l0, [], atI_nat rfl, g0, by decide⟩
      · exact ⟨l1, [0], atI_nat rfl, g1, by decide⟩
      · exact ⟨l2, [10], atI_nat rfl, g2, by decide⟩
      · exact ⟨l4, [1, 1, 1, 1, 1, 1, 1, 1, 1], atI_nat rfl, g4, by decide⟩
    refine ⟨_, rfl, sc, ns, 23, 4, rfl, I5.s.seq hS, hl, by decide, by decide, by decide, by decide, L, _, _, _, rfl, rfl, SqL.of eL, hat, ?_⟩
    exact ⟨_, rfl, _, rfl, l, ld, sz, tds, ds, rfl, SqL.of hlz, SqL.of I5.d, I5.D, h1000, hno, q⟩
  · refine ⟨_, rfl, lz, _, rfl, .inl (SqL.of I.z), fun h1 n1 => ?_⟩
    have s1 := same_upd (o := .lst (Z.map V.int)) n1
    have e1 := upd_same (H := H) (a := h1) (o := .lst (Z.map V.int))
    generalize upd H h1 (.lst (Z.map V.int)) = Ha at s1 e1 ⊢
    refine ⟨_, rfl, ld, _, rfl, .inl (SqL.of (s1 _ _ I.d)), fun h2 n2 => ?_⟩
    have s2 := same_upd (o := .lst (tds.map V.ref)) n2
    have e2 := upd_same (H := Ha) (a := h2) (o := .lst (tds.map V.ref))
    generalize upd Ha h2 (.lst (tds.map V.ref)) = Hb at s2 e2 ⊢
    refine ⟨(by show 2 ≤ sizeLine; decide), fun hd n3 => ?_⟩
    have s3 := same_upd (o := .lst [.ref h1, .ref h2]) n3
    have e3 := upd_same (H := Hb) (a := hd) (o := .lst [.ref h1, .ref h2])
    generalize upd Hb hd (.lst [.ref h1, .ref h2]) = H9 at s3 e3 ⊢
    have e2 := s3 _ _ e2
    have e1 := s3 _ _ (s2 _ _ e1)
    have I9 := I.same ((s1.trans s2).trans s3)
    have J : J12 K H9 lz st lh lp ld lu hd h1 h2 Z wl tds ds ys as ws := ⟨I9.z, I9.S.hst, I9.S.hh, I9.d, I9.D, I9.u, I9.A.len, I9.A.on, e3, e1, e2, I9.R, I9.e, I9.sh, hok, by have := I.pl; have := I.few; (first | lia | omega), h1000⟩
    obtain ⟨Pv, hv⟩ := abs3 (fun (i : Nat) σ Hi => ∃ v8 v9 v10, σ = [some (.ref sc), some (.ref lz), some (.ref st), some (.ref ld), some (.ref lu), v5, v6, some (.ref hd), v8, v9, v10] ∧ Same H9 Hi)
    refine ⟨_, rfl, (by decide), (by decide), for_range (n := 2) Pv ((hv _ _ _).mpr ⟨_, _, _, rfl, sameR⟩) ?_ ?_⟩
    · intro i σ Hi hi hP
      have hP := (hv _ _ _).mp hP
      obtain ⟨v8, v9, v10, rfl, si⟩ := hP
      refine gN ?_
      exact hb _ _ v5 v6 _ v9 v10 lz st lh lp ld lu hd h1 h2 Z wl tds ds ys as ws H9 Hi J si fun v9 v10 H' s' => (hv _ _ _).mpr ⟨_, v9, v10, rfl, s'⟩
    · intro σ Hi hP
      have hP := (hv _ _ _).mp hP
      obtain ⟨v8, v9, v10, rfl, si⟩ := hP
      have Ji := J.same si
      refine ⟨_, rfl, _, rfl, _, rfl, (by show 2 ≤ sizeLine; decide), fun lq hlq => ?_⟩
      have sq := same_upd (o := .lst [.ref lz, .ref ld]) hlq
      have Jq := Ji.same sq
      refine ⟨handD Z ds, handD Z ds, hand_dt Jq.hd Jq.h1 Jq.h2 Jq.D, hand_dt upd_same Jq.z Jq.d Jq.D, hand_can _ _, hand_can _ _, by rw [Nat.min_self]; exact hand_depth _ _, ?_⟩
      rw [eqHand]
      exact q _
theorem ok_law {f fD fZ fDB fDu fR fA fH fE cNW : Addr} {fd fdD fdZ fdDB fdDu fdR fdA fdH fdE : FuncData} (F : Fun K "law" "law" s_law f fd) (gD : Gd P w K mg base "_law_drawn" s__law_drawn ["script", "k", "many"] CX0 1 (spDrawn K) fD fdD) (gZ : Gd P w K mg base "_law_sizes_by" s__law_sizes_by ["script", "base"] CX0 2 (spSizesBy K) fZ fdZ)
    (gDB : Gd P w K mg base "_law_deed_by" s__law_deed_by ["script", "k", "state"] CX0 2 (spDeedBy K) fDB fdDB) (gDu : Gd P w K mg base "_law_due" s__law_due ["sizes", "state", "deed"] CX0 2 (spDue K) fDu fdDu) (gR : Gd P w K mg base "replay" s_replay ["sizes", "deeds"] (CXF P w) 7 (spReplay K cNW) fR fdR) (gA : Gd P w K mg base "_law_alike" s__law_alike ["found", "due"] CX0 3 (spAlike K) fA fdA) (gH : Gd P w K mg base "_law_held" s__law_held ["found", "due"] CX0 2 (spHeldEq K) fH fdH)
    (gE : Gd P w K mg base "_law_refused" s__law_refused ["sizes", "deeds"] CX0 8 (spRefused K) fE fdE) (misinstance : mg "isinstance" = none) (mlen : mg "len" = none) (mtuple : mg "tuple" = none) (mlist : mg "list" = none) (mrange : mg "range" = none) (kt : Kt12 K) : FnOk P w K mg base CX0 9 f fd ["script"] (spLaw K) := by
  refine F.ok scLaw (fun vs H Q E h => ?_) (fun cdv A outer s H vs Q E hr h => ?_)
  · obtain ⟨a, ns, rfl, _⟩ := h
    rfl
  · obtain ⟨a, ns, rfl, hS, hl, q⟩ := h
    have hr1 : Room 1 _ := hr.mono (by decide)
    have hr2 : Room 2 _ := hr.mono (by decide)
    obtain ⟨tl, ptl, hq⟩ := tail_log (f := f) (cdv := cdv) (A := A) (outer := outer) (s := s) (HH := H) (Q := Q) (E := E) hr gD gR gA gH gE misinstance mlen mtuple mlist mrange kt
    obtain ⟨tb, ptb, hb⟩ := log_body (f := f) (cdv := cdv) (A := A) (outer := outer) (s := s) (HH := H) (E := E) hr2 gDB gDu
    refine ⟨_, (pss_cons (ps_set (i := 1) scLaw.nd rfl (Or.inl rfl) (pe_call gZ.G hr2 (by rfl) gZ.m gZ.F.kp gZ.b .nil pass0 (pa_cons (pv 0) (pa_cons pe_int pa_nil))))
      (pss_cons (ps_set (i := 2) scLaw.nd rfl (Or.inl rfl) (pe_lst (pa_cons (pe_comp (N := ["size"]) (src := [none]) rfl (blk (osc := defScope s_law) (oN := ["script", "sizes", "state", "deeds", "due", "k", "deed", "handed", "lap", "found", "one"]) rfl rfl (by decide +kernel)) (pi_list (pv 1)) (fun C s₀ H₀ ex pn => pg_name (i := 0) (show (["size"] : List Str).Nodup by decide +kernel) rfl (Or.inl rfl) (Or.inr rfl)) (fun C s₀ H₀ ex pn => pts_nil) (fun C s₀ H₀ ex pn => pe_non)) (pa_cons (pe_lst pa_nil) (pa_cons pe_int pa_nil)))))
      (pss_cons (ps_set (i := 3) scLaw.nd rfl (Or.inl rfl) (pe_lst pa_nil))
      (pss_cons (ps_set (i := 4) scLaw.nd rfl (Or.inl rfl) (pe_lst pa_nil))
      (pss_cons (ps_for PassesOwn.never rfl (pi_range1 (by rfl) mrange (pa_cons (pe_call gD.G hr1 (by rfl) gD.m gD.F.kp gD.b .nil pass0 (pa_cons (pv 0) (pa_cons pe_int (pa_cons (pe_ix ix_list (pe_lst (pa_cons pe_int (pa_cons pe_int pa_nil))) (pe_call gD.G hr1 (by rfl) gD.m gD.F.kp gD.b .nil pass0 (pa_cons (pv 0) (pa_cons pe_int (pa_cons pe_int pa_nil)))) (fun _ _ => rfl)) pa_nil)))) pa_nil)) (pg_name (i := 5) scLaw.nd rfl (Or.inl rfl)) ptb)
      ptl))))), ?_⟩
    try dsimp only [cxOf]
    refine ⟨_, rfl, a, ns, 0, rfl, hS, hl, by decide, by decide, fun sz hok lz H1 nz s1 hz => ?_⟩
    obtain ⟨o1, o2, o3⟩ := okSizes_all hok
    refine ⟨_, rfl, lz, rfl, ⟨_, SqL.of hz⟩, fun lh hlh => nones_comp (SqL.of hz) hlh (by rw [List.length_map]; (first | lia | omega)) fun H4 s4 h4 _ => ⟨(by show 0 ≤ sizeLine; decide), fun lp hlp => ⟨(by show 3 ≤ sizeLine; decide), fun st hst => ?_⟩⟩⟩
    rw [List.length_map] at h4
    have s5 := same_upd (o := .lst []) hlp
    have s6 := same_upd (o := .lst [.ref lh, .ref lp, .int 0]) hst
    have e5 := s6 _ _ (upd_same (H := H4) (a := lp) (o := .lst []))
    have e6 := upd_same (H := upd H4 lp (.lst [])) (a := st) (o := .lst [.ref lh, .ref lp, .int 0])
    have h6 := s6 _ _ (s5 _ _ h4)
    have z6 := s6 _ _ (s5 _ _ (s4 _ _ hz))
    have sB := ((s1.trans s4).trans s5).trans s6
    have f1 : H st = none := ((s1.trans s4).trans s5).free hst
    have f2 : H lh = none := s1.free hlh
    have f3 : H lp = none := (s1.trans s4).free hlp
    have nsh : st ≠ lh := Ne.symm (ne_of_none (s5 _ _ h4) hst)
    have nsp : st ≠ lp := Ne.symm (ne_of_none (upd_same (H := H4) (a := lp) (o := .lst [])) hst)
    have nhp : lh ≠ lp := ne_of_none h4 hlp
    have zh : lz ≠ lh := ne_of_none hz hlh
    have zp : lz ≠ lp := ne_of_none (s4 _ _ hz) hlp
    have zs : lz ≠ st := ne_of_none (s5 _ _ (s4 _ _ hz)) hst
    generalize upd (upd H4 lp (.lst [])) st (.lst [.ref lh, .ref lp, .int 0]) = H6 at e5 e6 h6 z6 sB ⊢
    refine ⟨Nat.zero_le _, fun ld hld => ?_⟩
    have s7 := same_upd (o := .lst []) hld
    have e7 := upd_same (H := H6) (a := ld) (o := .lst [])
    refine ⟨Nat.zero_le _, fun lu hlu => ?_⟩
    have s8 := same_upd (o := .lst []) hlu
    have e8 := upd_same (H := upd H6 ld (.lst [])) (a := lu) (o := .lst [])
    have sC := s7.trans s8
    have ed := s8 _ _ e7
    have ndu : ld ≠ lu := ne_of_none e7 hlu
    have g1 : ∀ {x : Addr} {o : HO}, H6 x = some o → x ≠ ld := fun e => ne_of_none e hld
    have g2 : ∀ {x : Addr} {o : HO}, H6 x = some o → x ≠ lu := fun e => ne_of_none (s7 _ _ e) hlu
    have f4 : H ld = none := sB.free hld
    have f5 : H lu = none := sB.free (s7.free hlu)
    generalize upd (upd H6 ld (.lst [])) lu (.lst []) = H8 at e8 sC ed ⊢
    have I0 : I12 K H H8 H8 lz st lh lp ld lu sz (empt sz) [] [] [] [] [] [] [] (fun _ => empt sz) := by
      refine ⟨sB.trans sC, fun _ h => h, sC _ _ z6, ⟨sC _ _ e6, ?_, sC _ _ e5, ⟨rfl, fun i a m ha => by cases ha⟩, nsh, nsp, nhp⟩, ed, ⟨rfl, fun i a m ha => by cases ha⟩, e8, AnsAt.nil, Run.nil, rfl, (fun ms h => by cases h), (fun i r hr' => by have := List.eq_of_mem_replicate (List.mem_of_getElem? hr'); cases this), rfl, rfl, List.length_replicate, o2, f1, f2, f3, f4, f5, zs, zh, zp, g1 z6, g2 z6, Ne.symm (g1 e6), Ne.symm (g1 h6), Ne.symm (g1 e5), ndu, Ne.symm (g2 e6), Ne.symm (g2 h6), Ne.symm (g2 e5), fun c hc => ?_⟩
      · rw [sC _ _ h6]
        show some (HO.lst (List.replicate sz.length .non)) = some (HO.lst (((List.replicate sz.length (none : Option Pc)).map fun o => o.map (·.num)).map oV))
        rw [List.map_replicate, List.map_replicate]; rfl
      · have n : ∀ {x : Addr} {o : HO}, H8 x = some o → c ≠ x := fun e z => by rw [z, e] at hc; cases hc
        exact ⟨n (sC _ _ z6), n (sC _ _ e6), n (sC _ _ h6), n (sC _ _ e5), n ed, n e8⟩
    refine ⟨_, rfl, (by show 2 ≤ sizeLine; decide), fun L hL => ?_⟩
    have sL := same_upd (o := .lst [.int 13, .int 61]) hL
    obtain ⟨top, ht, htop⟩ := two_at (x := 13) (y := 61) (drawn_lo ns 21 (many := 2) (by decide)) (drawn_hi ns 21 (many := 2) (by decide))
    have ht2 : 0 < top ∧ top ≤ 61 := by (first | lia | omega)
    have I1 := I0.same sL
    refine ⟨_, rfl, a, ns, 21, 2, rfl, I1.s.seq hS, hl, by decide, by decide, by decide, by decide, L, _, _, _, rfl, rfl, SqL.of upd_same, ht, a, ns, 20, top, rfl, I1.s.seq hS, hl, by decide, by decide, ht2.1, by (first | lia | omega), ?_⟩
    generalize upd H8 L (.lst [.int 13, .int 61]) = H9 at I1 ⊢
    have d1 := drawn_lo ns 20 (many := top) ht2.1
    have d2 := drawn_hi ns 20 (many := top) ht2.1
    obtain ⟨Pv, hv⟩ := abs3 (fun (i : Nat) σ Hi => ∃ v5 v6 wl ts prs tds ds ys as ws, σ = [some (.ref a), some (.ref lz), some (.ref st), some (.ref ld), some (.ref lu), v5, v6, none, none, none, none] ∧ I12 K H H8 Hi lz st lh lp ld lu sz wl ts prs tds ds ds ys as ws ∧ ts.length ≤ i ∧ tds.length = i)
    refine ⟨_, rfl, (by (first | lia | omega)), (by (first | lia | omega)), for_range (n := (drawn ns 20 top).toNat) Pv ((hv _ _ _).mpr ⟨_, _, _, [], [], [], [], [], [], _, rfl, I1, Nat.le_refl _, rfl⟩) ?_ ?_⟩
    · intro i σ Hi hi hP
      have hP := (hv _ _ _).mp hP
      obtain ⟨v5, v6, wl, ts, prs, tds, ds, ys, as, ws, rfl, I, t1, t2⟩ := hP
      refine gN ?_
      exact hb _ a lz st lh lp ld lu ns i v6 none none none none H8 Hi sz wl ts prs tds ds ys as ws hS hl (by (first | lia | omega)) I t1 t2 fun v6 H' wl ts prs tds ds ys as ws I' t1' t2' => (hv _ _ _).mpr ⟨_, v6, wl, ts, prs, tds, ds, ys, as, ws, rfl, I', t1', t2'⟩
    · intro σ Hi hP
      have hP := (hv _ _ _).mp hP
      obtain ⟨v5, v6, wl, ts, prs, tds, ds, ys, as, ws, rfl, I, t1, t2⟩ := hP
      exact hq a lz st lh lp ld lu ns v5 v6 none none none none H8 Hi sz wl ts prs tds ds ys as ws hS hl hok (by (first | lia | omega)) I q
end
end Pw

set_option Elab.async false
set_option linter.all false
set_option maxRecDepth 100000
set_option maxHeartbeats 4000000
namespace Pw
open PySem L2 PyProof.Rows
theorem all_mk {l : PySem.W.OpenLaw} {w : World} {K : PySem.W.Frag} {h : Heap} {mg : Str → Option Value} {fa cParcel cWall fParcel___init__ fWall___init__ fWall_held fWall_free fWall_come fWall_fetch fWall_night fWall_boxes_for fWall_least_box fWall_box_of fin_bounds fcheck_wall fcheck_size fcheck_nights freplay fanswer_to fdone f_law_drawn f_law_whole f_law_row f_law_sizes_by f_law_held f_law_box_for f_law_due f_law_deed_by f_law_refused f_law_alike flaw cWallError NWallError cNoWall NNoWall cNoSize NNoSize cNoNights NNoNights cNoBox NNoBox cNoParcel NNoParcel : Addr} (X : K.In h) (G : h.Ns mainGlobals mg) (hfa : mg "law" = some (.ref fa))
    {odParcel___init__ anParcel___init__ : Option Addr} {slParcel___init__ : Array (Option Value)} {ocParcel___init__ kVParcel___init__ dcParcel___init__ pmParcel___init__ cdParcel___init__ ctParcel___init__ : Value}
    {odWall___init__ anWall___init__ : Option Addr} {slWall___init__ : Array (Option Value)} {ocWall___init__ kVWall___init__ dcWall___init__ pmWall___init__ cdWall___init__ ctWall___init__ : Value}
    {odWall_held anWall_held : Option Addr} {slWall_held : Array (Option Value)} {ocWall_held kVWall_held dcWall_held pmWall_held cdWall_held ctWall_held : Value}
    {odWall_free anWall_free : Option Addr} {slWall_free : Array (Option Value)} {ocWall_free kVWall_free dcWall_free pmWall_free cdWall_free ctWall_free : Value}
    {odWall_come anWall_come : Option Addr} {slWall_come : Array (Option Value)} {ocWall_come kVWall_come dcWall_come pmWall_come cdWall_come ctWall_come : Value}
    {odWall_fetch anWall_fetch : Option Addr} {slWall_fetch : Array (Option Value)} {ocWall_fetch kVWall_fetch dcWall_fetch pmWall_fetch cdWall_fetch ctWall_fetch : Value}
    {odWall_night anWall_night : Option Addr} {slWall_night : Array (Option Value)} {ocWall_night kVWall_night dcWall_night pmWall_night cdWall_night ctWall_night : Value}
    {odWall_boxes_for anWall_boxes_for : Option Addr} {slWall_boxes_for : Array (Option Value)} {ocWall_boxes_for kVWall_boxes_for dcWall_boxes_for pmWall_boxes_for cdWall_boxes_for ctWall_boxes_for : Value}
    {odWall_least_box anWall_least_box : Option Addr} {slWall_least_box : Array (Option Value)} {ocWall_least_box kVWall_least_box dcWall_least_box pmWall_least_box cdWall_least_box ctWall_least_box : Value}
    {odWall_box_of anWall_box_of : Option Addr} {slWall_box_of : Array (Option Value)} {ocWall_box_of kVWall_box_of dcWall_box_of pmWall_box_of cdWall_box_of ctWall_box_of : Value}
    {odin_bounds anin_bounds : Option Addr} {slin_bounds : Array (Option Value)} {ocin_bounds kVin_bounds dcin_bounds pmin_bounds cdin_bounds ctin_bounds : Value}
    {odcheck_wall ancheck_wall : Option Addr} {slcheck_wall : Array (Option Value)} {occheck_wall kVcheck_wall dccheck_wall pmcheck_wall cdcheck_wall ctcheck_wall : Value}
    {odcheck_size ancheck_size : Option Addr} {slcheck_size : Array (Option Value)} {occheck_size kVcheck_size dccheck_size pmcheck_size cdcheck_size ctcheck_size : Value}
    {odcheck_nights ancheck_nights : Option Addr} {slcheck_nights : Array (Option Value)} {occheck_nights kVcheck_nights dccheck_nights pmcheck_nights cdcheck_nights ctcheck_nights : Value}
    {odreplay anreplay : Option Addr} {slreplay : Array (Option Value)} {ocreplay kVreplay dcreplay pmreplay cdreplay ctreplay : Value}
    {odanswer_to ananswer_to : Option Addr} {slanswer_to : Array (Option Value)} {ocanswer_to kVanswer_to dcanswer_to pmanswer_to cdanswer_to ctanswer_to : Value}
    {oddone andone : Option Addr} {sldone : Array (Option Value)} {ocdone kVdone dcdone pmdone cddone ctdone : Value}
    {od_law_drawn an_law_drawn : Option Addr} {sl_law_drawn : Array (Option Value)} {oc_law_drawn kV_law_drawn dc_law_drawn pm_law_drawn cd_law_drawn ct_law_drawn : Value}
    {od_law_whole an_law_whole : Option Addr} {sl_law_whole : Array (Option Value)} {oc_law_whole kV_law_whole dc_law_whole pm_law_whole cd_law_whole ct_law_whole : Value}
    {od_law_row an_law_row : Option Addr} {sl_law_row : Array (Option Value)} {oc_law_row kV_law_row dc_law_row pm_law_row cd_law_row ct_law_row : Value}
    {od_law_sizes_by an_law_sizes_by : Option Addr} {sl_law_sizes_by : Array (Option Value)} {oc_law_sizes_by kV_law_sizes_by dc_law_sizes_by pm_law_sizes_by cd_law_sizes_by ct_law_sizes_by : Value}
    {od_law_held an_law_held : Option Addr} {sl_law_held : Array (Option Value)} {oc_law_held kV_law_held dc_law_held pm_law_held cd_law_held ct_law_held : Value}
    {od_law_box_for an_law_box_for : Option Addr} {sl_law_box_for : Array (Option Value)} {oc_law_box_for kV_law_box_for dc_law_box_for pm_law_box_for cd_law_box_for ct_law_box_for : Value}
    {od_law_due an_law_due : Option Addr} {sl_law_due : Array (Option Value)} {oc_law_due kV_law_due dc_law_due pm_law_due cd_law_due ct_law_due : Value}
    {od_law_deed_by an_law_deed_by : Option Addr} {sl_law_deed_by : Array (Option Value)} {oc_law_deed_by kV_law_deed_by dc_law_deed_by pm_law_deed_by cd_law_deed_by ct_law_deed_by : Value}
    {od_law_refused an_law_refused : Option Addr} {sl_law_refused : Array (Option Value)} {oc_law_refused kV_law_refused dc_law_refused pm_law_refused cd_law_refused ct_law_refused : Value}
    {od_law_alike an_law_alike : Option Addr} {sl_law_alike : Array (Option Value)} {oc_law_alike kV_law_alike dc_law_alike pm_law_alike cd_law_alike ct_law_alike : Value}
    {odlaw anlaw : Option Addr} {sllaw : Array (Option Value)} {oclaw kVlaw dclaw pmlaw cdlaw ctlaw : Value}
    {nmWallError qWallError : Str} {bsWallError subWallError : List Value} {hdctWallError abWallError : Bool} {snWallError : List Str} {colWallError : Option Bool} {ddWallError : Option Addr} {k0WallError k1WallError k2WallError k3WallError k5WallError : Option Value}
    {nmNoWall qNoWall : Str} {bsNoWall subNoWall : List Value} {hdctNoWall abNoWall : Bool} {snNoWall : List Str} {colNoWall : Option Bool} {ddNoWall : Option Addr} {k0NoWall k1NoWall k2NoWall k3NoWall k5NoWall : Option Value}
    {nmNoSize qNoSize : Str} {bsNoSize subNoSize : List Value} {hdctNoSize abNoSize : Bool} {snNoSize : List Str} {colNoSize : Option Bool} {ddNoSize : Option Addr} {k0NoSize k1NoSize k2NoSize k3NoSize k5NoSize : Option Value}
    {nmNoNights qNoNights : Str} {bsNoNights subNoNights : List Value} {hdctNoNights abNoNights : Bool} {snNoNights : List Str} {colNoNights : Option Bool} {ddNoNights : Option Addr} {k0NoNights k1NoNights k2NoNights k3NoNights k5NoNights : Option Value}
    {nmNoBox qNoBox : Str} {bsNoBox subNoBox : List Value} {hdctNoBox abNoBox : Bool} {snNoBox : List Str} {colNoBox : Option Bool} {ddNoBox : Option Addr} {k0NoBox k1NoBox k2NoBox k3NoBox k5NoBox : Option Value}
    {nmNoParcel qNoParcel : Str} {bsNoParcel subNoParcel : List Value} {hdctNoParcel abNoParcel : Bool} {snNoParcel : List Str} {colNoParcel : Option Bool} {ddNoParcel : Option Addr} {k0NoParcel k1NoParcel k2NoParcel k3NoParcel k5NoParcel : Option Value}
    {tMOST_BOXES : Tok}
    {tLEAST : Tok}
    {tGREATEST : Tok}
    (aParcel : PySem.W.nsIn K mainGlobals "Parcel" = some (some (.ref cParcel)))
    (pgParcel : PySem.W.plainGet K cParcel Str.empty = true)
    (hdParcel : PySem.W.hasDictIn K cParcel = true)
    (poParcel : PySem.W.plainOver K cParcel = true)
    (saParcel : PySem.W.findIn K (.ref cParcel) "__setattr__" = some (some (.builtin "object.__setattr__")))
    (mkParcel : PySem.W.makesIn K cParcel = true)
    (kcParcel : PySem.W.keepIn K (.ref cParcel) = true)
    (nParcel1 : PySem.W.findIn K (.ref cParcel) "number" = some none)
    (nParcel2 : PySem.W.findIn K (.ref cParcel) "size" = some none)
    (nParcel3 : PySem.W.findIn K (.ref cParcel) "last_night" = some none)
    (aWall : PySem.W.nsIn K mainGlobals "Wall" = some (some (.ref cWall)))
    (pgWall : PySem.W.plainGet K cWall Str.empty = true)
    (hdWall : PySem.W.hasDictIn K cWall = true)
    (poWall : PySem.W.plainOver K cWall = true)
    (saWall : PySem.W.findIn K (.ref cWall) "__setattr__" = some (some (.builtin "object.__setattr__")))
    (mkWall : PySem.W.makesIn K cWall = true)
    (kcWall : PySem.W.keepIn K (.ref cWall) = true)
    (nWall1 : PySem.W.findIn K (.ref cWall) "box_sizes" = some none)
    (nWall2 : PySem.W.findIn K (.ref cWall) "parcels" = some none)
    (nWall3 : PySem.W.findIn K (.ref cWall) "came" = some none)
    (nWall4 : PySem.W.findIn K (.ref cWall) "nights_gone" = some none)
    (aParcel___init__ : PySem.W.findIn K (.ref cParcel) "__init__" = some (some (.ref fParcel___init__)))
    (iParcel___init__ : PySem.W.isFn K (.ref fParcel___init__) = true)
    (lParcel___init__ : K.lookup fParcel___init__ = some ⟨ocParcel___init__, odParcel___init__, .func (PySem.W.fnOf "__init__" "Parcel.__init__" (defArgs s_Parcel___init__) (defBody s_Parcel___init__) (defScope s_Parcel___init__) .none kVParcel___init__ dcParcel___init__ pmParcel___init__ anParcel___init__ cdParcel___init__ ctParcel___init__), slParcel___init__⟩)
    (cParcel___init___ : PySem.W.codeIn K cdParcel___init__ "Parcel.__init__" = true)
    (kParcel___init__ : PySem.W.keepIn K (.ref fParcel___init__) = true)
    (aWall___init__ : PySem.W.findIn K (.ref cWall) "__init__" = some (some (.ref fWall___init__)))
    (iWall___init__ : PySem.W.isFn K (.ref fWall___init__) = true)
    (lWall___init__ : K.lookup fWall___init__ = some ⟨ocWall___init__, odWall___init__, .func (PySem.W.fnOf "__init__" "Wall.__init__" (defArgs s_Wall___init__) (defBody s_Wall___init__) (defScope s_Wall___init__) .none kVWall___init__ dcWall___init__ pmWall___init__ anWall___init__ cdWall___init__ ctWall___init__), slWall___init__⟩)
    (cWall___init___ : PySem.W.codeIn K cdWall___init__ "Wall.__init__" = true)
    (kWall___init__ : PySem.W.keepIn K (.ref fWall___init__) = true)
    (aWall_held : PySem.W.findIn K (.ref cWall) "held" = some (some (.ref fWall_held)))
    (iWall_held : PySem.W.isFn K (.ref fWall_held) = true)
    (lWall_held : K.lookup fWall_held = some ⟨ocWall_held, odWall_held, .func (PySem.W.fnOf "held" "Wall.held" (defArgs s_Wall_held) (defBody s_Wall_held) (defScope s_Wall_held) .none kVWall_held dcWall_held pmWall_held anWall_held cdWall_held ctWall_held), slWall_held⟩)
    (cWall_held_ : PySem.W.codeIn K cdWall_held "Wall.held" = true)
    (kWall_held : PySem.W.keepIn K (.ref fWall_held) = true)
    (aWall_free : PySem.W.findIn K (.ref cWall) "free" = some (some (.ref fWall_free)))
    (iWall_free : PySem.W.isFn K (.ref fWall_free) = true)
    (lWall_free : K.lookup fWall_free = some ⟨ocWall_free, odWall_free, .func (PySem.W.fnOf "free" "Wall.free" (defArgs s_Wall_free) (defBody s_Wall_free) (defScope s_Wall_free) .none kVWall_free dcWall_free pmWall_free anWall_free cdWall_free ctWall_free), slWall_free⟩)
    (cWall_free_ : PySem.W.codeIn K cdWall_free "Wall.free" = true)
    (kWall_free : PySem.W.keepIn K (.ref fWall_free) = true)
    (aWall_come : PySem.W.findIn K (.ref cWall) "come" = some (some (.ref fWall_come)))
    (iWall_come : PySem.W.isFn K (.ref fWall_come) = true)
    (lWall_come : K.lookup fWall_come = some ⟨ocWall_come, odWall_come, .func (PySem.W.fnOf "come" "Wall.come" (defArgs s_Wall_come) (defBody s_Wall_come) (defScope s_Wall_come) .none kVWall_come dcWall_come pmWall_come anWall_come cdWall_come ctWall_come), slWall_come⟩)
    (cWall_come_ : PySem.W.codeIn K cdWall_come "Wall.come" = true)
    (kWall_come : PySem.W.keepIn K (.ref fWall_come) = true)
    (aWall_fetch : PySem.W.findIn K (.ref cWall) "fetch" = some (some (.ref fWall_fetch)))
    (iWall_fetch : PySem.W.isFn K (.ref fWall_fetch) = true)
    (lWall_fetch : K.lookup fWall_fetch = some ⟨ocWall_fetch, odWall_fetch, .func (PySem.W.fnOf "fetch" "Wall.fetch" (defArgs s_Wall_fetch) (defBody s_Wall_fetch) (defScope s_Wall_fetch) .none kVWall_fetch dcWall_fetch pmWall_fetch anWall_fetch cdWall_fetch ctWall_fetch), slWall_fetch⟩)
    (cWall_fetch_ : PySem.W.codeIn K cdWall_fetch "Wall.fetch" = true)
    (kWall_fetch : PySem.W.keepIn K (.ref fWall_fetch) = true)
    (aWall_night : PySem.W.findIn K (.ref cWall) "night" = some (some (.ref fWall_night)))
    (iWall_night : PySem.W.isFn K (.ref fWall_night) = true)
    (lWall_night : K.lookup fWall_night = some ⟨ocWall_night, odWall_night, .func (PySem.W.fnOf "night" "Wall.night" (defArgs s_Wall_night) (defBody s_Wall_night) (defScope s_Wall_night) .none kVWall_night dcWall_night pmWall_night anWall_night cdWall_night ctWall_night), slWall_night⟩)
    (cWall_night_ : PySem.W.codeIn K cdWall_night "Wall.night" = true)
    (kWall_night : PySem.W.keepIn K (.ref fWall_night) = true)
    (aWall_boxes_for : PySem.W.findIn K (.ref cWall) "boxes_for" = some (some (.ref fWall_boxes_for)))
    (iWall_boxes_for : PySem.W.isFn K (.ref fWall_boxes_for) = true)
    (lWall_boxes_for : K.lookup fWall_boxes_for = some ⟨ocWall_boxes_for, odWall_boxes_for, .func (PySem.W.fnOf "boxes_for" "Wall.boxes_for" (defArgs s_Wall_boxes_for) (defBody s_Wall_boxes_for) (defScope s_Wall_boxes_for) .none kVWall_boxes_for dcWall_boxes_for pmWall_boxes_for anWall_boxes_for cdWall_boxes_for ctWall_boxes_for), slWall_boxes_for⟩)
    (cWall_boxes_for_ : PySem.W.codeIn K cdWall_boxes_for "Wall.boxes_for" = true)
    (kWall_boxes_for : PySem.W.keepIn K (.ref fWall_boxes_for) = true)
    (aWall_least_box : PySem.W.findIn K (.ref cWall) "least_box" = some (some (.ref fWall_least_box)))
    (iWall_least_box : PySem.W.isFn K (.ref fWall_least_box) = true)
    (lWall_least_box : K.lookup fWall_least_box = some ⟨ocWall_least_box, odWall_least_box, .func (PySem.W.fnOf "least_box" "Wall.least_box" (defArgs s_Wall_least_box) (defBody s_Wall_least_box) (defScope s_Wall_least_box) .none kVWall_least_box dcWall_least_box pmWall_least_box anWall_least_box cdWall_least_box ctWall_least_box), slWall_least_box⟩)
    (cWall_least_box_ : PySem.W.codeIn K cdWall_least_box "Wall.least_box" = true)
    (kWall_least_box : PySem.W.keepIn K (.ref fWall_least_box) = true)
    (aWall_box_of : PySem.W.findIn K (.ref cWall) "box_of" = some (some (.ref fWall_box_of)))
    (iWall_box_of : PySem.W.isFn K (.ref fWall_box_of) = true)
    (lWall_box_of : K.lookup fWall_box_of = some ⟨ocWall_box_of, odWall_box_of, .func (PySem.W.fnOf "box_of" "Wall.box_of" (defArgs s_Wall_box_of) (defBody s_Wall_box_of) (defScope s_Wall_box_of) .none kVWall_box_of dcWall_box_of pmWall_box_of anWall_box_of cdWall_box_of ctWall_box_of), slWall_box_of⟩)
    (cWall_box_of_ : PySem.W.codeIn K cdWall_box_of "Wall.box_of" = true)
    (kWall_box_of : PySem.W.keepIn K (.ref fWall_box_of) = true)
    (ain_bounds : PySem.W.nsIn K mainGlobals "in_bounds" = some (some (.ref fin_bounds)))
    (lin_bounds : K.lookup fin_bounds = some ⟨ocin_bounds, odin_bounds, .func (PySem.W.fnOf "in_bounds" "in_bounds" (defArgs s_in_bounds) (defBody s_in_bounds) (defScope s_in_bounds) .none kVin_bounds dcin_bounds pmin_bounds anin_bounds cdin_bounds ctin_bounds), slin_bounds⟩)
    (cin_bounds_ : PySem.W.codeIn K cdin_bounds "in_bounds" = true)
    (kin_bounds : PySem.W.keepIn K (.ref fin_bounds) = true)
    (acheck_wall : PySem.W.nsIn K mainGlobals "check_wall" = some (some (.ref fcheck_wall)))
    (lcheck_wall : K.lookup fcheck_wall = some ⟨occheck_wall, odcheck_wall, .func (PySem.W.fnOf "check_wall" "check_wall" (defArgs s_check_wall) (defBody s_check_wall) (defScope s_check_wall) .none kVcheck_wall dccheck_wall pmcheck_wall ancheck_wall cdcheck_wall ctcheck_wall), slcheck_wall⟩)
    (ccheck_wall_ : PySem.W.codeIn K cdcheck_wall "check_wall" = true)
    (kcheck_wall : PySem.W.keepIn K (.ref fcheck_wall) = true)
    (acheck_size : PySem.W.nsIn K mainGlobals "check_size" = some (some (.ref fcheck_size)))
    (lcheck_size : K.lookup fcheck_size = some ⟨occheck_size, odcheck_size, .func (PySem.W.fnOf "check_size" "check_size" (defArgs s_check_size) (defBody s_check_size) (defScope s_check_size) .none kVcheck_size dccheck_size pmcheck_size ancheck_size cdcheck_size ctcheck_size), slcheck_size⟩)
    (ccheck_size_ : PySem.W.codeIn K cdcheck_size "check_size" = true)
    (kcheck_size : PySem.W.keepIn K (.ref fcheck_size) = true)
    (acheck_nights : PySem.W.nsIn K mainGlobals "check_nights" = some (some (.ref fcheck_nights)))
    (lcheck_nights : K.lookup fcheck_nights = some ⟨occheck_nights, odcheck_nights, .func (PySem.W.fnOf "check_nights" "check_nights" (defArgs s_check_nights) (defBody s_check_nights) (defScope s_check_nights) .none kVcheck_nights dccheck_nights pmcheck_nights ancheck_nights cdcheck_nights ctcheck_nights), slcheck_nights⟩)
    (ccheck_nights_ : PySem.W.codeIn K cdcheck_nights "check_nights" = true)
    (kcheck_nights : PySem.W.keepIn K (.ref fcheck_nights) = true)
    (areplay : PySem.W.nsIn K mainGlobals "replay" = some (some (.ref freplay)))
    (lreplay : K.lookup freplay = some ⟨ocreplay, odreplay, .func (PySem.W.fnOf "replay" "replay" (defArgs s_replay) (defBody s_replay) (defScope s_replay) .none kVreplay dcreplay pmreplay anreplay cdreplay ctreplay), slreplay⟩)
    (creplay_ : PySem.W.codeIn K cdreplay "replay" = true)
    (kreplay : PySem.W.keepIn K (.ref freplay) = true)
    (aanswer_to : PySem.W.nsIn K mainGlobals "answer_to" = some (some (.ref fanswer_to)))
    (lanswer_to : K.lookup fanswer_to = some ⟨ocanswer_to, odanswer_to, .func (PySem.W.fnOf "answer_to" "answer_to" (defArgs s_answer_to) (defBody s_answer_to) (defScope s_answer_to) .none kVanswer_to dcanswer_to pmanswer_to ananswer_to cdanswer_to ctanswer_to), slanswer_to⟩)
    (canswer_to_ : PySem.W.codeIn K cdanswer_to "answer_to" = true)
    (kanswer_to : PySem.W.keepIn K (.ref fanswer_to) = true)
    (adone : PySem.W.nsIn K mainGlobals "done" = some (some (.ref fdone)))
    (ldone : K.lookup fdone = some ⟨ocdone, oddone, .func (PySem.W.fnOf "done" "done" (defArgs s_done) (defBody s_done) (defScope s_done) .none kVdone dcdone pmdone andone cddone ctdone), sldone⟩)
    (cdone_ : PySem.W.codeIn K cddone "done" = true)
    (kdone : PySem.W.keepIn K (.ref fdone) = true)
    (a_law_drawn : PySem.W.nsIn K mainGlobals "_law_drawn" = some (some (.ref f_law_drawn)))
    (l_law_drawn : K.lookup f_law_drawn = some ⟨oc_law_drawn, od_law_drawn, .func (PySem.W.fnOf "_law_drawn" "_law_drawn" (defArgs s__law_drawn) (defBody s__law_drawn) (defScope s__law_drawn) .none kV_law_drawn dc_law_drawn pm_law_drawn an_law_drawn cd_law_drawn ct_law_drawn), sl_law_drawn⟩)
    (c_law_drawn_ : PySem.W.codeIn K cd_law_drawn "_law_drawn" = true)
    (k_law_drawn : PySem.W.keepIn K (.ref f_law_drawn) = true)
    (a_law_whole : PySem.W.nsIn K mainGlobals "_law_whole" = some (some (.ref f_law_whole)))
    (l_law_whole : K.lookup f_law_whole = some ⟨oc_law_whole, od_law_whole, .func (PySem.W.fnOf "_law_whole" "_law_whole" (defArgs s__law_whole) (defBody s__law_whole) (defScope s__law_whole) .none kV_law_whole dc_law_whole pm_law_whole an_law_whole cd_law_whole ct_law_whole), sl_law_whole⟩)
    (c_law_whole_ : PySem.W.codeIn K cd_law_whole "_law_whole" = true)
    (k_law_whole : PySem.W.keepIn K (.ref f_law_whole) = true)
    (a_law_row : PySem.W.nsIn K mainGlobals "_law_row" = some (some (.ref f_law_row)))
    (l_law_row : K.lookup f_law_row = some ⟨oc_law_row, od_law_row, .func (PySem.W.fnOf "_law_row" "_law_row" (defArgs s__law_row) (defBody s__law_row) (defScope s__law_row) .none kV_law_row dc_law_row pm_law_row an_law_row cd_law_row ct_law_row), sl_law_row⟩)
    (c_law_row_ : PySem.W.codeIn K cd_law_row "_law_row" = true)
    (k_law_row : PySem.W.keepIn K (.ref f_law_row) = true)
    (a_law_sizes_by : PySem.W.nsIn K mainGlobals "_law_sizes_by" = some (some (.ref f_law_sizes_by)))
    (l_law_sizes_by : K.lookup f_law_sizes_by = some ⟨oc_law_sizes_by, od_law_sizes_by, .func (PySem.W.fnOf "_law_sizes_by" "_law_sizes_by" (defArgs s__law_sizes_by) (defBody s__law_sizes_by) (defScope s__law_sizes_by) .none kV_law_sizes_by dc_law_sizes_by pm_law_sizes_by an_law_sizes_by cd_law_sizes_by ct_law_sizes_by), sl_law_sizes_by⟩)
    (c_law_sizes_by_ : PySem.W.codeIn K cd_law_sizes_by "_law_sizes_by" = true)
    (k_law_sizes_by : PySem.W.keepIn K (.ref f_law_sizes_by) = true)
    (a_law_held : PySem.W.nsIn K mainGlobals "_law_held" = some (some (.ref f_law_held)))
    (l_law_held : K.lookup f_law_held = some ⟨oc_law_held, od_law_held, .func (PySem.W.fnOf "_law_held" "_law_held" (defArgs s__law_held) (defBody s__law_held) (defScope s__law_held) .none kV_law_held dc_law_held pm_law_held an_law_held cd_law_held ct_law_held), sl_law_held⟩)
    (c_law_held_ : PySem.W.codeIn K cd_law_held "_law_held" = true)
    (k_law_held : PySem.W.keepIn K (.ref f_law_held) = true)
    (a_law_box_for : PySem.W.nsIn K mainGlobals "_law_box_for" = some (some (.ref f_law_box_for)))
    (l_law_box_for : K.lookup f_law_box_for = some ⟨oc_law_box_for, od_law_box_for, .func (PySem.W.fnOf "_law_box_for" "_law_box_for" (defArgs s__law_box_for) (defBody s__law_box_for) (defScope s__law_box_for) .none kV_law_box_for dc_law_box_for pm_law_box_for an_law_box_for cd_law_box_for ct_law_box_for), sl_law_box_for⟩)
    (c_law_box_for_ : PySem.W.codeIn K cd_law_box_for "_law_box_for" = true)
    (k_law_box_for : PySem.W.keepIn K (.ref f_law_box_for) = true)
    (a_law_due : PySem.W.nsIn K mainGlobals "_law_due" = some (some (.ref f_law_due)))
    (l_law_due : K.lookup f_law_due = some ⟨oc_law_due, od_law_due, .func (PySem.W.fnOf "_law_due" "_law_due" (defArgs s__law_due) (defBody s__law_due) (defScope s__law_due) .none kV_law_due dc_law_due pm_law_due an_law_due cd_law_due ct_law_due), sl_law_due⟩)
    (c_law_due_ : PySem.W.codeIn K cd_law_due "_law_due" = true)
    (k_law_due : PySem.W.keepIn K (.ref f_law_due) = true)
    (a_law_deed_by : PySem.W.nsIn K mainGlobals "_law_deed_by" = some (some (.ref f_law_deed_by)))
    (l_law_deed_by : K.lookup f_law_deed_by = some ⟨oc_law_deed_by, od_law_deed_by, .func (PySem.W.fnOf "_law_deed_by" "_law_deed_by" (defArgs s__law_deed_by) (defBody s__law_deed_by) (defScope s__law_deed_by) .none kV_law_deed_by dc_law_deed_by pm_law_deed_by an_law_deed_by cd_law_deed_by ct_law_deed_by), sl_law_deed_by⟩)
    (c_law_deed_by_ : PySem.W.codeIn K cd_law_deed_by "_law_deed_by" = true)
    (k_law_deed_by : PySem.W.keepIn K (.ref f_law_deed_by) = true)
    (a_law_refused : PySem.W.nsIn K mainGlobals "_law_refused" = some (some (.ref f_law_refused)))
    (l_law_refused : K.lookup f_law_refused = some ⟨oc_law_refused, od_law_refused, .func (PySem.W.fnOf "_law_refused" "_law_refused" (defArgs s__law_refused) (defBody s__law_refused) (defScope s__law_refused) .none kV_law_refused dc_law_refused pm_law_refused an_law_refused cd_law_refused ct_law_refused), sl_law_refused⟩)
    (c_law_refused_ : PySem.W.codeIn K cd_law_refused "_law_refused" = true)
    (k_law_refused : PySem.W.keepIn K (.ref f_law_refused) = true)
    (a_law_alike : PySem.W.nsIn K mainGlobals "_law_alike" = some (some (.ref f_law_alike)))
    (l_law_alike : K.lookup f_law_alike = some ⟨oc_law_alike, od_law_alike, .func (PySem.W.fnOf "_law_alike" "_law_alike" (defArgs s__law_alike) (defBody s__law_alike) (defScope s__law_alike) .none kV_law_alike dc_law_alike pm_law_alike an_law_alike cd_law_alike ct_law_alike), sl_law_alike⟩)
    (c_law_alike_ : PySem.W.codeIn K cd_law_alike "_law_alike" = true)
    (k_law_alike : PySem.W.keepIn K (.ref f_law_alike) = true)
    (alaw : PySem.W.nsIn K mainGlobals "law" = some (some (.ref flaw)))
    (llaw : K.lookup flaw = some ⟨oclaw, odlaw, .func (PySem.W.fnOf "law" "law" (defArgs s_law) (defBody s_law) (defScope s_law) .none kVlaw dclaw pmlaw anlaw cdlaw ctlaw), sllaw⟩)
    (claw_ : PySem.W.codeIn K cdlaw "law" = true)
    (klaw : PySem.W.keepIn K (.ref flaw) = true)
    (aWallError : PySem.W.nsIn K mainGlobals "WallError" = some (some (.ref cWallError)))
    (xWallError : K.lookup cWallError = some (excClassObj nmWallError qWallError cWallError NWallError bsWallError mroVE hdctWallError snWallError subWallError abWallError colWallError ddWallError k0WallError k1WallError k2WallError k3WallError k5WallError "ValueError.__new__"))
    (yWallError : noKey K NWallError "__init__" = true)
    (aNoWall : PySem.W.nsIn K mainGlobals "NoWall" = some (some (.ref cNoWall)))
    (xNoWall : K.lookup cNoWall = some (excClassObj nmNoWall qNoWall cNoWall NNoWall bsNoWall (.ref cWallError :: mroVE) hdctNoWall snNoWall subNoWall abNoWall colNoWall ddNoWall k0NoWall k1NoWall k2NoWall k3NoWall k5NoWall "ValueError.__new__"))
    (yNoWall : noKey K NNoWall "__init__" = true)
    (tyNoWall : PySem.W.typeIn K (.ref cNoWall) = some (.type "type"))
    (tbNoWall : PySem.W.subIn K (.ref cNoWall) (.type "BaseException") = some true)
    (tcNoWall : (PySem.W.clsIn K cNoWall).isSome = true)
    (aNoSize : PySem.W.nsIn K mainGlobals "NoSize" = some (some (.ref cNoSize)))
    (xNoSize : K.lookup cNoSize = some (excClassObj nmNoSize qNoSize cNoSize NNoSize bsNoSize (.ref cWallError :: mroVE) hdctNoSize snNoSize subNoSize abNoSize colNoSize ddNoSize k0NoSize k1NoSize k2NoSize k3NoSize k5NoSize "ValueError.__new__"))
    (yNoSize : noKey K NNoSize "__init__" = true)
    (tyNoSize : PySem.W.typeIn K (.ref cNoSize) = some (.type "type"))
    (tbNoSize : PySem.W.subIn K (.ref cNoSize) (.type "BaseException") = some true)
    (tcNoSize : (PySem.W.clsIn K cNoSize).isSome = true)
    (aNoNights : PySem.W.nsIn K mainGlobals "NoNights" = some (some (.ref cNoNights)))
    (xNoNights : K.lookup cNoNights = some (excClassObj nmNoNights qNoNights cNoNights NNoNights bsNoNights (.ref cWallError :: mroVE) hdctNoNights snNoNights subNoNights abNoNights colNoNights ddNoNights k0NoNights k1NoNights k2NoNights k3NoNights k5NoNights "ValueError.__new__"))
    (yNoNights : noKey K NNoNights "__init__" = true)
    (tyNoNights : PySem.W.typeIn K (.ref cNoNights) = some (.type "type"))
    (tbNoNights : PySem.W.subIn K (.ref cNoNights) (.type "BaseException") = some true)
    (tcNoNights : (PySem.W.clsIn K cNoNights).isSome = true)
    (aNoBox : PySem.W.nsIn K mainGlobals "NoBox" = some (some (.ref cNoBox)))
    (xNoBox : K.lookup cNoBox = some (excClassObj nmNoBox qNoBox cNoBox NNoBox bsNoBox (.ref cWallError :: mroVE) hdctNoBox snNoBox subNoBox abNoBox colNoBox ddNoBox k0NoBox k1NoBox k2NoBox k3NoBox k5NoBox "ValueError.__new__"))
    (yNoBox : noKey K NNoBox "__init__" = true)
    (tyNoBox : PySem.W.typeIn K (.ref cNoBox) = some (.type "type"))
    (tbNoBox : PySem.W.subIn K (.ref cNoBox) (.type "BaseException") = some true)
    (tcNoBox : (PySem.W.clsIn K cNoBox).isSome = true)
    (aNoParcel : PySem.W.nsIn K mainGlobals "NoParcel" = some (some (.ref cNoParcel)))
    (xNoParcel : K.lookup cNoParcel = some (excClassObj nmNoParcel qNoParcel cNoParcel NNoParcel bsNoParcel (.ref cWallError :: mroVE) hdctNoParcel snNoParcel subNoParcel abNoParcel colNoParcel ddNoParcel k0NoParcel k1NoParcel k2NoParcel k3NoParcel k5NoParcel "ValueError.__new__"))
    (yNoParcel : noKey K NNoParcel "__init__" = true)
    (tyNoParcel : PySem.W.typeIn K (.ref cNoParcel) = some (.type "type"))
    (tbNoParcel : PySem.W.subIn K (.ref cNoParcel) (.type "BaseException") = some true)
    (tcNoParcel : (PySem.W.clsIn K cNoParcel).isSome = true)
    (s_NoSize_NoSize : PySem.W.subIn K (.ref cNoSize) (.ref cNoSize) = some true)
    (s_NoNights_NoSize : PySem.W.subIn K (.ref cNoNights) (.ref cNoSize) = some false)
    (s_NoNights_NoNights : PySem.W.subIn K (.ref cNoNights) (.ref cNoNights) = some true)
    (s_NoBox_NoSize : PySem.W.subIn K (.ref cNoBox) (.ref cNoSize) = some false)
    (s_NoBox_NoNights : PySem.W.subIn K (.ref cNoBox) (.ref cNoNights) = some false)
    (s_NoBox_NoBox : PySem.W.subIn K (.ref cNoBox) (.ref cNoBox) = some true)
    (s_NoParcel_NoSize : PySem.W.subIn K (.ref cNoParcel) (.ref cNoSize) = some false)
    (s_NoParcel_NoNights : PySem.W.subIn K (.ref cNoParcel) (.ref cNoNights) = some false)
    (s_NoParcel_NoBox : PySem.W.subIn K (.ref cNoParcel) (.ref cNoBox) = some false)
    (s_NoParcel_NoParcel : PySem.W.subIn K (.ref cNoParcel) (.ref cNoParcel) = some true)
    (gaNoWall : PySem.W.findIn K (.ref cNoWall) "__getattribute__" = some (some (.builtin "BaseException.__getattribute__")))
    (gtNoWall : PySem.W.findIn K (.ref cNoWall) "__getattr__" = some none)
    (csNoWall : PySem.W.findIn K (.ref cNoWall) "__class__" = some (some (.builtin "object.__class__")))
    (sbNoWall : PySem.W.subIn K (.ref cNoWall) (.type "BaseException") = some true)
    (soNoWall : PySem.W.subIn K (.ref cNoWall) (.type "object") = some true)
    (clNoWall : (PySem.W.clsIn K cNoWall).isSome = true)
    (s_NoWall_NoWall : PySem.W.subIn K (.ref cNoWall) (.ref cNoWall) = some true)
    (q_NoWall_WallError : PySem.W.kitOne K (.ref cNoWall) (.ref cWallError) = some true)
    (aMOST_BOXES : PySem.W.nsIn K mainGlobals "MOST_BOXES" = some (some (.int 8 tMOST_BOXES)))
    (aLEAST : PySem.W.nsIn K mainGlobals "LEAST" = some (some (.int 1 tLEAST)))
    (aGREATEST : PySem.W.nsIn K mainGlobals "GREATEST" = some (some (.int 9 tGREATEST)))
    (zlen : PySem.W.nsIn K mainGlobals "len" = some none)
    (zrange : PySem.W.nsIn K mainGlobals "range" = some none)
    (zlist : PySem.W.nsIn K mainGlobals "list" = some none)
    (zmin : PySem.W.nsIn K mainGlobals "min" = some none)
    (zmax : PySem.W.nsIn K mainGlobals "max" = some none)
    (zisinstance : PySem.W.nsIn K mainGlobals "isinstance" = some none)
    (zint : PySem.W.nsIn K mainGlobals "int" = some none)
    (zbool : PySem.W.nsIn K mainGlobals "bool" = some none)
    (zenumerate : PySem.W.nsIn K mainGlobals "enumerate" = some none)
    (zValueError : PySem.W.nsIn K mainGlobals "ValueError" = some none)
    (zsorted : PySem.W.nsIn K mainGlobals "sorted" = some none)
    (zstr : PySem.W.nsIn K mainGlobals "str" = some none)
    (ztuple : PySem.W.nsIn K mainGlobals "tuple" = some none)
    (zreversed : PySem.W.nsIn K mainGlobals "reversed" = some none)
    (zall : PySem.W.nsIn K mainGlobals "all" = some none)
    (zset : PySem.W.nsIn K mainGlobals "set" = some none)
    (kit_int_int : PySem.W.kitOne K (.type "int") (.type "int") = some true)
    (kit_int_bool : PySem.W.kitOne K (.type "int") (.type "bool") = some false)
    (kit_list_list : PySem.W.kitOne K (.type "list") (.type "list") = some true)
    (kit_str_list : PySem.W.kitOne K (.type "str") (.type "list") = some false)
    (kit_int_list : PySem.W.kitOne K (.type "int") (.type "list") = some false)
    (kit_str_str : PySem.W.kitOne K (.type "str") (.type "str") = some true)
    (kit_int_str : PySem.W.kitOne K (.type "int") (.type "str") = some false)
    (kit_tuple_tuple : PySem.W.kitOne K (.type "tuple") (.type "tuple") = some true) :
    ∃ fd : FuncData, (∀ (s : Shared) (v : Value), BindsTo s fd ⟨[v], []⟩ [("script", v)]) ∧ ∀ base : Heap, K.In base → base.Ns mainGlobals mg → FnOk l.prog w K mg base CX0 9 fa fd ["script"] (spLaw K) := by
  have e := hfa.symm.trans (PySem.W.mg_of X G alaw)
  cases e
  have clParcel : Cls K cParcel := ⟨pgParcel, hdParcel, poParcel, saParcel⟩
  have mParcel : mg "Parcel" = some (.ref cParcel) := PySem.W.mg_of X G aParcel
  have clWall : Cls K cWall := ⟨pgWall, hdWall, poWall, saWall⟩
  have mWall : mg "Wall" = some (.ref cWall) := PySem.W.mg_of X G aWall
  have FParcel___init__ := fun_mk (st := s_Parcel___init__) lParcel___init__ cParcel___init___ kParcel___init__
  have bParcel___init__ := FParcel___init__.binds4 (p1 := "self") (p2 := "number") (p3 := "size") (p4 := "last_night") fun _ _ _ _ _ _ _ _ _ _ => rfl
  have MParcel : Mk K cParcel fParcel___init__ := ⟨mkParcel, aParcel___init__, iParcel___init__, kcParcel⟩
  have FWall___init__ := fun_mk (st := s_Wall___init__) lWall___init__ cWall___init___ kWall___init__
  have bWall___init__ := FWall___init__.binds2 (p1 := "self") (p2 := "sizes") fun _ _ _ _ _ _ _ _ => rfl
  have MWall : Mk K cWall fWall___init__ := ⟨mkWall, aWall___init__, iWall___init__, kcWall⟩
  have FWall_held := fun_mk (st := s_Wall_held) lWall_held cWall_held_ kWall_held
  have bWall_held := FWall_held.binds1 (p1 := "self") fun _ _ _ _ _ _ _ => rfl
  have meWall_held : Meth K cWall "held" fWall_held := ⟨aWall_held, iWall_held, kWall_held⟩
  have FWall_free := fun_mk (st := s_Wall_free) lWall_free cWall_free_ kWall_free
  have bWall_free := FWall_free.binds1 (p1 := "self") fun _ _ _ _ _ _ _ => rfl
  have meWall_free : Meth K cWall "free" fWall_free := ⟨aWall_free, iWall_free, kWall_free⟩
  have FWall_come := fun_mk (st := s_Wall_come) lWall_come cWall_come_ kWall_come
  have bWall_come := FWall_come.binds3 (p1 := "self") (p2 := "size") (p3 := "nights") fun _ _ _ _ _ _ _ _ _ => rfl
  have meWall_come : Meth K cWall "come" fWall_come := ⟨aWall_come, iWall_come, kWall_come⟩
  have FWall_fetch := fun_mk (st := s_Wall_fetch) lWall_fetch cWall_fetch_ kWall_fetch
  have bWall_fetch := FWall_fetch.binds2 (p1 := "self") (p2 := "parcel") fun _ _ _ _ _ _ _ _ => rfl
  have meWall_fetch : Meth K cWall "fetch" fWall_fetch := ⟨aWall_fetch, iWall_fetch, kWall_fetch⟩
  have FWall_night := fun_mk (st := s_Wall_night) lWall_night cWall_night_ kWall_night
  have bWall_night := FWall_night.binds1 (p1 := "self") fun _ _ _ _ _ _ _ => rfl
  have meWall_night : Meth K cWall "night" fWall_night := ⟨aWall_night, iWall_night, kWall_night⟩
  have FWall_boxes_for := fun_mk (st := s_Wall_boxes_for) lWall_boxes_for cWall_boxes_for_ kWall_boxes_for
  have bWall_boxes_for := FWall_boxes_for.binds2 (p1 := "self") (p2 := "size") fun _ _ _ _ _ _ _ _ => rfl
  have meWall_boxes_for : Meth K cWall "boxes_for" fWall_boxes_for := ⟨aWall_boxes_for, iWall_boxes_for, kWall_boxes_for⟩
  have FWall_least_box := fun_mk (st := s_Wall_least_box) lWall_least_box cWall_least_box_ kWall_least_box
  have bWall_least_box := FWall_least_box.binds2 (p1 := "self") (p2 := "size") fun _ _ _ _ _ _ _ _ => rfl
  have meWall_least_box : Meth K cWall "least_box" fWall_least_box := ⟨aWall_least_box, iWall_least_box, kWall_least_box⟩
  have FWall_box_of := fun_mk (st := s_Wall_box_of) lWall_box_of cWall_box_of_ kWall_box_of
  have bWall_box_of := FWall_box_of.binds2 (p1 := "self") (p2 := "parcel") fun _ _ _ _ _ _ _ _ => rfl
  have meWall_box_of : Meth K cWall "box_of" fWall_box_of := ⟨aWall_box_of, iWall_box_of, kWall_box_of⟩
  have Fin_bounds := fun_mk (st := s_in_bounds) lin_bounds cin_bounds_ kin_bounds
  have bin_bounds := Fin_bounds.binds1 (p1 := "number") fun _ _ _ _ _ _ _ => rfl
  have min_bounds : mg "in_bounds" = some (.ref fin_bounds) := PySem.W.mg_of X G ain_bounds
  have Fcheck_wall := fun_mk (st := s_check_wall) lcheck_wall ccheck_wall_ kcheck_wall
  have bcheck_wall := Fcheck_wall.binds1 (p1 := "sizes") fun _ _ _ _ _ _ _ => rfl
  have mcheck_wall : mg "check_wall" = some (.ref fcheck_wall) := PySem.W.mg_of X G acheck_wall
  have Fcheck_size := fun_mk (st := s_check_size) lcheck_size ccheck_size_ kcheck_size
  have bcheck_size := Fcheck_size.binds1 (p1 := "size") fun _ _ _ _ _ _ _ => rfl
  have mcheck_size : mg "check_size" = some (.ref fcheck_size) := PySem.W.mg_of X G acheck_size
  have Fcheck_nights := fun_mk (st := s_check_nights) lcheck_nights ccheck_nights_ kcheck_nights
  have bcheck_nights := Fcheck_nights.binds1 (p1 := "nights") fun _ _ _ _ _ _ _ => rfl
  have mcheck_nights : mg "check_nights" = some (.ref fcheck_nights) := PySem.W.mg_of X G acheck_nights
  have Freplay := fun_mk (st := s_replay) lreplay creplay_ kreplay
  have breplay := Freplay.binds2 (p1 := "sizes") (p2 := "deeds") fun _ _ _ _ _ _ _ _ => rfl
  have mreplay : mg "replay" = some (.ref freplay) := PySem.W.mg_of X G areplay
  have Fanswer_to := fun_mk (st := s_answer_to) lanswer_to canswer_to_ kanswer_to
  have banswer_to := Fanswer_to.binds2 (p1 := "wall") (p2 := "deed") fun _ _ _ _ _ _ _ _ => rfl
  have manswer_to : mg "answer_to" = some (.ref fanswer_to) := PySem.W.mg_of X G aanswer_to
  have Fdone := fun_mk (st := s_done) ldone cdone_ kdone
  have bdone := Fdone.binds2 (p1 := "wall") (p2 := "deed") fun _ _ _ _ _ _ _ _ => rfl
  have mdone : mg "done" = some (.ref fdone) := PySem.W.mg_of X G adone
  have F_law_drawn := fun_mk (st := s__law_drawn) l_law_drawn c_law_drawn_ k_law_drawn
  have b_law_drawn := F_law_drawn.binds3 (p1 := "script") (p2 := "k") (p3 := "many") fun _ _ _ _ _ _ _ _ _ => rfl
  have m_law_drawn : mg "_law_drawn" = some (.ref f_law_drawn) := PySem.W.mg_of X G a_law_drawn
  have F_law_whole := fun_mk (st := s__law_whole) l_law_whole c_law_whole_ k_law_whole
  have b_law_whole := F_law_whole.binds1 (p1 := "found") fun _ _ _ _ _ _ _ => rfl
  have m_law_whole : mg "_law_whole" = some (.ref f_law_whole) := PySem.W.mg_of X G a_law_whole
  have F_law_row := fun_mk (st := s__law_row) l_law_row c_law_row_ k_law_row
  have b_law_row := F_law_row.binds2 (p1 := "found") (p2 := "due") fun _ _ _ _ _ _ _ _ => rfl
  have m_law_row : mg "_law_row" = some (.ref f_law_row) := PySem.W.mg_of X G a_law_row
  have F_law_sizes_by := fun_mk (st := s__law_sizes_by) l_law_sizes_by c_law_sizes_by_ k_law_sizes_by
  have b_law_sizes_by := F_law_sizes_by.binds2 (p1 := "script") (p2 := "base") fun _ _ _ _ _ _ _ _ => rfl
  have m_law_sizes_by : mg "_law_sizes_by" = some (.ref f_law_sizes_by) := PySem.W.mg_of X G a_law_sizes_by
  have F_law_held := fun_mk (st := s__law_held) l_law_held c_law_held_ k_law_held
  have b_law_held := F_law_held.binds2 (p1 := "found") (p2 := "due") fun _ _ _ _ _ _ _ _ => rfl
  have m_law_held : mg "_law_held" = some (.ref f_law_held) := PySem.W.mg_of X G a_law_held
  have F_law_box_for := fun_mk (st := s__law_box_for) l_law_box_for c_law_box_for_ k_law_box_for
  have b_law_box_for := F_law_box_for.binds3 (p1 := "sizes") (p2 := "held") (p3 := "size") fun _ _ _ _ _ _ _ _ _ => rfl
  have m_law_box_for : mg "_law_box_for" = some (.ref f_law_box_for) := PySem.W.mg_of X G a_law_box_for
  have F_law_due := fun_mk (st := s__law_due) l_law_due c_law_due_ k_law_due
  have b_law_due := F_law_due.binds3 (p1 := "sizes") (p2 := "state") (p3 := "deed") fun _ _ _ _ _ _ _ _ _ => rfl
  have m_law_due : mg "_law_due" = some (.ref f_law_due) := PySem.W.mg_of X G a_law_due
  have F_law_deed_by := fun_mk (st := s__law_deed_by) l_law_deed_by c_law_deed_by_ k_law_deed_by
  have b_law_deed_by := F_law_deed_by.binds3 (p1 := "script") (p2 := "k") (p3 := "state") fun _ _ _ _ _ _ _ _ _ => rfl
  have m_law_deed_by : mg "_law_deed_by" = some (.ref f_law_deed_by) := PySem.W.mg_of X G a_law_deed_by
  have F_law_refused := fun_mk (st := s__law_refused) l_law_refused c_law_refused_ k_law_refused
  have b_law_refused := F_law_refused.binds2 (p1 := "sizes") (p2 := "deeds") fun _ _ _ _ _ _ _ _ => rfl
  have m_law_refused : mg "_law_refused" = some (.ref f_law_refused) := PySem.W.mg_of X G a_law_refused
  have F_law_alike := fun_mk (st := s__law_alike) l_law_alike c_law_alike_ k_law_alike
  have b_law_alike := F_law_alike.binds2 (p1 := "found") (p2 := "due") fun _ _ _ _ _ _ _ _ => rfl
  have m_law_alike : mg "_law_alike" = some (.ref f_law_alike) := PySem.W.mg_of X G a_law_alike
  have Flaw := fun_mk (st := s_law) llaw claw_ klaw
  have blaw := Flaw.binds1 (p1 := "script") fun _ _ _ _ _ _ _ => rfl
  have mWallError : mg "WallError" = some (.ref cWallError) := PySem.W.mg_of X G aWallError
  have XWallError : XCls K cWallError mroVE "ValueError.__new__" := ⟨_, _, _, _, _, _, _, _, _, _, _, _, _, _, _, xWallError, yWallError⟩
  have mNoWall : mg "NoWall" = some (.ref cNoWall) := PySem.W.mg_of X G aNoWall
  have XNoWall : XCls K cNoWall (.ref cWallError :: mroVE) "ValueError.__new__" := ⟨_, _, _, _, _, _, _, _, _, _, _, _, _, _, _, xNoWall, yNoWall⟩
  have RNoWall : Rs K mg cWallError cNoWall "NoWall" := ⟨XNoWall, .own XWallError .base, mNoWall⟩
  have HNoWall : HCls K cNoWall := ⟨tyNoWall, tbNoWall, tcNoWall⟩
  have mNoSize : mg "NoSize" = some (.ref cNoSize) := PySem.W.mg_of X G aNoSize
  have XNoSize : XCls K cNoSize (.ref cWallError :: mroVE) "ValueError.__new__" := ⟨_, _, _, _, _, _, _, _, _, _, _, _, _, _, _, xNoSize, yNoSize⟩
  have RNoSize : Rs K mg cWallError cNoSize "NoSize" := ⟨XNoSize, .own XWallError .base, mNoSize⟩
  have HNoSize : HCls K cNoSize := ⟨tyNoSize, tbNoSize, tcNoSize⟩
  have mNoNights : mg "NoNights" = some (.ref cNoNights) := PySem.W.mg_of X G aNoNights
  have XNoNights : XCls K cNoNights (.ref cWallError :: mroVE) "ValueError.__new__" := ⟨_, _, _, _, _, _, _, _, _, _, _, _, _, _, _, xNoNights, yNoNights⟩
  have RNoNights : Rs K mg cWallError cNoNights "NoNights" := ⟨XNoNights, .own XWallError .base, mNoNights⟩
  have HNoNights : HCls K cNoNights := ⟨tyNoNights, tbNoNights, tcNoNights⟩
  have mNoBox : mg "NoBox" = some (.ref cNoBox) := PySem.W.mg_of X G aNoBox
  have XNoBox : XCls K cNoBox (.ref cWallError :: mroVE) "ValueError.__new__" := ⟨_, _, _, _, _, _, _, _, _, _, _, _, _, _, _, xNoBox, yNoBox⟩
  have RNoBox : Rs K mg cWallError cNoBox "NoBox" := ⟨XNoBox, .own XWallError .base, mNoBox⟩
  have HNoBox : HCls K cNoBox := ⟨tyNoBox, tbNoBox, tcNoBox⟩
  have mNoParcel : mg "NoParcel" = some (.ref cNoParcel) := PySem.W.mg_of X G aNoParcel
  have XNoParcel : XCls K cNoParcel (.ref cWallError :: mroVE) "ValueError.__new__" := ⟨_, _, _, _, _, _, _, _, _, _, _, _, _, _, _, xNoParcel, yNoParcel⟩
  have RNoParcel : Rs K mg cWallError cNoParcel "NoParcel" := ⟨XNoParcel, .own XWallError .base, mNoParcel⟩
  have HNoParcel : HCls K cNoParcel := ⟨tyNoParcel, tbNoParcel, tcNoParcel⟩
  have ENoWall : ECls K cNoWall := ⟨gaNoWall, gtNoWall, csNoWall, sbNoWall, soNoWall, clNoWall⟩
  have mMOST_BOXES : mg "MOST_BOXES" = some (.int 8 tMOST_BOXES) := PySem.W.mg_of X G aMOST_BOXES
  have mLEAST : mg "LEAST" = some (.int 1 tLEAST) := PySem.W.mg_of X G aLEAST
  have mGREATEST : mg "GREATEST" = some (.int 9 tGREATEST) := PySem.W.mg_of X G aGREATEST
  have mlen : mg "len" = none := PySem.W.mg_none_of X G zlen
  have mrange : mg "range" = none := PySem.W.mg_none_of X G zrange
  have mlist : mg "list" = none := PySem.W.mg_none_of X G zlist
  have mmin : mg "min" = none := PySem.W.mg_none_of X G zmin
  have mmax : mg "max" = none := PySem.W.mg_none_of X G zmax
  have misinstance : mg "isinstance" = none := PySem.W.mg_none_of X G zisinstance
  have mint : mg "int" = none := PySem.W.mg_none_of X G zint
  have mbool : mg "bool" = none := PySem.W.mg_none_of X G zbool
  have menumerate : mg "enumerate" = none := PySem.W.mg_none_of X G zenumerate
  have mValueError : mg "ValueError" = none := PySem.W.mg_none_of X G zValueError
  have msorted : mg "sorted" = none := PySem.W.mg_none_of X G zsorted
  have mstr : mg "str" = none := PySem.W.mg_none_of X G zstr
  have mtuple : mg "tuple" = none := PySem.W.mg_none_of X G ztuple
  have mreversed : mg "reversed" = none := PySem.W.mg_none_of X G zreversed
  have mall : mg "all" = none := PySem.W.mg_none_of X G zall
  have mset : mg "set" = none := PySem.W.mg_none_of X G zset
  refine ⟨PySem.W.fnOf "law" "law" (defArgs s_law) (defBody s_law) (defScope s_law) .none kVlaw dclaw pmlaw anlaw cdlaw ctlaw, fun s v => .of_eq rfl, fun base _ _ => ?_⟩
  have T : WTxt K cWall := ⟨clWall, nWall1, nWall2, nWall3, nWall4⟩
  have TP : PTxt K cParcel := ⟨clParcel, nParcel1, nParcel2, nParcel3⟩
  have g__law_drawn : Gd l.prog w K mg base "_law_drawn" s__law_drawn ["script", "k", "many"] CX0 1 (spDrawn K) f_law_drawn _ := ⟨F_law_drawn, b_law_drawn, m_law_drawn, ok_drawn (P := l.prog) (w := w) (mg := mg) (base := base) F_law_drawn mlen⟩
  have g__law_whole : Gd l.prog w K mg base "_law_whole" s__law_whole ["found"] CX0 1 (spWhole) f_law_whole _ := ⟨F_law_whole, b_law_whole, m_law_whole, ok_whole (P := l.prog) (w := w) (mg := mg) (base := base) F_law_whole misinstance mint mbool kit_int_int kit_int_bool⟩
  have g__law_row : Gd l.prog w K mg base "_law_row" s__law_row ["found", "due"] CX0 2 (spRow K) f_law_row _ := ⟨F_law_row, b_law_row, m_law_row, ok_row F_law_row g__law_whole misinstance mlist mlen mrange kit_list_list⟩
  have g__law_held : Gd l.prog w K mg base "_law_held" s__law_held ["found", "due"] CX0 2 (spHeldEq K) f_law_held _ := ⟨F_law_held, b_law_held, m_law_held, ok_heldEq F_law_held g__law_whole misinstance mlist mlen mrange kit_list_list⟩
  have g_in_bounds : Gd l.prog w K mg base "in_bounds" s_in_bounds ["number"] CX0 1 (spBounds) fin_bounds _ := ⟨Fin_bounds, bin_bounds, min_bounds, ok_bounds (P := l.prog) (w := w) (mg := mg) (base := base) Fin_bounds mLEAST mGREATEST⟩
  have g_check_wall : Gd l.prog w K mg base "check_wall" s_check_wall ["sizes"] (CXF l.prog w) 2 (spCheckWall K cNoWall) fcheck_wall _ := ⟨Fcheck_wall, bcheck_wall, mcheck_wall, ok_checkWall Fcheck_wall g_in_bounds mlen mMOST_BOXES mLEAST mGREATEST RNoWall⟩
  have GI := ok_init (cP := cParcel) FWall___init__ T g_check_wall mlist
  have d_held : Md l.prog w K mg base cWall "held" ["self"] CX0 1 (spHeld cWall cParcel) fWall_held _ := ⟨bWall_held, meWall_held, ok_held (P := l.prog) (w := w) (mg := mg) (base := base) FWall_held T TP⟩
  have d_free : Md l.prog w K mg base cWall "free" ["self"] CX0 1 (spFree cWall cParcel) fWall_free _ := ⟨bWall_free, meWall_free, ok_free (P := l.prog) (w := w) (mg := mg) (base := base) FWall_free T menumerate⟩
  have g_check_size : Gd l.prog w K mg base "check_size" s_check_size ["size"] (CXF l.prog w) 2 (spCheckNum cNoSize) fcheck_size _ := ⟨Fcheck_size, bcheck_size, mcheck_size, ok_checkSize Fcheck_size g_in_bounds mLEAST mGREATEST RNoSize⟩
  have g_check_nights : Gd l.prog w K mg base "check_nights" s_check_nights ["nights"] (CXF l.prog w) 2 (spCheckNum cNoNights) fcheck_nights _ := ⟨Fcheck_nights, bcheck_nights, mcheck_nights, ok_checkNights Fcheck_nights g_in_bounds mLEAST mGREATEST RNoNights⟩
  have GP := ok_parcel (P := l.prog) (w := w) (mg := mg) (base := base) FParcel___init__ TP
  have d_boxes_for : Md l.prog w K mg base cWall "boxes_for" ["self", "size"] CX0 2 (spBoxesFor cWall cParcel) fWall_boxes_for _ := ⟨bWall_boxes_for, meWall_boxes_for, ok_boxesFor FWall_boxes_for T d_free⟩
  have d_least_box : Md l.prog w K mg base cWall "least_box" ["self", "size"] (CXF l.prog w) 3 (spLeastBox cWall cParcel cNoBox) fWall_least_box _ := ⟨bWall_least_box, meWall_least_box, ok_leastBox FWall_least_box T d_boxes_for RNoBox mlen mmin⟩
  have d_come : Md l.prog w K mg base cWall "come" ["self", "size", "nights"] (CXF l.prog w) 4 (spCome cWall cParcel cNoSize cNoNights cNoBox) fWall_come _ := ⟨bWall_come, meWall_come, ok_come FWall_come T g_check_size g_check_nights d_least_box MParcel bParcel___init__ GP mParcel⟩
  have d_box_of : Md l.prog w K mg base cWall "box_of" ["self", "parcel"] (CXF l.prog w) 2 (spBoxOf cWall cParcel cNoParcel) fWall_box_of _ := ⟨bWall_box_of, meWall_box_of, ok_boxOf FWall_box_of T d_held RNoParcel⟩
  have d_fetch : Md l.prog w K mg base cWall "fetch" ["self", "parcel"] (CXF l.prog w) 3 (spFetch cWall cParcel cNoParcel) fWall_fetch _ := ⟨bWall_fetch, meWall_fetch, ok_fetch FWall_fetch T d_box_of⟩
  have d_night : Md l.prog w K mg base cWall "night" ["self"] CX0 1 (spNight cWall cParcel) fWall_night _ := ⟨bWall_night, meWall_night, ok_night (P := l.prog) (w := w) (mg := mg) (base := base) FWall_night T TP mlen mrange msorted⟩
  have g__law_sizes_by : Gd l.prog w K mg base "_law_sizes_by" s__law_sizes_by ["script", "base"] CX0 2 (spSizesBy K) f_law_sizes_by _ := ⟨F_law_sizes_by, b_law_sizes_by, m_law_sizes_by, ok_sizesBy F_law_sizes_by g__law_drawn mrange⟩
  have g__law_box_for : Gd l.prog w K mg base "_law_box_for" s__law_box_for ["sizes", "held", "size"] CX0 1 (spBoxFor K) f_law_box_for _ := ⟨F_law_box_for, b_law_box_for, m_law_box_for, ok_boxFor (P := l.prog) (w := w) (mg := mg) (base := base) F_law_box_for mlen mrange msorted⟩
  have g__law_due : Gd l.prog w K mg base "_law_due" s__law_due ["sizes", "state", "deed"] CX0 2 (spDue K) f_law_due _ := ⟨F_law_due, b_law_due, m_law_due, ok_due F_law_due g__law_box_for mlen mrange msorted⟩
  have g__law_deed_by : Gd l.prog w K mg base "_law_deed_by" s__law_deed_by ["script", "k", "state"] CX0 2 (spDeedBy K) f_law_deed_by _ := ⟨F_law_deed_by, b_law_deed_by, m_law_deed_by, ok_deedBy F_law_deed_by g__law_drawn mlen⟩
  have y : Er12 K cNoSize cNoNights cNoBox cNoParcel := ⟨s_NoSize_NoSize, s_NoNights_NoSize, s_NoNights_NoNights, s_NoBox_NoSize, s_NoBox_NoNights, s_NoBox_NoBox, s_NoParcel_NoSize, s_NoParcel_NoNights, s_NoParcel_NoBox, s_NoParcel_NoParcel⟩
  have kt : Kt12 K := ⟨kit_list_list, kit_str_list, kit_int_list, kit_str_str, kit_int_str, kit_tuple_tuple⟩
  have g_done : Gd l.prog w K mg base "done" s_done ["wall", "deed"] (CXF l.prog w) 5 (spDone cWall cParcel cNoSize cNoNights cNoBox cNoParcel) fdone _ := ⟨Fdone, bdone, mdone, ok_done Fdone T d_come d_fetch d_night⟩
  have g_answer_to : Gd l.prog w K mg base "answer_to" s_answer_to ["wall", "deed"] CX0 6 (spAnswer cWall cParcel) fanswer_to _ := ⟨Fanswer_to, banswer_to, manswer_to, ok_answer Fanswer_to g_done y HNoSize HNoNights HNoBox HNoParcel mNoSize mNoNights mNoBox mNoParcel⟩
  have g_replay : Gd l.prog w K mg base "replay" s_replay ["sizes", "deeds"] (CXF l.prog w) 7 (spReplay K cNoWall) freplay _ := ⟨Freplay, breplay, mreplay, ok_replay Freplay T MWall bWall___init__ GI mWall g_answer_to d_held⟩
  have g__law_alike : Gd l.prog w K mg base "_law_alike" s__law_alike ["found", "due"] CX0 3 (spAlike K) f_law_alike _ := ⟨F_law_alike, b_law_alike, m_law_alike, ok_alike F_law_alike g__law_whole g__law_row misinstance mlist mstr mlen mrange kt⟩
  have g__law_refused : Gd l.prog w K mg base "_law_refused" s__law_refused ["sizes", "deeds"] CX0 8 (spRefused K) f_law_refused _ := ⟨F_law_refused, b_law_refused, m_law_refused, ok_refused F_law_refused g_replay HNoWall ENoWall s_NoWall_NoWall q_NoWall_WallError mNoWall mWallError misinstance⟩
  exact ok_law Flaw g__law_drawn g__law_sizes_by g__law_deed_by g__law_due g_replay g__law_alike g__law_held g__law_refused misinstance mlen mtuple mlist mrange kt
theorem walk {l : PySem.W.OpenLaw} {q : Program} {loose : List Str} {XP : (Str → Option Value) → Heap → Prop} {YP : World → Heap → Prop} {d : DefRec} {K : Params → PySem.W.Frag} (hn : l.most = some 63) (hdf : d.params.defaults = [])
    (hY : ∀ (w : World) (h : Heap), YP w h → (K w.params).In h)
    (F : ∀ (w : World) (mg : Str → Option Value) (fa : Addr) (h : Heap), (K w.params).In h → h.Ns mainGlobals mg → mg d.name = some (.ref fa) →
      ∃ fd : FuncData, (∀ (s : Shared) (u : Value), BindsTo s fd ⟨[u], []⟩ [("script", u)]) ∧ ∀ base : Heap, (K w.params).In base → base.Ns mainGlobals mg → FnOk l.prog w (K w.params) mg base CX0 9 fa fd ["script"] (spLaw (K w.params))) :
    PySem.W.WalkO q loose XP YP l.row.toRowW d [] (fun f vs => PySem.call f vs) :=
  L2.walk_of (n := 63) (k := 9) (x := "script") (CX := fun _ => CX0) (sp := fun w => spLaw (K w.params)) hn (by decide) hdf ⟨rfl, by decide, by decide⟩ hY F (fun _ _ a ns hl _ hS => ⟨a, ns, rfl, hS, hl, fun _ => rfl⟩) fun _ _ _ _ _ z => z
end Pw
open PySem PySem.W PyProof.Rows
set_option maxRecDepth 100000 in
set_option maxHeartbeats 0 in
theorem PySem.Challenge.cw_parcelwall_k12_logs_done_again_holds : PySem.Challenge.rw_parcelwall_k12_logs_done_again.Holds := by
  w_on; o_law; k_head; (case hw => w_witness2)
  k_fill
  refine Pw.walk (l := PySem.Challenge.rw_parcelwall_k12_logs_done_again) rfl rfl (fun w h Y => by first | exact PySem.W.kIn_of Y | exact PySem.W.km_in_of Y) ?F
  case F =>
    intro w mg fa h KX G hmg
    refine' Pw.all_mk KX G hmg ?aParcel ?pgParcel ?hdParcel ?poParcel ?saParcel ?mkParcel ?kcParcel ?nParcel1 ?nParcel2 ?nParcel3 ?aWall ?pgWall ?hdWall ?poWall ?saWall ?mkWall ?kcWall ?nWall1 ?nWall2 ?nWall3 ?nWall4 ?aParcel___init__ ?iParcel___init__ ?lParcel___init__ ?cParcel___init___ ?kParcel___init__ ?aWall___init__ ?iWall___init__ ?lWall___init__ ?cWall___init___ ?kWall___init__ ?aWall_held ?iWall_held ?lWall_held ?cWall_held_ ?kWall_held ?aWall_free ?iWall_free ?lWall_free ?cWall_free_ ?kWall_free ?aWall_come ?iWall_come ?lWall_come ?cWall_come_ ?kWall_come ?aWall_fetch ?iWall_fetch ?lWall_fetch ?cWall_fetch_ ?kWall_fetch ?aWall_night ?iWall_night ?lWall_night ?cWall_night_ ?kWall_night ?aWall_boxes_for ?iWall_boxes_for ?lWall_boxes_for ?cWall_boxes_for_ ?kWall_boxes_for ?aWall_least_box ?iWall_least_box ?lWall_least_box ?cWall_least_box_ ?kWall_least_box ?aWall_box_of ?iWall_box_of ?lWall_box_of ?cWall_box_of_ ?kWall_box_of ?ain_bounds ?lin_bounds ?cin_bounds_ ?kin_bounds ?acheck_wall ?lcheck_wall ?ccheck_wall_ ?kcheck_wall ?acheck_size ?lcheck_size ?ccheck_size_ ?kcheck_size ?acheck_nights ?lcheck_nights ?ccheck_nights_ ?kcheck_nights ?areplay ?lreplay ?creplay_ ?kreplay ?aanswer_to ?lanswer_to ?canswer_to_ ?kanswer_to ?adone ?ldone ?cdone_ ?kdone ?a_law_drawn ?l_law_drawn ?c_law_drawn_ ?k_law_drawn ?a_law_whole ?l_law_whole ?c_law_whole_ ?k_law_whole ?a_law_row ?l_law_row ?c_law_row_ ?k_law_row ?a_law_sizes_by ?l_law_sizes_by ?c_law_sizes_by_ ?k_law_sizes_by ?a_law_held ?l_law_held ?c_law_held_ ?k_law_held ?a_law_box_for ?l_law_box_for ?c_law_box_for_ ?k_law_box_for ?a_law_due ?l_law_due ?c_law_due_ ?k_law_due ?a_law_deed_by ?l_law_deed_by ?c_law_deed_by_ ?k_law_deed_by ?a_law_refused ?l_law_refused ?c_law_refused_ ?k_law_refused ?a_law_alike ?l_law_alike ?c_law_alike_ ?k_law_alike ?alaw ?llaw ?claw_ ?klaw ?aWallError ?xWallError ?yWallError ?aNoWall ?xNoWall ?yNoWall ?tyNoWall ?tbNoWall ?tcNoWall ?aNoSize ?xNoSize ?yNoSize ?tyNoSize ?tbNoSize ?tcNoSize ?aNoNights ?xNoNights ?yNoNights ?tyNoNights ?tbNoNights ?tcNoNights ?aNoBox ?xNoBox ?yNoBox ?tyNoBox ?tbNoBox ?tcNoBox ?aNoParcel ?xNoParcel ?yNoParcel ?tyNoParcel ?tbNoParcel ?tcNoParcel ?s_NoSize_NoSize ?s_NoNights_NoSize ?s_NoNights_NoNights ?s_NoBox_NoSize ?s_NoBox_NoNights ?s_NoBox_NoBox ?s_NoParcel_NoSize ?s_NoParcel_NoNights ?s_NoParcel_NoBox ?s_NoParcel_NoParcel ?gaNoWall ?gtNoWall ?csNoWall ?sbNoWall ?soNoWall ?clNoWall ?s_NoWall_NoWall ?q_NoWall_WallError ?aMOST_BOXES ?aLEAST ?aGREATEST ?zlen ?zrange ?zlist ?zmin ?zmax ?zisinstance ?zint ?zbool ?zenumerate ?zValueError ?zsorted ?zstr ?ztuple ?zreversed ?zall ?zset ?kit_int_int ?kit_int_bool ?kit_list_list ?kit_str_list ?kit_int_list ?kit_str_str ?kit_int_str ?kit_tuple_tuple
    (case aParcel => k_is)
    (case pgParcel => k_is)
    (case hdParcel => k_is)
    (case poParcel => k_is)
    (case saParcel => k_is)
    (case mkParcel => k_is)
    (case kcParcel => k_is)
    (case nParcel1 => k_is)
    (case nParcel2 => k_is)
    (case nParcel3 => k_is)
    (case aWall => k_is)
    (case pgWall => k_is)
    (case hdWall => k_is)
    (case poWall => k_is)
    (case saWall => k_is)
    (case mkWall => k_is)
    (case kcWall => k_is)
    (case nWall1 => k_is)
    (case nWall2 => k_is)
    (case nWall3 => k_is)
    (case nWall4 => k_is)
    (case aParcel___init__ => k_is)
    (case iParcel___init__ => k_is)
    (case lParcel___init__ => k_is)
    (case cParcel___init___ => k_is)
    (case kParcel___init__ => k_is)
    (case aWall___init__ => k_is)
    (case iWall___init__ => k_is)
    (case lWall___init__ => k_is)
    (case cWall___init___ => k_is)
    (case kWall___init__ => k_is)
    (case aWall_held => k_is)
    (case iWall_held => k_is)
    (case lWall_held => k_is)
    (case cWall_held_ => k_is)
    (case kWall_held => k_is)
    (case aWall_free => k_is)
    (case iWall_free => k_is)
    (case lWall_free => k_is)
    (case cWall_free_ => k_is)
    (case kWall_free => k_is)
    (case aWall_come => k_is)
    (case iWall_come => k_is)
    (case lWall_come => k_is)
    (case cWall_come_ => k_is)
    (case kWall_come => k_is)
    (case aWall_fetch => k_is)
    (case iWall_fetch => k_is)
    (case lWall_fetch => k_is)
    (case cWall_fetch_ => k_is)
    (case kWall_fetch => k_is)
    (case aWall_night => k_is)
    (case iWall_night => k_is)
    (case lWall_night => k_is)
    (case cWall_night_ => k_is)
    (case kWall_night => k_is)
    (case aWall_boxes_for => k_is)
    (case iWall_boxes_for => k_is)
    (case lWall_boxes_for => k_is)
    (case cWall_boxes_for_ => k_is)
    (case kWall_boxes_for => k_is)
    (case aWall_least_box => k_is)
    (case iWall_least_box => k_is)
    (case lWall_least_box => k_is)
    (case cWall_least_box_ => k_is)
    (case kWall_least_box => k_is)
    (case aWall_box_of => k_is)
    (case iWall_box_of => k_is)
    (case lWall_box_of => k_is)
    (case cWall_box_of_ => k_is)
    (case kWall_box_of => k_is)
    (case ain_bounds => k_is)
    (case lin_bounds => k_is)
    (case cin_bounds_ => k_is)
    (case kin_bounds => k_is)
    (case acheck_wall => k_is)
    (case lcheck_wall => k_is)
    (case ccheck_wall_ => k_is)
    (case kcheck_wall => k_is)
    (case acheck_size => k_is)
    (case lcheck_size => k_is)
    (case ccheck_size_ => k_is)
    (case kcheck_size => k_is)
    (case acheck_nights => k_is)
    (case lcheck_nights => k_is)
    (case ccheck_nights_ => k_is)
    (case kcheck_nights => k_is)
    (case areplay => k_is)
    (case lreplay => k_is)
    (case creplay_ => k_is)
    (case kreplay => k_is)
    (case aanswer_to => k_is)
    (case lanswer_to => k_is)
    (case canswer_to_ => k_is)
    (case kanswer_to => k_is)
    (case adone => k_is)
    (case ldone => k_is)
    (case cdone_ => k_is)
    (case kdone => k_is)
    (case a_law_drawn => k_is)
    (case l_law_drawn => k_is)
    (case c_law_drawn_ => k_is)
    (case k_law_drawn => k_is)
    (case a_law_whole => k_is)
    (case l_law_whole => k_is)
    (case c_law_whole_ => k_is)
    (case k_law_whole => k_is)
    (case a_law_row => k_is)
    (case l_law_row => k_is)
    (case c_law_row_ => k_is)
    (case k_law_row => k_is)
    (case a_law_sizes_by => k_is)
    (case l_law_sizes_by => k_is)
    (case c_law_sizes_by_ => k_is)
    (case k_law_sizes_by => k_is)
    (case a_law_held => k_is)
    (case l_law_held => k_is)
    (case c_law_held_ => k_is)
    (case k_law_held => k_is)
    (case a_law_box_for => k_is)
    (case l_law_box_for => k_is)
    (case c_law_box_for_ => k_is)
    (case k_law_box_for => k_is)
    (case a_law_due => k_is)
    (case l_law_due => k_is)
    (case c_law_due_ => k_is)
    (case k_law_due => k_is)
    (case a_law_deed_by => k_is)
    (case l_law_deed_by => k_is)
    (case c_law_deed_by_ => k_is)
    (case k_law_deed_by => k_is)
    (case a_law_refused => k_is)
    (case l_law_refused => k_is)
    (case c_law_refused_ => k_is)
    (case k_law_refused => k_is)
    (case a_law_alike => k_is)
    (case l_law_alike => k_is)
    (case c_law_alike_ => k_is)
    (case k_law_alike => k_is)
    (case alaw => k_is)
    (case llaw => k_is)
    (case claw_ => k_is)
    (case klaw => k_is)
    (case aWallError => k_is)
    (case xWallError => k_is)
    (case yWallError => kernel_rfl)
    (case aNoWall => k_is)
    (case xNoWall => k_is)
    (case yNoWall => kernel_rfl)
    (case tyNoWall => k_is)
    (case tbNoWall => k_is)
    (case tcNoWall => kernel_rfl)
    (case aNoSize => k_is)
    (case xNoSize => k_is)
    (case yNoSize => kernel_rfl)
    (case tyNoSize => k_is)
    (case tbNoSize => k_is)
    (case tcNoSize => kernel_rfl)
    (case aNoNights => k_is)
    (case xNoNights => k_is)
    (case yNoNights => kernel_rfl)
    (case tyNoNights => k_is)
    (case tbNoNights => k_is)
    (case tcNoNights => kernel_rfl)
    (case aNoBox => k_is)
    (case xNoBox => k_is)
    (case yNoBox => kernel_rfl)
    (case tyNoBox => k_is)
    (case tbNoBox => k_is)
    (case tcNoBox => kernel_rfl)
    (case aNoParcel => k_is)
    (case xNoParcel => k_is)
    (case yNoParcel => kernel_rfl)
    (case tyNoParcel => k_is)
    (case tbNoParcel => k_is)
    (case tcNoParcel => kernel_rfl)
    (case s_NoSize_NoSize => k_is)
    (case s_NoNights_NoSize => k_is)
    (case s_NoNights_NoNights => k_is)
    (case s_NoBox_NoSize => k_is)
    (case s_NoBox_NoNights => k_is)
    (case s_NoBox_NoBox => k_is)
    (case s_NoParcel_NoSize => k_is)
    (case s_NoParcel_NoNights => k_is)
    (case s_NoParcel_NoBox => k_is)
    (case s_NoParcel_NoParcel => k_is)
    (case gaNoWall => k_is)
    (case gtNoWall => k_is)
    (case csNoWall => k_is)
    (case sbNoWall => k_is)
    (case soNoWall => k_is)
    (case clNoWall => kernel_rfl)
    (case s_NoWall_NoWall => k_is)
    (case q_NoWall_WallError => kernel_rfl)
    (case aMOST_BOXES => k_is)
    (case aLEAST => k_is)
    (case aGREATEST => k_is)
    (case zlen => k_is)
    (case zrange => k_is)
    (case zlist => k_is)
    (case zmin => k_is)
    (case zmax => k_is)
    (case zisinstance => k_is)
    (case zint => k_is)
    (case zbool => k_is)
    (case zenumerate => k_is)
    (case zValueError => k_is)
    (case zsorted => k_is)
    (case zstr => k_is)
    (case ztuple => k_is)
    (case zreversed => k_is)
    (case zall => k_is)
    (case zset => k_is)
    (case kit_int_int => kernel_rfl)
    (case kit_int_bool => kernel_rfl)
    (case kit_list_list => kernel_rfl)
    (case kit_str_list => kernel_rfl)
    (case kit_int_list => kernel_rfl)
    (case kit_str_str => kernel_rfl)
    (case kit_int_str => kernel_rfl)
    (case kit_tuple_tuple => kernel_rfl)
