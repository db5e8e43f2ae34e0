import PyProof.Rows.All
import Wide.All
import OpenK.AllK
import Wide.FinOn
import Lean
import PyProof.EqAt
import PyProof.EqKinds
import PyProof.TupleCall
import KE.KSortTup
import KE.KIntText
import PySem.Challenge.RW_parcelwall_k06_whole_as_many_as_can_be
set_option Elab.async false
set_option linter.all false
set_option maxRecDepth 100000
/-! THE HAND LAYER, for ints, bools, texts, own classes, LISTS and tuples (index, slices, in, append, pop ..), calls, loops. Paste it whole ahead of your own text; what your proof does not reach may be deleted. -/
namespace L2
open PySem PySem.Spec PyProof.Rows

/-- a key: an int or a str -/
abbrev Key := Sum Int Str
def keyIs : Key → Value → Bool
  | .inl k, v => Value.isInt k v
  | .inr x, v => Value.isStrOf x v
def keyH (w : World) : Key → Int
  | .inl k => hashInt k
  | .inr x => hashStr w x
theorem keyIs_shape : ∀ {k : Key} {v : Value}, keyIs k v = true → (∃ i t, k = Sum.inl i ∧ v = Value.int i t) ∨ (∃ x t, k = Sum.inr x ∧ v = Value.str x t)
  | .inl i, v, h => by
    obtain ⟨t, e⟩ := Value.isInt_shape (k := i) (v := v) h
    exact .inl ⟨i, t, rfl, e⟩
  | .inr x, v, h => by
    obtain ⟨t, e⟩ := Value.isStrOf_shape (x := x) (v := v) h
    exact .inr ⟨x, t, rfl, e⟩
theorem key_ll (a b : Int) : decide ((Sum.inl a : Key) = Sum.inl b) = (a == b) := by
  by_cases e : a = b
  · subst e; simp
  · have h : ¬ (Sum.inl a : Key) = Sum.inl b := fun q => e (Sum.inl.inj q)
    rw [decide_eq_false h]
    exact (beq_eq_false_iff_ne.mpr e).symm
theorem key_rr (a b : Str) : decide ((Sum.inr a : Key) = Sum.inr b) = decide (a = b) := by
  by_cases e : a = b
  · subst e; simp
  · have h : ¬ (Sum.inr a : Key) = Sum.inr b := fun q => e (Sum.inr.inj q)
    rw [decide_eq_false h, decide_eq_false e]
theorem key_lr (a : Int) (b : Str) : decide ((Sum.inl a : Key) = Sum.inr b) = false := decide_eq_false (fun q => nomatch q)
theorem key_rl (a : Str) (b : Int) : decide ((Sum.inr a : Key) = Sum.inl b) = false := decide_eq_false (fun q => nomatch q)

def mixKind (prog : Program) (w : World) : PySem.KeyKind prog w Key where
  is := keyIs
  hash := keyH w
  inj := fun v a b ha hb => by
    rcases keyIs_shape ha with ⟨i, t, rfl, rfl⟩ | ⟨x, t, rfl, rfl⟩
    · rcases keyIs_shape hb with ⟨j, u, rfl, e⟩ | ⟨y, u, rfl, e⟩
      · injection e with e1 _; rw [e1]
      · exact nomatch e
    · rcases keyIs_shape hb with ⟨j, u, rfl, e⟩ | ⟨y, u, rfl, e⟩
      · exact nomatch e
      · injection e with e1 _; rw [e1]
  byValue := fun k v h => by
    rcases keyIs_shape h with ⟨i, t, rfl, rfl⟩ | ⟨x, t, rfl, rfl⟩ <;> rfl
  pyHash := fun hv h => by
    rcases keyIs_shape hv with ⟨i, t, rfl, rfl⟩ | ⟨x, t, rfl, rfl⟩
    · exact wpAny_pyHash_int h
    · exact wpAny_pyHash_str h
  eqBool := fun hu hv h => by
    rcases keyIs_shape hu with ⟨i, t, rfl, rfl⟩ | ⟨x, t, rfl, rfl⟩
    · rcases keyIs_shape hv with ⟨j, u, rfl, rfl⟩ | ⟨y, u, rfl, rfl⟩
      · rw [key_ll] at h; exact wpAny_eqBool_int h
      · rw [key_lr] at h; exact SeqAt.EqAt.int_str i t y u _ _ _ _ h
    · rcases keyIs_shape hv with ⟨j, u, rfl, rfl⟩ | ⟨y, u, rfl, rfl⟩
      · rw [key_rl] at h; exact SeqAt.EqAt.str_int x t j u _ _ _ _ h
      · rw [key_rr] at h; exact wpAny_eqBool_str h
  «strs» := fun k x t v h => by
    rcases keyIs_shape h with ⟨i, u, rfl, e⟩ | ⟨y, u, rfl, e⟩
    · exact nomatch e
    · injection e with e1 _
      subst e1
      cases v <;> rfl

end L2

namespace L2
open PySem PySem.Spec PyProof.Rows

/-- a value, without the heap -/
inductive V where
  | non | bl (b : Bool) | int (i : Int) | str (x : Str) | byt (b : Array UInt8) | flt (b : UInt64) | ref (a : Addr) | ty (n : String)
  deriving DecidableEq

def RelV : V → Value → Prop
  | .non, u => u = Value.none
  | .bl b, u => u = Value.bool b
  | .int i, u => ∃ t, u = Value.int i t
  | .str x, u => ∃ t, u = Value.str x t
  | .byt b, u => ∃ t, u = Value.bytes b t
  | .flt b, u => ∃ t, u = Value.float b t
  | .ref a, u => u = Value.ref a
  | .ty n, u => u = Value.type n

abbrev Vals : List V → List Value → Prop := Paired RelV
theorem Vals.length {xs : List V} {us : List Value} (r : Vals xs us) : xs.length = us.length := Paired.length r
theorem Vals.get : ∀ {xs : List V} {us : List Value} {i : Nat} {x : V}, Vals xs us → xs[i]? = some x → ∃ u, us[i]? = some u ∧ RelV x u
  | _, _, _, _, .nil, e => by simp at e
  | _, _, 0, _, .cons r _, e => by simp at e; subst e; exact ⟨_, rfl, r⟩
  | _, _, i + 1, x, .cons _ t, e => by
    obtain ⟨u, h1, h2⟩ := Vals.get (i := i) (x := x) t (by simpa using e)
    exact ⟨u, by simpa using h1, h2⟩
theorem Vals.set {x : V} {u : Value} (r : RelV x u) : ∀ {xs : List V} {us : List Value} (i : Nat), Vals xs us → Vals (xs.set i x) (us.set i u)
  | _, _, _, .nil => .nil
  | _, _, 0, .cons _ t => .cons r t
  | _, _, i + 1, .cons q t => .cons q (Vals.set r i t)
theorem Vals.append : ∀ {xs ys : List V} {us ws : List Value}, Vals xs us → Vals ys ws → Vals (xs ++ ys) (us ++ ws)
  | _, _, _, _, .nil, s => s
  | _, _, _, _, .cons r t, s => .cons r (Vals.append t s)
theorem Vals.take : ∀ {xs : List V} {us : List Value} (n : Nat), Vals xs us → Vals (xs.take n) (us.take n)
  | _, _, 0, _ => .nil
  | _, _, _ + 1, .nil => .nil
  | _, _, n + 1, .cons r t => .cons r (Vals.take n t)
theorem Vals.drop : ∀ {xs : List V} {us : List Value} (n : Nat), Vals xs us → Vals (xs.drop n) (us.drop n)
  | _, _, 0, r => r
  | _, _, _ + 1, .nil => .nil
  | _, _, n + 1, .cons _ t => Vals.drop n t

def RelO : Option V → Option Value → Prop
  | some v, some u => RelV v u
  | none, none => True
  | _, _ => False
def KV {κ : Type} : List (κ × V) → List (κ × Value) → Prop := Paired fun (p : κ × V) (q : κ × Value) => p.1 = q.1 ∧ RelV p.2 q.2

/-- a key of a dict (00_mix): an int or a text -/
def kV : Key → V
  | .inl i => .int i
  | .inr x => .str x

/-- what stands at a tracked address -/
inductive HO where
  /-- a list -/
  | lst (xs : List V)
  /-- a tuple (never changes) -/
  | tup (xs : List V)
  /-- a dict whose keys are ints and texts; one whose keys are tuples of ints and texts (the empty one is both) -/
  | dK (kvs : List (Key × V)) | dT (kvs : List (List Key × V))
  /-- a set of ints: its members, its size -/
  | set (S : Int → Bool) (n : Nat)
  /-- an instance of the class at C, its dict at dx, its attributes -/
  | ins (C dx : Addr) (fs : List (Str × V))
  /-- the dict of the instance at x -/
  | own (x : Addr)
  /-- the dict of an exception -/
  | xd (fs : List (Str × V))
  /-- a bound method, f of x -/
  | met (f x : Addr)
  /-- a range object lo, lo + 1, .. below hi -/
  | rng (lo hi : Int)
  /-- a thing that is known to the object (the script; a dict while a loop walks it): read, never written while it is so -/
  | frz (o : Obj) (u : HO)
  /-- a code object's table -/
  | tbl (ps : Array Value)
  /-- any other thing, by what is true of its one object (a def of one's own: SetO a S n := HO.ext fun h => ..) -/
  | ext (φ : Heap → Prop)

abbrev Hp := Addr → Option HO
def upd (H : Hp) (a : Addr) (o : HO) : Hp := fun b => if b = a then some o else H b
theorem upd_same {H : Hp} {a : Addr} {o : HO} : upd H a o a = some o := by unfold upd; rw [if_pos rfl]
theorem upd_ne {H : Hp} {a b : Addr} {o : HO} (h : b ≠ a) : upd H a o b = H b := by unfold upd; rw [if_neg h]
theorem upd_upd {H : Hp} {a : Addr} {o u : HO} : upd (upd H a o) a u = upd H a u := by
  funext b; unfold upd; split <;> rfl
/-- two objects of different content stand apart -/
theorem ne_of {H : Hp} {a b : Addr} {o u : HO} (h : H a = some o) (h' : H b = some u) (d : o ≠ u) : a ≠ b := by
  intro e; subst e; rw [h] at h'; exact d (Option.some.inj h')
theorem ne_of_none {H : Hp} {a b : Addr} {o : HO} (h : H a = some o) (h' : H b = none) : a ≠ b := by
  intro e; subst e; rw [h] at h'; cases h'

section
variable (P : Program) (w : World)
def ObjOk (H : Hp) (h : Heap) (a : Addr) : HO → Prop
  | .lst xs => xs.length ≤ sizeLine ∧ ∃ (its : List Value) (n : Nat), Vals xs its ∧ h.get? a = some { cls := .type "list", data := .seq its.toArray n }
  | .tup xs => xs.length ≤ sizeLine ∧ ∃ its : List Value, Vals xs its ∧ IsTup h a its.toArray
  | .dK kvs => kvs.length ≤ sizeLine ∧ (a == sysModules) = false ∧ ∃ vs, KV kvs vs ∧ h.DictOf (mixKind P w) a vs
  | .dT kvs => kvs.length ≤ sizeLine ∧ (a == sysModules) = false ∧ ∃ xs : List (List Key × Addr × Value),
      Paired (fun (p : List Key × V) (q : List Key × Addr × Value) => p.1 = q.1 ∧ H q.2.1 = some (.tup (p.1.map kV)) ∧ RelV p.2 q.2.2) kvs xs ∧
      ∃ o es ep, h.get? a = some o ∧ o.ExactDict ∧ o.data = .dict es ep ∧ es.toList = xs.map (entryOfKey (tupleKind (mixKind P w))) ∧ (xs.map (·.1)).Nodup
  | .set S n => h.SetOf (intKind P w) a S n
  | .ins C dx fs => H dx = some (.own a) ∧ fs.length ≤ 1000 ∧ dx ≠ a ∧ h.get? a = some (PySem.W.instObj C dx) ∧
      ∃ mA, h.Ns1 dx mA ∧ (∀ f, RelO (fs.lookup f) (mA f)) ∧ PySem.Within mA (fs.map (·.1))
  | .own _ => ∃ o, h.get? a = some o
  | .xd fs => ∃ mA, h.Ns1 a mA ∧ ∀ f, RelO (fs.lookup f) (mA f)
  | .rng lo hi => ∃ t u v, h.get? a = some { cls := .type "range", data := .fields #[.int lo t, .int hi u, .int 1 v] }
  | .frz o u => h.get? a = some o ∧ ObjOk H h a u
  | .tbl ps => h.get? a = some { cls := .none, data := .fields ps }
  | .met f x => h.get? a = some (PySem.W.methodObj (.ref f) (.ref x))
  | .ext φ => φ h ∧ (∃ o, h.get? a = some o) ∧ ∀ h1 h2 : Heap, φ h1 → (∀ o, h1.get? a = some o → h2.get? a = some o) → φ h2
/-- the abstract heap is held -/
def HOk (H : Hp) (h : Heap) : Prop := ∀ a o, H a = some o → ObjOk P w H h a o
end

section
variable {P : Program} {w : World} {H H' : Hp} {h h' : Heap} {a : Addr} {o : HO}
theorem ObjOk.lt (x : ObjOk P w H h a o) : a < h.objs.size := by
  cases o with
  | lst xs => obtain ⟨_, _, _, _, e⟩ := x; exact Heap.lt_size e
  | tup xs => obtain ⟨_, _, _, p⟩ := x; exact p.lt
  | dK kvs => obtain ⟨_, _, _, _, o, _, _, e, _⟩ := x; exact Heap.lt_size e
  | dT kvs => obtain ⟨_, _, _, _, o, _, _, e, _⟩ := x; exact Heap.lt_size e
  | set S n => obtain ⟨o, _, _, _, e, _⟩ := x; exact Heap.lt_size e
  | ins C dx fs => obtain ⟨_, _, _, e, _⟩ := x; exact Heap.lt_size e
  | own y => obtain ⟨_, e⟩ := x; exact Heap.lt_size e
  | xd fs => obtain ⟨_, ⟨_, _, _, e, _⟩, _⟩ := x; exact Heap.lt_size e
  | rng lo hi => obtain ⟨_, _, _, e⟩ := x; exact Heap.lt_size e
  | frz ob u => obtain ⟨e, _⟩ := x; exact Heap.lt_size e
  | tbl ps => exact Heap.lt_size (show h.get? a = some _ from x)
  | met f y => exact Heap.lt_size (show h.get? a = some _ from x)
  | ext φ => obtain ⟨_, ⟨_, e⟩, _⟩ := x; exact Heap.lt_size e
theorem Paired.mapP {α β : Type} {F G : α → β → Prop} : ∀ {l₁ : List α} {l₂ : List β}, Paired F l₁ l₂ → (∀ a b, F a b → G a b) → Paired G l₁ l₂
  | _, _, .nil, _ => .nil
  | _, _, .cons r t, f => .cons (f _ _ r) (Paired.mapP t f)
/-- what an object's description leans on: its own object, its own dict, the tuples -/
theorem ObjOk.stay (x : ObjOk P w H h a o) (k : ∀ b u, (b = a ∨ H b = some (.own a)) → h.get? b = some u → h'.get? b = some u)
    (ho : ∀ b, H b = some (.own a) → H' b = some (.own a)) (ht : ∀ b xs, H b = some (.tup xs) → H' b = some (.tup xs)) : ObjOk P w H' h' a o := by
  induction o with
  | lst xs => obtain ⟨z, its, n, r, e⟩ := x; exact ⟨z, its, n, r, k _ _ (.inl rfl) e⟩
  | tup xs => obtain ⟨z, its, r, ob, e, c⟩ := x; exact ⟨z, its, r, ob, k _ _ (.inl rfl) e, c⟩
  | dK kvs => obtain ⟨z, y, vs, r, ob, es, ep, e, c⟩ := x; exact ⟨z, y, vs, r, ob, es, ep, k _ _ (.inl rfl) e, c⟩
  | dT kvs =>
    obtain ⟨z, y, xs, r, ob, es, ep, e, c⟩ := x
    exact ⟨z, y, xs, Paired.mapP r fun p q z => ⟨z.1, ht _ _ z.2.1, z.2.2⟩, ob, es, ep, k _ _ (.inl rfl) e, c⟩
  | set S n => obtain ⟨ob, es, ep, t, e, c⟩ := x; exact ⟨ob, es, ep, t, k _ _ (.inl rfl) e, c⟩
  | ins C dx fs =>
    obtain ⟨d, z, ne, e, mA, ⟨od, es, ep, e2, c⟩, r⟩ := x
    exact ⟨ho _ d, z, ne, k _ _ (.inl rfl) e, mA, ⟨od, es, ep, k _ _ (.inr d) e2, c⟩, r⟩
  | own y => obtain ⟨ob, e⟩ := x; exact ⟨ob, k _ _ (.inl rfl) e⟩
  | xd fs => obtain ⟨mA, ⟨od, es, ep, e, c⟩, r⟩ := x; exact ⟨mA, ⟨od, es, ep, k _ _ (.inl rfl) e, c⟩, r⟩
  | rng lo hi => obtain ⟨t, u, v, e⟩ := x; exact ⟨t, u, v, k _ _ (.inl rfl) e⟩
  | frz ob u ih => obtain ⟨e, q⟩ := x; exact ⟨k _ _ (.inl rfl) e, ih q⟩
  | tbl ps =>
    have e : h.get? a = some { cls := .none, data := .fields ps } := x
    show h'.get? a = some { cls := .none, data := .fields ps }
    exact k a _ (.inl rfl) e
  | met f y =>
    have e : h.get? a = some (PySem.W.methodObj (.ref f) (.ref y)) := x
    show h'.get? a = some (PySem.W.methodObj (.ref f) (.ref y))
    exact k a _ (.inl rfl) e
  | ext φ => obtain ⟨p, ⟨o, e⟩, st⟩ := x; exact ⟨st _ _ p fun o q => k _ _ (.inl rfl) q, ⟨o, k _ _ (.inl rfl) e⟩, st⟩
theorem HOk.lt (x : HOk P w H h) (e : H a = some o) : a < h.objs.size := (x a o e).lt
theorem HOk.fresh (x : HOk P w H h) (e : h.objs.size ≤ a) : H a = none := by
  cases q : H a with
  | none => rfl
  | some u => exact absurd (Nat.lt_of_lt_of_le (x.lt q) e) (Nat.lt_irrefl _)
/-- every object of the heap is kept -/
theorem HOk.kept (x : HOk P w H h) (k : ∀ b u, h.get? b = some u → h'.get? b = some u) : HOk P w H h' := fun a o e =>
  (x a o e).stay (fun b u _ q => k b u q) (fun _ q => q) fun _ _ q => q
/-- a new object is laid and tracked -/
theorem HOk.laid (x : HOk P w H h) (k : ∀ b u, h.get? b = some u → h'.get? b = some u) (hp : h.objs.size ≤ a) (new : ObjOk P w (upd H a o) h' a o) : HOk P w (upd H a o) h' := fun b u e => by
  have hn := x.fresh hp
  by_cases hb : b = a
  · subst hb; rw [upd_same] at e; cases e; exact new
  · rw [upd_ne hb] at e
    exact (x b u e).stay (fun c v _ q => k c v q) (fun c q => by rw [upd_ne (ne_of_none q hn)]; exact q) fun c xs q => by rw [upd_ne (ne_of_none q hn)]; exact q
end

/-- what may be read as u: it is u, or a known u -/
def Rd (H : Hp) (a : Addr) (u : HO) : Prop := H a = some u ∨ ∃ o, H a = some (.frz o u)
theorem Rd.ok {P : Program} {w : World} {H : Hp} {h : Heap} {a : Addr} {u : HO} (r : Rd H a u) (x : HOk P w H h) : ObjOk P w H h a u := by
  rcases r with r | ⟨o, r⟩
  · exact x a u r
  · obtain ⟨_, q⟩ := x a _ r
    exact q
/-- what may be written -/
def Mut : Option HO → Prop
  | some (.lst _) => True
  | some (.dK _) => True
  | some (.dT _) => True
  | some (.set _ _) => True
  | some (.ins _ _ _) => True
  | some (.ext _) => True
  | _ => False
section
variable {P : Program} {w : World} {H : Hp} {h h' : Heap} {x e : Addr} {o' : HO}
/-- the object at e is changed: x itself, or the dict of the instance x -/
theorem HOk.write (ok : HOk P w H h) (mu : Mut (H x)) (he : e = x ∨ H e = some (.own x)) (k : ∀ b u, b ≠ e → h.get? b = some u → h'.get? b = some u) (heo : ∃ u, h'.get? e = some u)
    (new : ObjOk P w (upd H x o') h' x o') : HOk P w (upd H x o') h' := fun b u q => by
  have nown : ∀ c y, H c = some (.own y) → c ≠ x := fun c y r z => by subst z; rw [r] at mu; exact mu
  have ntup : ∀ c xs, H c = some (.tup xs) → c ≠ x := fun c xs r z => by subst z; rw [r] at mu; exact mu
  by_cases hb : b = x
  · subst hb; rw [upd_same] at q; cases q; exact new
  · rw [upd_ne hb] at q
    by_cases hbe : b = e
    · have q' : H b = some (.own x) := by
        rcases he with z | z
        · exact absurd (hbe.trans z) hb
        · rw [hbe]; exact z
      rw [q] at q'; cases q'
      obtain ⟨v, hv⟩ := heo
      exact ⟨v, by rw [hbe]; exact hv⟩
    · refine (ok b u q).stay (fun c v hc r => k c v ?_ r) (fun c r => by rw [upd_ne (nown c b r)]; exact r) fun c xs r => by rw [upd_ne (ntup c xs r)]; exact r
      rcases hc with rfl | hc
      · exact hbe
      · rintro rfl
        rcases he with z | z
        · exact nown c b hc z
        · rw [hc] at z; cases z; exact hb rfl
end

/-! ### kept unless tracked; of the frames at fs (the callers') the slots may change (an exception that passes writes there); of the records at ex (iterators) nothing is said -/
structure Un (fs ex : List Addr) (H H' : Hp) (h h' : Heap) : Prop where
  keep : ∀ b o, h.get? b = some o → H b = none → b ∉ fs → b ∉ ex → h'.get? b = some o
  slot : ∀ b o, h.get? b = some o → H b = none → b ∈ fs → b ∉ ex → ∃ sl, h'.get? b = some { o with slots := sl }
  free : ∀ b o, h.get? b = some o → H b = none → b ∉ ex → H' b = none
  there : ∀ b o, h.get? b = some o → b ∉ ex → ∃ o', h'.get? b = some o'
  tups : ∀ b xs, H b = some (.tup xs) → H' b = some (.tup xs)
  frzs : ∀ b o u, H b = some (.frz o u) → H' b = some (.frz o u)
  tbls : ∀ b ps, H b = some (.tbl ps) → ∃ more, H' b = some (.tbl (ps ++ more))
section
variable {fs fs' ex ex' : List Addr} {H H1 H2 : Hp} {h h1 h2 h' : Heap} {a x e : Addr} {o : HO}
theorem Un.any (u : Un fs ex H H1 h h1) {b : Addr} {ob : Obj} (q : h.get? b = some ob) (n : H b = none) (hx : b ∉ ex) : ∃ sl, h1.get? b = some { ob with slots := sl } := by
  by_cases hb : b ∈ fs
  · exact u.slot b ob q n hb hx
  · exact ⟨ob.slots, u.keep b ob q n hb hx⟩
theorem Un.kept (k : ∀ b u, h.get? b = some u → h'.get? b = some u) : Un fs ex H H h h' :=
  ⟨fun b ob q _ _ _ => k b ob q, fun b ob q _ _ _ => ⟨ob.slots, k b ob q⟩, fun _ _ _ n _ => n, fun b ob q _ => ⟨ob, k b ob q⟩, fun _ _ q => q, fun _ _ _ q => q, fun _ ps q => ⟨#[], by rw [q]; simp⟩⟩
theorem Un.refl : Un fs ex H H h h := Un.kept fun _ _ q => q
theorem Un.laid (k : ∀ b u, h.get? b = some u → h'.get? b = some u) (hp : h.objs.size ≤ a) (hn : H a = none) : Un fs ex H (upd H a o) h h' where
  keep := fun b u q _ _ _ => k b u q
  slot := fun b u q _ _ _ => ⟨u.slots, k b u q⟩
  free := fun b u q n _ => by rw [upd_ne (Nat.ne_of_lt (Nat.lt_of_lt_of_le (Heap.lt_size q) hp))]; exact n
  there := fun b u q _ => ⟨u, k b u q⟩
  tups := fun b xs q => by rw [upd_ne (ne_of_none q hn)]; exact q
  frzs := fun b u xs q => by rw [upd_ne (ne_of_none q hn)]; exact q
  tbls := fun b ps q => ⟨#[], by rw [upd_ne (ne_of_none q hn), q]; simp⟩
theorem Un.write (mu : Mut (H x)) (he : e = x ∨ H e = some (.own x)) (k : ∀ b u, b ≠ e → h.get? b = some u → h'.get? b = some u) (heo : ∃ u, h'.get? e = some u) : Un fs ex H (upd H x o) h h' := by
  have hx : ∀ b, H b = none → b ≠ x := fun b n z => by subst z; rw [n] at mu; exact mu
  have hb : ∀ b, H b = none → b ≠ e := fun b n z => by
    subst z
    rcases he with r | r
    · exact hx b n r
    · rw [n] at r; cases r
  have hm : ∀ b u, H b = some u → ¬ Mut (some u) → b ≠ x := fun b u q nm z => by subst z; rw [q] at mu; exact nm mu
  refine ⟨fun b u q n _ _ => k b u (hb b n) q, fun b u q n _ _ => ⟨u.slots, k b u (hb b n) q⟩, fun b u q n _ => by rw [upd_ne (hx b n)]; exact n, fun b u q _ => ?_,
    fun b xs q => by rw [upd_ne (hm b _ q fun z => z)]; exact q, fun b u xs q => by rw [upd_ne (hm b _ q fun z => z)]; exact q, fun b ps q => ⟨#[], by rw [upd_ne (hm b _ q fun z => z), q]; simp⟩⟩
  by_cases hbe : b = e
  · subst hbe; exact heo
  · exact ⟨u, k b u hbe q⟩
end

/-! ### the heap without what is tracked -/
def trk (h : Heap) (H : Hp) : List Addr := (List.range h.objs.size).filter fun a => (H a).isSome
def hidT (h : Heap) (H : Hp) : Heap := PySem.W.hideAll h (trk h H)
theorem hidT_size (h : Heap) (H : Hp) : (hidT h H).objs.size = h.objs.size := PySem.W.hideAll_size _ _
theorem hidT_get {h : Heap} {H : Hp} {b : Addr} {o : Obj} (e : h.get? b = some o) (n : H b = none) : (hidT h H).get? b = some o :=
  PySem.W.hideAll_get _ e fun hm => by
    have q : (H b).isSome = true := (List.mem_filter.mp hm).2
    rw [n] at q; simp at q
theorem of_hidT {h : Heap} {H : Hp} {b : Addr} {o : Obj} (e : (hidT h H).get? b = some o) : h.get? b = some o ∧ H b = none := by
  have e' : h.get? b = some o := PySem.W.of_hideAll (trk h H) e
  refine ⟨e', ?_⟩
  cases q : H b with
  | none => rfl
  | some x =>
    have hm : b ∈ trk h H := List.mem_filter.mpr ⟨List.mem_range.mpr (Heap.lt_size e'), by simp [q]⟩
    have z : (hidT h H).get? b = none := PySem.W.hideAll_none (trk h H) hm
    rw [z] at e; cases e

/-! ### OpenK's ledger, filled with every new object but one -/
def allNews (g h : Heap) (L : Addr) : List (Addr × Obj) := (List.range h.objs.size).filterMap fun a => if a = L ∨ (g.get? a).isSome = true then none else (h.get? a).map fun o => (a, o)
theorem mem_allNews {g h : Heap} {L a : Addr} {o : Obj} (h1 : a ≠ L) (h2 : g.get? a = none) (h3 : h.get? a = some o) : (a, o) ∈ allNews g h L :=
  List.mem_filterMap.mpr ⟨a, List.mem_range.mpr (Heap.lt_size h3), by simp [h1, h2, h3]⟩
theorem of_mem_allNews {g h : Heap} {L : Addr} {p : Addr × Obj} (hp : p ∈ allNews g h L) : p.1 ≠ L ∧ g.get? p.1 = none ∧ h.get? p.1 = some p.2 := by
  obtain ⟨b, _, e⟩ := List.mem_filterMap.mp hp
  split at e
  · cases e
  · rename_i hn
    cases q : h.get? b with
    | none => rw [q] at e; simp at e
    | some u =>
      rw [q] at e
      simp only [Option.map_some, Option.some.injEq] at e
      subst e
      refine ⟨fun z => hn (.inl z), ?_, q⟩
      show g.get? b = none
      cases r : g.get? b with
      | none => rfl
      | some v => exact (hn (.inr (by simp [r]))).elim
theorem news_all {g h : Heap} {L : Addr} : News g L h (allNews g h L) := fun p hp => let ⟨a, b, c⟩ := of_mem_allNews hp; ⟨c, a, b⟩
end L2

namespace L2
open PySem PySem.Spec PyProof.Rows

/-- the module's facts, over the base: the heap at the law's entry without what is tracked there -/
structure Mod (K : PySem.W.Frag) (mg : Str → Option Value) (base : Heap) : Prop where
  kin : K.In base
  glob : base.Ns mainGlobals mg
  blt : ∃ mb, base.Ns builtinsNs mb ∧ ∀ x : Str, x ≠ "__name__" → mb x = bootBuiltins x
  nolimit : base.NoLimit

/-- the context: a def's body (or a comprehension's block) running. base: fixed through the whole law; s₀, H₀: the entry; outer: the frames whose slots others may change (a def's callers); stack: all frames that run;
   ex: iterators that were made ahead of the entry and are walked here (a comprehension's); fn: the names whose cells were made at the entry (a def: all; a comprehension's block: its own); calm: not within an except suite; pn: pins that every state bears; xe: what is wanted of an exception that leaves the code -/
structure Cx where
  prog : Program
  w : World
  K : PySem.W.Frag
  mg : Str → Option Value
  base : Heap
  A : Around
  N : List Str
  s₀ : Shared
  H₀ : Hp
  env : Env
  outer : List Env
  stack : List Env
  ex : List Addr
  fn : Str → Bool
  calm : Bool
  pn : List (Addr × Obj)
  xe : Value → Shared → Prop
/-- the callers' frames -/
def frs (l : List Env) : List Addr := l.filterMap (·.frame)
abbrev Cx.fs (X : Cx) : List Addr := frs X.outer

def Vis (sc : Scope) (x : Str) : Prop := sc.names.lookup x = some .local ∨ sc.names.lookup x = some .cell ∨ sc.names.lookup x = some .free
def Loc (sc : Scope) (x : Str) : Prop := sc.names.lookup x = some .local ∨ sc.names.lookup x = some .cell
def Look (env : Env) (h : Heap) (m : Str → Option Value) (x : Str) (u : Value) : Prop :=
  (env.kindOf x = some .local ∧ m x = some u) ∨ ((env.kindOf x = some .cell ∨ env.kindOf x = some .free) ∧ ∃ c, env.cells.lookup x = some c ∧ h.IsCell c (some u))

structure Cx.Ok (X : Cx) : Prop where
  mod : Mod X.K X.mg X.base
  kind : X.env.scope.kind = .function
  glob : X.env.globals = mainGlobals
  blt : X.env.builtins = builtinsNs
  above : X.s₀.heap.objs.size ≤ X.env.locals
  inj : ∀ x y c, X.env.cells.lookup x = some c → X.env.cells.lookup y = some c → x = y
  has : ∀ x, (X.env.kindOf x = some .cell ∨ X.env.kindOf x = some .free) → ∃ c, X.env.cells.lookup x = some c
  cab : ∀ x c, X.fn x = true → X.env.cells.lookup x = some c → X.s₀.heap.objs.size ≤ c
  hd : X.calm = true → X.A.handled = none
  frames : X.A.frames = some X.stack
  stk : X.stack = X.outer ∨ (X.stack = X.env :: X.outer ∧ X.env.frame = some X.env.locals)
  exf : ∀ b ∈ X.ex, b ≠ X.env.locals ∧ ∀ x c, X.env.cells.lookup x = some c → c ≠ b
  bs : ∀ b o, X.base.get? b = some o → X.s₀.heap.get? b = some o ∧ X.H₀ b = none
  bsz : X.base.objs.size ≤ X.s₀.heap.objs.size
  noex : ∀ b o, X.base.get? b = some o → b ∉ X.ex
  exfs : ∀ b ∈ X.ex, b ∉ X.fs
  funs : X.s₀.heap.FunFrames X.base X.outer
  frf : ∀ b ∈ X.fs, X.H₀ b = none

structure Inv (X : Cx) (pins : List (Addr × Obj)) (σ : List (Option V)) (H : Hp) (s : Shared) : Prop where
  ok : X.Ok
  os : s.os = X.s₀.os
  bare : AllBare s.gens
  base : Un X.fs X.ex X.H₀ H X.s₀.heap s.heap
  loc : ∃ m, s.heap.Ns X.env.locals m ∧ ∀ (i : Nat) (x : Str) (v : V), X.N[i]? = some x → σ[i]? = some (some v) → Vis X.env.scope x → ∃ u, RelV v u ∧ Look X.env s.heap m x u
  cell : ∀ x c, X.env.cells.lookup x = some c → ∃ v, s.heap.IsCell c v
  free : H X.env.locals = none
  freeC : ∀ x c, X.env.cells.lookup x = some c → H c = none
  pin : ∀ p ∈ X.pn ++ pins, s.heap.get? p.1 = some p.2 ∧ H p.1 = none ∧ p.1 ≠ X.env.locals ∧ p.1 ∉ X.fs ∧ ∀ v, p.2.data ≠ .cell v
  hok : HOk X.prog X.w H s.heap
  len : σ.length = X.N.length

section
variable {X : Cx} {pins : List (Addr × Obj)} {σ : List (Option V)} {H H' : Hp} {s : Shared} {h' : Heap}

theorem Cx.Ok.nofr (ok : X.Ok) {b : Addr} {o : Obj} (e : X.base.get? b = some o) : b ∉ X.fs := fun hb => by
  have := (ok.funs.mem hb).1
  rw [e] at this; cases this
theorem Inv.bs (I : Inv X pins σ H s) : ∀ b o, X.base.get? b = some o → s.heap.get? b = some o ∧ H b = none := fun b o e =>
  ⟨I.base.keep b o (I.ok.bs b o e).1 (I.ok.bs b o e).2 (I.ok.nofr e) (I.ok.noex b o e), I.base.free b o (I.ok.bs b o e).1 (I.ok.bs b o e).2 (I.ok.noex b o e)⟩
theorem Inv.bk (I : Inv X pins σ H s) : ∀ b o, X.base.get? b = some o → s.heap.get? b = some o := fun b o e => (I.bs b o e).1
theorem Inv.mod (I : Inv X pins σ H s) : Mod X.K X.mg X.base := I.ok.mod
theorem Inv.kIn (I : Inv X pins σ H s) : X.K.In s.heap := I.ok.mod.kin.keeps I.bk
/-- the frame over the base: for OpenK's rules (K.In X.base is I.mod.kin) -/
theorem Inv.fr (I : Inv X pins σ H s) : ∃ m, Fr X.base X.env.locals s.heap m :=
  let ⟨m, hn, _⟩ := I.loc
  ⟨m, hn, I.bk, Nat.le_trans I.ok.bsz I.ok.above⟩
theorem Inv.lt (I : Inv X pins σ H s) : X.env.locals < s.heap.objs.size := let ⟨_, hn, _⟩ := I.loc; hn.lt
theorem Inv.sz (I : Inv X pins σ H s) : X.s₀.heap.objs.size ≤ s.heap.objs.size := Nat.le_trans I.ok.above (Nat.le_of_lt I.lt)
theorem Inv.nofs (I : Inv X pins σ H s) {a : Addr} (h : s.heap.objs.size ≤ a) : a ∉ X.fs := fun hb => by
  obtain ⟨_, o, ho, _⟩ := I.ok.funs.mem hb
  exact absurd (Nat.lt_of_lt_of_le (Heap.lt_size ho) (Nat.le_trans I.sz h)) (Nat.lt_irrefl _)
theorem Inv.cne (I : Inv X pins σ H s) : ∀ x c, X.env.cells.lookup x = some c → c ≠ X.env.locals := fun x c e z => by
  obtain ⟨v, o, ho, hd⟩ := I.cell x c e
  obtain ⟨m, ⟨o', es, ep, ho', hd', _⟩, _⟩ := I.loc
  rw [z, ho'] at ho; cases ho; rw [hd'] at hd; cases hd
theorem Inv.funs (I : Inv X pins σ H s) : s.heap.FunFrames X.base X.outer := by
  have all : ∀ (l : List Env), (∀ b ∈ frs l, b ∈ X.fs) → X.s₀.heap.FunFrames X.base l → s.heap.FunFrames X.base l := by
    intro l
    induction l with
    | nil => intro _ _; trivial
    | cons env r ih =>
      intro hs hl
      obtain ⟨hk, ⟨L, o, hf, hn, ho, hd⟩, hr⟩ := hl
      have hL : L ∈ X.fs := hs L (by unfold frs; rw [List.filterMap_cons, hf]; exact List.mem_cons_self)
      obtain ⟨sl, e⟩ := I.base.slot L o ho (I.ok.frf L hL) hL fun z => I.ok.exfs L z hL
      exact ⟨hk, ⟨L, _, hf, hn, e, hd⟩, ih (fun b hb => hs b (by unfold frs; rw [List.filterMap_cons, hf]; exact List.mem_cons_of_mem _ hb)) hr⟩
  exact all X.outer (fun _ hb => hb) I.ok.funs

/-- the frames that run, for a call -/
theorem Inv.stack (I : Inv X pins σ H s) : s.heap.FunFrames X.base X.stack := by
  rcases I.ok.stk with e | ⟨e, hf⟩
  · rw [e]; exact I.funs
  · rw [e]
    obtain ⟨m, hn, _⟩ := I.loc
    refine .cons (by rw [I.ok.kind]; decide) hf hn ?_ I.funs
    exact Heap.get?_none_of_le (Nat.le_trans I.ok.bsz I.ok.above)
theorem Inv.stkSub (I : Inv X pins σ H s) : ∀ b ∈ frs X.stack, b ∈ X.env.locals :: X.fs := fun b hb => by
  rcases I.ok.stk with e | ⟨e, hf⟩
  · rw [e] at hb; exact List.mem_cons_of_mem _ hb
  · rw [e] at hb
    unfold frs at hb
    rw [List.filterMap_cons, hf] at hb
    exact hb
theorem Inv.stkFree (I : Inv X pins σ H s) : ∀ b ∈ frs X.stack, H b = none := fun b hb => by
  rcases List.mem_cons.mp (I.stkSub b hb) with e | hb
  · rw [e]; exact I.free
  · obtain ⟨_, o, ho, _⟩ := I.ok.funs.mem hb
    exact I.base.free b o ho (I.ok.frf b hb) fun z => I.ok.exfs b z hb

/-- THE STEP: the untracked objects but the frame and the records at ch are kept (the callers' frames up to slots), the frame's map is kept, the new abstract heap is held -/
theorem Inv.step {g' : Array GenState} {t' : Nat} {d' : Drawn} {ch : List Addr} (I : Inv X pins σ H s)
    (hch : ∀ b ∈ ch, (b ∈ X.ex ∨ X.s₀.heap.objs.size ≤ b) ∧ b ≠ X.env.locals ∧ (∀ x c, X.env.cells.lookup x = some c → c ≠ b) ∧ ∀ p ∈ X.pn ++ pins, p.1 ≠ b)
    (keep : ∀ b o, b ≠ X.env.locals → b ∉ X.fs → b ∉ ch → s.heap.get? b = some o → H b = none → h'.get? b = some o)
    (slot : ∀ b o, b ≠ X.env.locals → b ∈ X.fs → b ∉ ch → s.heap.get? b = some o → H b = none → ∃ sl, h'.get? b = some { o with slots := sl }) (free : ∀ b o, b ∉ ch → s.heap.get? b = some o → H b = none → H' b = none)
    (there : ∀ b o, b ∉ ch → s.heap.get? b = some o → ∃ o', h'.get? b = some o')
    (tups : ∀ b xs, H b = some (.tup xs) → H' b = some (.tup xs)) (frzs : ∀ b o u, H b = some (.frz o u) → H' b = some (.frz o u)) (tbls : ∀ b ps, H b = some (.tbl ps) → ∃ more, H' b = some (.tbl (ps ++ more)))
    (ns : ∀ m, s.heap.Ns X.env.locals m → h'.Ns X.env.locals m) (hok : HOk X.prog X.w H' h') (hg : AllBare g') :
    Inv X pins σ H' { s with heap := h', gens := g', drawn := d', toks := t' } := by
  have neL : ∀ b o, X.s₀.heap.get? b = some o → b ≠ X.env.locals := fun b o e => Nat.ne_of_lt (Nat.lt_of_lt_of_le (Heap.lt_size e) I.ok.above)
  have neC : ∀ b o, X.s₀.heap.get? b = some o → b ∉ X.ex → b ∉ ch := fun b o e hx hb => by
    rcases (hch b hb).1 with z | z
    · exact hx z
    · exact absurd (Nat.lt_of_lt_of_le (Heap.lt_size e) z) (Nat.lt_irrefl _)
  have cellK : ∀ x c, X.env.cells.lookup x = some c → ∀ v, s.heap.IsCell c v → h'.IsCell c v := fun x c e v ⟨o, ho, hd⟩ => by
    have nch : c ∉ ch := fun z => (hch c z).2.2.1 x c e rfl
    by_cases hc : c ∈ X.fs
    · obtain ⟨sl, q⟩ := slot c o (I.cne x c e) hc nch ho (I.freeC x c e)
      exact ⟨_, q, hd⟩
    · exact ⟨o, keep c o (I.cne x c e) hc nch ho (I.freeC x c e), hd⟩
  refine ⟨I.ok, I.os, hg, ⟨fun b o e n hb hx => ?_, fun b o e n hb hx => ?_, fun b o e n hx => ?_, fun b o e hx => ?_, fun b xs e => tups b xs (I.base.tups b xs e), fun b o xs e => frzs b o xs (I.base.frzs b o xs e), fun b ps e => ?_⟩, ?_, fun x c e => ?_, ?_, fun x c e => ?_, fun p hp => ?_, hok, I.len⟩
  · exact keep b o (neL b o e) hb (neC b o e hx) (I.base.keep b o e n hb hx) (I.base.free b o e n hx)
  · obtain ⟨sl, e1⟩ := I.base.slot b o e n hb hx
    obtain ⟨sl', e2⟩ := slot b _ (neL b o e) hb (neC b o e hx) e1 (I.base.free b o e n hx)
    exact ⟨sl', e2⟩
  · obtain ⟨o', e1⟩ := I.base.there b o e hx
    exact free b o' (neC b o e hx) e1 (I.base.free b o e n hx)
  · obtain ⟨o', e1⟩ := I.base.there b o e hx
    exact there b o' (neC b o e hx) e1
  · obtain ⟨m1, e1⟩ := I.base.tbls b ps e
    obtain ⟨m2, e2⟩ := tbls b _ e1
    exact ⟨m1 ++ m2, by rw [e2, Array.append_assoc]⟩
  · obtain ⟨m, hn, hl⟩ := I.loc
    refine ⟨m, ns m hn, fun i x v e1 e2 e3 => ?_⟩
    obtain ⟨u, r, l⟩ := hl i x v e1 e2 e3
    refine ⟨u, r, ?_⟩
    rcases l with l | ⟨k, c, e, z⟩
    · exact .inl l
    · exact .inr ⟨k, c, e, cellK x c e _ z⟩
  · obtain ⟨v, z⟩ := I.cell x c e
    exact ⟨v, cellK x c e v z⟩
  · obtain ⟨m, ⟨o, _, _, ho, _⟩, _⟩ := I.loc
    exact free _ o (fun z => (hch _ z).2.1 rfl) ho I.free
  · obtain ⟨v, o, ho, hd⟩ := I.cell x c e
    exact free c o (fun z => (hch c z).2.2.1 x c e rfl) ho (I.freeC x c e)
  · obtain ⟨e, n, ne, nf, d⟩ := I.pin p hp
    have nch : p.1 ∉ ch := fun z => (hch p.1 z).2.2.2 p hp rfl
    exact ⟨keep p.1 p.2 ne nf nch e n, free p.1 p.2 nch e n, ne, nf, d⟩
/-- .. where the frame's own object is kept too -/
theorem Inv.un {t' : Nat} (I : Inv X pins σ H s) (u : Un X.fs [] H H' s.heap h') (hok : HOk X.prog X.w H' h') : Inv X pins σ H' { s with heap := h', toks := t' } := by
  obtain ⟨m, ⟨o, es, ep, ho, r⟩, _⟩ := id I.loc
  obtain ⟨sl, hL⟩ := u.any ho I.free (by simp)
  exact I.step (g' := s.gens) (d' := s.drawn) (ch := []) (fun _ z => nomatch z) (fun b o _ hb _ e n => u.keep b o e n hb (by simp)) (fun b o _ hb _ e n => u.slot b o e n hb (by simp)) (fun b o _ e n => u.free b o e n (by simp)) (fun b o _ e => u.there b o e (by simp)) u.tups u.frzs u.tbls (fun m' hm => by
    obtain ⟨o', es', ep', ho', r'⟩ := hm
    rw [ho] at ho'; cases ho'
    exact ⟨_, es', ep', hL, r'⟩) hok I.bare
/-- behind a call (or a comprehension's block): the slots of this frame may have changed too, the records at ch may have turned -/
theorem Inv.call {g' : Array GenState} {t' : Nat} {d' : Drawn} {ch : List Addr} (I : Inv X pins σ H s) (u : Un (frs X.stack) ch H H' s.heap h') (hok : HOk X.prog X.w H' h') (hg : AllBare g')
    (hch : ∀ b ∈ ch, (b ∈ X.ex ∨ X.s₀.heap.objs.size ≤ b) ∧ b ≠ X.env.locals ∧ (∀ x c, X.env.cells.lookup x = some c → c ≠ b) ∧ ∀ p ∈ X.pn ++ pins, p.1 ≠ b) :
    Inv X pins σ H' { s with heap := h', gens := g', drawn := d', toks := t' } := by
  obtain ⟨m, ⟨o, es, ep, ho, r⟩, _⟩ := id I.loc
  obtain ⟨sl, hL⟩ := u.any ho I.free fun z => (hch _ z).2.1 rfl
  exact I.step (ch := ch) hch (fun b o hL hb hc e n => u.keep b o e n (fun z => (List.mem_cons.mp (I.stkSub b z)).elim hL hb) hc) (fun b o _ _ hc e n => u.any e n hc) (fun b o hc e n => u.free b o e n hc) (fun b o hc e => u.there b o e hc) u.tups u.frzs u.tbls (fun m' hm => by
    obtain ⟨o', es', ep', ho', r'⟩ := hm
    rw [ho] at ho'; cases ho'
    exact ⟨_, es', ep', hL, r'⟩) hok hg
/-- an untracked record of ours (an iterator) has turned -/
theorem Inv.turned {t' : Nat} {it : Addr} (I : Inv X pins σ H s) (k : ∀ b o, b ≠ it → s.heap.get? b = some o → h'.get? b = some o) (hn : H it = none) (hL : it ≠ X.env.locals)
    (h1 : it ∈ X.ex ∨ X.s₀.heap.objs.size ≤ it) (h2 : ∀ x c, X.env.cells.lookup x = some c → c ≠ it) (h3 : ∀ p ∈ X.pn ++ pins, p.1 ≠ it) : Inv X pins σ H { s with heap := h', toks := t' } := by
  have nit : ∀ b u, H b = some u → b ≠ it := fun b u e z => by rw [z, hn] at e; cases e
  refine I.step (g' := s.gens) (d' := s.drawn) (ch := [it]) (fun b hb => ?_) (fun b o _ _ hc e _ => k b o (fun z => hc (by simp [z])) e) (fun b o _ _ hc e _ => ⟨o.slots, k b o (fun z => hc (by simp [z])) e⟩) (fun _ _ _ _ n => n)
    (fun b o hc e => ⟨o, k b o (fun z => hc (by simp [z])) e⟩) (fun _ _ e => e) (fun _ _ _ e => e) (fun b ps e => ⟨#[], by rw [e]; simp⟩) (fun m hm => ?_) (fun b u e => ?_) I.bare
  · have e : b = it := by simpa using hb
    subst e
    exact ⟨h1, hL, h2, h3⟩
  · obtain ⟨o, es, ep, ho, r⟩ := hm
    exact ⟨o, es, ep, k _ o (Ne.symm hL) ho, r⟩
  · refine (I.hok b u e).stay (fun c v hc q => k c v ?_ q) (fun _ q => q) fun _ _ q => q
    rcases hc with z | z
    · rw [z]; exact nit b u e
    · exact nit c _ z
theorem Inv.tok (I : Inv X pins σ H s) (t : Nat) : Inv X pins σ H { s with toks := t } := I.un (h' := s.heap) (t' := t) Un.refl I.hok
/-- all objects kept -/
theorem Inv.kept {t' : Nat} (I : Inv X pins σ H s) (k : ∀ b u, s.heap.get? b = some u → h'.get? b = some u) : Inv X pins σ H { s with heap := h', toks := t' } := I.un (Un.kept k) (I.hok.kept k)
/-- a new object laid and tracked -/
theorem Inv.laid {a : Addr} {o : HO} {t' : Nat} (I : Inv X pins σ H s) (k : ∀ b u, s.heap.get? b = some u → h'.get? b = some u) (hp : s.heap.objs.size ≤ a) (new : ObjOk X.prog X.w (upd H a o) h' a o) :
    Inv X pins σ (upd H a o) { s with heap := h', toks := t' } := I.un (Un.laid k hp (I.hok.fresh hp)) (I.hok.laid k hp new)
/-- an object written -/
theorem Inv.write {x e : Addr} {o : HO} {t' : Nat} (I : Inv X pins σ H s) (mu : Mut (H x)) (he : e = x ∨ H e = some (.own x)) (k : ∀ b u, b ≠ e → s.heap.get? b = some u → h'.get? b = some u) (heo : ∃ u, h'.get? e = some u)
    (new : ObjOk X.prog X.w (upd H x o) h' x o) : Inv X pins σ (upd H x o) { s with heap := h', toks := t' } := I.un (Un.write mu he k heo) (I.hok.write mu he k heo new)
theorem Inv.pins_of {pins' : List (Addr × Obj)} (I : Inv X pins σ H s) (h : ∀ p ∈ pins', s.heap.get? p.1 = some p.2 ∧ H p.1 = none ∧ p.1 ≠ X.env.locals ∧ p.1 ∉ X.fs ∧ ∀ v, p.2.data ≠ .cell v) : Inv X pins' σ H s :=
  ⟨I.ok, I.os, I.bare, I.base, I.loc, I.cell, I.free, I.freeC, fun p hp => (List.mem_append.mp hp).elim (fun z => I.pin p (List.mem_append_left _ z)) (h p), I.hok, I.len⟩

theorem nodup_ix {N : List Str} (hN : N.Nodup) {i j : Nat} {x : Str} (a : N[i]? = some x) (b : N[j]? = some x) : i = j := by
  obtain ⟨h1, e1⟩ := List.getElem?_eq_some_iff.mp a
  obtain ⟨h2, e2⟩ := List.getElem?_eq_some_iff.mp b
  exact (List.getElem_inj hN).mp (e1.trans e2.symm)

/-- a name is stored; what changed -/
theorem store_ok2 {M : Model} {A : Around} {E : Value → Shared → Prop} {i : Nat} {x : Str} {v : V} {u : Value} {Q : Unit → Shared → Prop} (I : Inv X pins σ H s) (hN : X.N.Nodup) (hi : X.N[i]? = some x) (hx : Loc X.env.scope x) (r : RelV v u)
    (h : ∀ s', Inv X pins (σ.set i (some v)) H s' → (∃ a, Heap.SameBut a s.heap s'.heap ∧ (a = X.env.locals ∨ X.env.cells.lookup x = some a)) → Q () s') (hf : X.fn x = true ∨ X.env.scope.names.lookup x = some .local := by first | exact .inl rfl | exact .inr rfl | assumption) : wpAny M A (storeName X.env x u) Q E s := by
  obtain ⟨m, hn, hl⟩ := id I.loc
  have hcls : (X.env.scope.kind == .class || (X.env.scope.kind == .module && X.env.locals != X.env.globals)) = false := by rw [I.ok.kind]; rfl
  have hiσ : i < σ.length := by rw [I.len]; exact (List.getElem?_eq_some_iff.mp hi).1
  have cne := I.cne
  have tracked : ∀ {a : Addr} {h' : Heap}, (∃ o, s.heap.get? a = some o ∧ H a = none) → Heap.SameBut a s.heap h' → HOk X.prog X.w H h' := fun {a h'} ha hs b ob e => by
    obtain ⟨_, _, hfree⟩ := ha
    refine (I.hok b ob e).stay (fun c w' hc q => (hs.2 c ?_).trans q) (fun _ q => q) fun _ _ q => q
    rintro rfl
    rcases hc with rfl | hc
    · rw [hfree] at e; cases e
    · rw [hfree] at hc; cases hc
  rcases hx with hk | hk
  · refine wpAny_storeName_local hk hn (fun h' hn' hs => ?_) hcls
    obtain ⟨oL, _, _, hoL, _⟩ := id hn
    refine h _ ⟨I.ok, I.os, I.bare, ⟨fun b o e n hb hx => ?_, fun b o e n hb hx => ?_, I.base.free, fun b o e hx => ?_, I.base.tups, I.base.frzs, I.base.tbls⟩, ⟨_, hn', fun j y v' e1 e2 e3 => ?_⟩, fun y c e => ?_, I.free, I.freeC, fun p hp => ?_, tracked ⟨oL, hoL, I.free⟩ hs, by simpa using I.len⟩ ⟨_, hs, .inl rfl⟩
    · exact (hs.2 b (Nat.ne_of_lt (Nat.lt_of_lt_of_le (Heap.lt_size e) I.ok.above))).trans (I.base.keep b o e n hb hx)
    · obtain ⟨sl, e1⟩ := I.base.slot b o e n hb hx
      exact ⟨sl, (hs.2 b (Nat.ne_of_lt (Nat.lt_of_lt_of_le (Heap.lt_size e) I.ok.above))).trans e1⟩
    · obtain ⟨o', e1⟩ := I.base.there b o e hx
      exact ⟨o', (hs.2 b (Nat.ne_of_lt (Nat.lt_of_lt_of_le (Heap.lt_size e) I.ok.above))).trans e1⟩
    · by_cases hj : j = i
      · subst hj
        rw [hi] at e1; cases e1
        rw [List.getElem?_set_self hiσ] at e2
        cases e2
        exact ⟨u, r, .inl ⟨hk, by simp⟩⟩
      · rw [List.getElem?_set_ne (Ne.symm hj)] at e2
        obtain ⟨u', r', q⟩ := hl j y v' e1 e2 e3
        refine ⟨u', r', ?_⟩
        rcases q with ⟨k, e⟩ | ⟨k, c, e, z⟩
        · refine .inl ⟨k, ?_⟩
          have : y ≠ x := fun e => hj (nodup_ix hN e1 (e ▸ hi))
          simp [this, e]
        · exact .inr ⟨k, c, e, z.sameBut hs (cne y c e)⟩
    · obtain ⟨w', z⟩ := I.cell y c e
      exact ⟨w', z.sameBut hs (cne y c e)⟩
    · obtain ⟨e, n, ne, nf, d⟩ := I.pin p hp
      exact ⟨(hs.2 p.1 ne).trans e, n, ne, nf, d⟩
  · have hfn : X.fn x = true := by
      rcases hf with z | z
      · exact z
      · rw [z] at hk; cases hk
    obtain ⟨c, hc⟩ := I.ok.has x (.inl hk)
    obtain ⟨w', z⟩ := I.cell x c hc
    refine wpAny_storeName_cell I.ok.kind hk hc z (fun h' hc' hs => ?_)
    obtain ⟨oc, hoc, hocd⟩ := id z
    refine h { s with heap := h' } ⟨I.ok, I.os, I.bare, ⟨fun b o e n hb hx => ?_, fun b o e n hb hx => ?_, I.base.free, fun b o e hx => ?_, I.base.tups, I.base.frzs, I.base.tbls⟩, ⟨m, hn.sameBut hs (Ne.symm (cne x c hc)), fun j y v' e1 e2 e3 => ?_⟩, fun y c' e => ?_, I.free, I.freeC, fun p hp => ?_, tracked ⟨oc, hoc, I.freeC x c hc⟩ hs, by simpa using I.len⟩ ⟨c, hs, .inr hc⟩
    · exact (hs.2 b (Nat.ne_of_lt (Nat.lt_of_lt_of_le (Heap.lt_size e) (I.ok.cab x c hfn hc)))).trans (I.base.keep b o e n hb hx)
    · obtain ⟨sl, e1⟩ := I.base.slot b o e n hb hx
      exact ⟨sl, (hs.2 b (Nat.ne_of_lt (Nat.lt_of_lt_of_le (Heap.lt_size e) (I.ok.cab x c hfn hc)))).trans e1⟩
    · obtain ⟨o', e1⟩ := I.base.there b o e hx
      exact ⟨o', (hs.2 b (Nat.ne_of_lt (Nat.lt_of_lt_of_le (Heap.lt_size e) (I.ok.cab x c hfn hc)))).trans e1⟩
    · by_cases hj : j = i
      · subst hj
        rw [hi] at e1; cases e1
        rw [List.getElem?_set_self hiσ] at e2
        cases e2
        exact ⟨u, r, .inr ⟨.inl hk, c, hc, hc'⟩⟩
      · rw [List.getElem?_set_ne (Ne.symm hj)] at e2
        obtain ⟨u', r', q⟩ := hl j y v' e1 e2 e3
        refine ⟨u', r', ?_⟩
        rcases q with q | ⟨k, c', e, z'⟩
        · exact .inl q
        · refine .inr ⟨k, c', e, z'.sameBut hs ?_⟩
          rintro rfl
          exact hj (nodup_ix hN e1 (I.ok.inj _ _ _ e hc ▸ hi))
    · by_cases hcc : c' = c
      · subst hcc; exact ⟨_, hc'⟩
      · obtain ⟨w2, z2⟩ := I.cell y c' e
        exact ⟨w2, z2.sameBut hs hcc⟩
    · obtain ⟨e, n, ne, nf, d⟩ := I.pin p hp
      refine ⟨(hs.2 p.1 ?_).trans e, n, ne, nf, d⟩
      intro q
      rw [q, hoc] at e
      have q' : oc = p.2 := Option.some.inj e
      exact d w' (by rw [← q']; exact hocd)
theorem store_ok {M : Model} {A : Around} {E : Value → Shared → Prop} {i : Nat} {x : Str} {v : V} {u : Value} {Q : Unit → Shared → Prop} (I : Inv X pins σ H s) (hN : X.N.Nodup) (hi : X.N[i]? = some x) (hx : Loc X.env.scope x) (r : RelV v u)
    (h : ∀ s', Inv X pins (σ.set i (some v)) H s' → Q () s') (hf : X.fn x = true ∨ X.env.scope.names.lookup x = some .local := by first | exact .inl rfl | exact .inr rfl | assumption) : wpAny M A (storeName X.env x u) Q E s :=
  store_ok2 I hN hi hx r (fun s' I' _ => h s' I') hf
/-- behind a call or a block, the state as it is -/
theorem Inv.call' {s' : Shared} {ch : List Addr} (I : Inv X pins σ H s) (ho : s'.os = s.os) (u : Un (frs X.stack) ch H H' s.heap s'.heap) (hok : HOk X.prog X.w H' s'.heap) (hg : AllBare s'.gens)
    (hch : ∀ b ∈ ch, (b ∈ X.ex ∨ X.s₀.heap.objs.size ≤ b) ∧ b ≠ X.env.locals ∧ (∀ x c, X.env.cells.lookup x = some c → c ≠ b) ∧ ∀ p ∈ X.pn ++ pins, p.1 ≠ b) : Inv X pins σ H' s' := by
  obtain ⟨h', g', d', t', o'⟩ := s'
  have e : o' = s.os := ho
  subst e
  exact I.call (g' := g') (t' := t') (d' := d') u hok hg hch
end

/-! ### the judgements -/
/-- an exception: its class, its own dict's address (where it has one), the abstract heap behind it -/
abbrev XK := Value → Option Addr → Hp → Prop
abbrev St := List (Option V)
abbrev VK := V → Hp → Prop
/-- an expression's reading; a test's; an argument list's -/
abbrev TE := St → Hp → VK → Prop
abbrev TT := St → Hp → (Bool → Hp → Prop) → Prop
abbrev TA := St → Hp → (List V → Hp → Prop) → Prop
/-- what is wanted behind a statement -/
structure Ends where
  nx : St → Hp → Prop
  rt : VK
  bk : St → Hp → Prop := fun _ _ => False
  ct : St → Hp → Prop := fun _ _ => False
abbrev TS := Ends → St → Hp → Prop

def EP (X : Cx) (pins : List (Addr × Obj)) (σ : St) (Q : VK) (u : Value) (s' : Shared) : Prop := ∃ v H', Inv X pins σ H' s' ∧ RelV v u ∧ Q v H'
def TP (X : Cx) (pins : List (Addr × Obj)) (σ : St) (Q : Bool → Hp → Prop) (b : Bool) (s' : Shared) : Prop := ∃ H', Inv X pins σ H' s' ∧ Q b H'
def AP (X : Cx) (pins : List (Addr × Obj)) (σ : St) (Q : List V → Hp → Prop) (us : List Value) (s' : Shared) : Prop := ∃ vs H', Inv X pins σ H' s' ∧ Vals vs us ∧ Q vs H'
def SP (X : Cx) (pins : List (Addr × Obj)) (D : Ends) (f : Flow) (s' : Shared) : Prop :=
  match f with
  | .next => ∃ σ' H', Inv X pins σ' H' s' ∧ D.nx σ' H'
  | .brk => ∃ σ' H', Inv X pins σ' H' s' ∧ D.bk σ' H'
  | .cont => ∃ σ' H', Inv X pins σ' H' s' ∧ D.ct σ' H'
  | .ret u => ∃ v σ' H', Inv X pins σ' H' s' ∧ RelV v u ∧ D.rt v H'

def PE (X : Cx) (e : Expr) (t : TE) : Prop :=
  ∀ (pins : List (Addr × Obj)) (s : Shared) (σ : St) (H : Hp) (Q : VK), Inv X pins σ H s → t σ H Q → wpAny (model X.prog X.w) X.A (eval e X.env) (EP X pins σ Q) X.xe s
def PT (X : Cx) (e : Expr) (t : TT) : Prop :=
  ∀ (pins : List (Addr × Obj)) (s : Shared) (σ : St) (H : Hp) (Q : Bool → Hp → Prop), Inv X pins σ H s → t σ H Q → wpAny (model X.prog X.w) X.A (isTrue e X.env (eval e X.env)) (TP X pins σ Q) X.xe s
/-- a test whatever its 'whole' is (and, or) -/
def PW (X : Cx) (e : Expr) (t : TT) : Prop :=
  ∀ (whole : Sem Value) (pins : List (Addr × Obj)) (s : Shared) (σ : St) (H : Hp) (Q : Bool → Hp → Prop), Inv X pins σ H s → t σ H Q → wpAny (model X.prog X.w) X.A (isTrue e X.env whole) (TP X pins σ Q) X.xe s
theorem PW.pt {X : Cx} {e : Expr} {t : TT} (h : PW X e t) : PT X e t := h _
/-- an argument list (no star), from the left -/
def PA (X : Cx) (es : List Expr) (t : TA) : Prop :=
  ∀ (pos : Pos) (pins : List (Addr × Obj)) (s : Shared) (σ : St) (H : Hp) (Q : List V → Hp → Prop), Inv X pins σ H s → t σ H Q → wpAny (model X.prog X.w) X.A (spliced (backTo pos (starEach es X.env))) (AP X pins σ Q) X.xe s
def PS (X : Cx) (st : Stmt) (t : TS) : Prop :=
  ∀ (pins : List (Addr × Obj)) (s : Shared) (σ : St) (H : Hp) (D : Ends), Inv X pins σ H s → t D σ H → wpAny (model X.prog X.w) X.A (exec st X.env) (SP X pins D) X.xe s
def PSs (X : Cx) (st : List Stmt) (t : TS) : Prop :=
  ∀ (pins : List (Addr × Obj)) (s : Shared) (σ : St) (H : Hp) (D : Ends), Inv X pins σ H s → t D σ H → wpAny (model X.prog X.w) X.A (execs st X.env) (SP X pins D) X.xe s
/-- weaken the end -/
theorem thn {α : Type} {t : Sem α} {Q Q' : α → Shared → Prop} {M : Model} {A : Around} {E : Value → Shared → Prop} {s : Shared} (h : wpAny M A t Q E s) (hQ : ∀ a s, Q a s → Q' a s) : wpAny M A t Q' E s := wpAny_mono h hQ fun _ _ x => x
end L2

namespace L2
open PySem PySem.Spec PyProof.Rows
section
variable {X : Cx}

/-- two expressions in a row -/
theorem bin {a b : Expr} {ta tb : TE} (ha : PE X a ta) (hb : PE X b tb) {pins : List (Addr × Obj)} {s : Shared} {σ : St} {H : Hp} {R : V → V → Hp → Prop} (I : Inv X pins σ H s) (h : ta σ H fun x H1 => tb σ H1 fun y H2 => R x y H2)
    {α : Type} {Q : α → Shared → Prop} {f : Value → Value → Sem α}
    (hf : ∀ v u s2 x y H2, Inv X pins σ H2 s2 → RelV x v → RelV y u → R x y H2 → wpAny (model X.prog X.w) X.A (f v u) Q X.xe s2) :
    wpAny (model X.prog X.w) X.A (eval a X.env) (fun v s₁ => wpAny (model X.prog X.w) X.A (eval b X.env) (fun u s₂ => wpAny (model X.prog X.w) X.A (f v u) Q X.xe s₂) X.xe s₁) X.xe s := by
  refine thn (ha pins s σ H _ I h) fun v s1 ⟨x, H1, I1, r1, q1⟩ => ?_
  refine thn (hb pins s1 σ H1 _ I1 q1) fun u s2 ⟨y, H2, I2, r2, q2⟩ => ?_
  exact hf v u s2 x y H2 I2 r1 r2 q2

/-! ### names and constants -/
def tVar (i : Nat) : TE := fun σ H Q => ∃ v, σ[i]? = some (some v) ∧ Q v H
def tC (v : V) : TE := fun _ H Q => Q v H
theorem pe_var {i : Nat} {x : Str} {pos : Pos} (hN : X.N[i]? = some x) (hv : Vis X.env.scope x) (hd : (x == ("__debug__" : Str)) = false := by decide) (hcd : (x == ("__classdict__" : Str)) = false := by decide) : PE X (.Name x pos) (tVar i) := by
  intro pins s σ H Q I h
  obtain ⟨v, e, h⟩ := h
  obtain ⟨m, hn, hl⟩ := I.loc
  obtain ⟨u, r, l⟩ := hl i x v hN e hv
  have fin : EP X pins σ Q u s := ⟨v, H, I, r, h⟩
  rcases l with ⟨hk, hm⟩ | ⟨hk, c, hc, hcell⟩
  · exact wpAny_Name (wpAny_loadName_local I.ok.kind hk hn hm fin) hd
  · rcases hk with hk | hk
    · exact wpAny_Name (wpAny_loadName_cell I.ok.kind hk hc hcell fin) hd
    · exact wpAny_Name (wpAny_loadName_free I.ok.kind hk hc hcell fin hcd) hd
theorem pe_int {i j pos} : PE X (.Constant (.int i) j pos) (tC (.int i)) := fun _ _ _ H _ I h => wpAny_Constant_int ⟨.int i, H, I.tok _, ⟨_, rfl⟩, h⟩
theorem pe_bl {b j pos} : PE X (.Constant (.bool b) j pos) (tC (.bl b)) := fun _ _ _ H _ I h => Constant_bool ⟨.bl b, H, I, rfl, h⟩
theorem pe_non {j pos} : PE X (.Constant .none j pos) (tC .non) := fun _ _ _ H _ I h => Constant_none ⟨.non, H, I, rfl, h⟩
theorem pe_str {x j pos} : PE X (.Constant (.str x) j pos) (tC (.str x)) := fun _ _ _ H _ I h => Calls.Constant_str ⟨.str x, H, I.tok _, ⟨_, rfl⟩, h⟩

/-- a global name of the def -/
def Gl (X : Cx) (x : Str) : Prop := X.env.kindOf x = some .globalImplicit
theorem ld_glob {E : Value → Shared → Prop} {pins : List (Addr × Obj)} {s : Shared} {σ : St} {H : Hp} {x : Str} {u : Value} {pos : Pos} {Q : Value → Shared → Prop} (I : Inv X pins σ H s) (hg : Gl X x) (hm : X.mg x = some u) (h : Q u s)
    (hd : (x == ("__debug__" : Str)) = false := by decide) : wpAny (model X.prog X.w) X.A (eval (.Name x pos) X.env) Q E s :=
  Calls.Name_function_global I.ok.kind hg (Calls.loadGlobal_global (by rw [I.ok.glob]; exact I.mod.glob.keeps I.bk) hm h) hd
theorem ld_blt {E : Value → Shared → Prop} {pins : List (Addr × Obj)} {s : Shared} {σ : St} {H : Hp} {x : Str} {u : Value} {pos : Pos} {Q : Value → Shared → Prop} (I : Inv X pins σ H s) (hg : Gl X x) (hm : X.mg x = none) (hv : bootBuiltins x = some u) (h : Q u s)
    (hn : x ≠ "__name__" := by decide) (hd : (x == ("__debug__" : Str)) = false := by decide) : wpAny (model X.prog X.w) X.A (eval (.Name x pos) X.env) Q E s := by
  obtain ⟨mb, h1, h2⟩ := I.mod.blt
  exact Calls.Name_function_global I.ok.kind hg (Calls.loadGlobal_builtin (by rw [I.ok.glob]; exact I.mod.glob.keeps I.bk) hm (by rw [I.ok.blt]; exact h1.keeps I.bk) ((h2 x hn).trans hv) h) hd
/-- a module's constant, a class, a function, as a value -/
theorem pe_glob {x : Str} {v : V} {u : Value} {pos : Pos} (hg : Gl X x) (hm : X.mg x = some u) (r : RelV v u) (hd : (x == ("__debug__" : Str)) = false := by decide) : PE X (.Name x pos) (tC v) :=
  fun _ _ _ H _ I h => ld_glob I hg hm ⟨v, H, I, r, h⟩ hd
theorem pe_bltn {x : Str} {v : V} {u : Value} {pos : Pos} (hg : Gl X x) (hm : X.mg x = none) (hv : bootBuiltins x = some u) (r : RelV v u) (hn : x ≠ "__name__" := by decide) (hd : (x == ("__debug__" : Str)) = false := by decide) : PE X (.Name x pos) (tC v) :=
  fun _ _ _ H _ I h => ld_blt I hg hm hv ⟨v, H, I, r, h⟩ hn hd

/-! ### arithmetic -/
variable {a b : Expr} {ta tb : TE} {pos : Pos}

/-! ### comparisons -/
def PC (X : Cx) (op : CmpOp) (a b : Expr) (t : TE) : Prop :=
  ∀ (pins : List (Addr × Obj)) (s : Shared) (σ : St) (H : Hp) (Q : VK), Inv X pins σ H s → t σ H Q →
    wpAny (model X.prog X.w) X.A (eval a X.env) (fun v s₁ => wpAny (model X.prog X.w) X.A (eval b X.env) (fun u s₂ => wpAny (model X.prog X.w) X.A (compareOp op v u) (EP X pins σ Q) X.xe s₂) X.xe s₁) X.xe s
/-- a comparison as a value, as a test -/
def tB (t : TE) : TT := fun σ H Q => t σ H fun x H1 => ∃ c, x = .bl c ∧ Q c H1
theorem pt_cmp {op : CmpOp} {t : TE} (h : PC X op a b t) (h1 : behindInMarks op b = false := by first | exact nobehind _ (by decide) (by decide) | rfl) : PT X (.Compare a [op] [b] pos) (tB t) := by
  intro pins s σ H Q I hw
  refine wpAny_isTrue_Compare1 (thn (h pins s σ H _ I hw) fun v s1 h1 => thn h1 fun u s2 h2 => thn h2 fun c s3 ⟨x, H1, I1, r1, q1⟩ => ?_) h1
  obtain ⟨d, rfl, q⟩ := q1
  cases r1
  exact wpAny_truthy_bool ⟨H1, I1, q⟩
/-- an expression whose value is a bool, as a test -/
theorem pt_val {e : Expr} {t : TE} (h : PE X e t) (he : ∀ whole, isTrue e X.env whole = (do let v ← whole; standAt e.pos; holding [v] (truthy v)) := by intro _; rfl) : PT X e (tB t) := by
  intro pins s σ H Q I hw
  refine isTrue_plain (thn (h pins s σ H _ I hw) fun v s1 ⟨x, H1, I1, r1, q1⟩ => ?_) (he _)
  obtain ⟨d, rfl, q⟩ := q1
  cases r1
  exact wpAny_truthy_bool ⟨H1, I1, q⟩

/-! ### and, or, not -/
variable {tA tB' : TT} {rest : List Expr}
def tAnd (t u : TT) : TT := fun σ H Q => t σ H fun c H1 => if c = true then u σ H1 Q else Q false H1
def tOr (t u : TT) : TT := fun σ H Q => t σ H fun c H1 => if c = true then Q true H1 else u σ H1 Q
def tNot (t : TT) : TT := fun σ H Q => t σ H fun c H1 => Q (!c) H1
theorem pw_and1 (ha : PT X a tA) : PW X (.BoolOp .And [a] pos) tA := by
  intro wh pins s σ H Q I h
  refine isTrue_and (thn (ha pins s σ H Q I h) fun c s1 e => ?_)
  cases c with
  | true => exact isTrue_and_nil e
  | false => exact e
theorem pw_or1 (ha : PT X a tA) : PW X (.BoolOp .Or [a] pos) tA := by
  intro wh pins s σ H Q I h
  refine isTrue_or (thn (ha pins s σ H Q I h) fun c s1 e => ?_)
  cases c with
  | false => exact isTrue_or_nil e
  | true => exact e
theorem pw_and (ha : PT X a tA) (hb : PW X (.BoolOp .And (b :: rest) pos) tB') : PW X (.BoolOp .And (a :: b :: rest) pos) (tAnd tA tB') := by
  intro wh pins s σ H Q I h
  refine isTrue_and (thn (ha pins s σ H _ I h) fun c s1 ⟨H1, I1, q1⟩ => ?_)
  cases c with
  | true => exact hb wh pins s1 σ H1 Q I1 q1
  | false => exact ⟨H1, I1, q1⟩
theorem pw_or (ha : PT X a tA) (hb : PW X (.BoolOp .Or (b :: rest) pos) tB') : PW X (.BoolOp .Or (a :: b :: rest) pos) (tOr tA tB') := by
  intro wh pins s σ H Q I h
  refine isTrue_or (thn (ha pins s σ H _ I h) fun c s1 ⟨H1, I1, q1⟩ => ?_)
  cases c with
  | true => exact ⟨H1, I1, q1⟩
  | false => exact hb wh pins s1 σ H1 Q I1 q1
theorem pt_not (ha : PT X a tA) : PT X (.UnaryOp .Not a pos) (tNot tA) := by
  intro pins s σ H Q I h
  exact isTrue_not (ha pins s σ H (fun c H1 => Q (!c) H1) I h)
/-- .. as values (bools) -/
def tAndV (ta tb : TE) : TE := fun σ H Q => ta σ H fun x H1 => ∃ c, x = .bl c ∧ if c = true then tb σ H1 Q else Q (.bl false) H1
def tNotV (ta : TE) : TE := fun σ H Q => ta σ H fun x H1 => ∃ c, x = .bl c ∧ Q (.bl (!c)) H1
theorem pe_one {op} {t : TE} (h : PE X a t) : PE X (.BoolOp op [a] pos) t := fun pins s σ H Q I hw => BoolOp_one (h pins s σ H Q I hw)
theorem pe_and (ha : PE X a ta) (hb : PE X (.BoolOp .And (b :: rest) pos) tb) : PE X (.BoolOp .And (a :: b :: rest) pos) (tAndV ta tb) := by
  intro pins s σ H Q I h
  refine BoolOp_and (thn (ha pins s σ H _ I h) fun v s1 ⟨x, H1, I1, r1, q1⟩ => ?_)
  obtain ⟨c, rfl, q1⟩ := q1
  cases r1
  refine wpAny_truthy_bool ?_
  cases c with
  | true => exact hb pins s1 σ H1 Q I1 q1
  | false => exact ⟨.bl false, H1, I1, rfl, q1⟩
theorem pe_not (ha : PE X a ta) : PE X (.UnaryOp .Not a pos) (tNotV ta) := by
  intro pins s σ H Q I h
  refine UnaryOp_ (thn (ha pins s σ H _ I h) fun v s1 ⟨x, H1, I1, r1, q1⟩ => ?_)
  obtain ⟨c, rfl, q1⟩ := q1
  cases r1
  exact not_of (wpAny_truthy_bool ⟨.bl (!c), H1, I1, rfl, q1⟩)
end
end L2

namespace L2
open PySem PySem.Spec PyProof.Rows

/-! ### a list, a tuple that is read: tracked, frozen, or an object of the module -/
def SqL (K : PySem.W.Frag) (H : Hp) (a : Addr) (xs : List V) : Prop :=
  Rd H a (.lst xs) ∨
    ∃ (o : Obj) (its : Array Value) (n : Nat), K.lookup a = some o ∧ o.cls = .type "list" ∧ o.dict = none ∧ o.data = .seq its n ∧ its.size ≤ sizeLine ∧ Vals xs its.toList
def SqT (K : PySem.W.Frag) (H : Hp) (a : Addr) (xs : List V) : Prop :=
  Rd H a (.tup xs) ∨
    ∃ (o : Obj) (its : Array Value) (n : Nat), K.lookup a = some o ∧ o.cls = .type "tuple" ∧ o.data = .seq its n ∧ its.size ≤ sizeLine ∧ Vals xs its.toList
def absV : Value → Option V
  | .none => some .non
  | .bool b => some (.bl b)
  | .int i _ => some (.int i)
  | .str x _ => some (.str x)
  | .bytes b _ => some (.byt b)
  | .float b _ => some (.flt b)
  | .ref a => some (.ref a)
  | .type n => some (.ty n)
  | _ => none
theorem RelV.abs {x : V} {u : Value} (r : RelV x u) : absV u = some x := by
  cases x with
  | non => cases r; rfl
  | bl _ => cases r; rfl
  | int _ => obtain ⟨t, rfl⟩ := r; rfl
  | str _ => obtain ⟨t, rfl⟩ := r; rfl
  | byt _ => obtain ⟨t, rfl⟩ := r; rfl
  | flt _ => obtain ⟨t, rfl⟩ := r; rfl
  | ref _ => cases r; rfl
  | ty _ => cases r; rfl
theorem RelV.inj {x y : V} {u : Value} (r : RelV x u) (q : RelV y u) : x = y := Option.some.inj (r.abs.symm.trans q.abs)
theorem Vals.inj : ∀ {xs ys : List V} {us : List Value}, Vals xs us → Vals ys us → xs = ys
  | _, _, _, .nil, .nil => rfl
  | _, _, _, .cons r t, .cons r' t' => by rw [r.inj r', Vals.inj t t']
section
variable {X : Cx} {pins : List (Addr × Obj)} {σ : St} {H : Hp} {s : Shared} {a : Addr} {xs ys : List V}
theorem SqL.of {K : PySem.W.Frag} (h : H a = some (.lst xs)) : SqL K H a xs := .inl (.inl h)
theorem SqT.of {K : PySem.W.Frag} (h : H a = some (.tup xs)) : SqT K H a xs := .inl (.inl h)
theorem Inv.list (I : Inv X pins σ H s) (h : SqL X.K H a xs) : ∃ its : List Value, Vals xs its ∧ PlainL s.heap a its.toArray ∧ xs.length ≤ sizeLine := by
  rcases h with h | ⟨o, its, n, hk, hc, hd, hs, hz, r⟩
  · obtain ⟨z, its, n, r, e⟩ := h.ok I.hok
    exact ⟨its, r, ⟨_, n, e, rfl, rfl, rfl⟩, z⟩
  · refine ⟨its.toList, r, ⟨o, n, I.kIn a o hk, hc, hd, by simpa using hs⟩, ?_⟩
    have e := r.length
    simp only [Array.length_toList] at e
    omega
theorem Inv.tuple (I : Inv X pins σ H s) (h : SqT X.K H a xs) : ∃ its : List Value, Vals xs its ∧ IsTup s.heap a its.toArray ∧ xs.length ≤ sizeLine := by
  rcases h with h | ⟨o, its, n, hk, hc, hs, hz, r⟩
  · obtain ⟨z, its, r, p⟩ := h.ok I.hok
    exact ⟨its, r, p, z⟩
  · refine ⟨its.toList, r, ⟨o, I.kIn a o hk, hc, n, by simpa using hs⟩, ?_⟩
    have e := r.length
    simp only [Array.length_toList] at e
    omega
theorem Inv.list_inj (I : Inv X pins σ H s) (h : SqL X.K H a xs) (h' : SqL X.K H a ys) : xs = ys := by
  obtain ⟨its, r, ⟨o, n, e, _, _, d⟩, _⟩ := I.list h
  obtain ⟨its', r', ⟨o', n', e', _, _, d'⟩, _⟩ := I.list h'
  rw [e] at e'; cases e'
  rw [d] at d'
  injection d' with d1 _
  have : its = its' := by simpa using congrArg Array.toList d1
  subst this
  exact r.inj r'
end

/-! ### another wish about exceptions -/
abbrev Cx.wish (X : Cx) (E : Value → Shared → Prop) : Cx := { X with xe := E }
/-- no exception leaves -/
abbrev Cx.nox (X : Cx) : Cx := X.wish fun _ _ => False
theorem Cx.Ok.wish {X : Cx} (ok : X.Ok) (E : Value → Shared → Prop) : (X.wish E).Ok :=
  ⟨ok.mod, ok.kind, ok.glob, ok.blt, ok.above, ok.inj, ok.has, ok.cab, ok.hd, ok.frames, ok.stk, ok.exf, ok.bs, ok.bsz, ok.noex, ok.exfs, ok.funs, ok.frf⟩
theorem Cx.Ok.unwish {X : Cx} {E : Value → Shared → Prop} (ok : (X.wish E).Ok) : X.Ok :=
  ⟨ok.mod, ok.kind, ok.glob, ok.blt, ok.above, ok.inj, ok.has, ok.cab, ok.hd, ok.frames, ok.stk, ok.exf, ok.bs, ok.bsz, ok.noex, ok.exfs, ok.funs, ok.frf⟩
section
variable {X : Cx} {pins : List (Addr × Obj)} {σ : St} {H : Hp} {s : Shared} {E : Value → Shared → Prop}
theorem Inv.wish (I : Inv X pins σ H s) (E : Value → Shared → Prop) : Inv (X.wish E) pins σ H s := ⟨I.ok.wish E, I.os, I.bare, I.base, I.loc, I.cell, I.free, I.freeC, I.pin, I.hok, I.len⟩
theorem Inv.unwish (I : Inv (X.wish E) pins σ H s) : Inv X pins σ H s := ⟨I.ok.unwish, I.os, I.bare, I.base, I.loc, I.cell, I.free, I.freeC, I.pin, I.hok, I.len⟩
theorem SP.unwish {D : Ends} {f : Flow} {s' : Shared} (h : SP (X.wish E) pins D f s') : SP X pins D f s' := by
  cases f with
  | next => obtain ⟨σ', H', I, q⟩ := h; exact ⟨σ', H', I.unwish, q⟩
  | brk => obtain ⟨σ', H', I, q⟩ := h; exact ⟨σ', H', I.unwish, q⟩
  | cont => obtain ⟨σ', H', I, q⟩ := h; exact ⟨σ', H', I.unwish, q⟩
  | ret u => obtain ⟨v, σ', H', I, r, q⟩ := h; exact ⟨v, σ', H', I.unwish, r, q⟩
theorem PSs.nox {st : List Stmt} {t : TS} (h : PSs X.nox st t) : PSs X st t := fun pins s σ H D I hw =>
  wpAny_mono (h pins s σ H D (I.wish _) hw) (fun _ _ q => q.unwish) fun _ _ z => False.elim z
end

/-! ### blocks and small statements -/
section
variable {X : Cx} {st : Stmt} {rest : List Stmt} {t u : TS} {e : Expr} {te : TE} {pos : Pos}
def tNext : TS := fun D σ H => D.nx σ H
def tSeq (t u : TS) : TS := fun D σ H => t { D with nx := u D } σ H
theorem pss_nil : PSs X [] tNext := fun _ _ σ H _ I h => wpAny_execs_nil ⟨σ, H, I, h⟩
theorem pss_cons (h1 : PS X st t) (h2 : PSs X rest u) : PSs X (st :: rest) (tSeq t u) := by
  intro pins s σ H D I h
  refine wpAny_execs_cons (thn (h1 pins s σ H { D with nx := u D } I h) fun f s1 q => ?_)
  cases f with
  | next =>
    obtain ⟨σ', H', I', q⟩ := q
    exact h2 pins s1 σ' H' D I' q
  | ret v => exact q
  | brk => exact q
  | cont => exact q
theorem pss_one (h1 : PS X st t) : PSs X [st] t := by
  intro pins s σ H D I h
  refine wpAny_execs_cons (thn (h1 pins s σ H D I h) fun f s1 q => ?_)
  cases f with
  | next => exact wpAny_execs_nil q
  | ret v => exact q
  | brk => exact q
  | cont => exact q
def tBreak : TS := fun D σ H => D.bk σ H
theorem ps_break : PS X (.Break pos) tBreak := fun _ _ σ H _ I h => wpAny_Break ⟨σ, H, I, h⟩
/-- in a def's body nothing is shown -/
theorem Inv.quiet {pins : List (Addr × Obj)} {σ : St} {H : Hp} {s : Shared} (I : Inv X pins σ H s) : interactive X.env = false := by simp [interactive, I.ok.kind]
/-- an expression whose value is dropped -/
def tDrop (te : TE) : TS := fun D σ H => te σ H fun _ H1 => D.nx σ H1
theorem ps_expr (he : PE X e te) (hs : swapsWith e none pos.line X.env = pure false := by rfl) : PS X (.Expr e pos) (tDrop te) := by
  intro pins s σ H D I h
  exact wpAny_Expr_any (thn (he pins s σ H _ I h) fun v s1 ⟨x, H1, I1, r1, q1⟩ => ⟨σ, H1, I1, q1⟩) I.quiet hs
def tRet (te : TE) : TS := fun D σ H => te σ H D.rt
theorem ps_ret (he : PE X e te) : PS X (.Return (some e) pos) (tRet te) := by
  intro pins s σ H D I h
  exact wpAny_Return_some (thn (he pins s σ H _ I h) fun v s1 ⟨x, H1, I1, r1, q1⟩ => ⟨x, σ, H1, I1, r1, q1⟩)
def tIfS (c : TT) (t u : TS) : TS := fun D σ H => c σ H fun b H1 => if b = true then t D σ H1 else u D σ H1
theorem ps_if {c : Expr} {a b : List Stmt} {tc : TT} (hc : PT X c tc) (ha : PSs X a t) (hb : PSs X b u) : PS X (.If c a b pos) (tIfS tc t u) := by
  intro pins s σ H D I h
  refine wpAny_If (thn (hc pins s σ H _ I h) fun d s1 ⟨H1, I1, q1⟩ => ?_)
  cases d with
  | true => exact ha pins s1 σ H1 D I1 q1
  | false => exact hb pins s1 σ H1 D I1 q1
end

/-! ### targets -/
abbrev TG := V → St → Hp → (St → Hp → Prop) → Prop
abbrev TGs := List V → St → Hp → (St → Hp → Prop) → Prop
def PG (X : Cx) (target : Expr) (t : TG) : Prop :=
  ∀ (pins : List (Addr × Obj)) (s : Shared) (σ : St) (H : Hp) (v : V) (u : Value) (Q : St → Hp → Prop), Inv X pins σ H s → RelV v u → t v σ H Q →
    wpAny (model X.prog X.w) X.A (assign target X.env u) (fun _ s' => ∃ σ' H', Inv X pins σ' H' s' ∧ Q σ' H') X.xe s
/-- several targets, one after another -/
def PGs (X : Cx) (ts : List Expr) (t : TGs) : Prop :=
  ∀ (pins : List (Addr × Obj)) (s : Shared) (σ : St) (H : Hp) (vs : List V) (us : List Value) (Q : St → Hp → Prop), Inv X pins σ H s → Vals vs us → t vs σ H Q →
    wpAny (model X.prog X.w) X.A (assignInOrder ((assignEach ts X.env).map (·.2)) us) (fun _ s' => ∃ σ' H', Inv X pins σ' H' s' ∧ Q σ' H') X.xe s
/-- o[i] = v, by values -/
abbrev TSet := V → V → V → Hp → (Hp → Prop) → Prop
def PSet (X : Cx) (t : TSet) : Prop :=
  ∀ (pins : List (Addr × Obj)) (s : Shared) (σ : St) (H : Hp) (o i v : V) (ov iv u : Value) (Q : Hp → Prop), Inv X pins σ H s → RelV o ov → RelV i iv → RelV v u → t o i v H Q →
    wpAny (model X.prog X.w) X.A (setItem ov iv u) (fun _ s' => ∃ H', Inv X pins σ H' s' ∧ Q H') X.xe s
section
variable {X : Cx} {pos : Pos}
def gName (i : Nat) : TG := fun v σ H Q => Q (σ.set i (some v)) H
theorem pg_name {i : Nat} {x : Str} (hN : X.N.Nodup) (hi : X.N[i]? = some x) (hx : Loc X.env.scope x) (hf : X.fn x = true ∨ X.env.scope.names.lookup x = some .local := by first | exact .inl rfl | exact .inr rfl | assumption) : PG X (.Name x pos) (gName i) := by
  intro pins s σ H v u Q I r h
  exact wpAny_assign_Name (store_ok I hN hi hx r (fun s' I' => ⟨_, H, I', h⟩) hf)
def gNil : TGs := fun vs σ H Q => vs = [] ∧ Q σ H
def gCons (t : TG) (u : TGs) : TGs := fun vs σ H Q => ∃ v r, vs = v :: r ∧ t v σ H fun σ' H' => u r σ' H' Q
theorem pgs_nil : PGs X [] gNil := by
  intro pins s σ H vs us Q I r h
  obtain ⟨e, h⟩ := h
  subst e
  cases r
  exact assignInOrder_nil ⟨σ, H, I, h⟩
theorem pgs_cons {e : Expr} {es : List Expr} {t : TG} {u : TGs} (h1 : PG X e t) (h2 : PGs X es u)
    (hs : (assignEach (e :: es) X.env).map (·.2) = assign e X.env :: (assignEach es X.env).map (·.2) := by rfl) : PGs X (e :: es) (gCons t u) := by
  intro pins s σ H vs us Q I r h
  obtain ⟨v, vr, e1, h⟩ := h
  subst e1
  cases r with
  | cons r rr =>
    rw [hs]
    refine assignInOrder_cons (thn (h1 pins s σ H _ _ _ I r h) fun _ s1 ⟨σ1, H1, I1, q1⟩ => ?_)
    exact h2 pins s1 σ1 H1 _ _ Q I1 rr q1
/-- (a, b, ..) = a tuple of that length -/
def gTup (K : PySem.W.Frag) (n : Nat) (t : TGs) : TG := fun v σ H Q => ∃ a xs, v = .ref a ∧ SqT K H a xs ∧ xs.length = n ∧ t xs σ H Q
theorem pg_tup {es : List Expr} {k : Nat} {t : TGs} {n : Nat} (hc : X.calm = true) (h : PGs X es t)
    (hn : (assignEach es X.env).length = n := by rfl) (hst : (assignEach es X.env).findIdx? (·.1) = none := by rfl) : PG X (.Tuple es k pos) (gTup X.K n t) := by
  intro pins s σ H v u Q I r hw
  obtain ⟨a, xs, e1, hq, hl, hw⟩ := hw
  subst e1
  cases r
  obtain ⟨its, rv, ht, hz⟩ := I.tuple hq
  refine assign_Tuple_tuple (I.ok.hd hc) ht (by simp [hn, ← hl, rv.length]) hst fun h' hx => ?_
  have I1 : Inv X pins σ H { s with heap := h' } := I.kept (t' := s.toks) fun b o e => hx b o (Nat.ne_of_lt (Heap.lt_size e)) e
  exact h pins _ σ H xs _ Q I1 (by simpa using rv) hw
/-- o[i] = .. -/
def gSub (to ti : TE) (t : TSet) : TG := fun v σ H Q => to σ H fun o H1 => ti σ H1 fun i H2 => t o i v H2 fun H3 => Q σ H3
theorem pg_sub {o i : Expr} {to ti : TE} {t : TSet} (ho : PE X o to) (hi : PE X i ti) (hs : PSet X t)
    (ha : ∀ v, assign (.Subscript o i pos) X.env v = (do
      let ov ← holding [v] (eval o X.env)
      let iv ← holding [v, ov] (eval i X.env)
      standAt pos
      holding [v, ov, iv] (setItem ov iv v)
      release [v, ov, iv] []) := by intro _; rfl) : PG X (.Subscript o i pos) (gSub to ti t) := by
  intro pins s σ H v u Q I r h
  rw [ha]
  refine wpAny_bind (wpAny_holding (thn (ho pins s σ H _ I h) fun ov s1 ⟨x, H1, I1, r1, q1⟩ => ?_))
  refine wpAny_bind (wpAny_holding (thn (hi pins s1 σ H1 _ I1 q1) fun iv s2 ⟨y, H2, I2, r2, q2⟩ => ?_))
  refine wpAny_bind (wpAny_standAt (wpAny_bind (wpAny_holding (thn (hs pins s2 σ H2 x y v ov iv u _ I2 r1 r2 r q2) fun _ s3 ⟨H3, I3, q3⟩ => ?_))))
  exact wpAny_release ⟨σ, H3, I3, q3⟩
/-- target = value -/
def tAsg (te : TE) (g : TG) : TS := fun D σ H => te σ H fun x H1 => g x σ H1 D.nx
theorem ps_asg {tg e : Expr} {te : TE} {g : TG} (he : PE X e te) (hg : PG X tg g) (hs : swapsWithSole [tg] e pos.line X.env = pure false := by rfl) (hw : swappedStores [tg] e X.env = pure none := by rfl)
    (h1 : (assignEach [tg] X.env).map (·.2) = [assign tg X.env] := by rfl) : PS X (.Assign [tg] e pos) (tAsg te g) := by
  intro pins s σ H D I h
  refine wpAny_Assign_stores (thn (he pins s σ H _ I h) fun v s1 ⟨x, H1, I1, r1, q1⟩ => ?_) hs hw
  rw [h1]
  exact thn (hg pins s1 σ H1 x v _ I1 r1 q1) fun _ s2 q => q
/-- name = value -/
theorem ps_set {i : Nat} {x : Str} {e : Expr} {te : TE} {pos' : Pos} (hN : X.N.Nodup) (hi : X.N[i]? = some x) (hx : Loc X.env.scope x) (he : PE X e te) (hs : swapsWith e (some (.Name x pos')) pos.line X.env = pure false := by rfl) (hf : X.fn x = true ∨ X.env.scope.names.lookup x = some .local := by first | exact .inl rfl | exact .inr rfl | assumption) :
    PS X (.Assign [.Name x pos'] e pos) (tAsg te (gName i)) := by
  intro pins s σ H D I h
  refine wpAny_Assign_Name (thn (he pins s σ H _ I h) fun v s1 ⟨y, H1, I1, r1, q1⟩ => ?_) hs
  exact store_ok I1 hN hi hx r1 (fun s2 I2 => ⟨_, H1, I2, q1⟩) hf
end

/-! ### while -/
section
variable {X : Cx} {pos : Pos}
end

/-! ### what a loop or a comprehension walks -/
/-- at turn i: it yields x (the heap may grow), or it stops -/
structure It where
  go : Nat → Hp → Prop
  yld : Nat → Hp → V → Hp → Prop
  stop : Nat → Hp → Prop
/-- the iterator's own objects may turn: they are not the frame's, not pinned, younger than the entry (or a comprehension's own) -/
def FpOk (X : Cx) (pins : List (Addr × Obj)) (H : Hp) (b : Addr) : Prop :=
  H b = none ∧ b ≠ X.env.locals ∧ b ∉ X.fs ∧ (b ∈ X.ex ∨ X.s₀.heap.objs.size ≤ b) ∧ (∀ x c, X.env.cells.lookup x = some c → c ≠ b) ∧ ∀ p ∈ X.pn ++ pins, p.1 ≠ b
theorem Inv.fpOk {X : Cx} {pins : List (Addr × Obj)} {σ : St} {H H' : Hp} {s : Shared} {b : Addr} (I : Inv X pins σ H s) (hb : s.heap.objs.size ≤ b) (hn : H' b = none) : FpOk X pins H' b := by
  refine ⟨hn, Nat.ne_of_gt (Nat.lt_of_lt_of_le I.lt hb), I.nofs hb, .inr (Nat.le_trans I.sz hb), fun x c e z => ?_, fun p hp z => ?_⟩
  · obtain ⟨v, q⟩ := I.cell x c e
    exact absurd (Nat.lt_of_lt_of_le q.lt (by rw [z]; exact hb)) (Nat.lt_irrefl _)
  · exact absurd (Nat.lt_of_lt_of_le (Heap.lt_size (I.pin p hp).1) (by rw [z]; exact hb)) (Nat.lt_irrefl _)
structure Turn (P : Program) (w : World) (K : PySem.W.Frag) (tg : Expr) (J : It) (fp : List Addr) (it : Addr) (tn : Nat → Heap → Prop) : Prop where
  mem : it ∈ fp
  obj : ∀ i h, tn i h → ∀ b ∈ fp, ∃ o, h.get? b = some o ∧ ∀ v, o.data ≠ .cell v
  keep : ∀ i h h', tn i h → (∀ b ∈ fp, ∀ o, h.get? b = some o → h'.get? b = some o) → tn i h'
  item : ∀ (X : Cx), X.prog = P → X.w = w → X.K = K → X.calm = true → ∀ (i : Nat) (pins : List (Addr × Obj)) (s : Shared) (σ : St) (H : Hp) (E : Value → Shared → Prop), Inv X pins σ H s → (∀ b ∈ fp, FpOk X pins H b) → tn i s.heap → J.go i H →
    wpAny (model P w) X.A (pyNext (.ref it)) (fun r s1 => ∃ u, r = some u ∧
      wpAny (model P w) X.A (letOwnedTupleGo tg (.ref it) u) (fun _ s2 => ∃ x H', Inv X pins σ H' s2 ∧ RelV x u ∧ J.yld i H x H' ∧ tn (i + 1) s2.heap ∧ ∀ b ∈ fp, H' b = none) E s1) E s
  done : ∀ (X : Cx), X.prog = P → X.w = w → X.K = K → X.calm = true → ∀ (i : Nat) (pins : List (Addr × Obj)) (s : Shared) (σ : St) (H : Hp) (E : Value → Shared → Prop), Inv X pins σ H s → (∀ b ∈ fp, FpOk X pins H b) → tn i s.heap → J.stop i H →
    wpAny (model P w) X.A (pyNext (.ref it)) (fun r s1 => r = none ∧ Inv X pins σ H s1) E s
  self : ∀ (A : Around) (i : Nat) (s : Shared) (Q : Value → Shared → Prop) (E : Value → Shared → Prop), tn i s.heap → Q (.ref it) s → wpAny (model P w) A (pyIter (.ref it)) Q E s
abbrev TI := St → Hp → (It → Hp → Prop) → Prop
/-- an iterator has come -/
def PIE (X : Cx) (pins : List (Addr × Obj)) (σ : St) (tg : Expr) (R : It → Hp → Prop) (itv : Value) (s2 : Shared) : Prop :=
  ∃ (it : Addr) (fp : List Addr) (tn : Nat → Heap → Prop) (J : It) (H' : Hp), itv = .ref it ∧ Inv X pins σ H' s2 ∧ Turn X.prog X.w X.K tg J fp it tn ∧ tn 0 s2.heap ∧ (∀ b ∈ fp, FpOk X pins H' b) ∧ R J H'
def PI (X : Cx) (tg iter : Expr) (wi : TI) : Prop :=
  ∀ (pins : List (Addr × Obj)) (s : Shared) (σ : St) (H : Hp) (R : It → Hp → Prop), Inv X pins σ H s → wi σ H R →
    wpAny (model X.prog X.w) X.A (eval iter X.env) (fun v s1 => wpAny (model X.prog X.w) X.A (pyIter v) (PIE X pins σ tg R) X.xe s1) X.xe s

/-- the step ahead of the store is nothing for an iterator that keeps no tuple -/
theorem go_of {M : Model} {A : Around} {E : Value → Shared → Prop} {s : Shared} {tg : Expr} {it : Addr} {u : Value} {o : Obj} {n : String} {vs : Array Value} {Q : Unit → Shared → Prop} (ho : s.heap.get? it = some o) (hc : o.cls = .type n) (hd : o.data = .fields vs)
    (hn : ["enumerate", "zip", "dict_itemiterator", "dict_reverseitemiterator", "odict_iterator", "itertools.zip_longest", "itertools.pairwise"].contains n = false) (hQ : Q () s) : wpAny M A (letOwnedTupleGo tg (.ref it) u) Q E s := by
  unfold letOwnedTupleGo
  cases tg <;> first
    | exact wpAny_pure hQ
    | (cases u <;> first
        | exact wpAny_pure hQ
        | (refine wpAny_bind (wpAny_load ho ?_)
           rw [hc, hd]
           show wpAny M A (if (["enumerate", "zip", "dict_itemiterator", "dict_reverseitemiterator", "odict_iterator", "itertools.zip_longest", "itertools.pairwise"].contains n && vs[0]? == some (rawInt _)) = true then _ else _) Q E s
           rw [if_neg (by intro h; rw [hn, Bool.false_and] at h; cases h)]
           exact wpAny_pure hQ))

/-- the list at a, as it stands at each turn (a loop may append to it) -/
def Itl (K : PySem.W.Frag) (a : Addr) : It :=
  ⟨fun i H => ∃ xs x, SqL K H a xs ∧ xs[i]? = some x, fun i H x H' => H' = H ∧ ∀ xs, SqL K H a xs → xs[i]? = some x, fun i H => ∃ xs, SqL K H a xs ∧ xs.length ≤ i⟩
/-- lo, lo + 1, .. (n of them) -/
def Itr (lo : Int) (n : Nat) : It := ⟨fun i _ => i < n, fun i H x H' => H' = H ∧ x = .int (lo + i), fun i _ => n ≤ i⟩
theorem turn_list {P : Program} {w : World} {K : PySem.W.Frag} {tg : Expr} (a it : Addr) : Turn P w K tg (Itl K a) [it] it (fun i h => h.IsListIter it a i) where
  mem := by simp
  obj := fun i h st b hb => by
    have e : b = it := by simpa using hb
    subst e
    obtain ⟨o, e, c, d⟩ := st
    exact ⟨o, e, fun v z => by rw [d] at z; cases z⟩
  keep := fun i h h' st k => st.at fun o e => k it (by simp) o e
  item := by
    intro X hP hw hK hc i pins s σ H E I hf st hg
    subst hP hw hK
    obtain ⟨xs, x, hq, hx⟩ := hg
    obtain ⟨its, rv, p, hz⟩ := I.list hq
    obtain ⟨u, hu, ru⟩ := rv.get hx
    obtain ⟨f0, f1, f2, f3, f4, f5⟩ := hf it (by simp)
    refine wpAny_pyNext_list_item st p.isList (x := u) (by simpa using hu) fun h' st' sb => ?_
    have I1 : Inv X pins σ H { s with heap := h' } := I.turned (t' := s.toks) (fun b o hb e => (sb.2 b hb).trans e) f0 f1 f3 f4 f5
    obtain ⟨o, e, c, d⟩ := id st'
    exact ⟨u, rfl, go_of (s := { s with heap := h' }) e c d (by decide) ⟨x, H, I1, ru, ⟨rfl, fun ys hy => by rw [I.list_inj hy hq]; exact hx⟩, st', fun b hb => (hf b hb).1⟩⟩
  done := by
    intro X hP hw hK hc i pins s σ H E I hf st hg
    subst hP hw hK
    obtain ⟨xs, hq, hx⟩ := hg
    obtain ⟨its, rv, p, hz⟩ := I.list hq
    obtain ⟨f0, f1, f2, f3, f4, f5⟩ := hf it (by simp)
    have hl := rv.length
    exact wpAny_pyNext_list_end (I.ok.hd hc) st p.isList (by simp; omega) fun h' eb => ⟨rfl, I.turned (t' := s.toks) (fun b o hb e => eb b o hb e) f0 f1 f3 f4 f5⟩
  self := fun _ _ _ _ _ st h => wpAny_pyIter_listiter st h
theorem turn_range {P : Program} {w : World} {K : PySem.W.Frag} {tg : Expr} (it : Addr) (lo : Int) (n : Nat) : Turn P w K tg (Itr lo n) [it] it (fun i h => IsRangeIter h it (lo + (i : Nat) * 1) ((n : Int) - (i : Nat)) 1) where
  mem := by simp
  obj := fun i h st b hb => by
    have e : b = it := by simpa using hb
    subst e
    exact ⟨_, st, fun v z => by
      have z' : Data.fields _ = Data.cell v := z
      cases z'⟩
  keep := fun i h h' st k => k it (by simp) _ st
  item := by
    intro X hP hw hK hc i pins s σ H E I hf st hg
    subst hP hw hK
    obtain ⟨f0, f1, f2, f3, f4, f5⟩ := hf it (by simp)
    have W := Walks.range (prog := X.prog) (w := X.w) (I.ok.hd hc) it lo 1 n
    refine W.item i s _ _ hg st fun v h' tk hv st' kk => ?_
    obtain ⟨t, rfl⟩ := hv
    have I1 : Inv X pins σ H { s with heap := h', toks := tk } := I.turned (fun b o hb e => kk b o (by simpa using hb) e) f0 f1 f3 f4 f5
    refine ⟨_, rfl, go_of (s := { s with heap := h', toks := tk }) (n := "range_iterator") st' rfl rfl (by decide) ⟨.int (lo + i), H, I1, ⟨t, ?_⟩, ⟨rfl, rfl⟩, st', fun b hb => (hf b hb).1⟩⟩
    rw [Int.mul_one]
  done := by
    intro X hP hw hK hc i pins s σ H E I hf st hg
    subst hP hw hK
    obtain ⟨f0, f1, f2, f3, f4, f5⟩ := hf it (by simp)
    exact wpAny_pyNext_range_end (I.ok.hd hc) st (by have : n ≤ i := hg; omega) fun h' eb => ⟨rfl, I.turned (t' := s.toks) (fun b o hb e => eb b o hb e) f0 f1 f3 f4 f5⟩
  self := fun _ _ _ _ _ st h => wpAny_pyIter_rangeiter st h
end L2

namespace L2
open PySem PySem.Spec PyProof.Rows
section
variable {X : Cx} {tg : Expr}
def iList (K : PySem.W.Frag) (tl : TE) : TI := fun σ H R => tl σ H fun x H1 => ∃ a, x = .ref a ∧ (∃ xs, SqL K H1 a xs) ∧ R (Itl K a) H1
theorem pi_list {l : Expr} {tl : TE} (hl : PE X l tl) : PI X tg l (iList X.K tl) := by
  intro pins s σ H R I h
  refine thn (hl pins s σ H _ I h) fun v s1 ⟨x, H1, I1, r1, q1⟩ => ?_
  obtain ⟨a, e, ⟨xs, hq⟩, q⟩ := q1
  subst e
  cases r1
  obtain ⟨its, rv, p, hz⟩ := I1.list hq
  refine wpAny_pyIter_list p.isList ?_
  refine ⟨s1.heap.objs.size, [s1.heap.objs.size], _, _, H1, rfl, I1.kept (t' := s1.toks) fun b o e => Heap.get?_push_of_some _ e, turn_list a _, ⟨_, Heap.get?_push_size _ rfl, rfl, rfl⟩, fun b hb => ?_, q⟩
  have e : b = s1.heap.objs.size := by simpa using hb
  subst e
  exact I1.fpOk (Nat.le_refl _) (I1.hok.fresh (Nat.le_refl _))
/-- a range object just made, walked -/
theorem range_it {pins : List (Addr × Obj)} {σ : St} {H : Hp} {s : Shared} {R : It → Hp → Prop} {E : Value → Shared → Prop} {lo hi : Int} {t u v : Tok} {tk : Nat} (I : Inv X pins σ H s) (h1 : -(2 ^ 62) ≤ lo) (h2 : lo < 2 ^ 62) (h3 : -(2 ^ 62) ≤ hi) (h4 : hi < 2 ^ 62)
    (q : R (Itr lo (hi - lo).toNat) H) : wpAny (model X.prog X.w) X.A (pyIter (.ref s.heap.objs.size)) (PIE X pins σ tg R) E { s with heap := s.heap.push { cls := .type "range", data := .fields #[.int lo t, .int hi u, .int 1 v] }, toks := tk } := by
  refine wpAny_pyIter_range (IsRange.new ..) (small_one h1 h2 h3 h4) ?_
  have I1 : Inv X pins σ H { s with heap := s.heap.push { cls := .type "range", data := .fields #[.int lo t, .int hi u, .int 1 v] }, toks := tk } := I.kept fun b o e => Heap.get?_push_of_some _ e
  refine ⟨(s.heap.push { cls := .type "range", data := .fields #[.int lo t, .int hi u, .int 1 v] }).objs.size, [(s.heap.push { cls := .type "range", data := .fields #[.int lo t, .int hi u, .int 1 v] }).objs.size], _, _, H, rfl,
    I1.kept (t' := tk) fun b o e => Heap.get?_push_of_some _ e, turn_range _ lo (hi - lo).toNat, ?_, fun b hb => ?_, q⟩
  · have e1 : lo + ((0 : Nat) : Int) * 1 = lo := by simp
    have e2 : (((hi - lo).toNat : Nat) : Int) - ((0 : Nat) : Int) = Builtin.Range.rangeSize lo hi 1 := by rw [rangeSize_one]; split <;> omega
    show IsRangeIter _ _ (lo + ((0 : Nat) : Int) * 1) ((((hi - lo).toNat : Nat) : Int) - ((0 : Nat) : Int)) 1
    rw [e1, e2]
    exact Heap.get?_push_size _ rfl
  · have e : b = (s.heap.push { cls := .type "range", data := .fields #[.int lo t, .int hi u, .int 1 v] }).objs.size := by simpa using hb
    subst e
    exact I1.fpOk (Nat.le_refl _) (I1.hok.fresh (Nat.le_refl _))
def iRng1 (ta : TA) : TI := fun σ H R => ta σ H fun vs H1 => ∃ j : Int, vs = [.int j] ∧ -(2 ^ 62) ≤ j ∧ j < 2 ^ 62 ∧ R (Itr 0 j.toNat) H1
theorem pi_range1 {a : Expr} {ta : TA} {p pos : Pos} (hg : Gl X "range") (hm : X.mg "range" = none) (ha : PA X [a] ta) (hs : starEach [a] X.env = [(false, eval a X.env)] := by rfl) : PI X tg (.Call (.Name "range" p) [a] [] pos) (iRng1 ta) := by
  intro pins s σ H R I h
  refine Call_ (ld_blt I hg hm boot_range (PyProof.Rows.callWith_type1 (thn (ha pos pins s σ H _ I h) fun us s1 ⟨vs, H1, I1, r1, q1⟩ => ?_) hs rfl))
  obtain ⟨j, e, q1, q2, q⟩ := q1
  subst e
  cases r1 with
  | cons r rr =>
    cases rr
    obtain ⟨t, rfl⟩ := r
    exact call_range_1 (range_it I1 (by omega) (by omega) q1 q2 (by simpa using q))

/-! ### for -/
/-- W: the invariant by the turn and a measure; N: what the body is to reach -/
def tFor (wi : TI) (g : TG) (tb : TS) : TS := fun D σ H => wi σ H fun J H1 => ∃ W : Nat → Nat → St → Hp → Prop, (∃ m, W 0 m σ H1) ∧ ∀ i m σ H, W i m σ H →
  (J.stop i H ∧ D.nx σ H) ∨ (J.go i H ∧ ∃ N : St → Hp → Prop, (∀ σ' H', N σ' H' → ∃ m', m' < m ∧ W (i + 1) m' σ' H') ∧ ∀ x H', J.yld i H x H' → g x σ H' fun σ2 H2 => tb { D with nx := N, ct := N, bk := D.nx } σ2 H2)
/-- the records at fp as they stand -/
def pinsAt (fp : List Addr) (h : Heap) : List (Addr × Obj) := fp.filterMap fun b => (h.get? b).map fun o => (b, o)
theorem mem_pinsAt {fp : List Addr} {h : Heap} {b : Addr} {o : Obj} (hb : b ∈ fp) (e : h.get? b = some o) : (b, o) ∈ pinsAt fp h := List.mem_filterMap.mpr ⟨b, hb, by rw [e]; rfl⟩
theorem of_pinsAt {fp : List Addr} {h : Heap} {p : Addr × Obj} (hp : p ∈ pinsAt fp h) : p.1 ∈ fp ∧ h.get? p.1 = some p.2 := by
  obtain ⟨b, hb, e⟩ := List.mem_filterMap.mp hp
  cases q : h.get? b with
  | none => rw [q] at e; cases e
  | some o =>
    rw [q] at e
    have e' : (b, o) = p := Option.some.inj e
    subst e'
    exact ⟨hb, q⟩
theorem Inv.pinned {pins : List (Addr × Obj)} {σ : St} {H : Hp} {s : Shared} {fp : List Addr} (I : Inv X pins σ H s) (hf : ∀ b ∈ fp, FpOk X pins H b) (ho : ∀ b ∈ fp, ∃ o, s.heap.get? b = some o ∧ ∀ v, o.data ≠ .cell v) : Inv X (pins ++ pinsAt fp s.heap) σ H s :=
  I.pins_of fun p hp => (List.mem_append.mp hp).elim (fun z => I.pin p (List.mem_append_right _ z)) fun z => by
    obtain ⟨hb, e⟩ := of_pinsAt z
    obtain ⟨f0, f1, f2, _⟩ := hf p.1 hb
    obtain ⟨o, e', d⟩ := ho p.1 hb
    rw [e] at e'; cases e'
    exact ⟨e, f0, f1, f2, d⟩
theorem Inv.unpinned {pins pl : List (Addr × Obj)} {σ : St} {H : Hp} {s : Shared} (I : Inv X (pins ++ pl) σ H s) : Inv X pins σ H s := I.pins_of fun p hp => I.pin p (List.mem_append_right _ (List.mem_append_left _ hp))
theorem ps_for {iter : Expr} {body : List Stmt} {wi : TI} {g : TG} {tb : TS} {pos : Pos} (hp : PassesOwn (model X.prog X.w) X.A X.env X.xe) (hc : X.calm = true) (hi : PI X tg iter wi) (hg : PG X tg g) (hb : PSs X body tb)
    (hs : ∀ x, foldedSetIterable iter X.env x = pure x := by intro _; rfl) : PS X (.For tg iter body [] pos) (tFor wi g tb) := by
  intro pins s σ H D I h
  refine wpAny_For (thn (hi pins s σ H _ I h) fun v s1 h1 => thn h1 fun itv s2 h2 => ?_) hs
  obtain ⟨it, fp, tn, J, H2, e, I2, T, st2, f2, W, ⟨m0, w0⟩, turn⟩ := h2
  subst e
  -- what stays true of the iterator's objects through the loop
  have stat : ∀ {H' : Hp}, (∀ b ∈ fp, H' b = none) → ∀ b ∈ fp, FpOk X pins H' b := fun hn b hb => ⟨hn b hb, (f2 b hb).2⟩
  refine codeAny_forLoop_any (fun n s' => ∃ i σ' H', Inv X pins σ' H' s' ∧ tn i s'.heap ∧ (∀ b ∈ fp, H' b = none) ∧ W i n σ' H') ?_ m0 ⟨0, σ, H2, I2, st2, fun b hb => (f2 b hb).1, w0⟩
  rintro n s3 ⟨i, σ3, H3, I3, st3, fr3, w3⟩
  rcases turn i n σ3 H3 w3 with ⟨stop, qn⟩ | ⟨go, N, hN, step⟩
  · refine wpAny_passesOwn hp (thn (T.done X rfl rfl rfl hc i pins s3 σ3 H3 X.xe I3 (stat fr3) st3 stop) fun r s4 ⟨hr, I4⟩ => ?_)
    subst hr
    exact wpAny_execs_nil ⟨σ3, H3, I4, qn⟩
  · refine wpAny_passesOwn hp (thn (T.item X rfl rfl rfl hc i pins s3 σ3 H3 X.xe I3 (stat fr3) st3 go) fun r s4 ⟨u, hr, h4⟩ => ?_)
    subst hr
    refine wpAny_passesOwn hp (thn h4 fun _ s5 ⟨x, H5, I5, r5, y5, st5, fr5⟩ => ?_)
    have I5' := I5.pinned (stat fr5) (T.obj _ _ st5)
    refine wpAny_passesOwn hp (thn (hg _ s5 σ3 H5 x u _ I5' r5 (step x H5 y5)) fun _ s6 ⟨σ6, H6, I6, q6⟩ => ?_)
    refine wpAny_passesOwn hp (thn (hb _ s6 σ6 H6 _ I6 q6) fun f s7 q7 => ?_)
    have again : ∀ {σ7 : St} {H7 : Hp}, Inv X (pins ++ pinsAt fp s5.heap) σ7 H7 s7 → N σ7 H7 → ∃ m, m < n ∧ ∃ i σ' H', Inv X pins σ' H' s7 ∧ tn i s7.heap ∧ (∀ b ∈ fp, H' b = none) ∧ W i m σ' H' := fun {σ7 H7} I7 n7 => by
      obtain ⟨m', hm, w7⟩ := hN σ7 H7 n7
      refine ⟨m', hm, i + 1, σ7, H7, I7.unpinned, T.keep _ _ _ st5 fun b hb o e => (I7.pin (b, o) (List.mem_append_right _ (List.mem_append_right _ (mem_pinsAt hb e)))).1, fun b hb => ?_, w7⟩
      obtain ⟨o, e, d⟩ := T.obj _ _ st5 b hb
      exact (I7.pin (b, o) (List.mem_append_right _ (List.mem_append_right _ (mem_pinsAt hb e)))).2.1
    cases f with
    | next => obtain ⟨σ7, H7, I7, n7⟩ := q7; exact again I7 n7
    | cont => obtain ⟨σ7, H7, I7, n7⟩ := q7; exact again I7 n7
    | brk => obtain ⟨σ7, H7, I7, q7⟩ := q7; exact ⟨σ7, H7, I7.unpinned, q7⟩
    | ret v => obtain ⟨x7, σ7, H7, I7, r7, q7⟩ := q7; exact ⟨x7, σ7, H7, I7.unpinned, r7, q7⟩
end

/-! ### the forms one uses -/
/-- over a list that the body leaves as it is -/
theorem for_list {K : PySem.W.Frag} {a : Addr} {xs : List V} {g : TG} {tb : TS} {D : Ends} {σ : St} {H : Hp} (Pv : Nat → St → Hp → Prop) (h0 : Pv 0 σ H) (hl : ∀ i σ H, i ≤ xs.length → Pv i σ H → SqL K H a xs)
    (hs : ∀ i x σ H, xs[i]? = some x → Pv i σ H → g x σ H fun σ2 H2 => tb { D with nx := Pv (i + 1), ct := Pv (i + 1), bk := D.nx } σ2 H2) (hd : ∀ σ H, Pv xs.length σ H → D.nx σ H) :
    ∃ W : Nat → Nat → St → Hp → Prop, (∃ m, W 0 m σ H) ∧ ∀ i m σ H, W i m σ H →
      ((Itl K a).stop i H ∧ D.nx σ H) ∨ ((Itl K a).go i H ∧ ∃ N : St → Hp → Prop, (∀ σ' H', N σ' H' → ∃ m', m' < m ∧ W (i + 1) m' σ' H') ∧ ∀ x H', (Itl K a).yld i H x H' → g x σ H' fun σ2 H2 => tb { D with nx := N, ct := N, bk := D.nx } σ2 H2) := by
  refine ⟨fun i m σ H => m = xs.length - i ∧ i ≤ xs.length ∧ Pv i σ H, ⟨xs.length, by simp, Nat.zero_le _, h0⟩, ?_⟩
  rintro i m σ H ⟨rfl, hi, p⟩
  have q := hl i σ H hi p
  by_cases hlt : i < xs.length
  · refine .inr ⟨⟨xs, xs[i], q, by simp [hlt]⟩, Pv (i + 1), fun σ' H' p' => ⟨xs.length - (i + 1), by omega, rfl, hlt, p'⟩, fun x H' y => ?_⟩
    obtain ⟨e, y⟩ := y
    subst e
    exact hs i x σ _ (y xs q) p
  · have e : i = xs.length := by omega
    subst e
    exact .inl ⟨⟨xs, q, Nat.le_refl _⟩, hd σ H p⟩
theorem for_range {lo : Int} {n : Nat} {g : TG} {tb : TS} {D : Ends} {σ : St} {H : Hp} (Pv : Nat → St → Hp → Prop) (h0 : Pv 0 σ H)
    (hs : ∀ i σ H, i < n → Pv i σ H → g (.int (lo + i)) σ H fun σ2 H2 => tb { D with nx := Pv (i + 1), ct := Pv (i + 1), bk := D.nx } σ2 H2) (hd : ∀ σ H, Pv n σ H → D.nx σ H) :
    ∃ W : Nat → Nat → St → Hp → Prop, (∃ m, W 0 m σ H) ∧ ∀ i m σ H, W i m σ H →
      ((Itr lo n).stop i H ∧ D.nx σ H) ∨ ((Itr lo n).go i H ∧ ∃ N : St → Hp → Prop, (∀ σ' H', N σ' H' → ∃ m', m' < m ∧ W (i + 1) m' σ' H') ∧ ∀ x H', (Itr lo n).yld i H x H' → g x σ H' fun σ2 H2 => tb { D with nx := N, ct := N, bk := D.nx } σ2 H2) := by
  refine ⟨fun i m σ H => m = n - i ∧ i ≤ n ∧ Pv i σ H, ⟨n, by simp, Nat.zero_le _, h0⟩, ?_⟩
  rintro i m σ H ⟨rfl, hi, p⟩
  by_cases hlt : i < n
  · refine .inr ⟨hlt, Pv (i + 1), fun σ' H' p' => ⟨n - (i + 1), by omega, rfl, hlt, p'⟩, fun x H' y => ?_⟩
    obtain ⟨e, y⟩ := y
    subst e y
    exact hs i σ _ hlt p
  · have e : i = n := by omega
    subst e
    exact .inl ⟨Nat.le_refl _, hd σ H p⟩
end L2

namespace L2
open PySem PySem.Spec PyProof.Rows

abbrev R2 := V → V → Hp → VK → Prop
/-- a two-place operation on values: f is binaryOp op, inplaceOp op or compareOp op -/
def OpR (X : Cx) (f : Value → Value → Sem Value) (r : R2) : Prop :=
  ∀ (pins : List (Addr × Obj)) (s : Shared) (σ : St) (H : Hp) (x y : V) (v u : Value) (Q : VK), Inv X pins σ H s → RelV x v → RelV y u → r x y H Q →
    wpAny (model X.prog X.w) X.A (f v u) (EP X pins σ Q) X.xe s
/-- a one-place operation -/
def UnR (X : Cx) (f : Value → Sem Value) (r : V → Hp → VK → Prop) : Prop :=
  ∀ (pins : List (Addr × Obj)) (s : Shared) (σ : St) (H : Hp) (x : V) (v : Value) (Q : VK), Inv X pins σ H s → RelV x v → r x H Q →
    wpAny (model X.prog X.w) X.A (f v) (EP X pins σ Q) X.xe s
/-- a call of a value that is known (a builtin, a type) with values -/
def CallR (X : Cx) (f : Value) (r : List V → Hp → VK → Prop) : Prop :=
  ∀ (pins : List (Addr × Obj)) (s : Shared) (σ : St) (H : Hp) (xs : List V) (us : List Value) (Q : VK), Inv X pins σ H s → Vals xs us → r xs H Q →
    wpAny (model X.prog X.w) X.A (call f us) (EP X pins σ Q) X.xe s

def tOp (r : R2) (ta tb : TE) : TE := fun σ H Q => ta σ H fun x H1 => tb σ H1 fun y H2 => r x y H2 Q
def tUn (r : V → Hp → VK → Prop) (ta : TE) : TE := fun σ H Q => ta σ H fun x H1 => r x H1 Q
/-- ints in, under C, and a value out -/
def rI (C : Int → Int → Prop) (g : Int → Int → V) : R2 := fun x y H Q => ∃ i j, x = .int i ∧ y = .int j ∧ C i j ∧ Q (g i j) H
def rI0 (g : Int → Int → V) : R2 := fun x y H Q => ∃ i j, x = .int i ∧ y = .int j ∧ Q (g i j) H
def rU (g : Int → V) : V → Hp → VK → Prop := fun x H Q => ∃ i, x = .int i ∧ Q (g i) H

section
variable {X : Cx} {a b c : Expr} {ta tb tc : TE} {pos : Pos}

theorem binT (ha : PE X a ta) (hb : PE X b tb) {pins : List (Addr × Obj)} {s : Shared} {σ : St} {H : Hp} {R : V → V → Hp → Prop} (I : Inv X pins σ H s)
    (h : ta σ H fun x H1 => tb σ H1 fun y H2 => R x y H2) {Q : Value → Shared → Prop} {f : Value → Value → Sem Value}
    (hf : ∀ v u s2 x y H2, Inv X pins σ H2 s2 → RelV x v → RelV y u → R x y H2 → wpAny (model X.prog X.w) X.A (f v u) Q X.xe s2) :
    wpAny (model X.prog X.w) X.A (eval a X.env) (fun v s₁ => wpAny (model X.prog X.w) X.A (eval b X.env) (fun u s₂ => wpAny (model X.prog X.w) X.A (f v u) Q X.xe s₂) X.xe s₁) X.xe s := by
  refine thn (ha pins s σ H _ I h) fun v s1 ⟨x, H1, I1, r1, q1⟩ => ?_
  refine thn (hb pins s1 σ H1 _ I1 q1) fun u s2 ⟨y, H2, I2, r2, q2⟩ => ?_
  exact hf v u s2 x y H2 I2 r1 r2 q2

theorem pe_op {op : Operator} {r : R2} (ho : OpR X (binaryOp op) r) (ha : PE X a ta) (hb : PE X b tb) : PE X (.BinOp a op b pos) (tOp r ta tb) := by
  intro pins s σ H Q I h
  exact wpAny_BinOp (binT ha hb I h fun v u s2 x y H2 I2 rx ry q => ho pins s2 σ H2 x y v u Q I2 rx ry q)
theorem pe_un {op : UnaryOp} {r : V → Hp → VK → Prop} (ho : UnR X (unaryOp op) r) (ha : PE X a ta) : PE X (.UnaryOp op a pos) (tUn r ta) := by
  intro pins s σ H Q I h
  exact UnaryOp_ (thn (ha pins s σ H _ I h) fun v s1 ⟨x, H1, I1, r1, q1⟩ => ho pins s1 σ H1 x v Q I1 r1 q1)

/-! ### ints -/
theorem opI {f : Value → Value → Sem Value} {C : Int → Int → Prop} {g : Int → Int → Int}
    (rule : ∀ (i j : Int) (t u : Tok) (s : Shared) (Q : Value → Shared → Prop) (E : Value → Shared → Prop), C i j → Q (.int (g i j) s.toks) { s with toks := s.toks + 1 } → wpAny (model X.prog X.w) X.A (f (.int i t) (.int j u)) Q E s) :
    OpR X f (rI C fun i j => .int (g i j)) := by
  intro pins s σ H x y v u Q I rx ry h
  obtain ⟨i, j, rfl, rfl, hc, q⟩ := h
  obtain ⟨t, rfl⟩ := rx
  obtain ⟨t', rfl⟩ := ry
  exact rule i j t t' s _ _ hc ⟨.int (g i j), H, I.tok _, ⟨_, rfl⟩, q⟩
theorem opI0 {f : Value → Value → Sem Value} {g : Int → Int → Int}
    (rule : ∀ (i j : Int) (t u : Tok) (s : Shared) (Q : Value → Shared → Prop) (E : Value → Shared → Prop), Q (.int (g i j) s.toks) { s with toks := s.toks + 1 } → wpAny (model X.prog X.w) X.A (f (.int i t) (.int j u)) Q E s) :
    OpR X f (rI0 fun i j => .int (g i j)) := by
  intro pins s σ H x y v u Q I rx ry h
  obtain ⟨i, j, rfl, rfl, q⟩ := h
  obtain ⟨t, rfl⟩ := rx
  obtain ⟨t', rfl⟩ := ry
  exact rule i j t t' s _ _ ⟨.int (g i j), H, I.tok _, ⟨_, rfl⟩, q⟩
theorem opB0 {f : Value → Value → Sem Value} {g : Int → Int → Bool}
    (rule : ∀ (i j : Int) (t u : Tok) (s : Shared) (Q : Value → Shared → Prop) (E : Value → Shared → Prop), Q (.bool (g i j)) s → wpAny (model X.prog X.w) X.A (f (.int i t) (.int j u)) Q E s) :
    OpR X f (rI0 fun i j => .bl (g i j)) := by
  intro pins s σ H x y v u Q I rx ry h
  obtain ⟨i, j, rfl, rfl, q⟩ := h
  obtain ⟨t, rfl⟩ := rx
  obtain ⟨t', rfl⟩ := ry
  exact rule i j t t' s _ _ ⟨.bl (g i j), H, I, rfl, q⟩

def CDiv (i j : Int) : Prop := 0 < j ∧ j < 1073741824
def CMul (i j : Int) : Prop := (-(2 ^ 64) < i ∧ i < 2 ^ 64) ∨ (-(2 ^ 64) < j ∧ j < 2 ^ 64)
theorem CMul.ok {i j : Int} (h : CMul i j) : IntMulOk i j := by
  rcases h with ⟨h1, h2⟩ | ⟨h1, h2⟩
  · exact .of_left (intBits_le_64 h1 h2)
  · exact .of_right (intBits_le_64 h1 h2)

theorem op_add : OpR X (binaryOp .Add) (rI0 fun i j => .int (i + j)) := opI0 fun _ _ _ _ _ _ _ q => add_int q
theorem op_mul : OpR X (binaryOp .Mult) (rI CMul fun i j => .int (i * j)) := opI fun _ _ _ _ _ _ _ hc q => mul_int q hc.ok
/-- // by a positive divisor -/
theorem op_fdiv : OpR X (binaryOp .FloorDiv) (rI CDiv fun i j => .int (i / j)) := opI fun i j _ _ _ _ _ hc q => by
  have h1 : (0 : Int) < j := hc.1
  have h2 : j < 1073741824 := hc.2
  exact floordiv_int (by omega) (by rw [Int.fdiv_eq_ediv_of_nonneg i (by omega)]; exact q) (.inl (PyProof.noPylong_small (by omega)))
/-- % by a positive divisor of any size -/
theorem op_mod : OpR X (binaryOp .Mod) (rI (fun _ j => 0 < j) fun i j => .int (i % j)) := opI fun i j _ _ _ _ _ hc q => by
  have h1 : (0 : Int) < j := hc
  exact mod_int' (by omega) (by rw [Int.fmod_eq_emod_of_nonneg i (by omega)]; exact q)


theorem unI {f : Value → Sem Value} {g : Int → Int}
    (rule : ∀ (i : Int) (t : Tok) (s : Shared) (Q : Value → Shared → Prop) (E : Value → Shared → Prop), Q (.int (g i) s.toks) { s with toks := s.toks + 1 } → wpAny (model X.prog X.w) X.A (f (.int i t)) Q E s) :
    UnR X f (rU fun i => .int (g i)) := by
  intro pins s σ H x v Q I rx h
  obtain ⟨i, rfl, q⟩ := h
  obtain ⟨t, rfl⟩ := rx
  exact rule i t s _ _ ⟨.int (g i), H, I.tok _, ⟨_, rfl⟩, q⟩
theorem un_neg : UnR X (unaryOp .USub) (rU fun i => .int (-i)) := unI fun _ _ _ _ _ q => neg_int q

/-! ### bools among ints: n += (a < b) -/
end

/-! ### comparisons -/
/-- the scalars that == tells apart as data does -/
def scal : V → V → Bool
  | .non, .non => true | .non, .int _ => true | .int _, .non => true | .non, .bl _ => true | .bl _, .non => true | .non, .str _ => true | .str _, .non => true
  | .int _, .int _ => true | .bl _, .bl _ => true | .str _, .str _ => true | .byt _, .byt _ => true
  | .int _, .str _ => true | .str _, .int _ => true | .bl _, .str _ => true | .str _, .bl _ => true
  | _, _ => false
def rEq : R2 := fun x y H Q => scal x y = true ∧ Q (.bl (decide (x = y))) H
def rNe : R2 := fun x y H Q => scal x y = true ∧ Q (.bl (!decide (x = y))) H

theorem dec_int {i j : Int} : decide (V.int i = V.int j) = (i == j) := by
  rw [Bool.eq_iff_iff]
  simp
theorem dec_bl {i j : Bool} : decide (V.bl i = V.bl j) = (i == j) := by
  rw [Bool.eq_iff_iff]
  simp
theorem dec_str {i j : Str} : decide (V.str i = V.str j) = (i == j) := by
  rw [Bool.eq_iff_iff]
  simp
theorem dec_byt {i j : Array UInt8} : decide (V.byt i = V.byt j) = (i.toList == j.toList) := by
  rw [Bool.eq_iff_iff]
  cases i
  cases j
  simp

section
variable {X : Cx} {a b c : Expr} {ta tb tc : TE} {pos : Pos}
theorem fin_bl {pins : List (Addr × Obj)} {σ : St} {H : Hp} {s : Shared} {Q : VK} {k k' : Bool} (I : Inv X pins σ H s) (q : Q (.bl k) H) (e : k = k') : EP X pins σ Q (.bool k') s := by
  subst e
  exact ⟨.bl k, H, I, rfl, q⟩
theorem op_eq : OpR X (compareOp .Eq) rEq := by
  intro pins s σ H x y v u Q I rx ry h
  obtain ⟨hs, q⟩ := h
  cases x with
  | non =>
    cases rx
    cases y with
    | non => cases ry; exact PySem.EqNone.eq_none_none (fin_bl I q (by simp))
    | bl j => cases ry; exact PySem.EqNone.eq_none_bool (fin_bl I q (by simp))
    | int j => obtain ⟨t', rfl⟩ := ry; exact PySem.EqNone.eq_none_int (fin_bl I q (by simp))
    | str j => obtain ⟨t', rfl⟩ := ry; exact PySem.EqNone.eq_none_str (fin_bl I q (by simp))
    | _ => exact absurd (show false = true from hs) Bool.false_ne_true
  | bl i =>
    cases rx
    cases y with
    | non => cases ry; exact PySem.EqNone.eq_bool_none (fin_bl I q (by simp))
    | bl j => cases ry; exact eq_bool (fin_bl I q dec_bl)
    | str j => obtain ⟨t', rfl⟩ := ry; exact PySem.EqMixed.eq_bool_str (fin_bl I q (by simp))
    | _ => exact absurd (show false = true from hs) Bool.false_ne_true
  | int i =>
    obtain ⟨t, rfl⟩ := rx
    cases y with
    | non => cases ry; exact PySem.EqNone.eq_int_none (fin_bl I q (by simp))
    | int j => obtain ⟨t', rfl⟩ := ry; exact eq_int (fin_bl I q dec_int)
    | str j => obtain ⟨t', rfl⟩ := ry; exact PySem.EqMixed.eq_int_str (fin_bl I q (by simp))
    | _ => exact absurd (show false = true from hs) Bool.false_ne_true
  | str i =>
    obtain ⟨t, rfl⟩ := rx
    cases y with
    | non => cases ry; exact PySem.EqNone.eq_str_none (fin_bl I q (by simp))
    | bl j => cases ry; exact PySem.EqMixed.eq_str_bool (fin_bl I q (by simp))
    | int j => obtain ⟨t', rfl⟩ := ry; exact PySem.EqMixed.eq_str_int (fin_bl I q (by simp))
    | str j => obtain ⟨t', rfl⟩ := ry; exact eq_str (fin_bl I q dec_str)
    | _ => exact absurd (show false = true from hs) Bool.false_ne_true
  | byt i =>
    obtain ⟨t, rfl⟩ := rx
    cases y with
    | byt j => obtain ⟨t', rfl⟩ := ry; exact PySem.W.eq_bytes (fin_bl I q dec_byt)
    | _ => exact absurd (show false = true from hs) Bool.false_ne_true
  | _ => cases y <;> exact absurd (show false = true from hs) Bool.false_ne_true
theorem op_ne : OpR X (compareOp .NotEq) rNe := by
  intro pins s σ H x y v u Q I rx ry h
  obtain ⟨hs, q⟩ := h
  cases x with
  | non =>
    cases rx
    cases y with
    | non => cases ry; exact PySem.EqNone.ne_none_none (fin_bl I q (by simp))
    | bl j => cases ry; exact PySem.EqNone.ne_none_bool (fin_bl I q (by simp))
    | int j => obtain ⟨t', rfl⟩ := ry; exact PySem.EqNone.ne_none_int (fin_bl I q (by simp))
    | str j => obtain ⟨t', rfl⟩ := ry; exact PySem.EqNone.ne_none_str (fin_bl I q (by simp))
    | _ => exact absurd (show false = true from hs) Bool.false_ne_true
  | bl i =>
    cases rx
    cases y with
    | non => cases ry; exact PySem.EqNone.ne_bool_none (fin_bl I q (by simp))
    | bl j => cases ry; exact ne_bool (fin_bl I q (congrArg not dec_bl))
    | str j => obtain ⟨t', rfl⟩ := ry; exact PySem.EqMixed.ne_bool_str (fin_bl I q (by simp))
    | _ => exact absurd (show false = true from hs) Bool.false_ne_true
  | int i =>
    obtain ⟨t, rfl⟩ := rx
    cases y with
    | non => cases ry; exact PySem.EqNone.ne_int_none (fin_bl I q (by simp))
    | int j => obtain ⟨t', rfl⟩ := ry; exact ne_int (fin_bl I q (congrArg not dec_int))
    | str j => obtain ⟨t', rfl⟩ := ry; exact PySem.EqMixed.ne_int_str (fin_bl I q (by simp))
    | _ => exact absurd (show false = true from hs) Bool.false_ne_true
  | str i =>
    obtain ⟨t, rfl⟩ := rx
    cases y with
    | non => cases ry; exact PySem.EqNone.ne_str_none (fin_bl I q (by simp))
    | bl j => cases ry; exact PySem.EqMixed.ne_str_bool (fin_bl I q (by simp))
    | int j => obtain ⟨t', rfl⟩ := ry; exact PySem.EqMixed.ne_str_int (fin_bl I q (by simp))
    | str j => obtain ⟨t', rfl⟩ := ry; exact ne_str (fin_bl I q (congrArg not dec_str))
    | _ => exact absurd (show false = true from hs) Bool.false_ne_true
  | byt i =>
    obtain ⟨t, rfl⟩ := rx
    cases y with
    | byt j => obtain ⟨t', rfl⟩ := ry; exact PySem.W.ne_bytes (fin_bl I q (congrArg not dec_byt))
    | _ => exact absurd (show false = true from hs) Bool.false_ne_true
  | _ => cases y <;> exact absurd (show false = true from hs) Bool.false_ne_true

theorem op_lt : OpR X (compareOp .Lt) (rI0 fun i j => .bl (decide (i < j))) := opB0 fun _ _ _ _ _ _ _ q => lt_int q
theorem op_le : OpR X (compareOp .LtE) (rI0 fun i j => .bl (decide (i ≤ j))) := opB0 fun _ _ _ _ _ _ _ q => le_int q
theorem op_gt : OpR X (compareOp .Gt) (rI0 fun i j => .bl (decide (j < i))) := opB0 fun _ _ _ _ _ _ _ q => gt_int q
theorem op_ge : OpR X (compareOp .GtE) (rI0 fun i j => .bl (decide (j ≤ i))) := opB0 fun _ _ _ _ _ _ _ q => ge_int q




theorem nomark (b : Expr) {op : CmpOp} (h : op ≠ .In := by decide) (h2 : op ≠ .NotIn := by decide) : behindInMarks op b = false := by
  have e1 : (op == CmpOp.In) = false := by cases op <;> first | rfl | exact absurd rfl h
  have e2 : (op == CmpOp.NotIn) = false := by cases op <;> first | rfl | exact absurd rfl h2
  cases b <;> simp [behindInMarks, e1, e2]
/-- a comparison as a value; hm: nomark b, or (for in, not in) by with_unfolding_all rfl -/
theorem pe_cmpR {op : CmpOp} {r : R2} (ho : OpR X (compareOp op) r) (ha : PE X a ta) (hb : PE X b tb) (hm : behindInMarks op b = false) : PE X (.Compare a [op] [b] pos) (tOp r ta tb) := by
  intro pins s σ H Q I h
  exact wpAny_Compare1 (binT ha hb I h fun v u s2 x y H2 I2 rx ry q => ho pins s2 σ H2 x y v u Q I2 rx ry q) hm
/-- a reading of a value as a test -/
def tTest (t : TE) : TT := fun σ H Q => t σ H fun x H' => ∃ k, x = .bl k ∧ Q k H'
theorem pt_cmpR {op : CmpOp} {r : R2} (ho : OpR X (compareOp op) r) (ha : PE X a ta) (hb : PE X b tb) (hm : behindInMarks op b = false) : PT X (.Compare a [op] [b] pos) (tTest (tOp r ta tb)) := by
  intro pins s σ H Q I h
  refine wpAny_isTrue_Compare1 (thn (ha pins s σ H _ I h) fun v s1 ⟨x, H1, I1, r1, q1⟩ => thn (hb pins s1 σ H1 _ I1 q1) fun u s2 ⟨y, H2, I2, r2, q2⟩ =>
    thn (ho pins s2 σ H2 x y v u _ I2 r1 r2 q2) fun c s3 ⟨z, H3, I3, r3, k, e, q3⟩ => ?_) hm
  subst e
  cases r3
  exact wpAny_truthy_bool ⟨H3, I3, q3⟩
/-- a op1 b op2 c -/
def tChain (r r' : R2) (ta tb tc : TE) : TE := fun σ H Q => ta σ H fun x H1 => tb σ H1 fun y H2 => r x y H2 fun z H3 => ∃ k, z = .bl k ∧
  (if k = true then tc σ H3 fun w' H4 => r' y w' H4 Q else Q (.bl false) H3)
theorem pe_chain {op op' : CmpOp} {r r' : R2} (ho : OpR X (compareOp op) r) (ho' : OpR X (compareOp op') r') (ha : PE X a ta) (hb : PE X b tb) (hc : PE X c tc)
    (hm : lastMarks [op, op'] [b, c] = false := by with_unfolding_all rfl) : PE X (.Compare a [op, op'] [b, c] pos) (tChain r r' ta tb tc) := by
  intro pins s σ H Q I h
  refine Compare_chain (thn (ha pins s σ H _ I h) fun v s1 ⟨x, H1, I1, r1, q1⟩ => chain_link (thn (hb pins s1 σ H1 _ I1 q1) fun u s2 ⟨y, H2, I2, r2, q2⟩ =>
    thn (ho pins s2 σ H2 x y v u _ I2 r1 r2 q2) fun d s3 ⟨z, H3, I3, r3, k, e, q3⟩ => ?_)) hm
  subst e
  cases r3
  refine wpAny_truthy_bool ?_
  cases k with
  | false => exact ite_ff ⟨.bl false, H3, I3, rfl, q3⟩
  | true => exact ite_tt (chain_last (thn (hc pins s3 σ H3 _ I3 q3) fun w' s4 ⟨z', H4, I4, r4, q4⟩ => ho' pins s4 σ H4 y z' u w' Q I4 r2 r4 q4))

/-! ### truth -/
theorem line63 : (sizeLine : Nat) < 2 ^ 63 := by rw [sizeLine_eq]; decide

/-! ### strs and bytes -/


/-! ### scalar builtins, by CallR -/
theorem vals1 {x : V} {us : List Value} (r : Vals [x] us) : ∃ u, us = [u] ∧ RelV x u := by
  cases r with
  | cons r1 r2 => cases r2; exact ⟨_, rfl, r1⟩
end
end L2

namespace L2
open PySem PySem.Spec PyProof.Rows

/-! ### an instance, its attributes a map -/
structure ObjM (h : Heap) (x dx C : Addr) (mA : Str → Option Value) : Prop where
  obj : h.get? x = some (PySem.W.instObj C dx)
  ns : h.Ns1 dx mA
  ne : dx ≠ x

theorem lookIn_ns {h : Heap} {dx : Addr} {mA : Str → Option Value} (n : h.Ns1 dx mA) : ∃ od, h.get? dx = some od ∧ ∀ name, PySem.W.lookIn name od = some (mA name) := by
  obtain ⟨o, es, ep, ho, hd, hk, _, hm⟩ := n
  refine ⟨o, ho, fun name => ?_⟩
  have e := hm name
  unfold nsFind findBy at e
  rw [← Array.find?_toList] at e
  unfold PySem.W.lookIn
  rw [hd]
  dsimp only
  split
  · rename_i y q
    rw [q] at e
    exact congrArg some e
  · rename_i q
    rw [q] at e
    have a : es.toList.any (·.refKey) = false := by
      rw [List.any_eq_false]
      intro y hy
      obtain ⟨z, t, hkey⟩ := hk y (Array.mem_toList_iff.mp hy)
      simp [DictEntry.refKey, hkey]
    have a' : ¬ es.toList.any (·.refKey) = true := by rw [a]; exact Bool.false_ne_true
    rw [if_neg a']
    exact congrArg some e

theorem ObjM.look {h : Heap} {x dx C : Addr} {mA : Str → Option Value} (I : ObjM h x dx C mA) : ∃ od, PySem.W.InstAt h x (PySem.W.instObj C dx) C (some od) ∧ ∀ name, PySem.W.lookIn name od = some (mA name) :=
  let ⟨od, ho, hl⟩ := lookIn_ns I.ns
  ⟨od, ⟨I.obj, rfl, rfl, ho⟩, hl⟩

section
variable {prog : Program} {w : World} {A : Around} {E : Value → Shared → Prop} {s : Shared} {K : PySem.W.Frag} {x dx C f : Addr} {mA : Str → Option Value} {name : Str} {v : Value}





end

/-! ### the attributes as a list of pairs -/


section
variable {P : Program} {w : World} {H H' : Hp} {h h' : Heap} {a C dx : Addr} {fs fs' : List (Str × V)}
theorem ins_get (hok : HOk P w H h) (e : H a = some (.ins C dx fs)) : ∃ mA, ObjM h a dx C mA ∧ (∀ f, RelO (fs.lookup f) (mA f)) ∧ PySem.Within mA (fs.map (·.1)) ∧ fs.length ≤ 1000 ∧ H dx = some (.own a) := by
  obtain ⟨d, z, ne, ob, mA, n, r, q⟩ := (show ObjOk P w H h a (.ins C dx fs) from hok a _ e)
  exact ⟨mA, ⟨ob, n, ne⟩, r, q, z, d⟩
end

/-! ### what of the text a class must have -/
structure Cls (K : PySem.W.Frag) (C : Addr) : Prop where
  pg : PySem.W.plainGet K C Str.empty = true
  hd : PySem.W.hasDictIn K C = true
  po : PySem.W.plainOver K C = true
  sa : PySem.W.findIn K (.ref C) "__setattr__" = some (some (.builtin "object.__setattr__"))
theorem Cls.get {K : PySem.W.Frag} {C : Addr} (c : Cls K C) (f : Str) : PySem.W.plainGet K C f = true := c.pg

section
variable {X : Cx} {pins : List (Addr × Obj)} {σ : St} {H : Hp} {s : Shared} {a C dx : Addr} {fs : List (Str × V)} {f : Str} {v : V} {A : Around} {E : Value → Shared → Prop}






end

/-! ### readings and rules -/

section
variable {X : Cx} {o e value : Expr} {f : Str} {pos pos' tpos : Pos} {ta tv : TE}

end

/-! ### isinstance -/
section
variable {X : Cx} {pins : List (Addr × Obj)} {σ : St} {H : Hp} {s : Shared} {A : Around} {E : Value → Shared → Prop} {Q : Value → Shared → Prop} {c : Value} {b : Bool}
/-- the type of a value, as the fragment's deciders take it; for an instance its class -/
inductive TyOf (K : PySem.W.Frag) (H : Hp) : V → Value → Prop where
  | non : TyOf K H .non (.type "NoneType")
  | bl (x : Bool) : TyOf K H (.bl x) (.type "bool")
  | int (i : Int) : TyOf K H (.int i) (.type "int")
  | str (x : Str) : TyOf K H (.str x) (.type "str")
  | flt (x : UInt64) : TyOf K H (.flt x) (.type "float")
  | lst {a : Addr} {xs : List V} (e : H a = some (.lst xs)) : TyOf K H (.ref a) (.type "list")
  | frz {a : Addr} {o : Obj} {xs : List V} (e : H a = some (.frz o (.lst xs))) : TyOf K H (.ref a) (.type "list")
  | tup {a : Addr} {xs : List V} (e : H a = some (.tup xs)) : TyOf K H (.ref a) (.type "tuple")
  | dK {a : Addr} {kvs : List (Key × V)} (e : H a = some (.dK kvs)) : TyOf K H (.ref a) (.type "dict")
  | dT {a : Addr} {kvs : List (List Key × V)} (e : H a = some (.dT kvs)) : TyOf K H (.ref a) (.type "dict")
  | ins {a C dx : Addr} {fs : List (Str × V)} (e : H a = some (.ins C dx fs)) (cl : Cls K C) (ha : PySem.W.findIn K (.ref C) "__class__" = some (some (.builtin "object.__class__")))
      (hn : PySem.W.specialIn K (.builtin "object.__class__") "__get__" = some (some (.builtin "getset_descriptor.__get__"))) (htk : PySem.W.takesIn K (.builtin "object.__class__") = some true)
      (hm : PySem.W.mroIn K C (.type "object") = some true) : TyOf K H (.ref a) (.ref C)
/-- isinstance(x, c) for one class c, a built-in or an own one: kitOne's answer -/
theorem isinst_ok {x : V} {u t : Value} (I : Inv X pins σ H s) (rx : RelV x u) (ty : TyOf X.K H x t) (e : PySem.W.kitOne X.K t c = some b) (h : ∀ tk, Q (.bool b) { s with toks := tk }) :
    wpAny (model X.prog X.w) A (call (.builtin "isinstance") [u, c]) Q E s := by
  cases ty with
  | non => cases (show u = Value.none from rx); exact PySem.W.kia_one PySem.W.kitx_none I.kIn True.intro e (fun z => nomatch z) h
  | bl y => cases (show u = Value.bool y from rx); exact PySem.W.kia_one PySem.W.kitx_bool I.kIn True.intro e (fun z => nomatch z) h
  | int i => obtain ⟨t, q⟩ := (show ∃ t, u = Value.int i t from rx); cases q; exact PySem.W.kia_one PySem.W.kitx_int I.kIn True.intro e (fun z => nomatch z) h
  | str y => obtain ⟨t, q⟩ := (show ∃ t, u = Value.str y t from rx); cases q; exact PySem.W.kia_one PySem.W.kitx_str I.kIn True.intro e (fun z => nomatch z) h
  | flt y => obtain ⟨t, q⟩ := (show ∃ t, u = Value.float y t from rx); cases q; exact PySem.W.kia_one PySem.W.kitx_float I.kIn True.intro e (fun z => nomatch z) h
  | @lst a xs ea =>
    cases (show u = Value.ref a from rx)
    obtain ⟨_, _, n, _, h1⟩ := (show ObjOk X.prog X.w H s.heap a (.lst xs) from I.hok a _ ea)
    exact PySem.W.kia_one PySem.W.kitx_list I.kIn ⟨_, h1, rfl⟩ e (fun z => nomatch z) h
  | @frz a ob xs ea =>
    cases (show u = Value.ref a from rx)
    obtain ⟨_, _, _, n, _, h1⟩ := (show ObjOk X.prog X.w H s.heap a (.frz ob (.lst xs)) from I.hok a _ ea)
    exact PySem.W.kia_one PySem.W.kitx_list I.kIn ⟨_, h1, rfl⟩ e (fun z => nomatch z) h
  | @tup a xs ea =>
    cases (show u = Value.ref a from rx)
    obtain ⟨_, _, _, p⟩ := (show ObjOk X.prog X.w H s.heap a (.tup xs) from I.hok a _ ea)
    obtain ⟨o, h1, h2, _⟩ := p
    exact PySem.W.kia_one PySem.W.kitx_tuple I.kIn ⟨o, h1, h2⟩ e (fun z => nomatch z) h
  | @dK a kvs ea =>
    cases (show u = Value.ref a from rx)
    obtain ⟨_, _, vs, _, p⟩ := (show ObjOk X.prog X.w H s.heap a (.dK kvs) from I.hok a _ ea)
    obtain ⟨o, es, ep, h1, h2, _⟩ := p
    exact PySem.W.kia_one PySem.W.kitx_dict I.kIn ⟨o, h1, h2.1⟩ e (fun z => nomatch z) h
  | @dT a kvs ea =>
    cases (show u = Value.ref a from rx)
    obtain ⟨_, _, xs, _, o, es, ep, h1, h2, _⟩ := (show ObjOk X.prog X.w H s.heap a (.dT kvs) from I.hok a _ ea)
    exact PySem.W.kia_one PySem.W.kitx_dict I.kIn ⟨o, h1, h2.1⟩ e (fun z => nomatch z) h
  | @ins a C dx fs ea cl ha hn htk hm =>
    cases (show u = Value.ref a from rx)
    obtain ⟨mA, O, _⟩ := ins_get I.hok ea
    obtain ⟨od, J, _⟩ := O.look
    exact PySem.W.kia_one (PySem.W.kitx_own (cl.get _) cl.hd ha hn htk hm) I.kIn J e (fun z => nomatch z) h
end
end L2

namespace L2
open PySem PySem.Spec PyProof.Rows

/-! ### room -/
structure Room (k : Nat) (A : Around) : Prop where
  hd : A.handled = none
  dp : A.depth + 3 * k + 5 < recursionLimit
  un : A.units + 16 * k + 200 < cLine
theorem Room.mono {j k : Nat} {A : Around} (r : Room k A) (h : j ≤ k) : Room j A := ⟨r.hd, by have := r.dp; omega, by have := r.un; omega⟩
theorem Room.deeper {k : Nat} {A : Around} (r : Room (k + 1) A) (env : Env) : Room k (A.deeper env) :=
  ⟨r.hd, by have := r.dp; show A.depth + 1 + 3 * k + 5 < _; omega, by have := r.un; show A.units + 3 + 16 * k + 200 < _; omega⟩
theorem Room.depth {k : Nat} {A : Around} (r : Room k A) : A.depth < recursionLimit := by have := r.dp; omega
theorem Room.units {k : Nat} {A : Around} (r : Room k A) : A.units + 64 < cLine := by have := r.un; omega

/-! ### argument lists and displays -/
def tNil : TA := fun _ H Q => Q [] H
def tCons (ta : TE) (tr : TA) : TA := fun σ H Q => ta σ H fun x H1 => tr σ H1 fun xs H2 => Q (x :: xs) H2
section
variable {X : Cx} {e : Expr} {es : List Expr} {te : TE} {t : TA} {pos : Pos}
theorem pa_nil : PA X [] tNil := fun _ _ _ _ H Q I h => Calls.spliced_nil ⟨[], H, I, .nil, h⟩
theorem pa_cons (ha : PE X e te) (hr : PA X es t) (hs : starEach (e :: es) X.env = (false, eval e X.env) :: starEach es X.env := by rfl) : PA X (e :: es) (tCons te t) := by
  intro pos pins s σ H Q I h
  rw [hs]
  show wpAny _ _ (spliced ((false, eval e X.env) :: backTo pos (starEach es X.env))) _ _ s
  refine Calls.spliced_cons (thn (ha pins s σ H _ I h) fun u s1 ⟨x, H1, I1, r1, q1⟩ => ?_)
  exact thn (hr pos pins s1 σ H1 _ I1 q1) fun us s2 ⟨xs, H2, I2, r2, q2⟩ => ⟨x :: xs, H2, I2, .cons r1 r2, q2⟩

/-- a tuple, a list of written items -/
def tTup (t : TA) : TE := fun σ H Q => t σ H fun xs H1 => xs.length ≤ sizeLine ∧ ∀ p, H1 p = none → Q (.ref p) (upd H1 p (.tup xs))
def tLst (t : TA) : TE := fun σ H Q => t σ H fun xs H1 => xs.length ≤ sizeLine ∧ ∀ p, H1 p = none → Q (.ref p) (upd H1 p (.lst xs))
theorem pe_tup {x1} (h : PA X es t) : PE X (.Tuple es x1 pos) (tTup t) := by
  intro pins s σ H Q I hq
  refine wpAny_Tuple_spliced (thn (h pos pins s σ H _ I hq) fun us s1 ⟨xs, H1, I1, r, z, q⟩ => ⟨by rw [← r.length]; exact z, ?_⟩)
  have hf : H1 s1.heap.objs.size = none := I1.hok.fresh (Nat.le_refl _)
  refine ⟨.ref s1.heap.objs.size, upd H1 s1.heap.objs.size (.tup xs), I1.laid (t' := s1.toks) (fun b u e => Heap.get?_push_of_some _ e) (Nat.le_refl _) ?_, rfl, q _ hf⟩
  exact ⟨z, us, r, ⟨_, Heap.get?_push_size _ rfl, rfl, _, rfl⟩⟩
theorem pe_lst (h : PA X es t) : PE X (.List es pos) (tLst t) := by
  intro pins s σ H Q I hq
  refine wpAny_List_spliced (thn (h pos pins s σ H _ I hq) fun us s1 ⟨xs, H1, I1, r, z, q⟩ => ⟨by rw [← r.length]; exact z, ?_⟩)
  have hf : H1 s1.heap.objs.size = none := I1.hok.fresh (Nat.le_refl _)
  refine ⟨.ref s1.heap.objs.size, upd H1 s1.heap.objs.size (.lst xs), I1.laid (t' := s1.toks) (fun b u e => Heap.get?_push_of_some _ e) (Nat.le_refl _) ?_, rfl, q _ hf⟩
  exact ⟨z, us, 0, r, Heap.get?_push_size _ rfl⟩
end

/-! ### what a def promises -/
/-- a def's promise: the bound arguments in the parameters' order, the heap, the wanted end, the wanted exception -/
abbrev Sp := List V → Hp → VK → XK → Prop
/-- how an exception lies behind a call (file 08 gives it): the callers' frames, abstract heap and state ahead of the call, the wish, the exception, the state -/
abbrev CXT := List Env → Hp → Shared → XK → Value → Shared → Prop

/-- the state at a call -/
structure Env0 (P : Program) (w : World) (K : PySem.W.Frag) (mg : Str → Option Value) (base : Heap) (A : Around) (outer : List Env) (s : Shared) (H : Hp) : Prop where
  frames : A.frames = some outer
  mod : Mod K mg base
  bs : ∀ b o, base.get? b = some o → s.heap.get? b = some o ∧ H b = none
  bsz : base.objs.size ≤ s.heap.objs.size
  funs : s.heap.FunFrames base outer
  frf : ∀ b ∈ frs outer, H b = none
  hok : HOk P w H s.heap
  bare : AllBare s.gens
/-- a call's end -/
def CE (outer : List Env) (P : Program) (w : World) (H : Hp) (s : Shared) (Q : VK) (u : Value) (s' : Shared) : Prop :=
  ∃ v H', s'.os = s.os ∧ AllBare s'.gens ∧ Un (frs outer) [] H H' s.heap s'.heap ∧ HOk P w H' s'.heap ∧ RelV v u ∧ Q v H'
def CR (CX : CXT) (outer : List Env) (P : Program) (w : World) (H : Hp) (s : Shared) (Q : VK) (E : XK) (r : Result) (s' : Shared) : Prop :=
  match r with
  | .ok (.ret u) => CE outer P w H s Q u s'
  | .ok _ => False
  | .error e => CX outer H s E e s'
structure FnOk (P : Program) (w : World) (K : PySem.W.Frag) (mg : Str → Option Value) (base : Heap) (CX : CXT) (k : Nat) (f : Addr) (fd : FuncData) (ps : List Str) (sp : Sp) : Prop where
  len : ∀ vs H Q E, sp vs H Q E → vs.length = ps.length
  run : ∀ (A : Around) (outer : List Env) (s : Shared) (H : Hp) (args : Args) (us : List Value) (vs : List V) (Q : VK) (E : XK), Room k A → Env0 P w K mg base A outer s H → BindsTo s fd args (ps.zip us) → Vals vs us → sp vs H Q E →
    codeAny (model P w) A (.call (.ref f) args) (CR CX outer P w H s Q E) s


section
variable {X : Cx} {pins : List (Addr × Obj)} {σ : St} {H : Hp} {s s' : Shared}
/-- from a body: what a callee wants -/
theorem Inv.env0 (I : Inv X pins σ H s) : Env0 X.prog X.w X.K X.mg X.base X.A X.stack s H :=
  ⟨I.ok.frames, I.ok.mod, I.bs, Nat.le_trans I.ok.bsz I.sz, I.stack, I.stkFree, I.hok, I.bare⟩
/-- behind a call -/
theorem Inv.after {Q : VK} {u : Value} (I : Inv X pins σ H s) (h : CE X.stack X.prog X.w H s Q u s') : EP X pins σ Q u s' := by
  obtain ⟨v, H', os, bare, un, hok, r, q⟩ := h
  obtain ⟨hh, g, d, t, os'⟩ := s'
  obtain rfl : os' = s.os := os
  exact ⟨v, H', I.call (h' := hh) (g' := g) (d' := d) (t' := t) (ch := []) un hok bare (fun b z => absurd z (by simp)), r, q⟩
end

/-! ### calls -/
/-- f(..): the written arguments, then the defaults dvs; E: what is wanted of an exception -/
def tCall (sp : Sp) (dvs : List V) (E : XK) (t : TA) : TE := fun σ H Q => t σ H fun vs H1 => sp (vs ++ dvs) H1 Q E

/-- how the parameters are bound: us the positional arguments, kw the keywords' values by name, ds the defaults that fill up -/
def Binds (K : PySem.W.Frag) (fd : FuncData) (ps : List Str) (ds : List Value) : Prop :=
  ∀ (s : Shared) (us : List Value), K.In s.heap → (us ++ ds).length = ps.length → BindsTo s fd ⟨us, []⟩ (ps.zip (us ++ ds))
/-- every parameter is given -/
theorem Binds.all {K : PySem.W.Frag} {fd : FuncData} {ps : List Str} (h : ∀ us : List Value, us.length = ps.length → bindArgs fd ⟨us, []⟩ = pure (ps.zip us)) : Binds K fd ps [] := fun s us _ hl => by
  rw [List.append_nil] at hl ⊢
  exact .of_eq (h us hl)

/-- an exception of a callee reaches what this body wants of exceptions -/
def Passes (CX : CXT) (X : Cx) (E : XK) : Prop := ∀ (pins : List (Addr × Obj)) (σ : St) (H : Hp) (s : Shared) (e : Value) (s' : Shared), Inv X pins σ H s → CX X.stack H s E e s' → X.xe e s'

section
variable {X : Cx} {CX : CXT} {k : Nat} {f C : Addr} {fd : FuncData} {ps : List Str} {sp : Sp} {dvs : List V} {ds : List Value} {E : XK} {x m : Str} {p pos apos : Pos} {e o : Expr} {es : List Expr} {ta : TE} {t : TA}

/-- the callee runs -/
theorem run_fn {pins : List (Addr × Obj)} {σ : St} {H : Hp} {s : Shared} {Q : VK} {us : List Value} {vs : List V} (F : FnOk X.prog X.w X.K X.mg X.base CX k f fd ps sp) (hr : Room k X.A) (hb : Binds X.K fd ps ds) (hd : Vals dvs ds) (hx : Passes CX X E)
    (I : Inv X pins σ H s) (r : Vals vs us) (h : sp (vs ++ dvs) H Q E) : wpAny (model X.prog X.w) X.A (call (.ref f) us) (EP X pins σ Q) X.xe s := by
  have r2 : Vals (vs ++ dvs) (us ++ ds) := r.append hd
  have hl : (us ++ ds).length = ps.length := by rw [← r2.length]; exact F.len _ _ _ _ h
  refine wpAny_call (codeAny_mono (F.run X.A X.stack s H ⟨us, []⟩ (us ++ ds) (vs ++ dvs) Q E hr I.env0 (hb s us I.kIn hl) r2 h) fun r s' hq => ?_)
  cases r with
  | error e => exact hx pins σ H s e s' I hq
  | ok fl =>
    cases fl with
    | ret u => exact I.after hq
    | next => exact False.elim hq
    | brk => exact False.elim hq
    | cont => exact False.elim hq

theorem pe_call (F : FnOk X.prog X.w X.K X.mg X.base CX k f fd ps sp) (hr : Room k X.A) (hg : Gl X x) (hm : X.mg x = some (.ref f)) (hk : PySem.W.keepIn X.K (.ref f) = true) (hb : Binds X.K fd ps ds) (hd : Vals dvs ds) (hx : Passes CX X E)
    (ha : PA X (e :: es) t) (hdb : (x == ("__debug__" : Str)) = false := by decide) (he : starEach (e :: es) X.env = (false, eval e X.env) :: starEach es X.env := by rfl) (hpl : (backTo pos (starEach es X.env)).any (·.1) = false := by rfl) :
    PE X (.Call (.Name x p) (e :: es) [] pos) (tCall sp dvs E t) := by
  intro pins s σ H Q I h
  refine wpAny_Call_Name_kw (ld_glob I hg hm ?_ hdb)
  refine PySem.W.callWith_K (h₀ := X.base) I.ok.mod.kin hk (thn (ha pos pins s σ H _ I h) fun us s1 ⟨vs, H1, I1, r, q⟩ => ⟨I1.kIn, ?_⟩) he hpl
  exact run_fn F hr hb hd hx I1 r q



end

/-! ### keywords -/
section
variable {X : Cx} {CX : CXT} {k : Nat} {f C : Addr} {fd : FuncData} {ps ks : List Str} {sp : Sp} {E : XK} {x m : Str} {p pos apos kpos : Pos} {e o : Expr} {es : List Expr} {kws : List Keyword} {te ta : TE} {t tk : TA} {nm : Option Str}

variable {g : List Value → List Value → List Value} {gV : List V → List V → List V}
end

/-! ### a def's body keeps its promise -/
/-- names: the parameters first -/
structure FnScope (N P : List Str) (sc : Scope) : Prop where
  kind : sc.kind = .function
  co : sc.isCoroutine = false
  gen : sc.isGenerator = false
  nd : N.Nodup
  pre : N.take P.length = P
  par : ∀ x ∈ P, sc.names.lookup x = some .local ∨ sc.names.lookup x = some .cell
  nofree : ∀ y ∈ sc.names, y.2 ≠ .free

theorem bindL_out {kindOf : Str → Option NameKind} {x : Str} : ∀ {binds : List (Str × Value)} {m : Str → Option Value}, (∀ v, (x, v) ∉ binds) → bindL kindOf binds m x = m x
  | [], _, _ => rfl
  | (n, v) :: r, m, h => by
    unfold bindL
    rw [bindL_out fun w hw => h w (List.mem_cons_of_mem _ hw)]
    split
    · have : x ≠ n := by rintro rfl; exact h v List.mem_cons_self
      simp [this]
    · rfl
theorem bindC_out {kindOf : Str → Option NameKind} {x : Str} : ∀ {binds : List (Str × Value)} {m : Str → Option Value}, (∀ v, (x, v) ∉ binds) → bindC kindOf binds m x = m x
  | [], _, _ => rfl
  | (n, v) :: r, m, h => by
    unfold bindC
    rw [bindC_out fun w hw => h w (List.mem_cons_of_mem _ hw)]
    split
    · rfl
    · have : x ≠ n := by rintro rfl; exact h v List.mem_cons_self
      simp [this]
theorem bindL_get {kindOf : Str → Option NameKind} {x : Str} {v : Value} : ∀ {P : List Str} {vs : List Value} {i : Nat} {m : Str → Option Value}, P.Nodup → P[i]? = some x → vs[i]? = some v → kindOf x = some .local →
    bindL kindOf (P.zip vs) m x = some v
  | [], _, _, _, _, h, _, _ => by simp at h
  | _ :: _, [], _, _, _, _, h, _ => by simp at h
  | p :: P, w :: vs, 0, m, nd, h1, h2, hk => by
    simp at h1 h2; subst h1; subst h2
    show bindL kindOf ((p, w) :: P.zip vs) m p = _
    unfold bindL
    rw [bindL_out fun v hv => (List.nodup_cons.mp nd).1 (List.of_mem_zip hv).1, if_pos hk]
    simp
  | p :: P, w :: vs, i + 1, m, nd, h1, h2, hk => by
    show bindL kindOf ((p, w) :: P.zip vs) m x = _
    unfold bindL
    exact bindL_get (i := i) (List.nodup_cons.mp nd).2 (by simpa using h1) (by simpa using h2) hk
theorem bindC_get {kindOf : Str → Option NameKind} {x : Str} {v : Value} : ∀ {P : List Str} {vs : List Value} {i : Nat} {m : Str → Option Value}, P.Nodup → P[i]? = some x → vs[i]? = some v → kindOf x ≠ some .local →
    bindC kindOf (P.zip vs) m x = some v
  | [], _, _, _, _, h, _, _ => by simp at h
  | _ :: _, [], _, _, _, _, h, _ => by simp at h
  | p :: P, w :: vs, 0, m, nd, h1, h2, hk => by
    simp at h1 h2; subst h1; subst h2
    show bindC kindOf ((p, w) :: P.zip vs) m p = _
    unfold bindC
    rw [bindC_out fun v hv => (List.nodup_cons.mp nd).1 (List.of_mem_zip hv).1, if_neg hk]
    simp
  | p :: P, w :: vs, i + 1, m, nd, h1, h2, hk => by
    show bindC kindOf ((p, w) :: P.zip vs) m x = _
    unfold bindC
    exact bindC_get (i := i) (List.nodup_cons.mp nd).2 (by simpa using h1) (by simpa using h2) hk

/-- the names' values at the entry -/
def start (N : List Str) (vs : List V) : St := vs.map some ++ List.replicate (N.length - vs.length) none

/-- the context of a def's body, at its entry; an exception leaves the frame, then lies as CX says -/
def cxOf (CX : CXT) (P : Program) (w : World) (K : PySem.W.Frag) (mg : Str → Option Value) (base : Heap) (N : List Str) (qual : Str) (scope : Scope) (f : Addr) (cd : Value) (A : Around) (outer : List Env) (s : Shared) (H : Hp) (E : XK) : Cx where
  prog := P
  w := w
  K := K
  mg := mg
  base := base
  A := A.deeper (envOfC qual scope s.heap.objs.size f cd)
  N := N
  s₀ := s
  H₀ := H
  env := envOfC qual scope s.heap.objs.size f cd
  outer := outer
  stack := envOfC qual scope s.heap.objs.size f cd :: outer
  ex := []
  calm := true
  fn := fun _ => true
  pn := []
  xe := fun e s' => wpAny (model P w) (A.deeper (envOfC qual scope s.heap.objs.size f cd)) (leaving (envOfC qual scope s.heap.objs.size f cd) e) (fun _ s'' => CX outer H s E e s'') (fun e' s'' => CX outer H s E e' s'') s'

theorem cell_has {sc : Scope} {n : Nat} {x : Str} (h : sc.names.lookup x = some .cell) : ∃ c, (cellsFrom n sc.names []).lookup x = some c := by
  have q := PySem.W.cellsFrom_some sc.names n [] (.inl h)
  exact Option.isSome_iff_exists.mp q

theorem inv_start {CX : CXT} {P : Program} {w : World} {K : PySem.W.Frag} {mg : Str → Option Value} {base : Heap} {N ps : List Str} {qual : Str} {scope : Scope} {f : Addr} {cd : Value} {A : Around} {outer : List Env} {s s1 : Shared} {H : Hp} {E : XK} {us : List Value} {vs : List V}
    (S : FnScope N ps scope) (hd : A.handled = none) (e0 : Env0 P w K mg base A outer s H) (hl : vs.length = ps.length) (r : Vals vs us)
    (x : InCallC s s.heap.objs.size (bindL (envOfC qual scope s.heap.objs.size f cd).kindOf (ps.zip us) fun _ => none) (cellsFrom (s.heap.objs.size + 1) scope.names []) (bindC (envOfC qual scope s.heap.objs.size f cd).kindOf (ps.zip us) fun _ => none) s1) :
    Inv (cxOf CX P w K mg base N qual scope f cd A outer s H E) [] (start N vs) H s1 := by
  have hpl : ps.length ≤ N.length := by have := congrArg List.length S.pre; rw [List.length_take] at this; omega
  obtain ⟨h1, tk, rfl, hk⟩ := x.done
  have noA : ∀ b : Addr, b ∉ (cxOf CX P w K mg base N qual scope f cd A outer s H E).ex := fun b z => absurd (show b ∈ ([] : List Addr) from z) (by simp)
  refine ⟨⟨e0.mod, S.kind, rfl, rfl, Nat.le_refl _, fun y z c h1 h2 => ?_, fun y hy => ?_, fun y c _ h => ?_, fun _ => hd, Around.frames_deeper e0.frames, .inr ⟨rfl, rfl⟩, fun b z => absurd z (noA b), e0.bs, e0.bsz, fun b _ _ => noA b, fun b z => absurd z (noA b), e0.funs, e0.frf⟩,
    rfl, e0.bare, Un.kept hk, ⟨_, x.toInCall.ns, fun i y v h1 h2 h3 => ?_⟩, fun y c h => ⟨_, x.cell y c h⟩, e0.hok.fresh (Nat.le_refl _), fun y c h => ?_, fun p hp => absurd (show p ∈ ([] : List (Addr × Obj)) from hp) (by simp), e0.hok.kept hk, ?_⟩
  · exact name_of_addr x.apart (PySem.mem_of_lookup h1) (PySem.mem_of_lookup h2)
  · have hy : scope.names.lookup y = some .cell ∨ scope.names.lookup y = some .free := hy
    rcases hy with hy | hy
    · exact cell_has hy
    · exact absurd rfl (S.nofree _ (PySem.mem_of_lookup hy))
  · exact Nat.le_of_lt (x.above y c (PySem.mem_of_lookup h))
  · have hi : i < vs.length := by
      unfold start at h2
      by_cases hi : i < vs.length
      · exact hi
      · rw [List.getElem?_append_right (by simpa using hi)] at h2
        rw [List.getElem?_replicate] at h2
        split at h2 <;> cases h2
    have ha : vs[i]? = some v := by
      unfold start at h2
      rw [List.getElem?_append_left (by simpa using hi), List.getElem?_map] at h2
      cases e : vs[i]? with
      | none => rw [e] at h2; cases h2
      | some a => rw [e] at h2; cases h2; rfl
    obtain ⟨u, hu, rv⟩ := r.get ha
    have hp : ps[i]? = some y := by
      rw [← S.pre, List.getElem?_take_of_lt (by omega)]; exact h1
    have ndP : ps.Nodup := by rw [← S.pre]; exact S.nd.sublist (List.take_sublist _ _)
    refine ⟨u, rv, ?_⟩
    rcases S.par y (List.mem_of_getElem? hp) with k | k
    · exact .inl ⟨k, bindL_get ndP hp hu k⟩
    · obtain ⟨c, e⟩ := cell_has (n := s.heap.objs.size + 1) k
      refine .inr ⟨.inl k, c, e, ?_⟩
      have q := x.cell y c e
      rw [bindC_get ndP hp hu (by show scope.names.lookup y ≠ _; rw [k]; decide)] at q
      exact q
  · exact e0.hok.fresh (Nat.le_of_lt (x.above y c (PySem.mem_of_lookup h)))
  · unfold start
    show _ = N.length
    rw [List.length_append, List.length_map, List.length_replicate]
    omega

/-- THE RULE: a def (or a method) of the text, by its body. The body's reading t is chosen for each entry; it is run at the parameters' values -/
theorem fn_of {CX : CXT} {P : Program} {w : World} {K : PySem.W.Frag} {mg : Str → Option Value} {base : Heap} {k : Nat} {f : Addr} {name qual : Str} {params : Arguments} {body : List Stmt} {scope : Scope} {dV kV doc pm cdv ct oc : Value} {an od : Option Addr}
    {osl : Array (Option Value)} {N ps : List Str} {sp : Sp} (lk : K.lookup f = some ⟨oc, od, .func (PySem.W.fnOf name qual params body scope dV kV doc pm an cdv ct), osl⟩) (hcd : PySem.W.codeIn K cdv qual = true) (S : FnScope N ps scope)
    (len : ∀ vs H Q E, sp vs H Q E → vs.length = ps.length)
    (hbody : ∀ (A : Around) (outer : List Env) (s : Shared) (H : Hp) (vs : List V) (Q : VK) (E : XK), Room k (A.deeper (envOfC qual scope s.heap.objs.size f cdv)) → sp vs H Q E →
      ∃ t, PSs (cxOf CX P w K mg base N qual scope f cdv A outer s H E) body t ∧ t { nx := fun _ H' => Q .non H', rt := Q } (start N vs) H) :
    FnOk P w K mg base CX (k + 1) f (PySem.W.fnOf name qual params body scope dV kV doc pm an cdv ct) ps sp := by
  refine ⟨len, fun A outer s H args us vs Q E hr e0 hb r hsp => ?_⟩
  have hl := len _ _ _ _ hsp
  have KX : K.In s.heap := e0.mod.kin.keeps fun b o e => (e0.bs b o e).1
  have lim : s.heap.NoLimit := e0.mod.nolimit.keeps fun b o e => (e0.bs b o e).1
  have hkind : ∀ y ∈ ps.zip us, scope.names.lookup y.1 = some .local ∨ (scope.names.lookup y.1 = some .cell ∧ ((cellsFrom (s.heap.objs.size + 1) scope.names []).lookup y.1).isSome = true) := fun ⟨n, v⟩ hy => by
    rcases S.par n (List.of_mem_zip hy).1 with q | q
    · exact .inl q
    · exact .inr ⟨q, PySem.W.cellsFrom_some _ _ _ (.inl q)⟩
  refine codeAny_call_function hr.depth (KX _ _ lk) rfl S.co S.gen rfl (PySem.W.codeRec_of KX hcd) (hb _ _ _ _ ?_)
  refine wpAny_newFunctionEnv_cells S.kind hkind fun env he s1 x => ?_
  subst he
  refine ⟨lim.keeps x.toInCall.keep, codeAny_func ?_⟩
  obtain ⟨t, ht, hq⟩ := hbody A outer s H vs Q E (hr.deeper _) hsp
  have I : Inv (cxOf CX P w K mg base N qual scope f cdv A outer s H E) [] (start N vs) H s1 := inv_start S hr.hd e0 hl r x
  refine wpAny_mono (ht [] s1 (start N vs) H _ I hq) (fun fl s' hs => ?_) fun e s' hs => hs
  have fin : ∀ {σ' : St} {H' : Hp} {v : V} {u : Value}, Inv (cxOf CX P w K mg base N qual scope f cdv A outer s H E) [] σ' H' s' → RelV v u → Q v H' → CE outer P w H s Q u s' :=
    fun {σ' H' v u} J rv q => ⟨v, H', J.os, J.bare, J.base, J.hok, rv, q⟩
  cases fl with
  | ret u =>
    obtain ⟨v, σ', H', J, rv, q⟩ := hs
    exact fin J rv q
  | next =>
    obtain ⟨σ', H', J, q⟩ := hs
    exact fin (v := V.non) (u := Value.none) J rfl q
  | brk =>
    obtain ⟨_, _, _, q⟩ := hs
    exact False.elim q
  | cont =>
    obtain ⟨_, _, _, q⟩ := hs
    exact False.elim q
end L2

namespace L2
open PySem PySem.Spec PyProof.Rows
section
variable {X : Cx} {x : Str} {p pos : Pos} {e : Expr} {es : List Expr} {t : TA} {id T : String} {r : List V → Hp → VK → Prop}

def tCB (r : List V → Hp → VK → Prop) (t : TA) : TE := fun σ H Q => t σ H fun vs H1 => r vs H1 Q
/-- f(e, ..), f a built-in function -/
theorem pe_callB (hc : CallR X (.builtin id) r) (hg : Gl X x) (hm : X.mg x = none) (hv : bootBuiltins x = some (.builtin id)) (ha : PA X (e :: es) t) (hn : x ≠ "__name__" := by decide) (hdb : (x == ("__debug__" : Str)) = false := by decide)
    (he : starEach (e :: es) X.env = (false, eval e X.env) :: starEach es X.env := by rfl) (hpl : (backTo pos (starEach es X.env)).any (·.1) = false := by rfl) : PE X (.Call (.Name x p) (e :: es) [] pos) (tCB r t) := by
  intro pins s σ H Q I h
  refine wpAny_Call_Name_kw (ld_blt I hg hm hv ?_ hn hdb)
  exact PyProof.Rows.callWith_builtin1 (thn (ha pos pins s σ H _ I h) fun us s1 ⟨vs, H1, I1, r1, q1⟩ => hc pins s1 σ H1 vs us Q I1 r1 q1) he hpl
/-- T(e, ..), T a built-in type -/
theorem pe_callTy (hc : CallR X (.type T) r) (hg : Gl X x) (hm : X.mg x = none) (hv : bootBuiltins x = some (.type T)) (ha : PA X (e :: es) t) (hn : x ≠ "__name__" := by decide) (hdb : (x == ("__debug__" : Str)) = false := by decide)
    (he : starEach (e :: es) X.env = (false, eval e X.env) :: starEach es X.env := by rfl) (hpl : (backTo pos (starEach es X.env)).any (·.1) = false := by rfl) : PE X (.Call (.Name x p) (e :: es) [] pos) (tCB r t) := by
  intro pins s σ H Q I h
  refine wpAny_Call_Name_kw (ld_blt I hg hm hv ?_ hn hdb)
  exact PyProof.Rows.callWith_type1 (thn (ha pos pins s σ H _ I h) fun us s1 ⟨vs, H1, I1, r1, q1⟩ => hc pins s1 σ H1 vs us Q I1 r1 q1) he hpl
end
end L2

namespace HT
open PySem PyProof.Rows



section
open PySem.SeqAt
open PySem.AutoSeq1 (wpAny_loadPart')
open PySem.MeetsSeq PySem.MeetsSeq2 PySem.MeetsSeq3

end

section
variable {prog : Program} {w : World} {A : Around} {E : Value → Shared → Prop} {s : Shared}



/-! ### t[a:b], not the whole -/
/-- a slice's bound as a place among n (d where it is left out) -/
def sIx (n d : Nat) : Option Int → Nat
  | none => d
  | some v => if v < 0 then (v + (n : Int)).toNat else min v.toNat n

end
end HT

namespace L2
open PySem PySem.Spec PyProof.Rows

/-! ### the parts of a slice -/
abbrev TO := St → Hp → (Option Int → Hp → Prop) → Prop
/-- a slice's part (left out, or an int) -/
def PO (X : Cx) (e : Option Expr) (t : TO) : Prop :=
  ∀ (pins : List (Addr × Obj)) (s : Shared) (σ : St) (H : Hp) (Q : Option Int → Hp → Prop), Inv X pins σ H s → t σ H Q →
    wpAny (model X.prog X.w) X.A (evalPart e X.env) (fun u s' => ∃ o H', Inv X pins σ H' s' ∧ IsPart u o ∧ Q o H') X.xe s
def tPart (t : TE) : TO := fun σ H Q => t σ H fun x H1 => ∃ i, x = .int i ∧ Q (some i) H1


section
variable {X : Cx} {e : Expr} {te : TE} {lo hi : Option Expr} {tl th : TO} {pos p2 : Pos}

theorem po_some (h : PE X e te) : PO X (some e) (tPart te) := by
  intro pins s σ H Q I hw
  rw [evalPart_some]
  refine thn (h pins s σ H _ I hw) fun u s1 ⟨x, H1, I1, r1, q1⟩ => ?_
  obtain ⟨i, rfl, q⟩ := q1
  obtain ⟨t, rfl⟩ := r1
  exact ⟨some i, H1, I1, .int i t, q⟩

/-- what a slice of a value is, by values: the slice object stands at sl -/
def SlR (X : Cx) (r : V → Option Int → Option Int → Hp → VK → Prop) : Prop :=
  ∀ (pins : List (Addr × Obj)) (s : Shared) (σ : St) (H : Hp) (x : V) (v vl vu : Value) (lo hi : Option Int) (sl : Addr) (Q : VK), Inv X pins σ H s → RelV x v → s.heap.IsSliceOf sl vl vu .none → IsPart vl lo → IsPart vu hi → r x lo hi H Q →
    ∃ T id, typeLookup (.type T) "__getitem__" = pure (some (.builtin id)) ∧ s.TypeIs v T ∧ wpAny (model X.prog X.w) X.A (getItem v (.ref sl)) (EP X pins σ Q) X.xe s

/-- the items of xs[lo:hi] -/
def cutV (xs : List V) (lo hi : Option Int) : List V := (xs.drop (HT.sIx xs.length 0 lo)).take (HT.sIx xs.length xs.length hi - HT.sIx xs.length 0 lo)
theorem cutV_length (xs : List V) (lo hi : Option Int) : (cutV xs lo hi).length ≤ xs.length := by
  unfold cutV
  rw [List.length_take, List.length_drop]
  omega

/-! ### t < u, t + u -/
end
end L2

namespace L2
open PySem PySem.Spec PyProof.Rows

/-! ### places -/
/-- the place that an index of any sign means -/
def ixN (n : Nat) (i : Int) : Option Nat := if 0 ≤ i then (if i < n then some i.toNat else none) else if -(n : Int) ≤ i then some (i + n).toNat else none
def atI {α : Type} (xs : List α) (i : Int) : Option α := (ixN xs.length i).bind fun j => xs[j]?
theorem ixN_seq {n : Nat} {i : Int} {j : Nat} (h : ixN n i = some j) : seqIndex? i n = some j ∧ j < n ∧ -(n : Int) ≤ i ∧ i < n := by
  unfold ixN at h
  by_cases h0 : 0 ≤ i
  · rw [if_pos h0] at h
    by_cases h1 : i < n
    · rw [if_pos h1] at h
      have e : i.toNat = j := Option.some.inj h
      exact ⟨by rw [seqIndex_of h0 h1, e], by omega, by omega, h1⟩
    · rw [if_neg h1] at h; cases h
  · rw [if_neg h0] at h
    by_cases h1 : -(n : Int) ≤ i
    · rw [if_pos h1] at h
      have e : (i + n).toNat = j := Option.some.inj h
      exact ⟨by rw [seqIndex_neg (by omega) h1, e], by omega, h1, by omega⟩
    · rw [if_neg h1] at h; cases h
theorem atI_get {α : Type} {xs : List α} {i : Int} {v : α} (h : atI xs i = some v) : ∃ j, seqIndex? i xs.length = some j ∧ xs[j]? = some v ∧ j < xs.length ∧ -(xs.length : Int) ≤ i ∧ i < xs.length := by
  unfold atI at h
  cases e : ixN xs.length i with
  | none => rw [e] at h; cases h
  | some j =>
    rw [e] at h
    obtain ⟨h1, h2, h3, h4⟩ := ixN_seq e
    exact ⟨j, h1, h, h2, h3, h4⟩
theorem atI_nat {α : Type} {xs : List α} {j : Nat} {v : α} (h : xs[j]? = some v) : atI xs (j : Int) = some v := by
  have hj : j < xs.length := (List.getElem?_eq_some_iff.mp h).1
  have e : ixN xs.length (j : Int) = some j := by
    unfold ixN
    rw [if_pos (by omega), if_pos (by omega)]; simp
  unfold atI; rw [e]; exact h

/-! ### what may be subscripted -/
/-- what stands as an index of a plain subscript -/
def PlainIx (b : Expr) : Prop := ∀ o i, subscripted b false o i = operate [o, i] (getItem o i)
/-- a subscript by values -/
def IxR (X : Cx) (r : R2) : Prop :=
  ∀ (value slice : Expr) (pins : List (Addr × Obj)) (s : Shared) (σ : St) (H : Hp) (x y : V) (v u : Value) (Q : VK), Inv X pins σ H s → RelV x v → RelV y u → r x y H Q →
    subscripted slice false v u = operate [v, u] (getItem v u) → wpAny (model X.prog X.w) X.A (subscriptTail value slice v u) (EP X pins σ Q) X.xe s
/-- a call of a builtin's method by values: the receiver, the arguments -/
def MtR (X : Cx) (id : String) (r : V → List V → Hp → VK → Prop) : Prop :=
  ∀ (pins : List (Addr × Obj)) (s : Shared) (σ : St) (H : Hp) (x : V) (xs : List V) (v : Value) (us : List Value) (Q : VK), Inv X pins σ H s → RelV x v → Vals xs us → r x xs H Q →
    wpAny (model X.prog X.w) X.A (call (.builtin id) (v :: us)) (EP X pins σ Q) X.xe s
section
variable {X : Cx} {a b : Expr} {ta tb : TE} {pos : Pos}
/-- a[b] -/
theorem pe_ix {r : R2} (hr : IxR X r) (ha : PE X a ta) (hb : PE X b tb) (hs : PlainIx b) : PE X (.Subscript a b pos) (tOp r ta tb) := by
  intro pins s σ H Q I h
  exact Subscript_ (binT ha hb I h fun v u s2 x y H2 I2 rx ry q => hr a b pins s2 σ H2 x y v u Q I2 rx ry q (hs _ _))

def rIxL (K : PySem.W.Frag) : R2 := fun x y H Q => ∃ p xs i v, x = .ref p ∧ y = .int i ∧ SqL K H p xs ∧ atI xs i = some v ∧ Q v H
def rIxT (K : PySem.W.Frag) : R2 := fun x y H Q => ∃ p xs i v, x = .ref p ∧ y = .int i ∧ SqT K H p xs ∧ atI xs i = some v ∧ Q v H
theorem ix_list : IxR X (rIxL X.K) := by
  intro value slice pins s σ H x y v u Q I rx ry h hs
  obtain ⟨p, xs, i, z, rfl, rfl, hq, he, q⟩ := h
  cases rx
  obtain ⟨t, rfl⟩ := ry
  obtain ⟨its, r, pl, hz⟩ := I.list hq
  obtain ⟨j, h1, h2, h3, h4, h5⟩ := atI_get he
  obtain ⟨w, ew, rw'⟩ := r.get h2
  have hl := r.length
  have hn := line63
  have fin : EP X pins σ Q w s := ⟨z, H, I, rw', q⟩
  by_cases h0 : 0 ≤ i
  · have hj : i.toNat = j := by
      rw [seqIndex_of h0 h5] at h1
      exact Option.some.inj h1
    exact item_listR pl.isList h0 (by omega) (by rw [hj]; simpa using ew) fin hs
  · have hj : (i + (its.toArray.size : Int)).toNat = j := by
      rw [seqIndex_neg (by omega) h4] at h1
      rw [List.size_toArray, ← hl]
      exact Option.some.inj h1
    exact subscriptTail_builtinR (x := w) pl.isList.typeIs slot_list_getitem.lookup
      (wpAny_getItem_list_neg (Q := fun r s' => r = w ∧ EP X pins σ Q r s') pl.isList (by omega) (by rw [List.size_toArray] <;> omega) (by omega) (by rw [hj]; simpa using ew) ⟨rfl, fin⟩) hs
theorem ix_tup : IxR X (rIxT X.K) := by
  intro value slice pins s σ H x y v u Q I rx ry h hs
  obtain ⟨p, xs, i, z, rfl, rfl, hq, he, q⟩ := h
  cases rx
  obtain ⟨t, rfl⟩ := ry
  obtain ⟨its, r, pl, hz⟩ := I.tuple hq
  obtain ⟨j, h1, h2, h3, h4, h5⟩ := atI_get he
  obtain ⟨w, ew, rw'⟩ := r.get h2
  have hl := r.length
  have hn := line63
  have fin : EP X pins σ Q w s := ⟨z, H, I, rw', q⟩
  exact subscriptTail_builtinR (x := w) pl.typeIs slot_tuple_getitem.lookup
    (getItem_tuple (j := j) (Q := fun r s' => r = w ∧ EP X pins σ Q r s') pl (by omega) (by omega) (by rw [List.size_toArray, ← hl]; exact h1) (by simpa using ew) ⟨rfl, fin⟩) hs

/-! ### xs[i] = v, any sign -/
/-- the list's object behind a store -/
theorem mapSeq_set (its : List Value) (n j : Nat) (u : Value) : Obj.mapSeq (·.setIfInBounds j u) { cls := .type "list", data := .seq its.toArray n } = { cls := .type "list", data := .seq (its.set j u).toArray n } := by
  simp [Obj.mapSeq]
theorem Inv.lst {pins : List (Addr × Obj)} {σ : St} {H : Hp} {s : Shared} {p : Addr} {xs : List V} (I : Inv X pins σ H s) (h : H p = some (.lst xs)) :
    ∃ (its : List Value) (n : Nat), Vals xs its ∧ s.heap.get? p = some { cls := .type "list", data := .seq its.toArray n } ∧ xs.length ≤ sizeLine := by
  obtain ⟨z, its, n, r, e⟩ := I.hok p _ h
  exact ⟨its, n, r, e, z⟩
/-- the list at p is written by an update of its object -/
theorem Inv.lstUpd {pins : List (Addr × Obj)} {σ : St} {H : Hp} {s : Shared} {p : Addr} {xs ys : List V} {its its' : List Value} {n n' : Nat} {f : Obj → Obj} (I : Inv X pins σ H s) (h : H p = some (.lst xs))
    (ho : s.heap.get? p = some { cls := .type "list", data := .seq its.toArray n }) (hf : f { cls := .type "list", data := .seq its.toArray n } = { cls := .type "list", data := .seq its'.toArray n' }) (r : Vals ys its') (hz : ys.length ≤ sizeLine) (t : Nat) :
    Inv X pins σ (upd H p (.lst ys)) { s with heap := s.heap.update p f, toks := t } := by
  have e : (s.heap.update p f).get? p = some { cls := .type "list", data := .seq its'.toArray n' } := by
    rw [Heap.get?_update_self f ho (by rw [hf] <;> rfl), hf]
  refine I.write (x := p) (e := p) (by rw [h]; trivial) (.inl rfl) (fun b u hb q => (Heap.get?_update_other _ _ (Ne.symm hb)).trans q) ⟨_, e⟩ ?_
  exact ⟨hz, its', n', r, e⟩
def rSetL : V → V → V → Hp → (Hp → Prop) → Prop := fun o i v H Q => ∃ p xs k j, o = .ref p ∧ i = .int k ∧ H p = some (.lst xs) ∧ ixN xs.length k = some j ∧ Q (upd H p (.lst (xs.set j v)))
theorem set_list : PSet X rSetL := by
  intro pins s σ H o i v ov iv u Q I ro ri rv h
  obtain ⟨p, xs, k, j, rfl, rfl, hp, hj, q⟩ := h
  cases ro
  obtain ⟨t, rfl⟩ := ri
  obtain ⟨its, n, r, ho, hz⟩ := I.lst hp
  obtain ⟨h1, h2, h3, h4⟩ := ixN_seq hj
  have hl := r.length
  have hn := line63
  have I' : Inv X pins σ (upd H p (.lst (xs.set j v))) { s with heap := s.heap.update p (Obj.mapSeq (·.setIfInBounds j u)) } :=
    I.lstUpd hp ho (mapSeq_set its n j u) (r.set rv j) (by rw [List.length_set]; exact hz) s.toks
  by_cases h0 : 0 ≤ k
  · have hk : k.toNat = j := by
      rw [seqIndex_of h0 h4] at h1
      exact Option.some.inj h1
    exact PySem.W.ki_setAt ho h0 (by omega) (by rw [List.size_toArray, ← hl]; exact h4) (by rw [hk]; exact ⟨_, I', q⟩)
  · have hk : (k + (its.toArray.size : Int)).toNat = j := by
      rw [seqIndex_neg (by omega) h3] at h1
      rw [List.size_toArray, ← hl]
      exact Option.some.inj h1
    exact PySem.W.ki_setBack ho (by omega) (by rw [List.size_toArray, ← hl]; exact h3) (by omega) (by rw [hk]; exact ⟨_, I', q⟩)

/-! ### slices -/
theorem slice_bounds (lo hi : Option Int) (n : Nat) : (sliceBounds lo hi none n).1 = ((HT.sIx n 0 lo : Nat) : Int) ∧ (sliceBounds lo hi none n).2.1 = ((HT.sIx n n hi : Nat) : Int) ∧ (sliceBounds lo hi none n).2.2 = 1 := by
  refine ⟨?_, ?_, rfl⟩
  · cases lo with
    | none => simp [sliceBounds, HT.sIx]
    | some i =>
      simp only [sliceBounds, HT.sIx, Option.getD_none, show (1 : Int) > 0 by decide, if_true]
      by_cases h : i < 0
      · simp only [h, if_true] <;> omega
      · simp only [h, if_false] <;> omega
  · cases hi with
    | none => simp [sliceBounds, HT.sIx]
    | some i =>
      simp only [sliceBounds, HT.sIx, Option.getD_none, show (1 : Int) > 0 by decide, if_true]
      by_cases h : i < 0
      · simp only [h, if_true] <;> omega
      · simp only [h, if_false] <;> omega
theorem slicePick_cut (its : List Value) (lo hi : Option Int) : slicePick its.toArray lo hi none = ((its.drop (HT.sIx its.length 0 lo)).take (HT.sIx its.length its.length hi - HT.sIx its.length 0 lo)).toArray := by
  obtain ⟨h1, h2, h3⟩ := slice_bounds lo hi its.toArray.size
  unfold slicePick
  rw [h1, h2, h3]
  simp only [sliceRange_one, pick_run, List.size_toArray] <;> rfl
/-- xs[lo:hi] of a list: a new list -/
def rSlL (K : PySem.W.Frag) : V → Option Int → Option Int → Hp → VK → Prop := fun x lo hi H Q => ∃ a xs, x = .ref a ∧ SqL K H a xs ∧ ∀ p, H p = none → Q (.ref p) (upd H p (.lst (cutV xs lo hi)))
theorem sl_list : SlR X (rSlL X.K) := by
  intro pins s σ H x v vl vu lo hi sl Q I rx hs pl pu h
  obtain ⟨a, xs, rfl, hx, q⟩ := h
  cases rx
  obtain ⟨its, r, ht, hz⟩ := I.list hx
  have hlen := r.length
  refine ⟨"list", _, slot_list_getitem.lookup, ht.isList.typeIs, ?_⟩
  refine wpAny_getItem_list_slice ht.isList hs pl pu .none (by simp) ?_ (by rw [List.size_toArray] <;> omega)
  rw [slicePick_cut, ← hlen]
  refine ⟨.ref s.heap.objs.size, _, I.laid (t' := s.toks) (o := .lst (cutV xs lo hi)) (fun b ob q => Heap.get?_push_of_some _ q) (Nat.le_refl _) ?_, rfl, q _ (I.hok.fresh (Nat.le_refl _))⟩
  exact ⟨Nat.le_trans (cutV_length xs lo hi) hz, _, 0, (r.drop (HT.sIx xs.length 0 lo)).take (HT.sIx xs.length xs.length hi - HT.sIx xs.length 0 lo), Heap.get?_push_size _ rfl⟩

/-! ### in, not in: flat items -/

/-! ### len, list(x), tuple(x) of any list or tuple that is read -/
theorem call_len_seq : CallR X (.builtin "len") (fun xs H Q => ∃ p ys, xs = [.ref p] ∧ (SqL X.K H p ys ∨ SqT X.K H p ys) ∧ Q (.int ys.length) H) := by
  intro pins s σ H xs us Q I r h
  obtain ⟨p, ys, rfl, hq, q⟩ := h
  obtain ⟨u, rfl, rx⟩ := vals1 r
  cases rx
  have hn := line63
  rcases hq with hq | hq
  · obtain ⟨its, r', pl, hz⟩ := I.list hq
    have hlen := r'.length
    exact Calls.call_len_list pl.isList (by simp only [List.size_toArray] <;> omega) ⟨.int ys.length, H, I.tok _, ⟨s.toks + 1, by rw [List.size_toArray, hlen]⟩, q⟩
  · obtain ⟨its, r', pl, hz⟩ := I.tuple hq
    have hlen := r'.length
    exact len_tuple pl (by simp only [List.size_toArray] <;> omega) ⟨.int ys.length, H, I.tok _, ⟨s.toks + 1, by rw [List.size_toArray, hlen]⟩, q⟩
theorem call_list_of : CallR X (.type "list") (fun xs H Q => ∃ p ys, xs = [.ref p] ∧ (SqL X.K H p ys ∨ SqT X.K H p ys) ∧ ∀ l, H l = none → Q (.ref l) (upd H l (.lst ys))) := by
  intro pins s σ H xs us Q I r h
  obtain ⟨p, ys, rfl, hq, q⟩ := h
  obtain ⟨u, rfl, rx⟩ := vals1 r
  cases rx
  have fin : ∀ (its : List Value), Vals ys its → ys.length ≤ sizeLine → ∀ (h' : Heap) (c' : Nat), (∀ b o', s.heap.get? b = some o' → h'.get? b = some o') →
      h'.get? s.heap.objs.size = some { cls := .type "list", dict := none, data := .seq its.toArray c', slots := #[] } → EP X pins σ Q (.ref s.heap.objs.size) { s with heap := h' } := fun its r' hz h' c' kp e =>
    ⟨.ref s.heap.objs.size, _, I.laid (t' := s.toks) kp (Nat.le_refl _) (show ObjOk X.prog X.w _ h' _ (.lst ys) from ⟨hz, its, c', r', e⟩), rfl, q _ (I.hok.fresh (Nat.le_refl _))⟩
  rcases hq with hq | hq
  · obtain ⟨its, r', pl, hz⟩ := I.list hq
    have hlen := r'.length
    obtain ⟨o, ho, hc, n, hd⟩ := pl.isList
    exact call_list_seq p (.inl rfl) ho hc hd (fun h' c' kp e => fin its r' hz h' c' kp e) (by simp only [List.size_toArray] <;> omega)
  · obtain ⟨its, r', pl, hz⟩ := I.tuple hq
    have hlen := r'.length
    obtain ⟨o, ho, hc, n, hd⟩ := pl
    exact call_list_seq p (.inr rfl) ho hc hd (fun h' c' kp e => fin its r' hz h' c' kp e) (by simp only [List.size_toArray] <;> omega)

/-! ### the call of a builtin's method: o.m(..) -/
/-- the value is of that builtin type -/
def tyV (K : PySem.W.Frag) (T : String) (x : V) (H : Hp) : Prop := match x with
  | .str _ => T = "str"
  | .int _ => T = "int"
  | .ref p => (T = "list" ∧ ∃ xs, SqL K H p xs) ∨ (T = "tuple" ∧ ∃ o, K.lookup p = some o ∧ o.cls = .type "tuple" ∧ o.dict = none) ∨
      (T = "dict" ∧ ((∃ kvs, H p = some (.dK kvs)) ∨ ∃ kvs, H p = some (.dT kvs))) ∨ (T = "set" ∧ ∃ S n, H p = some (.set S n))
  | _ => False
theorem tyV_is {pins : List (Addr × Obj)} {σ : St} {H : Hp} {s : Shared} {T : String} {x : V} {v : Value} (I : Inv X pins σ H s) (r : RelV x v) (ty : tyV X.K T x H) :
    s.TypeIs v T ∧ ∀ a, v = .ref a → ∃ ob, s.heap.get? a = some ob ∧ ob.dict = none := by
  cases x with
  | str z =>
    obtain ⟨t, rfl⟩ := r
    cases (show T = "str" from ty)
    exact ⟨typeIs_str s z t, fun _ e => nomatch e⟩
  | int i =>
    obtain ⟨t, rfl⟩ := r
    cases (show T = "int" from ty)
    exact ⟨typeIs_int s i t, fun _ e => nomatch e⟩
  | ref p =>
    cases r
    rcases ty with ⟨rfl, xs, hq⟩ | ⟨rfl, o, hk, hc, hd⟩ | ⟨rfl, hk⟩ | ⟨rfl, S, n, hk⟩
    · obtain ⟨its, _, pl, _⟩ := I.list hq
      refine ⟨pl.isList.typeIs, fun a e => ?_⟩
      cases e
      obtain ⟨o, n, e, c, hd, _⟩ := pl
      exact ⟨o, e, hd⟩
    · refine ⟨⟨o, I.kIn p o hk, hc⟩, fun a e => ?_⟩
      cases e
      exact ⟨o, I.kIn _ o hk, hd⟩
    · have z : ∃ o, s.heap.get? p = some o ∧ o.ExactDict := by
        rcases hk with ⟨kvs, hk⟩ | ⟨kvs, hk⟩
        · obtain ⟨_, _, _, _, o, _, _, e, ex, _⟩ := I.hok p _ hk
          exact ⟨o, e, ex⟩
        · obtain ⟨_, _, _, _, o, _, _, e, ex, _⟩ := I.hok p _ hk
          exact ⟨o, e, ex⟩
      obtain ⟨o, e, ex⟩ := z
      refine ⟨⟨o, e, ex.1⟩, fun a e2 => ?_⟩
      cases e2
      exact ⟨o, e, ex.2.1⟩
    · obtain ⟨o, _, _, _, e, ex, _⟩ := I.hok p _ hk
      refine ⟨⟨o, e, ex.1⟩, fun a e2 => ?_⟩
      cases e2
      exact ⟨o, e, ex.2.1⟩
  | _ => exact False.elim ty
def tBM0 (K : PySem.W.Frag) (T : String) (r : V → List V → Hp → VK → Prop) (to : TE) : TE := fun σ H Q => to σ H fun x H1 => tyV K T x H1 ∧ r x [] H1 Q
def tBM (K : PySem.W.Frag) (T : String) (r : V → List V → Hp → VK → Prop) (to : TE) (t : TA) : TE := fun σ H Q => to σ H fun x H1 => tyV K T x H1 ∧ t σ H1 fun xs H2 => r x xs H2 Q
variable {o e : Expr} {es : List Expr} {to : TE} {t : TA} {name : Str} {apos cpos : Pos} {T id : String} {r : V → List V → Hp → VK → Prop}
theorem pe_bm0 (pa : PlainAttrs T) (slot : Slot T name id) (hty : typeOf (.builtin id) = pure (.type "method_descriptor")) (hm : MtR X id r) (ho : PE X o to)
    (hbase : attributeBase o name X.env (eval o X.env) = eval o X.env := by rfl) (hline : (apos.endLine == cpos.line) = true := by rfl) : PE X (.Call (.Attribute o name apos) [] [] cpos) (tBM0 X.K T r to) := by
  intro pins s σ H Q I h
  refine wpAny_Call_method0_late hbase hline (thn (ho pins s σ H _ I h) fun v s1 ⟨x, H1, I1, r1, ty, q1⟩ => ?_)
  obtain ⟨h1, h2⟩ := tyV_is I1 r1 ty
  exact ⟨T, id, pa, slot, hty, h1, h2, Calls.callWith_builtin rfl (PySem.evalArgs_none (hm pins s1 σ H1 x [] v [] Q I1 r1 .nil q1))⟩
theorem pe_bm (pa : PlainAttrs T) (slot : Slot T name id) (hty : typeOf (.builtin id) = pure (.type "method_descriptor")) (hm : MtR X id r) (ho : PE X o to) (ha : PA X (e :: es) t)
    (hbase : attributeBase o name X.env (eval o X.env) = eval o X.env := by rfl)
    (hfew : ((backTo cpos (starEach (e :: es) X.env)).all (fun x => !x.1) && (backToKw cpos (keywordEach [] X.env)).all (fun x => x.1.isSome)
      && decide ((e :: es).length + ([] : List Keyword).length + (if ([] : List Keyword).isEmpty then 0 else 1) < 30)) = true := by rfl)
    (hline : (apos.endLine == cpos.line) = true := by rfl) (hs : starEach (e :: es) X.env = (false, eval e X.env) :: starEach es X.env := by rfl) (hplain : (backTo cpos (starEach es X.env)).any (·.1) = false := by rfl) :
    PE X (.Call (.Attribute o name apos) (e :: es) [] cpos) (tBM X.K T r to t) := by
  intro pins s σ H Q I h
  refine wpAny_Call_method_late hbase hfew hline rfl (thn (ho pins s σ H _ I h) fun v s1 ⟨x, H1, I1, r1, ty, q1⟩ => ?_)
  obtain ⟨h1, h2⟩ := tyV_is I1 r1 ty
  refine ⟨T, id, pa, slot, hty, h1, h2, ?_⟩
  have hA := ha cpos pins s1 σ H1 _ I1 q1
  rw [hs] at hA ⊢
  refine Calls.callWith_builtin (by show (false || (backTo cpos (starEach es X.env)).any (·.1)) = false; rw [hplain] <;> rfl) (Calls.evalArgs_plain ?_)
  exact thn hA fun us s2 ⟨vs, H2, I2, r2, q2⟩ => hm pins s2 σ H2 x vs v us Q I2 r1 r2 q2
/- xs.append(e), list.index on a module's tuple .. are MtR facts of 06m -/
end
end L2

namespace L2
open PySem PySem.Spec PyProof.Rows

def MtM (X : Cx) (id : String) (r : V → List V → Hp → VK → Prop) : Prop :=
  ∀ (pins : List (Addr × Obj)) (s : Shared) (σ : St) (H : Hp) (x : V) (xs : List V) (v : Value) (us : List Value) (Q : VK), Inv X pins σ H s → RelV x v → Vals xs us → r x xs H Q →
    wpAny (model X.prog X.w) X.A (call (.builtin id) (v :: us)) (EP X pins σ Q) X.xe s

/-! ### lists of values -/
theorem Vals.one : ∀ {x : V} {us : List Value}, Vals [x] us → ∃ u, us = [u] ∧ RelV x u
  | _, _, .cons r .nil => ⟨_, rfl, r⟩
theorem Vals.two : ∀ {x y : V} {us : List Value}, Vals [x, y] us → ∃ u v, us = [u, v] ∧ RelV x u ∧ RelV y v
  | _, _, _, .cons r (.cons q .nil) => ⟨_, _, rfl, r, q⟩
theorem Vals.zero : ∀ {us : List Value}, Vals [] us → us = []
  | _, .nil => rfl
theorem Vals.dropLast {xs : List V} {us : List Value} (h : Vals xs us) : Vals xs.dropLast us.dropLast := by
  induction h with
  | nil => exact .nil
  | cons r t ih =>
    cases t with
    | nil => exact .nil
    | cons q t' => exact .cons r ih
theorem erase_last {α : Type} (l : List α) : l.eraseIdx (l.length - 1) = l.dropLast := by
  induction l with
  | nil => rfl
  | cons a r ih =>
    cases r with
    | nil => rfl
    | cons b r =>
      have e : (a :: b :: r).length - 1 = ((b :: r).length - 1) + 1 := by
        have h1 : (a :: b :: r).length = r.length + 2 := rfl
        have h2 : (b :: r).length = r.length + 1 := rfl
        omega
      rw [e, List.eraseIdx_cons_succ, ih]
      all_goals rfl

section
variable {X : Cx} {pins : List (Addr × Obj)} {σ : St} {H : Hp} {s : Shared} {l b : Addr} {xs ys zs : List V}

/-! ### the two steps: a tracked list is rewritten, a new list is laid -/
theorem Inv.lset {its its' : List Value} {n : Nat} {f : Array Value → Array Value} {t' : Nat} (I : Inv X pins σ H s) (hH : H l = some (.lst xs))
    (e : s.heap.get? l = some { cls := .type "list", data := .seq its.toArray n }) (hf : f its.toArray = its'.toArray) (hv : Vals ys its') (hz : ys.length ≤ sizeLine) :
    Inv X pins σ (upd H l (.lst ys)) { s with heap := s.heap.update l (Obj.mapSeq f), toks := t' } := by
  have q := PySem.IsL.update e f
  rw [hf] at q
  refine I.write (x := l) (e := l) (by rw [hH]; exact trivial) (.inl rfl) (fun b' u hb hu => (Heap.get?_update_other s.heap (Obj.mapSeq f) (Ne.symm hb)).trans hu) ⟨_, q⟩ ?_
  exact ⟨hz, its', _, hv, q⟩
theorem Inv.lnew {its : List Value} {t' : Nat} (I : Inv X pins σ H s) (hv : Vals ys its) (hz : ys.length ≤ sizeLine) :
    Inv X pins σ (upd H s.heap.objs.size (.lst ys)) { s with heap := s.heap.push { cls := .type "list", data := .seq its.toArray }, toks := t' } :=
  I.laid (fun _ _ q => Heap.get?_push_of_some _ q) (Nat.le_refl _) ⟨hz, its, 0, hv, Heap.get?_push_size _ rfl⟩
theorem Inv.lstM (I : Inv X pins σ H s) (hH : H l = some (.lst xs)) : xs.length ≤ sizeLine ∧ ∃ (its : List Value) (n : Nat), Vals xs its ∧ xs.length = its.length ∧ s.heap.get? l = some { cls := .type "list", data := .seq its.toArray n } := by
  obtain ⟨z, its, n, r, e⟩ := I.hok l _ hH
  exact ⟨z, its, n, r, r.length, e⟩

end

section
variable {X : Cx}

/-! ### methods -/
def rAppend : V → List V → Hp → VK → Prop := fun x vs H Q => ∃ l xs y, x = .ref l ∧ vs = [y] ∧ H l = some (.lst xs) ∧ xs.length < sizeLine ∧ Q .non (upd H l (.lst (xs ++ [y])))
theorem mt_append : MtM X "list.append" rAppend := by
  intro pins s σ H x vs v us Q I rx rv h
  obtain ⟨l, xs, y, rfl, rfl, hH, hz, q⟩ := h
  cases rx
  obtain ⟨u, rfl, ru⟩ := rv.one
  obtain ⟨z, its, n, r, hl, e⟩ := I.lstM hH
  refine call_meets F.slot_list_append ⟨_, e, rfl⟩ F.entry_list_append (F.args_list_append_2 _ _) (PySem.list_append l its.toArray n u (by rw [List.size_toArray]; omega)) ⟨e, ?_⟩
  refine ⟨.non, _, I.lset (its' := its ++ [u]) hH e (by simp) (r.append (.cons ru .nil)) ?_, rfl, q⟩
  rw [List.length_append, List.length_singleton]
  omega


def rPop : V → List V → Hp → VK → Prop := fun x vs H Q => ∃ l xs y, x = .ref l ∧ vs = [] ∧ H l = some (.lst xs) ∧ xs[xs.length - 1]? = some y ∧ Q y (upd H l (.lst xs.dropLast))
theorem mt_pop : MtM X "list.pop" rPop := by
  intro pins s σ H x vs v us Q I rx rv h
  obtain ⟨l, xs, y, rfl, rfl, hH, hy, q⟩ := h
  cases rx
  have hus := rv.zero
  subst hus
  obtain ⟨z, its, n, r, hl, e⟩ := I.lstM hH
  obtain ⟨u, hu, ru⟩ := r.get hy
  have hy' : its.toArray[its.toArray.size - 1]? = some u := by
    show its.toArray[its.length - 1]? = some u
    rw [← Array.getElem?_toList, ← hl]
    exact hu
  refine call_meets F.slot_list_pop ⟨_, e, rfl⟩ F.entry_list_pop (F.args_list_pop_1 _) (MeetsSeq.list_pop_last l its.toArray n u hy' (by rw [List.size_toArray]; omega)) ⟨e, ?_⟩
  refine ⟨y, _, I.lset (its' := its.dropLast) hH e ?_ r.dropLast ?_, ru, q⟩
  · show its.toArray.eraseIdxIfInBounds (its.toArray.size - 1) = its.dropLast.toArray
    rw [List.size_toArray, List.eraseIdxIfInBounds_toArray, erase_last]
  · rw [List.length_dropLast]
    omega




/-! ### list + list, list += list, list * int -/

/-! ### del xs[i] -/
end

/-! ### xs[a:b] = ys -/
section
variable {prog : Program} {w : World} {A : Around} {E : Value → Shared → Prop} {s : Shared}
end

section
variable {X : Cx}
end
end L2

namespace Att
open PySem PySem.W PySem.Calls PyProof.Rows

/-! ### the script -/
theorem ints_of_wellAll {P : Params} {h : Heap} : ∀ (ns : List Int) (vs : List Value), WellAll P h vs (ns.map WData.int) → IntsAre vs ns := by
  intro ns
  induction ns with
  | nil =>
    intro vs w
    rw [List.map_nil] at w
    cases w
    exact .nil
  | cons n ns ih =>
    intro vs w
    rw [List.map_cons] at w
    cases w with
    | cons a b =>
      cases a
      exact .cons _ _ (ih _ b)

theorem script_of {l : OpenLaw} {n : Nat} (hn : l.most = some n) {P : Params} {h : Heap} {args : List WData} {vals : List Value}
    (hpre : l.row.toRowW.claim.pre args = true) (hwl : WellAll P h vals args) :
    ∃ a vs ns, vals = [Value.ref a] ∧ args = [WData.list (ns.map WData.int)] ∧ h.get? a = some { cls := .type "list", data := .seq vs.toArray } ∧ IntsAre vs ns ∧ ns.length ≤ n := by
  have hsh : WShape.hasAll [] args [.list .int] = true := (pre_splitW hpre).1
  have hc : l.pre.holds [] { args := args } = true := (pre_splitW hpre).2
  obtain ⟨d, r, rfl, h1, h2⟩ := hasAllW_cons hsh
  obtain rfl := hasAllW_nil h2
  obtain ⟨xs, rfl, h3⟩ := hasW_list h1
  obtain ⟨ns, rfl⟩ := items_int h3
  have hlen : ns.length ≤ n := by
    unfold OpenLaw.pre at hc
    have h4 : (WTm.not (.lt (.lit (.int (n : Int))) (.len (.arg 0)))).holds [] { args := [.list (ns.map .int)] } = true := by
      have h4 := (holds_andW hc).1
      rw [hn] at h4
      exact h4
    have h5 := condW_of h4 (w_not (w_lt w_lit (w_len_list (w_arg rfl))))
    rw [List.length_map] at h5
    refine Nat.le_of_not_lt fun q => ?_
    have q' : (n : Int) < ((ns.length : Nat) : Int) := by omega
    first
      | (rw [decide_eq_true q'] at h5; exact absurd h5 (by decide))
      | (simp at h5; omega)
  cases hwl with
  | cons w1 w2 =>
    cases w2
    cases w1 with
    | list ho hall => exact ⟨_, _, ns, rfl, rfl, ho, ints_of_wellAll ns _ hall, hlen⟩

theorem post_true (l : OpenLaw) (args : List WData) : l.row.toRowW.claim.post args (.bool true) args = true :=
  postW_of (r := l.row.toRowW) (X := (true == true))
    (show WShape.has [] (.bool true) .bool = true by first | rfl | decide | simp [WShape.has, WShape.arms, WShape.armsAll])
    (show (WTm.eq .res (.lit (.bool true))).value [] { args := args, res := some (.bool true), after := args } = some (.bool (true == true)) from w_eq_bool (w_res rfl) w_lit) rfl

/-! ### the attachment: holds_open's last premise (the goal 'hc' behind k_head) from a wpAny of the law's body -/

/-- the same from a codeAny of the CALL (for a layer whose function contracts speak of calls) -/
theorem attach_call {l : OpenLaw} {n : Nat} {q : Program} {loose : List Str} {XP : (Str → Option Value) → Heap → Prop} {YP : World → Heap → Prop} {d : DefRec}
    (hn : l.most = some n) (hdf : d.params.defaults = [])
    (call : ∀ (w : World) (s₀ s₁ : Shared) (mg mb : Str → Option Value) (fa : Addr) (o : Obj) (pm cd doc : Value) (a : Addr) (vs : List Value) (ns : List Int),
      Ground q loose [] XP w s₀ mg mb s₁.heap → YP w s₁.heap →
      s₁.heap.get? fa = some o → o.data = .func (docDef d.name d.params d.body d.scope pm cd doc) → s₁.heap.CodeRec cd d.name → mg d.name = some (.ref fa) →
      s₁.heap.get? a = some { cls := .type "list", data := .seq vs.toArray } → IntsAre vs ns → ns.length ≤ n → s₁.gens = #[] →
      codeAny (model l.prog w) callerA (.call (.ref fa) ⟨[.ref a], []⟩) (fun r s' => r = .ok (.ret (.bool true)) ∧ OldK s₁.heap s'.heap ∧ s'.os = s₁.os ∧ AllBare s'.gens) s₁) :
    WalkO q loose XP YP l.row.toRowW d [] (fun f vs => PySem.call f vs) := by
  intro w s₀ s₁ mg mb G Y fa o pm cd doc dV kV ho hd hcd hD hmg hg args vals as hpre hlay hrd hwl hlo
  obtain rfl : dV = .none := Dflts.none hD hdf
  obtain rfl : kV = .none := Dflts.noKw hD
  obtain ⟨a, vs, ns, rfl, rfl, hobj, hints, hlen⟩ := script_of hn hpre hwl
  refine enter_call (codeAny_mono (call w s₀ s₁ mg mb fa o pm cd doc a vs ns G Y ho (fd_plain hd) hcd hmg hobj hints hlen hg) fun r s' hq => ?_)
  obtain ⟨rfl, h2, h3, h4⟩ := hq
  exact ⟨.inl ⟨.bool true, .bool true, [], rfl, fun _ => rfl, .bool true, post_true l _, fun _ => ⟨List.Pairwise.nil, fun _ hm => (nomatch hm)⟩⟩, h2, h3, h4⟩


/-! ### rules over ANY heap (no ledger) from facts about the written part K: the library's own take a ledger (News) for what they write -/
section
variable {prog : Program} {w : World} {A : Around} {E : Value → Shared → Prop} {s : Shared} {K : Frag}





/-! the whole heap as the ledger: makes every rule that writes through a ledger a rule over any heap -/

end
end Att

namespace L2
open PySem PySem.Spec PyProof.Rows

theorem vals_ints : ∀ {vs : List Value} {ns : List Int}, IntsAre vs ns → Vals (ns.map V.int) vs
  | _, _, .nil => .nil
  | _, _, .cons n t h => .cons ⟨t, rfl⟩ (vals_ints h)


end L2

namespace L2
open PySem PySem.Spec PyProof.Rows


end L2

/- THE LAST THEOREM (shape; LID, My.* are yours):
   My.Adr: a structure of the addresses that your layer names (classes, functions); My.Txt K t: a structure (Prop) of the equations over K;
   My.txt_mk : {K} {implicit addresses ..} (e1 : nsIn K mainGlobals "law" = some (some (.ref f))) (e2 : K.lookup f = some ⟨oc, od, .func (fnOf "law" "law" params body scope dV kV doc pm an cdv ct), sl⟩) (e3 : codeIn K cdv "law" = true) .. : ∃ t, My.Txt K t

set_option maxRecDepth 100000 in
set_option maxHeartbeats 0 in
theorem PySem.Challenge.cw_LID_holds : PySem.Challenge.rw_LID.Holds := by
  w_on; o_law; k_head; (case hw => w_witness2)
  k_fill
  refine L2.walk_of (l := PySem.Challenge.rw_LID) (n := 63) (k := 40) (x := "script") (CX := fun w => ..) (sp := fun _ => My.sp_law) rfl (by decide) rfl ⟨rfl, by decide, by decide⟩ (fun w h Y => PySem.W.kIn_of Y) ?F ?S ?C
  case F =>
    intro w mg fa h KX G hmg
    have T : ∃ t, My.Txt (L2.KOf KX) t := by
      dsimp only [L2.KOf]                          -- K must stand as «<heap const> w.params» for k_is
      refine' My.txt_mk ?e1 ?e2 ?e3 ..
      (case e1 => PySem.W.k_is)                    -- in the order: a name -> its address -> its object -> its parts
      (case e2 => PySem.W.k_is)
      ..
    obtain ⟨t, T⟩ := T
    have e0 := hmg.symm.trans (PySem.W.mg_of KX G T.law)
    cases e0                                       -- fa is the law's own address
    exact ⟨_, fun s u => .of_eq rfl, fun base kb nb => My.law_fn T kb nb⟩     -- if «.of_eq rfl» comes too early: refine' ⟨_, ?b, fun base kb nb => My.law_fn T kb nb⟩; exact fun s u => .of_eq rfl
  case S => exact fun w H a ns hl hO hS => ..
  case C => exact ..
(the tactic k_is has no namespace: write k_is) -/

/-! SHORT WORDS over the layer: a def of the text, its body, what a loop and a test want. -/
namespace L2
open PySem PySem.Spec PyProof.Rows

/-! ### the text by places -/
def defArgs (s : Stmt) : Arguments := match s with
  | .FunctionDef _ a _ _ _ _ _ _ _ _ => a
  | _ => { posonlyargs := [], args := [], vararg := none, kwonlyargs := [], kw_defaults := [], kwarg := none, defaults := [] }
def defBody (s : Stmt) : List Stmt := match s with
  | .FunctionDef _ _ b _ _ _ _ _ _ _ => b
  | _ => []
def defScope (s : Stmt) : Scope := match s with
  | .FunctionDef _ _ _ _ _ _ sc _ _ _ => sc
  | _ => { kind := .function, names := [], isGenerator := false, isCoroutine := false }

/-! ### no exception leaves a def -/
abbrev CX0 : CXT := fun _ _ _ _ _ _ => False
abbrev E0 : XK := fun _ _ _ => False
theorem pass0 {X : Cx} : Passes CX0 X E0 := fun _ _ _ _ _ _ _ h => h.elim

/-! ### a def (or method) of the text as it stands behind the top -/
structure Fun (K : PySem.W.Frag) (x qual : Str) (st : Stmt) (f : Addr) (fd : FuncData) : Prop where
  ex : ∃ (oc : Value) (od : Option Addr) (kV doc pm : Value) (an : Option Addr) (cdv ct : Value) (osl : Array (Option Value)),
    fd = PySem.W.fnOf x qual (defArgs st) (defBody st) (defScope st) .none kV doc pm an cdv ct ∧ K.lookup f = some ⟨oc, od, .func fd, osl⟩ ∧ PySem.W.codeIn K cdv qual = true
  kp : PySem.W.keepIn K (.ref f) = true
section
variable {P : Program} {w : World} {K : PySem.W.Frag} {mg : Str → Option Value} {base : Heap}
/-- THE RULE for a def: its body as a term of rules, and the reading of that term -/
theorem Fun.ok {x qual : Str} {st : Stmt} {f : Addr} {fd : FuncData} {N ps : List Str} {k : Nat} {sp : Sp} (F : Fun K x qual st f fd) (S : FnScope N ps (defScope st)) (len : ∀ vs H Q E, sp vs H Q E → vs.length = ps.length)
    (hbody : ∀ (cdv : Value) (A : Around) (outer : List Env) (s : Shared) (H : Hp) (vs : List V) (Q : VK) (E : XK), Room k (A.deeper (envOfC qual (defScope st) s.heap.objs.size f cdv)) → sp vs H Q E →
      ∃ t, PSs (cxOf CX0 P w K mg base N qual (defScope st) f cdv A outer s H E).nox (defBody st) t ∧ t { nx := fun _ H' => Q .non H', rt := Q } (start N vs) H) : FnOk P w K mg base CX0 (k + 1) f fd ps sp := by
  obtain ⟨oc, od, kV, doc, pm, an, cdv, ct, osl, rfl, lk, hcd⟩ := F.ex
  refine fn_of lk hcd S len fun A outer s H vs Q E hr hsp => ?_
  obtain ⟨t, h, q⟩ := hbody cdv A outer s H vs Q E hr hsp
  exact ⟨t, h.nox, q⟩
/-- how its arguments bind (no defaults): h is «fun _ _ _ _ _ _ us hl => match us, hl with | [_, _], _ => rfl», one _ a parameter -/
theorem Fun.binds {x qual : Str} {st : Stmt} {f : Addr} {fd : FuncData} {ps : List Str} (F : Fun K x qual st f fd)
    (h : ∀ (kV doc pm : Value) (an : Option Addr) (cdv ct : Value) (us : List Value), us.length = ps.length → bindArgs (PySem.W.fnOf x qual (defArgs st) (defBody st) (defScope st) .none kV doc pm an cdv ct) ⟨us, []⟩ = pure (ps.zip us)) : Binds K fd ps [] := by
  obtain ⟨oc, od, kV, doc, pm, an, cdv, ct, osl, rfl, lk, hcd⟩ := F.ex
  exact .all (h kV doc pm an cdv ct)
theorem fun_mk {x qual : Str} {st : Stmt} {f : Addr} {oc : Value} {od an : Option Addr} {osl : Array (Option Value)} {kV doc pm cdv ct : Value} (l : K.lookup f = some ⟨oc, od, .func (PySem.W.fnOf x qual (defArgs st) (defBody st) (defScope st) .none kV doc pm an cdv ct), osl⟩)
    (c : PySem.W.codeIn K cdv qual = true) (k : PySem.W.keepIn K (.ref f) = true) : Fun K x qual st f (PySem.W.fnOf x qual (defArgs st) (defBody st) (defScope st) .none kV doc pm an cdv ct) := ⟨⟨oc, od, kV, doc, pm, an, cdv, ct, osl, rfl, l, c⟩, k⟩
end

/-! ### expressions in short: the name that stands in the i-th slot -/
section
variable {X : Cx}
theorem pv (i : Nat) {x : Str} {pos : Pos} (hN : X.N[i]? = some x := by rfl) (hv : Vis X.env.scope x := by first | exact Or.inl rfl | exact Or.inr (Or.inl rfl) | exact Or.inr (Or.inr rfl)) (hd : (x == ("__debug__" : Str)) = false := by decide)
    (hcd : (x == ("__classdict__" : Str)) = false := by decide) : PE X (.Name x pos) (tVar i) := pe_var hN hv hd hcd
end

/-! ### tests -/
theorem iteF {A B : Prop} (h : B) : if false = true then A else B := by
  rw [if_neg Bool.false_ne_true]
  exact h
theorem iteT {A B : Prop} (h : A) : if true = true then A else B := by
  rw [if_pos rfl]
  exact h
theorem ite2 {c A B : Prop} [Decidable c] (h1 : c → A) (h2 : ¬ c → B) : if c then A else B := by
  by_cases h : c
  · rw [if_pos h]
    exact h1 h
  · rw [if_neg h]
    exact h2 h
theorem iteNS {c A B : Prop} [Decidable c] (hc : c) (h : B) : if (!decide c) = true then A else B := by
  rw [decide_eq_true hc]
  exact iteF h

/-! ### heaps -/
/-- all that was tracked is as it was -/
def Same (H H' : Hp) : Prop := ∀ b o, H b = some o → H' b = some o
theorem Same.trans {H H1 H2 : Hp} (a : Same H H1) (b : Same H1 H2) : Same H H2 := fun c o h => b c o (a c o h)
theorem Same.free {H H' : Hp} (e : Same H H') {l : Addr} (h : H' l = Option.none) : H l = Option.none := by
  cases q : H l with
  | none => rfl
  | some o =>
    rw [e l o q] at h
    cases h
theorem Same.seq {K : PySem.W.Frag} {H H' : Hp} {a : Addr} {xs : List V} (e : Same H H') (h : SqL K H a xs) : SqL K H' a xs := by
  rcases h with (h | ⟨o, h⟩) | h
  · exact .inl (.inl (e _ _ h))
  · exact .inl (.inr ⟨o, e _ _ h⟩)
  · exact .inr h

end L2

set_option Elab.async false
set_option linter.all false
set_option maxRecDepth 100000
set_option maxHeartbeats 4000000
/-! EXCEPTIONS over the layer: an own error class raised, passed on by defs, taken by a try. -/
namespace L2
open PySem PySem.Spec PyProof.Rows


/-- an exception at ea, of the own class at C, in flight: B, what stands apart from the frames and stays -/
structure Fly (P : Program) (w : World) (outer : List Env) (H : Hp) (s : Shared) (ea C t : Addr) (B : Heap) (H' : Hp) (s' : Shared) : Prop where
  os : s'.os = s.os
  bare : AllBare s'.gens
  fly : Heap.FlyingW B outer ea (.ref C) (.ref t) s'.heap
  hok : HOk P w H' B
  old : ∀ b o, s.heap.get? b = some o → H b = none → b ∉ frs outer → B.get? b = some o
  there : ∀ b o, s.heap.get? b = some o → b ∉ frs outer → ∃ o', B.get? b = some o'
  free : ∀ b o, s.heap.get? b = some o → H b = none → H' b = none
  slot : ∀ b ∈ frs outer, ∀ o, s.heap.get? b = some o → ∃ sl, s'.heap.get? b = some { o with slots := sl }
  tups : ∀ b xs, H b = some (.tup xs) → H' b = some (.tup xs)
  frzs : ∀ b o u, H b = some (.frz o u) → H' b = some (.frz o u)
  tbls : ∀ b ps, H b = some (.tbl ps) → ∃ more, H' b = some (.tbl (ps ++ more))
def CXF (P : Program) (w : World) : CXT := fun outer H s E e s' => ∃ (ea C t : Addr) (B : Heap) (H' : Hp), e = .ref ea ∧ Fly P w outer H s ea C t B H' s' ∧ E (.ref C) none H'
/-- an exception just made -/
def PassesM (X : Cx) (E : XK) : Prop := ∀ (pins : List (Addr × Obj)) (σ : St) (H : Hp) (s : Shared) (h' : Heap) (ea C : Addr) (vs : List Value), Inv X pins σ H s → Heap.MadeExcOf s.heap h' ea (.ref C) vs → E (.ref C) none H →
  X.xe (.ref ea) { s with heap := h' }

theorem mem_frs_cons {env : Env} {outer : List Env} {L b : Addr} (hf : env.frame = some L) (hb : b ∈ frs (env :: outer)) : b = L ∨ b ∈ frs outer := by
  unfold frs at hb
  rw [List.filterMap_cons, hf] at hb
  exact List.mem_cons.mp hb
theorem mem_frs_tail {env : Env} {outer : List Env} {b : Addr} (hb : b ∈ frs outer) : b ∈ frs (env :: outer) := by
  unfold frs at hb ⊢
  rw [List.filterMap_cons]
  split
  · exact hb
  · exact List.mem_cons_of_mem _ hb

section
variable {P : Program} {w : World} {K : PySem.W.Frag} {mg : Str → Option Value} {base : Heap} {N : List Str} {qual : Str} {scope : Scope} {f : Addr} {cd : Value} {A : Around} {outer : List Env} {s : Shared} {H : Hp} {E : XK} {CX : CXT}

/-- a def hands a callee's exception on -/
theorem pass_def : Passes (CXF P w) (cxOf (CXF P w) P w K mg base N qual scope f cd A outer s H E) E := by
  intro pins σ H1 s1 e s' I hq
  obtain ⟨ea, C, t, B, H', rfl, F, hE⟩ := hq
  have F : Fly P w (envOfC qual scope s.heap.objs.size f cd :: outer) H1 s1 ea C t B H' s' := F
  have noex : ∀ b : Addr, b ∉ (cxOf (CXF P w) P w K mg base N qual scope f cd A outer s H E).ex := fun b z => nomatch z
  have hne : ∀ b o, s.heap.get? b = some o → b ∉ frs outer → b ∉ frs (envOfC qual scope s.heap.objs.size f cd :: outer) := fun b o e nb hb => by
    rcases mem_frs_cons (L := s.heap.objs.size) rfl hb with z | z
    · exact absurd (Heap.lt_size e) (by rw [z]; exact Nat.lt_irrefl _)
    · exact nb z
  show wpAny (model P w) (A.deeper (envOfC qual scope s.heap.objs.size f cd)) (leaving (envOfC qual scope s.heap.objs.size f cd) (.ref ea)) (fun _ s'' => CXF P w outer H s E (.ref ea) s'') (fun e' s'' => CXF P w outer H s E e' s'') s'
  refine wpAny_leaves_onW (outer := outer) (L := s.heap.objs.size) I.ok.frames rfl F.fly fun h' x1 x2 => ⟨ea, C, t, B, H', rfl, ⟨?_, F.bare, x1, F.hok, fun b o e n nb => ?_, fun b o e nb => ?_, fun b o e n => ?_, fun b hb o e => ?_, fun b xs e => ?_, fun b o u e => ?_, fun b ps e => ?_⟩, hE⟩
  · exact F.os.trans I.os
  · exact F.old b o (I.base.keep b o e n nb (noex b)) (I.base.free b o e n (noex b)) (hne b o e nb)
  · obtain ⟨o1, e1⟩ := I.base.there b o e (noex b)
    exact F.there b o1 e1 (hne b o e nb)
  · obtain ⟨o1, e1⟩ := I.base.there b o e (noex b)
    exact F.free b o1 e1 (I.base.free b o e n (noex b))
  · obtain ⟨sl, e1⟩ := I.base.slot b o e (I.ok.frf b hb) hb (noex b)
    obtain ⟨sl2, e2⟩ := F.slot b (mem_frs_tail hb) _ e1
    obtain ⟨_, o', eo, nf⟩ := I.ok.funs.mem hb
    have eo : s.heap.get? b = some o' := eo
    rw [e] at eo; cases eo
    obtain ⟨sl3, e3⟩ := x2 b _ e2 nf
    exact ⟨sl3, e3⟩
  · exact F.tups b xs (I.base.tups b xs e)
  · exact F.frzs b o u (I.base.frzs b o u e)
  · obtain ⟨m1, e1⟩ := I.base.tbls b ps e
    obtain ⟨m2, e2⟩ := F.tbls b _ e1
    exact ⟨m1 ++ m2, by rw [e2, Array.append_assoc]⟩

/-- a def's own raise -/
theorem passM_def : PassesM (cxOf (CXF P w) P w K mg base N qual scope f cd A outer s H E) E := by
  intro pins σ H1 s1 h' ea C vs I hx hE
  have noex : ∀ b : Addr, b ∉ (cxOf (CXF P w) P w K mg base N qual scope f cd A outer s H E).ex := fun b z => nomatch z
  have hne : ∀ b o, s.heap.get? b = some o → b ∉ frs outer → b ∉ frs (envOfC qual scope s.heap.objs.size f cd :: outer) := fun b o e nb hb => by
    rcases mem_frs_cons (L := s.heap.objs.size) rfl hb with z | z
    · exact absurd (Heap.lt_size e) (by rw [z]; exact Nat.lt_irrefl _)
    · exact nb z
  have stk := I.stack
  have stk : s1.heap.FunFrames base (envOfC qual scope s.heap.objs.size f cd :: outer) := stk
  have sfr : ∀ b ∈ frs (envOfC qual scope s.heap.objs.size f cd :: outer), H1 b = none := I.stkFree
  have hin : ∀ env ∈ (envOfC qual scope s.heap.objs.size f cd :: outer), ∀ a, env.frame = some a → a ∈ frs (envOfC qual scope s.heap.objs.size f cd :: outer) := fun env he a ha => List.mem_filterMap.mpr ⟨env, he, ha⟩
  show wpAny (model P w) (A.deeper (envOfC qual scope s.heap.objs.size f cd)) (leaving (envOfC qual scope s.heap.objs.size f cd) (.ref ea)) (fun _ s'' => CXF P w outer H s E (.ref ea) s'') (fun e' s'' => CXF P w outer H s E e' s'') { s1 with heap := h' }
  refine wpAny_leaves_madeW (base := PySem.W.hideAll s1.heap (frs (envOfC qual scope s.heap.objs.size f cd :: outer))) (h := s1.heap) (outer := outer) (L := s.heap.objs.size) I.ok.frames rfl (fun b o q => PySem.W.of_hideAll _ q)
    (PySem.W.funFrames_hide stk hin) hx fun h2 t x1 x2 x3 x4 => ⟨ea, C, t, _, H1, rfl, ⟨I.os, I.bare, x1, fun a o e => ?_, fun b o e n nb => ?_, fun b o e nb => ?_, fun b o e n => ?_, fun b hb o e => ?_, I.base.tups, I.base.frzs, I.base.tbls⟩, hE⟩
  · refine (I.hok a o e).stay (fun b u hb q => PySem.W.hideAll_get _ q fun hm => ?_) (fun _ q => q) fun _ _ q => q
    have z := sfr b hm
    rcases hb with rfl | hb
    · rw [z] at e; cases e
    · rw [z] at hb; cases hb
  · exact PySem.W.hideAll_get _ (I.base.keep b o e n nb (noex b)) (hne b o e nb)
  · obtain ⟨o1, e1⟩ := I.base.there b o e (noex b)
    exact ⟨o1, PySem.W.hideAll_get _ e1 (hne b o e nb)⟩
  · exact I.base.free b o e n (noex b)
  · obtain ⟨sl, e1⟩ := I.base.slot b o e (I.ok.frf b hb) hb (noex b)
    have e2 := hx.keeps b _ e1
    obtain ⟨_, o', eo, nf⟩ := I.ok.funs.mem hb
    have eo : s.heap.get? b = some o' := eo
    rw [e] at eo; cases eo
    obtain ⟨sl3, e3⟩ := x4 b _ e2 nf
    exact ⟨sl3, e3⟩
theorem own_def : PassesOwn (model P w) (cxOf CX P w K mg base N qual scope f cd A outer s H E).A (cxOf CX P w K mg base N qual scope f cd A outer s H E).env (cxOf CX P w K mg base N qual scope f cd A outer s H E).xe := PassesOwn.leaving (Q₁ := fun e s'' => CX outer H s E e s'')
/-- a promise that raises nothing, as one that may -/
theorem FnOk.cxf {k : Nat} {f : Addr} {fd : FuncData} {ps : List Str} {sp : Sp} (F : FnOk P w K mg base CX0 k f fd ps sp) : FnOk P w K mg base (CXF P w) k f fd ps sp :=
  ⟨F.len, fun A outer s H args us vs Q E hr he hb hv hs => codeAny_mono (F.run A outer s H args us vs Q E hr he hb hv hs) fun r s' h => by
    cases r with
    | error e => exact False.elim h
    | ok fl => cases fl with
      | ret u => exact h
      | next => exact h
      | brk => exact h
      | cont => exact h⟩
/-- THE RULE for a def that may raise -/
theorem Fun.okX {x qual : Str} {st : Stmt} {f : Addr} {fd : FuncData} {N ps : List Str} {k : Nat} {sp : Sp} (F : Fun K x qual st f fd) (S : FnScope N ps (defScope st)) (len : ∀ vs H Q E, sp vs H Q E → vs.length = ps.length)
    (hbody : ∀ (cdv : Value) (A : Around) (outer : List Env) (s : Shared) (H : Hp) (vs : List V) (Q : VK) (E : XK), Room k (A.deeper (envOfC qual (defScope st) s.heap.objs.size f cdv)) → sp vs H Q E →
      ∃ t, PSs (cxOf (CXF P w) P w K mg base N qual (defScope st) f cdv A outer s H E) (defBody st) t ∧ t { nx := fun _ H' => Q .non H', rt := Q } (start N vs) H) : FnOk P w K mg base (CXF P w) (k + 1) f fd ps sp := by
  obtain ⟨oc, od, kV, doc, pm, an, cdv, ct, osl, rfl, lk, hcd⟩ := F.ex
  exact fn_of lk hcd S len fun A outer s H vs Q E hr hsp => hbody cdv A outer s H vs Q E hr hsp
end

/-! ### an own error class, as the fragment has it -/
/-- the dict at N has text keys alone, none of them x -/
def noKey (K : PySem.W.Frag) (N : Addr) (x : Str) : Bool := match K.lookup N with
  | some ⟨_, _, .dict es _, _⟩ => es.toList.all fun e => match e.key with | .str y _ => !(y == x) | _ => false
  | _ => false
theorem noKey_ns {K : PySem.W.Frag} {h : Heap} {N : Addr} {x : Str} (X : K.In h) (e : noKey K N x = true) : ∃ m, h.Ns N m ∧ m x = none := by
  unfold noKey at e
  split at e
  · rename_i oc od es ep sl ho
    have hk : StrKeys es := fun y hy => by
      have q := List.all_eq_true.mp e y (Array.mem_toList_iff.mpr hy)
      cases k : y.key with
      | str z t => exact ⟨z, t, rfl⟩
      | _ => rw [k] at q; cases q
    refine ⟨nsFind es, ⟨_, es, ep, X _ _ ho, rfl, hk, fun _ => rfl⟩, ?_⟩
    unfold nsFind findBy
    rw [← Array.find?_toList]
    have : es.toList.find? (fun e => e.key.isStr x) = none := by
      rw [List.find?_eq_none]
      intro y hy
      have q := List.all_eq_true.mp e y hy
      obtain ⟨z, t, k⟩ := hk y (Array.mem_toList_iff.mp hy)
      rw [k] at q ⊢
      intro hz
      have hz' : (z == x) = true := by simpa [Value.isStr] using hz
      simp [hz'] at q
    rw [this]
    rfl
  · cases e
structure XCls (K : PySem.W.Frag) (C : Addr) (tl : List Value) (newId : String) : Prop where
  obj : ∃ (N : Addr) (nm q : Str) (bs : List Value) (hdct : Bool) (sn : List Str) (sub : List Value) (ab : Bool) (col : Option Bool) (dd : Option Addr) (k0 k1 k2 k3 k5 : Option Value),
    K.lookup C = some (excClassObj nm q C N bs tl hdct sn sub ab col dd k0 k1 k2 k3 k5 newId) ∧ noKey K N "__init__" = true
abbrev mroVE : List Value := [.type "ValueError", .type "Exception", .type "BaseException", .type "object"]
/-- the classes above: own ones, then ValueError's -/
inductive XTail (K : PySem.W.Frag) : List Value → Prop where
  | base : XTail K mroVE
  | own {C : Addr} {tl : List Value} {n : String} : XCls K C tl n → XTail K tl → XTail K (.ref C :: tl)
theorem XTail.tail {K : PySem.W.Frag} {h : Heap} {tl : List Value} (X : K.In h) (T : XTail K tl) : OwnTail h mroVE tl := by
  induction T with
  | base => exact .base
  | own c _ ih =>
    obtain ⟨N, nm, q, bs, hdct, sn, sub, ab, col, dd, k0, k1, k2, k3, k5, lk, nk⟩ := c.obj
    obtain ⟨m, hn, hm⟩ := noKey_ns X nk
    exact .own (X _ _ lk) hn hm ih

/-! ### raise C(e) -/
section
variable {X : Cx} {x : Str} {C : Addr} {tl : List Value} {np cpos pos : Pos} {e0 : Expr} {ta : TA} {E : XK} {newId Bn inN : String} {bmN : List Value}
def tRaise (C : Addr) (E : XK) (ta : TA) : TS := fun _ σ H => ta σ H fun vs H1 => vs.length ≤ sizeLine ∧ E (.ref C) none H1
theorem ps_raise (Fn : ExcBaseFacts Bn newId inN bmN) (hBn : mroVE.contains (.type Bn) = true) (hp : PassesM X E) (hc : X.calm = true) (xc : XCls X.K C tl newId) (T : XTail X.K tl) (hg : Gl X x) (hm : X.mg x = some (.ref C)) (ha : PA X [e0] ta)
    (hs : starEach [e0] X.env = [(false, eval e0 X.env)] := by rfl) (hd : (x == ("__debug__" : Str)) = false := by decide) :
    PS X (.Raise (some (.Call (.Name x np) [e0] [] cpos)) none pos) (tRaise C E ta) := by
  intro pins s σ H D I h
  obtain ⟨N, nm, q, bs, hdct, sn, sub, ab, col, dd, k0, k1, k2, k3, k5, lk, nk⟩ := xc.obj
  obtain ⟨m, hn, hm0⟩ := noKey_ns (h := X.base) I.ok.mod.kin nk
  have hni : m "__init__" = none := hm0
  have Tb : OwnTail X.base mroVE tl := T.tail I.ok.mod.kin
  refine wpAny_Raise_call_subU (C := C) (nm := nm) (q := q) (N := N) (bs := bs) (bm := tl) (hdct := hdct) (sn := sn) (sub := sub) (ab := ab) (col := col) (dd := dd) (k0 := k0) (k1 := k1) (k2 := k2) (k3 := k3) (k5 := k5)
    Fn hBn PySem.F.excBase_ValueError (mN := m) (Tb.hasType PySem.F.excBase_ValueError.hasBase) (I.ok.hd hc) (by rw [hs]; rfl) hni (ld_glob I hg hm ⟨rfl, ?_⟩ hd)
  have h2 := ha cpos pins s σ H _ I h
  rw [hs] at h2 ⊢
  exact Calls.evalArgs_plain (thn h2 fun us s2 ⟨vs, H2, I2, r, hl, q2⟩ => ⟨rfl, by rw [← r.length]; exact hl, I2.kIn _ _ lk, hn.keeps I2.bk, Tb.keeps I2.bk, fun h' e hx => hp pins σ H2 s2 h' e C us I2 hx q2⟩)
end

/-! ### f-strings: some text -/
section
variable {X : Cx} {e : Expr} {es : List Expr} {te : TE} {pos : Pos}
/-- the parts from the left, the length so far at most n -/
def PJ (X : Cx) (es : List Expr) (n m : Nat) (t : St → Hp → (Hp → Prop) → Prop) : Prop :=
  ∀ (pins : List (Addr × Obj)) (s : Shared) (σ : St) (H : Hp) (acc : Str) (Q : Hp → Prop), Inv X pins σ H s → acc.length ≤ n → t σ H Q →
    Joins (model X.prog X.w) X.A X.xe (evalEach es X.env) acc (fun out s1 => out.length ≤ m ∧ ∃ H1, Inv X pins σ H1 s1 ∧ Q H1) s
theorem pj_nil {n : Nat} : PJ X [] n n (fun _ H Q => Q H) := fun _ _ _ H _ _ I h q => ⟨h, H, I, q⟩
theorem pj_str {x : Str} {j : Nat} {n k m : Nat} {t : St → Hp → (Hp → Prop) → Prop} (hx : x.length ≤ k) (hr : PJ X es (n + k) m t) (hm : n + k ≤ sizeLine) (he : evalEach (.Constant (.str x) j pos :: es) X.env = eval (.Constant (.str x) j pos) X.env :: evalEach es X.env := by rfl) :
    PJ X (.Constant (.str x) j pos :: es) n m t := by
  intro pins s σ H acc Q I ha h
  rw [he]
  refine Calls.Constant_str ?_
  have hl : (acc ++ x).length ≤ n + k := by rw [strLen_append]; omega
  exact ⟨x, _, rfl, Nat.le_trans hl hm, hr pins _ σ H _ Q (I.tok _) hl h⟩
theorem pj_int {n m : Nat} {p2 : Pos} {t : St → Hp → (Hp → Prop) → Prop} (he : PE X e te) (hr : PJ X es (n + 2000) m t) (hm : n + 2000 ≤ sizeLine)
    (hE : evalEach (.FormattedValue e (-1) none p2 :: es) X.env = eval (.FormattedValue e (-1) none p2) X.env :: evalEach es X.env := by rfl) :
    PJ X (.FormattedValue e (-1) none p2 :: es) n m (fun σ H Q => te σ H fun v H1 => ∃ i : Int, v = .int i ∧ i.natAbs.log2 < 1920 ∧ t σ H1 Q) := by
  intro pins s σ H acc Q I ha h
  rw [hE]
  refine wpAny_FormattedValue_plain (thn (he pins s σ H _ I h) fun u s1 ⟨v, H1, I1, r1, i, e1, hi, q1⟩ => ?_)
  subst e1
  obtain ⟨tk, rfl⟩ := r1
  refine wpAny_formatField_int hi ?_
  have hl : (acc ++ Str.ofString (toString i)).length ≤ n + 2000 := by
    have := int_text_length_le (k := 1920) (by decide) hi
    rw [strLen_append, PySem.ofString_length]; omega
  exact ⟨_, _, rfl, Nat.le_trans hl hm, hr pins _ σ H1 _ Q (I1.tok _) hl q1⟩
theorem pe_fstr {v1 v2 : Expr} {rest : List Expr} {m : Nat} {t : St → Hp → (Hp → Prop) → Prop} (h : PJ X (v1 :: v2 :: rest) 0 m t) (hm : m ≤ sizeLine) : PE X (.JoinedStr (v1 :: v2 :: rest) pos) (fun σ H Q => t σ H fun H1 => ∀ out, Q (.str out) H1) := by
  intro pins s σ H Q I hq
  refine wpAny_JoinedStr ?_
  have h2 := h pins s σ H Str.empty _ I (Nat.zero_le _) hq
  have mono : ∀ (parts : List (Sem Value)) (acc : Str) (s : Shared) (Q1 Q2 : Str → Shared → Prop), (∀ o s, Q1 o s → Q2 o s) → Joins (model X.prog X.w) X.A X.xe parts acc Q1 s → Joins (model X.prog X.w) X.A X.xe parts acc Q2 s := by
    intro parts
    induction parts with
    | nil => intro acc s Q1 Q2 hq h; exact hq _ _ h
    | cons p r ih => intro acc s Q1 Q2 hq h; exact thn h fun v s1 ⟨y, t, e, l, j⟩ => ⟨y, t, e, l, ih _ _ _ _ hq j⟩
  refine mono _ _ _ _ _ (fun out s1 ⟨hl, H1, I1, q⟩ => ⟨Nat.le_trans hl hm, .str out, H1, I1.tok _, ⟨_, rfl⟩, q out⟩) h2
end
end L2

set_option Elab.async false
set_option linter.all false
set_option maxRecDepth 100000
set_option maxHeartbeats 4000000
/-! TRY over the layer; isinstance. -/
namespace L2
open PySem PySem.Spec PyProof.Rows

section
variable {X : Cx} {CX : CXT} {k : Nat} {f C : Addr} {fd : FuncData} {ps : List Str} {sp : Sp} {dvs : List V} {ds : List Value} {E : St → XK} {x m : Str} {p pos apos : Pos} {e o : Expr} {es : List Expr} {ta : TE} {t : TA}
end

section
variable {X : Cx} {CX : CXT} {k : Nat} {f C : Addr} {fd : FuncData} {ps : List Str} {sp : Sp} {dvs : List V} {ds : List Value} {E : St → XK} {x m : Str} {p pos apos : Pos} {e o : Expr} {es : List Expr} {ta : TE} {t : TA}
end

/-! ### the state where an exception has landed -/
section
variable {X : Cx} {pins : List (Addr × Obj)} {σ : St} {H H' : Hp} {s s' : Shared} {ea C t : Addr} {B h6 : Heap}
/-- what an exception's object is known by -/
def excAt (ea C : Addr) : Heap → Prop := fun h => ∃ o, h.get? ea = some o ∧ o.cls = .ref C
end

/-! ### e is taken by a class above its own -/
theorem looks_isType {K : PySem.W.Frag} {M : Model} {h : Heap} {W : Addr} (X : K.In h) (c : (PySem.W.clsIn K W).isSome = true) : PySem.W.Looks M h (isType (.ref W)) true := by
  unfold PySem.W.clsIn at c
  split at c
  · rename_i c' d' cd' sl' ho
    intro A' Q' E' s' k q
    unfold isType loadHead
    exact wpAny_bind (wpAny_loadPart (k _ _ (X _ _ ho)) (wpAny_pure q))
  · cases c
theorem looks_excType {M : Model} {h : Heap} {e C : Addr} (x : excAt e C h) : PySem.W.Looks M h (typeOf (.ref e)) (.ref C) := by
  obtain ⟨o, h1, h2⟩ := x
  exact h2 ▸ (PySem.W.Looks.ld h1).andThen .now

/-! ### try .. except W as n .. -/
section
variable {X : Cx} {body : List Stmt} {b0 : Stmt} {suite : List Stmt} {x n : Str} {np hpos pos : Pos} {W : Addr} {i : Nat} {tb : (St → XK) → TS} {ts : TS}
section
variable {pins pn : List (Addr × Obj)} {σ : St} {H : Hp} {s : Shared} {xe : Value → Shared → Prop} {h : Option Value} {A : Around}
end
end

/-! ### isinstance of an exception -/
/-- what the fragment must say of an own error class, to be asked of -/
structure ECls (K : PySem.W.Frag) (C : Addr) : Prop where
  ga : PySem.W.findIn K (.ref C) "__getattribute__" = some (some (.builtin "BaseException.__getattribute__"))
  gt : PySem.W.findIn K (.ref C) "__getattr__" = some none
  cls : PySem.W.findIn K (.ref C) "__class__" = some (some (.builtin "object.__class__"))
  sb : PySem.W.subIn K (.ref C) (.type "BaseException") = some true
  so : PySem.W.subIn K (.ref C) (.type "object") = some true
  cl : (PySem.W.clsIn K C).isSome = true
section
variable {K : PySem.W.Frag} {e C : Addr} {prog : Program} {w : World} {A : Around} {E : Value → Shared → Prop} {h : Heap} {g : Array GenState} {d : Drawn} {t : Nat} {os : OsState}
theorem exc_class_get {R : Result → Shared → Prop} (X : K.In h) (hc : ECls K C) (hx : excAt e C h) (hq : R (.ok (.ret (.ref C))) ⟨h, g, d, t, os⟩) :
    codeAny (model prog w) A (.call (.builtin "getset_descriptor.__get__") ⟨[.builtin "object.__class__", .ref e, .ref C], []⟩) R ⟨h, g, d, t, os⟩ := by
  have L0 := looks_excType (M := model prog w) hx
  have L1 := PySem.W.looks_subIn (M := model prog w) X hc.so
  refine codeAny_call_builtin PySem.W.KF.slot_gs.plain PySem.W.KF.entry_gs (PySem.W.KF.slot_gs.check _ _ _ _ _ _ _ _ PySem.W.KF.type_class (PySem.W.KF.args_gs _ _ _) ?_)
  unfold Builtin.«getset_descriptor.__get__» Builtin.Getset_descriptor.descrGet
  rw [PySem.W.dga_obj]
  refine wpAny_bind (wpAny_pure ?_)
  unfold Builtin.Getset_descriptor.descrGetter Builtin.Getset_descriptor.descrCheckInstance Builtin.Getset_descriptor.descrNameAndClass isInstance
  simp only [PySem.W.KF.owner_class]
  repeat lk
  refine ⟨Code.quiet_builtin _ (by decide +kernel), codeAny_builtin PySem.W.KF.entry_class ?_⟩
  unfold Builtin.«object.__class__» shownTypeOf
  repeat lk
  exact hq
theorem exc_class_entry {tk : Tok} {Q : Fin → Shared → Prop} (X : K.In h) (hc : ECls K C) (hx : excAt e C h) (hq : Q (.done (.ret (.ref C))) ⟨h, g, d, t, os⟩) :
    wpAny (model prog w) A (Builtin.«object.__getattribute__» ⟨[.ref e, .str "__class__" tk], []⟩) Q E ⟨h, g, d, t, os⟩ := by
  obtain ⟨o, ho, hcl⟩ := id hx
  have hT5 : (⟨h, g, d, t, os⟩ : Shared).TypeIs (.builtin "object.__class__") "getset_descriptor" := F.typeOf_object_class
  have f5 := F.typeOf_object_class
  have f6 := F.slot_gs_get.lookup
  have f7 := F.slot_gs_set.lookup
  have lk1 : ∀ {A : Around} {E : Value → Shared → Prop} {Q : Option Value → Shared → Prop} {g d t os}, Q (some (.builtin "object.__class__")) ⟨h, g, d, t, os⟩ → wpAny (model prog w) A (typeLookup (.ref C) "__class__") Q E ⟨h, g, d, t, os⟩ := fun q => (PySem.W.looks_findIn X hc.cls).at q
  repeat (any_goals (first | assumption | (with_reducible refine wpAny_loadPart_at ho ?_; rw [hcl]) | with_reducible refine lk1 ?_ | wp_step))
  refine exc_class_get X hc hx ?_
  repeat (any_goals (first | assumption | wp_step))
theorem exc_check_ga {M : Model} {nameV : Value} {Q : Unit → Shared → Prop} (X : K.In h) (hc : ECls K C) (hx : excAt e C h) (hq : Q () ⟨h, g, d, t, os⟩) : wpAny M A (checkBuiltinCall "BaseException.__getattribute__" ⟨[.ref e, nameV], []⟩) Q E ⟨h, g, d, t, os⟩ := by
  have hk : builtinKind "BaseException.__getattribute__" = some .slot := by decide +kernel
  have hsplit : splitId "BaseException.__getattribute__" = some ("BaseException", "__getattribute__") := by decide +kernel
  have L : PySem.W.Looks M h (isInstance (.ref e) (.type "BaseException")) true := (looks_excType hx).andThen (PySem.W.looks_subIn X hc.sb)
  have ha := F.args_bexc_ga (.ref e) nameV
  exact PySem.W.check_slot (s := ⟨h, g, d, t, os⟩) (i := "BaseException.__getattribute__") (rest := [nameV]) (kw := []) hk hsplit L ha hq
theorem exc_class_call {tk : Tok} {R : Result → Shared → Prop} (X : K.In h) (hc : ECls K C) (hx : excAt e C h) (hq : R (.ok (.ret (.ref C))) ⟨h, g, d, t, os⟩) :
    codeAny (model prog w) A (.call (.builtin "BaseException.__getattribute__") ⟨[.ref e, .str "__class__" tk], []⟩) R ⟨h, g, d, t, os⟩ :=
  codeAny_call_builtin F.excAttr_ValueError.ga.plain F.entry_bexc_ga (exc_check_ga X hc hx (exc_class_entry X hc hx hq))
theorem exc_class_by {tk : Tok} {Q : Value → Shared → Prop} (X : K.In h) (hc : ECls K C) (hx : excAt e C h) (hq : Q (.ref C) ⟨h, g, d, t, os⟩) : wpAny (model prog w) A (getAttrBy (.ref e) (.str "__class__" tk) false) Q E ⟨h, g, d, t, os⟩ := by
  obtain ⟨o, ho, hcl⟩ := id hx
  have f3 := F.excAttr_ValueError.ga.bind (.ref e)
  have hx2 : (Value.builtin "BaseException.__getattribute__" == Value.builtin "object.__getattribute__") = false := by decide +kernel
  have hx1 : (onTheHeap (Value.ref C) && Value.builtin "BaseException.__getattribute__" == Value.builtin "object.__getattribute__") = false := by rw [hx2]; rfl
  have lk1 : ∀ {A : Around} {E : Value → Shared → Prop} {Q : Option Value → Shared → Prop} {g d t os}, Q (some (.builtin "BaseException.__getattribute__")) ⟨h, g, d, t, os⟩ → wpAny (model prog w) A (typeLookup (.ref C) "__getattribute__") Q E ⟨h, g, d, t, os⟩ := fun q => (PySem.W.looks_findIn X hc.ga).at q
  have lk2 : ∀ {A : Around} {E : Value → Shared → Prop} {Q : Option Value → Shared → Prop} {g d t os}, Q none ⟨h, g, d, t, os⟩ → wpAny (model prog w) A (typeLookup (.ref C) "__getattr__") Q E ⟨h, g, d, t, os⟩ := fun q => (PySem.W.looks_findIn X hc.gt).at q
  repeat (any_goals (first | assumption | (with_reducible refine wpAny_loadPart_at ho ?_; rw [hcl]) | with_reducible refine lk1 ?_ | with_reducible refine lk2 ?_ | wp_step))
  refine exc_class_call X hc hx ?_
  repeat (any_goals (first | assumption | wp_step))
theorem exc_class_attr {Q : Option Value → Shared → Prop} (X : K.In h) (hc : ECls K C) (hx : excAt e C h) (hq : Q (some (.ref C)) ⟨h, g, d, t + 1, os⟩) : wpAny (model prog w) A (getAttr? (.ref e) "__class__") Q E ⟨h, g, d, t, os⟩ := by
  unfold getAttr? getAttrBy?
  repeat (any_goals (first | assumption | with_reducible apply exc_class_by X hc hx | wp_step))
end
theorem kitx_exc {K : PySem.W.Frag} {e C : Addr} (hc : ECls K C) : PySem.W.KitX K (.ref e) (.ref C) (excAt e C) where
  ty := fun _ _ _ p => looks_excType p
  it := fun _ _ X _ => looks_isType X hc.cl
  ne := fun h tp dd its n sl X htp => by
    have z0 := hc.cl
    refine Bool.eq_false_iff.mpr fun q => ?_
    have e : C = tp := Value.ref.inj (beq_iff_eq.mp q)
    subst e
    unfold PySem.W.clsIn at z0
    split at z0
    · rename_i c' d' cd' sl' ho
      have z := (X _ _ ho).symm.trans htp
      cases z
    · cases z0
  ca := fun {prog w A E Q s} X p k => by
    obtain ⟨hh, g, d, t, os⟩ := s
    exact exc_class_attr X hc p k
end L2

set_option Elab.async false
set_option linter.all false
set_option maxRecDepth 100000
set_option maxHeartbeats 4000000
/-! LIST COMPREHENSIONS over the layer. -/
namespace L2
open PySem PySem.Spec PyProof.Rows

/-! ### the cells that a block closes over -/
def closOf (cells : List (Str × Addr)) : List (Str × NameKind) → List (Str × Addr) → List (Str × Addr)
  | [], acc => acc
  | (n, k) :: r, acc => closOf cells r (if k == .free then (n, (cells.lookup n).getD 0) :: acc else acc)
theorem closureFor_eq {scope : Scope} {env : Env} (h : ∀ p ∈ scope.names, p.2 = .free → ∃ c, env.cells.lookup p.1 = some c) : closureFor scope env = pure (closOf env.cells scope.names []) := by
  unfold closureFor
  have gen : ∀ (l : List (Str × NameKind)) (acc : List (Str × Addr)), (∀ p ∈ l, p.2 = .free → ∃ c, env.cells.lookup p.1 = some c) →
      (forIn l acc fun (x : Str × NameKind) (r : List (Str × Addr)) => (if (x.2 == NameKind.free) = true then do let a ← cellOf env x.1; pure (ForInStep.yield ((x.1, a) :: r)) else pure (ForInStep.yield r) : Sem (ForInStep (List (Str × Addr))))) = (pure (closOf env.cells l acc) : Sem (List (Str × Addr))) := by
    intro l
    induction l with
    | nil => intro acc _; rfl
    | cons p r ih =>
      intro acc hp
      obtain ⟨n, k⟩ := p
      rw [List.forIn_cons]
      by_cases hk : (k == NameKind.free) = true
      · obtain ⟨c, hc⟩ := hp (n, k) List.mem_cons_self (by simpa using hk)
        have e : cellOf env n = pure c := by unfold cellOf; rw [show env.cells.lookup n = some c from hc]
        simp only [hk, if_true, e, pure_bind]
        rw [ih _ fun q hq => hp q (List.mem_cons_of_mem _ hq)]
        show _ = pure (closOf env.cells r (if (k == NameKind.free) = true then (n, (env.cells.lookup n).getD 0) :: acc else acc))
        rw [if_pos hk, show env.cells.lookup n = some c from hc]
        rfl
      · simp only [hk, Bool.false_eq_true, if_false, pure_bind]
        rw [ih _ fun q hq => hp q (List.mem_cons_of_mem _ hq)]
        show _ = pure (closOf env.cells r (if (k == NameKind.free) = true then (n, (env.cells.lookup n).getD 0) :: acc else acc))
        rw [if_neg hk]
  have := gen scope.names [] h
  simpa using congrArg (fun t => t >>= fun cs => pure cs) this
theorem closOf_lookup {cells : List (Str × Addr)} {y : Str} {c : Addr} : ∀ (l : List (Str × NameKind)) (acc : List (Str × Addr)), (∀ p ∈ l, p.2 = .free → ∃ c, cells.lookup p.1 = some c) → (∀ y c, acc.lookup y = some c → cells.lookup y = some c) → (closOf cells l acc).lookup y = some c → cells.lookup y = some c
  | [], acc, _, ha, h => ha y c h
  | (n, k) :: r, acc, hp, ha, h => by
    refine closOf_lookup r _ (fun q hq => hp q (List.mem_cons_of_mem _ hq)) ?_ h
    intro y' c' e
    by_cases hk : (k == NameKind.free) = true
    · rw [if_pos hk] at e
      obtain ⟨c0, hc⟩ := hp (n, k) List.mem_cons_self (by simpa using hk)
      have hc : cells.lookup n = some c0 := hc
      rw [List.lookup_cons] at e
      by_cases hy : y' = n
      · subst hy
        simp only [beq_self_eq_true] at e
        rw [hc] at e ⊢
        exact e
      · have hb : (y' == n) = false := beq_eq_false_iff_ne.mpr hy
        rw [hb] at e
        exact ha y' c' e
    · rw [if_neg hk] at e
      exact ha y' c' e
theorem closOf_has {cells : List (Str × Addr)} {y : Str} : ∀ (l : List (Str × NameKind)) (acc : List (Str × Addr)), ((y, NameKind.free) ∈ l ∨ ∃ c, acc.lookup y = some c) → ∃ c, (closOf cells l acc).lookup y = some c
  | [], acc, h => h.elim (fun z => nomatch z) fun z => z
  | (n, k) :: r, acc, h => by
    refine closOf_has r _ ?_
    rcases h with h | ⟨c, h⟩
    · rcases List.mem_cons.mp h with e | e
      · cases e
        right
        rw [if_pos (by rfl)]
        exact ⟨_, by rw [List.lookup_cons, beq_self_eq_true]⟩
      · exact .inl e
    · right
      by_cases hk : (k == NameKind.free) = true
      · rw [if_pos hk, List.lookup_cons]
        by_cases hy : (y == n) = true
        · rw [hy]; exact ⟨_, rfl⟩
        · rw [Bool.eq_false_iff.mpr hy]; exact ⟨c, h⟩
      · rw [if_neg hk]; exact ⟨c, h⟩
theorem relabel_free {env : Env} (hk : env.scope.kind = .function) : ∀ {names : List (Str × NameKind)} {x : Str}, names.lookup x = some .free → env.kindOf x = some .cell →
    (names.map fun (n, k) => if (k == NameKind.free && env.scope.kind == .function && env.kindOf n == some .cell) then (n, NameKind.cell) else (n, k)).lookup x = some .cell
  | [], _, h, _ => by simp at h
  | (n, k) :: r, x, h, hx => by
    have ih := @relabel_free env hk r x
    show List.lookup x ((if (k == NameKind.free && env.scope.kind == .function && env.kindOf n == some .cell) = true then (n, NameKind.cell) else (n, k)) :: _) = _
    cases hxn : x == n with
    | true =>
      simp only [List.lookup_cons, hxn] at h
      have e : x = n := by simpa using hxn
      subst e
      cases h
      have hb : (NameKind.free == NameKind.free && env.scope.kind == ScopeKind.function && env.kindOf x == some NameKind.cell) = true := by rw [hk, hx]; rfl
      rw [if_pos hb]
      simp only [List.lookup_cons, beq_self_eq_true]
    | false =>
      simp only [List.lookup_cons, hxn] at h
      by_cases hc : (k == NameKind.free && env.scope.kind == .function && env.kindOf n == some .cell) = true
      · rw [if_pos hc]; simp only [List.lookup_cons, hxn]; exact ih h hx
      · rw [if_neg hc]; simp only [List.lookup_cons, hxn]; exact ih h hx
/-- what is a cell or free in the block is free in its scope -/
theorem relabel_back {env : Env} : ∀ {names : List (Str × NameKind)} {x : Str}, (∀ p ∈ names, p.2 ≠ .cell) →
    ((names.map fun (n, k) => if (k == NameKind.free && env.scope.kind == .function && env.kindOf n == some .cell) then (n, NameKind.cell) else (n, k)).lookup x = some .cell ∨
     (names.map fun (n, k) => if (k == NameKind.free && env.scope.kind == .function && env.kindOf n == some .cell) then (n, NameKind.cell) else (n, k)).lookup x = some .free) → (x, NameKind.free) ∈ names
  | [], _, _, h => by simp at h
  | (n, k) :: r, x, hc, h => by
    have ih := @relabel_back env r x fun p hp => hc p (List.mem_cons_of_mem _ hp)
    by_cases hb : (k == NameKind.free && env.scope.kind == .function && env.kindOf n == some .cell) = true
    · have hk : k = .free := by
        rw [Bool.and_eq_true, Bool.and_eq_true] at hb
        simpa using hb.1.1
      cases hx : x == n with
      | true =>
        have e : x = n := by simpa using hx
        rw [e, hk]; exact List.mem_cons_self
      | false =>
        simp only [List.map_cons, hb, if_true, List.lookup_cons, hx] at h
        exact List.mem_cons_of_mem _ (ih h)
    · cases hx : x == n with
      | true =>
        have e : x = n := by simpa using hx
        simp only [List.map_cons, hb, Bool.false_eq_true, if_false, List.lookup_cons, hx, Option.some.injEq] at h
        rcases h with h | h
        · exact absurd h (hc (n, k) List.mem_cons_self)
        · rw [e, h]; exact List.mem_cons_self
      | false =>
        simp only [List.map_cons, hb, Bool.false_eq_true, if_false, List.lookup_cons, hx] at h
        exact List.mem_cons_of_mem _ (ih h)

/-! ### one turn, whatever the target is -/
theorem codeAny_compLoop_any {prog : Program} {w : World} {A : Around} {R : Result → Shared → Prop} {s : Shared} {elt target iter : Expr} {ifs : List Expr} {scope : Scope} {pos : Pos} {it acc : Value} {env : Env} (I : Nat → Shared → Prop)
    (turn : ∀ n s, I n s → wpAny (model prog w) A (pyNext it) (fun r s₁ => match r with
      | none => R (.ok .next) s₁
      | some v => wpAny (model prog w) A (letOwnedTupleGo target it v) (fun _ s₁' => wpAny (model prog w) A (assign target env v) (fun _ s₂ =>
          wpAny (model prog w) A (forIn ifs true fun c r => if r = true then do let ok ← isTrue c env (eval c env); pure (ForInStep.yield ok) else pure (ForInStep.yield r)) (fun ok s₃ =>
            if ok = true then wpAny (model prog w) A (eval elt env) (fun x s₄ =>
              wpAny (model prog w) A (call (.builtin "list.append") [acc, x]) (fun _ s₅ => ∃ m, m < n ∧ I m s₅) (fun _ _ => False) s₄) (fun _ _ => False) s₃
            else ∃ m, m < n ∧ I m s₃) (fun _ _ => False) s₂) (fun _ _ => False) s₁') (fun _ _ => False) s₁) (fun _ _ => False) s)
    (n : Nat) (h : I n s) :
    codeAny (model prog w) A (.compLoop (.ListComp elt [⟨target, iter, ifs, 0⟩] scope pos) 0 it acc env) R s := by
  refine codeAny_loop rfl I (fun n s hI => ?_) n h
  show wpAny _ A ((compTurn (.ListComp elt [⟨target, iter, ifs, 0⟩] scope pos) 0 it acc env).onRaise (fun x => do noteFrame x env; theTreesLotGoes x)) _ _ s
  refine wpAny_noted ?_
  rw [compTurn_list]
  refine wpAny_bind (wpAny_standAt (wpAny_bind (wpAny_mono (turn n s hI) (fun r s₁ h₁ => ?_) fun _ _ h' => h'.elim)))
  cases r with
  | none => exact wpAny_pure h₁
  | some v =>
    refine wpAny_bind (wpAny_mono h₁ (fun _ s₁' h₁' => ?_) fun _ _ h' => h'.elim)
    refine wpAny_bind (wpAny_mono h₁' (fun _ s₂ h₂ => wpAny_bind (wpAny_mono h₂ (fun ok s₃ h₃ => ?_) fun _ _ h' => h'.elim)) fun _ _ h' => h'.elim)
    cases ok with
    | true =>
      simp only [if_true] at h₃ ⊢
      exact wpAny_bind (wpAny_bind (wpAny_mono h₃ (fun x s₄ h₄ => wpAny_bind (wpAny_mono h₄ (fun _ s₅ h₅ => wpAny_pure (wpAny_pure ⟨rfl, h₅⟩)) fun _ _ h' => h'.elim)) fun _ _ h' => h'.elim))
    | false =>
      simp only [Bool.false_eq_true, if_false] at h₃ ⊢
      exact wpAny_bind (wpAny_pure (wpAny_pure ⟨rfl, h₃⟩))

/-! ### the block's context -/
def cxComp (X : Cx) (scope : Scope) (N : List Str) (C : Addr) (s₀ : Shared) (H₀ : Hp) (ex : List Addr) (pn : List (Addr × Obj)) : Cx :=
  { X with N := N, s₀ := s₀, H₀ := H₀, env := compEnvC scope (closOf X.env.cells scope.names []) C X.env, outer := X.stack, stack := X.stack, ex := ex, fn := fun _ => false, pn := pn, xe := fun _ _ => False }
/-- the block's names: its own (none), or the slot of the def's that it closes over -/
def capOf (src : List (Option Nat)) (σ : St) : St := src.map fun o => match o with | none => none | some i => (σ[i]?).join
theorem capOf_get {src : List (Option Nat)} {σ : St} {j : Nat} {v : V} (h : (capOf src σ)[j]? = some (some v)) : ∃ i, src[j]? = some (some i) ∧ σ[i]? = some (some v) := by
  unfold capOf at h
  rw [List.getElem?_map] at h
  cases e : src[j]? with
  | none => rw [e] at h; cases h
  | some o =>
    rw [e] at h
    cases o with
    | none => cases h
    | some i =>
      refine ⟨i, rfl, ?_⟩
      have h : (σ[i]?).join = some v := Option.some.inj h
      cases q : σ[i]? with
      | none => rw [q] at h; cases h
      | some z => rw [q] at h; exact congrArg some h
structure BlockOk (X : Cx) (scope : Scope) (N : List Str) (src : List (Option Nat)) : Prop where
  kind : scope.kind = .function
  nocell : ∀ p ∈ scope.names, p.2 ≠ .cell
  names : ∀ x ∈ scope.names, x.2 = .local → scope.names.lookup x.1 = some .local
  free : ∀ p ∈ scope.names, p.2 = .free → X.env.kindOf p.1 = some .cell
  nd : N.Nodup
  len : src.length = N.length
  cap : ((N.zip src).all fun p => match p.2 with | none => true | some i => X.N[i]? == some p.1 && X.env.kindOf p.1 == some .cell && scope.names.lookup p.1 == some .free) = true
theorem BlockOk.at {X : Cx} {scope : Scope} {N : List Str} {src : List (Option Nat)} (b : BlockOk X scope N src) {j i : Nat} {y : Str} (h1 : N[j]? = some y) (h2 : src[j]? = some (some i)) :
    X.N[i]? = some y ∧ X.env.kindOf y = some .cell ∧ scope.names.lookup y = some .free := by
  have hz : (N.zip src)[j]? = some (y, some i) := by rw [List.getElem?_zip_eq_some]; exact ⟨h1, h2⟩
  have q := List.all_eq_true.mp b.cap _ (List.mem_of_getElem? hz)
  simp only [Bool.and_eq_true, beq_iff_eq] at q
  exact ⟨q.1.1, q.1.2, q.2⟩
/-- the same, to be decided: the def's scope and names, the block's -/
def blockOk (osc scope : Scope) (oN N : List Str) (src : List (Option Nat)) : Bool :=
  scope.kind == .function && (scope.names.all fun p => p.2 != .cell) && (scope.names.all fun p => p.2 != .local || scope.names.lookup p.1 == some .local) && (scope.names.all fun p => p.2 != .free || osc.names.lookup p.1 == some .cell) && decide N.Nodup && src.length == N.length &&
  (N.zip src).all fun p => match p.2 with | none => true | some i => oN[i]? == some p.1 && osc.names.lookup p.1 == some .cell && scope.names.lookup p.1 == some .free
theorem blk {X : Cx} {osc scope : Scope} {oN N : List Str} {src : List (Option Nat)} (e1 : X.env.scope = osc) (e2 : X.N = oN) (h : blockOk osc scope oN N src = true) : BlockOk X scope N src := by
  subst e1 e2
  unfold blockOk at h
  simp only [Bool.and_eq_true, List.all_eq_true, Bool.or_eq_true, bne_iff_ne, beq_iff_eq, decide_eq_true_eq, ne_eq] at h
  obtain ⟨⟨⟨⟨⟨⟨h1, h2⟩, h3⟩, h4⟩, h5⟩, h6⟩, h7⟩ := h
  refine ⟨h1, h2, fun x hx e => (h3 x hx).resolve_left (fun z => z e), fun x hx e => (h4 x hx).resolve_left (fun z => z e), h5, h6, List.all_eq_true.mpr fun p hp => ?_⟩
  have q := h7 p hp
  cases e : p.2 with
  | none => rfl
  | some i =>
    rw [e] at q
    simp only [Bool.and_eq_true, beq_iff_eq] at q ⊢
    exact q
/-- W: by the turn, a measure, the block's values and the heap; the list stands at D -/
def CompW (J : It) (src : List (Option Nat)) (g : TG) (tt : TT) (te : TE) (Q : VK) (σ : St) (H1 : Hp) (D : Addr) : Prop :=
  ∃ W : Nat → Nat → St → Hp → Prop, (∃ m, W 0 m (capOf src σ) (upd H1 D (.lst []))) ∧ ∀ i m σ1 H2, W i m σ1 H2 →
    (J.stop i H2 ∧ Q (.ref D) H2) ∨
    (J.go i H2 ∧ ∃ N : St → Hp → Prop, (∀ σ' H', N σ' H' → ∃ m', m' < m ∧ W (i + 1) m' σ' H') ∧ ∀ x H3, J.yld i H2 x H3 → g x σ1 H3 fun σ4 H4 => tt σ4 H4 fun b H5 =>
      if b = true then te σ4 H5 fun y H6 => ∃ zs, H6 D = some (.lst zs) ∧ zs.length < sizeLine ∧ N σ4 (upd H6 D (.lst (zs ++ [y])))
      else N σ4 H5)
def tComp (wi : TI) (src : List (Option Nat)) (g : TG) (tt : TT) (te : TE) : TE := fun σ H Q => wi σ H fun J H1 => ∀ D, H1 D = none → CompW J src g tt te Q σ H1 D
def tTrue : TT := fun _ H Q => Q true H
theorem gN {i : Nat} {v : V} {σ : St} {H : Hp} {Q : St → Hp → Prop} (h : Q (σ.set i (some v)) H) : gName i v σ H Q := h
theorem tT {σ : St} {H : Hp} {A B : Hp → Prop} (h : A H) : tTrue σ H (fun b H5 => if b = true then A H5 else B H5) := by
  show if true = true then A H else B H
  rw [if_pos rfl]; exact h
/-- the tests: none, or one -/
def PTs (X : Cx) (ifs : List Expr) (t : TT) : Prop := ∀ (pins : List (Addr × Obj)) (s : Shared) (σ : St) (H : Hp) (Q : Bool → Hp → Prop), Inv X pins σ H s → t σ H Q →
  wpAny (model X.prog X.w) X.A (forIn ifs true fun c r => if r = true then do let ok ← isTrue c X.env (eval c X.env); pure (ForInStep.yield ok) else pure (ForInStep.yield r)) (TP X pins σ Q) X.xe s
theorem pts_nil {X : Cx} : PTs X [] tTrue := fun _ _ _ H _ I h => wpAny_tests_nil ⟨H, I, h⟩
theorem pts_one {X : Cx} {c : Expr} {t : TT} (h : PT X c t) : PTs X [c] t := fun pins s σ H Q I hq => wpAny_tests_one (h pins s σ H Q I hq)

section
variable {X : Cx} {elt tg iter : Expr} {ifs : List Expr} {scope : Scope} {pos : Pos} {N : List Str} {src : List (Option Nat)} {wi : TI} {g : TG} {tt : TT} {te : TE}
theorem BlockOk.cells {b : BlockOk X scope N src} (ok : X.Ok) : ∀ p ∈ scope.names, p.2 = .free → ∃ c, X.env.cells.lookup p.1 = some c := fun p hp hf => ok.has p.1 (.inl (b.free p hp hf))
theorem stk_not {pins : List (Addr × Obj)} {σ : St} {H : Hp} {s : Shared} {b : Addr} (I : Inv X pins σ H s) (h1 : b ≠ X.env.locals) (h2 : b ∉ X.fs) : b ∉ frs X.stack := fun hb => (List.mem_cons.mp (I.stkSub b hb)).elim h1 h2
theorem clos_cells {b : BlockOk X scope N src} (ok : X.Ok) {y : Str} {c : Addr} (h : (closOf X.env.cells scope.names []).lookup y = some c) : X.env.cells.lookup y = some c :=
  closOf_lookup scope.names [] (b.cells ok) (fun _ _ z => by cases z) h
/-- the block's state at its entry -/
theorem Inv.block {pins : List (Addr × Obj)} {σ : St} {H : Hp} {s : Shared} {ex : List Addr} {h1 : Heap} {t' : Nat} {mC : Str → Option Value} (b : BlockOk X scope N src) (I : Inv X pins σ H s) (hk : ∀ b u, s.heap.get? b = some u → h1.get? b = some u) (hC : h1.Ns s.heap.objs.size mC)
    (hex : ∀ c ∈ ex, FpOk X pins H c ∧ c < s.heap.objs.size) : Inv (cxComp X scope N s.heap.objs.size s H ex (X.pn ++ pins)) [] (capOf src σ) H { s with heap := h1, toks := t' } := by
  refine ⟨⟨I.ok.mod, b.kind, I.ok.glob, I.ok.blt, Nat.le_refl _, fun x y c e1 e2 => I.ok.inj x y c (clos_cells (b := b) I.ok e1) (clos_cells (b := b) I.ok e2), fun x hx => ?_, (fun x c z => nomatch z), I.ok.hd, I.ok.frames, .inl rfl, fun c hc => ⟨Nat.ne_of_lt (hex c hc).2, fun x c' e z => (hex c hc).1.2.2.2.2.1 x c' (clos_cells (b := b) I.ok e) z⟩,
    fun c o e => I.bs c o e, Nat.le_trans I.ok.bsz I.sz, fun c o e hc => ?_, fun c hc => stk_not I (hex c hc).1.2.1 (hex c hc).1.2.2.1, I.stack, I.stkFree⟩, rfl, I.bare, Un.kept hk, ⟨mC, hC, fun j y v e1 e2 e3 => ?_⟩, fun y c e => ?_, I.hok.fresh (Nat.le_refl _), fun y c e => I.freeC y c (clos_cells (b := b) I.ok e), fun p hp => ?_, I.hok.kept hk, ?_⟩
  · exact closOf_has scope.names [] (.inl (relabel_back b.nocell hx))
  · rcases (hex c hc).1.2.2.2.1 with z | z
    · exact I.ok.noex c o e z
    · exact absurd (Nat.lt_of_lt_of_le (Nat.lt_of_lt_of_le (Heap.lt_size e) I.ok.bsz) z) (Nat.lt_irrefl _)
  · obtain ⟨i, e4, e5⟩ := capOf_get e2
    obtain ⟨n1, n2, n3⟩ := b.at (show N[j]? = some y from e1) e4
    obtain ⟨m, hm, hl⟩ := I.loc
    obtain ⟨u, r, l⟩ := hl i y v n1 e5 (.inr (.inl n2))
    refine ⟨u, r, .inr ⟨.inl (relabel_free I.ok.kind n3 n2), ?_⟩⟩
    rcases l with ⟨k, _⟩ | ⟨_, c, e, z⟩
    · rw [n2] at k; cases k
    · obtain ⟨c', e'⟩ := closOf_has (cells := X.env.cells) (y := y) scope.names [] (.inl (PySem.mem_of_lookup n3))
      have e2 := clos_cells (b := b) I.ok e'
      rw [e] at e2; cases e2
      obtain ⟨o, ho, hd⟩ := z
      exact ⟨c, e', o, hk _ _ ho, hd⟩
  · obtain ⟨v, o, ho, hd⟩ := I.cell y c (clos_cells (b := b) I.ok e)
    exact ⟨v, o, hk _ _ ho, hd⟩
  · have hp : p ∈ X.pn ++ pins := by simpa [cxComp] using hp
    obtain ⟨e, n, ne, nf, d⟩ := I.pin p hp
    exact ⟨hk _ _ e, n, Nat.ne_of_lt (Heap.lt_size e), stk_not I ne nf, d⟩
  · show (capOf src σ).length = N.length
    unfold capOf
    rw [List.length_map]; exact b.len
/-- behind the block -/
theorem Inv.unblock {pins pins' : List (Addr × Obj)} {σ σ' : St} {H H' : Hp} {s s' : Shared} {ex : List Addr} {h2 : Heap} (b : BlockOk X scope N src) (I : Inv X pins σ H s) (hex : ∀ c ∈ ex, FpOk X pins H c ∧ c < s.heap.objs.size)
    (J : Inv (cxComp X scope N s.heap.objs.size s H ex (X.pn ++ pins)) pins' σ' H' s') (sb : Heap.SameBut s.heap.objs.size s'.heap h2) : Inv X pins σ H' { s' with heap := h2 } := by
  have nC : ∀ b o, s.heap.get? b = some o → b ≠ s.heap.objs.size := fun b o e => Nat.ne_of_lt (Heap.lt_size e)
  have u := J.base
  have u : Un (frs X.stack) ex H H' s.heap s'.heap := u
  refine I.call' (s' := { s' with heap := h2 }) (ch := ex) J.os ⟨fun c o e n hb hx => (sb.2 c (nC c o e)).trans (u.keep c o e n hb hx), fun c o e n hb hx => ?_, u.free, fun c o e hx => ?_, u.tups, u.frzs, u.tbls⟩ (fun a o e => ?_) J.bare fun c hc => ?_
  · obtain ⟨sl, e1⟩ := u.slot c o e n hb hx
    exact ⟨sl, (sb.2 c (nC c o e)).trans e1⟩
  · obtain ⟨o', e1⟩ := u.there c o e hx
    exact ⟨o', (sb.2 c (nC c o e)).trans e1⟩
  · refine (J.hok a o e).stay (fun c v hc q => (sb.2 c ?_).trans q) (fun _ q => q) fun _ _ q => q
    rintro rfl
    have z : H' s.heap.objs.size = none := J.free
    rcases hc with hc | hc
    · rw [← hc, z] at e; cases e
    · rw [z] at hc; cases hc
  · obtain ⟨⟨f0, f1, f2, f3, f4, f5⟩, _⟩ := hex c hc
    exact ⟨f3, f1, f4, f5⟩
theorem comp_core (hc : X.calm = true) (b : BlockOk X scope N src) (hi : PI X tg iter wi)
    (hg : ∀ (C : Addr) (s₀ : Shared) (H₀ : Hp) (ex : List Addr) (pn : List (Addr × Obj)), PG (cxComp X scope N C s₀ H₀ ex pn) tg g)
    (ht : ∀ (C : Addr) (s₀ : Shared) (H₀ : Hp) (ex : List Addr) (pn : List (Addr × Obj)), PTs (cxComp X scope N C s₀ H₀ ex pn) ifs tt)
    (he : ∀ (C : Addr) (s₀ : Shared) (H₀ : Hp) (ex : List Addr) (pn : List (Addr × Obj)), PE (cxComp X scope N C s₀ H₀ ex pn) elt te)
    (hs : ∀ x, foldedSetIterable iter X.env x = pure x) {use : Option (Value → Sem Unit)} {Qv : Value → Shared → Prop} {pins : List (Addr × Obj)} {s : Shared} {σ : St} {H : Hp} {Q : VK} {p1 : Pos} (I : Inv X pins σ H s) (h : tComp wi src g tt te σ H Q)
    (hend : ∀ (D C : Addr) (s5 : Shared) (H5 : Hp), (∃ m, s5.heap.Ns C m) → C ≠ X.env.locals → (∀ x c, X.env.cells.lookup x = some c → c ≠ C) → (∀ p ∈ X.pn ++ pins, p.1 ≠ C) → X.s₀.heap.objs.size ≤ C → H5 C = none → Inv X pins σ H5 s5 → Q (.ref D) H5 →
      compPost (model X.prog X.w) X.A X.xe use Qv (.ref D) C (.ok .next) s5) :
    wpAny (model X.prog X.w) X.A (comprehension (.ListComp elt [⟨tg, iter, ifs, 0⟩] scope pos) scope X.env p1 (newList []) false (eval iter X.env) use) Qv X.xe s := by
  refine wpAny_comprehension_free (use := use) rfl hs (closureFor_eq (b.cells I.ok)) b.kind b.names (thn (hi pins s σ H _ I h) fun v s1 h1 => thn h1 fun itv s2 h2 => ?_)
  obtain ⟨it, fp, tn, J, H2, e, I2, T, st2, f2, hW⟩ := h2
  subst e
  have hD : H2 s2.heap.objs.size = none := I2.hok.fresh (Nat.le_refl _)
  obtain ⟨W, ⟨m0, w0⟩, turn⟩ := hW s2.heap.objs.size hD
  refine wpAny_newObj_type (wpAny_newFunctionEnv b.nocell (fun y hy => nomatch hy) (fun h1 hns1 hsb1 => ?_) b.kind)
  have I3 := I2.lnew (its := []) (ys := []) (t' := s2.toks) .nil (Nat.zero_le _)
  have hsz3 : (s2.heap.push { cls := .type "list", data := .seq ([] : List Value).toArray }).objs.size = s2.heap.objs.size + 1 := Heap.size_push _ _
  have nfpD : ∀ c ∈ fp, c < s2.heap.objs.size := fun c hcf => by
    obtain ⟨o, ho, _⟩ := T.obj 0 _ st2 c hcf
    exact Heap.lt_size ho
  have hex3 : ∀ c ∈ fp, FpOk X pins (upd H2 s2.heap.objs.size (.lst [])) c ∧ c < (s2.heap.push { cls := .type "list", data := .seq ([] : List Value).toArray }).objs.size := fun c hcf => by
    have hl := nfpD c hcf
    obtain ⟨f0, fr⟩ := f2 c hcf
    exact ⟨⟨by rw [upd_ne (Nat.ne_of_lt hl)]; exact f0, fr⟩, by rw [hsz3]; exact Nat.lt_succ_of_lt hl⟩
  have hk3 : ∀ c u, (s2.heap.push { cls := .type "list", data := .seq ([] : List Value).toArray }).get? c = some u → h1.get? c = some u := fun c u e =>
    (hsb1.2 c (Nat.ne_of_lt (Heap.lt_size e))).trans (Heap.get?_push_of_some _ e)
  have IC := Inv.block (t' := s2.toks + ([] : List (Str × Value)).length) b I3 hk3 hns1 hex3
  have st3 : tn 0 h1 := T.keep _ _ _ st2 fun c hcf o ho => hk3 c o (Heap.get?_push_of_some _ ho)
  -- the block
  have loop : codeAny (model X.prog X.w) X.A (.compLoop (.ListComp elt [⟨tg, iter, ifs, 0⟩] scope pos) 0 (.ref it) (.ref s2.heap.objs.size) (cxComp X scope N (s2.heap.push { cls := .type "list", data := .seq ([] : List Value).toArray }).objs.size { s2 with heap := s2.heap.push { cls := .type "list", data := .seq ([] : List Value).toArray }, toks := s2.toks } (upd H2 s2.heap.objs.size (.lst [])) fp (X.pn ++ pins)).env)
      (compPost (model X.prog X.w) X.A X.xe use Qv (.ref s2.heap.objs.size) (s2.heap.push { cls := .type "list", data := .seq ([] : List Value).toArray }).objs.size) { s2 with heap := h1, toks := s2.toks + ([] : List (Str × Value)).length } := by
    generalize hXc : cxComp X scope N (s2.heap.push { cls := .type "list", data := .seq ([] : List Value).toArray }).objs.size { s2 with heap := s2.heap.push { cls := .type "list", data := .seq ([] : List Value).toArray }, toks := s2.toks } (upd H2 s2.heap.objs.size (.lst [])) fp (X.pn ++ pins) = Xc at IC
    have stat : ∀ {H' : Hp}, (∀ c ∈ fp, H' c = none) → ∀ c ∈ fp, FpOk Xc [] H' c := fun {H'} hn c hcf => by
      subst hXc
      obtain ⟨⟨f0, f1, f3, f4, f5, f6⟩, hl⟩ := hex3 c hcf
      exact ⟨hn c hcf, Nat.ne_of_lt hl, stk_not I3 f1 f3, .inl hcf, fun x c' e => f5 x c' (clos_cells (b := b) I3.ok e), fun p hp => f6 p (by simpa [cxComp] using hp)⟩
    have eP : Xc.prog = X.prog := (congrArg Cx.prog hXc).symm
    have eW : Xc.w = X.w := (congrArg Cx.w hXc).symm
    have eK : Xc.K = X.K := (congrArg Cx.K hXc).symm
    have eA : Xc.A = X.A := (congrArg Cx.A hXc).symm
    have eC : Xc.calm = true := (congrArg Cx.calm hXc).symm.trans hc
    have hgc : PG Xc tg g := @Eq.rec _ _ (fun Y _ => PG Y tg g) (hg _ _ _ _ _) _ hXc
    have htc : PTs Xc ifs tt := @Eq.rec _ _ (fun Y _ => PTs Y ifs tt) (ht _ _ _ _ _) _ hXc
    have hec : PE Xc elt te := @Eq.rec _ _ (fun Y _ => PE Y elt te) (he _ _ _ _ _) _ hXc
    have ex0 : Xc.xe = fun _ _ => False := (congrArg Cx.xe hXc).symm
    refine codeAny_compLoop_any (fun n s' => ∃ i σ' H', Inv Xc [] σ' H' s' ∧ tn i s'.heap ∧ (∀ c ∈ fp, H' c = none) ∧ W i n σ' H') ?_ m0 ⟨0, _, _, IC, st3, fun c hcf => (hex3 c hcf).1.1, w0⟩
    rintro n s4 ⟨i, σ4, H4, I4, st4, fr4, w4⟩
    rcases turn i n σ4 H4 w4 with ⟨stop, qn⟩ | ⟨go, Nx, hNx, step⟩
    · have hd := T.done Xc eP eW eK eC i [] s4 σ4 H4 (fun _ _ => False) I4 (stat fr4) st4 stop
      rw [eA] at hd
      refine thn hd fun r s5 ⟨hr, I5⟩ => ?_
      subst hr
      subst hXc
      obtain ⟨m5, hm5, _⟩ := I5.loc
      refine hend s2.heap.objs.size _ s5 H4 ⟨m5, hm5⟩ (Nat.ne_of_gt I3.lt) (fun x c e z => ?_) (fun p hp => Nat.ne_of_lt (Heap.lt_size (I3.pin p hp).1)) I3.sz I5.free (Inv.unblock b I3 hex3 I5 (Heap.SameBut.refl ..)) qn
      obtain ⟨v, q⟩ := I3.cell x c e
      exact absurd q.lt (by rw [z]; exact Nat.lt_irrefl _)
    · have hd := T.item Xc eP eW eK eC i [] s4 σ4 H4 (fun _ _ => False) I4 (stat fr4) st4 go
      rw [eA] at hd
      refine thn hd fun r s5 ⟨u, hr, h5⟩ => ?_
      subst hr
      refine thn h5 fun _ s6 ⟨x, H6, I6, r6, y6, st6, fr6⟩ => ?_
      have I6' := I6.pinned (stat fr6) (T.obj _ _ st6)
      have hq := hgc _ s6 σ4 H6 x u _ I6' r6 (step x H6 y6)
      rw [eP, eW, eA, ex0] at hq
      refine thn hq fun _ s7 ⟨σ7, H7, I7, q7⟩ => ?_
      have hq := htc _ s7 σ7 H7 _ I7 q7
      rw [eP, eW, eA, ex0] at hq
      refine thn hq fun ok s8 ⟨H8, I8, q8⟩ => ?_
      have again : ∀ {σ9 : St} {H9 : Hp} {s9 : Shared}, Inv Xc ([] ++ pinsAt fp s6.heap) σ9 H9 s9 → Nx σ9 H9 → ∃ m, m < n ∧ ∃ i σ' H', Inv Xc [] σ' H' s9 ∧ tn i s9.heap ∧ (∀ c ∈ fp, H' c = none) ∧ W i m σ' H' := fun {σ9 H9 s9} I9 nx9 => by
        obtain ⟨m', hm, w9⟩ := hNx σ9 H9 nx9
        refine ⟨m', hm, i + 1, σ9, H9, I9.unpinned, T.keep _ _ _ st6 fun c hcf o e => (I9.pin (c, o) (List.mem_append_right _ (List.mem_append_right _ (mem_pinsAt hcf e)))).1, fun c hcf => ?_, w9⟩
        obtain ⟨o, e, d⟩ := T.obj _ _ st6 c hcf
        exact (I9.pin (c, o) (List.mem_append_right _ (List.mem_append_right _ (mem_pinsAt hcf e)))).2.1
      cases ok with
      | false =>
        rw [if_neg Bool.false_ne_true] at q8
        rw [if_neg Bool.false_ne_true]
        exact again I8 q8
      | true =>
        rw [if_pos rfl] at q8
        rw [if_pos rfl]
        have hq := hec _ s8 σ7 H8 _ I8 q8
        rw [eP, eW, eA, ex0] at hq
        refine thn hq fun y s9 ⟨yv, H9, I9, ry, zs, hz, hzl, q9⟩ => ?_
        have ha := mt_append (X := Xc) _ s9 σ7 H9 (.ref s2.heap.objs.size) [yv] (.ref s2.heap.objs.size) [y] (fun _ H' => H' = upd H9 s2.heap.objs.size (.lst (zs ++ [yv]))) I9 rfl (.cons ry .nil) ⟨_, zs, yv, rfl, rfl, hz, hzl, rfl⟩
        rw [eP, eW, eA, ex0] at ha
        refine thn ha fun _ s10 ⟨v10, H10, I10, _, e10⟩ => ?_
        subst e10
        exact again I10 q9
  exact codeAny_compStart_list loop (T.self X.A 0 _ _ _ st3 loop)
theorem pe_comp (hc : X.calm = true) (b : BlockOk X scope N src) (hi : PI X tg iter wi)
    (hg : ∀ (C : Addr) (s₀ : Shared) (H₀ : Hp) (ex : List Addr) (pn : List (Addr × Obj)), PG (cxComp X scope N C s₀ H₀ ex pn) tg g)
    (ht : ∀ (C : Addr) (s₀ : Shared) (H₀ : Hp) (ex : List Addr) (pn : List (Addr × Obj)), PTs (cxComp X scope N C s₀ H₀ ex pn) ifs tt)
    (he : ∀ (C : Addr) (s₀ : Shared) (H₀ : Hp) (ex : List Addr) (pn : List (Addr × Obj)), PE (cxComp X scope N C s₀ H₀ ex pn) elt te)
    (hs : ∀ x, foldedSetIterable iter X.env x = pure x := by intro _; rfl) : PE X (.ListComp elt [⟨tg, iter, ifs, 0⟩] scope pos) (tComp wi src g tt te) := by
  intro pins s σ H Q I h
  rw [eval_ListComp]
  refine comp_core hc b hi hg ht he hs (use := none) I h fun D C s5 H5 ⟨m, hm⟩ h1 h2 h3 h4 h5 I5 q => ?_
  exact ⟨m, hm, fun h' sb => ⟨.ref D, H5, I5.turned (t' := s5.toks) (fun c o nc e => (sb.2 c nc).trans e) h5 h1 (.inr h4) h2 h3, rfl, q⟩⟩
/-- y = [..], where the store stands ahead of the letting go -/
theorem ps_setC {i : Nat} {y : Str} {py spos : Pos} (hN : X.N.Nodup) (hi0 : X.N[i]? = some y) (hy : X.env.scope.names.lookup y = some .local) (hc : X.calm = true) (b : BlockOk X scope N src) (hi : PI X tg iter wi)
    (hg : ∀ (C : Addr) (s₀ : Shared) (H₀ : Hp) (ex : List Addr) (pn : List (Addr × Obj)), PG (cxComp X scope N C s₀ H₀ ex pn) tg g)
    (ht : ∀ (C : Addr) (s₀ : Shared) (H₀ : Hp) (ex : List Addr) (pn : List (Addr × Obj)), PTs (cxComp X scope N C s₀ H₀ ex pn) ifs tt)
    (he : ∀ (C : Addr) (s₀ : Shared) (H₀ : Hp) (ex : List Addr) (pn : List (Addr × Obj)), PE (cxComp X scope N C s₀ H₀ ex pn) elt te)
    (hsw : swapsWith (.ListComp elt [⟨tg, iter, ifs, 0⟩] scope pos) (some (.Name y py)) spos.line X.env = pure true := by with_unfolding_all rfl)
    (hs : ∀ x, foldedSetIterable iter X.env x = pure x := by intro _; rfl) : PS X (.Assign [.Name y py] (.ListComp elt [⟨tg, iter, ifs, 0⟩] scope pos) spos) (tAsg (tComp wi src g tt te) (gName i)) := by
  intro pins s σ H D I h
  rw [exec_Assign_Name_used _ _ _ _ hsw]
  refine wpAny_bind (wpAny_standAt (wpAny_bind ?_))
  show wpAny _ X.A (do let _ ← comprehension (.ListComp elt [⟨tg, iter, ifs, 0⟩] scope pos) scope X.env _ (newList []) false (eval iter X.env) (some (assign (.Name y py) X.env))) _ _ s
  refine wpAny_bind (wpAny_mono (comp_core hc b hi hg ht he hs (use := some (assign (.Name y py) X.env)) (Qv := fun _ s' => SP X pins D .next s') I h fun D' C s5 H5 ⟨m, hm⟩ h1 h2 h3 h4 h5 I5 q => ?_) (fun _ s' hq => wpAny_pure (wpAny_pure hq)) fun _ _ e => e)
  show wpAny _ X.A (assign (.Name y py) X.env (.ref D')) _ _ _
  refine wpAny_assign_Name (store_ok2 I5 hN hi0 (.inl hy) (show RelV (.ref D') (.ref D') from rfl) (fun s6 I6 ⟨a, sb6, ha⟩ => ?_) (.inr hy))
  have hCa : C ≠ a := by
    rcases ha with rfl | ha
    · exact h1
    · exact fun z => h2 _ _ ha z.symm
  exact ⟨m, hm.sameBut sb6 hCa, fun h' sb => ⟨_, H5, I6.turned (t' := s6.toks) (fun c o nc e => (sb.2 c nc).trans e) h5 h1 (.inr h4) h2 h3, q⟩⟩
end

/-! ### inside a block: the fragment by its own name -/
section
variable {X : Cx} {K : PySem.W.Frag} {a b e : Expr} {f : Str} {ta tb : TE} {pos : Pos}
theorem pe_ixB (hK : X.K = K) (ha : PE X a ta) (hb : PE X b tb) (hs : PlainIx b) : PE X (.Subscript a b pos) (tOp (rIxL K) ta tb) := by subst hK; exact pe_ix ix_list ha hb hs
theorem pe_ixTB (hK : X.K = K) (ha : PE X a ta) (hb : PE X b tb) (hs : PlainIx b) : PE X (.Subscript a b pos) (tOp (rIxT K) ta tb) := by subst hK; exact pe_ix ix_tup ha hb hs
end
/-! ### the forms one uses -/
/-- over a list that the block leaves as it is -/
theorem comp_list {K : PySem.W.Frag} {a : Addr} {xs : List V} {src : List (Option Nat)} {g : TG} {tt : TT} {te : TE} {Q : VK} {σ : St} {H1 : Hp} {D : Addr} (Pv : Nat → St → Hp → Prop) (h0 : Pv 0 (capOf src σ) (upd H1 D (.lst [])))
    (hl : ∀ i σ1 H2, i ≤ xs.length → Pv i σ1 H2 → SqL K H2 a xs)
    (hs : ∀ i x σ1 H2, xs[i]? = some x → Pv i σ1 H2 → g x σ1 H2 fun σ4 H4 => tt σ4 H4 fun b H5 =>
      if b = true then te σ4 H5 fun y H6 => ∃ zs, H6 D = some (.lst zs) ∧ zs.length < sizeLine ∧ Pv (i + 1) σ4 (upd H6 D (.lst (zs ++ [y]))) else Pv (i + 1) σ4 H5)
    (hd : ∀ σ1 H2, Pv xs.length σ1 H2 → Q (.ref D) H2) :
    CompW (Itl K a) src g tt te Q σ H1 D := by
  refine ⟨fun i m σ H => m = xs.length - i ∧ i ≤ xs.length ∧ Pv i σ H, ⟨xs.length, by simp, Nat.zero_le _, h0⟩, ?_⟩
  rintro i m σ1 H2 ⟨rfl, hi, p⟩
  have q := hl i σ1 H2 hi p
  by_cases hlt : i < xs.length
  · refine .inr ⟨⟨xs, xs[i], q, by simp [hlt]⟩, Pv (i + 1), fun σ' H' p' => ⟨xs.length - (i + 1), by omega, rfl, hlt, p'⟩, fun x H' y => ?_⟩
    obtain ⟨e, y⟩ := y
    subst e
    exact hs i x σ1 _ (y xs q) p
  · have e : i = xs.length := by omega
    subst e
    exact .inl ⟨⟨xs, q, Nat.le_refl _⟩, hd σ1 H2 p⟩
theorem comp_range {lo : Int} {n : Nat} {src : List (Option Nat)} {g : TG} {tt : TT} {te : TE} {Q : VK} {σ : St} {H1 : Hp} {D : Addr} (Pv : Nat → St → Hp → Prop) (h0 : Pv 0 (capOf src σ) (upd H1 D (.lst [])))
    (hs : ∀ i σ1 H2, i < n → Pv i σ1 H2 → g (.int (lo + i)) σ1 H2 fun σ4 H4 => tt σ4 H4 fun b H5 =>
      if b = true then te σ4 H5 fun y H6 => ∃ zs, H6 D = some (.lst zs) ∧ zs.length < sizeLine ∧ Pv (i + 1) σ4 (upd H6 D (.lst (zs ++ [y]))) else Pv (i + 1) σ4 H5)
    (hd : ∀ σ1 H2, Pv n σ1 H2 → Q (.ref D) H2) :
    CompW (Itr lo n) src g tt te Q σ H1 D := by
  refine ⟨fun i m σ H => m = n - i ∧ i ≤ n ∧ Pv i σ H, ⟨n, by simp, Nat.zero_le _, h0⟩, ?_⟩
  rintro i m σ1 H2 ⟨rfl, hi, p⟩
  by_cases hlt : i < n
  · refine .inr ⟨hlt, Pv (i + 1), fun σ' H' p' => ⟨n - (i + 1), by omega, rfl, hlt, p'⟩, fun x H' y => ?_⟩
    obtain ⟨e, y⟩ := y
    subst e y
    exact hs i σ1 _ hlt p
  · have e : i = n := by omega
    subst e
    exact .inl ⟨Nat.le_refl _, hd σ1 H2 p⟩
end L2

set_option Elab.async false
set_option linter.all false
set_option maxRecDepth 100000
set_option maxHeartbeats 4000000
/-! enumerate; min, max; == of data; isinstance. -/
namespace L2
open PySem PySem.Spec PyProof.Rows

/-! ### for i, x in enumerate(xs) -/
section
variable {X : Cx} {es : List Expr} {k1 : Nat} {tp : Pos}
end


/-! ### min(xs), max(xs) of a list of ints -/
theorem ints_of_vals : ∀ {ns : List Int} {vs : List Value}, Vals (ns.map V.int) vs → IntsAre vs ns
  | [], _, .nil => .nil
  | n :: ns, _, .cons ⟨t, e⟩ r => by subst e; exact .cons n t (ints_of_vals r)
section
variable {X : Cx}
end

/-! ### a value as data -/
mutual
inductive Dt (K : PySem.W.Frag) (H : Hp) : V → PyData → Prop
  | non : Dt K H .non .none
  | bl (b : Bool) : Dt K H (.bl b) (.bool b)
  | int (i : Int) : Dt K H (.int i) (.int i)
  | str (x : Str) : Dt K H (.str x) (.str x)
  | lst {a : Addr} {xs : List V} {ds : List PyData} : SqL K H a xs → Dts K H xs ds → Dt K H (.ref a) (.list ds)
  | tup {a : Addr} {xs : List V} {ds : List PyData} : SqT K H a xs → Dts K H xs ds → Dt K H (.ref a) (.tuple ds)
inductive Dts (K : PySem.W.Frag) (H : Hp) : List V → List PyData → Prop
  | nil : Dts K H [] []
  | cons {x : V} {d : PyData} {xs : List V} {ds : List PyData} : Dt K H x d → Dts K H xs ds → Dts K H (x :: xs) (d :: ds)
end
theorem dts_ints {K : PySem.W.Frag} {H : Hp} : ∀ (ns : List Int), Dts K H (ns.map V.int) (ns.map PyData.int)
  | [] => .nil
  | n :: ns => .cons (.int n) (dts_ints ns)
section
variable {X : Cx} {pins : List (Addr × Obj)} {σ : St} {H : Hp} {s : Shared}
mutual
theorem Dt.reads (I : Inv X pins σ H s) : ∀ {v : V} {d : PyData} {u : Value}, Dt X.K H v d → RelV v u → ∃ as, Reads s.heap u d as
  | _, _, _, .non, r => by cases r; exact ⟨_, .none⟩
  | _, _, _, .bl b, r => by cases r; exact ⟨_, .bool b⟩
  | _, _, _, .int i, r => by obtain ⟨t, rfl⟩ := r; exact ⟨_, .int i t⟩
  | _, _, _, .str x, r => by obtain ⟨t, rfl⟩ := r; exact ⟨_, .str x t⟩
  | _, _, _, .lst hq hd, r => by
    cases r
    obtain ⟨its, rv, ⟨o, n, e, c, _, d⟩, _⟩ := I.list hq
    obtain ⟨as, q⟩ := Dts.reads I hd rv
    exact ⟨_, .list e c d (by simpa using q)⟩
  | _, _, _, .tup hq hd, r => by
    cases r
    obtain ⟨its, rv, ⟨o, e, c, n, d⟩, _⟩ := I.tuple hq
    obtain ⟨as, q⟩ := Dts.reads I hd rv
    exact ⟨_, .tuple e c d (by simpa using q)⟩
theorem Dts.reads (I : Inv X pins σ H s) : ∀ {vs : List V} {ds : List PyData} {us : List Value}, Dts X.K H vs ds → Vals vs us → ∃ as, ReadsAll s.heap us ds as
  | _, _, _, .nil, r => by cases r; exact ⟨_, .nil⟩
  | _, _, _, .cons hd hr, r => by
    cases r with
    | cons r1 r2 =>
      obtain ⟨as, q⟩ := Dt.reads I hd r1
      obtain ⟨bs, q2⟩ := Dts.reads I hr r2
      exact ⟨_, .cons q q2⟩
end
/-- == and != of data -/
def rEqD (K : PySem.W.Frag) (neg : Bool) : R2 := fun x y H Q => ∃ dx dy, Dt K H x dx ∧ Dt K H y dy ∧ dx.canLay0 = true ∧ dy.canLay0 = true ∧ min dx.depth dy.depth ≤ 60 ∧ Q (.bl (if neg then !PyData.eqv dx dy else PyData.eqv dx dy)) H
theorem op_eqD (hu : X.A.units + 60 < cLine) : OpR X (compareOp .Eq) (rEqD X.K false) := by
  intro pins s σ H x y v u Q I rx ry h
  obtain ⟨dx, dy, hx, hy, cx, cy, hd, q⟩ := h
  obtain ⟨as, ra⟩ := Dt.reads I hx rx
  obtain ⟨bs, rb⟩ := Dt.reads I hy ry
  exact SeqAt.compareEq_reads ra rb cx cy (by omega) ⟨.bl _, H, I, rfl, q⟩
theorem op_neD (hu : X.A.units + 60 < cLine) : OpR X (compareOp .NotEq) (rEqD X.K true) := by
  intro pins s σ H x y v u Q I rx ry h
  obtain ⟨dx, dy, hx, hy, cx, cy, hd, q⟩ := h
  obtain ⟨as, ra⟩ := Dt.reads I hx rx
  obtain ⟨bs, rb⟩ := Dt.reads I hy ry
  exact SeqAt.compareNe_reads ra rb cx cy (by omega) ⟨.bl _, H, I, rfl, q⟩
end
theorem eqvAll_ints : ∀ (ns ms : List Int), PyData.eqvAll (ns.map PyData.int) (ms.map PyData.int) = decide (ns = ms)
  | [], [] => by simp [PyData.eqvAll]
  | [], _ :: _ => by simp [PyData.eqvAll]
  | _ :: _, [] => by simp [PyData.eqvAll]
  | n :: ns, m :: ms => by
    rw [List.map_cons, List.map_cons, PyData.eqvAll, eqvAll_ints ns ms, PyData.eqv, Bool.eq_iff_iff]
    simp
theorem eqv_ints (ns ms : List Int) : PyData.eqv (.list (ns.map PyData.int)) (.list (ms.map PyData.int)) = decide (ns = ms) := by rw [PyData.eqv, eqvAll_ints]
theorem can_ints : ∀ (ns : List Int), PyData.canLayAll0 (ns.map PyData.int) = true
  | [] => by simp [PyData.canLayAll0]
  | n :: ns => by rw [List.map_cons, PyData.canLayAll0, can_ints ns]; simp [PyData.canLay0]
theorem depth_ints : ∀ (ns : List Int), PyData.depthAll (ns.map PyData.int) = 0
  | [] => by simp [PyData.depthAll]
  | n :: ns => by rw [List.map_cons, PyData.depthAll, depth_ints ns]; simp [PyData.depth]

/-! ### isinstance(x, C) -/
section
variable {X : Cx} {x : Str} {p pos np : Pos} {e : Expr} {te : TE} {c : Value}
/-- what a value's class is: built-in kinds, own instances, exceptions -/
inductive TyX (K : PySem.W.Frag) (H : Hp) : V → Value → Prop where
  | of {v : V} {t : Value} : TyOf K H v t → TyX K H v t
  | exc {ea C : Addr} : H ea = some (.ext (excAt ea C)) → ECls K C → TyX K H (.ref ea) (.ref C)
theorem isi_ok {pins : List (Addr × Obj)} {σ : St} {H : Hp} {s : Shared} {v : V} {u t : Value} {b : Bool} {Q : Value → Shared → Prop} {A : Around} {E : Value → Shared → Prop} (I : Inv X pins σ H s) (r : RelV v u) (ty : TyX X.K H v t) (e : PySem.W.kitOne X.K t c = some b) (h : ∀ tk, Q (.bool b) { s with toks := tk }) :
    wpAny (model X.prog X.w) A (call (.builtin "isinstance") [u, c]) Q E s := by
  cases ty with
  | of ty => exact isinst_ok I r ty e h
  | @exc ea C hH hc =>
    cases r
    obtain ⟨hx, _, _⟩ := (show ObjOk X.prog X.w H s.heap ea (.ext (excAt ea C)) from I.hok ea _ hH)
    exact PySem.W.kia_one (kitx_exc hc) I.kIn hx e (fun z => nomatch z) h
def clsV : V → Value
  | .ref a => .ref a
  | .ty n => .type n
  | _ => .none
theorem call_isi : CallR X (.builtin "isinstance") (fun xs H Q => ∃ v cV t b, xs = [v, cV] ∧ TyX X.K H v t ∧ clsV cV ≠ .none ∧ PySem.W.kitOne X.K t (clsV cV) = some b ∧ Q (.bl b) H) := by
  intro pins s σ H xs us Q I r h
  obtain ⟨v, cV, t, b, rfl, ty, nc, ek, q⟩ := h
  obtain ⟨u1, u2, rfl, ru, rc⟩ := r.two
  have ec : u2 = clsV cV := by
    cases cV with
    | ref a => exact rc
    | ty n => exact rc
    | _ => exact absurd rfl nc
  subst ec
  exact isi_ok I ru ty ek fun tk => ⟨.bl b, H, I.tok _, rfl, q⟩
theorem call_isiB {K : PySem.W.Frag} (hK : X.K = K) : CallR X (.builtin "isinstance") (fun xs H Q => ∃ v cV t b, xs = [v, cV] ∧ TyX K H v t ∧ clsV cV ≠ .none ∧ PySem.W.kitOne K t (clsV cV) = some b ∧ Q (.bl b) H) := by subst hK; exact call_isi
end
end L2

set_option Elab.async false
set_option linter.all false
set_option maxRecDepth 100000
set_option maxHeartbeats 4000000
/-! xs.index(v); min of a list of pairs; sorted of ints. -/
namespace L2
open PySem PySem.Spec PyProof.Rows

/-! ### xs.index(v), flat items -/
theorem vals_at : ∀ {xs : List V} {us : List Value} {i : Nat} {u : Value}, Vals xs us → us[i]? = some u → ∃ x, xs[i]? = some x ∧ RelV x u
  | _, _, i, u, .nil, h => by cases i <;> cases h
  | x :: xs, v :: us, 0, u, .cons r t, h => ⟨x, rfl, by cases h; exact r⟩
  | x :: xs, v :: us, i + 1, u, .cons r t, h => by
    have := vals_at (xs := xs) (us := us) (i := i) (u := u) t (by simpa using h)
    simpa using this

/-! ### min(xs) where the items are compared by what the heap holds -/
section
variable {prog : Program} {w : World} {A : Around} {R : Result → Shared → Prop} {I S : Addr} {fp wr : List Addr} {n : Nat} {P : Nat → Value → Prop} {St : Nat → Heap → Prop} {bt : Nat → Nat → Bool} {G : Heap → Prop}
end

/-! ### sorted(xs) of ints -/
theorem vals_of_ints : ∀ {vs : List Value} {ns : List Int}, IntsAre vs ns → Vals (ns.map V.int) vs
  | _, _, .nil => .nil
  | _, _, .cons n t r => .cons ⟨t, rfl⟩ (vals_of_ints r)
theorem call_sortedI {X : Cx} : CallR X (.builtin "sorted") (fun xs H Q => ∃ (p : Addr) (ns : List Int), xs = [.ref p] ∧ SqL X.K H p (ns.map V.int) ∧ ns.length < 64 ∧ ∀ (l : Addr) (ms : List Int), H l = none → ms.Perm ns → ms.Pairwise (· ≤ ·) → Q (.ref l) (upd H l (.lst (ms.map V.int)))) := by
  intro pins s σ H xs us Q I r h
  obtain ⟨p, ns, rfl, hq, h64, q⟩ := h
  obtain ⟨u, rfl, ru⟩ := r.one
  cases ru
  obtain ⟨its, rv, pl, hz⟩ := I.list hq
  have hi := ints_of_vals rv
  have hl : its.length = ns.length := by rw [← rv.length, List.length_map]
  refine sorted_ints pl.isList hi (by omega) fun out ms a1 a2 a3 => ?_
  obtain ⟨e, he⟩ := sortedAll_at s.heap its out
  have hsl : (64 : Nat) ≤ sizeLine := by decide
  refine ⟨.ref (s.heap.objs.size + 1), _, I.laid (t' := s.toks) (o := .lst (ms.map V.int)) (fun b o q => sortedAll_old q) (Nat.le_succ _) ⟨by rw [List.length_map, a2.length_eq]; omega, out.toList, e, vals_of_ints a1, ?_⟩, rfl, q _ ms (I.hok.fresh (Nat.le_succ _)) a2 a3⟩
  rw [he, Array.toArray_toList]
end L2

set_option Elab.async false
set_option linter.all false
set_option maxRecDepth 100000
set_option maxHeartbeats 4000000
namespace L2
open PySem PySem.W PySem.Spec PyProof.Rows
/-! THE SORT, over a pure order of the places: KasT's tree ends with the places in order. -/
section
variable {α β : Type} {lt : Nat → Nat → Bool} {n : Nat}
end
section
variable {prog : Program} {w : World} {A : Around} {E : Value → Shared → Prop} {s : Shared} {a : Addr} {vs : List Value} {lt : Nat → Nat → Bool}
end
end L2

set_option Elab.async false
set_option linter.all false
set_option maxRecDepth 100000
set_option maxHeartbeats 4000000
/-! range as a value, list of it; calls that raise nothing here. -/
namespace L2
open PySem PySem.Spec PyProof.Rows
/-- what would be raised is shown not to be -/
theorem passF {X : Cx} : Passes (CXF X.prog X.w) X (fun _ _ _ => False) := fun _ _ _ _ _ _ _ ⟨_, _, _, _, _, _, _, z⟩ => z.elim
theorem boot_rangeT : bootBuiltins "range" = some (.type "range") := by decide +kernel
theorem call_rangeV {X : Cx} : CallR X (.type "range") (fun xs H Q => ∃ j : Int, xs = [.int j] ∧ ∀ r : Addr, H r = none → Q (.ref r) (upd H r (.rng 0 j))) := by
  intro pins s σ H xs us Q I r h
  obtain ⟨j, rfl, q⟩ := h
  obtain ⟨u, rfl, t, rfl⟩ := r.one
  refine call_range_1 ⟨.ref s.heap.objs.size, _, I.laid (t' := s.toks + 1 + 1) (o := .rng 0 j) (fun b o q => Heap.get?_push_of_some _ q) (Nat.le_refl _) ⟨_, _, _, Heap.get?_push_size _ rfl⟩, rfl, q _ (I.hok.fresh (Nat.le_refl _))⟩
theorem items_vals {acc : Array Value} {n : Nat} (h : ItemsOf (fun i v => ∃ t, v = .int (0 + (i : Int) * 1) t) acc n) : Vals ((List.range n).map fun i : Nat => V.int i) acc.toList := by
  obtain ⟨hs, hi⟩ := h
  have go : ∀ (m : Nat), m ≤ n → Vals ((List.range' (n - m) m).map fun i : Nat => V.int i) (acc.toList.drop (n - m)) := by
    intro m
    induction m with
    | zero => intro _; rw [Nat.sub_zero, List.drop_eq_nil_of_le (by rw [Array.length_toList]; omega)]; exact .nil
    | succ m ih =>
      intro hm
      have hlt : n - (m + 1) < acc.toList.length := by rw [Array.length_toList]; omega
      rw [List.drop_eq_getElem_cons hlt, List.range'_succ, List.map_cons, show n - (m + 1) + 1 = n - m by omega]
      refine .cons ?_ (ih (by omega))
      obtain ⟨t, e⟩ := hi (n - (m + 1)) _ (Array.getElem?_eq_getElem (by omega))
      refine ⟨t, ?_⟩
      rw [Array.getElem_toList, e]
      congr 1
      omega
  have := go n (Nat.le_refl _)
  rw [Nat.sub_self, List.drop_zero] at this
  rw [List.range_eq_range']
  exact this
end L2

set_option Elab.async false
set_option linter.all false
set_option maxRecDepth 100000
set_option maxHeartbeats 4000000
/-! texts: slices, startswith. -/
namespace L2
open PySem PySem.Spec PyProof.Rows
/-! ### len within a try; a def that is called while an exception is handled -/
section
variable {P : Program} {w : World} {K : PySem.W.Frag} {mg : Str → Option Value} {base : Heap} {N ps : List Str} {qual : Str} {scope : Scope} {f : Addr} {cd : Value} {A : Around} {outer : List Env} {s s1 : Shared} {H : Hp} {E : XK}
end
end L2

set_option Elab.async false
set_option linter.all false
set_option maxRecDepth 100000
set_option maxHeartbeats 4000000
/-! texts: walked sign by sign; joined; read as a number; all(list). -/
namespace L2
open PySem PySem.Spec PyProof.Rows
section
variable {P : Program} {w : World} {K : PySem.W.Frag} {tg : Expr} {z : Str} {t : Tok} {it : Addr} {ty : String}
end
section
variable {X : Cx} {tg : Expr}
end
/-! ### int(text), sep.join(list), all(list) -/
end L2

set_option Elab.async false
set_option linter.all false
set_option maxRecDepth 100000
set_option maxHeartbeats 4000000
/-! sorted(range(n), key=lambda i: xs[i]): the range collected, the lambda made and called, the sort. -/
namespace L2
open PySem PySem.Spec PyProof.Rows

section
variable {prog : Program} {w : World} {A : Around} {E : Value → Shared → Prop} {s : Shared}
theorem code_collect_rng {r : Addr} {n : Int} {t u v : Tok} {R : Result → Shared → Prop} (hh : A.handled = none) (hr : IsRange s.heap r 0 n 1 t u v) (h0 : 0 ≤ n) (h1 : n ≤ 1000)
    (hR : ∀ h' tk acc c, (∀ b o, s.heap.get? b = some o → h'.get? b = some o) → h'.get? s.heap.objs.size = some { cls := .type "list", data := .seq acc c } → ItemsOf (fun i v => ∃ t, v = .int (0 + (i : Int) * 1) t) acc n.toNat → R (.ok (.ret (.ref s.heap.objs.size))) { s with heap := h', toks := tk }) :
    codeAny (model prog w) A (.builtin "proto.collect" ⟨[.ref r], []⟩) R s := by
  refine codeAny_builtin F.entry_proto_collect ?_
  rw [Around.under_plainId F.plain_proto_collect _]
  show wpAny _ A.in1 (newList [] >>= fun l => again (.builtin "list.__iadd__" ⟨[l, .ref r], []⟩)) _ _ s
  refine wpAny_bind (wpAny_newObj_type ?_)
  refine wpAny_pure ⟨plainId_quiet F.plain_list_iadd _, codeAny_builtin F.entry_list_iadd ?_⟩
  rw [Around.under_plainId F.plain_list_iadd _]
  show wpAny _ A.in1 (Builtin.List.listExtendWith (.ref s.heap.objs.size) (.ref r) (.ref s.heap.objs.size)) _ _ _
  have hS : (s.heap.push { cls := .type "list", data := .seq ([] : List Value).toArray }).get? s.heap.objs.size = some { cls := .type "list", data := .seq #[] 0 } := Heap.get?_push_size _ rfl
  exact wpAny_extend_range (s := { s with heap := s.heap.push { cls := .type "list", data := .seq ([] : List Value).toArray } }) (n := n.toNat) hh (show IsRange _ r 0 n 1 t u v from Heap.get?_push_of_some _ hr) (small_one (by omega) (by omega) (by omega) (by omega)) (by rw [rangeSize_one]; split <;> omega) (by omega) s.heap.objs.size (.ref s.heap.objs.size) 0 hS fun h' tk acc c hk hS' hacc =>
    hR h' tk acc c (fun b o e => hk b o (Nat.ne_of_lt (Heap.lt_size e)) (Heap.get?_push_of_some _ e)) hS' hacc
theorem collect_rng {r : Addr} {n : Int} {t u v : Tok} {Q : List Value → Shared → Prop} (hh : A.handled = none) (hr : IsRange s.heap r 0 n 1 t u v) (h0 : 0 ≤ n) (h1 : n ≤ 1000)
    (hQ : ∀ h' tk acc, (∀ b o, s.heap.get? b = some o → h'.get? b = some o) → s.heap.objs.size < h'.objs.size → ItemsOf (fun i v => ∃ t, v = .int (0 + (i : Int) * 1) t) acc n.toNat → Q acc.toList { s with heap := h', toks := tk }) :
    wpAny (model prog w) A (collect (.ref r)) Q E s := by
  unfold collect
  refine wpAny_bind (wpAny_runValue (code_collect_rng hh hr h0 h1 fun h' tk acc c hk hS' hacc => ?_))
  show wpAny _ A (load s.heap.objs.size >>= _) _ _ _
  refine wpAny_bind (wpAny_load hS' ?_)
  exact wpAny_pure (hQ h' tk acc hk (Heap.lt_size hS') hacc)

theorem items_ints : ∀ {acc : Array Value} {n : Nat}, ItemsOf (fun i v => ∃ t, v = .int (0 + (i : Int) * 1) t) acc n → IntsAre acc.toList ((List.range n).map fun i : Nat => (i : Int)) := fun h => by
  have := items_vals h
  rw [show ((List.range _).map fun i : Nat => V.int i) = ((List.range _).map fun i : Nat => (i : Int)).map V.int by rw [List.map_map]; rfl] at this
  exact ints_of_vals this

/-- what a key's turn gives -/
def TurnEnd (h : Heap) (k : Int) (s : Shared) (v : Value) (s' : Shared) : Prop := ∃ h' tk t, s' = { s with heap := h', toks := tk } ∧ v = .int k t ∧ ∀ b o, h.get? b = some o → h'.get? b = some o
theorem call_sorted_rng {r L f : Addr} {n : Int} {t u v : Tok} {h₀ : Heap} {m : Str → Option Value} {Q : Value → Shared → Prop} (g : Int → Int) (hh : A.handled = none) (hr : IsRange s.heap r 0 n 1 t u v) (h0 : 0 ≤ n) (h64 : n < 64) (F0 : Fr h₀ L s.heap m)
    (turn : ∀ (i : Int) (t : Tok) (h : Heap) (tk : Nat), 0 ≤ i → i < n → Fr h₀ L h m → (∀ b o, b ≠ L → s.heap.get? b = some o → h.get? b = some o) →
      wpAny (model prog w) A.in1.in1 (call (.ref f) [.int i t]) (TurnEnd h (g i) s) (fun _ _ => False) { s with heap := h, toks := tk })
    (done : ∀ D h' tk out c (ms : List Int), Fr h₀ L h' m → (∀ b o, b ≠ L → s.heap.get? b = some o → h'.get? b = some o) → h'.get? D = some (seqObj "list" out c) → s.heap.objs.size ≤ D → IntsAre out.toList ms →
      ms.Perm ((List.range n.toNat).map fun i : Nat => (i : Int)) → ms.Pairwise (fun x y => g x ≤ g y) → Q (.ref D) { s with heap := h', toks := tk }) :
    wpAny (model prog w) A (call (.builtin "sorted") [.ref r] [(Str.ofString "key", .ref f)]) Q E s := by
  refine call_function_entry_kw kind_sorted plain_sorted entry_sorted (ksk_s1 _ _) ?_
  unfold Builtin.«sorted»
  refine wpAny_bind (m := checkCount "sorted" 1 1 _) (wpAny_pure ?_)
  refine wpAny_bind (collect_rng hh hr h0 (by omega) fun h1 tk1 acc k1 hsz it => ?_)
  have hi := items_ints it
  have hlen : acc.toList.length = n.toNat := by rw [hi.length, List.length_map, List.length_range]
  have hsl : (1000 : Nat) ≤ sizeLine := by decide
  refine wpAny_bind (wpAny_newList ?_ (by omega))
  have hL1 : L < h1.objs.size := (F0.kept k1).ns.lt
  have keep : ∀ b o, s.heap.get? b = some o → (h1.push (seqObj "list" acc.toList.toArray 0)).get? b = some o := fun b o q => Heap.get?_push_of_some _ (k1 b o q)
  have hoL : (h1.push (seqObj "list" acc.toList.toArray 0)).get? h1.objs.size = some (seqObj "list" acc.toList.toArray 0) := Heap.get?_push_size _ rfl
  have kOf : ∀ {h : Heap} {own : List (Addr × Obj)}, Fr h₀ L h m → News h₀ L h (allNews h₀ s.heap L ++ own) → ∀ b o, b ≠ L → s.heap.get? b = some o → h.get? b = some o := fun {h own} F' N' b o hb e => by
    cases q : h₀.get? b with
    | some u =>
      have := F0.keep b u q
      rw [e] at this; cases this
      exact F'.keep b _ q
    | none => exact (N' (b, o) (List.mem_append_left _ (mem_allNews hb q e))).1
  refine wpAny_bind (wpAny_holding (wpAny_call_entry_kw slot_list_sort ⟨_, hoL, rfl⟩ entry_list_sort ?body (ksk_l1 _ _)))
  case body =>
    show wpAny (model prog w) A.in1.in1 (Builtin.«list.sort» ⟨[.ref h1.objs.size], [(Str.ofString "key", .ref f)]⟩) _ _ _
    rw [ksk_t1]
    refine ksk_sort (s := { s with heap := h1.push (seqObj "list" acc.toList.toArray 0), toks := tk1 }) (kz := ((List.range n.toNat).map fun i : Nat => (i : Int)).map g) (vs := acc.toList) (news := allNews h₀ s.heap L) (F0.kept keep) (News.grown news_all keep) hoL (Nat.ne_of_gt hL1)
      (Heap.get?_none_of_le (Nat.le_trans F0.above (Nat.le_of_lt hL1))) (fun p hp => Nat.ne_of_lt (Nat.lt_trans (Heap.lt_size (of_mem_allNews hp).2.2) hsz)) (by rw [List.length_map, ← hi.length]) (by omega) (fun i v k hv hk h tk own F' N' => ?_) fun h' tk out c F' N' ko => ⟨_, rfl, ?_⟩
    · have hil : i < n.toNat := by rw [← hlen]; exact (List.getElem?_eq_some_iff.mp hv).1
      have hz : ((List.range n.toNat).map fun i : Nat => (i : Int))[i]? = some (i : Int) := by simp [hil]
      obtain ⟨t', e'⟩ := hi.get i _ hz
      rw [hv] at e'; cases e'
      rw [List.getElem?_map, hz] at hk
      cases hk
      refine wpAny_mono (turn i t' h tk (by omega) (by omega) F' (kOf F' N')) (fun v s' ⟨h2, tk2, t2, e1, e2, k2⟩ => ?_) fun _ _ z => z
      exact ⟨h2, tk2, t2, e1, e2, F'.kept k2, N'.grown k2⟩
    · obtain ⟨zs, zp, zo, zs'⟩ := ko
      have rel : ∀ z, z ∈ (((List.range n.toNat).map fun i : Nat => (i : Int)).map g).zip acc.toList → z.1 = g (numOf z.2) ∧ z.2 ∈ acc.toList := by
        rw [← hi.nums, List.map_map, List.zip_map_left]
        intro z hz
        obtain ⟨⟨x, y⟩, q, rfl⟩ := List.mem_map.mp hz
        have e : x = y ∧ x ∈ acc.toList := mem_zip_self q
        exact ⟨by show g (numOf x) = g (numOf y); rw [e.1], by show y ∈ acc.toList; rw [← e.1]; exact e.2⟩
      have c1 : IntsAre (zs.map Prod.snd) ((zs.map Prod.snd).map numOf) := intsAre_map _ fun x hx => by
        obtain ⟨z, hz, rfl⟩ := List.mem_map.mp hx
        exact hi.all _ (rel z (zp.mem_iff.mp hz)).2
      have c2 : ((zs.map Prod.snd).map numOf).Perm ((List.range n.toNat).map fun i : Nat => (i : Int)) := by
        have q := (zp.map Prod.snd).map numOf
        rw [List.map_snd_zip (by rw [List.length_map, List.length_map, List.length_range]; omega), hi.nums] at q
        exact q
      have c3 : ((zs.map Prod.snd).map numOf).Pairwise (fun x y => g x ≤ g y) := by
        rw [List.pairwise_map, List.pairwise_map]
        refine zs'.imp_of_mem fun {x y} hx hy q => ?_
        have q' : x.1 ≤ y.1 := q
        rw [(rel x (zp.mem_iff.mp hx)).1, (rel y (zp.mem_iff.mp hy)).1] at q'
        exact q'
      rw [← zo] at c1 c2 c3
      exact wpAny_pure ⟨_, rfl, done _ h' tk out c _ F' (kOf (own := []) F' fun q hq => N' q (List.mem_cons_of_mem _ (by simpa using hq))) (N' _ (.head _)).1 (Nat.le_of_lt hsz) c1 c2 c3⟩

/-! ### the lambda called -/
theorem lam_call {f c c' la : Addr} {qual x y : Str} {params : Arguments} {scope : Scope} {p1 p2 p3 : Pos} {pm ctv : Value} {its : Array Value} {i k : Int} {t t' : Tok} (hroom : A.depth < recursionLimit) (lim : s.heap.NoLimit)
    (hf : s.heap.get? f = some (PySem.W.kla_obj "<lambda>" qual params (.Subscript (.Name x p1) (.Name y p2) p3) scope [(x, c)] pm c' ctv)) (hcd : s.heap.CodeRec (.ref c') qual)
    (hcell : s.heap.IsCell c (some (.ref la))) (hl : s.heap.IsList la its) (h0 : 0 ≤ i) (h63 : i < 2 ^ 63) (hi : its[i.toNat]? = some (.int k t'))
    (hb : ∀ v, bindArgs (PySem.W.kla_fn "<lambda>" qual params (.Subscript (.Name x p1) (.Name y p2) p3) scope [(x, c)] pm (.ref c') ctv) ⟨[v], []⟩ = pure [(y, v)])
    (hy : scope.names.lookup y = some .local) (hx : scope.names.lookup x = some .free) (hnc : ∀ z ∈ scope.names, z.2 ≠ .cell) (hk : scope.kind = .function) (hco : scope.isCoroutine = false) (hgen : scope.isGenerator = false)
    (dx : (x == ("__debug__" : Str)) = false) (dy : (y == ("__debug__" : Str)) = false) (cx : (x == ("__classdict__" : Str)) = false) (hs : PlainIx (.Name y p2)) :
    wpAny (model prog w) A (call (.ref f) [.int i t]) (TurnEnd s.heap k s) (fun _ _ => False) s := by
  refine wpAny_call (PySem.W.kla_callFunE hroom hf rfl hco hgen rfl hcd ?_)
  rw [hb]
  refine wpAny_pure (wpAny_newFunctionEnv hnc (fun z hz => by rw [List.mem_singleton.mp hz]; exact hy) (fun h₁ hns hsb => ⟨lim.fresh _ hsb, ?_⟩) hk)
  have k1 : ∀ b o, s.heap.get? b = some o → h₁.get? b = some o := fun b o e => hsb.extBut b o (Nat.ne_of_lt (Heap.lt_size e)) (Heap.get?_push_of_some _ e)
  refine PySem.W.kla_codeExpr (Subscript_ ?_)
  have hcell' : h₁.IsCell c (some (.ref la)) := let ⟨o, e, d⟩ := hcell; ⟨o, k1 _ _ e, d⟩
  have hl' : h₁.IsList la its := let ⟨o, e, d⟩ := hl; ⟨o, k1 _ _ e, d⟩
  refine wpAny_Name (wpAny_loadName_free hk hx (by show List.lookup x [(x, c)] = some c; simp) hcell' ?_ cx) dx
  refine wpAny_Name (wpAny_loadName_local hk hy hns (show List.lookup y [(y, Value.int i t)] = some (.int i t) by simp) ?_) dy
  exact item_listR hl' h0 h63 hi ⟨h₁, _, t', rfl, rfl, k1⟩ (hs _ _)
end

/-! ### a table of code objects: empty, or with the lambda's -/
structure Tab where
  P : Addr
  pos : Pos
  qual : Str
def Tab.Ok (T : Tab) (H : Hp) : Prop := H T.P = some (.tbl #[]) ∨ ∃ c' oc vs t, H T.P = some (.tbl #[rawInt T.pos.line, rawInt T.pos.col, .ref c']) ∧ H c' = some (.frz oc (.ext fun _ => True)) ∧ oc.data = .fields vs ∧ vs[1]? = some (.str T.qual t)
/-- all stays but the table -/
structure Gw (T : Tab) (H H' : Hp) : Prop where
  ok : T.Ok H'
  keep : ∀ b o, b ≠ T.P → H b = some o → H' b = some o
theorem Tab.Ok.same {T : Tab} {H H' : Hp} (x : T.Ok H) (s : Same H H') : T.Ok H' := by
  rcases x with x | ⟨c', oc, vs, t, h1, h2, h3⟩
  · exact .inl (s _ _ x)
  · exact .inr ⟨c', oc, vs, t, s _ _ h1, s _ _ h2, h3⟩
theorem Tab.Ok.is {T : Tab} {H : Hp} (x : T.Ok H) : ∃ ps, H T.P = some (.tbl ps) := by
  rcases x with x | ⟨c', oc, vs, t, h1, _⟩
  · exact ⟨_, x⟩
  · exact ⟨_, h1⟩
theorem Gw.of {T : Tab} {H H' : Hp} (x : T.Ok H) (s : Same H H') : Gw T H H' := ⟨x.same s, fun b o _ e => s b o e⟩
theorem Gw.trans {T : Tab} {H H1 H2 : Hp} (a : Gw T H H1) (b : Gw T H1 H2) : Gw T H H2 := ⟨b.ok, fun c o h e => b.keep c o h (a.keep c o h e)⟩
theorem Gw.seq {T : Tab} {K : PySem.W.Frag} {H H' : Hp} {a : Addr} {xs : List V} (g : Gw T H H') (x : T.Ok H) (h : SqL K H a xs) : SqL K H' a xs := by
  obtain ⟨ps, hp⟩ := x.is
  rcases h with (h | ⟨o, h⟩) | h
  · exact .inl (.inl (g.keep _ _ (fun e => by rw [e, hp] at h; cases h) h))
  · exact .inl (.inr ⟨o, g.keep _ _ (fun e => by rw [e, hp] at h; cases h) h⟩)
  · exact .inr h
theorem Gw.at {T : Tab} {H H' : Hp} {a : Addr} {u : HO} (g : Gw T H H') (x : T.Ok H) (h : H a = some u) (hu : ∀ ps, u ≠ .tbl ps) : H' a = some u := by
  obtain ⟨ps, hp⟩ := x.is
  exact g.keep _ _ (fun e => by rw [e, hp] at h; cases h; exact hu _ rfl) h
theorem Gw.free {T : Tab} {H H' : Hp} {a : Addr} (g : Gw T H H') (x : T.Ok H) (h : H' a = none) : H a = none := by
  obtain ⟨ps', hp'⟩ := g.ok.is
  cases q : H a with
  | none => rfl
  | some u =>
    by_cases e : a = T.P
    · rw [e, hp'] at h; cases h
    · rw [g.keep _ _ e q] at h; cases h

section
variable {X : Cx} {pins : List (Addr × Obj)} {σ : St} {H : Hp} {s : Shared} {h' : Heap}
theorem ns_one {h : Heap} {a : Addr} {m m' : Str → Option Value} (x : h.Ns a m) (y : h.Ns a m') : m = m' := by
  obtain ⟨o, es, ep, e, d, _, f⟩ := x
  obtain ⟨o', es', ep', e', d', _, f'⟩ := y
  rw [e] at e'; cases e'
  rw [d] at d'; cases d'
  funext z
  rw [← f z, ← f' z]
/-- a new object laid; of the frame only the names are known to stay -/
theorem Inv.laidL {a : Addr} {o : HO} {t' : Nat} (I : Inv X pins σ H s) (k : ∀ b u, b ≠ X.env.locals → s.heap.get? b = some u → h'.get? b = some u) (n : ∀ m, s.heap.Ns X.env.locals m → h'.Ns X.env.locals m)
    (hp : s.heap.objs.size ≤ a) (new : ObjOk X.prog X.w (upd H a o) h' a o) : Inv X pins σ (upd H a o) { s with heap := h', toks := t' } := by
  have hf := I.hok.fresh hp
  have hL : X.env.locals < s.heap.objs.size := I.lt
  have ne : ∀ {b : Addr} {u : Obj}, s.heap.get? b = some u → b ≠ a := fun e => Nat.ne_of_lt (Nat.lt_of_lt_of_le (Heap.lt_size e) hp)
  have nf : ∀ {b : Addr} {u : HO}, H b = some u → b ≠ a := fun e z => by rw [z, hf] at e; cases e
  refine I.step (g' := s.gens) (d' := s.drawn) (ch := []) (fun _ z => nomatch z) (fun b o h1 _ _ e _ => k b o h1 e) (fun b o h1 _ _ e _ => ⟨o.slots, k b o h1 e⟩) (fun b o _ e q => by rw [upd_ne (ne e)]; exact q)
    (fun b o _ e => ?_) (fun b xs e => by rw [upd_ne (nf e)]; exact e) (fun b o u e => by rw [upd_ne (nf e)]; exact e) (fun b ps e => ⟨#[], by rw [upd_ne (nf e), e]; simp⟩) n (fun b u e => ?_) I.bare
  · by_cases hb : b = X.env.locals
    · obtain ⟨m, hn, _⟩ := I.loc
      obtain ⟨o', _, _, e', _⟩ := n m hn
      exact ⟨o', by rw [hb]; exact e'⟩
    · exact ⟨o, k b o hb e⟩
  · by_cases hb : b = a
    · subst hb; rw [upd_same] at e; cases e; exact new
    · rw [upd_ne hb] at e
      refine (I.hok b u e).stay (fun c v hc q => k c v ?_ q) (fun c q => by rw [upd_ne (nf q)]; exact q) fun c xs q => by rw [upd_ne (nf q)]; exact q
      rintro rfl
      rcases hc with z | z
      · rw [← z, I.free] at e; cases e
      · rw [I.free] at z; cases z
/-- the table grown, the code object known -/
theorem Inv.tabled {T : Tab} {c' : Addr} {oc : Obj} {t' : Nat} {fo : Obj} (I : Inv X pins σ H s) (hP : H T.P = some (.tbl #[])) (k : Heap.ExtBut T.P s.heap h') (hc : s.heap.objs.size ≤ c') (hoc : h'.get? c' = some oc)
    (ht : h'.get? T.P = some (PySem.W.tabObj #[rawInt T.pos.line, rawInt T.pos.col, .ref c'])) :
    Inv X pins σ (upd (upd H T.P (.tbl #[rawInt T.pos.line, rawInt T.pos.col, .ref c'])) c' (.frz oc (.ext fun _ => True))) { s with heap := h'.push fo, toks := t' } := by
  have hf := I.hok.fresh hc
  have hPl : T.P < s.heap.objs.size := I.hok.lt hP
  have hPc : T.P ≠ c' := Nat.ne_of_lt (Nat.lt_of_lt_of_le hPl hc)
  have k2 : ∀ b o, b ≠ T.P → s.heap.get? b = some o → (h'.push fo).get? b = some o := fun b o hb e => Heap.get?_push_of_some _ (k b o hb e)
  have ne : ∀ {b : Addr} {u : Obj}, s.heap.get? b = some u → b ≠ c' := fun e => Nat.ne_of_lt (Nat.lt_of_lt_of_le (Heap.lt_size e) hc)
  have nf : ∀ {b : Addr} {u : HO}, H b = some u → b ≠ c' := fun e z => by rw [z, hf] at e; cases e
  have nP : ∀ {b : Addr}, H b = none → b ≠ T.P := fun e z => by rw [z, hP] at e; cases e
  have same : ∀ {b : Addr} {u : HO}, H b = some u → (∀ ps, u ≠ .tbl ps) → upd (upd H T.P (.tbl #[rawInt T.pos.line, rawInt T.pos.col, .ref c'])) c' (.frz oc (.ext fun _ => True)) b = some u := fun {b u} e hu => by
    rw [upd_ne (nf e), upd_ne (fun z => by rw [z, hP] at e; cases e; exact hu _ rfl)]; exact e
  refine I.step (g' := s.gens) (d' := s.drawn) (ch := []) (fun _ z => nomatch z) (fun b o _ _ _ e q => k2 b o (nP q) e) (fun b o _ _ _ e q => ⟨o.slots, k2 b o (nP q) e⟩) (fun b o _ e q => by rw [upd_ne (ne e), upd_ne (nP q)]; exact q)
    (fun b o _ e => ?_) (fun b xs e => same e (by intro ps z; cases z)) (fun b o u e => same e (by intro ps z; cases z)) (fun b ps e => ?_) (fun m hm => ?_) (fun b u e => ?_) I.bare
  · by_cases hb : b = T.P
    · exact ⟨_, by rw [hb]; exact Heap.get?_push_of_some _ ht⟩
    · exact ⟨o, k2 b o hb e⟩
  · by_cases hb : b = T.P
    · rw [hb, hP] at e; cases e
      exact ⟨#[rawInt T.pos.line, rawInt T.pos.col, .ref c'], by rw [hb, upd_ne hPc, upd_same]; simp⟩
    · exact ⟨#[], by rw [upd_ne (nf e), upd_ne hb, e]; simp⟩
  · exact (hm.extBut k (Ne.symm (fun z => by rw [z, I.free] at hP; cases hP))).push _
  · by_cases hb : b = c'
    · subst hb; rw [upd_same] at e; cases e
      exact ⟨Heap.get?_push_of_some _ hoc, trivial, ⟨_, Heap.get?_push_of_some _ hoc⟩, fun _ _ _ _ => trivial⟩
    · rw [upd_ne hb] at e
      by_cases hp : b = T.P
      · rw [hp, upd_same] at e; cases e
        rw [hp]
        exact Heap.get?_push_of_some _ ht
      · rw [upd_ne hp] at e
        refine (I.hok b u e).stay (fun c v hc q => k2 c v ?_ q) (fun c q => same q (by intro ps z; cases z)) fun c xs q => same q (by intro ps z; cases z)
        rintro rfl
        rcases hc with z | z
        · exact hp z.symm
        · rw [hP] at z; cases z
end

/-! ### sorted(e, key=lambda y: x[y]), e a range -/
theorem sameR' {H : Hp} : Same H H := fun _ _ e => e
theorem boot_sorted : bootBuiltins "sorted" = some (.builtin "sorted") := by decide +kernel
def tSortK (T : Tab) (K : PySem.W.Frag) (i : Nat) (t : TA) : TE := fun σ H Q => t σ H fun vs H1 => ∃ (r la : Addr) (ns : List Int), vs = [.ref r] ∧ H1 r = some (.rng 0 ns.length) ∧ σ[i]? = some (some (.ref la)) ∧ SqL K H1 la (ns.map V.int) ∧ ns.length < 64 ∧ T.Ok H1 ∧
  ∀ (D : Addr) (H' : Hp) (ms : List Int), H1 D = none → H' D = some (.lst (ms.map V.int)) → Gw T H1 H' → ms.Perm ((List.range ns.length).map fun i : Nat => (i : Int)) → ms.Pairwise (fun x y => ns.getD x.toNat 0 ≤ ns.getD y.toNat 0) → Q (.ref D) H'
section
variable {X : Cx}
theorem pe_sortK {T : Tab} {c : Addr} {x y : Str} {i : Nat} {er : Expr} {t : TA} {params : Arguments} {sc : Scope} {p1 q1 q2 q3 pos kp : Pos} (ha : PA X [er] t) (hg : Gl X "sorted") (hm : X.mg "sorted" = none) (hc : X.calm = true) (hr : Room 1 X.A)
    (hcd : X.env.code = .ref c) (hK : PySem.W.codeHdIn X.K c T.P = true) (hB : X.base.BuiltinsAt X.mg T.P) (hq : X.env.qual ++ "<lambda>" = T.qual) (hN : X.N[i]? = some x) (hkx : X.env.scope.names.lookup x = some .cell)
    (hcl : ∀ d, X.env.cells.lookup x = some d → closureFor sc X.env = pure [(x, d)]) (hdef : defaultsOf params X.env = ([], []))
    (hb : ∀ (v : Value) (d : Addr) (b : Expr) (pm cv ctv : Value), bindArgs (PySem.W.kla_fn "<lambda>" T.qual params b sc [(x, d)] pm cv ctv) ⟨[v], []⟩ = pure [(y, v)])
    (hy : sc.names.lookup y = some .local) (hx : sc.names.lookup x = some .free) (hnc : ∀ z ∈ sc.names, z.2 ≠ .cell) (hk : sc.kind = .function) (hco : sc.isCoroutine = false) (hgen : sc.isGenerator = false)
    (dx : (x == ("__debug__" : Str)) = false) (dy : (y == ("__debug__" : Str)) = false) (cx : (x == ("__classdict__" : Str)) = false) (hs : PlainIx (.Name y q2))
    (he : backTo pos (starEach [er] X.env) = (false, eval er X.env) :: backTo pos (starEach [] X.env)) (hpl : (backTo pos (starEach [er] X.env)).any (·.1) = false) :
    PE X (.Call (.Name "sorted" p1) [er] [⟨some "key", .Lambda params (.Subscript (.Name x q1) (.Name y q2) q3) sc T.pos, kp⟩] pos) (tSortK T X.K i t) := by
  intro pins s σ H Q I h
  refine wpAny_Call_Name_kw (ld_blt I hg hm boot_sorted ?_ (by decide) (by decide))
  refine callWith_kw (thn (ha pos pins s σ H _ I h) fun us s1 ⟨vs, H1, I1, r1, q⟩ => ?_) he hpl
  obtain ⟨r, la, ns, rfl, hR, hv, hL, h64, hT, q⟩ := q
  obtain ⟨u, rfl, ru⟩ := r1.one
  cases ru
  refine kws_cons (PySem.W.kla_eval hdef ?_)
  rw [hq]
  obtain ⟨d, hd⟩ := I1.ok.has x (.inl hkx)
  -- the call, where the lambda is made
  have go : ∀ (H2 : Hp) (s2 : Shared) (f c' : Addr) (oc : Obj) (zs : Array Value) (tq : Tok) (pm ctv : Value), Inv X pins σ H2 s2 → Gw T H1 H2 → s2.heap.get? f = some (PySem.W.kla_obj "<lambda>" T.qual params (.Subscript (.Name x q1) (.Name y q2) q3) sc [(x, d)] pm c' ctv) →
      f ≠ X.env.locals → s2.heap.get? c' = some oc → c' ≠ X.env.locals → oc.data = .fields zs → zs[1]? = some (.str T.qual tq) →
      wpAny (model X.prog X.w) X.A (call (.builtin "sorted") [.ref r] [(Str.ofString "key", .ref f)]) (EP X pins σ Q) X.xe s2 := by
    intro H2 s2 f c' oc zs tq pm ctv I2 g2 hf hfL hoc hcL hzs hz1
    obtain ⟨m, F2⟩ := I2.fr
    obtain ⟨tr, ur, vr, hrg⟩ := I2.hok r _ (g2.at hT hR (by intro ps z; cases z))
    obtain ⟨its, rv, pl, hz⟩ := I2.list (g2.seq hT hL)
    have hi := ints_of_vals rv
    obtain ⟨m2, hn2, hl2⟩ := id I2.loc
    have hll : la ≠ X.env.locals := fun z => by
      obtain ⟨o, e, hc', n', hd'⟩ := pl.isList
      obtain ⟨o', es, ep, e', d', _⟩ := hn2
      rw [z, e'] at e; cases e
      rw [d'] at hd'; cases hd'
    obtain ⟨uu, ruu, lk⟩ := hl2 i x _ hN hv (.inr (.inl hkx))
    cases ruu
    have hcell : s2.heap.IsCell d (some (.ref la)) := by
      rcases lk with ⟨z, _⟩ | ⟨_, d', e', z⟩
      · have z' : X.env.scope.names.lookup x = some .local := z
        rw [hkx] at z'; cases z'
      · rw [hd] at e'; cases e'; exact z
    have hdL := I2.cne x d hd
    refine call_sorted_rng (fun j => ns.getD j.toNat 0) (I2.ok.hd hc) (show IsRange s2.heap r 0 _ 1 tr ur vr from hrg) (by omega) (by omega) F2 ?_ ?_
    · intro j tj h tk h0 h1 F' k'
      have hjl : j.toNat < ns.length := by omega
      have hgj : ns[j.toNat]? = some (ns.getD j.toNat 0) := by simp [List.getD, hjl]
      obtain ⟨t', ht'⟩ := hi.get j.toNat _ hgj
      refine wpAny_mono (lam_call (s := { s2 with heap := h, toks := tk }) (by have := hr.dp; show X.A.depth < recursionLimit; omega) (I2.ok.mod.nolimit.keeps F'.keep) (k' f _ hfL hf) ⟨c', oc, zs, tq, rfl, k' c' _ hcL hoc, hzs, hz1⟩
        (let ⟨o, e, z⟩ := hcell; ⟨o, k' d o hdL e, z⟩) (let ⟨o, e, z⟩ := pl.isList; ⟨o, k' la o hll e, z⟩) h0 (by omega) (by simpa using ht') (fun v => hb v d _ pm _ ctv) hy hx hnc hk hco hgen dx dy cx hs) (fun v s' ⟨h2, tk2, t2, e1, e2, k2⟩ => ⟨h2, tk2, t2, e1, e2, k2⟩) fun _ _ z => z
    · intro D h' tk out cc ms F' k' hD hDs hI hp hw
      have hlm : ms.length = ns.length := by rw [hp.length_eq, List.length_map, List.length_range]; simp
      have hsl : (64 : Nat) ≤ sizeLine := by decide
      refine ⟨.ref D, _, I2.laidL (t' := tk) (o := .lst (ms.map V.int)) k' (fun m' hm' => by rw [ns_one hm' F2.ns]; exact F'.ns) hDs ⟨by rw [List.length_map]; omega, out.toList, cc, vals_of_ints hI, by rw [hD, Array.toArray_toList]⟩, rfl, ?_⟩
      have hfr := I2.hok.fresh hDs
      refine q D _ ms (g2.free hT hfr) upd_same (g2.trans (Gw.of g2.ok (fun b u e => by rw [upd_ne (ne_of_none e hfr)]; exact e))) (by simpa using hp) hw
  have bl : s1.heap.BuiltinsAt X.mg T.P := let ⟨bm, ob, a1, a2, a3, a4, a5, a6⟩ := hB; ⟨bm, ob, a1, a2, a3, a4, I1.bk _ _ a5, a6⟩
  obtain ⟨ps, hps⟩ := hT.is
  have gP : mainGlobals ≠ T.P := fun z => by
    obtain ⟨o, _, _, e, _⟩ := I1.ok.mod.glob
    have := (I1.bs _ o e).2
    rw [z, hps] at this; cases this
  have gl := I1.ok.mod.glob.keeps I1.bk
  have ch := PySem.W.codeHd_of_K I1.kIn hK
  have hLs : X.env.locals < s1.heap.objs.size := I1.lt
  rcases id hT with hP | ⟨c', oc, zs, tq, hP, hC, hzs, hz1⟩
  · refine PySem.W.kla_makeFunction (hcl d hd) I1.ok.glob gl hcd ch (show s1.heap.get? T.P = some (PySem.W.tabObj #[]) from I1.hok _ _ hP) trivial rfl gP bl fun c' ctv h' tk hx' hge hlt hrec htb => ?_
    obtain ⟨c2, oc, zs, tq, e2, hoc, hzs, hz1⟩ := hrec
    cases e2
    have htb' : h'.get? T.P = some (PySem.W.tabObj #[rawInt T.pos.line, rawInt T.pos.col, .ref c']) := by simpa using htb
    refine kws_nil (go _ _ h'.objs.size c' oc zs tq _ ctv (I1.tabled hP hx' hge hoc htb') ⟨.inr ⟨c', oc, zs, tq, ?_, upd_same, hzs, hz1⟩, fun b o hb e => ?_⟩ (Heap.get?_push_size _ rfl) (Nat.ne_of_gt (Nat.lt_trans hLs (Nat.lt_of_le_of_lt hge hlt))) (Heap.get?_push_of_some _ hoc) (Nat.ne_of_gt (Nat.lt_of_lt_of_le hLs hge)) hzs hz1)
    · rw [upd_ne (Nat.ne_of_lt (Nat.lt_of_lt_of_le (I1.hok.lt hP) hge)), upd_same]
    · rw [upd_ne (Nat.ne_of_lt (Nat.lt_of_lt_of_le (I1.hok.lt e) hge)), upd_ne hb]; exact e
  · refine PySem.W.kla_makeFunctionHit (c := c) (P := T.P) (cv := .ref c') (hcl d hd) I1.ok.glob gl hcd ch (show s1.heap.get? T.P = some (PySem.W.tabObj _) from I1.hok _ _ hP) ?_ ?_ bl fun ctv h' tk hk' hsz => ?_
    · exact trivial
    · exact codeAmong_snoc [] trivial rfl
    · have hCk := (I1.hok _ _ hC).1
      refine kws_nil (go _ _ h'.objs.size c' oc zs tq _ ctv (I1.kept (t' := tk) fun b u e => Heap.get?_push_of_some _ (hk' b u e)) (Gw.of hT sameR') (Heap.get?_push_size _ rfl) (Nat.ne_of_gt (Nat.lt_of_lt_of_le hLs hsz)) (Heap.get?_push_of_some _ (hk' _ _ hCk)) (fun z => by rw [z, I1.free] at hC; cases hC) hzs hz1)
end

/-! ### the head, where a table of code objects is tracked -/
theorem law_callT {P : Program} {w : World} {K : PySem.W.Frag} {mg mb : Str → Option Value} {CX : CXT} {k : Nat} {fa a pT cC : Addr} {fd : FuncData} {x : Str} {sp : Sp} {s₁ : Shared} {vs : List Value} {ns : List Int}
    (KX : K.In s₁.heap) (hns : s₁.heap.Ns mainGlobals mg) (hb : s₁.heap.Ns builtinsNs mb) (hbb : ∀ x : Str, x ≠ "__name__" → mb x = bootBuiltins x) (hlim : s₁.heap.NoLimit) (hg : s₁.gens = #[])
    (ha : s₁.heap.get? a = some { cls := .type "list", data := .seq vs.toArray }) (hi : IntsAre vs ns) (hl : ns.length ≤ sizeLine) (hr : Room k callerA)
    (hT : s₁.heap.get? pT = some (PySem.W.tabObj #[])) (hC : PySem.W.codeHdIn K cC pT = true) (hKT : K.lookup pT = none) (hB : s₁.heap.BuiltinsAt mg pT)
    (F : ∀ base : Heap, K.In base → base.Ns mainGlobals mg → base.BuiltinsAt mg pT → FnOk P w K mg base CX k fa fd [x] sp) (hbind : ∀ (s : Shared) (u : Value), BindsTo s fd ⟨[u], []⟩ [(x, u)])
    (hsp : ∀ H : Hp, H pT = some (.tbl #[]) → SqL K H a (ns.map V.int) → sp [.ref a] H (fun v _ => v = .bl true) fun _ _ _ => False)
    (hCX : ∀ H e s', CX [] H s₁ (fun _ _ _ => False) e s' → False) :
    codeAny (model P w) callerA (.call (.ref fa) ⟨[.ref a], []⟩) (fun r s' => r = .ok (.ret (.bool true)) ∧ OldK s₁.heap s'.heap ∧ s'.os = s₁.os ∧ AllBare s'.gens) s₁ := by
  have rv := vals_ints hi
  have lenV := hi.length
  have hap : a ≠ pT := fun z => by rw [z, hT] at ha; cases ha
  have core : ∀ H : Hp, H pT = some (.tbl #[]) → SqL K H a (ns.map V.int) → HOk P w H s₁.heap → (∀ b, H b ≠ none → b = a ∨ b = pT) → (∀ o, K.lookup a = some o → H a = none) → (∀ u, H a = some u → ∃ o xs, u = .frz o (.lst xs)) →
      codeAny (model P w) callerA (.call (.ref fa) ⟨[.ref a], []⟩) (fun r s' => r = .ok (.ret (.bool true)) ∧ OldK s₁.heap s'.heap ∧ s'.os = s₁.os ∧ AllBare s'.gens) s₁ := by
    intro H hP hS hok hA hK hZ
    have base_of : ∀ {b : Addr} {o : Obj}, s₁.heap.get? b = some o → H b = none → (hidT s₁.heap H).get? b = some o := fun e n => hidT_get e n
    have noA : ∀ {b : Addr} {o : Obj}, s₁.heap.get? b = some o → (∀ c n, o.data ≠ .seq c n) → (∀ c, o.data ≠ .fields c) → H b = none := fun {b o} e d1 d2 => by
      cases q : H b with
      | none => rfl
      | some u =>
        rcases hA b (by rw [q]; simp) with e' | e'
        · subst e'; rw [ha] at e; cases e; exact absurd rfl (d1 _ _)
        · subst e'; rw [hT] at e; cases e; exact absurd rfl (d2 _)
    have nsK : ∀ {b : Addr} {m : Str → Option Value}, s₁.heap.Ns b m → (hidT s₁.heap H).Ns b m := fun {b m} ⟨o, es, ep, e, d, r⟩ => ⟨o, es, ep, base_of e (noA e (fun c n z => by rw [d] at z; cases z) (fun c z => by rw [d] at z; cases z)), d, r⟩
    have hKb : K.In (hidT s₁.heap H) := fun b o e => base_of (KX b o e) (by
      cases q : H b with
      | none => rfl
      | some u =>
        rcases hA b (by rw [q]; simp) with e' | e'
        · subst e'; rw [hK _ e] at q; cases q
        · subst e'; rw [hKT] at e; cases e)
    have hBb : (hidT s₁.heap H).BuiltinsAt mg pT := by
      obtain ⟨bm, ob, a1, a2, a3, a4, a5, a6, a7, a8⟩ := hB
      exact ⟨bm, ob, a1, a2, a3, a4, base_of a5 (noA a5 (fun c n z => by rw [a8] at z; cases z) (fun c z => by rw [a8] at z; cases z)), a6, a7, a8⟩
    have hM : Mod K mg (hidT s₁.heap H) := ⟨hKb, nsK hns, ⟨mb, nsK hb, hbb⟩, let ⟨mc, h1, h2⟩ := hlim; ⟨mc, nsK h1, h2⟩⟩
    have e0 : Env0 P w K mg (hidT s₁.heap H) callerA [] s₁ H := ⟨rfl, hM, fun b o e => of_hidT e, Nat.le_of_eq (hidT_size _ _), trivial, fun b hb => absurd (show b ∈ ([] : List Addr) from hb) (by simp), hok, .of_eq hg⟩
    refine codeAny_mono ((F _ hKb (nsK hns) hBb).run callerA [] s₁ H ⟨[.ref a], []⟩ [.ref a] [.ref a] _ _ hr e0 (hbind s₁ (.ref a)) (.cons rfl .nil) (hsp H hP hS)) fun r s' h => ?_
    cases r with
    | error e => exact (hCX H e s' h).elim
    | ok fl =>
      cases fl with
      | next => exact False.elim h
      | brk => exact False.elim h
      | cont => exact False.elim h
      | ret u =>
        obtain ⟨v, H', os, bare, un, hok', r', q⟩ := h
        have q' : v = .bl true := q
        subst q'
        obtain rfl : u = Value.bool true := r'
        refine ⟨rfl, ⟨fun b o e => ?_, fun b o e => un.there b o e (by simp)⟩, os, bare⟩
        cases q : H b with
        | none => exact .inl (un.keep b o e q (by intro z; exact absurd (show b ∈ ([] : List Addr) from z) (by simp)) (by simp))
        | some u =>
          rcases hA b (by rw [q]; simp) with e' | e'
          · subst e'
            obtain ⟨ob, xs, rfl⟩ := hZ u q
            have z2 := un.frzs _ ob _ q
            obtain ⟨e1, _⟩ := hok _ _ q
            obtain ⟨e2, _⟩ := hok' _ _ z2
            rw [e] at e1; cases e1
            exact .inl e2
          · subst e'
            rw [hT] at e; cases e
            obtain ⟨more, z2⟩ := un.tbls _ _ hP
            have e2 : s'.heap.get? b = some _ := hok' _ _ z2
            obtain ⟨co, cvs, _, _, _, _, _, _, _, c1, c2, c3, c4, _⟩ := PySem.W.codeHd_of_K KX hC
            exact .inr (.inl ⟨⟨cC, co, cvs, c1, c2, c3, c4⟩, rfl, #[], more, rfl, e2⟩)
  cases hk : K.lookup a with
  | some o =>
    have e := KX a o hk
    rw [ha] at e
    cases e
    refine core (fun b => if b = pT then some (.tbl #[]) else none) (if_pos rfl) (.inr ⟨_, vs.toArray, _, hk, rfl, rfl, rfl, by rw [List.size_toArray, lenV]; exact hl, by simpa using rv⟩) (fun b u z => ?_) (fun b z => ?_) (fun _ _ => if_neg hap) (fun u z => ?_)
    · by_cases hb : b = pT
      · have z' := (if_pos hb).symm.trans z
        cases z'
        rw [hb]; exact hT
      · have z' := (if_neg hb).symm.trans z
        cases z'
    · by_cases hb : b = pT
      · exact .inr hb
      · exact absurd (if_neg hb) z
    · have z' := (if_neg hap).symm.trans z
      cases z'
  | none =>
    refine core (fun b => if b = a then some (.frz { cls := .type "list", data := .seq vs.toArray } (.lst (ns.map V.int))) else if b = pT then some (.tbl #[]) else none) ((if_neg (Ne.symm hap)).trans (if_pos rfl)) (.inl (.inr ⟨{ cls := .type "list", data := .seq vs.toArray }, if_pos rfl⟩)) (fun b u z => ?_) (fun b z => ?_) (fun o z => by rw [hk] at z; cases z) (fun u z => ?_)
    · by_cases hb : b = a
      · have z' := (if_pos hb).symm.trans z
        cases z'
        subst hb
        exact ⟨ha, by rw [List.length_map]; exact hl, vs, _, rv, ha⟩
      · have z' := (if_neg hb).symm.trans z
        by_cases hb2 : b = pT
        · have z2 := (if_pos hb2).symm.trans z'
          cases z2
          rw [hb2]; exact hT
        · have z2 := (if_neg hb2).symm.trans z'
          cases z2
    · by_cases hb : b = a
      · exact .inl hb
      · by_cases hb2 : b = pT
        · exact .inr hb2
        · exact absurd ((if_neg hb).trans (if_neg hb2)) z
    · have z' := (if_pos rfl).symm.trans z
      cases z'
      exact ⟨_, _, rfl⟩
theorem walk_ofT {l : PySem.W.OpenLaw} {n k : Nat} {q : Program} {loose : List Str} {XP : (Str → Option Value) → Heap → Prop} {YP : World → Heap → Prop} {d : DefRec} {K : Params → PySem.W.Frag} {CX : World → CXT} {sp : World → Sp} {x : Str} {pT : Addr}
    (hn : l.most = some n) (hn2 : n ≤ sizeLine) (hdf : d.params.defaults = []) (hr : Room k callerA)
    (hY : ∀ (w : World) (h : Heap), YP w h → (K w.params).In h ∧ h.get? pT = some (PySem.W.tabObj #[]))
    (F : ∀ (w : World) (mg : Str → Option Value) (fa : Addr) (h : Heap), (K w.params).In h → h.Ns mainGlobals mg → mg d.name = some (.ref fa) →
      ∃ (fd : FuncData) (cC : Addr), PySem.W.codeHdIn (K w.params) cC pT = true ∧ (K w.params).lookup pT = none ∧ (∀ (s : Shared) (u : Value), BindsTo s fd ⟨[u], []⟩ [(x, u)]) ∧
        ∀ base : Heap, (K w.params).In base → base.Ns mainGlobals mg → base.BuiltinsAt mg pT → FnOk l.prog w (K w.params) mg base (CX w) k fa fd [x] (sp w))
    (hsp : ∀ (w : World) (H : Hp) (a : Addr) (ns : List Int), ns.length ≤ n → H pT = some (.tbl #[]) → SqL (K w.params) H a (ns.map V.int) → sp w [.ref a] H (fun v _ => v = .bl true) fun _ _ _ => False)
    (hCX : ∀ (w : World) (H : Hp) (s : Shared) (e : Value) (s' : Shared), CX w [] H s (fun _ _ _ => False) e s' → False) :
    PySem.W.WalkO q loose XP YP l.row.toRowW d [] (fun f vs => PySem.call f vs) := by
  refine Att.attach_call hn hdf fun w s₀ s₁ mg mb fa o pm cd doc a vs ns G Y ho hd hcd hmg hobj hints hlen hg => ?_
  obtain ⟨KX, hT⟩ := hY w _ Y
  obtain ⟨fd, cC, hC, hKT, hb, hF⟩ := F w mg fa _ KX G.T.g hmg
  obtain ⟨bm, ob, b1, b2, b3, b4, b5, b6⟩ := G.T.bmain
  have n1 : bm ≠ mainGlobals := fun z => by
    obtain ⟨o', es, ep, e, hd', _⟩ := G.T.g
    rw [z, e] at b3; cases b3
    rw [hd'] at b6; cases b6
  have n2 : bm ≠ pT := fun z => by rw [z, hT] at b3; cases b3; cases b4
  have hB : s₁.heap.BuiltinsAt mg pT := ⟨bm, ob, b1, b2, n1, n2, b3, b4, b5, b6⟩
  exact law_callT KX G.T.g G.T.b G.T.builtins G.T.nolimit hg hobj hints (Nat.le_trans hlen hn2) hr hT hC hKT hB hF hb (fun H hO hS => hsp w H a ns hlen hO hS) fun H e s' => hCX w H s₁ e s'
/-- a def whose code object is known -/
theorem Fun.okC {P : Program} {w : World} {K : PySem.W.Frag} {mg : Str → Option Value} {base : Heap} {x qual : Str} {st : Stmt} {f : Addr} {fd : FuncData} {N ps : List Str} {k : Nat} {sp : Sp} (F : Fun K x qual st f fd) (S : FnScope N ps (defScope st)) (len : ∀ vs H Q E, sp vs H Q E → vs.length = ps.length)
    (hbody : ∀ (cdv : Value) (A : Around) (outer : List Env) (s : Shared) (H : Hp) (vs : List V) (Q : VK) (E : XK), fd.code = cdv → Room k (A.deeper (envOfC qual (defScope st) s.heap.objs.size f cdv)) → sp vs H Q E →
      ∃ t, PSs (cxOf CX0 P w K mg base N qual (defScope st) f cdv A outer s H E).nox (defBody st) t ∧ t { nx := fun _ H' => Q .non H', rt := Q } (start N vs) H) : FnOk P w K mg base CX0 (k + 1) f fd ps sp := by
  obtain ⟨oc, od, kV, doc, pm, an, cdv, ct, osl, rfl, lk, hcd⟩ := F.ex
  refine fn_of lk hcd S len fun A outer s H vs Q E hr hsp => ?_
  obtain ⟨t, h, q⟩ := hbody cdv A outer s H vs Q E rfl hr hsp
  exact ⟨t, h.nox, q⟩
end L2

set_option Elab.async false
set_option linter.all false
set_option maxRecDepth 100000
set_option maxHeartbeats 4000000
/-! reversed(xs) in list(..) and in enumerate(..); min, max with default=. -/
namespace L2
open PySem PySem.Spec PyProof.Rows

theorem nolen_rev : typeLookup (.type "list_reverseiterator") "__len__" = pure none := by rw [typeLookup_type, builtinLookup_eq_fast]; kernel_rfl
theorem hint_rev : typeLookup (.type "list_reverseiterator") "__length_hint__" = pure (some (.builtin "list_reverseiterator.__length_hint__")) := by rw [typeLookup_type, builtinLookup_eq_fast]; kernel_rfl
section
variable {prog : Program} {w : World} {A : Around} {E : Value → Shared → Prop} {s : Shared}
theorem extend_rev {R : Result → Shared → Prop} {S I l : Addr} {items : Array Value} {res : Value} {c₀ : Nat} (hh : A.handled = none) (hne : l ≠ I) (hSI : S ≠ I) (hSl : S ≠ l) (hn : items.size ≤ sizeLine)
    (hit : s.heap.IsRevIter I l ((items.size : Int) - 1)) (hl : s.heap.IsList l items) (hS : s.heap.get? S = some { cls := .type "list", data := .seq #[] c₀ })
    (hR : ∀ h' tk acc c', (∀ b o, b ≠ S → b ≠ I → s.heap.get? b = some o → h'.get? b = some o) → h'.get? S = some { cls := .type "list", data := .seq acc c' } → ItemsOf (fun i v => items[items.size - 1 - i]? = some v) acc items.size → R (.ok (.ret res)) { s with heap := h', toks := tk }) :
    wpAny (model prog w) A.in1 (Builtin.List.listExtendWith (.ref S) (.ref I) res)
      (fun fin s' => match fin with | .done f => R (.ok f) s' | .again c' => c'.quiet = true ∧ codeAny (model prog w) A c' R s') (fun e s' => R (.error e) s') s := by
  have W := (Walks.listRev (prog := prog) (w := w) (A := A.in1) hh I l hne items).toS
  have hT := hit.typeIs
  have hSf : S ∉ [I, l] := fun z => by
    rcases List.mem_cons.mp z with z | z
    · exact hSI z
    · exact hSl (List.mem_singleton.mp z)
  unfold Builtin.List.listExtendWith
  refine wpAny_bind (wpAny_typeOf hT ?_)
  have h1 : Builtin.List.listSameRef (.ref S) (.ref I) = false := by simp [Builtin.List.listSameRef, hSI]
  rw [if_neg (by rw [h1]; decide)]
  refine wpAny_bind (wpAny_pyIter_revIter hit ?_)
  refine wpAny_bind (wpAny_holding ?_)
  unfold Builtin.List.listLengthHint
  refine wpAny_bind (wpAny_specialOf hT nolen_rev ?_)
  show wpAny _ A.in1 (specialOf (Value.ref I) (Str.ofString "__length_hint__") >>= _) _ _ _
  refine wpAny_bind (wpAny_specialOf hT hint_rev ?_)
  generalize hid : ("list_reverseiterator.__length_hint__" : String) = id0
  wp_delta
  rw [show splitId id0 = some ("list_reverseiterator", "__length_hint__") from by subst hid; decide +kernel]
  subst hid
  refine wpAny_bind (wpAny_isInstance (b := true) hT (by rw [isSubtype_type]; kernel_rfl) ?_)
  refine wpAny_pure ?_
  rw [if_neg (by decide)]
  have st0 : 0 ≤ items.size ∧ s.heap.IsRevIter I l ((items.size : Int) - 1 - ((0 : Nat) : Int)) ∧ s.heap.IsList l items := ⟨Nat.zero_le _, by simpa using hit, hl⟩
  refine wpAny_pure ⟨plainId_quiet F.plain_extend_loop _, codeAny_extend_loopS W hn S hSf res items.size 0 s #[] c₀ rfl (Nat.zero_le _) st0 hS (ItemsOf.nil _) fun s' acc' c' hm hS' hacc => ?_⟩
  rw [Moved.eq_with hm]
  refine hR s'.heap s'.toks acc' c' (fun b o h1 h2 e => hm.heap b o (fun z => ?_) e) hS' hacc
  rcases List.mem_cons.mp z with z | z
  · exact h1 z
  · exact h2 (List.mem_singleton.mp z)
theorem call_list_rev {Q : Value → Shared → Prop} {l I : Addr} {items : Array Value} (hh : A.handled = none) (hne : l ≠ I) (hn : items.size ≤ sizeLine) (hit : s.heap.IsRevIter I l ((items.size : Int) - 1)) (hl : s.heap.IsList l items)
    (hQ : ∀ h' tk acc c', (∀ b o, b ≠ I → s.heap.get? b = some o → h'.get? b = some o) → h'.get? s.heap.objs.size = some { cls := .type "list", data := .seq acc c' } → ItemsOf (fun i v => items[items.size - 1 - i]? = some v) acc items.size → Q (.ref s.heap.objs.size) { s with heap := h', toks := tk }) :
    wpAny (model prog w) A (call (.type "list") [.ref I]) Q E s := by
  refine callType_codes (Q₁ := fun obj s₁ => obj = .ref s.heap.objs.size ∧ s₁ = { s with heap := s.heap.push { cls := .type "list", data := .seq #[] } }) F.called_list (F.typeCall_list_1 _) F.entry_list_init
    (code_list_new _ ⟨rfl, rfl⟩) fun obj s₁ h₁ => ?_
  obtain ⟨rfl, rfl⟩ := h₁
  have hS : (s.heap.push { cls := .type "list", data := .seq #[] }).get? s.heap.objs.size = some { cls := .type "list", data := .seq #[] } := Heap.get?_push_size _ rfl
  have hI : I < s.heap.objs.size := let ⟨_, e, _⟩ := hit; Heap.lt_size e
  have hL : l < s.heap.objs.size := let ⟨_, e, _⟩ := hl; Heap.lt_size e
  refine ⟨⟨_, hS, rfl⟩, F.args_list_init_2 _ _, ?_⟩
  show wpAny _ _ (do let old ← Builtin.List.listItems (.ref s.heap.objs.size); Builtin.List.listUpdate (.ref s.heap.objs.size) (fun _ => #[]); letGo old.toList.reverse; Builtin.List.listExtendWith (.ref s.heap.objs.size) (.ref I) .none) _ _ _
  refine wpAny_bind ?_
  unfold Builtin.List.listItems
  refine wpAny_bind (wpAny_seqItems hS rfl (wpAny_pure ?_))
  show wpAny _ _ (updateSeq s.heap.objs.size (fun _ => #[]) >>= fun _ => letGo (#[] : Array Value).toList.reverse >>= fun _ => Builtin.List.listExtendWith (.ref s.heap.objs.size) (.ref I) .none) _ _ _
  refine wpAny_bind (wpAny_updateSeq hS rfl ?_)
  have hS₂ := Heap.get?_update_self (Obj.mapSeq (fun _ => (#[] : Array Value))) hS rfl
  have oth : ∀ b o, b ≠ s.heap.objs.size → s.heap.get? b = some o → ((s.heap.push { cls := .type "list", data := .seq #[] }).update s.heap.objs.size (Obj.mapSeq (fun _ => (#[] : Array Value)))).get? b = some o :=
    fun b o hb e => (Heap.get?_update_other _ _ (Ne.symm hb)).trans (Heap.get?_push_of_some _ e)
  refine wpAny_bind (wpAny_letGo ?_)
  exact extend_rev (A := A.in1) hh hne (Nat.ne_of_gt hI) (Nat.ne_of_gt hL) hn (hit.at fun o e => oth I o (Nat.ne_of_lt hI) e) (let ⟨o, e, r⟩ := hl; ⟨o, oth l o (Nat.ne_of_lt hL) e, r⟩) hS₂ fun h' tk acc c' hk hS' hacc =>
    ⟨rfl, hQ h' tk acc c' (fun b o h1 e => hk b o (Nat.ne_of_lt (Heap.lt_size e)) h1 (oth b o (Nat.ne_of_lt (Heap.lt_size e)) e)) hS' hacc⟩
end

/-! ### list(reversed(e)) -/
theorem boot_listTy : bootBuiltins "list" = some (.type "list") := by decide +kernel
theorem boot_revT : bootBuiltins "reversed" = some (.type "reversed") := by decide +kernel
theorem vals_rev : ∀ {xs : List V} {us : List Value}, Vals xs us → Vals xs.reverse us.reverse
  | _, _, .nil => .nil
  | _, _, .cons r t => by
    rw [List.reverse_cons, List.reverse_cons]
    exact (vals_rev t).append (.cons r .nil)
theorem items_rev {its : List Value} {acc : Array Value} (h : ItemsOf (fun i v => its.toArray[its.toArray.size - 1 - i]? = some v) acc its.toArray.size) : acc.toList = its.reverse := by
  obtain ⟨h1, h2⟩ := h
  have h1 : acc.size = its.length := by simpa using h1
  rw [List.size_toArray] at h2
  apply List.ext_getElem?
  intro i
  by_cases hi : i < its.length
  · have e : acc[i]? = some (acc[i]'(by omega)) := Array.getElem?_eq_getElem (by omega)
    have := h2 i _ e
    rw [Array.getElem?_toList, e, ← this, List.getElem?_reverse hi]
    simp
  · rw [List.getElem?_eq_none (by rw [Array.length_toList]; omega), List.getElem?_eq_none (by rw [List.length_reverse]; omega)]
def tListRev (K : PySem.W.Frag) (t : TA) : TE := fun σ H Q => t σ H fun vs H1 => ∃ (a : Addr) (xs : List V), vs = [.ref a] ∧ SqL K H1 a xs ∧ ∀ l : Addr, H1 l = none → Q (.ref l) (upd H1 l (.lst xs.reverse))
section
variable {X : Cx}
theorem pe_listRev {e : Expr} {t : TA} {p1 p2 pos pos2 : Pos} (ha : PA X [e] t) (hc : X.calm = true) (hg1 : Gl X "list") (hm1 : X.mg "list" = none) (hg2 : Gl X "reversed") (hm2 : X.mg "reversed" = none)
    (he : starEach [e] X.env = (false, eval e X.env) :: starEach [] X.env := by rfl) (hpl : (backTo pos2 (starEach [] X.env)).any (·.1) = false := by rfl)
    (he' : starEach [.Call (.Name "reversed" p2) [e] [] pos2] X.env = (false, eval (.Call (.Name "reversed" p2) [e] [] pos2) X.env) :: starEach [] X.env := by rfl) (hpl' : (backTo pos (starEach [] X.env)).any (·.1) = false := by rfl) :
    PE X (.Call (.Name "list" p1) [.Call (.Name "reversed" p2) [e] [] pos2] [] pos) (tListRev X.K t) := by
  intro pins s σ H Q I h
  refine wpAny_Call_Name_kw (ld_blt I hg1 hm1 boot_listTy ?_ (by decide) (by decide))
  refine PyProof.Rows.callWith_type1 ?_ he' hpl'
  rw [he']
  show wpAny _ _ (spliced ((false, eval (.Call (.Name "reversed" p2) [e] [] pos2) X.env) :: backTo pos (starEach [] X.env))) _ _ s
  refine Calls.spliced_cons ?_
  refine wpAny_Call_Name_kw (ld_blt I hg2 hm2 boot_revT ?_ (by decide) (by decide))
  refine PyProof.Rows.callWith_type1 (thn (ha pos2 pins s σ H _ I h) fun us s1 ⟨vs, H1, I1, r1, q⟩ => ?_) he hpl
  obtain ⟨a, xs, rfl, hq, q⟩ := q
  obtain ⟨u, rfl, ru⟩ := r1.one
  cases ru
  obtain ⟨its, rv, pl, hz⟩ := I1.list hq
  have hlt : a < s1.heap.objs.size := let ⟨_, e, _⟩ := pl.isList; Heap.lt_size e
  refine call_reversed_list pl.isList (Calls.spliced_nil ?_)
  have k1 : ∀ b o, s1.heap.get? b = some o → (s1.heap.push (revObj a ((its.toArray.size : Int) - 1))).get? b = some o := fun b o e => Heap.get?_push_of_some _ e
  have hlen := rv.length
  refine call_list_rev (items := its.toArray) (I1.ok.hd hc) (Nat.ne_of_lt hlt) (by rw [List.size_toArray]; omega) ⟨_, Heap.get?_push_size _ rfl, rfl, rfl⟩ (let ⟨o, e, r⟩ := pl.isList; ⟨o, k1 _ _ e, r⟩) fun h' tk acc c' hk hS it => ?_
  have hsz : (s1.heap.push (revObj a ((its.toArray.size : Int) - 1))).objs.size = s1.heap.objs.size + 1 := Heap.size_push ..
  rw [hsz] at hS ⊢
  refine ⟨.ref (s1.heap.objs.size + 1), _, I1.laid (t' := tk) (o := .lst xs.reverse) (fun b o e => hk b o (Nat.ne_of_lt (Heap.lt_size e)) (k1 b o e)) (Nat.le_succ _) ⟨by rw [List.length_reverse]; omega, acc.toList, c', by rw [items_rev it]; exact vals_rev rv, by rw [hS, Array.toArray_toList]⟩, rfl, q _ (I1.hok.fresh (Nat.le_succ _))⟩
end

/-! ### enumerate(reversed(e)) -/
section
variable {prog : Program} {w : World} {A : Around} {E : Value → Shared → Prop} {s : Shared}
theorem nextOf_rev_item {it l : Addr} {i : Nat} {items : Array Value} {x : Value} {Q : Value → Shared → Prop} (hit : s.heap.IsRevIter it l (i : Int)) (hl : s.heap.IsList l items) (hx : items[i]? = some x)
    (hQ : ∀ h', h'.IsRevIter it l ((i : Int) - 1) → Heap.SameBut it s.heap h' → Q x { s with heap := h' }) : wpAny (model prog w) A (Builtin.SmallTypes.nextOf (.ref it)) Q E s := by
  obtain ⟨o, ho, hc, hd⟩ := id hit
  obtain ⟨ol, hol, _, nl, hdl⟩ := hl
  unfold Builtin.SmallTypes.nextOf
  refine wpAny_bind (wpAny_callSpecial?_slot (name := Str.ofString "__next__") hit.typeIs F.slot_lri_next (wpAny_call_entry F.slot_lri_next hit.typeIs F.entry_lri_next ?_ (F.args_lri_next_1 _)))
  unfold Builtin.«list_reverseiterator.__next__»
  refine wpAny_bind (wpAny_of_eq (a := (Value.ref it, [])) rfl ?_)
  try dsimp only
  refine wpAny_bind (wpAny_field ho hd (x := rawInt (i : Int)) rfl ?_)
  show wpAny _ _ (if (i : Int) < 0 then _ else _) _ _ s
  rw [if_neg (by omega)]
  show wpAny _ _ (field (.ref it) 0 >>= _) _ _ s
  refine wpAny_bind (wpAny_field ho hd (x := .ref l) rfl ?_)
  show wpAny _ _ (seqItems? (.ref l) >>= _) _ _ s
  refine wpAny_bind (wpAny_seqItems hol hdl ?_)
  simp only [Int.toNat_natCast, hx]
  refine wpAny_bind (wpAny_setField ho hd (by simp) ?_)
  have fin : Heap.IsRevIter (s.heap.update it (Obj.mapFields (·.setIfInBounds 1 (rawInt ((i : Int) - 1))))) it l ((i : Int) - 1) := ⟨_, Heap.get?_update_self _ ho (Obj.isFreed_of_fields (Obj.data_mapFields hd _)), (Obj.cls_mapFields ..).trans hc, by
    rw [Obj.data_mapFields hd]; simp⟩
  first
  | exact wpAny_pure ⟨x, rfl, wpAny_pure (hQ _ fin (Heap.SameBut.update ..))⟩
  | exact wpAny_bind (wpAny_pure (wpAny_pure ⟨x, rfl, wpAny_pure (hQ _ fin (Heap.SameBut.update ..))⟩))
theorem nextOf_rev_end {it l : Addr} {Q : Value → Shared → Prop} (hh : A.handled = none) (hit : s.heap.IsRevIter it l (-1))
    (hE : ∀ h' e, Heap.ExtBut it s.heap h' → (∃ o, h'.get? e = some o ∧ o.cls = .type "StopIteration") → E (.ref e) { s with heap := h' }) : wpAny (model prog w) A (Builtin.SmallTypes.nextOf (.ref it)) Q E s := by
  obtain ⟨o, ho, hc, hd⟩ := id hit
  unfold Builtin.SmallTypes.nextOf
  refine wpAny_bind (wpAny_callSpecial?_slot (name := Str.ofString "__next__") hit.typeIs F.slot_lri_next (wpAny_call_entry F.slot_lri_next hit.typeIs F.entry_lri_next ?_ (F.args_lri_next_1 _)))
  unfold Builtin.«list_reverseiterator.__next__»
  refine wpAny_bind (wpAny_of_eq (a := (Value.ref it, [])) rfl ?_)
  try dsimp only
  refine wpAny_bind (wpAny_field ho hd (x := rawInt (-1)) rfl ?_)
  show wpAny _ _ (if (-1 : Int) < 0 then _ else _) _ _ s
  rw [if_pos (by decide)]
  refine wpAny_bind (wpAny_rule ?_)
  first
  | show wpAny _ _ (newExc (.type "StopIteration") [] >>= _) _ _ _
  | (refine wpAny_bind ?_; show wpAny _ _ (newExc (.type "StopIteration") [] >>= _) _ _ _)
  refine wpAny_bind ?_
  simp only [newExc, newTuple]
  refine wpAny_bind (wpAny_newObj_type ?_ (by size_fits))
  refine wpAny_bind (m := firstArgMember _ _) (wpAny_of_eq (a := Value.none) (by first | rfl | (simp only [firstArgMember]; rfl)) ?_)
  refine wpAny_newObj_type ?_ (by size_fits)
  simp only [raiseNew]
  refine wpAny_bind (wpAny_handled ?_)
  first | rw [show A.in1.handled = none from hh] | rw [hh]
  refine wpAny_bind (wpAny_pure (wpAny_throw ?_))
  exact hE _ _ (((Heap.ExtBut.refl _ _).push _).push _) ⟨_, Heap.get?_push_size _ rfl, rfl⟩
theorem draws_rev (hh : A.handled = none) (I l : Addr) (hne : l ≠ I) (items : Array Value) :
    Draws prog w A I [I, l] items.size (fun i v => items[items.size - 1 - i]? = some v) (fun i h => i ≤ items.size ∧ h.IsRevIter I l ((items.size : Int) - 1 - (i : Int)) ∧ h.IsList l items) where
  live := fun _ _ x => let ⟨o, e, _⟩ := x.2.1; ⟨o, e⟩
  frame := fun _ _ _ x hk => ⟨x.1, x.2.1.at fun o e => hk I (by simp) o e, let ⟨o, e, r⟩ := x.2.2; ⟨o, hk l (by simp) o e, r⟩⟩
  item := fun i s Q E hi x hQ => by
    have e : (items.size : Int) - 1 - (i : Int) = ((items.size - 1 - i : Nat) : Int) := by omega
    have hit := x.2.1
    rw [e] at hit
    have hx : items[items.size - 1 - i]? = some (items[items.size - 1 - i]'(by omega)) := Array.getElem?_eq_getElem (by omega)
    refine nextOf_rev_item hit x.2.2 hx fun h' hit' hs' => ?_
    have e2 : ((items.size - 1 - i : Nat) : Int) - 1 = (items.size : Int) - 1 - ((i + 1 : Nat) : Int) := by omega
    rw [e2] at hit'
    exact hQ _ h' s.toks hx ⟨hi, hit', let ⟨o, e, r⟩ := x.2.2; ⟨o, (hs'.2 l hne).trans e, r⟩⟩ hs'
  done := fun s Q E x hE => by
    have e : (items.size : Int) - 1 - (items.size : Int) = -1 := by omega
    have hit := x.2.1
    rw [e] at hit
    exact nextOf_rev_end hh hit hE
set_option maxHeartbeats 1000000 in
theorem meets_enum_rev (it l : Addr) (i : Int) :
    Meets (Builtin.«enumerate.__new__» ⟨[.type "enumerate", .ref it], []⟩) (fun _ R s => s.heap.IsRevIter it l i ∧
      R (.ok (.ret (.ref s.heap.objs.size))) { s with heap := s.heap.push { cls := .type "enumerate", data := .fields #[.none, .bool false, .ref it, rawInt 0, .none, .none] } }) :=
  .of_wp fun prog w A R s h => by
    obtain ⟨hp, g, d, tk, os⟩ := s
    obtain ⟨hl, h⟩ := h
    have hsub := sub_enumerate
    wp_walk
    refine wpAny_stack_any fun st => wpAny_pure ?_
    split
    · rename_i c _ _ _ _ _
      cases (c == Value.type "enumerate")
      · wp_walk using wpAny_pyIter_revIter hl
        exact ⟨_, rfl, h⟩
      · wp_walk using wpAny_pyIter_revIter hl
        exact ⟨_, rfl, h⟩
    · wp_walk using wpAny_pyIter_revIter hl
      exact ⟨_, rfl, h⟩
theorem call_enum_rev {it l : Addr} {i : Int} {Q : Value → Shared → Prop} (hit : s.heap.IsRevIter it l i)
    (h : ∀ h', IsEnum h' s.heap.objs.size it 0 .none → h'.objs.size = s.heap.objs.size + 1 → (∀ b o, s.heap.get? b = some o → h'.get? b = some o) → Q (.ref s.heap.objs.size) { s with heap := h' }) :
    wpAny (model prog w) A (call (.type "enumerate") [.ref it]) Q E s := by
  refine callType_new F.called_enumerate (by decide) (F.typeCall_enumerate_1 _) (F.newCall_enumerate_1 _) (fun obj => F.args_object_init_2 obj _) F.entry_enumerate_new (meets_enum_rev it l i) ⟨hit, ?_⟩
  have he : IsEnum (s.heap.push { cls := .type "enumerate", data := .fields #[.none, .bool false, .ref it, rawInt 0, .none, .none] }) s.heap.objs.size it 0 .none := Heap.get?_push_size _ rfl
  exact ⟨⟨_, he, rfl⟩, h _ he (Heap.size_push ..) fun b o x => Heap.get?_push_of_some _ x⟩
end

/-- at turn i the pair of i and the i-th item from behind, a new tuple -/
def Itv (K : PySem.W.Frag) (a : Addr) (n : Nat) : It :=
  ⟨fun i H => i < n ∧ ∃ xs, SqL K H a xs ∧ xs.length = n, fun i H x H' => ∃ p v, x = .ref p ∧ H p = none ∧ H' = upd H p (.tup [.int i, v]) ∧ ∀ xs, SqL K H a xs → xs.length = n → xs[n - 1 - i]? = some v, fun i H => i = n ∧ ∃ xs, SqL K H a xs ∧ xs.length = n⟩
theorem turn_enumRev {P : Program} {w : World} {K : PySem.W.Frag} {es : List Expr} {k1 n : Nat} {tp : Pos} (a it e : Addr) (hei : e ≠ it) :
    Turn P w K (.Tuple es k1 tp) (Itv K a n) [e, it] e (fun i h => (∃ old, IsEnum h e it i old) ∧ h.IsRevIter it a ((n : Int) - 1 - (i : Int))) where
  mem := by simp
  obj := fun i h st b hb => by
    obtain ⟨⟨old, he⟩, hit⟩ := st
    rcases List.mem_cons.mp hb with rfl | hb
    · exact ⟨_, he, fun v z => nomatch z⟩
    · have e1 : b = it := by simpa using hb
      subst e1
      obtain ⟨o, e, c, d⟩ := hit
      exact ⟨o, e, fun v z => by rw [d] at z; cases z⟩
  keep := fun i h h' st k => by
    obtain ⟨⟨old, he⟩, hit⟩ := st
    exact ⟨⟨old, k e (by simp) _ he⟩, hit.at fun o e => k it (by simp) o e⟩
  item := by
    intro X hP hw hK hc i pins s σ H E I hf st hg
    subst hP hw hK
    obtain ⟨⟨old, he⟩, hit⟩ := st
    obtain ⟨hin, xs, hq, hx⟩ := hg
    obtain ⟨its, rv, p, hz⟩ := I.list hq
    have hil : its.length = n := by rw [← rv.length, hx]
    obtain ⟨e0, e1, e2, e3, e4, e5⟩ := hf e (by simp)
    obtain ⟨f0, f1, f2, f3, f4, f5⟩ := hf it (by simp)
    have helt : e < s.heap.objs.size := Heap.lt_size he
    have hilt : it < s.heap.objs.size := by obtain ⟨_, x, _⟩ := hit; exact Heap.lt_size x
    obtain ⟨oa, hoa, hca, na, hda⟩ := id p.isList
    have hai : a ≠ it := fun z => by
      obtain ⟨o', e', c', _⟩ := hit
      rw [z, e'] at hoa; cases hoa; rw [c'] at hca; exact absurd hca (by decide)
    have hae : a ≠ e := fun z => by
      rw [z] at hoa
      have : some _ = some oa := (show s.heap.get? e = some _ from he).symm.trans hoa
      cases this; exact absurd (show Value.type "enumerate" = Value.type "list" from hca) (by decide)
    have D := draws_rev (prog := X.prog) (w := X.w) (A := X.A.in1) (I.ok.hd hc) it a hai its.toArray
    have hsz0 : its.toArray.size = n := by rw [List.size_toArray]; exact hil
    rw [hsz0] at D
    refine wpAny_pyNext_enum_itemD D he ⟨Nat.le_of_lt hin, hit, p.isList⟩ hin hei (fun z => by
      rcases List.mem_cons.mp z with z | z
      · exact hei z
      · exact hae (List.mem_singleton.mp z).symm) fun u h' tk hu ho hit' hT hsz kk => ?_
    have hu : its[n - 1 - i]? = some u := by simpa using hu
    obtain ⟨x, hxv, rx⟩ := vals_at rv hu
    refine ⟨_, rfl, wpAny_letOwnedTupleGo_enum ho fun h2 he2 hs2 => ?_⟩
    have I1 : Inv X pins σ (upd H s.heap.objs.size (.tup [.int i, x])) { s with heap := h2, toks := tk + 1 } := by
      have hn : H s.heap.objs.size = none := I.hok.fresh (Nat.le_refl _)
      have keep : ∀ b o, b ≠ e → b ≠ it → s.heap.get? b = some o → h2.get? b = some o := fun b o h1 h2' e' => (hs2.2 b h1).trans (kk b o h1 h2' e')
      have nb : ∀ b o, s.heap.get? b = some o → b ≠ s.heap.objs.size := fun b o e' => Nat.ne_of_lt (Heap.lt_size e')
      have tr : ∀ b u, H b = some u → b ≠ e ∧ b ≠ it := fun b u e' => ⟨fun z => (by rw [z, e0] at e'; cases e'), fun z => (by rw [z, f0] at e'; cases e')⟩
      refine I.step (g' := s.gens) (d' := s.drawn) (ch := [e, it]) (fun b hb => ?_) (fun b o _ _ hc e' _ => keep b o (fun z => hc (by simp [z])) (fun z => hc (by simp [z])) e') (fun b o _ _ hc e' _ => ⟨o.slots, keep b o (fun z => hc (by simp [z])) (fun z => hc (by simp [z])) e'⟩)
        (fun b o _ e' n => by rw [upd_ne (nb b o e')]; exact n) (fun b o hc e' => ⟨o, keep b o (fun z => hc (by simp [z])) (fun z => hc (by simp [z])) e'⟩) (fun b ys e' => by rw [upd_ne (ne_of_none e' hn)]; exact e') (fun b o v e' => by rw [upd_ne (ne_of_none e' hn)]; exact e')
        (fun b ps e' => ⟨#[], by rw [upd_ne (ne_of_none e' hn), e']; simp⟩) (fun m hm => ?_) (fun b v e' => ?_) I.bare
      · rcases List.mem_cons.mp hb with rfl | hb
        · exact ⟨e3, e1, e4, e5⟩
        · have e1' : b = it := by simpa using hb
          subst e1'
          exact ⟨f3, f1, f4, f5⟩
      · obtain ⟨o, es', ep, ho', r⟩ := hm
        exact ⟨o, es', ep, keep _ o (Ne.symm e1) (Ne.symm f1) ho', r⟩
      · by_cases hb : b = s.heap.objs.size
        · subst hb
          rw [upd_same] at e'; cases e'
          refine ⟨by show 2 ≤ sizeLine; decide, [.int i tk, u], .cons ⟨_, rfl⟩ (.cons rx .nil), ?_⟩
          exact ⟨_, (hs2.2 _ (Nat.ne_of_gt helt)).trans hT, rfl, 0, rfl⟩
        · rw [upd_ne hb] at e'
          refine (I.hok b v e').stay (fun c v' hc q => ?_) (fun c q => by rw [upd_ne (ne_of_none q hn)]; exact q) fun c ys q => by rw [upd_ne (ne_of_none q hn)]; exact q
          rcases hc with rfl | hc
          · exact keep c v' (tr c _ e').1 (tr c _ e').2 q
          · exact keep c v' (tr c _ hc).1 (tr c _ hc).2 q
    refine ⟨.ref s.heap.objs.size, _, I1, rfl, ⟨s.heap.objs.size, x, rfl, I.hok.fresh (Nat.le_refl _), rfl, fun ys hy _ => by rw [I.list_inj hy hq]; exact hxv⟩, ⟨⟨_, by simpa using he2⟩, hit'.2.1.at fun o y => (hs2.2 it (Ne.symm hei)).trans y⟩, fun b hb => ?_⟩
    rcases List.mem_cons.mp hb with rfl | hb
    · rw [upd_ne (Nat.ne_of_lt helt)]; exact e0
    · have e1' : b = it := by simpa using hb
      subst e1'
      rw [upd_ne (Nat.ne_of_lt hilt)]; exact f0
  done := by
    intro X hP hw hK hc i pins s σ H E I hf st hg
    subst hP hw hK
    obtain ⟨⟨old, he⟩, hit⟩ := st
    obtain ⟨rfl, xs, hq, hx⟩ := hg
    obtain ⟨its, rv, p, hz⟩ := I.list hq
    obtain ⟨f0, f1, f2, f3, f4, f5⟩ := hf it (by simp)
    have hil : its.length = i := by rw [← rv.length, hx]
    obtain ⟨oa, hoa, hca, na, hda⟩ := id p.isList
    have hai : a ≠ it := fun z => by
      obtain ⟨o', e', c', _⟩ := hit
      rw [z, e'] at hoa; cases hoa; rw [c'] at hca; exact absurd hca (by decide)
    have D := draws_rev (prog := X.prog) (w := X.w) (A := X.A.in1) (I.ok.hd hc) it a hai its.toArray
    have hsz0 : its.toArray.size = i := by rw [List.size_toArray]; exact hil
    rw [hsz0] at D
    exact wpAny_pyNext_enum_endD D he ⟨Nat.le_refl _, hit, p.isList⟩ fun h' eb => ⟨rfl, I.turned (t' := s.toks) (fun b o hb e => eb b o hb e) f0 f1 f3 f4 f5⟩
  self := fun _ _ _ _ _ st h => let ⟨⟨_, he⟩, _⟩ := st; wpAny_pyIter_enum he h
section
variable {X : Cx} {es : List Expr} {k1 : Nat} {tp : Pos}
def iEnumRev (K : PySem.W.Frag) (ta : TA) : TI := fun σ H R => ta σ H fun vs H1 => ∃ a xs, vs = [.ref a] ∧ SqL K H1 a xs ∧ R (Itv K a xs.length) H1
theorem pi_enumRev {a : Expr} {ta : TA} {p p2 pos pos2 : Pos} (hg : Gl X "enumerate") (hm : X.mg "enumerate" = none) (hg2 : Gl X "reversed") (hm2 : X.mg "reversed" = none) (ha : PA X [a] ta)
    (he : starEach [a] X.env = (false, eval a X.env) :: starEach [] X.env := by rfl) (hpl : (backTo pos2 (starEach [] X.env)).any (·.1) = false := by rfl)
    (hs : starEach [.Call (.Name "reversed" p2) [a] [] pos2] X.env = [(false, eval (.Call (.Name "reversed" p2) [a] [] pos2) X.env)] := by rfl) :
    PI X (.Tuple es k1 tp) (.Call (.Name "enumerate" p) [.Call (.Name "reversed" p2) [a] [] pos2] [] pos) (iEnumRev X.K ta) := by
  intro pins s σ H R I h
  refine Call_ (ld_blt I hg hm boot_enumerate (PyProof.Rows.callWith_type1 ?_ hs rfl))
  rw [hs]
  show wpAny _ _ (spliced ((false, eval (.Call (.Name "reversed" p2) [a] [] pos2) X.env) :: backTo pos [])) _ _ s
  refine Calls.spliced_cons ?_
  refine wpAny_Call_Name_kw (ld_blt I hg2 hm2 boot_revT ?_ (by decide) (by decide))
  refine PyProof.Rows.callWith_type1 (thn (ha pos2 pins s σ H _ I h) fun us s1 ⟨vs, H1, I1, r1, q1⟩ => ?_) he hpl
  obtain ⟨l, xs, e, hq, q⟩ := q1
  subst e
  obtain ⟨u, rfl, ru⟩ := r1.one
  cases ru
  obtain ⟨its, rv, p, hz⟩ := I1.list hq
  refine call_reversed_list p.isList (Calls.spliced_nil ?_)
  have k1 : ∀ b o, s1.heap.get? b = some o → (s1.heap.push (revObj l ((its.toArray.size : Int) - 1))).get? b = some o := fun b o e => Heap.get?_push_of_some _ e
  have hsz : (s1.heap.push (revObj l ((its.toArray.size : Int) - 1))).objs.size = s1.heap.objs.size + 1 := Heap.size_push ..
  have hit : (s1.heap.push (revObj l ((its.toArray.size : Int) - 1))).IsRevIter s1.heap.objs.size l ((its.toArray.size : Int) - 1) := ⟨_, Heap.get?_push_size _ rfl, rfl, rfl⟩
  refine call_enum_rev hit fun h' he' hsz' kk => ?_
  rw [hsz] at he' hsz' ⊢
  refine wpAny_pyIter_enum he' ?_
  have hel : s1.heap.objs.size ≤ s1.heap.objs.size + 1 := Nat.le_succ _
  have hn : (its.toArray.size : Int) - 1 = (xs.length : Int) - 1 - ((0 : Nat) : Int) := by rw [List.size_toArray, ← rv.length]; simp
  rw [hn] at hit
  refine ⟨s1.heap.objs.size + 1, [s1.heap.objs.size + 1, s1.heap.objs.size], _, _, H1, rfl, I1.kept (t' := s1.toks) (fun b o e => kk b o (k1 b o e)), turn_enumRev (n := xs.length) l s1.heap.objs.size (s1.heap.objs.size + 1) (Nat.succ_ne_self _), ⟨⟨_, he'⟩, ?_⟩, fun b hb => ?_, q⟩
  · obtain ⟨o, e, r⟩ := hit
    refine ⟨o, ?_, r⟩
    rw [hn] at kk
    exact kk _ _ e
  · rcases List.mem_cons.mp hb with rfl | hb
    · exact I1.fpOk hel (I1.hok.fresh hel)
    · have e : b = s1.heap.objs.size := by simpa using hb
      subst e
      exact I1.fpOk (Nat.le_refl _) (I1.hok.fresh (Nat.le_refl _))
end
/-- over enumerate(reversed(xs)) -/
theorem for_enumRev {K : PySem.W.Frag} {a : Addr} {xs : List V} {g : TG} {tb : TS} {D : Ends} {σ : St} {H : Hp} (Pv : Nat → St → Hp → Prop) (h0 : Pv 0 σ H) (hl : ∀ i σ H, i ≤ xs.length → Pv i σ H → SqL K H a xs)
    (hs : ∀ i x p σ H, xs.reverse[i]? = some x → Pv i σ H → H p = none → g (.ref p) σ (upd H p (.tup [.int i, x])) fun σ2 H2 => tb { D with nx := Pv (i + 1), ct := Pv (i + 1), bk := D.nx } σ2 H2) (hd : ∀ σ H, Pv xs.length σ H → D.nx σ H) :
    ∃ W : Nat → Nat → St → Hp → Prop, (∃ m, W 0 m σ H) ∧ ∀ i m σ H, W i m σ H →
      ((Itv K a xs.length).stop i H ∧ D.nx σ H) ∨ ((Itv K a xs.length).go i H ∧ ∃ N : St → Hp → Prop, (∀ σ' H', N σ' H' → ∃ m', m' < m ∧ W (i + 1) m' σ' H') ∧ ∀ x H', (Itv K a xs.length).yld i H x H' → g x σ H' fun σ2 H2 => tb { D with nx := N, ct := N, bk := D.nx } σ2 H2) := by
  refine ⟨fun i m σ H => m = xs.length - i ∧ i ≤ xs.length ∧ Pv i σ H, ⟨xs.length, by simp, Nat.zero_le _, h0⟩, ?_⟩
  rintro i m σ H ⟨rfl, hi, p⟩
  have q := hl i σ H hi p
  by_cases hlt : i < xs.length
  · refine .inr ⟨⟨hlt, xs, q, rfl⟩, Pv (i + 1), fun σ' H' p' => ⟨xs.length - (i + 1), by omega, rfl, hlt, p'⟩, fun x H' y => ?_⟩
    obtain ⟨pa, v, rfl, hp, rfl, y⟩ := y
    exact hs i v pa σ H (by rw [List.getElem?_reverse hlt]; exact y xs q rfl) p hp
  · have e : i = xs.length := by omega
    subst e
    exact .inl ⟨⟨rfl, xs, q, rfl⟩, hd σ H p⟩

/-! ### min, max of a list, with default= -/
section
variable {prog : Program} {w : World} {A : Around} {R : Result → Shared → Prop} {I S : Addr} {fp wr : List Addr} {n : Nat} {P : Nat → Value → Prop} {St : Nat → Heap → Prop} {bt : Nat → Nat → Bool} {kw : List (Str × Value)}
end

section
variable {prog : Program} {w : World} {A : Around} {R : Result → Shared → Prop} {I S : Addr} {fp wr : List Addr} {n : Nat} {P : Nat → Value → Prop} {St : Nat → Heap → Prop} {bt : Nat → Nat → Bool} {kw : List (Str × Value)}
end


end L2

set_option Elab.async false
set_option linter.all false
set_option maxRecDepth 100000
set_option maxHeartbeats 4000000
/-! xs.insert(i, y); set(xs) of ints, its len. -/
namespace L2
open PySem PySem.Spec PyProof.Rows
end L2

set_option Elab.async false
set_option linter.all false
/-! how arguments bind, by the number of the parameters; a statement read with the rest kept shut -/
namespace L2
open PySem PySem.Spec PyProof.Rows
theorem cons_of {α : Type} {us : List α} {n : Nat} (h : us.length = n + 1) : ∃ u r, us = u :: r ∧ r.length = n := by
  cases us with
  | nil => cases h
  | cons u r => exact ⟨u, r, rfl, Nat.succ.inj h⟩
section
variable {K : PySem.W.Frag} {x qual : Str} {st : Stmt} {f : Addr} {fd : FuncData} {p1 p2 p3 p4 p5 : Str}
theorem Fun.binds1 (F : Fun K x qual st f fd) (h : ∀ (kV doc pm : Value) (an : Option Addr) (cdv ct u1 : Value), bindArgs (PySem.W.fnOf x qual (defArgs st) (defBody st) (defScope st) .none kV doc pm an cdv ct) ⟨[u1], []⟩ = pure [(p1, u1)]) : Binds K fd [p1] [] :=
  F.binds (ps := [p1]) fun a b c d e g us h0 => by
    obtain ⟨u1, r1, rfl, h1⟩ := cons_of (n := 0) h0
    obtain rfl := List.eq_nil_of_length_eq_zero h1
    exact h a b c d e g u1
theorem Fun.binds2 (F : Fun K x qual st f fd) (h : ∀ (kV doc pm : Value) (an : Option Addr) (cdv ct u1 u2 : Value), bindArgs (PySem.W.fnOf x qual (defArgs st) (defBody st) (defScope st) .none kV doc pm an cdv ct) ⟨[u1, u2], []⟩ = pure [(p1, u1), (p2, u2)]) : Binds K fd [p1, p2] [] :=
  F.binds (ps := [p1, p2]) fun a b c d e g us h0 => by
    obtain ⟨u1, r1, rfl, h1⟩ := cons_of (n := 1) h0
    obtain ⟨u2, r2, rfl, h2⟩ := cons_of (n := 0) h1
    obtain rfl := List.eq_nil_of_length_eq_zero h2
    exact h a b c d e g u1 u2
theorem Fun.binds3 (F : Fun K x qual st f fd) (h : ∀ (kV doc pm : Value) (an : Option Addr) (cdv ct u1 u2 u3 : Value), bindArgs (PySem.W.fnOf x qual (defArgs st) (defBody st) (defScope st) .none kV doc pm an cdv ct) ⟨[u1, u2, u3], []⟩ = pure [(p1, u1), (p2, u2), (p3, u3)]) : Binds K fd [p1, p2, p3] [] :=
  F.binds (ps := [p1, p2, p3]) fun a b c d e g us h0 => by
    obtain ⟨u1, r1, rfl, h1⟩ := cons_of (n := 2) h0
    obtain ⟨u2, r2, rfl, h2⟩ := cons_of (n := 1) h1
    obtain ⟨u3, r3, rfl, h3⟩ := cons_of (n := 0) h2
    obtain rfl := List.eq_nil_of_length_eq_zero h3
    exact h a b c d e g u1 u2 u3
end
/-- the rest of the statements kept shut while the first is read -/
theorem seq_gen {t u : TS} {D : Ends} {σ : St} {H : Hp} (h : ∀ U : TS, U = u → t { D with nx := U D } σ H) : tSeq t u D σ H := h u rfl
theorem abs3k {G : Prop} (P : Nat → St → Hp → Prop) (h : ∀ Pv : Nat → St → Hp → Prop, (∀ i σ H, Pv i σ H ↔ P i σ H) → G) : G := h P fun _ _ _ => Iff.rfl
end L2

set_option Elab.async false
set_option linter.all false
set_option maxRecDepth 100000
set_option maxHeartbeats 4000000
/-! xs[::-1] of a list. -/
namespace L2
open PySem PySem.Spec PyProof.Rows
section
variable {X : Cx} {e st : Expr} {te : TE} {tst : TO} {p2 pos : Pos}
def tRev (K : PySem.W.Frag) (te : TE) (tst : TO) : TE := fun σ H Q => te σ H fun x H1 => tst σ H1 fun k H2 => k = some (-1) ∧ ∃ a xs, x = .ref a ∧ SqL K H2 a xs ∧ ∀ p, H2 p = none → Q (.ref p) (upd H2 p (.lst xs.reverse))
theorem Vals.rev {xs : List V} {us : List Value} (r : Vals xs us) : Vals xs.reverse us.reverse := by
  induction r with
  | nil => exact .nil
  | cons h t ih => rw [List.reverse_cons, List.reverse_cons]; exact Vals.append ih (.cons h .nil)
theorem pe_rev (he : PE X e te) (hst : PO X (some st) tst) : PE X (.Subscript e (.Slice none none (some st) p2) pos) (tRev X.K te tst) := by
  intro pins s σ H Q I h
  refine Subscript_ (thn (he pins s σ H _ I h) fun v s1 ⟨x, H1, I1, r1, q1⟩ => ?_)
  refine wpAny_Slice ?_
  rw [evalPart_none]
  refine wpAny_pure (wpAny_pure ?_)
  refine thn (hst pins s1 σ H1 _ I1 q1) fun vk s2 ⟨k, H2, I2, pk, hk, a, xs, ex, hq, q⟩ => ?_
  subst ex hk
  obtain rfl : v = Value.ref a := r1
  have I4 : Inv X pins σ H2 { s2 with heap := s2.heap.push { cls := .type "slice", data := .fields #[.none, .none, vk] } } := I2.kept (t' := s2.toks) fun b ob q => Heap.get?_push_of_some _ q
  obtain ⟨its, r, ht, hz⟩ := I4.list hq
  have hlen := r.length
  show wpAny (model X.prog X.w) X.A (subscriptTail e (.Slice none none (some st) p2) (.ref a) (.ref s2.heap.objs.size)) (EP X pins σ Q) X.xe { s2 with heap := s2.heap.push { cls := .type "slice", data := .fields #[.none, .none, vk] } }
  refine tail_any (ops := [.ref a, .ref s2.heap.objs.size]) ht.isList.typeIs slot_list_getitem.lookup ?_ (by with_unfolding_all rfl)
  refine wpAny_getItem_list_slice ht.isList (Heap.IsSliceOf.new ..) .none .none pk (by decide) ?_ (by rw [List.size_toArray] <;> omega)
  rw [PySem.W.krv_pick]
  refine ⟨.ref _, _, I4.laid (t' := s2.toks) (o := .lst xs.reverse) (fun b ob q => Heap.get?_push_of_some _ q) (Nat.le_refl _) ?_, rfl, q _ (I4.hok.fresh (Nat.le_refl _))⟩
  exact ⟨by rw [List.length_reverse]; exact hz, _, 0, r.rev, Heap.get?_push_size _ rfl⟩
end
end L2

set_option Elab.async false
set_option linter.all false
set_option maxRecDepth 100000
set_option maxHeartbeats 4000000
/-! walking a set: its iterator -/
namespace L2
open PySem
theorem si_slot : Slot "set_iterator" "__next__" "set_iterator.__next__" := by
  refine .of (owner := "set_iterator") (n := "__next__") ?_ ?_ ?_ ?_ ?_ ?_
  · rw [typeLookup_type, builtinLookup_eq_fast]; kernel_rfl
  · decide +kernel
  · decide +kernel
  · decide +kernel
  · first | exact .inl (by decide +kernel) | exact .inr (by decide +kernel)
  · rw [isSubtype_type]; kernel_rfl
theorem si_entry : entryFor table "set_iterator.__next__" = some Builtin.«set_iterator.__next__» := entryFor_of_tree (by kernel_rfl)
theorem si_iter : entryFor table "set.__iter__" = some Builtin.«frozenset.__iter__» :=
  entryFor_alias (id' := "frozenset.__iter__") (by kernel_rfl) rfl (by decide +kernel) (by kernel_rfl)
theorem si_args (a : Value) : argsOk "set_iterator.__next__" ⟨[a], []⟩ := by
  unfold argsOk
  kernel_rfl
theorem pick_perm {α : Type} (next : Nat → Nat) : ∀ (n k : Nat) (left : List α) (out : Array α), left.length = n → (pickOrder.go next n k left out).toList.Perm (out.toList ++ left)
  | 0, k, left, out, h => by
    rw [List.length_eq_zero_iff.mp h, List.append_nil]
    exact List.Perm.refl _
  | n + 1, k, left, out, h => by
    have hl : next k % left.length < left.length := Nat.mod_lt _ (by omega)
    unfold pickOrder.go
    rw [List.getElem?_eq_getElem hl]
    refine (pick_perm next n (k + 1) _ _ (by rw [List.length_eraseIdx, if_pos hl]; omega)).trans ?_
    rw [Array.toList_push, List.append_assoc]
    refine List.Perm.append_left _ ?_
    rw [List.singleton_append]
    rw [List.eraseIdx_eq_take_drop_succ]
    have e : left.take (next k % left.length) ++ left[next k % left.length] :: left.drop (next k % left.length + 1) = left := by
      rw [← List.drop_eq_getElem_cons hl]; exact List.take_append_drop _ _
    exact List.perm_middle.symm.trans (by rw [e])
/-- the slot from which the i-th item is looked for -/
def slotOf (t : SetTable) : Nat → Nat
  | 0 => 0
  | i + 1 => t.place.getD i 0 + 1
/-- the table is walked in the entries' own order -/
def setGood (t : SetTable) (n : Nat) : Bool := t.plain && t.led && t.place.size == n && (List.range (n + 1)).all fun i => SetTable.below t.place (slotOf t i) == i
def ordOf (w : World) (S : Addr) (es : Array (Int × Value)) (ep : Nat) : Array (Int × Value) := if w.params.followText "set-order" = true then pickOrder (w.params.setOrder S ep) es else es
def slotW (w : World) (t : SetTable) (i : Nat) : Nat := if w.params.followText "set-order" = true then 0 else slotOf t i
theorem ord_perm {w : World} {S : Addr} {es : Array (Int × Value)} {ep : Nat} : (ordOf w S es ep).toList.Perm es.toList := by
  unfold ordOf
  split
  · exact pick_perm _ _ _ _ _ (by simp)
  · exact List.Perm.refl _
theorem good_at {t : SetTable} {n i : Nat} (h : setGood t n = true) (hi : i ≤ n) : t.plain = true ∧ t.led = true ∧ t.place.size = n ∧ SetTable.below t.place (slotOf t i) = i := by
  unfold setGood at h
  rw [Bool.and_eq_true, Bool.and_eq_true, Bool.and_eq_true] at h
  refine ⟨h.1.1.1, h.1.1.2, eq_of_beq h.1.2, ?_⟩
  exact eq_of_beq (List.all_eq_true.mp h.2 i (List.mem_range.mpr (by omega)))
section
variable {prog : Program} {w : World} {A : Around} {E : Value → Shared → Prop} {s : Shared}
theorem next_set {S : Addr} {o : Obj} {es : Array (Int × Value)} {ep i : Nat} {t : SetTable} {Q : Option (Value × Nat) → Shared → Prop} (ho : s.heap.get? S = some o) (hd : o.data = .set es ep t) (hf : t.fits es.size = true)
    (hg : w.params.followText "set-order" = false → setGood t es.size = true) (hi : i ≤ es.size) (h : Q (((ordOf w S es ep)[i]?).map fun e => (e.2, slotW w t (i + 1))) s) : wpAny (model prog w) A (setNext S (slotW w t i) i ep) Q E s := by
  unfold setNext
  refine wpAny_bind (wpAny_setState_of ho hd hf ?_)
  dsimp only
  refine wpAny_bind ?_
  unfold setsByText
  refine wpAny_bind (wpAny_askSetting (wpAny_pure ?_))
  cases hb : w.params.followText "set-order" with
  | true =>
    have hb' : (model prog w).w.params.followText "set-order" = true := hb
    rw [hb']
    unfold ordOf slotW at h
    rw [if_pos hb, if_pos hb] at h
    show wpAny _ _ (if (ep != ep) = true then _ else _) _ _ _
    rw [if_neg (by simp)]
    unfold slotW
    rw [if_pos hb]
    refine wpAny_bind ?_
    unfold setWalk
    refine wpAny_bind (wpAny_setState_of ho hd hf ?_)
    dsimp only
    refine wpAny_bind ?_
    unfold setsByText
    refine wpAny_bind (wpAny_askSetting (wpAny_pure ?_))
    rw [hb']
    show wpAny _ _ (ask >>= _) _ _ _
    refine wpAny_bind (wpAny_askSetting (wpAny_pure ?_))
    exact wpAny_pure h
  | false =>
    have hb' : (model prog w).w.params.followText "set-order" = false := hb
    rw [hb']
    obtain ⟨g1, g2, g3, g4⟩ := good_at (hg hb) hi
    have hn : ¬ (w.params.followText "set-order" = true) := by rw [hb]; exact Bool.false_ne_true
    unfold ordOf slotW at h
    rw [if_neg hn, if_neg hn] at h
    unfold slotW
    rw [if_neg hn]
    obtain ⟨tm, tp, td, tf, tl, tv, tpl⟩ := t
    dsimp only at g1 g2 g3
    subst g1; subst g2
    show wpAny _ _ (pure () >>= fun _ => _) _ _ _
    refine wpAny_bind (wpAny_pure ?_)
    rw [g4]
    dsimp only
    refine wpAny_pure ?_
    rcases Nat.lt_or_ge i es.size with hlt | hge
    · have ht : i < tp.size := by rw [g3]; exact hlt
      have es' : slotOf { mask := tm, place := tp, dummies := td, finger := tf, led := true, moves := tv, plain := true } (i + 1) = tp[i] + 1 := by
        show tp.getD i 0 + 1 = _
        simp [Array.getD, ht]
      rw [es'] at h
      rw [Array.getElem?_eq_getElem hlt] at h ⊢
      rw [Array.getElem?_eq_getElem ht]
      exact h
    · rw [Array.getElem?_eq_none hge] at h ⊢
      exact h
/-- the iterator before its i-th item -/
def ItAt (w : World) (h : Heap) (it S : Addr) (t : SetTable) (n ep i : Nat) : Prop := ∃ o, h.get? it = some o ∧ o.cls = .type "set_iterator" ∧ o.data = .fields #[rawInt (slotW w t i), rawInt i, .ref S, rawInt n, rawInt ep]
theorem ItAt.ty {it S : Addr} {t : SetTable} {n ep i : Nat} (x : ItAt w s.heap it S t n ep i) : s.TypeIs (.ref it) "set_iterator" := let ⟨o, ho, hc, _⟩ := x; ⟨o, ho, hc⟩
theorem next_item {it S : Addr} {o : Obj} {es : Array (Int × Value)} {ep i : Nat} {t : SetTable} {e : Int × Value} {Q : Option Value → Shared → Prop} (hit : ItAt w s.heap it S t es.size ep i) (ho : s.heap.get? S = some o) (hd : o.data = .set es ep t) (hf : t.fits es.size = true)
    (hg : w.params.followText "set-order" = false → setGood t es.size = true) (hi : i < es.size) (he : (ordOf w S es ep)[i]? = some e)
    (hQ : ∀ h', ItAt w h' it S t es.size ep (i + 1) → Heap.SameBut it s.heap h' → Q (some e.2) { s with heap := h' }) : wpAny (model prog w) A (pyNext (.ref it)) Q E s := by
  obtain ⟨oi, hoi, hci, hdi⟩ := id hit
  unfold pyNext
  refine wpAny_bind (wpAny_attempt (wpAny_callSpecial?_slot (name := Str.ofString "__next__") hit.ty si_slot (wpAny_call_entry si_slot hit.ty si_entry ?_ (si_args _))))
  unfold Builtin.«set_iterator.__next__»
  refine wpAny_bind (wpAny_pure ?_)
  refine wpAny_bind (wpAny_fieldsOf hoi hdi ?_)
  dsimp only [rawInt]
  refine wpAny_bind (wpAny_setEntries_of ho hd hf ?_)
  rw [if_neg (by simp)]
  refine wpAny_bind ?_
  simp only [Int.toNat_natCast]
  refine next_set ho hd hf hg (Nat.le_of_lt hi) ?_
  rw [he]
  show wpAny _ _ (setField (.ref it) 0 (rawInt (slotW w t (i + 1) : Nat)) >>= fun _ => setField (.ref it) 1 (rawInt ((i : Int) + 1)) >>= fun _ => ret e.2) _ _ s
  refine wpAny_bind (wpAny_setField hoi hdi (by simp) ?_)
  have h1 := Heap.get?_update_self (Obj.mapFields (·.setIfInBounds 0 (rawInt (slotW w t (i + 1) : Nat)))) hoi (Obj.isFreed_of_fields (Obj.data_mapFields hdi _))
  have d1 := Obj.data_mapFields hdi (·.setIfInBounds 0 (rawInt (slotW w t (i + 1) : Nat)))
  refine wpAny_bind (wpAny_setField (s := { s with heap := _ }) h1 d1 (by simp) ?_)
  refine wpAny_pure ⟨_, rfl, wpAny_pure (hQ _ ⟨_, Heap.get?_update_self _ h1 (Obj.isFreed_of_fields (Obj.data_mapFields d1 _)), ?_, ?_⟩ ((Heap.SameBut.update ..).trans (Heap.SameBut.update ..)))⟩
  · exact (Obj.cls_mapFields ..).trans ((Obj.cls_mapFields ..).trans hci)
  · rw [Obj.data_mapFields d1]
    simp [rawInt]
theorem next_end {it S : Addr} {o : Obj} {es : Array (Int × Value)} {ep : Nat} {t : SetTable} {Q : Option Value → Shared → Prop} (hh : A.handled = none) (hit : ItAt w s.heap it S t es.size ep es.size) (ho : s.heap.get? S = some o) (hd : o.data = .set es ep t) (hf : t.fits es.size = true)
    (hg : w.params.followText "set-order" = false → setGood t es.size = true)
    (hQ : ∀ h', Heap.ExtBut it s.heap h' → Q none { s with heap := h' }) : wpAny (model prog w) A (pyNext (.ref it)) Q E s := by
  obtain ⟨oi, hoi, hci, hdi⟩ := id hit
  unfold pyNext
  refine wpAny_bind (wpAny_attempt (wpAny_callSpecial?_slot (name := Str.ofString "__next__") hit.ty si_slot (wpAny_call_entry si_slot hit.ty si_entry ?_ (si_args _))))
  unfold Builtin.«set_iterator.__next__»
  refine wpAny_bind (wpAny_pure ?_)
  refine wpAny_bind (wpAny_fieldsOf hoi hdi ?_)
  dsimp only [rawInt]
  refine wpAny_bind (wpAny_setEntries_of ho hd hf ?_)
  rw [if_neg (by simp)]
  refine wpAny_bind ?_
  simp only [Int.toNat_natCast]
  refine next_set ho hd hf hg (Nat.le_refl _) ?_
  have hn : (ordOf w S es ep)[es.size]? = none := by
    refine Array.getElem?_eq_none ?_
    have := (ord_perm (w := w) (S := S) (es := es) (ep := ep)).length_eq
    rw [Array.length_toList, Array.length_toList] at this
    omega
  rw [hn]
  show wpAny _ _ (setField (.ref it) 2 .none >>= fun _ => newExc (.type "StopIteration") [] >>= fun x => raiseNew x) _ _ s
  refine wpAny_bind (wpAny_setField hoi hdi (by simp) ?_)
  refine wpAny_bind ?_
  simp only [newExc, newTuple]
  refine wpAny_bind (wpAny_newObj_type ?_ (by size_fits))
  refine wpAny_bind (m := firstArgMember _ _) (wpAny_of_eq (a := Value.none) (by first | rfl | (simp only [firstArgMember]; rfl)) ?_)
  refine wpAny_newObj_type ?_ (by size_fits)
  simp only [raiseNew]
  refine wpAny_bind (wpAny_handled ?_)
  rw [show A.in1.handled = none from hh]
  refine wpAny_bind (wpAny_pure (wpAny_throw ?_))
  refine wpAny_bind (wpAny_isInstance (T := "StopIteration") (b := true) ⟨_, Heap.get?_push_size _ rfl, rfl⟩ isSubtype_stop ?_)
  exact wpAny_pure (hQ _ (((Heap.SameBut.update ..).extBut.push _).push _))
theorem drawn_set {S : Addr} {o : Obj} {es : Array (Int × Value)} {ep : Nat} {t : SetTable} {Q : Bool → Shared → Prop} (ho : s.heap.get? S = some o) (hd : o.data = .set es ep t) (hf : t.fits es.size = true)
    (hg : w.params.followText "set-order" = false → setGood t es.size = true) (hQ : Q false s) : wpAny (model prog w) A (setDrawn S) Q E s := by
  unfold setDrawn
  refine wpAny_bind (wpAny_setState_of ho hd hf ?_)
  dsimp only
  refine wpAny_bind ?_
  unfold setsByText
  refine wpAny_bind (wpAny_askSetting (wpAny_pure (wpAny_pure ?_)))
  cases hb : w.params.followText "set-order" with
  | true =>
    have hb' : (model prog w).w.params.followText "set-order" = true := hb
    rw [hb']
    exact hQ
  | false =>
    have hb' : (model prog w).w.params.followText "set-order" = false := hb
    rw [hb']
    have g1 := (good_at (hg hb) (Nat.zero_le _)).1
    obtain ⟨tm, tp, td, tf, tl, tv, tpl⟩ := t
    dsimp only at g1
    subst g1
    exact hQ
/-- iter(set) -/
theorem iter_set {S : Addr} {o : Obj} {es : Array (Int × Value)} {ep : Nat} {t : SetTable} {Q : Value → Shared → Prop} (ho : s.heap.get? S = some o) (hc : o.cls = .type "set") (hd : o.data = .set es ep t) (hf : t.fits es.size = true)
    (hg : w.params.followText "set-order" = false → setGood t es.size = true)
    (hQ : Q (.ref s.heap.objs.size) { s with heap := s.heap.push { cls := .type "set_iterator", data := .fields #[rawInt (slotW w t 0), rawInt (0 : Nat), .ref S, rawInt es.size, rawInt ep] } }) : wpAny (model prog w) A (pyIter (.ref S)) Q E s := by
  have hT : s.TypeIs (.ref S) "set" := ⟨o, ho, hc⟩
  refine wpAny_pyIter_slot hT F.slot_set_iter (wpAny_call_entry F.slot_set_iter hT si_iter ?_ (F.args_set_iter_1 _))
  unfold Builtin.«frozenset.__iter__» Builtin.Frozenset.slot0 slotArgs
  simp only [List.isEmpty_nil, Bool.not_true, Bool.false_eq_true, ↓reduceIte, bind_assoc, List.length_nil, bne_self_eq_false]
  unfold Builtin.Frozenset.addrOf Builtin.Frozenset.sizeOf
  refine wpAny_bind (wpAny_pure ?_)
  try dsimp only
  refine wpAny_bind (wpAny_pure ?_)
  refine wpAny_bind (wpAny_bind (wpAny_setEntries_of ho hd hf (wpAny_pure ?_)))
  refine wpAny_bind (drawn_set ho hd hf hg ?_)
  rw [if_neg Bool.false_ne_true]
  refine wpAny_bind (wpAny_pure ?_)
  refine wpAny_bind (wpAny_setEpoch_of ho hd hf ?_)
  have e0 : slotW w t 0 = 0 := by unfold slotW slotOf; split <;> rfl
  rw [e0] at hQ
  refine wpAny_bind ?_
  unfold newFields
  refine wpAny_newObj_type (wpAny_pure ⟨_, rfl, "set_iterator", _, ⟨_, Heap.get?_push_size _ rfl, rfl⟩, si_slot.lookup, ?_⟩)
  exact hQ
theorem ItAt.ext {h h' : Heap} {it b S : Addr} {t : SetTable} {n ep i : Nat} (x : ItAt w h it S t n ep i) (k : ∀ o, h.get? it = some o → h'.get? it = some o) : ItAt w h' it S t n ep i := let ⟨o, ho, r⟩ := x; ⟨o, k _ ho, r⟩
theorem si_iterS : Slot "set_iterator" "__iter__" "set_iterator.__iter__" := by
  refine .of (owner := "set_iterator") (n := "__iter__") ?_ ?_ ?_ ?_ ?_ ?_
  · rw [typeLookup_type, builtinLookup_eq_fast]; kernel_rfl
  · decide +kernel
  · decide +kernel
  · decide +kernel
  · first | exact .inl (by decide +kernel) | exact .inr (by decide +kernel)
  · rw [isSubtype_type]; kernel_rfl
theorem si_iterE : entryFor table "set_iterator.__iter__" = some Builtin.«dict_keyiterator.__iter__» :=
  entryFor_alias (id' := "dict_keyiterator.__iter__") (by kernel_rfl) rfl (by decide +kernel) (by kernel_rfl)
theorem si_iterA (a : Value) : argsOk "set_iterator.__iter__" ⟨[a], []⟩ := by
  unfold argsOk
  kernel_rfl
theorem set_walks {prog : Program} {w : World} {A : Around} (hh : A.handled = none) (it S : Addr) (hne : S ≠ it) {o : Obj} {es : Array (Int × Value)} {ep : Nat} {t : SetTable} (hd : o.data = .set es ep t) (hf : t.fits es.size = true)
    (hg : w.params.followText "set-order" = false → setGood t es.size = true) :
    Walks prog w A it [it, S] [it] es.size (fun i v => ∃ e, (ordOf w S es ep)[i]? = some e ∧ v = e.2) (fun i h => ItAt w h it S t es.size ep i ∧ h.get? S = some o) where
  sub := fun b hb => by simp at hb; simp [hb]
  frame := fun _ _ _ st hk => ⟨st.1.ext (b := it) fun o e => hk it (by simp) o e, hk S (by simp) _ st.2⟩
  item := fun i s Q E hi st hQ => by
    have hl : i < (ordOf w S es ep).size := by
      have := (ord_perm (w := w) (S := S) (es := es) (ep := ep)).length_eq
      rw [Array.length_toList, Array.length_toList] at this
      omega
    refine next_item (e := (ordOf w S es ep)[i]) st.1 st.2 hd hf hg hi (Array.getElem?_eq_getElem hl) fun h' it' sb => ?_
    exact hQ _ h' s.toks ⟨_, Array.getElem?_eq_getElem hl, rfl⟩ ⟨it', sb.extBut S o hne st.2⟩ fun b o hb e => sb.extBut b o (fun h => hb (by simp [h])) e
  done := fun s Q E st hQ => next_end hh st.1 st.2 hd hf hg fun h' he' => hQ h' s.toks fun b o hb e => he' b o (fun h => hb (by simp [h])) e
  self := fun i s Q E st hQ => by
    refine wpAny_pyIter_slot st.1.ty si_iterS (wpAny_call_entry si_iterS st.1.ty si_iterE ?_ (si_iterA _))
    show wpAny _ _ (ret (.ref it)) _ _ s
    exact wpAny_pure ⟨_, rfl, "set_iterator", _, st.1.ty, si_slot.lookup, hQ⟩
theorem hint_set {prog : Program} {w : World} {A : Around} {E : Value → Shared → Prop} {s : Shared} {S : Addr} {Q : Bool → Shared → Prop} (hT : s.TypeIs (.ref S) "set") (hQ : Q false s) : wpAny (model prog w) A (Builtin.List.listLengthHint (.ref S)) Q E s := by
  unfold Builtin.List.listLengthHint
  refine wpAny_bind (wpAny_specialOf hT F.slot_set_len.lookup ?_)
  generalize hid : ("set.__len__" : String) = id0
  wp_delta
  rw [show splitId id0 = some ("set", "__len__") from by subst hid; decide +kernel]
  subst hid
  refine wpAny_bind (wpAny_isInstance (T := "set") (b := true) hT (by rw [isSubtype_type]; kernel_rfl) ?_)
  refine wpAny_ite_split (fun hab => absurd hab (by decide)) (fun _ => ?_)
  refine wpAny_ite_split (fun _ => ?_) (fun hab => absurd (by decide +kernel) hab)
  refine wpAny_bind (wpAny_typeOf hT ?_)
  exact wpAny_pure hQ
/-- what sorted makes of a set before it sorts -/
theorem collect_set {prog : Program} {w : World} {A : Around} {E : Value → Shared → Prop} {s : Shared} {S : Addr} {o : Obj} {es : Array (Int × Value)} {ep : Nat} {t : SetTable} {Q : List Value → Shared → Prop} (hh : A.handled = none) (ho : s.heap.get? S = some o) (hc : o.cls = .type "set") (hd : o.data = .set es ep t) (hf : t.fits es.size = true)
    (hg : w.params.followText "set-order" = false → setGood t es.size = true) (hn : es.size ≤ 1000)
    (hQ : ∀ h' tk acc, (∀ b o, s.heap.get? b = some o → h'.get? b = some o) → s.heap.objs.size < h'.objs.size → ItemsOf (fun i v => ∃ e, (ordOf w S es ep)[i]? = some e ∧ v = e.2) acc es.size → Q acc.toList { s with heap := h', toks := tk }) : wpAny (model prog w) A (collect (.ref S)) Q E s := by
  have hSl : S < s.heap.objs.size := Heap.lt_size ho
  unfold collect
  refine wpAny_bind (wpAny_runValue (codeAny_builtin F.entry_proto_collect ?_))
  rw [Around.under_plainId F.plain_proto_collect _]
  show wpAny _ A.in1 (newList [] >>= fun l => again (.builtin "list.__iadd__" ⟨[l, .ref S], []⟩)) _ _ s
  refine wpAny_bind (wpAny_newObj_type ?_)
  refine wpAny_pure ⟨plainId_quiet F.plain_list_iadd _, codeAny_builtin F.entry_list_iadd ?_⟩
  rw [Around.under_plainId F.plain_list_iadd _]
  show wpAny _ A.in1 (Builtin.List.listExtendWith (.ref s.heap.objs.size) (.ref S) (.ref s.heap.objs.size)) _ _ _
  unfold Builtin.List.listExtendWith
  have hoS : (s.heap.push { cls := .type "list", data := .seq ([] : List Value).toArray }).get? S = some o := Heap.get?_push_of_some _ ho
  have hT : Shared.TypeIs { s with heap := s.heap.push { cls := .type "list", data := .seq ([] : List Value).toArray } } (.ref S) "set" := ⟨o, hoS, hc⟩
  refine wpAny_bind (wpAny_typeOf hT ?_)
  have h1 : Builtin.List.listSameRef (.ref s.heap.objs.size) (.ref S) = false := by
    have : s.heap.objs.size ≠ S := Nat.ne_of_gt hSl
    simp [Builtin.List.listSameRef, this]
  have h2 : (Value.type "set" == Value.type "list") = false := by decide
  have h3 : (Value.type "set" == Value.type "tuple") = false := by decide
  simp only [h1, h2, h3, Bool.or_false, Bool.false_eq_true, if_false]
  refine wpAny_bind (iter_set hoS hc hd hf hg ?_)
  have hz : (s.heap.push { cls := .type "list", data := .seq ([] : List Value).toArray }).objs.size = s.heap.objs.size + 1 := Heap.size_push ..
  refine wpAny_bind (wpAny_holding (hint_set ⟨o, Heap.get?_push_of_some _ hoS, hc⟩ ?_))
  refine wpAny_ite_split (fun _ => ?_) (fun hab => absurd (by decide +kernel) hab)
  refine wpAny_bind (wpAny_rule ?_)
  refine wpAny_bind ?_
  have k2 : ∀ b u, s.heap.get? b = some u → ((s.heap.push { cls := .type "list", data := .seq ([] : List Value).toArray }).push { cls := .type "set_iterator", data := .fields #[rawInt (slotW w t 0), rawInt (0 : Nat), .ref S, rawInt es.size, rawInt ep] }).get? b = some u :=
    fun b u e => Heap.get?_push_of_some _ (Heap.get?_push_of_some _ e)
  have hL : ((s.heap.push { cls := .type "list", data := .seq ([] : List Value).toArray }).push { cls := .type "set_iterator", data := .fields #[rawInt (slotW w t 0), rawInt (0 : Nat), .ref S, rawInt es.size, rawInt ep] }).get? s.heap.objs.size = some { cls := .type "list", data := .seq ([] : List Value).toArray } :=
    Heap.get?_push_of_some _ (Heap.get?_push_size _ rfl)
  have hI : ItAt w ((s.heap.push { cls := .type "list", data := .seq ([] : List Value).toArray }).push { cls := .type "set_iterator", data := .fields #[rawInt (slotW w t 0), rawInt (0 : Nat), .ref S, rawInt es.size, rawInt ep] }) (s.heap.push { cls := .type "list", data := .seq ([] : List Value).toArray }).objs.size S t es.size ep 0 :=
    ⟨_, Heap.get?_push_size _ rfl, rfl, rfl⟩
  dsimp only
  rw [hz] at hI ⊢
  generalize (s.heap.push { cls := .type "list", data := .seq ([] : List Value).toArray }).push { cls := .type "set_iterator", data := .fields #[rawInt (slotW w t 0), rawInt (0 : Nat), .ref S, rawInt es.size, rawInt ep] } = h2 at k2 hL hI ⊢
  show wpAny _ _ (updateSeq s.heap.objs.size (·.push .none) >>= fun _ => updateSeq s.heap.objs.size (·.pop)) _ _ _
  refine wpAny_bind (wpAny_updateSeq (s := { s with heap := h2 }) hL rfl ?_)
  have hL2 := Heap.get?_update_self (Obj.mapSeq (·.push Value.none)) hL rfl
  refine wpAny_updateSeq (hz := by seq_fits) hL2 rfl ?_
  have hL3 := Heap.get?_update_self (Obj.mapSeq (·.pop)) hL2 rfl
  have oth : ∀ b u, b ≠ s.heap.objs.size → h2.get? b = some u → ((h2.update s.heap.objs.size (Obj.mapSeq (·.push Value.none))).update s.heap.objs.size (Obj.mapSeq (·.pop))).get? b = some u :=
    fun b u hb e => (Heap.get?_update_other _ _ (Ne.symm hb)).trans ((Heap.get?_update_other _ _ (Ne.symm hb)).trans e)
  have nI : s.heap.objs.size + 1 ≠ s.heap.objs.size := Nat.succ_ne_self _
  have W := (set_walks (prog := prog) (w := w) (A := A.in1) hh (s.heap.objs.size + 1) S (Nat.ne_of_lt (Nat.lt_succ_of_lt hSl)) hd hf hg).toS
  have hSf : s.heap.objs.size ∉ [s.heap.objs.size + 1, S] := by
    simp only [List.mem_cons, List.not_mem_nil, or_false, not_or]
    exact ⟨Ne.symm nI, Nat.ne_of_gt hSl⟩
  refine wpAny_pure ⟨plainId_quiet F.plain_extend_loop _, codeAny_extend_loopS W (by rw [sizeLine_eq]; omega) s.heap.objs.size hSf _ es.size 0 _ #[] _ rfl (Nat.zero_le _) ⟨hI.ext (b := S) fun u e => oth _ u nI e, oth S _ (Nat.ne_of_lt hSl) (k2 S _ ho)⟩ hL3 (ItemsOf.nil _) fun s' acc' c' hm hS' hacc => ?_⟩
  rw [Moved.eq_with hm]
  show wpAny _ A (load s.heap.objs.size >>= _) _ _ _
  refine wpAny_bind (wpAny_load (s := { s with heap := s'.heap, toks := s'.toks }) hS' ?_)
  refine wpAny_pure (hQ s'.heap s'.toks acc' (fun b u e => hm.heap b u (fun hmem => ?_) (oth b u (Nat.ne_of_lt (Heap.lt_size e)) (k2 b u e))) (Heap.lt_size hS') hacc)
  have hb := Heap.lt_size e
  rcases List.mem_cons.mp hmem with e' | hmem
  · rw [e'] at hb; exact absurd hb (Nat.lt_irrefl _)
  · rw [List.mem_singleton.mp hmem] at hb; exact absurd hb (Nat.not_lt.mpr (Nat.le_succ _))
open PyProof.Rows in
theorem ints_of : ∀ {l : List (Int × Value)}, (∀ e ∈ l, ∃ k, e.2 = .int e.1 k) → IntsAre (l.map (·.2)) (l.map (·.1))
  | [], _ => .nil
  | (z, v) :: l, h => by
    obtain ⟨k, e⟩ := h (z, v) (List.mem_cons_self ..)
    have e : v = .int z k := e
    subst e
    exact .cons z k (ints_of fun x hx => h x (List.mem_cons_of_mem _ hx))
theorem items_eq {O : Array (Int × Value)} {acc : Array Value} {n : Nat} (h : ItemsOf (fun i v => ∃ e, O[i]? = some e ∧ v = e.2) acc n) (hz : O.size = n) : acc.toList = O.toList.map (·.2) := by
  refine List.ext_getElem? fun i => ?_
  rw [List.getElem?_map, Array.getElem?_toList, Array.getElem?_toList]
  cases e : acc[i]? with
  | none =>
    have := Array.getElem?_eq_none_iff.mp e
    rw [h.1, ← hz] at this
    rw [Array.getElem?_eq_none this]
    rfl
  | some v =>
    obtain ⟨x, e1, rfl⟩ := h.2 i v e
    rw [e1]
    rfl
open PyProof.Rows in
/-- sorted(set) -/
theorem sorted_set {prog : Program} {w : World} {A : Around} {E : Value → Shared → Prop} {s : Shared} {S : Addr} {o : Obj} {es : Array (Int × Value)} {ep : Nat} {t : SetTable} {Q : Value → Shared → Prop} (hh : A.handled = none) (ho : s.heap.get? S = some o) (hc : o.cls = .type "set") (hd : o.data = .set es ep t) (hf : t.fits es.size = true)
    (hg : w.params.followText "set-order" = false → setGood t es.size = true) (hn : es.size < 64) (hv : ∀ e ∈ es.toList, ∃ k, e.2 = .int e.1 k)
    (hQ : ∀ h' tk (out : Array Value) (ns : List Int) (ad : Addr) (e : Nat), (∀ b o, s.heap.get? b = some o → h'.get? b = some o) → s.heap.objs.size ≤ ad → h'.get? ad = some (seqObj "list" out e) → IntsAre out.toList ns → ns.Perm (es.toList.map (·.1)) → ns.Pairwise (· ≤ ·) → Q (.ref ad) { s with heap := h', toks := tk }) : wpAny (model prog w) A (call (.builtin "sorted") [.ref S]) Q E s := by
  refine Calls.call_function_entry kind_sorted plain_sorted entry_sorted (args_sorted1 _) ?_
  unfold Builtin.«sorted»
  refine wpAny_bind (m := checkCount "sorted" 1 1 _) (wpAny_pure ?_)
  refine wpAny_bind (collect_set hh ho hc hd hf hg (by omega) fun h1 tk acc k1 z1 hi => ?_)
  have hp := ord_perm (w := w) (S := S) (es := es) (ep := ep)
  have hz : (ordOf w S es ep).size = es.size := by have := hp.length_eq; rw [Array.length_toList, Array.length_toList] at this; exact this
  have ea := items_eq hi hz
  have hI : IntsAre acc.toList ((ordOf w S es ep).toList.map (·.1)) := by
    rw [ea]
    exact ints_of fun e he => hv e (hp.mem_iff.mp he)
  have hl : acc.toList.length = es.size := by rw [Array.length_toList]; exact hi.1
  refine wpAny_bind (wpAny_newList ?_ (hsz := by rw [hl, sizeLine_eq]; omega))
  dsimp only
  have hoL : (h1.push (seqObj "list" acc.toList.toArray 0)).get? h1.objs.size = some (seqObj "list" acc.toList.toArray 0) := Heap.get?_push_size _ rfl
  refine wpAny_bind (wpAny_holding (wpAny_call_entry slot_list_sort ⟨_, hoL, rfl⟩ entry_list_sort (list_sort_tree hoL hI (by rw [hl]; exact hn) fun out ns a1 a2 a3 => ⟨_, rfl, ?_⟩) (args_list_sort _)))
  obtain ⟨e, he⟩ := sortedHeap_at (out := out) hoL
  refine wpAny_pure ⟨_, rfl, hQ _ tk out ns h1.objs.size e (fun b o' hb => ?_) (Nat.le_of_lt z1) he a1 (a2.trans (hp.map _)) a3⟩
  have hb1 := k1 b o' hb
  have hlt := Heap.lt_size hb1
  rw [sortedHeap_old (Nat.ne_of_lt hlt) (by rw [size_push']; exact Nat.lt_succ_of_lt hlt)]
  exact Heap.get?_push_of_some _ hb1
end
end L2

set_option Elab.async false
set_option linter.all false
set_option maxRecDepth 100000
set_option maxHeartbeats 4000000
/-! set(xs) of few small ints, its table known. -/
namespace L2
open PySem
def bare (e : Int × Value) : Int × Value := (e.1, .none)
/-- one more in the table -/
def addE (T : Array (Int × Value) × SetTable) (h : Int) (x : Value) : Array (Int × Value) × SetTable :=
  let L := layNew T.2 T.1 h x
  if (!L.2.2.1 && L.2.1.tooFull) = true then ((relayAll L.2.1 L.1 (SetTable.grown L.1.size)).1, (relayAll L.2.1 L.1 (SetTable.grown L.1.size)).2.1) else (L.1, L.2.1)
theorem ins_bare (es : Array (Int × Value)) (p : Nat) (e : Int × Value) : (SetTable.insertAt es p e).map bare = SetTable.insertAt (es.map bare) p (bare e) := by
  unfold SetTable.insertAt
  simp
theorem lay_bare (t : SetTable) (es : Array (Int × Value)) (h : Int) (x : Value) : layNew t (es.map bare) h .none = ((layNew t es h x).1.map bare, (layNew t es h x).2) := by
  unfold layNew
  cases e : t.freeSlot h with
  | none => simp [bare]
  | some q =>
    obtain ⟨a, b⟩ := q
    have e1 := ins_bare es (t.put a).2 (h, x)
    have e2 : (SetTable.insertAt (es.map bare) (t.put a).2 (bare (h, x))).size = (SetTable.insertAt es (t.put a).2 (h, x)).size := by rw [← e1, Array.size_map]
    show ((SetTable.insertAt (es.map bare) (t.put a).2 (bare (h, x))), (t.put a).1.orStandIn (SetTable.insertAt (es.map bare) (t.put a).2 (bare (h, x))).size, b, !(t.put a).1.fits (SetTable.insertAt (es.map bare) (t.put a).2 (bare (h, x))).size) = _
    rw [e2, ← e1]
theorem relay_bare (t : SetTable) (es : Array (Int × Value)) (n : Nat) : relayAll t (es.map bare) n = ((relayAll t es n).1.map bare, (relayAll t es n).2) := by
  unfold relayAll
  have e0 : (es.map bare).map (·.1) = es.map (·.1) := by rw [Array.map_map]; rfl
  rw [e0]
  cases e : t.relaid (es.map (·.1)) n with
  | none => simp
  | some q =>
    obtain ⟨t', order⟩ := q
    have e1 : order.filterMap ((es.map bare)[·]?) = (order.filterMap (es[·]?)).map bare := by
      rw [Array.map_filterMap]
      congr 1
      funext i
      rw [Array.getElem?_map]
    dsimp only
    rw [e1, Array.size_map, Array.size_map]
    split <;> rfl
theorem add_bare (es : Array (Int × Value)) (t : SetTable) (h : Int) (x : Value) : addE (es.map bare, t) h .none = ((addE (es, t) h x).1.map bare, (addE (es, t) h x).2) := by
  unfold addE
  dsimp only
  rw [lay_bare t es h x]
  dsimp only
  rw [relay_bare, Array.size_map]
  split <;> rfl
theorem add_perm (es : Array (Int × Value)) (t : SetTable) (h : Int) (x : Value) : (addE (es, t) h x).1.toList.Perm (es.toList ++ [(h, x)]) := by
  have h1 := layNew_perm t es h x
  rw [Array.toList_push] at h1
  unfold addE
  dsimp only
  split
  · exact (relayAll_perm ..).trans h1
  · exact h1
theorem add_fits (es : Array (Int × Value)) (t : SetTable) (h : Int) (x : Value) : (addE (es, t) h x).2.fits (addE (es, t) h x).1.size = true := by
  unfold addE
  dsimp only
  split
  · exact relayAll_fits ..
  · exact layNew_fits ..
section
variable {prog : Program} {w : World} {A : Around} {E : Value → Shared → Prop} {s : Shared}
/-- set.add of an int that is not there -/
theorem add_exact {S : Addr} {o : Obj} {es : Array (Int × Value)} {ep : Nat} {t : SetTable} {z : Int} {k : Tok} {Q : Bool → Shared → Prop} (ho : s.heap.get? S = some o) (hd : o.data = .set es ep t) (hf : t.fits es.size = true) (hel : ElemsOf (intKind prog w) es.toList)
    (hno : ∀ e ∈ es.toList, Value.isInt z e.2 = false) (hz : es.size < 1000)
    (h : ∀ h' ep', Heap.SameBut S s.heap h' → h'.get? S = some { o with data := .set (addE (es, t) (hashInt z) (.int z k)).1 ep' (addE (es, t) (hashInt z) (.int z k)).2 } → Q true { s with heap := h' }) : wpAny (model prog w) A (setAddHashed S (.int z k) (hashInt z)) Q E s := by
  have hkey : (intKind prog w).is z (.int z k) = true := intKind_is _ _ _ _
  have hsc : (Value.int z k).scannable = true := rfl
  have hbd : es.size < scanBound := by unfold scanBound; omega
  unfold setAddHashed setAddHashedIn
  refine wpAny_holding (wpAny_bind (wpAny_setState_of ho hd hf ?_))
  dsimp only
  rw [byScan_of hsc hbd hel]
  simp only [↓reduceIte]
  unfold setAddByScan
  refine wpAny_bind ?_
  refine wpAny_bind (wpAny_rule ?_)
  refine wpAny_bind (wpAny_setScan_of (knd := intKind prog w) (k := z) hkey ho hd hf hel ?_)
  have hni : List.findIdx? (fun e => (intKind prog w).is z e.2) es.toList = none := List.findIdx?_eq_none_iff.mpr fun e he => hno e he
  rw [hni]
  dsimp only
  have hp := layNew_perm t es (hashInt z) (.int z k)
  have hsz1 : (layNew t es (hashInt z) (.int z k)).1.size = es.size + 1 := by
    have := hp.length_eq
    rw [Array.length_toList, Array.length_toList, Array.size_push] at this
    exact this
  unfold addE at h
  dsimp only at h
  generalize layNew t es (hashInt z) (.int z k) = L at h hsz1 ⊢
  obtain ⟨es1, t1, wd, gave⟩ := L
  dsimp only at h hsz1 ⊢
  clear hp
  have hgw : ∀ (b : Bool) {s₁ : Shared} {Q' : Unit → Shared → Prop}, Q' () s₁ → wpAny (model prog w) A (match b with | true => rule "set.scan.the-table-gave-way" | false => pure ()) Q' E s₁ := by
    intro b s₁ Q' hq
    cases b
    · exact wpAny_pure hq
    · exact wpAny_rule hq
  have hl1 : es1.size ≤ sizeLine := by rw [hsz1, sizeLine_eq]; omega
  have tail : wpAny (model prog w) A (storeSet S es1 t1 >>= fun _ => if (!wd && t1.tooFull) = true then (match (relayAll t1 es1 (SetTable.grown es1.size)).2.2 with | true => rule "set.scan.the-table-gave-way" | false => pure ()) >>= fun _ => storeSet S (relayAll t1 es1 (SetTable.grown es1.size)).1 (relayAll t1 es1 (SetTable.grown es1.size)).2.1 >>= fun _ => pure (some true) else pure (some true)) (fun a s' => wpAny (model prog w) A (match a with | some added => pure added | none => setAddHashedIn S (Value.int z k) (hashInt z) 99999) Q E s') E s := by
    have hs1 : (s.heap.update S (Obj.putSet es1 t1)).get? S = some { o with data := .set es1 (ep + 1) t1 } := by
      have := Heap.get?_update_self (Obj.putSet es1 t1) ho (by rw [putSet_of es1 t1 hd]; rfl)
      rw [putSet_of es1 t1 hd] at this
      exact this
    refine wpAny_bind (wpAny_storeSet_of ho hd ?_ hl1)
    by_cases c : (!wd && t1.tooFull) = true
    · rw [if_pos c]
      rw [if_pos c] at h
      have hsz2 : (relayAll t1 es1 (SetTable.grown es1.size)).1.size = es1.size := by
        have := (relayAll_perm t1 es1 (SetTable.grown es1.size)).length_eq
        rw [Array.length_toList, Array.length_toList] at this
        exact this
      refine wpAny_bind (hgw _ ?_)
      refine wpAny_bind (wpAny_storeSet_of (s := { s with heap := _ }) hs1 rfl ?_ (by rw [hsz2]; exact hl1))
      refine wpAny_pure (wpAny_pure (h _ (ep + 2) ((Heap.SameBut.update ..).trans (Heap.SameBut.update ..)) ?_))
      have := Heap.get?_update_self (Obj.putSet (relayAll t1 es1 (SetTable.grown es1.size)).1 (relayAll t1 es1 (SetTable.grown es1.size)).2.1) hs1 rfl
      exact this
    · rw [if_neg c]
      rw [if_neg c] at h
      exact wpAny_pure (wpAny_pure (h _ (ep + 1) (Heap.SameBut.update ..) hs1))
  refine wpAny_bind (hgw _ ?_)
  by_cases hpl : t1.plain = true
  · rw [if_pos hpl]
    refine wpAny_bind ?_
    rw [hashByValue_scannable 8 hsc]
    refine wpAny_pure ?_
    exact tail
  · rw [if_neg hpl]
    exact wpAny_bind (wpAny_pure tail)
end
/-- a set's entries and table behind these ints -/
structure STab (led : Bool) (zs : List Int) (es : Array (Int × Value)) (t : SetTable) : Prop where
  perm : (es.toList.map (·.1)).Perm zs
  vals : ∀ e ∈ es.toList, ∃ k, e.2 = .int e.1 k
  fits : t.fits es.size = true
  made : (es.map bare, t) = zs.foldl (fun T z => addE T z .none) (#[], .fresh 0 0 led)
theorem STab.len {led : Bool} {zs : List Int} {es : Array (Int × Value)} {t : SetTable} (T : STab led zs es t) : es.size = zs.length := by
  have := T.perm.length_eq
  rw [List.length_map, Array.length_toList] at this
  exact this
theorem STab.nil (led : Bool) : STab led [] #[] (.fresh 0 0 led) := ⟨List.Perm.refl _, fun e he => (by cases he), rfl, (by simp)⟩
theorem STab.snoc {led : Bool} {zs : List Int} {es : Array (Int × Value)} {t : SetTable} {z : Int} {k : Tok} (T : STab led zs es t) (hz : hashInt z = z) : STab led (zs ++ [z]) (addE (es, t) (hashInt z) (.int z k)).1 (addE (es, t) (hashInt z) (.int z k)).2 := by
  have hp := add_perm es t (hashInt z) (.int z k)
  refine ⟨?_, fun e he => ?_, add_fits .., ?_⟩
  · refine (hp.map _).trans ?_
    rw [List.map_append, List.map_singleton, hz]
    exact T.perm.append_right _
  · rcases List.mem_append.mp (hp.mem_iff.mp he) with he | he
    · exact T.vals e he
    · rw [List.mem_singleton.mp he, hz]
      exact ⟨k, rfl⟩
  · rw [List.foldl_append, ← T.made]
    show _ = addE (es.map bare, t) z .none
    rw [add_bare es t z (.int z k), hz]
def STabAt (led : Bool) (S : Addr) (zs : List Int) (h : Heap) : Prop := ∃ es ep t, h.get? S = some { cls := .type "set", dict := none, data := .set es ep t } ∧ STab led zs es t
section
variable {prog : Program} {w : World} {A : Around} {E : Value → Shared → Prop} {s : Shared} {R : Result → Shared → Prop} {I : Addr} {fp wr : List Addr} {G : Array GenState → Array GenState → Prop} {n : Nat} {P : Nat → Value → Prop} {St : Nat → Shared → Prop}
theorem loop_exact {led : Bool} (W : WalksS prog w A.in1 I fp wr G n P St) (S : Addr) (hSf : S ∉ fp) (zs : List Int) (hzn : zs.length = n) (hval : ∀ i v, P i v → ∃ t, v = .int (zs.getD i 0) t) (hnd : zs.Nodup) (hh : ∀ z ∈ zs, hashInt z = z) (hn : n < 1000) :
    ∀ (k i : Nat) (s : Shared), n - i = k → i ≤ n → St i s → STabAt led S (zs.take i) s.heap → (∀ s', Moved (S :: wr) G s s' → STabAt led S zs s'.heap → R (.ok (.ret .none)) s') →
      codeAny (model prog w) A (.builtin "set.update.loop" ⟨[.ref S, .ref I], []⟩) R s := by
  have hSw : S ∉ wr := fun h => hSf (W.sub _ h)
  have hsub : ∀ b ∈ wr, b ∈ S :: wr := fun b hb => List.mem_cons_of_mem _ hb
  intro k
  induction k with
  | zero =>
    intro i s hk hi hst hT hR
    have hin : i = n := by omega
    subst hin
    refine codeAny_builtin PyProof.Rows.F.entry_set_update_loop ?_
    rw [Around.under_plainId PyProof.Rows.F.plain_set_update_loop _]
    show wpAny _ A.in1 (pyNext (.ref I) >>= _) _ _ s
    refine wpAny_bind (W.done s _ _ hst fun s' hm => ?_)
    show wpAny _ A.in1 (ret Value.none) _ _ s'
    rw [← hzn, List.take_length] at hT
    obtain ⟨es, ep, t, ho, T⟩ := hT
    exact wpAny_pure (hR s' (hm.mono hsub) ⟨es, ep, t, hm.heap S _ hSw ho, T⟩)
  | succ k ih =>
    intro i s hk hi hst hT hR
    have hlt : i < n := by omega
    have hil : i < zs.length := by omega
    refine codeAny_builtin PyProof.Rows.F.entry_set_update_loop ?_
    rw [Around.under_plainId PyProof.Rows.F.plain_set_update_loop _]
    show wpAny _ A.in1 (pyNext (.ref I) >>= _) _ _ s
    refine wpAny_bind (W.item i s _ _ hlt hst fun v s' hP hst' hm => ?_)
    obtain ⟨tk, rfl⟩ := hval i v hP
    obtain ⟨es, ep, t, ho, T⟩ := hT
    have ho' := hm.heap S _ hSw ho
    have ez : zs.getD i 0 = zs[i] := by rw [List.getD_eq_getElem?_getD, List.getElem?_eq_getElem hil]; rfl
    rw [ez]
    have hz := hh zs[i] (List.getElem_mem hil)
    show wpAny _ A.in1 (holding [Value.int zs[i] tk] (setAdd S (.int zs[i] tk)) >>= _) _ _ s'
    refine wpAny_bind (wpAny_holding ?_)
    unfold setAdd
    refine wpAny_holding ?_
    refine wpAny_bind ((intKind prog w).pyHash (k := zs[i]) (intKind_is _ _ _ _) ?_)
    have hmem : ∀ e ∈ es.toList, e.1 ∈ zs.take i := fun e he => T.perm.mem_iff.mp (List.mem_map.mpr ⟨e, he, rfl⟩)
    have hni : zs[i] ∉ zs.take i := fun z => by
      obtain ⟨j, hj, e⟩ := List.mem_iff_getElem.mp z
      rw [List.length_take] at hj
      rw [List.getElem_take] at e
      exact List.pairwise_iff_getElem.mp hnd j i (by omega) hil (by omega) e
    have hT2 := T.snoc (k := tk) hz
    rw [← List.take_succ_eq_append_getElem hil] at hT2
    have hlen := T.len
    rw [List.length_take] at hlen
    refine add_exact (s := { s' with toks := s'.toks + 1 }) (k := tk) ho' rfl T.fits (fun e he => ?_) (fun e he => ?_) (by omega) fun h' ep' hsb hS2 => ?_
    · obtain ⟨q, hq⟩ := T.vals e he
      rw [hq]
      exact ⟨⟨e.1, intKind_is _ _ _ _, (hh _ (List.mem_of_mem_take (hmem e he))).symm⟩, rfl⟩
    · obtain ⟨q, hq⟩ := T.vals e he
      rw [hq]
      refine Bool.eq_false_iff.mpr fun z => hni ?_
      have e1 : zs[i] = e.1 := Value.isInt_inj (.int e.1 q) zs[i] e.1 z (intKind_is prog w e.1 q)
      rw [e1]
      exact hmem e he
    refine wpAny_pure ⟨plainId_quiet PyProof.Rows.F.plain_set_update_loop _, ih (i + 1) _ (by omega) hlt (W.frame _ s' _ _ hst' (Nat.le_succ _) fun b hb o e => ?_) ⟨_, _, _, hS2, hT2⟩ fun s'' hm'' hS'' => ?_⟩
    · rw [hsb.2 b (fun h : b = S => hSf (by rw [← h]; exact hb))]; exact e
    · refine hR s'' (Moved.trans W.gtrans ((hm.mono hsub).then_heap (Nat.le_succ _) fun b o hb e => ?_) hm'') hS''
      rw [hsb.2 b (fun h : b = S => hb (by rw [h]; exact List.mem_cons_self))]; exact e
theorem new_exact (a : Value) {Q₁ : Value → Shared → Prop}
    (h : Q₁ (.ref s.heap.objs.size) { s with heap := s.heap.push { cls := .type "set", dict := none, data := .set #[] 0 (.fresh 0 0 (!w.params.followText "set-order")) } }) :
    codeAny (model prog w) A (.call (.builtin "set.__new__") ⟨[.type "set", a], []⟩) (wants Q₁ E) s := by
  refine codeAny_of_tree ?_
  show wpAny _ A.in1 (do checkBuiltinCall "set.__new__" ⟨[.type "set", a], []⟩; again (.builtin "set.__new__" ⟨[.type "set", a], []⟩)) _ _ s
  refine wpAny_bind (wpAny_of_eq (F.newCall_set_1 a) (wpAny_pure ⟨plainId_quiet F.plain_set_new _, codeAny_builtin F.entry_set_new ?_⟩))
  rw [Around.under_plainId F.plain_set_new _]
  unfold Builtin.«set.__new__» Builtin.Frozenset.newClass
  have hsub := sub_set_self
  obtain ⟨hp, g, d, tk, os⟩ := s
  dsimp only
  wp_walk
  refine wpAny_askSetting (wpAny_pure ?_)
  dsimp only
  simp only [newObj]
  refine wpAny_bind (wpAny_alloc (wpAny_pure ?_))
  exact wpAny_pure h
open PyProof.Rows in
/-- set(list) -/
theorem set_exact {l : Addr} {items : Array Value} {zs : List Int} {Q : Value → Shared → Prop}
    (hh : A.handled = none) (hl : s.heap.IsList l items) (hi : IntsAre items.toList zs) (hnd : zs.Nodup) (hz : ∀ z ∈ zs, hashInt z = z) (hb : items.size < 1000)
    (h : ∀ (h' : Heap) (tk : Nat), STabAt (!w.params.followText "set-order") s.heap.objs.size zs h' → (∀ b o, s.heap.get? b = some o → h'.get? b = some o) → Q (.ref s.heap.objs.size) { s with heap := h', toks := tk }) :
    wpAny (model prog w) A (call (.type "set") [.ref l]) Q E s := by
  obtain ⟨c, tl, hmro⟩ := F.called_set.mro
  have hmade := F.called_set.made
  have hsub := F.called_set.sub
  refine wpAny_call (codeAny_of_tree ?_)
  show wpAny _ _ (callAny (.type "set") _) _ _ _
  refine wpAny_pure ⟨Code.quiet_builtin _ (by decide +kernel), codeAny_builtin F.entry_type_call ?_⟩
  rw [Around.under_plain (weight_type_call_type "set" [.ref l] []) rfl]
  have h1 := F.called_set.notType
  have h2 := F.called_set.canCreate
  have hct := F.typeCall_set_1 (.ref l)
  generalize hled : (!w.params.followText "set-order") = led at h
  repeat (any_goals (first | assumption | wp_step))
  let ob : Obj := { cls := .type "set", dict := none, data := .set #[] 0 (.fresh 0 0 led) }
  refine codeAny_mono (new_exact (.ref l) (E := E) (Q₁ := fun obj s₁ => obj = .ref s.heap.objs.size ∧ s₁ = { s with heap := s.heap.push ob }) (by rw [hled]; exact ⟨rfl, rfl⟩)) fun r s₁ hr => ?_
  cases r with
  | error e => exact hr
  | ok fl =>
    cases fl with
    | ret obj =>
      obtain ⟨rfl, rfl⟩ := hr
      have hS : (s.heap.push ob).get? s.heap.objs.size = some ob := Heap.get?_push_size _ rfl
      have hT : Shared.TypeIs { s with heap := s.heap.push ob } (.ref s.heap.objs.size) "set" := ⟨_, hS, rfl⟩
      have hli := F.called_set.init.lookup
      have hbi := F.called_set.init.bind (.ref s.heap.objs.size)
      repeat (any_goals (first | assumption | wp_step))
      refine codeAny_mono (codeAny_call_builtin (R := wants (fun r s₂ => r = .none ∧ ∃ h' tk, s₂ = { s with heap := h', toks := tk } ∧ STabAt led s.heap.objs.size zs h' ∧ (∀ b o, s.heap.get? b = some o → h'.get? b = some o)) E) F.called_set.init.plain F.entry_set_init (check_set_init_1 hT ?_)) fun r₂ s₂ hr₂ => ?_
      · obtain ⟨ol, hol, hcl, nl, hdl⟩ := hl
        obtain ⟨ocls, odict, odata, oslots⟩ := ol
        simp only at hcl hdl
        subst hcl; subst hdl
        have hol' : (s.heap.push ob).get? l = some { cls := .type "list", dict := odict, data := .seq items nl, slots := oslots } := Heap.get?_push_of_some _ hol
        have hsls := F.sub_list_set
        have hslf := F.sub_list_frozenset
        have hne : (Value.type "list" == Value.type "dict") = false := by decide
        have hl1 : (s.heap.push ob).IsList l items := ⟨_, hol', rfl, nl, rfl⟩
        unfold Builtin.«set.__init__» noKeywords Builtin.Frozenset.updateFrom
        generalize hPI : pyIter = PI
        wp_walk
        subst hPI
        refine wpAny_pyIter_list hl1 ?_
        refine wpAny_bind (wpAny_runValue ?_)
        have hlS : l < s.heap.objs.size := Heap.lt_size hol
        have hh3 : A.in1.in1.in1.handled = none := by simp [hh]
        have hsp : (s.heap.push ob).objs.size = s.heap.objs.size + 1 := Heap.size_push ..
        have hneI : l ≠ (s.heap.push ob).objs.size := by rw [hsp]; exact Nat.ne_of_lt (Nat.lt_succ_of_lt hlS)
        have hSf : s.heap.objs.size ∉ [(s.heap.push ob).objs.size, l] := by
          rw [hsp]
          simp only [List.mem_cons, List.not_mem_nil, or_false, not_or]
          exact ⟨Nat.ne_of_lt (Nat.lt_succ_self _), Nat.ne_of_gt hlS⟩
        have hln : zs.length = items.size := by have := hi.length; rw [Array.length_toList] at this; exact this.symm
        have hval : ∀ (i : Nat) (v : Value), items[i]? = some v → ∃ t, v = .int (zs.getD i 0) t := fun i v hv => hi.int_at i v (by rw [Array.getElem?_toList]; exact hv)
        refine loop_exact (led := led) ((Walks.list hh3 _ l hneI items).toS) s.heap.objs.size hSf zs hln hval hnd hz hb (items.size - 0) 0 _ (by omega) (Nat.zero_le _) ⟨⟨_, Heap.get?_push_size _ rfl, rfl, rfl⟩, (hl1.push _)⟩ ⟨_, _, _, Heap.get?_push_of_some _ hS, STab.nil led⟩ ?_
        intro s' hm hS'
        obtain ⟨h', g', d', tk', os'⟩ := s'
        have eg : g' = s.gens := hm.gens
        have ed : d' = s.drawn := hm.drawn
        have eo : os' = s.os := hm.os
        subst eg; subst ed; subst eo
        show wpAny _ _ _ _ _ _
        refine wpAny_pure ?_
        show wpAny _ _ (ret Value.none) _ _ _
        refine wpAny_pure ⟨rfl, h', tk', rfl, hS', fun b o e => ?_⟩
        have hb := Heap.lt_size e
        refine hm.heap b o (fun hmem => ?_) (Heap.get?_push_of_some _ (Heap.get?_push_of_some _ e))
        rw [hsp] at hmem
        rcases List.mem_cons.mp hmem with e' | hmem
        · rw [e'] at hb; exact absurd hb (Nat.lt_irrefl _)
        · rw [List.mem_singleton.mp hmem] at hb; exact absurd hb (Nat.not_lt.mpr (Nat.le_succ _))
      · cases r₂ with
        | error e => exact hr₂
        | ok fl₂ =>
          cases fl₂ with
          | ret r =>
            obtain ⟨rfl, h', tk, rfl, hS', hk'⟩ := hr₂
            repeat (any_goals (first | assumption | wp_step))
            exact h _ _ hS' hk'
          | _ => exact hr₂.elim
    | _ => exact hr.elim
end
end L2

set_option Elab.async false
set_option linter.all false
set_option maxRecDepth 100000
set_option maxHeartbeats 4000000
/-! the tables of all sets of at most eight of the ints from 0 to 11 -/
namespace L2
open PySem
def setTree : Nat → Nat → Nat → Array (Int × Value) × SetTable → Nat → Bool
  | 0, _, _, T, n => setGood T.2 n
  | m + 1, d, lo, T, n => (match d with | 0 => true | d + 1 => setTree m d (lo + 1) (addE T lo .none) (n + 1)) && setTree m d (lo + 1) T n
theorem tree_good : ∀ {m d lo : Nat} {T : Array (Int × Value) × SetTable} {n : Nat}, setTree m d lo T n = true → ∀ zs : List Int, zs.Pairwise (· < ·) → (∀ z ∈ zs, (lo : Int) ≤ z ∧ z < lo + m) → zs.length ≤ d → setGood (zs.foldl (fun T z => addE T z .none) T).2 (n + zs.length) = true
  | 0, d, lo, T, n, h, zs, _, hb, _ => by
    cases zs with
    | nil => exact h
    | cons z r => have := hb z (List.mem_cons_self ..); omega
  | m + 1, d, lo, T, n, h, zs, hp, hb, hl => by
    unfold setTree at h
    rw [Bool.and_eq_true] at h
    cases zs with
    | nil => exact tree_good h.2 [] List.Pairwise.nil (fun z hz => by cases hz) (Nat.zero_le _)
    | cons z r =>
      have hz := hb z (List.mem_cons_self ..)
      have hp' := List.pairwise_cons.mp hp
      by_cases e : z = (lo : Int)
      · cases d with
        | zero => rw [List.length_cons] at hl; omega
        | succ d =>
          rw [List.length_cons] at hl
          have := tree_good (n := n + 1) h.1 r hp'.2 (fun y hy => by
            have h1 := hp'.1 y hy
            have h2 := hb y (List.mem_cons_of_mem _ hy)
            omega) (by omega)
          rw [List.foldl_cons, List.length_cons, e, show n + (r.length + 1) = n + 1 + r.length by omega]
          exact this
      · exact tree_good h.2 (z :: r) hp (fun y hy => by
          have h2 := hb y hy
          rcases List.mem_cons.mp hy with e' | hy'
          · subst e'; omega
          · have h1 := hp'.1 y hy'; omega) hl
theorem tree_step {m d lo n : Nat} {T : Array (Int × Value) × SetTable} (h1 : setTree m d (lo + 1) (addE T lo .none) (n + 1) = true) (h2 : setTree m (d + 1) (lo + 1) T n = true) : setTree (m + 1) (d + 1) lo T n = true := by
  show (setTree m d (lo + 1) (addE T lo .none) (n + 1) && setTree m (d + 1) (lo + 1) T n) = true
  rw [h1, h2]
  rfl
def tab0 : Array (Int × Value) × SetTable := (#[], .fresh 0 0 true)
theorem tree_1111 : setTree 8 4 4 (addE (addE (addE (addE tab0 (0 : Nat) .none) (1 : Nat) .none) (2 : Nat) .none) (3 : Nat) .none) 4 = true := by decide +kernel
theorem tree_1110 : setTree 8 5 4 (addE (addE (addE tab0 (0 : Nat) .none) (1 : Nat) .none) (2 : Nat) .none) 3 = true := by decide +kernel
theorem tree_1101 : setTree 8 5 4 (addE (addE (addE tab0 (0 : Nat) .none) (1 : Nat) .none) (3 : Nat) .none) 3 = true := by decide +kernel
theorem tree_1100 : setTree 8 6 4 (addE (addE tab0 (0 : Nat) .none) (1 : Nat) .none) 2 = true := by decide +kernel
theorem tree_1011 : setTree 8 5 4 (addE (addE (addE tab0 (0 : Nat) .none) (2 : Nat) .none) (3 : Nat) .none) 3 = true := by decide +kernel
theorem tree_1010 : setTree 8 6 4 (addE (addE tab0 (0 : Nat) .none) (2 : Nat) .none) 2 = true := by decide +kernel
theorem tree_1001 : setTree 8 6 4 (addE (addE tab0 (0 : Nat) .none) (3 : Nat) .none) 2 = true := by decide +kernel
theorem tree_1000 : setTree 8 7 4 (addE tab0 (0 : Nat) .none) 1 = true := by decide +kernel
theorem tree_0111 : setTree 8 5 4 (addE (addE (addE tab0 (1 : Nat) .none) (2 : Nat) .none) (3 : Nat) .none) 3 = true := by decide +kernel
theorem tree_0110 : setTree 8 6 4 (addE (addE tab0 (1 : Nat) .none) (2 : Nat) .none) 2 = true := by decide +kernel
theorem tree_0101 : setTree 8 6 4 (addE (addE tab0 (1 : Nat) .none) (3 : Nat) .none) 2 = true := by decide +kernel
theorem tree_0100 : setTree 8 7 4 (addE tab0 (1 : Nat) .none) 1 = true := by decide +kernel
theorem tree_0011 : setTree 8 6 4 (addE (addE tab0 (2 : Nat) .none) (3 : Nat) .none) 2 = true := by decide +kernel
theorem tree_0010 : setTree 8 7 4 (addE tab0 (2 : Nat) .none) 1 = true := by decide +kernel
theorem tree_0001 : setTree 8 7 4 (addE tab0 (3 : Nat) .none) 1 = true := by decide +kernel
theorem tree_0000 : setTree 8 8 4 tab0 0 = true := by decide +kernel
theorem tree_all : setTree 12 8 0 (#[], .fresh 0 0 true) 0 = true := (tree_step (tree_step (tree_step (tree_step tree_1111 tree_1110) (tree_step tree_1101 tree_1100)) (tree_step (tree_step tree_1011 tree_1010) (tree_step tree_1001 tree_1000))) (tree_step (tree_step (tree_step tree_0111 tree_0110) (tree_step tree_0101 tree_0100)) (tree_step (tree_step tree_0011 tree_0010) (tree_step tree_0001 tree_0000))))
theorem hash_small {z : Int} (h0 : 0 ≤ z) (h1 : z < 12) : hashInt z = z := by
  have h : ∀ i : Fin 12, hashInt ((i.val : Nat) : Int) = ((i.val : Nat) : Int) := by decide +kernel
  have := h ⟨z.toNat, by omega⟩
  rw [show ((z.toNat : Nat) : Int) = z by omega] at this
  exact this
theorem STab.good {zs : List Int} {es : Array (Int × Value)} {t : SetTable} (T : STab true zs es t) (hp : zs.Pairwise (· < ·)) (hb : ∀ z ∈ zs, 0 ≤ z ∧ z < 12) (hl : zs.length ≤ 8) : setGood t es.size = true := by
  have := tree_good tree_all zs hp (fun z hz => by have := hb z hz; omega) hl
  rw [← T.made, Nat.zero_add, ← T.len] at this
  exact this
end L2

set_option Elab.async false
set_option linter.all false
set_option maxRecDepth 100000
set_option maxHeartbeats 4000000
/-! sorted(set(xs)) -/
namespace L2
open PySem PySem.Spec PyProof.Rows
theorem boot_setZ : bootBuiltins "set" = some (.type "set") := by decide +kernel
theorem boot_sortedZ : bootBuiltins "sorted" = some (.builtin "sorted") := by decide +kernel
def tSortSet (K : PySem.W.Frag) (te : TA) : TE := fun σ H Q => te σ H fun xs H1 => ∃ (a : Addr) (zs : List Int), xs = [.ref a] ∧ SqL K H1 a (zs.map V.int) ∧ zs.Pairwise (· < ·) ∧ (∀ z ∈ zs, 0 ≤ z ∧ z < 12) ∧ zs.length ≤ 8 ∧ ∀ r : Addr, H1 r = none → Q (.ref r) (upd H1 r (.lst (zs.map V.int)))
theorem sorted_same {ns zs : List Int} (hp : ns.Perm zs) (h1 : ns.Pairwise (· ≤ ·)) (h2 : zs.Pairwise (· < ·)) : ns = zs :=
  List.Perm.eq_of_pairwise (fun a b _ _ x y => Int.le_antisymm x y) h1 (h2.imp fun h => Int.le_of_lt h) hp
theorem pe_sortSet {X : Cx} {e : Expr} {te : TA} {p p2 pos pos2 : Pos} (hc : X.calm = true) (hg : Gl X "sorted") (hm : X.mg "sorted" = none) (hg2 : Gl X "set") (hm2 : X.mg "set" = none) (ha : PA X [e] te)
    (he : starEach [.Call (.Name "set" p2) [e] [] pos2] X.env = (false, eval (.Call (.Name "set" p2) [e] [] pos2) X.env) :: starEach [] X.env := by rfl)
    (he2 : starEach [e] X.env = (false, eval e X.env) :: starEach [] X.env := by rfl) : PE X (.Call (.Name "sorted" p) [.Call (.Name "set" p2) [e] [] pos2] [] pos) (tSortSet X.K te) := by
  intro pins s σ H Q I h
  refine wpAny_Call_Name_kw (ld_blt I hg hm boot_sortedZ ?_ (by decide) (by decide))
  refine PyProof.Rows.callWith_builtin1 ?_ he rfl
  rw [he]
  refine Calls.spliced_cons ?_
  refine wpAny_Call_Name_kw (ld_blt I hg2 hm2 boot_setZ ?_ (by decide) (by decide))
  refine PyProof.Rows.callWith_type1 (thn (ha _ pins s σ H _ I h) fun us s1 ⟨vs, H1, I1, r1, q1⟩ => ?_) he2 rfl
  obtain ⟨a, zs, rfl, hq, hp, hb, h8, q⟩ := q1
  obtain ⟨u, rfl, ru⟩ := r1.one
  cases ru
  obtain ⟨its, rv, pl, hz⟩ := I1.list hq
  have hi := ints_of_vals rv
  have hl := hi.length
  have nd : zs.Nodup := List.nodup_iff_pairwise_ne.mpr (hp.imp fun h => Int.ne_of_lt h)
  refine set_exact (I1.ok.hd hc) pl.isList (by simpa using hi) nd (fun z hz => hash_small (hb z hz).1 (hb z hz).2) (by rw [List.size_toArray]; omega) fun h' tk hT hk => ?_
  obtain ⟨es, ep, t, ho, T⟩ := hT
  have hgd : X.w.params.followText "set-order" = false → setGood t es.size = true := fun z => by
    rw [z] at T
    exact T.good hp hb h8
  have hlen := T.len
  refine Calls.spliced_nil ?_
  refine sorted_set (I1.ok.hd hc) (s := { s1 with heap := h', toks := tk }) ho rfl rfl T.fits hgd (by omega) T.vals fun h2 tk2 out ns ad en k2 hle he3 a1 a2 a3 => ?_
  have en' : ns = zs := sorted_same (a2.trans T.perm) a3 hp
  subst en'
  have hlt := Heap.lt_size ho
  have hge : s1.heap.objs.size ≤ ad := Nat.le_trans (Nat.le_of_lt hlt) hle
  have hsl : (64 : Nat) ≤ sizeLine := by decide
  refine ⟨.ref ad, _, I1.laid (t' := tk2) (o := .lst (ns.map V.int)) (fun b o q => k2 _ _ (hk _ _ q)) hge ⟨by rw [List.length_map]; omega, out.toList, en, vals_of_ints a1, ?_⟩, rfl, q _ (I1.hok.fresh hge)⟩
  rw [he3, Array.toArray_toList]
end L2

set_option Elab.async false
set_option linter.all false
set_option maxRecDepth 100000
set_option maxHeartbeats 4000000
/-! PARCELWALL: the mirror, the data, the promises of the defs that the texts share. -/
namespace Pw
open PySem L2

/-! ### draws -/
def cellOf (ns : List Int) (k : Int) : Int := if 0 < ns.length then ns.getD (k % (ns.length : Int)).toNat 0 else 7
def drawn (ns : List Int) (k many : Int) : Int :=
  ((((cellOf ns k * 48271 + (k + 1) * 7919 + (ns.length : Int)) % 2147483647) * ((cellOf ns k * 48271 + (k + 1) * 7919 + (ns.length : Int)) % 2147483647) + k * 16807 + 11) % 2147483647) * 48271 % 2147483647 / 16 % many
theorem drawn_lo (ns : List Int) (k : Int) {many : Int} (h : 0 < many) : 0 ≤ drawn ns k many := Int.emod_nonneg _ (by omega)
theorem drawn_hi (ns : List Int) (k : Int) {many : Int} (h : 0 < many) : drawn ns k many < many := Int.emod_lt_of_pos _ h
/-- _law_drawn(script, k, many) -/
def spDrawn (K : PySem.W.Frag) : Sp := fun vs H Q _ => ∃ (a : Addr) (ns : List Int) (k many : Int), vs = [.ref a, .int k, .int many] ∧ SqL K H a (ns.map V.int) ∧ ns.length ≤ 63 ∧ 0 ≤ k ∧ k < 1000000 ∧ 0 < many ∧ many < 1000000 ∧ Q (.int (drawn ns k many)) H
/-- _law_whole(found): an int -/
def spWhole : Sp := fun vs H Q _ => ∃ i : Int, vs = [.int i] ∧ Q (.bl true) H
/-- _law_row(found, due): the same ints -/
def spRow (K : PySem.W.Frag) : Sp := fun vs H Q _ => ∃ (a b : Addr) (xs : List Int), vs = [.ref a, .ref b] ∧ H a = some (.lst (xs.map V.int)) ∧ SqL K H b (xs.map V.int) ∧ xs.length ≤ 1000000 ∧ Q (.bl true) H
/-- None or a number -/
def oV : Option Int → V
  | none => .non
  | some i => .int i

/-! ### sizes of a wall -/
def okSizes (sz : List Int) : Bool := decide (1 ≤ sz.length) && decide (sz.length ≤ 8) && sz.all fun z => decide (1 ≤ z) && decide (z ≤ 9)
/-- in_bounds(number) -/
def spBounds : Sp := fun vs H Q _ => ∃ n : Int, vs = [.int n] ∧ Q (.bl (decide (1 ≤ n) && decide (n ≤ 9))) H
/-- check_wall(sizes) -/
def spCheckWall (K : PySem.W.Frag) (cNW : Addr) : Sp := fun vs H Q E => ∃ (a : Addr) (sz : List Int), vs = [.ref a] ∧ SqL K H a (sz.map V.int) ∧ (okSizes sz = true → Q .non H) ∧ (okSizes sz = false → E (.ref cNW) none H)

/-! ### a wall as it stands -/
/-- a new list is told, all else stays -/
def tells (H : Hp) (xs : List V) (Q : VK) : Prop := ∀ (l : Addr) (H' : Hp), H l = none → Same H H' → H' l = some (.lst xs) → Q (.ref l) H'
theorem ixN_nat {n j : Nat} {i : Int} (e : i = (j : Int)) (h : j < n) : ixN n i = some j := by
  subst e; unfold ixN; rw [if_pos (by omega), if_pos (by omega)]; simp
theorem iteFe {b : Bool} {A B : Prop} (e : b = false) (h : B) : if b = true then A else B := by subst e; exact iteF h
/-- the body of a for -/
def forBody : Stmt → List Stmt
  | .For _ _ b _ _ => b
  | _ => []
/-! ### parcels come, are fetched, moved -/
def okNum (z : Int) : Bool := decide (1 ≤ z) && decide (z ≤ 9)
/-- check_size(size), check_nights(nights) -/
def spCheckNum (c : Addr) : Sp := fun vs H Q E => ∃ z : Int, vs = [.int z] ∧ (okNum z = true → Q .non H) ∧ (okNum z = false → E (.ref c) none H)
/-- a def of the text that a law calls -/
structure Gd (P : Program) (w : World) (K : PySem.W.Frag) (mg : Str → Option Value) (base : Heap) (x : Str) (st : Stmt) (ps : List Str) (CX : CXT) (k : Nat) (sp : Sp) (f : Addr) (fd : FuncData) : Prop where
  F : Fun K x x st f fd
  b : Binds K fd ps []
  m : mg x = some (.ref f)
  G : FnOk P w K mg base CX k f fd ps sp
/-- an own error class that is raised -/
structure Rs (K : PySem.W.Frag) (mg : Str → Option Value) (cWE c : Addr) (nm : Str) : Prop where
  xc : XCls K c (.ref cWE :: mroVE) "ValueError.__new__"
  xt : XTail K (.ref cWE :: mroVE)
  m : mg nm = some (.ref c)
end Pw

set_option Elab.async false
set_option linter.all false
namespace Pw
open PySem L2
def top (i : Nat) : Stmt := PySem.Challenge.pw_parcelwall_k06_whole_as_many_as_can_be.main.body.getD i (.Pass ⟨0, 0, 0, 0⟩)
abbrev s_in_bounds : Stmt := top 8
abbrev s_check_wall : Stmt := top 9
abbrev s_check_size : Stmt := top 10
abbrev s_check_both : Stmt := top 12
abbrev s_places_by_size : Stmt := top 13
abbrev s_fit : Stmt := top 14
abbrev s_most : Stmt := top 15
abbrev s__law_drawn : Stmt := top 17
abbrev s__law_whole : Stmt := top 18
abbrev s__law_row : Stmt := top 19
abbrev s__law_sizes_by : Stmt := top 21
abbrev s__law_fits : Stmt := top 22
abbrev s__law_right : Stmt := top 23
abbrev s_law : Stmt := top 24
end Pw

set_option Elab.async false
set_option linter.all false
set_option maxRecDepth 100000
set_option maxHeartbeats 4000000
namespace Pw
open PySem L2
section
variable {P : Program} {w : World} {K : PySem.W.Frag} {mg : Str → Option Value} {base : Heap}

theorem scDrawn : FnScope ["script", "k", "many", "cell", "stir"] ["script", "k", "many"] (defScope s__law_drawn) := ⟨rfl, rfl, rfl, by decide +kernel, rfl, by decide +kernel, by decide +kernel⟩
theorem ok_drawn {f : Addr} {fd : FuncData} (F : Fun K "_law_drawn" "_law_drawn" s__law_drawn f fd) (mlen : mg "len" = none) : FnOk P w K mg base CX0 1 f fd ["script", "k", "many"] (spDrawn K) := by
  refine F.ok scDrawn (fun vs H Q E h => ?_) (fun cdv A outer s H vs Q E hr h => ?_)
  · obtain ⟨a, ns, k, many, rfl, _⟩ := h
    rfl
  · obtain ⟨a, ns, k, many, rfl, hS, hlen, hk0, hk1, hm0, hm1, q⟩ := h
    refine ⟨_, pss_cons (ps_set (i := 3) scDrawn.nd rfl (Or.inl rfl) pe_int)
      (pss_cons (ps_if (pt_cmpR op_gt (pe_callB call_len_seq (by rfl) mlen PySem.boot_len (pa_cons (pv 0) pa_nil)) pe_int (nomark _))
        (pss_one (ps_set (i := 3) scDrawn.nd rfl (Or.inl rfl) (pe_ix ix_list (pv 0) (pe_op op_mod (pv 1) (pe_callB call_len_seq (by rfl) mlen PySem.boot_len (pa_cons (pv 0) pa_nil))) (fun _ _ => rfl)))) pss_nil)
      (pss_cons (ps_set (i := 4) scDrawn.nd rfl (Or.inl rfl) (pe_op op_mod (pe_op op_add (pe_op op_add (pe_op op_mul (pv 3) pe_int) (pe_op op_mul (pe_op op_add (pv 1) pe_int) pe_int)) (pe_callB call_len_seq (by rfl) mlen PySem.boot_len (pa_cons (pv 0) pa_nil))) pe_int))
      (pss_cons (ps_set (i := 4) scDrawn.nd rfl (Or.inl rfl) (pe_op op_mod (pe_op op_add (pe_op op_add (pe_op op_mul (pv 4) (pv 4)) (pe_op op_mul (pv 1) pe_int)) pe_int) pe_int))
      (pss_one (ps_ret (pe_op op_mod (pe_op op_fdiv (pe_op op_mod (pe_op op_mul (pv 4) pe_int) pe_int) pe_int) (pv 2))))))), ?_⟩
    try dsimp only [cxOf]
    refine ⟨_, rfl, a, _, rfl, .inl hS, _, _, rfl, rfl, _, rfl, ?_⟩
    have em : ((ns.map V.int).length : Int) = (ns.length : Int) := by rw [List.length_map]
    have c1 : ∀ i : Int, CMul i 48271 := fun i => .inr ⟨by decide, by decide⟩
    have c2 : ∀ i : Int, CMul i 7919 := fun i => .inr ⟨by decide, by decide⟩
    have c3 : ∀ i : Int, CMul i 16807 := fun i => .inr ⟨by decide, by decide⟩
    have c4 : ∀ i : Int, CMul (i % 2147483647) (i % 2147483647) := fun i => .inl ⟨Int.lt_of_lt_of_le (by decide) (Int.emod_nonneg _ (by decide)), Int.lt_trans (Int.emod_lt_of_pos _ (by decide)) (by decide)⟩
    refine ite2 (fun h => ?_) (fun h => ?_)
    · have hp : 0 < ns.length := by
        have h := of_decide_eq_true h
        rw [em] at h; omega
      have hm : 0 ≤ k % (ns.length : Int) := Int.emod_nonneg _ (by omega)
      have hm2 : k % (ns.length : Int) < ns.length := Int.emod_lt_of_pos _ (by omega)
      have hj : (k % (ns.length : Int)).toNat < ns.length := by omega
      have hat : atI (ns.map V.int) (k % ((ns.map V.int).length : Int)) = some (V.int (cellOf ns k)) := by
        rw [em]
        have e : ((k % (ns.length : Int)).toNat : Int) = k % (ns.length : Int) := Int.toNat_of_nonneg hm
        rw [← e]
        refine atI_nat ?_
        unfold cellOf
        rw [if_pos hp, List.getElem?_map, List.getElem?_eq_getElem hj]
        simp [List.getD, hj]
      refine ⟨_, rfl, _, rfl, _, rfl, a, _, rfl, .inl hS, _, _, rfl, rfl, (by rw [em]; omega), a, _, _, _, rfl, rfl, hS, hat, ?_⟩
      refine ⟨_, rfl, _, _, rfl, rfl, c1 _, _, rfl, _, _, rfl, rfl, _, _, rfl, rfl, c2 _, _, _, rfl, rfl, _, rfl, a, _, rfl, .inl hS, _, _, rfl, rfl, _, _, rfl, rfl, (by show (0 : Int) < 2147483647; decide), ?_⟩
      refine ⟨_, rfl, _, rfl, _, _, rfl, rfl, c4 _, _, rfl, _, _, rfl, rfl, c3 _, _, _, rfl, rfl, _, _, rfl, rfl, _, _, rfl, rfl, (by show (0 : Int) < 2147483647; decide), ?_⟩
      refine ⟨_, rfl, _, _, rfl, rfl, c1 _, _, _, rfl, rfl, (by show (0 : Int) < 2147483647; decide), _, _, rfl, rfl, ⟨by decide, by decide⟩, _, rfl, _, _, rfl, rfl, hm0, ?_⟩
      rw [em]
      exact q
    · have hp : ¬ 0 < ns.length := by
        intro z
        refine h (decide_eq_true ?_)
        rw [em]; omega
      have hc : cellOf ns k = 7 := by unfold cellOf; rw [if_neg hp]
      refine ⟨_, rfl, _, _, rfl, rfl, c1 _, _, rfl, _, _, rfl, rfl, _, _, rfl, rfl, c2 _, _, _, rfl, rfl, _, rfl, a, _, rfl, .inl hS, _, _, rfl, rfl, _, _, rfl, rfl, (by show (0 : Int) < 2147483647; decide), ?_⟩
      refine ⟨_, rfl, _, rfl, _, _, rfl, rfl, c4 _, _, rfl, _, _, rfl, rfl, c3 _, _, _, rfl, rfl, _, _, rfl, rfl, _, _, rfl, rfl, (by show (0 : Int) < 2147483647; decide), ?_⟩
      refine ⟨_, rfl, _, _, rfl, rfl, c1 _, _, _, rfl, rfl, (by show (0 : Int) < 2147483647; decide), _, _, rfl, rfl, ⟨by decide, by decide⟩, _, rfl, _, _, rfl, rfl, hm0, ?_⟩
      rw [em]
      unfold drawn at q
      rw [hc] at q
      exact q

end
end Pw

set_option Elab.async false
set_option linter.all false
set_option maxRecDepth 100000
set_option maxHeartbeats 4000000
namespace Pw
open PySem L2
section
variable {P : Program} {w : World} {K : PySem.W.Frag} {mg : Str → Option Value} {base : Heap}
theorem scWhole : FnScope ["found"] ["found"] (defScope s__law_whole) := ⟨rfl, rfl, rfl, by decide +kernel, rfl, by decide +kernel, by decide +kernel⟩
theorem ok_whole {f : Addr} {fd : FuncData} (F : Fun K "_law_whole" "_law_whole" s__law_whole f fd) (misi : mg "isinstance" = none) (mint : mg "int" = none) (mbool : mg "bool" = none)
    (k1 : PySem.W.kitOne K (.type "int") (.type "int") = some true) (k2 : PySem.W.kitOne K (.type "int") (.type "bool") = some false) : FnOk P w K mg base CX0 1 f fd ["found"] spWhole := by
  refine F.ok scWhole (fun vs H Q E h => ?_) (fun cdv A outer s H vs Q E hr h => ?_)
  · obtain ⟨i, rfl, _⟩ := h
    rfl
  · obtain ⟨i, rfl, q⟩ := h
    refine ⟨_, pss_one (ps_ret (pe_and (pe_callB call_isi (by rfl) misi PyProof.Rows.boot_isinstance (pa_cons (pv 0) (pa_cons (pe_bltn (v := .ty "int") (by rfl) mint (by decide +kernel) rfl) pa_nil)))
      (pe_one (pe_not (pe_callB call_isi (by rfl) misi PyProof.Rows.boot_isinstance (pa_cons (pv 0) (pa_cons (pe_bltn (v := .ty "bool") (by rfl) mbool (by decide +kernel) rfl) pa_nil))))))), ?_⟩
    try dsimp only [cxOf]
    refine ⟨_, rfl, _, _, _, _, rfl, .of (.int i), (by intro z; cases z), k1, _, rfl, iteT ?_⟩
    refine ⟨_, rfl, _, _, _, _, rfl, .of (.int i), (by intro z; cases z), k2, _, rfl, ?_⟩
    exact q

theorem at_int {xs : List Int} {i : Nat} (h : i < xs.length) : atI (xs.map V.int) ((0 : Int) + (i : Nat)) = some (V.int (xs[i])) := by
  rw [Int.zero_add]
  exact atI_nat (by rw [List.getElem?_map, List.getElem?_eq_getElem h]; rfl)
theorem scRow : FnScope ["found", "due", "k"] ["found", "due"] (defScope s__law_row) := ⟨rfl, rfl, rfl, by decide +kernel, rfl, by decide +kernel, by decide +kernel⟩
theorem ok_row {f fW : Addr} {fd fdW : FuncData} (F : Fun K "_law_row" "_law_row" s__law_row f fd) (gW : Gd P w K mg base "_law_whole" s__law_whole ["found"] CX0 1 spWhole fW fdW)
    (misi : mg "isinstance" = none) (mlist : mg "list" = none) (mlen : mg "len" = none) (mrange : mg "range" = none) (k1 : PySem.W.kitOne K (.type "list") (.type "list") = some true) : FnOk P w K mg base CX0 2 f fd ["found", "due"] (spRow K) := by
  refine F.ok scRow (fun vs H Q E h => ?_) (fun cdv A outer s H vs Q E hr h => ?_)
  · obtain ⟨a, b, xs, rfl, _⟩ := h
    rfl
  · obtain ⟨a, b, xs, rfl, ha, hb, hl, q⟩ := h
    refine ⟨_, pss_cons (ps_if (pw_or (pt_not (pt_val (pe_callB call_isi (by rfl) misi PyProof.Rows.boot_isinstance (pa_cons (pv 0) (pa_cons (pe_bltn (v := .ty "list") (by rfl) mlist (by decide +kernel) rfl) pa_nil)))))
        (pw_or1 (pt_cmpR op_ne (pe_callB call_len_seq (by rfl) mlen PySem.boot_len (pa_cons (pv 0) pa_nil)) (pe_callB call_len_seq (by rfl) mlen PySem.boot_len (pa_cons (pv 1) pa_nil)) (nomark _)))).pt (pss_one (ps_ret pe_bl)) pss_nil)
      (pss_cons (ps_for PassesOwn.never rfl (pi_range1 (by rfl) mrange (pa_cons (pe_callB call_len_seq (by rfl) mlen PySem.boot_len (pa_cons (pv 1) pa_nil)) pa_nil)) (pg_name (i := 2) scRow.nd rfl (Or.inl rfl))
        (pss_one (ps_if (pw_or (pt_not (pt_val (pe_call gW.G hr (by rfl) gW.m gW.F.kp gW.b .nil pass0 (pa_cons (pe_ix ix_list (pv 0) (pv 2) (fun _ _ => rfl)) pa_nil))))
          (pw_or1 (pt_cmpR op_ne (pe_ix ix_list (pv 0) (pv 2) (fun _ _ => rfl)) (pe_ix ix_list (pv 1) (pv 2) (fun _ _ => rfl)) (nomark _)))).pt (pss_one (ps_ret pe_bl)) pss_nil)))
      (pss_one (ps_ret pe_bl))), ?_⟩
    try dsimp only [cxOf]
    refine ⟨_, rfl, _, _, _, _, rfl, .of (.lst ha), (by intro z; cases z), k1, _, rfl, iteF ?_⟩
    refine ⟨_, rfl, a, _, rfl, .inl (SqL.of ha), _, rfl, b, _, rfl, .inl hb, rfl, _, rfl, iteNS rfl ?_⟩
    refine ⟨_, rfl, b, _, rfl, .inl hb, _, rfl, (by rw [List.length_map]; omega), (by rw [List.length_map]; omega), ?_⟩
    have el : ((xs.map V.int).length : Int).toNat = xs.length := by rw [List.length_map]; omega
    rw [el]
    refine for_range (n := xs.length) (fun i σ H2 => H2 = H ∧ ∃ v, σ = [some (.ref a), some (.ref b), v]) ⟨rfl, none, rfl⟩ ?_ ?_
    · rintro i σ H2 hi ⟨rfl, v, rfl⟩
      refine ⟨_, rfl, _, rfl, a, _, _, _, rfl, rfl, SqL.of ha, at_int hi, _, rfl, _, rfl, iteF ?_⟩
      refine ⟨_, rfl, _, rfl, a, _, _, _, rfl, rfl, SqL.of ha, at_int hi, _, rfl, _, rfl, b, _, _, _, rfl, rfl, hb, at_int hi, rfl, _, rfl, iteNS rfl ?_⟩
      exact ⟨rfl, _, rfl⟩
    · rintro σ H2 ⟨rfl, v, rfl⟩
      exact q
end
end Pw

set_option Elab.async false
set_option linter.all false
set_option maxRecDepth 100000
set_option maxHeartbeats 4000000
namespace Pw
open PySem L2
section
variable {P : Program} {w : World} {K : PySem.W.Frag} {mg : Str → Option Value} {base : Heap}
/-! ### the checks -/
theorem scBounds : FnScope ["number"] ["number"] (defScope s_in_bounds) := ⟨rfl, rfl, rfl, by decide +kernel, rfl, by decide +kernel, by decide +kernel⟩
theorem ok_bounds {f : Addr} {fd : FuncData} {t1 t2 : Tok} (F : Fun K "in_bounds" "in_bounds" s_in_bounds f fd) (m1 : mg "LEAST" = some (.int 1 t1)) (m2 : mg "GREATEST" = some (.int 9 t2)) : FnOk P w K mg base CX0 1 f fd ["number"] spBounds := by
  refine F.ok scBounds (fun vs H Q E h => ?_) (fun cdv A outer s H vs Q E hr h => ?_)
  · obtain ⟨n, rfl, _⟩ := h
    rfl
  · obtain ⟨n, rfl, q⟩ := h
    refine ⟨_, pss_one (ps_ret (pe_chain op_le op_le (pe_glob (v := .int 1) (by rfl) m1 ⟨_, rfl⟩) (pv 0) (pe_glob (v := .int 9) (by rfl) m2 ⟨_, rfl⟩))), ?_⟩
    try dsimp only [cxOf]
    refine ⟨_, rfl, _, _, rfl, rfl, _, rfl, ite2 (fun h => ?_) (fun h => ?_)⟩
    · refine ⟨_, _, rfl, rfl, ?_⟩
      rw [h, Bool.true_and] at q
      exact q
    · rw [Bool.eq_false_iff.mpr h, Bool.false_and] at q
      exact q
theorem scCheckWall : FnScope ["sizes", "size"] ["sizes"] (defScope s_check_wall) := ⟨rfl, rfl, rfl, by decide +kernel, rfl, by decide +kernel, by decide +kernel⟩
theorem okSizes_all {sz : List Int} (h : okSizes sz = true) : 1 ≤ sz.length ∧ sz.length ≤ 8 ∧ ∀ z ∈ sz, 1 ≤ z ∧ z ≤ 9 := by
  unfold okSizes at h
  rw [Bool.and_eq_true, Bool.and_eq_true] at h
  obtain ⟨⟨h1, h2⟩, h3⟩ := h
  refine ⟨of_decide_eq_true h1, of_decide_eq_true h2, fun z hz => ?_⟩
  have := List.all_eq_true.mp h3 z hz
  rw [Bool.and_eq_true] at this
  exact ⟨of_decide_eq_true this.1, of_decide_eq_true this.2⟩
theorem okSizes_of {sz : List Int} (h1 : 1 ≤ sz.length) (h2 : sz.length ≤ 8) (h3 : ∀ z ∈ sz, 1 ≤ z ∧ z ≤ 9) : okSizes sz = true := by
  unfold okSizes
  rw [decide_eq_true h1, decide_eq_true h2, Bool.true_and, Bool.true_and]
  exact List.all_eq_true.mpr fun z hz => by rw [decide_eq_true (h3 z hz).1, decide_eq_true (h3 z hz).2]; rfl
theorem ok_checkWall {f fB cNW : Addr} {fd fdB : FuncData} {t1 t2 t3 : Tok} {cWE : Addr} (F : Fun K "check_wall" "check_wall" s_check_wall f fd) (gB : Gd P w K mg base "in_bounds" s_in_bounds ["number"] CX0 1 spBounds fB fdB)
    (mlen : mg "len" = none) (mM : mg "MOST_BOXES" = some (.int 8 t1)) (mL : mg "LEAST" = some (.int 1 t2)) (mGr : mg "GREATEST" = some (.int 9 t3)) (R : Rs K mg cWE cNW "NoWall") : FnOk P w K mg base (CXF P w) 2 f fd ["sizes"] (spCheckWall K cNW) := by
  refine F.okX scCheckWall (fun vs H Q E h => ?_) (fun cdv A outer s H vs Q E hr h => ?_)
  · obtain ⟨a, sz, rfl, _⟩ := h
    rfl
  · obtain ⟨a, sz, rfl, ha, q1, q2⟩ := h
    have GB' := gB.G.cxf
    refine ⟨_, pss_cons (ps_if (pw_or (pt_cmpR op_lt (pe_callB call_len_seq (by rfl) mlen PySem.boot_len (pa_cons (pv 0) pa_nil)) pe_int (nomark _)) (pw_or1 (pt_cmpR op_gt (pe_callB call_len_seq (by rfl) mlen PySem.boot_len (pa_cons (pv 0) pa_nil)) (pe_glob (v := .int 8) (by rfl) mM ⟨_, rfl⟩) (nomark _)))).pt
        (pss_one (ps_raise PySem.F.excBase_ValueError rfl passM_def rfl R.xc R.xt (by rfl) R.m (pa_cons (pe_fstr (pj_str (k := 100) (by decide +kernel) (pj_int (pe_glob (v := .int 8) (by rfl) mM ⟨_, rfl⟩) (pj_str (k := 100) (by decide +kernel) pj_nil (by decide)) (by decide)) (by decide)) (by decide)) pa_nil))) pss_nil)
      (pss_one (ps_for own_def rfl (pi_list (pv 0)) (pg_name (i := 1) scCheckWall.nd rfl (Or.inl rfl))
        (pss_one (ps_if (pt_not (pt_val (pe_call GB' hr (by rfl) gB.m gB.F.kp gB.b .nil pass_def (pa_cons (pv 1) pa_nil))))
          (pss_one (ps_raise PySem.F.excBase_ValueError rfl passM_def rfl R.xc R.xt (by rfl) R.m (pa_cons (pe_fstr (pj_str (k := 100) (by decide +kernel) (pj_int (pe_glob (v := .int 1) (by rfl) mL ⟨_, rfl⟩) (pj_str (k := 100) (by decide +kernel) (pj_int (pe_glob (v := .int 9) (by rfl) mGr ⟨_, rfl⟩) pj_nil (by decide)) (by decide)) (by decide)) (by decide)) (by decide)) pa_nil))) pss_nil)))), ?_⟩
    try dsimp only [cxOf]
    have em : ((sz.map V.int).length : Int) = (sz.length : Int) := by rw [List.length_map]
    have one : ([V.str Str.empty] : List V).length ≤ sizeLine := by show 1 ≤ sizeLine; decide
    refine ⟨_, rfl, a, _, rfl, .inl ha, _, _, rfl, rfl, _, rfl, ite2 (fun h => iteT ?_) (fun h => ?_)⟩
    · have h := of_decide_eq_true h
      refine ⟨8, rfl, (by decide), fun out => ⟨one, q2 ?_⟩⟩
      rw [em] at h
      refine Bool.eq_false_iff.mpr fun z => ?_
      have := (okSizes_all z).1
      omega
    · have h := of_decide_eq_false (Bool.eq_false_iff.mpr h)
      rw [em] at h
      refine ⟨_, rfl, a, _, rfl, .inl ha, _, _, rfl, rfl, _, rfl, ite2 (fun h2 => ?_) (fun h2 => ?_)⟩
      · have h2 := of_decide_eq_true h2
        refine ⟨8, rfl, (by decide), fun out => ⟨one, q2 ?_⟩⟩
        rw [em] at h2
        refine Bool.eq_false_iff.mpr fun z => ?_
        have := (okSizes_all z).2.1
        omega
      · have h2 := of_decide_eq_false (Bool.eq_false_iff.mpr h2)
        rw [em] at h2
        refine ⟨_, rfl, a, rfl, ⟨_, ha⟩, for_list (K := K) (a := a) (xs := sz.map V.int) (fun i σ H2 => H2 = H ∧ (∃ v, σ = [some (.ref a), v]) ∧ ∀ (j : Nat) z, j < i → sz[j]? = some z → 1 ≤ z ∧ z ≤ 9)
          ⟨rfl, ⟨none, rfl⟩, fun j z hj => absurd hj (Nat.not_lt_zero _)⟩ (fun i σ H2 _ ⟨e, _⟩ => by rw [e]; exact ha) ?_ ?_⟩
        · rintro i y σ H2 hi ⟨rfl, ⟨v, rfl⟩, hall⟩
          obtain ⟨z, hz, rfl⟩ : ∃ z, sz[i]? = some z ∧ y = V.int z := by
            rw [List.getElem?_map] at hi
            cases e : sz[i]? with
            | none => rw [e] at hi; cases hi
            | some z => rw [e] at hi; exact ⟨z, rfl, (Option.some.inj hi).symm⟩
          have hmem : z ∈ sz := List.mem_of_getElem? hz
          refine ⟨_, rfl, z, rfl, _, rfl, ?_⟩
          by_cases hb : 1 ≤ z ∧ z ≤ 9
          · rw [decide_eq_true hb.1, decide_eq_true hb.2]
            refine iteF ⟨rfl, ⟨_, rfl⟩, fun j z' hj e => ?_⟩
            by_cases hji : j = i
            · subst hji
              rw [hz] at e; cases e
              exact hb
            · exact hall j z' (by omega) e
          · have hb' : (decide (1 ≤ z) && decide (z ≤ 9)) = false := by
              refine Bool.eq_false_iff.mpr fun z' => hb ?_
              rw [Bool.and_eq_true] at z'
              exact ⟨of_decide_eq_true z'.1, of_decide_eq_true z'.2⟩
            rw [hb']
            refine iteT ⟨1, rfl, (by decide), 9, rfl, (by decide), fun out => ⟨one, q2 ?_⟩⟩
            exact Bool.eq_false_iff.mpr fun z' => hb ((okSizes_all z').2.2 z hmem)
        · rintro σ H2 ⟨rfl, ⟨v, rfl⟩, hall⟩
          refine q1 (okSizes_of (by omega) (by omega) fun z hz => ?_)
          obtain ⟨j, hj, e⟩ := List.mem_iff_getElem.mp hz
          exact hall j z (by rw [List.length_map]; exact hj) (by rw [List.getElem?_eq_getElem hj, e])
end
end Pw

set_option Elab.async false
set_option linter.all false
set_option maxRecDepth 100000
set_option maxHeartbeats 4000000
namespace Pw
open PySem L2
section
variable {P : Program} {w : World} {K : PySem.W.Frag} {mg : Str → Option Value} {base : Heap}
theorem same_upd {H : Hp} {a : Addr} {o : HO} (h : H a = none) : Same H (upd H a o) := fun b u e => by rw [upd_ne (ne_of_none e h)]; exact e
theorem same_put {H H1 : Hp} {a : Addr} {o : HO} (s : Same H H1) (h : H a = none) : Same H (upd H1 a o) := fun b u e => by rw [upd_ne (ne_of_none e h)]; exact s b u e
theorem boot_listT : bootBuiltins "list" = some (.type "list") := by decide +kernel
theorem scCS : FnScope ["size"] ["size"] (defScope s_check_size) := ⟨rfl, rfl, rfl, by decide +kernel, rfl, by decide +kernel, by decide +kernel⟩
theorem ok_checkSize {f fB cWE cNS : Addr} {fd fdB : FuncData} {t2 t3 : Tok} (F : Fun K "check_size" "check_size" s_check_size f fd) (gB : Gd P w K mg base "in_bounds" s_in_bounds ["number"] CX0 1 spBounds fB fdB)
    (mLEAST : mg "LEAST" = some (.int 1 t2)) (mGREATEST : mg "GREATEST" = some (.int 9 t3)) (RNoSize : Rs K mg cWE cNS "NoSize") : FnOk P w K mg base (CXF P w) 2 f fd ["size"] (spCheckNum cNS) := by
  refine F.okX scCS (fun vs H Q E h => ?_) (fun cdv A outer s H vs Q E hr h => ?_)
  · obtain ⟨z, rfl, _⟩ := h
    rfl
  · obtain ⟨z, rfl, q1, q2⟩ := h
    refine ⟨_, (pss_one (ps_if (pt_not (pt_val (pe_call gB.G.cxf hr (by rfl) gB.m gB.F.kp gB.b .nil pass_def (pa_cons (pv 0) pa_nil)))) (pss_one (ps_raise PySem.F.excBase_ValueError rfl passM_def rfl RNoSize.xc RNoSize.xt (by rfl) RNoSize.m (pa_cons (pe_fstr (pj_str (k := 100) (by decide +kernel) (pj_int (pe_glob (v := .int 1) (by rfl) mLEAST ⟨_, rfl⟩) (pj_str (k := 100) (by decide +kernel) (pj_int (pe_glob (v := .int 9) (by rfl) mGREATEST ⟨_, rfl⟩) pj_nil (by decide)) (by decide)) (by decide)) (by decide)) (by decide)) pa_nil))) pss_nil)), ?_⟩
    try dsimp only [cxOf]
    refine ⟨_, rfl, z, rfl, _, rfl, ?_⟩
    have q1 : (decide (1 ≤ z) && decide (z ≤ 9)) = true → Q .non H := q1
    have q2 : (decide (1 ≤ z) && decide (z ≤ 9)) = false → E (.ref cNS) none H := q2
    cases e : (decide (1 ≤ z) && decide (z ≤ 9)) with
    | true => exact iteF (q1 e)
    | false => exact iteT ⟨1, rfl, (by decide), 9, rfl, (by decide), fun out => ⟨(by show 1 ≤ sizeLine; decide), q2 e⟩⟩
end
end Pw

set_option Elab.async false
set_option linter.all false
set_option maxRecDepth 100000
set_option maxHeartbeats 4000000
namespace Pw
open PySem L2
section
variable {P : Program} {w : World} {K : PySem.W.Frag} {mg : Str → Option Value} {base : Heap}
/-- _law_sizes_by(script, base): sizes of a wall -/
def spSizesBy (K : PySem.W.Frag) : Sp := fun vs H Q _ => ∃ (a : Addr) (ns : List Int) (b : Int), vs = [.ref a, .int b] ∧ SqL K H a (ns.map V.int) ∧ ns.length ≤ 63 ∧ 0 ≤ b ∧ b < 10000 ∧ ∀ sz, okSizes sz = true → tells H (sz.map V.int) Q
theorem three_at {d x y z : Int} (h1 : 0 ≤ d) (h2 : d < 3) : ∃ v, atI [V.int x, V.int y, V.int z] d = some (.int v) ∧ (v = x ∨ v = y ∨ v = z) := by
  have : d = ((0 : Nat) : Int) ∨ d = ((1 : Nat) : Int) ∨ d = ((2 : Nat) : Int) := by omega
  rcases this with h | h | h
  · exact ⟨x, by rw [h]; exact atI_nat (j := 0) rfl, .inl rfl⟩
  · exact ⟨y, by rw [h]; exact atI_nat (j := 1) rfl, .inr (.inl rfl)⟩
  · exact ⟨z, by rw [h]; exact atI_nat (j := 2) rfl, .inr (.inr rfl)⟩
theorem scSB : FnScope ["script", "base", "many", "top"] ["script", "base"] (defScope s__law_sizes_by) := ⟨rfl, rfl, rfl, by decide +kernel, rfl, by decide +kernel, by decide +kernel⟩
theorem ok_sizesBy {f fD : Addr} {fd fdD : FuncData} (F : Fun K "_law_sizes_by" "_law_sizes_by" s__law_sizes_by f fd) (gD : Gd P w K mg base "_law_drawn" s__law_drawn ["script", "k", "many"] CX0 1 (spDrawn K) fD fdD) (mrange : mg "range" = none) : FnOk P w K mg base CX0 2 f fd ["script", "base"] (spSizesBy K) := by
  refine F.ok scSB (fun vs H Q E h => ?_) (fun cdv A outer s H vs Q E hr h => ?_)
  · obtain ⟨a, ns, b, rfl, _⟩ := h
    rfl
  · obtain ⟨a, ns, b, rfl, hS, hl, hb0, hb1, q⟩ := h
    have hr1 : Room 1 _ := hr
    refine ⟨_, (pss_cons (ps_set (i := 2) scSB.nd rfl (Or.inl rfl) (pe_op op_add pe_int (pe_call gD.G hr1 (by rfl) gD.m gD.F.kp gD.b .nil pass0 (pa_cons (pv 0) (pa_cons (pv 1) (pa_cons pe_int pa_nil))))))
      (pss_cons (ps_set (i := 3) scSB.nd rfl (Or.inr rfl) (pe_ix ix_list (pe_lst (pa_cons pe_int (pa_cons pe_int (pa_cons pe_int pa_nil)))) (pe_call gD.G hr1 (by rfl) gD.m gD.F.kp gD.b .nil pass0 (pa_cons (pv 0) (pa_cons (pe_op op_add (pv 1) pe_int) (pa_cons pe_int pa_nil)))) (fun _ _ => rfl)))
      (pss_one (ps_ret (pe_comp (N := ["k", "script", "top", "base"]) (src := [none, some 0, some 3, some 1]) rfl (blk (osc := defScope s__law_sizes_by) (oN := ["script", "base", "many", "top"]) rfl rfl (by decide +kernel)) (pi_range1 (by rfl) mrange (pa_cons (pv 2) pa_nil)) (fun C s₀ H₀ ex pn => pg_name (i := 0) (show (["k", "script", "top", "base"] : List Str).Nodup by decide +kernel) rfl (Or.inl rfl) (Or.inr rfl)) (fun C s₀ H₀ ex pn => pts_nil) (fun C s₀ H₀ ex pn => (pe_op op_add pe_int (pe_call gD.G hr1 (by rfl) gD.m gD.F.kp gD.b .nil pass0 (pa_cons (pv 1) (pa_cons (pe_op op_add (pe_op op_add (pv 3) pe_int) (pv 0)) (pa_cons (pv 2) pa_nil))))))))))), ?_⟩
    try dsimp only [cxOf]
    have d1 := drawn_lo ns b (many := 8) (by decide)
    have d2 := drawn_hi ns b (many := 8) (by decide)
    refine ⟨_, rfl, _, rfl, a, ns, b, 8, rfl, hS, hl, by omega, by omega, by decide, by decide, _, _, rfl, rfl, ?_⟩
    generalize drawn ns b 8 = d at d1 d2 ⊢
    refine ⟨(by show 3 ≤ sizeLine; decide), fun L hL => ?_⟩
    have sL : ∀ o, Same H (upd H L o) := fun o => same_upd hL
    obtain ⟨top, ht, htop⟩ := three_at (x := 3) (y := 5) (z := 9) (drawn_lo ns (b + 1) (many := 3) (by decide)) (drawn_hi ns (b + 1) (many := 3) (by decide))
    refine ⟨_, rfl, _, rfl, _, _, rfl, rfl, a, ns, b + 1, 3, rfl, (sL _).seq hS, hl, by omega, by omega, by decide, by decide, L, _, _, _, rfl, rfl, SqL.of upd_same, ht, ?_⟩
    generalize hH1 : upd H L (.lst [.int 3, .int 5, .int 9]) = H1
    have s1 : Same H H1 := by rw [← hH1]; exact sL _
    have ht2 : 0 < top ∧ top ≤ 9 := by omega
    have hline : (63 : Nat) < sizeLine := by decide
    refine ⟨_, rfl, _, rfl, (by omega), (by omega), fun D hD => ?_⟩
    refine comp_range (lo := 0) (n := (1 + d).toNat) (src := [none, some 0, some 3, some 1]) (fun i σ1 H2 => (∃ v, σ1 = [v, some (.ref a), some (.int top), some (.int b)]) ∧ Same H1 H2 ∧ (∃ sz : List Int, H2 = upd H1 D (.lst (sz.map V.int)) ∧ sz.length = i ∧ ∀ z ∈ sz, 1 ≤ z ∧ z ≤ 9) ∧ i ≤ 8)
      ⟨⟨none, rfl⟩, same_upd hD, ⟨[], rfl, rfl, fun z hz => by cases hz⟩, Nat.zero_le _⟩ ?_ ?_
    · rintro i σ1 H2 hi ⟨⟨v, rfl⟩, s2, ⟨sz, rfl, hsl, hsz⟩, _⟩
      refine gN ?_
      refine tT ?_
      have e1 := drawn_lo ns (b + 2 + (0 + (i : Int))) (many := top) ht2.1
      have e2 := drawn_hi ns (b + 2 + (0 + (i : Int))) (many := top) ht2.1
      refine ⟨_, rfl, _, rfl, _, _, rfl, rfl, _, rfl, _, _, rfl, rfl, _, rfl, a, ns, b + 2 + (0 + (i : Int)), top, rfl, (s1.trans s2).seq hS, hl, by omega, by omega, ht2.1, by omega, _, _, rfl, rfl, _, upd_same, (by rw [List.length_map]; omega), ⟨_, rfl⟩, ?_, ⟨sz ++ [1 + drawn ns (b + 2 + (0 + (i : Int))) top], ?_, (by rw [List.length_append, hsl]; rfl), ?_⟩, by omega⟩
      · rw [upd_upd]; exact same_upd hD
      · rw [upd_upd, List.map_append]; rfl
      · intro z hz
        rcases List.mem_append.mp hz with hz | hz
        · exact hsz z hz
        · rw [List.mem_singleton.mp hz]; omega
    · rintro σ1 H2 ⟨_, s2, ⟨sz, rfl, hsl, hsz⟩, _⟩
      exact q sz (okSizes_of (by omega) (by omega) hsz) D _ (s1.free hD) (s1.trans s2) upd_same
/-! ### a list made of a call's numbers, None in every place -/
end
end Pw

set_option Elab.async false
set_option linter.all false
set_option maxRecDepth 100000
set_option maxHeartbeats 4000000
namespace Pw
open PySem L2
section
variable {P : Program} {w : World} {K : PySem.W.Frag} {mg : Str → Option Value} {base : Heap}
/-! ### check_both -/
def allNum (ps : List Int) : Bool := ps.all okNum
def spBoth (K : PySem.W.Frag) (cNW cNS : Addr) : Sp := fun vs H Q E => ∃ (a b : Addr) (sz ps : List Int), vs = [.ref a, .ref b] ∧ SqL K H a (sz.map V.int) ∧ SqL K H b (ps.map V.int) ∧
  (okSizes sz = false → E (.ref cNW) none H) ∧ (okSizes sz = true → allNum ps = false → E (.ref cNS) none H) ∧ (okSizes sz = true → allNum ps = true → Q .non H)
theorem scBoth : FnScope ["sizes", "parcels", "size"] ["sizes", "parcels"] (defScope s_check_both) := ⟨rfl, rfl, rfl, by decide +kernel, rfl, by decide +kernel, by decide +kernel⟩
theorem int_at {ps : List Int} {i : Nat} {y : V} (h : (ps.map V.int)[i]? = some y) : ∃ z, ps[i]? = some z ∧ y = V.int z := by
  rw [List.getElem?_map] at h
  cases e : ps[i]? with
  | none => rw [e] at h; cases h
  | some z => rw [e] at h; exact ⟨z, rfl, (Option.some.inj h).symm⟩
theorem ok_both {f fW fS cNW cNS : Addr} {fd fdW fdS : FuncData} (F : Fun K "check_both" "check_both" s_check_both f fd) (gW : Gd P w K mg base "check_wall" s_check_wall ["sizes"] (CXF P w) 2 (spCheckWall K cNW) fW fdW)
    (gS : Gd P w K mg base "check_size" s_check_size ["size"] (CXF P w) 2 (spCheckNum cNS) fS fdS) : FnOk P w K mg base (CXF P w) 3 f fd ["sizes", "parcels"] (spBoth K cNW cNS) := by
  refine F.okX scBoth (fun vs H Q E h => ?_) (fun cdv A outer s H vs Q E hr h => ?_)
  · obtain ⟨a, b, sz, ps, rfl, _⟩ := h
    rfl
  · obtain ⟨a, b, sz, ps, rfl, ha, hb, q1, q2, q3⟩ := h
    refine ⟨_, (pss_cons (ps_expr (pe_call gW.G hr (by rfl) gW.m gW.F.kp gW.b .nil pass_def (pa_cons (pv 0) pa_nil)))
      (pss_one (ps_for own_def rfl (pi_list (pv 1)) (pg_name (i := 2) scBoth.nd rfl (Or.inl rfl)) (pss_one (ps_expr (pe_call gS.G hr (by rfl) gS.m gS.F.kp gS.b .nil pass_def (pa_cons (pv 2) pa_nil))))))), ?_⟩
    try dsimp only [cxOf]
    refine ⟨_, rfl, a, sz, rfl, ha, fun hok => ?_, fun hno => q1 hno⟩
    refine ⟨_, rfl, b, rfl, ⟨_, hb⟩, for_list (K := K) (a := b) (xs := ps.map V.int) (fun i σ H2 => H2 = H ∧ (∃ v, σ = [some (.ref a), some (.ref b), v]) ∧ ∀ (j : Nat) z, j < i → ps[j]? = some z → okNum z = true)
      ⟨rfl, ⟨none, rfl⟩, fun j z hj => absurd hj (Nat.not_lt_zero _)⟩ (fun i σ H2 _ ⟨e, _⟩ => by rw [e]; exact hb) ?_ ?_⟩
    · rintro i y σ H2 hi ⟨rfl, ⟨v, rfl⟩, hall⟩
      obtain ⟨z, hz, rfl⟩ := int_at hi
      refine ⟨_, rfl, z, rfl, fun h => ⟨rfl, ⟨_, rfl⟩, fun j z' hj e => ?_⟩, fun h => q2 hok ?_⟩
      · by_cases hji : j = i
        · subst hji
          rw [hz] at e; cases e
          exact h
        · exact hall j z' (by omega) e
      · refine Bool.eq_false_iff.mpr fun z' => ?_
        have := List.all_eq_true.mp z' z (List.mem_of_getElem? hz)
        rw [h] at this; cases this
    · rintro σ H2 ⟨rfl, ⟨v, rfl⟩, hall⟩
      refine q3 hok (List.all_eq_true.mpr fun z hz => ?_)
      obtain ⟨j, hj, e⟩ := List.mem_iff_getElem.mp hz
      exact hall j z (by rw [List.length_map]; exact hj) (by rw [List.getElem?_eq_getElem hj, e])
/-! ### places_by_size -/
def lamOf (st : Stmt) : Pos := match defBody st with
  | .Return (some (.Call _ _ (⟨_, .Lambda _ _ _ p, _⟩ :: _) _)) _ :: _ => p
  | _ => ⟨0, 0, 0, 0⟩
def tabOf (p : Addr) : Tab := ⟨p, lamOf s_places_by_size, "places_by_size.<locals>.<lambda>"⟩
/-- the places, the sizes rising -/
def spPlaces (T : Tab) (K : PySem.W.Frag) : Sp := fun vs H Q _ => ∃ (a : Addr) (ns : List Int), vs = [.ref a] ∧ SqL K H a (ns.map V.int) ∧ ns.length < 64 ∧ T.Ok H ∧
  ∀ (D : Addr) (H' : Hp) (ms : List Int), H D = none → H' D = some (.lst (ms.map V.int)) → Gw T H H' → ms.Perm ((List.range ns.length).map fun i : Nat => (i : Int)) → ms.Pairwise (fun x y => ns.getD x.toNat 0 ≤ ns.getD y.toNat 0) → Q (.ref D) H'
theorem scPl : FnScope ["sizes"] ["sizes"] (defScope s_places_by_size) := ⟨rfl, rfl, rfl, by decide +kernel, rfl, by decide +kernel, by decide +kernel⟩
theorem ok_places {f c pT : Addr} {fd : FuncData} (F : Fun K "places_by_size" "places_by_size" s_places_by_size f fd) (hc : fd.code = .ref c) (hK : PySem.W.codeHdIn K c pT = true) (hB : base.BuiltinsAt mg pT)
    (mlen : mg "len" = none) (mrange : mg "range" = none) (msorted : mg "sorted" = none) : FnOk P w K mg base CX0 2 f fd ["sizes"] (spPlaces (tabOf pT) K) := by
  refine F.okC scPl (fun vs H Q E h => ?_) (fun cdv A outer s H vs Q E hcd hr h => ?_)
  · obtain ⟨a, ns, rfl, _⟩ := h
    rfl
  · obtain ⟨a, ns, rfl, ha, h64, hT, q⟩ := h
    have hcv : cdv = .ref c := hcd.symm.trans hc
    subst hcv
    refine ⟨_, pss_one (ps_ret (pe_sortK (T := tabOf pT) (c := c) (i := 0) (pa_cons (pe_callTy call_rangeV (by rfl) mrange boot_rangeT (pa_cons (pe_callB call_len_seq (by rfl) mlen PySem.boot_len (pa_cons (pv 0) pa_nil)) pa_nil)) pa_nil)
      (by rfl) msorted rfl hr rfl hK hB (show ("places_by_size" : Str) ++ ".<locals>." ++ "<lambda>" = ("places_by_size.<locals>.<lambda>" : Str) by decide +kernel) rfl rfl (fun d e => by cases e; rfl) rfl (fun v d b pm cv ctv => rfl) rfl rfl (by decide +kernel) rfl rfl rfl (by decide) (by decide) (by decide) (fun _ _ => rfl) rfl rfl)), ?_⟩
    try dsimp only [cxOf]
    refine ⟨_, rfl, a, _, rfl, .inl ha, _, rfl, fun r hr0 => ?_⟩
    have sr : Same H (upd H r (.rng 0 ((ns.map V.int).length : Nat))) := fun b u e => by rw [upd_ne (ne_of_none e hr0)]; exact e
    refine ⟨r, a, ns, rfl, by rw [upd_same, List.length_map], rfl, sr.seq ha, h64, hT.same sr, fun D H' ms hD hl g hp hw => ?_⟩
    exact q D H' ms (sr.free hD) hl ((Gw.of hT sr).trans g) hp hw
end
end Pw

set_option Elab.async false
set_option linter.all false
set_option maxRecDepth 100000
set_option maxHeartbeats 4000000
namespace Pw
open PySem L2
section
variable {P : Program} {w : World} {K : PySem.W.Frag} {mg : Str → Option Value} {base : Heap}
/-! ### counting by places -/
theorem by_places (ns : List Int) : ((List.range ns.length).map fun i : Nat => (i : Int)).map (fun x => ns.getD x.toNat 0) = ns := by
  rw [List.map_map]
  apply List.ext_getElem?
  intro i
  by_cases hi : i < ns.length
  · simp [hi]
  · simp [hi]
theorem cnt_perm {ns ms : List Int} (hp : ms.Perm ((List.range ns.length).map fun i : Nat => (i : Int))) (q : Int → Bool) : (ms.filter fun x => q (ns.getD x.toNat 0)).length = (ns.filter q).length := by
  rw [(hp.filter _).length_eq]
  conv => rhs; rw [← by_places ns, List.filter_map, List.length_map]
  rfl
theorem desc_few {L : List Int} {f : Int → Int} {i : Nat} {v : Int} (hw : L.Pairwise (fun x y => f y ≤ f x)) (h : L.length ≤ i ∨ ∃ x, L[i]? = some x ∧ f x < v) : (L.filter fun x => decide (v ≤ f x)).length ≤ i := by
  rcases h with h | ⟨x, hx, hv⟩
  · exact Nat.le_trans (List.length_filter_le _ _) h
  · obtain ⟨hi, e⟩ := List.getElem?_eq_some_iff.mp hx
    have hd : (L.drop i).filter (fun x => decide (v ≤ f x)) = [] := by
      rw [List.filter_eq_nil_iff]
      intro y hy
      obtain ⟨j, hj, ey⟩ := List.mem_iff_getElem.mp hy
      rw [List.getElem_drop] at ey
      rw [List.length_drop] at hj
      have : f y ≤ f x := by
        by_cases hj0 : j = 0
        · subst hj0
          have : y = x := by rw [← ey, ← e]; rfl
          rw [this]; exact Int.le_refl _
        · rw [← ey, ← e]
          exact List.pairwise_iff_getElem.mp hw i (i + j) hi (by omega) (by omega)
      rw [decide_eq_true_eq]
      omega
    have e2 : L.filter (fun x => decide (v ≤ f x)) = (L.take i).filter (fun x => decide (v ≤ f x)) := by
      conv => lhs; rw [← List.take_append_drop i L, List.filter_append, hd, List.append_nil]
    rw [e2]
    exact Nat.le_trans (List.length_filter_le _ _) (by rw [List.length_take]; omega)
theorem desc_many {L : List Int} {f : Int → Int} {i : Nat} {x : Int} (hw : L.Pairwise (fun x y => f y ≤ f x)) (hx : L[i]? = some x) : i + 1 ≤ (L.filter fun y => decide (f x ≤ f y)).length := by
  obtain ⟨hi, e⟩ := List.getElem?_eq_some_iff.mp hx
  have h1 : (L.take (i + 1)).filter (fun y => decide (f x ≤ f y)) = L.take (i + 1) := by
    rw [List.filter_eq_self]
    intro y hy
    obtain ⟨j, hj, ey⟩ := List.mem_iff_getElem.mp hy
    rw [List.length_take] at hj
    rw [List.getElem_take] at ey
    rw [decide_eq_true_eq, ← ey, ← e]
    by_cases hji : j = i
    · subst hji; exact Int.le_refl _
    · exact List.pairwise_iff_getElem.mp hw j i (by omega) hi (by omega)
  have h2 : ((L.take (i + 1)).filter (fun y => decide (f x ≤ f y))).length ≤ (L.filter fun y => decide (f x ≤ f y)).length := (List.Sublist.filter _ (List.take_sublist _ _)).length_le
  rw [h1, List.length_take] at h2
  omega
/-- too many: of this size or more there are more parcels than boxes -/
def Many (sz ps : List Int) (v : Int) : Prop := 1 ≤ v ∧ v ≤ 9 ∧ (sz.filter fun z => decide (v ≤ z)).length < (ps.filter fun z => decide (v ≤ z)).length
/-- a box for each parcel -/
def Boxes (sz ps ch : List Int) : Prop := ch.length = ps.length ∧ ch.Nodup ∧ ∀ (k : Nat) b z, ch[k]? = some b → ps[k]? = some z → 0 ≤ b ∧ b < sz.length ∧ z ≤ sz.getD b.toNat 0
structure Sorts (ns ms : List Int) : Prop where
  perm : ms.Perm ((List.range ns.length).map fun i : Nat => (i : Int))
  up : ms.Pairwise (fun x y => ns.getD x.toNat 0 ≤ ns.getD y.toNat 0)
theorem Sorts.len {ns ms : List Int} (s : Sorts ns ms) : ms.length = ns.length := by rw [s.perm.length_eq, List.length_map, List.length_range]
theorem Sorts.mem {ns ms : List Int} (s : Sorts ns ms) {x : Int} (h : x ∈ ms) : 0 ≤ x ∧ x < ns.length := by
  have := s.perm.mem_iff.mp h
  obtain ⟨i, hi, rfl⟩ := List.mem_map.mp this
  have := List.mem_range.mp hi
  omega
theorem Sorts.has {ns ms : List Int} (s : Sorts ns ms) {i : Nat} (h : i < ns.length) : (i : Int) ∈ ms := s.perm.mem_iff.mpr (List.mem_map.mpr ⟨i, List.mem_range.mpr h, rfl⟩)
theorem Sorts.nodup {ns ms : List Int} (s : Sorts ns ms) : ms.Nodup := by
  refine s.perm.nodup_iff.mpr ?_
  rw [List.nodup_iff_pairwise_ne, List.pairwise_map]
  exact List.nodup_range.imp fun h z => h (by omega)
theorem Sorts.down {ns ms : List Int} (s : Sorts ns ms) : ms.reverse.Pairwise (fun x y => ns.getD y.toNat 0 ≤ ns.getD x.toNat 0) := by
  rw [List.pairwise_reverse]; exact s.up
theorem Sorts.cnt {ns ms : List Int} (s : Sorts ns ms) (q : Int → Bool) : (ms.reverse.filter fun x => q (ns.getD x.toNat 0)).length = (ns.filter q).length := by
  rw [List.filter_reverse, List.length_reverse]; exact cnt_perm s.perm q
theorem many_of {sz ps m1 m2 : List Int} {i : Nat} {p : Int} (s1 : Sorts sz m1) (s2 : Sorts ps m2) (hall : allNum ps = true) (hp : m2.reverse[i]? = some p) (h : m1.reverse.length ≤ i ∨ ∃ x, m1.reverse[i]? = some x ∧ sz.getD x.toNat 0 < ps.getD p.toNat 0) :
    Many sz ps (ps.getD p.toNat 0) := by
  have hm := s2.mem (List.mem_reverse.mp (List.mem_of_getElem? hp))
  have hl : p.toNat < ps.length := by omega
  have e : ps.getD p.toNat 0 = ps[p.toNat] := by simp [List.getD, hl]
  have hn : okNum (ps.getD p.toNat 0) = true := by rw [e]; exact List.all_eq_true.mp hall _ (List.getElem_mem hl)
  unfold okNum at hn
  rw [Bool.and_eq_true] at hn
  have c1 := desc_few (f := fun x => sz.getD x.toNat 0) (i := i) (v := ps.getD p.toNat 0) s1.down h
  have c2 := desc_many (f := fun x => ps.getD x.toNat 0) (i := i) s2.down hp
  rw [s1.cnt (fun z => decide (ps.getD p.toNat 0 ≤ z))] at c1
  rw [s2.cnt (fun z => decide (ps.getD p.toNat 0 ≤ z))] at c2
  exact ⟨of_decide_eq_true hn.1, of_decide_eq_true hn.2, by omega⟩
/-- the boxes chosen ahead of rank i -/
def Chosen (sz ps bs ws : List Int) (i : Nat) (ch : List (Option Int)) : Prop := ch.length = ps.length ∧ i ≤ bs.length ∧ ∀ (j : Nat) p b, j < i → ws[j]? = some p → bs[j]? = some b → ch[p.toNat]? = some (some b) ∧ ps.getD p.toNat 0 ≤ sz.getD b.toNat 0
theorem boxes_of {sz ps m1 m2 : List Int} {ch : List (Option Int)} (s1 : Sorts sz m1) (s2 : Sorts ps m2) (c : Chosen sz ps m1.reverse m2.reverse ps.length ch) : ∃ cs : List Int, ch = cs.map some ∧ Boxes sz ps cs := by
  obtain ⟨h1, h2, h3⟩ := c
  have l2 : m2.reverse.length = ps.length := by rw [List.length_reverse]; exact s2.len
  have n1 : m1.reverse.Nodup := (List.reverse_perm m1).nodup_iff.mpr s1.nodup
  -- each place has a rank
  have rank : ∀ k, k < ps.length → ∃ j b, j < ps.length ∧ m2.reverse[j]? = some (k : Int) ∧ m1.reverse[j]? = some b ∧ ch[k]? = some (some b) ∧ ps.getD k 0 ≤ sz.getD b.toNat 0 := fun k hk => by
    obtain ⟨j, hj, e⟩ := List.mem_iff_getElem.mp (List.mem_reverse.mpr (s2.has hk))
    have hj' : j < ps.length := by omega
    have hb : j < m1.reverse.length := by omega
    have e' : m2.reverse[j]? = some (k : Int) := by rw [List.getElem?_eq_getElem hj, e]
    have := h3 j (k : Int) _ hj' e' (List.getElem?_eq_getElem hb)
    exact ⟨j, _, hj', e', List.getElem?_eq_getElem hb, by simpa using this.1, by simpa using this.2⟩
  refine ⟨ch.map fun o => o.getD 0, ?_, by rw [List.length_map, h1], ?_, ?_⟩
  · apply List.ext_getElem?
    intro k
    rw [List.map_map, List.getElem?_map]
    by_cases hk : k < ps.length
    · obtain ⟨j, b, _, _, _, e, _⟩ := rank k hk
      rw [e]; rfl
    · rw [List.getElem?_eq_none (by omega)]; rfl
  · rw [List.nodup_iff_pairwise_ne, List.pairwise_iff_getElem]
    intro k k' hk hk' hlt z
    rw [List.length_map, h1] at hk hk'
    obtain ⟨j, b, hj, e1, e2, e3, _⟩ := rank k hk
    obtain ⟨j', b', hj', e1', e2', e3', _⟩ := rank k' hk'
    have z1 : (ch.map fun o => o.getD 0)[k]? = some b := by rw [List.getElem?_map, e3]; rfl
    have z2 : (ch.map fun o => o.getD 0)[k']? = some b' := by rw [List.getElem?_map, e3']; rfl
    rw [List.getElem?_eq_getElem (by rw [List.length_map, h1]; exact hk)] at z1
    rw [List.getElem?_eq_getElem (by rw [List.length_map, h1]; exact hk')] at z2
    have hb : b = b' := by rw [← Option.some.inj z1, ← Option.some.inj z2]; exact z
    subst hb
    obtain ⟨i1, f1⟩ := List.getElem?_eq_some_iff.mp e2
    obtain ⟨i2, f2⟩ := List.getElem?_eq_some_iff.mp e2'
    have : j = j' := by
      rcases Nat.lt_trichotomy j j' with t | t | t
      · exact absurd (f1.trans f2.symm) (List.pairwise_iff_getElem.mp (List.nodup_iff_pairwise_ne.mp n1) j j' i1 i2 t)
      · exact t
      · exact absurd (f2.trans f1.symm) (List.pairwise_iff_getElem.mp (List.nodup_iff_pairwise_ne.mp n1) j' j i2 i1 t)
    subst this
    rw [e1] at e1'
    have := Option.some.inj e1'
    omega
  · intro k b z hb hz
    have hk : k < ps.length := (List.getElem?_eq_some_iff.mp hz).1
    obtain ⟨j, b', hj, e1, e2, e3, e4⟩ := rank k hk
    rw [List.getElem?_map, e3] at hb
    have hb' : b' = b := Option.some.inj hb
    subst hb'
    have hm := s1.mem (List.mem_reverse.mp (List.mem_of_getElem? e2))
    refine ⟨hm.1, hm.2, ?_⟩
    have : ps.getD k 0 = z := by rw [List.getD_eq_getElem?_getD, hz]; rfl
    rw [← this]; exact e4
theorem chosen_set {sz ps m1 m2 : List Int} {ch : List (Option Int)} {i : Nat} {p b : Int} (s1 : Sorts sz m1) (s2 : Sorts ps m2) (c : Chosen sz ps m1.reverse m2.reverse i ch) (hp : m2.reverse[i]? = some p) (hb : m1.reverse[i]? = some b) (hle : ps.getD p.toNat 0 ≤ sz.getD b.toNat 0) :
    Chosen sz ps m1.reverse m2.reverse (i + 1) (ch.set p.toNat (some b)) := by
  obtain ⟨h1, h2, h3⟩ := c
  have hm := s2.mem (List.mem_reverse.mp (List.mem_of_getElem? hp))
  have n2 : m2.reverse.Nodup := (List.reverse_perm m2).nodup_iff.mpr s2.nodup
  refine ⟨by rw [List.length_set, h1], by have := (List.getElem?_eq_some_iff.mp hb).1; omega, fun j p' b' hj e1 e2 => ?_⟩
  by_cases hji : j = i
  · subst hji
    rw [hp] at e1; rw [hb] at e2
    cases e1; cases e2
    exact ⟨by rw [List.getElem?_set_self (by omega)], hle⟩
  · obtain ⟨g1, g2⟩ := h3 j p' b' (by omega) e1 e2
    refine ⟨?_, g2⟩
    have hm' := s2.mem (List.mem_reverse.mp (List.mem_of_getElem? e1))
    have hne : p.toNat ≠ p'.toNat := fun z => by
      have z' : p' = p := by omega
      subst z'
      obtain ⟨i1, f1⟩ := List.getElem?_eq_some_iff.mp e1
      obtain ⟨i2, f2⟩ := List.getElem?_eq_some_iff.mp hp
      exact absurd (f1.trans f2.symm) (List.pairwise_iff_getElem.mp (List.nodup_iff_pairwise_ne.mp n2) j i i1 i2 (by omega))
    rw [List.getElem?_set_ne hne]; exact g1
end
end Pw

set_option Elab.async false
set_option linter.all false
set_option maxRecDepth 100000
set_option maxHeartbeats 4000000
namespace Pw
open PySem L2
section
variable {P : Program} {w : World} {K : PySem.W.Frag} {mg : Str → Option Value} {base : Heap}
/-- fit(sizes, parcels) -/
def spFit (T : Tab) (K : PySem.W.Frag) (cNW cNS : Addr) : Sp := fun vs H Q E => ∃ (a b : Addr) (sz ps : List Int), vs = [.ref a, .ref b] ∧ SqL K H a (sz.map V.int) ∧ SqL K H b (ps.map V.int) ∧ ps.length < 64 ∧ T.Ok H ∧
  (okSizes sz = false → E (.ref cNW) none H) ∧ (okSizes sz = true → allNum ps = false → E (.ref cNS) none H) ∧
  (okSizes sz = true → allNum ps = true → (∀ (D : Addr) (H' : Hp) (v : Int), H D = none → H' D = some (.tup [.str "many", .int v]) → Gw T H H' → Many sz ps v → Q (.ref D) H') ∧
    (∀ (D l : Addr) (H' : Hp) (ch : List Int), H D = none → H l = none → H' D = some (.tup [.str "boxes", .ref l]) → H' l = some (.lst (ch.map V.int)) → Gw T H H' → Boxes sz ps ch → Q (.ref D) H'))
theorem nones_compF {K : PySem.W.Frag} {a D : Addr} {xs : List V} {σ : St} {H : Hp} {Q : VK} (hS : SqL K H a xs) (hD : H D = none) (hl : xs.length ≤ 63) (q : Q (.ref D) (upd H D (.lst (List.replicate xs.length .non)))) :
    CompW (Itl K a) [none] (gName 0) tTrue (tC .non) Q σ H D := by
  have hline : (63 : Nat) < sizeLine := by decide
  refine comp_list (K := K) (a := a) (src := [none]) (xs := xs) (fun i σ1 H2 => (∃ v, σ1 = [v]) ∧ H2 = upd H D (.lst (List.replicate i .non)) ∧ i ≤ xs.length) ⟨⟨none, rfl⟩, rfl, Nat.zero_le _⟩ ?_ ?_ ?_
  · rintro i σ1 H2 _ ⟨_, rfl, _⟩
    exact Same.seq (fun b u e => by rw [upd_ne (ne_of_none e hD)]; exact e) hS
  · rintro i x σ1 H2 hx ⟨⟨v, rfl⟩, rfl, hi⟩
    have hil : i < xs.length := (List.getElem?_eq_some_iff.mp hx).1
    refine gN (tT ⟨_, upd_same, ?_, ⟨_, rfl⟩, ?_, hil⟩)
    · rw [List.length_replicate]; omega
    · rw [upd_upd, ← List.replicate_succ']
  · rintro σ1 H2 ⟨_, rfl, _⟩
    exact q
theorem at_intF {ns : List Int} {x : Int} (h0 : 0 ≤ x) (h1 : x < ns.length) : atI (ns.map V.int) x = some (.int (ns.getD x.toNat 0)) := by
  have hl : x.toNat < ns.length := by omega
  have e : ((x.toNat : Nat) : Int) = x := by omega
  conv => lhs; rw [← e]
  exact atI_nat (by rw [List.getElem?_map, List.getElem?_eq_getElem hl]; simp [List.getD, hl])
theorem tabOk_set {T : Tab} {H : Hp} {l : Addr} {xs ys : List V} (h : T.Ok H) (hl : H l = some (.lst xs)) : T.Ok (upd H l (.lst ys)) := by
  rcases h with h | ⟨c', oc, vs, t, h1, h2, h3⟩
  · exact .inl (by rw [upd_ne (ne_of h hl (by intro z; cases z))]; exact h)
  · exact .inr ⟨c', oc, vs, t, by rw [upd_ne (ne_of h1 hl (by intro z; cases z))]; exact h1, by rw [upd_ne (ne_of h2 hl (by intro z; cases z))]; exact h2, h3⟩
/-- a list of ours is written -/
theorem gw_set {T : Tab} {H H' : Hp} {l : Addr} {xs ys : List V} (g : Gw T H H') (f : H l = none) (hl : H' l = some (.lst xs)) : Gw T H (upd H' l (.lst ys)) :=
  ⟨tabOk_set g.ok hl, fun b o hb e => by rw [upd_ne (ne_of_none e f)]; exact g.keep b o hb e⟩
theorem scFit : FnScope ["sizes", "parcels", "boxes", "chosen", "rank", "place"] ["sizes", "parcels"] (defScope s_fit) := ⟨rfl, rfl, rfl, by decide +kernel, rfl, by decide +kernel, by decide +kernel⟩
theorem ok_fit {f fC fP cNW cNS pT : Addr} {fd fdC fdP : FuncData} (F : Fun K "fit" "fit" s_fit f fd) (gC : Gd P w K mg base "check_both" s_check_both ["sizes", "parcels"] (CXF P w) 3 (spBoth K cNW cNS) fC fdC)
    (gP : Gd P w K mg base "places_by_size" s_places_by_size ["sizes"] CX0 2 (spPlaces (tabOf pT) K) fP fdP) (mlen : mg "len" = none) (mlist : mg "list" = none) (mreversed : mg "reversed" = none) (menumerate : mg "enumerate" = none) :
    FnOk P w K mg base (CXF P w) 4 f fd ["sizes", "parcels"] (spFit (tabOf pT) K cNW cNS) := by
  refine F.okX scFit (fun vs H Q E h => ?_) (fun cdv A outer s H vs Q E hr h => ?_)
  · obtain ⟨a, b, sz, ps, rfl, _⟩ := h
    rfl
  · obtain ⟨a, b, sz, ps, rfl, ha, hb, h64, hT, q1, q2, q3⟩ := h
    have hr2 : Room 2 _ := hr.mono (by decide)
    refine ⟨_, (pss_cons (ps_expr (pe_call gC.G hr (by rfl) gC.m gC.F.kp gC.b .nil pass_def (pa_cons (pv 0) (pa_cons (pv 1) pa_nil))))
      (pss_cons (ps_set (i := 2) scFit.nd rfl (Or.inl rfl) (pe_listRev (pa_cons (pe_call gP.G.cxf hr2 (by rfl) gP.m gP.F.kp gP.b .nil pass_def (pa_cons (pv 0) pa_nil)) pa_nil) rfl (by rfl) mlist (by rfl) mreversed))
      (pss_cons (ps_setC (i := 3) scFit.nd rfl rfl rfl (N := ["size"]) (src := [none]) (blk (osc := defScope s_fit) (oN := ["sizes", "parcels", "boxes", "chosen", "rank", "place"]) rfl rfl (by decide +kernel)) (pi_list (pv 1)) (fun C s₀ H₀ ex pn => pg_name (i := 0) (show (["size"] : List Str).Nodup by decide +kernel) rfl (Or.inl rfl) (Or.inr rfl)) (fun C s₀ H₀ ex pn => pts_nil) (fun C s₀ H₀ ex pn => pe_non))
      (pss_cons (ps_for own_def rfl (pi_enumRev (by rfl) menumerate (by rfl) mreversed (pa_cons (pe_call gP.G.cxf hr2 (by rfl) gP.m gP.F.kp gP.b .nil pass_def (pa_cons (pv 1) pa_nil)) pa_nil)) (pg_tup rfl (pgs_cons (pg_name (i := 4) scFit.nd rfl (Or.inl rfl)) (pgs_cons (pg_name (i := 5) scFit.nd rfl (Or.inl rfl)) pgs_nil))) (pss_cons (ps_if (pw_or (pt_cmpR op_ge (pv 4) (pe_callB call_len_seq (by rfl) mlen PySem.boot_len (pa_cons (pv 2) pa_nil)) (nomark _)) (pw_or1 (pt_cmpR op_lt (pe_ix ix_list (pv 0) (pe_ix ix_list (pv 2) (pv 4) (fun _ _ => rfl)) (fun _ _ => rfl)) (pe_ix ix_list (pv 1) (pv 5) (fun _ _ => rfl)) (nomark _)))).pt (pss_one (ps_ret (pe_tup (pa_cons pe_str (pa_cons (pe_ix ix_list (pv 1) (pv 5) (fun _ _ => rfl)) pa_nil))))) pss_nil)
      (pss_one (ps_asg (pe_ix ix_list (pv 2) (pv 4) (fun _ _ => rfl)) (pg_sub (pv 3) (pv 5) set_list)))))
      (pss_one (ps_ret (pe_tup (pa_cons pe_str (pa_cons (pv 3) pa_nil))))))))), ?_⟩
    try dsimp only [cxOf]
    refine seq_gen fun U hU => ?_
    refine ⟨_, rfl, _, rfl, a, b, sz, ps, rfl, ha, hb, q1, q2, fun hok hall => ?_⟩
    subst hU
    dsimp only
    have o1 := (okSizes_all hok).1
    have o2 := (okSizes_all hok).2.1
    have o3 := (okSizes_all hok).2.2
    have q4 := (q3 hok hall).2
    have q3 := (q3 hok hall).1
    refine seq_gen fun U hU => ?_
    refine ⟨_, rfl, a, sz, rfl, ha, by omega, hT, fun D1 H1 m1 hD1 hl1 g1 p1 w1 => ⟨D1, _, rfl, SqL.of hl1, fun l2 hl2 => gN ?_⟩⟩
    subst hU
    dsimp only
    have S1 : Sorts sz m1 := ⟨p1, w1⟩
    rw [← List.map_reverse]
    have s2 : Same H1 (upd H1 l2 (.lst (m1.reverse.map V.int))) := fun c u e => by rw [upd_ne (ne_of_none e hl2)]; exact e
    have g2 := g1.trans (Gw.of g1.ok s2)
    have hl2' : upd H1 l2 (.lst (m1.reverse.map V.int)) l2 = some (.lst (m1.reverse.map V.int)) := upd_same
    have f2 : H l2 = none := g1.free hT hl2
    generalize upd H1 l2 (.lst (m1.reverse.map V.int)) = H2 at s2 g2 hl2' ⊢
    refine seq_gen fun U hU => ?_
    refine ⟨_, rfl, b, rfl, ⟨_, g2.seq hT hb⟩, fun l3 hl3 => nones_compF (g2.seq hT hb) hl3 (by rw [List.length_map]; omega) (gN ?_)⟩
    subst hU
    dsimp only
    rw [List.length_map]
    have s3 : Same H2 (upd H2 l3 (.lst (List.replicate ps.length .non))) := fun c u e => by rw [upd_ne (ne_of_none e hl3)]; exact e
    have g3 := g2.trans (Gw.of g2.ok s3)
    have f3 : H l3 = none := g2.free hT hl3
    have n23 : l2 ≠ l3 := ne_of_none hl2' hl3
    have hl2'' := s3 _ _ hl2'
    have hl3' : upd H2 l3 (.lst (List.replicate ps.length .non)) l3 = some (.lst (List.replicate ps.length .non)) := upd_same
    generalize upd H2 l3 (.lst (List.replicate ps.length .non)) = H3 at s3 g3 hl2'' hl3' ⊢
    refine ⟨_, rfl, b, ps, rfl, g3.seq hT hb, h64, g3.ok, fun D4 H4 m2 hD4 hl4 g4 p2 w2 => ⟨D4, _, rfl, SqL.of hl4, ?_⟩⟩
    have S2 : Sorts ps m2 := ⟨p2, w2⟩
    have notb : ∀ (xs : List V) ps, HO.lst xs ≠ .tbl ps := fun xs ps z => by cases z
    have g34 := g3.trans g4
    have e2 := g4.at g3.ok hl2'' (notb _)
    have e3 := g4.at g3.ok hl3' (notb _)
    have n4 : ∀ {c : Addr} {u : HO}, H3 c = some u → c ≠ D4 := fun e => ne_of_none e hD4
    refine abs3k (fun i σ H5 => (∃ v4 v5, σ = [some (.ref a), some (.ref b), some (.ref l2), some (.ref l3), v4, v5]) ∧ Gw (tabOf pT) H H5 ∧ H5 D4 = some (.lst (m2.map V.int)) ∧ H5 l2 = some (.lst (m1.reverse.map V.int)) ∧ ∃ ch, H5 l3 = some (.lst (ch.map oV)) ∧ Chosen sz ps m1.reverse m2.reverse i ch) fun Pv hv => ?_
    refine for_enumRev (K := K) (a := D4) (xs := m2.map V.int) Pv
      ((hv _ _ _).mpr ⟨⟨none, none, rfl⟩, g34, hl4, e2, List.replicate ps.length none, by rw [e3, List.map_replicate]; rfl, by rw [List.length_replicate], Nat.zero_le _, fun j _ _ hj => absurd hj (Nat.not_lt_zero _)⟩) (fun i σ H5 _ hP => SqL.of ((hv _ _ _).mp hP).2.2.1) ?_ ?_
    · intro i x p σ H5 hx hP hp
      obtain ⟨⟨v4, v5, rfl⟩, g5, h4, h2, ch, h3, hch⟩ := (hv _ _ _).mp hP
      rw [← List.map_reverse] at hx
      obtain ⟨pl, hpl, rfl⟩ := int_at hx
      have s5 : Same H5 (upd H5 p (.tup [.int i, .int pl])) := fun c u e => by rw [upd_ne (ne_of_none e hp)]; exact e
      have g6 := g5.trans (Gw.of g5.ok s5)
      refine ⟨p, _, rfl, SqT.of upd_same, rfl, _, _, rfl, _, _, rfl, rfl, ?_⟩
      have h2' := s5 _ _ h2
      have h3' := s5 _ _ h3
      have h4' := s5 _ _ h4
      generalize upd H5 p (.tup [.int i, .int pl]) = H6 at s5 g6 h2' h3' h4' ⊢
      have hm := S2.mem (List.mem_reverse.mp (List.mem_of_getElem? hpl))
      have hpn : pl = ((pl.toNat : Nat) : Int) := by omega
      have hpl2 : pl.toNat < ps.length := by omega
      have atP : atI (ps.map V.int) pl = some (.int (ps.getD pl.toNat 0)) := at_intF hm.1 hm.2
      have bl : ((m1.reverse.map V.int).length : Int) = (m1.reverse.length : Int) := by rw [List.length_map]
      have many : (m1.reverse.length ≤ i ∨ ∃ x, m1.reverse[i]? = some x ∧ sz.getD x.toNat 0 < ps.getD pl.toNat 0) → ∀ D, H6 D = none → Q (.ref D) (upd H6 D (.tup [.str "many", .int (ps.getD pl.toNat 0)])) := fun h D hD =>
        q3 D _ _ (g6.free hT hD) upd_same (g6.trans (Gw.of g6.ok fun c u e => by rw [upd_ne (ne_of_none e hD)]; exact e)) (many_of S1 S2 hall hpl h)
      refine ⟨_, rfl, _, rfl, l2, _, rfl, .inl (SqL.of h2'), _, _, rfl, rfl, _, rfl, ite2 (fun h => iteT ?_) (fun h => ?_)⟩
      · have h := of_decide_eq_true h
        rw [bl] at h
        exact ⟨_, rfl, _, rfl, b, _, _, _, rfl, rfl, g6.seq hT hb, atP, (by show 2 ≤ sizeLine; decide), fun D hD => many (.inl (by omega)) D hD⟩
      · have h := of_decide_eq_false (Bool.eq_false_iff.mpr h)
        rw [bl] at h
        have hil : i < m1.reverse.length := by omega
        obtain ⟨bx, hbx⟩ : ∃ bx, m1.reverse[i]? = some bx := ⟨_, List.getElem?_eq_getElem hil⟩
        have hmb := S1.mem (List.mem_reverse.mp (List.mem_of_getElem? hbx))
        have hbl : bx.toNat < sz.length := by omega
        have atB : atI (m1.reverse.map V.int) (i : Int) = some (.int bx) := atI_nat (by rw [List.getElem?_map, hbx]; rfl)
        have atS : atI (sz.map V.int) bx = some (.int (sz.getD bx.toNat 0)) := at_intF hmb.1 hmb.2
        refine ⟨_, rfl, _, rfl, _, rfl, l2, _, _, _, rfl, rfl, SqL.of h2', atB, a, _, _, _, rfl, rfl, g6.seq hT ha, atS, _, rfl, _, rfl, b, _, _, _, rfl, rfl, g6.seq hT hb, atP, _, _, rfl, rfl, _, rfl, ite2 (fun h5 => ?_) (fun h5 => ?_)⟩
        · have h5 := of_decide_eq_true h5
          exact ⟨_, rfl, _, rfl, b, _, _, _, rfl, rfl, g6.seq hT hb, atP, (by show 2 ≤ sizeLine; decide), fun D hD => many (.inr ⟨bx, hbx, h5⟩) D hD⟩
        · have h5 := of_decide_eq_false (Bool.eq_false_iff.mpr h5)
          refine ⟨_, rfl, _, rfl, l2, _, _, _, rfl, rfl, SqL.of h2', atB, _, rfl, _, rfl, l3, _, _, pl.toNat, rfl, rfl, h3', ixN_nat hpn (by rw [List.length_map, hch.1]; exact hpl2), ?_⟩
          refine (hv _ _ _).mpr ⟨⟨_, _, rfl⟩, gw_set g6 f3 h3', ?_, ?_, ch.set pl.toNat (some bx), ?_, chosen_set S1 S2 hch hpl hbx (by omega)⟩
          · rw [upd_ne (Ne.symm (n4 hl3'))]; exact h4'
          · rw [upd_ne n23]; exact h2'
          · rw [upd_same, List.map_set]; rfl
    · intro σ H5 hP
      obtain ⟨⟨v4, v5, rfl⟩, g5, h4, h2, ch, h3, hch⟩ := (hv _ _ _).mp hP
      rw [List.length_map, S2.len] at hch
      obtain ⟨cs, rfl, hB⟩ := boxes_of S1 S2 hch
      refine ⟨_, rfl, (by show 2 ≤ sizeLine; decide), fun D hD => ?_⟩
      have s6 : Same H5 (upd H5 D (.tup [.str "boxes", .ref l3])) := fun c u e => by rw [upd_ne (ne_of_none e hD)]; exact e
      refine q4 D l3 _ cs (g5.free hT hD) f3 upd_same ?_ (g5.trans (Gw.of g5.ok s6)) hB
      rw [s6 _ _ h3, List.map_map]
      rfl
end
end Pw

set_option Elab.async false
set_option linter.all false
set_option maxRecDepth 100000
set_option maxHeartbeats 4000000
namespace Pw
open PySem L2
section
variable {P : Program} {w : World} {K : PySem.W.Frag} {mg : Str → Option Value} {base : Heap}
/-! ### most: what is told -/
structure Most (sz ps tk : List Int) (bd : Int) : Prop where
  up : tk.Pairwise (· < ·)
  mem : ∀ x ∈ tk, 0 ≤ x ∧ x < ps.length
  b1 : 1 ≤ bd
  b10 : bd ≤ 10
  cnt : (ps.filter fun z => decide (z < bd)).length + (sz.filter fun z => decide (bd ≤ z)).length = tk.length
  hall : ∀ v : Int, ((tk.map fun k => ps.getD k.toNat 0).filter fun z => decide (v ≤ z)).length ≤ (sz.filter fun z => decide (v ≤ z)).length
structure Mst (bs ps m2 : List Int) (i t : Nat) (bd : Int) : Prop where
  ti : t ≤ i
  tn : t ≤ ps.length
  b1 : 1 ≤ bd
  b10 : bd ≤ 10
  nxt : ∀ (j : Nat) p, t ≤ j → m2[j]? = some p → bd ≤ ps.getD p.toNat 0
  cnt : (ps.filter fun z => decide (z < bd)).length + ((bs.take i).filter fun z => decide (bd ≤ z)).length = t
  fit : ∀ (j : Nat) p x, j < t → m2[j]? = some p → bs[i - t + j]? = some x → ps.getD p.toNat 0 ≤ x
theorem cnt_le {f : Int → Int} {v : Int} : ∀ (L W : List Int), L.length = W.length → (∀ (j : Nat) p x, L[j]? = some p → W[j]? = some x → f p ≤ x) → ((L.map f).filter fun z => decide (v ≤ z)).length ≤ (W.filter fun z => decide (v ≤ z)).length
  | [], _, _, _ => by simp
  | p :: L, [], h, _ => by simp at h
  | p :: L, x :: W, h, hs => by
    have ih := cnt_le (f := f) (v := v) L W (by simpa using h) fun j p' x' e1 e2 => hs (j + 1) p' x' (by simpa using e1) (by simpa using e2)
    have h0 := hs 0 p x rfl rfl
    rw [List.map_cons, List.filter_cons, List.filter_cons]
    by_cases hp : v ≤ f p
    · rw [if_pos (decide_eq_true hp), if_pos (decide_eq_true (show v ≤ x by omega)), List.length_cons, List.length_cons]; omega
    · rw [if_neg (by rw [decide_eq_true_eq]; exact hp)]
      split
      · rw [List.length_cons]; omega
      · exact ih
theorem Mst.hall {bs ps m2 : List Int} {i t : Nat} {bd : Int} (M : Mst bs ps m2 i t bd) (S : Sorts ps m2) (hi : i ≤ bs.length) (v : Int) : (((m2.take t).map fun k => ps.getD k.toNat 0).filter fun z => decide (v ≤ z)).length ≤ (bs.filter fun z => decide (v ≤ z)).length := by
  have h1 := M.ti
  have h2 := M.tn
  have hl := S.len
  refine Nat.le_trans (cnt_le (f := fun k => ps.getD k.toNat 0) (m2.take t) ((bs.drop (i - t)).take t) (by rw [List.length_take, List.length_take, List.length_drop]; omega) fun j p x e1 e2 => ?_)
    (List.Sublist.filter _ ((List.take_sublist _ _).trans (List.drop_sublist _ _))).length_le
  have hj : j < t := by have := (List.getElem?_eq_some_iff.mp e1).1; rw [List.length_take] at this; omega
  rw [List.getElem?_take_of_lt hj] at e1
  rw [List.getElem?_take_of_lt hj, List.getElem?_drop] at e2
  exact M.fit j p x hj e1 e2
theorem Mst.took {bs ps m2 : List Int} {i t : Nat} {bd p x : Int} (M : Mst bs ps m2 i t bd) (hp : m2[t]? = some p) (hx : bs[i]? = some x) (S : Sorts ps m2) (h : ps.getD p.toNat 0 ≤ x) : Mst bs ps m2 (i + 1) (t + 1) bd := by
  have h1 := M.ti
  have htl := (List.getElem?_eq_some_iff.mp hp).1
  have hl := S.len
  have hil := (List.getElem?_eq_some_iff.mp hx).1
  refine ⟨by omega, by omega, M.b1, M.b10, fun j q hj e => M.nxt j q (by omega) e, ?_, fun j q y hj e1 e2 => ?_⟩
  · have hb : bd ≤ x := Int.le_trans (M.nxt t p (Nat.le_refl _) hp) h
    rw [List.take_succ_eq_append_getElem hil, List.filter_append, (List.getElem?_eq_some_iff.mp hx).2, List.length_append]
    have : ([x].filter fun z => decide (bd ≤ z)) = [x] := by simp [hb]
    rw [this, List.length_singleton]
    have := M.cnt
    omega
  · by_cases hjt : j = t
    · subst hjt
      rw [hp] at e1; cases e1
      rw [show i + 1 - (j + 1) + j = i by omega, hx] at e2; cases e2
      exact h
    · rw [show i + 1 - (t + 1) + j = i - t + j by omega] at e2
      exact M.fit j q y (by omega) e1 e2
theorem cnt_asc {ps m2 : List Int} {t : Nat} {bd : Int} (S : Sorts ps m2) (ht : t ≤ ps.length) (h1 : ∀ (j : Nat) p, j < t → m2[j]? = some p → ps.getD p.toNat 0 < bd) (h2 : ∀ (j : Nat) p, t ≤ j → m2[j]? = some p → bd ≤ ps.getD p.toNat 0) :
    (ps.filter fun z => decide (z < bd)).length = t := by
  rw [← cnt_perm S.perm (fun z => decide (z < bd))]
  have hl := S.len
  conv => lhs; rw [← List.take_append_drop t m2]
  rw [List.filter_append, List.length_append]
  have e1 : (m2.take t).filter (fun x => decide (ps.getD x.toNat 0 < bd)) = m2.take t := by
    rw [List.filter_eq_self]
    intro x hx
    obtain ⟨j, hj, e⟩ := List.mem_iff_getElem.mp hx
    rw [List.length_take] at hj
    rw [decide_eq_true_eq]
    exact h1 j x (by omega) (by rw [← e, List.getElem_take]; exact List.getElem?_eq_getElem (by omega))
  have e2 : (m2.drop t).filter (fun x => decide (ps.getD x.toNat 0 < bd)) = [] := by
    rw [List.filter_eq_nil_iff]
    intro x hx
    obtain ⟨j, hj, e⟩ := List.mem_iff_getElem.mp hx
    rw [List.length_drop] at hj
    have := h2 (t + j) x (by omega) (by rw [← e, List.getElem_drop]; exact List.getElem?_eq_getElem (by omega))
    rw [decide_eq_true_eq]
    omega
  rw [e1, e2, List.length_take]
  simp only [List.length_nil]
  omega
theorem Mst.left {bs ps m2 : List Int} {i t : Nat} {bd p x : Int} (M : Mst bs ps m2 i t bd) (hp : m2[t]? = some p) (hx : bs[i]? = some x) (S : Sorts ps m2) (hs : bs.Pairwise (· ≤ ·)) (hx9 : 1 ≤ x ∧ x ≤ 9) (h : x < ps.getD p.toNat 0) : Mst bs ps m2 (i + 1) t (x + 1) := by
  have h1 := M.ti
  have h2 := M.tn
  obtain ⟨hil, ex⟩ := List.getElem?_eq_some_iff.mp hx
  obtain ⟨htl, ep⟩ := List.getElem?_eq_some_iff.mp hp
  have asc : ∀ (k : Nat) y, k ≤ i → bs[k]? = some y → y ≤ x := fun k y hk e => by
    obtain ⟨hkl, ey⟩ := List.getElem?_eq_some_iff.mp e
    by_cases hki : k = i
    · subst hki; rw [← ey, ← ex]; exact Int.le_refl _
    · rw [← ey, ← ex]; exact List.pairwise_iff_getElem.mp hs k i hkl hil (by omega)
  have nxt : ∀ (j : Nat) q, t ≤ j → m2[j]? = some q → x + 1 ≤ ps.getD q.toNat 0 := fun j q hj e => by
    obtain ⟨hjl, ej⟩ := List.getElem?_eq_some_iff.mp e
    by_cases hjt : j = t
    · subst hjt
      rw [hp] at e; cases e; omega
    · have := List.pairwise_iff_getElem.mp S.up t j htl hjl (by omega)
      rw [ep, ej] at this
      omega
  have fit : ∀ (j : Nat) q y, j < t → m2[j]? = some q → bs[i + 1 - t + j]? = some y → ps.getD q.toNat 0 ≤ y := fun j q y hj e1 e2 => by
    obtain ⟨hyl, ey⟩ := List.getElem?_eq_some_iff.mp e2
    have hz : i - t + j < bs.length := by omega
    have := M.fit j q _ hj e1 (List.getElem?_eq_getElem hz)
    have := List.pairwise_iff_getElem.mp hs (i - t + j) (i + 1 - t + j) hz hyl (by omega)
    rw [ey] at this
    omega
  refine ⟨by omega, h2, by omega, by omega, nxt, ?_, fit⟩
  have c1 := cnt_asc S h2 (bd := x + 1) (fun j q hj e => by
    have hz : i - t + j < bs.length := by omega
    have a1 := M.fit j q _ hj e (List.getElem?_eq_getElem hz)
    have a2 := asc (i - t + j) _ (by omega) (List.getElem?_eq_getElem hz)
    omega) nxt
  have c2 : (bs.take (i + 1)).filter (fun z => decide (x + 1 ≤ z)) = [] := by
    rw [List.filter_eq_nil_iff]
    intro y hy
    obtain ⟨k, hk, e⟩ := List.mem_iff_getElem.mp hy
    rw [List.length_take] at hk
    have := asc k y (by omega) (by rw [← e, List.getElem_take]; exact List.getElem?_eq_getElem (by omega))
    rw [decide_eq_true_eq]
    omega
  rw [c1, c2]
  rfl
end
end Pw

set_option Elab.async false
set_option linter.all false
set_option maxRecDepth 100000
set_option maxHeartbeats 4000000
namespace Pw
open PySem L2
section
variable {P : Program} {w : World} {K : PySem.W.Frag} {mg : Str → Option Value} {base : Heap}
/-- most(sizes, parcels) -/
def spMost (T : Tab) (K : PySem.W.Frag) (cNW cNS : Addr) : Sp := fun vs H Q E => ∃ (a b : Addr) (sz ps : List Int), vs = [.ref a, .ref b] ∧ SqL K H a (sz.map V.int) ∧ SqL K H b (ps.map V.int) ∧ ps.length < 64 ∧ T.Ok H ∧
  (okSizes sz = false → E (.ref cNW) none H) ∧ (okSizes sz = true → allNum ps = false → E (.ref cNS) none H) ∧
  (okSizes sz = true → allNum ps = true → ∀ (D l : Addr) (H' : Hp) (tk : List Int) (bd : Int), H D = none → H l = none → H' D = some (.tup [.int tk.length, .ref l, .int bd]) → H' l = some (.lst (tk.map V.int)) → Gw T H H' → Most sz ps tk bd → Q (.ref D) H')
theorem allNum_at {ps : List Int} (h : allNum ps = true) {z : Int} (hz : z ∈ ps) : 1 ≤ z ∧ z ≤ 9 := by
  have := List.all_eq_true.mp h z hz
  unfold okNum at this
  rw [Bool.and_eq_true] at this
  exact ⟨of_decide_eq_true this.1, of_decide_eq_true this.2⟩
theorem most_of {sz bs ps m2 ms : List Int} {i t : Nat} {bd bd' : Int} (hall : allNum ps = true) (hok : okSizes sz = true) (hbs : bs.Perm sz) (S : Sorts ps m2) (M : Mst bs ps m2 i t bd) (hi : i ≤ bs.length) (he : i = bs.length ∨ t = ps.length)
    (hp : ms.Perm (m2.take t)) (hu : ms.Pairwise (· ≤ ·)) (hb : bd' = if t = ps.length then 10 else bd) : Most sz ps ms bd' := by
  have ht := M.tn
  have hl := S.len
  have tl : ms.length = t := by rw [hp.length_eq, List.length_take]; omega
  have nd : ms.Nodup := hp.nodup_iff.mpr (S.nodup.sublist (List.take_sublist _ _))
  have cs : ∀ v : Int, (bs.filter fun z => decide (v ≤ z)).length = (sz.filter fun z => decide (v ≤ z)).length := fun v => (hbs.filter _).length_eq
  refine ⟨?_, fun x hx => S.mem (List.mem_of_mem_take (hp.mem_iff.mp hx)), ?_, ?_, ?_, fun v => ?_⟩
  · exact (hu.and (List.nodup_iff_pairwise_ne.mp nd)).imp fun h => by omega
  · rw [hb]; split
    · decide
    · exact M.b1
  · rw [hb]; split
    · decide
    · exact M.b10
  · rw [hb, tl]
    by_cases h : t = ps.length
    · rw [if_pos h]
      have e1 : (ps.filter fun z => decide (z < 10)) = ps := by
        rw [List.filter_eq_self]
        intro z hz
        have := allNum_at hall hz
        rw [decide_eq_true_eq]; omega
      have e2 : (sz.filter fun z => decide (10 ≤ z)) = [] := by
        rw [List.filter_eq_nil_iff]
        intro z hz
        have := (okSizes_all hok).2.2 z hz
        rw [decide_eq_true_eq]; omega
      rw [e1, e2, h]; rfl
    · rw [if_neg h]
      rcases he with he | he
      · have := M.cnt
        rw [he, List.take_length, cs] at this
        exact this
      · exact absurd he h
  · rw [← cs v, ((hp.map _).filter _).length_eq]
    exact M.hall S hi v
theorem scMost : FnScope ["sizes", "parcels", "waiting", "taken", "bound", "box_size", "place"] ["sizes", "parcels"] (defScope s_most) := ⟨rfl, rfl, rfl, by decide +kernel, rfl, by decide +kernel, by decide +kernel⟩
theorem ok_most {f fC fP cNW cNS pT : Addr} {fd fdC fdP : FuncData} {t2 t3 : Tok} (F : Fun K "most" "most" s_most f fd) (gC : Gd P w K mg base "check_both" s_check_both ["sizes", "parcels"] (CXF P w) 3 (spBoth K cNW cNS) fC fdC)
    (gP : Gd P w K mg base "places_by_size" s_places_by_size ["sizes"] CX0 2 (spPlaces (tabOf pT) K) fP fdP) (mlen : mg "len" = none) (msorted : mg "sorted" = none) (mLEAST : mg "LEAST" = some (.int 1 t2)) (mGREATEST : mg "GREATEST" = some (.int 9 t3)) :
    FnOk P w K mg base (CXF P w) 4 f fd ["sizes", "parcels"] (spMost (tabOf pT) K cNW cNS) := by
  refine F.okX scMost (fun vs H Q E h => ?_) (fun cdv A outer s H vs Q E hr h => ?_)
  · obtain ⟨a, b, sz, ps, rfl, _⟩ := h
    rfl
  · obtain ⟨a, b, sz, ps, rfl, ha, hb, h64, hT, q1, q2, q3⟩ := h
    have hr2 : Room 2 _ := hr.mono (by decide)
    refine ⟨_, (pss_cons (ps_expr (pe_call gC.G hr (by rfl) gC.m gC.F.kp gC.b .nil pass_def (pa_cons (pv 0) (pa_cons (pv 1) pa_nil))))
      (pss_cons (ps_set (i := 2) scMost.nd rfl (Or.inl rfl) (pe_call gP.G.cxf hr2 (by rfl) gP.m gP.F.kp gP.b .nil pass_def (pa_cons (pv 1) pa_nil)))
      (pss_cons (ps_set (i := 3) scMost.nd rfl (Or.inl rfl) (pe_lst pa_nil))
      (pss_cons (ps_set (i := 4) scMost.nd rfl (Or.inl rfl) (pe_glob (v := .int 1) (by rfl) mLEAST ⟨_, rfl⟩))
      (pss_cons (ps_for own_def rfl (pi_list (pe_callB call_sortedI (by rfl) msorted PyProof.Rows.boot_sorted (pa_cons (pv 0) pa_nil))) (pg_name (i := 5) scMost.nd rfl (Or.inl rfl)) (pss_cons (ps_if (pt_cmpR op_eq (pe_callB call_len_seq (by rfl) mlen PySem.boot_len (pa_cons (pv 3) pa_nil)) (pe_callB call_len_seq (by rfl) mlen PySem.boot_len (pa_cons (pv 2) pa_nil)) (nomark _)) (pss_one ps_break) pss_nil)
      (pss_cons (ps_set (i := 6) scMost.nd rfl (Or.inl rfl) (pe_ix ix_list (pv 2) (pe_callB call_len_seq (by rfl) mlen PySem.boot_len (pa_cons (pv 3) pa_nil)) (fun _ _ => rfl)))
      (pss_one (ps_if (pt_cmpR op_le (pe_ix ix_list (pv 1) (pv 6) (fun _ _ => rfl)) (pv 5) (nomark _)) (pss_one (ps_expr (pe_bm PySem.F.plainAttrs_list PySem.F.slot_list_append PySem.F.type_list_append mt_append (pv 3) (pa_cons (pv 6) pa_nil)))) (pss_one (ps_set (i := 4) scMost.nd rfl (Or.inl rfl) (pe_op op_add (pv 5) pe_int))))))))
      (pss_cons (ps_if (pt_cmpR op_eq (pe_callB call_len_seq (by rfl) mlen PySem.boot_len (pa_cons (pv 3) pa_nil)) (pe_callB call_len_seq (by rfl) mlen PySem.boot_len (pa_cons (pv 2) pa_nil)) (nomark _)) (pss_one (ps_set (i := 4) scMost.nd rfl (Or.inl rfl) (pe_op op_add (pe_glob (v := .int 9) (by rfl) mGREATEST ⟨_, rfl⟩) pe_int))) pss_nil)
      (pss_one (ps_ret (pe_tup (pa_cons (pe_callB call_len_seq (by rfl) mlen PySem.boot_len (pa_cons (pv 3) pa_nil)) (pa_cons (pe_callB call_sortedI (by rfl) msorted PyProof.Rows.boot_sorted (pa_cons (pv 3) pa_nil)) (pa_cons (pv 4) pa_nil)))))))))))), ?_⟩
    try dsimp only [cxOf]
    refine ⟨_, rfl, _, rfl, a, b, sz, ps, rfl, ha, hb, q1, q2, fun hok hall => ?_⟩
    have o1 := (okSizes_all hok).1
    have o2 := (okSizes_all hok).2.1
    have o3 := (okSizes_all hok).2.2
    replace q3 := q3 hok hall
    refine ⟨_, rfl, b, ps, rfl, hb, h64, hT, fun l2 H1 m2 hD1 hl1 g1 p1 w1 => ?_⟩
    have S : Sorts ps m2 := ⟨p1, w1⟩
    refine ⟨(by show 0 ≤ sizeLine; decide), fun l3 hl3 => ?_⟩
    have s2 : Same H1 (upd H1 l3 (.lst [])) := fun c u e => by rw [upd_ne (ne_of_none e hl3)]; exact e
    have g2 := g1.trans (Gw.of g1.ok s2)
    have f3 : H l3 = none := g1.free hT hl3
    have n23 : l2 ≠ l3 := ne_of_none hl1 hl3
    have e2 := s2 _ _ hl1
    have e3 : upd H1 l3 (.lst []) l3 = some (.lst []) := upd_same
    generalize upd H1 l3 (.lst []) = H2 at s2 g2 e2 e3 ⊢
    refine ⟨_, rfl, a, sz, rfl, g2.seq hT ha, by omega, fun l4 bs hl4 pb wb => ⟨l4, rfl, ⟨_, SqL.of upd_same⟩, ?_⟩⟩
    have s4 : Same H2 (upd H2 l4 (.lst (bs.map V.int))) := fun c u e => by rw [upd_ne (ne_of_none e hl4)]; exact e
    have g4 := g2.trans (Gw.of g2.ok s4)
    have n34 : l4 ≠ l3 := Ne.symm (ne_of_none e3 hl4)
    have e2' := s4 _ _ e2
    have e3' := s4 _ _ e3
    have e4 : upd H2 l4 (.lst (bs.map V.int)) l4 = some (.lst (bs.map V.int)) := upd_same
    generalize upd H2 l4 (.lst (bs.map V.int)) = H3 at s4 g4 e2' e3' e4 ⊢
    have bl : bs.length = sz.length := pb.length_eq
    have hm2 : ((m2.map V.int).length : Int) = (ps.length : Int) := by rw [List.length_map, S.len]
    have b9 : ∀ z ∈ bs, 1 ≤ z ∧ z ≤ 9 := fun z hz => o3 z (pb.mem_iff.mp hz)
    refine (fun (fin : ∀ (σ : St) (H5 : Hp), (∃ v5 v6 bd t i, σ = [some (.ref a), some (.ref b), some (.ref l2), some (.ref l3), some (.int bd), v5, v6] ∧ Gw (tabOf pT) H H5 ∧ H5 l2 = some (.lst (m2.map V.int)) ∧ H5 l3 = some (.lst ((m2.take t).map V.int)) ∧ Mst bs ps m2 i t bd ∧ i ≤ bs.length ∧ (i = bs.length ∨ t = ps.length)) → _) =>
      for_list (K := K) (a := l4) (xs := bs.map V.int) (fun i σ H5 => ∃ v5 v6 bd t, σ = [some (.ref a), some (.ref b), some (.ref l2), some (.ref l3), some (.int bd), v5, v6] ∧ Gw (tabOf pT) H H5 ∧ H5 l2 = some (.lst (m2.map V.int)) ∧ H5 l3 = some (.lst ((m2.take t).map V.int)) ∧ H5 l4 = some (.lst (bs.map V.int)) ∧ Mst bs ps m2 i t bd)
      ?_ ?_ ?_ fun σ H5 p => fin σ H5 ?_) ?_
    · refine ⟨none, none, 1, 0, rfl, g4, e2', e3', e4, Nat.le_refl _, Nat.zero_le _, by decide, by decide, fun j p _ e => ?_, ?_, fun j _ _ hj => absurd hj (Nat.not_lt_zero _)⟩
      · have hm := S.mem (List.mem_of_getElem? e)
        have hl : p.toNat < ps.length := by omega
        have : ps.getD p.toNat 0 = ps[p.toNat] := by simp [List.getD, hl]
        rw [this]
        exact (allNum_at hall (List.getElem_mem hl)).1
      · have e1 : (ps.filter fun z => decide (z < 1)) = [] := by
          rw [List.filter_eq_nil_iff]
          intro z hz
          have := allNum_at hall hz
          rw [decide_eq_true_eq]; omega
        rw [e1]; rfl
    · rintro i σ H5 _ ⟨v5, v6, bd, t, rfl, g5, h2, h3, h4, M⟩
      exact SqL.of h4
    · rintro i y σ H5 hy ⟨v5, v6, bd, t, rfl, g5, h2, h3, h4, M⟩
      obtain ⟨x, hx, rfl⟩ := int_at hy
      have hil := (List.getElem?_eq_some_iff.mp hx).1
      have ht := M.tn
      have tl : (((m2.take t).map V.int).length : Int) = (t : Int) := by rw [List.length_map, List.length_take, S.len]; omega
      have hsl : (64 : Nat) < sizeLine := by decide
      refine ⟨_, rfl, l3, _, rfl, .inl (SqL.of h3), _, rfl, l2, _, rfl, .inl (SqL.of h2), rfl, _, rfl, ite2 (fun h => ?_) (fun h => ?_)⟩
      · have h := of_decide_eq_true h
        rw [tl, hm2] at h
        have h : (t : Int) = ps.length := V.int.inj h
        exact fin _ _ ⟨_, _, bd, t, i, rfl, g5, h2, h3, M, Nat.le_of_lt hil, .inr (by omega)⟩
      · have h := of_decide_eq_false (Bool.eq_false_iff.mpr h)
        rw [tl, hm2] at h
        have htn : t < ps.length := by
          rcases Nat.lt_or_ge t ps.length with z | z
          · exact z
          · exact absurd (show V.int (t : Int) = V.int (ps.length : Int) by rw [show t = ps.length by omega]) h
        obtain ⟨p, hp⟩ : ∃ p, m2[t]? = some p := ⟨_, List.getElem?_eq_getElem (by rw [S.len]; exact htn)⟩
        have hm := S.mem (List.mem_of_getElem? hp)
        have atW : atI (m2.map V.int) (((m2.take t).map V.int).length : Int) = some (.int p) := by rw [tl]; exact atI_nat (by rw [List.getElem?_map, hp]; rfl)
        refine ⟨_, rfl, _, rfl, l3, _, rfl, .inl (SqL.of h3), l2, _, _, _, rfl, rfl, SqL.of h2, atW, ?_⟩
        refine ⟨_, rfl, _, rfl, b, _, _, _, rfl, rfl, g5.seq hT hb, at_intF hm.1 hm.2, _, rfl, _, _, rfl, rfl, _, rfl, ite2 (fun h5 => ?_) (fun h5 => ?_)⟩
        · have h5 := of_decide_eq_true h5
          refine ⟨_, rfl, .inl ⟨rfl, _, SqL.of h3⟩, _, rfl, l3, _, _, rfl, rfl, h3, by rw [List.length_map, List.length_take]; omega, ?_⟩
          refine ⟨_, _, bd, t + 1, rfl, gw_set g5 f3 h3, by rw [upd_ne n23]; exact h2, ?_, by rw [upd_ne n34]; exact h4, M.took hp hx S h5⟩
          rw [upd_same, List.take_succ_eq_append_getElem (by rw [S.len]; exact htn), (List.getElem?_eq_some_iff.mp hp).2, List.map_append]
          rfl
        · have h5 := of_decide_eq_false (Bool.eq_false_iff.mpr h5)
          exact ⟨_, rfl, _, _, rfl, rfl, _, _, x + 1, t, rfl, g5, h2, h3, h4, M.left hp hx S wb (b9 x (List.mem_of_getElem? hx)) (by omega)⟩
    · obtain ⟨v5, v6, bd, t, rfl, g5, h2, h3, h4, M⟩ := p
      rw [List.length_map] at M
      exact ⟨v5, v6, bd, t, bs.length, rfl, g5, h2, h3, M, Nat.le_refl _, .inl rfl⟩
    · rintro σ H5 ⟨v5, v6, bd, t, i, rfl, g5, h2, h3, M, hi, he⟩
      have ht := M.tn
      have tl : (((m2.take t).map V.int).length : Int) = (t : Int) := by rw [List.length_map, List.length_take, S.len]; omega
      have tell : ∀ bd', bd' = (if t = ps.length then 10 else bd) → ∀ (l5 : Addr) (ms : List Int), H5 l5 = none → ms.Perm (m2.take t) → ms.Pairwise (· ≤ ·) → ∀ D, upd H5 l5 (.lst (ms.map V.int)) D = none →
          Q (.ref D) (upd (upd H5 l5 (.lst (ms.map V.int))) D (.tup [.int (((m2.take t).map V.int).length : Nat), .ref l5, .int bd'])) := fun bd' hb' l5 ms hl5 hp hu D hD => by
        have s5 : Same H5 (upd H5 l5 (.lst (ms.map V.int))) := fun c u e => by rw [upd_ne (ne_of_none e hl5)]; exact e
        have g6 := g5.trans (Gw.of g5.ok s5)
        have s6 : Same (upd H5 l5 (.lst (ms.map V.int))) (upd (upd H5 l5 (.lst (ms.map V.int))) D (.tup [.int (((m2.take t).map V.int).length : Nat), .ref l5, .int bd'])) := fun c u e => by rw [upd_ne (ne_of_none e hD)]; exact e
        refine q3 D l5 _ ms bd' (g6.free hT hD) (g5.free hT hl5) ?_ (s6 _ _ upd_same) (g6.trans (Gw.of g6.ok s6)) (most_of hall hok pb S M hi he hp hu hb')
        rw [upd_same, hp.length_eq, List.length_map]
      have tl64 : (m2.take t).length < 64 := by rw [List.length_take]; omega
      refine ⟨_, rfl, l3, _, rfl, .inl (SqL.of h3), _, rfl, l2, _, rfl, .inl (SqL.of h2), rfl, _, rfl, ite2 (fun h => ?_) (fun h => ?_)⟩
      · have h := of_decide_eq_true h
        rw [tl, hm2] at h
        have h : (t : Int) = ps.length := V.int.inj h
        refine ⟨_, _, rfl, rfl, ?_⟩
        exact ⟨_, rfl, l3, _, rfl, .inl (SqL.of h3), _, rfl, l3, _, rfl, SqL.of h3, tl64, fun l5 ms hl5 hp hu => ⟨_, rfl, (by show 3 ≤ sizeLine; decide), fun D hD => tell 10 (by rw [if_pos (by omega)]) l5 ms hl5 hp hu D hD⟩⟩
      · have h := of_decide_eq_false (Bool.eq_false_iff.mpr h)
        rw [tl, hm2] at h
        exact ⟨_, rfl, l3, _, rfl, .inl (SqL.of h3), _, rfl, l3, _, rfl, SqL.of h3, tl64, fun l5 ms hl5 hp hu => ⟨_, rfl, (by show 3 ≤ sizeLine; decide), fun D hD => tell bd (by rw [if_neg (fun z => h (by rw [z]))]) l5 ms hl5 hp hu D hD⟩⟩
end
end Pw

set_option Elab.async false
set_option linter.all false
set_option maxRecDepth 100000
set_option maxHeartbeats 4000000
namespace Pw
open PySem L2
section
variable {P : Program} {w : World} {K : PySem.W.Frag} {mg : Str → Option Value} {base : Heap}
/-! ### two lists of ints, as data -/
def two (xs ys : List Int) : PyData := .list [.list (xs.map PyData.int), .list (ys.map PyData.int)]
theorem two_eq (xs ys : List Int) : PyData.eqv (two xs ys) (two xs ys) = true := by
  unfold two
  rw [PyData.eqv, PyData.eqvAll, PyData.eqvAll, eqv_ints, eqv_ints, decide_eq_true rfl, decide_eq_true rfl]
  simp [PyData.eqvAll]
theorem two_can (xs ys : List Int) : (two xs ys).canLay0 = true := by
  unfold two
  rw [PyData.canLay0, PyData.canLayAll0, PyData.canLayAll0, PyData.canLay0, PyData.canLay0, can_ints, can_ints]
  simp [PyData.canLayAll0]
theorem two_depth (xs ys : List Int) : min (two xs ys).depth (two xs ys).depth ≤ 60 := by
  unfold two
  simp [PyData.depth, PyData.depthAll, depth_ints]
theorem two_dt {K : PySem.W.Frag} {H : Hp} {a b c : Addr} {xs ys : List Int} (h : H a = some (.lst [.ref b, .ref c])) (hb : H b = some (.lst (xs.map V.int))) (hc : H c = some (.lst (ys.map V.int))) : Dt K H (.ref a) (two xs ys) :=
  .lst (SqL.of h) (.cons (.lst (SqL.of hb) (dts_ints xs)) (.cons (.lst (SqL.of hc) (dts_ints ys)) .nil))
/-- the law's promise, where a table of code objects is tracked -/
def spLawT (T : Tab) (K : PySem.W.Frag) : Sp := fun vs H Q _ => ∃ (a : Addr) (ns : List Int), vs = [.ref a] ∧ SqL K H a (ns.map V.int) ∧ ns.length ≤ 63 ∧ T.Ok H ∧ ∀ H', Q (.bl true) H'
end
end Pw

set_option Elab.async false
set_option linter.all false
set_option maxRecDepth 100000
set_option maxHeartbeats 4000000
namespace Pw
open PySem L2
section
variable {P : Program} {w : World} {K : PySem.W.Frag} {mg : Str → Option Value} {base : Heap}
theorem cnt_top {b : List Int} (h : b.Pairwise (· ≤ ·)) {i : Nat} {v : Int} (hi : i < b.length) (hv : b[b.length - 1 - i]? = some v) : i + 1 ≤ (b.filter fun z => decide (v ≤ z)).length := by
  have hk : b.length - 1 - i < b.length := by omega
  have ev : b[b.length - 1 - i] = v := (List.getElem?_eq_some_iff.mp hv).2
  have hall : (b.drop (b.length - 1 - i)).filter (fun z => decide (v ≤ z)) = b.drop (b.length - 1 - i) := by
    rw [List.filter_eq_self]
    intro z hz
    refine decide_eq_true ?_
    obtain ⟨j, hj, e⟩ := List.mem_iff_getElem.mp hz
    rw [List.length_drop] at hj
    rw [List.getElem_drop] at e
    by_cases h0 : j = 0
    · subst h0; rw [← e, ← ev]; exact Int.le_refl _
    · have := List.pairwise_iff_getElem.mp h (b.length - 1 - i) (b.length - 1 - i + j) hk (by omega) (by omega)
      rw [← e, ← ev]; exact this
  have := ((List.drop_sublist (b.length - 1 - i) b).filter fun z => decide (v ≤ z)).length_le
  rw [hall, List.length_drop] at this
  omega
theorem top_ge {a : List Int} (h : a.Pairwise (· ≤ ·)) {i : Nat} {v : Int} (hc : i + 1 ≤ (a.filter fun z => decide (v ≤ z)).length) : i < a.length ∧ ∃ z, a[a.length - 1 - i]? = some z ∧ v ≤ z := by
  have hle := List.length_filter_le (fun z => decide (v ≤ z)) a
  have hi : i < a.length := by omega
  have hk : a.length - 1 - i < a.length := by omega
  refine ⟨hi, a[a.length - 1 - i], List.getElem?_eq_getElem hk, ?_⟩
  rcases Int.lt_or_le a[a.length - 1 - i] v with hlt | hge
  · exfalso
    have e : a = a.take (a.length - i) ++ a.drop (a.length - i) := (List.take_append_drop _ _).symm
    have e0 : (a.take (a.length - i)).filter (fun z => decide (v ≤ z)) = [] := by
      rw [List.filter_eq_nil_iff]
      intro z hz
      obtain ⟨j, hj, ej⟩ := List.mem_iff_getElem.mp hz
      rw [List.length_take] at hj
      rw [List.getElem_take] at ej
      rw [decide_eq_true_eq]
      by_cases h0 : j = a.length - 1 - i
      · subst h0; omega
      · have := List.pairwise_iff_getElem.mp h j (a.length - 1 - i) (by omega) hk (by omega)
        omega
    rw [e, List.filter_append, e0, List.nil_append] at hc
    have := List.length_filter_le (fun z => decide (v ≤ z)) (a.drop (a.length - i))
    rw [List.length_drop] at this
    omega
  · exact hge
/-- _law_fits(sizes, parcels): they fit -/
def spFits6 (K : PySem.W.Frag) : Sp := fun vs H Q _ => ∃ (a b : Addr) (sz ps : List Int), vs = [.ref a, .ref b] ∧ SqL K H a (sz.map V.int) ∧ SqL K H b (ps.map V.int) ∧ sz.length < 64 ∧ ps.length < 64 ∧ (∀ v : Int, (ps.filter fun z => decide (v ≤ z)).length ≤ (sz.filter fun z => decide (v ≤ z)).length) ∧ ∀ H', Same H H' → Q (.bl true) H'
theorem scFt : FnScope ["sizes", "parcels", "left", "size"] ["sizes", "parcels"] (defScope s__law_fits) := ⟨rfl, rfl, rfl, by decide +kernel, rfl, by decide +kernel, by decide +kernel⟩
theorem ok_fits6 {f : Addr} {fd : FuncData} (F : Fun K "_law_fits" "_law_fits" s__law_fits f fd) (msorted : mg "sorted" = none) (mlen : mg "len" = none) : FnOk P w K mg base CX0 1 f fd ["sizes", "parcels"] (spFits6 K) := by
  refine F.ok scFt (fun vs H Q E h => ?_) (fun cdv A outer s H vs Q E hr h => ?_)
  · obtain ⟨a, b, sz, ps, rfl, _⟩ := h
    rfl
  · obtain ⟨a, b, sz, ps, rfl, ha, hb, h1, h2, hall, q⟩ := h
    refine ⟨_, (pss_cons (ps_set (i := 2) scFt.nd rfl (Or.inl rfl) (pe_callB call_sortedI (by rfl) msorted PyProof.Rows.boot_sorted (pa_cons (pv 0) pa_nil)))
      (pss_cons (ps_for PassesOwn.never rfl (pi_list (pe_rev (pe_callB call_sortedI (by rfl) msorted PyProof.Rows.boot_sorted (pa_cons (pv 1) pa_nil)) (po_some (pe_un un_neg pe_int)))) (pg_name (i := 3) scFt.nd rfl (Or.inl rfl)) (pss_cons (ps_if (pw_or (pt_cmpR op_eq (pe_callB call_len_seq (by rfl) mlen PySem.boot_len (pa_cons (pv 2) pa_nil)) pe_int (nomark _)) (pw_or1 (pt_cmpR op_lt (pe_ix ix_list (pv 2) (pe_un un_neg pe_int) (fun _ _ => rfl)) (pv 3) (nomark _)))).pt (pss_one (ps_ret pe_bl)) pss_nil)
      (pss_one (ps_expr (pe_bm0 PySem.F.plainAttrs_list PySem.F.slot_list_pop PySem.F.type_list_pop mt_pop (pv 2))))))
      (pss_one (ps_ret pe_bl)))), ?_⟩
    try dsimp only [cxOf]
    refine ⟨_, rfl, a, sz, rfl, ha, h1, fun l a1 hl pa wa => ?_⟩
    have s1 := same_upd (o := .lst (a1.map V.int)) hl
    have e1 := upd_same (H := H) (a := l) (o := .lst (a1.map V.int))
    generalize upd H l (.lst (a1.map V.int)) = H1 at s1 e1 ⊢
    refine ⟨_, rfl, b, ps, rfl, s1.seq hb, h2, fun l2 b1 hl2 pb wb => ?_⟩
    have s2 := same_upd (o := .lst (b1.map V.int)) hl2
    have e2 := upd_same (H := H1) (a := l2) (o := .lst (b1.map V.int))
    generalize upd H1 l2 (.lst (b1.map V.int)) = H2 at s2 e2 ⊢
    refine ⟨_, rfl, _, rfl, rfl, l2, _, rfl, SqL.of e2, fun l3 hl3 => ?_⟩
    have s3 := same_upd (o := .lst (b1.map V.int).reverse) hl3
    have e3 := upd_same (H := H2) (a := l3) (o := .lst (b1.map V.int).reverse)
    have el := s3 _ _ (s2 _ _ e1)
    have n3 : l3 ≠ l := Ne.symm (ne_of_none (s2 _ _ e1) hl3)
    generalize upd H2 l3 (.lst (b1.map V.int).reverse) = H3 at s3 e3 el ⊢
    rw [← List.map_reverse] at e3
    have sA := (s1.trans s2).trans s3
    have cnt : ∀ v : Int, (b1.filter fun z => decide (v ≤ z)).length ≤ (a1.filter fun z => decide (v ≤ z)).length := fun v => by rw [(pb.filter _).length_eq, (pa.filter _).length_eq]; exact hall v
    refine ⟨l3, rfl, ⟨_, SqL.of (by rw [List.map_reverse] at e3; exact e3)⟩, for_list (K := K) (a := l3) (xs := b1.reverse.map V.int) (fun i σ Hi => ∃ v, σ = [some (.ref a), some (.ref b), some (.ref l), v] ∧ Same H Hi ∧ Hi l3 = some (.lst (b1.reverse.map V.int)) ∧ Hi l = some (.lst ((a1.take (a1.length - i)).map V.int)) ∧ i ≤ b1.length)
      ⟨_, rfl, sA, e3, by rw [Nat.sub_zero, List.take_length]; exact el, Nat.zero_le _⟩ (fun i σ Hi _ ⟨_, _, _, h, _⟩ => SqL.of h) ?_ ?_⟩
    · rintro i x σ Hi hx ⟨v, rfl, si, h3, hl', hi⟩
      obtain ⟨z, hz, rfl⟩ := int_at hx
      have hil : i < b1.length := by have := (List.getElem?_eq_some_iff.mp hz).1; rw [List.length_reverse] at this; exact this
      rw [List.getElem?_reverse hil] at hz
      obtain ⟨ha1, y, hy, hge⟩ := top_ge wa (Nat.le_trans (cnt_top wb hil hz) (cnt z))
      have hlen : (a1.take (a1.length - i)).length = a1.length - i := by rw [List.length_take]; omega
      have hlast : atI ((a1.take (a1.length - i)).map V.int) (-1) = some (.int y) := by
        unfold atI ixN
        rw [List.length_map, hlen, if_neg (by decide), if_pos (by omega), show (-1 + ((a1.length - i : Nat) : Int)).toNat = a1.length - 1 - i by omega]
        show ((a1.take (a1.length - i)).map V.int)[a1.length - 1 - i]? = _
        rw [List.getElem?_map, List.getElem?_take_of_lt (by omega), hy]; rfl
      refine gN ?_
      refine ⟨_, rfl, l, _, rfl, .inl (SqL.of hl'), rfl, _, rfl, iteFe (by rw [List.length_map, hlen]; exact decide_eq_false (fun z => by have := V.int.inj z; omega)) ?_⟩
      refine ⟨_, rfl, _, rfl, l, _, _, _, rfl, rfl, SqL.of hl', hlast, _, rfl, _, _, rfl, rfl, _, rfl, iteFe (decide_eq_false (by omega)) ?_⟩
      refine ⟨_, rfl, .inl ⟨rfl, _, SqL.of hl'⟩, l, _, .int y, rfl, rfl, hl', ?_, ?_⟩
      · rw [List.length_map, hlen, List.getElem?_map, List.getElem?_take_of_lt (by omega), show a1.length - i - 1 = a1.length - 1 - i by omega, hy]; rfl
      · refine ⟨_, rfl, same_put si hl, by rw [upd_ne n3]; exact h3, ?_, by omega⟩
        rw [upd_same]
        congr 2
        rw [← List.map_dropLast]
        congr 1
        rw [List.dropLast_eq_take, hlen, List.take_take]
        congr 1; omega
    · rintro σ Hi ⟨v, rfl, si, _⟩
      exact q Hi si
end
end Pw

set_option Elab.async false
set_option linter.all false
set_option maxRecDepth 100000
set_option maxHeartbeats 4000000
namespace Pw
open PySem L2
section
variable {P : Program} {w : World} {K : PySem.W.Frag} {mg : Str → Option Value} {base : Heap}
/-- _law_right(found, sizes, parcels) -/
def spRight6 (K : PySem.W.Frag) : Sp := fun vs H Q _ => ∃ (D a b l : Addr) (sz ps tk : List Int) (bd : Int), vs = [.ref D, .ref a, .ref b] ∧ SqL K H a (sz.map V.int) ∧ SqL K H b (ps.map V.int) ∧ sz.length ≤ 8 ∧ ps.length ≤ 12 ∧ allNum ps = true ∧ H D = some (.tup [.int tk.length, .ref l, .int bd]) ∧ H l = some (.lst (tk.map V.int)) ∧ Most sz ps tk bd ∧ ∀ H', Same H H' → Q (.bl true) H'
theorem most_few {sz ps tk : List Int} {bd : Int} (M : Most sz ps tk bd) (h : allNum ps = true) : tk.length ≤ sz.length := by
  have h1 := M.hall 1
  have e : ((tk.map fun k => ps.getD k.toNat 0).filter fun z => decide (1 ≤ z)) = tk.map fun k => ps.getD k.toNat 0 := by
    rw [List.filter_eq_self]
    intro z hz
    obtain ⟨k, hk, rfl⟩ := List.mem_map.mp hz
    have hm := M.mem k hk
    refine decide_eq_true ?_
    have hl : k.toNat < ps.length := by omega
    rw [List.getD_eq_getElem?_getD, List.getElem?_eq_getElem hl]
    exact (allNum_at h (List.getElem_mem hl)).1
  rw [e, List.length_map] at h1
  exact Nat.le_trans h1 (List.length_filter_le _ _)
theorem filt_snoc6 {p : Int → Bool} {xs : List Int} {i : Nat} {x : Int} (h : xs[i]? = some x) : (xs.take (i + 1)).filter p = (xs.take i).filter p ++ (if p x = true then [x] else []) := by
  have hi := (List.getElem?_eq_some_iff.mp h).1
  have e := (List.getElem?_eq_some_iff.mp h).2
  rw [List.take_succ_eq_append_getElem hi, e, List.filter_append]
  cases hv : p x
  · rw [if_neg Bool.false_ne_true]; simp [hv]
  · rw [if_pos rfl]; simp [hv]
theorem at_place {ps : List Int} {z : Int} (h0 : 0 ≤ z) (h1 : z < ps.length) : atI (ps.map V.int) z = some (.int (ps.getD z.toNat 0)) := by
  have hl' : z.toNat < ps.length := by omega
  have : atI (ps.map V.int) ((z.toNat : Nat) : Int) = some (.int (ps.getD z.toNat 0)) := atI_nat (by rw [List.getElem?_map, List.getElem?_eq_getElem hl', List.getD_eq_getElem?_getD, List.getElem?_eq_getElem hl']; rfl)
  rwa [show ((z.toNat : Nat) : Int) = z by omega] at this
theorem scRight : FnScope ["found", "sizes", "parcels", "places", "lesser"] ["found", "sizes", "parcels"] (defScope s__law_right) := ⟨rfl, rfl, rfl, by decide +kernel, rfl, by decide +kernel, by decide +kernel⟩
theorem ok_right6 {f fW fR fF : Addr} {fd fdW fdR fdF : FuncData} (F : Fun K "_law_right" "_law_right" s__law_right f fd) (gW : Gd P w K mg base "_law_whole" s__law_whole ["found"] CX0 1 spWhole fW fdW) (gR : Gd P w K mg base "_law_row" s__law_row ["found", "due"] CX0 2 (spRow K) fR fdR) (gF : Gd P w K mg base "_law_fits" s__law_fits ["sizes", "parcels"] CX0 1 (spFits6 K) fF fdF)
    (misinstance : mg "isinstance" = none) (mtuple : mg "tuple" = none) (mlist : mg "list" = none) (mlen : mg "len" = none) (mset : mg "set" = none) (msorted : mg "sorted" = none)
    (k1 : PySem.W.kitOne K (.type "tuple") (.type "tuple") = some true) (k2 : PySem.W.kitOne K (.type "list") (.type "list") = some true) : FnOk P w K mg base CX0 3 f fd ["found", "sizes", "parcels"] (spRight6 K) := by
  refine F.ok scRight (fun vs H Q E h => ?_) (fun cdv A outer s H vs Q E hr h => ?_)
  · obtain ⟨D, a, b, l, sz, ps, tk, bd, rfl, _⟩ := h
    rfl
  · obtain ⟨D, a, b, l, sz, ps, tk, bd, rfl, ha, hb, hz, hp, hall, hD, hl, M, q⟩ := h
    have hr1 : Room 1 _ := hr.mono (by decide)
    have hr2 : Room 2 _ := hr
    have hline : (63 : Nat) < sizeLine := by decide
    have few := most_few M hall
    refine ⟨_, (pss_cons (ps_if (pw_or (pt_not (pt_val (pe_callB (call_isiB (K := K) rfl) (by rfl) misinstance PyProof.Rows.boot_isinstance (pa_cons (pv 0) (pa_cons (pe_bltn (v := .ty "tuple") (by rfl) mtuple (by decide +kernel) rfl) pa_nil))))) (pw_or (pt_cmpR op_ne (pe_callB call_len_seq (by rfl) mlen PySem.boot_len (pa_cons (pv 0) pa_nil)) pe_int (nomark _)) (pw_or (pt_not (pt_val (pe_call gW.G hr1 (by rfl) gW.m gW.F.kp gW.b .nil pass0 (pa_cons (pe_ix ix_tup (pv 0) pe_int (fun _ _ => rfl)) pa_nil)))) (pw_or1 (pt_not (pt_val (pe_call gW.G hr1 (by rfl) gW.m gW.F.kp gW.b .nil pass0 (pa_cons (pe_ix ix_tup (pv 0) pe_int (fun _ _ => rfl)) pa_nil)))))))).pt (pss_one (ps_ret pe_bl)) pss_nil)
      (pss_cons (ps_set (i := 3) scRight.nd rfl (Or.inl rfl) (pe_ix ix_tup (pv 0) pe_int (fun _ _ => rfl)))
      (pss_cons (ps_if (pw_or (pt_not (pt_val (pe_callB (call_isiB (K := K) rfl) (by rfl) misinstance PyProof.Rows.boot_isinstance (pa_cons (pv 3) (pa_cons (pe_bltn (v := .ty "list") (by rfl) mlist (by decide +kernel) rfl) pa_nil))))) (pw_or (pt_cmpR op_ne (pe_callB call_len_seq (by rfl) mlen PySem.boot_len (pa_cons (pv 3) pa_nil)) (pe_ix ix_tup (pv 0) pe_int (fun _ _ => rfl)) (nomark _)) (pw_or1 (pt_not (pt_val (pe_call gR.G hr2 (by rfl) gR.m gR.F.kp gR.b .nil pass0 (pa_cons (pv 3) (pa_cons (pe_sortSet rfl (by rfl) msorted (by rfl) mset (pa_cons (pv 3) pa_nil)) pa_nil)))))))).pt (pss_one (ps_ret pe_bl)) pss_nil)
      (pss_cons (ps_if (pw_and (pt_cmpR op_gt (pe_callB call_len_seq (by rfl) mlen PySem.boot_len (pa_cons (pv 3) pa_nil)) pe_int (nomark _)) (pw_and1 (pw_or (pt_cmpR op_lt (pe_ix ix_list (pv 3) pe_int (fun _ _ => rfl)) pe_int (nomark _)) (pw_or1 (pt_cmpR op_ge (pe_ix ix_list (pv 3) (pe_un un_neg pe_int) (fun _ _ => rfl)) (pe_callB call_len_seq (by rfl) mlen PySem.boot_len (pa_cons (pv 2) pa_nil)) (nomark _)))).pt)).pt (pss_one (ps_ret pe_bl)) pss_nil)
      (pss_cons (ps_if (pw_or (pt_not (pt_val (pe_call gF.G hr1 (by rfl) gF.m gF.F.kp gF.b .nil pass0 (pa_cons (pv 1) (pa_cons (pe_comp (N := ["k", "parcels"]) (src := [none, some 2]) rfl (blk (osc := defScope s__law_right) (oN := ["found", "sizes", "parcels", "places", "lesser"]) rfl rfl (by decide +kernel)) (pi_list (pv 3)) (fun C s₀ H₀ ex pn => pg_name (i := 0) (show (["k", "parcels"] : List Str).Nodup by decide +kernel) rfl (Or.inl rfl) (Or.inr rfl)) (fun C s₀ H₀ ex pn => pts_nil) (fun C s₀ H₀ ex pn => (pe_ixB (K := K) rfl (pv 1) (pv 0) (fun _ _ => rfl)))) pa_nil))))) (pw_or (pt_cmpR op_lt (pe_ix ix_tup (pv 0) pe_int (fun _ _ => rfl)) pe_int (nomark _)) (pw_or1 (pt_cmpR op_gt (pe_ix ix_tup (pv 0) pe_int (fun _ _ => rfl)) pe_int (nomark _))))).pt (pss_one (ps_ret pe_bl)) pss_nil)
      (pss_cons (ps_set (i := 4) scRight.nd rfl (Or.inl rfl) (pe_callB call_len_seq (by rfl) mlen PySem.boot_len (pa_cons (pe_comp (N := ["size", "found"]) (src := [none, some 0]) rfl (blk (osc := defScope s__law_right) (oN := ["found", "sizes", "parcels", "places", "lesser"]) rfl rfl (by decide +kernel)) (pi_list (pv 2)) (fun C s₀ H₀ ex pn => pg_name (i := 0) (show (["size", "found"] : List Str).Nodup by decide +kernel) rfl (Or.inl rfl) (Or.inr rfl)) (fun C s₀ H₀ ex pn => pts_one (pt_cmpR op_lt (pv 0) (pe_ixTB (K := K) rfl (pv 1) pe_int (fun _ _ => rfl)) (nomark _))) (fun C s₀ H₀ ex pn => (pv 0))) pa_nil)))
      (pss_one (ps_ret (pe_cmpR op_eq (pe_op op_add (pv 4) (pe_callB call_len_seq (by rfl) mlen PySem.boot_len (pa_cons (pe_comp (N := ["size", "found"]) (src := [none, some 0]) rfl (blk (osc := defScope s__law_right) (oN := ["found", "sizes", "parcels", "places", "lesser"]) rfl rfl (by decide +kernel)) (pi_list (pv 1)) (fun C s₀ H₀ ex pn => pg_name (i := 0) (show (["size", "found"] : List Str).Nodup by decide +kernel) rfl (Or.inl rfl) (Or.inr rfl)) (fun C s₀ H₀ ex pn => pts_one (pt_cmpR op_ge (pv 0) (pe_ixTB (K := K) rfl (pv 1) pe_int (fun _ _ => rfl)) (nomark _))) (fun C s₀ H₀ ex pn => (pv 0))) pa_nil))) (pe_ix ix_tup (pv 0) pe_int (fun _ _ => rfl)) (nomark _)))))))))), ?_⟩
    try dsimp only [cxOf]
    refine ⟨_, rfl, _, _, _, _, rfl, .of (.tup hD), (by intro z; cases z), k1, _, rfl, iteF ?_⟩
    refine ⟨_, rfl, D, _, rfl, .inr (SqT.of hD), rfl, _, rfl, iteFe (by rfl) ?_⟩
    refine ⟨_, rfl, D, _, _, _, rfl, rfl, SqT.of hD, atI_nat (j := 0) rfl, _, rfl, _, rfl, iteF ?_⟩
    refine ⟨_, rfl, D, _, _, _, rfl, rfl, SqT.of hD, atI_nat (j := 2) rfl, _, rfl, _, rfl, iteF ?_⟩
    refine ⟨_, rfl, D, _, _, _, rfl, rfl, SqT.of hD, atI_nat (j := 1) rfl, ?_⟩
    refine ⟨_, rfl, _, _, _, _, rfl, .of (.lst hl), (by intro z; cases z), k2, _, rfl, iteF ?_⟩
    refine ⟨_, rfl, l, _, rfl, .inl (SqL.of hl), _, rfl, D, _, _, _, rfl, rfl, SqT.of hD, atI_nat (j := 0) rfl, rfl, _, rfl, iteFe (by rw [List.length_map]; simp) ?_⟩
    refine ⟨_, rfl, _, rfl, l, tk, rfl, SqL.of hl, M.up, (fun z hz' => by have := M.mem z hz'; omega), by omega, fun r hr' => ?_⟩
    have s1 := same_upd (o := .lst (tk.map V.int)) hr'
    have e1 := upd_same (H := H) (a := r) (o := .lst (tk.map V.int))
    generalize upd H r (.lst (tk.map V.int)) = H1 at s1 e1 ⊢
    refine ⟨l, r, tk, rfl, s1 _ _ hl, SqL.of e1, (by omega), _, rfl, iteF ?_⟩
    refine seq_gen fun U hU => ?_
    subst hU
    dsimp only
    refine seq_gen fun U hU => ?_
    have l1 := s1 _ _ hl
    have d1 := s1 _ _ hD
    have key : U { nx := fun _ H' => Q V.non H', rt := Q } [some (.ref D), some (.ref a), some (.ref b), some (.ref l), none] H1 := by
      subst hU
      have hbS := s1.seq hb
      refine ⟨_, rfl, _, rfl, l, rfl, ⟨_, SqL.of l1⟩, fun L hL => ?_⟩
      refine comp_list (K := K) (a := l) (src := [none, some 2]) (xs := tk.map V.int) (fun i σ1 H2 => (∃ u, σ1 = [u, some (.ref b)]) ∧ H2 = upd H1 L (.lst (((tk.take i).map fun k => ps.getD k.toNat 0).map V.int)) ∧ i ≤ tk.length) ⟨⟨none, rfl⟩, rfl, Nat.zero_le _⟩ ?_ ?_ ?_
      · rintro i σ1 H2 _ ⟨_, rfl, _⟩
        exact (same_upd hL).seq (SqL.of l1)
      · rintro i x σ1 H2 hx ⟨⟨u, rfl⟩, rfl, hi⟩
        obtain ⟨z, hz', rfl⟩ := int_at hx
        have hil := (List.getElem?_eq_some_iff.mp hz').1
        have hm := M.mem z (List.mem_of_getElem? hz')
        refine gN ?_
        refine tT ?_
        refine ⟨_, rfl, _, rfl, b, _, _, _, rfl, rfl, (same_upd hL).seq hbS, at_place hm.1 hm.2, _, upd_same, ?_, ⟨_, rfl⟩, ?_, hil⟩
        · rw [List.length_map, List.length_map, List.length_take]; omega
        · have e := (List.getElem?_eq_some_iff.mp hz').2
          rw [upd_upd, List.take_succ_eq_append_getElem hil, e, List.map_append, List.map_append]
          rfl
      · rintro σ1 H2 ⟨_, rfl, _⟩
        rw [show (tk.map V.int).length = tk.length from List.length_map .., List.take_length]
        have s2 := same_upd (o := .lst ((tk.map fun k => ps.getD k.toNat 0).map V.int)) hL
        have e2 := upd_same (H := H1) (a := L) (o := .lst ((tk.map fun k => ps.getD k.toNat 0).map V.int))
        generalize upd H1 L (.lst ((tk.map fun k => ps.getD k.toNat 0).map V.int)) = H2 at s2 e2 ⊢
        have sA := s1.trans s2
        refine ⟨a, L, sz, _, rfl, sA.seq ha, SqL.of e2, by omega, by rw [List.length_map]; omega, M.hall, fun H3 s3 => ⟨_, rfl, iteF ?_⟩⟩
        have sB := sA.trans s3
        have d3 := sB _ _ hD
        have b1 := M.b1
        have b10 := M.b10
        refine ⟨_, rfl, D, _, _, _, rfl, rfl, SqT.of d3, atI_nat (j := 2) rfl, _, _, rfl, rfl, _, rfl, iteFe (decide_eq_false (by omega)) ?_⟩
        refine ⟨_, rfl, D, _, _, _, rfl, rfl, SqT.of d3, atI_nat (j := 2) rfl, _, _, rfl, rfl, _, rfl, iteFe (decide_eq_false (by omega)) ?_⟩
        refine ⟨_, rfl, b, rfl, ⟨_, sB.seq hb⟩, fun L2 hL2 => ?_⟩
        refine comp_list (K := K) (a := b) (src := [none, some 0]) (xs := ps.map V.int) (fun i σ1 H4 => (∃ u, σ1 = [u, some (.ref D)]) ∧ H4 = upd H3 L2 (.lst (((ps.take i).filter fun z => decide (z < bd)).map V.int)) ∧ i ≤ ps.length) ⟨⟨none, rfl⟩, rfl, Nat.zero_le _⟩ ?_ ?_ ?_
        · rintro i σ1 H4 _ ⟨_, rfl, _⟩
          exact (same_upd hL2).seq (sB.seq hb)
        · rintro i x σ1 H4 hx ⟨⟨u, rfl⟩, rfl, hi⟩
          obtain ⟨z, hz', rfl⟩ := int_at hx
          have hil := (List.getElem?_eq_some_iff.mp hz').1
          refine gN ?_
          refine ⟨_, rfl, _, rfl, D, _, _, _, rfl, rfl, SqT.of (same_upd hL2 _ _ d3), atI_nat (j := 2) rfl, _, _, rfl, rfl, _, rfl, ite2 (fun h => ?_) (fun h => ?_)⟩
          · refine ⟨_, rfl, _, upd_same, ?_, ⟨_, rfl⟩, ?_, hil⟩
            · rw [List.length_map]; exact Nat.lt_of_le_of_lt (Nat.le_trans (List.length_filter_le _ _) (by rw [List.length_take]; omega)) hline
            · rw [upd_upd, filt_snoc6 hz', if_pos h, List.map_append]; rfl
          · exact ⟨⟨_, rfl⟩, (by rw [filt_snoc6 hz', if_neg h, List.append_nil]), hil⟩
        · rintro σ1 H4 ⟨_, rfl, _⟩
          rw [show (ps.map V.int).length = ps.length from List.length_map .., List.take_length]
          have s4 := same_upd (o := .lst ((ps.filter fun z => decide (z < bd)).map V.int)) hL2
          have e4 := upd_same (H := H3) (a := L2) (o := .lst ((ps.filter fun z => decide (z < bd)).map V.int))
          generalize upd H3 L2 (.lst ((ps.filter fun z => decide (z < bd)).map V.int)) = H4 at s4 e4 ⊢
          have sC := sB.trans s4
          have d4 := sC _ _ hD
          refine ⟨L2, _, rfl, .inl (SqL.of e4), ?_⟩
          refine ⟨_, rfl, _, rfl, a, rfl, ⟨_, sC.seq ha⟩, fun L3 hL3 => ?_⟩
          refine comp_list (K := K) (a := a) (src := [none, some 0]) (xs := sz.map V.int) (fun i σ1 H5 => (∃ u, σ1 = [u, some (.ref D)]) ∧ H5 = upd H4 L3 (.lst (((sz.take i).filter fun z => decide (bd ≤ z)).map V.int)) ∧ i ≤ sz.length) ⟨⟨none, rfl⟩, rfl, Nat.zero_le _⟩ ?_ ?_ ?_
          · rintro i σ1 H5 _ ⟨_, rfl, _⟩
            exact (same_upd hL3).seq (sC.seq ha)
          · rintro i x σ1 H5 hx ⟨⟨u, rfl⟩, rfl, hi⟩
            obtain ⟨z, hz', rfl⟩ := int_at hx
            have hil := (List.getElem?_eq_some_iff.mp hz').1
            refine gN ?_
            refine ⟨_, rfl, _, rfl, D, _, _, _, rfl, rfl, SqT.of (same_upd hL3 _ _ d4), atI_nat (j := 2) rfl, _, _, rfl, rfl, _, rfl, ite2 (fun h => ?_) (fun h => ?_)⟩
            · refine ⟨_, rfl, _, upd_same, ?_, ⟨_, rfl⟩, ?_, hil⟩
              · rw [List.length_map]; exact Nat.lt_of_le_of_lt (Nat.le_trans (List.length_filter_le _ _) (by rw [List.length_take]; omega)) hline
              · rw [upd_upd, filt_snoc6 hz', if_pos h, List.map_append]; rfl
            · exact ⟨⟨_, rfl⟩, (by rw [filt_snoc6 hz', if_neg h, List.append_nil]), hil⟩
          · rintro σ1 H5 ⟨_, rfl, _⟩
            rw [show (sz.map V.int).length = sz.length from List.length_map .., List.take_length]
            have cnt := M.cnt
            have qq := q _ (sC.trans (same_upd (o := .lst ((sz.filter fun z => decide (bd ≤ z)).map V.int)) hL3))
            refine ⟨L3, _, rfl, .inl (SqL.of upd_same), _, _, rfl, rfl, _, rfl, D, _, _, _, rfl, rfl, SqT.of (same_upd hL3 _ _ d4), atI_nat (j := 0) rfl, ?_⟩
            dsimp only
            rw [List.length_map, List.length_map, show (((ps.filter fun z => decide (z < bd)).length : Int) + ((sz.filter fun z => decide (bd ≤ z)).length : Int)) = (tk.length : Int) by omega]
            refine ⟨rfl, ?_⟩
            rw [decide_eq_true rfl]
            exact qq
    refine ⟨_, rfl, l, _, rfl, .inl (SqL.of l1), _, _, rfl, rfl, _, rfl, ite2 (fun c => ?_) (fun c => key)⟩
    have h0 : 0 < tk.length := by have := of_decide_eq_true c; rw [List.length_map] at this; omega
    have m0 := M.mem tk[0] (List.getElem_mem h0)
    have hn : tk.length - 1 < tk.length := by omega
    have mn := M.mem tk[tk.length - 1] (List.getElem_mem hn)
    have hlast : atI (tk.map V.int) (-1) = some (.int tk[tk.length - 1]) := by
      unfold atI ixN
      rw [List.length_map, if_neg (by decide), if_pos (by omega), show (-1 + (tk.length : Int)).toNat = tk.length - 1 by omega]
      show (tk.map V.int)[tk.length - 1]? = _
      rw [List.getElem?_map, List.getElem?_eq_getElem hn]; rfl
    refine ⟨_, rfl, l, _, _, _, rfl, rfl, SqL.of l1, atI_nat (j := 0) (by rw [List.getElem?_map, List.getElem?_eq_getElem h0]; rfl), _, _, rfl, rfl, _, rfl, iteFe (decide_eq_false (by omega)) ?_⟩
    refine ⟨_, rfl, _, rfl, l, _, _, _, rfl, rfl, SqL.of l1, hlast, _, rfl, b, _, rfl, .inl (s1.seq hb), _, _, rfl, rfl, _, rfl, iteFe (decide_eq_false (by rw [List.length_map]; omega)) key⟩
end
end Pw

set_option Elab.async false
set_option linter.all false
set_option maxRecDepth 100000
set_option maxHeartbeats 4000000
namespace Pw
open PySem L2
section
variable {P : Program} {w : World} {K : PySem.W.Frag} {mg : Str → Option Value} {base : Heap}
theorem erase_len {a : Int} : ∀ {R : List Int}, a ∈ R → (R.erase a).length + 1 = R.length := fun {R} h => by
  have := List.length_erase_of_mem h
  have : 0 < R.length := List.length_pos_of_mem h
  omega
theorem nodup_le : ∀ {L R : List Int}, L.Nodup → (∀ x ∈ L, x ∈ R) → L.length ≤ R.length
  | [], _, _, _ => Nat.zero_le _
  | a :: L, R, hn, hs => by
    have ha := hs a (List.mem_cons_self ..)
    have hn' := List.nodup_cons.mp hn
    have := nodup_le (L := L) (R := R.erase a) hn'.2 fun x hx => (List.mem_erase_of_ne (fun e => hn'.1 (by rw [← e]; exact hx))).mpr (hs x (List.mem_cons_of_mem _ hx))
    have := erase_len ha
    rw [List.length_cons]
    omega
theorem hall_of_boxes {sz ps ch : List Int} (B : Boxes sz ps ch) (v : Int) : (ps.filter fun z => decide (v ≤ z)).length ≤ (sz.filter fun z => decide (v ≤ z)).length := by
  obtain ⟨h1, h2, h3⟩ := B
  have e1 : (ps.filter fun z => decide (v ≤ z)).length = (((ch.zip ps).filter fun p => decide (v ≤ p.2)).map Prod.fst).length := by
    rw [List.length_map]
    have : ps = (ch.zip ps).map Prod.snd := (List.map_snd_zip (by omega)).symm
    conv => lhs; rw [this, List.filter_map, List.length_map]
    rfl
  have e2 : (sz.filter fun z => decide (v ≤ z)).length = (((List.range sz.length).map fun i : Nat => (i : Int)).filter fun x => decide (v ≤ sz.getD x.toNat 0)).length := by
    conv => lhs; rw [← by_places sz, List.filter_map, List.length_map]
    rfl
  rw [e1, e2]
  refine nodup_le ?_ fun x hx => ?_
  · refine List.Nodup.sublist ?_ (show ch.Nodup from h2)
    have : List.Sublist (((ch.zip ps).filter fun p => decide (v ≤ p.2)).map Prod.fst) ((ch.zip ps).map Prod.fst) := List.filter_sublist.map _
    rw [List.map_fst_zip (by omega)] at this
    exact this
  · obtain ⟨⟨b, z⟩, hp, rfl⟩ := List.mem_map.mp hx
    obtain ⟨hm, hv⟩ := List.mem_filter.mp hp
    obtain ⟨k, hk, e⟩ := List.mem_iff_getElem.mp hm
    rw [List.length_zip] at hk
    rw [List.getElem_zip] at e
    have ec : ch[k]? = some b := by rw [List.getElem?_eq_getElem (by omega)]; exact congrArg (fun p => some p.1) e
    have ez : ps[k]? = some z := by rw [List.getElem?_eq_getElem (by omega)]; exact congrArg (fun p => some p.2) e
    obtain ⟨g1, g2, g3⟩ := h3 k b z ec ez
    have hv := of_decide_eq_true hv
    refine List.mem_filter.mpr ⟨List.mem_map.mpr ⟨b.toNat, List.mem_range.mpr (by omega), by show ((b.toNat : Nat) : Int) = b; omega⟩, decide_eq_true ?_⟩
    have hv' : v ≤ z := hv
    show v ≤ sz.getD b.toNat 0
    omega
theorem places_in {n : Nat} {tk : List Int} (hm : ∀ x ∈ tk, 0 ≤ x ∧ x < n) : ∀ x ∈ tk, x ∈ (List.range n).map fun i : Nat => (i : Int) := fun x hx => by
  have := hm x hx
  exact List.mem_map.mpr ⟨x.toNat, List.mem_range.mpr (by omega), by show ((x.toNat : Nat) : Int) = x; omega⟩
theorem Most.nodup {sz ps tk : List Int} {bd : Int} (M : Most sz ps tk bd) : tk.Nodup := List.nodup_iff_pairwise_ne.mpr (M.up.imp fun h => Int.ne_of_lt h)
theorem Most.le {sz ps tk : List Int} {bd : Int} (M : Most sz ps tk bd) : tk.length ≤ ps.length := by
  have := nodup_le M.nodup (places_in M.mem)
  rw [List.length_map, List.length_range] at this
  exact this
theorem split_at (bd : Int) : ∀ ps : List Int, (ps.filter fun z => decide (z < bd)).length + (ps.filter fun z => decide (bd ≤ z)).length = ps.length
  | [] => rfl
  | z :: ps => by
    have ih := split_at bd ps
    rw [List.filter_cons, List.filter_cons, List.length_cons]
    by_cases h : z < bd
    · rw [if_pos (decide_eq_true h), if_neg (by rw [decide_eq_true_eq]; omega), List.length_cons]; omega
    · rw [if_neg (by rw [decide_eq_true_eq]; exact h), if_pos (decide_eq_true (by omega)), List.length_cons]; omega
/-- where fit gives each a box, all are taken -/
theorem Most.boxes {sz ps tk ch : List Int} {bd : Int} (M : Most sz ps tk bd) (B : Boxes sz ps ch) : tk.length = ps.length := by
  have h1 := hall_of_boxes B bd
  have h2 := M.cnt
  have h3 := M.le
  have h4 : (ps.filter fun z => decide (z < bd)).length + (ps.filter fun z => decide (bd ≤ z)).length = ps.length := by
    exact split_at bd ps
  omega
/-- where there are too many, not all are taken -/
theorem Most.many {sz ps tk : List Int} {bd v : Int} (M : Most sz ps tk bd) (h : Many sz ps v) : tk.length ≠ ps.length := fun e => by
  have h1 := M.hall v
  have h2 := h.2.2
  have hin : ∀ x ∈ (List.range ps.length).map (fun i : Nat => (i : Int)), x ∈ tk := fun x hx => Classical.byContradiction fun hn => by
    have := nodup_le (L := x :: tk) (List.nodup_cons.mpr ⟨hn, M.nodup⟩) (R := (List.range ps.length).map fun i : Nat => (i : Int)) (fun y hy => by
      rcases List.mem_cons.mp hy with e' | hy
      · rw [e']; exact hx
      · exact places_in M.mem y hy)
    rw [List.length_cons, List.length_map, List.length_range] at this
    omega
  have e2 : (ps.filter fun z => decide (v ≤ z)).length = (((List.range ps.length).map fun i : Nat => (i : Int)).filter fun x => decide (v ≤ ps.getD x.toNat 0)).length := by
    conv => lhs; rw [← by_places ps, List.filter_map, List.length_map]
    rfl
  have e3 : ((tk.map fun k => ps.getD k.toNat 0).filter fun z => decide (v ≤ z)).length = (tk.filter fun x => decide (v ≤ ps.getD x.toNat 0)).length := by
    rw [List.filter_map, List.length_map]
    rfl
  have h5 := nodup_le (L := ((List.range ps.length).map fun i : Nat => (i : Int)).filter fun x => decide (v ≤ ps.getD x.toNat 0)) (R := tk.filter fun x => decide (v ≤ ps.getD x.toNat 0)) ?_ fun x hx => List.mem_filter.mpr ⟨hin x (List.mem_filter.mp hx).1, (List.mem_filter.mp hx).2⟩
  · omega
  · refine List.Nodup.sublist List.filter_sublist ?_
    refine List.Pairwise.map _ (fun a b h => ?_) (List.nodup_range (n := ps.length))
    omega
end
end Pw

set_option Elab.async false
set_option linter.all false
set_option maxRecDepth 100000
set_option maxHeartbeats 4000000
namespace Pw
open PySem L2
section
variable {P : Program} {w : World} {K : PySem.W.Frag} {mg : Str → Option Value} {base : Heap}
abbrev NL : List Str := ["script", "sizes", "low", "top", "parcels", "handed", "lap", "found"]
theorem scLaw : FnScope NL ["script"] (defScope s_law) := ⟨rfl, rfl, rfl, by decide +kernel, rfl, by decide +kernel, by decide +kernel⟩
theorem nlT : ∀ (xs : List V) ps, HO.lst xs ≠ .tbl ps := fun xs ps z => by cases z
theorem neTwo (xs ys : List Int) : (if true = true then !PyData.eqv (two xs ys) (two xs ys) else PyData.eqv (two xs ys) (two xs ys)) = false := by rw [if_pos rfl, two_eq]; rfl
/-- what stands through the laps -/
structure St6 (T : Tab) (H : Hp) (l1 l2 lh h1 h2 : Addr) (sz ps : List Int) : Prop where
  e1 : H l1 = some (.lst (sz.map V.int))
  e2 : H l2 = some (.lst (ps.map V.int))
  eh : H lh = some (.lst [.ref h1, .ref h2])
  c1 : H h1 = some (.lst (sz.map V.int))
  c2 : H h2 = some (.lst (ps.map V.int))
  t : T.Ok H
theorem St6.gw {T : Tab} {H H' : Hp} {l1 l2 lh h1 h2 : Addr} {sz ps : List Int} (S : St6 T H l1 l2 lh h1 h2 sz ps) (g : Gw T H H') : St6 T H' l1 l2 lh h1 h2 sz ps :=
  ⟨g.at S.t S.e1 (nlT _), g.at S.t S.e2 (nlT _), g.at S.t S.eh (nlT _), g.at S.t S.c1 (nlT _), g.at S.t S.c2 (nlT _), g.ok⟩
theorem St6.same {T : Tab} {H H' : Hp} {l1 l2 lh h1 h2 : Addr} {sz ps : List Int} (S : St6 T H l1 l2 lh h1 h2 sz ps) (s : Same H H') : St6 T H' l1 l2 lh h1 h2 sz ps := S.gw (Gw.of S.t s)
theorem body_tail {f fR fF pT cNW cNS : Addr} {fdR fdF : FuncData} {cdv : Value} {A : Around} {outer : List Env} {s : Shared} {H0 : Hp} {E : XK} (hr : Room 6 (A.deeper (PyProof.Rows.envOfC "law" (defScope s_law) s.heap.objs.size f cdv))) (hu : (A.deeper (PyProof.Rows.envOfC "law" (defScope s_law) s.heap.objs.size f cdv)).units + 60 < cLine)
    (gR : Gd P w K mg base "_law_right" s__law_right ["found", "sizes", "parcels"] CX0 3 (spRight6 K) fR fdR) (gF : Gd P w K mg base "fit" s_fit ["sizes", "parcels"] (CXF P w) 4 (spFit (tabOf pT) K cNW cNS) fF fdF) (mlen : mg "len" = none) :
    ∃ t, PSs (cxOf CX0 P w K mg base NL "law" (defScope s_law) f cdv A outer s H0 E).nox ((forBody ((defBody s_law).getD 5 (.Pass ⟨0, 0, 0, 0⟩))).drop 1) t ∧
      ∀ (D' : Ends) (sc v2 v3 : V) (v6 : Option V) (H H1 : Hp) (D l l1 l2 lh h1 h2 : Addr) (sz ps tk : List Int) (bd : Int), St6 (tabOf pT) H l1 l2 lh h1 h2 sz ps → Gw (tabOf pT) H H1 → okSizes sz = true → allNum ps = true → ps.length ≤ 12 →
        H l = none → H1 D = some (.tup [.int tk.length, .ref l, .int bd]) → H1 l = some (.lst (tk.map V.int)) → Most sz ps tk bd →
        (∀ H', St6 (tabOf pT) H' l1 l2 lh h1 h2 sz ps → D'.nx [some sc, some (.ref l1), some v2, some v3, some (.ref l2), some (.ref lh), v6, some (.ref D)] H') →
        t D' [some sc, some (.ref l1), some v2, some v3, some (.ref l2), some (.ref lh), v6, some (.ref D)] H1 := by
  have hr3 : Room 3 _ := hr.mono (by decide)
  have hr4 : Room 4 _ := hr.mono (by decide)
  refine ⟨_, (pss_cons (ps_if (pw_or (pt_not (pt_val (pe_call gR.G hr3 (by rfl) gR.m gR.F.kp gR.b .nil pass0 (pa_cons (pv 7) (pa_cons (pv 1) (pa_cons (pv 4) pa_nil)))))) (pw_or1 (pt_cmpR (op_neD hu) (pv 5) (pe_lst (pa_cons (pv 1) (pa_cons (pv 4) pa_nil))) (nomark _)))).pt (pss_one (ps_ret pe_bl)) pss_nil)
      (pss_cons (ps_if (pt_cmpR op_ne (pe_cmpR op_eq (pe_ix ix_tup (pv 7) pe_int (fun _ _ => rfl)) (pe_callB call_len_seq (by rfl) mlen PySem.boot_len (pa_cons (pv 4) pa_nil)) (nomark _)) (pe_cmpR op_eq (pe_ix ix_tup (pe_call gF.G hr4 (by rfl) gF.m gF.F.kp gF.b .nil passF (pa_cons (pe_ix ix_list (pv 5) pe_int (fun _ _ => rfl)) (pa_cons (pe_ix ix_list (pv 5) pe_int (fun _ _ => rfl)) pa_nil))) pe_int (fun _ _ => rfl)) pe_str (nomark _)) (nomark _)) (pss_one (ps_ret pe_bl)) pss_nil)
      (pss_one (ps_expr (pe_bm PySem.F.plainAttrs_list PySem.F.slot_list_append PySem.F.type_list_append mt_append (pe_ix ix_tup (pv 7) pe_int (fun _ _ => rfl)) (pa_cons pe_int pa_nil)))))), ?_⟩
  try dsimp only [cxOf]
  intro D' sc v2 v3 v6 H H1 D l l1 l2 lh h1 h2 sz ps tk bd S g hok hall hp hl0 hD hl M q
  have S1 := S.gw g
  have o2 := (okSizes_all hok).2.1
  refine ⟨_, rfl, _, rfl, _, rfl, D, l1, l2, l, sz, ps, tk, bd, rfl, SqL.of S1.e1, SqL.of S1.e2, o2, hp, hall, hD, hl, M, fun H2 s2 => ⟨_, rfl, iteF ?_⟩⟩
  have S2 := S1.same s2
  refine ⟨_, rfl, _, rfl, _, rfl, (by show 2 ≤ sizeLine; decide), fun lp hlp => ?_⟩
  have S3 := S2.same (same_upd (o := .lst [.ref l1, .ref l2]) hlp)
  refine ⟨_, _, two_dt S3.eh S3.c1 S3.c2, two_dt upd_same S3.e1 S3.e2, two_can _ _, two_can _ _, two_depth _ _, _, rfl, iteFe (neTwo _ _) ?_⟩
  have s3 := s2.trans (same_upd (o := .lst [.ref l1, .ref l2]) hlp)
  have d3 := s3 _ _ hD
  have l3 := s3 _ _ hl
  generalize upd H2 lp (.lst [.ref l1, .ref l2]) = H3 at S3 s3 d3 l3 ⊢
  have few := most_few M hall
  have fin : ∀ H4, Gw (tabOf pT) H3 H4 → tDrop (tBM K "list" rAppend (tOp (rIxT K) (tVar 7) (tC (V.int 1))) (tCons (tC (V.int 9)) tNil)) D' [some sc, some (V.ref l1), some v2, some v3, some (V.ref l2), some (V.ref lh), v6, some (V.ref D)] H4 := by
    intro H4 g4
    have S4 := S3.gw g4
    have d4 := g4.at S3.t d3 (fun ps z => by cases z)
    have l4 := g4.at S3.t l3 (nlT _)
    have n : ∀ {c : Addr} {u : HO}, H c = some u → c ≠ l := fun e => ne_of_none e hl0
    refine ⟨_, rfl, D, _, _, _, rfl, rfl, SqT.of d4, atI_nat (j := 1) rfl, .inl ⟨rfl, _, SqL.of l4⟩, l, _, _, rfl, rfl, l4, ?_, ?_⟩
    · rw [List.length_map]; exact Nat.lt_of_le_of_lt (Nat.le_trans few o2) (by decide)
    · refine q _ ⟨?_, ?_, ?_, ?_, ?_, tabOk_set S4.t l4⟩
      · rw [upd_ne (n S.e1)]; exact S4.e1
      · rw [upd_ne (n S.e2)]; exact S4.e2
      · rw [upd_ne (n S.eh)]; exact S4.eh
      · rw [upd_ne (n S.c1)]; exact S4.c1
      · rw [upd_ne (n S.c2)]; exact S4.c2
  refine ⟨_, rfl, D, _, _, _, rfl, rfl, SqT.of d3, atI_nat (j := 0) rfl, _, rfl, l2, _, rfl, .inl (SqL.of S3.e2), rfl, ?_⟩
  refine ⟨_, rfl, lh, _, _, _, rfl, rfl, SqL.of S3.eh, atI_nat (j := 0) rfl, _, rfl, lh, _, _, _, rfl, rfl, SqL.of S3.eh, atI_nat (j := 1) rfl, h1, h2, sz, ps, rfl, SqL.of S3.c1, SqL.of S3.c2, by omega, S3.t, (fun z => by rw [hok] at z; cases z), (fun _ z => by rw [hall] at z; cases z), fun _ _ => ⟨fun D2 H4 v _ e4 g4 hM => ?_, fun D2 l4 H4 ch _ _ e4 el4 g4 hB => ?_⟩⟩
  · refine ⟨D2, _, _, _, rfl, rfl, SqT.of e4, atI_nat (j := 0) rfl, rfl, rfl, _, rfl, iteFe ?_ (fin _ g4)⟩
    have e0 : decide (V.int tk.length = V.int (ps.map V.int).length) = false := decide_eq_false fun z => M.many hM (by have := V.int.inj z; rw [List.length_map] at this; omega)
    rw [e0]
    decide +kernel
  · refine ⟨D2, _, _, _, rfl, rfl, SqT.of e4, atI_nat (j := 0) rfl, rfl, rfl, _, rfl, iteFe ?_ (fin _ g4)⟩
    have e0 : decide (V.int tk.length = V.int (ps.map V.int).length) = true := decide_eq_true (by rw [List.length_map, M.boxes hB])
    rw [e0]
    decide +kernel
/-- low and top, drawn alike -/
theorem low_top {d : Int} (h1 : 0 ≤ d) (h2 : d < 3) : ∃ low top, atI [V.int 0, V.int 0, V.int 4] d = some (.int low) ∧ atI [V.int 9, V.int 4, V.int 5] d = some (.int top) ∧ 0 ≤ low ∧ 0 < top ∧ low + top ≤ 9 := by
  have : d = ((0 : Nat) : Int) ∨ d = ((1 : Nat) : Int) ∨ d = ((2 : Nat) : Int) := by omega
  rcases this with h | h | h
  · exact ⟨0, 9, by rw [h]; exact atI_nat (j := 0) rfl, by rw [h]; exact atI_nat (j := 0) rfl, by decide, by decide, by decide⟩
  · exact ⟨0, 4, by rw [h]; exact atI_nat (j := 1) rfl, by rw [h]; exact atI_nat (j := 1) rfl, by decide, by decide, by decide⟩
  · exact ⟨4, 5, by rw [h]; exact atI_nat (j := 2) rfl, by rw [h]; exact atI_nat (j := 2) rfl, by decide, by decide, by decide⟩
theorem ok_law {f fD fZ fM fF fR cNW cNS pT : Addr} {fd fdD fdZ fdM fdF fdR : FuncData} (F : Fun K "law" "law" s_law f fd) (gD : Gd P w K mg base "_law_drawn" s__law_drawn ["script", "k", "many"] CX0 1 (spDrawn K) fD fdD) (gZ : Gd P w K mg base "_law_sizes_by" s__law_sizes_by ["script", "base"] CX0 2 (spSizesBy K) fZ fdZ)
    (gM : Gd P w K mg base "most" s_most ["sizes", "parcels"] (CXF P w) 4 (spMost (tabOf pT) K cNW cNS) fM fdM) (gF : Gd P w K mg base "fit" s_fit ["sizes", "parcels"] (CXF P w) 4 (spFit (tabOf pT) K cNW cNS) fF fdF) (gR : Gd P w K mg base "_law_right" s__law_right ["found", "sizes", "parcels"] CX0 3 (spRight6 K) fR fdR) (mlist : mg "list" = none) (mrange : mg "range" = none) (mlen : mg "len" = none) : FnOk P w K mg base CX0 7 f fd ["script"] (spLawT (tabOf pT) K) := by
  refine F.ok scLaw (fun vs H Q E h => ?_) (fun cdv A outer s H vs Q E hr h => ?_)
  · obtain ⟨a, ns, rfl, _⟩ := h
    rfl
  · obtain ⟨a, ns, rfl, hS, hl, hT, q⟩ := h
    have hr1 : Room 1 _ := hr.mono (by decide)
    have hr2 : Room 2 _ := hr.mono (by decide)
    have hr4 : Room 4 _ := hr.mono (by decide)
    have hu : (A.deeper (PyProof.Rows.envOfC "law" (defScope s_law) s.heap.objs.size f cdv)).units + 60 < cLine := by have := hr.units; omega
    obtain ⟨tl, ptl, hq⟩ := body_tail (pT := pT) (f := f) (cdv := cdv) (A := A) (outer := outer) (s := s) (H0 := H) (E := E) hr hu gR gF mlen
    refine ⟨_, (pss_cons (ps_set (i := 1) scLaw.nd rfl (Or.inl rfl) (pe_call gZ.G hr2 (by rfl) gZ.m gZ.F.kp gZ.b .nil pass0 (pa_cons (pv 0) (pa_cons pe_int pa_nil))))
      (pss_cons (ps_set (i := 2) scLaw.nd rfl (Or.inr rfl) (pe_ix ix_list (pe_lst (pa_cons pe_int (pa_cons pe_int (pa_cons pe_int pa_nil)))) (pe_call gD.G hr1 (by rfl) gD.m gD.F.kp gD.b .nil pass0 (pa_cons (pv 0) (pa_cons pe_int (pa_cons pe_int pa_nil)))) (fun _ _ => rfl)))
      (pss_cons (ps_set (i := 3) scLaw.nd rfl (Or.inr rfl) (pe_ix ix_list (pe_lst (pa_cons pe_int (pa_cons pe_int (pa_cons pe_int pa_nil)))) (pe_call gD.G hr1 (by rfl) gD.m gD.F.kp gD.b .nil pass0 (pa_cons (pv 0) (pa_cons pe_int (pa_cons pe_int pa_nil)))) (fun _ _ => rfl)))
      (pss_cons (ps_setC (i := 4) scLaw.nd rfl rfl rfl (N := ["k", "low", "script", "top"]) (src := [none, some 2, some 0, some 3]) (blk (osc := defScope s_law) (oN := ["script", "sizes", "low", "top", "parcels", "handed", "lap", "found"]) rfl rfl (by decide +kernel)) (pi_range1 (by rfl) mrange (pa_cons (pe_call gD.G hr1 (by rfl) gD.m gD.F.kp gD.b .nil pass0 (pa_cons (pv 0) (pa_cons pe_int (pa_cons pe_int pa_nil)))) pa_nil)) (fun C s₀ H₀ ex pn => pg_name (i := 0) (show (["k", "low", "script", "top"] : List Str).Nodup by decide +kernel) rfl (Or.inl rfl) (Or.inr rfl)) (fun C s₀ H₀ ex pn => pts_nil) (fun C s₀ H₀ ex pn => (pe_op op_add (pe_op op_add pe_int (pv 1)) (pe_call gD.G hr1 (by rfl) gD.m gD.F.kp gD.b .nil pass0 (pa_cons (pv 2) (pa_cons (pe_op op_add pe_int (pv 0)) (pa_cons (pv 3) pa_nil)))))))
      (pss_cons (ps_set (i := 5) scLaw.nd rfl (Or.inl rfl) (pe_lst (pa_cons (pe_callTy call_list_of (by rfl) mlist boot_listT (pa_cons (pv 1) pa_nil)) (pa_cons (pe_callTy call_list_of (by rfl) mlist boot_listT (pa_cons (pv 4) pa_nil)) pa_nil))))
      (pss_cons (ps_for PassesOwn.never rfl (pi_range1 (by rfl) mrange (pa_cons pe_int pa_nil)) (pg_name (i := 6) scLaw.nd rfl (Or.inl rfl)) (pss_cons (ps_set (i := 7) scLaw.nd rfl (Or.inl rfl) (pe_call gM.G hr4 (by rfl) gM.m gM.F.kp gM.b .nil passF (pa_cons (pe_ix ix_list (pv 5) pe_int (fun _ _ => rfl)) (pa_cons (pe_ix ix_list (pv 5) pe_int (fun _ _ => rfl)) pa_nil))))
      ptl))
      (pss_one (ps_ret (pe_cmpR (op_eqD hu) (pv 5) (pe_lst (pa_cons (pv 1) (pa_cons (pv 4) pa_nil))) (nomark _)))))))))), ?_⟩
    try dsimp only [cxOf]
    refine ⟨_, rfl, a, ns, 0, rfl, hS, hl, by decide, by decide, fun sz hsz l1 H1 _ s1 e1 => ?_⟩
    have o1 := (okSizes_all hsz).1
    have o2 := (okSizes_all hsz).2.1
    have o3 := (okSizes_all hsz).2.2
    obtain ⟨low, top, hlow, htop, b1, b2, b3⟩ := low_top (drawn_lo ns 100 (many := 3) (by decide)) (drawn_hi ns 100 (many := 3) (by decide))
    refine ⟨(by show 3 ≤ sizeLine; decide), fun L hL => ?_⟩
    have s2 := s1.trans (same_upd (o := .lst [.int 0, .int 0, .int 4]) hL)
    refine ⟨_, rfl, a, ns, 100, 3, rfl, s2.seq hS, hl, by decide, by decide, by decide, by decide, L, _, _, _, rfl, rfl, SqL.of upd_same, hlow, ?_⟩
    refine ⟨(by show 3 ≤ sizeLine; decide), fun L2 hL2 => ?_⟩
    have s3 := s2.trans (same_upd (o := .lst [.int 9, .int 4, .int 5]) hL2)
    have e3 := same_upd (o := .lst [.int 9, .int 4, .int 5]) hL2 _ _ (same_upd (o := .lst [.int 0, .int 0, .int 4]) hL _ _ e1)
    refine ⟨_, rfl, a, ns, 100, 3, rfl, s3.seq hS, hl, by decide, by decide, by decide, by decide, L2, _, _, _, rfl, rfl, SqL.of upd_same, htop, ?_⟩
    generalize upd (upd H1 L (.lst [.int 0, .int 0, .int 4])) L2 (.lst [.int 9, .int 4, .int 5]) = H2 at s3 e3 ⊢
    have d1 := drawn_lo ns 101 (many := 13) (by decide)
    have d2 := drawn_hi ns 101 (many := 13) (by decide)
    have hline : (63 : Nat) < sizeLine := by decide
    refine ⟨_, rfl, a, ns, 101, 13, rfl, s3.seq hS, hl, by decide, by decide, by decide, by decide, ?_⟩
    generalize drawn ns 101 13 = d at d1 d2 ⊢
    refine ⟨_, rfl, (by omega), (by omega), fun D hD => ?_⟩
    refine comp_range (lo := 0) (n := d.toNat) (src := [none, some 2, some 0, some 3]) (fun i σ1 H3 => (∃ v, σ1 = [v, some (.int low), some (.ref a), some (.int top)]) ∧ Same H2 H3 ∧ (∃ ps : List Int, H3 = upd H2 D (.lst (ps.map V.int)) ∧ ps.length = i ∧ allNum ps = true) ∧ i ≤ 12)
      ⟨⟨none, rfl⟩, same_upd hD, ⟨[], rfl, rfl, rfl⟩, Nat.zero_le _⟩ ?_ ?_
    · rintro i σ1 H3 hi ⟨⟨v, rfl⟩, s4, ⟨ps, rfl, hpl, hpa⟩, _⟩
      refine gN ?_
      refine tT ?_
      have x1 := drawn_lo ns (110 + (0 + (i : Int))) (many := top) b2
      have x2 := drawn_hi ns (110 + (0 + (i : Int))) (many := top) b2
      refine ⟨_, rfl, _, _, rfl, rfl, _, rfl, _, rfl, _, _, rfl, rfl, _, rfl, a, ns, 110 + (0 + (i : Int)), top, rfl, (s3.trans s4).seq hS, hl, by omega, by omega, b2, by omega, _, _, rfl, rfl, _, upd_same, (by rw [List.length_map]; omega), ⟨_, rfl⟩, ?_, ⟨ps ++ [1 + low + drawn ns (110 + (0 + (i : Int))) top], ?_, (by rw [List.length_append, hpl]; rfl), ?_⟩, by omega⟩
      · rw [upd_upd]; exact same_upd hD
      · rw [upd_upd, List.map_append]; rfl
      · unfold allNum at hpa ⊢
        have ok : okNum (1 + low + drawn ns (110 + (0 + (i : Int))) top) = true := by
          unfold okNum
          rw [decide_eq_true (show 1 ≤ 1 + low + drawn ns (110 + (0 + (i : Int))) top by omega), decide_eq_true (show 1 + low + drawn ns (110 + (0 + (i : Int))) top ≤ 9 by omega)]
          rfl
        rw [List.all_append, hpa, List.all_cons, ok]
        rfl
    · rintro σ1 H3 ⟨_, s4, ⟨ps, rfl, hpl, hpa⟩, h12⟩
      have e4 := s4 _ _ e3
      have e5 := upd_same (H := H2) (a := D) (o := .lst (ps.map V.int))
      have sA := s3.trans s4
      generalize upd H2 D (.lst (ps.map V.int)) = H3 at s4 e4 e5 sA ⊢
      refine ⟨_, rfl, l1, _, rfl, .inl (SqL.of e4), fun h1 hh1 => ⟨_, rfl, D, _, rfl, .inl (SqL.of (same_upd hh1 _ _ e5)), fun h2 hh2 => ⟨(by show 2 ≤ sizeLine; decide), fun lh hlh => ?_⟩⟩⟩
      have ss := ((same_upd (o := .lst (sz.map V.int)) hh1).trans (same_upd (o := .lst (ps.map V.int)) hh2)).trans (same_upd (o := .lst [.ref h1, .ref h2]) hlh)
      have S : St6 (tabOf pT) (upd (upd (upd H3 h1 (.lst (sz.map V.int))) h2 (.lst (ps.map V.int))) lh (.lst [.ref h1, .ref h2])) l1 D lh h1 h2 sz ps :=
        ⟨ss _ _ e4, ss _ _ e5, upd_same, same_upd hlh _ _ (same_upd hh2 _ _ upd_same), same_upd hlh _ _ upd_same, hT.same (sA.trans ss)⟩
      generalize upd (upd (upd H3 h1 (.lst (sz.map V.int))) h2 (.lst (ps.map V.int))) lh (.lst [.ref h1, .ref h2]) = H4 at S ⊢
      refine ⟨2, rfl, by decide, by decide, for_range (n := 2) (fun i σ H5 => (∃ v6 v7, σ = [some (.ref a), some (.ref l1), some (.int low), some (.int top), some (.ref D), some (.ref lh), v6, v7]) ∧ St6 (tabOf pT) H5 l1 D lh h1 h2 sz ps) ⟨⟨none, none, rfl⟩, S⟩ ?_ ?_⟩
      · rintro i σ H5 _ ⟨⟨v6, v7, rfl⟩, S5⟩
        refine ⟨_, rfl, lh, _, _, _, rfl, rfl, SqL.of S5.eh, atI_nat (j := 0) rfl, _, rfl, lh, _, _, _, rfl, rfl, SqL.of S5.eh, atI_nat (j := 1) rfl, h1, h2, sz, ps, rfl, SqL.of S5.c1, SqL.of S5.c2, by omega, S5.t, (fun z => by rw [hsz] at z; cases z), (fun _ z => by rw [hpa] at z; cases z), fun _ _ D2 l' H6 tk bd _ hl0 hD2 hl6 g6 M => ?_⟩
        exact hq _ (.ref a) _ _ _ H5 H6 D2 l' l1 D lh h1 h2 sz ps tk bd S5 g6 hsz hpa (by omega) hl0 hD2 hl6 M fun H' S' => ⟨⟨_, _, rfl⟩, S'⟩
      · rintro σ H5 ⟨⟨v6, v7, rfl⟩, S5⟩
        refine ⟨_, rfl, _, rfl, _, rfl, (by show 2 ≤ sizeLine; decide), fun lp hlp => ?_⟩
        have S6 := S5.same (same_upd (o := .lst [.ref l1, .ref D]) hlp)
        refine ⟨_, _, two_dt S6.eh S6.c1 S6.c2, two_dt upd_same S6.e1 S6.e2, two_can _ _, two_can _ _, two_depth _ _, ?_⟩
        rw [if_neg Bool.false_ne_true, two_eq]
        exact q _
end
end Pw

set_option Elab.async false
set_option linter.all false
set_option maxRecDepth 100000
set_option maxHeartbeats 4000000
namespace Pw
open PySem L2 PyProof.Rows
theorem all_mk {l : PySem.W.OpenLaw} {w : World} {K : PySem.W.Frag} {h : Heap} {mg : Str → Option Value} {fa fin_bounds fcheck_wall fcheck_size fcheck_both fplaces_by_size ffit fmost f_law_drawn f_law_whole f_law_row f_law_sizes_by f_law_fits f_law_right flaw cWallError NWallError cNoWall NNoWall cNoSize NNoSize cC pT : Addr} (X : K.In h) (G : h.Ns mainGlobals mg) (hfa : mg "law" = some (.ref fa))
    {odin_bounds anin_bounds : Option Addr} {slin_bounds : Array (Option Value)} {ocin_bounds kVin_bounds dcin_bounds pmin_bounds cdin_bounds ctin_bounds : Value}
    {odcheck_wall ancheck_wall : Option Addr} {slcheck_wall : Array (Option Value)} {occheck_wall kVcheck_wall dccheck_wall pmcheck_wall cdcheck_wall ctcheck_wall : Value}
    {odcheck_size ancheck_size : Option Addr} {slcheck_size : Array (Option Value)} {occheck_size kVcheck_size dccheck_size pmcheck_size cdcheck_size ctcheck_size : Value}
    {odcheck_both ancheck_both : Option Addr} {slcheck_both : Array (Option Value)} {occheck_both kVcheck_both dccheck_both pmcheck_both cdcheck_both ctcheck_both : Value}
    {odplaces_by_size anplaces_by_size : Option Addr} {slplaces_by_size : Array (Option Value)} {ocplaces_by_size kVplaces_by_size dcplaces_by_size pmplaces_by_size cdplaces_by_size ctplaces_by_size : Value}
    {odfit anfit : Option Addr} {slfit : Array (Option Value)} {ocfit kVfit dcfit pmfit cdfit ctfit : Value}
    {odmost anmost : Option Addr} {slmost : Array (Option Value)} {ocmost kVmost dcmost pmmost cdmost ctmost : Value}
    {od_law_drawn an_law_drawn : Option Addr} {sl_law_drawn : Array (Option Value)} {oc_law_drawn kV_law_drawn dc_law_drawn pm_law_drawn cd_law_drawn ct_law_drawn : Value}
    {od_law_whole an_law_whole : Option Addr} {sl_law_whole : Array (Option Value)} {oc_law_whole kV_law_whole dc_law_whole pm_law_whole cd_law_whole ct_law_whole : Value}
    {od_law_row an_law_row : Option Addr} {sl_law_row : Array (Option Value)} {oc_law_row kV_law_row dc_law_row pm_law_row cd_law_row ct_law_row : Value}
    {od_law_sizes_by an_law_sizes_by : Option Addr} {sl_law_sizes_by : Array (Option Value)} {oc_law_sizes_by kV_law_sizes_by dc_law_sizes_by pm_law_sizes_by cd_law_sizes_by ct_law_sizes_by : Value}
    {od_law_fits an_law_fits : Option Addr} {sl_law_fits : Array (Option Value)} {oc_law_fits kV_law_fits dc_law_fits pm_law_fits cd_law_fits ct_law_fits : Value}
    {od_law_right an_law_right : Option Addr} {sl_law_right : Array (Option Value)} {oc_law_right kV_law_right dc_law_right pm_law_right cd_law_right ct_law_right : Value}
    {odlaw anlaw : Option Addr} {sllaw : Array (Option Value)} {oclaw kVlaw dclaw pmlaw cdlaw ctlaw : Value}
    {nmWallError qWallError : Str} {bsWallError subWallError : List Value} {hdctWallError abWallError : Bool} {snWallError : List Str} {colWallError : Option Bool} {ddWallError : Option Addr} {k0WallError k1WallError k2WallError k3WallError k5WallError : Option Value}
    {nmNoWall qNoWall : Str} {bsNoWall subNoWall : List Value} {hdctNoWall abNoWall : Bool} {snNoWall : List Str} {colNoWall : Option Bool} {ddNoWall : Option Addr} {k0NoWall k1NoWall k2NoWall k3NoWall k5NoWall : Option Value}
    {nmNoSize qNoSize : Str} {bsNoSize subNoSize : List Value} {hdctNoSize abNoSize : Bool} {snNoSize : List Str} {colNoSize : Option Bool} {ddNoSize : Option Addr} {k0NoSize k1NoSize k2NoSize k3NoSize k5NoSize : Option Value}
    {tMOST_BOXES : Tok}
    {tLEAST : Tok}
    {tGREATEST : Tok}
    (ain_bounds : PySem.W.nsIn K mainGlobals "in_bounds" = some (some (.ref fin_bounds)))
    (lin_bounds : K.lookup fin_bounds = some ⟨ocin_bounds, odin_bounds, .func (PySem.W.fnOf "in_bounds" "in_bounds" (defArgs s_in_bounds) (defBody s_in_bounds) (defScope s_in_bounds) .none kVin_bounds dcin_bounds pmin_bounds anin_bounds cdin_bounds ctin_bounds), slin_bounds⟩)
    (cin_bounds_ : PySem.W.codeIn K cdin_bounds "in_bounds" = true)
    (kin_bounds : PySem.W.keepIn K (.ref fin_bounds) = true)
    (acheck_wall : PySem.W.nsIn K mainGlobals "check_wall" = some (some (.ref fcheck_wall)))
    (lcheck_wall : K.lookup fcheck_wall = some ⟨occheck_wall, odcheck_wall, .func (PySem.W.fnOf "check_wall" "check_wall" (defArgs s_check_wall) (defBody s_check_wall) (defScope s_check_wall) .none kVcheck_wall dccheck_wall pmcheck_wall ancheck_wall cdcheck_wall ctcheck_wall), slcheck_wall⟩)
    (ccheck_wall_ : PySem.W.codeIn K cdcheck_wall "check_wall" = true)
    (kcheck_wall : PySem.W.keepIn K (.ref fcheck_wall) = true)
    (acheck_size : PySem.W.nsIn K mainGlobals "check_size" = some (some (.ref fcheck_size)))
    (lcheck_size : K.lookup fcheck_size = some ⟨occheck_size, odcheck_size, .func (PySem.W.fnOf "check_size" "check_size" (defArgs s_check_size) (defBody s_check_size) (defScope s_check_size) .none kVcheck_size dccheck_size pmcheck_size ancheck_size cdcheck_size ctcheck_size), slcheck_size⟩)
    (ccheck_size_ : PySem.W.codeIn K cdcheck_size "check_size" = true)
    (kcheck_size : PySem.W.keepIn K (.ref fcheck_size) = true)
    (acheck_both : PySem.W.nsIn K mainGlobals "check_both" = some (some (.ref fcheck_both)))
    (lcheck_both : K.lookup fcheck_both = some ⟨occheck_both, odcheck_both, .func (PySem.W.fnOf "check_both" "check_both" (defArgs s_check_both) (defBody s_check_both) (defScope s_check_both) .none kVcheck_both dccheck_both pmcheck_both ancheck_both cdcheck_both ctcheck_both), slcheck_both⟩)
    (ccheck_both_ : PySem.W.codeIn K cdcheck_both "check_both" = true)
    (kcheck_both : PySem.W.keepIn K (.ref fcheck_both) = true)
    (aplaces_by_size : PySem.W.nsIn K mainGlobals "places_by_size" = some (some (.ref fplaces_by_size)))
    (lplaces_by_size : K.lookup fplaces_by_size = some ⟨ocplaces_by_size, odplaces_by_size, .func (PySem.W.fnOf "places_by_size" "places_by_size" (defArgs s_places_by_size) (defBody s_places_by_size) (defScope s_places_by_size) .none kVplaces_by_size dcplaces_by_size pmplaces_by_size anplaces_by_size cdplaces_by_size ctplaces_by_size), slplaces_by_size⟩)
    (cplaces_by_size_ : PySem.W.codeIn K cdplaces_by_size "places_by_size" = true)
    (kplaces_by_size : PySem.W.keepIn K (.ref fplaces_by_size) = true)
    (afit : PySem.W.nsIn K mainGlobals "fit" = some (some (.ref ffit)))
    (lfit : K.lookup ffit = some ⟨ocfit, odfit, .func (PySem.W.fnOf "fit" "fit" (defArgs s_fit) (defBody s_fit) (defScope s_fit) .none kVfit dcfit pmfit anfit cdfit ctfit), slfit⟩)
    (cfit_ : PySem.W.codeIn K cdfit "fit" = true)
    (kfit : PySem.W.keepIn K (.ref ffit) = true)
    (amost : PySem.W.nsIn K mainGlobals "most" = some (some (.ref fmost)))
    (lmost : K.lookup fmost = some ⟨ocmost, odmost, .func (PySem.W.fnOf "most" "most" (defArgs s_most) (defBody s_most) (defScope s_most) .none kVmost dcmost pmmost anmost cdmost ctmost), slmost⟩)
    (cmost_ : PySem.W.codeIn K cdmost "most" = true)
    (kmost : PySem.W.keepIn K (.ref fmost) = true)
    (a_law_drawn : PySem.W.nsIn K mainGlobals "_law_drawn" = some (some (.ref f_law_drawn)))
    (l_law_drawn : K.lookup f_law_drawn = some ⟨oc_law_drawn, od_law_drawn, .func (PySem.W.fnOf "_law_drawn" "_law_drawn" (defArgs s__law_drawn) (defBody s__law_drawn) (defScope s__law_drawn) .none kV_law_drawn dc_law_drawn pm_law_drawn an_law_drawn cd_law_drawn ct_law_drawn), sl_law_drawn⟩)
    (c_law_drawn_ : PySem.W.codeIn K cd_law_drawn "_law_drawn" = true)
    (k_law_drawn : PySem.W.keepIn K (.ref f_law_drawn) = true)
    (a_law_whole : PySem.W.nsIn K mainGlobals "_law_whole" = some (some (.ref f_law_whole)))
    (l_law_whole : K.lookup f_law_whole = some ⟨oc_law_whole, od_law_whole, .func (PySem.W.fnOf "_law_whole" "_law_whole" (defArgs s__law_whole) (defBody s__law_whole) (defScope s__law_whole) .none kV_law_whole dc_law_whole pm_law_whole an_law_whole cd_law_whole ct_law_whole), sl_law_whole⟩)
    (c_law_whole_ : PySem.W.codeIn K cd_law_whole "_law_whole" = true)
    (k_law_whole : PySem.W.keepIn K (.ref f_law_whole) = true)
    (a_law_row : PySem.W.nsIn K mainGlobals "_law_row" = some (some (.ref f_law_row)))
    (l_law_row : K.lookup f_law_row = some ⟨oc_law_row, od_law_row, .func (PySem.W.fnOf "_law_row" "_law_row" (defArgs s__law_row) (defBody s__law_row) (defScope s__law_row) .none kV_law_row dc_law_row pm_law_row an_law_row cd_law_row ct_law_row), sl_law_row⟩)
    (c_law_row_ : PySem.W.codeIn K cd_law_row "_law_row" = true)
    (k_law_row : PySem.W.keepIn K (.ref f_law_row) = true)
    (a_law_sizes_by : PySem.W.nsIn K mainGlobals "_law_sizes_by" = some (some (.ref f_law_sizes_by)))
    (l_law_sizes_by : K.lookup f_law_sizes_by = some ⟨oc_law_sizes_by, od_law_sizes_by, .func (PySem.W.fnOf "_law_sizes_by" "_law_sizes_by" (defArgs s__law_sizes_by) (defBody s__law_sizes_by) (defScope s__law_sizes_by) .none kV_law_sizes_by dc_law_sizes_by pm_law_sizes_by an_law_sizes_by cd_law_sizes_by ct_law_sizes_by), sl_law_sizes_by⟩)
    (c_law_sizes_by_ : PySem.W.codeIn K cd_law_sizes_by "_law_sizes_by" = true)
    (k_law_sizes_by : PySem.W.keepIn K (.ref f_law_sizes_by) = true)
    (a_law_fits : PySem.W.nsIn K mainGlobals "_law_fits" = some (some (.ref f_law_fits)))
    (l_law_fits : K.lookup f_law_fits = some ⟨oc_law_fits, od_law_fits, .func (PySem.W.fnOf "_law_fits" "_law_fits" (defArgs s__law_fits) (defBody s__law_fits) (defScope s__law_fits) .none kV_law_fits dc_law_fits pm_law_fits an_law_fits cd_law_fits ct_law_fits), sl_law_fits⟩)
    (c_law_fits_ : PySem.W.codeIn K cd_law_fits "_law_fits" = true)
    (k_law_fits : PySem.W.keepIn K (.ref f_law_fits) = true)
    (a_law_right : PySem.W.nsIn K mainGlobals "_law_right" = some (some (.ref f_law_right)))
    (l_law_right : K.lookup f_law_right = some ⟨oc_law_right, od_law_right, .func (PySem.W.fnOf "_law_right" "_law_right" (defArgs s__law_right) (defBody s__law_right) (defScope s__law_right) .none kV_law_right dc_law_right pm_law_right an_law_right cd_law_right ct_law_right), sl_law_right⟩)
    (c_law_right_ : PySem.W.codeIn K cd_law_right "_law_right" = true)
    (k_law_right : PySem.W.keepIn K (.ref f_law_right) = true)
    (alaw : PySem.W.nsIn K mainGlobals "law" = some (some (.ref flaw)))
    (llaw : K.lookup flaw = some ⟨oclaw, odlaw, .func (PySem.W.fnOf "law" "law" (defArgs s_law) (defBody s_law) (defScope s_law) .none kVlaw dclaw pmlaw anlaw cdlaw ctlaw), sllaw⟩)
    (claw_ : PySem.W.codeIn K cdlaw "law" = true)
    (klaw : PySem.W.keepIn K (.ref flaw) = true)
    (aWallError : PySem.W.nsIn K mainGlobals "WallError" = some (some (.ref cWallError)))
    (xWallError : K.lookup cWallError = some (excClassObj nmWallError qWallError cWallError NWallError bsWallError mroVE hdctWallError snWallError subWallError abWallError colWallError ddWallError k0WallError k1WallError k2WallError k3WallError k5WallError "ValueError.__new__"))
    (yWallError : noKey K NWallError "__init__" = true)
    (aNoWall : PySem.W.nsIn K mainGlobals "NoWall" = some (some (.ref cNoWall)))
    (xNoWall : K.lookup cNoWall = some (excClassObj nmNoWall qNoWall cNoWall NNoWall bsNoWall (.ref cWallError :: mroVE) hdctNoWall snNoWall subNoWall abNoWall colNoWall ddNoWall k0NoWall k1NoWall k2NoWall k3NoWall k5NoWall "ValueError.__new__"))
    (yNoWall : noKey K NNoWall "__init__" = true)
    (aNoSize : PySem.W.nsIn K mainGlobals "NoSize" = some (some (.ref cNoSize)))
    (xNoSize : K.lookup cNoSize = some (excClassObj nmNoSize qNoSize cNoSize NNoSize bsNoSize (.ref cWallError :: mroVE) hdctNoSize snNoSize subNoSize abNoSize colNoSize ddNoSize k0NoSize k1NoSize k2NoSize k3NoSize k5NoSize "ValueError.__new__"))
    (yNoSize : noKey K NNoSize "__init__" = true)
    (aMOST_BOXES : PySem.W.nsIn K mainGlobals "MOST_BOXES" = some (some (.int 8 tMOST_BOXES)))
    (aLEAST : PySem.W.nsIn K mainGlobals "LEAST" = some (some (.int 1 tLEAST)))
    (aGREATEST : PySem.W.nsIn K mainGlobals "GREATEST" = some (some (.int 9 tGREATEST)))
    (zlen : PySem.W.nsIn K mainGlobals "len" = some none)
    (zrange : PySem.W.nsIn K mainGlobals "range" = some none)
    (zlist : PySem.W.nsIn K mainGlobals "list" = some none)
    (zmin : PySem.W.nsIn K mainGlobals "min" = some none)
    (zmax : PySem.W.nsIn K mainGlobals "max" = some none)
    (zisinstance : PySem.W.nsIn K mainGlobals "isinstance" = some none)
    (zint : PySem.W.nsIn K mainGlobals "int" = some none)
    (zbool : PySem.W.nsIn K mainGlobals "bool" = some none)
    (zenumerate : PySem.W.nsIn K mainGlobals "enumerate" = some none)
    (zValueError : PySem.W.nsIn K mainGlobals "ValueError" = some none)
    (zsorted : PySem.W.nsIn K mainGlobals "sorted" = some none)
    (zstr : PySem.W.nsIn K mainGlobals "str" = some none)
    (ztuple : PySem.W.nsIn K mainGlobals "tuple" = some none)
    (zreversed : PySem.W.nsIn K mainGlobals "reversed" = some none)
    (zall : PySem.W.nsIn K mainGlobals "all" = some none)
    (zset : PySem.W.nsIn K mainGlobals "set" = some none)
    (kit_int_int : PySem.W.kitOne K (.type "int") (.type "int") = some true)
    (kit_int_bool : PySem.W.kitOne K (.type "int") (.type "bool") = some false)
    (kit_list_list : PySem.W.kitOne K (.type "list") (.type "list") = some true)
    (kit_tuple_tuple : PySem.W.kitOne K (.type "tuple") (.type "tuple") = some true)
    (eC : cdplaces_by_size = .ref cC)
    (hC : PySem.W.codeHdIn K cC pT = true)
    (hKT : K.lookup pT = none) :
    ∃ (fd : FuncData) (cC : Addr), PySem.W.codeHdIn K cC pT = true ∧ K.lookup pT = none ∧ (∀ (s : Shared) (v : Value), BindsTo s fd ⟨[v], []⟩ [("script", v)]) ∧ ∀ base : Heap, K.In base → base.Ns mainGlobals mg → base.BuiltinsAt mg pT → FnOk l.prog w K mg base CX0 7 fa fd ["script"] (spLawT (tabOf pT) K) := by
  have e := hfa.symm.trans (PySem.W.mg_of X G alaw)
  cases e
  have Fin_bounds := fun_mk (st := s_in_bounds) lin_bounds cin_bounds_ kin_bounds
  have bin_bounds := Fin_bounds.binds1 (p1 := "number") fun _ _ _ _ _ _ _ => rfl
  have min_bounds : mg "in_bounds" = some (.ref fin_bounds) := PySem.W.mg_of X G ain_bounds
  have Fcheck_wall := fun_mk (st := s_check_wall) lcheck_wall ccheck_wall_ kcheck_wall
  have bcheck_wall := Fcheck_wall.binds1 (p1 := "sizes") fun _ _ _ _ _ _ _ => rfl
  have mcheck_wall : mg "check_wall" = some (.ref fcheck_wall) := PySem.W.mg_of X G acheck_wall
  have Fcheck_size := fun_mk (st := s_check_size) lcheck_size ccheck_size_ kcheck_size
  have bcheck_size := Fcheck_size.binds1 (p1 := "size") fun _ _ _ _ _ _ _ => rfl
  have mcheck_size : mg "check_size" = some (.ref fcheck_size) := PySem.W.mg_of X G acheck_size
  have Fcheck_both := fun_mk (st := s_check_both) lcheck_both ccheck_both_ kcheck_both
  have bcheck_both := Fcheck_both.binds2 (p1 := "sizes") (p2 := "parcels") fun _ _ _ _ _ _ _ _ => rfl
  have mcheck_both : mg "check_both" = some (.ref fcheck_both) := PySem.W.mg_of X G acheck_both
  have Fplaces_by_size := fun_mk (st := s_places_by_size) lplaces_by_size cplaces_by_size_ kplaces_by_size
  have bplaces_by_size := Fplaces_by_size.binds1 (p1 := "sizes") fun _ _ _ _ _ _ _ => rfl
  have mplaces_by_size : mg "places_by_size" = some (.ref fplaces_by_size) := PySem.W.mg_of X G aplaces_by_size
  have Ffit := fun_mk (st := s_fit) lfit cfit_ kfit
  have bfit := Ffit.binds2 (p1 := "sizes") (p2 := "parcels") fun _ _ _ _ _ _ _ _ => rfl
  have mfit : mg "fit" = some (.ref ffit) := PySem.W.mg_of X G afit
  have Fmost := fun_mk (st := s_most) lmost cmost_ kmost
  have bmost := Fmost.binds2 (p1 := "sizes") (p2 := "parcels") fun _ _ _ _ _ _ _ _ => rfl
  have mmost : mg "most" = some (.ref fmost) := PySem.W.mg_of X G amost
  have F_law_drawn := fun_mk (st := s__law_drawn) l_law_drawn c_law_drawn_ k_law_drawn
  have b_law_drawn := F_law_drawn.binds3 (p1 := "script") (p2 := "k") (p3 := "many") fun _ _ _ _ _ _ _ _ _ => rfl
  have m_law_drawn : mg "_law_drawn" = some (.ref f_law_drawn) := PySem.W.mg_of X G a_law_drawn
  have F_law_whole := fun_mk (st := s__law_whole) l_law_whole c_law_whole_ k_law_whole
  have b_law_whole := F_law_whole.binds1 (p1 := "found") fun _ _ _ _ _ _ _ => rfl
  have m_law_whole : mg "_law_whole" = some (.ref f_law_whole) := PySem.W.mg_of X G a_law_whole
  have F_law_row := fun_mk (st := s__law_row) l_law_row c_law_row_ k_law_row
  have b_law_row := F_law_row.binds2 (p1 := "found") (p2 := "due") fun _ _ _ _ _ _ _ _ => rfl
  have m_law_row : mg "_law_row" = some (.ref f_law_row) := PySem.W.mg_of X G a_law_row
  have F_law_sizes_by := fun_mk (st := s__law_sizes_by) l_law_sizes_by c_law_sizes_by_ k_law_sizes_by
  have b_law_sizes_by := F_law_sizes_by.binds2 (p1 := "script") (p2 := "base") fun _ _ _ _ _ _ _ _ => rfl
  have m_law_sizes_by : mg "_law_sizes_by" = some (.ref f_law_sizes_by) := PySem.W.mg_of X G a_law_sizes_by
  have F_law_fits := fun_mk (st := s__law_fits) l_law_fits c_law_fits_ k_law_fits
  have b_law_fits := F_law_fits.binds2 (p1 := "sizes") (p2 := "parcels") fun _ _ _ _ _ _ _ _ => rfl
  have m_law_fits : mg "_law_fits" = some (.ref f_law_fits) := PySem.W.mg_of X G a_law_fits
  have F_law_right := fun_mk (st := s__law_right) l_law_right c_law_right_ k_law_right
  have b_law_right := F_law_right.binds3 (p1 := "found") (p2 := "sizes") (p3 := "parcels") fun _ _ _ _ _ _ _ _ _ => rfl
  have m_law_right : mg "_law_right" = some (.ref f_law_right) := PySem.W.mg_of X G a_law_right
  have Flaw := fun_mk (st := s_law) llaw claw_ klaw
  have blaw := Flaw.binds1 (p1 := "script") fun _ _ _ _ _ _ _ => rfl
  have mWallError : mg "WallError" = some (.ref cWallError) := PySem.W.mg_of X G aWallError
  have XWallError : XCls K cWallError mroVE "ValueError.__new__" := ⟨_, _, _, _, _, _, _, _, _, _, _, _, _, _, _, xWallError, yWallError⟩
  have mNoWall : mg "NoWall" = some (.ref cNoWall) := PySem.W.mg_of X G aNoWall
  have XNoWall : XCls K cNoWall (.ref cWallError :: mroVE) "ValueError.__new__" := ⟨_, _, _, _, _, _, _, _, _, _, _, _, _, _, _, xNoWall, yNoWall⟩
  have RNoWall : Rs K mg cWallError cNoWall "NoWall" := ⟨XNoWall, .own XWallError .base, mNoWall⟩
  have mNoSize : mg "NoSize" = some (.ref cNoSize) := PySem.W.mg_of X G aNoSize
  have XNoSize : XCls K cNoSize (.ref cWallError :: mroVE) "ValueError.__new__" := ⟨_, _, _, _, _, _, _, _, _, _, _, _, _, _, _, xNoSize, yNoSize⟩
  have RNoSize : Rs K mg cWallError cNoSize "NoSize" := ⟨XNoSize, .own XWallError .base, mNoSize⟩
  have mMOST_BOXES : mg "MOST_BOXES" = some (.int 8 tMOST_BOXES) := PySem.W.mg_of X G aMOST_BOXES
  have mLEAST : mg "LEAST" = some (.int 1 tLEAST) := PySem.W.mg_of X G aLEAST
  have mGREATEST : mg "GREATEST" = some (.int 9 tGREATEST) := PySem.W.mg_of X G aGREATEST
  have mlen : mg "len" = none := PySem.W.mg_none_of X G zlen
  have mrange : mg "range" = none := PySem.W.mg_none_of X G zrange
  have mlist : mg "list" = none := PySem.W.mg_none_of X G zlist
  have mmin : mg "min" = none := PySem.W.mg_none_of X G zmin
  have mmax : mg "max" = none := PySem.W.mg_none_of X G zmax
  have misinstance : mg "isinstance" = none := PySem.W.mg_none_of X G zisinstance
  have mint : mg "int" = none := PySem.W.mg_none_of X G zint
  have mbool : mg "bool" = none := PySem.W.mg_none_of X G zbool
  have menumerate : mg "enumerate" = none := PySem.W.mg_none_of X G zenumerate
  have mValueError : mg "ValueError" = none := PySem.W.mg_none_of X G zValueError
  have msorted : mg "sorted" = none := PySem.W.mg_none_of X G zsorted
  have mstr : mg "str" = none := PySem.W.mg_none_of X G zstr
  have mtuple : mg "tuple" = none := PySem.W.mg_none_of X G ztuple
  have mreversed : mg "reversed" = none := PySem.W.mg_none_of X G zreversed
  have mall : mg "all" = none := PySem.W.mg_none_of X G zall
  have mset : mg "set" = none := PySem.W.mg_none_of X G zset
  refine ⟨PySem.W.fnOf "law" "law" (defArgs s_law) (defBody s_law) (defScope s_law) .none kVlaw dclaw pmlaw anlaw cdlaw ctlaw, cC, hC, hKT, fun s v => .of_eq rfl, fun base _ _ hB => ?_⟩
  have g_in_bounds : Gd l.prog w K mg base "in_bounds" s_in_bounds ["number"] CX0 1 (spBounds) fin_bounds _ := ⟨Fin_bounds, bin_bounds, min_bounds, ok_bounds (P := l.prog) (w := w) (mg := mg) (base := base) Fin_bounds mLEAST mGREATEST⟩
  have g_check_wall : Gd l.prog w K mg base "check_wall" s_check_wall ["sizes"] (CXF l.prog w) 2 (spCheckWall K cNoWall) fcheck_wall _ := ⟨Fcheck_wall, bcheck_wall, mcheck_wall, ok_checkWall Fcheck_wall g_in_bounds mlen mMOST_BOXES mLEAST mGREATEST RNoWall⟩
  have g_check_size : Gd l.prog w K mg base "check_size" s_check_size ["size"] (CXF l.prog w) 2 (spCheckNum cNoSize) fcheck_size _ := ⟨Fcheck_size, bcheck_size, mcheck_size, ok_checkSize Fcheck_size g_in_bounds mLEAST mGREATEST RNoSize⟩
  have g_check_both : Gd l.prog w K mg base "check_both" s_check_both ["sizes", "parcels"] (CXF l.prog w) 3 (spBoth K cNoWall cNoSize) fcheck_both _ := ⟨Fcheck_both, bcheck_both, mcheck_both, ok_both Fcheck_both g_check_wall g_check_size⟩
  have g_places_by_size : Gd l.prog w K mg base "places_by_size" s_places_by_size ["sizes"] CX0 2 (spPlaces (tabOf pT) K) fplaces_by_size _ := ⟨Fplaces_by_size, bplaces_by_size, mplaces_by_size, ok_places (P := l.prog) (w := w) (c := cC) Fplaces_by_size eC hC hB mlen mrange msorted⟩
  have g_fit : Gd l.prog w K mg base "fit" s_fit ["sizes", "parcels"] (CXF l.prog w) 4 (spFit (tabOf pT) K cNoWall cNoSize) ffit _ := ⟨Ffit, bfit, mfit, ok_fit Ffit g_check_both g_places_by_size mlen mlist mreversed menumerate⟩
  have g_most : Gd l.prog w K mg base "most" s_most ["sizes", "parcels"] (CXF l.prog w) 4 (spMost (tabOf pT) K cNoWall cNoSize) fmost _ := ⟨Fmost, bmost, mmost, ok_most Fmost g_check_both g_places_by_size mlen msorted mLEAST mGREATEST⟩
  have g__law_drawn : Gd l.prog w K mg base "_law_drawn" s__law_drawn ["script", "k", "many"] CX0 1 (spDrawn K) f_law_drawn _ := ⟨F_law_drawn, b_law_drawn, m_law_drawn, ok_drawn (P := l.prog) (w := w) (mg := mg) (base := base) F_law_drawn mlen⟩
  have g__law_whole : Gd l.prog w K mg base "_law_whole" s__law_whole ["found"] CX0 1 (spWhole) f_law_whole _ := ⟨F_law_whole, b_law_whole, m_law_whole, ok_whole (P := l.prog) (w := w) (mg := mg) (base := base) F_law_whole misinstance mint mbool kit_int_int kit_int_bool⟩
  have g__law_row : Gd l.prog w K mg base "_law_row" s__law_row ["found", "due"] CX0 2 (spRow K) f_law_row _ := ⟨F_law_row, b_law_row, m_law_row, ok_row F_law_row g__law_whole misinstance mlist mlen mrange kit_list_list⟩
  have g__law_sizes_by : Gd l.prog w K mg base "_law_sizes_by" s__law_sizes_by ["script", "base"] CX0 2 (spSizesBy K) f_law_sizes_by _ := ⟨F_law_sizes_by, b_law_sizes_by, m_law_sizes_by, ok_sizesBy F_law_sizes_by g__law_drawn mrange⟩
  have g__law_fits : Gd l.prog w K mg base "_law_fits" s__law_fits ["sizes", "parcels"] CX0 1 (spFits6 K) f_law_fits _ := ⟨F_law_fits, b_law_fits, m_law_fits, ok_fits6 (P := l.prog) (w := w) (mg := mg) (base := base) F_law_fits msorted mlen⟩
  have g__law_right : Gd l.prog w K mg base "_law_right" s__law_right ["found", "sizes", "parcels"] CX0 3 (spRight6 K) f_law_right _ := ⟨F_law_right, b_law_right, m_law_right, ok_right6 F_law_right g__law_whole g__law_row g__law_fits misinstance mtuple mlist mlen mset msorted kit_tuple_tuple kit_list_list⟩
  exact ok_law Flaw g__law_drawn g__law_sizes_by g_most g_fit g__law_right mlist mrange mlen
theorem walk {l : PySem.W.OpenLaw} {q : Program} {loose : List Str} {XP : (Str → Option Value) → Heap → Prop} {YP : World → Heap → Prop} {d : DefRec} {K : Params → PySem.W.Frag} {pT : Addr} (hn : l.most = some 63) (hdf : d.params.defaults = [])
    (hY : ∀ (w : World) (h : Heap), YP w h → (K w.params).In h ∧ h.get? pT = some (PySem.W.tabObj #[]))
    (F : ∀ (w : World) (mg : Str → Option Value) (fa : Addr) (h : Heap), (K w.params).In h → h.Ns mainGlobals mg → mg d.name = some (.ref fa) →
      ∃ (fd : FuncData) (cC : Addr), PySem.W.codeHdIn (K w.params) cC pT = true ∧ (K w.params).lookup pT = none ∧ (∀ (s : Shared) (u : Value), BindsTo s fd ⟨[u], []⟩ [("script", u)]) ∧ ∀ base : Heap, (K w.params).In base → base.Ns mainGlobals mg → base.BuiltinsAt mg pT → FnOk l.prog w (K w.params) mg base CX0 7 fa fd ["script"] (spLawT (tabOf pT) (K w.params))) :
    PySem.W.WalkO q loose XP YP l.row.toRowW d [] (fun f vs => PySem.call f vs) :=
  L2.walk_ofT (n := 63) (k := 7) (x := "script") (CX := fun _ => CX0) (sp := fun w => spLawT (tabOf pT) (K w.params)) hn (by decide) hdf ⟨rfl, by decide, by decide⟩ hY F (fun _ _ a ns hl hP hS => ⟨a, ns, rfl, hS, hl, .inl hP, fun _ => rfl⟩) fun _ _ _ _ _ z => z
end Pw
open PySem PySem.W PyProof.Rows
set_option maxRecDepth 100000 in
set_option maxHeartbeats 0 in
theorem PySem.Challenge.cw_parcelwall_k06_whole_as_many_as_can_be_holds : PySem.Challenge.rw_parcelwall_k06_whole_as_many_as_can_be.Holds := by
  w_on; o_law; k_head; (case hw => w_witness2)
  k_fill
  refine Pw.walk (l := PySem.Challenge.rw_parcelwall_k06_whole_as_many_as_can_be) rfl rfl (fun w h Y => ⟨PySem.W.km_in_of Y, PySem.W.km_tabs_of Y _ (List.Mem.head _)⟩) ?F
  case F =>
    intro w mg fa h KX G hmg
    refine' Pw.all_mk KX G hmg ?ain_bounds ?lin_bounds ?cin_bounds_ ?kin_bounds ?acheck_wall ?lcheck_wall ?ccheck_wall_ ?kcheck_wall ?acheck_size ?lcheck_size ?ccheck_size_ ?kcheck_size ?acheck_both ?lcheck_both ?ccheck_both_ ?kcheck_both ?aplaces_by_size ?lplaces_by_size ?cplaces_by_size_ ?kplaces_by_size ?afit ?lfit ?cfit_ ?kfit ?amost ?lmost ?cmost_ ?kmost ?a_law_drawn ?l_law_drawn ?c_law_drawn_ ?k_law_drawn ?a_law_whole ?l_law_whole ?c_law_whole_ ?k_law_whole ?a_law_row ?l_law_row ?c_law_row_ ?k_law_row ?a_law_sizes_by ?l_law_sizes_by ?c_law_sizes_by_ ?k_law_sizes_by ?a_law_fits ?l_law_fits ?c_law_fits_ ?k_law_fits ?a_law_right ?l_law_right ?c_law_right_ ?k_law_right ?alaw ?llaw ?claw_ ?klaw ?aWallError ?xWallError ?yWallError ?aNoWall ?xNoWall ?yNoWall ?aNoSize ?xNoSize ?yNoSize ?aMOST_BOXES ?aLEAST ?aGREATEST ?zlen ?zrange ?zlist ?zmin ?zmax ?zisinstance ?zint ?zbool ?zenumerate ?zValueError ?zsorted ?zstr ?ztuple ?zreversed ?zall ?zset ?kit_int_int ?kit_int_bool ?kit_list_list ?kit_tuple_tuple ?eC ?hC ?hKT
    (case ain_bounds => k_is)
    (case lin_bounds => k_is)
    (case cin_bounds_ => k_is)
    (case kin_bounds => k_is)
    (case acheck_wall => k_is)
    (case lcheck_wall => k_is)
    (case ccheck_wall_ => k_is)
    (case kcheck_wall => k_is)
    (case acheck_size => k_is)
    (case lcheck_size => k_is)
    (case ccheck_size_ => k_is)
    (case kcheck_size => k_is)
    (case acheck_both => k_is)
    (case lcheck_both => k_is)
    (case ccheck_both_ => k_is)
    (case kcheck_both => k_is)
    (case aplaces_by_size => k_is)
    (case lplaces_by_size => k_is)
    (case cplaces_by_size_ => k_is)
    (case kplaces_by_size => k_is)
    (case afit => k_is)
    (case lfit => k_is)
    (case cfit_ => k_is)
    (case kfit => k_is)
    (case amost => k_is)
    (case lmost => k_is)
    (case cmost_ => k_is)
    (case kmost => k_is)
    (case a_law_drawn => k_is)
    (case l_law_drawn => k_is)
    (case c_law_drawn_ => k_is)
    (case k_law_drawn => k_is)
    (case a_law_whole => k_is)
    (case l_law_whole => k_is)
    (case c_law_whole_ => k_is)
    (case k_law_whole => k_is)
    (case a_law_row => k_is)
    (case l_law_row => k_is)
    (case c_law_row_ => k_is)
    (case k_law_row => k_is)
    (case a_law_sizes_by => k_is)
    (case l_law_sizes_by => k_is)
    (case c_law_sizes_by_ => k_is)
    (case k_law_sizes_by => k_is)
    (case a_law_fits => k_is)
    (case l_law_fits => k_is)
    (case c_law_fits_ => k_is)
    (case k_law_fits => k_is)
    (case a_law_right => k_is)
    (case l_law_right => k_is)
    (case c_law_right_ => k_is)
    (case k_law_right => k_is)
    (case alaw => k_is)
    (case llaw => k_is)
    (case claw_ => k_is)
    (case klaw => k_is)
    (case aWallError => k_is)
    (case xWallError => k_is)
    (case yWallError => kernel_rfl)
    (case aNoWall => k_is)
    (case xNoWall => k_is)
    (case yNoWall => kernel_rfl)
    (case aNoSize => k_is)
    (case xNoSize => k_is)
    (case yNoSize => kernel_rfl)
    (case aMOST_BOXES => k_is)
    (case aLEAST => k_is)
    (case aGREATEST => k_is)
    (case zlen => k_is)
    (case zrange => k_is)
    (case zlist => k_is)
    (case zmin => k_is)
    (case zmax => k_is)
    (case zisinstance => k_is)
    (case zint => k_is)
    (case zbool => k_is)
    (case zenumerate => k_is)
    (case zValueError => k_is)
    (case zsorted => k_is)
    (case zstr => k_is)
    (case ztuple => k_is)
    (case zreversed => k_is)
    (case zall => k_is)
    (case zset => k_is)
    (case kit_int_int => kernel_rfl)
    (case kit_int_bool => kernel_rfl)
    (case kit_list_list => kernel_rfl)
    (case kit_tuple_tuple => kernel_rfl)
    (case eC => exact rfl)
    (case hC => kernel_rfl)
    (case hKT => kernel_rfl)
