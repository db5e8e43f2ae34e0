import PyProof.Rows.All
import Wide.All
import OpenK.AllK
import Wide.FinOn
import Lean
import PyProof.EqAt
import PyProof.EqKinds
import PyProof.TupleCall
import KE.KSortTup
import KE.KIntText
import PySem.Challenge.RW_parcelwall_k14_texts_refused
import KE.KxText
import PyProof.StrLawsIn
set_option Elab.async false
set_option linter.all false
set_option maxRecDepth 100000
/-! THE HAND LAYER, for ints, bools, texts, own classes, LISTS and tuples (index, slices, in, append, pop ..), calls, loops. Paste it whole ahead of your own text; what your proof does not reach may be deleted. -/
namespace L2
open PySem PySem.Spec PyProof.Rows

/-- a key: an int or a str -/
abbrev Key := Sum Int Str
def keyIs : Key → Value → Bool
  | .inl k, v => Value.isInt k v
  | .inr x, v => Value.isStrOf x v
def keyH (w : World) : Key → Int
  | .inl k => hashInt k
  | .inr x => hashStr w x
theorem keyIs_shape : ∀ {k : Key} {v : Value}, keyIs k v = true → (∃ i t, k = Sum.inl i ∧ v = Value.int i t) ∨ (∃ x t, k = Sum.inr x ∧ v = Value.str x t)
  | .inl i, v, h => by
    obtain ⟨t, e⟩ := Value.isInt_shape (k := i) (v := v) h
    exact .inl ⟨i, t, rfl, e⟩
  | .inr x, v, h => by
    obtain ⟨t, e⟩ := Value.isStrOf_shape (x := x) (v := v) h
    exact .inr ⟨x, t, rfl, e⟩
theorem key_ll (a b : Int) : decide ((Sum.inl a : Key) = Sum.inl b) = (a == b) := by
  by_cases e : a = b
  · subst e; simp
  · have h : ¬ (Sum.inl a : Key) = Sum.inl b := fun q => e (Sum.inl.inj q)
    rw [decide_eq_false h]
    exact (beq_eq_false_iff_ne.mpr e).symm
theorem key_rr (a b : Str) : decide ((Sum.inr a : Key) = Sum.inr b) = decide (a = b) := by
  by_cases e : a = b
  · subst e; simp
  · have h : ¬ (Sum.inr a : Key) = Sum.inr b := fun q => e (Sum.inr.inj q)
    rw [decide_eq_false h, decide_eq_false e]
theorem key_lr (a : Int) (b : Str) : decide ((Sum.inl a : Key) = Sum.inr b) = false := decide_eq_false (fun q => nomatch q)
theorem key_rl (a : Str) (b : Int) : decide ((Sum.inr a : Key) = Sum.inl b) = false := decide_eq_false (fun q => nomatch q)

def mixKind (prog : Program) (w : World) : PySem.KeyKind prog w Key where
  is := keyIs
  hash := keyH w
  inj := fun v a b ha hb => by
    rcases keyIs_shape ha with ⟨i, t, rfl, rfl⟩ | ⟨x, t, rfl, rfl⟩
    · rcases keyIs_shape hb with ⟨j, u, rfl, e⟩ | ⟨y, u, rfl, e⟩
      · injection e with e1 _; rw [e1]
      · exact nomatch e
    · rcases keyIs_shape hb with ⟨j, u, rfl, e⟩ | ⟨y, u, rfl, e⟩
      · exact nomatch e
      · injection e with e1 _; rw [e1]
  byValue := fun k v h => by
    rcases keyIs_shape h with ⟨i, t, rfl, rfl⟩ | ⟨x, t, rfl, rfl⟩ <;> rfl
  pyHash := fun hv h => by
    rcases keyIs_shape hv with ⟨i, t, rfl, rfl⟩ | ⟨x, t, rfl, rfl⟩
    · exact wpAny_pyHash_int h
    · exact wpAny_pyHash_str h
  eqBool := fun hu hv h => by
    rcases keyIs_shape hu with ⟨i, t, rfl, rfl⟩ | ⟨x, t, rfl, rfl⟩
    · rcases keyIs_shape hv with ⟨j, u, rfl, rfl⟩ | ⟨y, u, rfl, rfl⟩
      · rw [key_ll] at h; exact wpAny_eqBool_int h
      · rw [key_lr] at h; exact SeqAt.EqAt.int_str i t y u _ _ _ _ h
    · rcases keyIs_shape hv with ⟨j, u, rfl, rfl⟩ | ⟨y, u, rfl, rfl⟩
      · rw [key_rl] at h; exact SeqAt.EqAt.str_int x t j u _ _ _ _ h
      · rw [key_rr] at h; exact wpAny_eqBool_str h
  «strs» := fun k x t v h => by
    rcases keyIs_shape h with ⟨i, u, rfl, e⟩ | ⟨y, u, rfl, e⟩
    · exact nomatch e
    · injection e with e1 _
      subst e1
      cases v <;> rfl

end L2

namespace L2
open PySem PySem.Spec PyProof.Rows

/-- a value, without the heap -/
inductive V where
  | non | bl (b : Bool) | int (i : Int) | str (x : Str) | byt (b : Array UInt8) | flt (b : UInt64) | ref (a : Addr) | ty (n : String)
  deriving DecidableEq

def RelV : V → Value → Prop
  | .non, u => u = Value.none
  | .bl b, u => u = Value.bool b
  | .int i, u => ∃ t, u = Value.int i t
  | .str x, u => ∃ t, u = Value.str x t
  | .byt b, u => ∃ t, u = Value.bytes b t
  | .flt b, u => ∃ t, u = Value.float b t
  | .ref a, u => u = Value.ref a
  | .ty n, u => u = Value.type n

abbrev Vals : List V → List Value → Prop := Paired RelV
theorem Vals.length {xs : List V} {us : List Value} (r : Vals xs us) : xs.length = us.length := Paired.length r
theorem Vals.get : ∀ {xs : List V} {us : List Value} {i : Nat} {x : V}, Vals xs us → xs[i]? = some x → ∃ u, us[i]? = some u ∧ RelV x u
  | _, _, _, _, .nil, e => by simp at e
  | _, _, 0, _, .cons r _, e => by simp at e; subst e; exact ⟨_, rfl, r⟩
  | _, _, i + 1, x, .cons _ t, e => by
    obtain ⟨u, h1, h2⟩ := Vals.get (i := i) (x := x) t (by simpa using e)
    exact ⟨u, by simpa using h1, h2⟩
theorem Vals.append : ∀ {xs ys : List V} {us ws : List Value}, Vals xs us → Vals ys ws → Vals (xs ++ ys) (us ++ ws)
  | _, _, _, _, .nil, s => s
  | _, _, _, _, .cons r t, s => .cons r (Vals.append t s)
theorem Vals.take : ∀ {xs : List V} {us : List Value} (n : Nat), Vals xs us → Vals (xs.take n) (us.take n)
  | _, _, 0, _ => .nil
  | _, _, _ + 1, .nil => .nil
  | _, _, n + 1, .cons r t => .cons r (Vals.take n t)
theorem Vals.drop : ∀ {xs : List V} {us : List Value} (n : Nat), Vals xs us → Vals (xs.drop n) (us.drop n)
  | _, _, 0, r => r
  | _, _, _ + 1, .nil => .nil
  | _, _, n + 1, .cons _ t => Vals.drop n t

def RelO : Option V → Option Value → Prop
  | some v, some u => RelV v u
  | none, none => True
  | _, _ => False
def KV {κ : Type} : List (κ × V) → List (κ × Value) → Prop := Paired fun (p : κ × V) (q : κ × Value) => p.1 = q.1 ∧ RelV p.2 q.2

/-- a key of a dict (00_mix): an int or a text -/
def kV : Key → V
  | .inl i => .int i
  | .inr x => .str x

/-- what stands at a tracked address -/
inductive HO where
  /-- a list -/
  | lst (xs : List V)
  /-- a tuple (never changes) -/
  | tup (xs : List V)
  /-- a dict whose keys are ints and texts; one whose keys are tuples of ints and texts (the empty one is both) -/
  | dK (kvs : List (Key × V)) | dT (kvs : List (List Key × V))
  /-- a set of ints: its members, its size -/
  | set (S : Int → Bool) (n : Nat)
  /-- an instance of the class at C, its dict at dx, its attributes -/
  | ins (C dx : Addr) (fs : List (Str × V))
  /-- the dict of the instance at x -/
  | own (x : Addr)
  /-- the dict of an exception -/
  | xd (fs : List (Str × V))
  /-- a bound method, f of x -/
  | met (f x : Addr)
  /-- a range object lo, lo + 1, .. below hi -/
  | rng (lo hi : Int)
  /-- a thing that is known to the object (the script; a dict while a loop walks it): read, never written while it is so -/
  | frz (o : Obj) (u : HO)
  /-- a code object's table -/
  | tbl (ps : Array Value)
  /-- any other thing, by what is true of its one object (a def of one's own: SetO a S n := HO.ext fun h => ..) -/
  | ext (φ : Heap → Prop)

abbrev Hp := Addr → Option HO
def upd (H : Hp) (a : Addr) (o : HO) : Hp := fun b => if b = a then some o else H b
theorem upd_same {H : Hp} {a : Addr} {o : HO} : upd H a o a = some o := by unfold upd; rw [if_pos rfl]
theorem upd_ne {H : Hp} {a b : Addr} {o : HO} (h : b ≠ a) : upd H a o b = H b := by unfold upd; rw [if_neg h]
theorem upd_upd {H : Hp} {a : Addr} {o u : HO} : upd (upd H a o) a u = upd H a u := by
  funext b; unfold upd; split <;> rfl
/-- two objects of different content stand apart -/
theorem ne_of {H : Hp} {a b : Addr} {o u : HO} (h : H a = some o) (h' : H b = some u) (d : o ≠ u) : a ≠ b := by
  intro e; subst e; rw [h] at h'; exact d (Option.some.inj h')
theorem ne_of_none {H : Hp} {a b : Addr} {o : HO} (h : H a = some o) (h' : H b = none) : a ≠ b := by
  intro e; subst e; rw [h] at h'; cases h'

section
variable (P : Program) (w : World)
def ObjOk (H : Hp) (h : Heap) (a : Addr) : HO → Prop
  | .lst xs => xs.length ≤ sizeLine ∧ ∃ (its : List Value) (n : Nat), Vals xs its ∧ h.get? a = some { cls := .type "list", data := .seq its.toArray n }
  | .tup xs => xs.length ≤ sizeLine ∧ ∃ its : List Value, Vals xs its ∧ IsTup h a its.toArray
  | .dK kvs => kvs.length ≤ sizeLine ∧ (a == sysModules) = false ∧ ∃ vs, KV kvs vs ∧ h.DictOf (mixKind P w) a vs
  | .dT kvs => kvs.length ≤ sizeLine ∧ (a == sysModules) = false ∧ ∃ xs : List (List Key × Addr × Value),
      Paired (fun (p : List Key × V) (q : List Key × Addr × Value) => p.1 = q.1 ∧ H q.2.1 = some (.tup (p.1.map kV)) ∧ RelV p.2 q.2.2) kvs xs ∧
      ∃ o es ep, h.get? a = some o ∧ o.ExactDict ∧ o.data = .dict es ep ∧ es.toList = xs.map (entryOfKey (tupleKind (mixKind P w))) ∧ (xs.map (·.1)).Nodup
  | .set S n => h.SetOf (intKind P w) a S n
  | .ins C dx fs => H dx = some (.own a) ∧ fs.length ≤ 1000 ∧ dx ≠ a ∧ h.get? a = some (PySem.W.instObj C dx) ∧
      ∃ mA, h.Ns1 dx mA ∧ (∀ f, RelO (fs.lookup f) (mA f)) ∧ PySem.Within mA (fs.map (·.1))
  | .own _ => ∃ o, h.get? a = some o
  | .xd fs => ∃ mA, h.Ns1 a mA ∧ ∀ f, RelO (fs.lookup f) (mA f)
  | .rng lo hi => ∃ t u v, h.get? a = some { cls := .type "range", data := .fields #[.int lo t, .int hi u, .int 1 v] }
  | .frz o u => h.get? a = some o ∧ ObjOk H h a u
  | .tbl ps => h.get? a = some { cls := .none, data := .fields ps }
  | .met f x => h.get? a = some (PySem.W.methodObj (.ref f) (.ref x))
  | .ext φ => φ h ∧ (∃ o, h.get? a = some o) ∧ ∀ h1 h2 : Heap, φ h1 → (∀ o, h1.get? a = some o → h2.get? a = some o) → φ h2
/-- the abstract heap is held -/
def HOk (H : Hp) (h : Heap) : Prop := ∀ a o, H a = some o → ObjOk P w H h a o
end

section
variable {P : Program} {w : World} {H H' : Hp} {h h' : Heap} {a : Addr} {o : HO}
theorem ObjOk.lt (x : ObjOk P w H h a o) : a < h.objs.size := by
  cases o with
  | lst xs => obtain ⟨_, _, _, _, e⟩ := x; exact Heap.lt_size e
  | tup xs => obtain ⟨_, _, _, p⟩ := x; exact p.lt
  | dK kvs => obtain ⟨_, _, _, _, o, _, _, e, _⟩ := x; exact Heap.lt_size e
  | dT kvs => obtain ⟨_, _, _, _, o, _, _, e, _⟩ := x; exact Heap.lt_size e
  | set S n => obtain ⟨o, _, _, _, e, _⟩ := x; exact Heap.lt_size e
  | ins C dx fs => obtain ⟨_, _, _, e, _⟩ := x; exact Heap.lt_size e
  | own y => obtain ⟨_, e⟩ := x; exact Heap.lt_size e
  | xd fs => obtain ⟨_, ⟨_, _, _, e, _⟩, _⟩ := x; exact Heap.lt_size e
  | rng lo hi => obtain ⟨_, _, _, e⟩ := x; exact Heap.lt_size e
  | frz ob u => obtain ⟨e, _⟩ := x; exact Heap.lt_size e
  | tbl ps => exact Heap.lt_size (show h.get? a = some _ from x)
  | met f y => exact Heap.lt_size (show h.get? a = some _ from x)
  | ext φ => obtain ⟨_, ⟨_, e⟩, _⟩ := x; exact Heap.lt_size e
theorem Paired.mapP {α β : Type} {F G : α → β → Prop} : ∀ {l₁ : List α} {l₂ : List β}, Paired F l₁ l₂ → (∀ a b, F a b → G a b) → Paired G l₁ l₂
  | _, _, .nil, _ => .nil
  | _, _, .cons r t, f => .cons (f _ _ r) (Paired.mapP t f)
/-- what an object's description leans on: its own object, its own dict, the tuples -/
theorem ObjOk.stay (x : ObjOk P w H h a o) (k : ∀ b u, (b = a ∨ H b = some (.own a)) → h.get? b = some u → h'.get? b = some u)
    (ho : ∀ b, H b = some (.own a) → H' b = some (.own a)) (ht : ∀ b xs, H b = some (.tup xs) → H' b = some (.tup xs)) : ObjOk P w H' h' a o := by
  induction o with
  | lst xs => obtain ⟨z, its, n, r, e⟩ := x; exact ⟨z, its, n, r, k _ _ (.inl rfl) e⟩
  | tup xs => obtain ⟨z, its, r, ob, e, c⟩ := x; exact ⟨z, its, r, ob, k _ _ (.inl rfl) e, c⟩
  | dK kvs => obtain ⟨z, y, vs, r, ob, es, ep, e, c⟩ := x; exact ⟨z, y, vs, r, ob, es, ep, k _ _ (.inl rfl) e, c⟩
  | dT kvs =>
    obtain ⟨z, y, xs, r, ob, es, ep, e, c⟩ := x
    exact ⟨z, y, xs, Paired.mapP r fun p q z => ⟨z.1, ht _ _ z.2.1, z.2.2⟩, ob, es, ep, k _ _ (.inl rfl) e, c⟩
  | set S n => obtain ⟨ob, es, ep, t, e, c⟩ := x; exact ⟨ob, es, ep, t, k _ _ (.inl rfl) e, c⟩
  | ins C dx fs =>
    obtain ⟨d, z, ne, e, mA, ⟨od, es, ep, e2, c⟩, r⟩ := x
    exact ⟨ho _ d, z, ne, k _ _ (.inl rfl) e, mA, ⟨od, es, ep, k _ _ (.inr d) e2, c⟩, r⟩
  | own y => obtain ⟨ob, e⟩ := x; exact ⟨ob, k _ _ (.inl rfl) e⟩
  | xd fs => obtain ⟨mA, ⟨od, es, ep, e, c⟩, r⟩ := x; exact ⟨mA, ⟨od, es, ep, k _ _ (.inl rfl) e, c⟩, r⟩
  | rng lo hi => obtain ⟨t, u, v, e⟩ := x; exact ⟨t, u, v, k _ _ (.inl rfl) e⟩
  | frz ob u ih => obtain ⟨e, q⟩ := x; exact ⟨k _ _ (.inl rfl) e, ih q⟩
  | tbl ps =>
    have e : h.get? a = some { cls := .none, data := .fields ps } := x
    show h'.get? a = some { cls := .none, data := .fields ps }
    exact k a _ (.inl rfl) e
  | met f y =>
    have e : h.get? a = some (PySem.W.methodObj (.ref f) (.ref y)) := x
    show h'.get? a = some (PySem.W.methodObj (.ref f) (.ref y))
    exact k a _ (.inl rfl) e
  | ext φ => obtain ⟨p, ⟨o, e⟩, st⟩ := x; exact ⟨st _ _ p fun o q => k _ _ (.inl rfl) q, ⟨o, k _ _ (.inl rfl) e⟩, st⟩
theorem HOk.lt (x : HOk P w H h) (e : H a = some o) : a < h.objs.size := (x a o e).lt
theorem HOk.fresh (x : HOk P w H h) (e : h.objs.size ≤ a) : H a = none := by
  cases q : H a with
  | none => rfl
  | some u => exact absurd (Nat.lt_of_lt_of_le (x.lt q) e) (Nat.lt_irrefl _)
/-- every object of the heap is kept -/
theorem HOk.kept (x : HOk P w H h) (k : ∀ b u, h.get? b = some u → h'.get? b = some u) : HOk P w H h' := fun a o e =>
  (x a o e).stay (fun b u _ q => k b u q) (fun _ q => q) fun _ _ q => q
/-- a new object is laid and tracked -/
theorem HOk.laid (x : HOk P w H h) (k : ∀ b u, h.get? b = some u → h'.get? b = some u) (hp : h.objs.size ≤ a) (new : ObjOk P w (upd H a o) h' a o) : HOk P w (upd H a o) h' := fun b u e => by
  have hn := x.fresh hp
  by_cases hb : b = a
  · subst hb; rw [upd_same] at e; cases e; exact new
  · rw [upd_ne hb] at e
    exact (x b u e).stay (fun c v _ q => k c v q) (fun c q => by rw [upd_ne (ne_of_none q hn)]; exact q) fun c xs q => by rw [upd_ne (ne_of_none q hn)]; exact q
end

/-- what may be read as u: it is u, or a known u -/
def Rd (H : Hp) (a : Addr) (u : HO) : Prop := H a = some u ∨ ∃ o, H a = some (.frz o u)
theorem Rd.ok {P : Program} {w : World} {H : Hp} {h : Heap} {a : Addr} {u : HO} (r : Rd H a u) (x : HOk P w H h) : ObjOk P w H h a u := by
  rcases r with r | ⟨o, r⟩
  · exact x a u r
  · obtain ⟨_, q⟩ := x a _ r
    exact q
/-- what may be written -/
def Mut : Option HO → Prop
  | some (.lst _) => True
  | some (.dK _) => True
  | some (.dT _) => True
  | some (.set _ _) => True
  | some (.ins _ _ _) => True
  | some (.ext _) => True
  | _ => False
section
variable {P : Program} {w : World} {H : Hp} {h h' : Heap} {x e : Addr} {o' : HO}
/-- the object at e is changed: x itself, or the dict of the instance x -/
theorem HOk.write (ok : HOk P w H h) (mu : Mut (H x)) (he : e = x ∨ H e = some (.own x)) (k : ∀ b u, b ≠ e → h.get? b = some u → h'.get? b = some u) (heo : ∃ u, h'.get? e = some u)
    (new : ObjOk P w (upd H x o') h' x o') : HOk P w (upd H x o') h' := fun b u q => by
  have nown : ∀ c y, H c = some (.own y) → c ≠ x := fun c y r z => by subst z; rw [r] at mu; exact mu
  have ntup : ∀ c xs, H c = some (.tup xs) → c ≠ x := fun c xs r z => by subst z; rw [r] at mu; exact mu
  by_cases hb : b = x
  · subst hb; rw [upd_same] at q; cases q; exact new
  · rw [upd_ne hb] at q
    by_cases hbe : b = e
    · have q' : H b = some (.own x) := by
        rcases he with z | z
        · exact absurd (hbe.trans z) hb
        · rw [hbe]; exact z
      rw [q] at q'; cases q'
      obtain ⟨v, hv⟩ := heo
      exact ⟨v, by rw [hbe]; exact hv⟩
    · refine (ok b u q).stay (fun c v hc r => k c v ?_ r) (fun c r => by rw [upd_ne (nown c b r)]; exact r) fun c xs r => by rw [upd_ne (ntup c xs r)]; exact r
      rcases hc with rfl | hc
      · exact hbe
      · rintro rfl
        rcases he with z | z
        · exact nown c b hc z
        · rw [hc] at z; cases z; exact hb rfl
end

/-! ### kept unless tracked; of the frames at fs (the callers') the slots may change (an exception that passes writes there); of the records at ex (iterators) nothing is said -/
structure Un (fs ex : List Addr) (H H' : Hp) (h h' : Heap) : Prop where
  keep : ∀ b o, h.get? b = some o → H b = none → b ∉ fs → b ∉ ex → h'.get? b = some o
  slot : ∀ b o, h.get? b = some o → H b = none → b ∈ fs → b ∉ ex → ∃ sl, h'.get? b = some { o with slots := sl }
  free : ∀ b o, h.get? b = some o → H b = none → b ∉ ex → H' b = none
  there : ∀ b o, h.get? b = some o → b ∉ ex → ∃ o', h'.get? b = some o'
  tups : ∀ b xs, H b = some (.tup xs) → H' b = some (.tup xs)
  frzs : ∀ b o u, H b = some (.frz o u) → H' b = some (.frz o u)
  tbls : ∀ b ps, H b = some (.tbl ps) → ∃ more, H' b = some (.tbl (ps ++ more))
section
variable {fs fs' ex ex' : List Addr} {H H1 H2 : Hp} {h h1 h2 h' : Heap} {a x e : Addr} {o : HO}
theorem Un.any (u : Un fs ex H H1 h h1) {b : Addr} {ob : Obj} (q : h.get? b = some ob) (n : H b = none) (hx : b ∉ ex) : ∃ sl, h1.get? b = some { ob with slots := sl } := by
  by_cases hb : b ∈ fs
  · exact u.slot b ob q n hb hx
  · exact ⟨ob.slots, u.keep b ob q n hb hx⟩
theorem Un.kept (k : ∀ b u, h.get? b = some u → h'.get? b = some u) : Un fs ex H H h h' :=
  ⟨fun b ob q _ _ _ => k b ob q, fun b ob q _ _ _ => ⟨ob.slots, k b ob q⟩, fun _ _ _ n _ => n, fun b ob q _ => ⟨ob, k b ob q⟩, fun _ _ q => q, fun _ _ _ q => q, fun _ ps q => ⟨#[], by rw [q]; simp⟩⟩
theorem Un.refl : Un fs ex H H h h := Un.kept fun _ _ q => q
theorem Un.laid (k : ∀ b u, h.get? b = some u → h'.get? b = some u) (hp : h.objs.size ≤ a) (hn : H a = none) : Un fs ex H (upd H a o) h h' where
  keep := fun b u q _ _ _ => k b u q
  slot := fun b u q _ _ _ => ⟨u.slots, k b u q⟩
  free := fun b u q n _ => by rw [upd_ne (Nat.ne_of_lt (Nat.lt_of_lt_of_le (Heap.lt_size q) hp))]; exact n
  there := fun b u q _ => ⟨u, k b u q⟩
  tups := fun b xs q => by rw [upd_ne (ne_of_none q hn)]; exact q
  frzs := fun b u xs q => by rw [upd_ne (ne_of_none q hn)]; exact q
  tbls := fun b ps q => ⟨#[], by rw [upd_ne (ne_of_none q hn), q]; simp⟩
theorem Un.write (mu : Mut (H x)) (he : e = x ∨ H e = some (.own x)) (k : ∀ b u, b ≠ e → h.get? b = some u → h'.get? b = some u) (heo : ∃ u, h'.get? e = some u) : Un fs ex H (upd H x o) h h' := by
  have hx : ∀ b, H b = none → b ≠ x := fun b n z => by subst z; rw [n] at mu; exact mu
  have hb : ∀ b, H b = none → b ≠ e := fun b n z => by
    subst z
    rcases he with r | r
    · exact hx b n r
    · rw [n] at r; cases r
  have hm : ∀ b u, H b = some u → ¬ Mut (some u) → b ≠ x := fun b u q nm z => by subst z; rw [q] at mu; exact nm mu
  refine ⟨fun b u q n _ _ => k b u (hb b n) q, fun b u q n _ _ => ⟨u.slots, k b u (hb b n) q⟩, fun b u q n _ => by rw [upd_ne (hx b n)]; exact n, fun b u q _ => ?_,
    fun b xs q => by rw [upd_ne (hm b _ q fun z => z)]; exact q, fun b u xs q => by rw [upd_ne (hm b _ q fun z => z)]; exact q, fun b ps q => ⟨#[], by rw [upd_ne (hm b _ q fun z => z), q]; simp⟩⟩
  by_cases hbe : b = e
  · subst hbe; exact heo
  · exact ⟨u, k b u hbe q⟩
end

/-! ### the heap without what is tracked -/
def trk (h : Heap) (H : Hp) : List Addr := (List.range h.objs.size).filter fun a => (H a).isSome
def hidT (h : Heap) (H : Hp) : Heap := PySem.W.hideAll h (trk h H)
theorem hidT_size (h : Heap) (H : Hp) : (hidT h H).objs.size = h.objs.size := PySem.W.hideAll_size _ _
theorem hidT_get {h : Heap} {H : Hp} {b : Addr} {o : Obj} (e : h.get? b = some o) (n : H b = none) : (hidT h H).get? b = some o :=
  PySem.W.hideAll_get _ e fun hm => by
    have q : (H b).isSome = true := (List.mem_filter.mp hm).2
    rw [n] at q; simp at q
theorem of_hidT {h : Heap} {H : Hp} {b : Addr} {o : Obj} (e : (hidT h H).get? b = some o) : h.get? b = some o ∧ H b = none := by
  have e' : h.get? b = some o := PySem.W.of_hideAll (trk h H) e
  refine ⟨e', ?_⟩
  cases q : H b with
  | none => rfl
  | some x =>
    have hm : b ∈ trk h H := List.mem_filter.mpr ⟨List.mem_range.mpr (Heap.lt_size e'), by simp [q]⟩
    have z : (hidT h H).get? b = none := PySem.W.hideAll_none (trk h H) hm
    rw [z] at e; cases e

/-! ### OpenK's ledger, filled with every new object but one -/
end L2

namespace L2
open PySem PySem.Spec PyProof.Rows

/-- the module's facts, over the base: the heap at the law's entry without what is tracked there -/
structure Mod (K : PySem.W.Frag) (mg : Str → Option Value) (base : Heap) : Prop where
  kin : K.In base
  glob : base.Ns mainGlobals mg
  blt : ∃ mb, base.Ns builtinsNs mb ∧ ∀ x : Str, x ≠ "__name__" → mb x = bootBuiltins x
  nolimit : base.NoLimit

/-- the context: a def's body (or a comprehension's block) running. base: fixed through the whole law; s₀, H₀: the entry; outer: the frames whose slots others may change (a def's callers); stack: all frames that run;
   ex: iterators that were made ahead of the entry and are walked here (a comprehension's); fn: the names whose cells were made at the entry (a def: all; a comprehension's block: its own); calm: not within an except suite; pn: pins that every state bears; xe: what is wanted of an exception that leaves the code -/
structure Cx where
  prog : Program
  w : World
  K : PySem.W.Frag
  mg : Str → Option Value
  base : Heap
  A : Around
  N : List Str
  s₀ : Shared
  H₀ : Hp
  env : Env
  outer : List Env
  stack : List Env
  ex : List Addr
  fn : Str → Bool
  calm : Bool
  pn : List (Addr × Obj)
  xe : Value → Shared → Prop
/-- the callers' frames -/
def frs (l : List Env) : List Addr := l.filterMap (·.frame)
abbrev Cx.fs (X : Cx) : List Addr := frs X.outer

def Vis (sc : Scope) (x : Str) : Prop := sc.names.lookup x = some .local ∨ sc.names.lookup x = some .cell ∨ sc.names.lookup x = some .free
def Loc (sc : Scope) (x : Str) : Prop := sc.names.lookup x = some .local ∨ sc.names.lookup x = some .cell
def Look (env : Env) (h : Heap) (m : Str → Option Value) (x : Str) (u : Value) : Prop :=
  (env.kindOf x = some .local ∧ m x = some u) ∨ ((env.kindOf x = some .cell ∨ env.kindOf x = some .free) ∧ ∃ c, env.cells.lookup x = some c ∧ h.IsCell c (some u))

structure Cx.Ok (X : Cx) : Prop where
  mod : Mod X.K X.mg X.base
  kind : X.env.scope.kind = .function
  glob : X.env.globals = mainGlobals
  blt : X.env.builtins = builtinsNs
  above : X.s₀.heap.objs.size ≤ X.env.locals
  inj : ∀ x y c, X.env.cells.lookup x = some c → X.env.cells.lookup y = some c → x = y
  has : ∀ x, (X.env.kindOf x = some .cell ∨ X.env.kindOf x = some .free) → ∃ c, X.env.cells.lookup x = some c
  cab : ∀ x c, X.fn x = true → X.env.cells.lookup x = some c → X.s₀.heap.objs.size ≤ c
  hd : X.calm = true → X.A.handled = none
  frames : X.A.frames = some X.stack
  stk : X.stack = X.outer ∨ (X.stack = X.env :: X.outer ∧ X.env.frame = some X.env.locals)
  exf : ∀ b ∈ X.ex, b ≠ X.env.locals ∧ ∀ x c, X.env.cells.lookup x = some c → c ≠ b
  bs : ∀ b o, X.base.get? b = some o → X.s₀.heap.get? b = some o ∧ X.H₀ b = none
  bsz : X.base.objs.size ≤ X.s₀.heap.objs.size
  noex : ∀ b o, X.base.get? b = some o → b ∉ X.ex
  exfs : ∀ b ∈ X.ex, b ∉ X.fs
  funs : X.s₀.heap.FunFrames X.base X.outer
  frf : ∀ b ∈ X.fs, X.H₀ b = none

structure Inv (X : Cx) (pins : List (Addr × Obj)) (σ : List (Option V)) (H : Hp) (s : Shared) : Prop where
  ok : X.Ok
  os : s.os = X.s₀.os
  bare : AllBare s.gens
  base : Un X.fs X.ex X.H₀ H X.s₀.heap s.heap
  loc : ∃ m, s.heap.Ns X.env.locals m ∧ ∀ (i : Nat) (x : Str) (v : V), X.N[i]? = some x → σ[i]? = some (some v) → Vis X.env.scope x → ∃ u, RelV v u ∧ Look X.env s.heap m x u
  cell : ∀ x c, X.env.cells.lookup x = some c → ∃ v, s.heap.IsCell c v
  free : H X.env.locals = none
  freeC : ∀ x c, X.env.cells.lookup x = some c → H c = none
  pin : ∀ p ∈ X.pn ++ pins, s.heap.get? p.1 = some p.2 ∧ H p.1 = none ∧ p.1 ≠ X.env.locals ∧ p.1 ∉ X.fs ∧ ∀ v, p.2.data ≠ .cell v
  hok : HOk X.prog X.w H s.heap
  len : σ.length = X.N.length

section
variable {X : Cx} {pins : List (Addr × Obj)} {σ : List (Option V)} {H H' : Hp} {s : Shared} {h' : Heap}

theorem Cx.Ok.nofr (ok : X.Ok) {b : Addr} {o : Obj} (e : X.base.get? b = some o) : b ∉ X.fs := fun hb => by
  have := (ok.funs.mem hb).1
  rw [e] at this; cases this
theorem Inv.bs (I : Inv X pins σ H s) : ∀ b o, X.base.get? b = some o → s.heap.get? b = some o ∧ H b = none := fun b o e =>
  ⟨I.base.keep b o (I.ok.bs b o e).1 (I.ok.bs b o e).2 (I.ok.nofr e) (I.ok.noex b o e), I.base.free b o (I.ok.bs b o e).1 (I.ok.bs b o e).2 (I.ok.noex b o e)⟩
theorem Inv.bk (I : Inv X pins σ H s) : ∀ b o, X.base.get? b = some o → s.heap.get? b = some o := fun b o e => (I.bs b o e).1
theorem Inv.mod (I : Inv X pins σ H s) : Mod X.K X.mg X.base := I.ok.mod
theorem Inv.kIn (I : Inv X pins σ H s) : X.K.In s.heap := I.ok.mod.kin.keeps I.bk
theorem Inv.lt (I : Inv X pins σ H s) : X.env.locals < s.heap.objs.size := let ⟨_, hn, _⟩ := I.loc; hn.lt
theorem Inv.sz (I : Inv X pins σ H s) : X.s₀.heap.objs.size ≤ s.heap.objs.size := Nat.le_trans I.ok.above (Nat.le_of_lt I.lt)
theorem Inv.nofs (I : Inv X pins σ H s) {a : Addr} (h : s.heap.objs.size ≤ a) : a ∉ X.fs := fun hb => by
  obtain ⟨_, o, ho, _⟩ := I.ok.funs.mem hb
  exact absurd (Nat.lt_of_lt_of_le (Heap.lt_size ho) (Nat.le_trans I.sz h)) (Nat.lt_irrefl _)
theorem Inv.cne (I : Inv X pins σ H s) : ∀ x c, X.env.cells.lookup x = some c → c ≠ X.env.locals := fun x c e z => by
  obtain ⟨v, o, ho, hd⟩ := I.cell x c e
  obtain ⟨m, ⟨o', es, ep, ho', hd', _⟩, _⟩ := I.loc
  rw [z, ho'] at ho; cases ho; rw [hd'] at hd; cases hd
theorem Inv.funs (I : Inv X pins σ H s) : s.heap.FunFrames X.base X.outer := by
  have all : ∀ (l : List Env), (∀ b ∈ frs l, b ∈ X.fs) → X.s₀.heap.FunFrames X.base l → s.heap.FunFrames X.base l := by
    intro l
    induction l with
    | nil => intro _ _; trivial
    | cons env r ih =>
      intro hs hl
      obtain ⟨hk, ⟨L, o, hf, hn, ho, hd⟩, hr⟩ := hl
      have hL : L ∈ X.fs := hs L (by unfold frs; rw [List.filterMap_cons, hf]; exact List.mem_cons_self)
      obtain ⟨sl, e⟩ := I.base.slot L o ho (I.ok.frf L hL) hL fun z => I.ok.exfs L z hL
      exact ⟨hk, ⟨L, _, hf, hn, e, hd⟩, ih (fun b hb => hs b (by unfold frs; rw [List.filterMap_cons, hf]; exact List.mem_cons_of_mem _ hb)) hr⟩
  exact all X.outer (fun _ hb => hb) I.ok.funs

/-- the frames that run, for a call -/
theorem Inv.stack (I : Inv X pins σ H s) : s.heap.FunFrames X.base X.stack := by
  rcases I.ok.stk with e | ⟨e, hf⟩
  · rw [e]; exact I.funs
  · rw [e]
    obtain ⟨m, hn, _⟩ := I.loc
    refine .cons (by rw [I.ok.kind]; decide) hf hn ?_ I.funs
    exact Heap.get?_none_of_le (Nat.le_trans I.ok.bsz I.ok.above)
theorem Inv.stkSub (I : Inv X pins σ H s) : ∀ b ∈ frs X.stack, b ∈ X.env.locals :: X.fs := fun b hb => by
  rcases I.ok.stk with e | ⟨e, hf⟩
  · rw [e] at hb; exact List.mem_cons_of_mem _ hb
  · rw [e] at hb
    unfold frs at hb
    rw [List.filterMap_cons, hf] at hb
    exact hb
theorem Inv.stkFree (I : Inv X pins σ H s) : ∀ b ∈ frs X.stack, H b = none := fun b hb => by
  rcases List.mem_cons.mp (I.stkSub b hb) with e | hb
  · rw [e]; exact I.free
  · obtain ⟨_, o, ho, _⟩ := I.ok.funs.mem hb
    exact I.base.free b o ho (I.ok.frf b hb) fun z => I.ok.exfs b z hb

/-- THE STEP: the untracked objects but the frame and the records at ch are kept (the callers' frames up to slots), the frame's map is kept, the new abstract heap is held -/
theorem Inv.step {g' : Array GenState} {t' : Nat} {d' : Drawn} {ch : List Addr} (I : Inv X pins σ H s)
    (hch : ∀ b ∈ ch, (b ∈ X.ex ∨ X.s₀.heap.objs.size ≤ b) ∧ b ≠ X.env.locals ∧ (∀ x c, X.env.cells.lookup x = some c → c ≠ b) ∧ ∀ p ∈ X.pn ++ pins, p.1 ≠ b)
    (keep : ∀ b o, b ≠ X.env.locals → b ∉ X.fs → b ∉ ch → s.heap.get? b = some o → H b = none → h'.get? b = some o)
    (slot : ∀ b o, b ≠ X.env.locals → b ∈ X.fs → b ∉ ch → s.heap.get? b = some o → H b = none → ∃ sl, h'.get? b = some { o with slots := sl }) (free : ∀ b o, b ∉ ch → s.heap.get? b = some o → H b = none → H' b = none)
    (there : ∀ b o, b ∉ ch → s.heap.get? b = some o → ∃ o', h'.get? b = some o')
    (tups : ∀ b xs, H b = some (.tup xs) → H' b = some (.tup xs)) (frzs : ∀ b o u, H b = some (.frz o u) → H' b = some (.frz o u)) (tbls : ∀ b ps, H b = some (.tbl ps) → ∃ more, H' b = some (.tbl (ps ++ more)))
    (ns : ∀ m, s.heap.Ns X.env.locals m → h'.Ns X.env.locals m) (hok : HOk X.prog X.w H' h') (hg : AllBare g') :
    Inv X pins σ H' { s with heap := h', gens := g', drawn := d', toks := t' } := by
  have neL : ∀ b o, X.s₀.heap.get? b = some o → b ≠ X.env.locals := fun b o e => Nat.ne_of_lt (Nat.lt_of_lt_of_le (Heap.lt_size e) I.ok.above)
  have neC : ∀ b o, X.s₀.heap.get? b = some o → b ∉ X.ex → b ∉ ch := fun b o e hx hb => by
    rcases (hch b hb).1 with z | z
    · exact hx z
    · exact absurd (Nat.lt_of_lt_of_le (Heap.lt_size e) z) (Nat.lt_irrefl _)
  have cellK : ∀ x c, X.env.cells.lookup x = some c → ∀ v, s.heap.IsCell c v → h'.IsCell c v := fun x c e v ⟨o, ho, hd⟩ => by
    have nch : c ∉ ch := fun z => (hch c z).2.2.1 x c e rfl
    by_cases hc : c ∈ X.fs
    · obtain ⟨sl, q⟩ := slot c o (I.cne x c e) hc nch ho (I.freeC x c e)
      exact ⟨_, q, hd⟩
    · exact ⟨o, keep c o (I.cne x c e) hc nch ho (I.freeC x c e), hd⟩
  refine ⟨I.ok, I.os, hg, ⟨fun b o e n hb hx => ?_, fun b o e n hb hx => ?_, fun b o e n hx => ?_, fun b o e hx => ?_, fun b xs e => tups b xs (I.base.tups b xs e), fun b o xs e => frzs b o xs (I.base.frzs b o xs e), fun b ps e => ?_⟩, ?_, fun x c e => ?_, ?_, fun x c e => ?_, fun p hp => ?_, hok, I.len⟩
  · exact keep b o (neL b o e) hb (neC b o e hx) (I.base.keep b o e n hb hx) (I.base.free b o e n hx)
  · obtain ⟨sl, e1⟩ := I.base.slot b o e n hb hx
    obtain ⟨sl', e2⟩ := slot b _ (neL b o e) hb (neC b o e hx) e1 (I.base.free b o e n hx)
    exact ⟨sl', e2⟩
  · obtain ⟨o', e1⟩ := I.base.there b o e hx
    exact free b o' (neC b o e hx) e1 (I.base.free b o e n hx)
  · obtain ⟨o', e1⟩ := I.base.there b o e hx
    exact there b o' (neC b o e hx) e1
  · obtain ⟨m1, e1⟩ := I.base.tbls b ps e
    obtain ⟨m2, e2⟩ := tbls b _ e1
    exact ⟨m1 ++ m2, by rw [e2, Array.append_assoc]⟩
  · obtain ⟨m, hn, hl⟩ := I.loc
    refine ⟨m, ns m hn, fun i x v e1 e2 e3 => ?_⟩
    obtain ⟨u, r, l⟩ := hl i x v e1 e2 e3
    refine ⟨u, r, ?_⟩
    rcases l with l | ⟨k, c, e, z⟩
    · exact .inl l
    · exact .inr ⟨k, c, e, cellK x c e _ z⟩
  · obtain ⟨v, z⟩ := I.cell x c e
    exact ⟨v, cellK x c e v z⟩
  · obtain ⟨m, ⟨o, _, _, ho, _⟩, _⟩ := I.loc
    exact free _ o (fun z => (hch _ z).2.1 rfl) ho I.free
  · obtain ⟨v, o, ho, hd⟩ := I.cell x c e
    exact free c o (fun z => (hch c z).2.2.1 x c e rfl) ho (I.freeC x c e)
  · obtain ⟨e, n, ne, nf, d⟩ := I.pin p hp
    have nch : p.1 ∉ ch := fun z => (hch p.1 z).2.2.2 p hp rfl
    exact ⟨keep p.1 p.2 ne nf nch e n, free p.1 p.2 nch e n, ne, nf, d⟩
/-- .. where the frame's own object is kept too -/
theorem Inv.un {t' : Nat} (I : Inv X pins σ H s) (u : Un X.fs [] H H' s.heap h') (hok : HOk X.prog X.w H' h') : Inv X pins σ H' { s with heap := h', toks := t' } := by
  obtain ⟨m, ⟨o, es, ep, ho, r⟩, _⟩ := id I.loc
  obtain ⟨sl, hL⟩ := u.any ho I.free (by simp)
  exact I.step (g' := s.gens) (d' := s.drawn) (ch := []) (fun _ z => nomatch z) (fun b o _ hb _ e n => u.keep b o e n hb (by simp)) (fun b o _ hb _ e n => u.slot b o e n hb (by simp)) (fun b o _ e n => u.free b o e n (by simp)) (fun b o _ e => u.there b o e (by simp)) u.tups u.frzs u.tbls (fun m' hm => by
    obtain ⟨o', es', ep', ho', r'⟩ := hm
    rw [ho] at ho'; cases ho'
    exact ⟨_, es', ep', hL, r'⟩) hok I.bare
/-- behind a call (or a comprehension's block): the slots of this frame may have changed too, the records at ch may have turned -/
theorem Inv.call {g' : Array GenState} {t' : Nat} {d' : Drawn} {ch : List Addr} (I : Inv X pins σ H s) (u : Un (frs X.stack) ch H H' s.heap h') (hok : HOk X.prog X.w H' h') (hg : AllBare g')
    (hch : ∀ b ∈ ch, (b ∈ X.ex ∨ X.s₀.heap.objs.size ≤ b) ∧ b ≠ X.env.locals ∧ (∀ x c, X.env.cells.lookup x = some c → c ≠ b) ∧ ∀ p ∈ X.pn ++ pins, p.1 ≠ b) :
    Inv X pins σ H' { s with heap := h', gens := g', drawn := d', toks := t' } := by
  obtain ⟨m, ⟨o, es, ep, ho, r⟩, _⟩ := id I.loc
  obtain ⟨sl, hL⟩ := u.any ho I.free fun z => (hch _ z).2.1 rfl
  exact I.step (ch := ch) hch (fun b o hL hb hc e n => u.keep b o e n (fun z => (List.mem_cons.mp (I.stkSub b z)).elim hL hb) hc) (fun b o _ _ hc e n => u.any e n hc) (fun b o hc e n => u.free b o e n hc) (fun b o hc e => u.there b o e hc) u.tups u.frzs u.tbls (fun m' hm => by
    obtain ⟨o', es', ep', ho', r'⟩ := hm
    rw [ho] at ho'; cases ho'
    exact ⟨_, es', ep', hL, r'⟩) hok hg
/-- an untracked record of ours (an iterator) has turned -/
theorem Inv.turned {t' : Nat} {it : Addr} (I : Inv X pins σ H s) (k : ∀ b o, b ≠ it → s.heap.get? b = some o → h'.get? b = some o) (hn : H it = none) (hL : it ≠ X.env.locals)
    (h1 : it ∈ X.ex ∨ X.s₀.heap.objs.size ≤ it) (h2 : ∀ x c, X.env.cells.lookup x = some c → c ≠ it) (h3 : ∀ p ∈ X.pn ++ pins, p.1 ≠ it) : Inv X pins σ H { s with heap := h', toks := t' } := by
  have nit : ∀ b u, H b = some u → b ≠ it := fun b u e z => by rw [z, hn] at e; cases e
  refine I.step (g' := s.gens) (d' := s.drawn) (ch := [it]) (fun b hb => ?_) (fun b o _ _ hc e _ => k b o (fun z => hc (by simp [z])) e) (fun b o _ _ hc e _ => ⟨o.slots, k b o (fun z => hc (by simp [z])) e⟩) (fun _ _ _ _ n => n)
    (fun b o hc e => ⟨o, k b o (fun z => hc (by simp [z])) e⟩) (fun _ _ e => e) (fun _ _ _ e => e) (fun b ps e => ⟨#[], by rw [e]; simp⟩) (fun m hm => ?_) (fun b u e => ?_) I.bare
  · have e : b = it := by simpa using hb
    subst e
    exact ⟨h1, hL, h2, h3⟩
  · obtain ⟨o, es, ep, ho, r⟩ := hm
    exact ⟨o, es, ep, k _ o (Ne.symm hL) ho, r⟩
  · refine (I.hok b u e).stay (fun c v hc q => k c v ?_ q) (fun _ q => q) fun _ _ q => q
    rcases hc with z | z
    · rw [z]; exact nit b u e
    · exact nit c _ z
theorem Inv.tok (I : Inv X pins σ H s) (t : Nat) : Inv X pins σ H { s with toks := t } := I.un (h' := s.heap) (t' := t) Un.refl I.hok
/-- all objects kept -/
theorem Inv.kept {t' : Nat} (I : Inv X pins σ H s) (k : ∀ b u, s.heap.get? b = some u → h'.get? b = some u) : Inv X pins σ H { s with heap := h', toks := t' } := I.un (Un.kept k) (I.hok.kept k)
/-- a new object laid and tracked -/
theorem Inv.laid {a : Addr} {o : HO} {t' : Nat} (I : Inv X pins σ H s) (k : ∀ b u, s.heap.get? b = some u → h'.get? b = some u) (hp : s.heap.objs.size ≤ a) (new : ObjOk X.prog X.w (upd H a o) h' a o) :
    Inv X pins σ (upd H a o) { s with heap := h', toks := t' } := I.un (Un.laid k hp (I.hok.fresh hp)) (I.hok.laid k hp new)
/-- an object written -/
theorem Inv.write {x e : Addr} {o : HO} {t' : Nat} (I : Inv X pins σ H s) (mu : Mut (H x)) (he : e = x ∨ H e = some (.own x)) (k : ∀ b u, b ≠ e → s.heap.get? b = some u → h'.get? b = some u) (heo : ∃ u, h'.get? e = some u)
    (new : ObjOk X.prog X.w (upd H x o) h' x o) : Inv X pins σ (upd H x o) { s with heap := h', toks := t' } := I.un (Un.write mu he k heo) (I.hok.write mu he k heo new)
theorem Inv.pins_of {pins' : List (Addr × Obj)} (I : Inv X pins σ H s) (h : ∀ p ∈ pins', s.heap.get? p.1 = some p.2 ∧ H p.1 = none ∧ p.1 ≠ X.env.locals ∧ p.1 ∉ X.fs ∧ ∀ v, p.2.data ≠ .cell v) : Inv X pins' σ H s :=
  ⟨I.ok, I.os, I.bare, I.base, I.loc, I.cell, I.free, I.freeC, fun p hp => (List.mem_append.mp hp).elim (fun z => I.pin p (List.mem_append_left _ z)) (h p), I.hok, I.len⟩

theorem nodup_ix {N : List Str} (hN : N.Nodup) {i j : Nat} {x : Str} (a : N[i]? = some x) (b : N[j]? = some x) : i = j := by
  obtain ⟨h1, e1⟩ := List.getElem?_eq_some_iff.mp a
  obtain ⟨h2, e2⟩ := List.getElem?_eq_some_iff.mp b
  exact (List.getElem_inj hN).mp (e1.trans e2.symm)

/-- a name is stored; what changed -/
theorem store_ok2 {M : Model} {A : Around} {E : Value → Shared → Prop} {i : Nat} {x : Str} {v : V} {u : Value} {Q : Unit → Shared → Prop} (I : Inv X pins σ H s) (hN : X.N.Nodup) (hi : X.N[i]? = some x) (hx : Loc X.env.scope x) (r : RelV v u)
    (h : ∀ s', Inv X pins (σ.set i (some v)) H s' → (∃ a, Heap.SameBut a s.heap s'.heap ∧ (a = X.env.locals ∨ X.env.cells.lookup x = some a)) → Q () s') (hf : X.fn x = true ∨ X.env.scope.names.lookup x = some .local := by first | exact .inl rfl | exact .inr rfl | assumption) : wpAny M A (storeName X.env x u) Q E s := by
  obtain ⟨m, hn, hl⟩ := id I.loc
  have hcls : (X.env.scope.kind == .class || (X.env.scope.kind == .module && X.env.locals != X.env.globals)) = false := by rw [I.ok.kind]; rfl
  have hiσ : i < σ.length := by rw [I.len]; exact (List.getElem?_eq_some_iff.mp hi).1
  have cne := I.cne
  have tracked : ∀ {a : Addr} {h' : Heap}, (∃ o, s.heap.get? a = some o ∧ H a = none) → Heap.SameBut a s.heap h' → HOk X.prog X.w H h' := fun {a h'} ha hs b ob e => by
    obtain ⟨_, _, hfree⟩ := ha
    refine (I.hok b ob e).stay (fun c w' hc q => (hs.2 c ?_).trans q) (fun _ q => q) fun _ _ q => q
    rintro rfl
    rcases hc with rfl | hc
    · rw [hfree] at e; cases e
    · rw [hfree] at hc; cases hc
  rcases hx with hk | hk
  · refine wpAny_storeName_local hk hn (fun h' hn' hs => ?_) hcls
    obtain ⟨oL, _, _, hoL, _⟩ := id hn
    refine h _ ⟨I.ok, I.os, I.bare, ⟨fun b o e n hb hx => ?_, fun b o e n hb hx => ?_, I.base.free, fun b o e hx => ?_, I.base.tups, I.base.frzs, I.base.tbls⟩, ⟨_, hn', fun j y v' e1 e2 e3 => ?_⟩, fun y c e => ?_, I.free, I.freeC, fun p hp => ?_, tracked ⟨oL, hoL, I.free⟩ hs, by simpa using I.len⟩ ⟨_, hs, .inl rfl⟩
    · exact (hs.2 b (Nat.ne_of_lt (Nat.lt_of_lt_of_le (Heap.lt_size e) I.ok.above))).trans (I.base.keep b o e n hb hx)
    · obtain ⟨sl, e1⟩ := I.base.slot b o e n hb hx
      exact ⟨sl, (hs.2 b (Nat.ne_of_lt (Nat.lt_of_lt_of_le (Heap.lt_size e) I.ok.above))).trans e1⟩
    · obtain ⟨o', e1⟩ := I.base.there b o e hx
      exact ⟨o', (hs.2 b (Nat.ne_of_lt (Nat.lt_of_lt_of_le (Heap.lt_size e) I.ok.above))).trans e1⟩
    · by_cases hj : j = i
      · subst hj
        rw [hi] at e1; cases e1
        rw [List.getElem?_set_self hiσ] at e2
        cases e2
        exact ⟨u, r, .inl ⟨hk, by simp⟩⟩
      · rw [List.getElem?_set_ne (Ne.symm hj)] at e2
        obtain ⟨u', r', q⟩ := hl j y v' e1 e2 e3
        refine ⟨u', r', ?_⟩
        rcases q with ⟨k, e⟩ | ⟨k, c, e, z⟩
        · refine .inl ⟨k, ?_⟩
          have : y ≠ x := fun e => hj (nodup_ix hN e1 (e ▸ hi))
          simp [this, e]
        · exact .inr ⟨k, c, e, z.sameBut hs (cne y c e)⟩
    · obtain ⟨w', z⟩ := I.cell y c e
      exact ⟨w', z.sameBut hs (cne y c e)⟩
    · obtain ⟨e, n, ne, nf, d⟩ := I.pin p hp
      exact ⟨(hs.2 p.1 ne).trans e, n, ne, nf, d⟩
  · have hfn : X.fn x = true := by
      rcases hf with z | z
      · exact z
      · rw [z] at hk; cases hk
    obtain ⟨c, hc⟩ := I.ok.has x (.inl hk)
    obtain ⟨w', z⟩ := I.cell x c hc
    refine wpAny_storeName_cell I.ok.kind hk hc z (fun h' hc' hs => ?_)
    obtain ⟨oc, hoc, hocd⟩ := id z
    refine h { s with heap := h' } ⟨I.ok, I.os, I.bare, ⟨fun b o e n hb hx => ?_, fun b o e n hb hx => ?_, I.base.free, fun b o e hx => ?_, I.base.tups, I.base.frzs, I.base.tbls⟩, ⟨m, hn.sameBut hs (Ne.symm (cne x c hc)), fun j y v' e1 e2 e3 => ?_⟩, fun y c' e => ?_, I.free, I.freeC, fun p hp => ?_, tracked ⟨oc, hoc, I.freeC x c hc⟩ hs, by simpa using I.len⟩ ⟨c, hs, .inr hc⟩
    · exact (hs.2 b (Nat.ne_of_lt (Nat.lt_of_lt_of_le (Heap.lt_size e) (I.ok.cab x c hfn hc)))).trans (I.base.keep b o e n hb hx)
    · obtain ⟨sl, e1⟩ := I.base.slot b o e n hb hx
      exact ⟨sl, (hs.2 b (Nat.ne_of_lt (Nat.lt_of_lt_of_le (Heap.lt_size e) (I.ok.cab x c hfn hc)))).trans e1⟩
    · obtain ⟨o', e1⟩ := I.base.there b o e hx
      exact ⟨o', (hs.2 b (Nat.ne_of_lt (Nat.lt_of_lt_of_le (Heap.lt_size e) (I.ok.cab x c hfn hc)))).trans e1⟩
    · by_cases hj : j = i
      · subst hj
        rw [hi] at e1; cases e1
        rw [List.getElem?_set_self hiσ] at e2
        cases e2
        exact ⟨u, r, .inr ⟨.inl hk, c, hc, hc'⟩⟩
      · rw [List.getElem?_set_ne (Ne.symm hj)] at e2
        obtain ⟨u', r', q⟩ := hl j y v' e1 e2 e3
        refine ⟨u', r', ?_⟩
        rcases q with q | ⟨k, c', e, z'⟩
        · exact .inl q
        · refine .inr ⟨k, c', e, z'.sameBut hs ?_⟩
          rintro rfl
          exact hj (nodup_ix hN e1 (I.ok.inj _ _ _ e hc ▸ hi))
    · by_cases hcc : c' = c
      · subst hcc; exact ⟨_, hc'⟩
      · obtain ⟨w2, z2⟩ := I.cell y c' e
        exact ⟨w2, z2.sameBut hs hcc⟩
    · obtain ⟨e, n, ne, nf, d⟩ := I.pin p hp
      refine ⟨(hs.2 p.1 ?_).trans e, n, ne, nf, d⟩
      intro q
      rw [q, hoc] at e
      have q' : oc = p.2 := Option.some.inj e
      exact d w' (by rw [← q']; exact hocd)
theorem store_ok {M : Model} {A : Around} {E : Value → Shared → Prop} {i : Nat} {x : Str} {v : V} {u : Value} {Q : Unit → Shared → Prop} (I : Inv X pins σ H s) (hN : X.N.Nodup) (hi : X.N[i]? = some x) (hx : Loc X.env.scope x) (r : RelV v u)
    (h : ∀ s', Inv X pins (σ.set i (some v)) H s' → Q () s') (hf : X.fn x = true ∨ X.env.scope.names.lookup x = some .local := by first | exact .inl rfl | exact .inr rfl | assumption) : wpAny M A (storeName X.env x u) Q E s :=
  store_ok2 I hN hi hx r (fun s' I' _ => h s' I') hf
/-- behind a call or a block, the state as it is -/
theorem Inv.call' {s' : Shared} {ch : List Addr} (I : Inv X pins σ H s) (ho : s'.os = s.os) (u : Un (frs X.stack) ch H H' s.heap s'.heap) (hok : HOk X.prog X.w H' s'.heap) (hg : AllBare s'.gens)
    (hch : ∀ b ∈ ch, (b ∈ X.ex ∨ X.s₀.heap.objs.size ≤ b) ∧ b ≠ X.env.locals ∧ (∀ x c, X.env.cells.lookup x = some c → c ≠ b) ∧ ∀ p ∈ X.pn ++ pins, p.1 ≠ b) : Inv X pins σ H' s' := by
  obtain ⟨h', g', d', t', o'⟩ := s'
  have e : o' = s.os := ho
  subst e
  exact I.call (g' := g') (t' := t') (d' := d') u hok hg hch
end

/-! ### the judgements -/
/-- an exception: its class, its own dict's address (where it has one), the abstract heap behind it -/
abbrev XK := Value → Option Addr → Hp → Prop
abbrev St := List (Option V)
abbrev VK := V → Hp → Prop
/-- an expression's reading; a test's; an argument list's -/
abbrev TE := St → Hp → VK → Prop
abbrev TT := St → Hp → (Bool → Hp → Prop) → Prop
abbrev TA := St → Hp → (List V → Hp → Prop) → Prop
/-- what is wanted behind a statement -/
structure Ends where
  nx : St → Hp → Prop
  rt : VK
  bk : St → Hp → Prop := fun _ _ => False
  ct : St → Hp → Prop := fun _ _ => False
abbrev TS := Ends → St → Hp → Prop

def EP (X : Cx) (pins : List (Addr × Obj)) (σ : St) (Q : VK) (u : Value) (s' : Shared) : Prop := ∃ v H', Inv X pins σ H' s' ∧ RelV v u ∧ Q v H'
def TP (X : Cx) (pins : List (Addr × Obj)) (σ : St) (Q : Bool → Hp → Prop) (b : Bool) (s' : Shared) : Prop := ∃ H', Inv X pins σ H' s' ∧ Q b H'
def AP (X : Cx) (pins : List (Addr × Obj)) (σ : St) (Q : List V → Hp → Prop) (us : List Value) (s' : Shared) : Prop := ∃ vs H', Inv X pins σ H' s' ∧ Vals vs us ∧ Q vs H'
def SP (X : Cx) (pins : List (Addr × Obj)) (D : Ends) (f : Flow) (s' : Shared) : Prop :=
  match f with
  | .next => ∃ σ' H', Inv X pins σ' H' s' ∧ D.nx σ' H'
  | .brk => ∃ σ' H', Inv X pins σ' H' s' ∧ D.bk σ' H'
  | .cont => ∃ σ' H', Inv X pins σ' H' s' ∧ D.ct σ' H'
  | .ret u => ∃ v σ' H', Inv X pins σ' H' s' ∧ RelV v u ∧ D.rt v H'

def PE (X : Cx) (e : Expr) (t : TE) : Prop :=
  ∀ (pins : List (Addr × Obj)) (s : Shared) (σ : St) (H : Hp) (Q : VK), Inv X pins σ H s → t σ H Q → wpAny (model X.prog X.w) X.A (eval e X.env) (EP X pins σ Q) X.xe s
def PT (X : Cx) (e : Expr) (t : TT) : Prop :=
  ∀ (pins : List (Addr × Obj)) (s : Shared) (σ : St) (H : Hp) (Q : Bool → Hp → Prop), Inv X pins σ H s → t σ H Q → wpAny (model X.prog X.w) X.A (isTrue e X.env (eval e X.env)) (TP X pins σ Q) X.xe s
/-- a test whatever its 'whole' is (and, or) -/
def PW (X : Cx) (e : Expr) (t : TT) : Prop :=
  ∀ (whole : Sem Value) (pins : List (Addr × Obj)) (s : Shared) (σ : St) (H : Hp) (Q : Bool → Hp → Prop), Inv X pins σ H s → t σ H Q → wpAny (model X.prog X.w) X.A (isTrue e X.env whole) (TP X pins σ Q) X.xe s
theorem PW.pt {X : Cx} {e : Expr} {t : TT} (h : PW X e t) : PT X e t := h _
/-- an argument list (no star), from the left -/
def PA (X : Cx) (es : List Expr) (t : TA) : Prop :=
  ∀ (pos : Pos) (pins : List (Addr × Obj)) (s : Shared) (σ : St) (H : Hp) (Q : List V → Hp → Prop), Inv X pins σ H s → t σ H Q → wpAny (model X.prog X.w) X.A (spliced (backTo pos (starEach es X.env))) (AP X pins σ Q) X.xe s
def PS (X : Cx) (st : Stmt) (t : TS) : Prop :=
  ∀ (pins : List (Addr × Obj)) (s : Shared) (σ : St) (H : Hp) (D : Ends), Inv X pins σ H s → t D σ H → wpAny (model X.prog X.w) X.A (exec st X.env) (SP X pins D) X.xe s
def PSs (X : Cx) (st : List Stmt) (t : TS) : Prop :=
  ∀ (pins : List (Addr × Obj)) (s : Shared) (σ : St) (H : Hp) (D : Ends), Inv X pins σ H s → t D σ H → wpAny (model X.prog X.w) X.A (execs st X.env) (SP X pins D) X.xe s
/-- weaken the end -/
theorem thn {α : Type} {t : Sem α} {Q Q' : α → Shared → Prop} {M : Model} {A : Around} {E : Value → Shared → Prop} {s : Shared} (h : wpAny M A t Q E s) (hQ : ∀ a s, Q a s → Q' a s) : wpAny M A t Q' E s := wpAny_mono h hQ fun _ _ x => x
end L2

namespace L2
open PySem PySem.Spec PyProof.Rows
section
variable {X : Cx}

/-- two expressions in a row -/
theorem bin {a b : Expr} {ta tb : TE} (ha : PE X a ta) (hb : PE X b tb) {pins : List (Addr × Obj)} {s : Shared} {σ : St} {H : Hp} {R : V → V → Hp → Prop} (I : Inv X pins σ H s) (h : ta σ H fun x H1 => tb σ H1 fun y H2 => R x y H2)
    {α : Type} {Q : α → Shared → Prop} {f : Value → Value → Sem α}
    (hf : ∀ v u s2 x y H2, Inv X pins σ H2 s2 → RelV x v → RelV y u → R x y H2 → wpAny (model X.prog X.w) X.A (f v u) Q X.xe s2) :
    wpAny (model X.prog X.w) X.A (eval a X.env) (fun v s₁ => wpAny (model X.prog X.w) X.A (eval b X.env) (fun u s₂ => wpAny (model X.prog X.w) X.A (f v u) Q X.xe s₂) X.xe s₁) X.xe s := by
  refine thn (ha pins s σ H _ I h) fun v s1 ⟨x, H1, I1, r1, q1⟩ => ?_
  refine thn (hb pins s1 σ H1 _ I1 q1) fun u s2 ⟨y, H2, I2, r2, q2⟩ => ?_
  exact hf v u s2 x y H2 I2 r1 r2 q2

/-! ### names and constants -/
def tVar (i : Nat) : TE := fun σ H Q => ∃ v, σ[i]? = some (some v) ∧ Q v H
def tC (v : V) : TE := fun _ H Q => Q v H
theorem pe_var {i : Nat} {x : Str} {pos : Pos} (hN : X.N[i]? = some x) (hv : Vis X.env.scope x) (hd : (x == ("__debug__" : Str)) = false := by decide) (hcd : (x == ("__classdict__" : Str)) = false := by decide) : PE X (.Name x pos) (tVar i) := by
  intro pins s σ H Q I h
  obtain ⟨v, e, h⟩ := h
  obtain ⟨m, hn, hl⟩ := I.loc
  obtain ⟨u, r, l⟩ := hl i x v hN e hv
  have fin : EP X pins σ Q u s := ⟨v, H, I, r, h⟩
  rcases l with ⟨hk, hm⟩ | ⟨hk, c, hc, hcell⟩
  · exact wpAny_Name (wpAny_loadName_local I.ok.kind hk hn hm fin) hd
  · rcases hk with hk | hk
    · exact wpAny_Name (wpAny_loadName_cell I.ok.kind hk hc hcell fin) hd
    · exact wpAny_Name (wpAny_loadName_free I.ok.kind hk hc hcell fin hcd) hd
theorem pe_int {i j pos} : PE X (.Constant (.int i) j pos) (tC (.int i)) := fun _ _ _ H _ I h => wpAny_Constant_int ⟨.int i, H, I.tok _, ⟨_, rfl⟩, h⟩
theorem pe_bl {b j pos} : PE X (.Constant (.bool b) j pos) (tC (.bl b)) := fun _ _ _ H _ I h => Constant_bool ⟨.bl b, H, I, rfl, h⟩
theorem pe_non {j pos} : PE X (.Constant .none j pos) (tC .non) := fun _ _ _ H _ I h => Constant_none ⟨.non, H, I, rfl, h⟩
theorem pe_str {x j pos} : PE X (.Constant (.str x) j pos) (tC (.str x)) := fun _ _ _ H _ I h => Calls.Constant_str ⟨.str x, H, I.tok _, ⟨_, rfl⟩, h⟩

/-- a global name of the def -/
def Gl (X : Cx) (x : Str) : Prop := X.env.kindOf x = some .globalImplicit
theorem ld_glob {E : Value → Shared → Prop} {pins : List (Addr × Obj)} {s : Shared} {σ : St} {H : Hp} {x : Str} {u : Value} {pos : Pos} {Q : Value → Shared → Prop} (I : Inv X pins σ H s) (hg : Gl X x) (hm : X.mg x = some u) (h : Q u s)
    (hd : (x == ("__debug__" : Str)) = false := by decide) : wpAny (model X.prog X.w) X.A (eval (.Name x pos) X.env) Q E s :=
  Calls.Name_function_global I.ok.kind hg (Calls.loadGlobal_global (by rw [I.ok.glob]; exact I.mod.glob.keeps I.bk) hm h) hd
theorem ld_blt {E : Value → Shared → Prop} {pins : List (Addr × Obj)} {s : Shared} {σ : St} {H : Hp} {x : Str} {u : Value} {pos : Pos} {Q : Value → Shared → Prop} (I : Inv X pins σ H s) (hg : Gl X x) (hm : X.mg x = none) (hv : bootBuiltins x = some u) (h : Q u s)
    (hn : x ≠ "__name__" := by decide) (hd : (x == ("__debug__" : Str)) = false := by decide) : wpAny (model X.prog X.w) X.A (eval (.Name x pos) X.env) Q E s := by
  obtain ⟨mb, h1, h2⟩ := I.mod.blt
  exact Calls.Name_function_global I.ok.kind hg (Calls.loadGlobal_builtin (by rw [I.ok.glob]; exact I.mod.glob.keeps I.bk) hm (by rw [I.ok.blt]; exact h1.keeps I.bk) ((h2 x hn).trans hv) h) hd
/-- a module's constant, a class, a function, as a value -/
theorem pe_glob {x : Str} {v : V} {u : Value} {pos : Pos} (hg : Gl X x) (hm : X.mg x = some u) (r : RelV v u) (hd : (x == ("__debug__" : Str)) = false := by decide) : PE X (.Name x pos) (tC v) :=
  fun _ _ _ H _ I h => ld_glob I hg hm ⟨v, H, I, r, h⟩ hd
theorem pe_bltn {x : Str} {v : V} {u : Value} {pos : Pos} (hg : Gl X x) (hm : X.mg x = none) (hv : bootBuiltins x = some u) (r : RelV v u) (hn : x ≠ "__name__" := by decide) (hd : (x == ("__debug__" : Str)) = false := by decide) : PE X (.Name x pos) (tC v) :=
  fun _ _ _ H _ I h => ld_blt I hg hm hv ⟨v, H, I, r, h⟩ hn hd

/-! ### arithmetic -/
variable {a b : Expr} {ta tb : TE} {pos : Pos}

/-! ### comparisons -/
def PC (X : Cx) (op : CmpOp) (a b : Expr) (t : TE) : Prop :=
  ∀ (pins : List (Addr × Obj)) (s : Shared) (σ : St) (H : Hp) (Q : VK), Inv X pins σ H s → t σ H Q →
    wpAny (model X.prog X.w) X.A (eval a X.env) (fun v s₁ => wpAny (model X.prog X.w) X.A (eval b X.env) (fun u s₂ => wpAny (model X.prog X.w) X.A (compareOp op v u) (EP X pins σ Q) X.xe s₂) X.xe s₁) X.xe s
theorem nobehind (b : Expr) {op : CmpOp} (h : op ≠ .In) (h2 : op ≠ .NotIn) : behindInMarks op b = false := by
  have e1 : (op == CmpOp.In) = false := by cases op <;> first | rfl | exact absurd rfl h
  have e2 : (op == CmpOp.NotIn) = false := by cases op <;> first | rfl | exact absurd rfl h2
  cases b <;> simp [behindInMarks, e1, e2]
/-- is None -/
def tIsN (ta : TE) : TE := fun σ H Q => ta σ H fun x H1 => Q (.bl (decide (x = .non))) H1
def tNotN (ta : TE) : TE := fun σ H Q => ta σ H fun x H1 => Q (.bl (!decide (x = .non))) H1
theorem RelV.none_iff {x : V} {v : Value} (r : RelV x v) : (v == Value.none) = decide (x = .non) := by
  cases x with
  | non => cases r; rfl
  | bl _ => cases r; rfl
  | int _ => obtain ⟨t, rfl⟩ := r; rfl
  | str _ => obtain ⟨t, rfl⟩ := r; rfl
  | byt _ => obtain ⟨t, rfl⟩ := r; rfl
  | flt _ => obtain ⟨t, rfl⟩ := r; rfl
  | ref _ => cases r; rfl
  | ty _ => cases r; rfl
theorem pc_isN {j pos'} (ha : PE X a ta) : PC X .Is a (.Constant .none j pos') (tIsN ta) := by
  intro pins s σ H Q I h
  refine thn (ha pins s σ H _ I h) fun v s1 ⟨x, H1, I1, r1, q1⟩ => ?_
  exact Constant_none (is_none_gen ⟨.bl _, H1, I1, by rw [r1.none_iff]; rfl, q1⟩)
theorem pc_notN {j pos'} (ha : PE X a ta) : PC X .IsNot a (.Constant .none j pos') (tNotN ta) := by
  intro pins s σ H Q I h
  refine thn (ha pins s σ H _ I h) fun v s1 ⟨x, H1, I1, r1, q1⟩ => ?_
  exact Constant_none (isnot_none_gen ⟨.bl _, H1, I1, by rw [r1.none_iff]; rfl, q1⟩)
/-- a comparison as a value, as a test -/
def tB (t : TE) : TT := fun σ H Q => t σ H fun x H1 => ∃ c, x = .bl c ∧ Q c H1
theorem pe_cmp {op : CmpOp} {t : TE} (h : PC X op a b t) (h1 : behindInMarks op b = false := by first | exact nobehind _ (by decide) (by decide) | rfl) : PE X (.Compare a [op] [b] pos) t := fun pins s σ H Q I hw => wpAny_Compare1 (h pins s σ H Q I hw) h1
theorem pt_cmp {op : CmpOp} {t : TE} (h : PC X op a b t) (h1 : behindInMarks op b = false := by first | exact nobehind _ (by decide) (by decide) | rfl) : PT X (.Compare a [op] [b] pos) (tB t) := by
  intro pins s σ H Q I hw
  refine wpAny_isTrue_Compare1 (thn (h pins s σ H _ I hw) fun v s1 h1 => thn h1 fun u s2 h2 => thn h2 fun c s3 ⟨x, H1, I1, r1, q1⟩ => ?_) h1
  obtain ⟨d, rfl, q⟩ := q1
  cases r1
  exact wpAny_truthy_bool ⟨H1, I1, q⟩
/-- an expression whose value is a bool, as a test -/
theorem pt_val {e : Expr} {t : TE} (h : PE X e t) (he : ∀ whole, isTrue e X.env whole = (do let v ← whole; standAt e.pos; holding [v] (truthy v)) := by intro _; rfl) : PT X e (tB t) := by
  intro pins s σ H Q I hw
  refine isTrue_plain (thn (h pins s σ H _ I hw) fun v s1 ⟨x, H1, I1, r1, q1⟩ => ?_) (he _)
  obtain ⟨d, rfl, q⟩ := q1
  cases r1
  exact wpAny_truthy_bool ⟨H1, I1, q⟩

/-! ### and, or, not -/
variable {tA tB' : TT} {rest : List Expr}
def tOr (t u : TT) : TT := fun σ H Q => t σ H fun c H1 => if c = true then Q true H1 else u σ H1 Q
def tNot (t : TT) : TT := fun σ H Q => t σ H fun c H1 => Q (!c) H1
theorem pw_or1 (ha : PT X a tA) : PW X (.BoolOp .Or [a] pos) tA := by
  intro wh pins s σ H Q I h
  refine isTrue_or (thn (ha pins s σ H Q I h) fun c s1 e => ?_)
  cases c with
  | false => exact isTrue_or_nil e
  | true => exact e
theorem pw_or (ha : PT X a tA) (hb : PW X (.BoolOp .Or (b :: rest) pos) tB') : PW X (.BoolOp .Or (a :: b :: rest) pos) (tOr tA tB') := by
  intro wh pins s σ H Q I h
  refine isTrue_or (thn (ha pins s σ H _ I h) fun c s1 ⟨H1, I1, q1⟩ => ?_)
  cases c with
  | true => exact ⟨H1, I1, q1⟩
  | false => exact hb wh pins s1 σ H1 Q I1 q1
theorem pt_not (ha : PT X a tA) : PT X (.UnaryOp .Not a pos) (tNot tA) := by
  intro pins s σ H Q I h
  exact isTrue_not (ha pins s σ H (fun c H1 => Q (!c) H1) I h)
/-- .. as values (bools) -/
def tAndV (ta tb : TE) : TE := fun σ H Q => ta σ H fun x H1 => ∃ c, x = .bl c ∧ if c = true then tb σ H1 Q else Q (.bl false) H1
def tNotV (ta : TE) : TE := fun σ H Q => ta σ H fun x H1 => ∃ c, x = .bl c ∧ Q (.bl (!c)) H1
theorem pe_one {op} {t : TE} (h : PE X a t) : PE X (.BoolOp op [a] pos) t := fun pins s σ H Q I hw => BoolOp_one (h pins s σ H Q I hw)
theorem pe_and (ha : PE X a ta) (hb : PE X (.BoolOp .And (b :: rest) pos) tb) : PE X (.BoolOp .And (a :: b :: rest) pos) (tAndV ta tb) := by
  intro pins s σ H Q I h
  refine BoolOp_and (thn (ha pins s σ H _ I h) fun v s1 ⟨x, H1, I1, r1, q1⟩ => ?_)
  obtain ⟨c, rfl, q1⟩ := q1
  cases r1
  refine wpAny_truthy_bool ?_
  cases c with
  | true => exact hb pins s1 σ H1 Q I1 q1
  | false => exact ⟨.bl false, H1, I1, rfl, q1⟩
theorem pe_not (ha : PE X a ta) : PE X (.UnaryOp .Not a pos) (tNotV ta) := by
  intro pins s σ H Q I h
  refine UnaryOp_ (thn (ha pins s σ H _ I h) fun v s1 ⟨x, H1, I1, r1, q1⟩ => ?_)
  obtain ⟨c, rfl, q1⟩ := q1
  cases r1
  exact not_of (wpAny_truthy_bool ⟨.bl (!c), H1, I1, rfl, q1⟩)
/-- a if t else b -/
def tIf (t : TT) (ta tb : TE) : TE := fun σ H Q => t σ H fun c H1 => if c = true then ta σ H1 Q else tb σ H1 Q
theorem pe_ifExp {c : Expr} (hc : PT X c tA) (ha : PE X a ta) (hb : PE X b tb) : PE X (.IfExp c a b pos) (tIf tA ta tb) := by
  intro pins s σ H Q I h
  refine wpAny_IfExp (thn (hc pins s σ H _ I h) fun d s1 ⟨H1, I1, q1⟩ => ?_)
  cases d with
  | true => exact ha pins s1 σ H1 Q I1 q1
  | false => exact hb pins s1 σ H1 Q I1 q1
end
end L2

namespace L2
open PySem PySem.Spec PyProof.Rows

/-! ### a list, a tuple that is read: tracked, frozen, or an object of the module -/
def SqL (K : PySem.W.Frag) (H : Hp) (a : Addr) (xs : List V) : Prop :=
  Rd H a (.lst xs) ∨
    ∃ (o : Obj) (its : Array Value) (n : Nat), K.lookup a = some o ∧ o.cls = .type "list" ∧ o.dict = none ∧ o.data = .seq its n ∧ its.size ≤ sizeLine ∧ Vals xs its.toList
def SqT (K : PySem.W.Frag) (H : Hp) (a : Addr) (xs : List V) : Prop :=
  Rd H a (.tup xs) ∨
    ∃ (o : Obj) (its : Array Value) (n : Nat), K.lookup a = some o ∧ o.cls = .type "tuple" ∧ o.data = .seq its n ∧ its.size ≤ sizeLine ∧ Vals xs its.toList
def absV : Value → Option V
  | .none => some .non
  | .bool b => some (.bl b)
  | .int i _ => some (.int i)
  | .str x _ => some (.str x)
  | .bytes b _ => some (.byt b)
  | .float b _ => some (.flt b)
  | .ref a => some (.ref a)
  | .type n => some (.ty n)
  | _ => none
theorem RelV.abs {x : V} {u : Value} (r : RelV x u) : absV u = some x := by
  cases x with
  | non => cases r; rfl
  | bl _ => cases r; rfl
  | int _ => obtain ⟨t, rfl⟩ := r; rfl
  | str _ => obtain ⟨t, rfl⟩ := r; rfl
  | byt _ => obtain ⟨t, rfl⟩ := r; rfl
  | flt _ => obtain ⟨t, rfl⟩ := r; rfl
  | ref _ => cases r; rfl
  | ty _ => cases r; rfl
theorem RelV.inj {x y : V} {u : Value} (r : RelV x u) (q : RelV y u) : x = y := Option.some.inj (r.abs.symm.trans q.abs)
theorem Vals.inj : ∀ {xs ys : List V} {us : List Value}, Vals xs us → Vals ys us → xs = ys
  | _, _, _, .nil, .nil => rfl
  | _, _, _, .cons r t, .cons r' t' => by rw [r.inj r', Vals.inj t t']
section
variable {X : Cx} {pins : List (Addr × Obj)} {σ : St} {H : Hp} {s : Shared} {a : Addr} {xs ys : List V}
theorem SqL.of {K : PySem.W.Frag} (h : H a = some (.lst xs)) : SqL K H a xs := .inl (.inl h)
theorem SqT.of {K : PySem.W.Frag} (h : H a = some (.tup xs)) : SqT K H a xs := .inl (.inl h)
theorem Inv.list (I : Inv X pins σ H s) (h : SqL X.K H a xs) : ∃ its : List Value, Vals xs its ∧ PlainL s.heap a its.toArray ∧ xs.length ≤ sizeLine := by
  rcases h with h | ⟨o, its, n, hk, hc, hd, hs, hz, r⟩
  · obtain ⟨z, its, n, r, e⟩ := h.ok I.hok
    exact ⟨its, r, ⟨_, n, e, rfl, rfl, rfl⟩, z⟩
  · refine ⟨its.toList, r, ⟨o, n, I.kIn a o hk, hc, hd, by simpa using hs⟩, ?_⟩
    have e := r.length
    simp only [Array.length_toList] at e
    omega
theorem Inv.tuple (I : Inv X pins σ H s) (h : SqT X.K H a xs) : ∃ its : List Value, Vals xs its ∧ IsTup s.heap a its.toArray ∧ xs.length ≤ sizeLine := by
  rcases h with h | ⟨o, its, n, hk, hc, hs, hz, r⟩
  · obtain ⟨z, its, r, p⟩ := h.ok I.hok
    exact ⟨its, r, p, z⟩
  · refine ⟨its.toList, r, ⟨o, I.kIn a o hk, hc, n, by simpa using hs⟩, ?_⟩
    have e := r.length
    simp only [Array.length_toList] at e
    omega
theorem Inv.list_inj (I : Inv X pins σ H s) (h : SqL X.K H a xs) (h' : SqL X.K H a ys) : xs = ys := by
  obtain ⟨its, r, ⟨o, n, e, _, _, d⟩, _⟩ := I.list h
  obtain ⟨its', r', ⟨o', n', e', _, _, d'⟩, _⟩ := I.list h'
  rw [e] at e'; cases e'
  rw [d] at d'
  injection d' with d1 _
  have : its = its' := by simpa using congrArg Array.toList d1
  subst this
  exact r.inj r'
end

/-! ### another wish about exceptions -/
abbrev Cx.wish (X : Cx) (E : Value → Shared → Prop) : Cx := { X with xe := E }
/-- no exception leaves -/
abbrev Cx.nox (X : Cx) : Cx := X.wish fun _ _ => False
theorem Cx.Ok.wish {X : Cx} (ok : X.Ok) (E : Value → Shared → Prop) : (X.wish E).Ok :=
  ⟨ok.mod, ok.kind, ok.glob, ok.blt, ok.above, ok.inj, ok.has, ok.cab, ok.hd, ok.frames, ok.stk, ok.exf, ok.bs, ok.bsz, ok.noex, ok.exfs, ok.funs, ok.frf⟩
theorem Cx.Ok.unwish {X : Cx} {E : Value → Shared → Prop} (ok : (X.wish E).Ok) : X.Ok :=
  ⟨ok.mod, ok.kind, ok.glob, ok.blt, ok.above, ok.inj, ok.has, ok.cab, ok.hd, ok.frames, ok.stk, ok.exf, ok.bs, ok.bsz, ok.noex, ok.exfs, ok.funs, ok.frf⟩
section
variable {X : Cx} {pins : List (Addr × Obj)} {σ : St} {H : Hp} {s : Shared} {E : Value → Shared → Prop}
theorem Inv.wish (I : Inv X pins σ H s) (E : Value → Shared → Prop) : Inv (X.wish E) pins σ H s := ⟨I.ok.wish E, I.os, I.bare, I.base, I.loc, I.cell, I.free, I.freeC, I.pin, I.hok, I.len⟩
theorem Inv.unwish (I : Inv (X.wish E) pins σ H s) : Inv X pins σ H s := ⟨I.ok.unwish, I.os, I.bare, I.base, I.loc, I.cell, I.free, I.freeC, I.pin, I.hok, I.len⟩
theorem SP.unwish {D : Ends} {f : Flow} {s' : Shared} (h : SP (X.wish E) pins D f s') : SP X pins D f s' := by
  cases f with
  | next => obtain ⟨σ', H', I, q⟩ := h; exact ⟨σ', H', I.unwish, q⟩
  | brk => obtain ⟨σ', H', I, q⟩ := h; exact ⟨σ', H', I.unwish, q⟩
  | cont => obtain ⟨σ', H', I, q⟩ := h; exact ⟨σ', H', I.unwish, q⟩
  | ret u => obtain ⟨v, σ', H', I, r, q⟩ := h; exact ⟨v, σ', H', I.unwish, r, q⟩
theorem PSs.nox {st : List Stmt} {t : TS} (h : PSs X.nox st t) : PSs X st t := fun pins s σ H D I hw =>
  wpAny_mono (h pins s σ H D (I.wish _) hw) (fun _ _ q => q.unwish) fun _ _ z => False.elim z
end

/-! ### blocks and small statements -/
section
variable {X : Cx} {st : Stmt} {rest : List Stmt} {t u : TS} {e : Expr} {te : TE} {pos : Pos}
def tNext : TS := fun D σ H => D.nx σ H
def tSeq (t u : TS) : TS := fun D σ H => t { D with nx := u D } σ H
theorem pss_nil : PSs X [] tNext := fun _ _ σ H _ I h => wpAny_execs_nil ⟨σ, H, I, h⟩
theorem pss_cons (h1 : PS X st t) (h2 : PSs X rest u) : PSs X (st :: rest) (tSeq t u) := by
  intro pins s σ H D I h
  refine wpAny_execs_cons (thn (h1 pins s σ H { D with nx := u D } I h) fun f s1 q => ?_)
  cases f with
  | next =>
    obtain ⟨σ', H', I', q⟩ := q
    exact h2 pins s1 σ' H' D I' q
  | ret v => exact q
  | brk => exact q
  | cont => exact q
theorem pss_one (h1 : PS X st t) : PSs X [st] t := by
  intro pins s σ H D I h
  refine wpAny_execs_cons (thn (h1 pins s σ H D I h) fun f s1 q => ?_)
  cases f with
  | next => exact wpAny_execs_nil q
  | ret v => exact q
  | brk => exact q
  | cont => exact q
/-- in a def's body nothing is shown -/
theorem Inv.quiet {pins : List (Addr × Obj)} {σ : St} {H : Hp} {s : Shared} (I : Inv X pins σ H s) : interactive X.env = false := by simp [interactive, I.ok.kind]
/-- an expression whose value is dropped -/
def tDrop (te : TE) : TS := fun D σ H => te σ H fun _ H1 => D.nx σ H1
theorem ps_expr (he : PE X e te) (hs : swapsWith e none pos.line X.env = pure false := by rfl) : PS X (.Expr e pos) (tDrop te) := by
  intro pins s σ H D I h
  exact wpAny_Expr_any (thn (he pins s σ H _ I h) fun v s1 ⟨x, H1, I1, r1, q1⟩ => ⟨σ, H1, I1, q1⟩) I.quiet hs
def tRet (te : TE) : TS := fun D σ H => te σ H D.rt
theorem ps_ret (he : PE X e te) : PS X (.Return (some e) pos) (tRet te) := by
  intro pins s σ H D I h
  exact wpAny_Return_some (thn (he pins s σ H _ I h) fun v s1 ⟨x, H1, I1, r1, q1⟩ => ⟨x, σ, H1, I1, r1, q1⟩)
def tIfS (c : TT) (t u : TS) : TS := fun D σ H => c σ H fun b H1 => if b = true then t D σ H1 else u D σ H1
theorem ps_if {c : Expr} {a b : List Stmt} {tc : TT} (hc : PT X c tc) (ha : PSs X a t) (hb : PSs X b u) : PS X (.If c a b pos) (tIfS tc t u) := by
  intro pins s σ H D I h
  refine wpAny_If (thn (hc pins s σ H _ I h) fun d s1 ⟨H1, I1, q1⟩ => ?_)
  cases d with
  | true => exact ha pins s1 σ H1 D I1 q1
  | false => exact hb pins s1 σ H1 D I1 q1
end

/-! ### targets -/
abbrev TG := V → St → Hp → (St → Hp → Prop) → Prop
abbrev TGs := List V → St → Hp → (St → Hp → Prop) → Prop
def PG (X : Cx) (target : Expr) (t : TG) : Prop :=
  ∀ (pins : List (Addr × Obj)) (s : Shared) (σ : St) (H : Hp) (v : V) (u : Value) (Q : St → Hp → Prop), Inv X pins σ H s → RelV v u → t v σ H Q →
    wpAny (model X.prog X.w) X.A (assign target X.env u) (fun _ s' => ∃ σ' H', Inv X pins σ' H' s' ∧ Q σ' H') X.xe s
/-- several targets, one after another -/
def PGs (X : Cx) (ts : List Expr) (t : TGs) : Prop :=
  ∀ (pins : List (Addr × Obj)) (s : Shared) (σ : St) (H : Hp) (vs : List V) (us : List Value) (Q : St → Hp → Prop), Inv X pins σ H s → Vals vs us → t vs σ H Q →
    wpAny (model X.prog X.w) X.A (assignInOrder ((assignEach ts X.env).map (·.2)) us) (fun _ s' => ∃ σ' H', Inv X pins σ' H' s' ∧ Q σ' H') X.xe s
section
variable {X : Cx} {pos : Pos}
def gName (i : Nat) : TG := fun v σ H Q => Q (σ.set i (some v)) H
theorem pg_name {i : Nat} {x : Str} (hN : X.N.Nodup) (hi : X.N[i]? = some x) (hx : Loc X.env.scope x) (hf : X.fn x = true ∨ X.env.scope.names.lookup x = some .local := by first | exact .inl rfl | exact .inr rfl | assumption) : PG X (.Name x pos) (gName i) := by
  intro pins s σ H v u Q I r h
  exact wpAny_assign_Name (store_ok I hN hi hx r (fun s' I' => ⟨_, H, I', h⟩) hf)
def gNil : TGs := fun vs σ H Q => vs = [] ∧ Q σ H
def gCons (t : TG) (u : TGs) : TGs := fun vs σ H Q => ∃ v r, vs = v :: r ∧ t v σ H fun σ' H' => u r σ' H' Q
theorem pgs_nil : PGs X [] gNil := by
  intro pins s σ H vs us Q I r h
  obtain ⟨e, h⟩ := h
  subst e
  cases r
  exact assignInOrder_nil ⟨σ, H, I, h⟩
theorem pgs_cons {e : Expr} {es : List Expr} {t : TG} {u : TGs} (h1 : PG X e t) (h2 : PGs X es u)
    (hs : (assignEach (e :: es) X.env).map (·.2) = assign e X.env :: (assignEach es X.env).map (·.2) := by rfl) : PGs X (e :: es) (gCons t u) := by
  intro pins s σ H vs us Q I r h
  obtain ⟨v, vr, e1, h⟩ := h
  subst e1
  cases r with
  | cons r rr =>
    rw [hs]
    refine assignInOrder_cons (thn (h1 pins s σ H _ _ _ I r h) fun _ s1 ⟨σ1, H1, I1, q1⟩ => ?_)
    exact h2 pins s1 σ1 H1 _ _ Q I1 rr q1
/-- (a, b, ..) = a tuple of that length -/
def gTup (K : PySem.W.Frag) (n : Nat) (t : TGs) : TG := fun v σ H Q => ∃ a xs, v = .ref a ∧ SqT K H a xs ∧ xs.length = n ∧ t xs σ H Q
theorem pg_tup {es : List Expr} {k : Nat} {t : TGs} {n : Nat} (hc : X.calm = true) (h : PGs X es t)
    (hn : (assignEach es X.env).length = n := by rfl) (hst : (assignEach es X.env).findIdx? (·.1) = none := by rfl) : PG X (.Tuple es k pos) (gTup X.K n t) := by
  intro pins s σ H v u Q I r hw
  obtain ⟨a, xs, e1, hq, hl, hw⟩ := hw
  subst e1
  cases r
  obtain ⟨its, rv, ht, hz⟩ := I.tuple hq
  refine assign_Tuple_tuple (I.ok.hd hc) ht (by simp [hn, ← hl, rv.length]) hst fun h' hx => ?_
  have I1 : Inv X pins σ H { s with heap := h' } := I.kept (t' := s.toks) fun b o e => hx b o (Nat.ne_of_lt (Heap.lt_size e)) e
  exact h pins _ σ H xs _ Q I1 (by simpa using rv) hw
/-- target = value -/
def tAsg (te : TE) (g : TG) : TS := fun D σ H => te σ H fun x H1 => g x σ H1 D.nx
/-- name = value -/
theorem ps_set {i : Nat} {x : Str} {e : Expr} {te : TE} {pos' : Pos} (hN : X.N.Nodup) (hi : X.N[i]? = some x) (hx : Loc X.env.scope x) (he : PE X e te) (hs : swapsWith e (some (.Name x pos')) pos.line X.env = pure false := by rfl) (hf : X.fn x = true ∨ X.env.scope.names.lookup x = some .local := by first | exact .inl rfl | exact .inr rfl | assumption) :
    PS X (.Assign [.Name x pos'] e pos) (tAsg te (gName i)) := by
  intro pins s σ H D I h
  refine wpAny_Assign_Name (thn (he pins s σ H _ I h) fun v s1 ⟨y, H1, I1, r1, q1⟩ => ?_) hs
  exact store_ok I1 hN hi hx r1 (fun s2 I2 => ⟨_, H1, I2, q1⟩) hf
end

/-! ### while -/
section
variable {X : Cx} {pos : Pos}
end

/-! ### what a loop or a comprehension walks -/
/-- at turn i: it yields x (the heap may grow), or it stops -/
structure It where
  go : Nat → Hp → Prop
  yld : Nat → Hp → V → Hp → Prop
  stop : Nat → Hp → Prop
/-- the iterator's own objects may turn: they are not the frame's, not pinned, younger than the entry (or a comprehension's own) -/
def FpOk (X : Cx) (pins : List (Addr × Obj)) (H : Hp) (b : Addr) : Prop :=
  H b = none ∧ b ≠ X.env.locals ∧ b ∉ X.fs ∧ (b ∈ X.ex ∨ X.s₀.heap.objs.size ≤ b) ∧ (∀ x c, X.env.cells.lookup x = some c → c ≠ b) ∧ ∀ p ∈ X.pn ++ pins, p.1 ≠ b
theorem Inv.fpOk {X : Cx} {pins : List (Addr × Obj)} {σ : St} {H H' : Hp} {s : Shared} {b : Addr} (I : Inv X pins σ H s) (hb : s.heap.objs.size ≤ b) (hn : H' b = none) : FpOk X pins H' b := by
  refine ⟨hn, Nat.ne_of_gt (Nat.lt_of_lt_of_le I.lt hb), I.nofs hb, .inr (Nat.le_trans I.sz hb), fun x c e z => ?_, fun p hp z => ?_⟩
  · obtain ⟨v, q⟩ := I.cell x c e
    exact absurd (Nat.lt_of_lt_of_le q.lt (by rw [z]; exact hb)) (Nat.lt_irrefl _)
  · exact absurd (Nat.lt_of_lt_of_le (Heap.lt_size (I.pin p hp).1) (by rw [z]; exact hb)) (Nat.lt_irrefl _)
structure Turn (P : Program) (w : World) (K : PySem.W.Frag) (tg : Expr) (J : It) (fp : List Addr) (it : Addr) (tn : Nat → Heap → Prop) : Prop where
  mem : it ∈ fp
  obj : ∀ i h, tn i h → ∀ b ∈ fp, ∃ o, h.get? b = some o ∧ ∀ v, o.data ≠ .cell v
  keep : ∀ i h h', tn i h → (∀ b ∈ fp, ∀ o, h.get? b = some o → h'.get? b = some o) → tn i h'
  item : ∀ (X : Cx), X.prog = P → X.w = w → X.K = K → X.calm = true → ∀ (i : Nat) (pins : List (Addr × Obj)) (s : Shared) (σ : St) (H : Hp) (E : Value → Shared → Prop), Inv X pins σ H s → (∀ b ∈ fp, FpOk X pins H b) → tn i s.heap → J.go i H →
    wpAny (model P w) X.A (pyNext (.ref it)) (fun r s1 => ∃ u, r = some u ∧
      wpAny (model P w) X.A (letOwnedTupleGo tg (.ref it) u) (fun _ s2 => ∃ x H', Inv X pins σ H' s2 ∧ RelV x u ∧ J.yld i H x H' ∧ tn (i + 1) s2.heap ∧ ∀ b ∈ fp, H' b = none) E s1) E s
  done : ∀ (X : Cx), X.prog = P → X.w = w → X.K = K → X.calm = true → ∀ (i : Nat) (pins : List (Addr × Obj)) (s : Shared) (σ : St) (H : Hp) (E : Value → Shared → Prop), Inv X pins σ H s → (∀ b ∈ fp, FpOk X pins H b) → tn i s.heap → J.stop i H →
    wpAny (model P w) X.A (pyNext (.ref it)) (fun r s1 => r = none ∧ Inv X pins σ H s1) E s
  self : ∀ (A : Around) (i : Nat) (s : Shared) (Q : Value → Shared → Prop) (E : Value → Shared → Prop), tn i s.heap → Q (.ref it) s → wpAny (model P w) A (pyIter (.ref it)) Q E s
abbrev TI := St → Hp → (It → Hp → Prop) → Prop
/-- an iterator has come -/
def PIE (X : Cx) (pins : List (Addr × Obj)) (σ : St) (tg : Expr) (R : It → Hp → Prop) (itv : Value) (s2 : Shared) : Prop :=
  ∃ (it : Addr) (fp : List Addr) (tn : Nat → Heap → Prop) (J : It) (H' : Hp), itv = .ref it ∧ Inv X pins σ H' s2 ∧ Turn X.prog X.w X.K tg J fp it tn ∧ tn 0 s2.heap ∧ (∀ b ∈ fp, FpOk X pins H' b) ∧ R J H'
def PI (X : Cx) (tg iter : Expr) (wi : TI) : Prop :=
  ∀ (pins : List (Addr × Obj)) (s : Shared) (σ : St) (H : Hp) (R : It → Hp → Prop), Inv X pins σ H s → wi σ H R →
    wpAny (model X.prog X.w) X.A (eval iter X.env) (fun v s1 => wpAny (model X.prog X.w) X.A (pyIter v) (PIE X pins σ tg R) X.xe s1) X.xe s

/-- the step ahead of the store is nothing for an iterator that keeps no tuple -/
theorem go_of {M : Model} {A : Around} {E : Value → Shared → Prop} {s : Shared} {tg : Expr} {it : Addr} {u : Value} {o : Obj} {n : String} {vs : Array Value} {Q : Unit → Shared → Prop} (ho : s.heap.get? it = some o) (hc : o.cls = .type n) (hd : o.data = .fields vs)
    (hn : ["enumerate", "zip", "dict_itemiterator", "dict_reverseitemiterator", "odict_iterator", "itertools.zip_longest", "itertools.pairwise"].contains n = false) (hQ : Q () s) : wpAny M A (letOwnedTupleGo tg (.ref it) u) Q E s := by
  unfold letOwnedTupleGo
  cases tg <;> first
    | exact wpAny_pure hQ
    | (cases u <;> first
        | exact wpAny_pure hQ
        | (refine wpAny_bind (wpAny_load ho ?_)
           rw [hc, hd]
           show wpAny M A (if (["enumerate", "zip", "dict_itemiterator", "dict_reverseitemiterator", "odict_iterator", "itertools.zip_longest", "itertools.pairwise"].contains n && vs[0]? == some (rawInt _)) = true then _ else _) Q E s
           rw [if_neg (by intro h; rw [hn, Bool.false_and] at h; cases h)]
           exact wpAny_pure hQ))

/-- the list at a, as it stands at each turn (a loop may append to it) -/
def Itl (K : PySem.W.Frag) (a : Addr) : It :=
  ⟨fun i H => ∃ xs x, SqL K H a xs ∧ xs[i]? = some x, fun i H x H' => H' = H ∧ ∀ xs, SqL K H a xs → xs[i]? = some x, fun i H => ∃ xs, SqL K H a xs ∧ xs.length ≤ i⟩
/-- lo, lo + 1, .. (n of them) -/
def Itr (lo : Int) (n : Nat) : It := ⟨fun i _ => i < n, fun i H x H' => H' = H ∧ x = .int (lo + i), fun i _ => n ≤ i⟩
theorem turn_list {P : Program} {w : World} {K : PySem.W.Frag} {tg : Expr} (a it : Addr) : Turn P w K tg (Itl K a) [it] it (fun i h => h.IsListIter it a i) where
  mem := by simp
  obj := fun i h st b hb => by
    have e : b = it := by simpa using hb
    subst e
    obtain ⟨o, e, c, d⟩ := st
    exact ⟨o, e, fun v z => by rw [d] at z; cases z⟩
  keep := fun i h h' st k => st.at fun o e => k it (by simp) o e
  item := by
    intro X hP hw hK hc i pins s σ H E I hf st hg
    subst hP hw hK
    obtain ⟨xs, x, hq, hx⟩ := hg
    obtain ⟨its, rv, p, hz⟩ := I.list hq
    obtain ⟨u, hu, ru⟩ := rv.get hx
    obtain ⟨f0, f1, f2, f3, f4, f5⟩ := hf it (by simp)
    refine wpAny_pyNext_list_item st p.isList (x := u) (by simpa using hu) fun h' st' sb => ?_
    have I1 : Inv X pins σ H { s with heap := h' } := I.turned (t' := s.toks) (fun b o hb e => (sb.2 b hb).trans e) f0 f1 f3 f4 f5
    obtain ⟨o, e, c, d⟩ := id st'
    exact ⟨u, rfl, go_of (s := { s with heap := h' }) e c d (by decide) ⟨x, H, I1, ru, ⟨rfl, fun ys hy => by rw [I.list_inj hy hq]; exact hx⟩, st', fun b hb => (hf b hb).1⟩⟩
  done := by
    intro X hP hw hK hc i pins s σ H E I hf st hg
    subst hP hw hK
    obtain ⟨xs, hq, hx⟩ := hg
    obtain ⟨its, rv, p, hz⟩ := I.list hq
    obtain ⟨f0, f1, f2, f3, f4, f5⟩ := hf it (by simp)
    have hl := rv.length
    exact wpAny_pyNext_list_end (I.ok.hd hc) st p.isList (by simp; omega) fun h' eb => ⟨rfl, I.turned (t' := s.toks) (fun b o hb e => eb b o hb e) f0 f1 f3 f4 f5⟩
  self := fun _ _ _ _ _ st h => wpAny_pyIter_listiter st h
theorem turn_range {P : Program} {w : World} {K : PySem.W.Frag} {tg : Expr} (it : Addr) (lo : Int) (n : Nat) : Turn P w K tg (Itr lo n) [it] it (fun i h => IsRangeIter h it (lo + (i : Nat) * 1) ((n : Int) - (i : Nat)) 1) where
  mem := by simp
  obj := fun i h st b hb => by
    have e : b = it := by simpa using hb
    subst e
    exact ⟨_, st, fun v z => by
      have z' : Data.fields _ = Data.cell v := z
      cases z'⟩
  keep := fun i h h' st k => k it (by simp) _ st
  item := by
    intro X hP hw hK hc i pins s σ H E I hf st hg
    subst hP hw hK
    obtain ⟨f0, f1, f2, f3, f4, f5⟩ := hf it (by simp)
    have W := Walks.range (prog := X.prog) (w := X.w) (I.ok.hd hc) it lo 1 n
    refine W.item i s _ _ hg st fun v h' tk hv st' kk => ?_
    obtain ⟨t, rfl⟩ := hv
    have I1 : Inv X pins σ H { s with heap := h', toks := tk } := I.turned (fun b o hb e => kk b o (by simpa using hb) e) f0 f1 f3 f4 f5
    refine ⟨_, rfl, go_of (s := { s with heap := h', toks := tk }) (n := "range_iterator") st' rfl rfl (by decide) ⟨.int (lo + i), H, I1, ⟨t, ?_⟩, ⟨rfl, rfl⟩, st', fun b hb => (hf b hb).1⟩⟩
    rw [Int.mul_one]
  done := by
    intro X hP hw hK hc i pins s σ H E I hf st hg
    subst hP hw hK
    obtain ⟨f0, f1, f2, f3, f4, f5⟩ := hf it (by simp)
    exact wpAny_pyNext_range_end (I.ok.hd hc) st (by have : n ≤ i := hg; omega) fun h' eb => ⟨rfl, I.turned (t' := s.toks) (fun b o hb e => eb b o hb e) f0 f1 f3 f4 f5⟩
  self := fun _ _ _ _ _ st h => wpAny_pyIter_rangeiter st h
end L2

namespace L2
open PySem PySem.Spec PyProof.Rows
section
variable {X : Cx} {tg : Expr}
def iList (K : PySem.W.Frag) (tl : TE) : TI := fun σ H R => tl σ H fun x H1 => ∃ a, x = .ref a ∧ (∃ xs, SqL K H1 a xs) ∧ R (Itl K a) H1
theorem pi_list {l : Expr} {tl : TE} (hl : PE X l tl) : PI X tg l (iList X.K tl) := by
  intro pins s σ H R I h
  refine thn (hl pins s σ H _ I h) fun v s1 ⟨x, H1, I1, r1, q1⟩ => ?_
  obtain ⟨a, e, ⟨xs, hq⟩, q⟩ := q1
  subst e
  cases r1
  obtain ⟨its, rv, p, hz⟩ := I1.list hq
  refine wpAny_pyIter_list p.isList ?_
  refine ⟨s1.heap.objs.size, [s1.heap.objs.size], _, _, H1, rfl, I1.kept (t' := s1.toks) fun b o e => Heap.get?_push_of_some _ e, turn_list a _, ⟨_, Heap.get?_push_size _ rfl, rfl, rfl⟩, fun b hb => ?_, q⟩
  have e : b = s1.heap.objs.size := by simpa using hb
  subst e
  exact I1.fpOk (Nat.le_refl _) (I1.hok.fresh (Nat.le_refl _))
/-- a range object just made, walked -/
theorem range_it {pins : List (Addr × Obj)} {σ : St} {H : Hp} {s : Shared} {R : It → Hp → Prop} {E : Value → Shared → Prop} {lo hi : Int} {t u v : Tok} {tk : Nat} (I : Inv X pins σ H s) (h1 : -(2 ^ 62) ≤ lo) (h2 : lo < 2 ^ 62) (h3 : -(2 ^ 62) ≤ hi) (h4 : hi < 2 ^ 62)
    (q : R (Itr lo (hi - lo).toNat) H) : wpAny (model X.prog X.w) X.A (pyIter (.ref s.heap.objs.size)) (PIE X pins σ tg R) E { s with heap := s.heap.push { cls := .type "range", data := .fields #[.int lo t, .int hi u, .int 1 v] }, toks := tk } := by
  refine wpAny_pyIter_range (IsRange.new ..) (small_one h1 h2 h3 h4) ?_
  have I1 : Inv X pins σ H { s with heap := s.heap.push { cls := .type "range", data := .fields #[.int lo t, .int hi u, .int 1 v] }, toks := tk } := I.kept fun b o e => Heap.get?_push_of_some _ e
  refine ⟨(s.heap.push { cls := .type "range", data := .fields #[.int lo t, .int hi u, .int 1 v] }).objs.size, [(s.heap.push { cls := .type "range", data := .fields #[.int lo t, .int hi u, .int 1 v] }).objs.size], _, _, H, rfl,
    I1.kept (t' := tk) fun b o e => Heap.get?_push_of_some _ e, turn_range _ lo (hi - lo).toNat, ?_, fun b hb => ?_, q⟩
  · have e1 : lo + ((0 : Nat) : Int) * 1 = lo := by simp
    have e2 : (((hi - lo).toNat : Nat) : Int) - ((0 : Nat) : Int) = Builtin.Range.rangeSize lo hi 1 := by rw [rangeSize_one]; split <;> omega
    show IsRangeIter _ _ (lo + ((0 : Nat) : Int) * 1) ((((hi - lo).toNat : Nat) : Int) - ((0 : Nat) : Int)) 1
    rw [e1, e2]
    exact Heap.get?_push_size _ rfl
  · have e : b = (s.heap.push { cls := .type "range", data := .fields #[.int lo t, .int hi u, .int 1 v] }).objs.size := by simpa using hb
    subst e
    exact I1.fpOk (Nat.le_refl _) (I1.hok.fresh (Nat.le_refl _))
def iRng1 (ta : TA) : TI := fun σ H R => ta σ H fun vs H1 => ∃ j : Int, vs = [.int j] ∧ -(2 ^ 62) ≤ j ∧ j < 2 ^ 62 ∧ R (Itr 0 j.toNat) H1
theorem pi_range1 {a : Expr} {ta : TA} {p pos : Pos} (hg : Gl X "range") (hm : X.mg "range" = none) (ha : PA X [a] ta) (hs : starEach [a] X.env = [(false, eval a X.env)] := by rfl) : PI X tg (.Call (.Name "range" p) [a] [] pos) (iRng1 ta) := by
  intro pins s σ H R I h
  refine Call_ (ld_blt I hg hm boot_range (PyProof.Rows.callWith_type1 (thn (ha pos pins s σ H _ I h) fun us s1 ⟨vs, H1, I1, r1, q1⟩ => ?_) hs rfl))
  obtain ⟨j, e, q1, q2, q⟩ := q1
  subst e
  cases r1 with
  | cons r rr =>
    cases rr
    obtain ⟨t, rfl⟩ := r
    exact call_range_1 (range_it I1 (by omega) (by omega) q1 q2 (by simpa using q))

/-! ### for -/
/-- W: the invariant by the turn and a measure; N: what the body is to reach -/
def tFor (wi : TI) (g : TG) (tb : TS) : TS := fun D σ H => wi σ H fun J H1 => ∃ W : Nat → Nat → St → Hp → Prop, (∃ m, W 0 m σ H1) ∧ ∀ i m σ H, W i m σ H →
  (J.stop i H ∧ D.nx σ H) ∨ (J.go i H ∧ ∃ N : St → Hp → Prop, (∀ σ' H', N σ' H' → ∃ m', m' < m ∧ W (i + 1) m' σ' H') ∧ ∀ x H', J.yld i H x H' → g x σ H' fun σ2 H2 => tb { D with nx := N, ct := N, bk := D.nx } σ2 H2)
/-- the records at fp as they stand -/
def pinsAt (fp : List Addr) (h : Heap) : List (Addr × Obj) := fp.filterMap fun b => (h.get? b).map fun o => (b, o)
theorem mem_pinsAt {fp : List Addr} {h : Heap} {b : Addr} {o : Obj} (hb : b ∈ fp) (e : h.get? b = some o) : (b, o) ∈ pinsAt fp h := List.mem_filterMap.mpr ⟨b, hb, by rw [e]; rfl⟩
theorem of_pinsAt {fp : List Addr} {h : Heap} {p : Addr × Obj} (hp : p ∈ pinsAt fp h) : p.1 ∈ fp ∧ h.get? p.1 = some p.2 := by
  obtain ⟨b, hb, e⟩ := List.mem_filterMap.mp hp
  cases q : h.get? b with
  | none => rw [q] at e; cases e
  | some o =>
    rw [q] at e
    have e' : (b, o) = p := Option.some.inj e
    subst e'
    exact ⟨hb, q⟩
theorem Inv.pinned {pins : List (Addr × Obj)} {σ : St} {H : Hp} {s : Shared} {fp : List Addr} (I : Inv X pins σ H s) (hf : ∀ b ∈ fp, FpOk X pins H b) (ho : ∀ b ∈ fp, ∃ o, s.heap.get? b = some o ∧ ∀ v, o.data ≠ .cell v) : Inv X (pins ++ pinsAt fp s.heap) σ H s :=
  I.pins_of fun p hp => (List.mem_append.mp hp).elim (fun z => I.pin p (List.mem_append_right _ z)) fun z => by
    obtain ⟨hb, e⟩ := of_pinsAt z
    obtain ⟨f0, f1, f2, _⟩ := hf p.1 hb
    obtain ⟨o, e', d⟩ := ho p.1 hb
    rw [e] at e'; cases e'
    exact ⟨e, f0, f1, f2, d⟩
theorem Inv.unpinned {pins pl : List (Addr × Obj)} {σ : St} {H : Hp} {s : Shared} (I : Inv X (pins ++ pl) σ H s) : Inv X pins σ H s := I.pins_of fun p hp => I.pin p (List.mem_append_right _ (List.mem_append_left _ hp))
theorem ps_for {iter : Expr} {body : List Stmt} {wi : TI} {g : TG} {tb : TS} {pos : Pos} (hp : PassesOwn (model X.prog X.w) X.A X.env X.xe) (hc : X.calm = true) (hi : PI X tg iter wi) (hg : PG X tg g) (hb : PSs X body tb)
    (hs : ∀ x, foldedSetIterable iter X.env x = pure x := by intro _; rfl) : PS X (.For tg iter body [] pos) (tFor wi g tb) := by
  intro pins s σ H D I h
  refine wpAny_For (thn (hi pins s σ H _ I h) fun v s1 h1 => thn h1 fun itv s2 h2 => ?_) hs
  obtain ⟨it, fp, tn, J, H2, e, I2, T, st2, f2, W, ⟨m0, w0⟩, turn⟩ := h2
  subst e
  -- what stays true of the iterator's objects through the loop
  have stat : ∀ {H' : Hp}, (∀ b ∈ fp, H' b = none) → ∀ b ∈ fp, FpOk X pins H' b := fun hn b hb => ⟨hn b hb, (f2 b hb).2⟩
  refine codeAny_forLoop_any (fun n s' => ∃ i σ' H', Inv X pins σ' H' s' ∧ tn i s'.heap ∧ (∀ b ∈ fp, H' b = none) ∧ W i n σ' H') ?_ m0 ⟨0, σ, H2, I2, st2, fun b hb => (f2 b hb).1, w0⟩
  rintro n s3 ⟨i, σ3, H3, I3, st3, fr3, w3⟩
  rcases turn i n σ3 H3 w3 with ⟨stop, qn⟩ | ⟨go, N, hN, step⟩
  · refine wpAny_passesOwn hp (thn (T.done X rfl rfl rfl hc i pins s3 σ3 H3 X.xe I3 (stat fr3) st3 stop) fun r s4 ⟨hr, I4⟩ => ?_)
    subst hr
    exact wpAny_execs_nil ⟨σ3, H3, I4, qn⟩
  · refine wpAny_passesOwn hp (thn (T.item X rfl rfl rfl hc i pins s3 σ3 H3 X.xe I3 (stat fr3) st3 go) fun r s4 ⟨u, hr, h4⟩ => ?_)
    subst hr
    refine wpAny_passesOwn hp (thn h4 fun _ s5 ⟨x, H5, I5, r5, y5, st5, fr5⟩ => ?_)
    have I5' := I5.pinned (stat fr5) (T.obj _ _ st5)
    refine wpAny_passesOwn hp (thn (hg _ s5 σ3 H5 x u _ I5' r5 (step x H5 y5)) fun _ s6 ⟨σ6, H6, I6, q6⟩ => ?_)
    refine wpAny_passesOwn hp (thn (hb _ s6 σ6 H6 _ I6 q6) fun f s7 q7 => ?_)
    have again : ∀ {σ7 : St} {H7 : Hp}, Inv X (pins ++ pinsAt fp s5.heap) σ7 H7 s7 → N σ7 H7 → ∃ m, m < n ∧ ∃ i σ' H', Inv X pins σ' H' s7 ∧ tn i s7.heap ∧ (∀ b ∈ fp, H' b = none) ∧ W i m σ' H' := fun {σ7 H7} I7 n7 => by
      obtain ⟨m', hm, w7⟩ := hN σ7 H7 n7
      refine ⟨m', hm, i + 1, σ7, H7, I7.unpinned, T.keep _ _ _ st5 fun b hb o e => (I7.pin (b, o) (List.mem_append_right _ (List.mem_append_right _ (mem_pinsAt hb e)))).1, fun b hb => ?_, w7⟩
      obtain ⟨o, e, d⟩ := T.obj _ _ st5 b hb
      exact (I7.pin (b, o) (List.mem_append_right _ (List.mem_append_right _ (mem_pinsAt hb e)))).2.1
    cases f with
    | next => obtain ⟨σ7, H7, I7, n7⟩ := q7; exact again I7 n7
    | cont => obtain ⟨σ7, H7, I7, n7⟩ := q7; exact again I7 n7
    | brk => obtain ⟨σ7, H7, I7, q7⟩ := q7; exact ⟨σ7, H7, I7.unpinned, q7⟩
    | ret v => obtain ⟨x7, σ7, H7, I7, r7, q7⟩ := q7; exact ⟨x7, σ7, H7, I7.unpinned, r7, q7⟩
end

/-! ### the forms one uses -/
/-- over a list that the body leaves as it is -/
theorem for_list {K : PySem.W.Frag} {a : Addr} {xs : List V} {g : TG} {tb : TS} {D : Ends} {σ : St} {H : Hp} (Pv : Nat → St → Hp → Prop) (h0 : Pv 0 σ H) (hl : ∀ i σ H, i ≤ xs.length → Pv i σ H → SqL K H a xs)
    (hs : ∀ i x σ H, xs[i]? = some x → Pv i σ H → g x σ H fun σ2 H2 => tb { D with nx := Pv (i + 1), ct := Pv (i + 1), bk := D.nx } σ2 H2) (hd : ∀ σ H, Pv xs.length σ H → D.nx σ H) :
    ∃ W : Nat → Nat → St → Hp → Prop, (∃ m, W 0 m σ H) ∧ ∀ i m σ H, W i m σ H →
      ((Itl K a).stop i H ∧ D.nx σ H) ∨ ((Itl K a).go i H ∧ ∃ N : St → Hp → Prop, (∀ σ' H', N σ' H' → ∃ m', m' < m ∧ W (i + 1) m' σ' H') ∧ ∀ x H', (Itl K a).yld i H x H' → g x σ H' fun σ2 H2 => tb { D with nx := N, ct := N, bk := D.nx } σ2 H2) := by
  refine ⟨fun i m σ H => m = xs.length - i ∧ i ≤ xs.length ∧ Pv i σ H, ⟨xs.length, by simp, Nat.zero_le _, h0⟩, ?_⟩
  rintro i m σ H ⟨rfl, hi, p⟩
  have q := hl i σ H hi p
  by_cases hlt : i < xs.length
  · refine .inr ⟨⟨xs, xs[i], q, by simp [hlt]⟩, Pv (i + 1), fun σ' H' p' => ⟨xs.length - (i + 1), by omega, rfl, hlt, p'⟩, fun x H' y => ?_⟩
    obtain ⟨e, y⟩ := y
    subst e
    exact hs i x σ _ (y xs q) p
  · have e : i = xs.length := by omega
    subst e
    exact .inl ⟨⟨xs, q, Nat.le_refl _⟩, hd σ H p⟩
theorem for_range {lo : Int} {n : Nat} {g : TG} {tb : TS} {D : Ends} {σ : St} {H : Hp} (Pv : Nat → St → Hp → Prop) (h0 : Pv 0 σ H)
    (hs : ∀ i σ H, i < n → Pv i σ H → g (.int (lo + i)) σ H fun σ2 H2 => tb { D with nx := Pv (i + 1), ct := Pv (i + 1), bk := D.nx } σ2 H2) (hd : ∀ σ H, Pv n σ H → D.nx σ H) :
    ∃ W : Nat → Nat → St → Hp → Prop, (∃ m, W 0 m σ H) ∧ ∀ i m σ H, W i m σ H →
      ((Itr lo n).stop i H ∧ D.nx σ H) ∨ ((Itr lo n).go i H ∧ ∃ N : St → Hp → Prop, (∀ σ' H', N σ' H' → ∃ m', m' < m ∧ W (i + 1) m' σ' H') ∧ ∀ x H', (Itr lo n).yld i H x H' → g x σ H' fun σ2 H2 => tb { D with nx := N, ct := N, bk := D.nx } σ2 H2) := by
  refine ⟨fun i m σ H => m = n - i ∧ i ≤ n ∧ Pv i σ H, ⟨n, by simp, Nat.zero_le _, h0⟩, ?_⟩
  rintro i m σ H ⟨rfl, hi, p⟩
  by_cases hlt : i < n
  · refine .inr ⟨hlt, Pv (i + 1), fun σ' H' p' => ⟨n - (i + 1), by omega, rfl, hlt, p'⟩, fun x H' y => ?_⟩
    obtain ⟨e, y⟩ := y
    subst e y
    exact hs i σ _ hlt p
  · have e : i = n := by omega
    subst e
    exact .inl ⟨Nat.le_refl _, hd σ H p⟩
end L2

namespace L2
open PySem PySem.Spec PyProof.Rows

abbrev R2 := V → V → Hp → VK → Prop
/-- a two-place operation on values: f is binaryOp op, inplaceOp op or compareOp op -/
def OpR (X : Cx) (f : Value → Value → Sem Value) (r : R2) : Prop :=
  ∀ (pins : List (Addr × Obj)) (s : Shared) (σ : St) (H : Hp) (x y : V) (v u : Value) (Q : VK), Inv X pins σ H s → RelV x v → RelV y u → r x y H Q →
    wpAny (model X.prog X.w) X.A (f v u) (EP X pins σ Q) X.xe s
/-- a call of a value that is known (a builtin, a type) with values -/
def CallR (X : Cx) (f : Value) (r : List V → Hp → VK → Prop) : Prop :=
  ∀ (pins : List (Addr × Obj)) (s : Shared) (σ : St) (H : Hp) (xs : List V) (us : List Value) (Q : VK), Inv X pins σ H s → Vals xs us → r xs H Q →
    wpAny (model X.prog X.w) X.A (call f us) (EP X pins σ Q) X.xe s

def tOp (r : R2) (ta tb : TE) : TE := fun σ H Q => ta σ H fun x H1 => tb σ H1 fun y H2 => r x y H2 Q
/-- ints in, under C, and a value out -/
def rI (C : Int → Int → Prop) (g : Int → Int → V) : R2 := fun x y H Q => ∃ i j, x = .int i ∧ y = .int j ∧ C i j ∧ Q (g i j) H
def rI0 (g : Int → Int → V) : R2 := fun x y H Q => ∃ i j, x = .int i ∧ y = .int j ∧ Q (g i j) H

section
variable {X : Cx} {a b c : Expr} {ta tb tc : TE} {pos : Pos}

theorem binT (ha : PE X a ta) (hb : PE X b tb) {pins : List (Addr × Obj)} {s : Shared} {σ : St} {H : Hp} {R : V → V → Hp → Prop} (I : Inv X pins σ H s)
    (h : ta σ H fun x H1 => tb σ H1 fun y H2 => R x y H2) {Q : Value → Shared → Prop} {f : Value → Value → Sem Value}
    (hf : ∀ v u s2 x y H2, Inv X pins σ H2 s2 → RelV x v → RelV y u → R x y H2 → wpAny (model X.prog X.w) X.A (f v u) Q X.xe s2) :
    wpAny (model X.prog X.w) X.A (eval a X.env) (fun v s₁ => wpAny (model X.prog X.w) X.A (eval b X.env) (fun u s₂ => wpAny (model X.prog X.w) X.A (f v u) Q X.xe s₂) X.xe s₁) X.xe s := by
  refine thn (ha pins s σ H _ I h) fun v s1 ⟨x, H1, I1, r1, q1⟩ => ?_
  refine thn (hb pins s1 σ H1 _ I1 q1) fun u s2 ⟨y, H2, I2, r2, q2⟩ => ?_
  exact hf v u s2 x y H2 I2 r1 r2 q2

theorem pe_op {op : Operator} {r : R2} (ho : OpR X (binaryOp op) r) (ha : PE X a ta) (hb : PE X b tb) : PE X (.BinOp a op b pos) (tOp r ta tb) := by
  intro pins s σ H Q I h
  exact wpAny_BinOp (binT ha hb I h fun v u s2 x y H2 I2 rx ry q => ho pins s2 σ H2 x y v u Q I2 rx ry q)

/-! ### ints -/
theorem opI {f : Value → Value → Sem Value} {C : Int → Int → Prop} {g : Int → Int → Int}
    (rule : ∀ (i j : Int) (t u : Tok) (s : Shared) (Q : Value → Shared → Prop) (E : Value → Shared → Prop), C i j → Q (.int (g i j) s.toks) { s with toks := s.toks + 1 } → wpAny (model X.prog X.w) X.A (f (.int i t) (.int j u)) Q E s) :
    OpR X f (rI C fun i j => .int (g i j)) := by
  intro pins s σ H x y v u Q I rx ry h
  obtain ⟨i, j, rfl, rfl, hc, q⟩ := h
  obtain ⟨t, rfl⟩ := rx
  obtain ⟨t', rfl⟩ := ry
  exact rule i j t t' s _ _ hc ⟨.int (g i j), H, I.tok _, ⟨_, rfl⟩, q⟩
theorem opI0 {f : Value → Value → Sem Value} {g : Int → Int → Int}
    (rule : ∀ (i j : Int) (t u : Tok) (s : Shared) (Q : Value → Shared → Prop) (E : Value → Shared → Prop), Q (.int (g i j) s.toks) { s with toks := s.toks + 1 } → wpAny (model X.prog X.w) X.A (f (.int i t) (.int j u)) Q E s) :
    OpR X f (rI0 fun i j => .int (g i j)) := by
  intro pins s σ H x y v u Q I rx ry h
  obtain ⟨i, j, rfl, rfl, q⟩ := h
  obtain ⟨t, rfl⟩ := rx
  obtain ⟨t', rfl⟩ := ry
  exact rule i j t t' s _ _ ⟨.int (g i j), H, I.tok _, ⟨_, rfl⟩, q⟩
theorem opB0 {f : Value → Value → Sem Value} {g : Int → Int → Bool}
    (rule : ∀ (i j : Int) (t u : Tok) (s : Shared) (Q : Value → Shared → Prop) (E : Value → Shared → Prop), Q (.bool (g i j)) s → wpAny (model X.prog X.w) X.A (f (.int i t) (.int j u)) Q E s) :
    OpR X f (rI0 fun i j => .bl (g i j)) := by
  intro pins s σ H x y v u Q I rx ry h
  obtain ⟨i, j, rfl, rfl, q⟩ := h
  obtain ⟨t, rfl⟩ := rx
  obtain ⟨t', rfl⟩ := ry
  exact rule i j t t' s _ _ ⟨.bl (g i j), H, I, rfl, q⟩

def CDiv (i j : Int) : Prop := 0 < j ∧ j < 1073741824
def CMul (i j : Int) : Prop := (-(2 ^ 64) < i ∧ i < 2 ^ 64) ∨ (-(2 ^ 64) < j ∧ j < 2 ^ 64)
theorem CMul.ok {i j : Int} (h : CMul i j) : IntMulOk i j := by
  rcases h with ⟨h1, h2⟩ | ⟨h1, h2⟩
  · exact .of_left (intBits_le_64 h1 h2)
  · exact .of_right (intBits_le_64 h1 h2)

theorem op_add : OpR X (binaryOp .Add) (rI0 fun i j => .int (i + j)) := opI0 fun _ _ _ _ _ _ _ q => add_int q
theorem op_mul : OpR X (binaryOp .Mult) (rI CMul fun i j => .int (i * j)) := opI fun _ _ _ _ _ _ _ hc q => mul_int q hc.ok
/-- // by a positive divisor -/
theorem op_fdiv : OpR X (binaryOp .FloorDiv) (rI CDiv fun i j => .int (i / j)) := opI fun i j _ _ _ _ _ hc q => by
  have h1 : (0 : Int) < j := hc.1
  have h2 : j < 1073741824 := hc.2
  exact floordiv_int (by omega) (by rw [Int.fdiv_eq_ediv_of_nonneg i (by omega)]; exact q) (.inl (PyProof.noPylong_small (by omega)))
/-- % by a positive divisor of any size -/
theorem op_mod : OpR X (binaryOp .Mod) (rI (fun _ j => 0 < j) fun i j => .int (i % j)) := opI fun i j _ _ _ _ _ hc q => by
  have h1 : (0 : Int) < j := hc
  exact mod_int' (by omega) (by rw [Int.fmod_eq_emod_of_nonneg i (by omega)]; exact q)



/-! ### bools among ints: n += (a < b) -/
end

/-! ### comparisons -/
/-- the scalars that == tells apart as data does -/
def scal : V → V → Bool
  | .non, .non => true | .non, .int _ => true | .int _, .non => true | .non, .bl _ => true | .bl _, .non => true | .non, .str _ => true | .str _, .non => true
  | .int _, .int _ => true | .bl _, .bl _ => true | .str _, .str _ => true | .byt _, .byt _ => true
  | .int _, .str _ => true | .str _, .int _ => true | .bl _, .str _ => true | .str _, .bl _ => true
  | _, _ => false
def rEq : R2 := fun x y H Q => scal x y = true ∧ Q (.bl (decide (x = y))) H
def rNe : R2 := fun x y H Q => scal x y = true ∧ Q (.bl (!decide (x = y))) H

theorem dec_int {i j : Int} : decide (V.int i = V.int j) = (i == j) := by
  rw [Bool.eq_iff_iff]
  simp
theorem dec_bl {i j : Bool} : decide (V.bl i = V.bl j) = (i == j) := by
  rw [Bool.eq_iff_iff]
  simp
theorem dec_str {i j : Str} : decide (V.str i = V.str j) = (i == j) := by
  rw [Bool.eq_iff_iff]
  simp
theorem dec_byt {i j : Array UInt8} : decide (V.byt i = V.byt j) = (i.toList == j.toList) := by
  rw [Bool.eq_iff_iff]
  cases i
  cases j
  simp

section
variable {X : Cx} {a b c : Expr} {ta tb tc : TE} {pos : Pos}
theorem fin_bl {pins : List (Addr × Obj)} {σ : St} {H : Hp} {s : Shared} {Q : VK} {k k' : Bool} (I : Inv X pins σ H s) (q : Q (.bl k) H) (e : k = k') : EP X pins σ Q (.bool k') s := by
  subst e
  exact ⟨.bl k, H, I, rfl, q⟩
theorem op_eq : OpR X (compareOp .Eq) rEq := by
  intro pins s σ H x y v u Q I rx ry h
  obtain ⟨hs, q⟩ := h
  cases x with
  | non =>
    cases rx
    cases y with
    | non => cases ry; exact PySem.EqNone.eq_none_none (fin_bl I q (by simp))
    | bl j => cases ry; exact PySem.EqNone.eq_none_bool (fin_bl I q (by simp))
    | int j => obtain ⟨t', rfl⟩ := ry; exact PySem.EqNone.eq_none_int (fin_bl I q (by simp))
    | str j => obtain ⟨t', rfl⟩ := ry; exact PySem.EqNone.eq_none_str (fin_bl I q (by simp))
    | _ => exact absurd (show false = true from hs) Bool.false_ne_true
  | bl i =>
    cases rx
    cases y with
    | non => cases ry; exact PySem.EqNone.eq_bool_none (fin_bl I q (by simp))
    | bl j => cases ry; exact eq_bool (fin_bl I q dec_bl)
    | str j => obtain ⟨t', rfl⟩ := ry; exact PySem.EqMixed.eq_bool_str (fin_bl I q (by simp))
    | _ => exact absurd (show false = true from hs) Bool.false_ne_true
  | int i =>
    obtain ⟨t, rfl⟩ := rx
    cases y with
    | non => cases ry; exact PySem.EqNone.eq_int_none (fin_bl I q (by simp))
    | int j => obtain ⟨t', rfl⟩ := ry; exact eq_int (fin_bl I q dec_int)
    | str j => obtain ⟨t', rfl⟩ := ry; exact PySem.EqMixed.eq_int_str (fin_bl I q (by simp))
    | _ => exact absurd (show false = true from hs) Bool.false_ne_true
  | str i =>
    obtain ⟨t, rfl⟩ := rx
    cases y with
    | non => cases ry; exact PySem.EqNone.eq_str_none (fin_bl I q (by simp))
    | bl j => cases ry; exact PySem.EqMixed.eq_str_bool (fin_bl I q (by simp))
    | int j => obtain ⟨t', rfl⟩ := ry; exact PySem.EqMixed.eq_str_int (fin_bl I q (by simp))
    | str j => obtain ⟨t', rfl⟩ := ry; exact eq_str (fin_bl I q dec_str)
    | _ => exact absurd (show false = true from hs) Bool.false_ne_true
  | byt i =>
    obtain ⟨t, rfl⟩ := rx
    cases y with
    | byt j => obtain ⟨t', rfl⟩ := ry; exact PySem.W.eq_bytes (fin_bl I q dec_byt)
    | _ => exact absurd (show false = true from hs) Bool.false_ne_true
  | _ => cases y <;> exact absurd (show false = true from hs) Bool.false_ne_true
theorem op_ne : OpR X (compareOp .NotEq) rNe := by
  intro pins s σ H x y v u Q I rx ry h
  obtain ⟨hs, q⟩ := h
  cases x with
  | non =>
    cases rx
    cases y with
    | non => cases ry; exact PySem.EqNone.ne_none_none (fin_bl I q (by simp))
    | bl j => cases ry; exact PySem.EqNone.ne_none_bool (fin_bl I q (by simp))
    | int j => obtain ⟨t', rfl⟩ := ry; exact PySem.EqNone.ne_none_int (fin_bl I q (by simp))
    | str j => obtain ⟨t', rfl⟩ := ry; exact PySem.EqNone.ne_none_str (fin_bl I q (by simp))
    | _ => exact absurd (show false = true from hs) Bool.false_ne_true
  | bl i =>
    cases rx
    cases y with
    | non => cases ry; exact PySem.EqNone.ne_bool_none (fin_bl I q (by simp))
    | bl j => cases ry; exact ne_bool (fin_bl I q (congrArg not dec_bl))
    | str j => obtain ⟨t', rfl⟩ := ry; exact PySem.EqMixed.ne_bool_str (fin_bl I q (by simp))
    | _ => exact absurd (show false = true from hs) Bool.false_ne_true
  | int i =>
    obtain ⟨t, rfl⟩ := rx
    cases y with
    | non => cases ry; exact PySem.EqNone.ne_int_none (fin_bl I q (by simp))
    | int j => obtain ⟨t', rfl⟩ := ry; exact ne_int (fin_bl I q (congrArg not dec_int))
    | str j => obtain ⟨t', rfl⟩ := ry; exact PySem.EqMixed.ne_int_str (fin_bl I q (by simp))
    | _ => exact absurd (show false = true from hs) Bool.false_ne_true
  | str i =>
    obtain ⟨t, rfl⟩ := rx
    cases y with
    | non => cases ry; exact PySem.EqNone.ne_str_none (fin_bl I q (by simp))
    | bl j => cases ry; exact PySem.EqMixed.ne_str_bool (fin_bl I q (by simp))
    | int j => obtain ⟨t', rfl⟩ := ry; exact PySem.EqMixed.ne_str_int (fin_bl I q (by simp))
    | str j => obtain ⟨t', rfl⟩ := ry; exact ne_str (fin_bl I q (congrArg not dec_str))
    | _ => exact absurd (show false = true from hs) Bool.false_ne_true
  | byt i =>
    obtain ⟨t, rfl⟩ := rx
    cases y with
    | byt j => obtain ⟨t', rfl⟩ := ry; exact PySem.W.ne_bytes (fin_bl I q (congrArg not dec_byt))
    | _ => exact absurd (show false = true from hs) Bool.false_ne_true
  | _ => cases y <;> exact absurd (show false = true from hs) Bool.false_ne_true

theorem op_lt : OpR X (compareOp .Lt) (rI0 fun i j => .bl (decide (i < j))) := opB0 fun _ _ _ _ _ _ _ q => lt_int q
theorem op_le : OpR X (compareOp .LtE) (rI0 fun i j => .bl (decide (i ≤ j))) := opB0 fun _ _ _ _ _ _ _ q => le_int q
theorem op_gt : OpR X (compareOp .Gt) (rI0 fun i j => .bl (decide (j < i))) := opB0 fun _ _ _ _ _ _ _ q => gt_int q
/-- the one string within the other -/
theorem op_in_str : OpR X (compareOp .In) (fun x y H Q => ∃ i j, x = .str i ∧ y = .str j ∧ Q (.bl (!(Builtin.Str.occurrences j i 0 j.length 1).isEmpty)) H) := by
  intro pins s σ H x y v u Q I rx ry h
  obtain ⟨i, j, rfl, rfl, q⟩ := h
  obtain ⟨t, rfl⟩ := rx
  obtain ⟨t', rfl⟩ := ry
  exact in_str (fin_bl I q rfl)




theorem nomark (b : Expr) {op : CmpOp} (h : op ≠ .In := by decide) (h2 : op ≠ .NotIn := by decide) : behindInMarks op b = false := by
  have e1 : (op == CmpOp.In) = false := by cases op <;> first | rfl | exact absurd rfl h
  have e2 : (op == CmpOp.NotIn) = false := by cases op <;> first | rfl | exact absurd rfl h2
  cases b <;> simp [behindInMarks, e1, e2]
/-- a comparison as a value; hm: nomark b, or (for in, not in) by with_unfolding_all rfl -/
theorem pe_cmpR {op : CmpOp} {r : R2} (ho : OpR X (compareOp op) r) (ha : PE X a ta) (hb : PE X b tb) (hm : behindInMarks op b = false) : PE X (.Compare a [op] [b] pos) (tOp r ta tb) := by
  intro pins s σ H Q I h
  exact wpAny_Compare1 (binT ha hb I h fun v u s2 x y H2 I2 rx ry q => ho pins s2 σ H2 x y v u Q I2 rx ry q) hm
/-- a reading of a value as a test -/
def tTest (t : TE) : TT := fun σ H Q => t σ H fun x H' => ∃ k, x = .bl k ∧ Q k H'
theorem pt_cmpR {op : CmpOp} {r : R2} (ho : OpR X (compareOp op) r) (ha : PE X a ta) (hb : PE X b tb) (hm : behindInMarks op b = false) : PT X (.Compare a [op] [b] pos) (tTest (tOp r ta tb)) := by
  intro pins s σ H Q I h
  refine wpAny_isTrue_Compare1 (thn (ha pins s σ H _ I h) fun v s1 ⟨x, H1, I1, r1, q1⟩ => thn (hb pins s1 σ H1 _ I1 q1) fun u s2 ⟨y, H2, I2, r2, q2⟩ =>
    thn (ho pins s2 σ H2 x y v u _ I2 r1 r2 q2) fun c s3 ⟨z, H3, I3, r3, k, e, q3⟩ => ?_) hm
  subst e
  cases r3
  exact wpAny_truthy_bool ⟨H3, I3, q3⟩
/-- a op1 b op2 c -/
def tChain (r r' : R2) (ta tb tc : TE) : TE := fun σ H Q => ta σ H fun x H1 => tb σ H1 fun y H2 => r x y H2 fun z H3 => ∃ k, z = .bl k ∧
  (if k = true then tc σ H3 fun w' H4 => r' y w' H4 Q else Q (.bl false) H3)
theorem pe_chain {op op' : CmpOp} {r r' : R2} (ho : OpR X (compareOp op) r) (ho' : OpR X (compareOp op') r') (ha : PE X a ta) (hb : PE X b tb) (hc : PE X c tc)
    (hm : lastMarks [op, op'] [b, c] = false := by with_unfolding_all rfl) : PE X (.Compare a [op, op'] [b, c] pos) (tChain r r' ta tb tc) := by
  intro pins s σ H Q I h
  refine Compare_chain (thn (ha pins s σ H _ I h) fun v s1 ⟨x, H1, I1, r1, q1⟩ => chain_link (thn (hb pins s1 σ H1 _ I1 q1) fun u s2 ⟨y, H2, I2, r2, q2⟩ =>
    thn (ho pins s2 σ H2 x y v u _ I2 r1 r2 q2) fun d s3 ⟨z, H3, I3, r3, k, e, q3⟩ => ?_)) hm
  subst e
  cases r3
  refine wpAny_truthy_bool ?_
  cases k with
  | false => exact ite_ff ⟨.bl false, H3, I3, rfl, q3⟩
  | true => exact ite_tt (chain_last (thn (hc pins s3 σ H3 _ I3 q3) fun w' s4 ⟨z', H4, I4, r4, q4⟩ => ho' pins s4 σ H4 y z' u w' Q I4 r2 r4 q4))

/-! ### truth -/
theorem line63 : (sizeLine : Nat) < 2 ^ 63 := by rw [sizeLine_eq]; decide

/-! ### strs and bytes -/
theorem op_add_str : OpR X (binaryOp .Add) (fun x y H Q => ∃ i j, x = .str i ∧ y = .str j ∧ i.length + j.length ≤ sizeLine ∧ Q (.str (i ++ j)) H) := by
  intro pins s σ H x y v u Q I rx ry h
  obtain ⟨i, j, rfl, rfl, hz, q⟩ := h
  obtain ⟨t, rfl⟩ := rx
  obtain ⟨t', rfl⟩ := ry
  exact add_str (fun t' tk => ⟨.str (i ++ j), H, I.tok _, ⟨_, rfl⟩, q⟩) hz


/-! ### scalar builtins, by CallR -/
theorem vals1 {x : V} {us : List Value} (r : Vals [x] us) : ∃ u, us = [u] ∧ RelV x u := by
  cases r with
  | cons r1 r2 => cases r2; exact ⟨_, rfl, r1⟩
theorem call_str_int : CallR X (.type "str") (fun xs H Q => ∃ i, xs = [.int i] ∧ i.natAbs.log2 < 1920 ∧ Q (.str (toString i)) H) := by
  intro pins s σ H xs us Q I r h
  obtain ⟨i, rfl, hz, q⟩ := h
  obtain ⟨u, rfl, t, rfl⟩ := vals1 r
  exact PySem.P.str_of_int hz ⟨.str _, H, I.tok _, ⟨_, rfl⟩, q⟩
end
end L2

namespace L2
open PySem PySem.Spec PyProof.Rows

/-! ### an instance, its attributes a map -/
structure ObjM (h : Heap) (x dx C : Addr) (mA : Str → Option Value) : Prop where
  obj : h.get? x = some (PySem.W.instObj C dx)
  ns : h.Ns1 dx mA
  ne : dx ≠ x

theorem lookIn_ns {h : Heap} {dx : Addr} {mA : Str → Option Value} (n : h.Ns1 dx mA) : ∃ od, h.get? dx = some od ∧ ∀ name, PySem.W.lookIn name od = some (mA name) := by
  obtain ⟨o, es, ep, ho, hd, hk, _, hm⟩ := n
  refine ⟨o, ho, fun name => ?_⟩
  have e := hm name
  unfold nsFind findBy at e
  rw [← Array.find?_toList] at e
  unfold PySem.W.lookIn
  rw [hd]
  dsimp only
  split
  · rename_i y q
    rw [q] at e
    exact congrArg some e
  · rename_i q
    rw [q] at e
    have a : es.toList.any (·.refKey) = false := by
      rw [List.any_eq_false]
      intro y hy
      obtain ⟨z, t, hkey⟩ := hk y (Array.mem_toList_iff.mp hy)
      simp [DictEntry.refKey, hkey]
    have a' : ¬ es.toList.any (·.refKey) = true := by rw [a]; exact Bool.false_ne_true
    rw [if_neg a']
    exact congrArg some e

theorem ObjM.look {h : Heap} {x dx C : Addr} {mA : Str → Option Value} (I : ObjM h x dx C mA) : ∃ od, PySem.W.InstAt h x (PySem.W.instObj C dx) C (some od) ∧ ∀ name, PySem.W.lookIn name od = some (mA name) :=
  let ⟨od, ho, hl⟩ := lookIn_ns I.ns
  ⟨od, ⟨I.obj, rfl, rfl, ho⟩, hl⟩

section
variable {prog : Program} {w : World} {A : Around} {E : Value → Shared → Prop} {s : Shared} {K : PySem.W.Frag} {x dx C f : Addr} {mA : Str → Option Value} {name : Str} {v : Value}

theorem get_map {expr : Bool} {Q : Value → Shared → Prop} (X : K.In s.heap) (I : ObjM s.heap x dx C mA) (hg : PySem.W.plainGet K C name = true) (hh : PySem.W.hasDictIn K C = true)
    (ha : PySem.W.findIn K (.ref C) name = some none) (hv : mA name = some v) (hv' : PySem.W.handedIn v = true) (h : Q v { s with toks := s.toks + 1 }) :
    wpAny (model prog w) A (getAttr (.ref x) name expr) Q E s := by
  obtain ⟨od, J, hl⟩ := I.look
  exact PySem.W.get_value X J (PySem.W.plainGet_of hg).1 (PySem.W.findObj_own hh ha rfl (by rw [hl, hv])) hv' h


theorem get_meth {pl : Sem Bool} {Q : Value × List Value → Shared → Prop} (X : K.In s.heap) (I : ObjM s.heap x dx C mA) (hg : PySem.W.plainGet K C name = true)
    (hf : PySem.W.findIn K (.ref C) name = some (some (.ref f))) (ht : PySem.W.isFn K (.ref f) = true) (hv : mA name = none) (h : Q (.ref f, [.ref x]) s) :
    wpAny (model prog w) A (getMethod (.ref x) name pl) Q E s := by
  obtain ⟨od, J, hl⟩ := I.look
  exact PySem.W.method_fn X J (PySem.W.plainGet_of hg).1 (PySem.W.plainGet_of hg).2 hf (beq_iff_eq.mp ht) (by show (PySem.W.lookIn name od).map (·.isSome) = some false; rw [hl, hv]; rfl) h

theorem set_map {ns : List Str} {Q : Unit → Shared → Prop} (X : K.In s.heap) (I : ObjM s.heap x dx C mA)
    (hs : PySem.W.findIn K (.ref C) "__setattr__" = some (some (.builtin "object.__setattr__"))) (hp : PySem.W.plainOver K C = true) (ht : PySem.W.takerIn K C name = some none) (hh : PySem.W.hasDictIn K C = true)
    (hw : PySem.Within mA ns) (hsz : ns.length ≤ sizeLine)
    (h : ∀ h', ObjM h' x dx C (fun y => if y = name then some v else mA y) → Heap.SameBut dx s.heap h' → Q () { s with heap := h', toks := s.toks + 2 }) :
    wpAny (model prog w) A (setAttr (.ref x) name v) Q E s := by
  obtain ⟨od, J, hl⟩ := I.look
  refine PySem.W.set_plain X J hs (PySem.W.osa_open (s := { s with toks := s.toks + 1 }) (r := none) X J hp ht fun b => ?_)
  obtain ⟨cd, hc, hd'⟩ := PySem.W.any_some hh
  have hx : s.heap.get? x = some ⟨.ref C, some dx, .plain, #[]⟩ := I.obj
  refine wpAny_bind (wpAny_pure (wpAny_bind (wpAny_bind (wpAny_loadPart hx (wpAny_bind (PySem.W.Looks.here (s := { s with toks := s.toks + 1 }) (PySem.W.looks_clsIn X hc) ?_))))))
  rw [hd']
  refine wpAny_pure (a := some dx) (wpAny_bind (wpAny_pure (wpAny_bind ?_)))
  refine wpAny_nsSet1 (s := { s with toks := s.toks + 1 }) I.ns fun h' hn2 hs2 => ?_
  obtain ⟨oD, esD, epD, hoD, hdD, hcD⟩ := hn2.count (PySem.Within.cons name v hw)
  refine wpAny_bind (wpAny_lookBehind hoD (by rw [hdD]; exact pastItsLine_dict (Nat.le_trans hcD (by rw [List.length_cons]; omega))) ?_)
  exact wpAny_pure (h _ ⟨(hs2.2 _ (Ne.symm I.ne)).trans I.obj, hn2, I.ne⟩ hs2)

/-- C(..): the dict at the heap's end, the instance behind it; then its __init__ -/
theorem make_map {R : Result → Shared → Prop} {vs : List Value} {kw : List (Str × Value)} (X : K.In s.heap) (hm : PySem.W.makesIn K C = true)
    (hi : PySem.W.findIn K (.ref C) "__init__" = some (some (.ref f))) (hf : PySem.W.typeIn K (.ref f) = some (.type "function"))
    (h : codeAny (model prog w) (A.under (.builtin "type.__call__" ⟨.ref C :: vs, kw⟩)) (.call (.ref f) ⟨.ref (s.heap.objs.size + 1) :: vs, kw⟩) (PySem.W.InitBack (s.heap.objs.size + 1) R)
      { s with heap := (s.heap.push PySem.W.emptyDict).push (PySem.W.instObj C s.heap.objs.size) }) :
    codeAny (model prog w) A (.call (.ref C) ⟨vs, kw⟩) R s := by
  obtain ⟨hh, g, d, t, os⟩ := s
  exact PySem.W.make_core (PySem.W.makes_of X hm) (PySem.W.looks_findIn X hi) (fun self => PySem.W.bind_fn X self hf) (.inl rfl) h
end

/-! ### the attributes as a list of pairs -/
def putF (f : Str) (v : V) : List (Str × V) → List (Str × V)
  | [] => [(f, v)]
  | (g, x) :: r => if g = f then (g, v) :: r else (g, x) :: putF f v r
theorem lookup_putF (f g : Str) (v : V) : ∀ fs : List (Str × V), (putF f v fs).lookup g = if g = f then some v else fs.lookup g
  | [] => by
    show List.lookup g [(f, v)] = _
    by_cases h : g = f
    · have hb : (g == f) = true := beq_iff_eq.mpr h
      simp only [List.lookup, hb, if_pos h]
    · have hb : (g == f) = false := beq_eq_false_iff_ne.mpr h
      simp only [List.lookup, hb, if_neg h]
  | (k, x) :: r => by
    have ih := lookup_putF f g v r
    rw [show putF f v ((k, x) :: r) = (if k = f then (k, v) :: r else (k, x) :: putF f v r) from rfl]
    by_cases hk : k = f
    · rw [if_pos hk]
      by_cases h : g = k
      · have hb : (g == k) = true := beq_iff_eq.mpr h
        simp only [List.lookup, hb, if_pos (h.trans hk)]
      · have hb : (g == k) = false := beq_eq_false_iff_ne.mpr h
        simp only [List.lookup, hb, if_neg (fun e : g = f => h (e.trans hk.symm))]
    · rw [if_neg hk]
      by_cases h : g = k
      · have hb : (g == k) = true := beq_iff_eq.mpr h
        simp only [List.lookup, hb, if_neg (fun e : g = f => hk (h.symm.trans e))]
      · have hb : (g == k) = false := beq_eq_false_iff_ne.mpr h
        simp only [List.lookup, hb]
        exact ih
theorem keys_putF (f : Str) (v : V) : ∀ fs : List (Str × V), f ∈ (putF f v fs).map (·.1) ∧ ∀ g, g ∈ fs.map (·.1) → g ∈ (putF f v fs).map (·.1)
  | [] => ⟨by simp [putF], fun g h => by simp at h⟩
  | (k, x) :: r => by
    obtain ⟨i1, i2⟩ := keys_putF f v r
    rw [show putF f v ((k, x) :: r) = (if k = f then (k, v) :: r else (k, x) :: putF f v r) from rfl]
    by_cases hk : k = f
    · rw [if_pos hk]
      subst hk
      exact ⟨by simp, fun g h => by simpa using h⟩
    · rw [if_neg hk]
      refine ⟨?_, fun g h => ?_⟩
      · rw [List.map_cons]
        exact List.mem_cons_of_mem _ i1
      · rw [List.map_cons] at h ⊢
        rcases List.mem_cons.mp h with e | e
        · exact List.mem_cons.mpr (.inl e)
        · exact List.mem_cons_of_mem _ (i2 g e)
theorem length_putF (f : Str) (v : V) : ∀ fs : List (Str × V), (putF f v fs).length ≤ fs.length + 1
  | [] => by simp [putF]
  | (k, x) :: r => by
    have ih := length_putF f v r
    rw [show putF f v ((k, x) :: r) = (if k = f then (k, v) :: r else (k, x) :: putF f v r) from rfl]
    by_cases hk : k = f
    · rw [if_pos hk, List.length_cons, List.length_cons]; omega
    · rw [if_neg hk, List.length_cons, List.length_cons]; omega

theorem RelO.some_of {v : V} {o : Option Value} (r : RelO (some v) o) : ∃ u, o = some u ∧ RelV v u := by
  cases o with
  | none => exact (show False from r).elim
  | some u => exact ⟨u, rfl, r⟩
theorem RelO.none_of {o : Option Value} (r : RelO none o) : o = none := by
  cases o with
  | none => rfl
  | some u => exact (show False from r).elim
theorem handed_of {v : V} {u : Value} (r : RelV v u) : PySem.W.handedIn u = true := by
  cases v with
  | non => cases (show u = Value.none from r); rfl
  | bl b => cases (show u = Value.bool b from r); rfl
  | int i => obtain ⟨t, e⟩ := (show ∃ t, u = Value.int i t from r); cases e; rfl
  | str x => obtain ⟨t, e⟩ := (show ∃ t, u = Value.str x t from r); cases e; rfl
  | byt b => obtain ⟨t, e⟩ := (show ∃ t, u = Value.bytes b t from r); cases e; rfl
  | flt b => obtain ⟨t, e⟩ := (show ∃ t, u = Value.float b t from r); cases e; rfl
  | ref a => cases (show u = Value.ref a from r); rfl
  | ty n => cases (show u = Value.type n from r); rfl

section
variable {P : Program} {w : World} {H H' : Hp} {h h' : Heap} {a C dx : Addr} {fs fs' : List (Str × V)}
theorem ins_get (hok : HOk P w H h) (e : H a = some (.ins C dx fs)) : ∃ mA, ObjM h a dx C mA ∧ (∀ f, RelO (fs.lookup f) (mA f)) ∧ PySem.Within mA (fs.map (·.1)) ∧ fs.length ≤ 1000 ∧ H dx = some (.own a) := by
  obtain ⟨d, z, ne, ob, mA, n, r, q⟩ := (show ObjOk P w H h a (.ins C dx fs) from hok a _ e)
  exact ⟨mA, ⟨ob, n, ne⟩, r, q, z, d⟩
end

/-! ### what of the text a class must have -/
structure Cls (K : PySem.W.Frag) (C : Addr) : Prop where
  pg : PySem.W.plainGet K C Str.empty = true
  hd : PySem.W.hasDictIn K C = true
  po : PySem.W.plainOver K C = true
  sa : PySem.W.findIn K (.ref C) "__setattr__" = some (some (.builtin "object.__setattr__"))
theorem Cls.get {K : PySem.W.Frag} {C : Addr} (c : Cls K C) (f : Str) : PySem.W.plainGet K C f = true := c.pg
/-- no class of it has the name -/
def NoAttr (K : PySem.W.Frag) (C : Addr) (f : Str) : Prop := PySem.W.findIn K (.ref C) f = some none
theorem NoAttr.taker {K : PySem.W.Frag} {C : Addr} {f : Str} (n : NoAttr K C f) : PySem.W.takerIn K C f = some none := by
  unfold PySem.W.takerIn
  rw [show PySem.W.findIn K (.ref C) f = some none from n]
  rfl
/-- a constant of the class -/
structure Con (K : PySem.W.Frag) (C : Addr) (f : Str) (v : V) (u : Value) : Prop where
  at_ : PySem.W.findIn K (.ref C) f = some (some u)
  rel : RelV v u
  get : PySem.W.specialIn K u "__get__" = some none
  cp : PySem.W.copiedNames.contains f = false
/-- a method: a plain def of the class or of one above it -/
structure Meth (K : PySem.W.Frag) (C : Addr) (m : Str) (f : Addr) : Prop where
  at_ : PySem.W.findIn K (.ref C) m = some (some (.ref f))
  fn : PySem.W.isFn K (.ref f) = true
  kp : PySem.W.keepIn K (.ref f) = true

section
variable {X : Cx} {pins : List (Addr × Obj)} {σ : St} {H : Hp} {s : Shared} {a C dx : Addr} {fs : List (Str × V)} {f : Str} {v : V} {A : Around} {E : Value → Shared → Prop}

theorem getattr_ok {b : Bool} {Q : Value → Shared → Prop} (I : Inv X pins σ H s) (e : H a = some (.ins C dx fs)) (c : Cls X.K C) (n : NoAttr X.K C f) (l : fs.lookup f = some v)
    (h : ∀ u s', Inv X pins σ H s' → RelV v u → Q u s') : wpAny (model X.prog X.w) A (getAttr (.ref a) f b) Q E s := by
  obtain ⟨mA, O, r, _, _, _⟩ := ins_get I.hok e
  obtain ⟨u, hu, ru⟩ := RelO.some_of (v := v) (o := mA f) (by rw [← l]; exact r f)
  exact get_map I.kIn O (c.get f) c.hd n hu (handed_of ru) (h u _ (I.tok _) ru)


theorem getmeth_ok {m : Str} {g : Addr} {pl : Sem Bool} {Q : Value × List Value → Shared → Prop} (I : Inv X pins σ H s) (e : H a = some (.ins C dx fs)) (c : Cls X.K C) (k : Meth X.K C m g) (l : fs.lookup m = none)
    (h : Q (.ref g, [.ref a]) s) : wpAny (model X.prog X.w) A (getMethod (.ref a) m pl) Q E s := by
  obtain ⟨mA, O, r, _, _, _⟩ := ins_get I.hok e
  have hn : mA m = none := RelO.none_of (by rw [← l]; exact r m)
  exact get_meth I.kIn O (c.get m) k.at_ k.fn hn h

theorem setattr_ok {y : V} {u : Value} {Q : Unit → Shared → Prop} (I : Inv X pins σ H s) (e : H a = some (.ins C dx fs)) (c : Cls X.K C) (n : NoAttr X.K C f) (hl : fs.length < 1000) (ry : RelV y u)
    (h : ∀ s', Inv X pins σ (upd H a (.ins C dx (putF f y fs))) s' → Q () s') : wpAny (model X.prog X.w) A (setAttr (.ref a) f u) Q E s := by
  obtain ⟨mA, O, r, wi, _, ho⟩ := ins_get I.hok e
  have hz : (fs.map (·.1)).length ≤ sizeLine := by rw [List.length_map, sizeLine_eq]; omega
  refine set_map I.kIn O c.sa c.po n.taker c.hd wi hz fun h' O' sb => h _ ?_
  have hd : ∃ o, h'.get? dx = some o := let ⟨o, _, _, e', _⟩ := O'.ns; ⟨o, e'⟩
  refine I.write (x := a) (e := dx) (by rw [e]; exact True.intro) (.inr ho) (fun b q hb z => (sb.2 b hb).trans z) hd ?_
  refine ⟨by rw [upd_ne O.ne]; exact ho, ?_, O.ne, O'.obj, _, O'.ns, fun g => ?_, fun g hg => ?_⟩
  · have := length_putF f y fs; omega
  · show RelO ((putF f y fs).lookup g) (if g = f then some u else mA g)
    rw [lookup_putF]
    by_cases q : g = f
    · rw [if_pos q, if_pos q]; exact ry
    · rw [if_neg q, if_neg q]; exact r g
  · by_cases q : g = f
    · rw [q]; exact (keys_putF f y fs).1
    · refine (keys_putF f y fs).2 g (wi g fun z => hg ?_)
      show (if g = f then some u else mA g) = none
      rw [if_neg q]; exact z

/-- a new instance, tracked, without attributes -/
theorem Inv.made (I : Inv X pins σ H s) : Inv X pins σ (upd (upd H s.heap.objs.size (.own (s.heap.objs.size + 1))) (s.heap.objs.size + 1) (.ins C s.heap.objs.size []))
    { s with heap := (s.heap.push PySem.W.emptyDict).push (PySem.W.instObj C s.heap.objs.size) } := by
  have e1 : (s.heap.push PySem.W.emptyDict).get? s.heap.objs.size = some PySem.W.emptyDict := Heap.get?_push_size s.heap rfl
  have e2 : ((s.heap.push PySem.W.emptyDict).push (PySem.W.instObj C s.heap.objs.size)).get? (s.heap.objs.size + 1) = some (PySem.W.instObj C s.heap.objs.size) := by
    have := Heap.get?_push_size (s.heap.push PySem.W.emptyDict) (o := PySem.W.instObj C s.heap.objs.size) rfl
    rwa [Heap.size_push] at this
  have e3 : (s.heap.push PySem.W.emptyDict).Ns s.heap.objs.size (fun _ => none) := ⟨PySem.W.emptyDict, #[], _, e1, rfl, (fun e he => absurd he (by simp)), fun _ => rfl⟩
  have I1 := I.laid (a := s.heap.objs.size) (o := .own (s.heap.objs.size + 1)) (h' := s.heap.push PySem.W.emptyDict) (t' := s.toks) (fun b u q => Heap.get?_push_of_some _ q) (Nat.le_refl _) ⟨_, e1⟩
  refine I1.laid (a := s.heap.objs.size + 1) (o := .ins C s.heap.objs.size []) (t' := s.toks) (fun b u q => Heap.get?_push_of_some _ q) (Nat.le_of_eq (Heap.size_push _ _)) ?_
  have ne : s.heap.objs.size ≠ s.heap.objs.size + 1 := Nat.ne_of_lt (Nat.lt_succ_self _)
  refine ⟨by rw [upd_ne ne, upd_same], Nat.zero_le _, ne, e2, fun _ => none, (Heap.Ns1.of_empty e3).at fun o q => Heap.get?_push_of_some _ q, fun _ => True.intro, fun y hy => absurd rfl hy⟩

/-- e.f where nothing but the object is asked: through attributeBase (super) and the last hold -/
theorem attr_of {prog : Program} {w : World} {env : Env} {e : Expr} {f : Str} {pos : Pos} {s : Shared} {Q : Value → Shared → Prop} (hb : attributeBase e f env (eval e env) = eval e env)
    (h : wpAny (model prog w) A (eval e env) (fun o s₁ => wpAny (model prog w) A (getAttr o f true) Q E s₁) E s) : wpAny (model prog w) A (eval (.Attribute e f pos) env) Q E s :=
  Attribute_any_ h (by rw [arm_eval_Attribute, hb])
end

/-! ### readings and rules -/
/-- e.f, an attribute of the instance -/
def tFld (K : PySem.W.Frag) (ta : TE) (f : Str) : TE := fun σ H Q => ta σ H fun x H1 => ∃ a C dx fs v, x = .ref a ∧ H1 a = some (.ins C dx fs) ∧ Cls K C ∧ NoAttr K C f ∧ fs.lookup f = some v ∧ Q v H1
/-- e.f = value -/
def sFld (K : PySem.W.Frag) (ta tv : TE) (f : Str) : TS := fun D σ H => tv σ H fun y H1 => ta σ H1 fun x H2 => ∃ a C dx fs, x = .ref a ∧ H2 a = some (.ins C dx fs) ∧ Cls K C ∧ NoAttr K C f ∧ fs.length < 1000 ∧
  D.nx σ (upd H2 a (.ins C dx (putF f y fs)))

section
variable {X : Cx} {o e value : Expr} {f : Str} {pos pos' tpos : Pos} {ta tv : TE}
theorem pe_fld (he : PE X e ta) (hb : attributeBase e f X.env (eval e X.env) = eval e X.env) : PE X (.Attribute e f pos) (tFld X.K ta f) := by
  intro pins s σ H Q I h
  refine attr_of hb (thn (he pins s σ H _ I h) fun u s1 ⟨x, H1, I1, rx, a, C, dx, fs, v, ex, ea, c, n, l, q⟩ => ?_)
  subst ex
  obtain rfl : u = Value.ref a := rx
  exact getattr_ok I1 ea c n l fun u' s2 I2 ru => ⟨v, H1, I2, ru, q⟩
theorem ps_fld (ha : PE X o ta) (hv : PE X value tv) (hs : swapsWith value (some (.Attribute o f pos')) pos.line X.env = pure false) : PS X (.Assign [.Attribute o f pos'] value pos) (sFld X.K ta tv f) := by
  intro pins s σ H D I h
  refine plainObj_wpAny_Assign_Attribute (thn (hv pins s σ H _ I h) fun u s1 ⟨y, H1, I1, ry, q⟩ => thn (ha pins s1 σ H1 _ I1 q) fun ov s2 ⟨x, H2, I2, rx, a, C, dx, fs, ex, ea, c, n, l, q2⟩ => ?_) hs
  subst ex
  obtain rfl : ov = Value.ref a := rx
  exact setattr_ok I2 ea c n l ry fun s3 I3 => ⟨σ, _, I3, q2⟩

/-- what is between an instance and its method: the tree of a method call -/
theorem methcall_of {pl : Sem Bool} {m : Str} {apos : Pos} {args : List Expr} {pins : List (Addr × Obj)} {s : Shared} {σ : St} {H : Hp} {Q : Value → Shared → Prop} {te : TE} (he : PE X e te) (I : Inv X pins σ H s)
    (h : te σ H fun x H1 => ∃ a C dx fs g, x = .ref a ∧ H1 a = some (.ins C dx fs) ∧ Cls X.K C ∧ Meth X.K C m g ∧ fs.lookup m = none ∧
      ∀ s1, Inv X pins σ H1 s1 → wpAny (model X.prog X.w) X.A (callWith pos (.ref g) [.ref a] (backTo pos (starEach args X.env)) (backToKw pos (keywordEach [] X.env))) Q X.xe s1)
    (ht : eval (.Call (.Attribute e m apos) args [] pos) X.env = (do
      let ov ← eval e X.env
      standAt apos.atName
      let (f, first) ← holding [ov] (getMethod ov m pl)
      callWith pos f first (backTo pos (starEach args X.env)) (backToKw pos (keywordEach [] X.env)))) :
    wpAny (model X.prog X.w) X.A (eval (.Call (.Attribute e m apos) args [] pos) X.env) Q X.xe s := by
  refine PySem.W.methodCall_KW (pl := pl) (thn (he pins s σ H _ I h) fun u s1 ⟨x, H1, I1, rx, a, C, dx, fs, g, ex, ea, c, k, l, q⟩ => ?_) ht
  subst ex
  obtain rfl : u = Value.ref a := rx
  exact getmeth_ok I1 ea c k l (q s1 I1)
end

/-! ### isinstance -/
section
variable {X : Cx} {pins : List (Addr × Obj)} {σ : St} {H : Hp} {s : Shared} {A : Around} {E : Value → Shared → Prop} {Q : Value → Shared → Prop} {c : Value} {b : Bool}
/-- the type of a value, as the fragment's deciders take it; for an instance its class -/
inductive TyOf (K : PySem.W.Frag) (H : Hp) : V → Value → Prop where
  | non : TyOf K H .non (.type "NoneType")
  | bl (x : Bool) : TyOf K H (.bl x) (.type "bool")
  | int (i : Int) : TyOf K H (.int i) (.type "int")
  | str (x : Str) : TyOf K H (.str x) (.type "str")
  | flt (x : UInt64) : TyOf K H (.flt x) (.type "float")
  | lst {a : Addr} {xs : List V} (e : H a = some (.lst xs)) : TyOf K H (.ref a) (.type "list")
  | frz {a : Addr} {o : Obj} {xs : List V} (e : H a = some (.frz o (.lst xs))) : TyOf K H (.ref a) (.type "list")
  | tup {a : Addr} {xs : List V} (e : H a = some (.tup xs)) : TyOf K H (.ref a) (.type "tuple")
  | dK {a : Addr} {kvs : List (Key × V)} (e : H a = some (.dK kvs)) : TyOf K H (.ref a) (.type "dict")
  | dT {a : Addr} {kvs : List (List Key × V)} (e : H a = some (.dT kvs)) : TyOf K H (.ref a) (.type "dict")
  | ins {a C dx : Addr} {fs : List (Str × V)} (e : H a = some (.ins C dx fs)) (cl : Cls K C) (ha : PySem.W.findIn K (.ref C) "__class__" = some (some (.builtin "object.__class__")))
      (hn : PySem.W.specialIn K (.builtin "object.__class__") "__get__" = some (some (.builtin "getset_descriptor.__get__"))) (htk : PySem.W.takesIn K (.builtin "object.__class__") = some true)
      (hm : PySem.W.mroIn K C (.type "object") = some true) : TyOf K H (.ref a) (.ref C)
/-- isinstance(x, c) for one class c, a built-in or an own one: kitOne's answer -/
theorem isinst_ok {x : V} {u t : Value} (I : Inv X pins σ H s) (rx : RelV x u) (ty : TyOf X.K H x t) (e : PySem.W.kitOne X.K t c = some b) (h : ∀ tk, Q (.bool b) { s with toks := tk }) :
    wpAny (model X.prog X.w) A (call (.builtin "isinstance") [u, c]) Q E s := by
  cases ty with
  | non => cases (show u = Value.none from rx); exact PySem.W.kia_one PySem.W.kitx_none I.kIn True.intro e (fun z => nomatch z) h
  | bl y => cases (show u = Value.bool y from rx); exact PySem.W.kia_one PySem.W.kitx_bool I.kIn True.intro e (fun z => nomatch z) h
  | int i => obtain ⟨t, q⟩ := (show ∃ t, u = Value.int i t from rx); cases q; exact PySem.W.kia_one PySem.W.kitx_int I.kIn True.intro e (fun z => nomatch z) h
  | str y => obtain ⟨t, q⟩ := (show ∃ t, u = Value.str y t from rx); cases q; exact PySem.W.kia_one PySem.W.kitx_str I.kIn True.intro e (fun z => nomatch z) h
  | flt y => obtain ⟨t, q⟩ := (show ∃ t, u = Value.float y t from rx); cases q; exact PySem.W.kia_one PySem.W.kitx_float I.kIn True.intro e (fun z => nomatch z) h
  | @lst a xs ea =>
    cases (show u = Value.ref a from rx)
    obtain ⟨_, _, n, _, h1⟩ := (show ObjOk X.prog X.w H s.heap a (.lst xs) from I.hok a _ ea)
    exact PySem.W.kia_one PySem.W.kitx_list I.kIn ⟨_, h1, rfl⟩ e (fun z => nomatch z) h
  | @frz a ob xs ea =>
    cases (show u = Value.ref a from rx)
    obtain ⟨_, _, _, n, _, h1⟩ := (show ObjOk X.prog X.w H s.heap a (.frz ob (.lst xs)) from I.hok a _ ea)
    exact PySem.W.kia_one PySem.W.kitx_list I.kIn ⟨_, h1, rfl⟩ e (fun z => nomatch z) h
  | @tup a xs ea =>
    cases (show u = Value.ref a from rx)
    obtain ⟨_, _, _, p⟩ := (show ObjOk X.prog X.w H s.heap a (.tup xs) from I.hok a _ ea)
    obtain ⟨o, h1, h2, _⟩ := p
    exact PySem.W.kia_one PySem.W.kitx_tuple I.kIn ⟨o, h1, h2⟩ e (fun z => nomatch z) h
  | @dK a kvs ea =>
    cases (show u = Value.ref a from rx)
    obtain ⟨_, _, vs, _, p⟩ := (show ObjOk X.prog X.w H s.heap a (.dK kvs) from I.hok a _ ea)
    obtain ⟨o, es, ep, h1, h2, _⟩ := p
    exact PySem.W.kia_one PySem.W.kitx_dict I.kIn ⟨o, h1, h2.1⟩ e (fun z => nomatch z) h
  | @dT a kvs ea =>
    cases (show u = Value.ref a from rx)
    obtain ⟨_, _, xs, _, o, es, ep, h1, h2, _⟩ := (show ObjOk X.prog X.w H s.heap a (.dT kvs) from I.hok a _ ea)
    exact PySem.W.kia_one PySem.W.kitx_dict I.kIn ⟨o, h1, h2.1⟩ e (fun z => nomatch z) h
  | @ins a C dx fs ea cl ha hn htk hm =>
    cases (show u = Value.ref a from rx)
    obtain ⟨mA, O, _⟩ := ins_get I.hok ea
    obtain ⟨od, J, _⟩ := O.look
    exact PySem.W.kia_one (PySem.W.kitx_own (cl.get _) cl.hd ha hn htk hm) I.kIn J e (fun z => nomatch z) h
end
end L2

namespace L2
open PySem PySem.Spec PyProof.Rows

/-! ### room -/
structure Room (k : Nat) (A : Around) : Prop where
  hd : A.handled = none
  dp : A.depth + 3 * k + 5 < recursionLimit
  un : A.units + 16 * k + 200 < cLine
theorem Room.mono {j k : Nat} {A : Around} (r : Room k A) (h : j ≤ k) : Room j A := ⟨r.hd, by have := r.dp; omega, by have := r.un; omega⟩
theorem Room.deeper {k : Nat} {A : Around} (r : Room (k + 1) A) (env : Env) : Room k (A.deeper env) :=
  ⟨r.hd, by have := r.dp; show A.depth + 1 + 3 * k + 5 < _; omega, by have := r.un; show A.units + 3 + 16 * k + 200 < _; omega⟩
theorem make_depth {A : Around} {C : Addr} {us : List Value} {kw : List (Str × Value)} : (A.under (.builtin "type.__call__" ⟨.ref C :: us, kw⟩)).depth = A.depth + 1 := by
  first | rfl | simp [Around.under, Code.weight, Code.isCreation, Code.isGuard, Code.isCaller, Code.frames, Code.isFrame, guardIds]
theorem make_units {A : Around} {C : Addr} {us : List Value} {kw : List (Str × Value)} : (A.under (.builtin "type.__call__" ⟨.ref C :: us, kw⟩)).units = A.units + 1 := by
  first | rfl | simp [Around.under, Code.cUnits, Code.frames, Code.isFrame]
theorem Room.make {k : Nat} {A : Around} (r : Room (k + 1) A) (C : Addr) (us : List Value) (kw : List (Str × Value)) : Room k (A.under (.builtin "type.__call__" ⟨.ref C :: us, kw⟩)) :=
  ⟨r.hd, by have := r.dp; rw [make_depth]; omega, by have := r.un; rw [make_units]; omega⟩
theorem Room.depth {k : Nat} {A : Around} (r : Room k A) : A.depth < recursionLimit := by have := r.dp; omega
theorem Room.units {k : Nat} {A : Around} (r : Room k A) : A.units + 64 < cLine := by have := r.un; omega

/-! ### argument lists and displays -/
def tNil : TA := fun _ H Q => Q [] H
def tCons (ta : TE) (tr : TA) : TA := fun σ H Q => ta σ H fun x H1 => tr σ H1 fun xs H2 => Q (x :: xs) H2
section
variable {X : Cx} {e : Expr} {es : List Expr} {te : TE} {t : TA} {pos : Pos}
theorem pa_nil : PA X [] tNil := fun _ _ _ _ H Q I h => Calls.spliced_nil ⟨[], H, I, .nil, h⟩
theorem pa_cons (ha : PE X e te) (hr : PA X es t) (hs : starEach (e :: es) X.env = (false, eval e X.env) :: starEach es X.env := by rfl) : PA X (e :: es) (tCons te t) := by
  intro pos pins s σ H Q I h
  rw [hs]
  show wpAny _ _ (spliced ((false, eval e X.env) :: backTo pos (starEach es X.env))) _ _ s
  refine Calls.spliced_cons (thn (ha pins s σ H _ I h) fun u s1 ⟨x, H1, I1, r1, q1⟩ => ?_)
  exact thn (hr pos pins s1 σ H1 _ I1 q1) fun us s2 ⟨xs, H2, I2, r2, q2⟩ => ⟨x :: xs, H2, I2, .cons r1 r2, q2⟩

def tLst (t : TA) : TE := fun σ H Q => t σ H fun xs H1 => xs.length ≤ sizeLine ∧ ∀ p, H1 p = none → Q (.ref p) (upd H1 p (.lst xs))
theorem pe_lst (h : PA X es t) : PE X (.List es pos) (tLst t) := by
  intro pins s σ H Q I hq
  refine wpAny_List_spliced (thn (h pos pins s σ H _ I hq) fun us s1 ⟨xs, H1, I1, r, z, q⟩ => ⟨by rw [← r.length]; exact z, ?_⟩)
  have hf : H1 s1.heap.objs.size = none := I1.hok.fresh (Nat.le_refl _)
  refine ⟨.ref s1.heap.objs.size, upd H1 s1.heap.objs.size (.lst xs), I1.laid (t' := s1.toks) (fun b u e => Heap.get?_push_of_some _ e) (Nat.le_refl _) ?_, rfl, q _ hf⟩
  exact ⟨z, us, 0, r, Heap.get?_push_size _ rfl⟩
end

/-! ### what a def promises -/
/-- a def's promise: the bound arguments in the parameters' order, the heap, the wanted end, the wanted exception -/
abbrev Sp := List V → Hp → VK → XK → Prop
/-- how an exception lies behind a call (file 08 gives it): the callers' frames, abstract heap and state ahead of the call, the wish, the exception, the state -/
abbrev CXT := List Env → Hp → Shared → XK → Value → Shared → Prop

/-- the state at a call -/
structure Env0 (P : Program) (w : World) (K : PySem.W.Frag) (mg : Str → Option Value) (base : Heap) (A : Around) (outer : List Env) (s : Shared) (H : Hp) : Prop where
  frames : A.frames = some outer
  mod : Mod K mg base
  bs : ∀ b o, base.get? b = some o → s.heap.get? b = some o ∧ H b = none
  bsz : base.objs.size ≤ s.heap.objs.size
  funs : s.heap.FunFrames base outer
  frf : ∀ b ∈ frs outer, H b = none
  hok : HOk P w H s.heap
  bare : AllBare s.gens
/-- a call's end -/
def CE (outer : List Env) (P : Program) (w : World) (H : Hp) (s : Shared) (Q : VK) (u : Value) (s' : Shared) : Prop :=
  ∃ v H', s'.os = s.os ∧ AllBare s'.gens ∧ Un (frs outer) [] H H' s.heap s'.heap ∧ HOk P w H' s'.heap ∧ RelV v u ∧ Q v H'
def CR (CX : CXT) (outer : List Env) (P : Program) (w : World) (H : Hp) (s : Shared) (Q : VK) (E : XK) (r : Result) (s' : Shared) : Prop :=
  match r with
  | .ok (.ret u) => CE outer P w H s Q u s'
  | .ok _ => False
  | .error e => CX outer H s E e s'
structure FnOk (P : Program) (w : World) (K : PySem.W.Frag) (mg : Str → Option Value) (base : Heap) (CX : CXT) (k : Nat) (f : Addr) (fd : FuncData) (ps : List Str) (sp : Sp) : Prop where
  len : ∀ vs H Q E, sp vs H Q E → vs.length = ps.length
  run : ∀ (A : Around) (outer : List Env) (s : Shared) (H : Hp) (args : Args) (us : List Value) (vs : List V) (Q : VK) (E : XK), Room k A → Env0 P w K mg base A outer s H → BindsTo s fd args (ps.zip us) → Vals vs us → sp vs H Q E →
    codeAny (model P w) A (.call (.ref f) args) (CR CX outer P w H s Q E) s

theorem Env0.make {P : Program} {w : World} {K : PySem.W.Frag} {mg : Str → Option Value} {base : Heap} {A : Around} {outer : List Env} {s : Shared} {H : Hp} (e : Env0 P w K mg base A outer s H) (C : Addr) (us : List Value) (kw : List (Str × Value)) :
    Env0 P w K mg base (A.under (.builtin "type.__call__" ⟨.ref C :: us, kw⟩)) outer s H := ⟨by first | exact e.frames | (simpa [Around.under, Code.envs, Code.isFrame, pushEnvs] using e.frames), e.mod, e.bs, e.bsz, e.funs, e.frf, e.hok, e.bare⟩

section
variable {X : Cx} {pins : List (Addr × Obj)} {σ : St} {H : Hp} {s s' : Shared}
/-- from a body: what a callee wants -/
theorem Inv.env0 (I : Inv X pins σ H s) : Env0 X.prog X.w X.K X.mg X.base X.A X.stack s H :=
  ⟨I.ok.frames, I.ok.mod, I.bs, Nat.le_trans I.ok.bsz I.sz, I.stack, I.stkFree, I.hok, I.bare⟩
/-- behind a call -/
theorem Inv.after {Q : VK} {u : Value} (I : Inv X pins σ H s) (h : CE X.stack X.prog X.w H s Q u s') : EP X pins σ Q u s' := by
  obtain ⟨v, H', os, bare, un, hok, r, q⟩ := h
  obtain ⟨hh, g, d, t, os'⟩ := s'
  obtain rfl : os' = s.os := os
  exact ⟨v, H', I.call (h' := hh) (g' := g) (d' := d) (t' := t) (ch := []) un hok bare (fun b z => absurd z (by simp)), r, q⟩
end

/-! ### calls -/
/-- f(..): the written arguments, then the defaults dvs; E: what is wanted of an exception -/
def tCall (sp : Sp) (dvs : List V) (E : XK) (t : TA) : TE := fun σ H Q => t σ H fun vs H1 => sp (vs ++ dvs) H1 Q E
/-- o.m(..) of an instance of the class at C -/
def tMeth (C : Addr) (m : Str) (sp : Sp) (dvs : List V) (E : XK) (ta : TE) (t : TA) : TE := fun σ H Q => ta σ H fun x H1 => ∃ a dx fs, x = .ref a ∧ H1 a = some (.ins C dx fs) ∧ fs.lookup m = none ∧
  t σ H1 fun vs H2 => sp (x :: (vs ++ dvs)) H2 Q E
/-- C(..): a new instance and its dict, then __init__ -/
def tMake (C : Addr) (sp : Sp) (dvs : List V) (E : XK) (t : TA) : TE := fun σ H Q => t σ H fun vs H1 => ∀ x dx, H1 x = none → H1 dx = none → dx ≠ x →
  sp (.ref x :: (vs ++ dvs)) (upd (upd H1 dx (.own x)) x (.ins C dx [])) (fun v H2 => v = .non ∧ Q (.ref x) H2) E

/-- how the parameters are bound: us the positional arguments, kw the keywords' values by name, ds the defaults that fill up -/
def Binds (K : PySem.W.Frag) (fd : FuncData) (ps : List Str) (ds : List Value) : Prop :=
  ∀ (s : Shared) (us : List Value), K.In s.heap → (us ++ ds).length = ps.length → BindsTo s fd ⟨us, []⟩ (ps.zip (us ++ ds))
/-- every parameter is given -/
theorem Binds.all {K : PySem.W.Frag} {fd : FuncData} {ps : List Str} (h : ∀ us : List Value, us.length = ps.length → bindArgs fd ⟨us, []⟩ = pure (ps.zip us)) : Binds K fd ps [] := fun s us _ hl => by
  rw [List.append_nil] at hl ⊢
  exact .of_eq (h us hl)

/-- an exception of a callee reaches what this body wants of exceptions -/
def Passes (CX : CXT) (X : Cx) (E : XK) : Prop := ∀ (pins : List (Addr × Obj)) (σ : St) (H : Hp) (s : Shared) (e : Value) (s' : Shared), Inv X pins σ H s → CX X.stack H s E e s' → X.xe e s'

section
variable {X : Cx} {CX : CXT} {k : Nat} {f C : Addr} {fd : FuncData} {ps : List Str} {sp : Sp} {dvs : List V} {ds : List Value} {E : XK} {x m : Str} {p pos apos : Pos} {e o : Expr} {es : List Expr} {ta : TE} {t : TA}

/-- the callee runs -/
theorem run_fn {pins : List (Addr × Obj)} {σ : St} {H : Hp} {s : Shared} {Q : VK} {us : List Value} {vs : List V} (F : FnOk X.prog X.w X.K X.mg X.base CX k f fd ps sp) (hr : Room k X.A) (hb : Binds X.K fd ps ds) (hd : Vals dvs ds) (hx : Passes CX X E)
    (I : Inv X pins σ H s) (r : Vals vs us) (h : sp (vs ++ dvs) H Q E) : wpAny (model X.prog X.w) X.A (call (.ref f) us) (EP X pins σ Q) X.xe s := by
  have r2 : Vals (vs ++ dvs) (us ++ ds) := r.append hd
  have hl : (us ++ ds).length = ps.length := by rw [← r2.length]; exact F.len _ _ _ _ h
  refine wpAny_call (codeAny_mono (F.run X.A X.stack s H ⟨us, []⟩ (us ++ ds) (vs ++ dvs) Q E hr I.env0 (hb s us I.kIn hl) r2 h) fun r s' hq => ?_)
  cases r with
  | error e => exact hx pins σ H s e s' I hq
  | ok fl =>
    cases fl with
    | ret u => exact I.after hq
    | next => exact False.elim hq
    | brk => exact False.elim hq
    | cont => exact False.elim hq

theorem pe_call (F : FnOk X.prog X.w X.K X.mg X.base CX k f fd ps sp) (hr : Room k X.A) (hg : Gl X x) (hm : X.mg x = some (.ref f)) (hk : PySem.W.keepIn X.K (.ref f) = true) (hb : Binds X.K fd ps ds) (hd : Vals dvs ds) (hx : Passes CX X E)
    (ha : PA X (e :: es) t) (hdb : (x == ("__debug__" : Str)) = false := by decide) (he : starEach (e :: es) X.env = (false, eval e X.env) :: starEach es X.env := by rfl) (hpl : (backTo pos (starEach es X.env)).any (·.1) = false := by rfl) :
    PE X (.Call (.Name x p) (e :: es) [] pos) (tCall sp dvs E t) := by
  intro pins s σ H Q I h
  refine wpAny_Call_Name_kw (ld_glob I hg hm ?_ hdb)
  refine PySem.W.callWith_K (h₀ := X.base) I.ok.mod.kin hk (thn (ha pos pins s σ H _ I h) fun us s1 ⟨vs, H1, I1, r, q⟩ => ⟨I1.kIn, ?_⟩) he hpl
  exact run_fn F hr hb hd hx I1 r q

/-- o.m() -/
theorem pe_meth0 {pl : Sem Bool} (he : PE X o ta) (c : Cls X.K C) (hm : Meth X.K C m f) (F : FnOk X.prog X.w X.K X.mg X.base CX k f fd ps sp) (hr : Room k X.A) (hb : Binds X.K fd ps ds) (hd : Vals dvs ds) (hx : Passes CX X E)
    (ht : eval (.Call (.Attribute o m apos) [] [] pos) X.env = (do
      let ov ← eval o X.env
      standAt apos.atName
      let (f, first) ← holding [ov] (getMethod ov m pl)
      callWith pos f first (backTo pos (starEach [] X.env)) (backToKw pos (keywordEach [] X.env))) := by rfl) :
    PE X (.Call (.Attribute o m apos) [] [] pos) (tMeth C m sp dvs E ta tNil) := by
  intro pins s σ H Q I h
  refine PySem.W.methodCall_KW (pl := pl) (thn (he pins s σ H _ I h) fun u s1 ⟨x, H1, I1, rx, a, dx, fs, ex, ea, l, q⟩ => ?_) ht
  subst ex
  obtain rfl : u = Value.ref a := rx
  refine getmeth_ok I1 ea c hm l ?_
  exact PySem.W.callWith_K0 (first := [.ref a]) I1.kIn hm.kp (run_fn (us := [.ref a]) (vs := [.ref a]) F hr hb hd hx I1 (.cons rfl .nil) q)

/-- what a class must have to be made -/
structure Mk (K : PySem.W.Frag) (C f : Addr) : Prop where
  makes : PySem.W.makesIn K C = true
  init : PySem.W.findIn K (.ref C) "__init__" = some (some (.ref f))
  fn : PySem.W.isFn K (.ref f) = true
  kp : PySem.W.keepIn K (.ref C) = true

theorem run_make {pins : List (Addr × Obj)} {σ : St} {H : Hp} {s : Shared} {Q : VK} {us : List Value} {vs : List V} (M : Mk X.K C f) (F : FnOk X.prog X.w X.K X.mg X.base CX k f fd ps sp) (hr : Room (k + 1) X.A) (hb : Binds X.K fd ps ds) (hd : Vals dvs ds)
    (hx : Passes CX X E) (I : Inv X pins σ H s) (r : Vals vs us)
    (h : ∀ x dx, H x = none → H dx = none → dx ≠ x → sp (.ref x :: (vs ++ dvs)) (upd (upd H dx (.own x)) x (.ins C dx [])) (fun v H2 => v = .non ∧ Q (.ref x) H2) E) :
    wpAny (model X.prog X.w) X.A (call (.ref C) us) (EP X pins σ Q) X.xe s := by
  have hq := h (s.heap.objs.size + 1) s.heap.objs.size (I.hok.fresh (Nat.le_succ _)) (I.hok.fresh (Nat.le_refl _)) (Nat.ne_of_lt (Nat.lt_succ_self _))
  have I2 := Inv.made (C := C) I
  have r2 : Vals (V.ref (s.heap.objs.size + 1) :: (vs ++ dvs)) (Value.ref (s.heap.objs.size + 1) :: (us ++ ds)) := .cons rfl (r.append hd)
  have hl : (Value.ref (s.heap.objs.size + 1) :: us ++ ds).length = ps.length := by
    have e := r2.length
    rw [F.len _ _ _ _ hq] at e
    exact e.symm
  refine wpAny_call (make_map (f := f) I.kIn M.makes M.init (beq_iff_eq.mp M.fn) (codeAny_mono (F.run _ X.stack _ _ ⟨Value.ref (s.heap.objs.size + 1) :: us, []⟩ (Value.ref (s.heap.objs.size + 1) :: (us ++ ds)) _ _ E (hr.make C us [])
    (I2.env0.make C us []) (hb _ (Value.ref (s.heap.objs.size + 1) :: us) I2.kIn hl) r2 hq) fun r s' hq' => ?_))
  cases r with
  | error e => exact hx pins σ _ _ e s' I2 hq'
  | ok fl =>
    cases fl with
    | ret u =>
      obtain ⟨v, H', I3, rv, ev, q3⟩ := I2.after hq'
      subst ev
      exact ⟨rv, ⟨V.ref (s.heap.objs.size + 1), H', I3, rfl, q3⟩⟩
    | next => exact False.elim hq'
    | brk => exact False.elim hq'
    | cont => exact False.elim hq'
theorem pe_make (M : Mk X.K C f) (F : FnOk X.prog X.w X.K X.mg X.base CX k f fd ps sp) (hr : Room (k + 1) X.A) (hg : Gl X x) (hm : X.mg x = some (.ref C)) (hb : Binds X.K fd ps ds) (hd : Vals dvs ds) (hx : Passes CX X E)
    (ha : PA X (e :: es) t) (hdb : (x == ("__debug__" : Str)) = false := by decide) (he : starEach (e :: es) X.env = (false, eval e X.env) :: starEach es X.env := by rfl) (hpl : (backTo pos (starEach es X.env)).any (·.1) = false := by rfl) :
    PE X (.Call (.Name x p) (e :: es) [] pos) (tMake C sp dvs E t) := by
  intro pins s σ H Q I h
  refine wpAny_Call_Name_kw (ld_glob I hg hm ?_ hdb)
  refine PySem.W.callWith_K (h₀ := X.base) I.ok.mod.kin M.kp (thn (ha pos pins s σ H _ I h) fun us s1 ⟨vs, H1, I1, r, q⟩ => ⟨I1.kIn, ?_⟩) he hpl
  exact run_make M F hr hb hd hx I1 r q
end

/-! ### keywords -/
section
variable {X : Cx} {CX : CXT} {k : Nat} {f C : Addr} {fd : FuncData} {ps ks : List Str} {sp : Sp} {E : XK} {x m : Str} {p pos apos kpos : Pos} {e o : Expr} {es : List Expr} {kws : List Keyword} {te ta : TE} {t tk : TA} {nm : Option Str}

/-- how a call with keywords binds: g puts the positional values us and the keywords' values ws (names ks) in the parameters' order, defaults among them -/
structure KBinds (K : PySem.W.Frag) (fd : FuncData) (ps ks : List Str) (g : List Value → List Value → List Value) (gV : List V → List V → List V) : Prop where
  to : ∀ (s : Shared) (us ws : List Value), K.In s.heap → (g us ws).length = ps.length → BindsTo s fd ⟨us, ks.zip ws⟩ (ps.zip (g us ws))
  rel : ∀ {vs : List V} {us : List Value} {zs : List V} {ws : List Value}, Vals vs us → Vals zs ws → Vals (gV vs zs) (g us ws)
variable {g : List Value → List Value → List Value} {gV : List V → List V → List V}
end

/-! ### a def's body keeps its promise -/
/-- names: the parameters first -/
structure FnScope (N P : List Str) (sc : Scope) : Prop where
  kind : sc.kind = .function
  co : sc.isCoroutine = false
  gen : sc.isGenerator = false
  nd : N.Nodup
  pre : N.take P.length = P
  par : ∀ x ∈ P, sc.names.lookup x = some .local ∨ sc.names.lookup x = some .cell
  nofree : ∀ y ∈ sc.names, y.2 ≠ .free

theorem bindL_out {kindOf : Str → Option NameKind} {x : Str} : ∀ {binds : List (Str × Value)} {m : Str → Option Value}, (∀ v, (x, v) ∉ binds) → bindL kindOf binds m x = m x
  | [], _, _ => rfl
  | (n, v) :: r, m, h => by
    unfold bindL
    rw [bindL_out fun w hw => h w (List.mem_cons_of_mem _ hw)]
    split
    · have : x ≠ n := by rintro rfl; exact h v List.mem_cons_self
      simp [this]
    · rfl
theorem bindC_out {kindOf : Str → Option NameKind} {x : Str} : ∀ {binds : List (Str × Value)} {m : Str → Option Value}, (∀ v, (x, v) ∉ binds) → bindC kindOf binds m x = m x
  | [], _, _ => rfl
  | (n, v) :: r, m, h => by
    unfold bindC
    rw [bindC_out fun w hw => h w (List.mem_cons_of_mem _ hw)]
    split
    · rfl
    · have : x ≠ n := by rintro rfl; exact h v List.mem_cons_self
      simp [this]
theorem bindL_get {kindOf : Str → Option NameKind} {x : Str} {v : Value} : ∀ {P : List Str} {vs : List Value} {i : Nat} {m : Str → Option Value}, P.Nodup → P[i]? = some x → vs[i]? = some v → kindOf x = some .local →
    bindL kindOf (P.zip vs) m x = some v
  | [], _, _, _, _, h, _, _ => by simp at h
  | _ :: _, [], _, _, _, _, h, _ => by simp at h
  | p :: P, w :: vs, 0, m, nd, h1, h2, hk => by
    simp at h1 h2; subst h1; subst h2
    show bindL kindOf ((p, w) :: P.zip vs) m p = _
    unfold bindL
    rw [bindL_out fun v hv => (List.nodup_cons.mp nd).1 (List.of_mem_zip hv).1, if_pos hk]
    simp
  | p :: P, w :: vs, i + 1, m, nd, h1, h2, hk => by
    show bindL kindOf ((p, w) :: P.zip vs) m x = _
    unfold bindL
    exact bindL_get (i := i) (List.nodup_cons.mp nd).2 (by simpa using h1) (by simpa using h2) hk
theorem bindC_get {kindOf : Str → Option NameKind} {x : Str} {v : Value} : ∀ {P : List Str} {vs : List Value} {i : Nat} {m : Str → Option Value}, P.Nodup → P[i]? = some x → vs[i]? = some v → kindOf x ≠ some .local →
    bindC kindOf (P.zip vs) m x = some v
  | [], _, _, _, _, h, _, _ => by simp at h
  | _ :: _, [], _, _, _, _, h, _ => by simp at h
  | p :: P, w :: vs, 0, m, nd, h1, h2, hk => by
    simp at h1 h2; subst h1; subst h2
    show bindC kindOf ((p, w) :: P.zip vs) m p = _
    unfold bindC
    rw [bindC_out fun v hv => (List.nodup_cons.mp nd).1 (List.of_mem_zip hv).1, if_neg hk]
    simp
  | p :: P, w :: vs, i + 1, m, nd, h1, h2, hk => by
    show bindC kindOf ((p, w) :: P.zip vs) m x = _
    unfold bindC
    exact bindC_get (i := i) (List.nodup_cons.mp nd).2 (by simpa using h1) (by simpa using h2) hk

/-- the names' values at the entry -/
def start (N : List Str) (vs : List V) : St := vs.map some ++ List.replicate (N.length - vs.length) none

/-- the context of a def's body, at its entry; an exception leaves the frame, then lies as CX says -/
def cxOf (CX : CXT) (P : Program) (w : World) (K : PySem.W.Frag) (mg : Str → Option Value) (base : Heap) (N : List Str) (qual : Str) (scope : Scope) (f : Addr) (cd : Value) (A : Around) (outer : List Env) (s : Shared) (H : Hp) (E : XK) : Cx where
  prog := P
  w := w
  K := K
  mg := mg
  base := base
  A := A.deeper (envOfC qual scope s.heap.objs.size f cd)
  N := N
  s₀ := s
  H₀ := H
  env := envOfC qual scope s.heap.objs.size f cd
  outer := outer
  stack := envOfC qual scope s.heap.objs.size f cd :: outer
  ex := []
  calm := true
  fn := fun _ => true
  pn := []
  xe := fun e s' => wpAny (model P w) (A.deeper (envOfC qual scope s.heap.objs.size f cd)) (leaving (envOfC qual scope s.heap.objs.size f cd) e) (fun _ s'' => CX outer H s E e s'') (fun e' s'' => CX outer H s E e' s'') s'

theorem cell_has {sc : Scope} {n : Nat} {x : Str} (h : sc.names.lookup x = some .cell) : ∃ c, (cellsFrom n sc.names []).lookup x = some c := by
  have q := PySem.W.cellsFrom_some sc.names n [] (.inl h)
  exact Option.isSome_iff_exists.mp q

theorem inv_start {CX : CXT} {P : Program} {w : World} {K : PySem.W.Frag} {mg : Str → Option Value} {base : Heap} {N ps : List Str} {qual : Str} {scope : Scope} {f : Addr} {cd : Value} {A : Around} {outer : List Env} {s s1 : Shared} {H : Hp} {E : XK} {us : List Value} {vs : List V}
    (S : FnScope N ps scope) (hd : A.handled = none) (e0 : Env0 P w K mg base A outer s H) (hl : vs.length = ps.length) (r : Vals vs us)
    (x : InCallC s s.heap.objs.size (bindL (envOfC qual scope s.heap.objs.size f cd).kindOf (ps.zip us) fun _ => none) (cellsFrom (s.heap.objs.size + 1) scope.names []) (bindC (envOfC qual scope s.heap.objs.size f cd).kindOf (ps.zip us) fun _ => none) s1) :
    Inv (cxOf CX P w K mg base N qual scope f cd A outer s H E) [] (start N vs) H s1 := by
  have hpl : ps.length ≤ N.length := by have := congrArg List.length S.pre; rw [List.length_take] at this; omega
  obtain ⟨h1, tk, rfl, hk⟩ := x.done
  have noA : ∀ b : Addr, b ∉ (cxOf CX P w K mg base N qual scope f cd A outer s H E).ex := fun b z => absurd (show b ∈ ([] : List Addr) from z) (by simp)
  refine ⟨⟨e0.mod, S.kind, rfl, rfl, Nat.le_refl _, fun y z c h1 h2 => ?_, fun y hy => ?_, fun y c _ h => ?_, fun _ => hd, Around.frames_deeper e0.frames, .inr ⟨rfl, rfl⟩, fun b z => absurd z (noA b), e0.bs, e0.bsz, fun b _ _ => noA b, fun b z => absurd z (noA b), e0.funs, e0.frf⟩,
    rfl, e0.bare, Un.kept hk, ⟨_, x.toInCall.ns, fun i y v h1 h2 h3 => ?_⟩, fun y c h => ⟨_, x.cell y c h⟩, e0.hok.fresh (Nat.le_refl _), fun y c h => ?_, fun p hp => absurd (show p ∈ ([] : List (Addr × Obj)) from hp) (by simp), e0.hok.kept hk, ?_⟩
  · exact name_of_addr x.apart (PySem.mem_of_lookup h1) (PySem.mem_of_lookup h2)
  · have hy : scope.names.lookup y = some .cell ∨ scope.names.lookup y = some .free := hy
    rcases hy with hy | hy
    · exact cell_has hy
    · exact absurd rfl (S.nofree _ (PySem.mem_of_lookup hy))
  · exact Nat.le_of_lt (x.above y c (PySem.mem_of_lookup h))
  · have hi : i < vs.length := by
      unfold start at h2
      by_cases hi : i < vs.length
      · exact hi
      · rw [List.getElem?_append_right (by simpa using hi)] at h2
        rw [List.getElem?_replicate] at h2
        split at h2 <;> cases h2
    have ha : vs[i]? = some v := by
      unfold start at h2
      rw [List.getElem?_append_left (by simpa using hi), List.getElem?_map] at h2
      cases e : vs[i]? with
      | none => rw [e] at h2; cases h2
      | some a => rw [e] at h2; cases h2; rfl
    obtain ⟨u, hu, rv⟩ := r.get ha
    have hp : ps[i]? = some y := by
      rw [← S.pre, List.getElem?_take_of_lt (by omega)]; exact h1
    have ndP : ps.Nodup := by rw [← S.pre]; exact S.nd.sublist (List.take_sublist _ _)
    refine ⟨u, rv, ?_⟩
    rcases S.par y (List.mem_of_getElem? hp) with k | k
    · exact .inl ⟨k, bindL_get ndP hp hu k⟩
    · obtain ⟨c, e⟩ := cell_has (n := s.heap.objs.size + 1) k
      refine .inr ⟨.inl k, c, e, ?_⟩
      have q := x.cell y c e
      rw [bindC_get ndP hp hu (by show scope.names.lookup y ≠ _; rw [k]; decide)] at q
      exact q
  · exact e0.hok.fresh (Nat.le_of_lt (x.above y c (PySem.mem_of_lookup h)))
  · unfold start
    show _ = N.length
    rw [List.length_append, List.length_map, List.length_replicate]
    omega

/-- THE RULE: a def (or a method) of the text, by its body. The body's reading t is chosen for each entry; it is run at the parameters' values -/
theorem fn_of {CX : CXT} {P : Program} {w : World} {K : PySem.W.Frag} {mg : Str → Option Value} {base : Heap} {k : Nat} {f : Addr} {name qual : Str} {params : Arguments} {body : List Stmt} {scope : Scope} {dV kV doc pm cdv ct oc : Value} {an od : Option Addr}
    {osl : Array (Option Value)} {N ps : List Str} {sp : Sp} (lk : K.lookup f = some ⟨oc, od, .func (PySem.W.fnOf name qual params body scope dV kV doc pm an cdv ct), osl⟩) (hcd : PySem.W.codeIn K cdv qual = true) (S : FnScope N ps scope)
    (len : ∀ vs H Q E, sp vs H Q E → vs.length = ps.length)
    (hbody : ∀ (A : Around) (outer : List Env) (s : Shared) (H : Hp) (vs : List V) (Q : VK) (E : XK), Room k (A.deeper (envOfC qual scope s.heap.objs.size f cdv)) → sp vs H Q E →
      ∃ t, PSs (cxOf CX P w K mg base N qual scope f cdv A outer s H E) body t ∧ t { nx := fun _ H' => Q .non H', rt := Q } (start N vs) H) :
    FnOk P w K mg base CX (k + 1) f (PySem.W.fnOf name qual params body scope dV kV doc pm an cdv ct) ps sp := by
  refine ⟨len, fun A outer s H args us vs Q E hr e0 hb r hsp => ?_⟩
  have hl := len _ _ _ _ hsp
  have KX : K.In s.heap := e0.mod.kin.keeps fun b o e => (e0.bs b o e).1
  have lim : s.heap.NoLimit := e0.mod.nolimit.keeps fun b o e => (e0.bs b o e).1
  have hkind : ∀ y ∈ ps.zip us, scope.names.lookup y.1 = some .local ∨ (scope.names.lookup y.1 = some .cell ∧ ((cellsFrom (s.heap.objs.size + 1) scope.names []).lookup y.1).isSome = true) := fun ⟨n, v⟩ hy => by
    rcases S.par n (List.of_mem_zip hy).1 with q | q
    · exact .inl q
    · exact .inr ⟨q, PySem.W.cellsFrom_some _ _ _ (.inl q)⟩
  refine codeAny_call_function hr.depth (KX _ _ lk) rfl S.co S.gen rfl (PySem.W.codeRec_of KX hcd) (hb _ _ _ _ ?_)
  refine wpAny_newFunctionEnv_cells S.kind hkind fun env he s1 x => ?_
  subst he
  refine ⟨lim.keeps x.toInCall.keep, codeAny_func ?_⟩
  obtain ⟨t, ht, hq⟩ := hbody A outer s H vs Q E (hr.deeper _) hsp
  have I : Inv (cxOf CX P w K mg base N qual scope f cdv A outer s H E) [] (start N vs) H s1 := inv_start S hr.hd e0 hl r x
  refine wpAny_mono (ht [] s1 (start N vs) H _ I hq) (fun fl s' hs => ?_) fun e s' hs => hs
  have fin : ∀ {σ' : St} {H' : Hp} {v : V} {u : Value}, Inv (cxOf CX P w K mg base N qual scope f cdv A outer s H E) [] σ' H' s' → RelV v u → Q v H' → CE outer P w H s Q u s' :=
    fun {σ' H' v u} J rv q => ⟨v, H', J.os, J.bare, J.base, J.hok, rv, q⟩
  cases fl with
  | ret u =>
    obtain ⟨v, σ', H', J, rv, q⟩ := hs
    exact fin J rv q
  | next =>
    obtain ⟨σ', H', J, q⟩ := hs
    exact fin (v := V.non) (u := Value.none) J rfl q
  | brk =>
    obtain ⟨_, _, _, q⟩ := hs
    exact False.elim q
  | cont =>
    obtain ⟨_, _, _, q⟩ := hs
    exact False.elim q
end L2

namespace L2
open PySem PySem.Spec PyProof.Rows
section
variable {X : Cx} {x : Str} {p pos : Pos} {e : Expr} {es : List Expr} {t : TA} {id T : String} {r : List V → Hp → VK → Prop}

def tCB (r : List V → Hp → VK → Prop) (t : TA) : TE := fun σ H Q => t σ H fun vs H1 => r vs H1 Q
/-- f(e, ..), f a built-in function -/
theorem pe_callB (hc : CallR X (.builtin id) r) (hg : Gl X x) (hm : X.mg x = none) (hv : bootBuiltins x = some (.builtin id)) (ha : PA X (e :: es) t) (hn : x ≠ "__name__" := by decide) (hdb : (x == ("__debug__" : Str)) = false := by decide)
    (he : starEach (e :: es) X.env = (false, eval e X.env) :: starEach es X.env := by rfl) (hpl : (backTo pos (starEach es X.env)).any (·.1) = false := by rfl) : PE X (.Call (.Name x p) (e :: es) [] pos) (tCB r t) := by
  intro pins s σ H Q I h
  refine wpAny_Call_Name_kw (ld_blt I hg hm hv ?_ hn hdb)
  exact PyProof.Rows.callWith_builtin1 (thn (ha pos pins s σ H _ I h) fun us s1 ⟨vs, H1, I1, r1, q1⟩ => hc pins s1 σ H1 vs us Q I1 r1 q1) he hpl
/-- T(e, ..), T a built-in type -/
theorem pe_callTy (hc : CallR X (.type T) r) (hg : Gl X x) (hm : X.mg x = none) (hv : bootBuiltins x = some (.type T)) (ha : PA X (e :: es) t) (hn : x ≠ "__name__" := by decide) (hdb : (x == ("__debug__" : Str)) = false := by decide)
    (he : starEach (e :: es) X.env = (false, eval e X.env) :: starEach es X.env := by rfl) (hpl : (backTo pos (starEach es X.env)).any (·.1) = false := by rfl) : PE X (.Call (.Name x p) (e :: es) [] pos) (tCB r t) := by
  intro pins s σ H Q I h
  refine wpAny_Call_Name_kw (ld_blt I hg hm hv ?_ hn hdb)
  exact PyProof.Rows.callWith_type1 (thn (ha pos pins s σ H _ I h) fun us s1 ⟨vs, H1, I1, r1, q1⟩ => hc pins s1 σ H1 vs us Q I1 r1 q1) he hpl
end
end L2

namespace HT
open PySem PyProof.Rows



section
open PySem.SeqAt
open PySem.AutoSeq1 (wpAny_loadPart')
open PySem.MeetsSeq PySem.MeetsSeq2 PySem.MeetsSeq3

end

section
variable {prog : Program} {w : World} {A : Around} {E : Value → Shared → Prop} {s : Shared}



/-! ### t[a:b], not the whole -/
/-- a slice's bound as a place among n (d where it is left out) -/
def sIx (n d : Nat) : Option Int → Nat
  | none => d
  | some v => if v < 0 then (v + (n : Int)).toNat else min v.toNat n

end
end HT

namespace L2
open PySem PySem.Spec PyProof.Rows

/-! ### the parts of a slice -/
abbrev TO := St → Hp → (Option Int → Hp → Prop) → Prop
/-- a slice's part (left out, or an int) -/
def PO (X : Cx) (e : Option Expr) (t : TO) : Prop :=
  ∀ (pins : List (Addr × Obj)) (s : Shared) (σ : St) (H : Hp) (Q : Option Int → Hp → Prop), Inv X pins σ H s → t σ H Q →
    wpAny (model X.prog X.w) X.A (evalPart e X.env) (fun u s' => ∃ o H', Inv X pins σ H' s' ∧ IsPart u o ∧ Q o H') X.xe s
def tNoPart : TO := fun _ H Q => Q none H
def tPart (t : TE) : TO := fun σ H Q => t σ H fun x H1 => ∃ i, x = .int i ∧ Q (some i) H1


section
variable {X : Cx} {e : Expr} {te : TE} {lo hi : Option Expr} {tl th : TO} {pos p2 : Pos}

theorem po_none : PO X none tNoPart := by
  intro pins s σ H Q I h
  rw [evalPart_none]
  exact wpAny_pure ⟨none, H, I, .none, h⟩
theorem po_some (h : PE X e te) : PO X (some e) (tPart te) := by
  intro pins s σ H Q I hw
  rw [evalPart_some]
  refine thn (h pins s σ H _ I hw) fun u s1 ⟨x, H1, I1, r1, q1⟩ => ?_
  obtain ⟨i, rfl, q⟩ := q1
  obtain ⟨t, rfl⟩ := r1
  exact ⟨some i, H1, I1, .int i t, q⟩

/-- what a slice of a value is, by values: the slice object stands at sl -/
def SlR (X : Cx) (r : V → Option Int → Option Int → Hp → VK → Prop) : Prop :=
  ∀ (pins : List (Addr × Obj)) (s : Shared) (σ : St) (H : Hp) (x : V) (v vl vu : Value) (lo hi : Option Int) (sl : Addr) (Q : VK), Inv X pins σ H s → RelV x v → s.heap.IsSliceOf sl vl vu .none → IsPart vl lo → IsPart vu hi → r x lo hi H Q →
    ∃ T id, typeLookup (.type T) "__getitem__" = pure (some (.builtin id)) ∧ s.TypeIs v T ∧ wpAny (model X.prog X.w) X.A (getItem v (.ref sl)) (EP X pins σ Q) X.xe s
def tSl (r : V → Option Int → Option Int → Hp → VK → Prop) (te : TE) (tl th : TO) : TE := fun σ H Q => te σ H fun x H1 => tl σ H1 fun l H2 => th σ H2 fun u H3 => r x l u H3 Q
/-- a[lo:hi], any a -/
theorem pe_slice {r : V → Option Int → Option Int → Hp → VK → Prop} (hr : SlR X r) (he : PE X e te) (hl : PO X lo tl) (hu : PO X hi th) : PE X (.Subscript e (.Slice lo hi none p2) pos) (tSl r te tl th) := by
  intro pins s σ H Q I h
  refine Subscript_ (thn (he pins s σ H _ I h) fun v s1 ⟨x, H1, I1, r1, q1⟩ => ?_)
  refine wpAny_Slice (thn (hl pins s1 σ H1 _ I1 q1) fun vl s2 ⟨l, H2, I2, pl, q2⟩ => thn (hu pins s2 σ H2 _ I2 q2) fun vu s3 ⟨u, H3, I3, pu, q3⟩ => ?_)
  rw [evalPart_none]
  refine wpAny_pure ?_
  have I4 : Inv X pins σ H3 { s3 with heap := s3.heap.push { cls := .type "slice", data := .fields #[vl, vu, .none] } } := I3.kept (t' := s3.toks) fun b ob q => Heap.get?_push_of_some _ q
  obtain ⟨T, id, hT, ht, hg⟩ := hr pins { s3 with heap := s3.heap.push { cls := .type "slice", data := .fields #[vl, vu, .none] } } σ H3 x v vl vu l u s3.heap.objs.size Q I4 r1 (Heap.IsSliceOf.new ..) pl pu q3
  show wpAny (model X.prog X.w) X.A (subscriptTail e (.Slice lo hi none p2) v (.ref s3.heap.objs.size)) (EP X pins σ Q) X.xe { s3 with heap := s3.heap.push { cls := .type "slice", data := .fields #[vl, vu, .none] } }
  exact tail_any (ops := [.ref s3.heap.objs.size, v]) ht hT hg (by with_unfolding_all rfl)

/-- the items of xs[lo:hi] -/
def cutV (xs : List V) (lo hi : Option Int) : List V := (xs.drop (HT.sIx xs.length 0 lo)).take (HT.sIx xs.length xs.length hi - HT.sIx xs.length 0 lo)
theorem cutV_length (xs : List V) (lo hi : Option Int) : (cutV xs lo hi).length ≤ xs.length := by
  unfold cutV
  rw [List.length_take, List.length_drop]
  omega

/-! ### t < u, t + u -/
end
end L2

namespace L2
open PySem PySem.Spec PyProof.Rows

/-! ### places -/
/-- the place that an index of any sign means -/
def ixN (n : Nat) (i : Int) : Option Nat := if 0 ≤ i then (if i < n then some i.toNat else none) else if -(n : Int) ≤ i then some (i + n).toNat else none
def atI {α : Type} (xs : List α) (i : Int) : Option α := (ixN xs.length i).bind fun j => xs[j]?
theorem ixN_seq {n : Nat} {i : Int} {j : Nat} (h : ixN n i = some j) : seqIndex? i n = some j ∧ j < n ∧ -(n : Int) ≤ i ∧ i < n := by
  unfold ixN at h
  by_cases h0 : 0 ≤ i
  · rw [if_pos h0] at h
    by_cases h1 : i < n
    · rw [if_pos h1] at h
      have e : i.toNat = j := Option.some.inj h
      exact ⟨by rw [seqIndex_of h0 h1, e], by omega, by omega, h1⟩
    · rw [if_neg h1] at h; cases h
  · rw [if_neg h0] at h
    by_cases h1 : -(n : Int) ≤ i
    · rw [if_pos h1] at h
      have e : (i + n).toNat = j := Option.some.inj h
      exact ⟨by rw [seqIndex_neg (by omega) h1, e], by omega, h1, by omega⟩
    · rw [if_neg h1] at h; cases h
theorem atI_get {α : Type} {xs : List α} {i : Int} {v : α} (h : atI xs i = some v) : ∃ j, seqIndex? i xs.length = some j ∧ xs[j]? = some v ∧ j < xs.length ∧ -(xs.length : Int) ≤ i ∧ i < xs.length := by
  unfold atI at h
  cases e : ixN xs.length i with
  | none => rw [e] at h; cases h
  | some j =>
    rw [e] at h
    obtain ⟨h1, h2, h3, h4⟩ := ixN_seq e
    exact ⟨j, h1, h, h2, h3, h4⟩
theorem atI_nat {α : Type} {xs : List α} {j : Nat} {v : α} (h : xs[j]? = some v) : atI xs (j : Int) = some v := by
  have hj : j < xs.length := (List.getElem?_eq_some_iff.mp h).1
  have e : ixN xs.length (j : Int) = some j := by
    unfold ixN
    rw [if_pos (by omega), if_pos (by omega)]; simp
  unfold atI; rw [e]; exact h

/-! ### what may be subscripted -/
/-- what stands as an index of a plain subscript -/
def PlainIx (b : Expr) : Prop := ∀ o i, subscripted b false o i = operate [o, i] (getItem o i)
/-- a subscript by values -/
def IxR (X : Cx) (r : R2) : Prop :=
  ∀ (value slice : Expr) (pins : List (Addr × Obj)) (s : Shared) (σ : St) (H : Hp) (x y : V) (v u : Value) (Q : VK), Inv X pins σ H s → RelV x v → RelV y u → r x y H Q →
    subscripted slice false v u = operate [v, u] (getItem v u) → wpAny (model X.prog X.w) X.A (subscriptTail value slice v u) (EP X pins σ Q) X.xe s
/-- a call of a builtin's method by values: the receiver, the arguments -/
def MtR (X : Cx) (id : String) (r : V → List V → Hp → VK → Prop) : Prop :=
  ∀ (pins : List (Addr × Obj)) (s : Shared) (σ : St) (H : Hp) (x : V) (xs : List V) (v : Value) (us : List Value) (Q : VK), Inv X pins σ H s → RelV x v → Vals xs us → r x xs H Q →
    wpAny (model X.prog X.w) X.A (call (.builtin id) (v :: us)) (EP X pins σ Q) X.xe s
section
variable {X : Cx} {a b : Expr} {ta tb : TE} {pos : Pos}
/-- a[b] -/
theorem pe_ix {r : R2} (hr : IxR X r) (ha : PE X a ta) (hb : PE X b tb) (hs : PlainIx b) : PE X (.Subscript a b pos) (tOp r ta tb) := by
  intro pins s σ H Q I h
  exact Subscript_ (binT ha hb I h fun v u s2 x y H2 I2 rx ry q => hr a b pins s2 σ H2 x y v u Q I2 rx ry q (hs _ _))

def rIxL (K : PySem.W.Frag) : R2 := fun x y H Q => ∃ p xs i v, x = .ref p ∧ y = .int i ∧ SqL K H p xs ∧ atI xs i = some v ∧ Q v H
def rIxS : R2 := fun x y H Q => ∃ z i c, x = .str z ∧ y = .int i ∧ z.length ≤ sizeLine ∧ atI z.cps.toList i = some c ∧ Q (.str ⟨#[c]⟩) H
theorem ix_list : IxR X (rIxL X.K) := by
  intro value slice pins s σ H x y v u Q I rx ry h hs
  obtain ⟨p, xs, i, z, rfl, rfl, hq, he, q⟩ := h
  cases rx
  obtain ⟨t, rfl⟩ := ry
  obtain ⟨its, r, pl, hz⟩ := I.list hq
  obtain ⟨j, h1, h2, h3, h4, h5⟩ := atI_get he
  obtain ⟨w, ew, rw'⟩ := r.get h2
  have hl := r.length
  have hn := line63
  have fin : EP X pins σ Q w s := ⟨z, H, I, rw', q⟩
  by_cases h0 : 0 ≤ i
  · have hj : i.toNat = j := by
      rw [seqIndex_of h0 h5] at h1
      exact Option.some.inj h1
    exact item_listR pl.isList h0 (by omega) (by rw [hj]; simpa using ew) fin hs
  · have hj : (i + (its.toArray.size : Int)).toNat = j := by
      rw [seqIndex_neg (by omega) h4] at h1
      rw [List.size_toArray, ← hl]
      exact Option.some.inj h1
    exact subscriptTail_builtinR (x := w) pl.isList.typeIs slot_list_getitem.lookup
      (wpAny_getItem_list_neg (Q := fun r s' => r = w ∧ EP X pins σ Q r s') pl.isList (by omega) (by rw [List.size_toArray] <;> omega) (by omega) (by rw [hj]; simpa using ew) ⟨rfl, fin⟩) hs
theorem ix_str : IxR X rIxS := by
  intro value slice pins s σ H x y v u Q I rx ry h hs
  obtain ⟨z, i, c, rfl, rfl, hz, he, q⟩ := h
  obtain ⟨t, rfl⟩ := rx
  obtain ⟨t', rfl⟩ := ry
  obtain ⟨j, h1, h2, h3, h4, h5⟩ := atI_get he
  have hl : z.cps.toList.length = z.length := by simp [Str.length]
  rw [hl] at h1 h4 h5
  have hn := line63
  exact tail_any (typeIs_str s z t) slot_str_getitem.lookup (getItem_str (c := c) (by
    have e1 : decide (i < -(2 ^ 63 : Int)) = false := decide_eq_false (by omega)
    have e2 : decide (i ≥ 2 ^ 63) = false := decide_eq_false (by omega)
    rw [e1, e2, Bool.or_false]) (by rw [h1]; simpa using h2) ⟨.str ⟨#[c]⟩, H, I.tok _, ⟨_, rfl⟩, q⟩) hs

/-! ### xs[i] = v, any sign -/

/-! ### slices -/
theorem slice_bounds (lo hi : Option Int) (n : Nat) : (sliceBounds lo hi none n).1 = ((HT.sIx n 0 lo : Nat) : Int) ∧ (sliceBounds lo hi none n).2.1 = ((HT.sIx n n hi : Nat) : Int) ∧ (sliceBounds lo hi none n).2.2 = 1 := by
  refine ⟨?_, ?_, rfl⟩
  · cases lo with
    | none => simp [sliceBounds, HT.sIx]
    | some i =>
      simp only [sliceBounds, HT.sIx, Option.getD_none, show (1 : Int) > 0 by decide, if_true]
      by_cases h : i < 0
      · simp only [h, if_true] <;> omega
      · simp only [h, if_false] <;> omega
  · cases hi with
    | none => simp [sliceBounds, HT.sIx]
    | some i =>
      simp only [sliceBounds, HT.sIx, Option.getD_none, show (1 : Int) > 0 by decide, if_true]
      by_cases h : i < 0
      · simp only [h, if_true] <;> omega
      · simp only [h, if_false] <;> omega
theorem slicePick_cut (its : List Value) (lo hi : Option Int) : slicePick its.toArray lo hi none = ((its.drop (HT.sIx its.length 0 lo)).take (HT.sIx its.length its.length hi - HT.sIx its.length 0 lo)).toArray := by
  obtain ⟨h1, h2, h3⟩ := slice_bounds lo hi its.toArray.size
  unfold slicePick
  rw [h1, h2, h3]
  simp only [sliceRange_one, pick_run, List.size_toArray] <;> rfl
/-- xs[lo:hi] of a list: a new list -/
def rSlL (K : PySem.W.Frag) : V → Option Int → Option Int → Hp → VK → Prop := fun x lo hi H Q => ∃ a xs, x = .ref a ∧ SqL K H a xs ∧ ∀ p, H p = none → Q (.ref p) (upd H p (.lst (cutV xs lo hi)))
theorem sl_list : SlR X (rSlL X.K) := by
  intro pins s σ H x v vl vu lo hi sl Q I rx hs pl pu h
  obtain ⟨a, xs, rfl, hx, q⟩ := h
  cases rx
  obtain ⟨its, r, ht, hz⟩ := I.list hx
  have hlen := r.length
  refine ⟨"list", _, slot_list_getitem.lookup, ht.isList.typeIs, ?_⟩
  refine wpAny_getItem_list_slice ht.isList hs pl pu .none (by simp) ?_ (by rw [List.size_toArray] <;> omega)
  rw [slicePick_cut, ← hlen]
  refine ⟨.ref s.heap.objs.size, _, I.laid (t' := s.toks) (o := .lst (cutV xs lo hi)) (fun b ob q => Heap.get?_push_of_some _ q) (Nat.le_refl _) ?_, rfl, q _ (I.hok.fresh (Nat.le_refl _))⟩
  exact ⟨Nat.le_trans (cutV_length xs lo hi) hz, _, 0, (r.drop (HT.sIx xs.length 0 lo)).take (HT.sIx xs.length xs.length hi - HT.sIx xs.length 0 lo), Heap.get?_push_size _ rfl⟩

/-! ### in, not in: flat items -/
theorem op_notIn_str : OpR X (compareOp .NotIn) (fun x y H Q => ∃ i j, x = .str i ∧ y = .str j ∧ Q (.bl (!(!(Builtin.Str.occurrences j i 0 j.length 1).isEmpty))) H) := by
  intro pins s σ H x y v u Q I rx ry h
  obtain ⟨i, j, rfl, rfl, q⟩ := h
  obtain ⟨t, rfl⟩ := rx
  obtain ⟨t', rfl⟩ := ry
  exact notIn_str ⟨.bl _, H, I, rfl, q⟩

/-! ### len, list(x), tuple(x) of any list or tuple that is read -/
theorem call_len_seq : CallR X (.builtin "len") (fun xs H Q => ∃ p ys, xs = [.ref p] ∧ (SqL X.K H p ys ∨ SqT X.K H p ys) ∧ Q (.int ys.length) H) := by
  intro pins s σ H xs us Q I r h
  obtain ⟨p, ys, rfl, hq, q⟩ := h
  obtain ⟨u, rfl, rx⟩ := vals1 r
  cases rx
  have hn := line63
  rcases hq with hq | hq
  · obtain ⟨its, r', pl, hz⟩ := I.list hq
    have hlen := r'.length
    exact Calls.call_len_list pl.isList (by simp only [List.size_toArray] <;> omega) ⟨.int ys.length, H, I.tok _, ⟨s.toks + 1, by rw [List.size_toArray, hlen]⟩, q⟩
  · obtain ⟨its, r', pl, hz⟩ := I.tuple hq
    have hlen := r'.length
    exact len_tuple pl (by simp only [List.size_toArray] <;> omega) ⟨.int ys.length, H, I.tok _, ⟨s.toks + 1, by rw [List.size_toArray, hlen]⟩, q⟩
theorem call_len_str : CallR X (.builtin "len") (fun xs H Q => ∃ z, xs = [.str z] ∧ z.length ≤ sizeLine ∧ Q (.int z.length) H) := by
  intro pins s σ H xs us Q I r h
  obtain ⟨z, rfl, hz, q⟩ := h
  obtain ⟨u, rfl, t, rfl⟩ := vals1 r
  have hn := line63
  exact len_str (by omega) ⟨.int z.length, H, I.tok _, ⟨_, rfl⟩, q⟩
theorem call_list_of : CallR X (.type "list") (fun xs H Q => ∃ p ys, xs = [.ref p] ∧ (SqL X.K H p ys ∨ SqT X.K H p ys) ∧ ∀ l, H l = none → Q (.ref l) (upd H l (.lst ys))) := by
  intro pins s σ H xs us Q I r h
  obtain ⟨p, ys, rfl, hq, q⟩ := h
  obtain ⟨u, rfl, rx⟩ := vals1 r
  cases rx
  have fin : ∀ (its : List Value), Vals ys its → ys.length ≤ sizeLine → ∀ (h' : Heap) (c' : Nat), (∀ b o', s.heap.get? b = some o' → h'.get? b = some o') →
      h'.get? s.heap.objs.size = some { cls := .type "list", dict := none, data := .seq its.toArray c', slots := #[] } → EP X pins σ Q (.ref s.heap.objs.size) { s with heap := h' } := fun its r' hz h' c' kp e =>
    ⟨.ref s.heap.objs.size, _, I.laid (t' := s.toks) kp (Nat.le_refl _) (show ObjOk X.prog X.w _ h' _ (.lst ys) from ⟨hz, its, c', r', e⟩), rfl, q _ (I.hok.fresh (Nat.le_refl _))⟩
  rcases hq with hq | hq
  · obtain ⟨its, r', pl, hz⟩ := I.list hq
    have hlen := r'.length
    obtain ⟨o, ho, hc, n, hd⟩ := pl.isList
    exact call_list_seq p (.inl rfl) ho hc hd (fun h' c' kp e => fin its r' hz h' c' kp e) (by simp only [List.size_toArray] <;> omega)
  · obtain ⟨its, r', pl, hz⟩ := I.tuple hq
    have hlen := r'.length
    obtain ⟨o, ho, hc, n, hd⟩ := pl
    exact call_list_seq p (.inr rfl) ho hc hd (fun h' c' kp e => fin its r' hz h' c' kp e) (by simp only [List.size_toArray] <;> omega)

/-! ### the call of a builtin's method: o.m(..) -/
/-- the value is of that builtin type -/
def tyV (K : PySem.W.Frag) (T : String) (x : V) (H : Hp) : Prop := match x with
  | .str _ => T = "str"
  | .int _ => T = "int"
  | .ref p => (T = "list" ∧ ∃ xs, SqL K H p xs) ∨ (T = "tuple" ∧ ∃ o, K.lookup p = some o ∧ o.cls = .type "tuple" ∧ o.dict = none) ∨
      (T = "dict" ∧ ((∃ kvs, H p = some (.dK kvs)) ∨ ∃ kvs, H p = some (.dT kvs))) ∨ (T = "set" ∧ ∃ S n, H p = some (.set S n))
  | _ => False
theorem tyV_is {pins : List (Addr × Obj)} {σ : St} {H : Hp} {s : Shared} {T : String} {x : V} {v : Value} (I : Inv X pins σ H s) (r : RelV x v) (ty : tyV X.K T x H) :
    s.TypeIs v T ∧ ∀ a, v = .ref a → ∃ ob, s.heap.get? a = some ob ∧ ob.dict = none := by
  cases x with
  | str z =>
    obtain ⟨t, rfl⟩ := r
    cases (show T = "str" from ty)
    exact ⟨typeIs_str s z t, fun _ e => nomatch e⟩
  | int i =>
    obtain ⟨t, rfl⟩ := r
    cases (show T = "int" from ty)
    exact ⟨typeIs_int s i t, fun _ e => nomatch e⟩
  | ref p =>
    cases r
    rcases ty with ⟨rfl, xs, hq⟩ | ⟨rfl, o, hk, hc, hd⟩ | ⟨rfl, hk⟩ | ⟨rfl, S, n, hk⟩
    · obtain ⟨its, _, pl, _⟩ := I.list hq
      refine ⟨pl.isList.typeIs, fun a e => ?_⟩
      cases e
      obtain ⟨o, n, e, c, hd, _⟩ := pl
      exact ⟨o, e, hd⟩
    · refine ⟨⟨o, I.kIn p o hk, hc⟩, fun a e => ?_⟩
      cases e
      exact ⟨o, I.kIn _ o hk, hd⟩
    · have z : ∃ o, s.heap.get? p = some o ∧ o.ExactDict := by
        rcases hk with ⟨kvs, hk⟩ | ⟨kvs, hk⟩
        · obtain ⟨_, _, _, _, o, _, _, e, ex, _⟩ := I.hok p _ hk
          exact ⟨o, e, ex⟩
        · obtain ⟨_, _, _, _, o, _, _, e, ex, _⟩ := I.hok p _ hk
          exact ⟨o, e, ex⟩
      obtain ⟨o, e, ex⟩ := z
      refine ⟨⟨o, e, ex.1⟩, fun a e2 => ?_⟩
      cases e2
      exact ⟨o, e, ex.2.1⟩
    · obtain ⟨o, _, _, _, e, ex, _⟩ := I.hok p _ hk
      refine ⟨⟨o, e, ex.1⟩, fun a e2 => ?_⟩
      cases e2
      exact ⟨o, e, ex.2.1⟩
  | _ => exact False.elim ty
def tBM (K : PySem.W.Frag) (T : String) (r : V → List V → Hp → VK → Prop) (to : TE) (t : TA) : TE := fun σ H Q => to σ H fun x H1 => tyV K T x H1 ∧ t σ H1 fun xs H2 => r x xs H2 Q
variable {o e : Expr} {es : List Expr} {to : TE} {t : TA} {name : Str} {apos cpos : Pos} {T id : String} {r : V → List V → Hp → VK → Prop}
theorem pe_bm (pa : PlainAttrs T) (slot : Slot T name id) (hty : typeOf (.builtin id) = pure (.type "method_descriptor")) (hm : MtR X id r) (ho : PE X o to) (ha : PA X (e :: es) t)
    (hbase : attributeBase o name X.env (eval o X.env) = eval o X.env := by rfl)
    (hfew : ((backTo cpos (starEach (e :: es) X.env)).all (fun x => !x.1) && (backToKw cpos (keywordEach [] X.env)).all (fun x => x.1.isSome)
      && decide ((e :: es).length + ([] : List Keyword).length + (if ([] : List Keyword).isEmpty then 0 else 1) < 30)) = true := by rfl)
    (hline : (apos.endLine == cpos.line) = true := by rfl) (hs : starEach (e :: es) X.env = (false, eval e X.env) :: starEach es X.env := by rfl) (hplain : (backTo cpos (starEach es X.env)).any (·.1) = false := by rfl) :
    PE X (.Call (.Attribute o name apos) (e :: es) [] cpos) (tBM X.K T r to t) := by
  intro pins s σ H Q I h
  refine wpAny_Call_method_late hbase hfew hline rfl (thn (ho pins s σ H _ I h) fun v s1 ⟨x, H1, I1, r1, ty, q1⟩ => ?_)
  obtain ⟨h1, h2⟩ := tyV_is I1 r1 ty
  refine ⟨T, id, pa, slot, hty, h1, h2, ?_⟩
  have hA := ha cpos pins s1 σ H1 _ I1 q1
  rw [hs] at hA ⊢
  refine Calls.callWith_builtin (by show (false || (backTo cpos (starEach es X.env)).any (·.1)) = false; rw [hplain] <;> rfl) (Calls.evalArgs_plain ?_)
  exact thn hA fun us s2 ⟨vs, H2, I2, r2, q2⟩ => hm pins s2 σ H2 x vs v us Q I2 r1 r2 q2
/- xs.append(e), list.index on a module's tuple .. are MtR facts of 06m -/
end
end L2

namespace L2
open PySem PySem.Spec PyProof.Rows

def MtM (X : Cx) (id : String) (r : V → List V → Hp → VK → Prop) : Prop :=
  ∀ (pins : List (Addr × Obj)) (s : Shared) (σ : St) (H : Hp) (x : V) (xs : List V) (v : Value) (us : List Value) (Q : VK), Inv X pins σ H s → RelV x v → Vals xs us → r x xs H Q →
    wpAny (model X.prog X.w) X.A (call (.builtin id) (v :: us)) (EP X pins σ Q) X.xe s

/-! ### lists of values -/
theorem Vals.one : ∀ {x : V} {us : List Value}, Vals [x] us → ∃ u, us = [u] ∧ RelV x u
  | _, _, .cons r .nil => ⟨_, rfl, r⟩
theorem Vals.two : ∀ {x y : V} {us : List Value}, Vals [x, y] us → ∃ u v, us = [u, v] ∧ RelV x u ∧ RelV y v
  | _, _, _, .cons r (.cons q .nil) => ⟨_, _, rfl, r, q⟩

section
variable {X : Cx} {pins : List (Addr × Obj)} {σ : St} {H : Hp} {s : Shared} {l b : Addr} {xs ys zs : List V}

/-! ### the two steps: a tracked list is rewritten, a new list is laid -/
theorem Inv.lset {its its' : List Value} {n : Nat} {f : Array Value → Array Value} {t' : Nat} (I : Inv X pins σ H s) (hH : H l = some (.lst xs))
    (e : s.heap.get? l = some { cls := .type "list", data := .seq its.toArray n }) (hf : f its.toArray = its'.toArray) (hv : Vals ys its') (hz : ys.length ≤ sizeLine) :
    Inv X pins σ (upd H l (.lst ys)) { s with heap := s.heap.update l (Obj.mapSeq f), toks := t' } := by
  have q := PySem.IsL.update e f
  rw [hf] at q
  refine I.write (x := l) (e := l) (by rw [hH]; exact trivial) (.inl rfl) (fun b' u hb hu => (Heap.get?_update_other s.heap (Obj.mapSeq f) (Ne.symm hb)).trans hu) ⟨_, q⟩ ?_
  exact ⟨hz, its', _, hv, q⟩
theorem Inv.lnew {its : List Value} {t' : Nat} (I : Inv X pins σ H s) (hv : Vals ys its) (hz : ys.length ≤ sizeLine) :
    Inv X pins σ (upd H s.heap.objs.size (.lst ys)) { s with heap := s.heap.push { cls := .type "list", data := .seq its.toArray }, toks := t' } :=
  I.laid (fun _ _ q => Heap.get?_push_of_some _ q) (Nat.le_refl _) ⟨hz, its, 0, hv, Heap.get?_push_size _ rfl⟩
theorem Inv.fresh (I : Inv X pins σ H s) : H s.heap.objs.size = none := I.hok.fresh (Nat.le_refl _)
theorem Inv.lstM (I : Inv X pins σ H s) (hH : H l = some (.lst xs)) : xs.length ≤ sizeLine ∧ ∃ (its : List Value) (n : Nat), Vals xs its ∧ xs.length = its.length ∧ s.heap.get? l = some { cls := .type "list", data := .seq its.toArray n } := by
  obtain ⟨z, its, n, r, e⟩ := I.hok l _ hH
  exact ⟨z, its, n, r, r.length, e⟩

theorem notLongL {n : Nat} (h : n ≤ sizeLine) : Builtin.List.listTooLong n = false := by
  unfold Builtin.List.listTooLong
  exact decide_eq_false (by omega)
end

section
variable {X : Cx}

/-! ### methods -/
def rAppend : V → List V → Hp → VK → Prop := fun x vs H Q => ∃ l xs y, x = .ref l ∧ vs = [y] ∧ H l = some (.lst xs) ∧ xs.length < sizeLine ∧ Q .non (upd H l (.lst (xs ++ [y])))
theorem mt_append : MtM X "list.append" rAppend := by
  intro pins s σ H x vs v us Q I rx rv h
  obtain ⟨l, xs, y, rfl, rfl, hH, hz, q⟩ := h
  cases rx
  obtain ⟨u, rfl, ru⟩ := rv.one
  obtain ⟨z, its, n, r, hl, e⟩ := I.lstM hH
  refine call_meets F.slot_list_append ⟨_, e, rfl⟩ F.entry_list_append (F.args_list_append_2 _ _) (PySem.list_append l its.toArray n u (by rw [List.size_toArray]; omega)) ⟨e, ?_⟩
  refine ⟨.non, _, I.lset (its' := its ++ [u]) hH e (by simp) (r.append (.cons ru .nil)) ?_, rfl, q⟩
  rw [List.length_append, List.length_singleton]
  omega

def rExtend : V → List V → Hp → VK → Prop := fun x vs H Q => ∃ l b xs zs, x = .ref l ∧ vs = [.ref b] ∧ H l = some (.lst xs) ∧ H b = some (.lst zs) ∧ xs.length + zs.length ≤ sizeLine ∧ Q .non (upd H l (.lst (xs ++ zs)))
theorem mt_extend : MtM X "list.extend" rExtend := by
  intro pins s σ H x vs v us Q I rx rv h
  obtain ⟨l, b, xs, zs, rfl, rfl, hH, hB, hz, q⟩ := h
  cases rx
  obtain ⟨u, rfl, ru⟩ := rv.one
  cases ru
  obtain ⟨z, its, n, r, hl, e⟩ := I.lstM hH
  obtain ⟨z2, its2, n2, r2, hl2, e2⟩ := I.lstM hB
  have hsz : its.toArray.size + its2.toArray.size ≤ sizeLine := by rw [List.size_toArray, List.size_toArray]; omega
  have hlong : ¬ (!its.toArray.isEmpty && Builtin.List.listTooLong (its.toArray.size + its2.toArray.size)) = true := by
    rw [notLongL hsz, Bool.and_false]
    exact Bool.false_ne_true
  refine call_meets F.slot_list_extend ⟨_, e, rfl⟩ F.entry_list_extend (F.args_list_extend_2 _ _)
    (AutoSeq1.list_extend_list_list_0 l its.toArray n b its2.toArray n2 hlong (by rw [List.size_toArray]; omega) (by omega)) ⟨e, e2, ?_⟩
  refine ⟨.non, _, I.lset (its' := its ++ its2) hH e (by simp) (r.append r2) ?_, rfl, q⟩
  rw [List.length_append]
  omega





/-! ### list + list, list += list, list * int -/
def rCat : R2 := fun x y H Q => ∃ l b xs zs, x = .ref l ∧ y = .ref b ∧ H l = some (.lst xs) ∧ H b = some (.lst zs) ∧ xs.length + zs.length ≤ sizeLine ∧ ∀ p, H p = none → Q (.ref p) (upd H p (.lst (xs ++ zs)))
theorem op_cat : OpR X (binaryOp .Add) rCat := by
  intro pins s σ H x y v u Q I rx ry h
  obtain ⟨l, b, xs, zs, rfl, rfl, hH, hB, hz, q⟩ := h
  cases rx
  cases ry
  obtain ⟨z, its, n, r, hl, e⟩ := I.lstM hH
  obtain ⟨z2, its2, n2, r2, hl2, e2⟩ := I.lstM hB
  refine PySem.P.add_list e e2 ?_ (by rw [List.size_toArray, List.size_toArray]; omega)
  have ea : its.toArray ++ its2.toArray = (its ++ its2).toArray := by simp
  rw [ea]
  exact ⟨.ref _, _, I.lnew (t' := s.toks) (r.append r2) (by rw [List.length_append]; omega), rfl, q _ I.fresh⟩

/-! ### del xs[i] -/
end

/-! ### xs[a:b] = ys -/
section
variable {prog : Program} {w : World} {A : Around} {E : Value → Shared → Prop} {s : Shared}
end

section
variable {X : Cx}
end
end L2

namespace Att
open PySem PySem.W PySem.Calls PyProof.Rows

/-! ### the script -/
theorem ints_of_wellAll {P : Params} {h : Heap} : ∀ (ns : List Int) (vs : List Value), WellAll P h vs (ns.map WData.int) → IntsAre vs ns := by
  intro ns
  induction ns with
  | nil =>
    intro vs w
    rw [List.map_nil] at w
    cases w
    exact .nil
  | cons n ns ih =>
    intro vs w
    rw [List.map_cons] at w
    cases w with
    | cons a b =>
      cases a
      exact .cons _ _ (ih _ b)

theorem script_of {l : OpenLaw} {n : Nat} (hn : l.most = some n) {P : Params} {h : Heap} {args : List WData} {vals : List Value}
    (hpre : l.row.toRowW.claim.pre args = true) (hwl : WellAll P h vals args) :
    ∃ a vs ns, vals = [Value.ref a] ∧ args = [WData.list (ns.map WData.int)] ∧ h.get? a = some { cls := .type "list", data := .seq vs.toArray } ∧ IntsAre vs ns ∧ ns.length ≤ n := by
  have hsh : WShape.hasAll [] args [.list .int] = true := (pre_splitW hpre).1
  have hc : l.pre.holds [] { args := args } = true := (pre_splitW hpre).2
  obtain ⟨d, r, rfl, h1, h2⟩ := hasAllW_cons hsh
  obtain rfl := hasAllW_nil h2
  obtain ⟨xs, rfl, h3⟩ := hasW_list h1
  obtain ⟨ns, rfl⟩ := items_int h3
  have hlen : ns.length ≤ n := by
    unfold OpenLaw.pre at hc
    have h4 : (WTm.not (.lt (.lit (.int (n : Int))) (.len (.arg 0)))).holds [] { args := [.list (ns.map .int)] } = true := by
      have h4 := (holds_andW hc).1
      rw [hn] at h4
      exact h4
    have h5 := condW_of h4 (w_not (w_lt w_lit (w_len_list (w_arg rfl))))
    rw [List.length_map] at h5
    refine Nat.le_of_not_lt fun q => ?_
    have q' : (n : Int) < ((ns.length : Nat) : Int) := by omega
    first
      | (rw [decide_eq_true q'] at h5; exact absurd h5 (by decide))
      | (simp at h5; omega)
  cases hwl with
  | cons w1 w2 =>
    cases w2
    cases w1 with
    | list ho hall => exact ⟨_, _, ns, rfl, rfl, ho, ints_of_wellAll ns _ hall, hlen⟩

theorem post_true (l : OpenLaw) (args : List WData) : l.row.toRowW.claim.post args (.bool true) args = true :=
  postW_of (r := l.row.toRowW) (X := (true == true))
    (show WShape.has [] (.bool true) .bool = true by first | rfl | decide | simp [WShape.has, WShape.arms, WShape.armsAll])
    (show (WTm.eq .res (.lit (.bool true))).value [] { args := args, res := some (.bool true), after := args } = some (.bool (true == true)) from w_eq_bool (w_res rfl) w_lit) rfl

/-! ### the attachment: holds_open's last premise (the goal 'hc' behind k_head) from a wpAny of the law's body -/

/-- the same from a codeAny of the CALL (for a layer whose function contracts speak of calls) -/
theorem attach_call {l : OpenLaw} {n : Nat} {q : Program} {loose : List Str} {XP : (Str → Option Value) → Heap → Prop} {YP : World → Heap → Prop} {d : DefRec}
    (hn : l.most = some n) (hdf : d.params.defaults = [])
    (call : ∀ (w : World) (s₀ s₁ : Shared) (mg mb : Str → Option Value) (fa : Addr) (o : Obj) (pm cd doc : Value) (a : Addr) (vs : List Value) (ns : List Int),
      Ground q loose [] XP w s₀ mg mb s₁.heap → YP w s₁.heap →
      s₁.heap.get? fa = some o → o.data = .func (docDef d.name d.params d.body d.scope pm cd doc) → s₁.heap.CodeRec cd d.name → mg d.name = some (.ref fa) →
      s₁.heap.get? a = some { cls := .type "list", data := .seq vs.toArray } → IntsAre vs ns → ns.length ≤ n → s₁.gens = #[] →
      codeAny (model l.prog w) callerA (.call (.ref fa) ⟨[.ref a], []⟩) (fun r s' => r = .ok (.ret (.bool true)) ∧ OldK s₁.heap s'.heap ∧ s'.os = s₁.os ∧ AllBare s'.gens) s₁) :
    WalkO q loose XP YP l.row.toRowW d [] (fun f vs => PySem.call f vs) := by
  intro w s₀ s₁ mg mb G Y fa o pm cd doc dV kV ho hd hcd hD hmg hg args vals as hpre hlay hrd hwl hlo
  obtain rfl : dV = .none := Dflts.none hD hdf
  obtain rfl : kV = .none := Dflts.noKw hD
  obtain ⟨a, vs, ns, rfl, rfl, hobj, hints, hlen⟩ := script_of hn hpre hwl
  refine enter_call (codeAny_mono (call w s₀ s₁ mg mb fa o pm cd doc a vs ns G Y ho (fd_plain hd) hcd hmg hobj hints hlen hg) fun r s' hq => ?_)
  obtain ⟨rfl, h2, h3, h4⟩ := hq
  exact ⟨.inl ⟨.bool true, .bool true, [], rfl, fun _ => rfl, .bool true, post_true l _, fun _ => ⟨List.Pairwise.nil, fun _ hm => (nomatch hm)⟩⟩, h2, h3, h4⟩


/-! ### rules over ANY heap (no ledger) from facts about the written part K: the library's own take a ledger (News) for what they write -/
section
variable {prog : Program} {w : World} {A : Around} {E : Value → Shared → Prop} {s : Shared} {K : Frag}





/-! the whole heap as the ledger: makes every rule that writes through a ledger a rule over any heap -/

end
end Att

namespace L2
open PySem PySem.Spec PyProof.Rows

theorem vals_ints : ∀ {vs : List Value} {ns : List Int}, IntsAre vs ns → Vals (ns.map V.int) vs
  | _, _, .nil => .nil
  | _, _, .cons n t h => .cons ⟨t, rfl⟩ (vals_ints h)

/-- nothing is tracked but the script, known to the object (or it is an object of the module) -/
def Only (H : Hp) : Prop := ∀ b, H b = none ∨ ∃ o xs, H b = some (.frz o (.lst xs))

/-- THE HEAD: the law's promise, at the heap behind the top. F, the promise of the law's def, may use that base is part of the heap (so K.In base, base.Ns mainGlobals mg stand in Mod) -/
theorem law_call {P : Program} {w : World} {K : PySem.W.Frag} {mg mb : Str → Option Value} {CX : CXT} {k : Nat} {fa a : Addr} {fd : FuncData} {x : Str} {sp : Sp} {s₁ : Shared} {vs : List Value} {ns : List Int}
    (KX : K.In s₁.heap) (hns : s₁.heap.Ns mainGlobals mg) (hb : s₁.heap.Ns builtinsNs mb) (hbb : ∀ x : Str, x ≠ "__name__" → mb x = bootBuiltins x) (hlim : s₁.heap.NoLimit) (hg : s₁.gens = #[])
    (ha : s₁.heap.get? a = some { cls := .type "list", data := .seq vs.toArray }) (hi : IntsAre vs ns) (hl : ns.length ≤ sizeLine) (hr : Room k callerA)
    (F : ∀ base : Heap, K.In base → base.Ns mainGlobals mg → FnOk P w K mg base CX k fa fd [x] sp) (hbind : ∀ (s : Shared) (u : Value), BindsTo s fd ⟨[u], []⟩ [(x, u)])
    (hsp : ∀ H : Hp, Only H → SqL K H a (ns.map V.int) → sp [.ref a] H (fun v _ => v = .bl true) fun _ _ _ => False)
    (hCX : ∀ H e s', CX [] H s₁ (fun _ _ _ => False) e s' → False) :
    codeAny (model P w) callerA (.call (.ref fa) ⟨[.ref a], []⟩) (fun r s' => r = .ok (.ret (.bool true)) ∧ OldK s₁.heap s'.heap ∧ s'.os = s₁.os ∧ AllBare s'.gens) s₁ := by
  have rv := vals_ints hi
  have lenV := hi.length
  -- from an abstract heap in which nothing but the script may be tracked
  have core : ∀ H : Hp, Only H → SqL K H a (ns.map V.int) → HOk P w H s₁.heap → (∀ b, H b ≠ none → b = a) → (H a ≠ none → K.lookup a = none) →
      codeAny (model P w) callerA (.call (.ref fa) ⟨[.ref a], []⟩) (fun r s' => r = .ok (.ret (.bool true)) ∧ OldK s₁.heap s'.heap ∧ s'.os = s₁.os ∧ AllBare s'.gens) s₁ := by
    intro H hO hS hok hA hK
    have base_of : ∀ {b : Addr} {o : Obj}, s₁.heap.get? b = some o → H b = none → (hidT s₁.heap H).get? b = some o := fun e n => hidT_get e n
    have noA : ∀ {b : Addr} {o : Obj} {es : Array DictEntry} {ep : Nat}, s₁.heap.get? b = some o → o.data = .dict es ep → H b = none := fun {b o es ep} e d => by
      cases q : H b with
      | none => rfl
      | some u =>
        have e' : b = a := hA b (by rw [q]; simp)
        subst e'
        rw [ha] at e; cases e
        have d' : Data.seq vs.toArray _ = Data.dict es ep := d
        cases d'
    have nsK : ∀ {b : Addr} {m : Str → Option Value}, s₁.heap.Ns b m → (hidT s₁.heap H).Ns b m := fun {b m} ⟨o, es, ep, e, d, r⟩ => ⟨o, es, ep, base_of e (noA e d), d, r⟩
    have hKb : K.In (hidT s₁.heap H) := fun b o e => base_of (KX b o e) (by
      cases q : H b with
      | none => rfl
      | some u =>
        have e' : b = a := hA b (by rw [q]; simp)
        subst e'
        rw [hK (by rw [q]; simp)] at e; cases e)
    have hM : Mod K mg (hidT s₁.heap H) := ⟨hKb, nsK hns, ⟨mb, nsK hb, hbb⟩, let ⟨mc, h1, h2⟩ := hlim; ⟨mc, nsK h1, h2⟩⟩
    have e0 : Env0 P w K mg (hidT s₁.heap H) callerA [] s₁ H := ⟨rfl, hM, fun b o e => of_hidT e, Nat.le_of_eq (hidT_size _ _), trivial, fun b hb => absurd (show b ∈ ([] : List Addr) from hb) (by simp), hok, .of_eq hg⟩
    refine codeAny_mono ((F _ hKb (nsK hns)).run callerA [] s₁ H ⟨[.ref a], []⟩ [.ref a] [.ref a] _ _ hr e0 (hbind s₁ (.ref a)) (.cons rfl .nil) (hsp H hO hS)) fun r s' h => ?_
    cases r with
    | error e => exact (hCX H e s' h).elim
    | ok fl =>
      cases fl with
      | next => exact False.elim h
      | brk => exact False.elim h
      | cont => exact False.elim h
      | ret u =>
        obtain ⟨v, H', os, bare, un, hok', r', q⟩ := h
        have q' : v = .bl true := q
        subst q'
        obtain rfl : u = Value.bool true := r'
        refine ⟨rfl, OldK.of_keep fun b o e => ?_, os, bare⟩
        cases q : H b with
        | none => exact un.keep b o e q (by intro z; exact absurd (show b ∈ ([] : List Addr) from z) (by simp)) (by simp)
        | some u =>
          rcases hO b with z | ⟨ob, xs, z⟩
          · rw [q] at z; cases z
          · have z2 := un.frzs b ob _ z
            obtain ⟨e1, _⟩ := hok b _ z
            obtain ⟨e2, _⟩ := hok' b _ z2
            rw [e] at e1; cases e1
            exact e2
  cases hk : K.lookup a with
  | some o =>
    -- the script is one of the module's own objects
    have e := KX a o hk
    rw [ha] at e
    cases e
    refine core (fun _ => none) (fun _ => .inl rfl) (.inr ⟨_, vs.toArray, _, hk, rfl, rfl, rfl, by rw [List.size_toArray, lenV]; exact hl, by simpa using rv⟩) (fun b u z => by have z' : (none : Option HO) = some u := z; cases z') (fun b z => absurd rfl z) fun z => absurd rfl z
  | none =>
    refine core (fun b => if b = a then some (.frz { cls := .type "list", data := .seq vs.toArray } (.lst (ns.map V.int))) else none) (fun b => ?_) (.inl (.inr ⟨{ cls := .type "list", data := .seq vs.toArray }, if_pos rfl⟩)) (fun b u z => ?_) (fun b z => ?_) fun _ => hk
    · by_cases hb : b = a
      · exact .inr ⟨_, _, if_pos hb⟩
      · exact .inl (if_neg hb)
    · by_cases hb : b = a
      · have z' := (if_pos hb).symm.trans z
        cases z'
        subst hb
        exact ⟨ha, by rw [List.length_map]; exact hl, vs, _, rv, ha⟩
      · have z' := (if_neg hb).symm.trans z
        cases z'
    · by_cases hb : b = a
      · exact hb
      · exact absurd (if_neg hb) z
end L2

namespace L2
open PySem PySem.Spec PyProof.Rows


/-- the goal that k_head leaves (case hc), from the law's promise. F gives the function object fd (K's own) once, then the promise over every base -/
theorem walk_of {l : PySem.W.OpenLaw} {n k : Nat} {q : Program} {loose : List Str} {XP : (Str → Option Value) → Heap → Prop} {YP : World → Heap → Prop} {d : DefRec} {K : Params → PySem.W.Frag} {CX : World → CXT} {sp : World → Sp} {x : Str}
    (hn : l.most = some n) (hn2 : n ≤ sizeLine) (hdf : d.params.defaults = []) (hr : Room k callerA)
    (hY : ∀ (w : World) (h : Heap), YP w h → (K w.params).In h)
    (F : ∀ (w : World) (mg : Str → Option Value) (fa : Addr) (h : Heap), (K w.params).In h → h.Ns mainGlobals mg → mg d.name = some (.ref fa) →
      ∃ fd : FuncData, (∀ (s : Shared) (u : Value), BindsTo s fd ⟨[u], []⟩ [(x, u)]) ∧
        ∀ base : Heap, (K w.params).In base → base.Ns mainGlobals mg → FnOk l.prog w (K w.params) mg base (CX w) k fa fd [x] (sp w))
    (hsp : ∀ (w : World) (H : Hp) (a : Addr) (ns : List Int), ns.length ≤ n → Only H → SqL (K w.params) H a (ns.map V.int) → sp w [.ref a] H (fun v _ => v = .bl true) fun _ _ _ => False)
    (hCX : ∀ (w : World) (H : Hp) (s : Shared) (e : Value) (s' : Shared), CX w [] H s (fun _ _ _ => False) e s' → False) :
    PySem.W.WalkO q loose XP YP l.row.toRowW d [] (fun f vs => PySem.call f vs) := by
  refine Att.attach_call hn hdf fun w s₀ s₁ mg mb fa o pm cd doc a vs ns G Y ho hd hcd hmg hobj hints hlen hg => ?_
  have KX := hY w _ Y
  obtain ⟨fd, hb, hF⟩ := F w mg fa _ KX G.T.g hmg
  exact law_call KX G.T.g G.T.b G.T.builtins G.T.nolimit hg hobj hints (Nat.le_trans hlen hn2) hr hF hb (fun H hO hS => hsp w H a ns hlen hO hS) fun H e s' => hCX w H s₁ e s'
end L2

/- THE LAST THEOREM (shape; LID, My.* are yours):
   My.Adr: a structure of the addresses that your layer names (classes, functions); My.Txt K t: a structure (Prop) of the equations over K;
   My.txt_mk : {K} {implicit addresses ..} (e1 : nsIn K mainGlobals "law" = some (some (.ref f))) (e2 : K.lookup f = some ⟨oc, od, .func (fnOf "law" "law" params body scope dV kV doc pm an cdv ct), sl⟩) (e3 : codeIn K cdv "law" = true) .. : ∃ t, My.Txt K t

set_option maxRecDepth 100000 in
set_option maxHeartbeats 0 in
theorem PySem.Challenge.cw_LID_holds : PySem.Challenge.rw_LID.Holds := by
  w_on; o_law; k_head; (case hw => w_witness2)
  k_fill
  refine L2.walk_of (l := PySem.Challenge.rw_LID) (n := 63) (k := 40) (x := "script") (CX := fun w => ..) (sp := fun _ => My.sp_law) rfl (by decide) rfl ⟨rfl, by decide, by decide⟩ (fun w h Y => PySem.W.kIn_of Y) ?F ?S ?C
  case F =>
    intro w mg fa h KX G hmg
    have T : ∃ t, My.Txt (L2.KOf KX) t := by
      dsimp only [L2.KOf]                          -- K must stand as «<heap const> w.params» for k_is
      refine' My.txt_mk ?e1 ?e2 ?e3 ..
      (case e1 => PySem.W.k_is)                    -- in the order: a name -> its address -> its object -> its parts
      (case e2 => PySem.W.k_is)
      ..
    obtain ⟨t, T⟩ := T
    have e0 := hmg.symm.trans (PySem.W.mg_of KX G T.law)
    cases e0                                       -- fa is the law's own address
    exact ⟨_, fun s u => .of_eq rfl, fun base kb nb => My.law_fn T kb nb⟩     -- if «.of_eq rfl» comes too early: refine' ⟨_, ?b, fun base kb nb => My.law_fn T kb nb⟩; exact fun s u => .of_eq rfl
  case S => exact fun w H a ns hl hO hS => ..
  case C => exact ..
(the tactic k_is has no namespace: write k_is) -/

/-! SHORT WORDS over the layer: a def of the text, its body, what a loop and a test want. -/
namespace L2
open PySem PySem.Spec PyProof.Rows

/-! ### the text by places -/
/-- the j-th statement of a class's body -/
def inClass (s : Stmt) (j : Nat) : Stmt := match s with
  | .ClassDef _ _ _ body _ _ _ _ _ _ _ => body.getD j (.Pass ⟨0, 0, 0, 0⟩)
  | _ => .Pass ⟨0, 0, 0, 0⟩
def defArgs (s : Stmt) : Arguments := match s with
  | .FunctionDef _ a _ _ _ _ _ _ _ _ => a
  | _ => { posonlyargs := [], args := [], vararg := none, kwonlyargs := [], kw_defaults := [], kwarg := none, defaults := [] }
def defBody (s : Stmt) : List Stmt := match s with
  | .FunctionDef _ _ b _ _ _ _ _ _ _ => b
  | _ => []
def defScope (s : Stmt) : Scope := match s with
  | .FunctionDef _ _ _ _ _ _ sc _ _ _ => sc
  | _ => { kind := .function, names := [], isGenerator := false, isCoroutine := false }

/-! ### no exception leaves a def -/
abbrev CX0 : CXT := fun _ _ _ _ _ _ => False
abbrev E0 : XK := fun _ _ _ => False
theorem pass0 {X : Cx} : Passes CX0 X E0 := fun _ _ _ _ _ _ _ h => h.elim

/-! ### a def (or method) of the text as it stands behind the top -/
structure Fun (K : PySem.W.Frag) (x qual : Str) (st : Stmt) (f : Addr) (fd : FuncData) : Prop where
  ex : ∃ (oc : Value) (od : Option Addr) (kV doc pm : Value) (an : Option Addr) (cdv ct : Value) (osl : Array (Option Value)),
    fd = PySem.W.fnOf x qual (defArgs st) (defBody st) (defScope st) .none kV doc pm an cdv ct ∧ K.lookup f = some ⟨oc, od, .func fd, osl⟩ ∧ PySem.W.codeIn K cdv qual = true
  kp : PySem.W.keepIn K (.ref f) = true
section
variable {P : Program} {w : World} {K : PySem.W.Frag} {mg : Str → Option Value} {base : Heap}
/-- THE RULE for a def: its body as a term of rules, and the reading of that term -/
theorem Fun.ok {x qual : Str} {st : Stmt} {f : Addr} {fd : FuncData} {N ps : List Str} {k : Nat} {sp : Sp} (F : Fun K x qual st f fd) (S : FnScope N ps (defScope st)) (len : ∀ vs H Q E, sp vs H Q E → vs.length = ps.length)
    (hbody : ∀ (cdv : Value) (A : Around) (outer : List Env) (s : Shared) (H : Hp) (vs : List V) (Q : VK) (E : XK), Room k (A.deeper (envOfC qual (defScope st) s.heap.objs.size f cdv)) → sp vs H Q E →
      ∃ t, PSs (cxOf CX0 P w K mg base N qual (defScope st) f cdv A outer s H E).nox (defBody st) t ∧ t { nx := fun _ H' => Q .non H', rt := Q } (start N vs) H) : FnOk P w K mg base CX0 (k + 1) f fd ps sp := by
  obtain ⟨oc, od, kV, doc, pm, an, cdv, ct, osl, rfl, lk, hcd⟩ := F.ex
  refine fn_of lk hcd S len fun A outer s H vs Q E hr hsp => ?_
  obtain ⟨t, h, q⟩ := hbody cdv A outer s H vs Q E hr hsp
  exact ⟨t, h.nox, q⟩
/-- how its arguments bind (no defaults): h is «fun _ _ _ _ _ _ us hl => match us, hl with | [_, _], _ => rfl», one _ a parameter -/
theorem Fun.binds {x qual : Str} {st : Stmt} {f : Addr} {fd : FuncData} {ps : List Str} (F : Fun K x qual st f fd)
    (h : ∀ (kV doc pm : Value) (an : Option Addr) (cdv ct : Value) (us : List Value), us.length = ps.length → bindArgs (PySem.W.fnOf x qual (defArgs st) (defBody st) (defScope st) .none kV doc pm an cdv ct) ⟨us, []⟩ = pure (ps.zip us)) : Binds K fd ps [] := by
  obtain ⟨oc, od, kV, doc, pm, an, cdv, ct, osl, rfl, lk, hcd⟩ := F.ex
  exact .all (h kV doc pm an cdv ct)
theorem fun_mk {x qual : Str} {st : Stmt} {f : Addr} {oc : Value} {od an : Option Addr} {osl : Array (Option Value)} {kV doc pm cdv ct : Value} (l : K.lookup f = some ⟨oc, od, .func (PySem.W.fnOf x qual (defArgs st) (defBody st) (defScope st) .none kV doc pm an cdv ct), osl⟩)
    (c : PySem.W.codeIn K cdv qual = true) (k : PySem.W.keepIn K (.ref f) = true) : Fun K x qual st f (PySem.W.fnOf x qual (defArgs st) (defBody st) (defScope st) .none kV doc pm an cdv ct) := ⟨⟨oc, od, kV, doc, pm, an, cdv, ct, osl, rfl, l, c⟩, k⟩
end

/-! ### expressions in short: the name that stands in the i-th slot -/
section
variable {X : Cx}
theorem pv (i : Nat) {x : Str} {pos : Pos} (hN : X.N[i]? = some x := by rfl) (hv : Vis X.env.scope x := by first | exact Or.inl rfl | exact Or.inr (Or.inl rfl) | exact Or.inr (Or.inr rfl)) (hd : (x == ("__debug__" : Str)) = false := by decide)
    (hcd : (x == ("__classdict__" : Str)) = false := by decide) : PE X (.Name x pos) (tVar i) := pe_var hN hv hd hcd
end

/-! ### tests -/
theorem iteF {A B : Prop} (h : B) : if false = true then A else B := by
  rw [if_neg Bool.false_ne_true]
  exact h
theorem iteT {A B : Prop} (h : A) : if true = true then A else B := by
  rw [if_pos rfl]
  exact h
theorem ite2 {c A B : Prop} [Decidable c] (h1 : c → A) (h2 : ¬ c → B) : if c then A else B := by
  by_cases h : c
  · rw [if_pos h]
    exact h1 h
  · rw [if_neg h]
    exact h2 h
theorem iteNS {c A B : Prop} [Decidable c] (hc : c) (h : B) : if (!decide c) = true then A else B := by
  rw [decide_eq_true hc]
  exact iteF h

/-! ### heaps -/
/-- all that was tracked is as it was -/
def Same (H H' : Hp) : Prop := ∀ b o, H b = some o → H' b = some o
theorem Same.trans {H H1 H2 : Hp} (a : Same H H1) (b : Same H1 H2) : Same H H2 := fun c o h => b c o (a c o h)
theorem Same.free {H H' : Hp} (e : Same H H') {l : Addr} (h : H' l = Option.none) : H l = Option.none := by
  cases q : H l with
  | none => rfl
  | some o =>
    rw [e l o q] at h
    cases h
theorem Same.seq {K : PySem.W.Frag} {H H' : Hp} {a : Addr} {xs : List V} (e : Same H H') (h : SqL K H a xs) : SqL K H' a xs := by
  rcases h with (h | ⟨o, h⟩) | h
  · exact .inl (.inl (e _ _ h))
  · exact .inl (.inr ⟨o, e _ _ h⟩)
  · exact .inr h

end L2

set_option Elab.async false
set_option linter.all false
set_option maxRecDepth 100000
set_option maxHeartbeats 4000000
/-! EXCEPTIONS over the layer: an own error class raised, passed on by defs, taken by a try. -/
namespace L2
open PySem PySem.Spec PyProof.Rows

theorem ObjOk.thereO {P : Program} {w : World} {H : Hp} {h : Heap} {a : Addr} {o : HO} (x : ObjOk P w H h a o) : ∃ u, h.get? a = some u := by
  cases o with
  | lst xs => obtain ⟨_, _, _, _, e⟩ := x; exact ⟨_, e⟩
  | tup xs => obtain ⟨_, _, _, o, e, _⟩ := x; exact ⟨_, e⟩
  | dK kvs => obtain ⟨_, _, _, _, o, _, _, e, _⟩ := x; exact ⟨_, e⟩
  | dT kvs => obtain ⟨_, _, _, _, o, _, _, e, _⟩ := x; exact ⟨_, e⟩
  | set S n => obtain ⟨o, _, _, _, e, _⟩ := x; exact ⟨_, e⟩
  | ins C dx fs => obtain ⟨_, _, _, e, _⟩ := x; exact ⟨_, e⟩
  | own y => exact x
  | xd fs => obtain ⟨_, ⟨o, _, _, e, _⟩, _⟩ := x; exact ⟨_, e⟩
  | rng lo hi => obtain ⟨_, _, _, e⟩ := x; exact ⟨_, e⟩
  | frz ob u => obtain ⟨e, _⟩ := x; exact ⟨_, e⟩
  | tbl ps => exact ⟨_, (show h.get? a = some _ from x)⟩
  | met f y => exact ⟨_, (show h.get? a = some _ from x)⟩
  | ext φ => obtain ⟨_, e, _⟩ := x; exact e

/-- an exception at ea, of the own class at C, in flight: B, what stands apart from the frames and stays -/
structure Fly (P : Program) (w : World) (outer : List Env) (H : Hp) (s : Shared) (ea C t : Addr) (B : Heap) (H' : Hp) (s' : Shared) : Prop where
  os : s'.os = s.os
  bare : AllBare s'.gens
  fly : Heap.FlyingW B outer ea (.ref C) (.ref t) s'.heap
  hok : HOk P w H' B
  old : ∀ b o, s.heap.get? b = some o → H b = none → b ∉ frs outer → B.get? b = some o
  there : ∀ b o, s.heap.get? b = some o → b ∉ frs outer → ∃ o', B.get? b = some o'
  free : ∀ b o, s.heap.get? b = some o → H b = none → H' b = none
  slot : ∀ b ∈ frs outer, ∀ o, s.heap.get? b = some o → ∃ sl, s'.heap.get? b = some { o with slots := sl }
  tups : ∀ b xs, H b = some (.tup xs) → H' b = some (.tup xs)
  frzs : ∀ b o u, H b = some (.frz o u) → H' b = some (.frz o u)
  tbls : ∀ b ps, H b = some (.tbl ps) → ∃ more, H' b = some (.tbl (ps ++ more))
def CXF (P : Program) (w : World) : CXT := fun outer H s E e s' => ∃ (ea C t : Addr) (B : Heap) (H' : Hp), e = .ref ea ∧ Fly P w outer H s ea C t B H' s' ∧ E (.ref C) none H'
/-- an exception just made -/
def PassesM (X : Cx) (E : XK) : Prop := ∀ (pins : List (Addr × Obj)) (σ : St) (H : Hp) (s : Shared) (h' : Heap) (ea C : Addr) (vs : List Value), Inv X pins σ H s → Heap.MadeExcOf s.heap h' ea (.ref C) vs → E (.ref C) none H →
  X.xe (.ref ea) { s with heap := h' }

theorem mem_frs_cons {env : Env} {outer : List Env} {L b : Addr} (hf : env.frame = some L) (hb : b ∈ frs (env :: outer)) : b = L ∨ b ∈ frs outer := by
  unfold frs at hb
  rw [List.filterMap_cons, hf] at hb
  exact List.mem_cons.mp hb
theorem mem_frs_tail {env : Env} {outer : List Env} {b : Addr} (hb : b ∈ frs outer) : b ∈ frs (env :: outer) := by
  unfold frs at hb ⊢
  rw [List.filterMap_cons]
  split
  · exact hb
  · exact List.mem_cons_of_mem _ hb

section
variable {P : Program} {w : World} {K : PySem.W.Frag} {mg : Str → Option Value} {base : Heap} {N : List Str} {qual : Str} {scope : Scope} {f : Addr} {cd : Value} {A : Around} {outer : List Env} {s : Shared} {H : Hp} {E : XK} {CX : CXT}

/-- a def hands a callee's exception on -/
theorem pass_def : Passes (CXF P w) (cxOf (CXF P w) P w K mg base N qual scope f cd A outer s H E) E := by
  intro pins σ H1 s1 e s' I hq
  obtain ⟨ea, C, t, B, H', rfl, F, hE⟩ := hq
  have F : Fly P w (envOfC qual scope s.heap.objs.size f cd :: outer) H1 s1 ea C t B H' s' := F
  have noex : ∀ b : Addr, b ∉ (cxOf (CXF P w) P w K mg base N qual scope f cd A outer s H E).ex := fun b z => nomatch z
  have hne : ∀ b o, s.heap.get? b = some o → b ∉ frs outer → b ∉ frs (envOfC qual scope s.heap.objs.size f cd :: outer) := fun b o e nb hb => by
    rcases mem_frs_cons (L := s.heap.objs.size) rfl hb with z | z
    · exact absurd (Heap.lt_size e) (by rw [z]; exact Nat.lt_irrefl _)
    · exact nb z
  show wpAny (model P w) (A.deeper (envOfC qual scope s.heap.objs.size f cd)) (leaving (envOfC qual scope s.heap.objs.size f cd) (.ref ea)) (fun _ s'' => CXF P w outer H s E (.ref ea) s'') (fun e' s'' => CXF P w outer H s E e' s'') s'
  refine wpAny_leaves_onW (outer := outer) (L := s.heap.objs.size) I.ok.frames rfl F.fly fun h' x1 x2 => ⟨ea, C, t, B, H', rfl, ⟨?_, F.bare, x1, F.hok, fun b o e n nb => ?_, fun b o e nb => ?_, fun b o e n => ?_, fun b hb o e => ?_, fun b xs e => ?_, fun b o u e => ?_, fun b ps e => ?_⟩, hE⟩
  · exact F.os.trans I.os
  · exact F.old b o (I.base.keep b o e n nb (noex b)) (I.base.free b o e n (noex b)) (hne b o e nb)
  · obtain ⟨o1, e1⟩ := I.base.there b o e (noex b)
    exact F.there b o1 e1 (hne b o e nb)
  · obtain ⟨o1, e1⟩ := I.base.there b o e (noex b)
    exact F.free b o1 e1 (I.base.free b o e n (noex b))
  · obtain ⟨sl, e1⟩ := I.base.slot b o e (I.ok.frf b hb) hb (noex b)
    obtain ⟨sl2, e2⟩ := F.slot b (mem_frs_tail hb) _ e1
    obtain ⟨_, o', eo, nf⟩ := I.ok.funs.mem hb
    have eo : s.heap.get? b = some o' := eo
    rw [e] at eo; cases eo
    obtain ⟨sl3, e3⟩ := x2 b _ e2 nf
    exact ⟨sl3, e3⟩
  · exact F.tups b xs (I.base.tups b xs e)
  · exact F.frzs b o u (I.base.frzs b o u e)
  · obtain ⟨m1, e1⟩ := I.base.tbls b ps e
    obtain ⟨m2, e2⟩ := F.tbls b _ e1
    exact ⟨m1 ++ m2, by rw [e2, Array.append_assoc]⟩

/-- a def's own raise -/
theorem passM_def : PassesM (cxOf (CXF P w) P w K mg base N qual scope f cd A outer s H E) E := by
  intro pins σ H1 s1 h' ea C vs I hx hE
  have noex : ∀ b : Addr, b ∉ (cxOf (CXF P w) P w K mg base N qual scope f cd A outer s H E).ex := fun b z => nomatch z
  have hne : ∀ b o, s.heap.get? b = some o → b ∉ frs outer → b ∉ frs (envOfC qual scope s.heap.objs.size f cd :: outer) := fun b o e nb hb => by
    rcases mem_frs_cons (L := s.heap.objs.size) rfl hb with z | z
    · exact absurd (Heap.lt_size e) (by rw [z]; exact Nat.lt_irrefl _)
    · exact nb z
  have stk := I.stack
  have stk : s1.heap.FunFrames base (envOfC qual scope s.heap.objs.size f cd :: outer) := stk
  have sfr : ∀ b ∈ frs (envOfC qual scope s.heap.objs.size f cd :: outer), H1 b = none := I.stkFree
  have hin : ∀ env ∈ (envOfC qual scope s.heap.objs.size f cd :: outer), ∀ a, env.frame = some a → a ∈ frs (envOfC qual scope s.heap.objs.size f cd :: outer) := fun env he a ha => List.mem_filterMap.mpr ⟨env, he, ha⟩
  show wpAny (model P w) (A.deeper (envOfC qual scope s.heap.objs.size f cd)) (leaving (envOfC qual scope s.heap.objs.size f cd) (.ref ea)) (fun _ s'' => CXF P w outer H s E (.ref ea) s'') (fun e' s'' => CXF P w outer H s E e' s'') { s1 with heap := h' }
  refine wpAny_leaves_madeW (base := PySem.W.hideAll s1.heap (frs (envOfC qual scope s.heap.objs.size f cd :: outer))) (h := s1.heap) (outer := outer) (L := s.heap.objs.size) I.ok.frames rfl (fun b o q => PySem.W.of_hideAll _ q)
    (PySem.W.funFrames_hide stk hin) hx fun h2 t x1 x2 x3 x4 => ⟨ea, C, t, _, H1, rfl, ⟨I.os, I.bare, x1, fun a o e => ?_, fun b o e n nb => ?_, fun b o e nb => ?_, fun b o e n => ?_, fun b hb o e => ?_, I.base.tups, I.base.frzs, I.base.tbls⟩, hE⟩
  · refine (I.hok a o e).stay (fun b u hb q => PySem.W.hideAll_get _ q fun hm => ?_) (fun _ q => q) fun _ _ q => q
    have z := sfr b hm
    rcases hb with rfl | hb
    · rw [z] at e; cases e
    · rw [z] at hb; cases hb
  · exact PySem.W.hideAll_get _ (I.base.keep b o e n nb (noex b)) (hne b o e nb)
  · obtain ⟨o1, e1⟩ := I.base.there b o e (noex b)
    exact ⟨o1, PySem.W.hideAll_get _ e1 (hne b o e nb)⟩
  · exact I.base.free b o e n (noex b)
  · obtain ⟨sl, e1⟩ := I.base.slot b o e (I.ok.frf b hb) hb (noex b)
    have e2 := hx.keeps b _ e1
    obtain ⟨_, o', eo, nf⟩ := I.ok.funs.mem hb
    have eo : s.heap.get? b = some o' := eo
    rw [e] at eo; cases eo
    obtain ⟨sl3, e3⟩ := x4 b _ e2 nf
    exact ⟨sl3, e3⟩
theorem own_def : PassesOwn (model P w) (cxOf CX P w K mg base N qual scope f cd A outer s H E).A (cxOf CX P w K mg base N qual scope f cd A outer s H E).env (cxOf CX P w K mg base N qual scope f cd A outer s H E).xe := PassesOwn.leaving (Q₁ := fun e s'' => CX outer H s E e s'')
/-- a promise that raises nothing, as one that may -/
theorem FnOk.cxf {k : Nat} {f : Addr} {fd : FuncData} {ps : List Str} {sp : Sp} (F : FnOk P w K mg base CX0 k f fd ps sp) : FnOk P w K mg base (CXF P w) k f fd ps sp :=
  ⟨F.len, fun A outer s H args us vs Q E hr he hb hv hs => codeAny_mono (F.run A outer s H args us vs Q E hr he hb hv hs) fun r s' h => by
    cases r with
    | error e => exact False.elim h
    | ok fl => cases fl with
      | ret u => exact h
      | next => exact h
      | brk => exact h
      | cont => exact h⟩
/-- THE RULE for a def that may raise -/
theorem Fun.okX {x qual : Str} {st : Stmt} {f : Addr} {fd : FuncData} {N ps : List Str} {k : Nat} {sp : Sp} (F : Fun K x qual st f fd) (S : FnScope N ps (defScope st)) (len : ∀ vs H Q E, sp vs H Q E → vs.length = ps.length)
    (hbody : ∀ (cdv : Value) (A : Around) (outer : List Env) (s : Shared) (H : Hp) (vs : List V) (Q : VK) (E : XK), Room k (A.deeper (envOfC qual (defScope st) s.heap.objs.size f cdv)) → sp vs H Q E →
      ∃ t, PSs (cxOf (CXF P w) P w K mg base N qual (defScope st) f cdv A outer s H E) (defBody st) t ∧ t { nx := fun _ H' => Q .non H', rt := Q } (start N vs) H) : FnOk P w K mg base (CXF P w) (k + 1) f fd ps sp := by
  obtain ⟨oc, od, kV, doc, pm, an, cdv, ct, osl, rfl, lk, hcd⟩ := F.ex
  exact fn_of lk hcd S len fun A outer s H vs Q E hr hsp => hbody cdv A outer s H vs Q E hr hsp
end

/-! ### an own error class, as the fragment has it -/
/-- the dict at N has text keys alone, none of them x -/
def noKey (K : PySem.W.Frag) (N : Addr) (x : Str) : Bool := match K.lookup N with
  | some ⟨_, _, .dict es _, _⟩ => es.toList.all fun e => match e.key with | .str y _ => !(y == x) | _ => false
  | _ => false
theorem noKey_ns {K : PySem.W.Frag} {h : Heap} {N : Addr} {x : Str} (X : K.In h) (e : noKey K N x = true) : ∃ m, h.Ns N m ∧ m x = none := by
  unfold noKey at e
  split at e
  · rename_i oc od es ep sl ho
    have hk : StrKeys es := fun y hy => by
      have q := List.all_eq_true.mp e y (Array.mem_toList_iff.mpr hy)
      cases k : y.key with
      | str z t => exact ⟨z, t, rfl⟩
      | _ => rw [k] at q; cases q
    refine ⟨nsFind es, ⟨_, es, ep, X _ _ ho, rfl, hk, fun _ => rfl⟩, ?_⟩
    unfold nsFind findBy
    rw [← Array.find?_toList]
    have : es.toList.find? (fun e => e.key.isStr x) = none := by
      rw [List.find?_eq_none]
      intro y hy
      have q := List.all_eq_true.mp e y hy
      obtain ⟨z, t, k⟩ := hk y (Array.mem_toList_iff.mp hy)
      rw [k] at q ⊢
      intro hz
      have hz' : (z == x) = true := by simpa [Value.isStr] using hz
      simp [hz'] at q
    rw [this]
    rfl
  · cases e
structure XCls (K : PySem.W.Frag) (C : Addr) (tl : List Value) (newId : String) : Prop where
  obj : ∃ (N : Addr) (nm q : Str) (bs : List Value) (hdct : Bool) (sn : List Str) (sub : List Value) (ab : Bool) (col : Option Bool) (dd : Option Addr) (k0 k1 k2 k3 k5 : Option Value),
    K.lookup C = some (excClassObj nm q C N bs tl hdct sn sub ab col dd k0 k1 k2 k3 k5 newId) ∧ noKey K N "__init__" = true
abbrev mroVE : List Value := [.type "ValueError", .type "Exception", .type "BaseException", .type "object"]
/-- the classes above: own ones, then ValueError's -/
inductive XTail (K : PySem.W.Frag) : List Value → Prop where
  | base : XTail K mroVE
  | own {C : Addr} {tl : List Value} {n : String} : XCls K C tl n → XTail K tl → XTail K (.ref C :: tl)
theorem XTail.tail {K : PySem.W.Frag} {h : Heap} {tl : List Value} (X : K.In h) (T : XTail K tl) : OwnTail h mroVE tl := by
  induction T with
  | base => exact .base
  | own c _ ih =>
    obtain ⟨N, nm, q, bs, hdct, sn, sub, ab, col, dd, k0, k1, k2, k3, k5, lk, nk⟩ := c.obj
    obtain ⟨m, hn, hm⟩ := noKey_ns X nk
    exact .own (X _ _ lk) hn hm ih

/-! ### raise C(e) -/
section
variable {X : Cx} {x : Str} {C : Addr} {tl : List Value} {np cpos pos : Pos} {e0 : Expr} {ta : TA} {E : XK} {newId Bn inN : String} {bmN : List Value}
def tRaise (C : Addr) (E : XK) (ta : TA) : TS := fun _ σ H => ta σ H fun vs H1 => vs.length ≤ sizeLine ∧ E (.ref C) none H1
theorem ps_raise (Fn : ExcBaseFacts Bn newId inN bmN) (hBn : mroVE.contains (.type Bn) = true) (hp : PassesM X E) (hc : X.calm = true) (xc : XCls X.K C tl newId) (T : XTail X.K tl) (hg : Gl X x) (hm : X.mg x = some (.ref C)) (ha : PA X [e0] ta)
    (hs : starEach [e0] X.env = [(false, eval e0 X.env)] := by rfl) (hd : (x == ("__debug__" : Str)) = false := by decide) :
    PS X (.Raise (some (.Call (.Name x np) [e0] [] cpos)) none pos) (tRaise C E ta) := by
  intro pins s σ H D I h
  obtain ⟨N, nm, q, bs, hdct, sn, sub, ab, col, dd, k0, k1, k2, k3, k5, lk, nk⟩ := xc.obj
  obtain ⟨m, hn, hm0⟩ := noKey_ns (h := X.base) I.ok.mod.kin nk
  have hni : m "__init__" = none := hm0
  have Tb : OwnTail X.base mroVE tl := T.tail I.ok.mod.kin
  refine wpAny_Raise_call_subU (C := C) (nm := nm) (q := q) (N := N) (bs := bs) (bm := tl) (hdct := hdct) (sn := sn) (sub := sub) (ab := ab) (col := col) (dd := dd) (k0 := k0) (k1 := k1) (k2 := k2) (k3 := k3) (k5 := k5)
    Fn hBn PySem.F.excBase_ValueError (mN := m) (Tb.hasType PySem.F.excBase_ValueError.hasBase) (I.ok.hd hc) (by rw [hs]; rfl) hni (ld_glob I hg hm ⟨rfl, ?_⟩ hd)
  have h2 := ha cpos pins s σ H _ I h
  rw [hs] at h2 ⊢
  exact Calls.evalArgs_plain (thn h2 fun us s2 ⟨vs, H2, I2, r, hl, q2⟩ => ⟨rfl, by rw [← r.length]; exact hl, I2.kIn _ _ lk, hn.keeps I2.bk, Tb.keeps I2.bk, fun h' e hx => hp pins σ H2 s2 h' e C us I2 hx q2⟩)
end

/-! ### f-strings: some text -/
section
variable {X : Cx} {e : Expr} {es : List Expr} {te : TE} {pos : Pos}
/-- the parts from the left, the length so far at most n -/
def PJ (X : Cx) (es : List Expr) (n m : Nat) (t : St → Hp → (Hp → Prop) → Prop) : Prop :=
  ∀ (pins : List (Addr × Obj)) (s : Shared) (σ : St) (H : Hp) (acc : Str) (Q : Hp → Prop), Inv X pins σ H s → acc.length ≤ n → t σ H Q →
    Joins (model X.prog X.w) X.A X.xe (evalEach es X.env) acc (fun out s1 => out.length ≤ m ∧ ∃ H1, Inv X pins σ H1 s1 ∧ Q H1) s
theorem pj_nil {n : Nat} : PJ X [] n n (fun _ H Q => Q H) := fun _ _ _ H _ _ I h q => ⟨h, H, I, q⟩
theorem pj_str {x : Str} {j : Nat} {n k m : Nat} {t : St → Hp → (Hp → Prop) → Prop} (hx : x.length ≤ k) (hr : PJ X es (n + k) m t) (hm : n + k ≤ sizeLine) (he : evalEach (.Constant (.str x) j pos :: es) X.env = eval (.Constant (.str x) j pos) X.env :: evalEach es X.env := by rfl) :
    PJ X (.Constant (.str x) j pos :: es) n m t := by
  intro pins s σ H acc Q I ha h
  rw [he]
  refine Calls.Constant_str ?_
  have hl : (acc ++ x).length ≤ n + k := by rw [strLen_append]; omega
  exact ⟨x, _, rfl, Nat.le_trans hl hm, hr pins _ σ H _ Q (I.tok _) hl h⟩
theorem pj_int {n m : Nat} {p2 : Pos} {t : St → Hp → (Hp → Prop) → Prop} (he : PE X e te) (hr : PJ X es (n + 2000) m t) (hm : n + 2000 ≤ sizeLine)
    (hE : evalEach (.FormattedValue e (-1) none p2 :: es) X.env = eval (.FormattedValue e (-1) none p2) X.env :: evalEach es X.env := by rfl) :
    PJ X (.FormattedValue e (-1) none p2 :: es) n m (fun σ H Q => te σ H fun v H1 => ∃ i : Int, v = .int i ∧ i.natAbs.log2 < 1920 ∧ t σ H1 Q) := by
  intro pins s σ H acc Q I ha h
  rw [hE]
  refine wpAny_FormattedValue_plain (thn (he pins s σ H _ I h) fun u s1 ⟨v, H1, I1, r1, i, e1, hi, q1⟩ => ?_)
  subst e1
  obtain ⟨tk, rfl⟩ := r1
  refine wpAny_formatField_int hi ?_
  have hl : (acc ++ Str.ofString (toString i)).length ≤ n + 2000 := by
    have := int_text_length_le (k := 1920) (by decide) hi
    rw [strLen_append, PySem.ofString_length]; omega
  exact ⟨_, _, rfl, Nat.le_trans hl hm, hr pins _ σ H1 _ Q (I1.tok _) hl q1⟩
theorem pe_fstr {v1 v2 : Expr} {rest : List Expr} {m : Nat} {t : St → Hp → (Hp → Prop) → Prop} (h : PJ X (v1 :: v2 :: rest) 0 m t) (hm : m ≤ sizeLine) : PE X (.JoinedStr (v1 :: v2 :: rest) pos) (fun σ H Q => t σ H fun H1 => ∀ out, Q (.str out) H1) := by
  intro pins s σ H Q I hq
  refine wpAny_JoinedStr ?_
  have h2 := h pins s σ H Str.empty _ I (Nat.zero_le _) hq
  have mono : ∀ (parts : List (Sem Value)) (acc : Str) (s : Shared) (Q1 Q2 : Str → Shared → Prop), (∀ o s, Q1 o s → Q2 o s) → Joins (model X.prog X.w) X.A X.xe parts acc Q1 s → Joins (model X.prog X.w) X.A X.xe parts acc Q2 s := by
    intro parts
    induction parts with
    | nil => intro acc s Q1 Q2 hq h; exact hq _ _ h
    | cons p r ih => intro acc s Q1 Q2 hq h; exact thn h fun v s1 ⟨y, t, e, l, j⟩ => ⟨y, t, e, l, ih _ _ _ _ hq j⟩
  refine mono _ _ _ _ _ (fun out s1 ⟨hl, H1, I1, q⟩ => ⟨Nat.le_trans hl hm, .str out, H1, I1.tok _, ⟨_, rfl⟩, q out⟩) h2
end
end L2

set_option Elab.async false
set_option linter.all false
set_option maxRecDepth 100000
set_option maxHeartbeats 4000000
/-! TRY over the layer; isinstance. -/
namespace L2
open PySem PySem.Spec PyProof.Rows

/-- an exception of a callee, by the frame's values -/
def PassesS (CX : CXT) (X : Cx) (E : St → XK) : Prop := ∀ (pins : List (Addr × Obj)) (σ : St) (H : Hp) (s : Shared) (e : Value) (s' : Shared), Inv X pins σ H s → CX X.stack H s (E σ) e s' → X.xe e s'
def tCallS (sp : Sp) (dvs : List V) (E : St → XK) (t : TA) : TE := fun σ H Q => t σ H fun vs H1 => sp (vs ++ dvs) H1 Q (E σ)
section
variable {X : Cx} {CX : CXT} {k : Nat} {f C : Addr} {fd : FuncData} {ps : List Str} {sp : Sp} {dvs : List V} {ds : List Value} {E : St → XK} {x m : Str} {p pos apos : Pos} {e o : Expr} {es : List Expr} {ta : TE} {t : TA}
theorem run_fnS {pins : List (Addr × Obj)} {σ : St} {H : Hp} {s : Shared} {Q : VK} {us : List Value} {vs : List V} (F : FnOk X.prog X.w X.K X.mg X.base CX k f fd ps sp) (hr : Room k X.A) (hb : Binds X.K fd ps ds) (hd : Vals dvs ds) (hx : PassesS CX X E)
    (I : Inv X pins σ H s) (r : Vals vs us) (h : sp (vs ++ dvs) H Q (E σ)) : wpAny (model X.prog X.w) X.A (call (.ref f) us) (EP X pins σ Q) X.xe s := by
  have r2 : Vals (vs ++ dvs) (us ++ ds) := r.append hd
  have hl : (us ++ ds).length = ps.length := by rw [← r2.length]; exact F.len _ _ _ _ h
  refine wpAny_call (codeAny_mono (F.run X.A X.stack s H ⟨us, []⟩ (us ++ ds) (vs ++ dvs) Q (E σ) hr I.env0 (hb s us I.kIn hl) r2 h) fun r s' hq => ?_)
  cases r with
  | error e => exact hx pins σ H s e s' I hq
  | ok fl =>
    cases fl with
    | ret u => exact I.after hq
    | next => exact False.elim hq
    | brk => exact False.elim hq
    | cont => exact False.elim hq
theorem pe_callS (F : FnOk X.prog X.w X.K X.mg X.base CX k f fd ps sp) (hr : Room k X.A) (hg : Gl X x) (hm : X.mg x = some (.ref f)) (hk : PySem.W.keepIn X.K (.ref f) = true) (hb : Binds X.K fd ps ds) (hd : Vals dvs ds) (hx : PassesS CX X E)
    (ha : PA X (e :: es) t) (hdb : (x == ("__debug__" : Str)) = false := by decide) (he : starEach (e :: es) X.env = (false, eval e X.env) :: starEach es X.env := by rfl) (hpl : (backTo pos (starEach es X.env)).any (·.1) = false := by rfl) :
    PE X (.Call (.Name x p) (e :: es) [] pos) (tCallS sp dvs E t) := by
  intro pins s σ H Q I h
  refine wpAny_Call_Name_kw (ld_glob I hg hm ?_ hdb)
  refine PySem.W.callWith_K (h₀ := X.base) I.ok.mod.kin hk (thn (ha pos pins s σ H _ I h) fun us s1 ⟨vs, H1, I1, r, q⟩ => ⟨I1.kIn, ?_⟩) he hpl
  exact run_fnS F hr hb hd hx I1 r q
end

section
variable {X : Cx} {CX : CXT} {k : Nat} {f C : Addr} {fd : FuncData} {ps : List Str} {sp : Sp} {dvs : List V} {ds : List Value} {E : St → XK} {x m : Str} {p pos apos : Pos} {e o : Expr} {es : List Expr} {ta : TE} {t : TA}
end

/-! ### the state where an exception has landed -/
section
variable {X : Cx} {pins : List (Addr × Obj)} {σ : St} {H H' : Hp} {s s' : Shared} {ea C t : Addr} {B h6 : Heap}
theorem Fly.un (I : Inv X pins σ H s) (F : Fly X.prog X.w X.stack H s ea C t B H' s') (k : B.StaysIn h6) (u : s'.heap.UpToSlots h6) : Un (frs X.stack) [] H H' s.heap h6 where
  keep := fun b o e n nb _ => k b o (F.old b o e n nb)
  slot := fun b o e n hb _ => by
    obtain ⟨sl, e1⟩ := F.slot b hb o e
    obtain ⟨_, o', eo, nf⟩ := I.stack.mem hb
    rw [e] at eo; cases eo
    obtain ⟨sl2, e2⟩ := u b _ e1 nf
    exact ⟨sl2, e2⟩
  free := fun b o e n _ => F.free b o e n
  there := fun b o e _ => by
    by_cases hb : b ∈ frs X.stack
    · obtain ⟨sl, e1⟩ := F.slot b hb o e
      obtain ⟨_, o', eo, nf⟩ := I.stack.mem hb
      rw [e] at eo; cases eo
      obtain ⟨sl2, e2⟩ := u b _ e1 nf
      exact ⟨_, e2⟩
    · obtain ⟨o', e'⟩ := F.there b o e hb
      exact ⟨o', k _ _ e'⟩
  tups := F.tups
  frzs := F.frzs
  tbls := F.tbls
theorem Fly.inv (I : Inv X pins σ H s) (F : Fly X.prog X.w X.stack H s ea C t B H' s') (k : B.StaysIn h6) (u : s'.heap.UpToSlots h6) : Inv X pins σ H' { s' with heap := h6 } :=
  I.call' (s' := { s' with heap := h6 }) (ch := []) F.os (F.un I k u) (fun a o e => (F.hok.kept (fun b v q => k b v q)) a o e) F.bare (fun _ z => nomatch z)
/-- an object that stands there and is nobody's becomes tracked -/
theorem Inv.adopt {φ : Heap → Prop} {o : Obj} (I : Inv X pins σ H s) (hn : H ea = none) (ho : s.heap.get? ea = some o) (hφ : φ s.heap) (st : ∀ h1 h2 : Heap, φ h1 → (∀ o, h1.get? ea = some o → h2.get? ea = some o) → φ h2)
    (h0 : ∀ u, X.s₀.heap.get? ea = some u → ea ∈ X.ex) (hL : ea ≠ X.env.locals) (hc : ∀ x c, X.env.cells.lookup x = some c → c ≠ ea) (hp : ∀ p ∈ X.pn ++ pins, p.1 ≠ ea) : Inv X pins σ (upd H ea (.ext φ)) s := by
  refine ⟨I.ok, I.os, I.bare, ⟨I.base.keep, I.base.slot, fun b u e n hx => ?_, I.base.there, fun b xs e => ?_, fun b u v e => ?_, fun b ps e => ?_⟩, I.loc, I.cell, ?_, fun x c e => ?_, fun p hp' => ?_, fun b u e => ?_, I.len⟩
  · have : b ≠ ea := fun z => hx (by rw [z]; exact h0 u (by rw [← z]; exact e))
    rw [upd_ne this]; exact I.base.free b u e n hx
  · have q := I.base.tups b xs e
    rw [upd_ne (ne_of_none q hn)]; exact q
  · have q := I.base.frzs b u v e
    rw [upd_ne (ne_of_none q hn)]; exact q
  · obtain ⟨more, q⟩ := I.base.tbls b ps e
    exact ⟨more, by rw [upd_ne (ne_of_none q hn)]; exact q⟩
  · rw [upd_ne (Ne.symm hL)]; exact I.free
  · rw [upd_ne (hc x c e)]; exact I.freeC x c e
  · obtain ⟨a, b, c, d, g⟩ := I.pin p hp'
    exact ⟨a, by rw [upd_ne (hp p hp')]; exact b, c, d, g⟩
  · by_cases hb : b = ea
    · subst hb
      rw [upd_same] at e; cases e
      exact ⟨hφ, ⟨o, ho⟩, st⟩
    · rw [upd_ne hb] at e
      exact (I.hok b u e).stay (fun _ _ _ q => q) (fun c q => by rw [upd_ne (ne_of_none q hn)]; exact q) fun c xs q => by rw [upd_ne (ne_of_none q hn)]; exact q
/-- what an exception's object is known by -/
def excAt (ea C : Addr) : Heap → Prop := fun h => ∃ o, h.get? ea = some o ∧ o.cls = .ref C
theorem excAt_st {ea C : Addr} : ∀ h1 h2 : Heap, excAt ea C h1 → (∀ o, h1.get? ea = some o → h2.get? ea = some o) → excAt ea C h2 := fun _ _ ⟨o, e, c⟩ k => ⟨o, k o e, c⟩
theorem Fly.land (I : Inv X pins σ H s) (F : Fly X.prog X.w X.stack H s ea C t B H' s') (hex : X.ex = []) (f6 : Heap.FlyingW B X.stack ea (.ref C) (.ref t) h6) (u : s'.heap.UpToSlots h6) (hst : X.env.locals ∈ frs X.stack) :
    H' ea = none ∧ Inv X pins σ (upd H' ea (.ext (excAt ea C))) { s' with heap := h6 } := by
  have I6 := F.inv I f6.1 u
  obtain ⟨oe, vs, he, hc, hd, h0⟩ := f6.first
  have hB : B.get? ea = none := f6.2.1
  have hn : H' ea = none := by
    cases q : H' ea with
    | none => rfl
    | some o =>
      obtain ⟨v, e⟩ := (F.hok ea o q).thereO
      rw [hB] at e; cases e
  have nfr : ea ∉ frs X.stack := fun hb => by
    obtain ⟨_, o', eo, nf⟩ := I6.stack.mem hb
    have eo : h6.get? ea = some o' := eo
    rw [he] at eo; cases eo
    exact nf vs hd
  have ns1 : ∀ v, s.heap.get? ea = some v → False := fun v e => by
    obtain ⟨o', e'⟩ := F.there ea v e nfr
    rw [hB] at e'; cases e'
  refine ⟨hn, I6.adopt hn he ⟨oe, he, hc⟩ excAt_st (fun v e => ?_) (fun z => nfr (by rw [z]; exact hst)) (fun x c e z => ?_) fun p hp z => ?_⟩
  · obtain ⟨o', e'⟩ := I.base.there ea v e (by rw [hex]; exact fun z => nomatch z)
    exact (ns1 o' e').elim
  · obtain ⟨v, o', eo, dd⟩ := I6.cell x c e
    rw [z] at eo
    have eo : h6.get? ea = some o' := eo
    rw [he] at eo; cases eo
    rw [hd] at dd; cases dd
  · obtain ⟨e, _⟩ := I.pin p hp
    rw [z] at e
    exact ns1 _ e
/-- a name goes: its slot is forgotten -/
theorem gone_ok {M : Model} {A : Around} {E : Value → Shared → Prop} {i : Nat} {n : Str} {pos : Pos} {Q : Unit → Shared → Prop} (I : Inv X pins σ H s) (hN : X.N.Nodup) (hi : X.N[i]? = some n) (hk : X.env.scope.names.lookup n = some .local)
    (h : ∀ s', Inv X pins (σ.set i none) H s' → Q () s') : wpAny M A (do bindName X.env n .none; unbindBehindTheSuite X.env n pos) Q E s := by
  have cne := I.cne
  obtain ⟨m, hm, hl⟩ := id I.loc
  refine wpAny_nameGoes_keeps hk hm (by rw [I.ok.kind]; rfl) fun h' v hm' hs => h _ ?_
  have keep : ∀ b o, b ≠ X.env.locals → s.heap.get? b = some o → h'.get? b = some o := fun b o nb e => (hs.2 b nb).trans e
  refine ⟨I.ok, I.os, I.bare, ⟨fun b o e n hb hx => ?_, fun b o e n hb hx => ?_, I.base.free, fun b o e hx => ?_, I.base.tups, I.base.frzs, I.base.tbls⟩, ⟨_, hm', fun j y w e1 e2 e3 => ?_⟩, fun y c e => ?_, I.free, I.freeC, fun p hp => ?_, fun b o e => ?_, by rw [List.length_set]; exact I.len⟩
  · exact keep b o (Nat.ne_of_lt (Nat.lt_of_lt_of_le (Heap.lt_size e) I.ok.above)) (I.base.keep b o e n hb hx)
  · obtain ⟨sl, e1⟩ := I.base.slot b o e n hb hx
    exact ⟨sl, keep b _ (Nat.ne_of_lt (Nat.lt_of_lt_of_le (Heap.lt_size e) I.ok.above)) e1⟩
  · obtain ⟨o', e1⟩ := I.base.there b o e hx
    exact ⟨o', keep b _ (Nat.ne_of_lt (Nat.lt_of_lt_of_le (Heap.lt_size e) I.ok.above)) e1⟩
  · have hj : j ≠ i := fun z => by
      subst z
      have hjl : j < σ.length := by rw [I.len]; exact (List.getElem?_eq_some_iff.mp e1).1
      rw [List.getElem?_set_self hjl] at e2
      cases e2
    rw [List.getElem?_set_ne (Ne.symm hj)] at e2
    obtain ⟨u', r', q⟩ := hl j y w e1 e2 e3
    refine ⟨u', r', ?_⟩
    rcases q with ⟨k, e⟩ | ⟨k, c, e, z⟩
    · refine .inl ⟨k, ?_⟩
      have : y ≠ n := fun e => hj (nodup_ix hN e1 (e ▸ hi))
      simp [this, e]
    · exact .inr ⟨k, c, e, z.sameBut hs (cne y c e)⟩
  · obtain ⟨w', z⟩ := I.cell y c e
    exact ⟨w', z.sameBut hs (cne y c e)⟩
  · obtain ⟨e, n, ne, nf, d⟩ := I.pin p hp
    exact ⟨(hs.2 p.1 ne).trans e, n, ne, nf, d⟩
  · refine (I.hok b o e).stay (fun c v hc q => keep c v ?_ q) (fun _ q => q) fun _ _ q => q
    rintro rfl
    rcases hc with hc | hc
    · rw [← hc, I.free] at e; cases e
    · rw [I.free] at hc; cases hc
end

/-! ### e is taken by a class above its own -/
/-- an own error class that a handler names -/
structure HCls (K : PySem.W.Frag) (W : Addr) : Prop where
  ty : PySem.W.typeIn K (.ref W) = some (.type "type")
  sb : PySem.W.subIn K (.ref W) (.type "BaseException") = some true
  cl : (PySem.W.clsIn K W).isSome = true
theorem looks_isType {K : PySem.W.Frag} {M : Model} {h : Heap} {W : Addr} (X : K.In h) (c : (PySem.W.clsIn K W).isSome = true) : PySem.W.Looks M h (isType (.ref W)) true := by
  unfold PySem.W.clsIn at c
  split at c
  · rename_i c' d' cd' sl' ho
    intro A' Q' E' s' k q
    unfold isType loadHead
    exact wpAny_bind (wpAny_loadPart (k _ _ (X _ _ ho)) (wpAny_pure q))
  · cases c
theorem looks_excType {M : Model} {h : Heap} {e C : Addr} (x : excAt e C h) : PySem.W.Looks M h (typeOf (.ref e)) (.ref C) := by
  obtain ⟨o, h1, h2⟩ := x
  exact h2 ▸ (PySem.W.Looks.ld h1).andThen .now
theorem excMatches_own {M : Model} {A : Around} {E : Value → Shared → Prop} {K : PySem.W.Frag} {h : Heap} {g : Array GenState} {d : Drawn} {t : Nat} {os : OsState} {e C W : Addr} {b : Bool} {Q : Bool → Shared → Prop}
    (X : K.In h) (hx : excAt e C h) (hW : HCls K W) (hs : PySem.W.subIn K (.ref C) (.ref W) = some b) (hq : Q b ⟨h, g, d, t, os⟩) : wpAny M A (excMatches (.ref e) (.ref W)) Q E ⟨h, g, d, t, os⟩ := by
  have L1 : PySem.W.Looks M h (isInstance (.ref W) (.type "tuple")) false := (PySem.W.looks_typeIn X hW.ty).andThen (PySem.W.Looks.of_pure tc_notTuple)
  have L2 : PySem.W.Looks M h (isExcClass (.ref W)) true := (looks_isType X hW.cl).andThen (PySem.W.looks_subIn X hW.sb)
  have L3 := looks_excType (M := M) hx
  have L4 := PySem.W.looks_subIn (M := M) X hs
  unfold excMatches
  refine wpAny_bind (L1.at ?_)
  simp only [Bool.false_eq_true, if_false]
  refine wpAny_bind (wpAny_pure ?_)
  simp only [List.forIn_cons, List.forIn_nil]
  refine wpAny_bind (wpAny_bind (wpAny_bind (L2.at ?_)))
  simp only [Bool.not_true, Bool.false_eq_true, if_false]
  refine wpAny_pure (wpAny_pure ?_)
  refine wpAny_bind (L3.at ?_)
  refine wpAny_bind (wpAny_bind (wpAny_bind (L4.at ?_)))
  cases b with
  | true =>
    simp only [if_true]
    exact wpAny_pure (wpAny_pure (wpAny_pure hq))
  | false =>
    simp only [Bool.false_eq_true, if_false]
    exact wpAny_pure (wpAny_pure (wpAny_pure hq))

/-! ### try .. except W as n .. -/
section
variable {X : Cx} {body : List Stmt} {b0 : Stmt} {suite : List Stmt} {x n : Str} {np hpos pos : Pos} {W : Addr} {i : Nat} {tb : (St → XK) → TS} {ts : TS}
abbrev Cx.inTry (X : Cx) (pn : List (Addr × Obj)) (xe : Value → Shared → Prop) : Cx := { X with pn := pn, xe := xe }
abbrev Cx.inSuite (X : Cx) (A : Around) (pn : List (Addr × Obj)) : Cx := { X with A := A, pn := pn, calm := false, xe := fun _ _ => False }
theorem Cx.Ok.inTry {pn : List (Addr × Obj)} {xe : Value → Shared → Prop} (ok : X.Ok) : (X.inTry pn xe).Ok :=
  ⟨ok.mod, ok.kind, ok.glob, ok.blt, ok.above, ok.inj, ok.has, ok.cab, ok.hd, ok.frames, ok.stk, ok.exf, ok.bs, ok.bsz, ok.noex, ok.exfs, ok.funs, ok.frf⟩
theorem Cx.Ok.ofTry {pn : List (Addr × Obj)} {xe : Value → Shared → Prop} (ok : (X.inTry pn xe).Ok) : X.Ok :=
  ⟨ok.mod, ok.kind, ok.glob, ok.blt, ok.above, ok.inj, ok.has, ok.cab, ok.hd, ok.frames, ok.stk, ok.exf, ok.bs, ok.bsz, ok.noex, ok.exfs, ok.funs, ok.frf⟩
theorem Cx.Ok.inSuite {pn : List (Addr × Obj)} {h : Option Value} (ok : X.Ok) : (X.inSuite (X.A.mark h) pn).Ok :=
  ⟨ok.mod, ok.kind, ok.glob, ok.blt, ok.above, ok.inj, ok.has, ok.cab, (fun z => nomatch z), ok.frames, ok.stk, ok.exf, ok.bs, ok.bsz, ok.noex, ok.exfs, ok.funs, ok.frf⟩
section
variable {pins pn : List (Addr × Obj)} {σ : St} {H : Hp} {s : Shared} {xe : Value → Shared → Prop} {h : Option Value} {A : Around}
theorem Inv.inTry (I : Inv X pins σ H s) : Inv (X.inTry (X.pn ++ pins) xe) [] σ H s :=
  ⟨I.ok.inTry, I.os, I.bare, I.base, I.loc, I.cell, I.free, I.freeC, fun p hp => I.pin p (by simpa using hp), I.hok, I.len⟩
theorem Inv.ofTry {pins' : List (Addr × Obj)} (I : Inv (X.inTry (X.pn ++ pins) xe) pins' σ H s) : Inv X pins σ H s :=
  ⟨I.ok.ofTry, I.os, I.bare, I.base, I.loc, I.cell, I.free, I.freeC, fun p hp => I.pin p (List.mem_append_left _ hp), I.hok, I.len⟩
theorem Inv.inSuite (I : Inv X pins σ H s) : Inv (X.inSuite (X.A.mark h) (X.pn ++ pins)) [] σ H s :=
  ⟨I.ok.inSuite, I.os, I.bare, I.base, I.loc, I.cell, I.free, I.freeC, fun p hp => I.pin p (by simpa using hp), I.hok, I.len⟩
theorem Inv.ofSuite (ok : X.Ok) (I : Inv (X.inSuite A (X.pn ++ pins)) [] σ H s) : Inv X pins σ H s :=
  ⟨ok, I.os, I.bare, I.base, I.loc, I.cell, I.free, I.freeC, fun p hp => I.pin p (List.mem_append_left _ hp), I.hok, I.len⟩
theorem SP.ofTry {D : Ends} {f : Flow} {s' : Shared} (q : SP (X.inTry (X.pn ++ pins) xe) [] D f s') : SP X pins D f s' := by
  cases f with
  | next => obtain ⟨σ', H', I, q⟩ := q; exact ⟨σ', H', I.ofTry, q⟩
  | brk => obtain ⟨σ', H', I, q⟩ := q; exact ⟨σ', H', I.ofTry, q⟩
  | cont => obtain ⟨σ', H', I, q⟩ := q; exact ⟨σ', H', I.ofTry, q⟩
  | ret u => obtain ⟨v, σ', H', I, r, q⟩ := q; exact ⟨v, σ', H', I.ofTry, r, q⟩
end
/-- what is wanted behind a suite whose name goes -/
def Ends.gone (i : Nat) (D : Ends) : Ends := { nx := fun σ H => D.nx (σ.set i none) H, rt := D.rt, bk := fun σ H => D.bk (σ.set i none) H, ct := fun σ H => D.ct (σ.set i none) H }
/-- the exception (class C, at ea) is bound to slot i, the suite is run -/
def tTryAs (K : PySem.W.Frag) (W : Addr) (i : Nat) (tb : (St → XK) → TS) (ts : TS) : TS := fun D σ H =>
  tb (fun σ' c _ H' => ∃ C, c = .ref C ∧ PySem.W.subIn K (.ref C) (.ref W) = some true ∧ ∀ ea, H' ea = none → ts (D.gone i) (σ'.set i (some (.ref ea))) (upd H' ea (.ext (excAt ea C)))) D σ H
theorem ps_tryAs (hex : X.ex = []) (hsk : X.stack = X.env :: X.outer) (hfr : X.env.frame = some X.env.locals) (hN : X.N.Nodup) (hi : X.N[i]? = some n) (hk : X.env.scope.names.lookup n = some .local)
    (hg : Gl X x) (hm : X.mg x = some (.ref W)) (hW : HCls X.K W)
    (hb : ∀ (pn : List (Addr × Obj)) (xe : Value → Shared → Prop) (E : St → XK), PassesS (CXF X.prog X.w) (X.inTry pn xe) E → PSs (X.inTry pn xe) body (tb E))
    (hs : ∀ (h : Option Value) (pn : List (Addr × Obj)), PSs (X.inSuite (X.A.mark h) pn) (b0 :: suite) ts) (hd : (x == ("__debug__" : Str)) = false := by decide) :
    PS X (.Try body [.ExceptHandler (some (.Name x np)) (some n) (b0 :: suite) hpos] [] [] pos) (tTryAs X.K W i tb ts) := by
  intro pins s σ H D I h
  refine wpAny_Try_except ?_
  refine wpAny_mono (hb (X.pn ++ pins) _ _ ?_ [] s σ H D I.inTry h) (fun f s1 q => ?_) (fun e s1 q => q)
  · intro pins' σ' H1 s1 e s' I1 hq
    obtain ⟨ea, C, t, B, H', rfl, F, C', hC', hsub, hth⟩ := hq
    cases hC'
    have I1 := I1.ofTry (pins' := pins')
    have F : Fly X.prog X.w X.stack H1 s1 ea C t B H' s' := F
    have hst : X.env.locals ∈ frs X.stack := by rw [hsk]; unfold frs; rw [List.filterMap_cons, hfr]; exact List.mem_cons_self
    have bB : ∀ b o, X.base.get? b = some o → B.get? b = some o := fun b o e => by
      obtain ⟨e1, n1⟩ := I1.bs b o e
      refine F.old b o e1 n1 fun hb => ?_
      have := (I1.stack.mem hb).1
      rw [e] at this; cases this
    show wpAny (model X.prog X.w) X.A (noteFrame (.ref ea) X.env) _ X.xe s'
    refine wpAny_looks_onW (base := B) (env := X.env) (outer := X.outer) (L := X.env.locals) (by rw [I1.ok.frames, hsk]) hfr (by rw [← hsk]; exact F.fly) fun h4 held4 u4 => ?_
    refine wpAny_landsW held4 fun h5 fly5 u5 => ?_
    have k5 : ∀ b o, X.base.get? b = some o → h5.get? b = some o := fun b o e => fly5.1 b o (bB b o e)
    have x5 : excAt ea C h5 := let ⟨o, e, c⟩ := fly5.there; ⟨o, e, c⟩
    refine wpAny_handleBy_cons (codeAny_handlers_test ?_) (by intro q; cases q)
    refine Calls.Name_function_global I1.ok.kind hg (Calls.loadGlobal_global (by rw [I1.ok.glob]; exact I1.mod.glob.keeps k5) hm ?_) hd
    refine excMatches_own (I1.ok.mod.kin.keeps k5) x5 hW hsub ?_
    refine codeAny_handlers_suite_as ?_
    refine lands_againW fly5 fun h6 fly6 u6 => ?_
    obtain ⟨hn, I6⟩ := F.land I1 hex (by rw [hsk]; exact fly6) ((u4.trans u5).trans u6) hst
    refine store_ok I6 hN hi (.inl hk) (show RelV (.ref ea) (.ref ea) from rfl) (fun s7 I7 => ?_) (.inr hk)
    have h7 := hs (some (.ref ea)) (X.pn ++ pins) [] s7 _ _ (D.gone i) I7.inSuite (hth ea hn)
    refine wpAny_mono h7 (fun f s8 q8 => ?_) fun _ _ z => False.elim z
    show wpAny (model X.prog X.w) X.A (do bindName X.env n .none; unbindBehindTheSuite X.env n hpos) (fun _ s5 => SP X pins D f s5) X.xe s8
    cases f with
    | next =>
      obtain ⟨σ8, H8, I8, q8⟩ := q8
      exact gone_ok (I8.ofSuite I1.ok) hN hi hk fun s9 I9 => ⟨_, H8, I9, q8⟩
    | brk =>
      obtain ⟨σ8, H8, I8, q8⟩ := q8
      exact gone_ok (I8.ofSuite I1.ok) hN hi hk fun s9 I9 => ⟨_, H8, I9, q8⟩
    | cont =>
      obtain ⟨σ8, H8, I8, q8⟩ := q8
      exact gone_ok (I8.ofSuite I1.ok) hN hi hk fun s9 I9 => ⟨_, H8, I9, q8⟩
    | ret u =>
      obtain ⟨v, σ8, H8, I8, r8, q8⟩ := q8
      exact gone_ok (I8.ofSuite I1.ok) hN hi hk fun s9 I9 => ⟨v, _, H8, I9, r8, q8⟩
  · have q := q.ofTry
    cases f with
    | next => exact wpAny_execs_nil q
    | brk => exact q
    | cont => exact q
    | ret u => exact q
end

/-! ### isinstance of an exception -/
/-- what the fragment must say of an own error class, to be asked of -/
structure ECls (K : PySem.W.Frag) (C : Addr) : Prop where
  ga : PySem.W.findIn K (.ref C) "__getattribute__" = some (some (.builtin "BaseException.__getattribute__"))
  gt : PySem.W.findIn K (.ref C) "__getattr__" = some none
  cls : PySem.W.findIn K (.ref C) "__class__" = some (some (.builtin "object.__class__"))
  sb : PySem.W.subIn K (.ref C) (.type "BaseException") = some true
  so : PySem.W.subIn K (.ref C) (.type "object") = some true
  cl : (PySem.W.clsIn K C).isSome = true
section
variable {K : PySem.W.Frag} {e C : Addr} {prog : Program} {w : World} {A : Around} {E : Value → Shared → Prop} {h : Heap} {g : Array GenState} {d : Drawn} {t : Nat} {os : OsState}
theorem exc_class_get {R : Result → Shared → Prop} (X : K.In h) (hc : ECls K C) (hx : excAt e C h) (hq : R (.ok (.ret (.ref C))) ⟨h, g, d, t, os⟩) :
    codeAny (model prog w) A (.call (.builtin "getset_descriptor.__get__") ⟨[.builtin "object.__class__", .ref e, .ref C], []⟩) R ⟨h, g, d, t, os⟩ := by
  have L0 := looks_excType (M := model prog w) hx
  have L1 := PySem.W.looks_subIn (M := model prog w) X hc.so
  refine codeAny_call_builtin PySem.W.KF.slot_gs.plain PySem.W.KF.entry_gs (PySem.W.KF.slot_gs.check _ _ _ _ _ _ _ _ PySem.W.KF.type_class (PySem.W.KF.args_gs _ _ _) ?_)
  unfold Builtin.«getset_descriptor.__get__» Builtin.Getset_descriptor.descrGet
  rw [PySem.W.dga_obj]
  refine wpAny_bind (wpAny_pure ?_)
  unfold Builtin.Getset_descriptor.descrGetter Builtin.Getset_descriptor.descrCheckInstance Builtin.Getset_descriptor.descrNameAndClass isInstance
  simp only [PySem.W.KF.owner_class]
  repeat lk
  refine ⟨Code.quiet_builtin _ (by decide +kernel), codeAny_builtin PySem.W.KF.entry_class ?_⟩
  unfold Builtin.«object.__class__» shownTypeOf
  repeat lk
  exact hq
theorem exc_class_entry {tk : Tok} {Q : Fin → Shared → Prop} (X : K.In h) (hc : ECls K C) (hx : excAt e C h) (hq : Q (.done (.ret (.ref C))) ⟨h, g, d, t, os⟩) :
    wpAny (model prog w) A (Builtin.«object.__getattribute__» ⟨[.ref e, .str "__class__" tk], []⟩) Q E ⟨h, g, d, t, os⟩ := by
  obtain ⟨o, ho, hcl⟩ := id hx
  have hT5 : (⟨h, g, d, t, os⟩ : Shared).TypeIs (.builtin "object.__class__") "getset_descriptor" := F.typeOf_object_class
  have f5 := F.typeOf_object_class
  have f6 := F.slot_gs_get.lookup
  have f7 := F.slot_gs_set.lookup
  have lk1 : ∀ {A : Around} {E : Value → Shared → Prop} {Q : Option Value → Shared → Prop} {g d t os}, Q (some (.builtin "object.__class__")) ⟨h, g, d, t, os⟩ → wpAny (model prog w) A (typeLookup (.ref C) "__class__") Q E ⟨h, g, d, t, os⟩ := fun q => (PySem.W.looks_findIn X hc.cls).at q
  repeat (any_goals (first | assumption | (with_reducible refine wpAny_loadPart_at ho ?_; rw [hcl]) | with_reducible refine lk1 ?_ | wp_step))
  refine exc_class_get X hc hx ?_
  repeat (any_goals (first | assumption | wp_step))
theorem exc_check_ga {M : Model} {nameV : Value} {Q : Unit → Shared → Prop} (X : K.In h) (hc : ECls K C) (hx : excAt e C h) (hq : Q () ⟨h, g, d, t, os⟩) : wpAny M A (checkBuiltinCall "BaseException.__getattribute__" ⟨[.ref e, nameV], []⟩) Q E ⟨h, g, d, t, os⟩ := by
  have hk : builtinKind "BaseException.__getattribute__" = some .slot := by decide +kernel
  have hsplit : splitId "BaseException.__getattribute__" = some ("BaseException", "__getattribute__") := by decide +kernel
  have L : PySem.W.Looks M h (isInstance (.ref e) (.type "BaseException")) true := (looks_excType hx).andThen (PySem.W.looks_subIn X hc.sb)
  have ha := F.args_bexc_ga (.ref e) nameV
  exact PySem.W.check_slot (s := ⟨h, g, d, t, os⟩) (i := "BaseException.__getattribute__") (rest := [nameV]) (kw := []) hk hsplit L ha hq
theorem exc_class_call {tk : Tok} {R : Result → Shared → Prop} (X : K.In h) (hc : ECls K C) (hx : excAt e C h) (hq : R (.ok (.ret (.ref C))) ⟨h, g, d, t, os⟩) :
    codeAny (model prog w) A (.call (.builtin "BaseException.__getattribute__") ⟨[.ref e, .str "__class__" tk], []⟩) R ⟨h, g, d, t, os⟩ :=
  codeAny_call_builtin F.excAttr_ValueError.ga.plain F.entry_bexc_ga (exc_check_ga X hc hx (exc_class_entry X hc hx hq))
theorem exc_class_by {tk : Tok} {Q : Value → Shared → Prop} (X : K.In h) (hc : ECls K C) (hx : excAt e C h) (hq : Q (.ref C) ⟨h, g, d, t, os⟩) : wpAny (model prog w) A (getAttrBy (.ref e) (.str "__class__" tk) false) Q E ⟨h, g, d, t, os⟩ := by
  obtain ⟨o, ho, hcl⟩ := id hx
  have f3 := F.excAttr_ValueError.ga.bind (.ref e)
  have hx2 : (Value.builtin "BaseException.__getattribute__" == Value.builtin "object.__getattribute__") = false := by decide +kernel
  have hx1 : (onTheHeap (Value.ref C) && Value.builtin "BaseException.__getattribute__" == Value.builtin "object.__getattribute__") = false := by rw [hx2]; rfl
  have lk1 : ∀ {A : Around} {E : Value → Shared → Prop} {Q : Option Value → Shared → Prop} {g d t os}, Q (some (.builtin "BaseException.__getattribute__")) ⟨h, g, d, t, os⟩ → wpAny (model prog w) A (typeLookup (.ref C) "__getattribute__") Q E ⟨h, g, d, t, os⟩ := fun q => (PySem.W.looks_findIn X hc.ga).at q
  have lk2 : ∀ {A : Around} {E : Value → Shared → Prop} {Q : Option Value → Shared → Prop} {g d t os}, Q none ⟨h, g, d, t, os⟩ → wpAny (model prog w) A (typeLookup (.ref C) "__getattr__") Q E ⟨h, g, d, t, os⟩ := fun q => (PySem.W.looks_findIn X hc.gt).at q
  repeat (any_goals (first | assumption | (with_reducible refine wpAny_loadPart_at ho ?_; rw [hcl]) | with_reducible refine lk1 ?_ | with_reducible refine lk2 ?_ | wp_step))
  refine exc_class_call X hc hx ?_
  repeat (any_goals (first | assumption | wp_step))
theorem exc_class_attr {Q : Option Value → Shared → Prop} (X : K.In h) (hc : ECls K C) (hx : excAt e C h) (hq : Q (some (.ref C)) ⟨h, g, d, t + 1, os⟩) : wpAny (model prog w) A (getAttr? (.ref e) "__class__") Q E ⟨h, g, d, t, os⟩ := by
  unfold getAttr? getAttrBy?
  repeat (any_goals (first | assumption | with_reducible apply exc_class_by X hc hx | wp_step))
end
theorem kitx_exc {K : PySem.W.Frag} {e C : Addr} (hc : ECls K C) : PySem.W.KitX K (.ref e) (.ref C) (excAt e C) where
  ty := fun _ _ _ p => looks_excType p
  it := fun _ _ X _ => looks_isType X hc.cl
  ne := fun h tp dd its n sl X htp => by
    have z0 := hc.cl
    refine Bool.eq_false_iff.mpr fun q => ?_
    have e : C = tp := Value.ref.inj (beq_iff_eq.mp q)
    subst e
    unfold PySem.W.clsIn at z0
    split at z0
    · rename_i c' d' cd' sl' ho
      have z := (X _ _ ho).symm.trans htp
      cases z
    · cases z0
  ca := fun {prog w A E Q s} X p k => by
    obtain ⟨hh, g, d, t, os⟩ := s
    exact exc_class_attr X hc p k
end L2

set_option Elab.async false
set_option linter.all false
set_option maxRecDepth 100000
set_option maxHeartbeats 4000000
/-! LIST COMPREHENSIONS over the layer. -/
namespace L2
open PySem PySem.Spec PyProof.Rows

/-! ### the cells that a block closes over -/
def closOf (cells : List (Str × Addr)) : List (Str × NameKind) → List (Str × Addr) → List (Str × Addr)
  | [], acc => acc
  | (n, k) :: r, acc => closOf cells r (if k == .free then (n, (cells.lookup n).getD 0) :: acc else acc)
theorem closureFor_eq {scope : Scope} {env : Env} (h : ∀ p ∈ scope.names, p.2 = .free → ∃ c, env.cells.lookup p.1 = some c) : closureFor scope env = pure (closOf env.cells scope.names []) := by
  unfold closureFor
  have gen : ∀ (l : List (Str × NameKind)) (acc : List (Str × Addr)), (∀ p ∈ l, p.2 = .free → ∃ c, env.cells.lookup p.1 = some c) →
      (forIn l acc fun (x : Str × NameKind) (r : List (Str × Addr)) => (if (x.2 == NameKind.free) = true then do let a ← cellOf env x.1; pure (ForInStep.yield ((x.1, a) :: r)) else pure (ForInStep.yield r) : Sem (ForInStep (List (Str × Addr))))) = (pure (closOf env.cells l acc) : Sem (List (Str × Addr))) := by
    intro l
    induction l with
    | nil => intro acc _; rfl
    | cons p r ih =>
      intro acc hp
      obtain ⟨n, k⟩ := p
      rw [List.forIn_cons]
      by_cases hk : (k == NameKind.free) = true
      · obtain ⟨c, hc⟩ := hp (n, k) List.mem_cons_self (by simpa using hk)
        have e : cellOf env n = pure c := by unfold cellOf; rw [show env.cells.lookup n = some c from hc]
        simp only [hk, if_true, e, pure_bind]
        rw [ih _ fun q hq => hp q (List.mem_cons_of_mem _ hq)]
        show _ = pure (closOf env.cells r (if (k == NameKind.free) = true then (n, (env.cells.lookup n).getD 0) :: acc else acc))
        rw [if_pos hk, show env.cells.lookup n = some c from hc]
        rfl
      · simp only [hk, Bool.false_eq_true, if_false, pure_bind]
        rw [ih _ fun q hq => hp q (List.mem_cons_of_mem _ hq)]
        show _ = pure (closOf env.cells r (if (k == NameKind.free) = true then (n, (env.cells.lookup n).getD 0) :: acc else acc))
        rw [if_neg hk]
  have := gen scope.names [] h
  simpa using congrArg (fun t => t >>= fun cs => pure cs) this
theorem closOf_lookup {cells : List (Str × Addr)} {y : Str} {c : Addr} : ∀ (l : List (Str × NameKind)) (acc : List (Str × Addr)), (∀ p ∈ l, p.2 = .free → ∃ c, cells.lookup p.1 = some c) → (∀ y c, acc.lookup y = some c → cells.lookup y = some c) → (closOf cells l acc).lookup y = some c → cells.lookup y = some c
  | [], acc, _, ha, h => ha y c h
  | (n, k) :: r, acc, hp, ha, h => by
    refine closOf_lookup r _ (fun q hq => hp q (List.mem_cons_of_mem _ hq)) ?_ h
    intro y' c' e
    by_cases hk : (k == NameKind.free) = true
    · rw [if_pos hk] at e
      obtain ⟨c0, hc⟩ := hp (n, k) List.mem_cons_self (by simpa using hk)
      have hc : cells.lookup n = some c0 := hc
      rw [List.lookup_cons] at e
      by_cases hy : y' = n
      · subst hy
        simp only [beq_self_eq_true] at e
        rw [hc] at e ⊢
        exact e
      · have hb : (y' == n) = false := beq_eq_false_iff_ne.mpr hy
        rw [hb] at e
        exact ha y' c' e
    · rw [if_neg hk] at e
      exact ha y' c' e
theorem closOf_has {cells : List (Str × Addr)} {y : Str} : ∀ (l : List (Str × NameKind)) (acc : List (Str × Addr)), ((y, NameKind.free) ∈ l ∨ ∃ c, acc.lookup y = some c) → ∃ c, (closOf cells l acc).lookup y = some c
  | [], acc, h => h.elim (fun z => nomatch z) fun z => z
  | (n, k) :: r, acc, h => by
    refine closOf_has r _ ?_
    rcases h with h | ⟨c, h⟩
    · rcases List.mem_cons.mp h with e | e
      · cases e
        right
        rw [if_pos (by rfl)]
        exact ⟨_, by rw [List.lookup_cons, beq_self_eq_true]⟩
      · exact .inl e
    · right
      by_cases hk : (k == NameKind.free) = true
      · rw [if_pos hk, List.lookup_cons]
        by_cases hy : (y == n) = true
        · rw [hy]; exact ⟨_, rfl⟩
        · rw [Bool.eq_false_iff.mpr hy]; exact ⟨c, h⟩
      · rw [if_neg hk]; exact ⟨c, h⟩
theorem relabel_free {env : Env} (hk : env.scope.kind = .function) : ∀ {names : List (Str × NameKind)} {x : Str}, names.lookup x = some .free → env.kindOf x = some .cell →
    (names.map fun (n, k) => if (k == NameKind.free && env.scope.kind == .function && env.kindOf n == some .cell) then (n, NameKind.cell) else (n, k)).lookup x = some .cell
  | [], _, h, _ => by simp at h
  | (n, k) :: r, x, h, hx => by
    have ih := @relabel_free env hk r x
    show List.lookup x ((if (k == NameKind.free && env.scope.kind == .function && env.kindOf n == some .cell) = true then (n, NameKind.cell) else (n, k)) :: _) = _
    cases hxn : x == n with
    | true =>
      simp only [List.lookup_cons, hxn] at h
      have e : x = n := by simpa using hxn
      subst e
      cases h
      have hb : (NameKind.free == NameKind.free && env.scope.kind == ScopeKind.function && env.kindOf x == some NameKind.cell) = true := by rw [hk, hx]; rfl
      rw [if_pos hb]
      simp only [List.lookup_cons, beq_self_eq_true]
    | false =>
      simp only [List.lookup_cons, hxn] at h
      by_cases hc : (k == NameKind.free && env.scope.kind == .function && env.kindOf n == some .cell) = true
      · rw [if_pos hc]; simp only [List.lookup_cons, hxn]; exact ih h hx
      · rw [if_neg hc]; simp only [List.lookup_cons, hxn]; exact ih h hx
/-- what is a cell or free in the block is free in its scope -/
theorem relabel_back {env : Env} : ∀ {names : List (Str × NameKind)} {x : Str}, (∀ p ∈ names, p.2 ≠ .cell) →
    ((names.map fun (n, k) => if (k == NameKind.free && env.scope.kind == .function && env.kindOf n == some .cell) then (n, NameKind.cell) else (n, k)).lookup x = some .cell ∨
     (names.map fun (n, k) => if (k == NameKind.free && env.scope.kind == .function && env.kindOf n == some .cell) then (n, NameKind.cell) else (n, k)).lookup x = some .free) → (x, NameKind.free) ∈ names
  | [], _, _, h => by simp at h
  | (n, k) :: r, x, hc, h => by
    have ih := @relabel_back env r x fun p hp => hc p (List.mem_cons_of_mem _ hp)
    by_cases hb : (k == NameKind.free && env.scope.kind == .function && env.kindOf n == some .cell) = true
    · have hk : k = .free := by
        rw [Bool.and_eq_true, Bool.and_eq_true] at hb
        simpa using hb.1.1
      cases hx : x == n with
      | true =>
        have e : x = n := by simpa using hx
        rw [e, hk]; exact List.mem_cons_self
      | false =>
        simp only [List.map_cons, hb, if_true, List.lookup_cons, hx] at h
        exact List.mem_cons_of_mem _ (ih h)
    · cases hx : x == n with
      | true =>
        have e : x = n := by simpa using hx
        simp only [List.map_cons, hb, Bool.false_eq_true, if_false, List.lookup_cons, hx, Option.some.injEq] at h
        rcases h with h | h
        · exact absurd h (hc (n, k) List.mem_cons_self)
        · rw [e, h]; exact List.mem_cons_self
      | false =>
        simp only [List.map_cons, hb, Bool.false_eq_true, if_false, List.lookup_cons, hx] at h
        exact List.mem_cons_of_mem _ (ih h)

/-! ### one turn, whatever the target is -/
theorem codeAny_compLoop_any {prog : Program} {w : World} {A : Around} {R : Result → Shared → Prop} {s : Shared} {elt target iter : Expr} {ifs : List Expr} {scope : Scope} {pos : Pos} {it acc : Value} {env : Env} (I : Nat → Shared → Prop)
    (turn : ∀ n s, I n s → wpAny (model prog w) A (pyNext it) (fun r s₁ => match r with
      | none => R (.ok .next) s₁
      | some v => wpAny (model prog w) A (letOwnedTupleGo target it v) (fun _ s₁' => wpAny (model prog w) A (assign target env v) (fun _ s₂ =>
          wpAny (model prog w) A (forIn ifs true fun c r => if r = true then do let ok ← isTrue c env (eval c env); pure (ForInStep.yield ok) else pure (ForInStep.yield r)) (fun ok s₃ =>
            if ok = true then wpAny (model prog w) A (eval elt env) (fun x s₄ =>
              wpAny (model prog w) A (call (.builtin "list.append") [acc, x]) (fun _ s₅ => ∃ m, m < n ∧ I m s₅) (fun _ _ => False) s₄) (fun _ _ => False) s₃
            else ∃ m, m < n ∧ I m s₃) (fun _ _ => False) s₂) (fun _ _ => False) s₁') (fun _ _ => False) s₁) (fun _ _ => False) s)
    (n : Nat) (h : I n s) :
    codeAny (model prog w) A (.compLoop (.ListComp elt [⟨target, iter, ifs, 0⟩] scope pos) 0 it acc env) R s := by
  refine codeAny_loop rfl I (fun n s hI => ?_) n h
  show wpAny _ A ((compTurn (.ListComp elt [⟨target, iter, ifs, 0⟩] scope pos) 0 it acc env).onRaise (fun x => do noteFrame x env; theTreesLotGoes x)) _ _ s
  refine wpAny_noted ?_
  rw [compTurn_list]
  refine wpAny_bind (wpAny_standAt (wpAny_bind (wpAny_mono (turn n s hI) (fun r s₁ h₁ => ?_) fun _ _ h' => h'.elim)))
  cases r with
  | none => exact wpAny_pure h₁
  | some v =>
    refine wpAny_bind (wpAny_mono h₁ (fun _ s₁' h₁' => ?_) fun _ _ h' => h'.elim)
    refine wpAny_bind (wpAny_mono h₁' (fun _ s₂ h₂ => wpAny_bind (wpAny_mono h₂ (fun ok s₃ h₃ => ?_) fun _ _ h' => h'.elim)) fun _ _ h' => h'.elim)
    cases ok with
    | true =>
      simp only [if_true] at h₃ ⊢
      exact wpAny_bind (wpAny_bind (wpAny_mono h₃ (fun x s₄ h₄ => wpAny_bind (wpAny_mono h₄ (fun _ s₅ h₅ => wpAny_pure (wpAny_pure ⟨rfl, h₅⟩)) fun _ _ h' => h'.elim)) fun _ _ h' => h'.elim))
    | false =>
      simp only [Bool.false_eq_true, if_false] at h₃ ⊢
      exact wpAny_bind (wpAny_pure (wpAny_pure ⟨rfl, h₃⟩))

/-! ### the block's context -/
def cxComp (X : Cx) (scope : Scope) (N : List Str) (C : Addr) (s₀ : Shared) (H₀ : Hp) (ex : List Addr) (pn : List (Addr × Obj)) : Cx :=
  { X with N := N, s₀ := s₀, H₀ := H₀, env := compEnvC scope (closOf X.env.cells scope.names []) C X.env, outer := X.stack, stack := X.stack, ex := ex, fn := fun _ => false, pn := pn, xe := fun _ _ => False }
/-- the block's names: its own (none), or the slot of the def's that it closes over -/
def capOf (src : List (Option Nat)) (σ : St) : St := src.map fun o => match o with | none => none | some i => (σ[i]?).join
theorem capOf_get {src : List (Option Nat)} {σ : St} {j : Nat} {v : V} (h : (capOf src σ)[j]? = some (some v)) : ∃ i, src[j]? = some (some i) ∧ σ[i]? = some (some v) := by
  unfold capOf at h
  rw [List.getElem?_map] at h
  cases e : src[j]? with
  | none => rw [e] at h; cases h
  | some o =>
    rw [e] at h
    cases o with
    | none => cases h
    | some i =>
      refine ⟨i, rfl, ?_⟩
      have h : (σ[i]?).join = some v := Option.some.inj h
      cases q : σ[i]? with
      | none => rw [q] at h; cases h
      | some z => rw [q] at h; exact congrArg some h
structure BlockOk (X : Cx) (scope : Scope) (N : List Str) (src : List (Option Nat)) : Prop where
  kind : scope.kind = .function
  nocell : ∀ p ∈ scope.names, p.2 ≠ .cell
  names : ∀ x ∈ scope.names, x.2 = .local → scope.names.lookup x.1 = some .local
  free : ∀ p ∈ scope.names, p.2 = .free → X.env.kindOf p.1 = some .cell
  nd : N.Nodup
  len : src.length = N.length
  cap : ((N.zip src).all fun p => match p.2 with | none => true | some i => X.N[i]? == some p.1 && X.env.kindOf p.1 == some .cell && scope.names.lookup p.1 == some .free) = true
theorem BlockOk.at {X : Cx} {scope : Scope} {N : List Str} {src : List (Option Nat)} (b : BlockOk X scope N src) {j i : Nat} {y : Str} (h1 : N[j]? = some y) (h2 : src[j]? = some (some i)) :
    X.N[i]? = some y ∧ X.env.kindOf y = some .cell ∧ scope.names.lookup y = some .free := by
  have hz : (N.zip src)[j]? = some (y, some i) := by rw [List.getElem?_zip_eq_some]; exact ⟨h1, h2⟩
  have q := List.all_eq_true.mp b.cap _ (List.mem_of_getElem? hz)
  simp only [Bool.and_eq_true, beq_iff_eq] at q
  exact ⟨q.1.1, q.1.2, q.2⟩
/-- the same, to be decided: the def's scope and names, the block's -/
def blockOk (osc scope : Scope) (oN N : List Str) (src : List (Option Nat)) : Bool :=
  scope.kind == .function && (scope.names.all fun p => p.2 != .cell) && (scope.names.all fun p => p.2 != .local || scope.names.lookup p.1 == some .local) && (scope.names.all fun p => p.2 != .free || osc.names.lookup p.1 == some .cell) && decide N.Nodup && src.length == N.length &&
  (N.zip src).all fun p => match p.2 with | none => true | some i => oN[i]? == some p.1 && osc.names.lookup p.1 == some .cell && scope.names.lookup p.1 == some .free
theorem blk {X : Cx} {osc scope : Scope} {oN N : List Str} {src : List (Option Nat)} (e1 : X.env.scope = osc) (e2 : X.N = oN) (h : blockOk osc scope oN N src = true) : BlockOk X scope N src := by
  subst e1 e2
  unfold blockOk at h
  simp only [Bool.and_eq_true, List.all_eq_true, Bool.or_eq_true, bne_iff_ne, beq_iff_eq, decide_eq_true_eq, ne_eq] at h
  obtain ⟨⟨⟨⟨⟨⟨h1, h2⟩, h3⟩, h4⟩, h5⟩, h6⟩, h7⟩ := h
  refine ⟨h1, h2, fun x hx e => (h3 x hx).resolve_left (fun z => z e), fun x hx e => (h4 x hx).resolve_left (fun z => z e), h5, h6, List.all_eq_true.mpr fun p hp => ?_⟩
  have q := h7 p hp
  cases e : p.2 with
  | none => rfl
  | some i =>
    rw [e] at q
    simp only [Bool.and_eq_true, beq_iff_eq] at q ⊢
    exact q
/-- W: by the turn, a measure, the block's values and the heap; the list stands at D -/
def CompW (J : It) (src : List (Option Nat)) (g : TG) (tt : TT) (te : TE) (Q : VK) (σ : St) (H1 : Hp) (D : Addr) : Prop :=
  ∃ W : Nat → Nat → St → Hp → Prop, (∃ m, W 0 m (capOf src σ) (upd H1 D (.lst []))) ∧ ∀ i m σ1 H2, W i m σ1 H2 →
    (J.stop i H2 ∧ Q (.ref D) H2) ∨
    (J.go i H2 ∧ ∃ N : St → Hp → Prop, (∀ σ' H', N σ' H' → ∃ m', m' < m ∧ W (i + 1) m' σ' H') ∧ ∀ x H3, J.yld i H2 x H3 → g x σ1 H3 fun σ4 H4 => tt σ4 H4 fun b H5 =>
      if b = true then te σ4 H5 fun y H6 => ∃ zs, H6 D = some (.lst zs) ∧ zs.length < sizeLine ∧ N σ4 (upd H6 D (.lst (zs ++ [y])))
      else N σ4 H5)
def tComp (wi : TI) (src : List (Option Nat)) (g : TG) (tt : TT) (te : TE) : TE := fun σ H Q => wi σ H fun J H1 => ∀ D, H1 D = none → CompW J src g tt te Q σ H1 D
def tTrue : TT := fun _ H Q => Q true H
theorem gN {i : Nat} {v : V} {σ : St} {H : Hp} {Q : St → Hp → Prop} (h : Q (σ.set i (some v)) H) : gName i v σ H Q := h
theorem tT {σ : St} {H : Hp} {A B : Hp → Prop} (h : A H) : tTrue σ H (fun b H5 => if b = true then A H5 else B H5) := by
  show if true = true then A H else B H
  rw [if_pos rfl]; exact h
/-- the tests: none, or one -/
def PTs (X : Cx) (ifs : List Expr) (t : TT) : Prop := ∀ (pins : List (Addr × Obj)) (s : Shared) (σ : St) (H : Hp) (Q : Bool → Hp → Prop), Inv X pins σ H s → t σ H Q →
  wpAny (model X.prog X.w) X.A (forIn ifs true fun c r => if r = true then do let ok ← isTrue c X.env (eval c X.env); pure (ForInStep.yield ok) else pure (ForInStep.yield r)) (TP X pins σ Q) X.xe s
theorem pts_nil {X : Cx} : PTs X [] tTrue := fun _ _ _ H _ I h => wpAny_tests_nil ⟨H, I, h⟩
theorem pts_one {X : Cx} {c : Expr} {t : TT} (h : PT X c t) : PTs X [c] t := fun pins s σ H Q I hq => wpAny_tests_one (h pins s σ H Q I hq)

section
variable {X : Cx} {elt tg iter : Expr} {ifs : List Expr} {scope : Scope} {pos : Pos} {N : List Str} {src : List (Option Nat)} {wi : TI} {g : TG} {tt : TT} {te : TE}
theorem BlockOk.cells {b : BlockOk X scope N src} (ok : X.Ok) : ∀ p ∈ scope.names, p.2 = .free → ∃ c, X.env.cells.lookup p.1 = some c := fun p hp hf => ok.has p.1 (.inl (b.free p hp hf))
theorem stk_not {pins : List (Addr × Obj)} {σ : St} {H : Hp} {s : Shared} {b : Addr} (I : Inv X pins σ H s) (h1 : b ≠ X.env.locals) (h2 : b ∉ X.fs) : b ∉ frs X.stack := fun hb => (List.mem_cons.mp (I.stkSub b hb)).elim h1 h2
theorem clos_cells {b : BlockOk X scope N src} (ok : X.Ok) {y : Str} {c : Addr} (h : (closOf X.env.cells scope.names []).lookup y = some c) : X.env.cells.lookup y = some c :=
  closOf_lookup scope.names [] (b.cells ok) (fun _ _ z => by cases z) h
/-- the block's state at its entry -/
theorem Inv.block {pins : List (Addr × Obj)} {σ : St} {H : Hp} {s : Shared} {ex : List Addr} {h1 : Heap} {t' : Nat} {mC : Str → Option Value} (b : BlockOk X scope N src) (I : Inv X pins σ H s) (hk : ∀ b u, s.heap.get? b = some u → h1.get? b = some u) (hC : h1.Ns s.heap.objs.size mC)
    (hex : ∀ c ∈ ex, FpOk X pins H c ∧ c < s.heap.objs.size) : Inv (cxComp X scope N s.heap.objs.size s H ex (X.pn ++ pins)) [] (capOf src σ) H { s with heap := h1, toks := t' } := by
  refine ⟨⟨I.ok.mod, b.kind, I.ok.glob, I.ok.blt, Nat.le_refl _, fun x y c e1 e2 => I.ok.inj x y c (clos_cells (b := b) I.ok e1) (clos_cells (b := b) I.ok e2), fun x hx => ?_, (fun x c z => nomatch z), I.ok.hd, I.ok.frames, .inl rfl, fun c hc => ⟨Nat.ne_of_lt (hex c hc).2, fun x c' e z => (hex c hc).1.2.2.2.2.1 x c' (clos_cells (b := b) I.ok e) z⟩,
    fun c o e => I.bs c o e, Nat.le_trans I.ok.bsz I.sz, fun c o e hc => ?_, fun c hc => stk_not I (hex c hc).1.2.1 (hex c hc).1.2.2.1, I.stack, I.stkFree⟩, rfl, I.bare, Un.kept hk, ⟨mC, hC, fun j y v e1 e2 e3 => ?_⟩, fun y c e => ?_, I.hok.fresh (Nat.le_refl _), fun y c e => I.freeC y c (clos_cells (b := b) I.ok e), fun p hp => ?_, I.hok.kept hk, ?_⟩
  · exact closOf_has scope.names [] (.inl (relabel_back b.nocell hx))
  · rcases (hex c hc).1.2.2.2.1 with z | z
    · exact I.ok.noex c o e z
    · exact absurd (Nat.lt_of_lt_of_le (Nat.lt_of_lt_of_le (Heap.lt_size e) I.ok.bsz) z) (Nat.lt_irrefl _)
  · obtain ⟨i, e4, e5⟩ := capOf_get e2
    obtain ⟨n1, n2, n3⟩ := b.at (show N[j]? = some y from e1) e4
    obtain ⟨m, hm, hl⟩ := I.loc
    obtain ⟨u, r, l⟩ := hl i y v n1 e5 (.inr (.inl n2))
    refine ⟨u, r, .inr ⟨.inl (relabel_free I.ok.kind n3 n2), ?_⟩⟩
    rcases l with ⟨k, _⟩ | ⟨_, c, e, z⟩
    · rw [n2] at k; cases k
    · obtain ⟨c', e'⟩ := closOf_has (cells := X.env.cells) (y := y) scope.names [] (.inl (PySem.mem_of_lookup n3))
      have e2 := clos_cells (b := b) I.ok e'
      rw [e] at e2; cases e2
      obtain ⟨o, ho, hd⟩ := z
      exact ⟨c, e', o, hk _ _ ho, hd⟩
  · obtain ⟨v, o, ho, hd⟩ := I.cell y c (clos_cells (b := b) I.ok e)
    exact ⟨v, o, hk _ _ ho, hd⟩
  · have hp : p ∈ X.pn ++ pins := by simpa [cxComp] using hp
    obtain ⟨e, n, ne, nf, d⟩ := I.pin p hp
    exact ⟨hk _ _ e, n, Nat.ne_of_lt (Heap.lt_size e), stk_not I ne nf, d⟩
  · show (capOf src σ).length = N.length
    unfold capOf
    rw [List.length_map]; exact b.len
/-- behind the block -/
theorem Inv.unblock {pins pins' : List (Addr × Obj)} {σ σ' : St} {H H' : Hp} {s s' : Shared} {ex : List Addr} {h2 : Heap} (b : BlockOk X scope N src) (I : Inv X pins σ H s) (hex : ∀ c ∈ ex, FpOk X pins H c ∧ c < s.heap.objs.size)
    (J : Inv (cxComp X scope N s.heap.objs.size s H ex (X.pn ++ pins)) pins' σ' H' s') (sb : Heap.SameBut s.heap.objs.size s'.heap h2) : Inv X pins σ H' { s' with heap := h2 } := by
  have nC : ∀ b o, s.heap.get? b = some o → b ≠ s.heap.objs.size := fun b o e => Nat.ne_of_lt (Heap.lt_size e)
  have u := J.base
  have u : Un (frs X.stack) ex H H' s.heap s'.heap := u
  refine I.call' (s' := { s' with heap := h2 }) (ch := ex) J.os ⟨fun c o e n hb hx => (sb.2 c (nC c o e)).trans (u.keep c o e n hb hx), fun c o e n hb hx => ?_, u.free, fun c o e hx => ?_, u.tups, u.frzs, u.tbls⟩ (fun a o e => ?_) J.bare fun c hc => ?_
  · obtain ⟨sl, e1⟩ := u.slot c o e n hb hx
    exact ⟨sl, (sb.2 c (nC c o e)).trans e1⟩
  · obtain ⟨o', e1⟩ := u.there c o e hx
    exact ⟨o', (sb.2 c (nC c o e)).trans e1⟩
  · refine (J.hok a o e).stay (fun c v hc q => (sb.2 c ?_).trans q) (fun _ q => q) fun _ _ q => q
    rintro rfl
    have z : H' s.heap.objs.size = none := J.free
    rcases hc with hc | hc
    · rw [← hc, z] at e; cases e
    · rw [z] at hc; cases hc
  · obtain ⟨⟨f0, f1, f2, f3, f4, f5⟩, _⟩ := hex c hc
    exact ⟨f3, f1, f4, f5⟩
theorem comp_core (hc : X.calm = true) (b : BlockOk X scope N src) (hi : PI X tg iter wi)
    (hg : ∀ (C : Addr) (s₀ : Shared) (H₀ : Hp) (ex : List Addr) (pn : List (Addr × Obj)), PG (cxComp X scope N C s₀ H₀ ex pn) tg g)
    (ht : ∀ (C : Addr) (s₀ : Shared) (H₀ : Hp) (ex : List Addr) (pn : List (Addr × Obj)), PTs (cxComp X scope N C s₀ H₀ ex pn) ifs tt)
    (he : ∀ (C : Addr) (s₀ : Shared) (H₀ : Hp) (ex : List Addr) (pn : List (Addr × Obj)), PE (cxComp X scope N C s₀ H₀ ex pn) elt te)
    (hs : ∀ x, foldedSetIterable iter X.env x = pure x) {use : Option (Value → Sem Unit)} {Qv : Value → Shared → Prop} {pins : List (Addr × Obj)} {s : Shared} {σ : St} {H : Hp} {Q : VK} {p1 : Pos} (I : Inv X pins σ H s) (h : tComp wi src g tt te σ H Q)
    (hend : ∀ (D C : Addr) (s5 : Shared) (H5 : Hp), (∃ m, s5.heap.Ns C m) → C ≠ X.env.locals → (∀ x c, X.env.cells.lookup x = some c → c ≠ C) → (∀ p ∈ X.pn ++ pins, p.1 ≠ C) → X.s₀.heap.objs.size ≤ C → H5 C = none → Inv X pins σ H5 s5 → Q (.ref D) H5 →
      compPost (model X.prog X.w) X.A X.xe use Qv (.ref D) C (.ok .next) s5) :
    wpAny (model X.prog X.w) X.A (comprehension (.ListComp elt [⟨tg, iter, ifs, 0⟩] scope pos) scope X.env p1 (newList []) false (eval iter X.env) use) Qv X.xe s := by
  refine wpAny_comprehension_free (use := use) rfl hs (closureFor_eq (b.cells I.ok)) b.kind b.names (thn (hi pins s σ H _ I h) fun v s1 h1 => thn h1 fun itv s2 h2 => ?_)
  obtain ⟨it, fp, tn, J, H2, e, I2, T, st2, f2, hW⟩ := h2
  subst e
  have hD : H2 s2.heap.objs.size = none := I2.hok.fresh (Nat.le_refl _)
  obtain ⟨W, ⟨m0, w0⟩, turn⟩ := hW s2.heap.objs.size hD
  refine wpAny_newObj_type (wpAny_newFunctionEnv b.nocell (fun y hy => nomatch hy) (fun h1 hns1 hsb1 => ?_) b.kind)
  have I3 := I2.lnew (its := []) (ys := []) (t' := s2.toks) .nil (Nat.zero_le _)
  have hsz3 : (s2.heap.push { cls := .type "list", data := .seq ([] : List Value).toArray }).objs.size = s2.heap.objs.size + 1 := Heap.size_push _ _
  have nfpD : ∀ c ∈ fp, c < s2.heap.objs.size := fun c hcf => by
    obtain ⟨o, ho, _⟩ := T.obj 0 _ st2 c hcf
    exact Heap.lt_size ho
  have hex3 : ∀ c ∈ fp, FpOk X pins (upd H2 s2.heap.objs.size (.lst [])) c ∧ c < (s2.heap.push { cls := .type "list", data := .seq ([] : List Value).toArray }).objs.size := fun c hcf => by
    have hl := nfpD c hcf
    obtain ⟨f0, fr⟩ := f2 c hcf
    exact ⟨⟨by rw [upd_ne (Nat.ne_of_lt hl)]; exact f0, fr⟩, by rw [hsz3]; exact Nat.lt_succ_of_lt hl⟩
  have hk3 : ∀ c u, (s2.heap.push { cls := .type "list", data := .seq ([] : List Value).toArray }).get? c = some u → h1.get? c = some u := fun c u e =>
    (hsb1.2 c (Nat.ne_of_lt (Heap.lt_size e))).trans (Heap.get?_push_of_some _ e)
  have IC := Inv.block (t' := s2.toks + ([] : List (Str × Value)).length) b I3 hk3 hns1 hex3
  have st3 : tn 0 h1 := T.keep _ _ _ st2 fun c hcf o ho => hk3 c o (Heap.get?_push_of_some _ ho)
  -- the block
  have loop : codeAny (model X.prog X.w) X.A (.compLoop (.ListComp elt [⟨tg, iter, ifs, 0⟩] scope pos) 0 (.ref it) (.ref s2.heap.objs.size) (cxComp X scope N (s2.heap.push { cls := .type "list", data := .seq ([] : List Value).toArray }).objs.size { s2 with heap := s2.heap.push { cls := .type "list", data := .seq ([] : List Value).toArray }, toks := s2.toks } (upd H2 s2.heap.objs.size (.lst [])) fp (X.pn ++ pins)).env)
      (compPost (model X.prog X.w) X.A X.xe use Qv (.ref s2.heap.objs.size) (s2.heap.push { cls := .type "list", data := .seq ([] : List Value).toArray }).objs.size) { s2 with heap := h1, toks := s2.toks + ([] : List (Str × Value)).length } := by
    generalize hXc : cxComp X scope N (s2.heap.push { cls := .type "list", data := .seq ([] : List Value).toArray }).objs.size { s2 with heap := s2.heap.push { cls := .type "list", data := .seq ([] : List Value).toArray }, toks := s2.toks } (upd H2 s2.heap.objs.size (.lst [])) fp (X.pn ++ pins) = Xc at IC
    have stat : ∀ {H' : Hp}, (∀ c ∈ fp, H' c = none) → ∀ c ∈ fp, FpOk Xc [] H' c := fun {H'} hn c hcf => by
      subst hXc
      obtain ⟨⟨f0, f1, f3, f4, f5, f6⟩, hl⟩ := hex3 c hcf
      exact ⟨hn c hcf, Nat.ne_of_lt hl, stk_not I3 f1 f3, .inl hcf, fun x c' e => f5 x c' (clos_cells (b := b) I3.ok e), fun p hp => f6 p (by simpa [cxComp] using hp)⟩
    have eP : Xc.prog = X.prog := by subst hXc; rfl
    have eW : Xc.w = X.w := by subst hXc; rfl
    have eK : Xc.K = X.K := by subst hXc; rfl
    have eA : Xc.A = X.A := by subst hXc; rfl
    have eC : Xc.calm = true := by subst hXc; exact hc
    have hgc : PG Xc tg g := by subst hXc; exact hg _ _ _ _ _
    have htc : PTs Xc ifs tt := by subst hXc; exact ht _ _ _ _ _
    have hec : PE Xc elt te := by subst hXc; exact he _ _ _ _ _
    have ex0 : Xc.xe = fun _ _ => False := by subst hXc; rfl
    refine codeAny_compLoop_any (fun n s' => ∃ i σ' H', Inv Xc [] σ' H' s' ∧ tn i s'.heap ∧ (∀ c ∈ fp, H' c = none) ∧ W i n σ' H') ?_ m0 ⟨0, _, _, IC, st3, fun c hcf => (hex3 c hcf).1.1, w0⟩
    rintro n s4 ⟨i, σ4, H4, I4, st4, fr4, w4⟩
    rcases turn i n σ4 H4 w4 with ⟨stop, qn⟩ | ⟨go, Nx, hNx, step⟩
    · have hd := T.done Xc eP eW eK eC i [] s4 σ4 H4 (fun _ _ => False) I4 (stat fr4) st4 stop
      rw [eA] at hd
      refine thn hd fun r s5 ⟨hr, I5⟩ => ?_
      subst hr
      subst hXc
      obtain ⟨m5, hm5, _⟩ := I5.loc
      refine hend s2.heap.objs.size _ s5 H4 ⟨m5, hm5⟩ (Nat.ne_of_gt I3.lt) (fun x c e z => ?_) (fun p hp => Nat.ne_of_lt (Heap.lt_size (I3.pin p hp).1)) I3.sz I5.free (Inv.unblock b I3 hex3 I5 (Heap.SameBut.refl ..)) qn
      obtain ⟨v, q⟩ := I3.cell x c e
      exact absurd q.lt (by rw [z]; exact Nat.lt_irrefl _)
    · have hd := T.item Xc eP eW eK eC i [] s4 σ4 H4 (fun _ _ => False) I4 (stat fr4) st4 go
      rw [eA] at hd
      refine thn hd fun r s5 ⟨u, hr, h5⟩ => ?_
      subst hr
      refine thn h5 fun _ s6 ⟨x, H6, I6, r6, y6, st6, fr6⟩ => ?_
      have I6' := I6.pinned (stat fr6) (T.obj _ _ st6)
      have hq := hgc _ s6 σ4 H6 x u _ I6' r6 (step x H6 y6)
      rw [eP, eW, eA, ex0] at hq
      refine thn hq fun _ s7 ⟨σ7, H7, I7, q7⟩ => ?_
      have hq := htc _ s7 σ7 H7 _ I7 q7
      rw [eP, eW, eA, ex0] at hq
      refine thn hq fun ok s8 ⟨H8, I8, q8⟩ => ?_
      have again : ∀ {σ9 : St} {H9 : Hp} {s9 : Shared}, Inv Xc ([] ++ pinsAt fp s6.heap) σ9 H9 s9 → Nx σ9 H9 → ∃ m, m < n ∧ ∃ i σ' H', Inv Xc [] σ' H' s9 ∧ tn i s9.heap ∧ (∀ c ∈ fp, H' c = none) ∧ W i m σ' H' := fun {σ9 H9 s9} I9 nx9 => by
        obtain ⟨m', hm, w9⟩ := hNx σ9 H9 nx9
        refine ⟨m', hm, i + 1, σ9, H9, I9.unpinned, T.keep _ _ _ st6 fun c hcf o e => (I9.pin (c, o) (List.mem_append_right _ (List.mem_append_right _ (mem_pinsAt hcf e)))).1, fun c hcf => ?_, w9⟩
        obtain ⟨o, e, d⟩ := T.obj _ _ st6 c hcf
        exact (I9.pin (c, o) (List.mem_append_right _ (List.mem_append_right _ (mem_pinsAt hcf e)))).2.1
      cases ok with
      | false =>
        rw [if_neg Bool.false_ne_true] at q8
        rw [if_neg Bool.false_ne_true]
        exact again I8 q8
      | true =>
        rw [if_pos rfl] at q8
        rw [if_pos rfl]
        have hq := hec _ s8 σ7 H8 _ I8 q8
        rw [eP, eW, eA, ex0] at hq
        refine thn hq fun y s9 ⟨yv, H9, I9, ry, zs, hz, hzl, q9⟩ => ?_
        have ha := mt_append (X := Xc) _ s9 σ7 H9 (.ref s2.heap.objs.size) [yv] (.ref s2.heap.objs.size) [y] (fun _ H' => H' = upd H9 s2.heap.objs.size (.lst (zs ++ [yv]))) I9 rfl (.cons ry .nil) ⟨_, zs, yv, rfl, rfl, hz, hzl, rfl⟩
        rw [eP, eW, eA, ex0] at ha
        refine thn ha fun _ s10 ⟨v10, H10, I10, _, e10⟩ => ?_
        subst e10
        exact again I10 q9
  exact codeAny_compStart_list loop (T.self X.A 0 _ _ _ st3 loop)
theorem pe_comp (hc : X.calm = true) (b : BlockOk X scope N src) (hi : PI X tg iter wi)
    (hg : ∀ (C : Addr) (s₀ : Shared) (H₀ : Hp) (ex : List Addr) (pn : List (Addr × Obj)), PG (cxComp X scope N C s₀ H₀ ex pn) tg g)
    (ht : ∀ (C : Addr) (s₀ : Shared) (H₀ : Hp) (ex : List Addr) (pn : List (Addr × Obj)), PTs (cxComp X scope N C s₀ H₀ ex pn) ifs tt)
    (he : ∀ (C : Addr) (s₀ : Shared) (H₀ : Hp) (ex : List Addr) (pn : List (Addr × Obj)), PE (cxComp X scope N C s₀ H₀ ex pn) elt te)
    (hs : ∀ x, foldedSetIterable iter X.env x = pure x := by intro _; rfl) : PE X (.ListComp elt [⟨tg, iter, ifs, 0⟩] scope pos) (tComp wi src g tt te) := by
  intro pins s σ H Q I h
  rw [eval_ListComp]
  refine comp_core hc b hi hg ht he hs (use := none) I h fun D C s5 H5 ⟨m, hm⟩ h1 h2 h3 h4 h5 I5 q => ?_
  exact ⟨m, hm, fun h' sb => ⟨.ref D, H5, I5.turned (t' := s5.toks) (fun c o nc e => (sb.2 c nc).trans e) h5 h1 (.inr h4) h2 h3, rfl, q⟩⟩
/-- y = [..], where the store stands ahead of the letting go -/
theorem ps_setC {i : Nat} {y : Str} {py spos : Pos} (hN : X.N.Nodup) (hi0 : X.N[i]? = some y) (hy : X.env.scope.names.lookup y = some .local) (hc : X.calm = true) (b : BlockOk X scope N src) (hi : PI X tg iter wi)
    (hg : ∀ (C : Addr) (s₀ : Shared) (H₀ : Hp) (ex : List Addr) (pn : List (Addr × Obj)), PG (cxComp X scope N C s₀ H₀ ex pn) tg g)
    (ht : ∀ (C : Addr) (s₀ : Shared) (H₀ : Hp) (ex : List Addr) (pn : List (Addr × Obj)), PTs (cxComp X scope N C s₀ H₀ ex pn) ifs tt)
    (he : ∀ (C : Addr) (s₀ : Shared) (H₀ : Hp) (ex : List Addr) (pn : List (Addr × Obj)), PE (cxComp X scope N C s₀ H₀ ex pn) elt te)
    (hsw : swapsWith (.ListComp elt [⟨tg, iter, ifs, 0⟩] scope pos) (some (.Name y py)) spos.line X.env = pure true := by with_unfolding_all rfl)
    (hs : ∀ x, foldedSetIterable iter X.env x = pure x := by intro _; rfl) : PS X (.Assign [.Name y py] (.ListComp elt [⟨tg, iter, ifs, 0⟩] scope pos) spos) (tAsg (tComp wi src g tt te) (gName i)) := by
  intro pins s σ H D I h
  rw [exec_Assign_Name_used _ _ _ _ hsw]
  refine wpAny_bind (wpAny_standAt (wpAny_bind ?_))
  show wpAny _ X.A (do let _ ← comprehension (.ListComp elt [⟨tg, iter, ifs, 0⟩] scope pos) scope X.env _ (newList []) false (eval iter X.env) (some (assign (.Name y py) X.env))) _ _ s
  refine wpAny_bind (wpAny_mono (comp_core hc b hi hg ht he hs (use := some (assign (.Name y py) X.env)) (Qv := fun _ s' => SP X pins D .next s') I h fun D' C s5 H5 ⟨m, hm⟩ h1 h2 h3 h4 h5 I5 q => ?_) (fun _ s' hq => wpAny_pure (wpAny_pure hq)) fun _ _ e => e)
  show wpAny _ X.A (assign (.Name y py) X.env (.ref D')) _ _ _
  refine wpAny_assign_Name (store_ok2 I5 hN hi0 (.inl hy) (show RelV (.ref D') (.ref D') from rfl) (fun s6 I6 ⟨a, sb6, ha⟩ => ?_) (.inr hy))
  have hCa : C ≠ a := by
    rcases ha with rfl | ha
    · exact h1
    · exact fun z => h2 _ _ ha z.symm
  exact ⟨m, hm.sameBut sb6 hCa, fun h' sb => ⟨_, H5, I6.turned (t' := s6.toks) (fun c o nc e => (sb.2 c nc).trans e) h5 h1 (.inr h4) h2 h3, q⟩⟩
end

/-! ### inside a block: the fragment by its own name -/
section
variable {X : Cx} {K : PySem.W.Frag} {a b e : Expr} {f : Str} {ta tb : TE} {pos : Pos}
theorem pe_fldB (hK : X.K = K) (he : PE X e ta) (hb : attributeBase e f X.env (eval e X.env) = eval e X.env) : PE X (.Attribute e f pos) (tFld K ta f) := by subst hK; exact pe_fld he hb
theorem pe_ixB (hK : X.K = K) (ha : PE X a ta) (hb : PE X b tb) (hs : PlainIx b) : PE X (.Subscript a b pos) (tOp (rIxL K) ta tb) := by subst hK; exact pe_ix ix_list ha hb hs
theorem pg_tupB {es : List Expr} {k n : Nat} {t : TGs} (hK : X.K = K) (hc : X.calm = true) (h : PGs X es t)
    (hn : (assignEach es X.env).length = n) (hst : (assignEach es X.env).findIdx? (·.1) = none) : PG X (.Tuple es k pos) (gTup K n t) := by subst hK; exact pg_tup hc h hn hst
end
/-! ### the forms one uses -/
/-- over a list that the block leaves as it is -/
theorem comp_list {K : PySem.W.Frag} {a : Addr} {xs : List V} {src : List (Option Nat)} {g : TG} {tt : TT} {te : TE} {Q : VK} {σ : St} {H1 : Hp} {D : Addr} (Pv : Nat → St → Hp → Prop) (h0 : Pv 0 (capOf src σ) (upd H1 D (.lst [])))
    (hl : ∀ i σ1 H2, i ≤ xs.length → Pv i σ1 H2 → SqL K H2 a xs)
    (hs : ∀ i x σ1 H2, xs[i]? = some x → Pv i σ1 H2 → g x σ1 H2 fun σ4 H4 => tt σ4 H4 fun b H5 =>
      if b = true then te σ4 H5 fun y H6 => ∃ zs, H6 D = some (.lst zs) ∧ zs.length < sizeLine ∧ Pv (i + 1) σ4 (upd H6 D (.lst (zs ++ [y]))) else Pv (i + 1) σ4 H5)
    (hd : ∀ σ1 H2, Pv xs.length σ1 H2 → Q (.ref D) H2) :
    CompW (Itl K a) src g tt te Q σ H1 D := by
  refine ⟨fun i m σ H => m = xs.length - i ∧ i ≤ xs.length ∧ Pv i σ H, ⟨xs.length, by simp, Nat.zero_le _, h0⟩, ?_⟩
  rintro i m σ1 H2 ⟨rfl, hi, p⟩
  have q := hl i σ1 H2 hi p
  by_cases hlt : i < xs.length
  · refine .inr ⟨⟨xs, xs[i], q, by simp [hlt]⟩, Pv (i + 1), fun σ' H' p' => ⟨xs.length - (i + 1), by omega, rfl, hlt, p'⟩, fun x H' y => ?_⟩
    obtain ⟨e, y⟩ := y
    subst e
    exact hs i x σ1 _ (y xs q) p
  · have e : i = xs.length := by omega
    subst e
    exact .inl ⟨⟨xs, q, Nat.le_refl _⟩, hd σ1 H2 p⟩
theorem comp_range {lo : Int} {n : Nat} {src : List (Option Nat)} {g : TG} {tt : TT} {te : TE} {Q : VK} {σ : St} {H1 : Hp} {D : Addr} (Pv : Nat → St → Hp → Prop) (h0 : Pv 0 (capOf src σ) (upd H1 D (.lst [])))
    (hs : ∀ i σ1 H2, i < n → Pv i σ1 H2 → g (.int (lo + i)) σ1 H2 fun σ4 H4 => tt σ4 H4 fun b H5 =>
      if b = true then te σ4 H5 fun y H6 => ∃ zs, H6 D = some (.lst zs) ∧ zs.length < sizeLine ∧ Pv (i + 1) σ4 (upd H6 D (.lst (zs ++ [y]))) else Pv (i + 1) σ4 H5)
    (hd : ∀ σ1 H2, Pv n σ1 H2 → Q (.ref D) H2) :
    CompW (Itr lo n) src g tt te Q σ H1 D := by
  refine ⟨fun i m σ H => m = n - i ∧ i ≤ n ∧ Pv i σ H, ⟨n, by simp, Nat.zero_le _, h0⟩, ?_⟩
  rintro i m σ1 H2 ⟨rfl, hi, p⟩
  by_cases hlt : i < n
  · refine .inr ⟨hlt, Pv (i + 1), fun σ' H' p' => ⟨n - (i + 1), by omega, rfl, hlt, p'⟩, fun x H' y => ?_⟩
    obtain ⟨e, y⟩ := y
    subst e y
    exact hs i σ1 _ hlt p
  · have e : i = n := by omega
    subst e
    exact .inl ⟨Nat.le_refl _, hd σ1 H2 p⟩
end L2

set_option Elab.async false
set_option linter.all false
set_option maxRecDepth 100000
set_option maxHeartbeats 4000000
/-! enumerate; min, max; == of data; isinstance. -/
namespace L2
open PySem PySem.Spec PyProof.Rows

/-! ### for i, x in enumerate(xs) -/
/-- at turn i the pair (i, xs[i]), a new tuple -/
def Ite (K : PySem.W.Frag) (a : Addr) : It :=
  ⟨fun i H => ∃ xs x, SqL K H a xs ∧ xs[i]? = some x, fun i H x H' => ∃ p v, x = .ref p ∧ H p = none ∧ H' = upd H p (.tup [.int i, v]) ∧ ∀ xs, SqL K H a xs → xs[i]? = some v, fun i H => ∃ xs, SqL K H a xs ∧ xs.length ≤ i⟩
theorem turn_enum {P : Program} {w : World} {K : PySem.W.Frag} {es : List Expr} {k1 : Nat} {tp : Pos} (a it e : Addr) (hei : e ≠ it) :
    Turn P w K (.Tuple es k1 tp) (Ite K a) [e, it] e (fun i h => (∃ old, IsEnum h e it i old) ∧ h.IsListIter it a i) where
  mem := by simp
  obj := fun i h st b hb => by
    obtain ⟨⟨old, he⟩, hit⟩ := st
    rcases List.mem_cons.mp hb with rfl | hb
    · exact ⟨_, he, fun v z => nomatch z⟩
    · have e1 : b = it := by simpa using hb
      subst e1
      obtain ⟨o, e, c, d⟩ := hit
      exact ⟨o, e, fun v z => by rw [d] at z; cases z⟩
  keep := fun i h h' st k => by
    obtain ⟨⟨old, he⟩, hit⟩ := st
    exact ⟨⟨old, k e (by simp) _ he⟩, hit.at fun o e => k it (by simp) o e⟩
  item := by
    intro X hP hw hK hc i pins s σ H E I hf st hg
    subst hP hw hK
    obtain ⟨⟨old, he⟩, hit⟩ := st
    obtain ⟨xs, x, hq, hx⟩ := hg
    obtain ⟨its, rv, p, hz⟩ := I.list hq
    obtain ⟨u, hu, ru⟩ := rv.get hx
    obtain ⟨e0, e1, e2, e3, e4, e5⟩ := hf e (by simp)
    obtain ⟨f0, f1, f2, f3, f4, f5⟩ := hf it (by simp)
    refine wpAny_pyNext_enum_item he hit p.isList (x := u) (by simpa using hu) hei fun h' ho hit' hT hsz kk => ?_
    refine ⟨_, rfl, wpAny_letOwnedTupleGo_enum ho fun h2 he2 hs2 => ?_⟩
    have helt : e < s.heap.objs.size := Heap.lt_size he
    have hilt : it < s.heap.objs.size := by obtain ⟨_, x, _⟩ := hit; exact Heap.lt_size x
    -- both records turned, the tuple laid
    have I1 : Inv X pins σ (upd H s.heap.objs.size (.tup [.int i, x])) { s with heap := h2, toks := s.toks + 1 } := by
      have hn : H s.heap.objs.size = none := I.hok.fresh (Nat.le_refl _)
      have keep : ∀ b o, b ≠ e → b ≠ it → s.heap.get? b = some o → h2.get? b = some o := fun b o h1 h2' e' => (hs2.2 b h1).trans (kk b o h1 h2' e')
      have nb : ∀ b o, s.heap.get? b = some o → b ≠ s.heap.objs.size := fun b o e' => Nat.ne_of_lt (Heap.lt_size e')
      have tr : ∀ b u, H b = some u → b ≠ e ∧ b ≠ it := fun b u e' => ⟨fun z => (by rw [z, e0] at e'; cases e'), fun z => (by rw [z, f0] at e'; cases e')⟩
      refine I.step (g' := s.gens) (d' := s.drawn) (ch := [e, it]) (fun b hb => ?_) (fun b o _ _ hc e' _ => keep b o (fun z => hc (by simp [z])) (fun z => hc (by simp [z])) e') (fun b o _ _ hc e' _ => ⟨o.slots, keep b o (fun z => hc (by simp [z])) (fun z => hc (by simp [z])) e'⟩)
        (fun b o _ e' n => by rw [upd_ne (nb b o e')]; exact n) (fun b o hc e' => ⟨o, keep b o (fun z => hc (by simp [z])) (fun z => hc (by simp [z])) e'⟩) (fun b ys e' => by rw [upd_ne (ne_of_none e' hn)]; exact e') (fun b o v e' => by rw [upd_ne (ne_of_none e' hn)]; exact e')
        (fun b ps e' => ⟨#[], by rw [upd_ne (ne_of_none e' hn), e']; simp⟩) (fun m hm => ?_) (fun b v e' => ?_) I.bare
      · rcases List.mem_cons.mp hb with rfl | hb
        · exact ⟨e3, e1, e4, e5⟩
        · have e1' : b = it := by simpa using hb
          subst e1'
          exact ⟨f3, f1, f4, f5⟩
      · obtain ⟨o, es', ep, ho', r⟩ := hm
        exact ⟨o, es', ep, keep _ o (Ne.symm e1) (Ne.symm f1) ho', r⟩
      · by_cases hb : b = s.heap.objs.size
        · subst hb
          rw [upd_same] at e'; cases e'
          refine ⟨by show 2 ≤ sizeLine; decide, [.int i s.toks, u], .cons ⟨_, rfl⟩ (.cons ru .nil), ?_⟩
          exact ⟨_, (hs2.2 _ (Nat.ne_of_gt helt)).trans hT, rfl, 0, rfl⟩
        · rw [upd_ne hb] at e'
          refine (I.hok b v e').stay (fun c v' hc q => ?_) (fun c q => by rw [upd_ne (ne_of_none q hn)]; exact q) fun c ys q => by rw [upd_ne (ne_of_none q hn)]; exact q
          rcases hc with rfl | hc
          · exact keep c v' (tr c _ e').1 (tr c _ e').2 q
          · exact keep c v' (tr c _ hc).1 (tr c _ hc).2 q
    refine ⟨.ref s.heap.objs.size, _, I1, rfl, ⟨s.heap.objs.size, x, rfl, I.hok.fresh (Nat.le_refl _), rfl, fun ys hy => by rw [I.list_inj hy hq]; exact hx⟩, ⟨⟨_, by simpa using he2⟩, hit'.at fun o y => (hs2.2 it (Ne.symm hei)).trans y⟩, fun b hb => ?_⟩
    rcases List.mem_cons.mp hb with rfl | hb
    · rw [upd_ne (Nat.ne_of_lt helt)]; exact e0
    · have e1' : b = it := by simpa using hb
      subst e1'
      rw [upd_ne (Nat.ne_of_lt hilt)]; exact f0
  done := by
    intro X hP hw hK hc i pins s σ H E I hf st hg
    subst hP hw hK
    obtain ⟨⟨old, he⟩, hit⟩ := st
    obtain ⟨xs, hq, hx⟩ := hg
    obtain ⟨its, rv, p, hz⟩ := I.list hq
    obtain ⟨f0, f1, f2, f3, f4, f5⟩ := hf it (by simp)
    have hl := rv.length
    exact wpAny_pyNext_enum_end (I.ok.hd hc) he hit p.isList (by simp; omega) fun h' eb => ⟨rfl, I.turned (t' := s.toks) (fun b o hb e => eb b o hb e) f0 f1 f3 f4 f5⟩
  self := fun _ _ _ _ _ st h => let ⟨⟨_, he⟩, _⟩ := st; wpAny_pyIter_enum he h
section
variable {X : Cx} {es : List Expr} {k1 : Nat} {tp : Pos}
def iEnum (K : PySem.W.Frag) (ta : TA) : TI := fun σ H R => ta σ H fun vs H1 => ∃ a, vs = [.ref a] ∧ (∃ xs, SqL K H1 a xs) ∧ R (Ite K a) H1
theorem pi_enum {a : Expr} {ta : TA} {p pos : Pos} (hg : Gl X "enumerate") (hm : X.mg "enumerate" = none) (ha : PA X [a] ta) (hs : starEach [a] X.env = [(false, eval a X.env)] := by rfl) : PI X (.Tuple es k1 tp) (.Call (.Name "enumerate" p) [a] [] pos) (iEnum X.K ta) := by
  intro pins s σ H R I h
  refine Call_ (ld_blt I hg hm boot_enumerate (PyProof.Rows.callWith_type1 (thn (ha pos pins s σ H _ I h) fun us s1 ⟨vs, H1, I1, r1, q1⟩ => ?_) hs rfl))
  obtain ⟨l, e, ⟨xs, hq⟩, q⟩ := q1
  subst e
  obtain ⟨u, rfl, ru⟩ := r1.one
  cases ru
  obtain ⟨its, rv, p, hz⟩ := I1.list hq
  refine call_enumerate_list p.isList fun h' he hit hsz kk => ?_
  refine wpAny_pyIter_enum he ?_
  have hel : s1.heap.objs.size ≤ s1.heap.objs.size + 1 := Nat.le_succ _
  refine ⟨s1.heap.objs.size + 1, [s1.heap.objs.size + 1, s1.heap.objs.size], _, _, H1, rfl, I1.kept (t' := s1.toks) kk, turn_enum l s1.heap.objs.size (s1.heap.objs.size + 1) (Nat.succ_ne_self _), ⟨⟨_, he⟩, hit⟩, fun b hb => ?_, q⟩
  rcases List.mem_cons.mp hb with rfl | hb
  · exact I1.fpOk hel (I1.hok.fresh hel)
  · have e : b = s1.heap.objs.size := by simpa using hb
    subst e
    exact I1.fpOk (Nat.le_refl _) (I1.hok.fresh (Nat.le_refl _))
end

theorem comp_enum {K : PySem.W.Frag} {a : Addr} {xs : List V} {src : List (Option Nat)} {g : TG} {tt : TT} {te : TE} {Q : VK} {σ : St} {H1 : Hp} {D : Addr} (Pv : Nat → St → Hp → Prop) (h0 : Pv 0 (capOf src σ) (upd H1 D (.lst [])))
    (hl : ∀ i σ1 H2, i ≤ xs.length → Pv i σ1 H2 → SqL K H2 a xs)
    (hs : ∀ i x p σ1 H2, xs[i]? = some x → H2 p = none → Pv i σ1 H2 → g (.ref p) σ1 (upd H2 p (.tup [.int i, x])) fun σ4 H4 => tt σ4 H4 fun b H5 =>
      if b = true then te σ4 H5 fun y H6 => ∃ zs, H6 D = some (.lst zs) ∧ zs.length < sizeLine ∧ Pv (i + 1) σ4 (upd H6 D (.lst (zs ++ [y]))) else Pv (i + 1) σ4 H5)
    (hd : ∀ σ1 H2, Pv xs.length σ1 H2 → Q (.ref D) H2) :
    CompW (Ite K a) src g tt te Q σ H1 D := by
  refine ⟨fun i m σ H => m = xs.length - i ∧ i ≤ xs.length ∧ Pv i σ H, ⟨xs.length, by simp, Nat.zero_le _, h0⟩, ?_⟩
  rintro i m σ1 H2 ⟨rfl, hi, p⟩
  have q := hl i σ1 H2 hi p
  by_cases hlt : i < xs.length
  · refine .inr ⟨⟨xs, xs[i], q, by simp [hlt]⟩, Pv (i + 1), fun σ' H' p' => ⟨xs.length - (i + 1), by omega, rfl, hlt, p'⟩, fun x H' y => ?_⟩
    obtain ⟨pp, v, e1, hn, e2, y⟩ := y
    subst e1 e2
    exact hs i v pp σ1 _ (y xs q) hn p
  · have e : i = xs.length := by omega
    subst e
    exact .inl ⟨⟨xs, q, Nat.le_refl _⟩, hd σ1 H2 p⟩

/-! ### min(xs), max(xs) of a list of ints -/
section
variable {X : Cx}
end

/-! ### a value as data -/
mutual
inductive Dt (K : PySem.W.Frag) (H : Hp) : V → PyData → Prop
  | non : Dt K H .non .none
  | bl (b : Bool) : Dt K H (.bl b) (.bool b)
  | int (i : Int) : Dt K H (.int i) (.int i)
  | str (x : Str) : Dt K H (.str x) (.str x)
  | lst {a : Addr} {xs : List V} {ds : List PyData} : SqL K H a xs → Dts K H xs ds → Dt K H (.ref a) (.list ds)
  | tup {a : Addr} {xs : List V} {ds : List PyData} : SqT K H a xs → Dts K H xs ds → Dt K H (.ref a) (.tuple ds)
inductive Dts (K : PySem.W.Frag) (H : Hp) : List V → List PyData → Prop
  | nil : Dts K H [] []
  | cons {x : V} {d : PyData} {xs : List V} {ds : List PyData} : Dt K H x d → Dts K H xs ds → Dts K H (x :: xs) (d :: ds)
end
section
variable {X : Cx} {pins : List (Addr × Obj)} {σ : St} {H : Hp} {s : Shared}
mutual
theorem Dt.reads (I : Inv X pins σ H s) : ∀ {v : V} {d : PyData} {u : Value}, Dt X.K H v d → RelV v u → ∃ as, Reads s.heap u d as
  | _, _, _, .non, r => by cases r; exact ⟨_, .none⟩
  | _, _, _, .bl b, r => by cases r; exact ⟨_, .bool b⟩
  | _, _, _, .int i, r => by obtain ⟨t, rfl⟩ := r; exact ⟨_, .int i t⟩
  | _, _, _, .str x, r => by obtain ⟨t, rfl⟩ := r; exact ⟨_, .str x t⟩
  | _, _, _, .lst hq hd, r => by
    cases r
    obtain ⟨its, rv, ⟨o, n, e, c, _, d⟩, _⟩ := I.list hq
    obtain ⟨as, q⟩ := Dts.reads I hd rv
    exact ⟨_, .list e c d (by simpa using q)⟩
  | _, _, _, .tup hq hd, r => by
    cases r
    obtain ⟨its, rv, ⟨o, e, c, n, d⟩, _⟩ := I.tuple hq
    obtain ⟨as, q⟩ := Dts.reads I hd rv
    exact ⟨_, .tuple e c d (by simpa using q)⟩
theorem Dts.reads (I : Inv X pins σ H s) : ∀ {vs : List V} {ds : List PyData} {us : List Value}, Dts X.K H vs ds → Vals vs us → ∃ as, ReadsAll s.heap us ds as
  | _, _, _, .nil, r => by cases r; exact ⟨_, .nil⟩
  | _, _, _, .cons hd hr, r => by
    cases r with
    | cons r1 r2 =>
      obtain ⟨as, q⟩ := Dt.reads I hd r1
      obtain ⟨bs, q2⟩ := Dts.reads I hr r2
      exact ⟨_, .cons q q2⟩
end
/-- == and != of data -/
def rEqD (K : PySem.W.Frag) (neg : Bool) : R2 := fun x y H Q => ∃ dx dy, Dt K H x dx ∧ Dt K H y dy ∧ dx.canLay0 = true ∧ dy.canLay0 = true ∧ min dx.depth dy.depth ≤ 60 ∧ Q (.bl (if neg then !PyData.eqv dx dy else PyData.eqv dx dy)) H
theorem op_eqD (hu : X.A.units + 60 < cLine) : OpR X (compareOp .Eq) (rEqD X.K false) := by
  intro pins s σ H x y v u Q I rx ry h
  obtain ⟨dx, dy, hx, hy, cx, cy, hd, q⟩ := h
  obtain ⟨as, ra⟩ := Dt.reads I hx rx
  obtain ⟨bs, rb⟩ := Dt.reads I hy ry
  exact SeqAt.compareEq_reads ra rb cx cy (by omega) ⟨.bl _, H, I, rfl, q⟩
end

/-! ### isinstance(x, C) -/
section
variable {X : Cx} {x : Str} {p pos np : Pos} {e : Expr} {te : TE} {c : Value}
/-- what a value's class is: built-in kinds, own instances, exceptions -/
inductive TyX (K : PySem.W.Frag) (H : Hp) : V → Value → Prop where
  | of {v : V} {t : Value} : TyOf K H v t → TyX K H v t
  | exc {ea C : Addr} : H ea = some (.ext (excAt ea C)) → ECls K C → TyX K H (.ref ea) (.ref C)
theorem isi_ok {pins : List (Addr × Obj)} {σ : St} {H : Hp} {s : Shared} {v : V} {u t : Value} {b : Bool} {Q : Value → Shared → Prop} {A : Around} {E : Value → Shared → Prop} (I : Inv X pins σ H s) (r : RelV v u) (ty : TyX X.K H v t) (e : PySem.W.kitOne X.K t c = some b) (h : ∀ tk, Q (.bool b) { s with toks := tk }) :
    wpAny (model X.prog X.w) A (call (.builtin "isinstance") [u, c]) Q E s := by
  cases ty with
  | of ty => exact isinst_ok I r ty e h
  | @exc ea C hH hc =>
    cases r
    obtain ⟨hx, _, _⟩ := (show ObjOk X.prog X.w H s.heap ea (.ext (excAt ea C)) from I.hok ea _ hH)
    exact PySem.W.kia_one (kitx_exc hc) I.kIn hx e (fun z => nomatch z) h
def clsV : V → Value
  | .ref a => .ref a
  | .ty n => .type n
  | _ => .none
theorem call_isi : CallR X (.builtin "isinstance") (fun xs H Q => ∃ v cV t b, xs = [v, cV] ∧ TyX X.K H v t ∧ clsV cV ≠ .none ∧ PySem.W.kitOne X.K t (clsV cV) = some b ∧ Q (.bl b) H) := by
  intro pins s σ H xs us Q I r h
  obtain ⟨v, cV, t, b, rfl, ty, nc, ek, q⟩ := h
  obtain ⟨u1, u2, rfl, ru, rc⟩ := r.two
  have ec : u2 = clsV cV := by
    cases cV with
    | ref a => exact rc
    | ty n => exact rc
    | _ => exact absurd rfl nc
  subst ec
  exact isi_ok I ru ty ek fun tk => ⟨.bl b, H, I.tok _, rfl, q⟩
theorem call_isiB {K : PySem.W.Frag} (hK : X.K = K) : CallR X (.builtin "isinstance") (fun xs H Q => ∃ v cV t b, xs = [v, cV] ∧ TyX K H v t ∧ clsV cV ≠ .none ∧ PySem.W.kitOne K t (clsV cV) = some b ∧ Q (.bl b) H) := by subst hK; exact call_isi
end
end L2

set_option Elab.async false
set_option linter.all false
set_option maxRecDepth 100000
set_option maxHeartbeats 4000000
/-! xs.index(v); min of a list of pairs; sorted of ints. -/
namespace L2
open PySem PySem.Spec PyProof.Rows

/-! ### xs.index(v), flat items -/
theorem vals_at : ∀ {xs : List V} {us : List Value} {i : Nat} {u : Value}, Vals xs us → us[i]? = some u → ∃ x, xs[i]? = some x ∧ RelV x u
  | _, _, i, u, .nil, h => by cases i <;> cases h
  | x :: xs, v :: us, 0, u, .cons r t, h => ⟨x, rfl, by cases h; exact r⟩
  | x :: xs, v :: us, i + 1, u, .cons r t, h => by
    have := vals_at (xs := xs) (us := us) (i := i) (u := u) t (by simpa using h)
    simpa using this

/-! ### min(xs) where the items are compared by what the heap holds -/
section
variable {prog : Program} {w : World} {A : Around} {R : Result → Shared → Prop} {I S : Addr} {fp wr : List Addr} {n : Nat} {P : Nat → Value → Prop} {St : Nat → Heap → Prop} {bt : Nat → Nat → Bool} {G : Heap → Prop}
end

/-! ### sorted(xs) of ints -/
end L2

set_option Elab.async false
set_option linter.all false
set_option maxRecDepth 100000
set_option maxHeartbeats 4000000
namespace L2
open PySem PySem.W PySem.Spec PyProof.Rows
/-! THE SORT, over a pure order of the places: KasT's tree ends with the places in order. -/
section
variable {α β : Type} {lt : Nat → Nat → Bool} {n : Nat}
/-- a strict order of all places below n -/
structure Ord (lt : Nat → Nat → Bool) (n : Nat) : Prop where
  tr : ∀ a b c, a < n → b < n → c < n → lt a b = true → lt b c = true → lt a c = true
  tot : ∀ a b, a < n → b < n → a ≠ b → lt a b = false → lt b a = true
/-- an order of the places 0 .. n - 1 -/
structure Pl (n : Nat) (p : Array Nat) : Prop where
  sz : p.size = n
  lt : ∀ i, i < n → p.getD i 0 < n
  inj : ∀ i j, i < n → j < n → p.getD i 0 = p.getD j 0 → i = j
  onto : ∀ k, k < n → ∃ i, i < n ∧ p.getD i 0 = k
end
section
variable {prog : Program} {w : World} {A : Around} {E : Value → Shared → Prop} {s : Shared} {a : Addr} {vs : List Value} {lt : Nat → Nat → Bool}
/-- the keys' kind and the order of the places, in every heap that keeps the old objects but a -/
structure TupKeys (prog : Program) (w : World) (A : Around) (s : Shared) (a : Addr) (vs : List Value) (lt : Nat → Nat → Bool) : Prop where
  ord : Ord lt vs.length
  kind : 2 ≤ vs.length → ∀ (s' : Shared), (∀ b o, b ≠ a → s.heap.get? b = some o → s'.heap.get? b = some o) → ∀ (Q : SortKind → Shared → Prop) (E : Value → Shared → Prop), Q (tuples' true) s' → wpAny (model prog w) A (keyKind' vs.toArray) Q E s'
  cmp : ∀ (s' : Shared), (∀ b o, b ≠ a → s.heap.get? b = some o → s'.heap.get? b = some o) → ∀ i j (C : Bool → Shared → Prop), i < vs.length → j < vs.length → C (lt i j) s' → kas_ask prog w A (tuples' true) vs i j C s'
end
end L2

set_option Elab.async false
set_option linter.all false
set_option maxRecDepth 100000
set_option maxHeartbeats 4000000
/-! range as a value, list of it; calls that raise nothing here. -/
namespace L2
open PySem PySem.Spec PyProof.Rows
end L2

set_option Elab.async false
set_option linter.all false
set_option maxRecDepth 100000
set_option maxHeartbeats 4000000
/-! texts: slices, startswith. -/
namespace L2
open PySem PySem.Spec PyProof.Rows
def rSlS : V → Option Int → Option Int → Hp → VK → Prop := fun x lo hi H Q => ∃ z : Str, x = .str z ∧ z.length ≤ sizeLine ∧ Q (.str (Txt.slice z lo hi)) H
theorem sl_str {X : Cx} : SlR X rSlS := by
  intro pins s σ H x v vl vu lo hi sl Q I rx hs pl pu h
  obtain ⟨z, rfl, hz, q⟩ := h
  obtain ⟨t, rfl⟩ := rx
  obtain ⟨l, rfl, el⟩ : ∃ l : Option (Int × Tok), vl = partValue l ∧ l.map (·.1) = lo := by
    cases pl with
    | none => exact ⟨none, rfl, rfl⟩
    | int i t => exact ⟨some (i, t), rfl, rfl⟩
  obtain ⟨u, rfl, eu⟩ : ∃ u : Option (Int × Tok), vu = partValue u ∧ u.map (·.1) = hi := by
    cases pu with
    | none => exact ⟨none, rfl, rfl⟩
    | int i t => exact ⟨some (i, t), rfl, rfl⟩
  refine ⟨"str", _, PySem.F.slot_str_getitem.lookup, typeIs_str _ _ _, ?_⟩
  refine wpAny_getItem_str_slice (l := l) (u := u) (st := none) hs rfl (post_val_or_str ?_)
  have e : ∀ (c : Str), c = Txt.slice z lo hi → c.length ≤ sizeLine ∧ ∀ t' k, EP X pins σ Q (.str c t') { s with toks := k } := fun c hc => by
    subst hc
    exact ⟨Nat.le_trans (Txt.slice_le z _ _) hz, fun t' k => ⟨.str _, H, I.tok k, ⟨_, rfl⟩, q⟩⟩
  refine e _ ?_
  subst el eu
  rfl
def rStarts : V → List V → Hp → VK → Prop := fun x vs H Q => ∃ z y : Str, x = .str z ∧ vs = [.str y] ∧ Q (.bl (Txt.startswith z y)) H
theorem mt_startswith {X : Cx} : MtM X "str.startswith" rStarts := by
  intro pins s σ H x vs v us Q I rx rv h
  obtain ⟨z, y, rfl, rfl, q⟩ := h
  obtain ⟨t, rfl⟩ := rx
  obtain ⟨u, rfl, t2, rfl⟩ := rv.one
  exact SC.startswith ⟨.bl _, H, I, rfl, q⟩
theorem boot_strT : bootBuiltins "str" = some (.type "str") := by decide +kernel
/-! ### len within a try; a def that is called while an exception is handled -/
structure RoomU (k : Nat) (A : Around) : Prop where
  dp : A.depth + 3 * k + 5 < recursionLimit
  un : A.units + 16 * k + 200 < cLine
structure FnOkU (P : Program) (w : World) (K : PySem.W.Frag) (mg : Str → Option Value) (base : Heap) (k : Nat) (f : Addr) (fd : FuncData) (ps : List Str) (sp : Sp) : Prop where
  len : ∀ vs H Q E, sp vs H Q E → vs.length = ps.length
  run : ∀ (A : Around) (outer : List Env) (s : Shared) (H : Hp) (args : Args) (us : List Value) (vs : List V) (Q : VK) (E : XK), RoomU k A → Env0 P w K mg base A outer s H → BindsTo s fd args (ps.zip us) → Vals vs us → sp vs H Q E →
    codeAny (model P w) A (.call (.ref f) args) (CR CX0 outer P w H s Q E) s
section
variable {P : Program} {w : World} {K : PySem.W.Frag} {mg : Str → Option Value} {base : Heap} {N ps : List Str} {qual : Str} {scope : Scope} {f : Addr} {cd : Value} {A : Around} {outer : List Env} {s s1 : Shared} {H : Hp} {E : XK}
end
end L2

set_option Elab.async false
set_option linter.all false
set_option maxRecDepth 100000
set_option maxHeartbeats 4000000
/-! texts: walked sign by sign; joined; read as a number; all(list). -/
namespace L2
open PySem PySem.Spec PyProof.Rows
/-- the signs of a text -/
def Its (z : Str) : It := ⟨fun i _ => i < z.cps.size, fun i H x H' => H' = H ∧ ∃ c, z.cps[i]? = some c ∧ x = .str ⟨#[c]⟩, fun i _ => z.cps.size ≤ i⟩
section
variable {P : Program} {w : World} {K : PySem.W.Frag} {tg : Expr} {z : Str} {t : Tok} {it : Addr} {ty : String}
theorem turn_str (hty : ["enumerate", "zip", "dict_itemiterator", "dict_reverseitemiterator", "odict_iterator", "itertools.zip_longest", "itertools.pairwise"].contains ty = false)
    (hi : ∀ (A : Around) (s : Shared) (i c : Nat) (Q : Option Value → Shared → Prop) (E : Value → Shared → Prop), s.heap.IsStrIter it ty z t i → z.cps[i]? = some c → (∀ h', h'.IsStrIter it ty z t (i + 1) → Heap.SameBut it s.heap h' → Q (some (.str ⟨#[c]⟩ s.toks)) { s with heap := h', toks := s.toks + 1 }) → wpAny (model P w) A (pyNext (.ref it)) Q E s)
    (he : ∀ (A : Around) (s : Shared) (i : Nat) (Q : Option Value → Shared → Prop) (E : Value → Shared → Prop), A.handled = none → s.heap.IsStrIter it ty z t i → z.cps[i]? = none → (∀ h', Heap.ExtBut it s.heap h' → Q none { s with heap := h' }) → wpAny (model P w) A (pyNext (.ref it)) Q E s)
    (hs : ∀ (A : Around) (i : Nat) (s : Shared) (Q : Value → Shared → Prop) (E : Value → Shared → Prop), s.heap.IsStrIter it ty z t i → Q (.ref it) s → wpAny (model P w) A (pyIter (.ref it)) Q E s) : Turn P w K tg (Its z) [it] it (fun i h => h.IsStrIter it ty z t i) where
  mem := by simp
  obj := fun i h st b hb => by
    have e : b = it := by simpa using hb
    subst e
    obtain ⟨o, e, c, d⟩ := st
    exact ⟨o, e, fun v z => by rw [d] at z; cases z⟩
  keep := fun i h h' st k => by
    obtain ⟨o, e, r⟩ := st
    exact ⟨o, k it (by simp) o e, r⟩
  item := by
    intro X hP hw hK hc i pins s σ H E I hf st hg
    subst hP hw hK
    have hg : i < z.cps.size := hg
    obtain ⟨f0, f1, f2, f3, f4, f5⟩ := hf it (by simp)
    refine hi _ s i z.cps[i] _ _ st (by simp [hg]) fun h' st' sb => ?_
    have I1 : Inv X pins σ H { s with heap := h', toks := s.toks + 1 } := I.turned (fun b o hb e => (sb.2 b hb).trans e) f0 f1 f3 f4 f5
    obtain ⟨o, e, c, d⟩ := id st'
    exact ⟨_, rfl, go_of (s := { s with heap := h', toks := s.toks + 1 }) e c d hty ⟨.str ⟨#[z.cps[i]]⟩, H, I1, ⟨_, rfl⟩, ⟨rfl, _, by simp [hg], rfl⟩, st', fun b hb => (hf b hb).1⟩⟩
  done := by
    intro X hP hw hK hc i pins s σ H E I hf st hg
    subst hP hw hK
    have hg : z.cps.size ≤ i := hg
    obtain ⟨f0, f1, f2, f3, f4, f5⟩ := hf it (by simp)
    exact he _ s i _ _ (I.ok.hd hc) st (by simp [hg]) fun h' eb => ⟨rfl, I.turned (t' := s.toks) (fun b o hb e => eb b o hb e) f0 f1 f3 f4 f5⟩
  self := fun A i s Q E st h => hs A i s Q E st h
end
section
variable {X : Cx} {tg : Expr}
def iStr (tl : TE) : TI := fun σ H R => tl σ H fun x H1 => ∃ z, x = .str z ∧ R (Its z) H1
theorem pi_str {l : Expr} {tl : TE} (hl : PE X l tl) : PI X tg l (iStr tl) := by
  intro pins s σ H R I h
  refine thn (hl pins s σ H _ I h) fun v s1 ⟨x, H1, I1, r1, q1⟩ => ?_
  obtain ⟨z, e, q⟩ := q1
  subst e
  obtain ⟨t, rfl⟩ := r1
  have fp : ∀ b ∈ [s1.heap.objs.size], FpOk X pins H1 b := fun b hb => by
    have e : b = s1.heap.objs.size := by simpa using hb
    subst e
    exact I1.fpOk (Nat.le_refl _) (I1.hok.fresh (Nat.le_refl _))
  cases ha : z.cps.all (· < 128)
  · refine wpAny_pyIter_wide ha ?_
    exact ⟨s1.heap.objs.size, [s1.heap.objs.size], _, _, H1, rfl, I1.kept (t' := s1.toks) fun b o e => Heap.get?_push_of_some _ e, turn_str (ty := "str_iterator") (z := z) (t := t) (by decide) (fun A s i c Q E st hx k => wpAny_pyNext_wide_item st hx k) (fun A s i Q E hh st hx k => wpAny_pyNext_wide_end hh st hx k) (fun A i s Q E st h => wpAny_pyIter_striter_wide st h), ⟨_, Heap.get?_push_size _ rfl, rfl, rfl⟩, fp, q⟩
  · refine wpAny_pyIter_ascii ha ?_
    exact ⟨s1.heap.objs.size, [s1.heap.objs.size], _, _, H1, rfl, I1.kept (t' := s1.toks) fun b o e => Heap.get?_push_of_some _ e, turn_str (ty := "str_ascii_iterator") (z := z) (t := t) (by decide) (fun A s i c Q E st hx k => wpAny_pyNext_ascii_item st hx k) (fun A s i Q E hh st hx k => wpAny_pyNext_ascii_end hh st hx k) (fun A i s Q E st h => wpAny_pyIter_striter_ascii st h), ⟨_, Heap.get?_push_size _ rfl, rfl, rfl⟩, fp, q⟩
end
theorem comp_str {z : Str} {src : List (Option Nat)} {g : TG} {tt : TT} {te : TE} {Q : VK} {σ : St} {H1 : Hp} {D : Addr} (Pv : Nat → St → Hp → Prop) (h0 : Pv 0 (capOf src σ) (upd H1 D (.lst [])))
    (hs : ∀ i c σ1 H2, z.cps[i]? = some c → Pv i σ1 H2 → g (.str ⟨#[c]⟩) σ1 H2 fun σ4 H4 => tt σ4 H4 fun b H5 =>
      if b = true then te σ4 H5 fun y H6 => ∃ zs, H6 D = some (.lst zs) ∧ zs.length < sizeLine ∧ Pv (i + 1) σ4 (upd H6 D (.lst (zs ++ [y]))) else Pv (i + 1) σ4 H5)
    (hd : ∀ σ1 H2, Pv z.cps.size σ1 H2 → Q (.ref D) H2) :
    CompW (Its z) src g tt te Q σ H1 D := by
  refine ⟨fun i m σ H => m = z.cps.size - i ∧ i ≤ z.cps.size ∧ Pv i σ H, ⟨z.cps.size, by simp, Nat.zero_le _, h0⟩, ?_⟩
  rintro i m σ1 H2 ⟨rfl, hi, p⟩
  by_cases hlt : i < z.cps.size
  · refine .inr ⟨hlt, Pv (i + 1), fun σ' H' p' => ⟨z.cps.size - (i + 1), by omega, rfl, hlt, p'⟩, fun x H' y => ?_⟩
    obtain ⟨e1, c, hc, e2⟩ := y
    subst e1 e2
    exact hs i c σ1 _ hc p
  · have e : i = z.cps.size := by omega
    subst e
    exact .inl ⟨Nat.le_refl _, hd σ1 H2 p⟩
/-- over a text -/
theorem for_str {z : Str} {g : TG} {tb : TS} {D : Ends} {σ : St} {H : Hp} (Pv : Nat → St → Hp → Prop) (h0 : Pv 0 σ H)
    (hs : ∀ i c σ H, z.cps[i]? = some c → Pv i σ H → g (.str ⟨#[c]⟩) σ H fun σ2 H2 => tb { D with nx := Pv (i + 1), ct := Pv (i + 1), bk := D.nx } σ2 H2) (hd : ∀ σ H, Pv z.cps.size σ H → D.nx σ H) :
    ∃ W : Nat → Nat → St → Hp → Prop, (∃ m, W 0 m σ H) ∧ ∀ i m σ H, W i m σ H →
      ((Its z).stop i H ∧ D.nx σ H) ∨ ((Its z).go i H ∧ ∃ N : St → Hp → Prop, (∀ σ' H', N σ' H' → ∃ m', m' < m ∧ W (i + 1) m' σ' H') ∧ ∀ x H', (Its z).yld i H x H' → g x σ H' fun σ2 H2 => tb { D with nx := N, ct := N, bk := D.nx } σ2 H2) := by
  refine ⟨fun i m σ H => m = z.cps.size - i ∧ i ≤ z.cps.size ∧ Pv i σ H, ⟨z.cps.size, by simp, Nat.zero_le _, h0⟩, ?_⟩
  rintro i m σ H ⟨rfl, hi, p⟩
  by_cases hlt : i < z.cps.size
  · refine .inr ⟨hlt, Pv (i + 1), fun σ' H' p' => ⟨z.cps.size - (i + 1), by omega, rfl, hlt, p'⟩, fun x H' y => ?_⟩
    obtain ⟨e1, c, hc, e2⟩ := y
    subst e1 e2
    exact hs i c σ _ hc p
  · have e : i = z.cps.size := by omega
    subst e
    exact .inl ⟨Nat.le_refl _, hd σ H p⟩
/-! ### int(text), sep.join(list), all(list) -/
theorem boot_all : bootBuiltins "all" = some (.builtin "all") := by decide +kernel
theorem boot_intT : bootBuiltins "int" = some (.type "int") := by decide +kernel
theorem call_int_str {X : Cx} : CallR X (.type "int") (fun xs H Q => ∃ (z : Str) (n : Int), xs = [.str z] ∧ PySem.intText? z = some n ∧ z.length ≤ 640 ∧ Q (.int n) H) := by
  intro pins s σ H xs us Q I r h
  obtain ⟨z, n, rfl, hn, hl, q⟩ := h
  obtain ⟨u, rfl, t, rfl⟩ := r.one
  exact PySem.W.KIN.call_text hn hl ⟨.int n, H, I.tok _, ⟨_, rfl⟩, q⟩
theorem strs_of_vals : ∀ {zs : List Str} {vs : List Value}, Vals (zs.map V.str) vs → StrsAre vs zs
  | [], _, .nil => .nil
  | n :: ns, _, .cons ⟨t, e⟩ r => by subst e; exact .cons n t (strs_of_vals r)
def rJoin (K : PySem.W.Frag) : V → List V → Hp → VK → Prop := fun x vs H Q => ∃ (z : Str) (a : Addr) (zs : List Str), x = .str z ∧ vs = [.ref a] ∧ SqL K H a (zs.map V.str) ∧ (zs.map (·.length)).sum + zs.length * z.length ≤ 16777216 ∧ Q (.str (Txt.join z zs)) H
theorem mt_join {X : Cx} : MtM X "str.join" (rJoin X.K) := by
  intro pins s σ H x vs v us Q I rx rv h
  obtain ⟨z, a, zs, rfl, rfl, hq, hl, q⟩ := h
  obtain ⟨t, rfl⟩ := rx
  obtain ⟨u, rfl, ru⟩ := rv.one
  cases ru
  obtain ⟨its, rr, pl, hz⟩ := I.list hq
  exact join_list pl.isList (by simpa using strs_of_vals rr) hl fun t' k => ⟨.str _, H, I.tok k, ⟨_, rfl⟩, q⟩
theorem call_all {X : Cx} (hc : X.calm = true) : CallR X (.builtin "all") (fun xs H Q => ∃ (a : Addr) (bs : List Bool), xs = [.ref a] ∧ SqL X.K H a (bs.map V.bl) ∧ Q (.bl (bs.all id)) H) := by
  intro pins s σ H xs us Q I r h
  obtain ⟨a, bs, rfl, hq, q⟩ := h
  obtain ⟨u, rfl, ru⟩ := r.one
  cases ru
  obtain ⟨its, rr, pl, hz⟩ := I.list hq
  have item : ∀ (i : Nat) v, its.toArray[i]? = some v → v = .bool (bs.getD i true) := fun i v e => by
    have e : its[i]? = some v := by simpa using e
    obtain ⟨x, hx, rx⟩ := vals_at rr e
    rw [List.getElem?_map] at hx
    cases hb : bs[i]? with
    | none => rw [hb] at hx; cases hx
    | some b => rw [hb] at hx; cases hx; simp [List.getD, hb]; exact rx
  have hlt : a < s.heap.objs.size := by obtain ⟨_, e, _⟩ := pl.isList; exact Heap.lt_size e
  have hlen : its.length = bs.length := by rw [← rr.length, List.length_map]
  refine call_all_walk (wpAny_pyIter_list pl.isList ?_)
  refine ⟨s.heap.objs.size, [s.heap.objs.size, a], [s.heap.objs.size], its.toArray.size, _, _, fun i => bs.getD i true, rfl, Walks.list (A := X.A.in1) (I.ok.hd hc) _ a (Nat.ne_of_lt hlt) its.toArray, ⟨⟨_, Heap.get?_push_size _ rfl, rfl, rfl⟩, pl.isList.push _⟩, fun i v s' Q' E' hP hQ => ?_, fun h' tk hk => ?_⟩
  · rw [item i v hP]; exact wpAny_truthy_bool hQ
  · have e : ((List.range its.toArray.size).all fun i => bs.getD i true) = bs.all id := by
      rw [Bool.eq_iff_iff, List.all_eq_true, List.all_eq_true]
      constructor
      · intro h x hx
        obtain ⟨i, hi, e⟩ := List.mem_iff_getElem.mp hx
        have := h i (List.mem_range.mpr (by rw [List.size_toArray, hlen]; exact hi))
        simp [List.getD, hi] at this
        rw [e] at this; exact this
      · intro h i hi
        rw [List.mem_range, List.size_toArray, hlen] at hi
        have := h bs[i] (List.getElem_mem hi)
        simp [List.getD, hi]
        exact this
    refine ⟨.bl _, H, I.kept (t' := tk) (fun b o q => hk b o (fun hm => by
      rw [List.mem_singleton.mp hm] at q
      exact Nat.lt_irrefl _ (Heap.lt_size q)) (Heap.get?_push_of_some _ q)), rfl, ?_⟩
    rw [e]; exact q
end L2

set_option Elab.async false
set_option linter.all false
set_option maxRecDepth 100000
set_option maxHeartbeats 4000000
/-! PARCELWALL: the mirror, the data, the promises of the defs that the texts share. -/
namespace Pw
open PySem L2

/-! ### draws -/
def cellOf (ns : List Int) (k : Int) : Int := if 0 < ns.length then ns.getD (k % (ns.length : Int)).toNat 0 else 7
def drawn (ns : List Int) (k many : Int) : Int :=
  ((((cellOf ns k * 48271 + (k + 1) * 7919 + (ns.length : Int)) % 2147483647) * ((cellOf ns k * 48271 + (k + 1) * 7919 + (ns.length : Int)) % 2147483647) + k * 16807 + 11) % 2147483647) * 48271 % 2147483647 / 16 % many
theorem drawn_lo (ns : List Int) (k : Int) {many : Int} (h : 0 < many) : 0 ≤ drawn ns k many := Int.emod_nonneg _ (by omega)
theorem drawn_hi (ns : List Int) (k : Int) {many : Int} (h : 0 < many) : drawn ns k many < many := Int.emod_lt_of_pos _ h
/-- _law_drawn(script, k, many) -/
def spDrawn (K : PySem.W.Frag) : Sp := fun vs H Q _ => ∃ (a : Addr) (ns : List Int) (k many : Int), vs = [.ref a, .int k, .int many] ∧ SqL K H a (ns.map V.int) ∧ ns.length ≤ 63 ∧ 0 ≤ k ∧ k < 1000000 ∧ 0 < many ∧ many < 1000000 ∧ Q (.int (drawn ns k many)) H
/-- _law_whole(found): an int -/
def spWhole : Sp := fun vs H Q _ => ∃ i : Int, vs = [.int i] ∧ Q (.bl true) H
/-- _law_row(found, due): the same ints -/
def spRow (K : PySem.W.Frag) : Sp := fun vs H Q _ => ∃ (a b : Addr) (xs : List Int), vs = [.ref a, .ref b] ∧ H a = some (.lst (xs.map V.int)) ∧ SqL K H b (xs.map V.int) ∧ xs.length ≤ 1000000 ∧ Q (.bl true) H
/-- None or a number -/
def oV : Option Int → V
  | none => .non
  | some i => .int i
/-- _law_held(found, due): the same -/
def spHeldEq (K : PySem.W.Frag) : Sp := fun vs H Q _ => ∃ (a b : Addr) (xs : List (Option Int)), vs = [.ref a, .ref b] ∧ H a = some (.lst (xs.map oV)) ∧ SqL K H b (xs.map oV) ∧ xs.length ≤ 1000000 ∧ Q (.bl true) H

/-! ### sizes of a wall -/
def okSizes (sz : List Int) : Bool := decide (1 ≤ sz.length) && decide (sz.length ≤ 8) && sz.all fun z => decide (1 ≤ z) && decide (z ≤ 9)
def small (z : Int) : Prop := z.natAbs.log2 < 1920
theorem small_of {z : Int} (h1 : -10000000000 ≤ z) (h2 : z ≤ 10000000000) : small z := by
  unfold small
  have hn : z.natAbs < 2 ^ 1920 := Nat.lt_of_le_of_lt (show z.natAbs ≤ 10000000000 by omega) (by decide +kernel)
  by_cases h0 : z.natAbs = 0
  · rw [h0]; decide
  · exact (Nat.log2_lt h0).mpr hn
/-- in_bounds(number) -/
def spBounds : Sp := fun vs H Q _ => ∃ n : Int, vs = [.int n] ∧ Q (.bl (decide (1 ≤ n) && decide (n ≤ 9))) H
/-- check_wall(sizes) -/
def spCheckWall (K : PySem.W.Frag) (cNW : Addr) : Sp := fun vs H Q E => ∃ (a : Addr) (sz : List Int), vs = [.ref a] ∧ SqL K H a (sz.map V.int) ∧ (okSizes sz = true → Q .non H) ∧ (okSizes sz = false → E (.ref cNW) none H)

/-! ### a wall as it stands -/
/-- a parcel: its object, its number, its size, its last night -/
structure Pc where
  ad : Addr
  num : Int
  size : Int
  last : Int
structure Wl where
  sz : List Int
  ps : List (Option Pc)
  came : Int
  gone : Int
def pV : Option Pc → V
  | none => .non
  | some p => .ref p.ad
def wflds (l1 l2 : Addr) (came gone : Int) : List (Str × V) := putF "nights_gone" (.int gone) (putF "came" (.int came) (putF "parcels" (.ref l2) (putF "box_sizes" (.ref l1) [])))
def pflds (n z l : Int) : List (Str × V) := putF "last_night" (.int l) (putF "size" (.int z) (putF "number" (.int n) []))
structure WallAt (cW cP : Addr) (H : Hp) (p l1 l2 : Addr) (w : Wl) : Prop where
  ob : ∃ dx, H p = some (.ins cW dx (wflds l1 l2 w.came w.gone))
  s1 : H l1 = some (.lst (w.sz.map V.int))
  s2 : H l2 = some (.lst (w.ps.map pV))
  pc : ∀ q, some q ∈ w.ps → ∃ dx, H q.ad = some (.ins cP dx (pflds q.num q.size q.last))
  len : w.ps.length = w.sz.length
  few : w.sz.length ≤ 8
  ne : l1 ≠ l2
  pn : ∀ q, some q ∈ w.ps → q.ad ≠ p
def heldOf (w : Wl) : List (Option Int) := w.ps.map fun o => o.map (·.num)
def freeOf (w : Wl) : List Int := ((List.range w.ps.length).filter fun i => (w.ps[i]?.join).isNone).map (fun i : Nat => (i : Int))
theorem WallAt.mono {cW cP : Addr} {H H' : Hp} {p l1 l2 : Addr} {w : Wl} (W : WallAt cW cP H p l1 l2 w) (s : Same H H') : WallAt cW cP H' p l1 l2 w :=
  ⟨let ⟨dx, h⟩ := W.ob; ⟨dx, s _ _ h⟩, s _ _ W.s1, s _ _ W.s2, fun q hq => let ⟨dx, h⟩ := W.pc q hq; ⟨dx, s _ _ h⟩, W.len, W.few, W.ne, W.pn⟩
theorem ne1 : ¬ (("box_sizes" : Str) = "parcels") := by decide +kernel
theorem ne2 : ¬ (("box_sizes" : Str) = "came") := by decide +kernel
theorem ne3 : ¬ (("box_sizes" : Str) = "nights_gone") := by decide +kernel
theorem ne4 : ¬ (("parcels" : Str) = "came") := by decide +kernel
theorem ne5 : ¬ (("parcels" : Str) = "nights_gone") := by decide +kernel
theorem wf_sizes (l1 l2 : Addr) (c g : Int) : (wflds l1 l2 c g).lookup ("box_sizes" : Str) = some (.ref l1) := by
  unfold wflds; rw [lookup_putF, if_neg ne3, lookup_putF, if_neg ne2, lookup_putF, if_neg ne1, lookup_putF, if_pos rfl]
theorem wf_parcels (l1 l2 : Addr) (c g : Int) : (wflds l1 l2 c g).lookup ("parcels" : Str) = some (.ref l2) := by
  unfold wflds; rw [lookup_putF, if_neg ne5, lookup_putF, if_neg ne4, lookup_putF, if_pos rfl]
theorem wf_gone (l1 l2 : Addr) (c g : Int) : (wflds l1 l2 c g).lookup ("nights_gone" : Str) = some (.int g) := by
  unfold wflds; rw [lookup_putF, if_pos rfl]
theorem wf_no (l1 l2 : Addr) (c g : Int) {m : Str} (h1 : ¬ m = "box_sizes") (h2 : ¬ m = "parcels") (h3 : ¬ m = "came") (h4 : ¬ m = "nights_gone") : (wflds l1 l2 c g).lookup m = none := by
  unfold wflds; rw [lookup_putF, if_neg h4, lookup_putF, if_neg h3, lookup_putF, if_neg h2, lookup_putF, if_neg h1]; rfl
/-- what the walk asks of the class Wall -/
structure WTxt (K : PySem.W.Frag) (cW : Addr) : Prop where
  cl : Cls K cW
  n1 : NoAttr K cW "box_sizes"
  n2 : NoAttr K cW "parcels"
  n3 : NoAttr K cW "came"
  n4 : NoAttr K cW "nights_gone"
structure PTxt (K : PySem.W.Frag) (cP : Addr) : Prop where
  cl : Cls K cP
  n1 : NoAttr K cP "number"
  n2 : NoAttr K cP "size"
  n3 : NoAttr K cP "last_night"
/-- Wall.__init__ -/
def spInit (K : PySem.W.Frag) (cW cP cNW : Addr) : Sp := fun vs H Q E => ∃ (p dx a : Addr) (sz : List Int), vs = [.ref p, .ref a] ∧ H p = some (.ins cW dx []) ∧ SqL K H a (sz.map V.int) ∧
  (okSizes sz = true → ∀ (l1 l2 : Addr) (H' : Hp), H l1 = none → H l2 = none → WallAt cW cP H' p l1 l2 ⟨sz, List.replicate sz.length none, 0, 0⟩ → (∀ b o, H b = some o → b ≠ p → H' b = some o) → Q .non H') ∧ (okSizes sz = false → E (.ref cNW) none H)
/-- a new list is told, all else stays -/
def tells (H : Hp) (xs : List V) (Q : VK) : Prop := ∀ (l : Addr) (H' : Hp), H l = none → Same H H' → H' l = some (.lst xs) → Q (.ref l) H'
def spSizes (cW cP : Addr) : Sp := fun vs H Q _ => ∃ (p l1 l2 : Addr) (w : Wl), vs = [.ref p] ∧ WallAt cW cP H p l1 l2 w ∧ tells H (w.sz.map V.int) Q
def spHeld (cW cP : Addr) : Sp := fun vs H Q _ => ∃ (p l1 l2 : Addr) (w : Wl), vs = [.ref p] ∧ WallAt cW cP H p l1 l2 w ∧ tells H ((heldOf w).map oV) Q
def spFree (cW cP : Addr) : Sp := fun vs H Q _ => ∃ (p l1 l2 : Addr) (w : Wl), vs = [.ref p] ∧ WallAt cW cP H p l1 l2 w ∧ tells H ((freeOf w).map V.int) Q
def spDay (cW cP : Addr) : Sp := fun vs H Q _ => ∃ (p l1 l2 : Addr) (w : Wl), vs = [.ref p] ∧ WallAt cW cP H p l1 l2 w ∧ Q (.int w.gone) H
/-- _law_stands(side, sizes, held, day), where all is as it stands -/
def spStands (K : PySem.W.Frag) (cW cP : Addr) : Sp := fun vs H Q _ => ∃ (p l1 l2 a b : Addr) (w : Wl), vs = [.ref p, .ref a, .ref b, .int w.gone] ∧ WallAt cW cP H p l1 l2 w ∧ SqL K H a (w.sz.map V.int) ∧ SqL K H b ((heldOf w).map oV) ∧ ∀ H', Same H H' → Q (.bl true) H'
theorem iteFe {b : Bool} {A B : Prop} (e : b = false) (h : B) : if b = true then A else B := by subst e; exact iteF h
theorem sameR {H : Hp} : Same H H := fun _ _ e => e
/-- law(script): a list of at most 63 ints; True comes back -/
def spLaw (K : PySem.W.Frag) : Sp := fun vs H Q _ => ∃ (a : Addr) (ns : List Int), vs = [.ref a] ∧ SqL K H a (ns.map V.int) ∧ ns.length ≤ 63 ∧ ∀ H', Q (.bl true) H'
/-! ### parcels come, are fetched, moved -/
/-- a def of the text that a law calls -/
structure Gd (P : Program) (w : World) (K : PySem.W.Frag) (mg : Str → Option Value) (base : Heap) (x : Str) (st : Stmt) (ps : List Str) (CX : CXT) (k : Nat) (sp : Sp) (f : Addr) (fd : FuncData) : Prop where
  F : Fun K x x st f fd
  b : Binds K fd ps []
  m : mg x = some (.ref f)
  G : FnOk P w K mg base CX k f fd ps sp
/-- a method -/
structure Md (P : Program) (w : World) (K : PySem.W.Frag) (mg : Str → Option Value) (base : Heap) (C : Addr) (m : Str) (ps : List Str) (CX : CXT) (k : Nat) (sp : Sp) (f : Addr) (fd : FuncData) : Prop where
  b : Binds K fd ps []
  me : Meth K C m f
  G : FnOk P w K mg base CX k f fd ps sp
/-- an own error class that is raised -/
structure Rs (K : PySem.W.Frag) (mg : Str → Option Value) (cWE c : Addr) (nm : Str) : Prop where
  xc : XCls K c (.ref cWE :: mroVE) "ValueError.__new__"
  xt : XTail K (.ref cWE :: mroVE)
  m : mg nm = some (.ref c)
end Pw

set_option Elab.async false
set_option linter.all false
namespace Pw
open PySem L2
def top (i : Nat) : Stmt := PySem.Challenge.pw_parcelwall_k14_texts_refused.main.body.getD i (.Pass ⟨0, 0, 0, 0⟩)
abbrev s_in_bounds : Stmt := top 10
abbrev s_check_wall : Stmt := top 11
abbrev s_read : Stmt := top 17
abbrev s_is_note : Stmt := top 18
abbrev s__law_drawn : Stmt := top 20
abbrev s__law_whole : Stmt := top 21
abbrev s__law_row : Stmt := top 22
abbrev s__law_sizes_by : Stmt := top 24
abbrev s__law_held : Stmt := top 25
abbrev s__law_stands : Stmt := top 26
abbrev s__law_due : Stmt := top 27
abbrev s__law_sign_by : Stmt := top 28
abbrev s__law_odd : Stmt := top 29
abbrev s_law : Stmt := top 30
abbrev s_Wall___init__ : Stmt := inClass (top 13) 0
abbrev s_Wall_sizes : Stmt := inClass (top 13) 1
abbrev s_Wall_held : Stmt := inClass (top 13) 2
abbrev s_Wall_free : Stmt := inClass (top 13) 3
abbrev s_Wall_day : Stmt := inClass (top 13) 4
end Pw

set_option Elab.async false
set_option linter.all false
set_option maxRecDepth 100000
set_option maxHeartbeats 4000000
namespace Pw
open PySem L2
section
variable {P : Program} {w : World} {K : PySem.W.Frag} {mg : Str → Option Value} {base : Heap}

theorem scDrawn : FnScope ["script", "k", "many", "cell", "stir"] ["script", "k", "many"] (defScope s__law_drawn) := ⟨rfl, rfl, rfl, by decide +kernel, rfl, by decide +kernel, by decide +kernel⟩
theorem ok_drawn {f : Addr} {fd : FuncData} (F : Fun K "_law_drawn" "_law_drawn" s__law_drawn f fd) (mlen : mg "len" = none) : FnOk P w K mg base CX0 1 f fd ["script", "k", "many"] (spDrawn K) := by
  refine F.ok scDrawn (fun vs H Q E h => ?_) (fun cdv A outer s H vs Q E hr h => ?_)
  · obtain ⟨a, ns, k, many, rfl, _⟩ := h
    rfl
  · obtain ⟨a, ns, k, many, rfl, hS, hlen, hk0, hk1, hm0, hm1, q⟩ := h
    refine ⟨_, pss_cons (ps_set (i := 3) scDrawn.nd rfl (Or.inl rfl) pe_int)
      (pss_cons (ps_if (pt_cmpR op_gt (pe_callB call_len_seq (by rfl) mlen PySem.boot_len (pa_cons (pv 0) pa_nil)) pe_int (nomark _))
        (pss_one (ps_set (i := 3) scDrawn.nd rfl (Or.inl rfl) (pe_ix ix_list (pv 0) (pe_op op_mod (pv 1) (pe_callB call_len_seq (by rfl) mlen PySem.boot_len (pa_cons (pv 0) pa_nil))) (fun _ _ => rfl)))) pss_nil)
      (pss_cons (ps_set (i := 4) scDrawn.nd rfl (Or.inl rfl) (pe_op op_mod (pe_op op_add (pe_op op_add (pe_op op_mul (pv 3) pe_int) (pe_op op_mul (pe_op op_add (pv 1) pe_int) pe_int)) (pe_callB call_len_seq (by rfl) mlen PySem.boot_len (pa_cons (pv 0) pa_nil))) pe_int))
      (pss_cons (ps_set (i := 4) scDrawn.nd rfl (Or.inl rfl) (pe_op op_mod (pe_op op_add (pe_op op_add (pe_op op_mul (pv 4) (pv 4)) (pe_op op_mul (pv 1) pe_int)) pe_int) pe_int))
      (pss_one (ps_ret (pe_op op_mod (pe_op op_fdiv (pe_op op_mod (pe_op op_mul (pv 4) pe_int) pe_int) pe_int) (pv 2))))))), ?_⟩
    refine ⟨_, rfl, a, _, rfl, .inl hS, _, _, rfl, rfl, _, rfl, ?_⟩
    have em : ((ns.map V.int).length : Int) = (ns.length : Int) := by rw [List.length_map]
    have c1 : ∀ i : Int, CMul i 48271 := fun i => .inr ⟨by decide, by decide⟩
    have c2 : ∀ i : Int, CMul i 7919 := fun i => .inr ⟨by decide, by decide⟩
    have c3 : ∀ i : Int, CMul i 16807 := fun i => .inr ⟨by decide, by decide⟩
    have c4 : ∀ i : Int, CMul (i % 2147483647) (i % 2147483647) := fun i => .inl ⟨Int.lt_of_lt_of_le (by decide) (Int.emod_nonneg _ (by decide)), Int.lt_trans (Int.emod_lt_of_pos _ (by decide)) (by decide)⟩
    refine ite2 (fun h => ?_) (fun h => ?_)
    · have hp : 0 < ns.length := by
        have h := of_decide_eq_true h
        rw [em] at h; omega
      have hm : 0 ≤ k % (ns.length : Int) := Int.emod_nonneg _ (by omega)
      have hm2 : k % (ns.length : Int) < ns.length := Int.emod_lt_of_pos _ (by omega)
      have hj : (k % (ns.length : Int)).toNat < ns.length := by omega
      have hat : atI (ns.map V.int) (k % ((ns.map V.int).length : Int)) = some (V.int (cellOf ns k)) := by
        rw [em]
        have e : ((k % (ns.length : Int)).toNat : Int) = k % (ns.length : Int) := Int.toNat_of_nonneg hm
        rw [← e]
        refine atI_nat ?_
        unfold cellOf
        rw [if_pos hp, List.getElem?_map, List.getElem?_eq_getElem hj]
        simp [List.getD, hj]
      refine ⟨_, rfl, _, rfl, _, rfl, a, _, rfl, .inl hS, _, _, rfl, rfl, (by rw [em]; omega), a, _, _, _, rfl, rfl, hS, hat, ?_⟩
      refine ⟨_, rfl, _, _, rfl, rfl, c1 _, _, rfl, _, _, rfl, rfl, _, _, rfl, rfl, c2 _, _, _, rfl, rfl, _, rfl, a, _, rfl, .inl hS, _, _, rfl, rfl, _, _, rfl, rfl, (by show (0 : Int) < 2147483647; decide), ?_⟩
      refine ⟨_, rfl, _, rfl, _, _, rfl, rfl, c4 _, _, rfl, _, _, rfl, rfl, c3 _, _, _, rfl, rfl, _, _, rfl, rfl, _, _, rfl, rfl, (by show (0 : Int) < 2147483647; decide), ?_⟩
      refine ⟨_, rfl, _, _, rfl, rfl, c1 _, _, _, rfl, rfl, (by show (0 : Int) < 2147483647; decide), _, _, rfl, rfl, ⟨by decide, by decide⟩, _, rfl, _, _, rfl, rfl, hm0, ?_⟩
      rw [em]
      exact q
    · have hp : ¬ 0 < ns.length := by
        intro z
        refine h (decide_eq_true ?_)
        rw [em]; omega
      have hc : cellOf ns k = 7 := by unfold cellOf; rw [if_neg hp]
      refine ⟨_, rfl, _, _, rfl, rfl, c1 _, _, rfl, _, _, rfl, rfl, _, _, rfl, rfl, c2 _, _, _, rfl, rfl, _, rfl, a, _, rfl, .inl hS, _, _, rfl, rfl, _, _, rfl, rfl, (by show (0 : Int) < 2147483647; decide), ?_⟩
      refine ⟨_, rfl, _, rfl, _, _, rfl, rfl, c4 _, _, rfl, _, _, rfl, rfl, c3 _, _, _, rfl, rfl, _, _, rfl, rfl, _, _, rfl, rfl, (by show (0 : Int) < 2147483647; decide), ?_⟩
      refine ⟨_, rfl, _, _, rfl, rfl, c1 _, _, _, rfl, rfl, (by show (0 : Int) < 2147483647; decide), _, _, rfl, rfl, ⟨by decide, by decide⟩, _, rfl, _, _, rfl, rfl, hm0, ?_⟩
      rw [em]
      unfold drawn at q
      rw [hc] at q
      exact q

end
end Pw

set_option Elab.async false
set_option linter.all false
set_option maxRecDepth 100000
set_option maxHeartbeats 4000000
namespace Pw
open PySem L2
section
variable {P : Program} {w : World} {K : PySem.W.Frag} {mg : Str → Option Value} {base : Heap}
theorem scWhole : FnScope ["found"] ["found"] (defScope s__law_whole) := ⟨rfl, rfl, rfl, by decide +kernel, rfl, by decide +kernel, by decide +kernel⟩
theorem ok_whole {f : Addr} {fd : FuncData} (F : Fun K "_law_whole" "_law_whole" s__law_whole f fd) (misi : mg "isinstance" = none) (mint : mg "int" = none) (mbool : mg "bool" = none)
    (k1 : PySem.W.kitOne K (.type "int") (.type "int") = some true) (k2 : PySem.W.kitOne K (.type "int") (.type "bool") = some false) : FnOk P w K mg base CX0 1 f fd ["found"] spWhole := by
  refine F.ok scWhole (fun vs H Q E h => ?_) (fun cdv A outer s H vs Q E hr h => ?_)
  · obtain ⟨i, rfl, _⟩ := h
    rfl
  · obtain ⟨i, rfl, q⟩ := h
    refine ⟨_, pss_one (ps_ret (pe_and (pe_callB call_isi (by rfl) misi PyProof.Rows.boot_isinstance (pa_cons (pv 0) (pa_cons (pe_bltn (v := .ty "int") (by rfl) mint (by decide +kernel) rfl) pa_nil)))
      (pe_one (pe_not (pe_callB call_isi (by rfl) misi PyProof.Rows.boot_isinstance (pa_cons (pv 0) (pa_cons (pe_bltn (v := .ty "bool") (by rfl) mbool (by decide +kernel) rfl) pa_nil))))))), ?_⟩
    refine ⟨_, rfl, _, _, _, _, rfl, .of (.int i), (by intro z; cases z), k1, _, rfl, iteT ?_⟩
    refine ⟨_, rfl, _, _, _, _, rfl, .of (.int i), (by intro z; cases z), k2, _, rfl, ?_⟩
    exact q

theorem at_int {xs : List Int} {i : Nat} (h : i < xs.length) : atI (xs.map V.int) ((0 : Int) + (i : Nat)) = some (V.int (xs[i])) := by
  rw [Int.zero_add]
  exact atI_nat (by rw [List.getElem?_map, List.getElem?_eq_getElem h]; rfl)
theorem scRow : FnScope ["found", "due", "k"] ["found", "due"] (defScope s__law_row) := ⟨rfl, rfl, rfl, by decide +kernel, rfl, by decide +kernel, by decide +kernel⟩
theorem ok_row {f fW : Addr} {fd fdW : FuncData} (F : Fun K "_law_row" "_law_row" s__law_row f fd) (gW : Gd P w K mg base "_law_whole" s__law_whole ["found"] CX0 1 spWhole fW fdW)
    (misi : mg "isinstance" = none) (mlist : mg "list" = none) (mlen : mg "len" = none) (mrange : mg "range" = none) (k1 : PySem.W.kitOne K (.type "list") (.type "list") = some true) : FnOk P w K mg base CX0 2 f fd ["found", "due"] (spRow K) := by
  refine F.ok scRow (fun vs H Q E h => ?_) (fun cdv A outer s H vs Q E hr h => ?_)
  · obtain ⟨a, b, xs, rfl, _⟩ := h
    rfl
  · obtain ⟨a, b, xs, rfl, ha, hb, hl, q⟩ := h
    refine ⟨_, pss_cons (ps_if (pw_or (pt_not (pt_val (pe_callB call_isi (by rfl) misi PyProof.Rows.boot_isinstance (pa_cons (pv 0) (pa_cons (pe_bltn (v := .ty "list") (by rfl) mlist (by decide +kernel) rfl) pa_nil)))))
        (pw_or1 (pt_cmpR op_ne (pe_callB call_len_seq (by rfl) mlen PySem.boot_len (pa_cons (pv 0) pa_nil)) (pe_callB call_len_seq (by rfl) mlen PySem.boot_len (pa_cons (pv 1) pa_nil)) (nomark _)))).pt (pss_one (ps_ret pe_bl)) pss_nil)
      (pss_cons (ps_for PassesOwn.never rfl (pi_range1 (by rfl) mrange (pa_cons (pe_callB call_len_seq (by rfl) mlen PySem.boot_len (pa_cons (pv 1) pa_nil)) pa_nil)) (pg_name (i := 2) scRow.nd rfl (Or.inl rfl))
        (pss_one (ps_if (pw_or (pt_not (pt_val (pe_call gW.G hr (by rfl) gW.m gW.F.kp gW.b .nil pass0 (pa_cons (pe_ix ix_list (pv 0) (pv 2) (fun _ _ => rfl)) pa_nil))))
          (pw_or1 (pt_cmpR op_ne (pe_ix ix_list (pv 0) (pv 2) (fun _ _ => rfl)) (pe_ix ix_list (pv 1) (pv 2) (fun _ _ => rfl)) (nomark _)))).pt (pss_one (ps_ret pe_bl)) pss_nil)))
      (pss_one (ps_ret pe_bl))), ?_⟩
    refine ⟨_, rfl, _, _, _, _, rfl, .of (.lst ha), (by intro z; cases z), k1, _, rfl, iteF ?_⟩
    refine ⟨_, rfl, a, _, rfl, .inl (SqL.of ha), _, rfl, b, _, rfl, .inl hb, rfl, _, rfl, iteNS rfl ?_⟩
    refine ⟨_, rfl, b, _, rfl, .inl hb, _, rfl, (by rw [List.length_map]; omega), (by rw [List.length_map]; omega), ?_⟩
    have el : ((xs.map V.int).length : Int).toNat = xs.length := by rw [List.length_map]; omega
    rw [el]
    refine for_range (n := xs.length) (fun i σ H2 => H2 = H ∧ ∃ v, σ = [some (.ref a), some (.ref b), v]) ⟨rfl, none, rfl⟩ ?_ ?_
    · rintro i σ H2 hi ⟨rfl, v, rfl⟩
      refine ⟨_, rfl, _, rfl, a, _, _, _, rfl, rfl, SqL.of ha, at_int hi, _, rfl, _, rfl, iteF ?_⟩
      refine ⟨_, rfl, _, rfl, a, _, _, _, rfl, rfl, SqL.of ha, at_int hi, _, rfl, _, rfl, b, _, _, _, rfl, rfl, hb, at_int hi, rfl, _, rfl, iteNS rfl ?_⟩
      exact ⟨rfl, _, rfl⟩
    · rintro σ H2 ⟨rfl, v, rfl⟩
      exact q
end
end Pw

set_option Elab.async false
set_option linter.all false
set_option maxRecDepth 100000
set_option maxHeartbeats 4000000
namespace Pw
open PySem L2
section
variable {P : Program} {w : World} {K : PySem.W.Frag} {mg : Str → Option Value} {base : Heap}
theorem at_o {xs : List (Option Int)} {i : Nat} (h : i < xs.length) : atI (xs.map oV) ((0 : Int) + (i : Nat)) = some (oV (xs[i])) := by
  rw [Int.zero_add]
  exact atI_nat (by rw [List.getElem?_map, List.getElem?_eq_getElem h]; rfl)
theorem scHeldEq : FnScope ["found", "due", "k"] ["found", "due"] (defScope s__law_held) := ⟨rfl, rfl, rfl, by decide +kernel, rfl, by decide +kernel, by decide +kernel⟩
theorem ok_heldEq {f fW : Addr} {fd fdW : FuncData} (F : Fun K "_law_held" "_law_held" s__law_held f fd) (gW : Gd P w K mg base "_law_whole" s__law_whole ["found"] CX0 1 spWhole fW fdW)
    (misi : mg "isinstance" = none) (mlist : mg "list" = none) (mlen : mg "len" = none) (mrange : mg "range" = none) (k1 : PySem.W.kitOne K (.type "list") (.type "list") = some true) : FnOk P w K mg base CX0 2 f fd ["found", "due"] (spHeldEq K) := by
  refine F.ok scHeldEq (fun vs H Q E h => ?_) (fun cdv A outer s H vs Q E hr h => ?_)
  · obtain ⟨a, b, xs, rfl, _⟩ := h
    rfl
  · obtain ⟨a, b, xs, rfl, ha, hb, hl, q⟩ := h
    refine ⟨_, pss_cons (ps_if (pw_or (pt_not (pt_val (pe_callB call_isi (by rfl) misi PyProof.Rows.boot_isinstance (pa_cons (pv 0) (pa_cons (pe_bltn (v := .ty "list") (by rfl) mlist (by decide +kernel) rfl) pa_nil)))))
        (pw_or1 (pt_cmpR op_ne (pe_callB call_len_seq (by rfl) mlen PySem.boot_len (pa_cons (pv 0) pa_nil)) (pe_callB call_len_seq (by rfl) mlen PySem.boot_len (pa_cons (pv 1) pa_nil)) (nomark _)))).pt (pss_one (ps_ret pe_bl)) pss_nil)
      (pss_cons (ps_for PassesOwn.never rfl (pi_range1 (by rfl) mrange (pa_cons (pe_callB call_len_seq (by rfl) mlen PySem.boot_len (pa_cons (pv 1) pa_nil)) pa_nil)) (pg_name (i := 2) scHeldEq.nd rfl (Or.inl rfl))
        (pss_one (ps_if (pt_cmp (pc_isN (pe_ix ix_list (pv 1) (pv 2) (fun _ _ => rfl))))
          (pss_one (ps_if (pt_cmp (pc_notN (pe_ix ix_list (pv 0) (pv 2) (fun _ _ => rfl)))) (pss_one (ps_ret pe_bl)) pss_nil))
          (pss_one (ps_if (pw_or (pt_not (pt_val (pe_call gW.G hr (by rfl) gW.m gW.F.kp gW.b .nil pass0 (pa_cons (pe_ix ix_list (pv 0) (pv 2) (fun _ _ => rfl)) pa_nil))))
            (pw_or1 (pt_cmpR op_ne (pe_ix ix_list (pv 0) (pv 2) (fun _ _ => rfl)) (pe_ix ix_list (pv 1) (pv 2) (fun _ _ => rfl)) (nomark _)))).pt (pss_one (ps_ret pe_bl)) pss_nil)))))
      (pss_one (ps_ret pe_bl))), ?_⟩
    refine ⟨_, rfl, _, _, _, _, rfl, .of (.lst ha), (by intro z; cases z), k1, _, rfl, iteF ?_⟩
    refine ⟨_, rfl, a, _, rfl, .inl (SqL.of ha), _, rfl, b, _, rfl, .inl hb, rfl, _, rfl, iteNS rfl ?_⟩
    refine ⟨_, rfl, b, _, rfl, .inl hb, _, rfl, (by rw [List.length_map]; omega), (by rw [List.length_map]; omega), ?_⟩
    have el : ((xs.map oV).length : Int).toNat = xs.length := by rw [List.length_map]; omega
    rw [el]
    refine for_range (n := xs.length) (fun i σ H2 => H2 = H ∧ ∃ v, σ = [some (.ref a), some (.ref b), v]) ⟨rfl, none, rfl⟩ ?_ ?_
    · rintro i σ H2 hi ⟨rfl, v, rfl⟩
      have h1 := at_o hi
      cases e : xs[i] with
      | none =>
        rw [e] at h1
        refine ⟨_, rfl, _, rfl, b, _, _, _, rfl, rfl, hb, h1, _, rfl, iteT ?_⟩
        refine ⟨_, rfl, _, rfl, a, _, _, _, rfl, rfl, SqL.of ha, h1, _, rfl, iteF ?_⟩
        exact ⟨rfl, _, rfl⟩
      | some j =>
        rw [e] at h1
        refine ⟨_, rfl, _, rfl, b, _, _, _, rfl, rfl, hb, h1, _, rfl, iteF ?_⟩
        refine ⟨_, rfl, _, rfl, a, _, _, _, rfl, rfl, SqL.of ha, h1, _, rfl, _, rfl, iteF ?_⟩
        refine ⟨_, rfl, _, rfl, a, _, _, _, rfl, rfl, SqL.of ha, h1, _, rfl, _, rfl, b, _, _, _, rfl, rfl, hb, h1, rfl, _, rfl, iteNS rfl ?_⟩
        exact ⟨rfl, _, rfl⟩
    · rintro σ H2 ⟨rfl, v, rfl⟩
      exact q
end
end Pw

set_option Elab.async false
set_option linter.all false
set_option maxRecDepth 100000
set_option maxHeartbeats 4000000
namespace Pw
open PySem L2
section
variable {P : Program} {w : World} {K : PySem.W.Frag} {mg : Str → Option Value} {base : Heap}
/-! ### the checks -/
theorem scBounds : FnScope ["number"] ["number"] (defScope s_in_bounds) := ⟨rfl, rfl, rfl, by decide +kernel, rfl, by decide +kernel, by decide +kernel⟩
theorem ok_bounds {f : Addr} {fd : FuncData} {t1 t2 : Tok} (F : Fun K "in_bounds" "in_bounds" s_in_bounds f fd) (m1 : mg "LEAST" = some (.int 1 t1)) (m2 : mg "GREATEST" = some (.int 9 t2)) : FnOk P w K mg base CX0 1 f fd ["number"] spBounds := by
  refine F.ok scBounds (fun vs H Q E h => ?_) (fun cdv A outer s H vs Q E hr h => ?_)
  · obtain ⟨n, rfl, _⟩ := h
    rfl
  · obtain ⟨n, rfl, q⟩ := h
    refine ⟨_, pss_one (ps_ret (pe_chain op_le op_le (pe_glob (v := .int 1) (by rfl) m1 ⟨_, rfl⟩) (pv 0) (pe_glob (v := .int 9) (by rfl) m2 ⟨_, rfl⟩))), ?_⟩
    refine ⟨_, rfl, _, _, rfl, rfl, _, rfl, ite2 (fun h => ?_) (fun h => ?_)⟩
    · refine ⟨_, _, rfl, rfl, ?_⟩
      rw [h, Bool.true_and] at q
      exact q
    · rw [Bool.eq_false_iff.mpr h, Bool.false_and] at q
      exact q
theorem scCheckWall : FnScope ["sizes", "size"] ["sizes"] (defScope s_check_wall) := ⟨rfl, rfl, rfl, by decide +kernel, rfl, by decide +kernel, by decide +kernel⟩
theorem okSizes_all {sz : List Int} (h : okSizes sz = true) : 1 ≤ sz.length ∧ sz.length ≤ 8 ∧ ∀ z ∈ sz, 1 ≤ z ∧ z ≤ 9 := by
  unfold okSizes at h
  rw [Bool.and_eq_true, Bool.and_eq_true] at h
  obtain ⟨⟨h1, h2⟩, h3⟩ := h
  refine ⟨of_decide_eq_true h1, of_decide_eq_true h2, fun z hz => ?_⟩
  have := List.all_eq_true.mp h3 z hz
  rw [Bool.and_eq_true] at this
  exact ⟨of_decide_eq_true this.1, of_decide_eq_true this.2⟩
theorem okSizes_of {sz : List Int} (h1 : 1 ≤ sz.length) (h2 : sz.length ≤ 8) (h3 : ∀ z ∈ sz, 1 ≤ z ∧ z ≤ 9) : okSizes sz = true := by
  unfold okSizes
  rw [decide_eq_true h1, decide_eq_true h2, Bool.true_and, Bool.true_and]
  exact List.all_eq_true.mpr fun z hz => by rw [decide_eq_true (h3 z hz).1, decide_eq_true (h3 z hz).2]; rfl
theorem ok_checkWall {f fB cNW : Addr} {fd fdB : FuncData} {t1 t2 t3 : Tok} {cWE : Addr} (F : Fun K "check_wall" "check_wall" s_check_wall f fd) (gB : Gd P w K mg base "in_bounds" s_in_bounds ["number"] CX0 1 spBounds fB fdB)
    (mlen : mg "len" = none) (mM : mg "MOST_BOXES" = some (.int 8 t1)) (mL : mg "LEAST" = some (.int 1 t2)) (mGr : mg "GREATEST" = some (.int 9 t3)) (R : Rs K mg cWE cNW "NoWall") : FnOk P w K mg base (CXF P w) 2 f fd ["sizes"] (spCheckWall K cNW) := by
  refine F.okX scCheckWall (fun vs H Q E h => ?_) (fun cdv A outer s H vs Q E hr h => ?_)
  · obtain ⟨a, sz, rfl, _⟩ := h
    rfl
  · obtain ⟨a, sz, rfl, ha, q1, q2⟩ := h
    have GB' := gB.G.cxf
    refine ⟨_, pss_cons (ps_if (pw_or (pt_cmpR op_lt (pe_callB call_len_seq (by rfl) mlen PySem.boot_len (pa_cons (pv 0) pa_nil)) pe_int (nomark _)) (pw_or1 (pt_cmpR op_gt (pe_callB call_len_seq (by rfl) mlen PySem.boot_len (pa_cons (pv 0) pa_nil)) (pe_glob (v := .int 8) (by rfl) mM ⟨_, rfl⟩) (nomark _)))).pt
        (pss_one (ps_raise PySem.F.excBase_ValueError rfl passM_def rfl R.xc R.xt (by rfl) R.m (pa_cons (pe_fstr (pj_str (k := 100) (by decide +kernel) (pj_int (pe_glob (v := .int 8) (by rfl) mM ⟨_, rfl⟩) (pj_str (k := 100) (by decide +kernel) pj_nil (by decide)) (by decide)) (by decide)) (by decide)) pa_nil))) pss_nil)
      (pss_one (ps_for own_def rfl (pi_list (pv 0)) (pg_name (i := 1) scCheckWall.nd rfl (Or.inl rfl))
        (pss_one (ps_if (pt_not (pt_val (pe_call GB' hr (by rfl) gB.m gB.F.kp gB.b .nil pass_def (pa_cons (pv 1) pa_nil))))
          (pss_one (ps_raise PySem.F.excBase_ValueError rfl passM_def rfl R.xc R.xt (by rfl) R.m (pa_cons (pe_fstr (pj_str (k := 100) (by decide +kernel) (pj_int (pe_glob (v := .int 1) (by rfl) mL ⟨_, rfl⟩) (pj_str (k := 100) (by decide +kernel) (pj_int (pe_glob (v := .int 9) (by rfl) mGr ⟨_, rfl⟩) pj_nil (by decide)) (by decide)) (by decide)) (by decide)) (by decide)) pa_nil))) pss_nil)))), ?_⟩
    have em : ((sz.map V.int).length : Int) = (sz.length : Int) := by rw [List.length_map]
    have one : ([V.str Str.empty] : List V).length ≤ sizeLine := by show 1 ≤ sizeLine; decide
    refine ⟨_, rfl, a, _, rfl, .inl ha, _, _, rfl, rfl, _, rfl, ite2 (fun h => iteT ?_) (fun h => ?_)⟩
    · have h := of_decide_eq_true h
      refine ⟨8, rfl, (by decide), fun out => ⟨one, q2 ?_⟩⟩
      rw [em] at h
      refine Bool.eq_false_iff.mpr fun z => ?_
      have := (okSizes_all z).1
      omega
    · have h := of_decide_eq_false (Bool.eq_false_iff.mpr h)
      rw [em] at h
      refine ⟨_, rfl, a, _, rfl, .inl ha, _, _, rfl, rfl, _, rfl, ite2 (fun h2 => ?_) (fun h2 => ?_)⟩
      · have h2 := of_decide_eq_true h2
        refine ⟨8, rfl, (by decide), fun out => ⟨one, q2 ?_⟩⟩
        rw [em] at h2
        refine Bool.eq_false_iff.mpr fun z => ?_
        have := (okSizes_all z).2.1
        omega
      · have h2 := of_decide_eq_false (Bool.eq_false_iff.mpr h2)
        rw [em] at h2
        refine ⟨_, rfl, a, rfl, ⟨_, ha⟩, for_list (K := K) (a := a) (xs := sz.map V.int) (fun i σ H2 => H2 = H ∧ (∃ v, σ = [some (.ref a), v]) ∧ ∀ (j : Nat) z, j < i → sz[j]? = some z → 1 ≤ z ∧ z ≤ 9)
          ⟨rfl, ⟨none, rfl⟩, fun j z hj => absurd hj (Nat.not_lt_zero _)⟩ (fun i σ H2 _ ⟨e, _⟩ => by rw [e]; exact ha) ?_ ?_⟩
        · rintro i y σ H2 hi ⟨rfl, ⟨v, rfl⟩, hall⟩
          obtain ⟨z, hz, rfl⟩ : ∃ z, sz[i]? = some z ∧ y = V.int z := by
            rw [List.getElem?_map] at hi
            cases e : sz[i]? with
            | none => rw [e] at hi; cases hi
            | some z => rw [e] at hi; exact ⟨z, rfl, (Option.some.inj hi).symm⟩
          have hmem : z ∈ sz := List.mem_of_getElem? hz
          refine ⟨_, rfl, z, rfl, _, rfl, ?_⟩
          by_cases hb : 1 ≤ z ∧ z ≤ 9
          · rw [decide_eq_true hb.1, decide_eq_true hb.2]
            refine iteF ⟨rfl, ⟨_, rfl⟩, fun j z' hj e => ?_⟩
            by_cases hji : j = i
            · subst hji
              rw [hz] at e; cases e
              exact hb
            · exact hall j z' (by omega) e
          · have hb' : (decide (1 ≤ z) && decide (z ≤ 9)) = false := by
              refine Bool.eq_false_iff.mpr fun z' => hb ?_
              rw [Bool.and_eq_true] at z'
              exact ⟨of_decide_eq_true z'.1, of_decide_eq_true z'.2⟩
            rw [hb']
            refine iteT ⟨1, rfl, (by decide), 9, rfl, (by decide), fun out => ⟨one, q2 ?_⟩⟩
            exact Bool.eq_false_iff.mpr fun z' => hb ((okSizes_all z').2.2 z hmem)
        · rintro σ H2 ⟨rfl, ⟨v, rfl⟩, hall⟩
          refine q1 (okSizes_of (by omega) (by omega) fun z hz => ?_)
          obtain ⟨j, hj, e⟩ := List.mem_iff_getElem.mp hz
          exact hall j z (by rw [List.length_map]; exact hj) (by rw [List.getElem?_eq_getElem hj, e])
end
end Pw

set_option Elab.async false
set_option linter.all false
set_option maxRecDepth 100000
set_option maxHeartbeats 4000000
namespace Pw
open PySem L2
section
variable {P : Program} {w : World} {K : PySem.W.Frag} {mg : Str → Option Value} {base : Heap}
theorem boot_listT : bootBuiltins "list" = some (.type "list") := by decide +kernel
theorem scInit : FnScope ["self", "sizes"] ["self", "sizes"] (defScope s_Wall___init__) := ⟨rfl, rfl, rfl, by decide +kernel, rfl, by decide +kernel, by decide +kernel⟩
theorem ok_init {f fC cW cP cNW : Addr} {fd fdC : FuncData} (F : Fun K "__init__" "Wall.__init__" s_Wall___init__ f fd) (T : WTxt K cW) (gC : Gd P w K mg base "check_wall" s_check_wall ["sizes"] (CXF P w) 2 (spCheckWall K cNW) fC fdC)
    (mlist : mg "list" = none) : FnOk P w K mg base (CXF P w) 3 f fd ["self", "sizes"] (spInit K cW cP cNW) := by
  refine F.okX scInit (fun vs H Q E h => ?_) (fun cdv A outer s H vs Q E hr h => ?_)
  · obtain ⟨p, dx, a, sz, rfl, _⟩ := h
    rfl
  · obtain ⟨p, dx, a, sz, rfl, hp, ha, q1, q2⟩ := h
    refine ⟨_, pss_cons (ps_expr (pe_call gC.G hr (by rfl) gC.m gC.F.kp gC.b .nil pass_def (pa_cons (pv 1) pa_nil)))
      (pss_cons (ps_fld (pv 0) (pe_callTy call_list_of (by rfl) mlist boot_listT (pa_cons (pv 1) pa_nil)) rfl)
      (pss_cons (ps_fld (pv 0) (pe_comp (N := ["size"]) (src := [none]) rfl (blk (osc := defScope s_Wall___init__) (oN := ["self", "sizes"]) rfl rfl (by decide +kernel)) (pi_list (pv 1))
        (fun C s₀ H₀ ex pn => pg_name (i := 0) (show (["size"] : List Str).Nodup by decide +kernel) rfl (Or.inl rfl) (Or.inr rfl)) (fun C s₀ H₀ ex pn => pts_nil) (fun C s₀ H₀ ex pn => pe_non)) rfl)
      (pss_cons (ps_fld (pv 0) pe_int rfl)
      (pss_one (ps_fld (pv 0) pe_int rfl))))), ?_⟩
    refine ⟨_, rfl, a, sz, rfl, ha, fun hok => ?_, fun hno => q2 hno⟩
    -- box_sizes
    refine ⟨_, rfl, a, _, rfl, .inl ha, fun l1 hl1 => ⟨_, rfl, p, cW, dx, [], rfl, (by rw [upd_ne (ne_of_none hp hl1)]; exact hp), T.cl, T.n1, (by show 0 < 1000; decide), ?_⟩⟩
    have npl1 : p ≠ l1 := ne_of_none hp hl1
    have ha1 : SqL K (upd (upd H l1 (.lst (sz.map V.int))) p (.ins cW dx (putF "box_sizes" (.ref l1) []))) a (sz.map V.int) := by
      rcases ha with (h | ⟨o, h⟩) | h
      · have nap : a ≠ p := ne_of h hp (by intro z; cases z)
        exact .inl (.inl (by rw [upd_ne nap, upd_ne (ne_of_none h hl1)]; exact h))
      · have nap : a ≠ p := ne_of h hp (by intro z; cases z)
        exact .inl (.inr ⟨o, by rw [upd_ne nap, upd_ne (ne_of_none h hl1)]; exact h⟩)
      · exact .inr h
    refine ⟨_, rfl, a, rfl, ⟨_, ha1⟩, fun l2 hl2 => ?_⟩
    have n2p : l2 ≠ p := fun z => by rw [z, upd_same] at hl2; cases hl2
    have n21 : l2 ≠ l1 := fun z => by rw [upd_ne n2p, z, upd_same] at hl2; cases hl2
    have hl2' : H l2 = none := by rw [upd_ne n2p, upd_ne n21] at hl2; exact hl2
    have hsz : sz.length ≤ 8 := (okSizes_all hok).2.1
    have hline : (8 : Nat) < sizeLine := by decide
    have z0 : ([] : List (Str × V)).length = 0 := rfl
    refine comp_list (K := K) (a := a) (src := [none]) (xs := sz.map V.int) (fun i σ1 H2 => (∃ v, σ1 = [v]) ∧ H2 = upd (upd (upd H l1 (.lst (sz.map V.int))) p (.ins cW dx (putF "box_sizes" (.ref l1) []))) l2 (.lst (List.replicate i .non)) ∧ i ≤ sz.length) ⟨⟨none, rfl⟩, rfl, Nat.zero_le _⟩ ?_ ?_ ?_
    · rintro i σ1 H2 _ ⟨_, rfl, _⟩
      rcases ha1 with (h | ⟨o, h⟩) | h
      · exact .inl (.inl (by rw [upd_ne (ne_of_none h hl2)]; exact h))
      · exact .inl (.inr ⟨o, by rw [upd_ne (ne_of_none h hl2)]; exact h⟩)
      · exact .inr h
    · rintro i x σ1 H2 hx ⟨⟨v, rfl⟩, rfl, hi⟩
      have hil : i < sz.length := by have := (List.getElem?_eq_some_iff.mp hx).1; rw [List.length_map] at this; exact this
      refine gN ?_
      refine tT ?_
      refine ⟨_, upd_same, ?_, ⟨_, rfl⟩, ?_, hil⟩
      · rw [List.length_replicate]; omega
      · rw [upd_upd, ← List.replicate_succ']
    · rintro σ1 H2 ⟨⟨v, rfl⟩, rfl, hi⟩
      rw [List.length_map]
      refine ⟨_, rfl, p, cW, dx, _, rfl, (by rw [upd_ne (Ne.symm n2p)]; exact upd_same), T.cl, T.n2, (by show 1 < 1000; decide), ?_⟩
      refine ⟨_, rfl, p, cW, dx, _, rfl, upd_same, T.cl, T.n3, (by have := length_putF "parcels" (V.ref l2) (putF "box_sizes" (V.ref l1) []); have := length_putF "box_sizes" (V.ref l1) []; omega), ?_⟩
      refine ⟨_, rfl, p, cW, dx, _, rfl, upd_same, T.cl, T.n4, (by have := length_putF "came" (V.int 0) (putF "parcels" (V.ref l2) (putF "box_sizes" (V.ref l1) [])); have := length_putF "parcels" (V.ref l2) (putF "box_sizes" (V.ref l1) []); have := length_putF "box_sizes" (V.ref l1) []; omega), ?_⟩
      refine q1 hok l1 l2 _ hl1 hl2' ⟨⟨dx, upd_same⟩, ?_, ?_, fun q hq => ?_, ?_, hsz, Ne.symm n21, fun q hq => by have := List.eq_of_mem_replicate hq; cases this⟩ fun b o e hb => ?_
      · rw [upd_ne (Ne.symm npl1), upd_ne (Ne.symm npl1), upd_ne (Ne.symm npl1), upd_ne (Ne.symm n21), upd_ne (Ne.symm npl1), upd_same]
      · rw [upd_ne n2p, upd_ne n2p, upd_ne n2p, upd_same, List.map_replicate]; rfl
      · have := List.eq_of_mem_replicate hq; cases this
      · rw [List.length_replicate]
      · rw [upd_ne hb, upd_ne hb, upd_ne hb, upd_ne (ne_of_none e hl2'), upd_ne hb, upd_ne (ne_of_none e hl1)]
        exact e
end
end Pw

set_option Elab.async false
set_option linter.all false
set_option maxRecDepth 100000
set_option maxHeartbeats 4000000
namespace Pw
open PySem L2
section
variable {P : Program} {w : World} {K : PySem.W.Frag} {mg : Str → Option Value} {base : Heap}
theorem same_upd {H : Hp} {a : Addr} {o : HO} (h : H a = none) : Same H (upd H a o) := fun b u e => by rw [upd_ne (ne_of_none e h)]; exact e
theorem same_put {H H1 : Hp} {a : Addr} {o : HO} (s : Same H H1) (h : H a = none) : Same H (upd H1 a o) := fun b u e => by rw [upd_ne (ne_of_none e h)]; exact s b u e
theorem pf_num (n z l : Int) : (pflds n z l).lookup ("number" : Str) = some (.int n) := by
  unfold pflds; rw [lookup_putF, if_neg (by decide +kernel), lookup_putF, if_neg (by decide +kernel), lookup_putF, if_pos rfl]
theorem take_map_snoc {α β : Type} {f : α → β} {xs : List α} {i : Nat} {x : α} (h : xs[i]? = some x) : (xs.take i).map f ++ [f x] = (xs.take (i + 1)).map f := by
  have hi : i < xs.length := (List.getElem?_eq_some_iff.mp h).1
  have e : xs[i] = x := (List.getElem?_eq_some_iff.mp h).2
  rw [List.take_succ_eq_append_getElem hi, List.map_append, e]
  rfl
def freeTo (ps : List (Option Pc)) (n : Nat) : List Int := ((List.range n).filter fun i => (ps[i]?.join).isNone).map (fun i : Nat => (i : Int))
theorem freeTo_succ (ps : List (Option Pc)) (n : Nat) : freeTo ps (n + 1) = freeTo ps n ++ (if (ps[n]?.join).isNone then [(n : Int)] else []) := by
  unfold freeTo
  rw [List.range_succ, List.filter_append, List.map_append]
  congr 1
  by_cases h : (ps[n]?.join).isNone = true
  · simp [h]
  · simp [h]
theorem freeTo_len (ps : List (Option Pc)) (n : Nat) : (freeTo ps n).length ≤ n := by
  unfold freeTo
  rw [List.length_map]
  exact Nat.le_trans (List.length_filter_le _ _) (by rw [List.length_range]; exact Nat.le_refl _)
theorem scSizes : FnScope ["self"] ["self"] (defScope s_Wall_sizes) := ⟨rfl, rfl, rfl, by decide +kernel, rfl, by decide +kernel, by decide +kernel⟩
theorem ok_sizes {f cW cP : Addr} {fd : FuncData} (F : Fun K "sizes" "Wall.sizes" s_Wall_sizes f fd) (T : WTxt K cW) (mlist : mg "list" = none) : FnOk P w K mg base CX0 1 f fd ["self"] (spSizes cW cP) := by
  refine F.ok scSizes (fun vs H Q E h => ?_) (fun cdv A outer s H vs Q E hr h => ?_)
  · obtain ⟨p, l1, l2, w, rfl, _⟩ := h
    rfl
  · obtain ⟨p, l1, l2, w, rfl, W, q⟩ := h
    obtain ⟨dx, ho⟩ := W.ob
    refine ⟨_, pss_one (ps_ret (pe_callTy call_list_of (by rfl) mlist boot_listT (pa_cons (pe_fld (pv 0) rfl) pa_nil))), ?_⟩
    exact ⟨_, rfl, p, cW, dx, _, _, rfl, ho, T.cl, T.n1, wf_sizes _ _ _ _, l1, _, rfl, .inl (SqL.of W.s1), fun l hl => q l _ hl (same_upd hl) upd_same⟩
theorem scDay : FnScope ["self"] ["self"] (defScope s_Wall_day) := ⟨rfl, rfl, rfl, by decide +kernel, rfl, by decide +kernel, by decide +kernel⟩
theorem ok_day {f cW cP : Addr} {fd : FuncData} (F : Fun K "day" "Wall.day" s_Wall_day f fd) (T : WTxt K cW) : FnOk P w K mg base CX0 1 f fd ["self"] (spDay cW cP) := by
  refine F.ok scDay (fun vs H Q E h => ?_) (fun cdv A outer s H vs Q E hr h => ?_)
  · obtain ⟨p, l1, l2, w, rfl, _⟩ := h
    rfl
  · obtain ⟨p, l1, l2, w, rfl, W, q⟩ := h
    obtain ⟨dx, ho⟩ := W.ob
    exact ⟨_, pss_one (ps_ret (pe_fld (pv 0) rfl)), _, rfl, p, cW, dx, _, _, rfl, ho, T.cl, T.n4, wf_gone _ _ _ _, q⟩
theorem scHeld : FnScope ["self"] ["self"] (defScope s_Wall_held) := ⟨rfl, rfl, rfl, by decide +kernel, rfl, by decide +kernel, by decide +kernel⟩
theorem ok_held {f cW cP : Addr} {fd : FuncData} (F : Fun K "held" "Wall.held" s_Wall_held f fd) (T : WTxt K cW) (TP : PTxt K cP) : FnOk P w K mg base CX0 1 f fd ["self"] (spHeld cW cP) := by
  refine F.ok scHeld (fun vs H Q E h => ?_) (fun cdv A outer s H vs Q E hr h => ?_)
  · obtain ⟨p, l1, l2, w, rfl, _⟩ := h
    rfl
  · obtain ⟨p, l1, l2, w, rfl, W, q⟩ := h
    obtain ⟨dx, ho⟩ := W.ob
    refine ⟨_, pss_one (ps_ret (pe_comp (N := ["parcel"]) (src := [none]) rfl (blk (osc := defScope s_Wall_held) (oN := ["self"]) rfl rfl (by decide +kernel)) (pi_list (pe_fld (pv 0) rfl))
      (fun C s₀ H₀ ex pn => pg_name (i := 0) (show (["parcel"] : List Str).Nodup by decide +kernel) rfl (Or.inl rfl) (Or.inr rfl)) (fun C s₀ H₀ ex pn => pts_nil)
      (fun C s₀ H₀ ex pn => pe_ifExp (pt_cmp (pc_isN (pv 0))) pe_non (pe_fldB (K := K) rfl (pv 0) rfl)))), ?_⟩
    refine ⟨_, rfl, p, cW, dx, _, _, rfl, ho, T.cl, T.n2, wf_parcels _ _ _ _, l2, rfl, ⟨_, SqL.of W.s2⟩, fun D hD => ?_⟩
    have hlen : w.ps.length ≤ 8 := by rw [W.len]; exact W.few
    have hline : (8 : Nat) < sizeLine := by decide
    refine comp_list (K := K) (a := l2) (src := [none]) (xs := w.ps.map pV) (fun i σ1 H2 => (∃ v, σ1 = [v]) ∧ H2 = upd H D (.lst ((w.ps.take i).map fun o => oV (o.map (·.num)))) ∧ i ≤ w.ps.length) ⟨⟨none, rfl⟩, by rw [List.take_zero]; rfl, Nat.zero_le _⟩ ?_ ?_ ?_
    · rintro i σ1 H2 _ ⟨_, rfl, _⟩
      exact SqL.of (by rw [upd_ne (ne_of_none W.s2 hD)]; exact W.s2)
    · rintro i x σ1 H2 hx ⟨⟨v, rfl⟩, rfl, hi⟩
      obtain ⟨o, ho', rfl⟩ : ∃ o, w.ps[i]? = some o ∧ x = pV o := by
        rw [List.getElem?_map] at hx
        cases e : w.ps[i]? with
        | none => rw [e] at hx; cases hx
        | some z => rw [e] at hx; exact ⟨z, rfl, (Option.some.inj hx).symm⟩
      have hil : i < w.ps.length := (List.getElem?_eq_some_iff.mp ho').1
      refine gN ?_
      refine tT ?_
      have fin : ∀ y, y = oV (o.map (·.num)) → ∃ zs, (upd H D (.lst ((w.ps.take i).map fun o => oV (o.map (·.num))))) D = some (.lst zs) ∧ zs.length < sizeLine ∧ (∃ v_1, [some (pV o)] = [v_1]) ∧ upd (upd H D (.lst ((w.ps.take i).map fun o => oV (o.map (·.num))))) D (.lst (zs ++ [y])) = upd H D (.lst ((w.ps.take (i + 1)).map fun o => oV (o.map (·.num)))) ∧ i + 1 ≤ w.ps.length := by
        rintro y rfl
        refine ⟨_, upd_same, by rw [List.length_map, List.length_take]; omega, ⟨_, rfl⟩, ?_, hil⟩
        rw [upd_upd, take_map_snoc (f := fun o : Option Pc => oV (o.map (·.num))) ho']
      cases o with
      | none => exact ⟨_, rfl, _, rfl, iteT (fin _ rfl)⟩
      | some pc =>
        obtain ⟨dp, hpc⟩ := W.pc pc (List.mem_of_getElem? ho')
        refine ⟨_, rfl, _, rfl, iteF ⟨_, rfl, pc.ad, cP, dp, _, _, rfl, (by rw [upd_ne (ne_of_none hpc hD)]; exact hpc), TP.cl, TP.n1, pf_num _ _ _, fin _ rfl⟩⟩
    · rintro σ1 H2 ⟨⟨v, rfl⟩, rfl, hi⟩
      refine q D _ hD (same_upd hD) ?_
      rw [upd_same, List.length_map, List.take_length]
      unfold heldOf
      rw [List.map_map]
      rfl
theorem scFree : FnScope ["self"] ["self"] (defScope s_Wall_free) := ⟨rfl, rfl, rfl, by decide +kernel, rfl, by decide +kernel, by decide +kernel⟩
theorem ok_free {f cW cP : Addr} {fd : FuncData} (F : Fun K "free" "Wall.free" s_Wall_free f fd) (T : WTxt K cW) (menum : mg "enumerate" = none) : FnOk P w K mg base CX0 1 f fd ["self"] (spFree cW cP) := by
  refine F.ok scFree (fun vs H Q E h => ?_) (fun cdv A outer s H vs Q E hr h => ?_)
  · obtain ⟨p, l1, l2, w, rfl, _⟩ := h
    rfl
  · obtain ⟨p, l1, l2, w, rfl, W, q⟩ := h
    obtain ⟨dx, ho⟩ := W.ob
    refine ⟨_, pss_one (ps_ret (pe_comp (N := ["box", "parcel"]) (src := [none, none]) rfl (blk (osc := defScope s_Wall_free) (oN := ["self"]) rfl rfl (by decide +kernel)) (pi_enum (by rfl) menum (pa_cons (pe_fld (pv 0) rfl) pa_nil))
      (fun C s₀ H₀ ex pn => pg_tupB (K := K) (n := 2) rfl rfl (pgs_cons (pg_name (i := 0) (show (["box", "parcel"] : List Str).Nodup by decide +kernel) rfl (Or.inl rfl) (Or.inr rfl)) (pgs_cons (pg_name (i := 1) (show (["box", "parcel"] : List Str).Nodup by decide +kernel) rfl (Or.inl rfl) (Or.inr rfl)) pgs_nil)) rfl rfl)
      (fun C s₀ H₀ ex pn => pts_one (pt_cmp (pc_isN (pv 1)))) (fun C s₀ H₀ ex pn => pv 0))), ?_⟩
    refine ⟨_, rfl, p, cW, dx, _, _, rfl, ho, T.cl, T.n2, wf_parcels _ _ _ _, l2, rfl, ⟨_, SqL.of W.s2⟩, fun D hD => ?_⟩
    have hlen : w.ps.length ≤ 8 := by rw [W.len]; exact W.few
    have hline : (8 : Nat) < sizeLine := by decide
    refine comp_enum (K := K) (a := l2) (src := [none, none]) (xs := w.ps.map pV) (fun i σ1 H2 => (∃ u v, σ1 = [u, v]) ∧ Same H H2 ∧ H2 D = some (.lst ((freeTo w.ps i).map V.int)) ∧ i ≤ w.ps.length) ⟨⟨none, none, rfl⟩, same_upd hD, upd_same, Nat.zero_le _⟩ ?_ ?_ ?_
    · rintro i σ1 H2 _ ⟨_, sm, _⟩
      exact SqL.of (sm _ _ W.s2)
    · rintro i x pp σ1 H2 hx hpp ⟨⟨u, v, rfl⟩, sm, hD2, hi⟩
      obtain ⟨o, ho', rfl⟩ : ∃ o, w.ps[i]? = some o ∧ x = pV o := by
        rw [List.getElem?_map] at hx
        cases e : w.ps[i]? with
        | none => rw [e] at hx; cases hx
        | some z => rw [e] at hx; exact ⟨z, rfl, (Option.some.inj hx).symm⟩
      have hil : i < w.ps.length := (List.getElem?_eq_some_iff.mp ho').1
      have nDp : D ≠ pp := ne_of_none hD2 hpp
      have sm2 : Same H (upd H2 pp (.tup [.int i, pV o])) := same_put sm (sm.free hpp)
      have hD3 : (upd H2 pp (.tup [.int i, pV o])) D = some (.lst ((freeTo w.ps i).map V.int)) := by rw [upd_ne nDp]; exact hD2
      have hfl := freeTo_len w.ps i
      refine ⟨pp, _, rfl, SqT.of upd_same, rfl, _, _, rfl, _, _, rfl, rfl, ?_⟩
      cases o with
      | none =>
        refine ⟨_, rfl, _, rfl, iteT ⟨_, rfl, _, hD3, (by rw [List.length_map]; omega), ⟨_, _, rfl⟩, same_put sm2 hD, ?_, hil⟩⟩
        rw [upd_same, freeTo_succ, ho', List.map_append]
        rfl
      | some pc =>
        refine ⟨_, rfl, _, rfl, iteF ⟨⟨_, _, rfl⟩, sm2, ?_, hil⟩⟩
        rw [hD3, freeTo_succ, ho']
        simp
    · rintro σ1 H2 ⟨⟨u, v, rfl⟩, sm, hD2, hi⟩
      refine q D _ hD sm ?_
      rw [hD2, List.length_map]
      rfl
theorem mkS {H : Hp} {x dx : Addr} {o1 o2 : HO} (hp : H x = none) (hdx : H dx = none) : Same H (upd (upd H dx o1) x o2) := fun b o e => by
  rw [upd_ne (ne_of_none e hp), upd_ne (ne_of_none e hdx)]; exact e
theorem mkK {H H' : Hp} {x dx : Addr} {o1 o2 : HO} (hp : H x = none) (hdx : H dx = none) (kp : ∀ b o, (upd (upd H dx o1) x o2) b = some o → b ≠ x → H' b = some o) : Same H H' := fun b o e => kp b o (mkS hp hdx b o e) (ne_of_none e hp)
end
end Pw

set_option Elab.async false
set_option linter.all false
set_option maxRecDepth 100000
set_option maxHeartbeats 4000000
namespace Pw
open PySem L2
section
variable {P : Program} {w : World} {K : PySem.W.Frag} {mg : Str → Option Value} {base : Heap}
theorem free_eq (w : Wl) : freeOf w = ((List.range w.ps.length).filter fun i => ((heldOf w)[i]?.join).isNone).map (fun i : Nat => (i : Int)) := by
  unfold freeOf
  congr 1
  refine List.filter_congr fun i hi => ?_
  unfold heldOf
  rw [List.getElem?_map]
  cases w.ps[i]? with
  | none => rfl
  | some o => cases o <;> rfl
def freeL (hs : List (Option Int)) (n : Nat) : List Int := ((List.range n).filter fun i => (hs[i]?.join).isNone).map (fun i : Nat => (i : Int))
theorem freeL_succ (hs : List (Option Int)) (n : Nat) : freeL hs (n + 1) = freeL hs n ++ (if (hs[n]?.join).isNone then [(n : Int)] else []) := by
  unfold freeL
  rw [List.range_succ, List.filter_append, List.map_append]
  congr 1
  by_cases h : (hs[n]?.join).isNone = true
  · simp [h]
  · simp [h]
theorem freeL_len (hs : List (Option Int)) (n : Nat) : (freeL hs n).length ≤ n := by
  unfold freeL
  rw [List.length_map]
  exact Nat.le_trans (List.length_filter_le _ _) (by rw [List.length_range]; exact Nat.le_refl _)
theorem scStands : FnScope ["side", "sizes", "held", "day", "free", "told"] ["side", "sizes", "held", "day"] (defScope s__law_stands) := ⟨rfl, rfl, rfl, by decide +kernel, rfl, by decide +kernel, by decide +kernel⟩
theorem ok_stands {f fR fH fW f1 f2 f3 f4 cW cP : Addr} {fd fdR fdH fdW fd1 fd2 fd3 fd4 : FuncData} (F : Fun K "_law_stands" "_law_stands" s__law_stands f fd) (T : WTxt K cW)
    (gR : Gd P w K mg base "_law_row" s__law_row ["found", "due"] CX0 2 (spRow K) fR fdR) (gH : Gd P w K mg base "_law_held" s__law_held ["found", "due"] CX0 2 (spHeldEq K) fH fdH) (gW : Gd P w K mg base "_law_whole" s__law_whole ["found"] CX0 1 spWhole fW fdW)
    (m1 : Md P w K mg base cW "sizes" ["self"] CX0 1 (spSizes cW cP) f1 fd1) (m2 : Md P w K mg base cW "held" ["self"] CX0 1 (spHeld cW cP) f2 fd2) (m3 : Md P w K mg base cW "free" ["self"] CX0 1 (spFree cW cP) f3 fd3) (m4 : Md P w K mg base cW "day" ["self"] CX0 1 (spDay cW cP) f4 fd4)
    (mlen : mg "len" = none) (mrange : mg "range" = none) : FnOk P w K mg base CX0 3 f fd ["side", "sizes", "held", "day"] (spStands K cW cP) := by
  refine F.ok scStands (fun vs H Q E h => ?_) (fun cdv A outer s H vs Q E hr h => ?_)
  · obtain ⟨p, l1, l2, a, b, w, rfl, _⟩ := h
    rfl
  · obtain ⟨p, l1, l2, a, b, w, rfl, W, ha, hb, q⟩ := h
    have hr1 : Room 1 _ := hr.mono (by decide)
    refine ⟨_, pss_cons (ps_setC (i := 4) scStands.nd rfl rfl rfl (N := ["box", "held"]) (src := [none, some 2]) (blk (osc := defScope s__law_stands) (oN := ["side", "sizes", "held", "day", "free", "told"]) rfl rfl (by decide +kernel))
        (pi_range1 (by rfl) mrange (pa_cons (pe_callB call_len_seq (by rfl) mlen PySem.boot_len (pa_cons (pv 1) pa_nil)) pa_nil))
        (fun C s₀ H₀ ex pn => pg_name (i := 0) (show (["box", "held"] : List Str).Nodup by decide +kernel) rfl (Or.inl rfl) (Or.inr rfl))
        (fun C s₀ H₀ ex pn => pts_one (pt_cmp (pc_isN (pe_ixB (K := K) rfl (pv 1) (pv 0) (fun _ _ => rfl))))) (fun C s₀ H₀ ex pn => pv 0))
      (pss_cons (ps_if (pw_or (pt_not (pt_val (pe_call gR.G hr (by rfl) gR.m gR.F.kp gR.b .nil pass0 (pa_cons (pe_meth0 (pv 0) T.cl m1.me m1.G hr1 m1.b .nil pass0) (pa_cons (pv 1) pa_nil)))))
          (pw_or (pt_not (pt_val (pe_call gH.G hr (by rfl) gH.m gH.F.kp gH.b .nil pass0 (pa_cons (pe_meth0 (pv 0) T.cl m2.me m2.G hr1 m2.b .nil pass0) (pa_cons (pv 2) pa_nil)))))
          (pw_or1 (pt_not (pt_val (pe_call gR.G hr (by rfl) gR.m gR.F.kp gR.b .nil pass0 (pa_cons (pe_meth0 (pv 0) T.cl m3.me m3.G hr1 m3.b .nil pass0) (pa_cons (pv 4) pa_nil)))))))).pt (pss_one (ps_ret pe_bl)) pss_nil)
      (pss_cons (ps_set (i := 5) scStands.nd rfl (Or.inl rfl) (pe_meth0 (pv 0) T.cl m4.me m4.G hr1 m4.b .nil pass0))
      (pss_one (ps_ret (pe_and (pe_call gW.G hr1 (by rfl) gW.m gW.F.kp gW.b .nil pass0 (pa_cons (pv 5) pa_nil)) (pe_one (pe_cmpR op_eq (pv 5) (pv 3) (nomark _)))))))), ?_⟩
    have hlen : w.ps.length ≤ 8 := by rw [W.len]; exact W.few
    have hhl : (heldOf w).length = w.ps.length := by unfold heldOf; rw [List.length_map]
    have hline : (8 : Nat) < sizeLine := by decide
    refine ⟨_, rfl, a, _, rfl, .inl ha, _, rfl, (by rw [List.length_map]; have := W.few; omega), (by rw [List.length_map]; have := W.few; omega), fun D hD => ?_⟩
    have el : ((w.sz.map V.int).length : Int).toNat = w.ps.length := by rw [List.length_map, W.len]; omega
    rw [el]
    refine comp_range (lo := 0) (n := w.ps.length) (src := [none, some 2]) (fun i σ1 H2 => (∃ v, σ1 = [v, some (.ref b)]) ∧ H2 = upd H D (.lst ((freeL (heldOf w) i).map V.int)) ∧ i ≤ w.ps.length) ⟨⟨none, rfl⟩, rfl, Nat.zero_le _⟩ ?_ ?_
    · rintro i σ1 H2 hi ⟨⟨v, rfl⟩, rfl, _⟩
      have hi' : i < (heldOf w).length := by rw [hhl]; exact hi
      have hbD : SqL K (upd H D (.lst ((freeL (heldOf w) i).map V.int))) b ((heldOf w).map oV) := (same_upd hD).seq hb
      have hfl := freeL_len (heldOf w) i
      refine gN ?_
      have hat := at_o hi'
      have hx : (heldOf w)[i]? = some (heldOf w)[i] := List.getElem?_eq_getElem hi'
      cases e : (heldOf w)[i] with
      | none =>
        rw [e] at hat hx
        refine ⟨_, rfl, _, rfl, b, _, _, _, rfl, rfl, hbD, hat, _, rfl, iteT ⟨_, rfl, _, upd_same, (by rw [List.length_map]; omega), ⟨_, rfl⟩, ?_, hi⟩⟩
        rw [upd_upd, freeL_succ, hx, List.map_append]
        simp
      | some j =>
        rw [e] at hat hx
        refine ⟨_, rfl, _, rfl, b, _, _, _, rfl, rfl, hbD, hat, _, rfl, iteF ⟨⟨_, rfl⟩, ?_, hi⟩⟩
        rw [freeL_succ, hx]
        simp
    · rintro σ1 H2 ⟨⟨v, rfl⟩, rfl, _⟩
      have s0 : Same H (upd H D (.lst ((freeL (heldOf w) w.ps.length).map V.int))) := same_upd hD
      have W0 := W.mono s0
      obtain ⟨dx0, ho0⟩ := W0.ob
      have hfr : freeL (heldOf w) w.ps.length = freeOf w := (free_eq w).symm
      -- the three looks
      refine ⟨_, rfl, p, dx0, _, rfl, ho0, wf_no _ _ _ _ (by decide +kernel) (by decide +kernel) (by decide +kernel) (by decide +kernel), p, l1, l2, w, rfl, W0, fun r1 H3 n1 s1 h1 => ?_⟩
      refine ⟨_, rfl, r1, a, w.sz, rfl, h1, (s0.trans s1).seq ha, (by have := W.few; omega), _, rfl, iteF ?_⟩
      have W3 := W0.mono s1
      obtain ⟨dx3, ho3⟩ := W3.ob
      refine ⟨_, rfl, p, dx3, _, rfl, ho3, wf_no _ _ _ _ (by decide +kernel) (by decide +kernel) (by decide +kernel) (by decide +kernel), p, l1, l2, w, rfl, W3, fun r2 H4 n2 s2 h2 => ?_⟩
      refine ⟨_, rfl, r2, b, heldOf w, rfl, h2, ((s0.trans s1).trans s2).seq hb, (by omega), _, rfl, iteF ?_⟩
      have W4 := W3.mono s2
      obtain ⟨dx4, ho4⟩ := W4.ob
      refine ⟨_, rfl, p, dx4, _, rfl, ho4, wf_no _ _ _ _ (by decide +kernel) (by decide +kernel) (by decide +kernel) (by decide +kernel), p, l1, l2, w, rfl, W4, fun r3 H5 n3 s3 h3 => ?_⟩
      refine ⟨_, rfl, r3, D, freeOf w, rfl, h3, SqL.of (s3 _ _ (s2 _ _ (s1 _ _ (by rw [upd_same, hfr])))), (by have := freeL_len (heldOf w) w.ps.length; rw [hfr] at this; omega), _, rfl, iteF ?_⟩
      have W5 := W4.mono s3
      obtain ⟨dx5, ho5⟩ := W5.ob
      refine ⟨_, rfl, p, dx5, _, rfl, ho5, wf_no _ _ _ _ (by decide +kernel) (by decide +kernel) (by decide +kernel) (by decide +kernel), p, l1, l2, w, rfl, W5, ?_⟩
      refine ⟨_, rfl, w.gone, rfl, _, rfl, iteT ⟨_, rfl, _, rfl, rfl, ?_⟩⟩
      have qq := q H5 (((s0.trans s1).trans s2).trans s3)
      rw [decide_eq_true rfl]
      exact qq
end
end Pw

set_option Elab.async false
set_option linter.all false
set_option maxRecDepth 100000
set_option maxHeartbeats 4000000
namespace Pw
open PySem L2
section
variable {P : Program} {w : World} {K : PySem.W.Frag} {mg : Str → Option Value} {base : Heap}
/-- _law_sizes_by(script, base): sizes of a wall -/
def spSizesBy (K : PySem.W.Frag) : Sp := fun vs H Q _ => ∃ (a : Addr) (ns : List Int) (b : Int), vs = [.ref a, .int b] ∧ SqL K H a (ns.map V.int) ∧ ns.length ≤ 63 ∧ 0 ≤ b ∧ b < 10000 ∧ ∀ sz, okSizes sz = true → tells H (sz.map V.int) Q
theorem three_at {d x y z : Int} (h1 : 0 ≤ d) (h2 : d < 3) : ∃ v, atI [V.int x, V.int y, V.int z] d = some (.int v) ∧ (v = x ∨ v = y ∨ v = z) := by
  have : d = ((0 : Nat) : Int) ∨ d = ((1 : Nat) : Int) ∨ d = ((2 : Nat) : Int) := by omega
  rcases this with h | h | h
  · exact ⟨x, by rw [h]; exact atI_nat (j := 0) rfl, .inl rfl⟩
  · exact ⟨y, by rw [h]; exact atI_nat (j := 1) rfl, .inr (.inl rfl)⟩
  · exact ⟨z, by rw [h]; exact atI_nat (j := 2) rfl, .inr (.inr rfl)⟩
theorem scSB : FnScope ["script", "base", "many", "top"] ["script", "base"] (defScope s__law_sizes_by) := ⟨rfl, rfl, rfl, by decide +kernel, rfl, by decide +kernel, by decide +kernel⟩
theorem ok_sizesBy {f fD : Addr} {fd fdD : FuncData} (F : Fun K "_law_sizes_by" "_law_sizes_by" s__law_sizes_by f fd) (gD : Gd P w K mg base "_law_drawn" s__law_drawn ["script", "k", "many"] CX0 1 (spDrawn K) fD fdD) (mrange : mg "range" = none) : FnOk P w K mg base CX0 2 f fd ["script", "base"] (spSizesBy K) := by
  refine F.ok scSB (fun vs H Q E h => ?_) (fun cdv A outer s H vs Q E hr h => ?_)
  · obtain ⟨a, ns, b, rfl, _⟩ := h
    rfl
  · obtain ⟨a, ns, b, rfl, hS, hl, hb0, hb1, q⟩ := h
    have hr1 : Room 1 _ := hr
    refine ⟨_, (pss_cons (ps_set (i := 2) scSB.nd rfl (Or.inl rfl) (pe_op op_add pe_int (pe_call gD.G hr1 (by rfl) gD.m gD.F.kp gD.b .nil pass0 (pa_cons (pv 0) (pa_cons (pv 1) (pa_cons pe_int pa_nil))))))
      (pss_cons (ps_set (i := 3) scSB.nd rfl (Or.inr rfl) (pe_ix ix_list (pe_lst (pa_cons pe_int (pa_cons pe_int (pa_cons pe_int pa_nil)))) (pe_call gD.G hr1 (by rfl) gD.m gD.F.kp gD.b .nil pass0 (pa_cons (pv 0) (pa_cons (pe_op op_add (pv 1) pe_int) (pa_cons pe_int pa_nil)))) (fun _ _ => rfl)))
      (pss_one (ps_ret (pe_comp (N := ["k", "script", "top", "base"]) (src := [none, some 0, some 3, some 1]) rfl (blk (osc := defScope s__law_sizes_by) (oN := ["script", "base", "many", "top"]) rfl rfl (by decide +kernel)) (pi_range1 (by rfl) mrange (pa_cons (pv 2) pa_nil)) (fun C s₀ H₀ ex pn => pg_name (i := 0) (show (["k", "script", "top", "base"] : List Str).Nodup by decide +kernel) rfl (Or.inl rfl) (Or.inr rfl)) (fun C s₀ H₀ ex pn => pts_nil) (fun C s₀ H₀ ex pn => (pe_op op_add pe_int (pe_call gD.G hr1 (by rfl) gD.m gD.F.kp gD.b .nil pass0 (pa_cons (pv 1) (pa_cons (pe_op op_add (pe_op op_add (pv 3) pe_int) (pv 0)) (pa_cons (pv 2) pa_nil))))))))))), ?_⟩
    have d1 := drawn_lo ns b (many := 8) (by decide)
    have d2 := drawn_hi ns b (many := 8) (by decide)
    refine ⟨_, rfl, _, rfl, a, ns, b, 8, rfl, hS, hl, by omega, by omega, by decide, by decide, _, _, rfl, rfl, ?_⟩
    generalize drawn ns b 8 = d at d1 d2 ⊢
    refine ⟨(by show 3 ≤ sizeLine; decide), fun L hL => ?_⟩
    have sL : ∀ o, Same H (upd H L o) := fun o => same_upd hL
    obtain ⟨top, ht, htop⟩ := three_at (x := 3) (y := 5) (z := 9) (drawn_lo ns (b + 1) (many := 3) (by decide)) (drawn_hi ns (b + 1) (many := 3) (by decide))
    refine ⟨_, rfl, _, rfl, _, _, rfl, rfl, a, ns, b + 1, 3, rfl, (sL _).seq hS, hl, by omega, by omega, by decide, by decide, L, _, _, _, rfl, rfl, SqL.of upd_same, ht, ?_⟩
    generalize hH1 : upd H L (.lst [.int 3, .int 5, .int 9]) = H1
    have s1 : Same H H1 := by rw [← hH1]; exact sL _
    have ht2 : 0 < top ∧ top ≤ 9 := by omega
    have hline : (63 : Nat) < sizeLine := by decide
    refine ⟨_, rfl, _, rfl, (by omega), (by omega), fun D hD => ?_⟩
    refine comp_range (lo := 0) (n := (1 + d).toNat) (src := [none, some 0, some 3, some 1]) (fun i σ1 H2 => (∃ v, σ1 = [v, some (.ref a), some (.int top), some (.int b)]) ∧ Same H1 H2 ∧ (∃ sz : List Int, H2 = upd H1 D (.lst (sz.map V.int)) ∧ sz.length = i ∧ ∀ z ∈ sz, 1 ≤ z ∧ z ≤ 9) ∧ i ≤ 8)
      ⟨⟨none, rfl⟩, same_upd hD, ⟨[], rfl, rfl, fun z hz => by cases hz⟩, Nat.zero_le _⟩ ?_ ?_
    · rintro i σ1 H2 hi ⟨⟨v, rfl⟩, s2, ⟨sz, rfl, hsl, hsz⟩, _⟩
      refine gN ?_
      refine tT ?_
      have e1 := drawn_lo ns (b + 2 + (0 + (i : Int))) (many := top) ht2.1
      have e2 := drawn_hi ns (b + 2 + (0 + (i : Int))) (many := top) ht2.1
      refine ⟨_, rfl, _, rfl, _, _, rfl, rfl, _, rfl, _, _, rfl, rfl, _, rfl, a, ns, b + 2 + (0 + (i : Int)), top, rfl, (s1.trans s2).seq hS, hl, by omega, by omega, ht2.1, by omega, _, _, rfl, rfl, _, upd_same, (by rw [List.length_map]; omega), ⟨_, rfl⟩, ?_, ⟨sz ++ [1 + drawn ns (b + 2 + (0 + (i : Int))) top], ?_, (by rw [List.length_append, hsl]; rfl), ?_⟩, by omega⟩
      · rw [upd_upd]; exact same_upd hD
      · rw [upd_upd, List.map_append]; rfl
      · intro z hz
        rcases List.mem_append.mp hz with hz | hz
        · exact hsz z hz
        · rw [List.mem_singleton.mp hz]; omega
    · rintro σ1 H2 ⟨_, s2, ⟨sz, rfl, hsl, hsz⟩, _⟩
      exact q sz (okSizes_of (by omega) (by omega) hsz) D _ (s1.free hD) (s1.trans s2) upd_same
/-! ### a list made of a call's numbers, None in every place -/
theorem nones_comp {K : PySem.W.Frag} {a D : Addr} {xs : List V} {σ : St} {H : Hp} {Q : VK} (hS : SqL K H a xs) (hD : H D = none) (hl : xs.length ≤ 63) (q : ∀ H', Same H H' → H' D = some (.lst (List.replicate xs.length .non)) → H' = upd H D (.lst (List.replicate xs.length .non)) → Q (.ref D) H') :
    CompW (Itl K a) [none] (gName 0) tTrue (tC .non) Q σ H D := by
  have hline : (63 : Nat) < sizeLine := by decide
  refine comp_list (K := K) (a := a) (src := [none]) (xs := xs) (fun i σ1 H2 => (∃ v, σ1 = [v]) ∧ H2 = upd H D (.lst (List.replicate i .non)) ∧ i ≤ xs.length) ⟨⟨none, rfl⟩, rfl, Nat.zero_le _⟩ ?_ ?_ ?_
  · rintro i σ1 H2 _ ⟨_, rfl, _⟩
    exact (same_upd hD).seq hS
  · rintro i x σ1 H2 hx ⟨⟨v, rfl⟩, rfl, hi⟩
    have hil : i < xs.length := (List.getElem?_eq_some_iff.mp hx).1
    refine gN (tT ⟨_, upd_same, ?_, ⟨_, rfl⟩, ?_, hil⟩)
    · rw [List.length_replicate]; omega
    · rw [upd_upd, ← List.replicate_succ']
  · rintro σ1 H2 ⟨_, rfl, _⟩
    exact q _ (same_upd hD) upd_same rfl
end
end Pw

set_option Elab.async false
set_option linter.all false
set_option maxRecDepth 100000
set_option maxHeartbeats 4000000
namespace Pw
open PySem L2
section
variable {P : Program} {w : World} {K : PySem.W.Frag} {mg : Str → Option Value} {base : Heap}
/-! ### walls as texts -/
def dig (z : Int) : Nat := 48 + z.toNat
def txt (sz : List Int) : Str := ⟨([119, 97, 108, 108, 32] ++ sz.map dig).toArray⟩
def one (z : Int) : Str := Str.ofString (toString z)
theorem one_eq {z : Int} (h1 : 1 ≤ z) (h2 : z ≤ 9) : one z = ⟨#[dig z]⟩ := by
  have : z = 1 ∨ z = 2 ∨ z = 3 ∨ z = 4 ∨ z = 5 ∨ z = 6 ∨ z = 7 ∨ z = 8 ∨ z = 9 := by omega
  rcases this with rfl | rfl | rfl | rfl | rfl | rfl | rfl | rfl | rfl <;> decide +kernel
theorem str_ext {x y : Str} (h : x.cps.toList = y.cps.toList) : x = y := by
  cases x; cases y
  congr 1
  exact Array.toList_inj.mp h
theorem app_cps (x y : Str) : (x ++ y).cps.toList = x.cps.toList ++ y.cps.toList := by
  show (x.cps ++ y.cps).toList = _
  rw [Array.toList_append]
theorem head_cps : ("wall " : Str).cps.toList = [119, 97, 108, 108, 32] := by decide +kernel
theorem txt_len (sz : List Int) : (txt sz).length = 5 + sz.length := by
  show (txt sz).cps.size = _
  simp [txt]; omega
theorem fig_int {z : Int} (h1 : 1 ≤ z) (h2 : z ≤ 9) : PySem.intText? ⟨#[dig z]⟩ = some z := by
  rw [← one_eq h1 h2]
  exact PySem.W.KIN.num_reads (by omega) (by omega)
theorem cps_at {z : Str} {sz : List Int} {i c : Nat} (h : z.cps.toList = sz.map dig) (hc : z.cps[i]? = some c) : ∃ y, sz[i]? = some y ∧ c = dig y := by
  have : z.cps.toList[i]? = some c := by rw [Array.getElem?_toList]; exact hc
  rw [h, List.getElem?_map] at this
  cases e : sz[i]? with
  | none => rw [e] at this; cases this
  | some y => rw [e] at this; exact ⟨y, rfl, (Option.some.inj this).symm⟩
theorem cps_size {z : Str} {sz : List Int} (h : z.cps.toList = sz.map dig) : z.cps.size = sz.length := by
  rw [← Array.length_toList, h, List.length_map]
theorem join_one : ∀ {sz : List Int}, (∀ z ∈ sz, 1 ≤ z ∧ z ≤ 9) → (Txt.join ("" : Str) (sz.map one)).cps.toList = sz.map dig := by
  have k : ∀ sz : List Int, (∀ z ∈ sz, 1 ≤ z ∧ z ≤ 9) → (Str.join ("" : Str) (sz.map one)).cps.toList = sz.map dig := by
    intro sz
    induction sz with
    | nil => intro _; rfl
    | cons z r ih =>
      intro h
      have hz := h z (List.mem_cons_self ..)
      cases r with
      | nil =>
        show (one z).cps.toList = _
        rw [one_eq hz.1 hz.2]; rfl
      | cons y r =>
        show ((one z ++ ("" : Str)) ++ Str.join ("" : Str) ((y :: r).map one)).cps.toList = _
        rw [app_cps, app_cps, ih (fun x hx => h x (List.mem_cons_of_mem _ hx)), one_eq hz.1 hz.2]
        rfl
  intro sz h
  show (Builtin.Str.glued ("" : Str) _).cps.toList = _
  rw [StrLaws.glued_eq_join]
  exact k sz h
end
end Pw

set_option Elab.async false
set_option linter.all false
set_option maxRecDepth 100000
set_option maxHeartbeats 4000000
namespace Pw
open PySem L2
section
variable {P : Program} {w : World} {K : PySem.W.Frag} {mg : Str → Option Value} {base : Heap}
/-! ### any text -/
def noteOf (z : Str) : Prop := ∃ sz, okSizes sz = true ∧ z = txt sz
def isFig (c : Nat) : Bool := decide (c ∈ [49, 50, 51, 52, 53, 54, 55, 56, 57])
theorem figs_cps : ("123456789" : Str).cps.toList = [49, 50, 51, 52, 53, 54, 55, 56, 57] := by decide +kernel
theorem in_figs (c : Nat) : (!(Builtin.Str.occurrences ("123456789" : Str) ⟨#[c]⟩ 0 ("123456789" : Str).length 1).isEmpty) = isFig c := by
  rw [StrLaws.found_one, figs_cps]; rfl
theorem isFig_iff (c : Nat) : isFig c = true ↔ 49 ≤ c ∧ c ≤ 57 := by
  unfold isFig
  rw [decide_eq_true_eq]
  simp only [List.mem_cons, List.not_mem_nil, or_false]
  omega
theorem dig_fig {z : Int} (h1 : 1 ≤ z) (h2 : z ≤ 9) : isFig (dig z) = true := (isFig_iff _).mpr (by unfold dig; omega)
theorem slice_ix (z : Str) (n : Nat) : (Txt.slice z (some (n : Int)) none).cps.toList = z.cps.toList.drop n := by
  have hzl : z.cps.toList.length = z.length := by simp [Str.length]
  have hm : min n z.length ≤ z.length := Nat.min_le_right _ _
  have e0 : Builtin.Str.strSliceIndices (some (n : Int)) none 1 z.length = Builtin.Str.strSliceIndices (some ((min n z.length : Nat) : Int)) (some ((z.length : Nat) : Int)) 1 z.length := by
    unfold Builtin.Str.strSliceIndices
    simp only [show (1 : Int) > 0 by decide, if_true]
    rw [if_neg (by omega), if_neg (by omega), if_neg (by omega)]
    congr 1 <;> omega
  have e1 := StrLaws.sliced_plain z (a := min n z.length) (b := z.length) hm (Nat.le_refl _)
  have e2 : (Builtin.Str.strSliceIndices (some ((min n z.length : Nat) : Int)) (some ((z.length : Nat) : Int)) 1 z.length).length = z.length - min n z.length := by
    rw [StrLaws.strSliceIndices_plain hm (Nat.le_refl _)]; simp
  have e3 : z.cps.toList.drop (min n z.length) = z.cps.toList.drop n := by
    by_cases h : n ≤ z.length
    · rw [Nat.min_eq_left h]
    · rw [Nat.min_eq_right (by omega), List.drop_of_length_le (by omega), List.drop_of_length_le (by omega)]
  unfold Txt.slice
  rw [e0, e2]
  split
  · rename_i h
    have h : z.length - min n z.length = z.length := by simpa using h
    have : n = 0 ∨ z.length = 0 := by omega
    rcases this with rfl | h0
    · rw [List.drop_zero]
    · rw [List.drop_of_length_le (by omega)]
      exact List.eq_nil_of_length_eq_zero (by omega)
  · show (List.filterMap _ _).toArray.toList = _
    rw [List.toList_toArray, e1, ← e3, List.take_of_length_le]
    rw [List.length_drop]; omega
theorem slice_to (z : Str) (n : Nat) : (Txt.slice z none (some (n : Int))).cps.toList = z.cps.toList.take n := by
  have hzl : z.cps.toList.length = z.length := by simp [Str.length]
  have hm : min n z.length ≤ z.length := Nat.min_le_right _ _
  have e0 : Builtin.Str.strSliceIndices none (some (n : Int)) 1 z.length = Builtin.Str.strSliceIndices (some ((0 : Nat) : Int)) (some ((min n z.length : Nat) : Int)) 1 z.length := by
    unfold Builtin.Str.strSliceIndices
    simp only [show (1 : Int) > 0 by decide, if_true]
    rw [if_neg (by omega), if_neg (by omega), if_neg (by omega)]
    congr 1 <;> omega
  have e1 := StrLaws.sliced_plain z (a := 0) (b := min n z.length) (Nat.zero_le _) hm
  have e2 : (Builtin.Str.strSliceIndices (some ((0 : Nat) : Int)) (some ((min n z.length : Nat) : Int)) 1 z.length).length = min n z.length := by
    rw [StrLaws.strSliceIndices_plain (Nat.zero_le _) hm]; simp
  have e3 : z.cps.toList.take (min n z.length) = z.cps.toList.take n := by
    by_cases h : n ≤ z.length
    · rw [Nat.min_eq_left h]
    · rw [Nat.min_eq_right (by omega), List.take_of_length_le (by omega), List.take_of_length_le (by omega)]
  unfold Txt.slice
  rw [e0, e2]
  split
  · rename_i h
    have h : min n z.length = z.length := by simpa using h
    rw [List.take_of_length_le (by omega)]
  · show (List.filterMap _ _).toArray.toList = _
    rw [List.toList_toArray, e1, List.drop_zero, Nat.sub_zero, e3]
theorem note_of {z : Str} (h1 : z.cps.toList.take 5 = [119, 97, 108, 108, 32]) (h2 : 6 ≤ z.length) (h3 : z.length ≤ 13) (h4 : ∀ c ∈ z.cps.toList.drop 5, isFig c = true) : noteOf z := by
  have hzl : z.cps.toList.length = z.length := by simp [Str.length]
  refine ⟨(z.cps.toList.drop 5).map fun c : Nat => (c : Int) - 48, ?_, str_ext ?_⟩
  · refine okSizes_of ?_ ?_ fun y hy => ?_
    · rw [List.length_map, List.length_drop]; omega
    · rw [List.length_map, List.length_drop]; omega
    · obtain ⟨c, hc, rfl⟩ := List.mem_map.mp hy
      have := (isFig_iff c).mp (h4 c hc)
      omega
  · have : ((z.cps.toList.drop 5).map fun c : Nat => (c : Int) - 48).map dig = z.cps.toList.drop 5 := by
      rw [List.map_map]
      refine (List.map_congr_left fun c hc => ?_).trans (List.map_id _)
      have := (isFig_iff c).mp (h4 c hc)
      show 48 + ((c : Int) - 48).toNat = c
      omega
    show _ = (([119, 97, 108, 108, 32] ++ ((z.cps.toList.drop 5).map fun c : Nat => (c : Int) - 48).map dig).toArray).toList
    rw [this, List.toList_toArray, ← h1, List.take_append_drop]
theorem starts_take {z : Str} : Txt.startswith z "wall " = decide (z.cps.toList.take 5 = [119, 97, 108, 108, 32]) := by
  have hl : ("wall " : Str).length = 5 := by decide +kernel
  unfold Txt.startswith
  rw [StrLaws.subAt_eq, head_cps, hl, List.drop_zero]
  by_cases h : z.cps.toList.take 5 = [119, 97, 108, 108, 32]
  · have : (z.cps.toList.take 5).length = 5 := by rw [h]; rfl
    have hzl : z.cps.toList.length = z.length := by simp [Str.length]
    rw [List.length_take] at this
    rw [h, decide_eq_true (by omega : 5 ≤ z.length)]
    rfl
  · rw [decide_eq_false h, Bool.and_eq_false_iff]
    exact .inr (by rw [beq_eq_false_iff_ne]; exact h)
theorem txt_take (sz : List Int) : (txt sz).cps.toList.take 5 = [119, 97, 108, 108, 32] := by simp [txt]
theorem txt_drop (sz : List Int) : (txt sz).cps.toList.drop 5 = sz.map dig := by simp [txt]
theorem figs_comp {K : PySem.W.Frag} {fg : Str} {H : Hp} {D : Addr} {Q : VK} {te : TE} {σ : St} (hl : fg.length ≤ 100) (hD : H D = none) (hte : ∀ (c : Nat) (H' : Hp) (R : VK), R (.bl (isFig c)) H' → te [some (.str ⟨#[c]⟩)] H' R)
    (q : ∀ H', Same H H' → H' D = some (.lst ((fg.cps.toList.map isFig).map V.bl)) → Q (.ref D) H') : CompW (Its fg) [none] (gName 0) tTrue te Q σ H D := by
  have hline : (100 : Nat) < sizeLine := by decide
  have hfl : fg.cps.toList.length = fg.length := by simp [Str.length]
  refine comp_str (src := [none]) (fun i σ1 H2 => (∃ v, σ1 = [v]) ∧ H2 = upd H D (.lst (((fg.cps.toList.take i).map isFig).map V.bl)) ∧ i ≤ fg.length) ⟨⟨none, rfl⟩, rfl, Nat.zero_le _⟩ ?_ ?_
  · rintro i c σ1 H2 hc ⟨⟨v, rfl⟩, rfl, _⟩
    have hc' : fg.cps.toList[i]? = some c := by rw [Array.getElem?_toList]; exact hc
    have hil : i < fg.length := by rw [← hfl]; exact (List.getElem?_eq_some_iff.mp hc').1
    refine gN (tT (hte c _ _ ⟨_, upd_same, (by rw [List.length_map, List.length_map, List.length_take]; omega), ⟨_, rfl⟩, ?_, hil⟩))
    rw [upd_upd, ← take_map_snoc (f := isFig) hc', List.map_append]; rfl
  · rintro σ1 H2 ⟨_, rfl, _⟩
    have e : fg.cps.toList.take fg.cps.size = fg.cps.toList := List.take_of_length_le (by rw [Array.length_toList]; exact Nat.le_refl _)
    exact q _ (same_upd hD) (by rw [upd_same, e])
def spNote : Sp := fun vs H Q _ => ∃ z : Str, vs = [.str z] ∧ z.length ≤ 100 ∧ (noteOf z → ∀ H', Same H H' → Q (.bl true) H') ∧ (¬ noteOf z → ∀ H', Same H H' → Q (.bl false) H')
theorem scNo : FnScope ["text", "figures"] ["text"] (defScope s_is_note) := ⟨rfl, rfl, rfl, by decide +kernel, rfl, by decide +kernel, by decide +kernel⟩
theorem ok_note {f : Addr} {fd : FuncData} {t1 t2 t3 : Tok} (F : Fun K "is_note" "is_note" s_is_note f fd) (mHEAD : mg "HEAD" = some (.str "wall " t1)) (mMOST_BOXES : mg "MOST_BOXES" = some (.int 8 t2)) (mFIGURES : mg "FIGURES" = some (.str "123456789" t3)) (mlen : mg "len" = none) (mall : mg "all" = none) : FnOk P w K mg base CX0 1 f fd ["text"] spNote := by
  refine F.ok scNo (fun vs H Q E h => ?_) (fun cdv A outer s H vs Q E hr h => ?_)
  · obtain ⟨z, rfl, _⟩ := h
    rfl
  · obtain ⟨z, rfl, hz, q1, q2⟩ := h
    have hline : (100 : Nat) < sizeLine := by decide
    have hzl : z.cps.toList.length = z.length := by simp [Str.length]
    refine ⟨_, (pss_cons (ps_set (i := 1) scNo.nd rfl (Or.inl rfl) (pe_slice sl_str (pv 0) (po_some (pe_callB call_len_str (by rfl) mlen PySem.boot_len (pa_cons (pe_glob (v := .str "wall ") (by rfl) mHEAD ⟨_, rfl⟩) pa_nil))) po_none))
      (pss_cons (ps_if (pw_or (pt_not (pt_val (pe_bm PySem.F.plainAttrs_str PySem.F.slot_str_startswith PySem.F.type_str_startswith mt_startswith (pv 0) (pa_cons (pe_glob (v := .str "wall ") (by rfl) mHEAD ⟨_, rfl⟩) pa_nil)))) (pw_or (pt_cmpR op_lt (pe_callB call_len_str (by rfl) mlen PySem.boot_len (pa_cons (pv 1) pa_nil)) pe_int (nomark _)) (pw_or1 (pt_cmpR op_gt (pe_callB call_len_str (by rfl) mlen PySem.boot_len (pa_cons (pv 1) pa_nil)) (pe_glob (v := .int 8) (by rfl) mMOST_BOXES ⟨_, rfl⟩) (nomark _))))).pt (pss_one (ps_ret pe_bl)) pss_nil)
      (pss_one (ps_ret (pe_callB (call_all rfl) (by rfl) mall boot_all (pa_cons (pe_comp (N := ["figure"]) (src := [none]) rfl (blk (osc := defScope s_is_note) (oN := ["text", "figures"]) rfl rfl (by decide +kernel)) (pi_str (pv 1)) (fun C s₀ H₀ ex pn => pg_name (i := 0) (show (["figure"] : List Str).Nodup by decide +kernel) rfl (Or.inl rfl) (Or.inr rfl)) (fun C s₀ H₀ ex pn => pts_nil) (fun C s₀ H₀ ex pn => (pe_cmpR op_in_str (pv 0) (pe_glob (v := .str "123456789") (by rfl) mFIGURES ⟨_, rfl⟩) (by with_unfolding_all rfl)))) pa_nil)))))), ?_⟩
    have hf := slice_ix z 5
    refine ⟨_, rfl, _, rfl, (by decide +kernel), _, rfl, z, rfl, (by omega), ?_⟩
    have e5 : ((("wall " : Str).length : Nat) : Int) = ((5 : Nat) : Int) := by decide +kernel
    rw [e5]
    have hfl : (Txt.slice z (some ((5 : Nat) : Int)) none).length = z.length - 5 := by
      show (Txt.slice z (some ((5 : Nat) : Int)) none).cps.size = _
      rw [← Array.length_toList, hf, List.length_drop, hzl]
    generalize Txt.slice z (some ((5 : Nat) : Int)) none = fg at hf hfl ⊢
    refine ⟨_, rfl, rfl, z, _, rfl, rfl, _, rfl, ?_⟩
    rw [starts_take]
    have no1 : ∀ sz, z = txt sz → okSizes sz = true → z.cps.toList.take 5 = [119, 97, 108, 108, 32] ∧ fg.cps.toList = sz.map dig ∧ 1 ≤ fg.length ∧ fg.length ≤ 8 := by
      rintro sz rfl hok
      obtain ⟨o1, o2, o3⟩ := okSizes_all hok
      have := txt_len sz
      exact ⟨txt_take sz, by rw [hf, txt_drop], by omega, by omega⟩
    by_cases c1 : z.cps.toList.take 5 = [119, 97, 108, 108, 32]
    case neg =>
      rw [decide_eq_false c1]
      exact iteT (q2 (fun ⟨sz, h, e⟩ => c1 (no1 sz e h).1) _ sameR)
    rw [decide_eq_true c1]
    refine iteF ?_
    refine ⟨_, rfl, fg, rfl, (by omega), _, _, rfl, rfl, _, rfl, ite2 (fun c => iteT (q2 (fun ⟨sz, h, e⟩ => ?_) _ sameR)) (fun c2 => ?_)⟩
    · have := (no1 sz e h).2.2.1
      rw [decide_eq_true_eq] at c; omega
    refine ⟨_, rfl, fg, rfl, (by omega), _, _, rfl, rfl, _, rfl, ite2 (fun c => q2 (fun ⟨sz, h, e⟩ => ?_) _ sameR) (fun c3 => ?_)⟩
    · have := (no1 sz e h).2.2.2
      rw [decide_eq_true_eq] at c; omega
    rw [decide_eq_true_eq] at c2 c3
    refine ⟨_, rfl, fg, rfl, fun D hD => figs_comp (K := K) (by omega) hD (fun c H' R h => ⟨_, rfl, _, _, rfl, rfl, by rw [in_figs]; exact h⟩) fun H' s' h' => ?_⟩
    refine ⟨D, _, rfl, SqL.of h', ?_⟩
    cases e : (fg.cps.toList.map isFig).all id with
    | true =>
      refine q1 (note_of c1 (by omega) (by omega) fun c hc => ?_) _ s'
      rw [List.all_eq_true] at e
      exact e _ (List.mem_map_of_mem (by rw [hf]; exact hc))
    | false =>
      refine q2 (fun ⟨sz, h, ez⟩ => ?_) _ s'
      rw [(no1 sz ez h).2.1] at e
      refine absurd e (by
        rw [Bool.not_eq_false, List.all_eq_true]
        intro b hb
        rw [List.map_map] at hb
        obtain ⟨y, hy, rfl⟩ := List.mem_map.mp hb
        have := (okSizes_all h).2.2 y hy
        exact dig_fig this.1 this.2)
def spRead (cW cP cNT : Addr) : Sp := fun vs H Q E => ∃ z : Str, vs = [.str z] ∧ z.length ≤ 100 ∧ (¬ noteOf z → ∀ H', Same H H' → E (.ref cNT) none H') ∧
  ∀ sz, okSizes sz = true → z = txt sz → ∀ (p l1 l2 : Addr) (H' : Hp), Same H H' → WallAt cW cP H' p l1 l2 ⟨sz, List.replicate sz.length none, 0, 0⟩ → Q (.ref p) H'
theorem scRd : FnScope ["text"] ["text"] (defScope s_read) := ⟨rfl, rfl, rfl, by decide +kernel, rfl, by decide +kernel, by decide +kernel⟩
/-- the figures' numbers -/
theorem ints_comp {K : PySem.W.Frag} {fg : Str} {sz : List Int} {H : Hp} {D : Addr} {Q : VK} {te : TE} {σ : St} (hf : fg.cps.toList = sz.map dig) (hok : okSizes sz = true) (hD : H D = none) (hte : ∀ (c : Nat) (y : Int) (H' : Hp) (R : VK), PySem.intText? ⟨#[c]⟩ = some y → R (.int y) H' → te [some (.str ⟨#[c]⟩)] H' R)
    (q : ∀ H', Same H H' → H' D = some (.lst (sz.map V.int)) → Q (.ref D) H') : CompW (Its fg) [none] (gName 0) tTrue te Q σ H D := by
  have hline : (100 : Nat) < sizeLine := by decide
  obtain ⟨o1, o2, o3⟩ := okSizes_all hok
  refine comp_str (src := [none]) (fun i σ1 H2 => (∃ v, σ1 = [v]) ∧ H2 = upd H D (.lst ((sz.take i).map V.int)) ∧ i ≤ sz.length) ⟨⟨none, rfl⟩, rfl, Nat.zero_le _⟩ ?_ ?_
  · rintro i c σ1 H2 hc ⟨⟨v, rfl⟩, rfl, _⟩
    obtain ⟨y, hy, rfl⟩ := cps_at hf hc
    have hil : i < sz.length := (List.getElem?_eq_some_iff.mp hy).1
    have hb := o3 y (List.mem_of_getElem? hy)
    refine gN (tT (hte _ y _ _ (fig_int hb.1 hb.2) ⟨_, upd_same, (by rw [List.length_map, List.length_take]; omega), ⟨_, rfl⟩, ?_, hil⟩))
    rw [upd_upd, take_map_snoc (f := V.int) hy]
  · rintro σ1 H2 ⟨_, rfl, _⟩
    exact q _ (same_upd hD) (by rw [upd_same, cps_size hf, List.take_length])
theorem ok_read {f fN fI cW cP cNW cWE cNT : Addr} {fd fdN fdI : FuncData} {t1 : Tok} (F : Fun K "read" "read" s_read f fd) (gN : Gd P w K mg base "is_note" s_is_note ["text"] CX0 1 spNote fN fdN) (RNoNote : Rs K mg cWE cNT "NoNote") (MW : Mk K cW fI) (bI : Binds K fdI ["self", "sizes"] []) (GI : FnOk P w K mg base (CXF P w) 3 fI fdI ["self", "sizes"] (spInit K cW cP cNW)) (mW : mg "Wall" = some (.ref cW))
    (mHEAD : mg "HEAD" = some (.str "wall " t1)) (mlen : mg "len" = none) (mint : mg "int" = none) : FnOk P w K mg base (CXF P w) 5 f fd ["text"] (spRead cW cP cNT) := by
  refine F.okX scRd (fun vs H Q E h => ?_) (fun cdv A outer s H vs Q E hr h => ?_)
  · obtain ⟨z, rfl, _⟩ := h
    rfl
  · obtain ⟨z, rfl, hz, q1, q2⟩ := h
    have hline : (100 : Nat) < sizeLine := by decide
    have hr1 : Room 1 _ := hr.mono (by decide)
    have hr4 : Room 4 _ := hr
    refine ⟨_, (pss_cons (ps_if (pt_not (pt_val (pe_call gN.G.cxf hr1 (by rfl) gN.m gN.F.kp gN.b .nil pass_def (pa_cons (pv 0) pa_nil)))) (pss_one (ps_raise PySem.F.excBase_ValueError rfl passM_def rfl RNoNote.xc RNoNote.xt (by rfl) RNoNote.m (pa_cons pe_str pa_nil))) pss_nil)
      (pss_one (ps_ret (pe_make MW GI hr4 (by rfl) mW bI .nil pass_def (pa_cons (pe_comp (N := ["figure"]) (src := [none]) rfl (blk (osc := defScope s_read) (oN := ["text"]) rfl rfl (by decide +kernel)) (pi_str (pe_slice sl_str (pv 0) (po_some (pe_callB call_len_str (by rfl) mlen PySem.boot_len (pa_cons (pe_glob (v := .str "wall ") (by rfl) mHEAD ⟨_, rfl⟩) pa_nil))) po_none)) (fun C s₀ H₀ ex pn => pg_name (i := 0) (show (["figure"] : List Str).Nodup by decide +kernel) rfl (Or.inl rfl) (Or.inr rfl)) (fun C s₀ H₀ ex pn => pts_nil) (fun C s₀ H₀ ex pn => (pe_callTy call_int_str (by rfl) mint boot_intT (pa_cons (pv 0) pa_nil)))) pa_nil))))), ?_⟩
    refine ⟨_, rfl, z, rfl, hz, fun ⟨sz, hok, ez⟩ H1 s1 => ⟨_, rfl, iteF ?_⟩, fun hno H1 s1 => ⟨_, rfl, iteT ⟨(by show 1 ≤ sizeLine; decide), q1 hno H1 s1⟩⟩⟩
    have hf := slice_ix z 5
    refine ⟨_, rfl, _, rfl, (by decide +kernel), _, rfl, z, rfl, (by omega), ?_⟩
    have e5 : ((("wall " : Str).length : Nat) : Int) = ((5 : Nat) : Int) := by decide +kernel
    rw [e5]
    have hf2 : (Txt.slice z (some ((5 : Nat) : Int)) none).cps.toList = sz.map dig := by rw [hf, ez, txt_drop]
    refine ⟨_, rfl, fun D hD => ints_comp (K := K) hf2 hok hD (fun c y H' R hy h => ⟨_, rfl, _, y, rfl, hy, (by show 1 ≤ 640; decide), h⟩) fun H2 s2 h2 => ?_⟩
    intro p dp np hdp ndp
    refine ⟨p, dp, D, sz, rfl, upd_same, (mkS np hdp).seq (SqL.of h2), fun _ l1 l2 H3 n1 n2 W kp => ⟨rfl, ?_⟩, fun hno => by rw [hok] at hno; cases hno⟩
    exact q2 sz hok ez p l1 l2 H3 ((s1.trans s2).trans (mkK np hdp kp)) W
end
end Pw

set_option Elab.async false
set_option linter.all false
set_option maxRecDepth 100000
set_option maxHeartbeats 1000000
namespace Pw
open PySem L2
section
variable {P : Program} {w : World} {K : PySem.W.Frag} {mg : Str → Option Value} {base : Heap}
def spDue14 : Sp := fun vs H Q _ => ∃ z : Str, vs = [.str z] ∧ z.length ≤ 100 ∧ (¬ noteOf z → ∀ H', Same H H' → Q .non H') ∧ ∀ sz, okSizes sz = true → z = txt sz → tells H (sz.map V.int) Q
theorem scDu : FnScope ["signs", "letter"] ["signs"] (defScope s__law_due) := ⟨rfl, rfl, rfl, by decide +kernel, rfl, by decide +kernel, by decide +kernel⟩
theorem ok_due14 {f : Addr} {fd : FuncData} (F : Fun K "_law_due" "_law_due" s__law_due f fd) (mlen : mg "len" = none) (mint : mg "int" = none) : FnOk P w K mg base CX0 1 f fd ["signs"] spDue14 := by
  refine F.ok scDu (fun vs H Q E h => ?_) (fun cdv A outer s H vs Q E hr h => ?_)
  · obtain ⟨z, rfl, _⟩ := h
    rfl
  · obtain ⟨z, rfl, hz, q1, q2⟩ := h
    have hline : (100 : Nat) < sizeLine := by decide
    have hzl : z.cps.toList.length = z.length := by simp [Str.length]
    refine ⟨_, (pss_cons (ps_if (pw_or (pt_cmpR op_ne (pe_slice sl_str (pv 0) po_none (po_some pe_int)) pe_str (nomark _)) (pw_or (pt_cmpR op_lt (pe_callB call_len_str (by rfl) mlen PySem.boot_len (pa_cons (pv 0) pa_nil)) pe_int (nomark _)) (pw_or1 (pt_cmpR op_gt (pe_callB call_len_str (by rfl) mlen PySem.boot_len (pa_cons (pv 0) pa_nil)) pe_int (nomark _))))).pt (pss_one (ps_ret pe_non)) pss_nil)
      (pss_cons (ps_for PassesOwn.never rfl (pi_str (pe_slice sl_str (pv 0) (po_some pe_int) po_none)) (pg_name (i := 1) scDu.nd rfl (Or.inl rfl)) (pss_one (ps_if (pt_cmpR op_notIn_str (pv 1) pe_str (by with_unfolding_all rfl)) (pss_one (ps_ret pe_non)) pss_nil)))
      (pss_one (ps_ret (pe_comp (N := ["letter"]) (src := [none]) rfl (blk (osc := defScope s__law_due) (oN := ["signs", "letter"]) rfl rfl (by decide +kernel)) (pi_str (pe_slice sl_str (pv 0) (po_some pe_int) po_none)) (fun C s₀ H₀ ex pn => pg_name (i := 0) (show (["letter"] : List Str).Nodup by decide +kernel) rfl (Or.inl rfl) (Or.inr rfl)) (fun C s₀ H₀ ex pn => pts_nil) (fun C s₀ H₀ ex pn => (pe_callTy call_int_str (by rfl) mint boot_intT (pa_cons (pv 0) pa_nil)))))))), ?_⟩
    have no1 : ∀ sz, z = txt sz → okSizes sz = true → z.cps.toList.take 5 = [119, 97, 108, 108, 32] ∧ z.cps.toList.drop 5 = sz.map dig ∧ 6 ≤ z.length ∧ z.length ≤ 13 := by
      rintro sz rfl hok
      obtain ⟨o1, o2, o3⟩ := okSizes_all hok
      have := txt_len sz
      exact ⟨txt_take sz, txt_drop sz, by omega, by omega⟩
    have ht := slice_to z 5
    refine ⟨_, rfl, _, rfl, z, rfl, (by omega), rfl, _, rfl, ?_⟩
    have e1 : decide (V.str (Txt.slice z none (some ((5 : Nat) : Int))) = V.str "wall ") = decide (z.cps.toList.take 5 = [119, 97, 108, 108, 32]) := by
      refine decide_eq_decide.mpr ⟨fun h => ?_, fun h => ?_⟩
      · have h := V.str.inj h
        rw [← ht, h, head_cps]
      · have : Txt.slice z none (some ((5 : Nat) : Int)) = "wall " := str_ext (by rw [ht, h, head_cps])
        rw [this]
    have e1' : decide (V.str (Txt.slice z none (some 5)) = V.str "wall ") = decide (z.cps.toList.take 5 = [119, 97, 108, 108, 32]) := e1
    rw [e1']
    by_cases c1 : z.cps.toList.take 5 = [119, 97, 108, 108, 32]
    case neg =>
      rw [decide_eq_false c1]
      exact iteT (q1 (fun ⟨sz, h, e⟩ => c1 (no1 sz e h).1) _ sameR)
    rw [decide_eq_true c1]
    refine iteF ?_
    refine ⟨_, rfl, z, rfl, (by omega), _, _, rfl, rfl, _, rfl, ite2 (fun c => iteT (q1 (fun ⟨sz, h, e⟩ => ?_) _ sameR)) (fun c2 => ?_)⟩
    · have := (no1 sz e h).2.2.1
      rw [decide_eq_true_eq] at c; omega
    refine ⟨_, rfl, z, rfl, (by omega), _, _, rfl, rfl, _, rfl, ite2 (fun c => q1 (fun ⟨sz, h, e⟩ => ?_) _ sameR) (fun c3 => ?_)⟩
    · have := (no1 sz e h).2.2.2
      rw [decide_eq_true_eq] at c; omega
    rw [decide_eq_true_eq] at c2 c3
    have hf := slice_ix z 5
    refine ⟨_, rfl, _, rfl, z, rfl, (by omega), _, rfl, ?_⟩
    refine for_str (z := Txt.slice z (some ((5 : Nat) : Int)) none) (fun i σ H2 => (∃ v, σ = [some (.str z), v]) ∧ H2 = H ∧ ∀ (j : Nat) c, j < i → (z.cps.toList.drop 5)[j]? = some c → isFig c = true) ⟨⟨none, rfl⟩, rfl, fun j c h => absurd h (Nat.not_lt_zero _)⟩ ?_ ?_
    · rintro i c σ H2 hc ⟨⟨v, rfl⟩, rfl, hall⟩
      have hc' : (z.cps.toList.drop 5)[i]? = some c := by rw [← hf, Array.getElem?_toList]; exact hc
      refine ⟨_, rfl, _, _, rfl, rfl, _, rfl, ?_⟩
      rw [in_figs]
      cases e : isFig c with
      | false =>
        refine iteT (q1 (fun ⟨sz, h, ez⟩ => ?_) _ sameR)
        rw [(no1 sz ez h).2.1, List.getElem?_map] at hc'
        cases hy : sz[i]? with
        | none => rw [hy] at hc'; cases hc'
        | some y =>
          rw [hy] at hc'
          have := (okSizes_all h).2.2 y (List.mem_of_getElem? hy)
          have ec : dig y = c := Option.some.inj hc'
          rw [← ec, dig_fig this.1 this.2] at e; cases e
      | true =>
        refine iteF ⟨⟨_, rfl⟩, rfl, fun j c' hj hc2 => ?_⟩
        by_cases h : j = i
        · subst h; rw [hc'] at hc2; cases hc2; exact e
        · exact hall j c' (by omega) hc2
    · rintro σ H2 ⟨⟨v, rfl⟩, rfl, hall⟩
      have hsz : (Txt.slice z (some ((5 : Nat) : Int)) none).cps.size = (z.cps.toList.drop 5).length := by rw [← Array.length_toList, hf]
      obtain ⟨sz, hok, ez⟩ := note_of c1 (by omega) (by omega) fun c hc => by
        obtain ⟨j, hj, e⟩ := List.mem_iff_getElem.mp hc
        exact hall j c (by rw [hsz]; exact hj) (by rw [List.getElem?_eq_getElem hj, e])
      have hf2 : (Txt.slice z (some ((5 : Nat) : Int)) none).cps.toList = sz.map dig := by rw [hf, ez, txt_drop]
      refine ⟨_, rfl, _, rfl, z, rfl, (by omega), _, rfl, fun D hD => ints_comp (K := K) hf2 hok hD (fun c y H' R hy h => ⟨_, rfl, _, y, rfl, hy, (by show 1 ≤ 640; decide), h⟩) fun H3 s3 h3 => ?_⟩
      exact q2 sz hok ez D H3 hD s3 h3
/-! ### signs and odd texts -/
def spSign (K : PySem.W.Frag) : Sp := fun vs H Q _ => ∃ (a : Addr) (ns : List Int), vs = [.ref a] ∧ SqL K H a (ns.map V.int) ∧ ns.length ≤ 63 ∧ ∀ c : Nat, Q (.str ⟨#[c]⟩) H
theorem scSi : FnScope ["script", "some"] ["script"] (defScope s__law_sign_by) := ⟨rfl, rfl, rfl, by decide +kernel, rfl, by decide +kernel, by decide +kernel⟩
theorem at_any {α : Type} {xs : List α} {i : Int} (h0 : 0 ≤ i) (h1 : i < xs.length) : ∃ v, v ∈ xs ∧ atI xs i = some v := by
  obtain ⟨j, rfl⟩ : ∃ j : Nat, i = (j : Int) := ⟨i.toNat, by omega⟩
  have hj : j < xs.length := by omega
  exact ⟨xs[j], List.getElem_mem hj, atI_nat (List.getElem?_eq_getElem hj)⟩
theorem ok_sign {f fD : Addr} {fd fdD : FuncData} (F : Fun K "_law_sign_by" "_law_sign_by" s__law_sign_by f fd) (gD : Gd P w K mg base "_law_drawn" s__law_drawn ["script", "k", "many"] CX0 1 (spDrawn K) fD fdD) (mlen : mg "len" = none) : FnOk P w K mg base CX0 2 f fd ["script"] (spSign K) := by
  refine F.ok scSi (fun vs H Q E h => ?_) (fun cdv A outer s H vs Q E hr h => ?_)
  · obtain ⟨a, ns, rfl, _⟩ := h
    rfl
  · obtain ⟨a, ns, rfl, hS, hl, q⟩ := h
    have hline : (1000 : Nat) < sizeLine := by decide
    have hr1 : Room 1 _ := hr
    have fin : ∀ x : Str, 1 ≤ x.length → x.length ≤ 1000 → x.length ≤ sizeLine ∧ ∃ c, atI x.cps.toList (drawn ns 102 (x.length : Nat)) = some c := fun x h1 h2 => by
      have hzl : x.cps.toList.length = x.length := by simp [Str.length]
      obtain ⟨v, _, e⟩ := at_any (xs := x.cps.toList) (i := drawn ns 102 (x.length : Nat)) (drawn_lo ns 102 (by omega)) (by rw [hzl]; exact drawn_hi ns 102 (by omega))
      exact ⟨by omega, v, e⟩
    refine ⟨_, (pss_cons (ps_set (i := 1) scSi.nd rfl (Or.inl rfl) pe_str)
      (pss_cons (ps_set (i := 1) scSi.nd rfl (Or.inl rfl) (pe_op op_add_str (pv 1) pe_str))
      (pss_cons (ps_if (pt_cmpR op_eq (pe_call gD.G hr1 (by rfl) gD.m gD.F.kp gD.b .nil pass0 (pa_cons (pv 0) (pa_cons pe_int (pa_cons pe_int pa_nil)))) pe_int (nomark _)) (pss_one (ps_set (i := 1) scSi.nd rfl (Or.inl rfl) pe_str)) pss_nil)
      (pss_one (ps_ret (pe_ix ix_str (pv 1) (pe_call gD.G hr1 (by rfl) gD.m gD.F.kp gD.b .nil pass0 (pa_cons (pv 0) (pa_cons pe_int (pa_cons (pe_callB call_len_str (by rfl) mlen PySem.boot_len (pa_cons (pv 1) pa_nil)) pa_nil)))) (fun _ _ => rfl))))))), ?_⟩
    refine ⟨_, rfl, _, _, rfl, rfl, (by decide +kernel), ?_⟩
    obtain ⟨f1, c1, f2⟩ := fin ((" !\"#$&'()*+,-./0123456789:;<=>?@ABCDEFGHIJKLMNOPQRSTUVWXYZ[\\]^_`" : Str) ++ ("abcdefghijklmnopqrstuvwxyz{|}~\n" : Str)) (by decide +kernel) (by decide +kernel)
    obtain ⟨g1, c2, g2⟩ := fin ("0123456789 " : Str) (by decide +kernel) (by decide +kernel)
    have n1 : (0 : Int) < (((" !\"#$&'()*+,-./0123456789:;<=>?@ABCDEFGHIJKLMNOPQRSTUVWXYZ[\\]^_`" : Str) ++ ("abcdefghijklmnopqrstuvwxyz{|}~\n" : Str)).length : Nat) ∧ ((((" !\"#$&'()*+,-./0123456789:;<=>?@ABCDEFGHIJKLMNOPQRSTUVWXYZ[\\]^_`" : Str) ++ ("abcdefghijklmnopqrstuvwxyz{|}~\n" : Str)).length : Nat) : Int) < 1000000 := by decide +kernel
    have n2 : (0 : Int) < (("0123456789 " : Str).length : Nat) ∧ ((("0123456789 " : Str).length : Nat) : Int) < 1000000 := by decide +kernel
    generalize (" !\"#$&'()*+,-./0123456789:;<=>?@ABCDEFGHIJKLMNOPQRSTUVWXYZ[\\]^_`" : Str) ++ ("abcdefghijklmnopqrstuvwxyz{|}~\n" : Str) = x at f1 f2 n1 ⊢
    generalize ("0123456789 " : Str) = y at g1 g2 n2 ⊢
    refine ⟨_, rfl, a, ns, 101, 2, rfl, hS, hl, by decide, by decide, by decide, by decide, rfl, _, rfl, ite2 (fun _ => ?_) (fun _ => ?_)⟩
    · exact ⟨_, rfl, _, rfl, _, rfl, y, rfl, g1, a, ns, 102, _, rfl, hS, hl, by decide, by decide, n2.1, n2.2, y, _, c2, rfl, rfl, g1, g2, q _⟩
    · exact ⟨_, rfl, _, rfl, _, rfl, x, rfl, f1, a, ns, 102, _, rfl, hS, hl, by decide, by decide, n1.1, n1.2, x, _, c1, rfl, rfl, f1, f2, q _⟩
def strsOf : List Expr → Option (List Str)
  | [] => some []
  | .Constant (.str z) _ _ :: r => (strsOf r).map (z :: ·)
  | _ => none
def tStrs : List Str → TA
  | [] => tNil
  | z :: r => tCons (tC (.str z)) (tStrs r)
theorem pa_strs {X : Cx} : ∀ (zs : List Str) {es : List Expr}, strsOf es = some zs → PA X es (tStrs zs)
  | zs, [], h => by cases h; exact pa_nil
  | zs, e :: es, h => by
    cases e with
    | Constant c j p =>
      cases c with
      | str z =>
        cases hr : strsOf es with
        | none => rw [strsOf, hr] at h; cases h
        | some ys =>
          rw [strsOf, hr] at h
          cases h
          exact pa_cons pe_str (pa_strs ys hr)
      | _ => cases h
    | _ => cases h
theorem ps_setL {X : Cx} {x : Str} {es : List Expr} {ta : TA} {pos pos' p : Pos} (i : Nat) (hN : X.N.Nodup) (hi : X.N[i]? = some x) (hx : Loc X.env.scope x) (he : PA X es ta) (hf : X.fn x = true ∨ X.env.scope.names.lookup x = some .local) : PS X (.Assign [.Name x pos'] (.List es p) pos) (tAsg (tLst ta) (gName i)) :=
  ps_set (i := i) hN hi hx (pe_lst he) rfl hf
def odds : List Str := ["", "wall", "wall ", "wall 0", "wall  1", " wall 1", "Wall 1", "wall 1 2", "wall 10", "wall 1\n", "wall +1", "wall 1_1", "wall -1", "walls 1"]
theorem odds_le : ∀ z ∈ odds, z.length ≤ 100 := by decide +kernel
def spOdd (K : PySem.W.Frag) : Sp := fun vs H Q _ => ∃ (a : Addr) (ns : List Int), vs = [.ref a] ∧ SqL K H a (ns.map V.int) ∧ ns.length ≤ 63 ∧ ∀ (z : Str) H', z.length ≤ 100 → Same H H' → Q (.str z) H'
theorem scOd : FnScope ["script", "some"] ["script"] (defScope s__law_odd) := ⟨rfl, rfl, rfl, by decide +kernel, rfl, by decide +kernel, by decide +kernel⟩
theorem ok_odd {f fD : Addr} {fd fdD : FuncData} (F : Fun K "_law_odd" "_law_odd" s__law_odd f fd) (gD : Gd P w K mg base "_law_drawn" s__law_drawn ["script", "k", "many"] CX0 1 (spDrawn K) fD fdD) : FnOk P w K mg base CX0 2 f fd ["script"] (spOdd K) := by
  refine F.ok scOd (fun vs H Q E h => ?_) (fun cdv A outer s H vs Q E hr h => ?_)
  · obtain ⟨a, ns, rfl, _⟩ := h
    rfl
  · obtain ⟨a, ns, rfl, hS, hl, q⟩ := h
    have hr1 : Room 1 _ := hr
    obtain ⟨es1, p1, p2, p3, hb, he⟩ : ∃ (es1 : List Expr) (p1 p2 p3 : Pos), defBody s__law_odd = .Assign [.Name "some" p1] (.List es1 p2) p3 :: (defBody s__law_odd).drop 1 ∧ strsOf es1 = some (odds.take 11) := ⟨_, _, _, _, rfl, by decide +kernel⟩
    rw [hb]
    refine ⟨_, pss_cons (ps_setL 1 scOd.nd rfl (Or.inl rfl) (pa_strs _ he) (Or.inl rfl)) (pss_cons (ps_set (i := 1) scOd.nd rfl (Or.inl rfl) (pe_op op_cat (pv 1) (pe_lst (pa_strs (odds.drop 11) (by decide +kernel)))))
      (pss_one (ps_ret (pe_ix ix_list (pv 1) (pe_call gD.G hr1 (by rfl) gD.m gD.F.kp gD.b .nil pass0 (pa_cons (pv 0) (pa_cons pe_int (pa_cons pe_int pa_nil)))) (fun _ _ => rfl))))), ?_⟩
    refine ⟨(by show 11 ≤ sizeLine; decide), fun m1 h1 => ?_⟩
    refine ⟨_, rfl, (by show 3 ≤ sizeLine; decide), fun m2 h2 => ?_⟩
    have n12 : m1 ≠ m2 := fun z => by rw [z, upd_same] at h2; cases h2
    refine ⟨m1, m2, _, _, rfl, rfl, (by rw [upd_ne n12, upd_same]), upd_same, (by show 14 ≤ sizeLine; decide), fun m3 h3 => ?_⟩
    have s3 := ((same_upd (o := .lst ((odds.take 11).map V.str)) h1).trans (same_upd (o := .lst ((odds.drop 11).map V.str)) h2)).trans (same_upd (o := .lst (odds.map V.str)) h3)
    obtain ⟨v, hv, e⟩ := at_any (xs := odds.map V.str) (i := drawn ns 100 14) (drawn_lo ns 100 (by decide)) (drawn_hi ns 100 (by decide))
    obtain ⟨z, hz, rfl⟩ := List.mem_map.mp hv
    exact ⟨_, rfl, _, rfl, a, ns, 100, 14, rfl, s3.seq hS, hl, by decide, by decide, by decide, by decide, m3, _, _, _, rfl, rfl, SqL.of upd_same, e, q z _ (odds_le z hz) s3⟩
end
end Pw

set_option Elab.async false
set_option linter.all false
set_option maxRecDepth 100000
set_option maxHeartbeats 4000000
namespace Pw
open PySem L2
section
variable {P : Program} {w : World} {K : PySem.W.Frag} {mg : Str → Option Value} {base : Heap}
abbrev N14 : List Str := ["script", "sizes", "shown", "way", "at", "signs", "due", "found", "e", "marks"]
theorem scLaw : FnScope N14 ["script"] (defScope s_law) := ⟨rfl, rfl, rfl, by decide +kernel, rfl, by decide +kernel, by decide +kernel⟩
theorem nc (c : Addr) : clsV (.ref c) ≠ .none := fun z => by cases z
theorem dts_bl {K : PySem.W.Frag} {H : Hp} : ∀ (bs : List Bool), Dts K H (bs.map V.bl) (bs.map PyData.bool)
  | [] => .nil
  | b :: bs => .cons (.bl b) (dts_bl bs)
theorem op_eqDB {X : Cx} {K : PySem.W.Frag} (hK : X.K = K) (hu : X.A.units + 60 < cLine) : OpR X (compareOp .Eq) (rEqD K false) := by subst hK; exact op_eqD hu
def blD (bs : List Bool) : PyData := .list (bs.map PyData.bool)
theorem txt_back {sz : List Int} (h : okSizes sz = true) : ((txt sz).cps.toList.drop 5).map (fun c : Nat => (c : Int) - 48) = sz := by
  rw [txt_drop, List.map_map]
  refine (List.map_congr_left fun z hz => ?_).trans (List.map_id _)
  have := (okSizes_all h).2.2 z hz
  show ((48 + z.toNat : Nat) : Int) - 48 = z
  omega
theorem held_empty (sz : List Int) (n : Nat) : (heldOf ⟨sz, List.replicate n none, 0, 0⟩).map oV = List.replicate n V.non := by
  show (((List.replicate n (none : Option Pc)).map fun o => o.map (·.num)).map oV) = _
  rw [List.map_replicate, List.map_replicate]; rfl
structure Er14 (K : PySem.W.Frag) (cWE cNT cNW cNS : Addr) : Prop where
  e : ECls K cNT
  s : PySem.W.subIn K (.ref cNT) (.ref cWE) = some true
  k0 : PySem.W.kitOne K (.ref cNT) (.ref cNT) = some true
  k1 : PySem.W.kitOne K (.ref cNT) (.type "ValueError") = some true
  k2 : PySem.W.kitOne K (.ref cNT) (.ref cNW) = some false
  k3 : PySem.W.kitOne K (.ref cNT) (.ref cNS) = some false
theorem ok_law {f fD fZ fSi fOd fDu fRd fS cW cP cWE cNT cNW cNS : Addr} {fd fdD fdZ fdSi fdOd fdDu fdRd fdS : FuncData} (F : Fun K "law" "law" s_law f fd) (T : WTxt K cW)
    (gD : Gd P w K mg base "_law_drawn" s__law_drawn ["script", "k", "many"] CX0 1 (spDrawn K) fD fdD) (gZ : Gd P w K mg base "_law_sizes_by" s__law_sizes_by ["script", "base"] CX0 2 (spSizesBy K) fZ fdZ)
    (gSi : Gd P w K mg base "_law_sign_by" s__law_sign_by ["script"] CX0 2 (spSign K) fSi fdSi) (gOd : Gd P w K mg base "_law_odd" s__law_odd ["script"] CX0 2 (spOdd K) fOd fdOd) (gDu : Gd P w K mg base "_law_due" s__law_due ["signs"] CX0 1 spDue14 fDu fdDu)
    (gRd : Gd P w K mg base "read" s_read ["text"] (CXF P w) 5 (spRead cW cP cNT) fRd fdRd) (gS : Gd P w K mg base "_law_stands" s__law_stands ["side", "sizes", "held", "day"] CX0 3 (spStands K cW cP) fS fdS)
    (hW : HCls K cWE) (x : Er14 K cWE cNT cNW cNS) (mWallError : mg "WallError" = some (.ref cWE)) (mNoNote : mg "NoNote" = some (.ref cNT)) (mNoWall : mg "NoWall" = some (.ref cNW)) (mNoSize : mg "NoSize" = some (.ref cNS)) (mValueError : mg "ValueError" = none) (misinstance : mg "isinstance" = none)
    (mlen : mg "len" = none) (mstr : mg "str" = none) : FnOk P w K mg base CX0 7 f fd ["script"] (spLaw K) := by
  refine F.ok scLaw (fun vs H Q E h => ?_) (fun cdv A outer s H vs Q E hr h => ?_)
  · obtain ⟨a, ns, rfl, _⟩ := h
    rfl
  · obtain ⟨a, ns, rfl, hS, hl, q⟩ := h
    have hr1 : Room 1 _ := hr.mono (by decide)
    have hr2 : Room 2 _ := hr.mono (by decide)
    have hr3 : Room 3 _ := hr.mono (by decide)
    have hr5 : Room 5 _ := hr.mono (by decide)
    have hline : (1000 : Nat) < sizeLine := by decide
    have hu : (A.deeper (PyProof.Rows.envOfC "law" (defScope s_law) s.heap.objs.size f cdv)).units + 60 < cLine := by have := hr.units; omega
    have tail : ∃ t, PSs (cxOf CX0 P w K mg base N14 "law" (defScope s_law) f cdv A outer s H E).nox ((defBody s_law).drop 10) t ∧
        ∀ (lz : Addr) (sh : V) (way at' : V) (z : Str) (H2 : Hp), z.length ≤ 100 → t { nx := fun _ H' => Q .non H', rt := Q } [some (.ref a), some (.ref lz), some sh, some way, some at', some (.str z), none, none, none, none] H2 := by
      refine ⟨_, (pss_cons (ps_set (i := 6) scLaw.nd rfl (Or.inl rfl) (pe_call gDu.G hr1 (by rfl) gDu.m gDu.F.kp gDu.b .nil pass0 (pa_cons (pv 5) pa_nil)))
      (pss_cons (ps_tryAs (i := 8) rfl rfl rfl scLaw.nd rfl rfl (by rfl) mWallError hW (fun pn xe E hx => (pss_one (ps_set (i := 7) scLaw.nd rfl (Or.inl rfl) (pe_callS gRd.G hr5 (by rfl) gRd.m gRd.F.kp gRd.b .nil hx (pa_cons (pv 5) pa_nil))))) (fun A' pn => (pss_cons (ps_set (i := 9) scLaw.nd rfl (Or.inl rfl) (pe_lst (pa_cons (pe_callB (call_isiB (K := K) rfl) (by rfl) misinstance PyProof.Rows.boot_isinstance (pa_cons (pv 8) (pa_cons (pe_glob (v := .ref cNT) (by rfl) mNoNote rfl) pa_nil))) (pa_cons (pe_callB (call_isiB (K := K) rfl) (by rfl) misinstance PyProof.Rows.boot_isinstance (pa_cons (pv 8) (pa_cons (pe_bltn (v := .ty "ValueError") (by rfl) mValueError (by decide +kernel) rfl) pa_nil))) (pa_cons (pe_callB (call_isiB (K := K) rfl) (by rfl) misinstance PyProof.Rows.boot_isinstance (pa_cons (pv 8) (pa_cons (pe_glob (v := .ref cNW) (by rfl) mNoWall rfl) pa_nil))) (pa_cons (pe_callB (call_isiB (K := K) rfl) (by rfl) misinstance PyProof.Rows.boot_isinstance (pa_cons (pv 8) (pa_cons (pe_glob (v := .ref cNS) (by rfl) mNoSize rfl) pa_nil))) pa_nil))))))
      (pss_one (ps_ret (pe_and (pe_cmp (pc_isN (pv 6))) (pe_one (pe_cmpR (op_eqDB (K := K) rfl hu) (pv 9) (pe_lst (pa_cons pe_bl (pa_cons pe_bl (pa_cons pe_bl (pa_cons pe_bl pa_nil))))) (nomark _)))))))))
      (pss_one (ps_ret (pe_and (pe_cmp (pc_notN (pv 6))) (pe_one (pe_call gS.G hr3 (by rfl) gS.m gS.F.kp gS.b .nil pass0 (pa_cons (pv 7) (pa_cons (pv 6) (pa_cons (pe_comp (N := ["size"]) (src := [none]) rfl (blk (osc := defScope s_law) (oN := ["script", "sizes", "shown", "way", "at", "signs", "due", "found", "e", "marks"]) rfl rfl (by decide +kernel)) (pi_list (pv 6)) (fun C s₀ H₀ ex pn => pg_name (i := 0) (show (["size"] : List Str).Nodup by decide +kernel) rfl (Or.inl rfl) (Or.inr rfl)) (fun C s₀ H₀ ex pn => pts_nil) (fun C s₀ H₀ ex pn => pe_non)) (pa_cons pe_int pa_nil))))))))))), ?_⟩
      intro lz sh way at' z H2 hz
      have hxe : ∀ {ea c : Addr} {H2 : Hp}, ECls K c → H2 ea = some (.ext (excAt ea c)) → TyX K H2 (.ref ea) (.ref c) := fun h e => .exc e h
      by_cases hn : noteOf z
      · obtain ⟨sz, hok, ez⟩ := hn
        obtain ⟨o1, o2, o3⟩ := okSizes_all hok
        refine ⟨_, rfl, z, rfl, hz, (fun no => absurd ⟨sz, hok, ez⟩ no), fun sz' hok' ez' ld H3 nd s3 hd => ?_⟩
        refine ⟨_, rfl, z, rfl, hz, (fun no => absurd ⟨sz, hok, ez⟩ no), fun sz2 hok2 ez2 p l1 l2 H4 s4 W => ?_⟩
        have esz : sz' = sz2 := by rw [← txt_back hok', ← txt_back hok2, ← ez', ← ez2]
        subst esz
        have hd4 := s4 _ _ hd
        refine ⟨_, rfl, _, rfl, iteT ⟨_, rfl, _, rfl, _, rfl, ld, rfl, ⟨_, SqL.of hd4⟩, fun D hD => nones_comp (SqL.of hd4) hD (by rw [List.length_map]; have := (okSizes_all hok').2.1; omega) fun H5 s5 h5 _ => ?_⟩⟩
        rw [List.length_map, ← held_empty sz'] at h5
        exact ⟨p, l1, l2, ld, D, _, rfl, W.mono s5, SqL.of (s5 _ _ hd4), SqL.of h5, fun H6 _ => q _⟩
      · refine ⟨_, rfl, z, rfl, hz, (fun _ H3 s3 => ?_), fun sz hok ez => absurd ⟨sz, hok, ez⟩ hn⟩
        refine ⟨_, rfl, z, rfl, hz, (fun _ H4 s4 => ?_), fun sz hok ez => absurd ⟨sz, hok, ez⟩ hn⟩
        refine ⟨cNT, rfl, x.s, fun ea hea => ?_⟩
        refine ⟨_, rfl, _, _, _, _, rfl, hxe x.e upd_same, (nc _), x.k0, _, rfl, _, _, _, _, rfl, hxe x.e upd_same, (by intro z; cases z), x.k1, _, rfl, _, _, _, _, rfl, hxe x.e upd_same, (nc _), x.k2, _, rfl, _, _, _, _, rfl, hxe x.e upd_same, (nc _), x.k3, (by show 4 ≤ sizeLine; decide), fun m hm => ?_⟩
        refine ⟨_, rfl, _, rfl, iteT ⟨_, rfl, (by show 4 ≤ sizeLine; decide), fun m2 hm2 => ?_⟩⟩
        have nm : m ≠ m2 := fun z => by rw [z, upd_same] at hm2; cases hm2
        refine ⟨blD [true, true, false, false], blD [true, true, false, false], .lst (SqL.of (by rw [upd_ne nm, upd_same]; rfl)) (dts_bl _), .lst (SqL.of (by rw [upd_same]; rfl)) (dts_bl _), (by decide +kernel), (by decide +kernel), (by decide +kernel), ?_⟩
        have e3 : PyData.eqv (blD [true, true, false, false]) (blD [true, true, false, false]) = true := by decide +kernel
        rw [if_neg Bool.false_ne_true, e3]
        exact q _
    obtain ⟨tl, ptl, hq⟩ := tail
    refine ⟨_, (pss_cons (ps_set (i := 1) scLaw.nd rfl (Or.inl rfl) (pe_call gZ.G hr2 (by rfl) gZ.m gZ.F.kp gZ.b .nil pass0 (pa_cons (pv 0) (pa_cons pe_int pa_nil))))
      (pss_cons (ps_set (i := 2) scLaw.nd rfl (Or.inl rfl) (pe_op op_add_str pe_str (pe_bm PySem.F.plainAttrs_str PySem.F.slot_str_join PySem.F.type_str_join mt_join pe_str (pa_cons (pe_comp (N := ["size"]) (src := [none]) rfl (blk (osc := defScope s_law) (oN := ["script", "sizes", "shown", "way", "at", "signs", "due", "found", "e", "marks"]) rfl rfl (by decide +kernel)) (pi_list (pv 1)) (fun C s₀ H₀ ex pn => pg_name (i := 0) (show (["size"] : List Str).Nodup by decide +kernel) rfl (Or.inl rfl) (Or.inr rfl)) (fun C s₀ H₀ ex pn => pts_nil) (fun C s₀ H₀ ex pn => (pe_callTy call_str_int (by rfl) mstr boot_strT (pa_cons (pv 0) pa_nil)))) pa_nil))))
      (pss_cons (ps_set (i := 3) scLaw.nd rfl (Or.inl rfl) (pe_call gD.G hr1 (by rfl) gD.m gD.F.kp gD.b .nil pass0 (pa_cons (pv 0) (pa_cons pe_int (pa_cons pe_int pa_nil)))))
      (pss_cons (ps_set (i := 4) scLaw.nd rfl (Or.inl rfl) (pe_call gD.G hr1 (by rfl) gD.m gD.F.kp gD.b .nil pass0 (pa_cons (pv 0) (pa_cons pe_int (pa_cons (pe_op op_add (pe_callB call_len_str (by rfl) mlen PySem.boot_len (pa_cons (pv 2) pa_nil)) pe_int) pa_nil)))))
      (pss_cons (ps_set (i := 5) scLaw.nd rfl (Or.inl rfl) (pv 2))
      (pss_cons (ps_if (pt_cmpR op_eq (pv 3) pe_int (nomark _)) (pss_one (ps_set (i := 5) scLaw.nd rfl (Or.inl rfl) (pe_op op_add_str (pe_op op_add_str (pe_slice sl_str (pv 2) po_none (po_some (pv 4))) (pe_call gSi.G hr2 (by rfl) gSi.m gSi.F.kp gSi.b .nil pass0 (pa_cons (pv 0) pa_nil))) (pe_slice sl_str (pv 2) (po_some (pv 4)) po_none)))) pss_nil)
      (pss_cons (ps_if (pt_cmpR op_eq (pv 3) pe_int (nomark _)) (pss_one (ps_set (i := 5) scLaw.nd rfl (Or.inl rfl) (pe_op op_add_str (pe_slice sl_str (pv 2) po_none (po_some (pv 4))) (pe_slice sl_str (pv 2) (po_some (pe_op op_add (pv 4) pe_int)) po_none)))) pss_nil)
      (pss_cons (ps_if (pt_cmpR op_eq (pv 3) pe_int (nomark _)) (pss_one (ps_set (i := 5) scLaw.nd rfl (Or.inl rfl) (pe_op op_add_str (pe_op op_add_str (pe_slice sl_str (pv 2) po_none (po_some (pv 4))) (pe_call gSi.G hr2 (by rfl) gSi.m gSi.F.kp gSi.b .nil pass0 (pa_cons (pv 0) pa_nil))) (pe_slice sl_str (pv 2) (po_some (pe_op op_add (pv 4) pe_int)) po_none)))) pss_nil)
      (pss_cons (ps_if (pt_cmpR op_eq (pv 3) pe_int (nomark _)) (pss_one (ps_set (i := 5) scLaw.nd rfl (Or.inl rfl) (pe_op op_add_str (pv 2) (pe_slice sl_str pe_str po_none (po_some (pe_op op_add pe_int (pe_call gD.G hr1 (by rfl) gD.m gD.F.kp gD.b .nil pass0 (pa_cons (pv 0) (pa_cons pe_int (pa_cons pe_int pa_nil)))))))))) pss_nil)
      (pss_cons (ps_if (pt_cmpR op_eq (pv 3) pe_int (nomark _)) (pss_one (ps_set (i := 5) scLaw.nd rfl (Or.inl rfl) (pe_call gOd.G hr2 (by rfl) gOd.m gOd.F.kp gOd.b .nil pass0 (pa_cons (pv 0) pa_nil)))) pss_nil)
      ptl)))))))))), ?_⟩
    refine ⟨_, rfl, a, ns, 0, rfl, hS, hl, by decide, by decide, fun sz hok lz H1 nz s1 hz => ?_⟩
    obtain ⟨o1, o2, o3⟩ := okSizes_all hok
    refine ⟨rfl, _, rfl, lz, rfl, ⟨_, SqL.of hz⟩, fun D hD => ?_⟩
    refine comp_list (K := K) (a := lz) (src := [none]) (xs := sz.map V.int) (fun i σ1 H2 => (∃ v, σ1 = [v]) ∧ H2 = upd H1 D (.lst (((sz.take i).map one).map V.str)) ∧ i ≤ sz.length) ⟨⟨none, rfl⟩, rfl, Nat.zero_le _⟩ ?_ ?_ ?_
    · rintro i σ1 H2 _ ⟨_, rfl, _⟩
      exact SqL.of (same_upd hD _ _ hz)
    · rintro i x σ1 H2 hx ⟨⟨v, rfl⟩, rfl, _⟩
      rw [List.getElem?_map] at hx
      cases hy : sz[i]? with
      | none => rw [hy] at hx; cases hx
      | some y =>
        rw [hy] at hx
        cases hx
        have hil : i < sz.length := (List.getElem?_eq_some_iff.mp hy).1
        have hb := o3 y (List.mem_of_getElem? hy)
        refine gN (tT ⟨_, rfl, y, rfl, small_of (by omega) (by omega), _, upd_same, (by rw [List.length_map, List.length_map, List.length_take]; omega), ⟨_, rfl⟩, ?_, hil⟩)
        rw [upd_upd, ← take_map_snoc (f := one) hy, List.map_append]; rfl
    · rintro σ1 H2 ⟨_, rfl, _⟩
      rw [List.length_map, List.take_length]
      have hj := join_one o3
      have hjl : (Txt.join ("" : Str) (sz.map one)).length = sz.length := cps_size hj
      have e3 : ("wall " : Str).length = 5 := by decide +kernel
      refine ⟨_, D, _, rfl, rfl, SqL.of upd_same, ?_, _, _, rfl, rfl, ?_, ?_⟩
      · have e1 : ((sz.map one).map (·.length)).sum ≤ 8 := by
          have : (sz.map one).map (·.length) = List.replicate sz.length 1 := by
            rw [List.map_map]
            refine List.ext_getElem (by simp) fun i h1 h2 => ?_
            simp only [List.getElem_map, List.getElem_replicate, Function.comp]
            have hb := o3 _ (List.getElem_mem (by simpa using h1))
            rw [one_eq hb.1 hb.2]; rfl
          rw [this, List.sum_replicate_nat]; omega
        have e2 : ("" : Str).length = 0 := by decide +kernel
        rw [e2]; omega
      · rw [e3, hjl]; omega
      · have hsl : (("wall " : Str) ++ Txt.join ("" : Str) (sz.map one)).length ≤ 13 := by
          rw [Str.length_append, e3, hjl]; omega
        generalize ("wall " : Str) ++ Txt.join ("" : Str) (sz.map one) = shown at hsl ⊢
        have s2 := s1.trans (same_upd (o := .lst ((sz.map one).map V.str)) hD)
        generalize upd H1 D (.lst ((sz.map one).map V.str)) = H2 at s2 ⊢
        have hS2 := s2.seq hS
        have d1 := drawn_lo ns 20 (many := 6) (by decide)
        have d2 := drawn_hi ns 20 (many := 6) (by decide)
        refine ⟨_, rfl, a, ns, 20, 6, rfl, hS2, hl, by decide, by decide, by decide, by decide, ?_⟩
        generalize drawn ns 20 6 = way at d1 d2 ⊢
        refine ⟨_, rfl, _, rfl, shown, rfl, (by omega), _, _, rfl, rfl, a, ns, 21, _, rfl, hS2, hl, by decide, by decide, (by omega), (by omega), ?_⟩
        generalize drawn ns 21 _ = at'
        refine ⟨_, rfl, ?_⟩
        have sl : ∀ lo hi, (Txt.slice shown lo hi).length ≤ 13 := fun lo hi => Nat.le_trans (Txt.slice_le _ _ _) hsl
        have s9 : ∀ lo hi, (Txt.slice ("123" : Str) lo hi).length ≤ 3 := fun lo hi => Nat.le_trans (Txt.slice_le _ _ _) (by decide +kernel)
        have c1 : ∀ c : Nat, (⟨#[c]⟩ : Str).length = 1 := fun _ => rfl
        have : way = 0 ∨ way = 1 ∨ way = 2 ∨ way = 3 ∨ way = 4 ∨ way = 5 := by omega
        have k1 := sl none (some at')
        have k2 := sl (some at') none
        have k3 := sl (some (at' + 1)) none
        rcases this with rfl | rfl | rfl | rfl | rfl | rfl
        · refine ⟨_, rfl, rfl, _, rfl, iteT (⟨_, rfl, _, rfl, _, rfl, shown, rfl, (by omega), _, rfl, a, ns, rfl, hS2, hl, fun c => ⟨_, _, rfl, rfl, (by rw [c1]; omega), _, rfl, _, rfl, _, rfl, shown, rfl, (by omega), _, _, rfl, rfl, (by rw [Str.length_append, c1]; omega), ?_⟩⟩)⟩
          exact ⟨_, rfl, rfl, _, rfl, iteFe (by decide) (⟨_, rfl, rfl, _, rfl, iteFe (by decide) (⟨_, rfl, rfl, _, rfl, iteFe (by decide) (⟨_, rfl, rfl, _, rfl, iteFe (by decide) (hq lz _ _ _ _ _ (by rw [Str.length_append, Str.length_append, c1]; omega))⟩)⟩)⟩)⟩
        · refine ⟨_, rfl, rfl, _, rfl, iteFe (by decide) (⟨_, rfl, rfl, _, rfl, iteT (⟨_, rfl, _, rfl, _, rfl, shown, rfl, (by omega), _, rfl, _, rfl, _, _, rfl, rfl, _, rfl, shown, rfl, (by omega), _, _, rfl, rfl, (by omega), ?_⟩)⟩)⟩
          exact ⟨_, rfl, rfl, _, rfl, iteFe (by decide) (⟨_, rfl, rfl, _, rfl, iteFe (by decide) (⟨_, rfl, rfl, _, rfl, iteFe (by decide) (hq lz _ _ _ _ _ (by rw [Str.length_append]; omega))⟩)⟩)⟩
        · refine ⟨_, rfl, rfl, _, rfl, iteFe (by decide) (⟨_, rfl, rfl, _, rfl, iteFe (by decide) (⟨_, rfl, rfl, _, rfl, iteT (⟨_, rfl, _, rfl, _, rfl, shown, rfl, (by omega), _, rfl, a, ns, rfl, hS2, hl, fun c => ⟨_, _, rfl, rfl, (by rw [c1]; omega), _, rfl, _, rfl, _, _, rfl, rfl, _, rfl, shown, rfl, (by omega), _, _, rfl, rfl, (by rw [Str.length_append, c1]; omega), ?_⟩⟩)⟩)⟩)⟩
          exact ⟨_, rfl, rfl, _, rfl, iteFe (by decide) (⟨_, rfl, rfl, _, rfl, iteFe (by decide) (hq lz _ _ _ _ _ (by rw [Str.length_append, Str.length_append, c1]; omega))⟩)⟩
        · have k4 := s9 none (some (1 + drawn ns 22 3))
          refine ⟨_, rfl, rfl, _, rfl, iteFe (by decide) (⟨_, rfl, rfl, _, rfl, iteFe (by decide) (⟨_, rfl, rfl, _, rfl, iteFe (by decide) (⟨_, rfl, rfl, _, rfl, iteT (⟨_, rfl, _, rfl, a, ns, 22, 3, rfl, hS2, hl, by decide, by decide, by decide, by decide, _, _, rfl, rfl, _, rfl, _, rfl, (by decide +kernel), _, _, rfl, rfl, (by omega), ?_⟩)⟩)⟩)⟩)⟩
          exact ⟨_, rfl, rfl, _, rfl, iteFe (by decide) (hq lz _ _ _ _ _ (by rw [Str.length_append]; omega))⟩
        · exact ⟨_, rfl, rfl, _, rfl, iteFe (by decide) (⟨_, rfl, rfl, _, rfl, iteFe (by decide) (⟨_, rfl, rfl, _, rfl, iteFe (by decide) (⟨_, rfl, rfl, _, rfl, iteFe (by decide) (⟨_, rfl, rfl, _, rfl, iteT (⟨_, rfl, a, ns, rfl, hS2, hl, fun z H3 hz s3 => hq lz _ _ _ _ _ hz⟩)⟩)⟩)⟩)⟩)⟩
        · exact ⟨_, rfl, rfl, _, rfl, iteFe (by decide) (⟨_, rfl, rfl, _, rfl, iteFe (by decide) (⟨_, rfl, rfl, _, rfl, iteFe (by decide) (⟨_, rfl, rfl, _, rfl, iteFe (by decide) (⟨_, rfl, rfl, _, rfl, iteFe (by decide) (hq lz _ _ _ _ _ (by omega))⟩)⟩)⟩)⟩)⟩
end
end Pw

set_option Elab.async false
set_option linter.all false
set_option maxRecDepth 100000
set_option maxHeartbeats 4000000
namespace Pw
open PySem L2 PyProof.Rows
theorem all_mk {l : PySem.W.OpenLaw} {w : World} {K : PySem.W.Frag} {h : Heap} {mg : Str → Option Value} {fa cWall fWall___init__ fWall_sizes fWall_held fWall_free fWall_day fin_bounds fcheck_wall fread fis_note f_law_drawn f_law_whole f_law_row f_law_sizes_by f_law_held f_law_stands f_law_due f_law_sign_by f_law_odd flaw cWallError NWallError cNoWall NNoWall cNoSize cNoNote NNoNote : Addr} (X : K.In h) (G : h.Ns mainGlobals mg) (hfa : mg "law" = some (.ref fa))
    {odWall___init__ anWall___init__ : Option Addr} {slWall___init__ : Array (Option Value)} {ocWall___init__ kVWall___init__ dcWall___init__ pmWall___init__ cdWall___init__ ctWall___init__ : Value}
    {odWall_sizes anWall_sizes : Option Addr} {slWall_sizes : Array (Option Value)} {ocWall_sizes kVWall_sizes dcWall_sizes pmWall_sizes cdWall_sizes ctWall_sizes : Value}
    {odWall_held anWall_held : Option Addr} {slWall_held : Array (Option Value)} {ocWall_held kVWall_held dcWall_held pmWall_held cdWall_held ctWall_held : Value}
    {odWall_free anWall_free : Option Addr} {slWall_free : Array (Option Value)} {ocWall_free kVWall_free dcWall_free pmWall_free cdWall_free ctWall_free : Value}
    {odWall_day anWall_day : Option Addr} {slWall_day : Array (Option Value)} {ocWall_day kVWall_day dcWall_day pmWall_day cdWall_day ctWall_day : Value}
    {odin_bounds anin_bounds : Option Addr} {slin_bounds : Array (Option Value)} {ocin_bounds kVin_bounds dcin_bounds pmin_bounds cdin_bounds ctin_bounds : Value}
    {odcheck_wall ancheck_wall : Option Addr} {slcheck_wall : Array (Option Value)} {occheck_wall kVcheck_wall dccheck_wall pmcheck_wall cdcheck_wall ctcheck_wall : Value}
    {odread anread : Option Addr} {slread : Array (Option Value)} {ocread kVread dcread pmread cdread ctread : Value}
    {odis_note anis_note : Option Addr} {slis_note : Array (Option Value)} {ocis_note kVis_note dcis_note pmis_note cdis_note ctis_note : Value}
    {od_law_drawn an_law_drawn : Option Addr} {sl_law_drawn : Array (Option Value)} {oc_law_drawn kV_law_drawn dc_law_drawn pm_law_drawn cd_law_drawn ct_law_drawn : Value}
    {od_law_whole an_law_whole : Option Addr} {sl_law_whole : Array (Option Value)} {oc_law_whole kV_law_whole dc_law_whole pm_law_whole cd_law_whole ct_law_whole : Value}
    {od_law_row an_law_row : Option Addr} {sl_law_row : Array (Option Value)} {oc_law_row kV_law_row dc_law_row pm_law_row cd_law_row ct_law_row : Value}
    {od_law_sizes_by an_law_sizes_by : Option Addr} {sl_law_sizes_by : Array (Option Value)} {oc_law_sizes_by kV_law_sizes_by dc_law_sizes_by pm_law_sizes_by cd_law_sizes_by ct_law_sizes_by : Value}
    {od_law_held an_law_held : Option Addr} {sl_law_held : Array (Option Value)} {oc_law_held kV_law_held dc_law_held pm_law_held cd_law_held ct_law_held : Value}
    {od_law_stands an_law_stands : Option Addr} {sl_law_stands : Array (Option Value)} {oc_law_stands kV_law_stands dc_law_stands pm_law_stands cd_law_stands ct_law_stands : Value}
    {od_law_due an_law_due : Option Addr} {sl_law_due : Array (Option Value)} {oc_law_due kV_law_due dc_law_due pm_law_due cd_law_due ct_law_due : Value}
    {od_law_sign_by an_law_sign_by : Option Addr} {sl_law_sign_by : Array (Option Value)} {oc_law_sign_by kV_law_sign_by dc_law_sign_by pm_law_sign_by cd_law_sign_by ct_law_sign_by : Value}
    {od_law_odd an_law_odd : Option Addr} {sl_law_odd : Array (Option Value)} {oc_law_odd kV_law_odd dc_law_odd pm_law_odd cd_law_odd ct_law_odd : Value}
    {odlaw anlaw : Option Addr} {sllaw : Array (Option Value)} {oclaw kVlaw dclaw pmlaw cdlaw ctlaw : Value}
    {nmWallError qWallError : Str} {bsWallError subWallError : List Value} {hdctWallError abWallError : Bool} {snWallError : List Str} {colWallError : Option Bool} {ddWallError : Option Addr} {k0WallError k1WallError k2WallError k3WallError k5WallError : Option Value}
    {nmNoWall qNoWall : Str} {bsNoWall subNoWall : List Value} {hdctNoWall abNoWall : Bool} {snNoWall : List Str} {colNoWall : Option Bool} {ddNoWall : Option Addr} {k0NoWall k1NoWall k2NoWall k3NoWall k5NoWall : Option Value}
    {nmNoNote qNoNote : Str} {bsNoNote subNoNote : List Value} {hdctNoNote abNoNote : Bool} {snNoNote : List Str} {colNoNote : Option Bool} {ddNoNote : Option Addr} {k0NoNote k1NoNote k2NoNote k3NoNote k5NoNote : Option Value}
    {tMOST_BOXES : Tok}
    {tLEAST : Tok}
    {tGREATEST : Tok}
    {tHEAD : Tok}
    {tFIGURES : Tok}
    (aWall : PySem.W.nsIn K mainGlobals "Wall" = some (some (.ref cWall)))
    (pgWall : PySem.W.plainGet K cWall Str.empty = true)
    (hdWall : PySem.W.hasDictIn K cWall = true)
    (poWall : PySem.W.plainOver K cWall = true)
    (saWall : PySem.W.findIn K (.ref cWall) "__setattr__" = some (some (.builtin "object.__setattr__")))
    (mkWall : PySem.W.makesIn K cWall = true)
    (kcWall : PySem.W.keepIn K (.ref cWall) = true)
    (nWall1 : PySem.W.findIn K (.ref cWall) "box_sizes" = some none)
    (nWall2 : PySem.W.findIn K (.ref cWall) "parcels" = some none)
    (nWall3 : PySem.W.findIn K (.ref cWall) "came" = some none)
    (nWall4 : PySem.W.findIn K (.ref cWall) "nights_gone" = some none)
    (nWall5 : PySem.W.findIn K (.ref cWall) "number" = some none)
    (nWall6 : PySem.W.findIn K (.ref cWall) "size" = some none)
    (nWall7 : PySem.W.findIn K (.ref cWall) "last_night" = some none)
    (aWall___init__ : PySem.W.findIn K (.ref cWall) "__init__" = some (some (.ref fWall___init__)))
    (iWall___init__ : PySem.W.isFn K (.ref fWall___init__) = true)
    (lWall___init__ : K.lookup fWall___init__ = some ⟨ocWall___init__, odWall___init__, .func (PySem.W.fnOf "__init__" "Wall.__init__" (defArgs s_Wall___init__) (defBody s_Wall___init__) (defScope s_Wall___init__) .none kVWall___init__ dcWall___init__ pmWall___init__ anWall___init__ cdWall___init__ ctWall___init__), slWall___init__⟩)
    (cWall___init___ : PySem.W.codeIn K cdWall___init__ "Wall.__init__" = true)
    (kWall___init__ : PySem.W.keepIn K (.ref fWall___init__) = true)
    (aWall_sizes : PySem.W.findIn K (.ref cWall) "sizes" = some (some (.ref fWall_sizes)))
    (iWall_sizes : PySem.W.isFn K (.ref fWall_sizes) = true)
    (lWall_sizes : K.lookup fWall_sizes = some ⟨ocWall_sizes, odWall_sizes, .func (PySem.W.fnOf "sizes" "Wall.sizes" (defArgs s_Wall_sizes) (defBody s_Wall_sizes) (defScope s_Wall_sizes) .none kVWall_sizes dcWall_sizes pmWall_sizes anWall_sizes cdWall_sizes ctWall_sizes), slWall_sizes⟩)
    (cWall_sizes_ : PySem.W.codeIn K cdWall_sizes "Wall.sizes" = true)
    (kWall_sizes : PySem.W.keepIn K (.ref fWall_sizes) = true)
    (aWall_held : PySem.W.findIn K (.ref cWall) "held" = some (some (.ref fWall_held)))
    (iWall_held : PySem.W.isFn K (.ref fWall_held) = true)
    (lWall_held : K.lookup fWall_held = some ⟨ocWall_held, odWall_held, .func (PySem.W.fnOf "held" "Wall.held" (defArgs s_Wall_held) (defBody s_Wall_held) (defScope s_Wall_held) .none kVWall_held dcWall_held pmWall_held anWall_held cdWall_held ctWall_held), slWall_held⟩)
    (cWall_held_ : PySem.W.codeIn K cdWall_held "Wall.held" = true)
    (kWall_held : PySem.W.keepIn K (.ref fWall_held) = true)
    (aWall_free : PySem.W.findIn K (.ref cWall) "free" = some (some (.ref fWall_free)))
    (iWall_free : PySem.W.isFn K (.ref fWall_free) = true)
    (lWall_free : K.lookup fWall_free = some ⟨ocWall_free, odWall_free, .func (PySem.W.fnOf "free" "Wall.free" (defArgs s_Wall_free) (defBody s_Wall_free) (defScope s_Wall_free) .none kVWall_free dcWall_free pmWall_free anWall_free cdWall_free ctWall_free), slWall_free⟩)
    (cWall_free_ : PySem.W.codeIn K cdWall_free "Wall.free" = true)
    (kWall_free : PySem.W.keepIn K (.ref fWall_free) = true)
    (aWall_day : PySem.W.findIn K (.ref cWall) "day" = some (some (.ref fWall_day)))
    (iWall_day : PySem.W.isFn K (.ref fWall_day) = true)
    (lWall_day : K.lookup fWall_day = some ⟨ocWall_day, odWall_day, .func (PySem.W.fnOf "day" "Wall.day" (defArgs s_Wall_day) (defBody s_Wall_day) (defScope s_Wall_day) .none kVWall_day dcWall_day pmWall_day anWall_day cdWall_day ctWall_day), slWall_day⟩)
    (cWall_day_ : PySem.W.codeIn K cdWall_day "Wall.day" = true)
    (kWall_day : PySem.W.keepIn K (.ref fWall_day) = true)
    (ain_bounds : PySem.W.nsIn K mainGlobals "in_bounds" = some (some (.ref fin_bounds)))
    (lin_bounds : K.lookup fin_bounds = some ⟨ocin_bounds, odin_bounds, .func (PySem.W.fnOf "in_bounds" "in_bounds" (defArgs s_in_bounds) (defBody s_in_bounds) (defScope s_in_bounds) .none kVin_bounds dcin_bounds pmin_bounds anin_bounds cdin_bounds ctin_bounds), slin_bounds⟩)
    (cin_bounds_ : PySem.W.codeIn K cdin_bounds "in_bounds" = true)
    (kin_bounds : PySem.W.keepIn K (.ref fin_bounds) = true)
    (acheck_wall : PySem.W.nsIn K mainGlobals "check_wall" = some (some (.ref fcheck_wall)))
    (lcheck_wall : K.lookup fcheck_wall = some ⟨occheck_wall, odcheck_wall, .func (PySem.W.fnOf "check_wall" "check_wall" (defArgs s_check_wall) (defBody s_check_wall) (defScope s_check_wall) .none kVcheck_wall dccheck_wall pmcheck_wall ancheck_wall cdcheck_wall ctcheck_wall), slcheck_wall⟩)
    (ccheck_wall_ : PySem.W.codeIn K cdcheck_wall "check_wall" = true)
    (kcheck_wall : PySem.W.keepIn K (.ref fcheck_wall) = true)
    (aread : PySem.W.nsIn K mainGlobals "read" = some (some (.ref fread)))
    (lread : K.lookup fread = some ⟨ocread, odread, .func (PySem.W.fnOf "read" "read" (defArgs s_read) (defBody s_read) (defScope s_read) .none kVread dcread pmread anread cdread ctread), slread⟩)
    (cread_ : PySem.W.codeIn K cdread "read" = true)
    (kread : PySem.W.keepIn K (.ref fread) = true)
    (ais_note : PySem.W.nsIn K mainGlobals "is_note" = some (some (.ref fis_note)))
    (lis_note : K.lookup fis_note = some ⟨ocis_note, odis_note, .func (PySem.W.fnOf "is_note" "is_note" (defArgs s_is_note) (defBody s_is_note) (defScope s_is_note) .none kVis_note dcis_note pmis_note anis_note cdis_note ctis_note), slis_note⟩)
    (cis_note_ : PySem.W.codeIn K cdis_note "is_note" = true)
    (kis_note : PySem.W.keepIn K (.ref fis_note) = true)
    (a_law_drawn : PySem.W.nsIn K mainGlobals "_law_drawn" = some (some (.ref f_law_drawn)))
    (l_law_drawn : K.lookup f_law_drawn = some ⟨oc_law_drawn, od_law_drawn, .func (PySem.W.fnOf "_law_drawn" "_law_drawn" (defArgs s__law_drawn) (defBody s__law_drawn) (defScope s__law_drawn) .none kV_law_drawn dc_law_drawn pm_law_drawn an_law_drawn cd_law_drawn ct_law_drawn), sl_law_drawn⟩)
    (c_law_drawn_ : PySem.W.codeIn K cd_law_drawn "_law_drawn" = true)
    (k_law_drawn : PySem.W.keepIn K (.ref f_law_drawn) = true)
    (a_law_whole : PySem.W.nsIn K mainGlobals "_law_whole" = some (some (.ref f_law_whole)))
    (l_law_whole : K.lookup f_law_whole = some ⟨oc_law_whole, od_law_whole, .func (PySem.W.fnOf "_law_whole" "_law_whole" (defArgs s__law_whole) (defBody s__law_whole) (defScope s__law_whole) .none kV_law_whole dc_law_whole pm_law_whole an_law_whole cd_law_whole ct_law_whole), sl_law_whole⟩)
    (c_law_whole_ : PySem.W.codeIn K cd_law_whole "_law_whole" = true)
    (k_law_whole : PySem.W.keepIn K (.ref f_law_whole) = true)
    (a_law_row : PySem.W.nsIn K mainGlobals "_law_row" = some (some (.ref f_law_row)))
    (l_law_row : K.lookup f_law_row = some ⟨oc_law_row, od_law_row, .func (PySem.W.fnOf "_law_row" "_law_row" (defArgs s__law_row) (defBody s__law_row) (defScope s__law_row) .none kV_law_row dc_law_row pm_law_row an_law_row cd_law_row ct_law_row), sl_law_row⟩)
    (c_law_row_ : PySem.W.codeIn K cd_law_row "_law_row" = true)
    (k_law_row : PySem.W.keepIn K (.ref f_law_row) = true)
    (a_law_sizes_by : PySem.W.nsIn K mainGlobals "_law_sizes_by" = some (some (.ref f_law_sizes_by)))
    (l_law_sizes_by : K.lookup f_law_sizes_by = some ⟨oc_law_sizes_by, od_law_sizes_by, .func (PySem.W.fnOf "_law_sizes_by" "_law_sizes_by" (defArgs s__law_sizes_by) (defBody s__law_sizes_by) (defScope s__law_sizes_by) .none kV_law_sizes_by dc_law_sizes_by pm_law_sizes_by an_law_sizes_by cd_law_sizes_by ct_law_sizes_by), sl_law_sizes_by⟩)
    (c_law_sizes_by_ : PySem.W.codeIn K cd_law_sizes_by "_law_sizes_by" = true)
    (k_law_sizes_by : PySem.W.keepIn K (.ref f_law_sizes_by) = true)
    (a_law_held : PySem.W.nsIn K mainGlobals "_law_held" = some (some (.ref f_law_held)))
    (l_law_held : K.lookup f_law_held = some ⟨oc_law_held, od_law_held, .func (PySem.W.fnOf "_law_held" "_law_held" (defArgs s__law_held) (defBody s__law_held) (defScope s__law_held) .none kV_law_held dc_law_held pm_law_held an_law_held cd_law_held ct_law_held), sl_law_held⟩)
    (c_law_held_ : PySem.W.codeIn K cd_law_held "_law_held" = true)
    (k_law_held : PySem.W.keepIn K (.ref f_law_held) = true)
    (a_law_stands : PySem.W.nsIn K mainGlobals "_law_stands" = some (some (.ref f_law_stands)))
    (l_law_stands : K.lookup f_law_stands = some ⟨oc_law_stands, od_law_stands, .func (PySem.W.fnOf "_law_stands" "_law_stands" (defArgs s__law_stands) (defBody s__law_stands) (defScope s__law_stands) .none kV_law_stands dc_law_stands pm_law_stands an_law_stands cd_law_stands ct_law_stands), sl_law_stands⟩)
    (c_law_stands_ : PySem.W.codeIn K cd_law_stands "_law_stands" = true)
    (k_law_stands : PySem.W.keepIn K (.ref f_law_stands) = true)
    (a_law_due : PySem.W.nsIn K mainGlobals "_law_due" = some (some (.ref f_law_due)))
    (l_law_due : K.lookup f_law_due = some ⟨oc_law_due, od_law_due, .func (PySem.W.fnOf "_law_due" "_law_due" (defArgs s__law_due) (defBody s__law_due) (defScope s__law_due) .none kV_law_due dc_law_due pm_law_due an_law_due cd_law_due ct_law_due), sl_law_due⟩)
    (c_law_due_ : PySem.W.codeIn K cd_law_due "_law_due" = true)
    (k_law_due : PySem.W.keepIn K (.ref f_law_due) = true)
    (a_law_sign_by : PySem.W.nsIn K mainGlobals "_law_sign_by" = some (some (.ref f_law_sign_by)))
    (l_law_sign_by : K.lookup f_law_sign_by = some ⟨oc_law_sign_by, od_law_sign_by, .func (PySem.W.fnOf "_law_sign_by" "_law_sign_by" (defArgs s__law_sign_by) (defBody s__law_sign_by) (defScope s__law_sign_by) .none kV_law_sign_by dc_law_sign_by pm_law_sign_by an_law_sign_by cd_law_sign_by ct_law_sign_by), sl_law_sign_by⟩)
    (c_law_sign_by_ : PySem.W.codeIn K cd_law_sign_by "_law_sign_by" = true)
    (k_law_sign_by : PySem.W.keepIn K (.ref f_law_sign_by) = true)
    (a_law_odd : PySem.W.nsIn K mainGlobals "_law_odd" = some (some (.ref f_law_odd)))
    (l_law_odd : K.lookup f_law_odd = some ⟨oc_law_odd, od_law_odd, .func (PySem.W.fnOf "_law_odd" "_law_odd" (defArgs s__law_odd) (defBody s__law_odd) (defScope s__law_odd) .none kV_law_odd dc_law_odd pm_law_odd an_law_odd cd_law_odd ct_law_odd), sl_law_odd⟩)
    (c_law_odd_ : PySem.W.codeIn K cd_law_odd "_law_odd" = true)
    (k_law_odd : PySem.W.keepIn K (.ref f_law_odd) = true)
    (alaw : PySem.W.nsIn K mainGlobals "law" = some (some (.ref flaw)))
    (llaw : K.lookup flaw = some ⟨oclaw, odlaw, .func (PySem.W.fnOf "law" "law" (defArgs s_law) (defBody s_law) (defScope s_law) .none kVlaw dclaw pmlaw anlaw cdlaw ctlaw), sllaw⟩)
    (claw_ : PySem.W.codeIn K cdlaw "law" = true)
    (klaw : PySem.W.keepIn K (.ref flaw) = true)
    (aWallError : PySem.W.nsIn K mainGlobals "WallError" = some (some (.ref cWallError)))
    (xWallError : K.lookup cWallError = some (excClassObj nmWallError qWallError cWallError NWallError bsWallError mroVE hdctWallError snWallError subWallError abWallError colWallError ddWallError k0WallError k1WallError k2WallError k3WallError k5WallError "ValueError.__new__"))
    (yWallError : noKey K NWallError "__init__" = true)
    (tyWallError : PySem.W.typeIn K (.ref cWallError) = some (.type "type"))
    (tbWallError : PySem.W.subIn K (.ref cWallError) (.type "BaseException") = some true)
    (tcWallError : (PySem.W.clsIn K cWallError).isSome = true)
    (aNoWall : PySem.W.nsIn K mainGlobals "NoWall" = some (some (.ref cNoWall)))
    (xNoWall : K.lookup cNoWall = some (excClassObj nmNoWall qNoWall cNoWall NNoWall bsNoWall (.ref cWallError :: mroVE) hdctNoWall snNoWall subNoWall abNoWall colNoWall ddNoWall k0NoWall k1NoWall k2NoWall k3NoWall k5NoWall "ValueError.__new__"))
    (yNoWall : noKey K NNoWall "__init__" = true)
    (aNoSize : PySem.W.nsIn K mainGlobals "NoSize" = some (some (.ref cNoSize)))
    (aNoNote : PySem.W.nsIn K mainGlobals "NoNote" = some (some (.ref cNoNote)))
    (xNoNote : K.lookup cNoNote = some (excClassObj nmNoNote qNoNote cNoNote NNoNote bsNoNote (.ref cWallError :: mroVE) hdctNoNote snNoNote subNoNote abNoNote colNoNote ddNoNote k0NoNote k1NoNote k2NoNote k3NoNote k5NoNote "ValueError.__new__"))
    (yNoNote : noKey K NNoNote "__init__" = true)
    (gaNoNote : PySem.W.findIn K (.ref cNoNote) "__getattribute__" = some (some (.builtin "BaseException.__getattribute__")))
    (gtNoNote : PySem.W.findIn K (.ref cNoNote) "__getattr__" = some none)
    (csNoNote : PySem.W.findIn K (.ref cNoNote) "__class__" = some (some (.builtin "object.__class__")))
    (sbNoNote : PySem.W.subIn K (.ref cNoNote) (.type "BaseException") = some true)
    (soNoNote : PySem.W.subIn K (.ref cNoNote) (.type "object") = some true)
    (clNoNote : (PySem.W.clsIn K cNoNote).isSome = true)
    (s_NoNote_WallError : PySem.W.subIn K (.ref cNoNote) (.ref cWallError) = some true)
    (q_NoNote_NoNote : PySem.W.kitOne K (.ref cNoNote) (.ref cNoNote) = some true)
    (q_NoNote_ValueError : PySem.W.kitOne K (.ref cNoNote) (.type "ValueError") = some true)
    (q_NoNote_NoWall : PySem.W.kitOne K (.ref cNoNote) (.ref cNoWall) = some false)
    (q_NoNote_NoSize : PySem.W.kitOne K (.ref cNoNote) (.ref cNoSize) = some false)
    (aMOST_BOXES : PySem.W.nsIn K mainGlobals "MOST_BOXES" = some (some (.int 8 tMOST_BOXES)))
    (aLEAST : PySem.W.nsIn K mainGlobals "LEAST" = some (some (.int 1 tLEAST)))
    (aGREATEST : PySem.W.nsIn K mainGlobals "GREATEST" = some (some (.int 9 tGREATEST)))
    (aHEAD : PySem.W.nsIn K mainGlobals "HEAD" = some (some (.str "wall " tHEAD)))
    (aFIGURES : PySem.W.nsIn K mainGlobals "FIGURES" = some (some (.str "123456789" tFIGURES)))
    (zlen : PySem.W.nsIn K mainGlobals "len" = some none)
    (zrange : PySem.W.nsIn K mainGlobals "range" = some none)
    (zlist : PySem.W.nsIn K mainGlobals "list" = some none)
    (zmin : PySem.W.nsIn K mainGlobals "min" = some none)
    (zmax : PySem.W.nsIn K mainGlobals "max" = some none)
    (zisinstance : PySem.W.nsIn K mainGlobals "isinstance" = some none)
    (zint : PySem.W.nsIn K mainGlobals "int" = some none)
    (zbool : PySem.W.nsIn K mainGlobals "bool" = some none)
    (zenumerate : PySem.W.nsIn K mainGlobals "enumerate" = some none)
    (zValueError : PySem.W.nsIn K mainGlobals "ValueError" = some none)
    (zsorted : PySem.W.nsIn K mainGlobals "sorted" = some none)
    (zstr : PySem.W.nsIn K mainGlobals "str" = some none)
    (ztuple : PySem.W.nsIn K mainGlobals "tuple" = some none)
    (zreversed : PySem.W.nsIn K mainGlobals "reversed" = some none)
    (zall : PySem.W.nsIn K mainGlobals "all" = some none)
    (zset : PySem.W.nsIn K mainGlobals "set" = some none)
    (kit_int_int : PySem.W.kitOne K (.type "int") (.type "int") = some true)
    (kit_int_bool : PySem.W.kitOne K (.type "int") (.type "bool") = some false)
    (kit_list_list : PySem.W.kitOne K (.type "list") (.type "list") = some true) :
    ∃ fd : FuncData, (∀ (s : Shared) (v : Value), BindsTo s fd ⟨[v], []⟩ [("script", v)]) ∧ ∀ base : Heap, K.In base → base.Ns mainGlobals mg → FnOk l.prog w K mg base CX0 7 fa fd ["script"] (spLaw K) := by
  have e := hfa.symm.trans (PySem.W.mg_of X G alaw)
  cases e
  have clWall : Cls K cWall := ⟨pgWall, hdWall, poWall, saWall⟩
  have mWall : mg "Wall" = some (.ref cWall) := PySem.W.mg_of X G aWall
  have FWall___init__ := fun_mk (st := s_Wall___init__) lWall___init__ cWall___init___ kWall___init__
  have bWall___init__ := FWall___init__.binds (ps := ["self", "sizes"]) fun _ _ _ _ _ _ us hl => match us, hl with | [_, _], _ => rfl
  have MWall : Mk K cWall fWall___init__ := ⟨mkWall, aWall___init__, iWall___init__, kcWall⟩
  have FWall_sizes := fun_mk (st := s_Wall_sizes) lWall_sizes cWall_sizes_ kWall_sizes
  have bWall_sizes := FWall_sizes.binds (ps := ["self"]) fun _ _ _ _ _ _ us hl => match us, hl with | [_], _ => rfl
  have meWall_sizes : Meth K cWall "sizes" fWall_sizes := ⟨aWall_sizes, iWall_sizes, kWall_sizes⟩
  have FWall_held := fun_mk (st := s_Wall_held) lWall_held cWall_held_ kWall_held
  have bWall_held := FWall_held.binds (ps := ["self"]) fun _ _ _ _ _ _ us hl => match us, hl with | [_], _ => rfl
  have meWall_held : Meth K cWall "held" fWall_held := ⟨aWall_held, iWall_held, kWall_held⟩
  have FWall_free := fun_mk (st := s_Wall_free) lWall_free cWall_free_ kWall_free
  have bWall_free := FWall_free.binds (ps := ["self"]) fun _ _ _ _ _ _ us hl => match us, hl with | [_], _ => rfl
  have meWall_free : Meth K cWall "free" fWall_free := ⟨aWall_free, iWall_free, kWall_free⟩
  have FWall_day := fun_mk (st := s_Wall_day) lWall_day cWall_day_ kWall_day
  have bWall_day := FWall_day.binds (ps := ["self"]) fun _ _ _ _ _ _ us hl => match us, hl with | [_], _ => rfl
  have meWall_day : Meth K cWall "day" fWall_day := ⟨aWall_day, iWall_day, kWall_day⟩
  have Fin_bounds := fun_mk (st := s_in_bounds) lin_bounds cin_bounds_ kin_bounds
  have bin_bounds := Fin_bounds.binds (ps := ["number"]) fun _ _ _ _ _ _ us hl => match us, hl with | [_], _ => rfl
  have min_bounds : mg "in_bounds" = some (.ref fin_bounds) := PySem.W.mg_of X G ain_bounds
  have Fcheck_wall := fun_mk (st := s_check_wall) lcheck_wall ccheck_wall_ kcheck_wall
  have bcheck_wall := Fcheck_wall.binds (ps := ["sizes"]) fun _ _ _ _ _ _ us hl => match us, hl with | [_], _ => rfl
  have mcheck_wall : mg "check_wall" = some (.ref fcheck_wall) := PySem.W.mg_of X G acheck_wall
  have Fread := fun_mk (st := s_read) lread cread_ kread
  have bread := Fread.binds (ps := ["text"]) fun _ _ _ _ _ _ us hl => match us, hl with | [_], _ => rfl
  have mread : mg "read" = some (.ref fread) := PySem.W.mg_of X G aread
  have Fis_note := fun_mk (st := s_is_note) lis_note cis_note_ kis_note
  have bis_note := Fis_note.binds (ps := ["text"]) fun _ _ _ _ _ _ us hl => match us, hl with | [_], _ => rfl
  have mis_note : mg "is_note" = some (.ref fis_note) := PySem.W.mg_of X G ais_note
  have F_law_drawn := fun_mk (st := s__law_drawn) l_law_drawn c_law_drawn_ k_law_drawn
  have b_law_drawn := F_law_drawn.binds (ps := ["script", "k", "many"]) fun _ _ _ _ _ _ us hl => match us, hl with | [_, _, _], _ => rfl
  have m_law_drawn : mg "_law_drawn" = some (.ref f_law_drawn) := PySem.W.mg_of X G a_law_drawn
  have F_law_whole := fun_mk (st := s__law_whole) l_law_whole c_law_whole_ k_law_whole
  have b_law_whole := F_law_whole.binds (ps := ["found"]) fun _ _ _ _ _ _ us hl => match us, hl with | [_], _ => rfl
  have m_law_whole : mg "_law_whole" = some (.ref f_law_whole) := PySem.W.mg_of X G a_law_whole
  have F_law_row := fun_mk (st := s__law_row) l_law_row c_law_row_ k_law_row
  have b_law_row := F_law_row.binds (ps := ["found", "due"]) fun _ _ _ _ _ _ us hl => match us, hl with | [_, _], _ => rfl
  have m_law_row : mg "_law_row" = some (.ref f_law_row) := PySem.W.mg_of X G a_law_row
  have F_law_sizes_by := fun_mk (st := s__law_sizes_by) l_law_sizes_by c_law_sizes_by_ k_law_sizes_by
  have b_law_sizes_by := F_law_sizes_by.binds (ps := ["script", "base"]) fun _ _ _ _ _ _ us hl => match us, hl with | [_, _], _ => rfl
  have m_law_sizes_by : mg "_law_sizes_by" = some (.ref f_law_sizes_by) := PySem.W.mg_of X G a_law_sizes_by
  have F_law_held := fun_mk (st := s__law_held) l_law_held c_law_held_ k_law_held
  have b_law_held := F_law_held.binds (ps := ["found", "due"]) fun _ _ _ _ _ _ us hl => match us, hl with | [_, _], _ => rfl
  have m_law_held : mg "_law_held" = some (.ref f_law_held) := PySem.W.mg_of X G a_law_held
  have F_law_stands := fun_mk (st := s__law_stands) l_law_stands c_law_stands_ k_law_stands
  have b_law_stands := F_law_stands.binds (ps := ["side", "sizes", "held", "day"]) fun _ _ _ _ _ _ us hl => match us, hl with | [_, _, _, _], _ => rfl
  have m_law_stands : mg "_law_stands" = some (.ref f_law_stands) := PySem.W.mg_of X G a_law_stands
  have F_law_due := fun_mk (st := s__law_due) l_law_due c_law_due_ k_law_due
  have b_law_due := F_law_due.binds (ps := ["signs"]) fun _ _ _ _ _ _ us hl => match us, hl with | [_], _ => rfl
  have m_law_due : mg "_law_due" = some (.ref f_law_due) := PySem.W.mg_of X G a_law_due
  have F_law_sign_by := fun_mk (st := s__law_sign_by) l_law_sign_by c_law_sign_by_ k_law_sign_by
  have b_law_sign_by := F_law_sign_by.binds (ps := ["script"]) fun _ _ _ _ _ _ us hl => match us, hl with | [_], _ => rfl
  have m_law_sign_by : mg "_law_sign_by" = some (.ref f_law_sign_by) := PySem.W.mg_of X G a_law_sign_by
  have F_law_odd := fun_mk (st := s__law_odd) l_law_odd c_law_odd_ k_law_odd
  have b_law_odd := F_law_odd.binds (ps := ["script"]) fun _ _ _ _ _ _ us hl => match us, hl with | [_], _ => rfl
  have m_law_odd : mg "_law_odd" = some (.ref f_law_odd) := PySem.W.mg_of X G a_law_odd
  have Flaw := fun_mk (st := s_law) llaw claw_ klaw
  have blaw := Flaw.binds (ps := ["script"]) fun _ _ _ _ _ _ us hl => match us, hl with | [_], _ => rfl
  have mWallError : mg "WallError" = some (.ref cWallError) := PySem.W.mg_of X G aWallError
  have XWallError : XCls K cWallError mroVE "ValueError.__new__" := ⟨_, _, _, _, _, _, _, _, _, _, _, _, _, _, _, xWallError, yWallError⟩
  have HWallError : HCls K cWallError := ⟨tyWallError, tbWallError, tcWallError⟩
  have mNoWall : mg "NoWall" = some (.ref cNoWall) := PySem.W.mg_of X G aNoWall
  have XNoWall : XCls K cNoWall (.ref cWallError :: mroVE) "ValueError.__new__" := ⟨_, _, _, _, _, _, _, _, _, _, _, _, _, _, _, xNoWall, yNoWall⟩
  have RNoWall : Rs K mg cWallError cNoWall "NoWall" := ⟨XNoWall, .own XWallError .base, mNoWall⟩
  have mNoSize : mg "NoSize" = some (.ref cNoSize) := PySem.W.mg_of X G aNoSize
  have mNoNote : mg "NoNote" = some (.ref cNoNote) := PySem.W.mg_of X G aNoNote
  have XNoNote : XCls K cNoNote (.ref cWallError :: mroVE) "ValueError.__new__" := ⟨_, _, _, _, _, _, _, _, _, _, _, _, _, _, _, xNoNote, yNoNote⟩
  have RNoNote : Rs K mg cWallError cNoNote "NoNote" := ⟨XNoNote, .own XWallError .base, mNoNote⟩
  have ENoNote : ECls K cNoNote := ⟨gaNoNote, gtNoNote, csNoNote, sbNoNote, soNoNote, clNoNote⟩
  have mMOST_BOXES : mg "MOST_BOXES" = some (.int 8 tMOST_BOXES) := PySem.W.mg_of X G aMOST_BOXES
  have mLEAST : mg "LEAST" = some (.int 1 tLEAST) := PySem.W.mg_of X G aLEAST
  have mGREATEST : mg "GREATEST" = some (.int 9 tGREATEST) := PySem.W.mg_of X G aGREATEST
  have mHEAD : mg "HEAD" = some (.str "wall " tHEAD) := PySem.W.mg_of X G aHEAD
  have mFIGURES : mg "FIGURES" = some (.str "123456789" tFIGURES) := PySem.W.mg_of X G aFIGURES
  have mlen : mg "len" = none := PySem.W.mg_none_of X G zlen
  have mrange : mg "range" = none := PySem.W.mg_none_of X G zrange
  have mlist : mg "list" = none := PySem.W.mg_none_of X G zlist
  have mmin : mg "min" = none := PySem.W.mg_none_of X G zmin
  have mmax : mg "max" = none := PySem.W.mg_none_of X G zmax
  have misinstance : mg "isinstance" = none := PySem.W.mg_none_of X G zisinstance
  have mint : mg "int" = none := PySem.W.mg_none_of X G zint
  have mbool : mg "bool" = none := PySem.W.mg_none_of X G zbool
  have menumerate : mg "enumerate" = none := PySem.W.mg_none_of X G zenumerate
  have mValueError : mg "ValueError" = none := PySem.W.mg_none_of X G zValueError
  have msorted : mg "sorted" = none := PySem.W.mg_none_of X G zsorted
  have mstr : mg "str" = none := PySem.W.mg_none_of X G zstr
  have mtuple : mg "tuple" = none := PySem.W.mg_none_of X G ztuple
  have mreversed : mg "reversed" = none := PySem.W.mg_none_of X G zreversed
  have mall : mg "all" = none := PySem.W.mg_none_of X G zall
  have mset : mg "set" = none := PySem.W.mg_none_of X G zset
  refine ⟨PySem.W.fnOf "law" "law" (defArgs s_law) (defBody s_law) (defScope s_law) .none kVlaw dclaw pmlaw anlaw cdlaw ctlaw, fun s v => .of_eq rfl, fun base _ _ => ?_⟩
  have T : WTxt K cWall := ⟨clWall, nWall1, nWall2, nWall3, nWall4⟩
  have TP : PTxt K cWall := ⟨clWall, nWall5, nWall6, nWall7⟩
  have g__law_drawn : Gd l.prog w K mg base "_law_drawn" s__law_drawn ["script", "k", "many"] CX0 1 (spDrawn K) f_law_drawn _ := ⟨F_law_drawn, b_law_drawn, m_law_drawn, ok_drawn (P := l.prog) (w := w) (mg := mg) (base := base) F_law_drawn mlen⟩
  have g__law_whole : Gd l.prog w K mg base "_law_whole" s__law_whole ["found"] CX0 1 (spWhole) f_law_whole _ := ⟨F_law_whole, b_law_whole, m_law_whole, ok_whole (P := l.prog) (w := w) (mg := mg) (base := base) F_law_whole misinstance mint mbool kit_int_int kit_int_bool⟩
  have g__law_row : Gd l.prog w K mg base "_law_row" s__law_row ["found", "due"] CX0 2 (spRow K) f_law_row _ := ⟨F_law_row, b_law_row, m_law_row, ok_row F_law_row g__law_whole misinstance mlist mlen mrange kit_list_list⟩
  have g__law_held : Gd l.prog w K mg base "_law_held" s__law_held ["found", "due"] CX0 2 (spHeldEq K) f_law_held _ := ⟨F_law_held, b_law_held, m_law_held, ok_heldEq F_law_held g__law_whole misinstance mlist mlen mrange kit_list_list⟩
  have g_in_bounds : Gd l.prog w K mg base "in_bounds" s_in_bounds ["number"] CX0 1 (spBounds) fin_bounds _ := ⟨Fin_bounds, bin_bounds, min_bounds, ok_bounds (P := l.prog) (w := w) (mg := mg) (base := base) Fin_bounds mLEAST mGREATEST⟩
  have g_check_wall : Gd l.prog w K mg base "check_wall" s_check_wall ["sizes"] (CXF l.prog w) 2 (spCheckWall K cNoWall) fcheck_wall _ := ⟨Fcheck_wall, bcheck_wall, mcheck_wall, ok_checkWall Fcheck_wall g_in_bounds mlen mMOST_BOXES mLEAST mGREATEST RNoWall⟩
  have GI := ok_init (cP := cWall) FWall___init__ T g_check_wall mlist
  have d_sizes : Md l.prog w K mg base cWall "sizes" ["self"] CX0 1 (spSizes cWall cWall) fWall_sizes _ := ⟨bWall_sizes, meWall_sizes, ok_sizes (P := l.prog) (w := w) (mg := mg) (base := base) FWall_sizes T mlist⟩
  have d_held : Md l.prog w K mg base cWall "held" ["self"] CX0 1 (spHeld cWall cWall) fWall_held _ := ⟨bWall_held, meWall_held, ok_held (P := l.prog) (w := w) (mg := mg) (base := base) FWall_held T TP⟩
  have d_free : Md l.prog w K mg base cWall "free" ["self"] CX0 1 (spFree cWall cWall) fWall_free _ := ⟨bWall_free, meWall_free, ok_free (P := l.prog) (w := w) (mg := mg) (base := base) FWall_free T menumerate⟩
  have d_day : Md l.prog w K mg base cWall "day" ["self"] CX0 1 (spDay cWall cWall) fWall_day _ := ⟨bWall_day, meWall_day, ok_day (P := l.prog) (w := w) (mg := mg) (base := base) FWall_day T⟩
  have g__law_stands : Gd l.prog w K mg base "_law_stands" s__law_stands ["side", "sizes", "held", "day"] CX0 3 (spStands K cWall cWall) f_law_stands _ := ⟨F_law_stands, b_law_stands, m_law_stands, ok_stands F_law_stands T g__law_row g__law_held g__law_whole d_sizes d_held d_free d_day mlen mrange⟩
  have g__law_sizes_by : Gd l.prog w K mg base "_law_sizes_by" s__law_sizes_by ["script", "base"] CX0 2 (spSizesBy K) f_law_sizes_by _ := ⟨F_law_sizes_by, b_law_sizes_by, m_law_sizes_by, ok_sizesBy F_law_sizes_by g__law_drawn mrange⟩
  have x : Er14 K cWallError cNoNote cNoWall cNoSize := ⟨ENoNote, s_NoNote_WallError, q_NoNote_NoNote, q_NoNote_ValueError, q_NoNote_NoWall, q_NoNote_NoSize⟩
  have g_is_note : Gd l.prog w K mg base "is_note" s_is_note ["text"] CX0 1 (spNote) fis_note _ := ⟨Fis_note, bis_note, mis_note, ok_note (P := l.prog) (w := w) (mg := mg) (base := base) Fis_note mHEAD mMOST_BOXES mFIGURES mlen mall⟩
  have g_read : Gd l.prog w K mg base "read" s_read ["text"] (CXF l.prog w) 5 (spRead cWall cWall cNoNote) fread _ := ⟨Fread, bread, mread, ok_read Fread g_is_note RNoNote MWall bWall___init__ GI mWall mHEAD mlen mint⟩
  have g__law_due : Gd l.prog w K mg base "_law_due" s__law_due ["signs"] CX0 1 (spDue14) f_law_due _ := ⟨F_law_due, b_law_due, m_law_due, ok_due14 (P := l.prog) (w := w) (mg := mg) (base := base) F_law_due mlen mint⟩
  have g__law_sign_by : Gd l.prog w K mg base "_law_sign_by" s__law_sign_by ["script"] CX0 2 (spSign K) f_law_sign_by _ := ⟨F_law_sign_by, b_law_sign_by, m_law_sign_by, ok_sign F_law_sign_by g__law_drawn mlen⟩
  have g__law_odd : Gd l.prog w K mg base "_law_odd" s__law_odd ["script"] CX0 2 (spOdd K) f_law_odd _ := ⟨F_law_odd, b_law_odd, m_law_odd, ok_odd F_law_odd g__law_drawn⟩
  exact ok_law Flaw T g__law_drawn g__law_sizes_by g__law_sign_by g__law_odd g__law_due g_read g__law_stands HWallError x mWallError mNoNote mNoWall mNoSize mValueError misinstance mlen mstr
theorem walk {l : PySem.W.OpenLaw} {q : Program} {loose : List Str} {XP : (Str → Option Value) → Heap → Prop} {YP : World → Heap → Prop} {d : DefRec} {K : Params → PySem.W.Frag} (hn : l.most = some 63) (hdf : d.params.defaults = [])
    (hY : ∀ (w : World) (h : Heap), YP w h → (K w.params).In h)
    (F : ∀ (w : World) (mg : Str → Option Value) (fa : Addr) (h : Heap), (K w.params).In h → h.Ns mainGlobals mg → mg d.name = some (.ref fa) →
      ∃ fd : FuncData, (∀ (s : Shared) (u : Value), BindsTo s fd ⟨[u], []⟩ [("script", u)]) ∧ ∀ base : Heap, (K w.params).In base → base.Ns mainGlobals mg → FnOk l.prog w (K w.params) mg base CX0 7 fa fd ["script"] (spLaw (K w.params))) :
    PySem.W.WalkO q loose XP YP l.row.toRowW d [] (fun f vs => PySem.call f vs) :=
  L2.walk_of (n := 63) (k := 7) (x := "script") (CX := fun _ => CX0) (sp := fun w => spLaw (K w.params)) hn (by decide) hdf ⟨rfl, by decide, by decide⟩ hY F (fun _ _ a ns hl _ hS => ⟨a, ns, rfl, hS, hl, fun _ => rfl⟩) fun _ _ _ _ _ z => z
end Pw
open PySem PySem.W PyProof.Rows
set_option maxRecDepth 100000 in
set_option maxHeartbeats 0 in
theorem PySem.Challenge.cw_parcelwall_k14_texts_refused_holds : PySem.Challenge.rw_parcelwall_k14_texts_refused.Holds := by
  w_on; o_law; k_head; (case hw => w_witness2)
  k_fill
  refine Pw.walk (l := PySem.Challenge.rw_parcelwall_k14_texts_refused) rfl rfl (fun w h Y => by first | exact PySem.W.kIn_of Y | exact PySem.W.km_in_of Y) ?F
  case F =>
    intro w mg fa h KX G hmg
    refine' Pw.all_mk KX G hmg ?aWall ?pgWall ?hdWall ?poWall ?saWall ?mkWall ?kcWall ?nWall1 ?nWall2 ?nWall3 ?nWall4 ?nWall5 ?nWall6 ?nWall7 ?aWall___init__ ?iWall___init__ ?lWall___init__ ?cWall___init___ ?kWall___init__ ?aWall_sizes ?iWall_sizes ?lWall_sizes ?cWall_sizes_ ?kWall_sizes ?aWall_held ?iWall_held ?lWall_held ?cWall_held_ ?kWall_held ?aWall_free ?iWall_free ?lWall_free ?cWall_free_ ?kWall_free ?aWall_day ?iWall_day ?lWall_day ?cWall_day_ ?kWall_day ?ain_bounds ?lin_bounds ?cin_bounds_ ?kin_bounds ?acheck_wall ?lcheck_wall ?ccheck_wall_ ?kcheck_wall ?aread ?lread ?cread_ ?kread ?ais_note ?lis_note ?cis_note_ ?kis_note ?a_law_drawn ?l_law_drawn ?c_law_drawn_ ?k_law_drawn ?a_law_whole ?l_law_whole ?c_law_whole_ ?k_law_whole ?a_law_row ?l_law_row ?c_law_row_ ?k_law_row ?a_law_sizes_by ?l_law_sizes_by ?c_law_sizes_by_ ?k_law_sizes_by ?a_law_held ?l_law_held ?c_law_held_ ?k_law_held ?a_law_stands ?l_law_stands ?c_law_stands_ ?k_law_stands ?a_law_due ?l_law_due ?c_law_due_ ?k_law_due ?a_law_sign_by ?l_law_sign_by ?c_law_sign_by_ ?k_law_sign_by ?a_law_odd ?l_law_odd ?c_law_odd_ ?k_law_odd ?alaw ?llaw ?claw_ ?klaw ?aWallError ?xWallError ?yWallError ?tyWallError ?tbWallError ?tcWallError ?aNoWall ?xNoWall ?yNoWall ?aNoSize ?aNoNote ?xNoNote ?yNoNote ?gaNoNote ?gtNoNote ?csNoNote ?sbNoNote ?soNoNote ?clNoNote ?s_NoNote_WallError ?q_NoNote_NoNote ?q_NoNote_ValueError ?q_NoNote_NoWall ?q_NoNote_NoSize ?aMOST_BOXES ?aLEAST ?aGREATEST ?aHEAD ?aFIGURES ?zlen ?zrange ?zlist ?zmin ?zmax ?zisinstance ?zint ?zbool ?zenumerate ?zValueError ?zsorted ?zstr ?ztuple ?zreversed ?zall ?zset ?kit_int_int ?kit_int_bool ?kit_list_list
    (case aWall => k_is)
    (case pgWall => k_is)
    (case hdWall => k_is)
    (case poWall => k_is)
    (case saWall => k_is)
    (case mkWall => k_is)
    (case kcWall => k_is)
    (case nWall1 => k_is)
    (case nWall2 => k_is)
    (case nWall3 => k_is)
    (case nWall4 => k_is)
    (case nWall5 => k_is)
    (case nWall6 => k_is)
    (case nWall7 => k_is)
    (case aWall___init__ => k_is)
    (case iWall___init__ => k_is)
    (case lWall___init__ => k_is)
    (case cWall___init___ => k_is)
    (case kWall___init__ => k_is)
    (case aWall_sizes => k_is)
    (case iWall_sizes => k_is)
    (case lWall_sizes => k_is)
    (case cWall_sizes_ => k_is)
    (case kWall_sizes => k_is)
    (case aWall_held => k_is)
    (case iWall_held => k_is)
    (case lWall_held => k_is)
    (case cWall_held_ => k_is)
    (case kWall_held => k_is)
    (case aWall_free => k_is)
    (case iWall_free => k_is)
    (case lWall_free => k_is)
    (case cWall_free_ => k_is)
    (case kWall_free => k_is)
    (case aWall_day => k_is)
    (case iWall_day => k_is)
    (case lWall_day => k_is)
    (case cWall_day_ => k_is)
    (case kWall_day => k_is)
    (case ain_bounds => k_is)
    (case lin_bounds => k_is)
    (case cin_bounds_ => k_is)
    (case kin_bounds => k_is)
    (case acheck_wall => k_is)
    (case lcheck_wall => k_is)
    (case ccheck_wall_ => k_is)
    (case kcheck_wall => k_is)
    (case aread => k_is)
    (case lread => k_is)
    (case cread_ => k_is)
    (case kread => k_is)
    (case ais_note => k_is)
    (case lis_note => k_is)
    (case cis_note_ => k_is)
    (case kis_note => k_is)
    (case a_law_drawn => k_is)
    (case l_law_drawn => k_is)
    (case c_law_drawn_ => k_is)
    (case k_law_drawn => k_is)
    (case a_law_whole => k_is)
    (case l_law_whole => k_is)
    (case c_law_whole_ => k_is)
    (case k_law_whole => k_is)
    (case a_law_row => k_is)
    (case l_law_row => k_is)
    (case c_law_row_ => k_is)
    (case k_law_row => k_is)
    (case a_law_sizes_by => k_is)
    (case l_law_sizes_by => k_is)
    (case c_law_sizes_by_ => k_is)
    (case k_law_sizes_by => k_is)
    (case a_law_held => k_is)
    (case l_law_held => k_is)
    (case c_law_held_ => k_is)
    (case k_law_held => k_is)
    (case a_law_stands => k_is)
    (case l_law_stands => k_is)
    (case c_law_stands_ => k_is)
    (case k_law_stands => k_is)
    (case a_law_due => k_is)
    (case l_law_due => k_is)
    (case c_law_due_ => k_is)
    (case k_law_due => k_is)
    (case a_law_sign_by => k_is)
    (case l_law_sign_by => k_is)
    (case c_law_sign_by_ => k_is)
    (case k_law_sign_by => k_is)
    (case a_law_odd => k_is)
    (case l_law_odd => k_is)
    (case c_law_odd_ => k_is)
    (case k_law_odd => k_is)
    (case alaw => k_is)
    (case llaw => k_is)
    (case claw_ => k_is)
    (case klaw => k_is)
    (case aWallError => k_is)
    (case xWallError => k_is)
    (case yWallError => kernel_rfl)
    (case tyWallError => k_is)
    (case tbWallError => k_is)
    (case tcWallError => kernel_rfl)
    (case aNoWall => k_is)
    (case xNoWall => k_is)
    (case yNoWall => kernel_rfl)
    (case aNoSize => k_is)
    (case aNoNote => k_is)
    (case xNoNote => k_is)
    (case yNoNote => kernel_rfl)
    (case gaNoNote => k_is)
    (case gtNoNote => k_is)
    (case csNoNote => k_is)
    (case sbNoNote => k_is)
    (case soNoNote => k_is)
    (case clNoNote => kernel_rfl)
    (case s_NoNote_WallError => k_is)
    (case q_NoNote_NoNote => kernel_rfl)
    (case q_NoNote_ValueError => kernel_rfl)
    (case q_NoNote_NoWall => kernel_rfl)
    (case q_NoNote_NoSize => kernel_rfl)
    (case aMOST_BOXES => k_is)
    (case aLEAST => k_is)
    (case aGREATEST => k_is)
    (case aHEAD => k_is)
    (case aFIGURES => k_is)
    (case zlen => k_is)
    (case zrange => k_is)
    (case zlist => k_is)
    (case zmin => k_is)
    (case zmax => k_is)
    (case zisinstance => k_is)
    (case zint => k_is)
    (case zbool => k_is)
    (case zenumerate => k_is)
    (case zValueError => k_is)
    (case zsorted => k_is)
    (case zstr => k_is)
    (case ztuple => k_is)
    (case zreversed => k_is)
    (case zall => k_is)
    (case zset => k_is)
    (case kit_int_int => kernel_rfl)
    (case kit_int_bool => kernel_rfl)
    (case kit_list_list => kernel_rfl)
