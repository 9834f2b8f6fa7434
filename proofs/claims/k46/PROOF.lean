import PyProof.Rows.All
import Wide.All
import OpenK.AllK
import Wide.FinOn
import Lean
import PyProof.EqAt
import PyProof.EqKinds
import PyProof.TupleCall
import PySem.Challenge.RW_evenmeet_k46_trees_taken
set_option Elab.async false
set_option linter.all false
set_option maxRecDepth 100000
/-! THE HAND LAYER, for ints, bools, texts, own classes, LISTS and tuples (index, slices, in, append, pop ..), calls, loops. Paste it whole ahead of your own text; what your proof does not reach may be deleted. -/
namespace L2
open PySem PySem.Spec PyProof.Rows

/-- a key: an int or a str -/
abbrev Key := Sum Int Str
def keyIs : Key → Value → Bool
  | .inl k, v => Value.isInt k v
  | .inr x, v => Value.isStrOf x v
def keyH (w : World) : Key → Int
  | .inl k => hashInt k
  | .inr x => hashStr w x
theorem keyIs_shape : ∀ {k : Key} {v : Value}, keyIs k v = true → (∃ i t, k = Sum.inl i ∧ v = Value.int i t) ∨ (∃ x t, k = Sum.inr x ∧ v = Value.str x t)
  | .inl i, v, h => by
    obtain ⟨t, e⟩ := Value.isInt_shape (k := i) (v := v) h
    exact .inl ⟨i, t, rfl, e⟩
  | .inr x, v, h => by
    obtain ⟨t, e⟩ := Value.isStrOf_shape (x := x) (v := v) h
    exact .inr ⟨x, t, rfl, e⟩
theorem keyIs_int (i : Int) (t : Tok) : keyIs (.inl i) (.int i t) = true := by simp [keyIs, Value.isInt]
theorem keyIs_str (x : Str) (t : Tok) : keyIs (.inr x) (.str x t) = true := by simp [keyIs, Value.isStrOf]
theorem key_ll (a b : Int) : decide ((Sum.inl a : Key) = Sum.inl b) = (a == b) := by
  by_cases e : a = b
  · subst e; simp
  · have h : ¬ (Sum.inl a : Key) = Sum.inl b := fun q => e (Sum.inl.inj q)
    rw [decide_eq_false h]
    exact (beq_eq_false_iff_ne.mpr e).symm
theorem key_rr (a b : Str) : decide ((Sum.inr a : Key) = Sum.inr b) = decide (a = b) := by
  by_cases e : a = b
  · subst e; simp
  · have h : ¬ (Sum.inr a : Key) = Sum.inr b := fun q => e (Sum.inr.inj q)
    rw [decide_eq_false h, decide_eq_false e]
theorem key_lr (a : Int) (b : Str) : decide ((Sum.inl a : Key) = Sum.inr b) = false := decide_eq_false (fun q => nomatch q)
theorem key_rl (a : Str) (b : Int) : decide ((Sum.inr a : Key) = Sum.inl b) = false := decide_eq_false (fun q => nomatch q)

def mixKind (prog : Program) (w : World) : PySem.KeyKind prog w Key where
  is := keyIs
  hash := keyH w
  inj := fun v a b ha hb => by
    rcases keyIs_shape ha with ⟨i, t, rfl, rfl⟩ | ⟨x, t, rfl, rfl⟩
    · rcases keyIs_shape hb with ⟨j, u, rfl, e⟩ | ⟨y, u, rfl, e⟩
      · injection e with e1 _; rw [e1]
      · exact nomatch e
    · rcases keyIs_shape hb with ⟨j, u, rfl, e⟩ | ⟨y, u, rfl, e⟩
      · exact nomatch e
      · injection e with e1 _; rw [e1]
  byValue := fun k v h => by
    rcases keyIs_shape h with ⟨i, t, rfl, rfl⟩ | ⟨x, t, rfl, rfl⟩ <;> rfl
  pyHash := fun hv h => by
    rcases keyIs_shape hv with ⟨i, t, rfl, rfl⟩ | ⟨x, t, rfl, rfl⟩
    · exact wpAny_pyHash_int h
    · exact wpAny_pyHash_str h
  eqBool := fun hu hv h => by
    rcases keyIs_shape hu with ⟨i, t, rfl, rfl⟩ | ⟨x, t, rfl, rfl⟩
    · rcases keyIs_shape hv with ⟨j, u, rfl, rfl⟩ | ⟨y, u, rfl, rfl⟩
      · rw [key_ll] at h; exact wpAny_eqBool_int h
      · rw [key_lr] at h; exact SeqAt.EqAt.int_str i t y u _ _ _ _ h
    · rcases keyIs_shape hv with ⟨j, u, rfl, rfl⟩ | ⟨y, u, rfl, rfl⟩
      · rw [key_rl] at h; exact SeqAt.EqAt.str_int x t j u _ _ _ _ h
      · rw [key_rr] at h; exact wpAny_eqBool_str h
  «strs» := fun k x t v h => by
    rcases keyIs_shape h with ⟨i, u, rfl, e⟩ | ⟨y, u, rfl, e⟩
    · exact nomatch e
    · injection e with e1 _
      subst e1
      cases v <;> rfl

theorem mixKind_int (prog : Program) (w : World) (i : Int) (t : Tok) : (mixKind prog w).is (.inl i) (.int i t) = true := keyIs_int i t
theorem mixKind_str (prog : Program) (w : World) (x : Str) (t : Tok) : (mixKind prog w).is (.inr x) (.str x t) = true := keyIs_str x t
end L2

namespace L2
open PySem PySem.Spec PyProof.Rows

/-- a value, without the heap -/
inductive V where
  | non | bl (b : Bool) | int (i : Int) | str (x : Str) | byt (b : Array UInt8) | flt (b : UInt64) | ref (a : Addr) | ty (n : String)
  deriving DecidableEq

def RelV : V → Value → Prop
  | .non, u => u = Value.none
  | .bl b, u => u = Value.bool b
  | .int i, u => ∃ t, u = Value.int i t
  | .str x, u => ∃ t, u = Value.str x t
  | .byt b, u => ∃ t, u = Value.bytes b t
  | .flt b, u => ∃ t, u = Value.float b t
  | .ref a, u => u = Value.ref a
  | .ty n, u => u = Value.type n

abbrev Vals : List V → List Value → Prop := Paired RelV
theorem Vals.length {xs : List V} {us : List Value} (r : Vals xs us) : xs.length = us.length := Paired.length r
theorem Vals.get : ∀ {xs : List V} {us : List Value} {i : Nat} {x : V}, Vals xs us → xs[i]? = some x → ∃ u, us[i]? = some u ∧ RelV x u
  | _, _, _, _, .nil, e => by simp at e
  | _, _, 0, _, .cons r _, e => by simp at e; subst e; exact ⟨_, rfl, r⟩
  | _, _, i + 1, x, .cons _ t, e => by
    obtain ⟨u, h1, h2⟩ := Vals.get (i := i) (x := x) t (by simpa using e)
    exact ⟨u, by simpa using h1, h2⟩
theorem Vals.set {x : V} {u : Value} (r : RelV x u) : ∀ {xs : List V} {us : List Value} (i : Nat), Vals xs us → Vals (xs.set i x) (us.set i u)
  | _, _, _, .nil => .nil
  | _, _, 0, .cons _ t => .cons r t
  | _, _, i + 1, .cons q t => .cons q (Vals.set r i t)
theorem Vals.append : ∀ {xs ys : List V} {us ws : List Value}, Vals xs us → Vals ys ws → Vals (xs ++ ys) (us ++ ws)
  | _, _, _, _, .nil, s => s
  | _, _, _, _, .cons r t, s => .cons r (Vals.append t s)
theorem Vals.take : ∀ {xs : List V} {us : List Value} (n : Nat), Vals xs us → Vals (xs.take n) (us.take n)
  | _, _, 0, _ => .nil
  | _, _, _ + 1, .nil => .nil
  | _, _, n + 1, .cons r t => .cons r (Vals.take n t)
theorem Vals.drop : ∀ {xs : List V} {us : List Value} (n : Nat), Vals xs us → Vals (xs.drop n) (us.drop n)
  | _, _, 0, r => r
  | _, _, _ + 1, .nil => .nil
  | _, _, n + 1, .cons _ t => Vals.drop n t
def RelO : Option V → Option Value → Prop
  | some v, some u => RelV v u
  | none, none => True
  | _, _ => False
def KV {κ : Type} : List (κ × V) → List (κ × Value) → Prop := Paired fun (p : κ × V) (q : κ × Value) => p.1 = q.1 ∧ RelV p.2 q.2

/-- a key of a dict (00_mix): an int or a text -/
def kV : Key → V
  | .inl i => .int i
  | .inr x => .str x

/-- what stands at a tracked address -/
inductive HO where
  /-- a list -/
  | lst (xs : List V)
  /-- a tuple (never changes) -/
  | tup (xs : List V)
  /-- a dict whose keys are ints and texts; one whose keys are tuples of ints and texts (the empty one is both) -/
  | dK (kvs : List (Key × V)) | dT (kvs : List (List Key × V))
  /-- a set of ints: its members, its size -/
  | set (S : Int → Bool) (n : Nat)
  /-- an instance of the class at C, its dict at dx, its attributes -/
  | ins (C dx : Addr) (fs : List (Str × V))
  /-- the dict of the instance at x -/
  | own (x : Addr)
  /-- the dict of an exception -/
  | xd (fs : List (Str × V))
  /-- a bound method, f of x -/
  | met (f x : Addr)
  /-- a range object lo, lo + 1, .. below hi -/
  | rng (lo hi : Int)
  /-- a thing that is known to the object (the script; a dict while a loop walks it): read, never written while it is so -/
  | frz (o : Obj) (u : HO)
  /-- a code object's table -/
  | tbl (ps : Array Value)
  /-- any other thing, by what is true of its one object (a def of one's own: SetO a S n := HO.ext fun h => ..) -/
  | ext (φ : Heap → Prop)

abbrev Hp := Addr → Option HO
def upd (H : Hp) (a : Addr) (o : HO) : Hp := fun b => if b = a then some o else H b
theorem upd_same {H : Hp} {a : Addr} {o : HO} : upd H a o a = some o := by unfold upd; rw [if_pos rfl]
theorem upd_ne {H : Hp} {a b : Addr} {o : HO} (h : b ≠ a) : upd H a o b = H b := by unfold upd; rw [if_neg h]
/-- two objects of different content stand apart -/
theorem ne_of {H : Hp} {a b : Addr} {o u : HO} (h : H a = some o) (h' : H b = some u) (d : o ≠ u) : a ≠ b := by
  intro e; subst e; rw [h] at h'; exact d (Option.some.inj h')
theorem ne_of_none {H : Hp} {a b : Addr} {o : HO} (h : H a = some o) (h' : H b = none) : a ≠ b := by
  intro e; subst e; rw [h] at h'; cases h'

section
variable (P : Program) (w : World)
def ObjOk (H : Hp) (h : Heap) (a : Addr) : HO → Prop
  | .lst xs => xs.length ≤ sizeLine ∧ ∃ (its : List Value) (n : Nat), Vals xs its ∧ h.get? a = some { cls := .type "list", data := .seq its.toArray n }
  | .tup xs => xs.length ≤ sizeLine ∧ ∃ its : List Value, Vals xs its ∧ IsTup h a its.toArray
  | .dK kvs => kvs.length ≤ sizeLine ∧ (a == sysModules) = false ∧ ∃ vs, KV kvs vs ∧ h.DictOf (mixKind P w) a vs
  | .dT kvs => kvs.length ≤ sizeLine ∧ (a == sysModules) = false ∧ ∃ xs : List (List Key × Addr × Value),
      Paired (fun (p : List Key × V) (q : List Key × Addr × Value) => p.1 = q.1 ∧ H q.2.1 = some (.tup (p.1.map kV)) ∧ RelV p.2 q.2.2) kvs xs ∧
      ∃ o es ep, h.get? a = some o ∧ o.ExactDict ∧ o.data = .dict es ep ∧ es.toList = xs.map (entryOfKey (tupleKind (mixKind P w))) ∧ (xs.map (·.1)).Nodup
  | .set S n => h.SetOf (intKind P w) a S n
  | .ins C dx fs => H dx = some (.own a) ∧ fs.length ≤ 1000 ∧ dx ≠ a ∧ h.get? a = some (PySem.W.instObj C dx) ∧
      ∃ mA, h.Ns1 dx mA ∧ (∀ f, RelO (fs.lookup f) (mA f)) ∧ PySem.Within mA (fs.map (·.1))
  | .own _ => ∃ o, h.get? a = some o
  | .xd fs => ∃ mA, h.Ns1 a mA ∧ ∀ f, RelO (fs.lookup f) (mA f)
  | .rng lo hi => ∃ t u v, h.get? a = some { cls := .type "range", data := .fields #[.int lo t, .int hi u, .int 1 v] }
  | .frz o u => h.get? a = some o ∧ ObjOk H h a u
  | .tbl ps => h.get? a = some { cls := .none, data := .fields ps }
  | .met f x => h.get? a = some (PySem.W.methodObj (.ref f) (.ref x))
  | .ext φ => φ h ∧ (∃ o, h.get? a = some o) ∧ ∀ h1 h2 : Heap, φ h1 → (∀ o, h1.get? a = some o → h2.get? a = some o) → φ h2
/-- the abstract heap is held -/
def HOk (H : Hp) (h : Heap) : Prop := ∀ a o, H a = some o → ObjOk P w H h a o
end

section
variable {P : Program} {w : World} {H H' : Hp} {h h' : Heap} {a : Addr} {o : HO}
theorem ObjOk.lt (x : ObjOk P w H h a o) : a < h.objs.size := by
  cases o with
  | lst xs => obtain ⟨_, _, _, _, e⟩ := x; exact Heap.lt_size e
  | tup xs => obtain ⟨_, _, _, p⟩ := x; exact p.lt
  | dK kvs => obtain ⟨_, _, _, _, o, _, _, e, _⟩ := x; exact Heap.lt_size e
  | dT kvs => obtain ⟨_, _, _, _, o, _, _, e, _⟩ := x; exact Heap.lt_size e
  | set S n => obtain ⟨o, _, _, _, e, _⟩ := x; exact Heap.lt_size e
  | ins C dx fs => obtain ⟨_, _, _, e, _⟩ := x; exact Heap.lt_size e
  | own y => obtain ⟨_, e⟩ := x; exact Heap.lt_size e
  | xd fs => obtain ⟨_, ⟨_, _, _, e, _⟩, _⟩ := x; exact Heap.lt_size e
  | rng lo hi => obtain ⟨_, _, _, e⟩ := x; exact Heap.lt_size e
  | frz ob u => obtain ⟨e, _⟩ := x; exact Heap.lt_size e
  | tbl ps => exact Heap.lt_size (show h.get? a = some _ from x)
  | met f y => exact Heap.lt_size (show h.get? a = some _ from x)
  | ext φ => obtain ⟨_, ⟨_, e⟩, _⟩ := x; exact Heap.lt_size e
theorem Paired.mapP {α β : Type} {F G : α → β → Prop} : ∀ {l₁ : List α} {l₂ : List β}, Paired F l₁ l₂ → (∀ a b, F a b → G a b) → Paired G l₁ l₂
  | _, _, .nil, _ => .nil
  | _, _, .cons r t, f => .cons (f _ _ r) (Paired.mapP t f)
/-- what an object's description leans on: its own object, its own dict, the tuples -/
theorem ObjOk.stay (x : ObjOk P w H h a o) (k : ∀ b u, (b = a ∨ H b = some (.own a)) → h.get? b = some u → h'.get? b = some u)
    (ho : ∀ b, H b = some (.own a) → H' b = some (.own a)) (ht : ∀ b xs, H b = some (.tup xs) → H' b = some (.tup xs)) : ObjOk P w H' h' a o := by
  induction o with
  | lst xs => obtain ⟨z, its, n, r, e⟩ := x; exact ⟨z, its, n, r, k _ _ (.inl rfl) e⟩
  | tup xs => obtain ⟨z, its, r, ob, e, c⟩ := x; exact ⟨z, its, r, ob, k _ _ (.inl rfl) e, c⟩
  | dK kvs => obtain ⟨z, y, vs, r, ob, es, ep, e, c⟩ := x; exact ⟨z, y, vs, r, ob, es, ep, k _ _ (.inl rfl) e, c⟩
  | dT kvs =>
    obtain ⟨z, y, xs, r, ob, es, ep, e, c⟩ := x
    exact ⟨z, y, xs, Paired.mapP r fun p q z => ⟨z.1, ht _ _ z.2.1, z.2.2⟩, ob, es, ep, k _ _ (.inl rfl) e, c⟩
  | set S n => obtain ⟨ob, es, ep, t, e, c⟩ := x; exact ⟨ob, es, ep, t, k _ _ (.inl rfl) e, c⟩
  | ins C dx fs =>
    obtain ⟨d, z, ne, e, mA, ⟨od, es, ep, e2, c⟩, r⟩ := x
    exact ⟨ho _ d, z, ne, k _ _ (.inl rfl) e, mA, ⟨od, es, ep, k _ _ (.inr d) e2, c⟩, r⟩
  | own y => obtain ⟨ob, e⟩ := x; exact ⟨ob, k _ _ (.inl rfl) e⟩
  | xd fs => obtain ⟨mA, ⟨od, es, ep, e, c⟩, r⟩ := x; exact ⟨mA, ⟨od, es, ep, k _ _ (.inl rfl) e, c⟩, r⟩
  | rng lo hi => obtain ⟨t, u, v, e⟩ := x; exact ⟨t, u, v, k _ _ (.inl rfl) e⟩
  | frz ob u ih => obtain ⟨e, q⟩ := x; exact ⟨k _ _ (.inl rfl) e, ih q⟩
  | tbl ps =>
    have e : h.get? a = some { cls := .none, data := .fields ps } := x
    show h'.get? a = some { cls := .none, data := .fields ps }
    exact k a _ (.inl rfl) e
  | met f y =>
    have e : h.get? a = some (PySem.W.methodObj (.ref f) (.ref y)) := x
    show h'.get? a = some (PySem.W.methodObj (.ref f) (.ref y))
    exact k a _ (.inl rfl) e
  | ext φ => obtain ⟨p, ⟨o, e⟩, st⟩ := x; exact ⟨st _ _ p fun o q => k _ _ (.inl rfl) q, ⟨o, k _ _ (.inl rfl) e⟩, st⟩
theorem HOk.lt (x : HOk P w H h) (e : H a = some o) : a < h.objs.size := (x a o e).lt
theorem HOk.fresh (x : HOk P w H h) (e : h.objs.size ≤ a) : H a = none := by
  cases q : H a with
  | none => rfl
  | some u => exact absurd (Nat.lt_of_lt_of_le (x.lt q) e) (Nat.lt_irrefl _)
/-- every object of the heap is kept -/
theorem HOk.kept (x : HOk P w H h) (k : ∀ b u, h.get? b = some u → h'.get? b = some u) : HOk P w H h' := fun a o e =>
  (x a o e).stay (fun b u _ q => k b u q) (fun _ q => q) fun _ _ q => q
/-- a new object is laid and tracked -/
theorem HOk.laid (x : HOk P w H h) (k : ∀ b u, h.get? b = some u → h'.get? b = some u) (hp : h.objs.size ≤ a) (new : ObjOk P w (upd H a o) h' a o) : HOk P w (upd H a o) h' := fun b u e => by
  have hn := x.fresh hp
  by_cases hb : b = a
  · subst hb; rw [upd_same] at e; cases e; exact new
  · rw [upd_ne hb] at e
    exact (x b u e).stay (fun c v _ q => k c v q) (fun c q => by rw [upd_ne (ne_of_none q hn)]; exact q) fun c xs q => by rw [upd_ne (ne_of_none q hn)]; exact q
end

/-- what may be read as u: it is u, or a known u -/
def Rd (H : Hp) (a : Addr) (u : HO) : Prop := H a = some u ∨ ∃ o, H a = some (.frz o u)
theorem Rd.ok {P : Program} {w : World} {H : Hp} {h : Heap} {a : Addr} {u : HO} (r : Rd H a u) (x : HOk P w H h) : ObjOk P w H h a u := by
  rcases r with r | ⟨o, r⟩
  · exact x a u r
  · obtain ⟨_, q⟩ := x a _ r
    exact q
/-- what may be written -/
def Mut : Option HO → Prop
  | some (.lst _) => True
  | some (.dK _) => True
  | some (.dT _) => True
  | some (.set _ _) => True
  | some (.ins _ _ _) => True
  | some (.ext _) => True
  | _ => False
section
variable {P : Program} {w : World} {H : Hp} {h h' : Heap} {x e : Addr} {o' : HO}
/-- the object at e is changed: x itself, or the dict of the instance x -/
theorem HOk.write (ok : HOk P w H h) (mu : Mut (H x)) (he : e = x ∨ H e = some (.own x)) (k : ∀ b u, b ≠ e → h.get? b = some u → h'.get? b = some u) (heo : ∃ u, h'.get? e = some u)
    (new : ObjOk P w (upd H x o') h' x o') : HOk P w (upd H x o') h' := fun b u q => by
  have nown : ∀ c y, H c = some (.own y) → c ≠ x := fun c y r z => by subst z; rw [r] at mu; exact mu
  have ntup : ∀ c xs, H c = some (.tup xs) → c ≠ x := fun c xs r z => by subst z; rw [r] at mu; exact mu
  by_cases hb : b = x
  · subst hb; rw [upd_same] at q; cases q; exact new
  · rw [upd_ne hb] at q
    by_cases hbe : b = e
    · have q' : H b = some (.own x) := by
        rcases he with z | z
        · exact absurd (hbe.trans z) hb
        · rw [hbe]; exact z
      rw [q] at q'; cases q'
      obtain ⟨v, hv⟩ := heo
      exact ⟨v, by rw [hbe]; exact hv⟩
    · refine (ok b u q).stay (fun c v hc r => k c v ?_ r) (fun c r => by rw [upd_ne (nown c b r)]; exact r) fun c xs r => by rw [upd_ne (ntup c xs r)]; exact r
      rcases hc with rfl | hc
      · exact hbe
      · rintro rfl
        rcases he with z | z
        · exact nown c b hc z
        · rw [hc] at z; cases z; exact hb rfl
end

/-! ### kept unless tracked; of the frames at fs (the callers') the slots may change (an exception that passes writes there); of the records at ex (iterators) nothing is said -/
structure Un (fs ex : List Addr) (H H' : Hp) (h h' : Heap) : Prop where
  keep : ∀ b o, h.get? b = some o → H b = none → b ∉ fs → b ∉ ex → h'.get? b = some o
  slot : ∀ b o, h.get? b = some o → H b = none → b ∈ fs → b ∉ ex → ∃ sl, h'.get? b = some { o with slots := sl }
  free : ∀ b o, h.get? b = some o → H b = none → b ∉ ex → H' b = none
  there : ∀ b o, h.get? b = some o → b ∉ ex → ∃ o', h'.get? b = some o'
  tups : ∀ b xs, H b = some (.tup xs) → H' b = some (.tup xs)
  frzs : ∀ b o u, H b = some (.frz o u) → H' b = some (.frz o u)
  tbls : ∀ b ps, H b = some (.tbl ps) → ∃ more, H' b = some (.tbl (ps ++ more))
section
variable {fs fs' ex ex' : List Addr} {H H1 H2 : Hp} {h h1 h2 h' : Heap} {a x e : Addr} {o : HO}
theorem Un.any (u : Un fs ex H H1 h h1) {b : Addr} {ob : Obj} (q : h.get? b = some ob) (n : H b = none) (hx : b ∉ ex) : ∃ sl, h1.get? b = some { ob with slots := sl } := by
  by_cases hb : b ∈ fs
  · exact u.slot b ob q n hb hx
  · exact ⟨ob.slots, u.keep b ob q n hb hx⟩
theorem Un.kept (k : ∀ b u, h.get? b = some u → h'.get? b = some u) : Un fs ex H H h h' :=
  ⟨fun b ob q _ _ _ => k b ob q, fun b ob q _ _ _ => ⟨ob.slots, k b ob q⟩, fun _ _ _ n _ => n, fun b ob q _ => ⟨ob, k b ob q⟩, fun _ _ q => q, fun _ _ _ q => q, fun _ ps q => ⟨#[], by rw [q]; simp⟩⟩
theorem Un.refl : Un fs ex H H h h := Un.kept fun _ _ q => q
theorem Un.laid (k : ∀ b u, h.get? b = some u → h'.get? b = some u) (hp : h.objs.size ≤ a) (hn : H a = none) : Un fs ex H (upd H a o) h h' where
  keep := fun b u q _ _ _ => k b u q
  slot := fun b u q _ _ _ => ⟨u.slots, k b u q⟩
  free := fun b u q n _ => by rw [upd_ne (Nat.ne_of_lt (Nat.lt_of_lt_of_le (Heap.lt_size q) hp))]; exact n
  there := fun b u q _ => ⟨u, k b u q⟩
  tups := fun b xs q => by rw [upd_ne (ne_of_none q hn)]; exact q
  frzs := fun b u xs q => by rw [upd_ne (ne_of_none q hn)]; exact q
  tbls := fun b ps q => ⟨#[], by rw [upd_ne (ne_of_none q hn), q]; simp⟩
theorem Un.write (mu : Mut (H x)) (he : e = x ∨ H e = some (.own x)) (k : ∀ b u, b ≠ e → h.get? b = some u → h'.get? b = some u) (heo : ∃ u, h'.get? e = some u) : Un fs ex H (upd H x o) h h' := by
  have hx : ∀ b, H b = none → b ≠ x := fun b n z => by subst z; rw [n] at mu; exact mu
  have hb : ∀ b, H b = none → b ≠ e := fun b n z => by
    subst z
    rcases he with r | r
    · exact hx b n r
    · rw [n] at r; cases r
  have hm : ∀ b u, H b = some u → ¬ Mut (some u) → b ≠ x := fun b u q nm z => by subst z; rw [q] at mu; exact nm mu
  refine ⟨fun b u q n _ _ => k b u (hb b n) q, fun b u q n _ _ => ⟨u.slots, k b u (hb b n) q⟩, fun b u q n _ => by rw [upd_ne (hx b n)]; exact n, fun b u q _ => ?_,
    fun b xs q => by rw [upd_ne (hm b _ q fun z => z)]; exact q, fun b u xs q => by rw [upd_ne (hm b _ q fun z => z)]; exact q, fun b ps q => ⟨#[], by rw [upd_ne (hm b _ q fun z => z), q]; simp⟩⟩
  by_cases hbe : b = e
  · subst hbe; exact heo
  · exact ⟨u, k b u hbe q⟩
end

/-! ### the heap without what is tracked -/
def trk (h : Heap) (H : Hp) : List Addr := (List.range h.objs.size).filter fun a => (H a).isSome
def hidT (h : Heap) (H : Hp) : Heap := PySem.W.hideAll h (trk h H)
theorem hidT_size (h : Heap) (H : Hp) : (hidT h H).objs.size = h.objs.size := PySem.W.hideAll_size _ _
theorem hidT_get {h : Heap} {H : Hp} {b : Addr} {o : Obj} (e : h.get? b = some o) (n : H b = none) : (hidT h H).get? b = some o :=
  PySem.W.hideAll_get _ e fun hm => by
    have q : (H b).isSome = true := (List.mem_filter.mp hm).2
    rw [n] at q; simp at q
theorem of_hidT {h : Heap} {H : Hp} {b : Addr} {o : Obj} (e : (hidT h H).get? b = some o) : h.get? b = some o ∧ H b = none := by
  have e' : h.get? b = some o := PySem.W.of_hideAll (trk h H) e
  refine ⟨e', ?_⟩
  cases q : H b with
  | none => rfl
  | some x =>
    have hm : b ∈ trk h H := List.mem_filter.mpr ⟨List.mem_range.mpr (Heap.lt_size e'), by simp [q]⟩
    have z : (hidT h H).get? b = none := PySem.W.hideAll_none (trk h H) hm
    rw [z] at e; cases e

/-! ### OpenK's ledger, filled with every new object but one -/
end L2

namespace L2
open PySem PySem.Spec PyProof.Rows

/-- the module's facts, over the base: the heap at the law's entry without what is tracked there -/
structure Mod (K : PySem.W.Frag) (mg : Str → Option Value) (base : Heap) : Prop where
  kin : K.In base
  glob : base.Ns mainGlobals mg
  blt : ∃ mb, base.Ns builtinsNs mb ∧ ∀ x : Str, x ≠ "__name__" → mb x = bootBuiltins x
  nolimit : base.NoLimit

/-- the context: a def's body (or a comprehension's block) running. base: fixed through the whole law; s₀, H₀: the entry; outer: the frames whose slots others may change (a def's callers); stack: all frames that run;
   ex: iterators that were made ahead of the entry and are walked here (a comprehension's); fn: the names whose cells were made at the entry (a def: all; a comprehension's block: its own); calm: not within an except suite; pn: pins that every state bears; xe: what is wanted of an exception that leaves the code -/
structure Cx where
  prog : Program
  w : World
  K : PySem.W.Frag
  mg : Str → Option Value
  base : Heap
  A : Around
  N : List Str
  s₀ : Shared
  H₀ : Hp
  env : Env
  outer : List Env
  stack : List Env
  ex : List Addr
  fn : Str → Bool
  calm : Bool
  pn : List (Addr × Obj)
  xe : Value → Shared → Prop
/-- the callers' frames -/
def frs (l : List Env) : List Addr := l.filterMap (·.frame)
abbrev Cx.fs (X : Cx) : List Addr := frs X.outer

def Vis (sc : Scope) (x : Str) : Prop := sc.names.lookup x = some .local ∨ sc.names.lookup x = some .cell ∨ sc.names.lookup x = some .free
def Loc (sc : Scope) (x : Str) : Prop := sc.names.lookup x = some .local ∨ sc.names.lookup x = some .cell
def Look (env : Env) (h : Heap) (m : Str → Option Value) (x : Str) (u : Value) : Prop :=
  (env.kindOf x = some .local ∧ m x = some u) ∨ ((env.kindOf x = some .cell ∨ env.kindOf x = some .free) ∧ ∃ c, env.cells.lookup x = some c ∧ h.IsCell c (some u))

structure Cx.Ok (X : Cx) : Prop where
  mod : Mod X.K X.mg X.base
  kind : X.env.scope.kind = .function
  glob : X.env.globals = mainGlobals
  blt : X.env.builtins = builtinsNs
  above : X.s₀.heap.objs.size ≤ X.env.locals
  inj : ∀ x y c, X.env.cells.lookup x = some c → X.env.cells.lookup y = some c → x = y
  has : ∀ x, (X.env.kindOf x = some .cell ∨ X.env.kindOf x = some .free) → ∃ c, X.env.cells.lookup x = some c
  cab : ∀ x c, X.fn x = true → X.env.cells.lookup x = some c → X.s₀.heap.objs.size ≤ c
  hd : X.calm = true → X.A.handled = none
  frames : X.A.frames = some X.stack
  stk : X.stack = X.outer ∨ (X.stack = X.env :: X.outer ∧ X.env.frame = some X.env.locals)
  exf : ∀ b ∈ X.ex, b ≠ X.env.locals ∧ ∀ x c, X.env.cells.lookup x = some c → c ≠ b
  bs : ∀ b o, X.base.get? b = some o → X.s₀.heap.get? b = some o ∧ X.H₀ b = none
  bsz : X.base.objs.size ≤ X.s₀.heap.objs.size
  noex : ∀ b o, X.base.get? b = some o → b ∉ X.ex
  exfs : ∀ b ∈ X.ex, b ∉ X.fs
  funs : X.s₀.heap.FunFrames X.base X.outer
  frf : ∀ b ∈ X.fs, X.H₀ b = none

structure Inv (X : Cx) (pins : List (Addr × Obj)) (σ : List (Option V)) (H : Hp) (s : Shared) : Prop where
  ok : X.Ok
  os : s.os = X.s₀.os
  bare : AllBare s.gens
  base : Un X.fs X.ex X.H₀ H X.s₀.heap s.heap
  loc : ∃ m, s.heap.Ns X.env.locals m ∧ ∀ (i : Nat) (x : Str) (v : V), X.N[i]? = some x → σ[i]? = some (some v) → Vis X.env.scope x → ∃ u, RelV v u ∧ Look X.env s.heap m x u
  cell : ∀ x c, X.env.cells.lookup x = some c → ∃ v, s.heap.IsCell c v
  free : H X.env.locals = none
  freeC : ∀ x c, X.env.cells.lookup x = some c → H c = none
  pin : ∀ p ∈ X.pn ++ pins, s.heap.get? p.1 = some p.2 ∧ H p.1 = none ∧ p.1 ≠ X.env.locals ∧ p.1 ∉ X.fs ∧ ∀ v, p.2.data ≠ .cell v
  hok : HOk X.prog X.w H s.heap
  len : σ.length = X.N.length

section
variable {X : Cx} {pins : List (Addr × Obj)} {σ : List (Option V)} {H H' : Hp} {s : Shared} {h' : Heap}

theorem Cx.Ok.nofr (ok : X.Ok) {b : Addr} {o : Obj} (e : X.base.get? b = some o) : b ∉ X.fs := fun hb => by
  have := (ok.funs.mem hb).1
  rw [e] at this; cases this
theorem Inv.bs (I : Inv X pins σ H s) : ∀ b o, X.base.get? b = some o → s.heap.get? b = some o ∧ H b = none := fun b o e =>
  ⟨I.base.keep b o (I.ok.bs b o e).1 (I.ok.bs b o e).2 (I.ok.nofr e) (I.ok.noex b o e), I.base.free b o (I.ok.bs b o e).1 (I.ok.bs b o e).2 (I.ok.noex b o e)⟩
theorem Inv.bk (I : Inv X pins σ H s) : ∀ b o, X.base.get? b = some o → s.heap.get? b = some o := fun b o e => (I.bs b o e).1
theorem Inv.mod (I : Inv X pins σ H s) : Mod X.K X.mg X.base := I.ok.mod
theorem Inv.kIn (I : Inv X pins σ H s) : X.K.In s.heap := I.ok.mod.kin.keeps I.bk
theorem Inv.lt (I : Inv X pins σ H s) : X.env.locals < s.heap.objs.size := let ⟨_, hn, _⟩ := I.loc; hn.lt
theorem Inv.sz (I : Inv X pins σ H s) : X.s₀.heap.objs.size ≤ s.heap.objs.size := Nat.le_trans I.ok.above (Nat.le_of_lt I.lt)
theorem Inv.nofs (I : Inv X pins σ H s) {a : Addr} (h : s.heap.objs.size ≤ a) : a ∉ X.fs := fun hb => by
  obtain ⟨_, o, ho, _⟩ := I.ok.funs.mem hb
  exact absurd (Nat.lt_of_lt_of_le (Heap.lt_size ho) (Nat.le_trans I.sz h)) (Nat.lt_irrefl _)
theorem Inv.cne (I : Inv X pins σ H s) : ∀ x c, X.env.cells.lookup x = some c → c ≠ X.env.locals := fun x c e z => by
  obtain ⟨v, o, ho, hd⟩ := I.cell x c e
  obtain ⟨m, ⟨o', es, ep, ho', hd', _⟩, _⟩ := I.loc
  rw [z, ho'] at ho; cases ho; rw [hd'] at hd; cases hd
theorem Inv.funs (I : Inv X pins σ H s) : s.heap.FunFrames X.base X.outer := by
  have all : ∀ (l : List Env), (∀ b ∈ frs l, b ∈ X.fs) → X.s₀.heap.FunFrames X.base l → s.heap.FunFrames X.base l := by
    intro l
    induction l with
    | nil => intro _ _; trivial
    | cons env r ih =>
      intro hs hl
      obtain ⟨hk, ⟨L, o, hf, hn, ho, hd⟩, hr⟩ := hl
      have hL : L ∈ X.fs := hs L (by unfold frs; rw [List.filterMap_cons, hf]; exact List.mem_cons_self)
      obtain ⟨sl, e⟩ := I.base.slot L o ho (I.ok.frf L hL) hL fun z => I.ok.exfs L z hL
      exact ⟨hk, ⟨L, _, hf, hn, e, hd⟩, ih (fun b hb => hs b (by unfold frs; rw [List.filterMap_cons, hf]; exact List.mem_cons_of_mem _ hb)) hr⟩
  exact all X.outer (fun _ hb => hb) I.ok.funs

/-- the frames that run, for a call -/
theorem Inv.stack (I : Inv X pins σ H s) : s.heap.FunFrames X.base X.stack := by
  rcases I.ok.stk with e | ⟨e, hf⟩
  · rw [e]; exact I.funs
  · rw [e]
    obtain ⟨m, hn, _⟩ := I.loc
    refine .cons (by rw [I.ok.kind]; decide) hf hn ?_ I.funs
    exact Heap.get?_none_of_le (Nat.le_trans I.ok.bsz I.ok.above)
theorem Inv.stkSub (I : Inv X pins σ H s) : ∀ b ∈ frs X.stack, b ∈ X.env.locals :: X.fs := fun b hb => by
  rcases I.ok.stk with e | ⟨e, hf⟩
  · rw [e] at hb; exact List.mem_cons_of_mem _ hb
  · rw [e] at hb
    unfold frs at hb
    rw [List.filterMap_cons, hf] at hb
    exact hb
theorem Inv.stkFree (I : Inv X pins σ H s) : ∀ b ∈ frs X.stack, H b = none := fun b hb => by
  rcases List.mem_cons.mp (I.stkSub b hb) with e | hb
  · rw [e]; exact I.free
  · obtain ⟨_, o, ho, _⟩ := I.ok.funs.mem hb
    exact I.base.free b o ho (I.ok.frf b hb) fun z => I.ok.exfs b z hb

/-- THE STEP: the untracked objects but the frame and the records at ch are kept (the callers' frames up to slots), the frame's map is kept, the new abstract heap is held -/
theorem Inv.step {g' : Array GenState} {t' : Nat} {d' : Drawn} {ch : List Addr} (I : Inv X pins σ H s)
    (hch : ∀ b ∈ ch, (b ∈ X.ex ∨ X.s₀.heap.objs.size ≤ b) ∧ b ≠ X.env.locals ∧ (∀ x c, X.env.cells.lookup x = some c → c ≠ b) ∧ ∀ p ∈ X.pn ++ pins, p.1 ≠ b)
    (keep : ∀ b o, b ≠ X.env.locals → b ∉ X.fs → b ∉ ch → s.heap.get? b = some o → H b = none → h'.get? b = some o)
    (slot : ∀ b o, b ≠ X.env.locals → b ∈ X.fs → b ∉ ch → s.heap.get? b = some o → H b = none → ∃ sl, h'.get? b = some { o with slots := sl }) (free : ∀ b o, b ∉ ch → s.heap.get? b = some o → H b = none → H' b = none)
    (there : ∀ b o, b ∉ ch → s.heap.get? b = some o → ∃ o', h'.get? b = some o')
    (tups : ∀ b xs, H b = some (.tup xs) → H' b = some (.tup xs)) (frzs : ∀ b o u, H b = some (.frz o u) → H' b = some (.frz o u)) (tbls : ∀ b ps, H b = some (.tbl ps) → ∃ more, H' b = some (.tbl (ps ++ more)))
    (ns : ∀ m, s.heap.Ns X.env.locals m → h'.Ns X.env.locals m) (hok : HOk X.prog X.w H' h') (hg : AllBare g') :
    Inv X pins σ H' { s with heap := h', gens := g', drawn := d', toks := t' } := by
  have neL : ∀ b o, X.s₀.heap.get? b = some o → b ≠ X.env.locals := fun b o e => Nat.ne_of_lt (Nat.lt_of_lt_of_le (Heap.lt_size e) I.ok.above)
  have neC : ∀ b o, X.s₀.heap.get? b = some o → b ∉ X.ex → b ∉ ch := fun b o e hx hb => by
    rcases (hch b hb).1 with z | z
    · exact hx z
    · exact absurd (Nat.lt_of_lt_of_le (Heap.lt_size e) z) (Nat.lt_irrefl _)
  have cellK : ∀ x c, X.env.cells.lookup x = some c → ∀ v, s.heap.IsCell c v → h'.IsCell c v := fun x c e v ⟨o, ho, hd⟩ => by
    have nch : c ∉ ch := fun z => (hch c z).2.2.1 x c e rfl
    by_cases hc : c ∈ X.fs
    · obtain ⟨sl, q⟩ := slot c o (I.cne x c e) hc nch ho (I.freeC x c e)
      exact ⟨_, q, hd⟩
    · exact ⟨o, keep c o (I.cne x c e) hc nch ho (I.freeC x c e), hd⟩
  refine ⟨I.ok, I.os, hg, ⟨fun b o e n hb hx => ?_, fun b o e n hb hx => ?_, fun b o e n hx => ?_, fun b o e hx => ?_, fun b xs e => tups b xs (I.base.tups b xs e), fun b o xs e => frzs b o xs (I.base.frzs b o xs e), fun b ps e => ?_⟩, ?_, fun x c e => ?_, ?_, fun x c e => ?_, fun p hp => ?_, hok, I.len⟩
  · exact keep b o (neL b o e) hb (neC b o e hx) (I.base.keep b o e n hb hx) (I.base.free b o e n hx)
  · obtain ⟨sl, e1⟩ := I.base.slot b o e n hb hx
    obtain ⟨sl', e2⟩ := slot b _ (neL b o e) hb (neC b o e hx) e1 (I.base.free b o e n hx)
    exact ⟨sl', e2⟩
  · obtain ⟨o', e1⟩ := I.base.there b o e hx
    exact free b o' (neC b o e hx) e1 (I.base.free b o e n hx)
  · obtain ⟨o', e1⟩ := I.base.there b o e hx
    exact there b o' (neC b o e hx) e1
  · obtain ⟨m1, e1⟩ := I.base.tbls b ps e
    obtain ⟨m2, e2⟩ := tbls b _ e1
    exact ⟨m1 ++ m2, by rw [e2, Array.append_assoc]⟩
  · obtain ⟨m, hn, hl⟩ := I.loc
    refine ⟨m, ns m hn, fun i x v e1 e2 e3 => ?_⟩
    obtain ⟨u, r, l⟩ := hl i x v e1 e2 e3
    refine ⟨u, r, ?_⟩
    rcases l with l | ⟨k, c, e, z⟩
    · exact .inl l
    · exact .inr ⟨k, c, e, cellK x c e _ z⟩
  · obtain ⟨v, z⟩ := I.cell x c e
    exact ⟨v, cellK x c e v z⟩
  · obtain ⟨m, ⟨o, _, _, ho, _⟩, _⟩ := I.loc
    exact free _ o (fun z => (hch _ z).2.1 rfl) ho I.free
  · obtain ⟨v, o, ho, hd⟩ := I.cell x c e
    exact free c o (fun z => (hch c z).2.2.1 x c e rfl) ho (I.freeC x c e)
  · obtain ⟨e, n, ne, nf, d⟩ := I.pin p hp
    have nch : p.1 ∉ ch := fun z => (hch p.1 z).2.2.2 p hp rfl
    exact ⟨keep p.1 p.2 ne nf nch e n, free p.1 p.2 nch e n, ne, nf, d⟩
/-- .. where the frame's own object is kept too -/
theorem Inv.un {t' : Nat} (I : Inv X pins σ H s) (u : Un X.fs [] H H' s.heap h') (hok : HOk X.prog X.w H' h') : Inv X pins σ H' { s with heap := h', toks := t' } := by
  obtain ⟨m, ⟨o, es, ep, ho, r⟩, _⟩ := id I.loc
  obtain ⟨sl, hL⟩ := u.any ho I.free (by simp)
  exact I.step (g' := s.gens) (d' := s.drawn) (ch := []) (fun _ z => nomatch z) (fun b o _ hb _ e n => u.keep b o e n hb (by simp)) (fun b o _ hb _ e n => u.slot b o e n hb (by simp)) (fun b o _ e n => u.free b o e n (by simp)) (fun b o _ e => u.there b o e (by simp)) u.tups u.frzs u.tbls (fun m' hm => by
    obtain ⟨o', es', ep', ho', r'⟩ := hm
    rw [ho] at ho'; cases ho'
    exact ⟨_, es', ep', hL, r'⟩) hok I.bare
/-- behind a call (or a comprehension's block): the slots of this frame may have changed too, the records at ch may have turned -/
theorem Inv.call {g' : Array GenState} {t' : Nat} {d' : Drawn} {ch : List Addr} (I : Inv X pins σ H s) (u : Un (frs X.stack) ch H H' s.heap h') (hok : HOk X.prog X.w H' h') (hg : AllBare g')
    (hch : ∀ b ∈ ch, (b ∈ X.ex ∨ X.s₀.heap.objs.size ≤ b) ∧ b ≠ X.env.locals ∧ (∀ x c, X.env.cells.lookup x = some c → c ≠ b) ∧ ∀ p ∈ X.pn ++ pins, p.1 ≠ b) :
    Inv X pins σ H' { s with heap := h', gens := g', drawn := d', toks := t' } := by
  obtain ⟨m, ⟨o, es, ep, ho, r⟩, _⟩ := id I.loc
  obtain ⟨sl, hL⟩ := u.any ho I.free fun z => (hch _ z).2.1 rfl
  exact I.step (ch := ch) hch (fun b o hL hb hc e n => u.keep b o e n (fun z => (List.mem_cons.mp (I.stkSub b z)).elim hL hb) hc) (fun b o _ _ hc e n => u.any e n hc) (fun b o hc e n => u.free b o e n hc) (fun b o hc e => u.there b o e hc) u.tups u.frzs u.tbls (fun m' hm => by
    obtain ⟨o', es', ep', ho', r'⟩ := hm
    rw [ho] at ho'; cases ho'
    exact ⟨_, es', ep', hL, r'⟩) hok hg
/-- an untracked record of ours (an iterator) has turned -/
theorem Inv.turned {t' : Nat} {it : Addr} (I : Inv X pins σ H s) (k : ∀ b o, b ≠ it → s.heap.get? b = some o → h'.get? b = some o) (hn : H it = none) (hL : it ≠ X.env.locals)
    (h1 : it ∈ X.ex ∨ X.s₀.heap.objs.size ≤ it) (h2 : ∀ x c, X.env.cells.lookup x = some c → c ≠ it) (h3 : ∀ p ∈ X.pn ++ pins, p.1 ≠ it) : Inv X pins σ H { s with heap := h', toks := t' } := by
  have nit : ∀ b u, H b = some u → b ≠ it := fun b u e z => by rw [z, hn] at e; cases e
  refine I.step (g' := s.gens) (d' := s.drawn) (ch := [it]) (fun b hb => ?_) (fun b o _ _ hc e _ => k b o (fun z => hc (by simp [z])) e) (fun b o _ _ hc e _ => ⟨o.slots, k b o (fun z => hc (by simp [z])) e⟩) (fun _ _ _ _ n => n)
    (fun b o hc e => ⟨o, k b o (fun z => hc (by simp [z])) e⟩) (fun _ _ e => e) (fun _ _ _ e => e) (fun b ps e => ⟨#[], by rw [e]; simp⟩) (fun m hm => ?_) (fun b u e => ?_) I.bare
  · have e : b = it := by simpa using hb
    subst e
    exact ⟨h1, hL, h2, h3⟩
  · obtain ⟨o, es, ep, ho, r⟩ := hm
    exact ⟨o, es, ep, k _ o (Ne.symm hL) ho, r⟩
  · refine (I.hok b u e).stay (fun c v hc q => k c v ?_ q) (fun _ q => q) fun _ _ q => q
    rcases hc with z | z
    · rw [z]; exact nit b u e
    · exact nit c _ z
theorem Inv.tok (I : Inv X pins σ H s) (t : Nat) : Inv X pins σ H { s with toks := t } := I.un (h' := s.heap) (t' := t) Un.refl I.hok
/-- all objects kept -/
theorem Inv.kept {t' : Nat} (I : Inv X pins σ H s) (k : ∀ b u, s.heap.get? b = some u → h'.get? b = some u) : Inv X pins σ H { s with heap := h', toks := t' } := I.un (Un.kept k) (I.hok.kept k)
/-- a new object laid and tracked -/
theorem Inv.laid {a : Addr} {o : HO} {t' : Nat} (I : Inv X pins σ H s) (k : ∀ b u, s.heap.get? b = some u → h'.get? b = some u) (hp : s.heap.objs.size ≤ a) (new : ObjOk X.prog X.w (upd H a o) h' a o) :
    Inv X pins σ (upd H a o) { s with heap := h', toks := t' } := I.un (Un.laid k hp (I.hok.fresh hp)) (I.hok.laid k hp new)
/-- an object written -/
theorem Inv.write {x e : Addr} {o : HO} {t' : Nat} (I : Inv X pins σ H s) (mu : Mut (H x)) (he : e = x ∨ H e = some (.own x)) (k : ∀ b u, b ≠ e → s.heap.get? b = some u → h'.get? b = some u) (heo : ∃ u, h'.get? e = some u)
    (new : ObjOk X.prog X.w (upd H x o) h' x o) : Inv X pins σ (upd H x o) { s with heap := h', toks := t' } := I.un (Un.write mu he k heo) (I.hok.write mu he k heo new)
/-- forgetting slots, pins -/
theorem Inv.weak {σ' : List (Option V)} (I : Inv X pins σ H s) (hl : σ'.length = σ.length) (w : ∀ (i : Nat) v, σ'[i]? = some (some v) → σ[i]? = some (some v)) : Inv X pins σ' H s :=
  ⟨I.ok, I.os, I.bare, I.base, let ⟨m, hn, hl'⟩ := I.loc; ⟨m, hn, fun i x v e1 e2 e3 => hl' i x v e1 (w i v e2) e3⟩, I.cell, I.free, I.freeC, I.pin, I.hok, hl.trans I.len⟩
theorem Inv.pins_of {pins' : List (Addr × Obj)} (I : Inv X pins σ H s) (h : ∀ p ∈ pins', s.heap.get? p.1 = some p.2 ∧ H p.1 = none ∧ p.1 ≠ X.env.locals ∧ p.1 ∉ X.fs ∧ ∀ v, p.2.data ≠ .cell v) : Inv X pins' σ H s :=
  ⟨I.ok, I.os, I.bare, I.base, I.loc, I.cell, I.free, I.freeC, fun p hp => (List.mem_append.mp hp).elim (fun z => I.pin p (List.mem_append_left _ z)) (h p), I.hok, I.len⟩

theorem nodup_ix {N : List Str} (hN : N.Nodup) {i j : Nat} {x : Str} (a : N[i]? = some x) (b : N[j]? = some x) : i = j := by
  obtain ⟨h1, e1⟩ := List.getElem?_eq_some_iff.mp a
  obtain ⟨h2, e2⟩ := List.getElem?_eq_some_iff.mp b
  exact (List.getElem_inj hN).mp (e1.trans e2.symm)

/-- a name is stored; what changed -/
theorem store_ok2 {M : Model} {A : Around} {E : Value → Shared → Prop} {i : Nat} {x : Str} {v : V} {u : Value} {Q : Unit → Shared → Prop} (I : Inv X pins σ H s) (hN : X.N.Nodup) (hi : X.N[i]? = some x) (hx : Loc X.env.scope x) (r : RelV v u)
    (h : ∀ s', Inv X pins (σ.set i (some v)) H s' → (∃ a, Heap.SameBut a s.heap s'.heap ∧ (a = X.env.locals ∨ X.env.cells.lookup x = some a)) → Q () s') (hf : X.fn x = true ∨ X.env.scope.names.lookup x = some .local := by first | exact .inl rfl | exact .inr rfl | assumption) : wpAny M A (storeName X.env x u) Q E s := by
  obtain ⟨m, hn, hl⟩ := id I.loc
  have hcls : (X.env.scope.kind == .class || (X.env.scope.kind == .module && X.env.locals != X.env.globals)) = false := by rw [I.ok.kind]; rfl
  have hiσ : i < σ.length := by rw [I.len]; exact (List.getElem?_eq_some_iff.mp hi).1
  have cne := I.cne
  have tracked : ∀ {a : Addr} {h' : Heap}, (∃ o, s.heap.get? a = some o ∧ H a = none) → Heap.SameBut a s.heap h' → HOk X.prog X.w H h' := fun {a h'} ha hs b ob e => by
    obtain ⟨_, _, hfree⟩ := ha
    refine (I.hok b ob e).stay (fun c w' hc q => (hs.2 c ?_).trans q) (fun _ q => q) fun _ _ q => q
    rintro rfl
    rcases hc with rfl | hc
    · rw [hfree] at e; cases e
    · rw [hfree] at hc; cases hc
  rcases hx with hk | hk
  · refine wpAny_storeName_local hk hn (fun h' hn' hs => ?_) hcls
    obtain ⟨oL, _, _, hoL, _⟩ := id hn
    refine h _ ⟨I.ok, I.os, I.bare, ⟨fun b o e n hb hx => ?_, fun b o e n hb hx => ?_, I.base.free, fun b o e hx => ?_, I.base.tups, I.base.frzs, I.base.tbls⟩, ⟨_, hn', fun j y v' e1 e2 e3 => ?_⟩, fun y c e => ?_, I.free, I.freeC, fun p hp => ?_, tracked ⟨oL, hoL, I.free⟩ hs, by simpa using I.len⟩ ⟨_, hs, .inl rfl⟩
    · exact (hs.2 b (Nat.ne_of_lt (Nat.lt_of_lt_of_le (Heap.lt_size e) I.ok.above))).trans (I.base.keep b o e n hb hx)
    · obtain ⟨sl, e1⟩ := I.base.slot b o e n hb hx
      exact ⟨sl, (hs.2 b (Nat.ne_of_lt (Nat.lt_of_lt_of_le (Heap.lt_size e) I.ok.above))).trans e1⟩
    · obtain ⟨o', e1⟩ := I.base.there b o e hx
      exact ⟨o', (hs.2 b (Nat.ne_of_lt (Nat.lt_of_lt_of_le (Heap.lt_size e) I.ok.above))).trans e1⟩
    · by_cases hj : j = i
      · subst hj
        rw [hi] at e1; cases e1
        rw [List.getElem?_set_self hiσ] at e2
        cases e2
        exact ⟨u, r, .inl ⟨hk, by simp⟩⟩
      · rw [List.getElem?_set_ne (Ne.symm hj)] at e2
        obtain ⟨u', r', q⟩ := hl j y v' e1 e2 e3
        refine ⟨u', r', ?_⟩
        rcases q with ⟨k, e⟩ | ⟨k, c, e, z⟩
        · refine .inl ⟨k, ?_⟩
          have : y ≠ x := fun e => hj (nodup_ix hN e1 (e ▸ hi))
          simp [this, e]
        · exact .inr ⟨k, c, e, z.sameBut hs (cne y c e)⟩
    · obtain ⟨w', z⟩ := I.cell y c e
      exact ⟨w', z.sameBut hs (cne y c e)⟩
    · obtain ⟨e, n, ne, nf, d⟩ := I.pin p hp
      exact ⟨(hs.2 p.1 ne).trans e, n, ne, nf, d⟩
  · have hfn : X.fn x = true := by
      rcases hf with z | z
      · exact z
      · rw [z] at hk; cases hk
    obtain ⟨c, hc⟩ := I.ok.has x (.inl hk)
    obtain ⟨w', z⟩ := I.cell x c hc
    refine wpAny_storeName_cell I.ok.kind hk hc z (fun h' hc' hs => ?_)
    obtain ⟨oc, hoc, hocd⟩ := id z
    refine h { s with heap := h' } ⟨I.ok, I.os, I.bare, ⟨fun b o e n hb hx => ?_, fun b o e n hb hx => ?_, I.base.free, fun b o e hx => ?_, I.base.tups, I.base.frzs, I.base.tbls⟩, ⟨m, hn.sameBut hs (Ne.symm (cne x c hc)), fun j y v' e1 e2 e3 => ?_⟩, fun y c' e => ?_, I.free, I.freeC, fun p hp => ?_, tracked ⟨oc, hoc, I.freeC x c hc⟩ hs, by simpa using I.len⟩ ⟨c, hs, .inr hc⟩
    · exact (hs.2 b (Nat.ne_of_lt (Nat.lt_of_lt_of_le (Heap.lt_size e) (I.ok.cab x c hfn hc)))).trans (I.base.keep b o e n hb hx)
    · obtain ⟨sl, e1⟩ := I.base.slot b o e n hb hx
      exact ⟨sl, (hs.2 b (Nat.ne_of_lt (Nat.lt_of_lt_of_le (Heap.lt_size e) (I.ok.cab x c hfn hc)))).trans e1⟩
    · obtain ⟨o', e1⟩ := I.base.there b o e hx
      exact ⟨o', (hs.2 b (Nat.ne_of_lt (Nat.lt_of_lt_of_le (Heap.lt_size e) (I.ok.cab x c hfn hc)))).trans e1⟩
    · by_cases hj : j = i
      · subst hj
        rw [hi] at e1; cases e1
        rw [List.getElem?_set_self hiσ] at e2
        cases e2
        exact ⟨u, r, .inr ⟨.inl hk, c, hc, hc'⟩⟩
      · rw [List.getElem?_set_ne (Ne.symm hj)] at e2
        obtain ⟨u', r', q⟩ := hl j y v' e1 e2 e3
        refine ⟨u', r', ?_⟩
        rcases q with q | ⟨k, c', e, z'⟩
        · exact .inl q
        · refine .inr ⟨k, c', e, z'.sameBut hs ?_⟩
          rintro rfl
          exact hj (nodup_ix hN e1 (I.ok.inj _ _ _ e hc ▸ hi))
    · by_cases hcc : c' = c
      · subst hcc; exact ⟨_, hc'⟩
      · obtain ⟨w2, z2⟩ := I.cell y c' e
        exact ⟨w2, z2.sameBut hs hcc⟩
    · obtain ⟨e, n, ne, nf, d⟩ := I.pin p hp
      refine ⟨(hs.2 p.1 ?_).trans e, n, ne, nf, d⟩
      intro q
      rw [q, hoc] at e
      have q' : oc = p.2 := Option.some.inj e
      exact d w' (by rw [← q']; exact hocd)
theorem store_ok {M : Model} {A : Around} {E : Value → Shared → Prop} {i : Nat} {x : Str} {v : V} {u : Value} {Q : Unit → Shared → Prop} (I : Inv X pins σ H s) (hN : X.N.Nodup) (hi : X.N[i]? = some x) (hx : Loc X.env.scope x) (r : RelV v u)
    (h : ∀ s', Inv X pins (σ.set i (some v)) H s' → Q () s') (hf : X.fn x = true ∨ X.env.scope.names.lookup x = some .local := by first | exact .inl rfl | exact .inr rfl | assumption) : wpAny M A (storeName X.env x u) Q E s :=
  store_ok2 I hN hi hx r (fun s' I' _ => h s' I') hf
/-- behind a call or a block, the state as it is -/
theorem Inv.call' {s' : Shared} {ch : List Addr} (I : Inv X pins σ H s) (ho : s'.os = s.os) (u : Un (frs X.stack) ch H H' s.heap s'.heap) (hok : HOk X.prog X.w H' s'.heap) (hg : AllBare s'.gens)
    (hch : ∀ b ∈ ch, (b ∈ X.ex ∨ X.s₀.heap.objs.size ≤ b) ∧ b ≠ X.env.locals ∧ (∀ x c, X.env.cells.lookup x = some c → c ≠ b) ∧ ∀ p ∈ X.pn ++ pins, p.1 ≠ b) : Inv X pins σ H' s' := by
  obtain ⟨h', g', d', t', o'⟩ := s'
  have e : o' = s.os := ho
  subst e
  exact I.call (g' := g') (t' := t') (d' := d') u hok hg hch
end

/-! ### the judgements -/
/-- an exception: its class, its own dict's address (where it has one), the abstract heap behind it -/
abbrev XK := Value → Option Addr → Hp → Prop
abbrev St := List (Option V)
abbrev VK := V → Hp → Prop
/-- an expression's reading; a test's; an argument list's -/
abbrev TE := St → Hp → VK → Prop
abbrev TT := St → Hp → (Bool → Hp → Prop) → Prop
abbrev TA := St → Hp → (List V → Hp → Prop) → Prop
/-- what is wanted behind a statement -/
structure Ends where
  nx : St → Hp → Prop
  rt : VK
  bk : St → Hp → Prop := fun _ _ => False
  ct : St → Hp → Prop := fun _ _ => False
abbrev TS := Ends → St → Hp → Prop

def EP (X : Cx) (pins : List (Addr × Obj)) (σ : St) (Q : VK) (u : Value) (s' : Shared) : Prop := ∃ v H', Inv X pins σ H' s' ∧ RelV v u ∧ Q v H'
def TP (X : Cx) (pins : List (Addr × Obj)) (σ : St) (Q : Bool → Hp → Prop) (b : Bool) (s' : Shared) : Prop := ∃ H', Inv X pins σ H' s' ∧ Q b H'
def AP (X : Cx) (pins : List (Addr × Obj)) (σ : St) (Q : List V → Hp → Prop) (us : List Value) (s' : Shared) : Prop := ∃ vs H', Inv X pins σ H' s' ∧ Vals vs us ∧ Q vs H'
def SP (X : Cx) (pins : List (Addr × Obj)) (D : Ends) (f : Flow) (s' : Shared) : Prop :=
  match f with
  | .next => ∃ σ' H', Inv X pins σ' H' s' ∧ D.nx σ' H'
  | .brk => ∃ σ' H', Inv X pins σ' H' s' ∧ D.bk σ' H'
  | .cont => ∃ σ' H', Inv X pins σ' H' s' ∧ D.ct σ' H'
  | .ret u => ∃ v σ' H', Inv X pins σ' H' s' ∧ RelV v u ∧ D.rt v H'

def PE (X : Cx) (e : Expr) (t : TE) : Prop :=
  ∀ (pins : List (Addr × Obj)) (s : Shared) (σ : St) (H : Hp) (Q : VK), Inv X pins σ H s → t σ H Q → wpAny (model X.prog X.w) X.A (eval e X.env) (EP X pins σ Q) X.xe s
def PT (X : Cx) (e : Expr) (t : TT) : Prop :=
  ∀ (pins : List (Addr × Obj)) (s : Shared) (σ : St) (H : Hp) (Q : Bool → Hp → Prop), Inv X pins σ H s → t σ H Q → wpAny (model X.prog X.w) X.A (isTrue e X.env (eval e X.env)) (TP X pins σ Q) X.xe s
/-- a test whatever its 'whole' is (and, or) -/
def PW (X : Cx) (e : Expr) (t : TT) : Prop :=
  ∀ (whole : Sem Value) (pins : List (Addr × Obj)) (s : Shared) (σ : St) (H : Hp) (Q : Bool → Hp → Prop), Inv X pins σ H s → t σ H Q → wpAny (model X.prog X.w) X.A (isTrue e X.env whole) (TP X pins σ Q) X.xe s
theorem PW.pt {X : Cx} {e : Expr} {t : TT} (h : PW X e t) : PT X e t := h _
/-- an argument list (no star), from the left -/
def PA (X : Cx) (es : List Expr) (t : TA) : Prop :=
  ∀ (pos : Pos) (pins : List (Addr × Obj)) (s : Shared) (σ : St) (H : Hp) (Q : List V → Hp → Prop), Inv X pins σ H s → t σ H Q → wpAny (model X.prog X.w) X.A (spliced (backTo pos (starEach es X.env))) (AP X pins σ Q) X.xe s
def PS (X : Cx) (st : Stmt) (t : TS) : Prop :=
  ∀ (pins : List (Addr × Obj)) (s : Shared) (σ : St) (H : Hp) (D : Ends), Inv X pins σ H s → t D σ H → wpAny (model X.prog X.w) X.A (exec st X.env) (SP X pins D) X.xe s
def PSs (X : Cx) (st : List Stmt) (t : TS) : Prop :=
  ∀ (pins : List (Addr × Obj)) (s : Shared) (σ : St) (H : Hp) (D : Ends), Inv X pins σ H s → t D σ H → wpAny (model X.prog X.w) X.A (execs st X.env) (SP X pins D) X.xe s
/-- weaken the end -/
theorem thn {α : Type} {t : Sem α} {Q Q' : α → Shared → Prop} {M : Model} {A : Around} {E : Value → Shared → Prop} {s : Shared} (h : wpAny M A t Q E s) (hQ : ∀ a s, Q a s → Q' a s) : wpAny M A t Q' E s := wpAny_mono h hQ fun _ _ x => x
end L2

namespace L2
open PySem PySem.Spec PyProof.Rows
section
variable {X : Cx}

/-! ### names and constants -/
def tVar (i : Nat) : TE := fun σ H Q => ∃ v, σ[i]? = some (some v) ∧ Q v H
def tC (v : V) : TE := fun _ H Q => Q v H
theorem pe_var {i : Nat} {x : Str} {pos : Pos} (hN : X.N[i]? = some x) (hv : Vis X.env.scope x) (hd : (x == ("__debug__" : Str)) = false := by decide) (hcd : (x == ("__classdict__" : Str)) = false := by decide) : PE X (.Name x pos) (tVar i) := by
  intro pins s σ H Q I h
  obtain ⟨v, e, h⟩ := h
  obtain ⟨m, hn, hl⟩ := I.loc
  obtain ⟨u, r, l⟩ := hl i x v hN e hv
  have fin : EP X pins σ Q u s := ⟨v, H, I, r, h⟩
  rcases l with ⟨hk, hm⟩ | ⟨hk, c, hc, hcell⟩
  · exact wpAny_Name (wpAny_loadName_local I.ok.kind hk hn hm fin) hd
  · rcases hk with hk | hk
    · exact wpAny_Name (wpAny_loadName_cell I.ok.kind hk hc hcell fin) hd
    · exact wpAny_Name (wpAny_loadName_free I.ok.kind hk hc hcell fin hcd) hd
theorem pe_int {i j pos} : PE X (.Constant (.int i) j pos) (tC (.int i)) := fun _ _ _ H _ I h => wpAny_Constant_int ⟨.int i, H, I.tok _, ⟨_, rfl⟩, h⟩
theorem pe_bl {b j pos} : PE X (.Constant (.bool b) j pos) (tC (.bl b)) := fun _ _ _ H _ I h => Constant_bool ⟨.bl b, H, I, rfl, h⟩
theorem pe_non {j pos} : PE X (.Constant .none j pos) (tC .non) := fun _ _ _ H _ I h => Constant_none ⟨.non, H, I, rfl, h⟩
theorem pe_str {x j pos} : PE X (.Constant (.str x) j pos) (tC (.str x)) := fun _ _ _ H _ I h => Calls.Constant_str ⟨.str x, H, I.tok _, ⟨_, rfl⟩, h⟩

/-- a global name of the def -/
def Gl (X : Cx) (x : Str) : Prop := X.env.kindOf x = some .globalImplicit
theorem ld_glob {E : Value → Shared → Prop} {pins : List (Addr × Obj)} {s : Shared} {σ : St} {H : Hp} {x : Str} {u : Value} {pos : Pos} {Q : Value → Shared → Prop} (I : Inv X pins σ H s) (hg : Gl X x) (hm : X.mg x = some u) (h : Q u s)
    (hd : (x == ("__debug__" : Str)) = false := by decide) : wpAny (model X.prog X.w) X.A (eval (.Name x pos) X.env) Q E s :=
  Calls.Name_function_global I.ok.kind hg (Calls.loadGlobal_global (by rw [I.ok.glob]; exact I.mod.glob.keeps I.bk) hm h) hd
theorem ld_blt {E : Value → Shared → Prop} {pins : List (Addr × Obj)} {s : Shared} {σ : St} {H : Hp} {x : Str} {u : Value} {pos : Pos} {Q : Value → Shared → Prop} (I : Inv X pins σ H s) (hg : Gl X x) (hm : X.mg x = none) (hv : bootBuiltins x = some u) (h : Q u s)
    (hn : x ≠ "__name__" := by decide) (hd : (x == ("__debug__" : Str)) = false := by decide) : wpAny (model X.prog X.w) X.A (eval (.Name x pos) X.env) Q E s := by
  obtain ⟨mb, h1, h2⟩ := I.mod.blt
  exact Calls.Name_function_global I.ok.kind hg (Calls.loadGlobal_builtin (by rw [I.ok.glob]; exact I.mod.glob.keeps I.bk) hm (by rw [I.ok.blt]; exact h1.keeps I.bk) ((h2 x hn).trans hv) h) hd
theorem pe_bltn {x : Str} {v : V} {u : Value} {pos : Pos} (hg : Gl X x) (hm : X.mg x = none) (hv : bootBuiltins x = some u) (r : RelV v u) (hn : x ≠ "__name__" := by decide) (hd : (x == ("__debug__" : Str)) = false := by decide) : PE X (.Name x pos) (tC v) :=
  fun _ _ _ H _ I h => ld_blt I hg hm hv ⟨v, H, I, r, h⟩ hn hd

/-! ### arithmetic -/
variable {a b : Expr} {ta tb : TE} {pos : Pos}
/-! ### comparisons -/
def PC (X : Cx) (op : CmpOp) (a b : Expr) (t : TE) : Prop :=
  ∀ (pins : List (Addr × Obj)) (s : Shared) (σ : St) (H : Hp) (Q : VK), Inv X pins σ H s → t σ H Q →
    wpAny (model X.prog X.w) X.A (eval a X.env) (fun v s₁ => wpAny (model X.prog X.w) X.A (eval b X.env) (fun u s₂ => wpAny (model X.prog X.w) X.A (compareOp op v u) (EP X pins σ Q) X.xe s₂) X.xe s₁) X.xe s
theorem nobehind (b : Expr) {op : CmpOp} (h : op ≠ .In) (h2 : op ≠ .NotIn) : behindInMarks op b = false := by
  have e1 : (op == CmpOp.In) = false := by cases op <;> first | rfl | exact absurd rfl h
  have e2 : (op == CmpOp.NotIn) = false := by cases op <;> first | rfl | exact absurd rfl h2
  cases b <;> simp [behindInMarks, e1, e2]
/-- is None -/
def tIsN (ta : TE) : TE := fun σ H Q => ta σ H fun x H1 => Q (.bl (decide (x = .non))) H1
theorem RelV.none_iff {x : V} {v : Value} (r : RelV x v) : (v == Value.none) = decide (x = .non) := by
  cases x with
  | non => cases r; rfl
  | bl _ => cases r; rfl
  | int _ => obtain ⟨t, rfl⟩ := r; rfl
  | str _ => obtain ⟨t, rfl⟩ := r; rfl
  | byt _ => obtain ⟨t, rfl⟩ := r; rfl
  | flt _ => obtain ⟨t, rfl⟩ := r; rfl
  | ref _ => cases r; rfl
  | ty _ => cases r; rfl
theorem pc_isN {j pos'} (ha : PE X a ta) : PC X .Is a (.Constant .none j pos') (tIsN ta) := by
  intro pins s σ H Q I h
  refine thn (ha pins s σ H _ I h) fun v s1 ⟨x, H1, I1, r1, q1⟩ => ?_
  exact Constant_none (is_none_gen ⟨.bl _, H1, I1, by rw [r1.none_iff]; rfl, q1⟩)
/-- a comparison as a value, as a test -/
def tB (t : TE) : TT := fun σ H Q => t σ H fun x H1 => ∃ c, x = .bl c ∧ Q c H1
theorem pe_cmp {op : CmpOp} {t : TE} (h : PC X op a b t) (h1 : behindInMarks op b = false := by first | exact nobehind _ (by decide) (by decide) | rfl) : PE X (.Compare a [op] [b] pos) t := fun pins s σ H Q I hw => wpAny_Compare1 (h pins s σ H Q I hw) h1
theorem pt_cmp {op : CmpOp} {t : TE} (h : PC X op a b t) (h1 : behindInMarks op b = false := by first | exact nobehind _ (by decide) (by decide) | rfl) : PT X (.Compare a [op] [b] pos) (tB t) := by
  intro pins s σ H Q I hw
  refine wpAny_isTrue_Compare1 (thn (h pins s σ H _ I hw) fun v s1 h1 => thn h1 fun u s2 h2 => thn h2 fun c s3 ⟨x, H1, I1, r1, q1⟩ => ?_) h1
  obtain ⟨d, rfl, q⟩ := q1
  cases r1
  exact wpAny_truthy_bool ⟨H1, I1, q⟩
/-- an expression whose value is a bool, as a test -/
theorem pt_val {e : Expr} {t : TE} (h : PE X e t) (he : ∀ whole, isTrue e X.env whole = (do let v ← whole; standAt e.pos; holding [v] (truthy v)) := by intro _; rfl) : PT X e (tB t) := by
  intro pins s σ H Q I hw
  refine isTrue_plain (thn (h pins s σ H _ I hw) fun v s1 ⟨x, H1, I1, r1, q1⟩ => ?_) (he _)
  obtain ⟨d, rfl, q⟩ := q1
  cases r1
  exact wpAny_truthy_bool ⟨H1, I1, q⟩

/-! ### and, or, not -/
variable {tA tB' : TT} {rest : List Expr}
def tAnd (t u : TT) : TT := fun σ H Q => t σ H fun c H1 => if c = true then u σ H1 Q else Q false H1
def tOr (t u : TT) : TT := fun σ H Q => t σ H fun c H1 => if c = true then Q true H1 else u σ H1 Q
def tNot (t : TT) : TT := fun σ H Q => t σ H fun c H1 => Q (!c) H1
theorem pw_and1 (ha : PT X a tA) : PW X (.BoolOp .And [a] pos) tA := by
  intro wh pins s σ H Q I h
  refine isTrue_and (thn (ha pins s σ H Q I h) fun c s1 e => ?_)
  cases c with
  | true => exact isTrue_and_nil e
  | false => exact e
theorem pw_or1 (ha : PT X a tA) : PW X (.BoolOp .Or [a] pos) tA := by
  intro wh pins s σ H Q I h
  refine isTrue_or (thn (ha pins s σ H Q I h) fun c s1 e => ?_)
  cases c with
  | false => exact isTrue_or_nil e
  | true => exact e
theorem pw_and (ha : PT X a tA) (hb : PW X (.BoolOp .And (b :: rest) pos) tB') : PW X (.BoolOp .And (a :: b :: rest) pos) (tAnd tA tB') := by
  intro wh pins s σ H Q I h
  refine isTrue_and (thn (ha pins s σ H _ I h) fun c s1 ⟨H1, I1, q1⟩ => ?_)
  cases c with
  | true => exact hb wh pins s1 σ H1 Q I1 q1
  | false => exact ⟨H1, I1, q1⟩
theorem pw_or (ha : PT X a tA) (hb : PW X (.BoolOp .Or (b :: rest) pos) tB') : PW X (.BoolOp .Or (a :: b :: rest) pos) (tOr tA tB') := by
  intro wh pins s σ H Q I h
  refine isTrue_or (thn (ha pins s σ H _ I h) fun c s1 ⟨H1, I1, q1⟩ => ?_)
  cases c with
  | true => exact ⟨H1, I1, q1⟩
  | false => exact hb wh pins s1 σ H1 Q I1 q1
theorem pt_not (ha : PT X a tA) : PT X (.UnaryOp .Not a pos) (tNot tA) := by
  intro pins s σ H Q I h
  exact isTrue_not (ha pins s σ H (fun c H1 => Q (!c) H1) I h)
/-- .. as values (bools) -/
def tAndV (ta tb : TE) : TE := fun σ H Q => ta σ H fun x H1 => ∃ c, x = .bl c ∧ if c = true then tb σ H1 Q else Q (.bl false) H1
def tNotV (ta : TE) : TE := fun σ H Q => ta σ H fun x H1 => ∃ c, x = .bl c ∧ Q (.bl (!c)) H1
theorem pe_one {op} {t : TE} (h : PE X a t) : PE X (.BoolOp op [a] pos) t := fun pins s σ H Q I hw => BoolOp_one (h pins s σ H Q I hw)
theorem pe_and (ha : PE X a ta) (hb : PE X (.BoolOp .And (b :: rest) pos) tb) : PE X (.BoolOp .And (a :: b :: rest) pos) (tAndV ta tb) := by
  intro pins s σ H Q I h
  refine BoolOp_and (thn (ha pins s σ H _ I h) fun v s1 ⟨x, H1, I1, r1, q1⟩ => ?_)
  obtain ⟨c, rfl, q1⟩ := q1
  cases r1
  refine wpAny_truthy_bool ?_
  cases c with
  | true => exact hb pins s1 σ H1 Q I1 q1
  | false => exact ⟨.bl false, H1, I1, rfl, q1⟩
theorem pe_not (ha : PE X a ta) : PE X (.UnaryOp .Not a pos) (tNotV ta) := by
  intro pins s σ H Q I h
  refine UnaryOp_ (thn (ha pins s σ H _ I h) fun v s1 ⟨x, H1, I1, r1, q1⟩ => ?_)
  obtain ⟨c, rfl, q1⟩ := q1
  cases r1
  exact not_of (wpAny_truthy_bool ⟨.bl (!c), H1, I1, rfl, q1⟩)
end
end L2

namespace L2
open PySem PySem.Spec PyProof.Rows

/-! ### a list, a tuple that is read: tracked, frozen, or an object of the module -/
def SqL (K : PySem.W.Frag) (H : Hp) (a : Addr) (xs : List V) : Prop :=
  Rd H a (.lst xs) ∨
    ∃ (o : Obj) (its : Array Value) (n : Nat), K.lookup a = some o ∧ o.cls = .type "list" ∧ o.dict = none ∧ o.data = .seq its n ∧ its.size ≤ sizeLine ∧ Vals xs its.toList
def SqT (K : PySem.W.Frag) (H : Hp) (a : Addr) (xs : List V) : Prop :=
  Rd H a (.tup xs) ∨
    ∃ (o : Obj) (its : Array Value) (n : Nat), K.lookup a = some o ∧ o.cls = .type "tuple" ∧ o.data = .seq its n ∧ its.size ≤ sizeLine ∧ Vals xs its.toList
def absV : Value → Option V
  | .none => some .non
  | .bool b => some (.bl b)
  | .int i _ => some (.int i)
  | .str x _ => some (.str x)
  | .bytes b _ => some (.byt b)
  | .float b _ => some (.flt b)
  | .ref a => some (.ref a)
  | .type n => some (.ty n)
  | _ => none
theorem RelV.abs {x : V} {u : Value} (r : RelV x u) : absV u = some x := by
  cases x with
  | non => cases r; rfl
  | bl _ => cases r; rfl
  | int _ => obtain ⟨t, rfl⟩ := r; rfl
  | str _ => obtain ⟨t, rfl⟩ := r; rfl
  | byt _ => obtain ⟨t, rfl⟩ := r; rfl
  | flt _ => obtain ⟨t, rfl⟩ := r; rfl
  | ref _ => cases r; rfl
  | ty _ => cases r; rfl
theorem RelV.inj {x y : V} {u : Value} (r : RelV x u) (q : RelV y u) : x = y := Option.some.inj (r.abs.symm.trans q.abs)
theorem Vals.inj : ∀ {xs ys : List V} {us : List Value}, Vals xs us → Vals ys us → xs = ys
  | _, _, _, .nil, .nil => rfl
  | _, _, _, .cons r t, .cons r' t' => by rw [r.inj r', Vals.inj t t']
section
variable {X : Cx} {pins : List (Addr × Obj)} {σ : St} {H : Hp} {s : Shared} {a : Addr} {xs ys : List V}
theorem SqL.of {K : PySem.W.Frag} (h : H a = some (.lst xs)) : SqL K H a xs := .inl (.inl h)
theorem SqT.of {K : PySem.W.Frag} (h : H a = some (.tup xs)) : SqT K H a xs := .inl (.inl h)
theorem Inv.list (I : Inv X pins σ H s) (h : SqL X.K H a xs) : ∃ its : List Value, Vals xs its ∧ PlainL s.heap a its.toArray ∧ xs.length ≤ sizeLine := by
  rcases h with h | ⟨o, its, n, hk, hc, hd, hs, hz, r⟩
  · obtain ⟨z, its, n, r, e⟩ := h.ok I.hok
    exact ⟨its, r, ⟨_, n, e, rfl, rfl, rfl⟩, z⟩
  · refine ⟨its.toList, r, ⟨o, n, I.kIn a o hk, hc, hd, by simpa using hs⟩, ?_⟩
    have e := r.length
    simp only [Array.length_toList] at e
    omega
theorem Inv.tuple (I : Inv X pins σ H s) (h : SqT X.K H a xs) : ∃ its : List Value, Vals xs its ∧ IsTup s.heap a its.toArray ∧ xs.length ≤ sizeLine := by
  rcases h with h | ⟨o, its, n, hk, hc, hs, hz, r⟩
  · obtain ⟨z, its, r, p⟩ := h.ok I.hok
    exact ⟨its, r, p, z⟩
  · refine ⟨its.toList, r, ⟨o, I.kIn a o hk, hc, n, by simpa using hs⟩, ?_⟩
    have e := r.length
    simp only [Array.length_toList] at e
    omega
theorem Inv.list_inj (I : Inv X pins σ H s) (h : SqL X.K H a xs) (h' : SqL X.K H a ys) : xs = ys := by
  obtain ⟨its, r, ⟨o, n, e, _, _, d⟩, _⟩ := I.list h
  obtain ⟨its', r', ⟨o', n', e', _, _, d'⟩, _⟩ := I.list h'
  rw [e] at e'; cases e'
  rw [d] at d'
  injection d' with d1 _
  have : its = its' := by simpa using congrArg Array.toList d1
  subst this
  exact r.inj r'
theorem Inv.tuple_inj (I : Inv X pins σ H s) (h : SqT X.K H a xs) (h' : SqT X.K H a ys) : xs = ys := by
  obtain ⟨its, r, ⟨o, e, _, n, d⟩, _⟩ := I.tuple h
  obtain ⟨its', r', ⟨o', e', _, n', d'⟩, _⟩ := I.tuple h'
  rw [e] at e'; cases e'
  rw [d] at d'
  injection d' with d1 _
  have : its = its' := by simpa using congrArg Array.toList d1
  subst this
  exact r.inj r'
end

/-! ### another wish about exceptions -/
abbrev Cx.wish (X : Cx) (E : Value → Shared → Prop) : Cx := { X with xe := E }
/-- no exception leaves -/
abbrev Cx.nox (X : Cx) : Cx := X.wish fun _ _ => False
theorem Cx.Ok.wish {X : Cx} (ok : X.Ok) (E : Value → Shared → Prop) : (X.wish E).Ok :=
  ⟨ok.mod, ok.kind, ok.glob, ok.blt, ok.above, ok.inj, ok.has, ok.cab, ok.hd, ok.frames, ok.stk, ok.exf, ok.bs, ok.bsz, ok.noex, ok.exfs, ok.funs, ok.frf⟩
theorem Cx.Ok.unwish {X : Cx} {E : Value → Shared → Prop} (ok : (X.wish E).Ok) : X.Ok :=
  ⟨ok.mod, ok.kind, ok.glob, ok.blt, ok.above, ok.inj, ok.has, ok.cab, ok.hd, ok.frames, ok.stk, ok.exf, ok.bs, ok.bsz, ok.noex, ok.exfs, ok.funs, ok.frf⟩
section
variable {X : Cx} {pins : List (Addr × Obj)} {σ : St} {H : Hp} {s : Shared} {E : Value → Shared → Prop}
theorem Inv.wish (I : Inv X pins σ H s) (E : Value → Shared → Prop) : Inv (X.wish E) pins σ H s := ⟨I.ok.wish E, I.os, I.bare, I.base, I.loc, I.cell, I.free, I.freeC, I.pin, I.hok, I.len⟩
theorem Inv.unwish (I : Inv (X.wish E) pins σ H s) : Inv X pins σ H s := ⟨I.ok.unwish, I.os, I.bare, I.base, I.loc, I.cell, I.free, I.freeC, I.pin, I.hok, I.len⟩
theorem SP.unwish {D : Ends} {f : Flow} {s' : Shared} (h : SP (X.wish E) pins D f s') : SP X pins D f s' := by
  cases f with
  | next => obtain ⟨σ', H', I, q⟩ := h; exact ⟨σ', H', I.unwish, q⟩
  | brk => obtain ⟨σ', H', I, q⟩ := h; exact ⟨σ', H', I.unwish, q⟩
  | cont => obtain ⟨σ', H', I, q⟩ := h; exact ⟨σ', H', I.unwish, q⟩
  | ret u => obtain ⟨v, σ', H', I, r, q⟩ := h; exact ⟨v, σ', H', I.unwish, r, q⟩
theorem PSs.nox {st : List Stmt} {t : TS} (h : PSs X.nox st t) : PSs X st t := fun pins s σ H D I hw =>
  wpAny_mono (h pins s σ H D (I.wish _) hw) (fun _ _ q => q.unwish) fun _ _ z => False.elim z
end

/-! ### blocks and small statements -/
section
variable {X : Cx} {st : Stmt} {rest : List Stmt} {t u : TS} {e : Expr} {te : TE} {pos : Pos}
def tNext : TS := fun D σ H => D.nx σ H
def tSeq (t u : TS) : TS := fun D σ H => t { D with nx := u D } σ H
theorem pss_nil : PSs X [] tNext := fun _ _ σ H _ I h => wpAny_execs_nil ⟨σ, H, I, h⟩
theorem pss_cons (h1 : PS X st t) (h2 : PSs X rest u) : PSs X (st :: rest) (tSeq t u) := by
  intro pins s σ H D I h
  refine wpAny_execs_cons (thn (h1 pins s σ H { D with nx := u D } I h) fun f s1 q => ?_)
  cases f with
  | next =>
    obtain ⟨σ', H', I', q⟩ := q
    exact h2 pins s1 σ' H' D I' q
  | ret v => exact q
  | brk => exact q
  | cont => exact q
theorem pss_one (h1 : PS X st t) : PSs X [st] t := by
  intro pins s σ H D I h
  refine wpAny_execs_cons (thn (h1 pins s σ H D I h) fun f s1 q => ?_)
  cases f with
  | next => exact wpAny_execs_nil q
  | ret v => exact q
  | brk => exact q
  | cont => exact q
/-- in a def's body nothing is shown -/
theorem Inv.quiet {pins : List (Addr × Obj)} {σ : St} {H : Hp} {s : Shared} (I : Inv X pins σ H s) : interactive X.env = false := by simp [interactive, I.ok.kind]
/-- an expression whose value is dropped -/
def tDrop (te : TE) : TS := fun D σ H => te σ H fun _ H1 => D.nx σ H1
theorem ps_expr (he : PE X e te) (hs : swapsWith e none pos.line X.env = pure false := by rfl) : PS X (.Expr e pos) (tDrop te) := by
  intro pins s σ H D I h
  exact wpAny_Expr_any (thn (he pins s σ H _ I h) fun v s1 ⟨x, H1, I1, r1, q1⟩ => ⟨σ, H1, I1, q1⟩) I.quiet hs
def tRet (te : TE) : TS := fun D σ H => te σ H D.rt
theorem ps_ret (he : PE X e te) : PS X (.Return (some e) pos) (tRet te) := by
  intro pins s σ H D I h
  exact wpAny_Return_some (thn (he pins s σ H _ I h) fun v s1 ⟨x, H1, I1, r1, q1⟩ => ⟨x, σ, H1, I1, r1, q1⟩)
def tIfS (c : TT) (t u : TS) : TS := fun D σ H => c σ H fun b H1 => if b = true then t D σ H1 else u D σ H1
theorem ps_if {c : Expr} {a b : List Stmt} {tc : TT} (hc : PT X c tc) (ha : PSs X a t) (hb : PSs X b u) : PS X (.If c a b pos) (tIfS tc t u) := by
  intro pins s σ H D I h
  refine wpAny_If (thn (hc pins s σ H _ I h) fun d s1 ⟨H1, I1, q1⟩ => ?_)
  cases d with
  | true => exact ha pins s1 σ H1 D I1 q1
  | false => exact hb pins s1 σ H1 D I1 q1
end

/-! ### targets -/
abbrev TG := V → St → Hp → (St → Hp → Prop) → Prop
abbrev TGs := List V → St → Hp → (St → Hp → Prop) → Prop
def PG (X : Cx) (target : Expr) (t : TG) : Prop :=
  ∀ (pins : List (Addr × Obj)) (s : Shared) (σ : St) (H : Hp) (v : V) (u : Value) (Q : St → Hp → Prop), Inv X pins σ H s → RelV v u → t v σ H Q →
    wpAny (model X.prog X.w) X.A (assign target X.env u) (fun _ s' => ∃ σ' H', Inv X pins σ' H' s' ∧ Q σ' H') X.xe s
/-- several targets, one after another -/
def PGs (X : Cx) (ts : List Expr) (t : TGs) : Prop :=
  ∀ (pins : List (Addr × Obj)) (s : Shared) (σ : St) (H : Hp) (vs : List V) (us : List Value) (Q : St → Hp → Prop), Inv X pins σ H s → Vals vs us → t vs σ H Q →
    wpAny (model X.prog X.w) X.A (assignInOrder ((assignEach ts X.env).map (·.2)) us) (fun _ s' => ∃ σ' H', Inv X pins σ' H' s' ∧ Q σ' H') X.xe s
/-- o[i] = v, by values -/
abbrev TSet := V → V → V → Hp → (Hp → Prop) → Prop
def PSet (X : Cx) (t : TSet) : Prop :=
  ∀ (pins : List (Addr × Obj)) (s : Shared) (σ : St) (H : Hp) (o i v : V) (ov iv u : Value) (Q : Hp → Prop), Inv X pins σ H s → RelV o ov → RelV i iv → RelV v u → t o i v H Q →
    wpAny (model X.prog X.w) X.A (setItem ov iv u) (fun _ s' => ∃ H', Inv X pins σ H' s' ∧ Q H') X.xe s
section
variable {X : Cx} {pos : Pos}
def gName (i : Nat) : TG := fun v σ H Q => Q (σ.set i (some v)) H
theorem pg_name {i : Nat} {x : Str} (hN : X.N.Nodup) (hi : X.N[i]? = some x) (hx : Loc X.env.scope x) (hf : X.fn x = true ∨ X.env.scope.names.lookup x = some .local := by first | exact .inl rfl | exact .inr rfl | assumption) : PG X (.Name x pos) (gName i) := by
  intro pins s σ H v u Q I r h
  exact wpAny_assign_Name (store_ok I hN hi hx r (fun s' I' => ⟨_, H, I', h⟩) hf)
def gNil : TGs := fun vs σ H Q => vs = [] ∧ Q σ H
def gCons (t : TG) (u : TGs) : TGs := fun vs σ H Q => ∃ v r, vs = v :: r ∧ t v σ H fun σ' H' => u r σ' H' Q
theorem pgs_nil : PGs X [] gNil := by
  intro pins s σ H vs us Q I r h
  obtain ⟨e, h⟩ := h
  subst e
  cases r
  exact assignInOrder_nil ⟨σ, H, I, h⟩
theorem pgs_cons {e : Expr} {es : List Expr} {t : TG} {u : TGs} (h1 : PG X e t) (h2 : PGs X es u)
    (hs : (assignEach (e :: es) X.env).map (·.2) = assign e X.env :: (assignEach es X.env).map (·.2) := by rfl) : PGs X (e :: es) (gCons t u) := by
  intro pins s σ H vs us Q I r h
  obtain ⟨v, vr, e1, h⟩ := h
  subst e1
  cases r with
  | cons r rr =>
    rw [hs]
    refine assignInOrder_cons (thn (h1 pins s σ H _ _ _ I r h) fun _ s1 ⟨σ1, H1, I1, q1⟩ => ?_)
    exact h2 pins s1 σ1 H1 _ _ Q I1 rr q1
/-- (a, b, ..) = a tuple of that length -/
def gTup (K : PySem.W.Frag) (n : Nat) (t : TGs) : TG := fun v σ H Q => ∃ a xs, v = .ref a ∧ SqT K H a xs ∧ xs.length = n ∧ t xs σ H Q
theorem pg_tup {es : List Expr} {k : Nat} {t : TGs} {n : Nat} (hc : X.calm = true) (h : PGs X es t)
    (hn : (assignEach es X.env).length = n := by rfl) (hst : (assignEach es X.env).findIdx? (·.1) = none := by rfl) : PG X (.Tuple es k pos) (gTup X.K n t) := by
  intro pins s σ H v u Q I r hw
  obtain ⟨a, xs, e1, hq, hl, hw⟩ := hw
  subst e1
  cases r
  obtain ⟨its, rv, ht, hz⟩ := I.tuple hq
  refine assign_Tuple_tuple (I.ok.hd hc) ht (by simp [hn, ← hl, rv.length]) hst fun h' hx => ?_
  have I1 : Inv X pins σ H { s with heap := h' } := I.kept (t' := s.toks) fun b o e => hx b o (Nat.ne_of_lt (Heap.lt_size e)) e
  exact h pins _ σ H xs _ Q I1 (by simpa using rv) hw
/-- o[i] = .. -/
def gSub (to ti : TE) (t : TSet) : TG := fun v σ H Q => to σ H fun o H1 => ti σ H1 fun i H2 => t o i v H2 fun H3 => Q σ H3
theorem pg_sub {o i : Expr} {to ti : TE} {t : TSet} (ho : PE X o to) (hi : PE X i ti) (hs : PSet X t)
    (ha : ∀ v, assign (.Subscript o i pos) X.env v = (do
      let ov ← holding [v] (eval o X.env)
      let iv ← holding [v, ov] (eval i X.env)
      standAt pos
      holding [v, ov, iv] (setItem ov iv v)
      release [v, ov, iv] []) := by intro _; rfl) : PG X (.Subscript o i pos) (gSub to ti t) := by
  intro pins s σ H v u Q I r h
  rw [ha]
  refine wpAny_bind (wpAny_holding (thn (ho pins s σ H _ I h) fun ov s1 ⟨x, H1, I1, r1, q1⟩ => ?_))
  refine wpAny_bind (wpAny_holding (thn (hi pins s1 σ H1 _ I1 q1) fun iv s2 ⟨y, H2, I2, r2, q2⟩ => ?_))
  refine wpAny_bind (wpAny_standAt (wpAny_bind (wpAny_holding (thn (hs pins s2 σ H2 x y v ov iv u _ I2 r1 r2 r q2) fun _ s3 ⟨H3, I3, q3⟩ => ?_))))
  exact wpAny_release ⟨σ, H3, I3, q3⟩
/-- target = value -/
def tAsg (te : TE) (g : TG) : TS := fun D σ H => te σ H fun x H1 => g x σ H1 D.nx
theorem ps_asg {tg e : Expr} {te : TE} {g : TG} (he : PE X e te) (hg : PG X tg g) (hs : swapsWithSole [tg] e pos.line X.env = pure false := by rfl) (hw : swappedStores [tg] e X.env = pure none := by rfl)
    (h1 : (assignEach [tg] X.env).map (·.2) = [assign tg X.env] := by rfl) : PS X (.Assign [tg] e pos) (tAsg te g) := by
  intro pins s σ H D I h
  refine wpAny_Assign_stores (thn (he pins s σ H _ I h) fun v s1 ⟨x, H1, I1, r1, q1⟩ => ?_) hs hw
  rw [h1]
  exact thn (hg pins s1 σ H1 x v _ I1 r1 q1) fun _ s2 q => q
/-- name = value -/
theorem ps_set {i : Nat} {x : Str} {e : Expr} {te : TE} {pos' : Pos} (hN : X.N.Nodup) (hi : X.N[i]? = some x) (hx : Loc X.env.scope x) (he : PE X e te) (hs : swapsWith e (some (.Name x pos')) pos.line X.env = pure false := by rfl) (hf : X.fn x = true ∨ X.env.scope.names.lookup x = some .local := by first | exact .inl rfl | exact .inr rfl | assumption) :
    PS X (.Assign [.Name x pos'] e pos) (tAsg te (gName i)) := by
  intro pins s σ H D I h
  refine wpAny_Assign_Name (thn (he pins s σ H _ I h) fun v s1 ⟨y, H1, I1, r1, q1⟩ => ?_) hs
  exact store_ok I1 hN hi hx r1 (fun s2 I2 => ⟨_, H1, I2, q1⟩) hf
end

/-! ### while -/
section
variable {X : Cx} {pos : Pos}
/-- the invariant W with its measure -/
def tWhile (c : TT) (tb : TS) : TS := fun D σ H => ∃ W : Nat → St → Hp → Prop, (∃ m, W m σ H) ∧ ∀ m σ H, W m σ H →
  c σ H fun b H1 => if b = true then ∃ N : St → Hp → Prop, (∀ σ' H', N σ' H' → ∃ m', m' < m ∧ W m' σ' H') ∧ tb { D with nx := N, ct := N, bk := D.nx } σ H1 else D.nx σ H1
theorem ps_while {c : Expr} {body : List Stmt} {tc : TT} {tb : TS} (hp : PassesOwn (model X.prog X.w) X.A X.env X.xe) (hc : PT X c tc) (hb : PSs X body tb) : PS X (.While c body [] pos) (tWhile tc tb) := by
  intro pins s σ H D I h
  obtain ⟨W, ⟨m0, w0⟩, turn⟩ := h
  refine wpAny_While (codeAny_whileLoop (fun n s' => ∃ σ' H', Inv X pins σ' H' s' ∧ W n σ' H') ?_ m0 ⟨σ, H, I, w0⟩)
  rintro n s1 ⟨σ1, H1, I1, w1⟩
  refine wpAny_passesOwn hp (thn (hc pins s1 σ1 H1 _ I1 (turn n σ1 H1 w1)) fun b s2 ⟨H2, I2, q2⟩ => ?_)
  cases b with
  | true =>
    obtain ⟨N, hN, q2⟩ := q2
    rw [if_pos rfl]
    refine wpAny_passesOwn hp (thn (hb pins s2 σ1 H2 _ I2 q2) fun f s3 q3 => ?_)
    cases f with
    | next =>
      obtain ⟨σ3, H3, I3, n3⟩ := q3
      obtain ⟨m', hm, w3⟩ := hN σ3 H3 n3
      exact ⟨m', hm, σ3, H3, I3, w3⟩
    | cont =>
      obtain ⟨σ3, H3, I3, n3⟩ := q3
      obtain ⟨m', hm, w3⟩ := hN σ3 H3 n3
      exact ⟨m', hm, σ3, H3, I3, w3⟩
    | brk => exact q3
    | ret v => exact q3
  | false =>
    rw [if_neg Bool.false_ne_true]
    exact wpAny_execs_nil ⟨σ1, H2, I2, q2⟩
end

/-! ### what a loop or a comprehension walks -/
/-- at turn i: it yields x (the heap may grow), or it stops -/
structure It where
  go : Nat → Hp → Prop
  yld : Nat → Hp → V → Hp → Prop
  stop : Nat → Hp → Prop
/-- the iterator's own objects may turn: they are not the frame's, not pinned, younger than the entry (or a comprehension's own) -/
def FpOk (X : Cx) (pins : List (Addr × Obj)) (H : Hp) (b : Addr) : Prop :=
  H b = none ∧ b ≠ X.env.locals ∧ b ∉ X.fs ∧ (b ∈ X.ex ∨ X.s₀.heap.objs.size ≤ b) ∧ (∀ x c, X.env.cells.lookup x = some c → c ≠ b) ∧ ∀ p ∈ X.pn ++ pins, p.1 ≠ b
theorem Inv.fpOk {X : Cx} {pins : List (Addr × Obj)} {σ : St} {H H' : Hp} {s : Shared} {b : Addr} (I : Inv X pins σ H s) (hb : s.heap.objs.size ≤ b) (hn : H' b = none) : FpOk X pins H' b := by
  refine ⟨hn, Nat.ne_of_gt (Nat.lt_of_lt_of_le I.lt hb), I.nofs hb, .inr (Nat.le_trans I.sz hb), fun x c e z => ?_, fun p hp z => ?_⟩
  · obtain ⟨v, q⟩ := I.cell x c e
    exact absurd (Nat.lt_of_lt_of_le q.lt (by rw [z]; exact hb)) (Nat.lt_irrefl _)
  · exact absurd (Nat.lt_of_lt_of_le (Heap.lt_size (I.pin p hp).1) (by rw [z]; exact hb)) (Nat.lt_irrefl _)
structure Turn (P : Program) (w : World) (K : PySem.W.Frag) (tg : Expr) (J : It) (fp : List Addr) (it : Addr) (tn : Nat → Heap → Prop) : Prop where
  mem : it ∈ fp
  obj : ∀ i h, tn i h → ∀ b ∈ fp, ∃ o, h.get? b = some o ∧ ∀ v, o.data ≠ .cell v
  keep : ∀ i h h', tn i h → (∀ b ∈ fp, ∀ o, h.get? b = some o → h'.get? b = some o) → tn i h'
  item : ∀ (X : Cx), X.prog = P → X.w = w → X.K = K → X.calm = true → ∀ (i : Nat) (pins : List (Addr × Obj)) (s : Shared) (σ : St) (H : Hp) (E : Value → Shared → Prop), Inv X pins σ H s → (∀ b ∈ fp, FpOk X pins H b) → tn i s.heap → J.go i H →
    wpAny (model P w) X.A (pyNext (.ref it)) (fun r s1 => ∃ u, r = some u ∧
      wpAny (model P w) X.A (letOwnedTupleGo tg (.ref it) u) (fun _ s2 => ∃ x H', Inv X pins σ H' s2 ∧ RelV x u ∧ J.yld i H x H' ∧ tn (i + 1) s2.heap ∧ ∀ b ∈ fp, H' b = none) E s1) E s
  done : ∀ (X : Cx), X.prog = P → X.w = w → X.K = K → X.calm = true → ∀ (i : Nat) (pins : List (Addr × Obj)) (s : Shared) (σ : St) (H : Hp) (E : Value → Shared → Prop), Inv X pins σ H s → (∀ b ∈ fp, FpOk X pins H b) → tn i s.heap → J.stop i H →
    wpAny (model P w) X.A (pyNext (.ref it)) (fun r s1 => r = none ∧ Inv X pins σ H s1) E s
  self : ∀ (A : Around) (i : Nat) (s : Shared) (Q : Value → Shared → Prop) (E : Value → Shared → Prop), tn i s.heap → Q (.ref it) s → wpAny (model P w) A (pyIter (.ref it)) Q E s
abbrev TI := St → Hp → (It → Hp → Prop) → Prop
/-- an iterator has come -/
def PIE (X : Cx) (pins : List (Addr × Obj)) (σ : St) (tg : Expr) (R : It → Hp → Prop) (itv : Value) (s2 : Shared) : Prop :=
  ∃ (it : Addr) (fp : List Addr) (tn : Nat → Heap → Prop) (J : It) (H' : Hp), itv = .ref it ∧ Inv X pins σ H' s2 ∧ Turn X.prog X.w X.K tg J fp it tn ∧ tn 0 s2.heap ∧ (∀ b ∈ fp, FpOk X pins H' b) ∧ R J H'
def PI (X : Cx) (tg iter : Expr) (wi : TI) : Prop :=
  ∀ (pins : List (Addr × Obj)) (s : Shared) (σ : St) (H : Hp) (R : It → Hp → Prop), Inv X pins σ H s → wi σ H R →
    wpAny (model X.prog X.w) X.A (eval iter X.env) (fun v s1 => wpAny (model X.prog X.w) X.A (pyIter v) (PIE X pins σ tg R) X.xe s1) X.xe s

/-- the step ahead of the store is nothing for an iterator that keeps no tuple -/
theorem go_of {M : Model} {A : Around} {E : Value → Shared → Prop} {s : Shared} {tg : Expr} {it : Addr} {u : Value} {o : Obj} {n : String} {vs : Array Value} {Q : Unit → Shared → Prop} (ho : s.heap.get? it = some o) (hc : o.cls = .type n) (hd : o.data = .fields vs)
    (hn : ["enumerate", "zip", "dict_itemiterator", "dict_reverseitemiterator", "odict_iterator", "itertools.zip_longest", "itertools.pairwise"].contains n = false) (hQ : Q () s) : wpAny M A (letOwnedTupleGo tg (.ref it) u) Q E s := by
  unfold letOwnedTupleGo
  cases tg <;> first
    | exact wpAny_pure hQ
    | (cases u <;> first
        | exact wpAny_pure hQ
        | (refine wpAny_bind (wpAny_load ho ?_)
           rw [hc, hd]
           show wpAny M A (if (["enumerate", "zip", "dict_itemiterator", "dict_reverseitemiterator", "odict_iterator", "itertools.zip_longest", "itertools.pairwise"].contains n && vs[0]? == some (rawInt _)) = true then _ else _) Q E s
           rw [if_neg (by intro h; rw [hn, Bool.false_and] at h; cases h)]
           exact wpAny_pure hQ))

/-- the list at a, as it stands at each turn (a loop may append to it) -/
def Itl (K : PySem.W.Frag) (a : Addr) : It :=
  ⟨fun i H => ∃ xs x, SqL K H a xs ∧ xs[i]? = some x, fun i H x H' => H' = H ∧ ∀ xs, SqL K H a xs → xs[i]? = some x, fun i H => ∃ xs, SqL K H a xs ∧ xs.length ≤ i⟩
def Itt (K : PySem.W.Frag) (a : Addr) : It :=
  ⟨fun i H => ∃ xs x, SqT K H a xs ∧ xs[i]? = some x, fun i H x H' => H' = H ∧ ∀ xs, SqT K H a xs → xs[i]? = some x, fun i H => ∃ xs, SqT K H a xs ∧ xs.length ≤ i⟩
/-- lo, lo + 1, .. (n of them) -/
def Itr (lo : Int) (n : Nat) : It := ⟨fun i _ => i < n, fun i H x H' => H' = H ∧ x = .int (lo + i), fun i _ => n ≤ i⟩
theorem turn_list {P : Program} {w : World} {K : PySem.W.Frag} {tg : Expr} (a it : Addr) : Turn P w K tg (Itl K a) [it] it (fun i h => h.IsListIter it a i) where
  mem := by simp
  obj := fun i h st b hb => by
    have e : b = it := by simpa using hb
    subst e
    obtain ⟨o, e, c, d⟩ := st
    exact ⟨o, e, fun v z => by rw [d] at z; cases z⟩
  keep := fun i h h' st k => st.at fun o e => k it (by simp) o e
  item := by
    intro X hP hw hK hc i pins s σ H E I hf st hg
    subst hP hw hK
    obtain ⟨xs, x, hq, hx⟩ := hg
    obtain ⟨its, rv, p, hz⟩ := I.list hq
    obtain ⟨u, hu, ru⟩ := rv.get hx
    obtain ⟨f0, f1, f2, f3, f4, f5⟩ := hf it (by simp)
    refine wpAny_pyNext_list_item st p.isList (x := u) (by simpa using hu) fun h' st' sb => ?_
    have I1 : Inv X pins σ H { s with heap := h' } := I.turned (t' := s.toks) (fun b o hb e => (sb.2 b hb).trans e) f0 f1 f3 f4 f5
    obtain ⟨o, e, c, d⟩ := id st'
    exact ⟨u, rfl, go_of (s := { s with heap := h' }) e c d (by decide) ⟨x, H, I1, ru, ⟨rfl, fun ys hy => by rw [I.list_inj hy hq]; exact hx⟩, st', fun b hb => (hf b hb).1⟩⟩
  done := by
    intro X hP hw hK hc i pins s σ H E I hf st hg
    subst hP hw hK
    obtain ⟨xs, hq, hx⟩ := hg
    obtain ⟨its, rv, p, hz⟩ := I.list hq
    obtain ⟨f0, f1, f2, f3, f4, f5⟩ := hf it (by simp)
    have hl := rv.length
    exact wpAny_pyNext_list_end (I.ok.hd hc) st p.isList (by simp; omega) fun h' eb => ⟨rfl, I.turned (t' := s.toks) (fun b o hb e => eb b o hb e) f0 f1 f3 f4 f5⟩
  self := fun _ _ _ _ _ st h => wpAny_pyIter_listiter st h
theorem turn_tuple {P : Program} {w : World} {K : PySem.W.Frag} {tg : Expr} (a it : Addr) : Turn P w K tg (Itt K a) [it] it (fun i h => h.IsTupleIter it a i) where
  mem := by simp
  obj := fun i h st b hb => by
    have e : b = it := by simpa using hb
    subst e
    obtain ⟨o, e, c, d⟩ := st
    exact ⟨o, e, fun v z => by rw [d] at z; cases z⟩
  keep := fun i h h' st k => st.at fun o e => k it (by simp) o e
  item := by
    intro X hP hw hK hc i pins s σ H E I hf st hg
    subst hP hw hK
    obtain ⟨xs, x, hq, hx⟩ := hg
    obtain ⟨its, rv, p, hz⟩ := I.tuple hq
    obtain ⟨u, hu, ru⟩ := rv.get hx
    obtain ⟨f0, f1, f2, f3, f4, f5⟩ := hf it (by simp)
    refine wpAny_pyNext_tuple_item st (show s.heap.IsTuple a its.toArray from p) (x := u) (by simpa using hu) fun h' st' sb => ?_
    have I1 : Inv X pins σ H { s with heap := h' } := I.turned (t' := s.toks) (fun b o hb e => (sb.2 b hb).trans e) f0 f1 f3 f4 f5
    obtain ⟨o, e, c, d⟩ := id st'
    exact ⟨u, rfl, go_of (s := { s with heap := h' }) e c d (by decide) ⟨x, H, I1, ru, ⟨rfl, fun ys hy => by rw [I.tuple_inj hy hq]; exact hx⟩, st', fun b hb => (hf b hb).1⟩⟩
  done := by
    intro X hP hw hK hc i pins s σ H E I hf st hg
    subst hP hw hK
    obtain ⟨xs, hq, hx⟩ := hg
    obtain ⟨its, rv, p, hz⟩ := I.tuple hq
    obtain ⟨f0, f1, f2, f3, f4, f5⟩ := hf it (by simp)
    have hl := rv.length
    exact wpAny_pyNext_tuple_end (I.ok.hd hc) st (show s.heap.IsTuple a its.toArray from p) (by simp; omega) fun h' eb => ⟨rfl, I.turned (t' := s.toks) (fun b o hb e => eb b o hb e) f0 f1 f3 f4 f5⟩
  self := fun _ _ _ _ _ st h => wpAny_pyIter_tupleiter st h
theorem turn_range {P : Program} {w : World} {K : PySem.W.Frag} {tg : Expr} (it : Addr) (lo : Int) (n : Nat) : Turn P w K tg (Itr lo n) [it] it (fun i h => IsRangeIter h it (lo + (i : Nat) * 1) ((n : Int) - (i : Nat)) 1) where
  mem := by simp
  obj := fun i h st b hb => by
    have e : b = it := by simpa using hb
    subst e
    exact ⟨_, st, fun v z => by
      have z' : Data.fields _ = Data.cell v := z
      cases z'⟩
  keep := fun i h h' st k => k it (by simp) _ st
  item := by
    intro X hP hw hK hc i pins s σ H E I hf st hg
    subst hP hw hK
    obtain ⟨f0, f1, f2, f3, f4, f5⟩ := hf it (by simp)
    have W := Walks.range (prog := X.prog) (w := X.w) (I.ok.hd hc) it lo 1 n
    refine W.item i s _ _ hg st fun v h' tk hv st' kk => ?_
    obtain ⟨t, rfl⟩ := hv
    have I1 : Inv X pins σ H { s with heap := h', toks := tk } := I.turned (fun b o hb e => kk b o (by simpa using hb) e) f0 f1 f3 f4 f5
    refine ⟨_, rfl, go_of (s := { s with heap := h', toks := tk }) (n := "range_iterator") st' rfl rfl (by decide) ⟨.int (lo + i), H, I1, ⟨t, ?_⟩, ⟨rfl, rfl⟩, st', fun b hb => (hf b hb).1⟩⟩
    rw [Int.mul_one]
  done := by
    intro X hP hw hK hc i pins s σ H E I hf st hg
    subst hP hw hK
    obtain ⟨f0, f1, f2, f3, f4, f5⟩ := hf it (by simp)
    exact wpAny_pyNext_range_end (I.ok.hd hc) st (by have : n ≤ i := hg; omega) fun h' eb => ⟨rfl, I.turned (t' := s.toks) (fun b o hb e => eb b o hb e) f0 f1 f3 f4 f5⟩
  self := fun _ _ _ _ _ st h => wpAny_pyIter_rangeiter st h
end L2

namespace L2
open PySem PySem.Spec PyProof.Rows
section
variable {X : Cx} {tg : Expr}
def iList (K : PySem.W.Frag) (tl : TE) : TI := fun σ H R => tl σ H fun x H1 => ∃ a, x = .ref a ∧ (∃ xs, SqL K H1 a xs) ∧ R (Itl K a) H1
def iTup (K : PySem.W.Frag) (tl : TE) : TI := fun σ H R => tl σ H fun x H1 => ∃ a, x = .ref a ∧ (∃ xs, SqT K H1 a xs) ∧ R (Itt K a) H1
theorem pi_list {l : Expr} {tl : TE} (hl : PE X l tl) : PI X tg l (iList X.K tl) := by
  intro pins s σ H R I h
  refine thn (hl pins s σ H _ I h) fun v s1 ⟨x, H1, I1, r1, q1⟩ => ?_
  obtain ⟨a, e, ⟨xs, hq⟩, q⟩ := q1
  subst e
  cases r1
  obtain ⟨its, rv, p, hz⟩ := I1.list hq
  refine wpAny_pyIter_list p.isList ?_
  refine ⟨s1.heap.objs.size, [s1.heap.objs.size], _, _, H1, rfl, I1.kept (t' := s1.toks) fun b o e => Heap.get?_push_of_some _ e, turn_list a _, ⟨_, Heap.get?_push_size _ rfl, rfl, rfl⟩, fun b hb => ?_, q⟩
  have e : b = s1.heap.objs.size := by simpa using hb
  subst e
  exact I1.fpOk (Nat.le_refl _) (I1.hok.fresh (Nat.le_refl _))
theorem pi_tup {l : Expr} {tl : TE} (hl : PE X l tl) : PI X tg l (iTup X.K tl) := by
  intro pins s σ H R I h
  refine thn (hl pins s σ H _ I h) fun v s1 ⟨x, H1, I1, r1, q1⟩ => ?_
  obtain ⟨a, e, ⟨xs, hq⟩, q⟩ := q1
  subst e
  cases r1
  obtain ⟨its, rv, p, hz⟩ := I1.tuple hq
  refine wpAny_pyIter_tuple (show s1.heap.IsTuple a its.toArray from p) ?_
  refine ⟨s1.heap.objs.size, [s1.heap.objs.size], _, _, H1, rfl, I1.kept (t' := s1.toks) fun b o e => Heap.get?_push_of_some _ e, turn_tuple a _, ⟨_, Heap.get?_push_size _ rfl, rfl, rfl⟩, fun b hb => ?_, q⟩
  have e : b = s1.heap.objs.size := by simpa using hb
  subst e
  exact I1.fpOk (Nat.le_refl _) (I1.hok.fresh (Nat.le_refl _))
/-- a range object just made, walked -/
theorem range_it {pins : List (Addr × Obj)} {σ : St} {H : Hp} {s : Shared} {R : It → Hp → Prop} {E : Value → Shared → Prop} {lo hi : Int} {t u v : Tok} {tk : Nat} (I : Inv X pins σ H s) (h1 : -(2 ^ 62) ≤ lo) (h2 : lo < 2 ^ 62) (h3 : -(2 ^ 62) ≤ hi) (h4 : hi < 2 ^ 62)
    (q : R (Itr lo (hi - lo).toNat) H) : wpAny (model X.prog X.w) X.A (pyIter (.ref s.heap.objs.size)) (PIE X pins σ tg R) E { s with heap := s.heap.push { cls := .type "range", data := .fields #[.int lo t, .int hi u, .int 1 v] }, toks := tk } := by
  refine wpAny_pyIter_range (IsRange.new ..) (small_one h1 h2 h3 h4) ?_
  have I1 : Inv X pins σ H { s with heap := s.heap.push { cls := .type "range", data := .fields #[.int lo t, .int hi u, .int 1 v] }, toks := tk } := I.kept fun b o e => Heap.get?_push_of_some _ e
  refine ⟨(s.heap.push { cls := .type "range", data := .fields #[.int lo t, .int hi u, .int 1 v] }).objs.size, [(s.heap.push { cls := .type "range", data := .fields #[.int lo t, .int hi u, .int 1 v] }).objs.size], _, _, H, rfl,
    I1.kept (t' := tk) fun b o e => Heap.get?_push_of_some _ e, turn_range _ lo (hi - lo).toNat, ?_, fun b hb => ?_, q⟩
  · have e1 : lo + ((0 : Nat) : Int) * 1 = lo := by simp
    have e2 : (((hi - lo).toNat : Nat) : Int) - ((0 : Nat) : Int) = Builtin.Range.rangeSize lo hi 1 := by rw [rangeSize_one]; split <;> omega
    show IsRangeIter _ _ (lo + ((0 : Nat) : Int) * 1) ((((hi - lo).toNat : Nat) : Int) - ((0 : Nat) : Int)) 1
    rw [e1, e2]
    exact Heap.get?_push_size _ rfl
  · have e : b = (s.heap.push { cls := .type "range", data := .fields #[.int lo t, .int hi u, .int 1 v] }).objs.size := by simpa using hb
    subst e
    exact I1.fpOk (Nat.le_refl _) (I1.hok.fresh (Nat.le_refl _))
def iRng1 (ta : TA) : TI := fun σ H R => ta σ H fun vs H1 => ∃ j : Int, vs = [.int j] ∧ -(2 ^ 62) ≤ j ∧ j < 2 ^ 62 ∧ R (Itr 0 j.toNat) H1
def iRng2 (ta : TA) : TI := fun σ H R => ta σ H fun vs H1 => ∃ i j : Int, vs = [.int i, .int j] ∧ (-(2 ^ 62) ≤ i ∧ i < 2 ^ 62 ∧ -(2 ^ 62) ≤ j ∧ j < 2 ^ 62) ∧ R (Itr i (j - i).toNat) H1
theorem pi_range1 {a : Expr} {ta : TA} {p pos : Pos} (hg : Gl X "range") (hm : X.mg "range" = none) (ha : PA X [a] ta) (hs : starEach [a] X.env = [(false, eval a X.env)] := by rfl) : PI X tg (.Call (.Name "range" p) [a] [] pos) (iRng1 ta) := by
  intro pins s σ H R I h
  refine Call_ (ld_blt I hg hm boot_range (PyProof.Rows.callWith_type1 (thn (ha pos pins s σ H _ I h) fun us s1 ⟨vs, H1, I1, r1, q1⟩ => ?_) hs rfl))
  obtain ⟨j, e, q1, q2, q⟩ := q1
  subst e
  cases r1 with
  | cons r rr =>
    cases rr
    obtain ⟨t, rfl⟩ := r
    exact call_range_1 (range_it I1 (by omega) (by omega) q1 q2 (by simpa using q))
theorem pi_range2 {a b : Expr} {ta : TA} {p pos : Pos} (hg : Gl X "range") (hm : X.mg "range" = none) (ha : PA X [a, b] ta) (hs : starEach [a, b] X.env = [(false, eval a X.env), (false, eval b X.env)] := by rfl) (hs2 : starEach [b] X.env = [(false, eval b X.env)] := by rfl) :
    PI X tg (.Call (.Name "range" p) [a, b] [] pos) (iRng2 ta) := by
  intro pins s σ H R I h
  refine Call_ (ld_blt I hg hm boot_range (PyProof.Rows.callWith_type1 (thn (ha pos pins s σ H _ I h) fun us s1 ⟨vs, H1, I1, r1, q1⟩ => ?_) (by rw [hs, hs2]) (by rw [hs2]; rfl)))
  obtain ⟨i, j, e, ⟨q1, q2, q3, q4⟩, q⟩ := q1
  subst e
  cases r1 with
  | cons r rr =>
    cases rr with
    | cons r' rr =>
      cases rr
      obtain ⟨t, rfl⟩ := r
      obtain ⟨t', rfl⟩ := r'
      exact call_range_2 (range_it I1 q1 q2 q3 q4 q)

/-! ### for -/
/-- W: the invariant by the turn and a measure; N: what the body is to reach -/
def tFor (wi : TI) (g : TG) (tb : TS) : TS := fun D σ H => wi σ H fun J H1 => ∃ W : Nat → Nat → St → Hp → Prop, (∃ m, W 0 m σ H1) ∧ ∀ i m σ H, W i m σ H →
  (J.stop i H ∧ D.nx σ H) ∨ (J.go i H ∧ ∃ N : St → Hp → Prop, (∀ σ' H', N σ' H' → ∃ m', m' < m ∧ W (i + 1) m' σ' H') ∧ ∀ x H', J.yld i H x H' → g x σ H' fun σ2 H2 => tb { D with nx := N, ct := N, bk := D.nx } σ2 H2)
/-- the records at fp as they stand -/
def pinsAt (fp : List Addr) (h : Heap) : List (Addr × Obj) := fp.filterMap fun b => (h.get? b).map fun o => (b, o)
theorem mem_pinsAt {fp : List Addr} {h : Heap} {b : Addr} {o : Obj} (hb : b ∈ fp) (e : h.get? b = some o) : (b, o) ∈ pinsAt fp h := List.mem_filterMap.mpr ⟨b, hb, by rw [e]; rfl⟩
theorem of_pinsAt {fp : List Addr} {h : Heap} {p : Addr × Obj} (hp : p ∈ pinsAt fp h) : p.1 ∈ fp ∧ h.get? p.1 = some p.2 := by
  obtain ⟨b, hb, e⟩ := List.mem_filterMap.mp hp
  cases q : h.get? b with
  | none => rw [q] at e; cases e
  | some o =>
    rw [q] at e
    have e' : (b, o) = p := Option.some.inj e
    subst e'
    exact ⟨hb, q⟩
theorem Inv.pinned {pins : List (Addr × Obj)} {σ : St} {H : Hp} {s : Shared} {fp : List Addr} (I : Inv X pins σ H s) (hf : ∀ b ∈ fp, FpOk X pins H b) (ho : ∀ b ∈ fp, ∃ o, s.heap.get? b = some o ∧ ∀ v, o.data ≠ .cell v) : Inv X (pins ++ pinsAt fp s.heap) σ H s :=
  I.pins_of fun p hp => (List.mem_append.mp hp).elim (fun z => I.pin p (List.mem_append_right _ z)) fun z => by
    obtain ⟨hb, e⟩ := of_pinsAt z
    obtain ⟨f0, f1, f2, _⟩ := hf p.1 hb
    obtain ⟨o, e', d⟩ := ho p.1 hb
    rw [e] at e'; cases e'
    exact ⟨e, f0, f1, f2, d⟩
theorem Inv.unpinned {pins pl : List (Addr × Obj)} {σ : St} {H : Hp} {s : Shared} (I : Inv X (pins ++ pl) σ H s) : Inv X pins σ H s := I.pins_of fun p hp => I.pin p (List.mem_append_right _ (List.mem_append_left _ hp))
theorem ps_for {iter : Expr} {body : List Stmt} {wi : TI} {g : TG} {tb : TS} {pos : Pos} (hp : PassesOwn (model X.prog X.w) X.A X.env X.xe) (hc : X.calm = true) (hi : PI X tg iter wi) (hg : PG X tg g) (hb : PSs X body tb)
    (hs : ∀ x, foldedSetIterable iter X.env x = pure x := by intro _; rfl) : PS X (.For tg iter body [] pos) (tFor wi g tb) := by
  intro pins s σ H D I h
  refine wpAny_For (thn (hi pins s σ H _ I h) fun v s1 h1 => thn h1 fun itv s2 h2 => ?_) hs
  obtain ⟨it, fp, tn, J, H2, e, I2, T, st2, f2, W, ⟨m0, w0⟩, turn⟩ := h2
  subst e
  -- what stays true of the iterator's objects through the loop
  have stat : ∀ {H' : Hp}, (∀ b ∈ fp, H' b = none) → ∀ b ∈ fp, FpOk X pins H' b := fun hn b hb => ⟨hn b hb, (f2 b hb).2⟩
  refine codeAny_forLoop_any (fun n s' => ∃ i σ' H', Inv X pins σ' H' s' ∧ tn i s'.heap ∧ (∀ b ∈ fp, H' b = none) ∧ W i n σ' H') ?_ m0 ⟨0, σ, H2, I2, st2, fun b hb => (f2 b hb).1, w0⟩
  rintro n s3 ⟨i, σ3, H3, I3, st3, fr3, w3⟩
  rcases turn i n σ3 H3 w3 with ⟨stop, qn⟩ | ⟨go, N, hN, step⟩
  · refine wpAny_passesOwn hp (thn (T.done X rfl rfl rfl hc i pins s3 σ3 H3 X.xe I3 (stat fr3) st3 stop) fun r s4 ⟨hr, I4⟩ => ?_)
    subst hr
    exact wpAny_execs_nil ⟨σ3, H3, I4, qn⟩
  · refine wpAny_passesOwn hp (thn (T.item X rfl rfl rfl hc i pins s3 σ3 H3 X.xe I3 (stat fr3) st3 go) fun r s4 ⟨u, hr, h4⟩ => ?_)
    subst hr
    refine wpAny_passesOwn hp (thn h4 fun _ s5 ⟨x, H5, I5, r5, y5, st5, fr5⟩ => ?_)
    have I5' := I5.pinned (stat fr5) (T.obj _ _ st5)
    refine wpAny_passesOwn hp (thn (hg _ s5 σ3 H5 x u _ I5' r5 (step x H5 y5)) fun _ s6 ⟨σ6, H6, I6, q6⟩ => ?_)
    refine wpAny_passesOwn hp (thn (hb _ s6 σ6 H6 _ I6 q6) fun f s7 q7 => ?_)
    have again : ∀ {σ7 : St} {H7 : Hp}, Inv X (pins ++ pinsAt fp s5.heap) σ7 H7 s7 → N σ7 H7 → ∃ m, m < n ∧ ∃ i σ' H', Inv X pins σ' H' s7 ∧ tn i s7.heap ∧ (∀ b ∈ fp, H' b = none) ∧ W i m σ' H' := fun {σ7 H7} I7 n7 => by
      obtain ⟨m', hm, w7⟩ := hN σ7 H7 n7
      refine ⟨m', hm, i + 1, σ7, H7, I7.unpinned, T.keep _ _ _ st5 fun b hb o e => (I7.pin (b, o) (List.mem_append_right _ (List.mem_append_right _ (mem_pinsAt hb e)))).1, fun b hb => ?_, w7⟩
      obtain ⟨o, e, d⟩ := T.obj _ _ st5 b hb
      exact (I7.pin (b, o) (List.mem_append_right _ (List.mem_append_right _ (mem_pinsAt hb e)))).2.1
    cases f with
    | next => obtain ⟨σ7, H7, I7, n7⟩ := q7; exact again I7 n7
    | cont => obtain ⟨σ7, H7, I7, n7⟩ := q7; exact again I7 n7
    | brk => obtain ⟨σ7, H7, I7, q7⟩ := q7; exact ⟨σ7, H7, I7.unpinned, q7⟩
    | ret v => obtain ⟨x7, σ7, H7, I7, r7, q7⟩ := q7; exact ⟨x7, σ7, H7, I7.unpinned, r7, q7⟩
end

/-! ### the forms one uses -/
/-- over a list that the body leaves as it is -/
theorem for_list {K : PySem.W.Frag} {a : Addr} {xs : List V} {g : TG} {tb : TS} {D : Ends} {σ : St} {H : Hp} (Pv : Nat → St → Hp → Prop) (h0 : Pv 0 σ H) (hl : ∀ i σ H, i ≤ xs.length → Pv i σ H → SqL K H a xs)
    (hs : ∀ i x σ H, xs[i]? = some x → Pv i σ H → g x σ H fun σ2 H2 => tb { D with nx := Pv (i + 1), ct := Pv (i + 1), bk := D.nx } σ2 H2) (hd : ∀ σ H, Pv xs.length σ H → D.nx σ H) :
    ∃ W : Nat → Nat → St → Hp → Prop, (∃ m, W 0 m σ H) ∧ ∀ i m σ H, W i m σ H →
      ((Itl K a).stop i H ∧ D.nx σ H) ∨ ((Itl K a).go i H ∧ ∃ N : St → Hp → Prop, (∀ σ' H', N σ' H' → ∃ m', m' < m ∧ W (i + 1) m' σ' H') ∧ ∀ x H', (Itl K a).yld i H x H' → g x σ H' fun σ2 H2 => tb { D with nx := N, ct := N, bk := D.nx } σ2 H2) := by
  refine ⟨fun i m σ H => m = xs.length - i ∧ i ≤ xs.length ∧ Pv i σ H, ⟨xs.length, by simp, Nat.zero_le _, h0⟩, ?_⟩
  rintro i m σ H ⟨rfl, hi, p⟩
  have q := hl i σ H hi p
  by_cases hlt : i < xs.length
  · refine .inr ⟨⟨xs, xs[i], q, by simp [hlt]⟩, Pv (i + 1), fun σ' H' p' => ⟨xs.length - (i + 1), by omega, rfl, hlt, p'⟩, fun x H' y => ?_⟩
    obtain ⟨e, y⟩ := y
    subst e
    exact hs i x σ _ (y xs q) p
  · have e : i = xs.length := by omega
    subst e
    exact .inl ⟨⟨xs, q, Nat.le_refl _⟩, hd σ H p⟩
theorem for_tup {K : PySem.W.Frag} {a : Addr} {xs : List V} {g : TG} {tb : TS} {D : Ends} {σ : St} {H : Hp} (Pv : Nat → St → Hp → Prop) (h0 : Pv 0 σ H) (hl : ∀ i σ H, i ≤ xs.length → Pv i σ H → SqT K H a xs)
    (hs : ∀ i x σ H, xs[i]? = some x → Pv i σ H → g x σ H fun σ2 H2 => tb { D with nx := Pv (i + 1), ct := Pv (i + 1), bk := D.nx } σ2 H2) (hd : ∀ σ H, Pv xs.length σ H → D.nx σ H) :
    ∃ W : Nat → Nat → St → Hp → Prop, (∃ m, W 0 m σ H) ∧ ∀ i m σ H, W i m σ H →
      ((Itt K a).stop i H ∧ D.nx σ H) ∨ ((Itt K a).go i H ∧ ∃ N : St → Hp → Prop, (∀ σ' H', N σ' H' → ∃ m', m' < m ∧ W (i + 1) m' σ' H') ∧ ∀ x H', (Itt K a).yld i H x H' → g x σ H' fun σ2 H2 => tb { D with nx := N, ct := N, bk := D.nx } σ2 H2) := by
  refine ⟨fun i m σ H => m = xs.length - i ∧ i ≤ xs.length ∧ Pv i σ H, ⟨xs.length, by simp, Nat.zero_le _, h0⟩, ?_⟩
  rintro i m σ H ⟨rfl, hi, p⟩
  have q := hl i σ H hi p
  by_cases hlt : i < xs.length
  · refine .inr ⟨⟨xs, xs[i], q, by simp [hlt]⟩, Pv (i + 1), fun σ' H' p' => ⟨xs.length - (i + 1), by omega, rfl, hlt, p'⟩, fun x H' y => ?_⟩
    obtain ⟨e, y⟩ := y
    subst e
    exact hs i x σ _ (y xs q) p
  · have e : i = xs.length := by omega
    subst e
    exact .inl ⟨⟨xs, q, Nat.le_refl _⟩, hd σ H p⟩
theorem for_range {lo : Int} {n : Nat} {g : TG} {tb : TS} {D : Ends} {σ : St} {H : Hp} (Pv : Nat → St → Hp → Prop) (h0 : Pv 0 σ H)
    (hs : ∀ i σ H, i < n → Pv i σ H → g (.int (lo + i)) σ H fun σ2 H2 => tb { D with nx := Pv (i + 1), ct := Pv (i + 1), bk := D.nx } σ2 H2) (hd : ∀ σ H, Pv n σ H → D.nx σ H) :
    ∃ W : Nat → Nat → St → Hp → Prop, (∃ m, W 0 m σ H) ∧ ∀ i m σ H, W i m σ H →
      ((Itr lo n).stop i H ∧ D.nx σ H) ∨ ((Itr lo n).go i H ∧ ∃ N : St → Hp → Prop, (∀ σ' H', N σ' H' → ∃ m', m' < m ∧ W (i + 1) m' σ' H') ∧ ∀ x H', (Itr lo n).yld i H x H' → g x σ H' fun σ2 H2 => tb { D with nx := N, ct := N, bk := D.nx } σ2 H2) := by
  refine ⟨fun i m σ H => m = n - i ∧ i ≤ n ∧ Pv i σ H, ⟨n, by simp, Nat.zero_le _, h0⟩, ?_⟩
  rintro i m σ H ⟨rfl, hi, p⟩
  by_cases hlt : i < n
  · refine .inr ⟨hlt, Pv (i + 1), fun σ' H' p' => ⟨n - (i + 1), by omega, rfl, hlt, p'⟩, fun x H' y => ?_⟩
    obtain ⟨e, y⟩ := y
    subst e y
    exact hs i σ _ hlt p
  · have e : i = n := by omega
    subst e
    exact .inl ⟨Nat.le_refl _, hd σ H p⟩
end L2

namespace L2
open PySem PySem.Spec PyProof.Rows

abbrev R2 := V → V → Hp → VK → Prop
/-- a two-place operation on values: f is binaryOp op, inplaceOp op or compareOp op -/
def OpR (X : Cx) (f : Value → Value → Sem Value) (r : R2) : Prop :=
  ∀ (pins : List (Addr × Obj)) (s : Shared) (σ : St) (H : Hp) (x y : V) (v u : Value) (Q : VK), Inv X pins σ H s → RelV x v → RelV y u → r x y H Q →
    wpAny (model X.prog X.w) X.A (f v u) (EP X pins σ Q) X.xe s
/-- a one-place operation -/
def UnR (X : Cx) (f : Value → Sem Value) (r : V → Hp → VK → Prop) : Prop :=
  ∀ (pins : List (Addr × Obj)) (s : Shared) (σ : St) (H : Hp) (x : V) (v : Value) (Q : VK), Inv X pins σ H s → RelV x v → r x H Q →
    wpAny (model X.prog X.w) X.A (f v) (EP X pins σ Q) X.xe s
/-- a call of a value that is known (a builtin, a type) with values -/
def CallR (X : Cx) (f : Value) (r : List V → Hp → VK → Prop) : Prop :=
  ∀ (pins : List (Addr × Obj)) (s : Shared) (σ : St) (H : Hp) (xs : List V) (us : List Value) (Q : VK), Inv X pins σ H s → Vals xs us → r xs H Q →
    wpAny (model X.prog X.w) X.A (call f us) (EP X pins σ Q) X.xe s
def tOp (r : R2) (ta tb : TE) : TE := fun σ H Q => ta σ H fun x H1 => tb σ H1 fun y H2 => r x y H2 Q
def tUn (r : V → Hp → VK → Prop) (ta : TE) : TE := fun σ H Q => ta σ H fun x H1 => r x H1 Q
/-- ints in, under C, and a value out -/
def rI (C : Int → Int → Prop) (g : Int → Int → V) : R2 := fun x y H Q => ∃ i j, x = .int i ∧ y = .int j ∧ C i j ∧ Q (g i j) H
def rI0 (g : Int → Int → V) : R2 := fun x y H Q => ∃ i j, x = .int i ∧ y = .int j ∧ Q (g i j) H
def rU (g : Int → V) : V → Hp → VK → Prop := fun x H Q => ∃ i, x = .int i ∧ Q (g i) H

section
variable {X : Cx} {a b c : Expr} {ta tb tc : TE} {pos : Pos}

theorem binT (ha : PE X a ta) (hb : PE X b tb) {pins : List (Addr × Obj)} {s : Shared} {σ : St} {H : Hp} {R : V → V → Hp → Prop} (I : Inv X pins σ H s)
    (h : ta σ H fun x H1 => tb σ H1 fun y H2 => R x y H2) {Q : Value → Shared → Prop} {f : Value → Value → Sem Value}
    (hf : ∀ v u s2 x y H2, Inv X pins σ H2 s2 → RelV x v → RelV y u → R x y H2 → wpAny (model X.prog X.w) X.A (f v u) Q X.xe s2) :
    wpAny (model X.prog X.w) X.A (eval a X.env) (fun v s₁ => wpAny (model X.prog X.w) X.A (eval b X.env) (fun u s₂ => wpAny (model X.prog X.w) X.A (f v u) Q X.xe s₂) X.xe s₁) X.xe s := by
  refine thn (ha pins s σ H _ I h) fun v s1 ⟨x, H1, I1, r1, q1⟩ => ?_
  refine thn (hb pins s1 σ H1 _ I1 q1) fun u s2 ⟨y, H2, I2, r2, q2⟩ => ?_
  exact hf v u s2 x y H2 I2 r1 r2 q2

theorem pe_op {op : Operator} {r : R2} (ho : OpR X (binaryOp op) r) (ha : PE X a ta) (hb : PE X b tb) : PE X (.BinOp a op b pos) (tOp r ta tb) := by
  intro pins s σ H Q I h
  exact wpAny_BinOp (binT ha hb I h fun v u s2 x y H2 I2 rx ry q => ho pins s2 σ H2 x y v u Q I2 rx ry q)
theorem pe_un {op : UnaryOp} {r : V → Hp → VK → Prop} (ho : UnR X (unaryOp op) r) (ha : PE X a ta) : PE X (.UnaryOp op a pos) (tUn r ta) := by
  intro pins s σ H Q I h
  exact UnaryOp_ (thn (ha pins s σ H _ I h) fun v s1 ⟨x, H1, I1, r1, q1⟩ => ho pins s1 σ H1 x v Q I1 r1 q1)
/-! ### ints -/
theorem opI {f : Value → Value → Sem Value} {C : Int → Int → Prop} {g : Int → Int → Int}
    (rule : ∀ (i j : Int) (t u : Tok) (s : Shared) (Q : Value → Shared → Prop) (E : Value → Shared → Prop), C i j → Q (.int (g i j) s.toks) { s with toks := s.toks + 1 } → wpAny (model X.prog X.w) X.A (f (.int i t) (.int j u)) Q E s) :
    OpR X f (rI C fun i j => .int (g i j)) := by
  intro pins s σ H x y v u Q I rx ry h
  obtain ⟨i, j, rfl, rfl, hc, q⟩ := h
  obtain ⟨t, rfl⟩ := rx
  obtain ⟨t', rfl⟩ := ry
  exact rule i j t t' s _ _ hc ⟨.int (g i j), H, I.tok _, ⟨_, rfl⟩, q⟩
theorem opI0 {f : Value → Value → Sem Value} {g : Int → Int → Int}
    (rule : ∀ (i j : Int) (t u : Tok) (s : Shared) (Q : Value → Shared → Prop) (E : Value → Shared → Prop), Q (.int (g i j) s.toks) { s with toks := s.toks + 1 } → wpAny (model X.prog X.w) X.A (f (.int i t) (.int j u)) Q E s) :
    OpR X f (rI0 fun i j => .int (g i j)) := by
  intro pins s σ H x y v u Q I rx ry h
  obtain ⟨i, j, rfl, rfl, q⟩ := h
  obtain ⟨t, rfl⟩ := rx
  obtain ⟨t', rfl⟩ := ry
  exact rule i j t t' s _ _ ⟨.int (g i j), H, I.tok _, ⟨_, rfl⟩, q⟩
theorem opB0 {f : Value → Value → Sem Value} {g : Int → Int → Bool}
    (rule : ∀ (i j : Int) (t u : Tok) (s : Shared) (Q : Value → Shared → Prop) (E : Value → Shared → Prop), Q (.bool (g i j)) s → wpAny (model X.prog X.w) X.A (f (.int i t) (.int j u)) Q E s) :
    OpR X f (rI0 fun i j => .bl (g i j)) := by
  intro pins s σ H x y v u Q I rx ry h
  obtain ⟨i, j, rfl, rfl, q⟩ := h
  obtain ⟨t, rfl⟩ := rx
  obtain ⟨t', rfl⟩ := ry
  exact rule i j t t' s _ _ ⟨.bl (g i j), H, I, rfl, q⟩

def CDiv (i j : Int) : Prop := 0 < j ∧ j < 1073741824
def CPow (i j : Int) : Prop := 0 ≤ j ∧ j ≤ 1000000 ∧ i.natAbs < 2 ^ 64
def CMul (i j : Int) : Prop := (-(2 ^ 64) < i ∧ i < 2 ^ 64) ∨ (-(2 ^ 64) < j ∧ j < 2 ^ 64)
theorem CMul.ok {i j : Int} (h : CMul i j) : IntMulOk i j := by
  rcases h with ⟨h1, h2⟩ | ⟨h1, h2⟩
  · exact .of_left (intBits_le_64 h1 h2)
  · exact .of_right (intBits_le_64 h1 h2)
theorem two_pow_nn (k : Nat) : (0 : Int) ≤ 2 ^ k := by
  rw [two_pow_cast]
  exact Int.natCast_nonneg _

theorem op_add : OpR X (binaryOp .Add) (rI0 fun i j => .int (i + j)) := opI0 fun _ _ _ _ _ _ _ q => add_int q
theorem op_mul : OpR X (binaryOp .Mult) (rI CMul fun i j => .int (i * j)) := opI fun _ _ _ _ _ _ _ hc q => mul_int q hc.ok
/-- // by a positive divisor -/
theorem op_fdiv : OpR X (binaryOp .FloorDiv) (rI CDiv fun i j => .int (i / j)) := opI fun i j _ _ _ _ _ hc q => by
  have h1 : (0 : Int) < j := hc.1
  have h2 : j < 1073741824 := hc.2
  exact floordiv_int (by omega) (by rw [Int.fdiv_eq_ediv_of_nonneg i (by omega)]; exact q) (.inl (PyProof.noPylong_small (by omega)))
/-- % by a positive divisor of any size -/
theorem op_mod : OpR X (binaryOp .Mod) (rI (fun _ j => 0 < j) fun i j => .int (i % j)) := opI fun i j _ _ _ _ _ hc q => by
  have h1 : (0 : Int) < j := hc
  exact mod_int' (by omega) (by rw [Int.fmod_eq_emod_of_nonneg i (by omega)]; exact q)
theorem op_pow : OpR X (binaryOp .Pow) (rI CPow fun i j => .int (i ^ j.toNat)) := opI fun _ _ _ _ _ _ _ hc q => pow_int_small hc.1 hc.2.1 hc.2.2 q
theorem op_shl : OpR X (binaryOp .LShift) (rI CPow fun i j => .int (i * 2 ^ j.toNat)) := opI fun _ _ _ _ _ _ _ hc q => lshift_int_small hc.1 hc.2.1 hc.2.2 q
theorem op_shr : OpR X (binaryOp .RShift) (rI (fun _ j => 0 ≤ j) fun i j => .int (i / 2 ^ j.toNat)) := opI fun i j _ _ _ _ _ hc q =>
  rshift_int hc (by rw [Int.fdiv_eq_ediv_of_nonneg i (two_pow_nn _)]; exact q)
theorem op_and : OpR X (binaryOp .BitAnd) (rI0 fun i j => .int (Builtin.bitAnd i j)) := opI0 fun _ _ _ _ _ _ _ q => and_int q
theorem unI {f : Value → Sem Value} {g : Int → Int}
    (rule : ∀ (i : Int) (t : Tok) (s : Shared) (Q : Value → Shared → Prop) (E : Value → Shared → Prop), Q (.int (g i) s.toks) { s with toks := s.toks + 1 } → wpAny (model X.prog X.w) X.A (f (.int i t)) Q E s) :
    UnR X f (rU fun i => .int (g i)) := by
  intro pins s σ H x v Q I rx h
  obtain ⟨i, rfl, q⟩ := h
  obtain ⟨t, rfl⟩ := rx
  exact rule i t s _ _ ⟨.int (g i), H, I.tok _, ⟨_, rfl⟩, q⟩
theorem un_neg : UnR X (unaryOp .USub) (rU fun i => .int (-i)) := unI fun _ _ _ _ _ q => neg_int q
/-! ### bools among ints: n += (a < b) -/
end

/-! ### comparisons -/
/-- the scalars that == tells apart as data does -/
def scal : V → V → Bool
  | .non, .non => true | .non, .int _ => true | .int _, .non => true | .non, .bl _ => true | .bl _, .non => true | .non, .str _ => true | .str _, .non => true
  | .int _, .int _ => true | .bl _, .bl _ => true | .str _, .str _ => true | .byt _, .byt _ => true
  | .int _, .str _ => true | .str _, .int _ => true | .bl _, .str _ => true | .str _, .bl _ => true
  | _, _ => false
def rEq : R2 := fun x y H Q => scal x y = true ∧ Q (.bl (decide (x = y))) H
def rNe : R2 := fun x y H Q => scal x y = true ∧ Q (.bl (!decide (x = y))) H

theorem dec_int {i j : Int} : decide (V.int i = V.int j) = (i == j) := by
  rw [Bool.eq_iff_iff]
  simp
theorem dec_bl {i j : Bool} : decide (V.bl i = V.bl j) = (i == j) := by
  rw [Bool.eq_iff_iff]
  simp
theorem dec_str {i j : Str} : decide (V.str i = V.str j) = (i == j) := by
  rw [Bool.eq_iff_iff]
  simp
theorem dec_byt {i j : Array UInt8} : decide (V.byt i = V.byt j) = (i.toList == j.toList) := by
  rw [Bool.eq_iff_iff]
  cases i
  cases j
  simp

section
variable {X : Cx} {a b c : Expr} {ta tb tc : TE} {pos : Pos}
theorem fin_bl {pins : List (Addr × Obj)} {σ : St} {H : Hp} {s : Shared} {Q : VK} {k k' : Bool} (I : Inv X pins σ H s) (q : Q (.bl k) H) (e : k = k') : EP X pins σ Q (.bool k') s := by
  subst e
  exact ⟨.bl k, H, I, rfl, q⟩
theorem op_eq : OpR X (compareOp .Eq) rEq := by
  intro pins s σ H x y v u Q I rx ry h
  obtain ⟨hs, q⟩ := h
  cases x with
  | non =>
    cases rx
    cases y with
    | non => cases ry; exact PySem.EqNone.eq_none_none (fin_bl I q (by simp))
    | bl j => cases ry; exact PySem.EqNone.eq_none_bool (fin_bl I q (by simp))
    | int j => obtain ⟨t', rfl⟩ := ry; exact PySem.EqNone.eq_none_int (fin_bl I q (by simp))
    | str j => obtain ⟨t', rfl⟩ := ry; exact PySem.EqNone.eq_none_str (fin_bl I q (by simp))
    | _ => exact absurd (show false = true from hs) Bool.false_ne_true
  | bl i =>
    cases rx
    cases y with
    | non => cases ry; exact PySem.EqNone.eq_bool_none (fin_bl I q (by simp))
    | bl j => cases ry; exact eq_bool (fin_bl I q dec_bl)
    | str j => obtain ⟨t', rfl⟩ := ry; exact PySem.EqMixed.eq_bool_str (fin_bl I q (by simp))
    | _ => exact absurd (show false = true from hs) Bool.false_ne_true
  | int i =>
    obtain ⟨t, rfl⟩ := rx
    cases y with
    | non => cases ry; exact PySem.EqNone.eq_int_none (fin_bl I q (by simp))
    | int j => obtain ⟨t', rfl⟩ := ry; exact eq_int (fin_bl I q dec_int)
    | str j => obtain ⟨t', rfl⟩ := ry; exact PySem.EqMixed.eq_int_str (fin_bl I q (by simp))
    | _ => exact absurd (show false = true from hs) Bool.false_ne_true
  | str i =>
    obtain ⟨t, rfl⟩ := rx
    cases y with
    | non => cases ry; exact PySem.EqNone.eq_str_none (fin_bl I q (by simp))
    | bl j => cases ry; exact PySem.EqMixed.eq_str_bool (fin_bl I q (by simp))
    | int j => obtain ⟨t', rfl⟩ := ry; exact PySem.EqMixed.eq_str_int (fin_bl I q (by simp))
    | str j => obtain ⟨t', rfl⟩ := ry; exact eq_str (fin_bl I q dec_str)
    | _ => exact absurd (show false = true from hs) Bool.false_ne_true
  | byt i =>
    obtain ⟨t, rfl⟩ := rx
    cases y with
    | byt j => obtain ⟨t', rfl⟩ := ry; exact PySem.W.eq_bytes (fin_bl I q dec_byt)
    | _ => exact absurd (show false = true from hs) Bool.false_ne_true
  | _ => cases y <;> exact absurd (show false = true from hs) Bool.false_ne_true
theorem op_ne : OpR X (compareOp .NotEq) rNe := by
  intro pins s σ H x y v u Q I rx ry h
  obtain ⟨hs, q⟩ := h
  cases x with
  | non =>
    cases rx
    cases y with
    | non => cases ry; exact PySem.EqNone.ne_none_none (fin_bl I q (by simp))
    | bl j => cases ry; exact PySem.EqNone.ne_none_bool (fin_bl I q (by simp))
    | int j => obtain ⟨t', rfl⟩ := ry; exact PySem.EqNone.ne_none_int (fin_bl I q (by simp))
    | str j => obtain ⟨t', rfl⟩ := ry; exact PySem.EqNone.ne_none_str (fin_bl I q (by simp))
    | _ => exact absurd (show false = true from hs) Bool.false_ne_true
  | bl i =>
    cases rx
    cases y with
    | non => cases ry; exact PySem.EqNone.ne_bool_none (fin_bl I q (by simp))
    | bl j => cases ry; exact ne_bool (fin_bl I q (congrArg not dec_bl))
    | str j => obtain ⟨t', rfl⟩ := ry; exact PySem.EqMixed.ne_bool_str (fin_bl I q (by simp))
    | _ => exact absurd (show false = true from hs) Bool.false_ne_true
  | int i =>
    obtain ⟨t, rfl⟩ := rx
    cases y with
    | non => cases ry; exact PySem.EqNone.ne_int_none (fin_bl I q (by simp))
    | int j => obtain ⟨t', rfl⟩ := ry; exact ne_int (fin_bl I q (congrArg not dec_int))
    | str j => obtain ⟨t', rfl⟩ := ry; exact PySem.EqMixed.ne_int_str (fin_bl I q (by simp))
    | _ => exact absurd (show false = true from hs) Bool.false_ne_true
  | str i =>
    obtain ⟨t, rfl⟩ := rx
    cases y with
    | non => cases ry; exact PySem.EqNone.ne_str_none (fin_bl I q (by simp))
    | bl j => cases ry; exact PySem.EqMixed.ne_str_bool (fin_bl I q (by simp))
    | int j => obtain ⟨t', rfl⟩ := ry; exact PySem.EqMixed.ne_str_int (fin_bl I q (by simp))
    | str j => obtain ⟨t', rfl⟩ := ry; exact ne_str (fin_bl I q (congrArg not dec_str))
    | _ => exact absurd (show false = true from hs) Bool.false_ne_true
  | byt i =>
    obtain ⟨t, rfl⟩ := rx
    cases y with
    | byt j => obtain ⟨t', rfl⟩ := ry; exact PySem.W.ne_bytes (fin_bl I q (congrArg not dec_byt))
    | _ => exact absurd (show false = true from hs) Bool.false_ne_true
  | _ => cases y <;> exact absurd (show false = true from hs) Bool.false_ne_true

theorem op_lt : OpR X (compareOp .Lt) (rI0 fun i j => .bl (decide (i < j))) := opB0 fun _ _ _ _ _ _ _ q => lt_int q
theorem op_gt : OpR X (compareOp .Gt) (rI0 fun i j => .bl (decide (j < i))) := opB0 fun _ _ _ _ _ _ _ q => gt_int q
theorem op_ge : OpR X (compareOp .GtE) (rI0 fun i j => .bl (decide (j ≤ i))) := opB0 fun _ _ _ _ _ _ _ q => ge_int q
/-- is None, is not None: the right side a value none -/
theorem op_isN : OpR X (compareOp .Is) (fun x y H Q => y = .non ∧ Q (.bl (decide (x = .non))) H) := by
  intro pins s σ H x y v u Q I rx ry h
  obtain ⟨rfl, q⟩ := h
  cases ry
  refine is_none_gen (fin_bl I q ?_)
  cases x <;> first
    | (cases rx; rfl)
    | (obtain ⟨t, rfl⟩ := rx; rfl)
theorem nomark (b : Expr) {op : CmpOp} (h : op ≠ .In := by decide) (h2 : op ≠ .NotIn := by decide) : behindInMarks op b = false := by
  have e1 : (op == CmpOp.In) = false := by cases op <;> first | rfl | exact absurd rfl h
  have e2 : (op == CmpOp.NotIn) = false := by cases op <;> first | rfl | exact absurd rfl h2
  cases b <;> simp [behindInMarks, e1, e2]
/-- a comparison as a value; hm: nomark b, or (for in, not in) by with_unfolding_all rfl -/
theorem pe_cmpR {op : CmpOp} {r : R2} (ho : OpR X (compareOp op) r) (ha : PE X a ta) (hb : PE X b tb) (hm : behindInMarks op b = false) : PE X (.Compare a [op] [b] pos) (tOp r ta tb) := by
  intro pins s σ H Q I h
  exact wpAny_Compare1 (binT ha hb I h fun v u s2 x y H2 I2 rx ry q => ho pins s2 σ H2 x y v u Q I2 rx ry q) hm
/-- a reading of a value as a test -/
def tTest (t : TE) : TT := fun σ H Q => t σ H fun x H' => ∃ k, x = .bl k ∧ Q k H'
theorem pt_cmpR {op : CmpOp} {r : R2} (ho : OpR X (compareOp op) r) (ha : PE X a ta) (hb : PE X b tb) (hm : behindInMarks op b = false) : PT X (.Compare a [op] [b] pos) (tTest (tOp r ta tb)) := by
  intro pins s σ H Q I h
  refine wpAny_isTrue_Compare1 (thn (ha pins s σ H _ I h) fun v s1 ⟨x, H1, I1, r1, q1⟩ => thn (hb pins s1 σ H1 _ I1 q1) fun u s2 ⟨y, H2, I2, r2, q2⟩ =>
    thn (ho pins s2 σ H2 x y v u _ I2 r1 r2 q2) fun c s3 ⟨z, H3, I3, r3, k, e, q3⟩ => ?_) hm
  subst e
  cases r3
  exact wpAny_truthy_bool ⟨H3, I3, q3⟩
/-! ### truth -/
theorem line63 : (sizeLine : Nat) < 2 ^ 63 := by rw [sizeLine_eq]; decide
/-! ### strs and bytes -/
/-! ### scalar builtins, by CallR -/
theorem vals1 {x : V} {us : List Value} (r : Vals [x] us) : ∃ u, us = [u] ∧ RelV x u := by
  cases r with
  | cons r1 r2 => cases r2; exact ⟨_, rfl, r1⟩
theorem vals2 {x y : V} {us : List Value} (r : Vals [x, y] us) : ∃ u w', us = [u, w'] ∧ RelV x u ∧ RelV y w' := by
  cases r with
  | cons r1 r2 =>
    cases r2 with
    | cons r3 r4 => cases r4; exact ⟨_, _, rfl, r1, r3⟩
theorem call_abs : CallR X (.builtin "abs") (fun xs H Q => ∃ i, xs = [.int i] ∧ Q (.int (if i < 0 then -i else i)) H) := by
  intro pins s σ H xs us Q I r h
  obtain ⟨i, rfl, q⟩ := h
  obtain ⟨u, rfl, t, rfl⟩ := vals1 r
  exact call_abs_int fun u tk => ⟨.int (if i < 0 then -i else i), H, I.tok _, ⟨_, rfl⟩, q⟩
theorem call_max2 (hc : X.calm = true) : CallR X (.builtin "max") (fun xs H Q => ∃ i j, xs = [.int i, .int j] ∧ Q (.int (if j > i then j else i)) H) := by
  intro pins s σ H xs us Q I r h
  obtain ⟨i, j, rfl, q⟩ := h
  obtain ⟨u, w', rfl, ⟨t, rfl⟩, ⟨t', rfl⟩⟩ := vals2 r
  refine max_two_ints (I.ok.hd hc) fun h' tk k => ⟨_, H, I.kept k, ?_, q⟩
  by_cases hj : j > i
  · rw [if_pos hj, if_pos hj]; exact ⟨_, rfl⟩
  · rw [if_neg hj, if_neg hj]; exact ⟨_, rfl⟩
theorem call_min2 (hc : X.calm = true) : CallR X (.builtin "min") (fun xs H Q => ∃ i j, xs = [.int i, .int j] ∧ Q (.int (if j < i then j else i)) H) := by
  intro pins s σ H xs us Q I r h
  obtain ⟨i, j, rfl, q⟩ := h
  obtain ⟨u, w', rfl, ⟨t, rfl⟩, ⟨t', rfl⟩⟩ := vals2 r
  refine min_two_ints (I.ok.hd hc) fun h' tk k => ⟨_, H, I.kept k, ?_, q⟩
  by_cases hj : j < i
  · rw [if_pos hj, if_pos hj]; exact ⟨_, rfl⟩
  · rw [if_neg hj, if_neg hj]; exact ⟨_, rfl⟩
theorem call_int1 : CallR X (.type "int") (fun xs H Q => (∃ i, xs = [.int i] ∧ Q (.int i) H) ∨ ∃ k, xs = [.bl k] ∧ Q (.int (if k then 1 else 0)) H) := by
  intro pins s σ H xs us Q I r h
  rcases h with ⟨i, rfl, q⟩ | ⟨k, rfl, q⟩
  · obtain ⟨u, rfl, t, rfl⟩ := vals1 r
    exact call_int_int ⟨.int i, H, I, ⟨_, rfl⟩, q⟩
  · obtain ⟨u, rfl, r1⟩ := vals1 r
    cases r1
    exact call_int_bool ⟨.int (if k then 1 else 0), H, I.tok _, ⟨_, rfl⟩, q⟩
end
end L2

namespace L2
open PySem PySem.Spec PyProof.Rows

/-! ### an instance, its attributes a map -/
structure ObjM (h : Heap) (x dx C : Addr) (mA : Str → Option Value) : Prop where
  obj : h.get? x = some (PySem.W.instObj C dx)
  ns : h.Ns1 dx mA
  ne : dx ≠ x

theorem lookIn_ns {h : Heap} {dx : Addr} {mA : Str → Option Value} (n : h.Ns1 dx mA) : ∃ od, h.get? dx = some od ∧ ∀ name, PySem.W.lookIn name od = some (mA name) := by
  obtain ⟨o, es, ep, ho, hd, hk, _, hm⟩ := n
  refine ⟨o, ho, fun name => ?_⟩
  have e := hm name
  unfold nsFind findBy at e
  rw [← Array.find?_toList] at e
  unfold PySem.W.lookIn
  rw [hd]
  dsimp only
  split
  · rename_i y q
    rw [q] at e
    exact congrArg some e
  · rename_i q
    rw [q] at e
    have a : es.toList.any (·.refKey) = false := by
      rw [List.any_eq_false]
      intro y hy
      obtain ⟨z, t, hkey⟩ := hk y (Array.mem_toList_iff.mp hy)
      simp [DictEntry.refKey, hkey]
    have a' : ¬ es.toList.any (·.refKey) = true := by rw [a]; exact Bool.false_ne_true
    rw [if_neg a']
    exact congrArg some e

theorem ObjM.look {h : Heap} {x dx C : Addr} {mA : Str → Option Value} (I : ObjM h x dx C mA) : ∃ od, PySem.W.InstAt h x (PySem.W.instObj C dx) C (some od) ∧ ∀ name, PySem.W.lookIn name od = some (mA name) :=
  let ⟨od, ho, hl⟩ := lookIn_ns I.ns
  ⟨od, ⟨I.obj, rfl, rfl, ho⟩, hl⟩

section
variable {prog : Program} {w : World} {A : Around} {E : Value → Shared → Prop} {s : Shared} {K : PySem.W.Frag} {x dx C f : Addr} {mA : Str → Option Value} {name : Str} {v : Value}

end

/-! ### the attributes as a list of pairs -/
section
variable {P : Program} {w : World} {H H' : Hp} {h h' : Heap} {a C dx : Addr} {fs fs' : List (Str × V)}
theorem ins_get (hok : HOk P w H h) (e : H a = some (.ins C dx fs)) : ∃ mA, ObjM h a dx C mA ∧ (∀ f, RelO (fs.lookup f) (mA f)) ∧ PySem.Within mA (fs.map (·.1)) ∧ fs.length ≤ 1000 ∧ H dx = some (.own a) := by
  obtain ⟨d, z, ne, ob, mA, n, r, q⟩ := (show ObjOk P w H h a (.ins C dx fs) from hok a _ e)
  exact ⟨mA, ⟨ob, n, ne⟩, r, q, z, d⟩
end

/-! ### what of the text a class must have -/
structure Cls (K : PySem.W.Frag) (C : Addr) : Prop where
  pg : PySem.W.plainGet K C Str.empty = true
  hd : PySem.W.hasDictIn K C = true
  po : PySem.W.plainOver K C = true
  sa : PySem.W.findIn K (.ref C) "__setattr__" = some (some (.builtin "object.__setattr__"))
theorem Cls.get {K : PySem.W.Frag} {C : Addr} (c : Cls K C) (f : Str) : PySem.W.plainGet K C f = true := c.pg
section
variable {X : Cx} {pins : List (Addr × Obj)} {σ : St} {H : Hp} {s : Shared} {a C dx : Addr} {fs : List (Str × V)} {f : Str} {v : V} {A : Around} {E : Value → Shared → Prop}

end

/-! ### readings and rules -/
section
variable {X : Cx} {o e value : Expr} {f : Str} {pos pos' tpos : Pos} {ta tv : TE}
end

/-! ### isinstance -/
section
variable {X : Cx} {pins : List (Addr × Obj)} {σ : St} {H : Hp} {s : Shared} {A : Around} {E : Value → Shared → Prop} {Q : Value → Shared → Prop} {c : Value} {b : Bool}
/-- the type of a value, as the fragment's deciders take it; for an instance its class -/
inductive TyOf (K : PySem.W.Frag) (H : Hp) : V → Value → Prop where
  | non : TyOf K H .non (.type "NoneType")
  | bl (x : Bool) : TyOf K H (.bl x) (.type "bool")
  | int (i : Int) : TyOf K H (.int i) (.type "int")
  | str (x : Str) : TyOf K H (.str x) (.type "str")
  | flt (x : UInt64) : TyOf K H (.flt x) (.type "float")
  | lst {a : Addr} {xs : List V} (e : H a = some (.lst xs)) : TyOf K H (.ref a) (.type "list")
  | frz {a : Addr} {o : Obj} {xs : List V} (e : H a = some (.frz o (.lst xs))) : TyOf K H (.ref a) (.type "list")
  | tup {a : Addr} {xs : List V} (e : H a = some (.tup xs)) : TyOf K H (.ref a) (.type "tuple")
  | dK {a : Addr} {kvs : List (Key × V)} (e : H a = some (.dK kvs)) : TyOf K H (.ref a) (.type "dict")
  | dT {a : Addr} {kvs : List (List Key × V)} (e : H a = some (.dT kvs)) : TyOf K H (.ref a) (.type "dict")
  | ins {a C dx : Addr} {fs : List (Str × V)} (e : H a = some (.ins C dx fs)) (cl : Cls K C) (ha : PySem.W.findIn K (.ref C) "__class__" = some (some (.builtin "object.__class__")))
      (hn : PySem.W.specialIn K (.builtin "object.__class__") "__get__" = some (some (.builtin "getset_descriptor.__get__"))) (htk : PySem.W.takesIn K (.builtin "object.__class__") = some true)
      (hm : PySem.W.mroIn K C (.type "object") = some true) : TyOf K H (.ref a) (.ref C)
/-- isinstance(x, c) for one class c, a built-in or an own one: kitOne's answer -/
theorem isinst_ok {x : V} {u t : Value} (I : Inv X pins σ H s) (rx : RelV x u) (ty : TyOf X.K H x t) (e : PySem.W.kitOne X.K t c = some b) (h : ∀ tk, Q (.bool b) { s with toks := tk }) :
    wpAny (model X.prog X.w) A (call (.builtin "isinstance") [u, c]) Q E s := by
  cases ty with
  | non => cases (show u = Value.none from rx); exact PySem.W.kia_one PySem.W.kitx_none I.kIn True.intro e (fun z => nomatch z) h
  | bl y => cases (show u = Value.bool y from rx); exact PySem.W.kia_one PySem.W.kitx_bool I.kIn True.intro e (fun z => nomatch z) h
  | int i => obtain ⟨t, q⟩ := (show ∃ t, u = Value.int i t from rx); cases q; exact PySem.W.kia_one PySem.W.kitx_int I.kIn True.intro e (fun z => nomatch z) h
  | str y => obtain ⟨t, q⟩ := (show ∃ t, u = Value.str y t from rx); cases q; exact PySem.W.kia_one PySem.W.kitx_str I.kIn True.intro e (fun z => nomatch z) h
  | flt y => obtain ⟨t, q⟩ := (show ∃ t, u = Value.float y t from rx); cases q; exact PySem.W.kia_one PySem.W.kitx_float I.kIn True.intro e (fun z => nomatch z) h
  | @lst a xs ea =>
    cases (show u = Value.ref a from rx)
    obtain ⟨_, _, n, _, h1⟩ := (show ObjOk X.prog X.w H s.heap a (.lst xs) from I.hok a _ ea)
    exact PySem.W.kia_one PySem.W.kitx_list I.kIn ⟨_, h1, rfl⟩ e (fun z => nomatch z) h
  | @frz a ob xs ea =>
    cases (show u = Value.ref a from rx)
    obtain ⟨_, _, _, n, _, h1⟩ := (show ObjOk X.prog X.w H s.heap a (.frz ob (.lst xs)) from I.hok a _ ea)
    exact PySem.W.kia_one PySem.W.kitx_list I.kIn ⟨_, h1, rfl⟩ e (fun z => nomatch z) h
  | @tup a xs ea =>
    cases (show u = Value.ref a from rx)
    obtain ⟨_, _, _, p⟩ := (show ObjOk X.prog X.w H s.heap a (.tup xs) from I.hok a _ ea)
    obtain ⟨o, h1, h2, _⟩ := p
    exact PySem.W.kia_one PySem.W.kitx_tuple I.kIn ⟨o, h1, h2⟩ e (fun z => nomatch z) h
  | @dK a kvs ea =>
    cases (show u = Value.ref a from rx)
    obtain ⟨_, _, vs, _, p⟩ := (show ObjOk X.prog X.w H s.heap a (.dK kvs) from I.hok a _ ea)
    obtain ⟨o, es, ep, h1, h2, _⟩ := p
    exact PySem.W.kia_one PySem.W.kitx_dict I.kIn ⟨o, h1, h2.1⟩ e (fun z => nomatch z) h
  | @dT a kvs ea =>
    cases (show u = Value.ref a from rx)
    obtain ⟨_, _, xs, _, o, es, ep, h1, h2, _⟩ := (show ObjOk X.prog X.w H s.heap a (.dT kvs) from I.hok a _ ea)
    exact PySem.W.kia_one PySem.W.kitx_dict I.kIn ⟨o, h1, h2.1⟩ e (fun z => nomatch z) h
  | @ins a C dx fs ea cl ha hn htk hm =>
    cases (show u = Value.ref a from rx)
    obtain ⟨mA, O, _⟩ := ins_get I.hok ea
    obtain ⟨od, J, _⟩ := O.look
    exact PySem.W.kia_one (PySem.W.kitx_own (cl.get _) cl.hd ha hn htk hm) I.kIn J e (fun z => nomatch z) h
end
end L2

namespace L2
open PySem PySem.Spec PyProof.Rows

/-! ### room -/
structure Room (k : Nat) (A : Around) : Prop where
  hd : A.handled = none
  dp : A.depth + 3 * k + 5 < recursionLimit
  un : A.units + 16 * k + 200 < cLine
theorem Room.mono {j k : Nat} {A : Around} (r : Room k A) (h : j ≤ k) : Room j A := ⟨r.hd, by have := r.dp; omega, by have := r.un; omega⟩
theorem Room.deeper {k : Nat} {A : Around} (r : Room (k + 1) A) (env : Env) : Room k (A.deeper env) :=
  ⟨r.hd, by have := r.dp; show A.depth + 1 + 3 * k + 5 < _; omega, by have := r.un; show A.units + 3 + 16 * k + 200 < _; omega⟩
theorem Room.depth {k : Nat} {A : Around} (r : Room k A) : A.depth < recursionLimit := by have := r.dp; omega
theorem Room.units {k : Nat} {A : Around} (r : Room k A) : A.units + 64 < cLine := by have := r.un; omega
/-! ### argument lists and displays -/
def tNil : TA := fun _ H Q => Q [] H
def tCons (ta : TE) (tr : TA) : TA := fun σ H Q => ta σ H fun x H1 => tr σ H1 fun xs H2 => Q (x :: xs) H2
section
variable {X : Cx} {e : Expr} {es : List Expr} {te : TE} {t : TA} {pos : Pos}
theorem pa_nil : PA X [] tNil := fun _ _ _ _ H Q I h => Calls.spliced_nil ⟨[], H, I, .nil, h⟩
theorem pa_cons (ha : PE X e te) (hr : PA X es t) (hs : starEach (e :: es) X.env = (false, eval e X.env) :: starEach es X.env := by rfl) : PA X (e :: es) (tCons te t) := by
  intro pos pins s σ H Q I h
  rw [hs]
  show wpAny _ _ (spliced ((false, eval e X.env) :: backTo pos (starEach es X.env))) _ _ s
  refine Calls.spliced_cons (thn (ha pins s σ H _ I h) fun u s1 ⟨x, H1, I1, r1, q1⟩ => ?_)
  exact thn (hr pos pins s1 σ H1 _ I1 q1) fun us s2 ⟨xs, H2, I2, r2, q2⟩ => ⟨x :: xs, H2, I2, .cons r1 r2, q2⟩

/-- a tuple, a list of written items -/
def tTup (t : TA) : TE := fun σ H Q => t σ H fun xs H1 => xs.length ≤ sizeLine ∧ ∀ p, H1 p = none → Q (.ref p) (upd H1 p (.tup xs))
def tLst (t : TA) : TE := fun σ H Q => t σ H fun xs H1 => xs.length ≤ sizeLine ∧ ∀ p, H1 p = none → Q (.ref p) (upd H1 p (.lst xs))
theorem pe_tup {x1} (h : PA X es t) : PE X (.Tuple es x1 pos) (tTup t) := by
  intro pins s σ H Q I hq
  refine wpAny_Tuple_spliced (thn (h pos pins s σ H _ I hq) fun us s1 ⟨xs, H1, I1, r, z, q⟩ => ⟨by rw [← r.length]; exact z, ?_⟩)
  have hf : H1 s1.heap.objs.size = none := I1.hok.fresh (Nat.le_refl _)
  refine ⟨.ref s1.heap.objs.size, upd H1 s1.heap.objs.size (.tup xs), I1.laid (t' := s1.toks) (fun b u e => Heap.get?_push_of_some _ e) (Nat.le_refl _) ?_, rfl, q _ hf⟩
  exact ⟨z, us, r, ⟨_, Heap.get?_push_size _ rfl, rfl, _, rfl⟩⟩
theorem pe_lst (h : PA X es t) : PE X (.List es pos) (tLst t) := by
  intro pins s σ H Q I hq
  refine wpAny_List_spliced (thn (h pos pins s σ H _ I hq) fun us s1 ⟨xs, H1, I1, r, z, q⟩ => ⟨by rw [← r.length]; exact z, ?_⟩)
  have hf : H1 s1.heap.objs.size = none := I1.hok.fresh (Nat.le_refl _)
  refine ⟨.ref s1.heap.objs.size, upd H1 s1.heap.objs.size (.lst xs), I1.laid (t' := s1.toks) (fun b u e => Heap.get?_push_of_some _ e) (Nat.le_refl _) ?_, rfl, q _ hf⟩
  exact ⟨z, us, 0, r, Heap.get?_push_size _ rfl⟩
end

/-! ### what a def promises -/
/-- a def's promise: the bound arguments in the parameters' order, the heap, the wanted end, the wanted exception -/
abbrev Sp := List V → Hp → VK → XK → Prop
/-- how an exception lies behind a call (file 08 gives it): the callers' frames, abstract heap and state ahead of the call, the wish, the exception, the state -/
abbrev CXT := List Env → Hp → Shared → XK → Value → Shared → Prop

/-- the state at a call -/
structure Env0 (P : Program) (w : World) (K : PySem.W.Frag) (mg : Str → Option Value) (base : Heap) (A : Around) (outer : List Env) (s : Shared) (H : Hp) : Prop where
  frames : A.frames = some outer
  mod : Mod K mg base
  bs : ∀ b o, base.get? b = some o → s.heap.get? b = some o ∧ H b = none
  bsz : base.objs.size ≤ s.heap.objs.size
  funs : s.heap.FunFrames base outer
  frf : ∀ b ∈ frs outer, H b = none
  hok : HOk P w H s.heap
  bare : AllBare s.gens
/-- a call's end -/
def CE (outer : List Env) (P : Program) (w : World) (H : Hp) (s : Shared) (Q : VK) (u : Value) (s' : Shared) : Prop :=
  ∃ v H', s'.os = s.os ∧ AllBare s'.gens ∧ Un (frs outer) [] H H' s.heap s'.heap ∧ HOk P w H' s'.heap ∧ RelV v u ∧ Q v H'
def CR (CX : CXT) (outer : List Env) (P : Program) (w : World) (H : Hp) (s : Shared) (Q : VK) (E : XK) (r : Result) (s' : Shared) : Prop :=
  match r with
  | .ok (.ret u) => CE outer P w H s Q u s'
  | .ok _ => False
  | .error e => CX outer H s E e s'
structure FnOk (P : Program) (w : World) (K : PySem.W.Frag) (mg : Str → Option Value) (base : Heap) (CX : CXT) (k : Nat) (f : Addr) (fd : FuncData) (ps : List Str) (sp : Sp) : Prop where
  len : ∀ vs H Q E, sp vs H Q E → vs.length = ps.length
  run : ∀ (A : Around) (outer : List Env) (s : Shared) (H : Hp) (args : Args) (us : List Value) (vs : List V) (Q : VK) (E : XK), Room k A → Env0 P w K mg base A outer s H → BindsTo s fd args (ps.zip us) → Vals vs us → sp vs H Q E →
    codeAny (model P w) A (.call (.ref f) args) (CR CX outer P w H s Q E) s
section
variable {X : Cx} {pins : List (Addr × Obj)} {σ : St} {H : Hp} {s s' : Shared}
/-- from a body: what a callee wants -/
theorem Inv.env0 (I : Inv X pins σ H s) : Env0 X.prog X.w X.K X.mg X.base X.A X.stack s H :=
  ⟨I.ok.frames, I.ok.mod, I.bs, Nat.le_trans I.ok.bsz I.sz, I.stack, I.stkFree, I.hok, I.bare⟩
/-- behind a call -/
theorem Inv.after {Q : VK} {u : Value} (I : Inv X pins σ H s) (h : CE X.stack X.prog X.w H s Q u s') : EP X pins σ Q u s' := by
  obtain ⟨v, H', os, bare, un, hok, r, q⟩ := h
  obtain ⟨hh, g, d, t, os'⟩ := s'
  obtain rfl : os' = s.os := os
  exact ⟨v, H', I.call (h' := hh) (g' := g) (d' := d) (t' := t) (ch := []) un hok bare (fun b z => absurd z (by simp)), r, q⟩
end

/-! ### calls -/
/-- f(..): the written arguments, then the defaults dvs; E: what is wanted of an exception -/
def tCall (sp : Sp) (dvs : List V) (E : XK) (t : TA) : TE := fun σ H Q => t σ H fun vs H1 => sp (vs ++ dvs) H1 Q E
/-- how the parameters are bound: us the positional arguments, kw the keywords' values by name, ds the defaults that fill up -/
def Binds (K : PySem.W.Frag) (fd : FuncData) (ps : List Str) (ds : List Value) : Prop :=
  ∀ (s : Shared) (us : List Value), K.In s.heap → (us ++ ds).length = ps.length → BindsTo s fd ⟨us, []⟩ (ps.zip (us ++ ds))
/-- every parameter is given -/
theorem Binds.all {K : PySem.W.Frag} {fd : FuncData} {ps : List Str} (h : ∀ us : List Value, us.length = ps.length → bindArgs fd ⟨us, []⟩ = pure (ps.zip us)) : Binds K fd ps [] := fun s us _ hl => by
  rw [List.append_nil] at hl ⊢
  exact .of_eq (h us hl)

/-- an exception of a callee reaches what this body wants of exceptions -/
def Passes (CX : CXT) (X : Cx) (E : XK) : Prop := ∀ (pins : List (Addr × Obj)) (σ : St) (H : Hp) (s : Shared) (e : Value) (s' : Shared), Inv X pins σ H s → CX X.stack H s E e s' → X.xe e s'

section
variable {X : Cx} {CX : CXT} {k : Nat} {f C : Addr} {fd : FuncData} {ps : List Str} {sp : Sp} {dvs : List V} {ds : List Value} {E : XK} {x m : Str} {p pos apos : Pos} {e o : Expr} {es : List Expr} {ta : TE} {t : TA}

/-- the callee runs -/
theorem run_fn {pins : List (Addr × Obj)} {σ : St} {H : Hp} {s : Shared} {Q : VK} {us : List Value} {vs : List V} (F : FnOk X.prog X.w X.K X.mg X.base CX k f fd ps sp) (hr : Room k X.A) (hb : Binds X.K fd ps ds) (hd : Vals dvs ds) (hx : Passes CX X E)
    (I : Inv X pins σ H s) (r : Vals vs us) (h : sp (vs ++ dvs) H Q E) : wpAny (model X.prog X.w) X.A (call (.ref f) us) (EP X pins σ Q) X.xe s := by
  have r2 : Vals (vs ++ dvs) (us ++ ds) := r.append hd
  have hl : (us ++ ds).length = ps.length := by rw [← r2.length]; exact F.len _ _ _ _ h
  refine wpAny_call (codeAny_mono (F.run X.A X.stack s H ⟨us, []⟩ (us ++ ds) (vs ++ dvs) Q E hr I.env0 (hb s us I.kIn hl) r2 h) fun r s' hq => ?_)
  cases r with
  | error e => exact hx pins σ H s e s' I hq
  | ok fl =>
    cases fl with
    | ret u => exact I.after hq
    | next => exact False.elim hq
    | brk => exact False.elim hq
    | cont => exact False.elim hq

theorem pe_call (F : FnOk X.prog X.w X.K X.mg X.base CX k f fd ps sp) (hr : Room k X.A) (hg : Gl X x) (hm : X.mg x = some (.ref f)) (hk : PySem.W.keepIn X.K (.ref f) = true) (hb : Binds X.K fd ps ds) (hd : Vals dvs ds) (hx : Passes CX X E)
    (ha : PA X (e :: es) t) (hdb : (x == ("__debug__" : Str)) = false := by decide) (he : starEach (e :: es) X.env = (false, eval e X.env) :: starEach es X.env := by rfl) (hpl : (backTo pos (starEach es X.env)).any (·.1) = false := by rfl) :
    PE X (.Call (.Name x p) (e :: es) [] pos) (tCall sp dvs E t) := by
  intro pins s σ H Q I h
  refine wpAny_Call_Name_kw (ld_glob I hg hm ?_ hdb)
  refine PySem.W.callWith_K (h₀ := X.base) I.ok.mod.kin hk (thn (ha pos pins s σ H _ I h) fun us s1 ⟨vs, H1, I1, r, q⟩ => ⟨I1.kIn, ?_⟩) he hpl
  exact run_fn F hr hb hd hx I1 r q
end

/-! ### keywords -/
/-- the values of the keywords, from the left -/
def PK (X : Cx) (kws : List Keyword) (t : TA) : Prop :=
  ∀ (pos : Pos) (pins : List (Addr × Obj)) (s : Shared) (σ : St) (H : Hp) (Q : List V → Hp → Prop), Inv X pins σ H s → t σ H Q → wpAny (model X.prog X.w) X.A (evalAll ((backToKw pos (keywordEach kws X.env)).map (·.2))) (AP X pins σ Q) X.xe s
section
variable {X : Cx} {CX : CXT} {k : Nat} {f C : Addr} {fd : FuncData} {ps ks : List Str} {sp : Sp} {E : XK} {x m : Str} {p pos apos kpos : Pos} {e o : Expr} {es : List Expr} {kws : List Keyword} {te ta : TE} {t tk : TA} {nm : Option Str}
theorem pk_nil : PK X [] tNil := fun _ _ _ _ H Q I h => wpAny_evalAll_nil ⟨[], H, I, .nil, h⟩
theorem pk_cons (ha : PE X e te) (hr : PK X kws t) : PK X (⟨nm, e, kpos⟩ :: kws) (tCons te t) := by
  intro pos pins s σ H Q I h
  show wpAny _ _ (evalAll ((do let v ← eval e X.env; standAt pos; pure v) :: (backToKw pos (keywordEach kws X.env)).map (·.2))) _ _ s
  refine wpAny_evalAll_cons (wpAny_bind (thn (ha pins s σ H _ I h) fun u s1 ⟨x, H1, I1, r1, q1⟩ => wpAny_bind (wpAny_standAt (wpAny_pure ?_))))
  exact thn (hr pos pins s1 σ H1 _ I1 q1) fun us s2 ⟨xs, H2, I2, r2, q2⟩ => ⟨x :: xs, H2, I2, .cons r1 r2, q2⟩

variable {g : List Value → List Value → List Value} {gV : List V → List V → List V}
end

/-! ### a def's body keeps its promise -/
/-- names: the parameters first -/
structure FnScope (N P : List Str) (sc : Scope) : Prop where
  kind : sc.kind = .function
  co : sc.isCoroutine = false
  gen : sc.isGenerator = false
  nd : N.Nodup
  pre : N.take P.length = P
  par : ∀ x ∈ P, sc.names.lookup x = some .local ∨ sc.names.lookup x = some .cell
  nofree : ∀ y ∈ sc.names, y.2 ≠ .free

theorem bindL_out {kindOf : Str → Option NameKind} {x : Str} : ∀ {binds : List (Str × Value)} {m : Str → Option Value}, (∀ v, (x, v) ∉ binds) → bindL kindOf binds m x = m x
  | [], _, _ => rfl
  | (n, v) :: r, m, h => by
    unfold bindL
    rw [bindL_out fun w hw => h w (List.mem_cons_of_mem _ hw)]
    split
    · have : x ≠ n := by rintro rfl; exact h v List.mem_cons_self
      simp [this]
    · rfl
theorem bindC_out {kindOf : Str → Option NameKind} {x : Str} : ∀ {binds : List (Str × Value)} {m : Str → Option Value}, (∀ v, (x, v) ∉ binds) → bindC kindOf binds m x = m x
  | [], _, _ => rfl
  | (n, v) :: r, m, h => by
    unfold bindC
    rw [bindC_out fun w hw => h w (List.mem_cons_of_mem _ hw)]
    split
    · rfl
    · have : x ≠ n := by rintro rfl; exact h v List.mem_cons_self
      simp [this]
theorem bindL_get {kindOf : Str → Option NameKind} {x : Str} {v : Value} : ∀ {P : List Str} {vs : List Value} {i : Nat} {m : Str → Option Value}, P.Nodup → P[i]? = some x → vs[i]? = some v → kindOf x = some .local →
    bindL kindOf (P.zip vs) m x = some v
  | [], _, _, _, _, h, _, _ => by simp at h
  | _ :: _, [], _, _, _, _, h, _ => by simp at h
  | p :: P, w :: vs, 0, m, nd, h1, h2, hk => by
    simp at h1 h2; subst h1; subst h2
    show bindL kindOf ((p, w) :: P.zip vs) m p = _
    unfold bindL
    rw [bindL_out fun v hv => (List.nodup_cons.mp nd).1 (List.of_mem_zip hv).1, if_pos hk]
    simp
  | p :: P, w :: vs, i + 1, m, nd, h1, h2, hk => by
    show bindL kindOf ((p, w) :: P.zip vs) m x = _
    unfold bindL
    exact bindL_get (i := i) (List.nodup_cons.mp nd).2 (by simpa using h1) (by simpa using h2) hk
theorem bindC_get {kindOf : Str → Option NameKind} {x : Str} {v : Value} : ∀ {P : List Str} {vs : List Value} {i : Nat} {m : Str → Option Value}, P.Nodup → P[i]? = some x → vs[i]? = some v → kindOf x ≠ some .local →
    bindC kindOf (P.zip vs) m x = some v
  | [], _, _, _, _, h, _, _ => by simp at h
  | _ :: _, [], _, _, _, _, h, _ => by simp at h
  | p :: P, w :: vs, 0, m, nd, h1, h2, hk => by
    simp at h1 h2; subst h1; subst h2
    show bindC kindOf ((p, w) :: P.zip vs) m p = _
    unfold bindC
    rw [bindC_out fun v hv => (List.nodup_cons.mp nd).1 (List.of_mem_zip hv).1, if_neg hk]
    simp
  | p :: P, w :: vs, i + 1, m, nd, h1, h2, hk => by
    show bindC kindOf ((p, w) :: P.zip vs) m x = _
    unfold bindC
    exact bindC_get (i := i) (List.nodup_cons.mp nd).2 (by simpa using h1) (by simpa using h2) hk

/-- the names' values at the entry -/
def start (N : List Str) (vs : List V) : St := vs.map some ++ List.replicate (N.length - vs.length) none

/-- the context of a def's body, at its entry; an exception leaves the frame, then lies as CX says -/
def cxOf (CX : CXT) (P : Program) (w : World) (K : PySem.W.Frag) (mg : Str → Option Value) (base : Heap) (N : List Str) (qual : Str) (scope : Scope) (f : Addr) (cd : Value) (A : Around) (outer : List Env) (s : Shared) (H : Hp) (E : XK) : Cx where
  prog := P
  w := w
  K := K
  mg := mg
  base := base
  A := A.deeper (envOfC qual scope s.heap.objs.size f cd)
  N := N
  s₀ := s
  H₀ := H
  env := envOfC qual scope s.heap.objs.size f cd
  outer := outer
  stack := envOfC qual scope s.heap.objs.size f cd :: outer
  ex := []
  calm := true
  fn := fun _ => true
  pn := []
  xe := fun e s' => wpAny (model P w) (A.deeper (envOfC qual scope s.heap.objs.size f cd)) (leaving (envOfC qual scope s.heap.objs.size f cd) e) (fun _ s'' => CX outer H s E e s'') (fun e' s'' => CX outer H s E e' s'') s'

theorem cell_has {sc : Scope} {n : Nat} {x : Str} (h : sc.names.lookup x = some .cell) : ∃ c, (cellsFrom n sc.names []).lookup x = some c := by
  have q := PySem.W.cellsFrom_some sc.names n [] (.inl h)
  exact Option.isSome_iff_exists.mp q

theorem inv_start {CX : CXT} {P : Program} {w : World} {K : PySem.W.Frag} {mg : Str → Option Value} {base : Heap} {N ps : List Str} {qual : Str} {scope : Scope} {f : Addr} {cd : Value} {A : Around} {outer : List Env} {s s1 : Shared} {H : Hp} {E : XK} {us : List Value} {vs : List V}
    (S : FnScope N ps scope) (hd : A.handled = none) (e0 : Env0 P w K mg base A outer s H) (hl : vs.length = ps.length) (r : Vals vs us)
    (x : InCallC s s.heap.objs.size (bindL (envOfC qual scope s.heap.objs.size f cd).kindOf (ps.zip us) fun _ => none) (cellsFrom (s.heap.objs.size + 1) scope.names []) (bindC (envOfC qual scope s.heap.objs.size f cd).kindOf (ps.zip us) fun _ => none) s1) :
    Inv (cxOf CX P w K mg base N qual scope f cd A outer s H E) [] (start N vs) H s1 := by
  have hpl : ps.length ≤ N.length := by have := congrArg List.length S.pre; rw [List.length_take] at this; omega
  obtain ⟨h1, tk, rfl, hk⟩ := x.done
  have noA : ∀ b : Addr, b ∉ (cxOf CX P w K mg base N qual scope f cd A outer s H E).ex := fun b z => absurd (show b ∈ ([] : List Addr) from z) (by simp)
  refine ⟨⟨e0.mod, S.kind, rfl, rfl, Nat.le_refl _, fun y z c h1 h2 => ?_, fun y hy => ?_, fun y c _ h => ?_, fun _ => hd, Around.frames_deeper e0.frames, .inr ⟨rfl, rfl⟩, fun b z => absurd z (noA b), e0.bs, e0.bsz, fun b _ _ => noA b, fun b z => absurd z (noA b), e0.funs, e0.frf⟩,
    rfl, e0.bare, Un.kept hk, ⟨_, x.toInCall.ns, fun i y v h1 h2 h3 => ?_⟩, fun y c h => ⟨_, x.cell y c h⟩, e0.hok.fresh (Nat.le_refl _), fun y c h => ?_, fun p hp => absurd (show p ∈ ([] : List (Addr × Obj)) from hp) (by simp), e0.hok.kept hk, ?_⟩
  · exact name_of_addr x.apart (PySem.mem_of_lookup h1) (PySem.mem_of_lookup h2)
  · have hy : scope.names.lookup y = some .cell ∨ scope.names.lookup y = some .free := hy
    rcases hy with hy | hy
    · exact cell_has hy
    · exact absurd rfl (S.nofree _ (PySem.mem_of_lookup hy))
  · exact Nat.le_of_lt (x.above y c (PySem.mem_of_lookup h))
  · have hi : i < vs.length := by
      unfold start at h2
      by_cases hi : i < vs.length
      · exact hi
      · rw [List.getElem?_append_right (by simpa using hi)] at h2
        rw [List.getElem?_replicate] at h2
        split at h2 <;> cases h2
    have ha : vs[i]? = some v := by
      unfold start at h2
      rw [List.getElem?_append_left (by simpa using hi), List.getElem?_map] at h2
      cases e : vs[i]? with
      | none => rw [e] at h2; cases h2
      | some a => rw [e] at h2; cases h2; rfl
    obtain ⟨u, hu, rv⟩ := r.get ha
    have hp : ps[i]? = some y := by
      rw [← S.pre, List.getElem?_take_of_lt (by omega)]; exact h1
    have ndP : ps.Nodup := by rw [← S.pre]; exact S.nd.sublist (List.take_sublist _ _)
    refine ⟨u, rv, ?_⟩
    rcases S.par y (List.mem_of_getElem? hp) with k | k
    · exact .inl ⟨k, bindL_get ndP hp hu k⟩
    · obtain ⟨c, e⟩ := cell_has (n := s.heap.objs.size + 1) k
      refine .inr ⟨.inl k, c, e, ?_⟩
      have q := x.cell y c e
      rw [bindC_get ndP hp hu (by show scope.names.lookup y ≠ _; rw [k]; decide)] at q
      exact q
  · exact e0.hok.fresh (Nat.le_of_lt (x.above y c (PySem.mem_of_lookup h)))
  · unfold start
    show _ = N.length
    rw [List.length_append, List.length_map, List.length_replicate]
    omega

/-- THE RULE: a def (or a method) of the text, by its body. The body's reading t is chosen for each entry; it is run at the parameters' values -/
theorem fn_of {CX : CXT} {P : Program} {w : World} {K : PySem.W.Frag} {mg : Str → Option Value} {base : Heap} {k : Nat} {f : Addr} {name qual : Str} {params : Arguments} {body : List Stmt} {scope : Scope} {dV kV doc pm cdv ct oc : Value} {an od : Option Addr}
    {osl : Array (Option Value)} {N ps : List Str} {sp : Sp} (lk : K.lookup f = some ⟨oc, od, .func (PySem.W.fnOf name qual params body scope dV kV doc pm an cdv ct), osl⟩) (hcd : PySem.W.codeIn K cdv qual = true) (S : FnScope N ps scope)
    (len : ∀ vs H Q E, sp vs H Q E → vs.length = ps.length)
    (hbody : ∀ (A : Around) (outer : List Env) (s : Shared) (H : Hp) (vs : List V) (Q : VK) (E : XK), Room k (A.deeper (envOfC qual scope s.heap.objs.size f cdv)) → sp vs H Q E →
      ∃ t, PSs (cxOf CX P w K mg base N qual scope f cdv A outer s H E) body t ∧ t { nx := fun _ H' => Q .non H', rt := Q } (start N vs) H) :
    FnOk P w K mg base CX (k + 1) f (PySem.W.fnOf name qual params body scope dV kV doc pm an cdv ct) ps sp := by
  refine ⟨len, fun A outer s H args us vs Q E hr e0 hb r hsp => ?_⟩
  have hl := len _ _ _ _ hsp
  have KX : K.In s.heap := e0.mod.kin.keeps fun b o e => (e0.bs b o e).1
  have lim : s.heap.NoLimit := e0.mod.nolimit.keeps fun b o e => (e0.bs b o e).1
  have hkind : ∀ y ∈ ps.zip us, scope.names.lookup y.1 = some .local ∨ (scope.names.lookup y.1 = some .cell ∧ ((cellsFrom (s.heap.objs.size + 1) scope.names []).lookup y.1).isSome = true) := fun ⟨n, v⟩ hy => by
    rcases S.par n (List.of_mem_zip hy).1 with q | q
    · exact .inl q
    · exact .inr ⟨q, PySem.W.cellsFrom_some _ _ _ (.inl q)⟩
  refine codeAny_call_function hr.depth (KX _ _ lk) rfl S.co S.gen rfl (PySem.W.codeRec_of KX hcd) (hb _ _ _ _ ?_)
  refine wpAny_newFunctionEnv_cells S.kind hkind fun env he s1 x => ?_
  subst he
  refine ⟨lim.keeps x.toInCall.keep, codeAny_func ?_⟩
  obtain ⟨t, ht, hq⟩ := hbody A outer s H vs Q E (hr.deeper _) hsp
  have I : Inv (cxOf CX P w K mg base N qual scope f cdv A outer s H E) [] (start N vs) H s1 := inv_start S hr.hd e0 hl r x
  refine wpAny_mono (ht [] s1 (start N vs) H _ I hq) (fun fl s' hs => ?_) fun e s' hs => hs
  have fin : ∀ {σ' : St} {H' : Hp} {v : V} {u : Value}, Inv (cxOf CX P w K mg base N qual scope f cdv A outer s H E) [] σ' H' s' → RelV v u → Q v H' → CE outer P w H s Q u s' :=
    fun {σ' H' v u} J rv q => ⟨v, H', J.os, J.bare, J.base, J.hok, rv, q⟩
  cases fl with
  | ret u =>
    obtain ⟨v, σ', H', J, rv, q⟩ := hs
    exact fin J rv q
  | next =>
    obtain ⟨σ', H', J, q⟩ := hs
    exact fin (v := V.non) (u := Value.none) J rfl q
  | brk =>
    obtain ⟨_, _, _, q⟩ := hs
    exact False.elim q
  | cont =>
    obtain ⟨_, _, _, q⟩ := hs
    exact False.elim q
end L2

namespace L2
open PySem PySem.Spec PyProof.Rows
section
variable {X : Cx} {x : Str} {p pos : Pos} {e : Expr} {es : List Expr} {t : TA} {id T : String} {r : List V → Hp → VK → Prop}

def tCB (r : List V → Hp → VK → Prop) (t : TA) : TE := fun σ H Q => t σ H fun vs H1 => r vs H1 Q
/-- f(e, ..), f a built-in function -/
theorem pe_callB (hc : CallR X (.builtin id) r) (hg : Gl X x) (hm : X.mg x = none) (hv : bootBuiltins x = some (.builtin id)) (ha : PA X (e :: es) t) (hn : x ≠ "__name__" := by decide) (hdb : (x == ("__debug__" : Str)) = false := by decide)
    (he : starEach (e :: es) X.env = (false, eval e X.env) :: starEach es X.env := by rfl) (hpl : (backTo pos (starEach es X.env)).any (·.1) = false := by rfl) : PE X (.Call (.Name x p) (e :: es) [] pos) (tCB r t) := by
  intro pins s σ H Q I h
  refine wpAny_Call_Name_kw (ld_blt I hg hm hv ?_ hn hdb)
  exact PyProof.Rows.callWith_builtin1 (thn (ha pos pins s σ H _ I h) fun us s1 ⟨vs, H1, I1, r1, q1⟩ => hc pins s1 σ H1 vs us Q I1 r1 q1) he hpl
/-- T(e, ..), T a built-in type -/
theorem pe_callTy (hc : CallR X (.type T) r) (hg : Gl X x) (hm : X.mg x = none) (hv : bootBuiltins x = some (.type T)) (ha : PA X (e :: es) t) (hn : x ≠ "__name__" := by decide) (hdb : (x == ("__debug__" : Str)) = false := by decide)
    (he : starEach (e :: es) X.env = (false, eval e X.env) :: starEach es X.env := by rfl) (hpl : (backTo pos (starEach es X.env)).any (·.1) = false := by rfl) : PE X (.Call (.Name x p) (e :: es) [] pos) (tCB r t) := by
  intro pins s σ H Q I h
  refine wpAny_Call_Name_kw (ld_blt I hg hm hv ?_ hn hdb)
  exact PyProof.Rows.callWith_type1 (thn (ha pos pins s σ H _ I h) fun us s1 ⟨vs, H1, I1, r1, q1⟩ => hc pins s1 σ H1 vs us Q I1 r1 q1) he hpl
end
end L2

namespace HT
open PySem PyProof.Rows

section
open PySem.SeqAt
open PySem.AutoSeq1 (wpAny_loadPart')
open PySem.MeetsSeq PySem.MeetsSeq2 PySem.MeetsSeq3

end

section
variable {prog : Program} {w : World} {A : Around} {E : Value → Shared → Prop} {s : Shared}

/-- t + u, t not empty -/
theorem cat_tup {t b : Addr} {vs ws : List Value} {Q : Value → Shared → Prop} (ht : IsTup s.heap t vs.toArray) (hb : IsTup s.heap b ws.toArray) (hv : vs ≠ [])
    (h1 : ws = [] → Q (.ref t) s) (h2 : ws ≠ [] → Q (.ref s.heap.objs.size) { s with heap := s.heap.push { cls := .type "tuple", data := .seq (vs ++ ws).toArray } })
    (hsz : vs.length + ws.length ≤ sizeLine) : wpAny (model prog w) A (binaryOp .Add (.ref t) (.ref b)) Q E s := by
  obtain ⟨⟨cls, dd, data, sl⟩, ho, hc, n, hd⟩ := id ht
  obtain ⟨⟨cls2, dd2, data2, sl2⟩, ho2, hc2, n2, hd2⟩ := id hb
  simp only at hc hd hc2 hd2
  subst hc hd hc2 hd2
  have e : vs.toArray ++ ws.toArray = (vs ++ ws).toArray := by simp
  by_cases hw : ws = []
  · exact concat_meets ⟨_, ho, rfl⟩ ⟨_, ho2, rfl⟩ noFill_tuple_add seq_tuple_add PySem.F.slot_tuple_add PySem.F.entry_tuple_add (PySem.F.args_tuple_add_2 _ _)
      (tuple_addW1 t b vs.toArray ws.toArray n n2 dd dd2 sl sl2 (by simpa using hv) (by simp [hw])) ⟨ho, ho2, h1 hw⟩
  · refine concat_meets ⟨_, ho, rfl⟩ ⟨_, ho2, rfl⟩ noFill_tuple_add seq_tuple_add PySem.F.slot_tuple_add PySem.F.entry_tuple_add (PySem.F.args_tuple_add_2 _ _)
      (tuple_addW2 t b vs.toArray ws.toArray n n2 dd dd2 sl sl2 (by simpa using hv) (by simpa using hw) (by rw [List.size_toArray, List.size_toArray]; exact hsz)) ⟨ho, ho2, ?_⟩
    rw [e]
    exact h2 hw

/-! ### t[a:b], not the whole -/
/-- a slice's bound as a place among n (d where it is left out) -/
def sIx (n d : Nat) : Option Int → Nat
  | none => d
  | some v => if v < 0 then (v + (n : Int)).toNat else min v.toNat n
theorem sIx_nat (n d k : Nat) : sIx n d (some (k : Int)) = min k n := by
  show (if (k : Int) < 0 then ((k : Int) + (n : Int)).toNat else min (k : Int).toNat n) = min k n
  rw [if_neg (by omega), Int.toNat_natCast]
theorem sIx_le (n d : Nat) (hd : d ≤ n) (o : Option Int) : sIx n d o ≤ n := by
  cases o with
  | none => exact hd
  | some v =>
    show (if v < 0 then (v + (n : Int)).toNat else min v.toNat n) ≤ n
    by_cases hv : v < 0
    · rw [if_pos hv]; omega
    · rw [if_neg hv]; exact Nat.min_le_right _ _
theorem clip_eq (v : Int) (n d : Nat) : (if v < 0 then max (v + (n : Int)) 0 else min v (n : Int)) = ((sIx n d (some v) : Nat) : Int) := by
  show (if v < 0 then max (v + (n : Int)) 0 else min v (n : Int)) = (((if v < 0 then (v + (n : Int)).toNat else min v.toNat n) : Nat) : Int)
  by_cases hv : v < 0
  · simp only [if_pos hv]; omega
  · simp only [if_neg hv]; omega
theorem adjust_gen (lo hi : Option Int) (n : Nat) : Builtin.Slice.sliceAdjust lo hi 1 (n : Int) = (((sIx n 0 lo : Nat) : Int), ((sIx n n hi : Nat) : Int)) := by
  have h1 : ¬ ((1 : Int) < 0) := by omega
  unfold Builtin.Slice.sliceAdjust
  simp only [h1, if_false]
  refine Prod.ext ?_ ?_
  · cases lo with
    | none => rfl
    | some v => exact clip_eq v n 0
  · cases hi with
    | none => rfl
    | some v => exact clip_eq v n n
theorem places_gen (i j : Nat) : Builtin.Slice.slicePlaces (i : Int) (j : Int) 1 = j - i := by
  unfold Builtin.Slice.slicePlaces
  have h1 : (1 : Int) > 0 := by omega
  simp only [h1, if_true, Int.ediv_one]
  split <;> omega
theorem slicePart_ {v : Value} {o : Option Int} {Q : Option Int → Shared → Prop} (p : IsPart v o) (h : Q o s) : wpAny (model prog w) A (Builtin.Slice.slicePartIndex v) Q E s := by
  cases p with
  | none => exact slicePart_none h
  | int i t => exact slicePart_int h
theorem sliceApplied_gen {sl : Addr} {vl vu : Value} {lo hi : Option Int} {n : Nat} {Q : Int × Int × Nat → Shared → Prop} (hs : s.heap.IsSliceOf sl vl vu .none) (pl : IsPart vl lo) (pu : IsPart vu hi)
    (h : Q (((sIx n 0 lo : Nat) : Int), 1, sIx n n hi - sIx n 0 lo) s) : wpAny (model prog w) A (Builtin.Slice.sliceApplied (.ref sl) (pure (n : Int))) Q E s := by
  obtain ⟨os, hos, hcs, hds⟩ := id hs
  unfold Builtin.Slice.sliceApplied Builtin.Slice.sliceFields
  refine wpAny_bind (wpAny_bind (wpAny_field hos hds (x := vl) rfl (wpAny_bind (wpAny_field hos hds (x := vu) rfl (wpAny_bind (wpAny_field hos hds (x := .none) rfl (wpAny_pure ?_)))))))
  refine wpAny_bind (slicePart_none ?_)
  show wpAny _ _ (if ((1 : Int) == 0) = true then _ else _) _ _ s
  rw [if_neg (by decide)]
  refine wpAny_bind (slicePart_ pl (wpAny_bind (slicePart_ pu (wpAny_bind (wpAny_pure ?_)))))
  show wpAny _ _ (match Builtin.Slice.sliceAdjust lo hi 1 (n : Int) with | (lo, hi) => pure (lo, (1 : Int), Builtin.Slice.slicePlaces lo hi 1)) _ _ s
  rw [adjust_gen lo hi n]
  show wpAny _ _ (pure (((sIx n 0 lo : Nat) : Int), (1 : Int), Builtin.Slice.slicePlaces ((sIx n 0 lo : Nat) : Int) ((sIx n n hi : Nat) : Int) 1)) _ _ s
  rw [places_gen]
  exact wpAny_pure h
theorem pick_gen (xs : Array Value) (i k : Nat) : ((List.range k).filterMap fun (m : Nat) => xs[((i : Int) + (m : Int) * 1).toNat]?).toArray = ((xs.toList.drop i).take k).toArray := by
  have e : (fun (m : Nat) => xs[((i : Int) + (m : Int) * 1).toNat]?) = fun m => xs[i + m]? := by
    funext m
    have : ((i : Int) + (m : Int) * 1).toNat = i + m := by omega
    rw [this]
  rw [e]
  have := pick_run xs i k
  rw [List.filterMap_map] at this
  have e2 : ((fun x => xs[x]?) ∘ fun x => i + x) = fun m => xs[i + m]? := rfl
  rw [e2] at this
  rw [this]

theorem getItem_tuple_cut {t sl : Addr} {items : Array Value} {vl vu : Value} {lo hi : Option Int} {Q : Value → Shared → Prop} (ht : IsTup s.heap t items) (hs : s.heap.IsSliceOf sl vl vu .none) (pl : IsPart vl lo) (pu : IsPart vu hi)
    (hw : ¬ (sIx items.size 0 lo = 0 ∧ sIx items.size items.size hi = items.size))
    (h : Q (.ref s.heap.objs.size) { s with heap := s.heap.push { cls := .type "tuple", data := .seq ((items.toList.drop (sIx items.size 0 lo)).take (sIx items.size items.size hi - sIx items.size 0 lo)).toArray } })
    (hsz : items.size ≤ sizeLine) : wpAny (model prog w) A (getItem (.ref t) (.ref sl)) Q E s := by
  have htake : sizeOk (.seq ((items.toList.drop (sIx items.size 0 lo)).take (sIx items.size items.size hi - sIx items.size 0 lo)).toArray) := by
    show ((items.toList.drop (sIx items.size 0 lo)).take (sIx items.size items.size hi - sIx items.size 0 lo)).toArray.size ≤ sizeLine
    rw [List.size_toArray, List.length_take, List.length_drop, Array.length_toList]
    omega
  have hj : sIx items.size items.size hi ≤ items.size := sIx_le _ _ (Nat.le_refl _) hi
  obtain ⟨os, hos, hcs, hds⟩ := id hs
  have hTs : s.TypeIs (.ref sl) "slice" := ⟨os, hos, hcs⟩
  unfold getItem
  try with_reducible refine wpAny_holding ?_
  first | refine wpAny_bind (wpAny_pure ?_) | skip
  refine wpAny_bind (wpAny_sequenceKey ht.typeIs (by decide) ?_)
  refine wpAny_bind (wpAny_callSpecial?_slot (name := Str.ofString "__getitem__") ht.typeIs PyProof.Rows.slot_tuple_getitem
    (wpAny_call_entry PyProof.Rows.slot_tuple_getitem ht.typeIs entry_tuple_getitem ?_ (args_tuple_getitem _ _)))
  show wpAny _ _ (Builtin.Tuple.tupleItemsOf (.ref t) >>= _) _ _ s
  refine wpAny_bind (tupleItemsOf_ ht ?_)
  refine wpAny_bind (wpAny_typeOf hTs ?_)
  rw [if_pos (by decide)]
  refine wpAny_bind (sliceApplied_gen hs pl pu ?_)
  have hno : ¬ ((((sIx items.size 0 lo : Nat) : Int) == 0 && (1 : Int) == 1 && (sIx items.size items.size hi - sIx items.size 0 lo) == items.size) = true) := by
    intro q
    rw [Bool.and_eq_true, Bool.and_eq_true] at q
    have q1 : ((sIx items.size 0 lo : Nat) : Int) = 0 := eq_of_beq q.1.1
    have q2 : sIx items.size items.size hi - sIx items.size 0 lo = items.size := eq_of_beq q.2
    exact hw ⟨by omega, by omega⟩
  show wpAny _ _ (if (((sIx items.size 0 lo : Nat) : Int) == 0 && (1 : Int) == 1 && (sIx items.size items.size hi - sIx items.size 0 lo) == items.size) = true then _ else _) _ _ s
  rw [if_neg hno, pick_gen]
  first
    | exact wpAny_bind (m := Builtin.Tuple.tupleExact _) (wpAny_newObj_type (wpAny_pure ⟨_, rfl, wpAny_pure h⟩) htake)
    | exact wpAny_bind (m := Builtin.Tuple.tupleExact _) (wpAny_newObj_type (wpAny_bind (wpAny_pure (wpAny_pure ⟨_, rfl, wpAny_pure h⟩))) htake)
    | exact wpAny_bind (wpAny_bind (m := Builtin.Tuple.tupleExact _) (wpAny_newObj_type (wpAny_pure (wpAny_pure ⟨_, rfl, wpAny_pure h⟩)) htake))
    | exact wpAny_bind (wpAny_bind (m := Builtin.Tuple.tupleExact _) (wpAny_newObj_type (wpAny_pure ⟨_, rfl, wpAny_pure h⟩) htake))
end
end HT

namespace L2
open PySem PySem.Spec PyProof.Rows

/-! ### the parts of a slice -/
abbrev TO := St → Hp → (Option Int → Hp → Prop) → Prop
/-- a slice's part (left out, or an int) -/
def PO (X : Cx) (e : Option Expr) (t : TO) : Prop :=
  ∀ (pins : List (Addr × Obj)) (s : Shared) (σ : St) (H : Hp) (Q : Option Int → Hp → Prop), Inv X pins σ H s → t σ H Q →
    wpAny (model X.prog X.w) X.A (evalPart e X.env) (fun u s' => ∃ o H', Inv X pins σ H' s' ∧ IsPart u o ∧ Q o H') X.xe s
def tNoPart : TO := fun _ H Q => Q none H
def tPart (t : TE) : TO := fun σ H Q => t σ H fun x H1 => ∃ i, x = .int i ∧ Q (some i) H1

theorem intsAre_of {ns : List Int} : ∀ {us : List Value}, Vals (ns.map V.int) us → IntsAre us ns := by
  induction ns with
  | nil => intro us r; rw [List.map_nil] at r; cases r; exact .nil
  | cons n ns ih =>
    intro us r
    rw [List.map_cons] at r
    cases r with
    | cons r1 r2 =>
      obtain ⟨t, e⟩ := r1
      subst e
      exact .cons n t (ih r2)

section
variable {X : Cx} {e : Expr} {te : TE} {lo hi : Option Expr} {tl th : TO} {pos p2 : Pos}

theorem po_none : PO X none tNoPart := by
  intro pins s σ H Q I h
  rw [evalPart_none]
  exact wpAny_pure ⟨none, H, I, .none, h⟩
theorem po_some (h : PE X e te) : PO X (some e) (tPart te) := by
  intro pins s σ H Q I hw
  rw [evalPart_some]
  refine thn (h pins s σ H _ I hw) fun u s1 ⟨x, H1, I1, r1, q1⟩ => ?_
  obtain ⟨i, rfl, q⟩ := q1
  obtain ⟨t, rfl⟩ := r1
  exact ⟨some i, H1, I1, .int i t, q⟩

/-- what a slice of a value is, by values: the slice object stands at sl -/
def SlR (X : Cx) (r : V → Option Int → Option Int → Hp → VK → Prop) : Prop :=
  ∀ (pins : List (Addr × Obj)) (s : Shared) (σ : St) (H : Hp) (x : V) (v vl vu : Value) (lo hi : Option Int) (sl : Addr) (Q : VK), Inv X pins σ H s → RelV x v → s.heap.IsSliceOf sl vl vu .none → IsPart vl lo → IsPart vu hi → r x lo hi H Q →
    ∃ T id, typeLookup (.type T) "__getitem__" = pure (some (.builtin id)) ∧ s.TypeIs v T ∧ wpAny (model X.prog X.w) X.A (getItem v (.ref sl)) (EP X pins σ Q) X.xe s
def tSl (r : V → Option Int → Option Int → Hp → VK → Prop) (te : TE) (tl th : TO) : TE := fun σ H Q => te σ H fun x H1 => tl σ H1 fun l H2 => th σ H2 fun u H3 => r x l u H3 Q
/-- a[lo:hi], any a -/
theorem pe_slice {r : V → Option Int → Option Int → Hp → VK → Prop} (hr : SlR X r) (he : PE X e te) (hl : PO X lo tl) (hu : PO X hi th) : PE X (.Subscript e (.Slice lo hi none p2) pos) (tSl r te tl th) := by
  intro pins s σ H Q I h
  refine Subscript_ (thn (he pins s σ H _ I h) fun v s1 ⟨x, H1, I1, r1, q1⟩ => ?_)
  refine wpAny_Slice (thn (hl pins s1 σ H1 _ I1 q1) fun vl s2 ⟨l, H2, I2, pl, q2⟩ => thn (hu pins s2 σ H2 _ I2 q2) fun vu s3 ⟨u, H3, I3, pu, q3⟩ => ?_)
  rw [evalPart_none]
  refine wpAny_pure ?_
  have I4 : Inv X pins σ H3 { s3 with heap := s3.heap.push { cls := .type "slice", data := .fields #[vl, vu, .none] } } := I3.kept (t' := s3.toks) fun b ob q => Heap.get?_push_of_some _ q
  obtain ⟨T, id, hT, ht, hg⟩ := hr pins { s3 with heap := s3.heap.push { cls := .type "slice", data := .fields #[vl, vu, .none] } } σ H3 x v vl vu l u s3.heap.objs.size Q I4 r1 (Heap.IsSliceOf.new ..) pl pu q3
  show wpAny (model X.prog X.w) X.A (subscriptTail e (.Slice lo hi none p2) v (.ref s3.heap.objs.size)) (EP X pins σ Q) X.xe { s3 with heap := s3.heap.push { cls := .type "slice", data := .fields #[vl, vu, .none] } }
  exact tail_any (ops := [.ref s3.heap.objs.size, v]) ht hT hg (by with_unfolding_all rfl)

/-- the items of xs[lo:hi] -/
def cutV (xs : List V) (lo hi : Option Int) : List V := (xs.drop (HT.sIx xs.length 0 lo)).take (HT.sIx xs.length xs.length hi - HT.sIx xs.length 0 lo)
theorem cutV_length (xs : List V) (lo hi : Option Int) : (cutV xs lo hi).length ≤ xs.length := by
  unfold cutV
  rw [List.length_take, List.length_drop]
  omega
/-- t[lo:hi], not the whole of it (the whole would be t itself) -/
def rSlT (K : PySem.W.Frag) : V → Option Int → Option Int → Hp → VK → Prop := fun x lo hi H Q => ∃ a xs, x = .ref a ∧ SqT K H a xs ∧
  ¬ (HT.sIx xs.length 0 lo = 0 ∧ HT.sIx xs.length xs.length hi = xs.length) ∧ ∀ p, H p = none → Q (.ref p) (upd H p (.tup (cutV xs lo hi)))
theorem sl_tup : SlR X (rSlT X.K) := by
  intro pins s σ H x v vl vu lo hi sl Q I rx hs pl pu h
  obtain ⟨a, xs, rfl, hx, hw, q⟩ := h
  cases rx
  obtain ⟨its, r, ht, hz⟩ := I.tuple hx
  have hlen : its.toArray.size = xs.length := by rw [List.size_toArray]; exact r.length.symm
  refine ⟨"tuple", _, PyProof.Rows.slot_tuple_getitem.lookup, ht.typeIs, ?_⟩
  refine HT.getItem_tuple_cut ht hs pl pu (by rw [hlen]; exact hw) ?_ (by rw [hlen]; exact hz)
  rw [hlen]
  refine ⟨.ref s.heap.objs.size, _, I.laid (t' := s.toks) (o := .tup (cutV xs lo hi)) (fun b ob q => Heap.get?_push_of_some _ q) (Nat.le_refl _) ?_, rfl, q _ (I.hok.fresh (Nat.le_refl _))⟩
  exact ⟨Nat.le_trans (cutV_length xs lo hi) hz, _, (r.drop (HT.sIx xs.length 0 lo)).take (HT.sIx xs.length xs.length hi - HT.sIx xs.length 0 lo), IsTup.new _ _⟩

/-! ### t < u, t + u -/
/-- t + u, t not empty: u empty gives t itself -/
def rCatT (K : PySem.W.Frag) : R2 := fun x y H Q => ∃ a b xs ys, x = .ref a ∧ y = .ref b ∧ SqT K H a xs ∧ SqT K H b ys ∧ xs ≠ [] ∧ xs.length + ys.length ≤ sizeLine ∧
  (ys = [] → Q (.ref a) H) ∧ (ys ≠ [] → ∀ p, H p = none → Q (.ref p) (upd H p (.tup (xs ++ ys))))
theorem Vals.nil_iff {xs : List V} {us : List Value} (r : Vals xs us) : us = [] ↔ xs = [] := by
  cases r with
  | nil => simp
  | cons _ _ => simp
theorem op_catT : OpR X (binaryOp .Add) (rCatT X.K) := by
  intro pins s σ H x y v u Q I rx ry h
  obtain ⟨a, b, xs, ys, rfl, rfl, ha, hb, hx, hz, q1, q2⟩ := h
  cases rx
  cases ry
  obtain ⟨its, r1, p1, _⟩ := I.tuple ha
  obtain ⟨its2, r2, p2, _⟩ := I.tuple hb
  refine HT.cat_tup p1 p2 (fun z => hx (r1.nil_iff.mp z)) (fun z => ⟨.ref a, H, I, rfl, q1 (r2.nil_iff.mp z)⟩) (fun z => ?_) (by rw [← r1.length, ← r2.length]; exact hz)
  refine ⟨.ref s.heap.objs.size, _, I.laid (t' := s.toks) (o := .tup (xs ++ ys)) (fun b ob q => Heap.get?_push_of_some _ q) (Nat.le_refl _) ?_, rfl, q2 (fun w => z (r2.nil_iff.mpr w)) _ (I.hok.fresh (Nat.le_refl _))⟩
  exact ⟨by rw [List.length_append]; exact hz, _, r1.append r2, IsTup.new _ _⟩
end
end L2

namespace L2
open PySem PySem.Spec PyProof.Rows

/-! ### places -/
/-- the place that an index of any sign means -/
def ixN (n : Nat) (i : Int) : Option Nat := if 0 ≤ i then (if i < n then some i.toNat else none) else if -(n : Int) ≤ i then some (i + n).toNat else none
def atI {α : Type} (xs : List α) (i : Int) : Option α := (ixN xs.length i).bind fun j => xs[j]?
theorem ixN_seq {n : Nat} {i : Int} {j : Nat} (h : ixN n i = some j) : seqIndex? i n = some j ∧ j < n ∧ -(n : Int) ≤ i ∧ i < n := by
  unfold ixN at h
  by_cases h0 : 0 ≤ i
  · rw [if_pos h0] at h
    by_cases h1 : i < n
    · rw [if_pos h1] at h
      have e : i.toNat = j := Option.some.inj h
      exact ⟨by rw [seqIndex_of h0 h1, e], by omega, by omega, h1⟩
    · rw [if_neg h1] at h; cases h
  · rw [if_neg h0] at h
    by_cases h1 : -(n : Int) ≤ i
    · rw [if_pos h1] at h
      have e : (i + n).toNat = j := Option.some.inj h
      exact ⟨by rw [seqIndex_neg (by omega) h1, e], by omega, h1, by omega⟩
    · rw [if_neg h1] at h; cases h
theorem atI_get {α : Type} {xs : List α} {i : Int} {v : α} (h : atI xs i = some v) : ∃ j, seqIndex? i xs.length = some j ∧ xs[j]? = some v ∧ j < xs.length ∧ -(xs.length : Int) ≤ i ∧ i < xs.length := by
  unfold atI at h
  cases e : ixN xs.length i with
  | none => rw [e] at h; cases h
  | some j =>
    rw [e] at h
    obtain ⟨h1, h2, h3, h4⟩ := ixN_seq e
    exact ⟨j, h1, h, h2, h3, h4⟩
theorem atI_nat {α : Type} {xs : List α} {j : Nat} {v : α} (h : xs[j]? = some v) : atI xs (j : Int) = some v := by
  have hj : j < xs.length := (List.getElem?_eq_some_iff.mp h).1
  have e : ixN xs.length (j : Int) = some j := by
    unfold ixN
    rw [if_pos (by omega), if_pos (by omega)]; simp
  unfold atI; rw [e]; exact h
theorem atI_last {α : Type} (xs : List α) (v : α) : atI (xs ++ [v]) (-1) = some v := by
  have hl : (xs ++ [v]).length = xs.length + 1 := by simp
  have e : ixN (xs ++ [v]).length (-1) = some xs.length := by
    unfold ixN
    rw [hl, if_neg (by decide), if_pos (by omega)]
    congr 1
    omega
  unfold atI
  rw [e]
  show (xs ++ [v])[xs.length]? = some v
  simp

/-! ### what may be subscripted -/
/-- what stands as an index of a plain subscript -/
def PlainIx (b : Expr) : Prop := ∀ o i, subscripted b false o i = operate [o, i] (getItem o i)
/-- a subscript by values -/
def IxR (X : Cx) (r : R2) : Prop :=
  ∀ (value slice : Expr) (pins : List (Addr × Obj)) (s : Shared) (σ : St) (H : Hp) (x y : V) (v u : Value) (Q : VK), Inv X pins σ H s → RelV x v → RelV y u → r x y H Q →
    subscripted slice false v u = operate [v, u] (getItem v u) → wpAny (model X.prog X.w) X.A (subscriptTail value slice v u) (EP X pins σ Q) X.xe s
/-- a call of a builtin's method by values: the receiver, the arguments -/
def MtR (X : Cx) (id : String) (r : V → List V → Hp → VK → Prop) : Prop :=
  ∀ (pins : List (Addr × Obj)) (s : Shared) (σ : St) (H : Hp) (x : V) (xs : List V) (v : Value) (us : List Value) (Q : VK), Inv X pins σ H s → RelV x v → Vals xs us → r x xs H Q →
    wpAny (model X.prog X.w) X.A (call (.builtin id) (v :: us)) (EP X pins σ Q) X.xe s
section
variable {X : Cx} {a b : Expr} {ta tb : TE} {pos : Pos}
/-- a[b] -/
theorem pe_ix {r : R2} (hr : IxR X r) (ha : PE X a ta) (hb : PE X b tb) (hs : PlainIx b) : PE X (.Subscript a b pos) (tOp r ta tb) := by
  intro pins s σ H Q I h
  exact Subscript_ (binT ha hb I h fun v u s2 x y H2 I2 rx ry q => hr a b pins s2 σ H2 x y v u Q I2 rx ry q (hs _ _))

def rIxL (K : PySem.W.Frag) : R2 := fun x y H Q => ∃ p xs i v, x = .ref p ∧ y = .int i ∧ SqL K H p xs ∧ atI xs i = some v ∧ Q v H
def rIxT (K : PySem.W.Frag) : R2 := fun x y H Q => ∃ p xs i v, x = .ref p ∧ y = .int i ∧ SqT K H p xs ∧ atI xs i = some v ∧ Q v H
theorem ix_list : IxR X (rIxL X.K) := by
  intro value slice pins s σ H x y v u Q I rx ry h hs
  obtain ⟨p, xs, i, z, rfl, rfl, hq, he, q⟩ := h
  cases rx
  obtain ⟨t, rfl⟩ := ry
  obtain ⟨its, r, pl, hz⟩ := I.list hq
  obtain ⟨j, h1, h2, h3, h4, h5⟩ := atI_get he
  obtain ⟨w, ew, rw'⟩ := r.get h2
  have hl := r.length
  have hn := line63
  have fin : EP X pins σ Q w s := ⟨z, H, I, rw', q⟩
  by_cases h0 : 0 ≤ i
  · have hj : i.toNat = j := by
      rw [seqIndex_of h0 h5] at h1
      exact Option.some.inj h1
    exact item_listR pl.isList h0 (by omega) (by rw [hj]; simpa using ew) fin hs
  · have hj : (i + (its.toArray.size : Int)).toNat = j := by
      rw [seqIndex_neg (by omega) h4] at h1
      rw [List.size_toArray, ← hl]
      exact Option.some.inj h1
    exact subscriptTail_builtinR (x := w) pl.isList.typeIs slot_list_getitem.lookup
      (wpAny_getItem_list_neg (Q := fun r s' => r = w ∧ EP X pins σ Q r s') pl.isList (by omega) (by rw [List.size_toArray] <;> omega) (by omega) (by rw [hj]; simpa using ew) ⟨rfl, fin⟩) hs
theorem ix_tup : IxR X (rIxT X.K) := by
  intro value slice pins s σ H x y v u Q I rx ry h hs
  obtain ⟨p, xs, i, z, rfl, rfl, hq, he, q⟩ := h
  cases rx
  obtain ⟨t, rfl⟩ := ry
  obtain ⟨its, r, pl, hz⟩ := I.tuple hq
  obtain ⟨j, h1, h2, h3, h4, h5⟩ := atI_get he
  obtain ⟨w, ew, rw'⟩ := r.get h2
  have hl := r.length
  have hn := line63
  have fin : EP X pins σ Q w s := ⟨z, H, I, rw', q⟩
  exact subscriptTail_builtinR (x := w) pl.typeIs slot_tuple_getitem.lookup
    (getItem_tuple (j := j) (Q := fun r s' => r = w ∧ EP X pins σ Q r s') pl (by omega) (by omega) (by rw [List.size_toArray, ← hl]; exact h1) (by simpa using ew) ⟨rfl, fin⟩) hs
/-! ### xs[i] = v, any sign -/
/-- the list's object behind a store -/
theorem mapSeq_set (its : List Value) (n j : Nat) (u : Value) : Obj.mapSeq (·.setIfInBounds j u) { cls := .type "list", data := .seq its.toArray n } = { cls := .type "list", data := .seq (its.set j u).toArray n } := by
  simp [Obj.mapSeq]
theorem Inv.lst {pins : List (Addr × Obj)} {σ : St} {H : Hp} {s : Shared} {p : Addr} {xs : List V} (I : Inv X pins σ H s) (h : H p = some (.lst xs)) :
    ∃ (its : List Value) (n : Nat), Vals xs its ∧ s.heap.get? p = some { cls := .type "list", data := .seq its.toArray n } ∧ xs.length ≤ sizeLine := by
  obtain ⟨z, its, n, r, e⟩ := I.hok p _ h
  exact ⟨its, n, r, e, z⟩
/-- the list at p is written by an update of its object -/
theorem Inv.lstUpd {pins : List (Addr × Obj)} {σ : St} {H : Hp} {s : Shared} {p : Addr} {xs ys : List V} {its its' : List Value} {n n' : Nat} {f : Obj → Obj} (I : Inv X pins σ H s) (h : H p = some (.lst xs))
    (ho : s.heap.get? p = some { cls := .type "list", data := .seq its.toArray n }) (hf : f { cls := .type "list", data := .seq its.toArray n } = { cls := .type "list", data := .seq its'.toArray n' }) (r : Vals ys its') (hz : ys.length ≤ sizeLine) (t : Nat) :
    Inv X pins σ (upd H p (.lst ys)) { s with heap := s.heap.update p f, toks := t } := by
  have e : (s.heap.update p f).get? p = some { cls := .type "list", data := .seq its'.toArray n' } := by
    rw [Heap.get?_update_self f ho (by rw [hf] <;> rfl), hf]
  refine I.write (x := p) (e := p) (by rw [h]; trivial) (.inl rfl) (fun b u hb q => (Heap.get?_update_other _ _ (Ne.symm hb)).trans q) ⟨_, e⟩ ?_
  exact ⟨hz, its', n', r, e⟩
def rSetL : V → V → V → Hp → (Hp → Prop) → Prop := fun o i v H Q => ∃ p xs k j, o = .ref p ∧ i = .int k ∧ H p = some (.lst xs) ∧ ixN xs.length k = some j ∧ Q (upd H p (.lst (xs.set j v)))
theorem set_list : PSet X rSetL := by
  intro pins s σ H o i v ov iv u Q I ro ri rv h
  obtain ⟨p, xs, k, j, rfl, rfl, hp, hj, q⟩ := h
  cases ro
  obtain ⟨t, rfl⟩ := ri
  obtain ⟨its, n, r, ho, hz⟩ := I.lst hp
  obtain ⟨h1, h2, h3, h4⟩ := ixN_seq hj
  have hl := r.length
  have hn := line63
  have I' : Inv X pins σ (upd H p (.lst (xs.set j v))) { s with heap := s.heap.update p (Obj.mapSeq (·.setIfInBounds j u)) } :=
    I.lstUpd hp ho (mapSeq_set its n j u) (r.set rv j) (by rw [List.length_set]; exact hz) s.toks
  by_cases h0 : 0 ≤ k
  · have hk : k.toNat = j := by
      rw [seqIndex_of h0 h4] at h1
      exact Option.some.inj h1
    exact PySem.W.ki_setAt ho h0 (by omega) (by rw [List.size_toArray, ← hl]; exact h4) (by rw [hk]; exact ⟨_, I', q⟩)
  · have hk : (k + (its.toArray.size : Int)).toNat = j := by
      rw [seqIndex_neg (by omega) h3] at h1
      rw [List.size_toArray, ← hl]
      exact Option.some.inj h1
    exact PySem.W.ki_setBack ho (by omega) (by rw [List.size_toArray, ← hl]; exact h3) (by omega) (by rw [hk]; exact ⟨_, I', q⟩)

/-! ### slices -/
theorem slice_bounds (lo hi : Option Int) (n : Nat) : (sliceBounds lo hi none n).1 = ((HT.sIx n 0 lo : Nat) : Int) ∧ (sliceBounds lo hi none n).2.1 = ((HT.sIx n n hi : Nat) : Int) ∧ (sliceBounds lo hi none n).2.2 = 1 := by
  refine ⟨?_, ?_, rfl⟩
  · cases lo with
    | none => simp [sliceBounds, HT.sIx]
    | some i =>
      simp only [sliceBounds, HT.sIx, Option.getD_none, show (1 : Int) > 0 by decide, if_true]
      by_cases h : i < 0
      · simp only [h, if_true] <;> omega
      · simp only [h, if_false] <;> omega
  · cases hi with
    | none => simp [sliceBounds, HT.sIx]
    | some i =>
      simp only [sliceBounds, HT.sIx, Option.getD_none, show (1 : Int) > 0 by decide, if_true]
      by_cases h : i < 0
      · simp only [h, if_true] <;> omega
      · simp only [h, if_false] <;> omega
theorem slicePick_cut (its : List Value) (lo hi : Option Int) : slicePick its.toArray lo hi none = ((its.drop (HT.sIx its.length 0 lo)).take (HT.sIx its.length its.length hi - HT.sIx its.length 0 lo)).toArray := by
  obtain ⟨h1, h2, h3⟩ := slice_bounds lo hi its.toArray.size
  unfold slicePick
  rw [h1, h2, h3]
  simp only [sliceRange_one, pick_run, List.size_toArray] <;> rfl
/-- xs[lo:hi] of a list: a new list -/
def rSlL (K : PySem.W.Frag) : V → Option Int → Option Int → Hp → VK → Prop := fun x lo hi H Q => ∃ a xs, x = .ref a ∧ SqL K H a xs ∧ ∀ p, H p = none → Q (.ref p) (upd H p (.lst (cutV xs lo hi)))
theorem sl_list : SlR X (rSlL X.K) := by
  intro pins s σ H x v vl vu lo hi sl Q I rx hs pl pu h
  obtain ⟨a, xs, rfl, hx, q⟩ := h
  cases rx
  obtain ⟨its, r, ht, hz⟩ := I.list hx
  have hlen := r.length
  refine ⟨"list", _, slot_list_getitem.lookup, ht.isList.typeIs, ?_⟩
  refine wpAny_getItem_list_slice ht.isList hs pl pu .none (by simp) ?_ (by rw [List.size_toArray] <;> omega)
  rw [slicePick_cut, ← hlen]
  refine ⟨.ref s.heap.objs.size, _, I.laid (t' := s.toks) (o := .lst (cutV xs lo hi)) (fun b ob q => Heap.get?_push_of_some _ q) (Nat.le_refl _) ?_, rfl, q _ (I.hok.fresh (Nat.le_refl _))⟩
  exact ⟨Nat.le_trans (cutV_length xs lo hi) hz, _, 0, (r.drop (HT.sIx xs.length 0 lo)).take (HT.sIx xs.length xs.length hi - HT.sIx xs.length 0 lo), Heap.get?_push_size _ rfl⟩

/-! ### in, not in: flat items -/
def flatV : V → Bool
  | .non => true
  | .bl _ => true
  | .int _ => true
  | .str _ => true
  | _ => false
/-- == of flat values -/
def eqV : V → V → Bool
  | .non, .non => true
  | .bl a, .bl b => a == b
  | .bl a, .int b => (if a then 1 else 0) == b
  | .int a, .bl b => a == (if b then 1 else 0)
  | .int a, .int b => a == b
  | .str a, .str b => a == b
  | _, _ => false
theorem eqAt_V {A : Around} {s : Shared} {y x : V} {u v : Value} (ry : RelV y u) (rx : RelV x v) (fy : flatV y = true) (fx : flatV x = true) : SeqAt.EqAt A s u v (eqV y x) := by
  cases y with
  | non =>
    cases ry
    cases x with
    | non => cases rx; exact SeqAt.EqAt.same _
    | bl b => cases rx; exact SeqAt.EqAt.none_bool b
    | int b => obtain ⟨t, rfl⟩ := rx; exact SeqAt.EqAt.none_int b t
    | str b => obtain ⟨t, rfl⟩ := rx; exact SeqAt.EqAt.none_str b t
    | _ => exact absurd (show false = true from fx) Bool.false_ne_true
  | bl a =>
    cases ry
    cases x with
    | non => cases rx; exact SeqAt.EqAt.bool_none a
    | bl b => cases rx; exact SeqAt.EqAt.bool_bool a b
    | int b => obtain ⟨t, rfl⟩ := rx; exact SeqAt.EqAt.bool_int a b t
    | str b => obtain ⟨t, rfl⟩ := rx; exact SeqAt.EqAt.bool_str a b t
    | _ => exact absurd (show false = true from fx) Bool.false_ne_true
  | int a =>
    obtain ⟨t', rfl⟩ := ry
    cases x with
    | non => cases rx; exact SeqAt.EqAt.int_none a t'
    | bl b => cases rx; exact SeqAt.EqAt.int_bool a t' b
    | int b => obtain ⟨t, rfl⟩ := rx; exact SeqAt.EqAt.int_int a t' b t
    | str b => obtain ⟨t, rfl⟩ := rx; exact SeqAt.EqAt.int_str a t' b t
    | _ => exact absurd (show false = true from fx) Bool.false_ne_true
  | str a =>
    obtain ⟨t', rfl⟩ := ry
    cases x with
    | non => cases rx; exact SeqAt.EqAt.str_none a t'
    | bl b => cases rx; exact SeqAt.EqAt.str_bool a t' b
    | int b => obtain ⟨t, rfl⟩ := rx; exact SeqAt.EqAt.str_int a t' b t
    | str b => obtain ⟨t, rfl⟩ := rx; exact SeqAt.EqAt.str_str a t' b t
    | _ => exact absurd (show false = true from fx) Bool.false_ne_true
  | _ => exact absurd (show false = true from fy) Bool.false_ne_true
/-- the items' answers, read off the values (a value's own answer does not lean on its token) -/
def eqU (x : V) (u : Value) : Bool := match u with
  | .none => eqV .non x
  | .bool b => eqV (.bl b) x
  | .int i _ => eqV (.int i) x
  | .str z _ => eqV (.str z) x
  | _ => false
theorem eqU_of {x y : V} {u : Value} (r : RelV y u) (f : flatV y = true) : eqU x u = eqV y x := by
  cases y with
  | non => cases r; rfl
  | bl b => cases r; rfl
  | int i => obtain ⟨t, rfl⟩ := r; rfl
  | str z => obtain ⟨t, rfl⟩ := r; rfl
  | _ => exact absurd (show false = true from f) Bool.false_ne_true
theorem any_eqU {x : V} : ∀ {xs : List V} {us : List Value}, Vals xs us → xs.all flatV = true → us.any (eqU x) = xs.any fun y => eqV y x
  | _, _, .nil, _ => rfl
  | y :: xs, u :: us, .cons r t, f => by
    rw [List.all_cons, Bool.and_eq_true] at f
    rw [List.any_cons, List.any_cons, eqU_of r f.1, any_eqU t f.2]
theorem mem_eqAt {A : Around} {s : Shared} {x : V} {v : Value} (rx : RelV x v) (fx : flatV x = true) : ∀ {xs : List V} {us : List Value}, Vals xs us → xs.all flatV = true → ∀ u ∈ us, SeqAt.EqAt A s u v (eqU x u)
  | _, _, .nil, _ => fun u hu => by cases hu
  | y :: xs, u :: us, .cons r t, f => fun u' hu => by
    rw [List.all_cons, Bool.and_eq_true] at f
    rcases List.mem_cons.mp hu with rfl | hu
    · rw [eqU_of r f.1]; exact eqAt_V r rx f.1 fx
    · exact mem_eqAt rx fx t f.2 u' hu
def inV (x : V) (xs : List V) : Bool := xs.any fun y => eqV y x
/-- x in a list or tuple of flat items -/
def rIn (K : PySem.W.Frag) (neg : Bool) : R2 := fun x y H Q => ∃ p xs, y = .ref p ∧ (SqL K H p xs ∨ SqT K H p xs) ∧ flatV x = true ∧ xs.all flatV = true ∧ Q (.bl (if neg then !inV x xs else inV x xs)) H
theorem op_in_seq : OpR X (compareOp .In) (rIn X.K false) := by
  intro pins s σ H x y v u Q I rx ry h
  obtain ⟨p, xs, rfl, hq, fx, fs, q⟩ := h
  cases ry
  rcases hq with hq | hq
  · obtain ⟨its, r, pl, hz⟩ := I.list hq
    refine SeqAt.in_listAt (eqU x) pl.isList (fun w hw => mem_eqAt rx fx r fs w (by simpa using hw)) ⟨.bl _, H, I, rfl, ?_⟩
    rw [show its.toArray.any (eqU x) = its.any (eqU x) by simp, any_eqU r fs]
    exact q
  · obtain ⟨its, r, pl, hz⟩ := I.tuple hq
    refine SeqAt.in_tupleAt (eqU x) pl (fun w hw => mem_eqAt rx fx r fs w (by simpa using hw)) ⟨.bl _, H, I, rfl, ?_⟩
    rw [show its.toArray.any (eqU x) = its.any (eqU x) by simp, any_eqU r fs]
    exact q
theorem op_notIn_seq : OpR X (compareOp .NotIn) (rIn X.K true) := by
  intro pins s σ H x y v u Q I rx ry h
  obtain ⟨p, xs, rfl, hq, fx, fs, q⟩ := h
  cases ry
  rcases hq with hq | hq
  · obtain ⟨its, r, pl, hz⟩ := I.list hq
    refine SeqAt.notIn_listAt (eqU x) pl.isList (fun w hw => mem_eqAt rx fx r fs w (by simpa using hw)) ⟨.bl _, H, I, rfl, ?_⟩
    rw [show its.toArray.any (eqU x) = its.any (eqU x) by simp, any_eqU r fs]
    exact q
  · obtain ⟨its, r, pl, hz⟩ := I.tuple hq
    refine SeqAt.notIn_tupleAt (eqU x) pl (fun w hw => mem_eqAt rx fx r fs w (by simpa using hw)) ⟨.bl _, H, I, rfl, ?_⟩
    rw [show its.toArray.any (eqU x) = its.any (eqU x) by simp, any_eqU r fs]
    exact q
/-! ### len, list(x), tuple(x) of any list or tuple that is read -/
theorem call_len_seq : CallR X (.builtin "len") (fun xs H Q => ∃ p ys, xs = [.ref p] ∧ (SqL X.K H p ys ∨ SqT X.K H p ys) ∧ Q (.int ys.length) H) := by
  intro pins s σ H xs us Q I r h
  obtain ⟨p, ys, rfl, hq, q⟩ := h
  obtain ⟨u, rfl, rx⟩ := vals1 r
  cases rx
  have hn := line63
  rcases hq with hq | hq
  · obtain ⟨its, r', pl, hz⟩ := I.list hq
    have hlen := r'.length
    exact Calls.call_len_list pl.isList (by simp only [List.size_toArray] <;> omega) ⟨.int ys.length, H, I.tok _, ⟨s.toks + 1, by rw [List.size_toArray, hlen]⟩, q⟩
  · obtain ⟨its, r', pl, hz⟩ := I.tuple hq
    have hlen := r'.length
    exact len_tuple pl (by simp only [List.size_toArray] <;> omega) ⟨.int ys.length, H, I.tok _, ⟨s.toks + 1, by rw [List.size_toArray, hlen]⟩, q⟩
theorem call_list_of : CallR X (.type "list") (fun xs H Q => ∃ p ys, xs = [.ref p] ∧ (SqL X.K H p ys ∨ SqT X.K H p ys) ∧ ∀ l, H l = none → Q (.ref l) (upd H l (.lst ys))) := by
  intro pins s σ H xs us Q I r h
  obtain ⟨p, ys, rfl, hq, q⟩ := h
  obtain ⟨u, rfl, rx⟩ := vals1 r
  cases rx
  have fin : ∀ (its : List Value), Vals ys its → ys.length ≤ sizeLine → ∀ (h' : Heap) (c' : Nat), (∀ b o', s.heap.get? b = some o' → h'.get? b = some o') →
      h'.get? s.heap.objs.size = some { cls := .type "list", dict := none, data := .seq its.toArray c', slots := #[] } → EP X pins σ Q (.ref s.heap.objs.size) { s with heap := h' } := fun its r' hz h' c' kp e =>
    ⟨.ref s.heap.objs.size, _, I.laid (t' := s.toks) kp (Nat.le_refl _) (show ObjOk X.prog X.w _ h' _ (.lst ys) from ⟨hz, its, c', r', e⟩), rfl, q _ (I.hok.fresh (Nat.le_refl _))⟩
  rcases hq with hq | hq
  · obtain ⟨its, r', pl, hz⟩ := I.list hq
    have hlen := r'.length
    obtain ⟨o, ho, hc, n, hd⟩ := pl.isList
    exact call_list_seq p (.inl rfl) ho hc hd (fun h' c' kp e => fin its r' hz h' c' kp e) (by simp only [List.size_toArray] <;> omega)
  · obtain ⟨its, r', pl, hz⟩ := I.tuple hq
    have hlen := r'.length
    obtain ⟨o, ho, hc, n, hd⟩ := pl
    exact call_list_seq p (.inr rfl) ho hc hd (fun h' c' kp e => fin its r' hz h' c' kp e) (by simp only [List.size_toArray] <;> omega)
theorem call_tuple_of : CallR X (.type "tuple") (fun xs H Q => ∃ p ys, xs = [.ref p] ∧ ((SqL X.K H p ys ∧ ∀ l, H l = none → Q (.ref l) (upd H l (.tup ys))) ∨ (SqT X.K H p ys ∧ Q (.ref p) H))) := by
  intro pins s σ H xs us Q I r h
  obtain ⟨p, ys, rfl, h⟩ := h
  obtain ⟨u, rfl, rx⟩ := vals1 r
  cases rx
  rcases h with ⟨hq, q⟩ | ⟨hq, q⟩
  · obtain ⟨its, r', pl, hz⟩ := I.list hq
    have hlen := r'.length
    refine call_tuple_list pl.isList (fun h' kp => ?_) (by simp only [List.size_toArray] <;> omega)
    have I1 : Inv X pins σ H { s with heap := h' } := I.kept (t' := s.toks) kp
    have I2 : Inv X pins σ (upd H h'.objs.size (.tup ys)) { s with heap := h'.push { cls := .type "tuple", data := .seq its.toArray } } :=
      I1.laid (t' := s.toks) (fun b o e => Heap.get?_push_of_some _ e) (Nat.le_refl _) (show ObjOk X.prog X.w _ _ _ (.tup ys) from ⟨hz, its, r', IsTup.new _ _⟩)
    exact ⟨.ref h'.objs.size, _, I2, rfl, q _ (I1.hok.fresh (Nat.le_refl _))⟩
  · obtain ⟨its, r', pl, hz⟩ := I.tuple hq
    exact call_tuple_same pl ⟨.ref p, H, I, rfl, q⟩

/-! ### the call of a builtin's method: o.m(..) -/
/-- the value is of that builtin type -/
def tyV (K : PySem.W.Frag) (T : String) (x : V) (H : Hp) : Prop := match x with
  | .str _ => T = "str"
  | .int _ => T = "int"
  | .ref p => (T = "list" ∧ ∃ xs, SqL K H p xs) ∨ (T = "tuple" ∧ ∃ o, K.lookup p = some o ∧ o.cls = .type "tuple" ∧ o.dict = none) ∨
      (T = "dict" ∧ ((∃ kvs, H p = some (.dK kvs)) ∨ ∃ kvs, H p = some (.dT kvs))) ∨ (T = "set" ∧ ∃ S n, H p = some (.set S n))
  | _ => False
theorem tyV_is {pins : List (Addr × Obj)} {σ : St} {H : Hp} {s : Shared} {T : String} {x : V} {v : Value} (I : Inv X pins σ H s) (r : RelV x v) (ty : tyV X.K T x H) :
    s.TypeIs v T ∧ ∀ a, v = .ref a → ∃ ob, s.heap.get? a = some ob ∧ ob.dict = none := by
  cases x with
  | str z =>
    obtain ⟨t, rfl⟩ := r
    cases (show T = "str" from ty)
    exact ⟨typeIs_str s z t, fun _ e => nomatch e⟩
  | int i =>
    obtain ⟨t, rfl⟩ := r
    cases (show T = "int" from ty)
    exact ⟨typeIs_int s i t, fun _ e => nomatch e⟩
  | ref p =>
    cases r
    rcases ty with ⟨rfl, xs, hq⟩ | ⟨rfl, o, hk, hc, hd⟩ | ⟨rfl, hk⟩ | ⟨rfl, S, n, hk⟩
    · obtain ⟨its, _, pl, _⟩ := I.list hq
      refine ⟨pl.isList.typeIs, fun a e => ?_⟩
      cases e
      obtain ⟨o, n, e, c, hd, _⟩ := pl
      exact ⟨o, e, hd⟩
    · refine ⟨⟨o, I.kIn p o hk, hc⟩, fun a e => ?_⟩
      cases e
      exact ⟨o, I.kIn _ o hk, hd⟩
    · have z : ∃ o, s.heap.get? p = some o ∧ o.ExactDict := by
        rcases hk with ⟨kvs, hk⟩ | ⟨kvs, hk⟩
        · obtain ⟨_, _, _, _, o, _, _, e, ex, _⟩ := I.hok p _ hk
          exact ⟨o, e, ex⟩
        · obtain ⟨_, _, _, _, o, _, _, e, ex, _⟩ := I.hok p _ hk
          exact ⟨o, e, ex⟩
      obtain ⟨o, e, ex⟩ := z
      refine ⟨⟨o, e, ex.1⟩, fun a e2 => ?_⟩
      cases e2
      exact ⟨o, e, ex.2.1⟩
    · obtain ⟨o, _, _, _, e, ex, _⟩ := I.hok p _ hk
      refine ⟨⟨o, e, ex.1⟩, fun a e2 => ?_⟩
      cases e2
      exact ⟨o, e, ex.2.1⟩
  | _ => exact False.elim ty
def tBM (K : PySem.W.Frag) (T : String) (r : V → List V → Hp → VK → Prop) (to : TE) (t : TA) : TE := fun σ H Q => to σ H fun x H1 => tyV K T x H1 ∧ t σ H1 fun xs H2 => r x xs H2 Q
variable {o e : Expr} {es : List Expr} {to : TE} {t : TA} {name : Str} {apos cpos : Pos} {T id : String} {r : V → List V → Hp → VK → Prop}
theorem pe_bm (pa : PlainAttrs T) (slot : Slot T name id) (hty : typeOf (.builtin id) = pure (.type "method_descriptor")) (hm : MtR X id r) (ho : PE X o to) (ha : PA X (e :: es) t)
    (hbase : attributeBase o name X.env (eval o X.env) = eval o X.env := by rfl)
    (hfew : ((backTo cpos (starEach (e :: es) X.env)).all (fun x => !x.1) && (backToKw cpos (keywordEach [] X.env)).all (fun x => x.1.isSome)
      && decide ((e :: es).length + ([] : List Keyword).length + (if ([] : List Keyword).isEmpty then 0 else 1) < 30)) = true := by rfl)
    (hline : (apos.endLine == cpos.line) = true := by rfl) (hs : starEach (e :: es) X.env = (false, eval e X.env) :: starEach es X.env := by rfl) (hplain : (backTo cpos (starEach es X.env)).any (·.1) = false := by rfl) :
    PE X (.Call (.Attribute o name apos) (e :: es) [] cpos) (tBM X.K T r to t) := by
  intro pins s σ H Q I h
  refine wpAny_Call_method_late hbase hfew hline rfl (thn (ho pins s σ H _ I h) fun v s1 ⟨x, H1, I1, r1, ty, q1⟩ => ?_)
  obtain ⟨h1, h2⟩ := tyV_is I1 r1 ty
  refine ⟨T, id, pa, slot, hty, h1, h2, ?_⟩
  have hA := ha cpos pins s1 σ H1 _ I1 q1
  rw [hs] at hA ⊢
  refine Calls.callWith_builtin (by show (false || (backTo cpos (starEach es X.env)).any (·.1)) = false; rw [hplain] <;> rfl) (Calls.evalArgs_plain ?_)
  exact thn hA fun us s2 ⟨vs, H2, I2, r2, q2⟩ => hm pins s2 σ H2 x vs v us Q I2 r1 r2 q2
/- xs.append(e), list.index on a module's tuple .. are MtR facts of 06m -/
end
end L2

namespace L2
open PySem PySem.Spec PyProof.Rows

def MtM (X : Cx) (id : String) (r : V → List V → Hp → VK → Prop) : Prop :=
  ∀ (pins : List (Addr × Obj)) (s : Shared) (σ : St) (H : Hp) (x : V) (xs : List V) (v : Value) (us : List Value) (Q : VK), Inv X pins σ H s → RelV x v → Vals xs us → r x xs H Q →
    wpAny (model X.prog X.w) X.A (call (.builtin id) (v :: us)) (EP X pins σ Q) X.xe s

/-! ### lists of values -/
theorem Vals.one : ∀ {x : V} {us : List Value}, Vals [x] us → ∃ u, us = [u] ∧ RelV x u
  | _, _, .cons r .nil => ⟨_, rfl, r⟩
theorem Vals.eraseIdx : ∀ {xs : List V} {us : List Value} (i : Nat), Vals xs us → Vals (xs.eraseIdx i) (us.eraseIdx i)
  | _, _, _, .nil => .nil
  | _, _, 0, .cons _ t => t
  | _, _, i + 1, .cons r t => .cons r (Vals.eraseIdx i t)
theorem len_erase {α : Type} : ∀ (l : List α) (i : Nat), (l.eraseIdx i).length ≤ l.length
  | [], _ => Nat.le_refl _
  | _ :: _, 0 => Nat.le_succ _
  | _ :: r, i + 1 => Nat.succ_le_succ (len_erase r i)
section
variable {X : Cx} {pins : List (Addr × Obj)} {σ : St} {H : Hp} {s : Shared} {l b : Addr} {xs ys zs : List V}

/-! ### the two steps: a tracked list is rewritten, a new list is laid -/
theorem Inv.lset {its its' : List Value} {n : Nat} {f : Array Value → Array Value} {t' : Nat} (I : Inv X pins σ H s) (hH : H l = some (.lst xs))
    (e : s.heap.get? l = some { cls := .type "list", data := .seq its.toArray n }) (hf : f its.toArray = its'.toArray) (hv : Vals ys its') (hz : ys.length ≤ sizeLine) :
    Inv X pins σ (upd H l (.lst ys)) { s with heap := s.heap.update l (Obj.mapSeq f), toks := t' } := by
  have q := PySem.IsL.update e f
  rw [hf] at q
  refine I.write (x := l) (e := l) (by rw [hH]; exact trivial) (.inl rfl) (fun b' u hb hu => (Heap.get?_update_other s.heap (Obj.mapSeq f) (Ne.symm hb)).trans hu) ⟨_, q⟩ ?_
  exact ⟨hz, its', _, hv, q⟩
theorem Inv.lnew {its : List Value} {t' : Nat} (I : Inv X pins σ H s) (hv : Vals ys its) (hz : ys.length ≤ sizeLine) :
    Inv X pins σ (upd H s.heap.objs.size (.lst ys)) { s with heap := s.heap.push { cls := .type "list", data := .seq its.toArray }, toks := t' } :=
  I.laid (fun _ _ q => Heap.get?_push_of_some _ q) (Nat.le_refl _) ⟨hz, its, 0, hv, Heap.get?_push_size _ rfl⟩
theorem Inv.fresh (I : Inv X pins σ H s) : H s.heap.objs.size = none := I.hok.fresh (Nat.le_refl _)
theorem Inv.lstM (I : Inv X pins σ H s) (hH : H l = some (.lst xs)) : xs.length ≤ sizeLine ∧ ∃ (its : List Value) (n : Nat), Vals xs its ∧ xs.length = its.length ∧ s.heap.get? l = some { cls := .type "list", data := .seq its.toArray n } := by
  obtain ⟨z, its, n, r, e⟩ := I.hok l _ hH
  exact ⟨z, its, n, r, r.length, e⟩

theorem notLongL {n : Nat} (h : n ≤ sizeLine) : Builtin.List.listTooLong n = false := by
  unfold Builtin.List.listTooLong
  exact decide_eq_false (by omega)
end

section
variable {X : Cx}

/-! ### methods -/
def rAppend : V → List V → Hp → VK → Prop := fun x vs H Q => ∃ l xs y, x = .ref l ∧ vs = [y] ∧ H l = some (.lst xs) ∧ xs.length < sizeLine ∧ Q .non (upd H l (.lst (xs ++ [y])))
theorem mt_append : MtM X "list.append" rAppend := by
  intro pins s σ H x vs v us Q I rx rv h
  obtain ⟨l, xs, y, rfl, rfl, hH, hz, q⟩ := h
  cases rx
  obtain ⟨u, rfl, ru⟩ := rv.one
  obtain ⟨z, its, n, r, hl, e⟩ := I.lstM hH
  refine call_meets F.slot_list_append ⟨_, e, rfl⟩ F.entry_list_append (F.args_list_append_2 _ _) (PySem.list_append l its.toArray n u (by rw [List.size_toArray]; omega)) ⟨e, ?_⟩
  refine ⟨.non, _, I.lset (its' := its ++ [u]) hH e (by simp) (r.append (.cons ru .nil)) ?_, rfl, q⟩
  rw [List.length_append, List.length_singleton]
  omega

def rPopAt : V → List V → Hp → VK → Prop := fun x vs H Q => ∃ l xs i k y, x = .ref l ∧ vs = [.int i] ∧ H l = some (.lst xs) ∧ -(2 ^ 63) ≤ i ∧ i < 2 ^ 63 ∧ seqIndex? i xs.length = some k ∧ xs[k]? = some y ∧ Q y (upd H l (.lst (xs.eraseIdx k)))
theorem mt_popAt : MtM X "list.pop" rPopAt := by
  intro pins s σ H x vs v us Q I rx rv h
  obtain ⟨l, xs, i, k, y, rfl, rfl, hH, h1, h2, hk, hy, q⟩ := h
  cases rx
  obtain ⟨u, rfl, ru⟩ := rv.one
  obtain ⟨t, rfl⟩ := ru
  obtain ⟨z, its, n, r, hl, e⟩ := I.lstM hH
  obtain ⟨w, hw, rw'⟩ := r.get hy
  refine call_meets F.slot_list_pop ⟨_, e, rfl⟩ F.entry_list_pop (F.args_list_pop_2 _ _)
    (MeetsSeq.list_pop_at l its.toArray n i t k w (fitsIndex_both h1 h2) (by rw [List.size_toArray, ← hl]; exact hk) (by rw [← Array.getElem?_toList]; exact hw) (by rw [List.size_toArray]; omega)) ⟨e, ?_⟩
  refine ⟨y, _, I.lset (its' := its.eraseIdx k) hH e ?_ (r.eraseIdx k) ?_, rw', q⟩
  · show its.toArray.eraseIdxIfInBounds k = (its.eraseIdx k).toArray
    rw [List.eraseIdxIfInBounds_toArray]
  · have := len_erase xs k
    omega

/-! ### list + list, list += list, list * int -/
def rCat : R2 := fun x y H Q => ∃ l b xs zs, x = .ref l ∧ y = .ref b ∧ H l = some (.lst xs) ∧ H b = some (.lst zs) ∧ xs.length + zs.length ≤ sizeLine ∧ ∀ p, H p = none → Q (.ref p) (upd H p (.lst (xs ++ zs)))
theorem op_cat : OpR X (binaryOp .Add) rCat := by
  intro pins s σ H x y v u Q I rx ry h
  obtain ⟨l, b, xs, zs, rfl, rfl, hH, hB, hz, q⟩ := h
  cases rx
  cases ry
  obtain ⟨z, its, n, r, hl, e⟩ := I.lstM hH
  obtain ⟨z2, its2, n2, r2, hl2, e2⟩ := I.lstM hB
  refine PySem.P.add_list e e2 ?_ (by rw [List.size_toArray, List.size_toArray]; omega)
  have ea : its.toArray ++ its2.toArray = (its ++ its2).toArray := by simp
  rw [ea]
  exact ⟨.ref _, _, I.lnew (t' := s.toks) (r.append r2) (by rw [List.length_append]; omega), rfl, q _ I.fresh⟩
/-! ### del xs[i] -/
end

/-! ### xs[a:b] = ys -/
section
variable {prog : Program} {w : World} {A : Around} {E : Value → Shared → Prop} {s : Shared}
end

section
variable {X : Cx}
end
end L2

namespace Att
open PySem PySem.W PySem.Calls PyProof.Rows

/-! ### the script -/
theorem ints_of_wellAll {P : Params} {h : Heap} : ∀ (ns : List Int) (vs : List Value), WellAll P h vs (ns.map WData.int) → IntsAre vs ns := by
  intro ns
  induction ns with
  | nil =>
    intro vs w
    rw [List.map_nil] at w
    cases w
    exact .nil
  | cons n ns ih =>
    intro vs w
    rw [List.map_cons] at w
    cases w with
    | cons a b =>
      cases a
      exact .cons _ _ (ih _ b)

theorem script_of {l : OpenLaw} {n : Nat} (hn : l.most = some n) {P : Params} {h : Heap} {args : List WData} {vals : List Value}
    (hpre : l.row.toRowW.claim.pre args = true) (hwl : WellAll P h vals args) :
    ∃ a vs ns, vals = [Value.ref a] ∧ args = [WData.list (ns.map WData.int)] ∧ h.get? a = some { cls := .type "list", data := .seq vs.toArray } ∧ IntsAre vs ns ∧ ns.length ≤ n := by
  have hsh : WShape.hasAll [] args [.list .int] = true := (pre_splitW hpre).1
  have hc : l.pre.holds [] { args := args } = true := (pre_splitW hpre).2
  obtain ⟨d, r, rfl, h1, h2⟩ := hasAllW_cons hsh
  obtain rfl := hasAllW_nil h2
  obtain ⟨xs, rfl, h3⟩ := hasW_list h1
  obtain ⟨ns, rfl⟩ := items_int h3
  have hlen : ns.length ≤ n := by
    unfold OpenLaw.pre at hc
    have h4 : (WTm.not (.lt (.lit (.int (n : Int))) (.len (.arg 0)))).holds [] { args := [.list (ns.map .int)] } = true := by
      have h4 := (holds_andW hc).1
      rw [hn] at h4
      exact h4
    have h5 := condW_of h4 (w_not (w_lt w_lit (w_len_list (w_arg rfl))))
    rw [List.length_map] at h5
    refine Nat.le_of_not_lt fun q => ?_
    have q' : (n : Int) < ((ns.length : Nat) : Int) := by omega
    first
      | (rw [decide_eq_true q'] at h5; exact absurd h5 (by decide))
      | (simp at h5; omega)
  cases hwl with
  | cons w1 w2 =>
    cases w2
    cases w1 with
    | list ho hall => exact ⟨_, _, ns, rfl, rfl, ho, ints_of_wellAll ns _ hall, hlen⟩

theorem post_true (l : OpenLaw) (args : List WData) : l.row.toRowW.claim.post args (.bool true) args = true :=
  postW_of (r := l.row.toRowW) (X := (true == true))
    (show WShape.has [] (.bool true) .bool = true by first | rfl | decide | simp [WShape.has, WShape.arms, WShape.armsAll])
    (show (WTm.eq .res (.lit (.bool true))).value [] { args := args, res := some (.bool true), after := args } = some (.bool (true == true)) from w_eq_bool (w_res rfl) w_lit) rfl

/-! ### the attachment: holds_open's last premise (the goal 'hc' behind k_head) from a wpAny of the law's body -/
/-- the same from a codeAny of the CALL (for a layer whose function contracts speak of calls) -/
theorem attach_call {l : OpenLaw} {n : Nat} {q : Program} {loose : List Str} {XP : (Str → Option Value) → Heap → Prop} {YP : World → Heap → Prop} {d : DefRec}
    (hn : l.most = some n) (hdf : d.params.defaults = [])
    (call : ∀ (w : World) (s₀ s₁ : Shared) (mg mb : Str → Option Value) (fa : Addr) (o : Obj) (pm cd doc : Value) (a : Addr) (vs : List Value) (ns : List Int),
      Ground q loose [] XP w s₀ mg mb s₁.heap → YP w s₁.heap →
      s₁.heap.get? fa = some o → o.data = .func (docDef d.name d.params d.body d.scope pm cd doc) → s₁.heap.CodeRec cd d.name → mg d.name = some (.ref fa) →
      s₁.heap.get? a = some { cls := .type "list", data := .seq vs.toArray } → IntsAre vs ns → ns.length ≤ n → s₁.gens = #[] →
      codeAny (model l.prog w) callerA (.call (.ref fa) ⟨[.ref a], []⟩) (fun r s' => r = .ok (.ret (.bool true)) ∧ OldK s₁.heap s'.heap ∧ s'.os = s₁.os ∧ AllBare s'.gens) s₁) :
    WalkO q loose XP YP l.row.toRowW d [] (fun f vs => PySem.call f vs) := by
  intro w s₀ s₁ mg mb G Y fa o pm cd doc dV kV ho hd hcd hD hmg hg args vals as hpre hlay hrd hwl hlo
  obtain rfl : dV = .none := Dflts.none hD hdf
  obtain rfl : kV = .none := Dflts.noKw hD
  obtain ⟨a, vs, ns, rfl, rfl, hobj, hints, hlen⟩ := script_of hn hpre hwl
  refine enter_call (codeAny_mono (call w s₀ s₁ mg mb fa o pm cd doc a vs ns G Y ho (fd_plain hd) hcd hmg hobj hints hlen hg) fun r s' hq => ?_)
  obtain ⟨rfl, h2, h3, h4⟩ := hq
  exact ⟨.inl ⟨.bool true, .bool true, [], rfl, fun _ => rfl, .bool true, post_true l _, fun _ => ⟨List.Pairwise.nil, fun _ hm => (nomatch hm)⟩⟩, h2, h3, h4⟩

/-! ### rules over ANY heap (no ledger) from facts about the written part K: the library's own take a ledger (News) for what they write -/
section
variable {prog : Program} {w : World} {A : Around} {E : Value → Shared → Prop} {s : Shared} {K : Frag}

/-! the whole heap as the ledger: makes every rule that writes through a ledger a rule over any heap -/
end
end Att

namespace L2
open PySem PySem.Spec PyProof.Rows

theorem vals_ints : ∀ {vs : List Value} {ns : List Int}, IntsAre vs ns → Vals (ns.map V.int) vs
  | _, _, .nil => .nil
  | _, _, .cons n t h => .cons ⟨t, rfl⟩ (vals_ints h)

/-- nothing is tracked but the script, known to the object (or it is an object of the module) -/
def Only (H : Hp) : Prop := ∀ b, H b = none ∨ ∃ o xs, H b = some (.frz o (.lst xs))

/-- THE HEAD: the law's promise, at the heap behind the top. F, the promise of the law's def, may use that base is part of the heap (so K.In base, base.Ns mainGlobals mg stand in Mod) -/
theorem law_call {P : Program} {w : World} {K : PySem.W.Frag} {mg mb : Str → Option Value} {CX : CXT} {k : Nat} {fa a : Addr} {fd : FuncData} {x : Str} {sp : Sp} {s₁ : Shared} {vs : List Value} {ns : List Int}
    (KX : K.In s₁.heap) (hns : s₁.heap.Ns mainGlobals mg) (hb : s₁.heap.Ns builtinsNs mb) (hbb : ∀ x : Str, x ≠ "__name__" → mb x = bootBuiltins x) (hlim : s₁.heap.NoLimit) (hg : s₁.gens = #[])
    (ha : s₁.heap.get? a = some { cls := .type "list", data := .seq vs.toArray }) (hi : IntsAre vs ns) (hl : ns.length ≤ sizeLine) (hr : Room k callerA)
    (F : ∀ base : Heap, K.In base → base.Ns mainGlobals mg → FnOk P w K mg base CX k fa fd [x] sp) (hbind : ∀ (s : Shared) (u : Value), BindsTo s fd ⟨[u], []⟩ [(x, u)])
    (hsp : ∀ H : Hp, Only H → SqL K H a (ns.map V.int) → sp [.ref a] H (fun v _ => v = .bl true) fun _ _ _ => False)
    (hCX : ∀ H e s', CX [] H s₁ (fun _ _ _ => False) e s' → False) :
    codeAny (model P w) callerA (.call (.ref fa) ⟨[.ref a], []⟩) (fun r s' => r = .ok (.ret (.bool true)) ∧ OldK s₁.heap s'.heap ∧ s'.os = s₁.os ∧ AllBare s'.gens) s₁ := by
  have rv := vals_ints hi
  have lenV := hi.length
  -- from an abstract heap in which nothing but the script may be tracked
  have core : ∀ H : Hp, Only H → SqL K H a (ns.map V.int) → HOk P w H s₁.heap → (∀ b, H b ≠ none → b = a) → (H a ≠ none → K.lookup a = none) →
      codeAny (model P w) callerA (.call (.ref fa) ⟨[.ref a], []⟩) (fun r s' => r = .ok (.ret (.bool true)) ∧ OldK s₁.heap s'.heap ∧ s'.os = s₁.os ∧ AllBare s'.gens) s₁ := by
    intro H hO hS hok hA hK
    have base_of : ∀ {b : Addr} {o : Obj}, s₁.heap.get? b = some o → H b = none → (hidT s₁.heap H).get? b = some o := fun e n => hidT_get e n
    have noA : ∀ {b : Addr} {o : Obj} {es : Array DictEntry} {ep : Nat}, s₁.heap.get? b = some o → o.data = .dict es ep → H b = none := fun {b o es ep} e d => by
      cases q : H b with
      | none => rfl
      | some u =>
        have e' : b = a := hA b (by rw [q]; simp)
        subst e'
        rw [ha] at e; cases e
        have d' : Data.seq vs.toArray _ = Data.dict es ep := d
        cases d'
    have nsK : ∀ {b : Addr} {m : Str → Option Value}, s₁.heap.Ns b m → (hidT s₁.heap H).Ns b m := fun {b m} ⟨o, es, ep, e, d, r⟩ => ⟨o, es, ep, base_of e (noA e d), d, r⟩
    have hKb : K.In (hidT s₁.heap H) := fun b o e => base_of (KX b o e) (by
      cases q : H b with
      | none => rfl
      | some u =>
        have e' : b = a := hA b (by rw [q]; simp)
        subst e'
        rw [hK (by rw [q]; simp)] at e; cases e)
    have hM : Mod K mg (hidT s₁.heap H) := ⟨hKb, nsK hns, ⟨mb, nsK hb, hbb⟩, let ⟨mc, h1, h2⟩ := hlim; ⟨mc, nsK h1, h2⟩⟩
    have e0 : Env0 P w K mg (hidT s₁.heap H) callerA [] s₁ H := ⟨rfl, hM, fun b o e => of_hidT e, Nat.le_of_eq (hidT_size _ _), trivial, fun b hb => absurd (show b ∈ ([] : List Addr) from hb) (by simp), hok, .of_eq hg⟩
    refine codeAny_mono ((F _ hKb (nsK hns)).run callerA [] s₁ H ⟨[.ref a], []⟩ [.ref a] [.ref a] _ _ hr e0 (hbind s₁ (.ref a)) (.cons rfl .nil) (hsp H hO hS)) fun r s' h => ?_
    cases r with
    | error e => exact (hCX H e s' h).elim
    | ok fl =>
      cases fl with
      | next => exact False.elim h
      | brk => exact False.elim h
      | cont => exact False.elim h
      | ret u =>
        obtain ⟨v, H', os, bare, un, hok', r', q⟩ := h
        have q' : v = .bl true := q
        subst q'
        obtain rfl : u = Value.bool true := r'
        refine ⟨rfl, OldK.of_keep fun b o e => ?_, os, bare⟩
        cases q : H b with
        | none => exact un.keep b o e q (by intro z; exact absurd (show b ∈ ([] : List Addr) from z) (by simp)) (by simp)
        | some u =>
          rcases hO b with z | ⟨ob, xs, z⟩
          · rw [q] at z; cases z
          · have z2 := un.frzs b ob _ z
            obtain ⟨e1, _⟩ := hok b _ z
            obtain ⟨e2, _⟩ := hok' b _ z2
            rw [e] at e1; cases e1
            exact e2
  cases hk : K.lookup a with
  | some o =>
    -- the script is one of the module's own objects
    have e := KX a o hk
    rw [ha] at e
    cases e
    refine core (fun _ => none) (fun _ => .inl rfl) (.inr ⟨_, vs.toArray, _, hk, rfl, rfl, rfl, by rw [List.size_toArray, lenV]; exact hl, by simpa using rv⟩) (fun b u z => by have z' : (none : Option HO) = some u := z; cases z') (fun b z => absurd rfl z) fun z => absurd rfl z
  | none =>
    refine core (fun b => if b = a then some (.frz { cls := .type "list", data := .seq vs.toArray } (.lst (ns.map V.int))) else none) (fun b => ?_) (.inl (.inr ⟨{ cls := .type "list", data := .seq vs.toArray }, if_pos rfl⟩)) (fun b u z => ?_) (fun b z => ?_) fun _ => hk
    · by_cases hb : b = a
      · exact .inr ⟨_, _, if_pos hb⟩
      · exact .inl (if_neg hb)
    · by_cases hb : b = a
      · have z' := (if_pos hb).symm.trans z
        cases z'
        subst hb
        exact ⟨ha, by rw [List.length_map]; exact hl, vs, _, rv, ha⟩
      · have z' := (if_neg hb).symm.trans z
        cases z'
    · by_cases hb : b = a
      · exact hb
      · exact absurd (if_neg hb) z
end L2

namespace L2
open PySem PySem.Spec PyProof.Rows

abbrev KOf {K : PySem.W.Frag} {h : Heap} (_ : K.In h) : PySem.W.Frag := K

/-- the goal that k_head leaves (case hc), from the law's promise. F gives the function object fd (K's own) once, then the promise over every base -/
theorem walk_of {l : PySem.W.OpenLaw} {n k : Nat} {q : Program} {loose : List Str} {XP : (Str → Option Value) → Heap → Prop} {YP : World → Heap → Prop} {d : DefRec} {K : Params → PySem.W.Frag} {CX : World → CXT} {sp : World → Sp} {x : Str}
    (hn : l.most = some n) (hn2 : n ≤ sizeLine) (hdf : d.params.defaults = []) (hr : Room k callerA)
    (hY : ∀ (w : World) (h : Heap), YP w h → (K w.params).In h)
    (F : ∀ (w : World) (mg : Str → Option Value) (fa : Addr) (h : Heap), (K w.params).In h → h.Ns mainGlobals mg → mg d.name = some (.ref fa) →
      ∃ fd : FuncData, (∀ (s : Shared) (u : Value), BindsTo s fd ⟨[u], []⟩ [(x, u)]) ∧
        ∀ base : Heap, (K w.params).In base → base.Ns mainGlobals mg → FnOk l.prog w (K w.params) mg base (CX w) k fa fd [x] (sp w))
    (hsp : ∀ (w : World) (H : Hp) (a : Addr) (ns : List Int), ns.length ≤ n → Only H → SqL (K w.params) H a (ns.map V.int) → sp w [.ref a] H (fun v _ => v = .bl true) fun _ _ _ => False)
    (hCX : ∀ (w : World) (H : Hp) (s : Shared) (e : Value) (s' : Shared), CX w [] H s (fun _ _ _ => False) e s' → False) :
    PySem.W.WalkO q loose XP YP l.row.toRowW d [] (fun f vs => PySem.call f vs) := by
  refine Att.attach_call hn hdf fun w s₀ s₁ mg mb fa o pm cd doc a vs ns G Y ho hd hcd hmg hobj hints hlen hg => ?_
  have KX := hY w _ Y
  obtain ⟨fd, hb, hF⟩ := F w mg fa _ KX G.T.g hmg
  exact law_call KX G.T.g G.T.b G.T.builtins G.T.nolimit hg hobj hints (Nat.le_trans hlen hn2) hr hF hb (fun H hO hS => hsp w H a ns hlen hO hS) fun H e s' => hCX w H s₁ e s'
end L2

/- THE LAST THEOREM (shape; LID, My.* are yours):
   My.Adr: a structure of the addresses that your layer names (classes, functions); My.Txt K t: a structure (Prop) of the equations over K;
   My.txt_mk : {K} {implicit addresses ..} (e1 : nsIn K mainGlobals "law" = some (some (.ref f))) (e2 : K.lookup f = some ⟨oc, od, .func (fnOf "law" "law" params body scope dV kV doc pm an cdv ct), sl⟩) (e3 : codeIn K cdv "law" = true) .. : ∃ t, My.Txt K t

set_option maxRecDepth 100000 in
set_option maxHeartbeats 0 in
theorem PySem.Challenge.cw_LID_holds : PySem.Challenge.rw_LID.Holds := by
  w_on; o_law; k_head; (case hw => w_witness2)
  k_fill
  refine L2.walk_of (l := PySem.Challenge.rw_LID) (n := 63) (k := 40) (x := "script") (CX := fun w => ..) (sp := fun _ => My.sp_law) rfl (by decide) rfl ⟨rfl, by decide, by decide⟩ (fun w h Y => PySem.W.kIn_of Y) ?F ?S ?C
  case F =>
    intro w mg fa h KX G hmg
    have T : ∃ t, My.Txt (L2.KOf KX) t := by
      dsimp only [L2.KOf]                          -- K must stand as «<heap const> w.params» for k_is
      refine' My.txt_mk ?e1 ?e2 ?e3 ..
      (case e1 => PySem.W.k_is)                    -- in the order: a name -> its address -> its object -> its parts
      (case e2 => PySem.W.k_is)
      ..
    obtain ⟨t, T⟩ := T
    have e0 := hmg.symm.trans (PySem.W.mg_of KX G T.law)
    cases e0                                       -- fa is the law's own address
    exact ⟨_, fun s u => .of_eq rfl, fun base kb nb => My.law_fn T kb nb⟩     -- if «.of_eq rfl» comes too early: refine' ⟨_, ?b, fun base kb nb => My.law_fn T kb nb⟩; exact fun s u => .of_eq rfl
  case S => exact fun w H a ns hl hO hS => ..
  case C => exact ..
(the tactic k_is has no namespace: write k_is) -/

/-! SHORT WORDS over the layer: a def of the text, its body, what a loop and a test want. -/
namespace L2
open PySem PySem.Spec PyProof.Rows

/-! ### the text by places -/
def defArgs (s : Stmt) : Arguments := match s with
  | .FunctionDef _ a _ _ _ _ _ _ _ _ => a
  | _ => { posonlyargs := [], args := [], vararg := none, kwonlyargs := [], kw_defaults := [], kwarg := none, defaults := [] }
def defBody (s : Stmt) : List Stmt := match s with
  | .FunctionDef _ _ b _ _ _ _ _ _ _ => b
  | _ => []
def defScope (s : Stmt) : Scope := match s with
  | .FunctionDef _ _ _ _ _ _ sc _ _ _ => sc
  | _ => { kind := .function, names := [], isGenerator := false, isCoroutine := false }

/-! ### no exception leaves a def -/
abbrev CX0 : CXT := fun _ _ _ _ _ _ => False
abbrev E0 : XK := fun _ _ _ => False
theorem pass0 {X : Cx} : Passes CX0 X E0 := fun _ _ _ _ _ _ _ h => h.elim

/-! ### a def (or method) of the text as it stands behind the top -/
structure Fun (K : PySem.W.Frag) (x qual : Str) (st : Stmt) (f : Addr) (fd : FuncData) : Prop where
  ex : ∃ (oc : Value) (od : Option Addr) (kV doc pm : Value) (an : Option Addr) (cdv ct : Value) (osl : Array (Option Value)),
    fd = PySem.W.fnOf x qual (defArgs st) (defBody st) (defScope st) .none kV doc pm an cdv ct ∧ K.lookup f = some ⟨oc, od, .func fd, osl⟩ ∧ PySem.W.codeIn K cdv qual = true
  kp : PySem.W.keepIn K (.ref f) = true
section
variable {P : Program} {w : World} {K : PySem.W.Frag} {mg : Str → Option Value} {base : Heap}
/-- THE RULE for a def: its body as a term of rules, and the reading of that term -/
theorem Fun.ok {x qual : Str} {st : Stmt} {f : Addr} {fd : FuncData} {N ps : List Str} {k : Nat} {sp : Sp} (F : Fun K x qual st f fd) (S : FnScope N ps (defScope st)) (len : ∀ vs H Q E, sp vs H Q E → vs.length = ps.length)
    (hbody : ∀ (cdv : Value) (A : Around) (outer : List Env) (s : Shared) (H : Hp) (vs : List V) (Q : VK) (E : XK), Room k (A.deeper (envOfC qual (defScope st) s.heap.objs.size f cdv)) → sp vs H Q E →
      ∃ t, PSs (cxOf CX0 P w K mg base N qual (defScope st) f cdv A outer s H E).nox (defBody st) t ∧ t { nx := fun _ H' => Q .non H', rt := Q } (start N vs) H) : FnOk P w K mg base CX0 (k + 1) f fd ps sp := by
  obtain ⟨oc, od, kV, doc, pm, an, cdv, ct, osl, rfl, lk, hcd⟩ := F.ex
  refine fn_of lk hcd S len fun A outer s H vs Q E hr hsp => ?_
  obtain ⟨t, h, q⟩ := hbody cdv A outer s H vs Q E hr hsp
  exact ⟨t, h.nox, q⟩
/-- how its arguments bind (no defaults): h is «fun _ _ _ _ _ _ us hl => match us, hl with | [_, _], _ => rfl», one _ a parameter -/
theorem Fun.binds {x qual : Str} {st : Stmt} {f : Addr} {fd : FuncData} {ps : List Str} (F : Fun K x qual st f fd)
    (h : ∀ (kV doc pm : Value) (an : Option Addr) (cdv ct : Value) (us : List Value), us.length = ps.length → bindArgs (PySem.W.fnOf x qual (defArgs st) (defBody st) (defScope st) .none kV doc pm an cdv ct) ⟨us, []⟩ = pure (ps.zip us)) : Binds K fd ps [] := by
  obtain ⟨oc, od, kV, doc, pm, an, cdv, ct, osl, rfl, lk, hcd⟩ := F.ex
  exact .all (h kV doc pm an cdv ct)
theorem fun_mk {x qual : Str} {st : Stmt} {f : Addr} {oc : Value} {od an : Option Addr} {osl : Array (Option Value)} {kV doc pm cdv ct : Value} (l : K.lookup f = some ⟨oc, od, .func (PySem.W.fnOf x qual (defArgs st) (defBody st) (defScope st) .none kV doc pm an cdv ct), osl⟩)
    (c : PySem.W.codeIn K cdv qual = true) (k : PySem.W.keepIn K (.ref f) = true) : Fun K x qual st f (PySem.W.fnOf x qual (defArgs st) (defBody st) (defScope st) .none kV doc pm an cdv ct) := ⟨⟨oc, od, kV, doc, pm, an, cdv, ct, osl, rfl, l, c⟩, k⟩
end
/-! ### expressions in short: the name that stands in the i-th slot -/
section
variable {X : Cx}
theorem pv (i : Nat) {x : Str} {pos : Pos} (hN : X.N[i]? = some x := by rfl) (hv : Vis X.env.scope x := by first | exact Or.inl rfl | exact Or.inr (Or.inl rfl) | exact Or.inr (Or.inr rfl)) (hd : (x == ("__debug__" : Str)) = false := by decide)
    (hcd : (x == ("__classdict__" : Str)) = false := by decide) : PE X (.Name x pos) (tVar i) := pe_var hN hv hd hcd
end

/-! ### tests -/
theorem iteF {A B : Prop} (h : B) : if false = true then A else B := by
  rw [if_neg Bool.false_ne_true]
  exact h
theorem iteT {A B : Prop} (h : A) : if true = true then A else B := by
  rw [if_pos rfl]
  exact h
theorem ite2 {c A B : Prop} [Decidable c] (h1 : c → A) (h2 : ¬ c → B) : if c then A else B := by
  by_cases h : c
  · rw [if_pos h]
    exact h1 h
  · rw [if_neg h]
    exact h2 h
/-! ### heaps -/
/-- all that was tracked is as it was -/
def Same (H H' : Hp) : Prop := ∀ b o, H b = some o → H' b = some o
theorem Same.refl (H : Hp) : Same H H := fun _ _ h => h
theorem Same.trans {H H1 H2 : Hp} (a : Same H H1) (b : Same H1 H2) : Same H H2 := fun c o h => b c o (a c o h)
theorem Same.free {H H' : Hp} (e : Same H H') {l : Addr} (h : H' l = Option.none) : H l = Option.none := by
  cases q : H l with
  | none => rfl
  | some o =>
    rw [e l o q] at h
    cases h
theorem Same.seq {K : PySem.W.Frag} {H H' : Hp} {a : Addr} {xs : List V} (e : Same H H') (h : SqL K H a xs) : SqL K H' a xs := by
  rcases h with (h | ⟨o, h⟩) | h
  · exact .inl (.inl (e _ _ h))
  · exact .inl (.inr ⟨o, e _ _ h⟩)
  · exact .inr h

end L2

set_option maxHeartbeats 4000000
/-! EvExc: refusals of own classes by hand: raise, a callee's refusal that passes, try with one except clause that names, isinstance of a refusal. Over the hand layer (namespace L2), which stands ahead of it. -/
namespace L2
open PySem PySem.Spec PyProof.Rows

section
variable {X : Cx} {pins : List (Addr × Obj)} {σ : St} {H H' : Hp} {s s' : Shared}
theorem Inv.nopins (I : Inv X pins σ H s) : Inv X [] σ H s := I.pins_of fun p hp => nomatch hp
end

section
variable {P : Program} {w : World} {K : PySem.W.Frag} {mg : Str → Option Value} {base : Heap} {N : List Str} {qual : Str} {scope : Scope} {f : Addr} {cd : Value} {A : Around} {outer : List Env} {s : Shared} {H : Hp} {E : XK}
end
/-! ### raise -/
end L2
/-! EvTry: isinstance of a refusal, except clauses, defs called within an except suite. Behind EvExc. -/
namespace PySem.W
open PySem PySem.Calls PyProof.Rows Builtin Builtin.ObjectAttr Builtin.Getset_descriptor
section
variable {prog : Program} {w : World} {A : Around} {E : Value → Shared → Prop} {s : Shared} {K : Frag} {x C D : Addr} {ox : Obj}
end
end PySem.W

namespace L2
open PySem PySem.Spec PyProof.Rows
/-! ### isinstance by values -/
/-- isinstance(x, c), c one class -/
theorem call_isinst {X : Cx} : CallR X (.builtin "isinstance") (fun xs H Q => ∃ x c t b, xs = [x, c] ∧ TyOf X.K H x t ∧ (∀ u, RelV c u → PySem.W.kitOne X.K t u = some b) ∧ Q (.bl b) H) := by
  intro pins s σ H xs us Q I r h
  obtain ⟨x, c, t, b, rfl, ty, k, q⟩ := h
  obtain ⟨u, w', rfl, r1, r2⟩ := vals2 r
  exact isinst_ok I r1 ty (k _ r2) fun tk => ⟨.bl b, H, I.tok tk, rfl, q⟩
/-! ### try, one clause with a name -/
section
variable {X : Cx} {pins : List (Addr × Obj)} {σ : St} {H : Hp} {s : Shared}
/-- an object that was not tracked is -/
theorem Inv.track {a : Addr} {o : HO} (I : Inv X pins σ H s) (hn : H a = none) (h0 : X.s₀.heap.get? a = none) (hL : a ≠ X.env.locals) (hc : ∀ x c, X.env.cells.lookup x = some c → c ≠ a) (hp : ∀ p ∈ X.pn ++ pins, p.1 ≠ a)
    (new : ObjOk X.prog X.w (upd H a o) s.heap a o) : Inv X pins σ (upd H a o) s := by
  have ne : ∀ b u, H b = some u → b ≠ a := fun b u e => ne_of_none e hn
  refine ⟨I.ok, I.os, I.bare, ⟨I.base.keep, I.base.slot, fun b ob e n hx => ?_, I.base.there, fun b xs e => ?_, fun b ob u e => ?_, fun b ps e => ?_⟩, I.loc, I.cell, ?_, fun x c e => ?_, fun p hp' => ?_, fun b u e => ?_, I.len⟩
  · rw [upd_ne (fun z => by rw [z, h0] at e; cases e)]
    exact I.base.free b ob e n hx
  · have q := I.base.tups b xs e
    rw [upd_ne (ne b _ q)]; exact q
  · have q := I.base.frzs b ob u e
    rw [upd_ne (ne b _ q)]; exact q
  · obtain ⟨m, q⟩ := I.base.tbls b ps e
    exact ⟨m, by rw [upd_ne (ne b _ q)]; exact q⟩
  · rw [upd_ne (Ne.symm hL)]; exact I.free
  · rw [upd_ne (hc x c e)]; exact I.freeC x c e
  · obtain ⟨e, n, r⟩ := I.pin p hp'
    exact ⟨e, by rw [upd_ne (hp p hp')]; exact n, r⟩
  · by_cases hb : b = a
    · subst hb; rw [upd_same] at e; cases e; exact new
    · rw [upd_ne hb] at e
      exact (I.hok b u e).stay (fun _ _ _ q => q) (fun c q => by rw [upd_ne (ne c _ q)]; exact q) fun c xs q => by rw [upd_ne (ne c _ q)]; exact q
end
/-! ### a def that is called within an except suite -/
end L2

namespace L2
open PySem PySem.Spec PyProof.Rows
theorem Inv.big {X : Cx} {pins : List (Addr × Obj)} {σ : St} {H : Hp} {s : Shared} (I : Inv X pins σ H s) : sysModules < s.heap.objs.size := by
  have h : mainGlobals < s.heap.objs.size := (I.mod.glob.keeps I.bk).lt
  exact Nat.lt_trans (by decide) h
theorem dk_empty {P : Program} {w : World} {H : Hp} (h : Heap) (hb : sysModules < h.objs.size) : ObjOk P w H (h.push { cls := .type "dict", data := .dict #[] }) h.objs.size (.dK []) :=
  ⟨Nat.zero_le _, beq_eq_false_iff_ne.mpr (Ne.symm (Nat.ne_of_lt hb)), [], .nil, Heap.DictOf.new h⟩
/-- {}, to be a dict of the kind that is wanted -/
def tDNewK : TE := fun _ H Q => ∀ p, H p = none → Q (.ref p) (upd H p (.dK []))
theorem pe_dnewK {X : Cx} {pos : Pos} : PE X (.Dict [] [] pos) tDNewK := fun pins s σ H Q I h =>
  wpAny_Dict_empty ⟨.ref s.heap.objs.size, _, I.laid (a := s.heap.objs.size) (o := .dK []) (t' := s.toks) (fun _ _ q => Heap.get?_push_of_some _ q) (Nat.le_refl _) (dk_empty s.heap I.big), rfl, h _ (I.hok.fresh (Nat.le_refl _))⟩
end L2
/-! EvStr: f-strings with ints, a while whose test need not be monotone. Behind EvTry. -/
namespace L2
open PySem PySem.Spec PyProof.Rows
/-! ### while -/
def WTurn (Pv : St → Hp → Prop) (mu : St → Hp → Nat) (m : Nat) (tb : TS) (D : Ends) (σ : St) (H1 : Hp) : Prop :=
  ∃ N : St → Hp → Prop, (∀ σ' H', N σ' H' → ∃ m', m' < m ∧ m' = mu σ' H' ∧ Pv σ' H') ∧ tb { D with nx := N, ct := N, bk := D.nx } σ H1
theorem WTurn.of {Pv : St → Hp → Prop} {mu : St → Hp → Nat} {m : Nat} {tb : TS} {D : Ends} {σ : St} {H1 : Hp}
    (h : tb { D with nx := fun σ' H' => Pv σ' H' ∧ mu σ' H' < m, ct := fun σ' H' => Pv σ' H' ∧ mu σ' H' < m, bk := D.nx } σ H1) : WTurn Pv mu m tb D σ H1 :=
  ⟨_, fun σ' H' ⟨p, l⟩ => ⟨_, l, rfl, p⟩, h⟩
theorem while_w {c : TT} {tb : TS} {D : Ends} {σ : St} {H : Hp} (Pv : St → Hp → Prop) (mu : St → Hp → Nat) (h0 : Pv σ H)
    (hs : ∀ m σ H, Pv σ H → m = mu σ H → c σ H fun b H1 => if b = true then WTurn Pv mu m tb D σ H1 else D.nx σ H1) : tWhile c tb D σ H := by
  refine ⟨fun m σ H => m = mu σ H ∧ Pv σ H, ⟨_, rfl, h0⟩, ?_⟩
  rintro m σ H ⟨e, p⟩
  exact hs m σ H p e
/-! ### tests that are known -/
theorem ifT {c A B : Prop} [Decidable c] (h : c) (k : A) : if decide c = true then A else B := by
  rw [if_pos (decide_eq_true h)]
  exact k
theorem ifF {c A B : Prop} [Decidable c] (h : ¬ c) (k : B) : if decide c = true then A else B := by
  rw [if_neg (fun z => h (of_decide_eq_true z))]
  exact k
/-! ### f-strings -/
end L2
/-! EvComp: a list comprehension with one for and at most one if, by hand. Behind EvStr. -/
namespace L2
open PySem PySem.Spec PyProof.Rows
/-! ### the closure -/
theorem cellOf_some {env : Env} {x : Str} {c : Addr} (h : env.cells.lookup x = some c) : cellOf env x = pure c := by
  unfold cellOf
  rw [h]
theorem closure_go {env : Env} : ∀ (names : List (Str × NameKind)) (cs : List (Str × Addr)), (∀ x, (x, NameKind.free) ∈ names → ∃ c, env.cells.lookup x = some c) →
    (∀ x c, cs.lookup x = some c → env.cells.lookup x = some c) →
    ∃ cl : List (Str × Addr), (forIn names cs fun (y : Str × NameKind) (r : List (Str × Addr)) => if (y.2 == .free) = true then (do let c ← cellOf env y.1; pure (ForInStep.yield ((y.1, c) :: r)) : Sem _) else pure (ForInStep.yield r)) = pure cl ∧
      (∀ x c, cl.lookup x = some c → env.cells.lookup x = some c) ∧ (∀ x, ((x, NameKind.free) ∈ names ∨ ∃ c, cs.lookup x = some c) → ∃ c, cl.lookup x = some c)
  | [], cs, _, h2 => ⟨cs, rfl, h2, fun x hx => hx.elim (fun z => nomatch z) id⟩
  | (y, k) :: names, cs, h1, h2 => by
    by_cases hk : k = .free
    · subst hk
      obtain ⟨c, hc⟩ := h1 y (List.mem_cons_self ..)
      obtain ⟨cl, e, a, b⟩ := closure_go names ((y, c) :: cs) (fun x hx => h1 x (List.mem_cons_of_mem _ hx)) (fun x c' hx => by
        rw [List.lookup_cons] at hx
        split at hx
        · rename_i hb
          have hb' : x = y := by simpa using hb
          cases hx
          rw [hb']
          exact hc
        · exact h2 x c' hx)
      refine ⟨cl, ?_, a, fun x hx => b x ?_⟩
      · rw [List.forIn_cons]
        simp only [beq_self_eq_true, if_true, cellOf_some hc]
        exact e
      · rcases hx with hx | ⟨c', hx⟩
        · rcases List.mem_cons.mp hx with z | z
          · cases z
            exact .inr ⟨c, by simp⟩
          · exact .inl z
        · by_cases hb : (x == y) = true
          · exact .inr ⟨c, by rw [List.lookup_cons, hb]⟩
          · exact .inr ⟨c', by rw [List.lookup_cons, Bool.not_eq_true _ |>.mp hb]; exact hx⟩
    · obtain ⟨cl, e, a, b⟩ := closure_go names cs (fun x hx => h1 x (List.mem_cons_of_mem _ hx)) h2
      have hb : (k == NameKind.free) = false := by simpa using hk
      refine ⟨cl, ?_, a, fun x hx => b x ?_⟩
      · rw [List.forIn_cons]
        simp only [hb, Bool.false_eq_true, if_false]
        exact e
      · rcases hx with hx | hx
        · rcases List.mem_cons.mp hx with z | z
          · cases z
            exact absurd rfl hk
          · exact .inl z
        · exact .inr hx
theorem closure_of {scope : Scope} {env : Env} (h : ∀ x, (x, NameKind.free) ∈ scope.names → ∃ c, env.cells.lookup x = some c) :
    ∃ cl, closureFor scope env = pure cl ∧ (∀ x c, cl.lookup x = some c → env.cells.lookup x = some c) ∧ ∀ x, (x, NameKind.free) ∈ scope.names → ∃ c, cl.lookup x = some c := by
  obtain ⟨cl, e, a, b⟩ := closure_go scope.names [] h (fun x c hx => nomatch hx)
  refine ⟨cl, ?_, a, fun x hx => b x (.inl hx)⟩
  refine Eq.trans (b := (forIn scope.names [] fun (y : Str × NameKind) (r : List (Str × Addr)) => if (y.2 == .free) = true then (do let c ← cellOf env y.1; pure (ForInStep.yield ((y.1, c) :: r)) : Sem _) else pure (ForInStep.yield r)) >>= fun r => pure r) rfl ?_
  rw [e]
  rfl
/-! ### the loop -/
section
variable {prog : Program} {w : World} {A : Around} {R : Result → Shared → Prop} {s : Shared}
theorem compLoop_any {elt target iter : Expr} {ifs : List Expr} {scope : Scope} {pos : Pos} {it acc : Value} {env : Env} (I : Nat → Shared → Prop)
    (turn : ∀ n s, I n s → wpAny (model prog w) A (pyNext it) (fun r s1 => match r with
      | none => R (.ok .next) s1
      | some v => wpAny (model prog w) A (letOwnedTupleGo target it v) (fun _ s1' => wpAny (model prog w) A (assign target env v) (fun _ s2 =>
          wpAny (model prog w) A (forIn ifs true fun c r => if r = true then do let ok ← isTrue c env (eval c env); pure (ForInStep.yield ok) else pure (ForInStep.yield r)) (fun ok s3 =>
            if ok = true then wpAny (model prog w) A (eval elt env) (fun x s4 =>
              wpAny (model prog w) A (call (.builtin "list.append") [acc, x]) (fun _ s5 => ∃ m, m < n ∧ I m s5) (fun _ _ => False) s4) (fun _ _ => False) s3
            else ∃ m, m < n ∧ I m s3) (fun _ _ => False) s2) (fun _ _ => False) s1') (fun _ _ => False) s1) (fun _ _ => False) s)
    (n : Nat) (h : I n s) : codeAny (model prog w) A (.compLoop (.ListComp elt [⟨target, iter, ifs, 0⟩] scope pos) 0 it acc env) R s := by
  refine codeAny_loop rfl I (fun n s hI => ?_) n h
  show wpAny _ A ((compTurn (.ListComp elt [⟨target, iter, ifs, 0⟩] scope pos) 0 it acc env).onRaise (fun x => do noteFrame x env; theTreesLotGoes x)) _ _ s
  refine wpAny_noted ?_
  rw [compTurn_list]
  refine wpAny_bind (wpAny_standAt (wpAny_bind (wpAny_mono (turn n s hI) (fun r s1 h1 => ?_) fun _ _ h' => h'.elim)))
  cases r with
  | none => exact wpAny_pure h1
  | some v =>
    refine wpAny_bind (wpAny_mono h1 (fun _ s1' h1' => ?_) fun _ _ h' => h'.elim)
    refine wpAny_bind (wpAny_mono h1' (fun _ s2 h2 => wpAny_bind (wpAny_mono h2 (fun ok s3 h3 => ?_) fun _ _ h' => h'.elim)) fun _ _ h' => h'.elim)
    cases ok with
    | false => exact wpAny_pure ⟨rfl, h3⟩
    | true =>
      exact wpAny_bind (wpAny_bind (wpAny_mono h3 (fun x s4 h4 => wpAny_bind (wpAny_mono h4 (fun _ s5 h5 => wpAny_pure (wpAny_pure ⟨rfl, h5⟩)) fun _ _ h' => h'.elim)) fun _ _ h' => h'.elim))
end
/-! ### the block's context -/
def cxC (X : Cx) (s : Shared) (H : Hp) (scope : Scope) (cl : List (Str × Addr)) (C : Addr) (N : List Str) (fp : List Addr) : Cx where
  prog := X.prog
  w := X.w
  K := X.K
  mg := X.mg
  base := X.base
  A := X.A
  N := N
  s₀ := s
  H₀ := H
  env := compEnvC scope cl C X.env
  outer := X.stack
  stack := X.stack
  ex := fp
  fn := fun x => scope.names.lookup x == some NameKind.cell
  calm := X.calm
  pn := []
  xe := fun _ _ => False
/-- slot i of the block is the outer slot, or the block's own -/
def seen (σ : St) (src : List (Option Nat)) : St := src.map fun o => match o with | some j => (σ[j]?).join | none => none
structure CompScope (X : Cx) (scope : Scope) (N : List Str) (src : List (Option Nat)) : Prop where
  kind : scope.kind = .function
  cells : ∀ y ∈ scope.names, y.2 = .cell → scope.names.lookup y.1 = some .cell
  own : ∀ y ∈ scope.names, y.2 = .local → scope.names.lookup y.1 = some .local
  has : ∀ x, (x, NameKind.free) ∈ scope.names → X.env.kindOf x = some .cell ∨ X.env.kindOf x = some .free
  len : src.length = N.length
  src : ∀ (i j : Nat) (x : Str), src[i]? = some (some j) → N[i]? = some x → X.N[j]? = some x ∧ (x, NameKind.free) ∈ scope.names ∧ scope.names.lookup x = some .free
theorem lookup_relabel_free {env : Env} : ∀ {names : List (Str × NameKind)} {x : Str}, names.lookup x = some .free →
    (names.map fun (n, k) => if (k == NameKind.free && env.scope.kind == .function && env.kindOf n == some .cell) then (n, NameKind.cell) else (n, k)).lookup x = some .cell ∨
    (names.map fun (n, k) => if (k == NameKind.free && env.scope.kind == .function && env.kindOf n == some .cell) then (n, NameKind.cell) else (n, k)).lookup x = some .free
  | [], _, h => by simp at h
  | (n, k) :: r, x, h => by
    have ih := @lookup_relabel_free env r x
    show List.lookup x ((if (k == NameKind.free && env.scope.kind == .function && env.kindOf n == some .cell) = true then (n, NameKind.cell) else (n, k)) :: _) = _ ∨ List.lookup x ((if (k == NameKind.free && env.scope.kind == .function && env.kindOf n == some .cell) = true then (n, NameKind.cell) else (n, k)) :: _) = _
    cases hx : x == n with
    | true =>
      simp only [List.lookup_cons, hx] at h
      cases h
      by_cases hc : (NameKind.free == NameKind.free && env.scope.kind == .function && env.kindOf n == some .cell) = true
      · rw [if_pos hc]; left; simp only [List.lookup_cons, hx]
      · rw [if_neg hc]; right; simp only [List.lookup_cons, hx]
    | false =>
      simp only [List.lookup_cons, hx] at h
      by_cases hc : (k == NameKind.free && env.scope.kind == .function && env.kindOf n == some .cell) = true
      · rw [if_pos hc]; simp only [List.lookup_cons, hx]; exact ih h
      · rw [if_neg hc]; simp only [List.lookup_cons, hx]; exact ih h
/-- a cell or a free name of the block was free in it -/
theorem relabel_cell {env : Env} : ∀ {names : List (Str × NameKind)} {x : Str},
    ((names.map fun (n, k) => if (k == NameKind.free && env.scope.kind == .function && env.kindOf n == some .cell) then (n, NameKind.cell) else (n, k)).lookup x = some .cell ∨
    (names.map fun (n, k) => if (k == NameKind.free && env.scope.kind == .function && env.kindOf n == some .cell) then (n, NameKind.cell) else (n, k)).lookup x = some .free) → (x, NameKind.free) ∈ names ∨ (x, NameKind.cell) ∈ names
  | [], _, h => by simp at h
  | (n, k) :: r, x, h => by
    have ih := @relabel_cell env r x
    change List.lookup x ((if (k == NameKind.free && env.scope.kind == .function && env.kindOf n == some .cell) = true then (n, NameKind.cell) else (n, k)) :: _) = _ ∨ List.lookup x ((if (k == NameKind.free && env.scope.kind == .function && env.kindOf n == some .cell) = true then (n, NameKind.cell) else (n, k)) :: _) = _ at h
    cases hx : x == n with
    | true =>
      have e : x = n := by simpa using hx
      by_cases hc : (k == NameKind.free && env.scope.kind == .function && env.kindOf n == some .cell) = true
      · have hk : k = .free := by
          simp only [Bool.and_eq_true, beq_iff_eq] at hc
          exact hc.1.1
        rw [e, hk]; exact .inl (List.mem_cons_self ..)
      · rw [if_neg hc] at h
        simp only [List.lookup_cons, hx, Option.some.injEq] at h
        rcases h with h | h
        · rw [e, h]; exact .inr (List.mem_cons_self ..)
        · rw [e, h]; exact .inl (List.mem_cons_self ..)
    | false =>
      by_cases hc : (k == NameKind.free && env.scope.kind == .function && env.kindOf n == some .cell) = true
      · rw [if_pos hc] at h; simp only [List.lookup_cons, hx] at h; exact (ih h).imp (List.mem_cons_of_mem _) (List.mem_cons_of_mem _)
      · rw [if_neg hc] at h; simp only [List.lookup_cons, hx] at h; exact (ih h).imp (List.mem_cons_of_mem _) (List.mem_cons_of_mem _)
def Weak (σ σ2 : St) : Prop := σ2.length = σ.length ∧ ∀ (i : Nat) (v : V), σ[i]? = some (some v) → σ2[i]? = some (some v)
theorem Weak.refl (σ : St) : Weak σ σ := ⟨rfl, fun _ _ h => h⟩
theorem Weak.set {σ : St} {i : Nat} {o : Option V} (h : ∀ v, σ[i]? ≠ some (some v)) : Weak σ (σ.set i o) := ⟨by simp, fun j v e => by
  have : i ≠ j := fun z => h v (z ▸ e)
  rw [List.getElem?_set_ne this]
  exact e⟩
theorem Weak.trans {a b c : St} (h : Weak a b) (h' : Weak b c) : Weak a c := ⟨h'.1.trans h.1, fun i v e => h'.2 i v (h.2 i v e)⟩
/-- the tests -/
def PIf (X : Cx) (ifs : List Expr) (t : TT) : Prop := ∀ (pins : List (Addr × Obj)) (s : Shared) (σ : St) (H : Hp) (Q : Bool → Hp → Prop), Inv X pins σ H s → t σ H Q →
  wpAny (model X.prog X.w) X.A (forIn ifs true fun c r => if r = true then do let ok ← isTrue c X.env (eval c X.env); pure (ForInStep.yield ok) else pure (ForInStep.yield r)) (TP X pins σ Q) X.xe s
def tYes : TT := fun _ H Q => Q true H
theorem pif_nil {X : Cx} : PIf X [] tYes := fun _ _ _ H _ I h => wpAny_tests_nil ⟨H, I, h⟩
theorem pif_one {X : Cx} {c : Expr} {t : TT} (h : PT X c t) : PIf X [c] t := fun pins s σ H Q I q => wpAny_tests_one (h pins s σ H Q I q)
def tComp (src : List (Option Nat)) (wi : TI) (g : TG) (tc : TT) (te : TE) : TE := fun σ H Q => wi σ H fun J H1 => ∃ W : Nat → Nat → List V → Hp → Prop, (∃ m, W 0 m [] H1) ∧ ∀ i m ys H2, W i m ys H2 →
  (J.stop i H2 ∧ ys.length ≤ sizeLine ∧ ∀ p, H2 p = none → Q (.ref p) (upd H2 p (.lst ys))) ∨
  (J.go i H2 ∧ ∀ x H3, J.yld i H2 x H3 → g x (seen σ src) H3 fun σ2 H4 => Weak (seen σ src) σ2 ∧ tc σ2 H4 fun b H5 =>
    if b = true then te σ2 H5 fun y H6 => ys.length < sizeLine ∧ ∃ m', m' < m ∧ W (i + 1) m' (ys ++ [y]) H6 else ∃ m', m' < m ∧ W (i + 1) m' ys H5)
theorem cellsFrom_app : ∀ (names : List (Str × NameKind)) (n : Nat) (acc : List (Str × Addr)), cellsFrom n names acc = cellsFrom n names [] ++ acc
  | [], _, acc => rfl
  | (x, k) :: r, n, acc => by
    unfold cellsFrom
    split
    · rw [cellsFrom_app r (n + 1) ((x, n) :: acc), cellsFrom_app r (n + 1) [(x, n)], List.append_assoc]
      rfl
    · exact cellsFrom_app r n acc
theorem cellsFrom_mem : ∀ (names : List (Str × NameKind)) (n : Nat) (acc : List (Str × Addr)) (x : Str) (c : Addr), (x, c) ∈ cellsFrom n names acc → (x, c) ∈ acc ∨ (x, NameKind.cell) ∈ names
  | [], _, _, _, _, h => .inl h
  | (y, k) :: r, n, acc, x, c, h => by
    unfold cellsFrom at h
    split at h
    · rename_i hk
      have hk' : k = .cell := by simpa using hk
      rcases cellsFrom_mem r _ _ x c h with z | z
      · rcases List.mem_cons.mp z with z | z
        · cases z
          exact .inr (hk' ▸ List.mem_cons_self ..)
        · exact .inl z
      · exact .inr (List.mem_cons_of_mem _ z)
    · rcases cellsFrom_mem r _ _ x c h with z | z
      · exact .inl z
      · exact .inr (List.mem_cons_of_mem _ z)
theorem new_around {M : Model} {A : Around} {E : Value → Shared → Prop} {s : Shared} {scope : Scope} {globals : Addr} {cl : List (Str × Addr)} {qual : Str} {env : Env} {Q : Env → Shared → Prop}
    (h : ∀ h', h'.Ns s.heap.objs.size (fun _ => none) → (∀ b o, s.heap.get? b = some o → h'.get? b = some o) → CellsOk h' (s.heap.objs.size + 1) (cellsFrom (s.heap.objs.size + 1) scope.names []) →
      Q { scope, locals := s.heap.objs.size, globals, cells := cellsFrom (s.heap.objs.size + 1) scope.names [] ++ cl, qual, func := none, code := env.code, frame := env.frame, builtins := env.builtins } { s with heap := h' }) :
    wpAny M A (newFunctionEnv scope globals cl [] qual none .none (some env)) Q E s := by
  simp only [newFunctionEnv, Option.isSome_some, if_true]
  refine wpAny_bind (wpAny_alloc ?_)
  refine wpAny_bind (wpAny_layCells _ (fun name kind cells => by cases hkc : kind == NameKind.cell <;> simp [hkc]) _ _ _ _ ?_)
  have ok := cellsFrom_ok scope.names (s.heap.push { cls := .type "dict", data := .dict #[] }) (s.heap.objs.size + 1) [] ⟨fun _ _ hm => (nomatch hm), List.Pairwise.nil⟩ (by rw [Heap.size_push]; exact Nat.le_refl _)
  rw [Heap.size_push] at ok
  rw [show ({ s with heap := s.heap.push { cls := .type "dict", data := .dict #[] } } : Shared).heap.objs.size = s.heap.objs.size + 1 from Heap.size_push .., cellsFrom_app]
  rw [List.forIn_nil]
  exact wpAny_bind (wpAny_pure (wpAny_pure (h _ ((Heap.Ns.new s.heap (.type "dict")).keeps (pushCells_keeps _ _)) (fun b o e => pushCells_keeps _ _ b o (Heap.get?_push_of_some _ e)) ok)))
/-- a comprehension, whatever is done with its list -/
theorem comp_core {X : Cx} {elt tg iter : Expr} {ifs : List Expr} {scope : Scope} {pos pos2 : Pos} {N : List Str} {src : List (Option Nat)} {wi : TI} {g : TG} {tc : TT} {te : TE} {use : Option (Value → Sem Unit)} {Post : Value → Shared → Prop} {pins : List (Addr × Obj)} {s : Shared} {σ : St} {H : Hp} {Q : VK}
    (hc : X.calm = true) (S : CompScope X scope N src) (hi : PI X tg iter wi)
    (hg : ∀ s H cl C fp, PG (cxC X s H scope cl C N fp) tg g) (hf : ∀ s H cl C fp, PIf (cxC X s H scope cl C N fp) ifs tc) (he : ∀ s H cl C fp, PE (cxC X s H scope cl C N fp) elt te)
    (hs : ∀ x, foldedSetIterable iter X.env x = pure x) (I : Inv X pins σ H s) (h : tComp src wi g tc te σ H Q)
    (fin : ∀ (C a : Addr) (H1 : Hp) (s' : Shared), (∀ h', Heap.SameBut C s'.heap h' → Inv X pins σ H1 { s' with heap := h' }) → FpOk X pins H1 C → (∃ m, s'.heap.Ns C m) → Q (.ref a) H1 → compPost (model X.prog X.w) X.A X.xe use Post (.ref a) C (.ok .next) s') :
    wpAny (model X.prog X.w) X.A (comprehension (.ListComp elt [⟨tg, iter, ifs, 0⟩] scope pos) scope X.env pos2 (newList []) false (eval iter X.env) use) Post X.xe s := by
  obtain ⟨cl, hcl, cl1, cl2⟩ := closure_of (scope := scope) (env := X.env) (fun x hx => I.ok.has x (S.has x hx))
  refine wpAny_comprehension_free (use := use) rfl hs hcl S.kind S.own (thn (hi pins s σ H _ I h) fun v s1 h1 => thn h1 fun itv s2 h2 => ?_)
  obtain ⟨it, fp, tn, J, H2, rfl, I2, T, st2, f2, W, ⟨m0, w0⟩, turn⟩ := h2
  refine wpAny_newObj_type (new_around fun h3 hns hsb cok => ?_)
  dsimp only at hns hsb cok ⊢
  generalize hHd : s2.heap.push { cls := .type "list", dict := none, data := .seq ([] : List Value).toArray } = Hd at hns hsb cok ⊢
  have hCs : Hd.objs.size = s2.heap.objs.size + 1 := by rw [← hHd, Heap.size_push]
  have hDC : s2.heap.objs.size ≠ Hd.objs.size := by rw [hCs]; exact Nat.ne_of_lt (Nat.lt_succ_self _)
  have below : ∀ b, b < s2.heap.objs.size → b ≠ Hd.objs.size ∧ b ≠ s2.heap.objs.size := fun b hb => ⟨by rw [hCs]; exact Nat.ne_of_lt (Nat.lt_succ_of_lt hb), Nat.ne_of_lt hb⟩
  have old : ∀ b o, s2.heap.get? b = some o → h3.get? b = some o := fun b o e => hsb b o (hHd ▸ Heap.get?_push_of_some _ e)
  have hacc : h3.get? s2.heap.objs.size = some { cls := .type "list", dict := none, data := .seq ([] : List Value).toArray } := hsb _ _ (hHd ▸ Heap.get?_push_size _ rfl)
  have fpObj := T.obj 0 _ st2
  have fpLt : ∀ b ∈ fp, b < s2.heap.objs.size := fun b hb => by
    obtain ⟨o, e, _⟩ := fpObj b hb
    exact Heap.lt_size e
  generalize hown : cellsFrom (Hd.objs.size + 1) scope.names [] = own at cok ⊢
  have ownC : ∀ x c, (x, c) ∈ own → scope.names.lookup x = some .cell := fun x c hm => by
    rw [← hown] at hm
    rcases cellsFrom_mem _ _ _ _ _ hm with z | z
    · exact nomatch z
    · exact S.cells _ z rfl
  have two : ∀ x c, (own ++ cl).lookup x = some c → (cl.lookup x = some c ∧ c < s2.heap.objs.size) ∨ ((x, c) ∈ own ∧ h3.IsCell c none ∧ Hd.objs.size < c) := fun x c e => by
    rw [List.lookup_append] at e
    cases ho : own.lookup x with
    | none =>
      rw [ho, Option.none_or] at e
      obtain ⟨v, q⟩ := I2.cell x c (cl1 x c e)
      exact .inl ⟨e, q.lt⟩
    | some c' =>
      rw [ho, Option.some_or] at e
      cases e
      have hm := mem_of_lookup ho
      exact .inr ⟨hm, (cok.empty x c hm).1, (cok.empty x c hm).2⟩
  have cellNe : ∀ x c, (own ++ cl).lookup x = some c → c ≠ s2.heap.objs.size ∧ ∀ b ∈ fp, c ≠ b := fun x c e => by
    rcases two x c e with ⟨e, lt⟩ | ⟨_, _, lt⟩
    · exact ⟨Nat.ne_of_lt lt, fun b hb => (f2 b hb).2.2.2.2.1 x c (cl1 x c e)⟩
    · rw [hCs] at lt
      exact ⟨Nat.ne_of_gt (Nat.lt_trans (Nat.lt_succ_self _) lt), fun b hb => Nat.ne_of_gt (Nat.lt_trans (fpLt b hb) (Nat.lt_trans (Nat.lt_succ_self _) lt))⟩
  have fresh : ∀ a, s2.heap.objs.size ≤ a → s2.heap.get? a = none := fun a ha => by
    cases e : s2.heap.get? a with
    | none => rfl
    | some o' => exact absurd (Heap.lt_size e) (Nat.not_lt.mpr ha)
  -- the context
  have okY : (cxC X s2 H2 scope (own ++ cl) Hd.objs.size N fp).Ok := by
    refine ⟨I2.ok.mod, S.kind, I2.ok.glob, I2.ok.blt, ?_, ?_, ?_, ?_, fun hcc => I2.ok.hd hcc, I2.ok.frames, .inl rfl, fun b hb => ⟨(below b (fpLt b hb)).1, fun x c e => (cellNe x c e).2 b hb⟩,
      I2.bs, Nat.le_trans I2.ok.bsz I2.sz, fun b o e hb => ?_, fun b hb z => (List.mem_cons.mp (I2.stkSub b z)).elim (f2 b hb).2.1 (f2 b hb).2.2.1, I2.stack, I2.stkFree⟩
    · show s2.heap.objs.size ≤ Hd.objs.size
      rw [hCs]; exact Nat.le_succ _
    · intro x y c e1 e2
      rcases two x c e1 with ⟨e1, l1⟩ | ⟨m1, _, l1⟩ <;> rcases two y c e2 with ⟨e2, l2⟩ | ⟨m2, _, l2⟩
      · exact I2.ok.inj x y c (cl1 x c e1) (cl1 y c e2)
      · rw [hCs] at l2; exact absurd (Nat.lt_trans l1 (Nat.lt_trans (Nat.lt_succ_self _) l2)) (Nat.lt_irrefl _)
      · rw [hCs] at l1; exact absurd (Nat.lt_trans l2 (Nat.lt_trans (Nat.lt_succ_self _) l1)) (Nat.lt_irrefl _)
      · exact name_of_addr cok.apart m1 m2
    · intro x hx
      show ∃ c, (own ++ cl).lookup x = some c
      rw [List.lookup_append]
      cases ho : own.lookup x with
      | some c => exact ⟨c, rfl⟩
      | none =>
        rw [Option.none_or]
        rcases relabel_cell hx with z | z
        · exact cl2 x z
        · have := PySem.W.cellsFrom_some scope.names (Hd.objs.size + 1) [] (.inl (S.cells _ z rfl))
          rw [hown, ho] at this
          cases this
    · intro x c hf e
      have hf' : scope.names.lookup x = some .cell := by simpa [cxC] using hf
      have := PySem.W.cellsFrom_some scope.names (Hd.objs.size + 1) [] (.inl hf')
      rw [hown] at this
      obtain ⟨c', ho⟩ := Option.isSome_iff_exists.mp this
      have e' : (own ++ cl).lookup x = some c := e
      rw [List.lookup_append, ho, Option.some_or] at e'
      cases e'
      have := (cok.empty x c (mem_of_lookup ho)).2
      show s2.heap.objs.size ≤ c
      rw [hCs] at this
      omega
    · rcases (f2 b hb).2.2.2.1 with z | z
      · exact I2.ok.noex b o e z
      · exact absurd (Nat.lt_of_lt_of_le (Heap.lt_size e) (Nat.le_trans I2.ok.bsz z)) (Nat.lt_irrefl _)
  have IY : Inv (cxC X s2 H2 scope (own ++ cl) Hd.objs.size N fp) [] (seen σ src) H2 { s2 with heap := h3 } := by
    refine ⟨okY, rfl, I2.bare, Un.kept old, ⟨_, hns, fun i x v e1 e2 _ => ?_⟩, fun x c e => ?_, I2.hok.fresh (by show s2.heap.objs.size ≤ Hd.objs.size; rw [hCs]; exact Nat.le_succ _), ?_, fun p hp => (nomatch hp), I2.hok.kept old, ?_⟩
    · unfold seen at e2
      rw [List.getElem?_map] at e2
      cases hsr : src[i]? with
      | none => rw [hsr] at e2; cases e2
      | some oj =>
        rw [hsr] at e2
        cases oj with
        | none => cases e2
        | some j =>
          obtain ⟨hN, hfr, hlk⟩ := S.src i j x hsr e1
          have e3 : σ[j]? = some (some v) := by
            have : (σ[j]?).join = some v := Option.some.inj e2
            cases hj : σ[j]? with
            | none => rw [hj] at this; cases this
            | some o => rw [hj] at this; cases this; rfl
          have hk := S.has x hfr
          have vis : Vis X.env.scope x := by
            rcases hk with z | z
            · exact .inr (.inl z)
            · exact .inr (.inr z)
          obtain ⟨m, hnm, hl⟩ := I2.loc
          obtain ⟨u, r, l⟩ := hl j x v hN e3 vis
          refine ⟨u, r, .inr ⟨lookup_relabel_free hlk, ?_⟩⟩
          rcases l with ⟨l1, _⟩ | ⟨_, c, ec, ic⟩
          · rcases hk with z | z <;> (rw [l1] at z; cases z)
          · obtain ⟨c', ec'⟩ := cl2 x hfr
            have := cl1 x c' ec'
            rw [ec] at this
            cases this
            obtain ⟨o, ho, hd⟩ := ic
            have hno : own.lookup x = none := by
              cases ho : own.lookup x with
              | none => rfl
              | some c2 =>
                have := ownC x c2 (mem_of_lookup ho)
                rw [hlk] at this
                cases this
            exact ⟨c, by show (own ++ cl).lookup x = some c; rw [List.lookup_append, hno, Option.none_or]; exact ec', o, old _ _ ho, hd⟩
    · rcases two x c e with ⟨e, _⟩ | ⟨_, q, _⟩
      · obtain ⟨v, o, ho, hd⟩ := I2.cell x c (cl1 x c e)
        exact ⟨v, o, old _ _ ho, hd⟩
      · exact ⟨none, q⟩
    · intro x c e
      rcases two x c e with ⟨e, _⟩ | ⟨_, _, lt⟩
      · exact I2.freeC x c (cl1 x c e)
      · exact I2.hok.fresh (by rw [hCs] at lt; omega)
    · show (seen σ src).length = N.length
      unfold seen
      rw [List.length_map, S.len]
  have dFs : s2.heap.objs.size ∉ frs X.stack := fun z => by
    obtain ⟨_, o, ho, _⟩ := I2.stack.mem z
    exact absurd (Heap.lt_size ho) (Nat.lt_irrefl _)
  have cFs : Hd.objs.size ∉ frs X.stack := fun z => by
    obtain ⟨_, o, ho, _⟩ := I2.stack.mem z
    have z2 := Heap.lt_size ho
    rw [hCs] at z2
    exact absurd z2 (Nat.not_lt.mpr (Nat.le_succ _))
  have stat : ∀ {H' : Hp} {pn : List (Addr × Obj)}, (∀ b ∈ fp, H' b = none) → (∀ p ∈ pn, p.1 = s2.heap.objs.size) → ∀ b ∈ fp, FpOk (cxC X s2 H2 scope (own ++ cl) Hd.objs.size N fp) pn H' b := fun hn hp b hb =>
    ⟨hn b hb, (below b (fpLt b hb)).1, okY.exfs b hb, .inl hb, fun x c e => (cellNe x c e).2 b hb, fun p q z => (below b (fpLt b hb)).2 (z ▸ hp p q)⟩
  have loop : ∀ sA : Shared, sA = { s2 with heap := h3 } →
      codeAny (model X.prog X.w) X.A (.compLoop (.ListComp elt [⟨tg, iter, ifs, 0⟩] scope pos) 0 (.ref it) (.ref s2.heap.objs.size) (compEnvC scope (own ++ cl) Hd.objs.size X.env))
        (compPost (model X.prog X.w) X.A X.xe use Post (.ref s2.heap.objs.size) Hd.objs.size) sA := by
    rintro sA rfl
    refine compLoop_any (fun n s' => ∃ (i : Nat) (ys : List V) (its : List Value) (k : Nat) (σ3 : St) (H3 : Hp), Inv (cxC X s2 H2 scope (own ++ cl) Hd.objs.size N fp) [] σ3 H3 s' ∧ Weak (seen σ src) σ3 ∧ tn i s'.heap ∧ (∀ b ∈ fp, H3 b = none) ∧ W i n ys H3 ∧
        s'.heap.get? s2.heap.objs.size = some { cls := .type "list", data := .seq its.toArray k } ∧ Vals ys its ∧ H3 s2.heap.objs.size = none) ?_ m0
      ⟨0, [], [], 0, _, H2, IY, Weak.refl _, T.keep 0 _ _ st2 (fun b hb o e => old b o e), fun b hb => (f2 b hb).1, w0, hacc, .nil, I2.fresh⟩
    rintro n s3 ⟨i, ys, its, k, σ3, H3, I3, wk, st3, fr3, w3, hD, rv, nD⟩
    have I4 : Inv (cxC X s2 H2 scope (own ++ cl) Hd.objs.size N fp) [] (seen σ src) H3 s3 := I3.weak wk.1.symm wk.2
    have I5 : Inv (cxC X s2 H2 scope (own ++ cl) Hd.objs.size N fp) [(s2.heap.objs.size, { cls := .type "list", data := .seq its.toArray k })] (seen σ src) H3 s3 := I4.pins_of fun p hp => by
      cases List.mem_singleton.mp hp
      exact ⟨hD, nD, hDC, dFs, fun v z => nomatch z⟩
    have one : ∀ p ∈ [((s2.heap.objs.size, { cls := .type "list", data := .seq its.toArray k }) : Addr × Obj)], p.1 = s2.heap.objs.size := fun p hp => by
      cases List.mem_singleton.mp hp
      rfl
    rcases turn i n ys H3 w3 with ⟨stop, hlen, q⟩ | ⟨go, step⟩
    · refine thn (T.done (cxC X s2 H2 scope (own ++ cl) Hd.objs.size N fp) rfl rfl rfl hc i _ s3 _ H3 _ I5 (stat fr3 one) st3 stop) fun r s4 ⟨hr, I6⟩ => ?_
      subst hr
      have hD4 := (I6.pin _ (List.mem_append_right _ (List.mem_singleton.mpr rfl))).1
      obtain ⟨m, hn4, _⟩ := I6.loc
      refine fin Hd.objs.size s2.heap.objs.size (upd H3 s2.heap.objs.size (.lst ys)) s4 (fun h' hsb' => ?_) (I2.fpOk (by rw [hCs]; exact Nat.le_succ _) (by rw [upd_ne (Ne.symm hDC)]; exact I6.free)) ⟨m, hn4⟩ (q _ nD)
      have kp : ∀ b o, b ≠ Hd.objs.size → s4.heap.get? b = some o → h'.get? b = some o := fun b o hb e => (hsb'.2 b hb).trans e
      have neC : ∀ b o, s2.heap.get? b = some o → b ≠ Hd.objs.size := fun b o e => (below b (Heap.lt_size e)).1
      have un : Un (frs X.stack) fp H2 H3 s2.heap h' := by
        have u0 : Un (frs X.stack) fp H2 H3 s2.heap s4.heap := I6.base
        refine ⟨fun b o e n' hb hx => kp b o (neC b o e) (u0.keep b o e n' hb hx), fun b o e n' hb hx => ?_, u0.free, fun b o e hx => ?_, u0.tups, u0.frzs, u0.tbls⟩
        · obtain ⟨sl, e1⟩ := u0.slot b o e n' hb hx
          exact ⟨sl, kp b _ (neC b o e) e1⟩
        · obtain ⟨o', e1⟩ := u0.there b o e hx
          exact ⟨o', kp b o' (neC b o e) e1⟩
      have nC : H3 Hd.objs.size = none := I6.free
      have hok : HOk X.prog X.w H3 h' := fun a o e => (I6.hok a o e).stay (fun b u hb q' => kp b u (fun z => by
        rcases hb with rfl | hb
        · rw [z, nC] at e; cases e
        · rw [z, nC] at hb; cases hb) q') (fun _ q' => q') fun _ _ q' => q'
      have I7 : Inv X pins σ H3 { s4 with heap := h' } := I2.call' (s' := { s4 with heap := h' }) I6.os un hok I6.bare (fun b hb => ⟨(f2 b hb).2.2.2.1, (f2 b hb).2.1, (f2 b hb).2.2.2.2.1, (f2 b hb).2.2.2.2.2⟩)
      have e0 : X.s₀.heap.get? s2.heap.objs.size = none := by
        cases e : X.s₀.heap.get? s2.heap.objs.size with
        | none => rfl
        | some o => exact absurd (Nat.lt_of_lt_of_le (Heap.lt_size e) I2.sz) (Nat.lt_irrefl _)
      have I8 : Inv X pins σ (upd H3 s2.heap.objs.size (.lst ys)) { s4 with heap := h' } := I7.track nD e0 (fun z => Nat.lt_irrefl _ (z ▸ I2.lt)) (fun x c e z => by
        obtain ⟨v, q'⟩ := I2.cell x c e
        exact Nat.lt_irrefl _ (z ▸ q'.lt)) (fun p hp z => Nat.lt_irrefl _ (z ▸ Heap.lt_size (I2.pin p hp).1)) ⟨hlen, its, k, rv, kp _ _ hDC hD4⟩
      exact I8
    · refine thn (T.item (cxC X s2 H2 scope (own ++ cl) Hd.objs.size N fp) rfl rfl rfl hc i _ s3 _ H3 _ I5 (stat fr3 one) st3 go) fun r s4 ⟨u, hr, h4⟩ => ?_
      subst hr
      refine thn h4 fun _ s5 ⟨x, H5, I6, r5, y5, st5, fr5⟩ => ?_
      have I6' := I6.pinned (stat fr5 one) (T.obj _ _ st5)
      refine thn (hg _ _ _ _ _ _ s5 _ H5 x u _ I6' r5 (step x H5 y5)) fun _ s6 ⟨σ6, H6, I7, wk6, q6⟩ => ?_
      refine thn (hf _ _ _ _ _ _ s6 σ6 H6 _ I7 q6) fun ok s7 ⟨H7, I8, q7⟩ => ?_
      have back : ∀ {σ' : St} {H' : Hp} {s' : Shared}, Inv (cxC X s2 H2 scope (own ++ cl) Hd.objs.size N fp) ([(s2.heap.objs.size, { cls := .type "list", data := .seq its.toArray k })] ++ pinsAt fp s5.heap) σ' H' s' →
          tn (i + 1) s'.heap ∧ (∀ b ∈ fp, H' b = none) ∧ s'.heap.get? s2.heap.objs.size = some { cls := .type "list", data := .seq its.toArray k } ∧ H' s2.heap.objs.size = none := fun {σ' H' s'} J => by
        have jD := J.pin (s2.heap.objs.size, { cls := .type "list", data := .seq its.toArray k }) (by simp)
        refine ⟨T.keep _ _ _ st5 fun b hb o e => (J.pin (b, o) (List.mem_append_right _ (List.mem_append_right _ (mem_pinsAt hb e)))).1, fun b hb => ?_, jD.1, jD.2.1⟩
        obtain ⟨o, e, d⟩ := T.obj _ _ st5 b hb
        exact (J.pin (b, o) (List.mem_append_right _ (List.mem_append_right _ (mem_pinsAt hb e)))).2.1
      cases ok with
      | false =>
        rw [if_neg Bool.false_ne_true] at q7
        rw [if_neg Bool.false_ne_true]
        obtain ⟨m', hm, w'⟩ := q7
        obtain ⟨b1, b2, b3, b4⟩ := back I8
        exact ⟨m', hm, i + 1, ys, its, k, σ6, H7, I8.nopins, wk6, b1, b2, w', b3, rv, b4⟩
      | true =>
        rw [if_pos rfl] at q7
        rw [if_pos rfl]
        refine thn (he _ _ _ _ _ _ s7 σ6 H7 _ I8 q7) fun u2 s8 ⟨y, H8, I9, r9, hlt, m', hm, w'⟩ => ?_
        obtain ⟨b1, b2, b3, b4⟩ := back I9
        have hl := rv.length
        refine call_meets F.slot_list_append ⟨_, b3, rfl⟩ F.entry_list_append (F.args_list_append_2 _ _) (PySem.list_append s2.heap.objs.size its.toArray k u2 (by rw [List.size_toArray]; omega)) ⟨b3, ?_⟩
        have qu := PySem.IsL.update b3 (·.push u2)
        rw [show its.toArray.push u2 = (its ++ [u2]).toArray by simp] at qu
        refine ⟨m', hm, i + 1, ys ++ [y], its ++ [u2], _, σ6, H8, ?_, wk6, ?_, b2, w', qu, rv.append (.cons r9 .nil), b4⟩
        · exact I9.nopins.turned (it := s2.heap.objs.size) (fun b o hb e => (Heap.get?_update_other s8.heap (Obj.mapSeq _) (Ne.symm hb)).trans e) b4 hDC (.inr (Nat.le_refl _)) (fun x c e z => (cellNe x c e).1 z) (fun p hp => nomatch hp)
        · exact T.keep _ _ _ b1 fun b hb o e => (Heap.get?_update_other s8.heap (Obj.mapSeq _) ((below b (fpLt b hb)).2.symm)).trans e
  exact codeAny_compStart_list (loop _ rfl) (T.self _ 0 _ _ _ (T.keep 0 _ _ st2 (fun b hb o e => old b o e)) (loop _ rfl))
theorem pe_comp {X : Cx} {elt tg iter : Expr} {ifs : List Expr} {scope : Scope} {pos : Pos} {N : List Str} {src : List (Option Nat)} {wi : TI} {g : TG} {tc : TT} {te : TE} (hc : X.calm = true) (S : CompScope X scope N src) (hi : PI X tg iter wi)
    (hg : ∀ s H cl C fp, PG (cxC X s H scope cl C N fp) tg g) (hf : ∀ s H cl C fp, PIf (cxC X s H scope cl C N fp) ifs tc) (he : ∀ s H cl C fp, PE (cxC X s H scope cl C N fp) elt te)
    (hs : ∀ x, foldedSetIterable iter X.env x = pure x := by intro _; rfl) : PE X (.ListComp elt [⟨tg, iter, ifs, 0⟩] scope pos) (tComp src wi g tc te) := by
  intro pins s σ H Q I h
  rw [eval_ListComp]
  refine comp_core (use := none) hc S hi hg hf he hs I h fun C a H1 s' key _ ⟨m, hn⟩ q => ⟨m, hn, fun h' sb => ⟨.ref a, H1, key h' sb, rfl, q⟩⟩
/-! ### a scope that is written -/
def compOkB (osc sc : Scope) (oN N : List Str) (src : List (Option Nat)) : Bool :=
  sc.names.all (fun y => decide (y.2 ≠ .cell) || decide (sc.names.lookup y.1 = some .cell)) && sc.names.all (fun y => decide (y.2 ≠ .local) || decide (sc.names.lookup y.1 = some .local)) &&
  sc.names.all (fun y => decide (y.2 ≠ .free) || decide (osc.names.lookup y.1 = some .cell) || decide (osc.names.lookup y.1 = some .free)) && decide (src.length = N.length) &&
  (List.range src.length).all (fun i => match src[i]?, N[i]? with | some (some j), some x => decide (oN[j]? = some x) && decide ((x, NameKind.free) ∈ sc.names) && decide (sc.names.lookup x = some .free) | _, _ => true)
theorem comp_scope {X : Cx} {scope : Scope} {N : List Str} {src : List (Option Nat)} (osc : Scope) (oN : List Str) (e1 : X.env.scope = osc) (e2 : X.N = oN) (c : compOkB osc scope oN N src = true) (k : scope.kind = .function) : CompScope X scope N src := by
  unfold compOkB at c
  simp only [Bool.and_eq_true, List.all_eq_true, decide_eq_true_eq, Bool.or_eq_true] at c
  obtain ⟨⟨⟨⟨c1, c2⟩, c3⟩, c4⟩, c5⟩ := c
  refine ⟨k, fun y hy e => (c1 y hy).resolve_left fun z => z e, fun y hy e => ?_, fun x hx => ?_, c4, fun i j x h1 h2 => ?_⟩
  · rcases c2 y hy with z | z
    · exact absurd e z
    · exact z
  · show X.env.scope.names.lookup x = _ ∨ X.env.scope.names.lookup x = _
    rw [e1]
    rcases c3 (x, .free) hx with (z | z) | z
    · exact absurd rfl z
    · exact .inl z
    · exact .inr z
  · have hi : i < src.length := (List.getElem?_eq_some_iff.mp h1).1
    have z := c5 i (List.mem_range.mpr hi)
    rw [h1, h2] at z
    simp only [Bool.and_eq_true, decide_eq_true_eq] at z
    rw [e2]
    exact ⟨z.1.1, z.1.2, z.2⟩
end L2
/-! EvMore: data read off the abstract heap and compared, any, all; promises of defs in bundles. Behind EvComp. -/
namespace L2
open PySem PySem.Spec PyProof.Rows
/-! ### data -/
mutual
def IsD (K : PySem.W.Frag) (H : Hp) : PyData → V → Prop
  | .none, v => v = .non
  | .bool b, v => v = .bl b
  | .int i, v => v = .int i
  | .str x, v => v = .str x
  | .list ds, v => ∃ a xs, v = .ref a ∧ SqL K H a xs ∧ IsDs K H ds xs
  | .tuple ds, v => ∃ a xs, v = .ref a ∧ SqT K H a xs ∧ IsDs K H ds xs
  | .dict _, _ => False
def IsDs (K : PySem.W.Frag) (H : Hp) : List PyData → List V → Prop
  | [], xs => xs = []
  | d :: ds, xs => ∃ x r, xs = x :: r ∧ IsD K H d x ∧ IsDs K H ds r
end
theorem isTup_reads {h : Heap} {a : Addr} {its : Array Value} (t : IsTup h a its) : ∃ o n, h.get? a = some o ∧ o.cls = .type "tuple" ∧ o.data = .seq its n := by
  obtain ⟨o, ho, hc, n, hd⟩ := t
  exact ⟨o, n, ho, hc, hd⟩
section
variable {X : Cx} {pins : List (Addr × Obj)} {σ : St} {H : Hp} {s : Shared}
mutual
theorem IsD.reads (I : Inv X pins σ H s) : ∀ (d : PyData) {v : V} {u : Value}, IsD X.K H d v → RelV v u → ∃ as, Reads s.heap u d as
  | .none, v, u, h, r => by
    simp only [IsD] at h; subst h
    cases (show u = .none from r); exact ⟨_, .none⟩
  | .bool b, v, u, h, r => by
    simp only [IsD] at h; subst h
    cases (show u = .bool b from r); exact ⟨_, .bool b⟩
  | .int i, v, u, h, r => by
    simp only [IsD] at h; subst h
    obtain ⟨t, rfl⟩ := r; exact ⟨_, .int i t⟩
  | .str x, v, u, h, r => by
    simp only [IsD] at h; subst h
    obtain ⟨t, rfl⟩ := r; exact ⟨_, .str x t⟩
  | .list ds, v, u, h, r => by
    simp only [IsD] at h
    obtain ⟨a, xs, rfl, hs, hd⟩ := h
    cases (show u = .ref a from r)
    obtain ⟨its, rv, p, _⟩ := I.list hs
    obtain ⟨o, ho, hc, n, hdd⟩ := p.isList
    obtain ⟨as, ra⟩ := IsDs.reads I ds hd rv
    exact ⟨_, .list ho hc hdd (by simpa using ra)⟩
  | .tuple ds, v, u, h, r => by
    simp only [IsD] at h
    obtain ⟨a, xs, rfl, hs, hd⟩ := h
    cases (show u = .ref a from r)
    obtain ⟨its, rv, p, _⟩ := I.tuple hs
    obtain ⟨o, n, ho, hc, hdd⟩ := isTup_reads p
    obtain ⟨as, ra⟩ := IsDs.reads I ds hd rv
    exact ⟨_, .tuple ho hc hdd (by simpa using ra)⟩
  | .dict _, v, u, h, r => by
    simp only [IsD] at h
theorem IsDs.reads (I : Inv X pins σ H s) : ∀ (ds : List PyData) {vs : List V} {us : List Value}, IsDs X.K H ds vs → Vals vs us → ∃ as, ReadsAll s.heap us ds as
  | [], vs, us, h, r => by
    simp only [IsDs] at h; subst h
    cases r; exact ⟨_, .nil⟩
  | d :: ds, vs, us, h, r => by
    simp only [IsDs] at h
    obtain ⟨x, rr, rfl, hx, hr⟩ := h
    cases r with
    | cons r1 r2 =>
      obtain ⟨as, ra⟩ := IsD.reads I d hx r1
      obtain ⟨bs, rb⟩ := IsDs.reads I ds hr r2
      exact ⟨_, .cons ra rb⟩
end
end
mutual
theorem IsD.imp {K : PySem.W.Frag} {H H' : Hp} (sl : ∀ a xs, SqL K H a xs → SqL K H' a xs) (st : ∀ a xs, SqT K H a xs → SqT K H' a xs) : ∀ (d : PyData) {v : V}, IsD K H d v → IsD K H' d v
  | .none, v, h => by simp only [IsD] at h ⊢; exact h
  | .bool b, v, h => by simp only [IsD] at h ⊢; exact h
  | .int i, v, h => by simp only [IsD] at h ⊢; exact h
  | .str x, v, h => by simp only [IsD] at h ⊢; exact h
  | .list ds, v, h => by
    simp only [IsD] at h ⊢
    obtain ⟨a, xs, e, hs, hd⟩ := h
    exact ⟨a, xs, e, sl a xs hs, IsDs.imp sl st ds hd⟩
  | .tuple ds, v, h => by
    simp only [IsD] at h ⊢
    obtain ⟨a, xs, e, hs, hd⟩ := h
    exact ⟨a, xs, e, st a xs hs, IsDs.imp sl st ds hd⟩
  | .dict _, v, h => by simp only [IsD] at h
theorem IsDs.imp {K : PySem.W.Frag} {H H' : Hp} (sl : ∀ a xs, SqL K H a xs → SqL K H' a xs) (st : ∀ a xs, SqT K H a xs → SqT K H' a xs) : ∀ (ds : List PyData) {vs : List V}, IsDs K H ds vs → IsDs K H' ds vs
  | [], vs, h => by simp only [IsDs] at h ⊢; exact h
  | d :: ds, vs, h => by
    simp only [IsDs] at h ⊢
    obtain ⟨x, r, e, hx, hr⟩ := h
    exact ⟨x, r, e, IsD.imp sl st d hx, IsDs.imp sl st ds hr⟩
end
/-! ### == and != of data -/
def rEqD (K : PySem.W.Frag) (neg : Bool) : R2 := fun x y H Q => ∃ da db, IsD K H da x ∧ IsD K H db y ∧ PySem.SeqAt.shaped da = true ∧ PySem.SeqAt.shaped db = true ∧ Q (.bl (if neg then !PyData.eqv da db else PyData.eqv da db)) H
theorem op_eqD {X : Cx} (hu : X.A.units + 64 < cLine) : OpR X (compareOp .Eq) (rEqD X.K false) := by
  intro pins s σ H x y v u Q I rx ry h
  obtain ⟨da, db, ha, hb, sa, sb, q⟩ := h
  obtain ⟨as, ra⟩ := IsD.reads I da ha rx
  obtain ⟨bs, rb⟩ := IsD.reads I db hb ry
  exact PySem.SeqAt.compareEq_shaped ra rb sa sb hu ⟨.bl _, H, I, rfl, q⟩
theorem op_neD {X : Cx} (hu : X.A.units + 64 < cLine) : OpR X (compareOp .NotEq) (rEqD X.K true) := by
  intro pins s σ H x y v u Q I rx ry h
  obtain ⟨da, db, ha, hb, sa, sb, q⟩ := h
  obtain ⟨as, ra⟩ := IsD.reads I da ha rx
  obtain ⟨bs, rb⟩ := IsD.reads I db hb ry
  exact PySem.SeqAt.compareNe_shaped ra rb sa sb hu ⟨.bl _, H, I, rfl, q⟩
/-! ### any, all -/
theorem bools_of : ∀ {bs : List Bool} {us : List Value}, Vals (bs.map V.bl) us → LSm.BoolsAre us bs
  | [], _, .nil => .nil
  | b :: bs, _, .cons h t => by
    cases (show _ = Value.bool b from h)
    exact .cons b (bools_of t)
theorem call_any {X : Cx} (hc : X.calm = true) : CallR X (.builtin "any") (fun xs H Q => ∃ (a : Addr) (bs : List Bool), xs = [.ref a] ∧ SqL X.K H a (bs.map V.bl) ∧ Q (.bl (bs.any id)) H) := by
  intro pins s σ H xs us Q I r h
  obtain ⟨a, bs, rfl, hS, q⟩ := h
  obtain ⟨u, rfl, ru⟩ := r.one
  cases (show u = Value.ref a from ru)
  obtain ⟨its, rv, p, _⟩ := I.list hS
  have hl := p.isList
  have hb := bools_of rv
  have hlt : a < s.heap.objs.size := by obtain ⟨_, e, _⟩ := hl; exact Heap.lt_size e
  refine call_any_walk (wpAny_pyIter_list hl ?_)
  refine ⟨s.heap.objs.size, [s.heap.objs.size, a], [s.heap.objs.size], its.toArray.size, _, _, fun i => (bs[i]?).getD false, rfl, Walks.list (A := X.A.in1) (I.ok.hd hc) _ a (Nat.ne_of_lt hlt) its.toArray,
    ⟨⟨_, Heap.get?_push_size _ rfl, rfl, rfl⟩, hl.push _⟩, fun i v s' Q' E' hP hQ => ?_, fun h' tk hk => ?_⟩
  · obtain ⟨b, e, rfl⟩ := hb.get i v (by simpa using hP)
    simp only [e, Option.getD_some] at hQ
    exact wpAny_truthy_bool hQ
  · have e : ((List.range its.toArray.size).any fun i => (bs[i]?).getD false) = bs.any id := by
      rw [List.size_toArray, hb.length]; exact LSm.range_any bs
    rw [e]
    exact ⟨.bl _, H, I.kept (LSm.kept_iter hk), rfl, q⟩
theorem call_all {X : Cx} (hc : X.calm = true) : CallR X (.builtin "all") (fun xs H Q => ∃ (a : Addr) (bs : List Bool), xs = [.ref a] ∧ SqL X.K H a (bs.map V.bl) ∧ Q (.bl (bs.all id)) H) := by
  intro pins s σ H xs us Q I r h
  obtain ⟨a, bs, rfl, hS, q⟩ := h
  obtain ⟨u, rfl, ru⟩ := r.one
  cases (show u = Value.ref a from ru)
  obtain ⟨its, rv, p, _⟩ := I.list hS
  have hl := p.isList
  have hb := bools_of rv
  have hlt : a < s.heap.objs.size := by obtain ⟨_, e, _⟩ := hl; exact Heap.lt_size e
  refine call_all_walk (wpAny_pyIter_list hl ?_)
  refine ⟨s.heap.objs.size, [s.heap.objs.size, a], [s.heap.objs.size], its.toArray.size, _, _, fun i => (bs[i]?).getD true, rfl, Walks.list (A := X.A.in1) (I.ok.hd hc) _ a (Nat.ne_of_lt hlt) its.toArray,
    ⟨⟨_, Heap.get?_push_size _ rfl, rfl, rfl⟩, hl.push _⟩, fun i v s' Q' E' hP hQ => ?_, fun h' tk hk => ?_⟩
  · obtain ⟨b, e, rfl⟩ := hb.get i v (by simpa using hP)
    simp only [e, Option.getD_some] at hQ
    exact wpAny_truthy_bool hQ
  · have e : ((List.range its.toArray.size).all fun i => (bs[i]?).getD true) = bs.all id := by
      rw [List.size_toArray, hb.length]; exact LSm.range_all bs
    rw [e]
    exact ⟨.bl _, H, I.kept (LSm.kept_iter hk), rfl, q⟩
/-! ### a def with its promise, in one -/
def Pm (P : Program) (w : World) (K : PySem.W.Frag) (mg : Str → Option Value) (base : Heap) (CX : CXT) (k : Nat) (x : Str) (ps : List Str) (sp : Sp) : Prop :=
  ∃ (f : Addr) (fd : FuncData), mg x = some (.ref f) ∧ PySem.W.keepIn K (.ref f) = true ∧ Binds K fd ps [] ∧ FnOk P w K mg base CX k f fd ps sp
theorem pe_callP {X : Cx} {CX : CXT} {k : Nat} {x : Str} {ps : List Str} {sp : Sp} {E : XK} {p pos : Pos} {e : Expr} {es : List Expr} {t : TA} (h : Pm X.prog X.w X.K X.mg X.base CX k x ps sp) (hr : Room k X.A) (hg : Gl X x) (hx : Passes CX X E) (ha : PA X (e :: es) t)
    (hdb : (x == ("__debug__" : Str)) = false := by decide) (he : starEach (e :: es) X.env = (false, eval e X.env) :: starEach es X.env := by rfl) (hpl : (backTo pos (starEach es X.env)).any (·.1) = false := by rfl) :
    PE X (.Call (.Name x p) (e :: es) [] pos) (tCall sp [] E t) := by
  obtain ⟨f, fd, hm, hk, hb, F⟩ := h
  exact pe_call F hr hg hm hk hb .nil hx ha hdb he hpl
end L2
/-! EvQ: made by mkq.py. The rules over structures. -/
namespace L2
open PySem PySem.Spec PyProof.Rows
set_option autoImplicit true
set_option relaxedAutoImplicit true
structure QE (X : Cx) (e : Expr) (t : TE) : Prop where
  h : PE X e t
structure QT (X : Cx) (e : Expr) (t : TT) : Prop where
  h : PT X e t
structure QW (X : Cx) (e : Expr) (t : TT) : Prop where
  h : PW X e t
structure QA (X : Cx) (e : List Expr) (t : TA) : Prop where
  h : PA X e t
structure QS (X : Cx) (e : Stmt) (t : TS) : Prop where
  h : PS X e t
structure QSs (X : Cx) (e : List Stmt) (t : TS) : Prop where
  h : PSs X e t
structure QGs (X : Cx) (e : List Expr) (t : TGs) : Prop where
  h : PGs X e t
structure QG (X : Cx) (e : Expr) (t : TG) : Prop where
  h : PG X e t
structure QIf (X : Cx) (e : List Expr) (t : TT) : Prop where
  h : PIf X e t
structure QO (X : Cx) (e : Option Expr) (t : TO) : Prop where
  h : PO X e t
structure QI (X : Cx) (tg iter : Expr) (t : TI) : Prop where
  h : PI X tg iter t
theorem QW.pt {X : Cx} {e : Expr} {t : TT} (k : QW X e t) : QT X e t := ⟨k.h.pt⟩
theorem qe_int {i j pos} : QE X (.Constant (.int i) j pos) (tC (.int i)) := ⟨pe_int ⟩
theorem qe_bl {b j pos} : QE X (.Constant (.bool b) j pos) (tC (.bl b)) := ⟨pe_bl ⟩
theorem qe_non {j pos} : QE X (.Constant .none j pos) (tC .non) := ⟨pe_non ⟩
theorem qe_str {x j pos} : QE X (.Constant (.str x) j pos) (tC (.str x)) := ⟨pe_str ⟩
theorem qe_bltn {x : Str} {v : V} {u : Value} {pos : Pos} (hg : Gl X x) (hm : X.mg x = none) (hv : bootBuiltins x = some u) (r : RelV v u) (hn : x ≠ "__name__" := by decide) (hd : (x == ("__debug__" : Str)) = false := by decide) : QE X (.Name x pos) (tC v) := ⟨pe_bltn (hg) (hm) (hv) (r) (hn) (hd)⟩
theorem qt_cmp {op : CmpOp} {t : TE} (h : PC X op a b t) (h1 : behindInMarks op b = false := by first | exact nobehind _ (by decide) (by decide) | rfl) : QT X (.Compare a [op] [b] pos) (tB t) := ⟨pt_cmp (h) (h1)⟩
theorem qt_val {e : Expr} {t : TE} (h : QE X e t) (he : ∀ whole, isTrue e X.env whole = (do let v ← whole; standAt e.pos; holding [v] (truthy v)) := by intro _; rfl) : QT X e (tB t) := ⟨pt_val h.h (he)⟩
theorem qw_and1 (ha : QT X a tA) : QW X (.BoolOp .And [a] pos) tA := ⟨pw_and1 ha.h⟩
theorem qw_or1 (ha : QT X a tA) : QW X (.BoolOp .Or [a] pos) tA := ⟨pw_or1 ha.h⟩
theorem qw_and (ha : QT X a tA) (hb : QW X (.BoolOp .And (b :: restq) pos) tB') : QW X (.BoolOp .And (a :: b :: restq) pos) (tAnd tA tB') := ⟨pw_and ha.h hb.h⟩
theorem qw_or (ha : QT X a tA) (hb : QW X (.BoolOp .Or (b :: restq) pos) tB') : QW X (.BoolOp .Or (a :: b :: restq) pos) (tOr tA tB') := ⟨pw_or ha.h hb.h⟩
theorem qt_not (ha : QT X a tA) : QT X (.UnaryOp .Not a pos) (tNot tA) := ⟨pt_not ha.h⟩
theorem qe_one {op} {t : TE} (h : QE X a t) : QE X (.BoolOp op [a] pos) t := ⟨pe_one h.h⟩
theorem qe_and (ha : QE X a ta) (hb : QE X (.BoolOp .And (b :: restq) pos) tb) : QE X (.BoolOp .And (a :: b :: restq) pos) (tAndV ta tb) := ⟨pe_and ha.h hb.h⟩
theorem qe_not (ha : QE X a ta) : QE X (.UnaryOp .Not a pos) (tNotV ta) := ⟨pe_not ha.h⟩
theorem qss_nil  : QSs X [] tNext := ⟨pss_nil ⟩
theorem qss_cons (h1 : QS X stq t) (h2 : QSs X restq u) : QSs X (stq :: restq) (tSeq t u) := ⟨pss_cons h1.h h2.h⟩
theorem qss_one (h1 : QS X stq t) : QSs X [stq] t := ⟨pss_one h1.h⟩
theorem qs_expr (he : QE X e te) (hs : swapsWith e none pos.line X.env = pure false := by rfl) : QS X (.Expr e pos) (tDrop te) := ⟨ps_expr he.h (hs)⟩
theorem qs_ret (he : QE X e te) : QS X (.Return (some e) pos) (tRet te) := ⟨ps_ret he.h⟩
theorem qs_if {c : Expr} {a b : List Stmt} {tc : TT} (hc : QT X c tc) (ha : QSs X a t) (hb : QSs X b u) : QS X (.If c a b pos) (tIfS tc t u) := ⟨ps_if hc.h ha.h hb.h⟩
theorem qg_name {i : Nat} {x : Str} (hN : X.N.Nodup) (hiq : X.N[i]? = some x) (hx : Loc X.env.scope x) (hf : X.fn x = true ∨ X.env.scope.names.lookup x = some .local := by first | exact .inl rfl | exact .inr rfl | assumption) : QG X (.Name x pos) (gName i) := ⟨pg_name (hN) (hiq) (hx) (hf)⟩
theorem qgs_nil  : QGs X [] gNil := ⟨pgs_nil ⟩
theorem qgs_cons {e : Expr} {es : List Expr} {t : TG} {u : TGs} (h1 : QG X e t) (h2 : QGs X es u) (hs : (assignEach (e :: es) X.env).map (·.2) = assign e X.env :: (assignEach es X.env).map (·.2) := by rfl) : QGs X (e :: es) (gCons t u) := ⟨pgs_cons h1.h h2.h (hs)⟩
theorem qg_tup {es : List Expr} {k : Nat} {t : TGs} {n : Nat} (hc : X.calm = true) (h : QGs X es t) (hn : (assignEach es X.env).length = n := by rfl) (hst : (assignEach es X.env).findIdx? (·.1) = none := by rfl) : QG X (.Tuple es k pos) (gTup X.K n t) := ⟨pg_tup (hc) h.h (hn) (hst)⟩
theorem qg_sub {o i : Expr} {to ti : TE} {t : TSet} (ho : QE X o to) (hiq : QE X i ti) (hs : PSet X t) (ha : ∀ v, assign (.Subscript o i pos) X.env v = (do
      let ov ← holding [v] (eval o X.env)
      let iv ← holding [v, ov] (eval i X.env)
      standAt pos
      holding [v, ov, iv] (setItem ov iv v)
      release [v, ov, iv] []) := by intro _; rfl) : QG X (.Subscript o i pos) (gSub to ti t) := ⟨pg_sub ho.h hiq.h (hs) (ha)⟩
theorem qs_asg {tg e : Expr} {te : TE} {g : TG} (he : QE X e te) (hg : QG X tg g) (hs : swapsWithSole [tg] e pos.line X.env = pure false := by rfl) (hw : swappedStores [tg] e X.env = pure none := by rfl) (h1 : (assignEach [tg] X.env).map (·.2) = [assign tg X.env] := by rfl) : QS X (.Assign [tg] e pos) (tAsg te g) := ⟨ps_asg he.h hg.h (hs) (hw) (h1)⟩
theorem qs_set {i : Nat} {x : Str} {e : Expr} {te : TE} {pos' : Pos} (hN : X.N.Nodup) (hiq : X.N[i]? = some x) (hx : Loc X.env.scope x) (he : QE X e te) (hs : swapsWith e (some (.Name x pos')) pos.line X.env = pure false := by rfl) (hf : X.fn x = true ∨ X.env.scope.names.lookup x = some .local := by first | exact .inl rfl | exact .inr rfl | assumption) : QS X (.Assign [.Name x pos'] e pos) (tAsg te (gName i)) := ⟨ps_set (hN) (hiq) (hx) he.h (hs) (hf)⟩
theorem qs_while {c : Expr} {body : List Stmt} {tc : TT} {tb : TS} (hp : PassesOwn (model X.prog X.w) X.A X.env X.xe) (hc : QT X c tc) (hb : QSs X body tb) : QS X (.While c body [] pos) (tWhile tc tb) := ⟨ps_while (hp) hc.h hb.h⟩
theorem qi_list {l : Expr} {tl : TE} (hl : QE X l tl) : QI X tg l (iList X.K tl) := ⟨pi_list hl.h⟩
theorem qi_tup {l : Expr} {tl : TE} (hl : QE X l tl) : QI X tg l (iTup X.K tl) := ⟨pi_tup hl.h⟩
theorem qi_range1 {a : Expr} {ta : TA} {p pos : Pos} (hg : Gl X "range") (hm : X.mg "range" = none) (ha : QA X [a] ta) (hs : starEach [a] X.env = [(false, eval a X.env)] := by rfl) : QI X tg (.Call (.Name "range" p) [a] [] pos) (iRng1 ta) := ⟨pi_range1 (hg) (hm) ha.h (hs)⟩
theorem qi_range2 {a b : Expr} {ta : TA} {p pos : Pos} (hg : Gl X "range") (hm : X.mg "range" = none) (ha : QA X [a, b] ta) (hs : starEach [a, b] X.env = [(false, eval a X.env), (false, eval b X.env)] := by rfl) (hs2 : starEach [b] X.env = [(false, eval b X.env)] := by rfl) : QI X tg (.Call (.Name "range" p) [a, b] [] pos) (iRng2 ta) := ⟨pi_range2 (hg) (hm) ha.h (hs) (hs2)⟩
theorem qs_for {iter : Expr} {body : List Stmt} {wi : TI} {g : TG} {tb : TS} {pos : Pos} (hp : PassesOwn (model X.prog X.w) X.A X.env X.xe) (hc : X.calm = true) (hiq : QI X tg iter wi) (hg : QG X tg g) (hb : QSs X body tb) (hs : ∀ x, foldedSetIterable iter X.env x = pure x := by intro _; rfl) : QS X (.For tg iter body [] pos) (tFor wi g tb) := ⟨ps_for (hp) (hc) hiq.h hg.h hb.h (hs)⟩
theorem qe_op {op : Operator} {r : R2} (ho : OpR X (binaryOp op) r) (ha : QE X a ta) (hb : QE X b tb) : QE X (.BinOp a op b pos) (tOp r ta tb) := ⟨pe_op (ho) ha.h hb.h⟩
theorem qe_un {op : UnaryOp} {r : V → Hp → VK → Prop} (ho : UnR X (unaryOp op) r) (ha : QE X a ta) : QE X (.UnaryOp op a pos) (tUn r ta) := ⟨pe_un (ho) ha.h⟩
theorem qe_cmpR {op : CmpOp} {r : R2} (ho : OpR X (compareOp op) r) (ha : QE X a ta) (hb : QE X b tb) (hm : behindInMarks op b = false) : QE X (.Compare a [op] [b] pos) (tOp r ta tb) := ⟨pe_cmpR (ho) ha.h hb.h (hm)⟩
theorem qt_cmpR {op : CmpOp} {r : R2} (ho : OpR X (compareOp op) r) (ha : QE X a ta) (hb : QE X b tb) (hm : behindInMarks op b = false) : QT X (.Compare a [op] [b] pos) (tTest (tOp r ta tb)) := ⟨pt_cmpR (ho) ha.h hb.h (hm)⟩
theorem qa_nil  : QA X [] tNil := ⟨pa_nil ⟩
theorem qe_tup {x1} (h : QA X es t) : QE X (.Tuple es x1 pos) (tTup t) := ⟨pe_tup h.h⟩
theorem qe_lst (h : QA X es t) : QE X (.List es pos) (tLst t) := ⟨pe_lst h.h⟩
theorem qe_callB (hc : CallR X (.builtin idq) r) (hg : Gl X x) (hm : X.mg x = none) (hv : bootBuiltins x = some (.builtin idq)) (ha : QA X (e :: es) t) (hn : x ≠ "__name__" := by decide) (hdb : (x == ("__debug__" : Str)) = false := by decide) (he : starEach (e :: es) X.env = (false, eval e X.env) :: starEach es X.env := by rfl) (hpl : (backTo pos (starEach es X.env)).any (·.1) = false := by rfl) : QE X (.Call (.Name x p) (e :: es) [] pos) (tCB r t) := ⟨pe_callB (hc) (hg) (hm) (hv) ha.h (hn) (hdb) (he) (hpl)⟩
theorem qe_callTy (hc : CallR X (.type T) r) (hg : Gl X x) (hm : X.mg x = none) (hv : bootBuiltins x = some (.type T)) (ha : QA X (e :: es) t) (hn : x ≠ "__name__" := by decide) (hdb : (x == ("__debug__" : Str)) = false := by decide) (he : starEach (e :: es) X.env = (false, eval e X.env) :: starEach es X.env := by rfl) (hpl : (backTo pos (starEach es X.env)).any (·.1) = false := by rfl) : QE X (.Call (.Name x p) (e :: es) [] pos) (tCB r t) := ⟨pe_callTy (hc) (hg) (hm) (hv) ha.h (hn) (hdb) (he) (hpl)⟩
theorem qo_none  : QO X none tNoPart := ⟨po_none ⟩
theorem qo_some (h : QE X e te) : QO X (some e) (tPart te) := ⟨po_some h.h⟩
theorem qe_slice {r : V → Option Int → Option Int → Hp → VK → Prop} (hr : SlR X r) (he : QE X e te) (hl : QO X loq tl) (hu : QO X hiq th) : QE X (.Subscript e (.Slice loq hiq none p2) pos) (tSl r te tl th) := ⟨pe_slice (hr) he.h hl.h hu.h⟩
theorem qe_ix {r : R2} (hr : IxR X r) (ha : QE X a ta) (hb : QE X b tb) (hs : PlainIx b) : QE X (.Subscript a b pos) (tOp r ta tb) := ⟨pe_ix (hr) ha.h hb.h (hs)⟩
theorem qe_bm (pa : PlainAttrs T) (slot : Slot T nameq idq) (hty : typeOf (.builtin idq) = pure (.type "method_descriptor")) (hm : MtR X idq r) (ho : QE X o to) (ha : QA X (e :: es) t) (hbase : attributeBase o nameq X.env (eval o X.env) = eval o X.env := by rfl) (hfew : ((backTo cpos (starEach (e :: es) X.env)).all (fun x => !x.1) && (backToKw cpos (keywordEach [] X.env)).all (fun x => x.1.isSome)
      && decide ((e :: es).length + ([] : List Keyword).length + (if ([] : List Keyword).isEmpty then 0 else 1) < 30)) = true := by rfl) (hline : (apos.endLine == cpos.line) = true := by rfl) (hs : starEach (e :: es) X.env = (false, eval e X.env) :: starEach es X.env := by rfl) (hplain : (backTo cpos (starEach es X.env)).any (·.1) = false := by rfl) : QE X (.Call (.Attribute o nameq apos) (e :: es) [] cpos) (tBM X.K T r to t) := ⟨pe_bm (pa) (slot) (hty) (hm) ho.h ha.h (hbase) (hfew) (hline) (hs) (hplain)⟩
theorem qv (i : Nat) {x : Str} {pos : Pos} (hN : X.N[i]? = some x := by rfl) (hv : Vis X.env.scope x := by first | exact Or.inl rfl | exact Or.inr (Or.inl rfl) | exact Or.inr (Or.inr rfl)) (hd : (x == ("__debug__" : Str)) = false := by decide) (hcd : (x == ("__classdict__" : Str)) = false := by decide) : QE X (.Name x pos) (tVar i) := ⟨pv (i) (hN) (hv) (hd) (hcd)⟩
theorem qe_dnewK {X : Cx} {pos : Pos} : QE X (.Dict [] [] pos) tDNewK := ⟨pe_dnewK ⟩
theorem qif_nil {X : Cx} : QIf X [] tYes := ⟨pif_nil ⟩
theorem qif_one {X : Cx} {c : Expr} {t : TT} (h : QT X c t) : QIf X [c] t := ⟨pif_one h.h⟩
theorem qe_callP {X : Cx} {CX : CXT} {k : Nat} {x : Str} {ps : List Str} {sp : Sp} {E : XK} {p pos : Pos} {e : Expr} {es : List Expr} {t : TA} (h : Pm X.prog X.w X.K X.mg X.base CX k x ps sp) (hr : Room k X.A) (hg : Gl X x) (hx : Passes CX X E) (ha : QA X (e :: es) t) (hdb : (x == ("__debug__" : Str)) = false := by decide) (he : starEach (e :: es) X.env = (false, eval e X.env) :: starEach es X.env := by rfl) (hpl : (backTo pos (starEach es X.env)).any (·.1) = false := by rfl) : QE X (.Call (.Name x p) (e :: es) [] pos) (tCall sp [] E t) := ⟨pe_callP (h) (hr) (hg) (hx) ha.h (hdb) (he) (hpl)⟩
/-- an argument, by a test that is small -/
def notStar : Expr → Bool
  | .Starred .. => false
  | _ => true
theorem starEach_cons {e : Expr} {es : List Expr} {env : Env} (h : notStar e = true) : starEach (e :: es) env = (false, eval e env) :: starEach es env := by
  cases e <;> first | rfl | cases h
theorem qac {X : Cx} {e : Expr} {es : List Expr} {te : TE} {t : TA} (ha : QE X e te) (hr : QA X es t) (hs : notStar e = true := by rfl) : QA X (e :: es) (tCons te t) := ⟨pa_cons ha.h hr.h (starEach_cons hs)⟩
theorem qe_comp {X : Cx} {elt tg iter : Expr} {ifs : List Expr} {scope : Scope} {pos : Pos} {N : List Str} {src : List (Option Nat)} {wi : TI} {g : TG} {tc : TT} {te : TE} (hc : X.calm = true) (S : CompScope X scope N src) (hi : QI X tg iter wi)
    (hg : ∀ s H cl C fp, QG (cxC X s H scope cl C N fp) tg g) (hf : ∀ s H cl C fp, QIf (cxC X s H scope cl C N fp) ifs tc) (he : ∀ s H cl C fp, QE (cxC X s H scope cl C N fp) elt te)
    (hs : ∀ x, foldedSetIterable iter X.env x = pure x := by intro _; rfl) : QE X (.ListComp elt [⟨tg, iter, ifs, 0⟩] scope pos) (tComp src wi g tc te) :=
  ⟨pe_comp hc S hi.h (fun s H cl C fp => (hg s H cl C fp).h) (fun s H cl C fp => (hf s H cl C fp).h) (fun s H cl C fp => (he s H cl C fp).h) hs⟩
/-! ### defs -/
section
variable {P : Program} {w : World} {K : PySem.W.Frag} {mg : Str → Option Value} {base : Heap} {x qual : Str} {st : Stmt} {f : Addr} {fd : FuncData} {N ps : List Str} {k : Nat} {sp : Sp}
theorem Fun.okQ (F : Fun K x qual st f fd) (S : FnScope N ps (defScope st)) (len : ∀ vs H Q E, sp vs H Q E → vs.length = ps.length)
    (hbody : ∀ (cdv : Value) (A : Around) (outer : List Env) (s : Shared) (H : Hp) (vs : List V) (Q : VK) (E : XK), Room k (A.deeper (envOfC qual (defScope st) s.heap.objs.size f cdv)) → sp vs H Q E →
      ∃ t, QSs (cxOf CX0 P w K mg base N qual (defScope st) f cdv A outer s H E).nox (defBody st) t ∧ t { nx := fun _ H' => Q .non H', rt := Q } (start N vs) H) : FnOk P w K mg base CX0 (k + 1) f fd ps sp :=
  F.ok S len fun cdv A outer s H vs Q E hr h => let ⟨t, a, b⟩ := hbody cdv A outer s H vs Q E hr h; ⟨t, a.h, b⟩
end

end L2
/-! EvRange: range with a step. Behind EvQ. -/
namespace L2
open PySem PySem.Spec PyProof.Rows
section
variable {X : Cx} {tg : Expr}
end
theorem comp_rng {lo : Int} {n : Nat} {g : TG} {tc : TT} {te : TE} {σ' : St} {H : Hp} {G : Addr → Hp → List V → Prop} (Pv : Nat → List V → Hp → Prop) (h0 : Pv 0 [] H)
    (hs : ∀ i ys H (N : List V → Hp → Prop), i < n → Pv i ys H → (∀ ys' H', Pv (i + 1) ys' H' → N ys' H') → g (.int (lo + i)) σ' H fun σ2 H4 => Weak σ' σ2 ∧ tc σ2 H4 fun b H5 => if b = true then te σ2 H5 fun y H6 => ys.length < sizeLine ∧ N (ys ++ [y]) H6 else N ys H5)
    (hd : ∀ ys H, Pv n ys H → ys.length ≤ sizeLine ∧ ∀ p, H p = none → G p H ys) :
    ∃ W : Nat → Nat → List V → Hp → Prop, (∃ m, W 0 m [] H) ∧ ∀ i m ys H2, W i m ys H2 →
      ((Itr lo n).stop i H2 ∧ ys.length ≤ sizeLine ∧ ∀ p, H2 p = none → G p H2 ys) ∨
      ((Itr lo n).go i H2 ∧ ∀ x H3, (Itr lo n).yld i H2 x H3 → g x σ' H3 fun σ2 H4 => Weak σ' σ2 ∧ tc σ2 H4 fun b H5 =>
        if b = true then te σ2 H5 fun y H6 => ys.length < sizeLine ∧ ∃ m', m' < m ∧ W (i + 1) m' (ys ++ [y]) H6 else ∃ m', m' < m ∧ W (i + 1) m' ys H5) := by
  refine ⟨fun i m ys H => m = n - i ∧ i ≤ n ∧ Pv i ys H, ⟨n, rfl, Nat.zero_le _, h0⟩, ?_⟩
  rintro i m ys H2 ⟨rfl, hi, p⟩
  by_cases hlt : i < n
  · refine .inr ⟨hlt, fun x H' y => ?_⟩
    obtain ⟨e, rfl⟩ := y
    subst e
    exact hs i ys _ (fun ys' H'' => ∃ m', m' < n - i ∧ m' = n - (i + 1) ∧ i + 1 ≤ n ∧ Pv (i + 1) ys' H'') hlt p (fun ys' H'' p' => ⟨_, by omega, rfl, hlt, p'⟩)
  · have e : i = n := by omega
    subst e
    exact .inl ⟨Nat.le_refl _, hd ys H2 p⟩
end L2
/-! EvMath: the mathematics of primes, by naturals; core alone. -/
namespace EM
/-! ### lists of primes with how often -/
/-! ### plain parts -/
/-! ### roots -/
end EM
/-! EvEuler: Fermat and Euler for a prime, by naturals and ints; core alone. Behind EvMath. -/
namespace EM
/-! ### lists without repeats -/
/-! ### roots of a sum of powers, the highest one once -/
/-! ### Euler -/
/-! ### rests of squares -/
/-! ### powers by squaring -/
/-! ### small primes by looking -/
/-! ### plain parts are told in one way -/
/-! ### what shuts a form -/
/-! ### the plain part by looking -/
/-! ### odd primes by looking -/
end EM
/-! EvBase: what every row of stage 1 shares; no row is named here. Behind EvTry, EvMath. -/
namespace E1
open PySem L2
/-! ### whole numbers by their kinds -/
inductive WholeIs (K : PySem.W.Frag) (H : Hp) : V → Bool → Prop where
  | int (i : Int) : WholeIs K H (.int i) true
  | bl (x : Bool) : WholeIs K H (.bl x) false
  | odd {v : V} {T : String} (ty : TyOf K H v (.type T)) (k : PySem.W.kitOne K (.type T) (.type "int") = some false) : WholeIs K H v false
theorem ty_same {K : PySem.W.Frag} {H H' : Hp} {v : V} {T : String} (s : Same H H') (ty : TyOf K H v (.type T)) : TyOf K H' v (.type T) := by
  cases ty with
  | non => exact .non
  | bl x => exact .bl x
  | int i => exact .int i
  | str x => exact .str x
  | flt x => exact .flt x
  | lst e => exact .lst (s _ _ e)
  | frz e => exact .frz (s _ _ e)
  | tup e => exact .tup (s _ _ e)
  | dK e => exact .dK (s _ _ e)
  | dT e => exact .dT (s _ _ e)
section
variable (K : PySem.W.Frag)
theorem kit_int_int : PySem.W.kitOne K (.type "int") (.type "int") = some true := by kernel_rfl
theorem kit_int_bool : PySem.W.kitOne K (.type "int") (.type "bool") = some false := by kernel_rfl
theorem kit_bool_int : PySem.W.kitOne K (.type "bool") (.type "int") = some true := by kernel_rfl
theorem kit_bool_bool : PySem.W.kitOne K (.type "bool") (.type "bool") = some true := by kernel_rfl
end
theorem rel_ty {n : String} {K : PySem.W.Frag} {t : Value} {b : Bool} (h : PySem.W.kitOne K t (.type n) = some b) : ∀ u, RelV (.ty n) u → PySem.W.kitOne K t u = some b := fun u r => by
  cases (show u = Value.type n from r)
  exact h
/-! ### the promises -/
def spWhole (K : PySem.W.Frag) : Sp := fun vs H Q _ => ∃ v b, vs = [v] ∧ WholeIs K H v b ∧ Q (.bl b) H
theorem same_new {q : Addr} {H : Hp} {o : HO} (n : H q = none) : Same H (upd H q o) := fun b u h => by rw [upd_ne (ne_of_none h n)]; exact h
theorem abs_nn (i : Int) : 0 ≤ (if i < 0 then -i else i) := by split <;> omega
theorem cut_ints {ns : List Int} {lo hi : Option Int} : ∀ x ∈ cutV (ns.map V.int) lo hi, ∃ z, x = V.int z := fun x hx => by
  unfold cutV at hx
  obtain ⟨z, _, e⟩ := List.mem_map.mp (List.mem_of_mem_drop (List.mem_of_mem_take hx))
  exact ⟨z, e.symm⟩
/-! ### primes as tuples in a list -/
theorem same_upd {H H' : Hp} {l : Addr} {o : HO} (s : Same H H') (hl : H l = none) : Same H (upd H' l o) := fun b u e => by
  rw [upd_ne (ne_of_none e hl)]
  exact s _ _ e
/-! ### primes as data -/
/-! ### forms -/
theorem kit_tup_tup (K : PySem.W.Frag) : PySem.W.kitOne K (.type "tuple") (.type "tuple") = some true := by kernel_rfl

/-! ### a law's loop over its cells -/
theorem fn_mk {K : PySem.W.Frag} {x : Str} {st : Stmt} {f : Addr} {oc : Value} {od an : Option Addr} {osl : Array (Option Value)} {kV doc pm cdv ct : Value}
    (a : PySem.W.nsIn K mainGlobals x = some (some (.ref f)))
    (l : K.lookup f = some ⟨oc, od, .func (PySem.W.fnOf x x (defArgs st) (defBody st) (defScope st) .none kV doc pm an cdv ct), osl⟩)
    (c : PySem.W.codeIn K cdv x = true) (k : PySem.W.keepIn K (.ref f) = true) :
    ∃ (f : Addr) (fd : FuncData), PySem.W.nsIn K mainGlobals x = some (some (.ref f)) ∧ Fun K x x st f fd := ⟨f, _, a, fun_mk l c k⟩
def spLaw (K : PySem.W.Frag) : Sp := fun vs H Q _ => ∃ (a : Addr) (ns : List Int), vs = [.ref a] ∧ SqL K H a (ns.map V.int) ∧ ns.length ≤ 63 ∧ ∀ H', Q (.bl true) H'
theorem walk {l : PySem.W.OpenLaw} {q : Program} {loose : List Str} {XP : (Str → Option Value) → Heap → Prop} {YP : World → Heap → Prop} {d : DefRec} {K : Params → PySem.W.Frag} {k : Nat} (hr : Room k PySem.callerA) (hn : l.most = some 63) (hdf : d.params.defaults = [])
    (hY : ∀ (w : World) (h : Heap), YP w h → (K w.params).In h)
    (F : ∀ (w : World) (mg : Str → Option Value) (fa : Addr) (h : Heap), (K w.params).In h → h.Ns mainGlobals mg → mg d.name = some (.ref fa) →
      ∃ fd : FuncData, (∀ (s : Shared) (u : Value), BindsTo s fd ⟨[u], []⟩ [("_law_script", u)]) ∧ ∀ base : Heap, (K w.params).In base → base.Ns mainGlobals mg → FnOk l.prog w (K w.params) mg base CX0 k fa fd ["_law_script"] (spLaw (K w.params))) :
    PySem.W.WalkO q loose XP YP l.row.toRowW d [] (fun f vs => PySem.call f vs) :=
  L2.walk_of (n := 63) (k := k) (x := "_law_script") (CX := fun _ => CX0) (sp := fun w => spLaw (K w.params)) hn (by decide) hdf hr hY F (fun _ _ a ns hl _ hS => ⟨a, ns, rfl, hS, hl, fun _ => rfl⟩) fun _ _ _ _ _ z => z
abbrev At (K : PySem.W.Frag) (x : Str) (st : Stmt) : Prop := ∃ (f : Addr) (fd : FuncData), PySem.W.nsIn K mainGlobals x = some (some (.ref f)) ∧ Fun K x x st f fd

end E1
/-! EvLay: rules for sorted numbers, sets of numbers, lists taken so often, turned about, made of a range. Behind EvRange. -/
namespace L2
open PySem PySem.Spec PyProof.Rows
theorem ints_of_vals {ns : List Int} {us : List Value} (r : Vals (ns.map V.int) us) : IntsAre us ns := intsAre_of r
theorem vals_of_ints : ∀ {ns : List Int} {us : List Value}, IntsAre us ns → Vals (ns.map V.int) us
  | _, _, .nil => .nil
  | _, _, .cons n tk t => .cons ⟨tk, rfl⟩ (vals_of_ints t)
/-- sorted(list of numbers) -/
def rSortI (K : PySem.W.Frag) : List V → Hp → VK → Prop := fun xs H Q => ∃ (a : Addr) (ns : List Int), xs = [.ref a] ∧ SqL K H a (ns.map V.int) ∧ ns.length < 64 ∧ ∀ (l : Addr) (ns' : List Int), H l = none → ns'.Perm ns → ns'.Pairwise (· ≤ ·) → Q (.ref l) (upd H l (.lst (ns'.map V.int)))
theorem call_sortI {X : Cx} : CallR X (.builtin "sorted") (rSortI X.K) := by
  intro pins s σ H xs us Q I r h
  obtain ⟨a, ns, rfl, hq, h64, q⟩ := h
  obtain ⟨u, rfl, rx⟩ := vals1 r
  cases rx
  obtain ⟨its, r', pl, hz⟩ := I.list hq
  have hlen := r'.length
  rw [List.length_map] at hlen
  refine sorted_ints pl.isList (ints_of_vals r') (by omega) fun out ns' a1 a2 a3 => ?_
  obtain ⟨e, he⟩ := sortedAll_at s.heap its out
  have hl2 := a2.length_eq
  refine ⟨.ref (s.heap.objs.size + 1), _, I.laid (t' := s.toks) (o := .lst (ns'.map V.int)) (fun b o => sortedAll_old) (Nat.le_succ _) ?_, rfl, q _ _ (I.hok.fresh (Nat.le_succ _)) a2 a3⟩
  refine ⟨by rw [List.length_map, hl2]; exact Nat.le_trans (Nat.le_of_lt h64) (by decide), out.toList, e, vals_of_ints a1, ?_⟩
  rw [Array.toArray_toList]
  exact he
/-- list * number -/
def rMulL (K : PySem.W.Frag) : R2 := fun x y H Q => ∃ (a : Addr) (xs : List V) (n : Int), x = .ref a ∧ y = .int n ∧ SqL K H a xs ∧ n < 2 ^ 63 ∧ 0 ≤ n ∧ xs.length * n.toNat ≤ 65536 ∧ ∀ l, H l = none → Q (.ref l) (upd H l (.lst (List.replicate n.toNat xs).flatten))
theorem vals_flat {xs : List V} {us : List Value} (r : Vals xs us) : ∀ n, Vals (List.replicate n xs).flatten (List.replicate n us).flatten
  | 0 => .nil
  | n + 1 => by
    rw [List.replicate_succ, List.replicate_succ, List.flatten_cons, List.flatten_cons]
    exact r.append (vals_flat r n)
theorem op_mulL {X : Cx} : OpR X (binaryOp .Mult) (rMulL X.K) := by
  intro pins s σ H x y v u Q I rx ry h
  obtain ⟨a, xs, n, rfl, rfl, hx, hn, h0, hsz, q⟩ := h
  cases rx
  obtain ⟨tk, rfl⟩ := ry
  obtain ⟨its, r, pl, hz⟩ := I.list hx
  have hlen := r.length
  obtain ⟨⟨oc, od, odt, osl⟩, k, hl, e1, e2, e3⟩ := pl
  dsimp only at e1 e2 e3
  subst e1 e2 e3
  refine wpAny_binaryOp_repeat_ref (T := "list") (U := "int") (by decide) ⟨_, hl, rfl⟩ (fun s' => typeIs_int s' n tk) noFill_list_mul F.fills_int_mul F.slot_int_rmul repeat_list F.slot_int_index.lookup
    (call_meets F.slot_int_rmul (typeIs_int s n tk) F.entry_int_rmul (F.args_int_rmul_2 _ _) (lm_int_rmul_list_any n tk a its.toArray k _ _)
      ⟨hl, rfl, ⟨_, hl, rfl⟩, call_meets F.slot_list_mul ⟨_, hl, rfl⟩ F.entry_list_mul (F.args_list_mul_2 _ _)
        (lm_list_mul_any a its.toArray k _ _ n tk (by simp [Builtin.List.listFitsIndex]; omega) (by rw [List.size_toArray, ← hlen]; omega) (by rw [List.size_toArray, ← hlen]; simp [Builtin.List.listTooLong, sizeLine]; omega))
        ⟨hl, ?_⟩⟩)
  rw [listMul_foldl_if, List.toList_toArray]
  refine ⟨.ref s.heap.objs.size, _, I.laid (t' := s.toks) (o := .lst (List.replicate n.toNat xs).flatten) (fun b ob q => Heap.get?_push_of_some _ q) (Nat.le_refl _) ?_, rfl, q _ (I.hok.fresh (Nat.le_refl _))⟩
  refine ⟨?_, (List.replicate n.toNat its).flatten, 0, vals_flat r _, Heap.get?_push_size _ rfl⟩
  rw [List.length_flatten, List.map_replicate, List.sum_replicate_nat, Nat.mul_comm]
  exact Nat.le_trans hsz (by decide)
/-- a[::-1] -/
def rRev (K : PySem.W.Frag) : V → Hp → VK → Prop := fun x H Q => ∃ (a : Addr) (xs : List V), x = .ref a ∧ SqL K H a xs ∧ ∀ l, H l = none → Q (.ref l) (upd H l (.lst xs.reverse))
theorem vals_rev : ∀ {xs : List V} {us : List Value}, Vals xs us → Vals xs.reverse us.reverse
  | _, _, .nil => .nil
  | _, _, .cons h t => by
    rw [List.reverse_cons, List.reverse_cons]
    exact (vals_rev t).append (.cons h .nil)
/-! ### enumerate(list) -/
theorem Inv.turnedL {X : Cx} {pins : List (Addr × Obj)} {σ : St} {H : Hp} {s : Shared} {h' : Heap} {t' : Nat} {wr : List Addr} (I : Inv X pins σ H s) (k : ∀ b o, b ∉ wr → s.heap.get? b = some o → h'.get? b = some o) (hf : ∀ b ∈ wr, FpOk X pins H b) : Inv X pins σ H { s with heap := h', toks := t' } := by
  have nit : ∀ b u, H b = some u → b ∉ wr := fun b u e z => by rw [(hf b z).1] at e; cases e
  refine I.step (g' := s.gens) (d' := s.drawn) (ch := wr) (fun b hb => ?_) (fun b o _ _ hc e _ => k b o hc e) (fun b o _ _ hc e _ => ⟨o.slots, k b o hc e⟩) (fun _ _ _ _ n => n) (fun b o hc e => ⟨o, k b o hc e⟩) (fun _ _ e => e) (fun _ _ _ e => e) (fun b ps e => ⟨#[], by rw [e]; simp⟩) (fun m hm => ?_) (fun b u e => ?_) I.bare
  · obtain ⟨_, f1, _, f3, f4, f5⟩ := hf b hb
    exact ⟨f3, f1, f4, f5⟩
  · obtain ⟨o, es, ep, ho, r⟩ := hm
    exact ⟨o, es, ep, k _ o (fun z => (hf _ z).2.1 rfl) ho, r⟩
  · refine (I.hok b u e).stay (fun c v hc q => k c v ?_ q) (fun _ q => q) fun _ _ q => q
    rcases hc with z | z
    · exact z ▸ nit b u e
    · exact nit c _ z
theorem Inv.tracked {X : Cx} {pins : List (Addr × Obj)} {σ : St} {H : Hp} {s s' : Shared} {T : Addr} {o : HO} (I0 : Inv X pins σ H s) (I : Inv X pins σ H s') (hT : s.heap.objs.size ≤ T) (new : ObjOk X.prog X.w (upd H T o) s'.heap T o) : Inv X pins σ (upd H T o) s' := by
  obtain ⟨f0, f1, f2, f3, f4, f5⟩ := I0.fpOk (H' := H) hT (I0.hok.fresh hT)
  refine I.track f0 ?_ f1 f4 f5 new
  cases e : X.s₀.heap.get? T with
  | none => rfl
  | some ob => exact absurd (Nat.lt_of_lt_of_le (Heap.lt_size e) (Nat.le_trans I0.sz hT)) (Nat.lt_irrefl _)
section
variable {X : Cx} {elts : List Expr} {k : Nat} {tp : Pos}
end
theorem iteV {c : Bool} {t1 t2 : TS} {D : Ends} {σ : St} {H : Hp} (J : St → Hp → Prop) (hJ : ∀ σ' H', J σ' H' → D.nx σ' H') (h1 : c = true → (∀ σ' H', J σ' H' → D.nx σ' H') → t1 D σ H) (h2 : ¬ c = true → (∀ σ' H', J σ' H' → D.nx σ' H') → t2 D σ H) : if c = true then t1 D σ H else t2 D σ H := by
  by_cases h : c = true
  · rw [if_pos h]; exact h1 h hJ
  · rw [if_neg h]; exact h2 h hJ
/-- names of builtins that the text does not give -/
structure TxtB (mg : Str → Option Value) : Prop where
  isi : mg "isinstance" = none
  int : mg "int" = none
  bool : mg "bool" = none
  abs : mg "abs" = none
  len : mg "len" = none
  range : mg "range" = none
  tup : mg "tuple" = none
  lst : mg "list" = none
  sor : mg "sorted" = none
  all : mg "all" = none
  set : mg "set" = none
  zip : mg "zip" = none
  enu : mg "enumerate" = none
  any : mg "any" = none
  max : mg "max" = none
  min : mg "min" = none
  str : mg "str" = none
  sum : mg "sum" = none
/-- a block: a list of numbers -/
def nats (L : List Nat) : List V := L.map fun p => V.int ((p : Nat) : Int)
theorem nats_ints (L : List Nat) : nats L = (L.map fun p => ((p : Nat) : Int)).map V.int := by simp [nats]
theorem nats_snoc (L : List Nat) (j : Nat) : nats (L ++ [j]) = nats L ++ [V.int (j : Int)] := by unfold nats; rw [List.map_append]; rfl
theorem nats_len (L : List Nat) : (nats L).length = L.length := by unfold nats; rw [List.length_map]
/-- lists of blocks -/
def BlAt (H : Hp) : List V → List (List Nat) → Prop
  | [], [] => True
  | v :: vs, b :: bs => (∃ a, v = .ref a ∧ H a = some (.lst (nats b))) ∧ BlAt H vs bs
  | _, _ => False
theorem BlAt.len {H : Hp} : ∀ {vs : List V} {bs : List (List Nat)}, BlAt H vs bs → vs.length = bs.length
  | [], [], _ => rfl
  | _ :: _, _ :: _, h => by rw [List.length_cons, List.length_cons, BlAt.len h.2]
theorem BlAt.imp {H H' : Hp} : ∀ {vs : List V} {bs : List (List Nat)}, BlAt H vs bs → (∀ a xs, V.ref a ∈ vs → H a = some (.lst xs) → H' a = some (.lst xs)) → BlAt H' vs bs
  | [], [], _, _ => trivial
  | v :: vs, b :: bs, ⟨⟨a, e, q⟩, r⟩, k => ⟨⟨a, e, k a _ (e ▸ List.mem_cons_self ..) q⟩, r.imp fun a xs h1 h2 => k a xs (List.mem_cons_of_mem _ h1) h2⟩
theorem BlAt.same {H H' : Hp} (s : Same H H') {vs : List V} {bs : List (List Nat)} (h : BlAt H vs bs) : BlAt H' vs bs := h.imp fun a xs _ q => s _ _ q
theorem BlAt.snoc {H : Hp} {a : Addr} {b : List Nat} (e : H a = some (.lst (nats b))) : ∀ {vs : List V} {bs : List (List Nat)}, BlAt H vs bs → BlAt H (vs ++ [.ref a]) (bs ++ [b])
  | [], [], _ => ⟨⟨a, rfl, e⟩, trivial⟩
  | _ :: _, _ :: _, h => ⟨h.1, h.2.snoc e⟩
theorem BlAt.get {H : Hp} : ∀ {vs : List V} {bs : List (List Nat)} {i : Nat} {v : V}, BlAt H vs bs → vs[i]? = some v → ∃ a b, v = .ref a ∧ bs[i]? = some b ∧ H a = some (.lst (nats b))
  | v :: vs, b :: bs, 0, _, h, e => by
    cases e
    obtain ⟨a, e, q⟩ := h.1
    exact ⟨a, b, e, rfl, q⟩
  | _ :: vs, _ :: bs, i + 1, v, h, e => BlAt.get (i := i) h.2 e
theorem BlAt.take {H : Hp} : ∀ {vs : List V} {bs : List (List Nat)} (n : Nat), BlAt H vs bs → BlAt H (vs.take n) (bs.take n)
  | [], [], _, _ => by simp [BlAt]
  | _ :: _, _ :: _, 0, _ => trivial
  | _ :: _, _ :: _, n + 1, h => ⟨h.1, h.2.take n⟩
/-- tuples of blocks, rising -/
def TpAt (H : Hp) : List V → List (List Nat) → Prop
  | [], [] => True
  | v :: vs, b :: bs => (∃ a, v = .ref a ∧ H a = some (.tup (nats b))) ∧ TpAt H vs bs
  | _, _ => False
theorem TpAt.len {H : Hp} : ∀ {vs : List V} {bs : List (List Nat)}, TpAt H vs bs → vs.length = bs.length
  | [], [], _ => rfl
  | _ :: _, _ :: _, h => by rw [List.length_cons, List.length_cons, TpAt.len h.2]
theorem TpAt.same {H H' : Hp} (s : ∀ a xs, H a = some (.tup xs) → H' a = some (.tup xs)) : ∀ {vs : List V} {bs : List (List Nat)}, TpAt H vs bs → TpAt H' vs bs
  | [], [], _ => trivial
  | v :: vs, b :: bs, ⟨⟨a, e, q⟩, r⟩ => ⟨⟨a, e, s _ _ q⟩, r.same s⟩
theorem TpAt.snoc {H : Hp} {a : Addr} {b : List Nat} (e : H a = some (.tup (nats b))) : ∀ {vs : List V} {bs : List (List Nat)}, TpAt H vs bs → TpAt H (vs ++ [.ref a]) (bs ++ [b])
  | [], [], _ => ⟨⟨a, rfl, e⟩, trivial⟩
  | _ :: _, _ :: _, h => ⟨h.1, h.2.snoc e⟩
theorem TpAt.get {H : Hp} : ∀ {vs : List V} {bs : List (List Nat)} {i : Nat} {v : V}, TpAt H vs bs → vs[i]? = some v → ∃ a b, v = .ref a ∧ bs[i]? = some b ∧ H a = some (.tup (nats b))
  | v :: vs, b :: bs, 0, _, h, e => by
    cases e
    obtain ⟨a, e, q⟩ := h.1
    exact ⟨a, b, e, rfl, q⟩
  | _ :: vs, _ :: bs, i + 1, v, h, e => TpAt.get (i := i) h.2 e
/-- a block below p -/
structure Blk (p : Nat) (b : List Nat) : Prop where
  nd : b.Nodup
  lt : ∀ x ∈ b, x < p
theorem nodup_le : ∀ (n : Nat) (b : List Nat), b.Nodup → (∀ x ∈ b, x < n) → b.length ≤ n
  | 0, [], _, _ => Nat.le_refl _
  | 0, x :: b, _, h => absurd (h x (List.mem_cons_self ..)) (Nat.not_lt_zero _)
  | n + 1, b, hn, hl => by
    have h1 := nodup_le n (b.filter (fun x => decide (x ≠ n))) (hn.filter _) (fun x hx => by
      have := List.mem_filter.mp hx
      have h2 := hl x this.1
      have h3 : x ≠ n := of_decide_eq_true this.2
      omega)
    by_cases hm : n ∈ b
    · have e : b.length = (b.filter (fun x => decide (x ≠ n))).length + 1 := by
        clear h1 hl
        induction b with
        | nil => cases hm
        | cons y b ih =>
          rw [List.nodup_cons] at hn
          by_cases hy : y = n
          · subst hy
            rw [List.filter_cons_of_neg (by simp)]
            have : b.filter (fun x => decide (x ≠ y)) = b := List.filter_eq_self.mpr fun x hx => decide_eq_true fun z => hn.1 (z ▸ hx)
            rw [this]; rfl
          · rw [List.filter_cons_of_pos (by simpa using hy)]
            have hm' : n ∈ b := (List.mem_cons.mp hm).resolve_left (fun z => hy z.symm)
            simp only [List.length_cons]
            rw [ih hn.2 hm']
      omega
    · have : b.filter (fun x => decide (x ≠ n)) = b := List.filter_eq_self.mpr fun x hx => decide_eq_true fun z => hm (z ▸ hx)
      rw [this] at h1
      omega
theorem Blk.len {p : Nat} {b : List Nat} (h : Blk p b) : b.length ≤ p := nodup_le p b h.nd h.lt
theorem Blk.perm {p : Nat} {b c : List Nat} (h : Blk p b) (e : c.Perm b) : Blk p c := ⟨e.nodup_iff.mpr h.nd, fun x hx => h.lt x (e.mem_iff.mp hx)⟩
/-! ### a list or a tuple, gone through -/
/-! ### rules that name K, for comprehensions -/
def rLenQ (K : PySem.W.Frag) : List V → Hp → VK → Prop := fun xs H Q => ∃ p ys, xs = [.ref p] ∧ (SqL K H p ys ∨ SqT K H p ys) ∧ Q (.int ys.length) H
theorem call_lenQ {X : Cx} : CallR X (.builtin "len") (rLenQ X.K) := call_len_seq
theorem TpAt.sm {H H' : Hp} (s : Same H H') {vs : List V} {bs : List (List Nat)} (h : TpAt H vs bs) : TpAt H' vs bs := h.same fun a xs q => s _ _ q
theorem back_nats {b : List Nat} {ns : List Int} (hp : ns.Perm (b.map fun p => ((p : Nat) : Int))) (hs : ns.Pairwise (· ≤ ·)) : ∃ b' : List Nat, ns.map V.int = nats b' ∧ b'.Perm b ∧ b'.Pairwise (· ≤ ·) := by
  have hnn : ∀ x ∈ ns, 0 ≤ x := fun x hx => by
    obtain ⟨p, _, rfl⟩ := List.mem_map.mp (hp.mem_iff.mp hx)
    omega
  have e : ns = (ns.map Int.toNat).map fun p => ((p : Nat) : Int) := by
    rw [List.map_map]
    conv => lhs; rw [← List.map_id ns]
    exact List.map_congr_left fun x hx => by
      have := hnn x hx
      show x = ((x.toNat : Nat) : Int)
      omega
  refine ⟨ns.map Int.toNat, ?_, ?_, ?_⟩
  · rw [nats_ints, ← e]
  · have := hp.map Int.toNat
    rw [List.map_map] at this
    have e2 : (b.map (Int.toNat ∘ fun p => ((p : Nat) : Int))) = b := by
      conv => rhs; rw [← List.map_id b]
      exact List.map_congr_left fun x _ => by simp
    rwa [e2] at this
  · rw [List.pairwise_map]
    exact hs.imp fun h => by omega
theorem nats_get {b : List Nat} {j : Nat} {x : V} (h : (nats b)[j]? = some x) : ∃ p : Nat, b[j]? = some p ∧ x = V.int ((p : Nat) : Int) := by
  unfold nats at h
  rw [List.getElem?_map] at h
  cases e : b[j]? with
  | none => rw [e] at h; cases h
  | some p => rw [e] at h; cases h; exact ⟨p, rfl, rfl⟩
theorem TpAt.app {H : Hp} : ∀ {vs ws : List V} {bs cs : List (List Nat)}, TpAt H vs bs → TpAt H ws cs → TpAt H (vs ++ ws) (bs ++ cs)
  | [], _, [], _, _, h => h
  | _ :: _, _, _ :: _, _, h, h' => ⟨h.1, h.2.app h'⟩
theorem ints_isD' {K : PySem.W.Frag} {H : Hp} : ∀ L : List Nat, IsDs K H (L.map fun p => PyData.int ((p : Nat) : Int)) (nats L)
  | [] => by simp [nats, IsDs]
  | p :: L => by
    simp only [nats, List.map_cons, IsDs]
    exact ⟨_, _, rfl, by simp [IsD], ints_isD' L⟩
theorem lay_ints' : ∀ L : List Nat, PyData.canLayAll0 (L.map fun p => PyData.int ((p : Nat) : Int)) = true
  | [] => by simp [PyData.canLayAll0]
  | x :: L => by simp [PyData.canLayAll0, PyData.canLay0, lay_ints' L]
theorem depth_ints' : ∀ L : List Nat, PyData.depthAll (L.map fun p => PyData.int ((p : Nat) : Int)) ≤ 1
  | [] => by simp [PyData.depthAll]
  | x :: L => by
    have := depth_ints' L
    simp [PyData.depthAll, PyData.depth]
    omega
def dBlk (L : List Nat) : PyData := .list (L.map fun p => PyData.int ((p : Nat) : Int))
theorem shaped_blk (L : List Nat) : PySem.SeqAt.shaped (dBlk L) = true := by
  unfold PySem.SeqAt.shaped dBlk
  rw [Bool.and_eq_true]
  refine ⟨by simp only [PyData.canLay0]; exact lay_ints' L, decide_eq_true ?_⟩
  have := depth_ints' L
  simp only [PyData.depth]
  omega
theorem cut_from {xs : List V} {k : Nat} (hk : k ≤ xs.length) : cutV xs (some (k : Int)) none = xs.drop k := by
  unfold cutV
  have h1 : HT.sIx xs.length 0 (some (k : Int)) = k := by rw [HT.sIx_nat]; omega
  have h2 : HT.sIx xs.length xs.length none = xs.length := by simp [HT.sIx]
  rw [h1, h2, List.take_of_length_le (by rw [List.length_drop]; exact Nat.le_refl _)]
theorem cut_to {xs : List V} {k : Nat} (hk : k ≤ xs.length) : cutV xs none (some (k : Int)) = xs.take k := by
  unfold cutV
  have h1 : HT.sIx xs.length 0 none = 0 := by simp [HT.sIx]
  have h2 : HT.sIx xs.length xs.length (some (k : Int)) = k := by rw [HT.sIx_nat]; omega
  rw [h1, h2, List.drop_zero, Nat.sub_zero]
theorem seqVia {t rest : TS} {D : Ends} {σ : St} {H : Hp} (J : St → Hp → Prop) (hJ : ∀ σ' H', J σ' H' → rest D σ' H') (h : ∀ D' : Ends, (∀ σ' H', J σ' H' → D'.nx σ' H') → t D' σ H) : tSeq t rest D σ H := h { D with nx := rest D } hJ
def dTup (L : List Nat) : PyData := .tuple (L.map fun p => PyData.int ((p : Nat) : Int))
theorem tps_isD {K : PySem.W.Frag} {H : Hp} : ∀ {vs : List V} {bs : List (List Nat)}, TpAt H vs bs → IsDs K H (bs.map dTup) vs
  | [], [], _ => by simp [IsDs]
  | v :: vs, b :: bs, ⟨⟨a, e, q⟩, r⟩ => by
    simp only [List.map_cons, IsDs]
    refine ⟨v, vs, rfl, ?_, tps_isD r⟩
    simp only [dTup, IsD]
    exact ⟨a, _, e, SqT.of q, ints_isD' b⟩
theorem lay_tps : ∀ bs : List (List Nat), PyData.canLayAll0 (bs.map dTup) = true
  | [] => by simp [PyData.canLayAll0]
  | b :: bs => by
    have h1 := lay_ints' b
    simp only [List.map_cons, PyData.canLayAll0, dTup, PyData.canLay0, h1, lay_tps bs, Bool.and_self, Bool.true_and]
theorem depth_tps : ∀ bs : List (List Nat), PyData.depthAll (bs.map dTup) ≤ 2
  | [] => by simp [PyData.depthAll]
  | b :: bs => by
    have h1 := depth_ints' b
    have h2 := depth_tps bs
    simp only [List.map_cons, PyData.depthAll, dTup, PyData.depth]
    omega
theorem TpAt.take {H : Hp} : ∀ {vs : List V} {bs : List (List Nat)} (n : Nat), TpAt H vs bs → TpAt H (vs.take n) (bs.take n)
  | [], [], _, _ => by simp [TpAt]
  | _ :: _, _ :: _, 0, _ => trivial
  | _ :: _, _ :: _, n + 1, h => ⟨h.1, h.2.take n⟩
theorem TpAt.set {H : Hp} {a : Addr} {b : List Nat} (e : H a = some (.tup (nats b))) : ∀ {vs : List V} {bs : List (List Nat)} (n : Nat), TpAt H vs bs → TpAt H (vs.set n (.ref a)) (bs.set n b)
  | [], [], _, _ => trivial
  | _ :: _, _ :: _, 0, h => ⟨⟨a, rfl, e⟩, h.2⟩
  | _ :: _, _ :: _, n + 1, h => ⟨h.1, h.2.set e n⟩
theorem cut_le {xs : List V} {k : Nat} : cutV xs none (some (k : Int)) = xs.take k := by
  by_cases hk : k ≤ xs.length
  · exact cut_to hk
  · unfold cutV
    have h1 : HT.sIx xs.length 0 none = 0 := by simp [HT.sIx]
    have h2 : HT.sIx xs.length xs.length (some (k : Int)) = xs.length := by rw [HT.sIx_nat]; omega
    rw [h1, h2, List.drop_zero, Nat.sub_zero, List.take_length, List.take_of_length_le (by omega)]
/-! ### a[i] += .. -/
end L2
/-! EvSort: sorted of a list of pairs of numbers: the same pairs in some order. Behind EvLay. -/
namespace L2
open PySem PySem.Spec PyProof.Rows PySem.W
/-- all ends of a tree of questions, the questions below n -/
def KAll {α : Type} (n : Nat) (R : α → Prop) : KasT α → Prop
  | .ret a => R a
  | .ask i j k => i < n ∧ j < n ∧ ∀ b, KAll n R (k b)
theorem KAll.bind {α β : Type} {n : Nat} {R : α → Prop} {S : β → Prop} {f : α → KasT β} : ∀ {t : KasT α}, KAll n R t → (∀ a, R a → KAll n S (f a)) → KAll n S (t.bind f)
  | .ret a, h, hf => hf a h
  | .ask i j k, h, hf => ⟨h.1, h.2.1, fun b => KAll.bind (h.2.2 b) hf⟩
theorem KAll.wp {α : Type} {n : Nat} {R : α → Prop} {cmp : Nat → Nat → (Bool → Shared → Prop) → Shared → Prop} {Q : α → Shared → Prop} {s : Shared} (hc : ∀ i j C, i < n → j < n → (∀ b, C b s) → cmp i j C s) (hq : ∀ a, R a → Q a s) : ∀ {t : KasT α}, KAll n R t → t.kasWp cmp Q s
  | .ret a, h => hq a h
  | .ask i j k, h => hc i j _ h.1 h.2.1 fun b => KAll.wp hc hq (h.2.2 b)
/-- an order of the first n numbers -/
def Ord (n : Nat) (p : Array Nat) : Prop := p.toList.Perm (List.range n)
theorem Ord.lt {n : Nat} {p : Array Nat} (h : Ord n p) (hn : 0 < n) (k : Nat) : p.getD k 0 < n := by
  by_cases hk : k < p.size
  · have : p.getD k 0 ∈ p.toList := by
      have e : p.getD k 0 = p[k] := by simp [hk]
      rw [e]
      exact Array.mem_toList_iff.mpr (Array.getElem_mem hk)
    exact List.mem_range.mp (h.mem_iff.mp this)
  · have : p.getD k 0 = 0 := by simp [hk]
    omega
theorem Ord.rev {n : Nat} {p : Array Nat} (h : Ord n p) (i j : Nat) : Ord n (kas_rev p i j) := ((mirror_perm p i j _).toList).trans h
theorem Ord.bub {n : Nat} {p : Array Nat} (h : Ord n p) (k d : Nat) : Ord n (bubble p k d) := ((bubble_perm p k d).toList).trans h
section
variable {n : Nat} (hn : 0 < n)
include hn
theorem all_asc {p : Array Nat} (h : Ord n p) : ∀ f k, KAll n (fun _ => True) (kas_asc p f k)
  | 0, _ => trivial
  | f + 1, k => ⟨h.lt hn _, h.lt hn _, fun b => by
    cases b
    · exact all_asc h f (k + 1)
    · exact trivial⟩
theorem all_desc : ∀ f {p : Array Nat} (k q : Nat), Ord n p → KAll n (fun r => Ord n r.1) (kas_desc f p k q)
  | 0, _, _, _, h => h
  | f + 1, p, k, q, h => ⟨h.lt hn _, h.lt hn _, fun b => by
    cases b
    · exact ⟨h.lt hn _, h.lt hn _, fun c => by
        cases c
        · exact all_desc f _ _ h
        · exact h⟩
    · show KAll n _ (if q > 0 then kas_desc f (kas_rev p (k - (q + 1)) k) (k + 1) 0 else kas_desc f p (k + 1) 0)
      split
      · exact all_desc f _ _ (h.rev _ _)
      · exact all_desc f _ _ h⟩
theorem all_tail3 {p : Array Nat} (h : Ord n p) (k m : Nat) : KAll n (fun r => Ord n r.2) (kas_tail3 k m p) := (all_asc hn (h.rev 0 k) _ _).bind fun _ _ => h.rev 0 k
theorem all_descPart {p : Array Nat} (h : Ord n p) (k m : Nat) : KAll n (fun r => Ord n r.2) (kas_descPart k m p) := (all_desc hn _ _ _ h).bind fun r hr => by
  split
  · exact all_tail3 hn (hr.rev _ _) _ _
  · exact all_tail3 hn hr _ _
theorem all_count {p : Array Nat} (h : Ord n p) (m : Nat) : KAll n (fun r => Ord n r.2) (kas_count m p) := (all_asc hn h _ _).bind fun k _ => by
  split
  · exact h
  · split
    · exact ⟨h.lt hn _, h.lt hn _, fun b => by
        cases b
        · exact all_descPart hn (h.rev _ _) _ _
        · exact h⟩
    · exact all_descPart hn h _ _
theorem all_place {p : Array Nat} (h : Ord n p) (k : Nat) : ∀ f l r, KAll n (fun _ => True) (kas_place p k f l r)
  | 0, _, _ => trivial
  | f + 1, l, r => by
    unfold kas_place
    split
    · trivial
    · exact ⟨h.lt hn _, h.lt hn _, fun b => by
        cases b
        · exact all_place h k f _ _
        · exact all_place h k f _ _⟩
theorem all_bin : ∀ f {p : Array Nat} (k : Nat), Ord n p → KAll n (Ord n) (kas_bin f p k)
  | 0, _, _, h => h
  | f + 1, p, k, h => (all_place hn h k _ _ _).bind fun l _ => all_bin f (k + 1) (h.bub _ _)
theorem all_sort : KAll n (Ord n) (kas_sort n) := (all_count hn (p := List.toArray (List.range n)) (by unfold Ord; simp) n).bind fun r hr => by
  split
  · exact all_bin hn _ _ hr
  · exact hr
end
/-- a pair of numbers, in the heap -/
def PrAt (h : Heap) (v : Value) : Prop := ∃ (x : Addr) (o : Obj) (k : Nat) (a b : Int) (t u : Tok), v = .ref x ∧ h.get? x = some o ∧ o.cls = .type "tuple" ∧ o.data = .seq #[.int a t, .int b u] k
theorem prs_tups {h : Heap} : ∀ {vs : List Value}, (∀ v ∈ vs, PrAt h v) → ∃ fs : List Value, KatTups h vs fs ∧ fs.length = vs.length ∧ ∀ f ∈ fs, ∃ (a : Int) (t : Tok), f = .int a t
  | [], _ => ⟨[], trivial, rfl, by simp⟩
  | v :: vs, hv => by
    obtain ⟨fs, h1, h2, h3⟩ := prs_tups (vs := vs) fun w hw => hv w (List.mem_cons_of_mem _ hw)
    obtain ⟨x, o, k, a, b, t, u, e, ho, hc, hd⟩ := hv v (List.mem_cons_self ..)
    refine ⟨.int a t :: fs, ⟨⟨x, o, _, k, e, ho, hc, hd, rfl⟩, h1⟩, by simp [h2], fun f hf => ?_⟩
    rcases List.mem_cons.mp hf with e | e
    · exact ⟨a, t, e⟩
    · exact h3 f e
section
variable {prog : Program} {w : World} {A : Around} {E : Value → Shared → Prop} {s : Shared}
theorem pr_lt {v v' : Value} {C : Bool → Shared → Prop} (hv : PrAt s.heap v) (hv' : PrAt s.heap v') (hC : ∀ b, C b s) : wpAny (model prog w) A (keyLt' (tuples' true) v v') C (fun _ _ => False) s := by
  obtain ⟨x, o, k, a, b, t, u, rfl, ho, hc, hd⟩ := hv
  obtain ⟨x', o', k', a', b', t', u', rfl, ho', hc', hd'⟩ := hv'
  refine kat_lt ho hd ho' hd' (kat_cons (wpAny_eqBool_int ?_))
  refine kat_go (fun _ => kat_yes ?_) (fun _ => kat_no ?_)
  · refine kat_cons (wpAny_eqBool_int (kat_go (fun _ => kat_yes (kat_nil (hC _))) (fun _ => kat_no ?_)))
    exact kat_one _ _ (lt_int (hC _))
  · exact kat_lt_int (hC _)
theorem map_getD (vs : List Value) : ((List.range vs.length).map fun i => vs.getD i Value.none) = vs := by
  apply List.ext_getElem
  · simp
  · intro i h1 h2
    simp [List.getElem_map, List.getElem_range, h2]
theorem list_sortP {a : Addr} {vs : List Value} {n : Nat} {Z : PySem.Fin → Shared → Prop} (ho : s.heap.get? a = some (seqObj "list" vs.toArray n)) (h64 : vs.length < 64) (hv : ∀ v ∈ vs, PrAt s.heap v)
    (h : ∀ out : List Value, out.Perm vs → Z (.done (.ret .none)) { s with heap := sortedHeap s.heap a vs out.toArray }) : wpAny (model prog w) A (Builtin.«list.sort» ⟨[.ref a], []⟩) Z E s := by
  have hlt : a < s.heap.objs.size := Heap.lt_size ho
  obtain ⟨c1, g1⟩ : ∃ c1, (s.heap.update a (Obj.mapSeq fun _ => #[])).get? a = some (seqObj "list" #[] c1) := ⟨_, get?_update_seq ho (fun _ => #[])⟩
  have up : ∀ b o, b ≠ a → s.heap.get? b = some o → (((s.heap.update a (Obj.mapSeq fun _ => #[])).push (seqObj "tuple" vs.toArray 0)).push (seqObj "list" #[] 0)).get? b = some o := fun b o nb q => by
    refine Heap.get?_push_of_some _ (Heap.get?_push_of_some _ ?_)
    rw [Heap.get?_update_ne _ _ _ _ nb]
    exact q
  have g6 : (((s.heap.update a (Obj.mapSeq fun _ => #[])).push (seqObj "tuple" vs.toArray 0)).push (seqObj "list" #[] 0)).get? a = some (seqObj "list" #[] c1) := Heap.get?_push_of_some _ (Heap.get?_push_of_some _ g1)
  rw [list_sort_plain]
  refine wpAny_bind (listItems_at ho rfl (wpAny_bind (listUpdate_at ho rfl ?_ (by rw [List.size_toArray, sizeLine_eq]; omega) (Nat.zero_le _))))
  refine wpAny_bind (seqEpoch_at g1 rfl (wpAny_bind (wpAny_newTuple ?_ (show vs.length ≤ sizeLine by rw [sizeLine_eq]; omega))))
  refine wpAny_bind (wpAny_newList (wpAny_holding ?_) (Nat.zero_le _))
  show wpAny (model prog w) A _ Z E { s with heap := ((s.heap.update a (Obj.mapSeq fun _ => #[])).push (seqObj "tuple" vs.toArray 0)).push (seqObj "list" #[] 0) }
  dsimp only
  by_cases h2 : vs.toArray.size < 2
  · rw [if_pos h2, if_pos h2]
    refine wpAny_bind (wpAny_pure ?_)
    rw [StateT.run_pure]
    refine wpAny_bind (wpAny_pure ?_)
    dsimp only
    refine wpAny_bind (seqEpoch_at g6 rfl (wpAny_bind (listUpdate_at g6 rfl ?_ (Nat.zero_le _) (by rw [Array.size_map]; show (pairsOf vs).size ≤ _; rw [pairsOf_size, sizeLine_eq]; omega))))
    simp only [bne_self_eq_false, Bool.false_eq_true, if_false]
    have e : (arrOf (SortSt.mk' general' (vs.toArray.zip vs.toArray) #[] 7 none)).map (·.2) = vs.toArray := by
      show (vs.toArray.zip vs.toArray).map (·.2) = vs.toArray
      apply Array.toList_inj.mp
      simp [List.map_snd_zip]
    have := h vs (List.Perm.refl _)
    refine wpAny_pure ?_
    rw [e]
    exact this
  · rw [if_neg h2, if_neg h2]
    rw [List.size_toArray] at h2
    obtain ⟨fs, hT, hfl, hfi⟩ := prs_tups (h := ((s.heap.update a (Obj.mapSeq fun _ => #[])).push (seqObj "tuple" vs.toArray 0)).push (seqObj "list" #[] 0)) (vs := vs) fun v hv' => by
      obtain ⟨x, o, k, p, q, t, u, e, hx, hc, hd⟩ := hv v hv'
      exact ⟨x, o, k, p, q, t, u, e, up _ _ (fun z => by rw [z, ho] at hx; cases hx; injection (show Value.type "list" = Value.type "tuple" from hc) with e'; exact absurd e' (by decide)) hx, hc, hd⟩
    refine wpAny_bind (kat_kind (T := .type "int") hT (by omega) (fun f hf => ?_) rfl ?_)
    · obtain ⟨p, t, rfl⟩ := hfi f hf
      exact Looks.now
    show wpAny (model prog w) A _ Z E _
    have run : (kas_sort vs.length).kasWp (kas_ask prog w A (tuples' true) vs) (fun p s' => Ord vs.length p ∧ s' = { s with heap := ((s.heap.update a (Obj.mapSeq fun _ => #[])).push (seqObj "tuple" vs.toArray 0)).push (seqObj "list" #[] 0) }) { s with heap := ((s.heap.update a (Obj.mapSeq fun _ => #[])).push (seqObj "tuple" vs.toArray 0)).push (seqObj "list" #[] 0) } :=
      KAll.wp (n := vs.length) (fun i j C hi hj hC => by
        have pr : ∀ k, k < vs.length → PrAt (((s.heap.update a (Obj.mapSeq fun _ => #[])).push (seqObj "tuple" vs.toArray 0)).push (seqObj "list" #[] 0)) (vs.getD k Value.none) := fun k hk => by
          have em : vs.getD k Value.none = vs[k] := by simp [hk]
          rw [em]
          obtain ⟨x, o, k', p, q, t, u, e, hx, hc, hd⟩ := hv _ (List.getElem_mem hk)
          exact ⟨x, o, k', p, q, t, u, e, up _ _ (fun z => by rw [z, ho] at hx; cases hx; injection (show Value.type "list" = Value.type "tuple" from hc) with e'; exact absurd e' (by decide)) hx, hc, hd⟩
        exact pr_lt (pr i hi) (pr j hj) hC) (fun p hp => ⟨hp, rfl⟩) (all_sort (by omega))
    refine wpAny_bind (wpAny_mono (kat_run (Q := fun st' s' => ∃ p : Array Nat, arrOf st' = p.map (kas_item (vs.toArray.zip vs.toArray)) ∧ failedOf st' = none ∧ Ord vs.length p ∧ s' = { s with heap := ((s.heap.update a (Obj.mapSeq fun _ => #[])).push (seqObj "tuple" vs.toArray 0)).push (seqObj "list" #[] 0) })
      rfl (by omega) h64 (fun p st' s' _ q2 q3 q4 => ⟨p, q2, q3, q4.1, q4.2⟩) run) ?_ fun _ _ e => e)
    rintro ⟨⟨⟩, st'⟩ s' ⟨p, har, hf, hp, rfl⟩
    dsimp only
    have eo := kat_snds rfl har
    have hpm : (p.toList.map fun i => vs.getD i Value.none).Perm vs := by
      have := hp.map fun i => vs.getD i Value.none
      rwa [map_getD] at this
    have fin := h _ hpm
    rw [eo]
    refine wpAny_bind (seqEpoch_at g6 rfl (wpAny_bind (listUpdate_at g6 rfl ?_ (Nat.zero_le _) (by rw [List.size_toArray, hpm.length_eq, sizeLine_eq]; omega))))
    rw [hf]
    simp only [bne_self_eq_false, Bool.false_eq_true, if_false]
    exact wpAny_pure fin
theorem sorted_prs {l : Addr} {vs : List Value} {Q : Value → Shared → Prop} (hl : s.heap.IsList l vs.toArray) (h64 : vs.length < 64) (hv : ∀ v ∈ vs, PrAt s.heap v)
    (h : ∀ out : List Value, out.Perm vs → Q (.ref (s.heap.objs.size + 1)) { s with heap := sortedAll s.heap vs out.toArray }) : wpAny (model prog w) A (call (.builtin "sorted") [.ref l]) Q E s := by
  refine Calls.call_function_entry kind_sorted plain_sorted entry_sorted (args_sorted1 _) ?_
  unfold Builtin.«sorted»
  refine wpAny_bind (m := checkCount "sorted" 1 1 _) (wpAny_pure (wpAny_bind (collect_list hl (wpAny_bind (wpAny_newList ?_ (by rw [sizeLine_eq]; omega))) (by rw [sizeLine_eq]; omega))))
  have n1 : ((s.heap.push (seqObj "list" #[] 0)).update s.heap.objs.size (Obj.mapSeq (· ++ vs.toArray))).objs.size = s.heap.objs.size + 1 := by rw [Heap.size_update, size_push']
  have up : ∀ b o, s.heap.get? b = some o → (((s.heap.push (seqObj "list" #[] 0)).update s.heap.objs.size (Obj.mapSeq (· ++ vs.toArray))).push (seqObj "list" vs.toArray 0)).get? b = some o := fun b o q => by
    refine Heap.get?_push_of_some _ ?_
    rw [Heap.get?_update_ne _ _ _ _ (Nat.ne_of_lt (Heap.lt_size q))]
    exact Heap.get?_push_of_some _ q
  have g2 : (((s.heap.push (seqObj "list" #[] 0)).update s.heap.objs.size (Obj.mapSeq (· ++ vs.toArray))).push (seqObj "list" vs.toArray 0)).get? (s.heap.objs.size + 1) = some (seqObj "list" vs.toArray 0) := by
    rw [← n1]; exact Heap.get?_push_size _ rfl
  show wpAny _ _ _ _ _ { s with heap := ((s.heap.push (seqObj "list" #[] 0)).update s.heap.objs.size (Obj.mapSeq (· ++ vs.toArray))).push (seqObj "list" vs.toArray 0) }
  rw [n1]
  refine wpAny_bind (wpAny_holding (wpAny_call_entry slot_list_sort ⟨_, g2, rfl⟩ entry_list_sort (list_sortP g2 h64 (fun v hv' => ?_) fun out hp => ⟨_, rfl, wpAny_pure ⟨_, rfl, h out hp⟩⟩) (args_list_sort _)))
  obtain ⟨x, o, k, p, q, t, u, e, hx, hc, hd⟩ := hv v hv'
  exact ⟨x, o, k, p, q, t, u, e, up _ _ hx, hc, hd⟩
end
/-- pairs of numbers, by values -/
def PrsAt (H : Hp) : List V → List (Int × Int) → Prop
  | [], [] => True
  | v :: vs, x :: xs => (∃ a, v = .ref a ∧ H a = some (.tup [.int x.1, .int x.2])) ∧ PrsAt H vs xs
  | _, _ => False
theorem PrsAt.val {X : Cx} {pins : List (Addr × Obj)} {σ : St} {H : Hp} {s : Shared} (I : Inv X pins σ H s) : ∀ {vs : List V} {xs : List (Int × Int)} {us : List Value}, PrsAt H vs xs → Vals vs us → (∀ u ∈ us, PrAt s.heap u) ∧ vs = us.map fun u => V.ref (match u with | .ref a => a | _ => 0)
  | [], [], _, _, r => by cases r; exact ⟨by simp, rfl⟩
  | v :: vs, x :: xs, _, ⟨⟨a, e, q⟩, hr⟩, r => by
    cases r with
    | cons h t =>
      subst e
      cases h
      obtain ⟨h1, h2⟩ := PrsAt.val I hr t
      obtain ⟨its, rv, ⟨o, ho, hc, n, hd⟩, _⟩ := I.tuple (SqT.of q)
      refine ⟨fun u hu => ?_, by rw [List.map_cons, ← h2]⟩
      rcases List.mem_cons.mp hu with e | e
      · cases rv with
        | cons r1 rr =>
          cases rr with
          | cons r2 rr =>
            cases rr
            obtain ⟨t1, rfl⟩ := r1
            obtain ⟨t2, rfl⟩ := r2
            exact ⟨a, o, n, _, _, _, _, e, ho, hc, hd⟩
      · exact h1 u e
/-- sorted(list of pairs): the same refs in some order -/
def rSortP (K : PySem.W.Frag) : List V → Hp → VK → Prop := fun xs H Q => ∃ (a : Addr) (vs : List V) (ps : List (Int × Int)), xs = [.ref a] ∧ SqL K H a vs ∧ PrsAt H vs ps ∧ vs.length < 64 ∧ ∀ (l : Addr) (vs' : List V), H l = none → vs'.Perm vs → Q (.ref l) (upd H l (.lst vs'))
theorem call_sortP {X : Cx} : CallR X (.builtin "sorted") (rSortP X.K) := by
  intro pins s σ H xs us Q I r h
  obtain ⟨a, vs, ps, rfl, hq, hP, h64, q⟩ := h
  obtain ⟨u, rfl, rx⟩ := vals1 r
  cases rx
  obtain ⟨its, r', pl, hz⟩ := I.list hq
  have hlen := r'.length
  obtain ⟨hpr, hvs⟩ := PrsAt.val I hP r'
  refine sorted_prs pl.isList (by omega) hpr fun out hp => ?_
  obtain ⟨e, he⟩ := sortedAll_at s.heap its out.toArray
  have hl2 := hp.length_eq
  have hpm : (out.map fun u => V.ref (match u with | .ref a => a | _ => 0)).Perm vs := by
    rw [hvs]
    exact hp.map _
  refine ⟨.ref (s.heap.objs.size + 1), _, I.laid (t' := s.toks) (o := .lst (out.map fun u => V.ref (match u with | .ref a => a | _ => 0))) (fun b o => sortedAll_old) (Nat.le_succ _) ?_, rfl, q _ _ (I.hok.fresh (Nat.le_succ _)) hpm⟩
  refine ⟨by rw [List.length_map]; exact Nat.le_trans (show out.length ≤ 64 by omega) (by decide), out, e, ?_, he⟩
  have hall : ∀ u ∈ out, ∃ x, u = .ref x := fun u hu => by
    obtain ⟨x, _, _, _, _, _, _, e, _⟩ := hpr u (hp.mem_iff.mp hu)
    exact ⟨x, e⟩
  clear he hpm hp hl2
  induction out with
  | nil => exact .nil
  | cons u out ih =>
    obtain ⟨x, rfl⟩ := hall u (List.mem_cons_self ..)
    exact .cons rfl (ih fun u hu => hall u (List.mem_cons_of_mem _ hu))
theorem PrsAt.same {H H' : Hp} (s : Same H H') : ∀ {vs : List V} {ps : List (Int × Int)}, PrsAt H vs ps → PrsAt H' vs ps
  | [], [], _ => trivial
  | _ :: _, _ :: _, ⟨⟨a, e, q⟩, r⟩ => ⟨⟨a, e, s _ _ q⟩, r.same s⟩
theorem PrsAt.snoc {H : Hp} {a : Addr} {p : Int × Int} (e : H a = some (.tup [.int p.1, .int p.2])) : ∀ {vs : List V} {ps : List (Int × Int)}, PrsAt H vs ps → PrsAt H (vs ++ [.ref a]) (ps ++ [p])
  | [], [], _ => ⟨⟨a, rfl, e⟩, trivial⟩
  | _ :: _, _ :: _, h => ⟨h.1, h.2.snoc e⟩
theorem PrsAt.len {H : Hp} : ∀ {vs : List V} {ps : List (Int × Int)}, PrsAt H vs ps → vs.length = ps.length
  | [], [], _ => rfl
  | _ :: _, _ :: _, h => by rw [List.length_cons, List.length_cons, PrsAt.len h.2]
theorem PrsAt.get {H : Hp} : ∀ {vs : List V} {ps : List (Int × Int)} {i : Nat} {v : V}, PrsAt H vs ps → vs[i]? = some v → ∃ a p, v = .ref a ∧ ps[i]? = some p ∧ H a = some (.tup [.int p.1, .int p.2])
  | v :: vs, p :: ps, 0, _, h, e => by
    cases e
    obtain ⟨a, e, q⟩ := h.1
    exact ⟨a, p, e, rfl, q⟩
  | _ :: vs, _ :: ps, i + 1, v, h, e => PrsAt.get (i := i) h.2 e
theorem PrsAt.perm {H : Hp} {vs vs' : List V} (hp : vs'.Perm vs) : ∀ {ps : List (Int × Int)}, PrsAt H vs ps → ∃ ps', PrsAt H vs' ps' ∧ ps'.Perm ps := by
  induction hp with
  | nil => intro ps h; exact ⟨ps, h, .refl _⟩
  | cons x _ ih =>
    intro ps h
    cases ps with
    | nil => exact h.elim
    | cons p ps =>
      obtain ⟨ps', h1, h2⟩ := ih h.2
      exact ⟨p :: ps', ⟨h.1, h1⟩, h2.cons p⟩
  | swap x y l =>
    intro ps h
    match ps, h with
    | [], h => exact h.elim
    | [_], h => exact h.2.elim
    | p :: q :: ps, h => exact ⟨q :: p :: ps, ⟨h.2.1, h.1, h.2.2⟩, .swap ..⟩
  | trans _ _ ih1 ih2 =>
    intro ps h
    obtain ⟨ps1, a1, a2⟩ := ih2 h
    obtain ⟨ps2, b1, b2⟩ := ih1 a1
    exact ⟨ps2, b1, b2.trans a2⟩
end L2
/-! EvMul: tuple * number. Behind EvLay. -/
namespace PySem
open Sem (wp)
open Builtin
end PySem
namespace L2
open PySem PySem.Spec PyProof.Rows
end L2
namespace HT2
open PySem PySem.Spec PyProof.Rows HT
variable {prog : Program} {w : World} {A : Around} {E : Value → Shared → Prop} {s : Shared}
theorem getItem_tuple_whole {t sl : Addr} {items : Array Value} {vl vu : Value} {lo hi : Option Int} {Q : Value → Shared → Prop} (ht : IsTup s.heap t items) (hs : s.heap.IsSliceOf sl vl vu .none) (pl : IsPart vl lo) (pu : IsPart vu hi)
    (hw : sIx items.size 0 lo = 0 ∧ sIx items.size items.size hi = items.size)
    (h : Q (.ref t) s) : wpAny (model prog w) A (getItem (.ref t) (.ref sl)) Q E s := by
  obtain ⟨os, hos, hcs, hds⟩ := id hs
  have hTs : s.TypeIs (.ref sl) "slice" := ⟨os, hos, hcs⟩
  unfold getItem
  try with_reducible refine wpAny_holding ?_
  first | refine wpAny_bind (wpAny_pure ?_) | skip
  refine wpAny_bind (wpAny_sequenceKey ht.typeIs (by decide) ?_)
  refine wpAny_bind (wpAny_callSpecial?_slot (name := Str.ofString "__getitem__") ht.typeIs PyProof.Rows.slot_tuple_getitem
    (wpAny_call_entry PyProof.Rows.slot_tuple_getitem ht.typeIs entry_tuple_getitem ?_ (args_tuple_getitem _ _)))
  show wpAny _ _ (Builtin.Tuple.tupleItemsOf (.ref t) >>= _) _ _ s
  refine wpAny_bind (tupleItemsOf_ ht ?_)
  refine wpAny_bind (wpAny_typeOf hTs ?_)
  rw [if_pos (by decide)]
  refine wpAny_bind (sliceApplied_gen hs pl pu ?_)
  have hyes : ((((sIx items.size 0 lo : Nat) : Int) == 0 && (1 : Int) == 1 && (sIx items.size items.size hi - sIx items.size 0 lo) == items.size) = true) := by
    rw [hw.1, hw.2]
    simp
  show wpAny _ _ (if (((sIx items.size 0 lo : Nat) : Int) == 0 && (1 : Int) == 1 && (sIx items.size items.size hi - sIx items.size 0 lo) == items.size) = true then _ else _) _ _ s
  rw [if_pos hyes]
  refine wpAny_bind ?_
  unfold Builtin.Tuple.tupleIsExact
  refine wpAny_bind (wpAny_typeOf ht.typeIs (wpAny_pure ?_))
  rw [if_pos (by decide)]
  first
    | exact wpAny_bind (wpAny_rule (wpAny_pure ⟨_, rfl, wpAny_pure h⟩))
    | exact wpAny_rule (wpAny_pure ⟨_, rfl, wpAny_pure h⟩)
    | exact wpAny_bind (wpAny_rule (wpAny_bind (wpAny_pure (wpAny_pure ⟨_, rfl, wpAny_pure h⟩))))
end HT2
namespace L2
open PySem PySem.Spec PyProof.Rows
/-- t[lo:hi]: the whole is t itself -/
def rSlW (K : PySem.W.Frag) : V → Option Int → Option Int → Hp → VK → Prop := fun x lo hi H Q => ∃ a xs, x = .ref a ∧ SqT K H a xs ∧
  ((HT.sIx xs.length 0 lo = 0 ∧ HT.sIx xs.length xs.length hi = xs.length) → Q (.ref a) H) ∧
  (¬ (HT.sIx xs.length 0 lo = 0 ∧ HT.sIx xs.length xs.length hi = xs.length) → ∀ p, H p = none → Q (.ref p) (upd H p (.tup (cutV xs lo hi))))
theorem sl_tupW {X : Cx} : SlR X (rSlW X.K) := by
  intro pins s σ H x v vl vu lo hi sl Q I rx hs pl pu h
  obtain ⟨a, xs, e, hx, qw, q⟩ := h
  by_cases hw : HT.sIx xs.length 0 lo = 0 ∧ HT.sIx xs.length xs.length hi = xs.length
  · subst e
    cases rx
    obtain ⟨its, r, ht, hz⟩ := I.tuple hx
    have hlen : its.toArray.size = xs.length := by rw [List.size_toArray]; exact r.length.symm
    refine ⟨"tuple", _, PyProof.Rows.slot_tuple_getitem.lookup, ht.typeIs, ?_⟩
    exact HT2.getItem_tuple_whole ht hs pl pu (by rw [hlen]; exact hw) ⟨.ref a, H, I, rfl, qw hw⟩
  · exact sl_tup pins s σ H x v vl vu lo hi sl Q I rx hs pl pu ⟨a, xs, e, hx, hw, q hw⟩
end L2
/-! EvTold: loops by steps, zip of two lists, a def that calls itself. Behind EvMul. -/
namespace L2
open PySem PySem.Spec PyProof.Rows
theorem FnOk.never {P : Program} {w : World} {K : PySem.W.Frag} {mg : Str → Option Value} {base : Heap} {CX : CXT} {k : Nat} {f : Addr} {fd : FuncData} {ps : List Str} : FnOk P w K mg base CX k f fd ps (fun _ _ _ _ => False) :=
  ⟨fun _ _ _ _ h => h.elim, fun _ _ _ _ _ _ _ _ _ _ _ _ _ h => h.elim⟩
section
variable {X : Cx} {elts : List Expr} {k : Nat} {tp : Pos}
end
end L2
/-! EvZip: zip of a tuple and a list. Behind EvLay. -/
namespace L2
open PySem PySem.Spec PyProof.Rows
section
variable {prog : Program} {w : World} {A : Around} {E : Value → Shared → Prop} {s : Shared}
/-- the next of a tuple's iterator, asked by a builtin -/
theorem nextT_item {it t : Addr} {i : Nat} {its : Array Value} {x : Value} {Q : Value → Shared → Prop} (hi : s.heap.IsTupleIter it t i) (ht : s.heap.IsTuple t its) (hx : its[i]? = some x)
    (hQ : ∀ h', h'.IsTupleIter it t (i + 1) → Heap.SameBut it s.heap h' → Q x { s with heap := h' }) : wpAny (model prog w) A (Builtin.SmallTypes.nextOf (.ref it)) Q E s := by
  obtain ⟨oi, gi, ci, di⟩ := id hi
  obtain ⟨ot, gt, _, nt, dt⟩ := ht
  unfold Builtin.SmallTypes.nextOf
  refine wpAny_bind (wpAny_callSpecial?_slot (name := Str.ofString "__next__") hi.typeIs PySem.F.slot_tuple_iterator_next (wpAny_call_entry PySem.F.slot_tuple_iterator_next hi.typeIs PySem.F.entry_tuple_iterator_next ?_ (PySem.F.args_tuple_iterator_next_1 _)))
  show wpAny _ _ (field (.ref it) 0 >>= _) _ _ s; refine wpAny_bind (wpAny_field gi di (x := .ref t) rfl ?_)
  show wpAny _ _ (if (Value.ref t == Value.none) = true then _ else _) _ _ s; rw [if_neg (show ¬ ((Value.ref t == Value.none) = true) from Bool.false_ne_true)]
  show wpAny _ _ (field (.ref it) 1 >>= _) _ _ s; refine wpAny_bind (wpAny_field gi di (x := .int i 0) rfl ?_)
  show wpAny _ _ (seqItems? (.ref t) >>= _) _ _ s; refine wpAny_bind (wpAny_seqItems gt dt ?_)
  simp only [Int.toNat_natCast, hx]
  have hn : ∀ f, (s.heap.update it (Obj.mapFields f)).get? it = some (Obj.mapFields f oi) := fun f => Heap.get?_update_self _ gi (Obj.isFreed_of_fields (Obj.data_mapFields di _))
  refine wpAny_bind (wpAny_setField gi di (by simp) (wpAny_pure ⟨x, rfl, wpAny_pure (hQ _ ⟨_, hn _, (Obj.cls_mapFields ..).trans ci, ?_⟩ (Heap.SameBut.update ..))⟩))
  rw [Obj.data_mapFields di]; simp [rawInt]
/-- what is kept beside the zip's own four things -/
def Kp4 (z TO i1 i2 : Addr) (h h' : Heap) : Prop := ∀ c o, c ≠ z → c ≠ TO → c ≠ i1 → c ≠ i2 → h.get? c = some o → h'.get? c = some o
end
section
variable {prog : Program} {w : World} {A : Around} {E : Value → Shared → Prop} {s : Shared}
end
section
variable {X : Cx} {elts : List Expr} {k : Nat} {tp : Pos}
end
end L2
/-! EvEnt: enumerate of a tuple, values of an `or`, a list taken apart. Behind EvTold and EvZip. -/
namespace L2
open PySem PySem.Spec PyProof.Rows
section
variable {prog : Program} {w : World} {A : Around} {E : Value → Shared → Prop} {s : Shared}
end
section
variable {X : Cx} {elts : List Expr} {k : Nat} {tp : Pos}
end
end L2
/-! EvZit: zip of two tuples. Behind EvZip. -/
namespace L2
open PySem PySem.Spec PyProof.Rows
section
variable {prog : Program} {w : World} {A : Around} {E : Value → Shared → Prop} {s : Shared}
end
section
variable {prog : Program} {w : World} {A : Around} {E : Value → Shared → Prop} {s : Shared}
end
section
variable {X : Cx} {elts : List Expr} {k : Nat} {tp : Pos}
end
end L2
/-! EvIdx: places in tuples and lists from a start on, tuples whose object is known, lists taken apart, values of an `or`. Behind EvEnt. -/
namespace L2
open PySem PySem.Spec PyProof.Rows
section
variable {prog : Program} {w : World} {A : Around} {E : Value → Shared → Prop} {s : Shared}
end
/-! ### places from a start on -/
end L2
/-! EvKw: enumerate(tuple, start=k), sum of a list of numbers. Behind EvIdx. -/
namespace L2
open PySem PySem.Spec PyProof.Rows
section
variable {prog : Program} {w : World} {A : Around} {E : Value → Shared → Prop} {s : Shared}
end
section
variable {prog : Program} {w : World} {A : Around} {E : Value → Shared → Prop} {s : Shared}
end
section
variable {M : Model} {A : Around} {E : Value → Shared → Prop} {s : Shared} {env : Env}
end
section
variable {X : Cx} {elts : List Expr} {k : Nat} {tp : Pos}
end
end L2
/-! EvMin: min(a rising list of numbers, default=x): the first of them, or x. Behind EvKw. -/
namespace L2
open PySem PySem.Spec PyProof.Rows
section
variable {prog : Program} {w : World} {A : Around} {R : Result → Shared → Prop} {I : Addr} {fp wr : List Addr} {n : Nat} {P : Nat → Value → Prop} {St : Nat → Heap → Prop} {kw : List (Str × Value)}
theorem minName : (toString "min" ++ toString ".loop" : String) = "min.loop" := by decide
/-- the first stays where none behind it is less -/
theorem min_stays (W : Walks prog w A.in1 I fp wr n P St) {S : Addr} (hS : S ∉ fp) {v0 : Value}
    (cmp : ∀ (j : Nat) (v : Value) (s : Shared) (Q : Value → Shared → Prop) (E : Value → Shared → Prop), 0 < j → P j v → Q (.bool false) s → wpAny (model prog w) A.in1 (richCompare .Lt v v0) Q E s) :
    ∀ (k j : Nat) (s : Shared) (c : Nat), n = j + k → 0 < j → St j s.heap → s.heap.get? S = some { cls := .type "list", dict := none, data := .seq #[v0, v0] c, slots := #[] } →
      (∀ h' tk, (∀ b o, b ∉ wr → b ≠ S → s.heap.get? b = some o → h'.get? b = some o) → R (.ok (.ret v0)) { s with heap := h', toks := tk }) →
      codeAny (model prog w) A (.builtin "min.loop" ⟨[.ref I, .none, .ref S], kw⟩) R s
  | 0, j, s, c, hn, h0, hst, hS0, hR => by
    refine codeAny_builtin PySem.F.entry_min_loop ?_
    rw [Around.under_plainId PySem.F.plain_min_loop _]
    show wpAny _ A.in1 (seqItems? (.ref S) >>= _) _ _ s
    refine wpAny_bind (wpAny_seqItems hS0 rfl ?_)
    show wpAny _ A.in1 (tryCatch (pyNext (.ref I)) _ >>= _) _ _ s
    refine wpAny_bind (wpAny_tryCatch (W.done s _ _ (by rw [hn]; exact hst) fun h' tk kp => ?_))
    show wpAny _ A.in1 (updateSeq S (fun _ => #[]) >>= _) _ _ _
    refine wpAny_bind (wpAny_updateSeq (kp S _ (fun z => hS (W.sub _ z)) hS0) rfl (wpAny_bind (wpAny_letGo (wpAny_pure ?_))))
    exact hR _ tk fun b o b1 b2 e => (Heap.get?_update_other _ _ (Ne.symm b2)).trans (kp b o b1 e)
  | k + 1, j, s, c, hn, h0, hst, hS0, hR => by
    refine codeAny_builtin PySem.F.entry_min_loop ?_
    rw [Around.under_plainId PySem.F.plain_min_loop _]
    show wpAny _ A.in1 (seqItems? (.ref S) >>= _) _ _ s
    refine wpAny_bind (wpAny_seqItems hS0 rfl ?_)
    show wpAny _ A.in1 (tryCatch (pyNext (.ref I)) _ >>= _) _ _ s
    refine wpAny_bind (wpAny_tryCatch (W.item j s _ _ (by omega) hst fun v h' tk hv hst' kp => ?_))
    show wpAny _ A.in1 (tryCatch (holding [v, v] (richCompare .Lt v v0 >>= _)) _ >>= _) _ _ _
    refine wpAny_bind (wpAny_tryCatch (wpAny_holding (wpAny_bind (cmp j v _ _ _ h0 hv (wpAny_bind (wpAny_holding (wpAny_truthy_bool (wpAny_bind (wpAny_letGo (wpAny_pure ?_))))))))))
    simp only [Bool.false_eq_true, if_false]
    refine wpAny_bind (wpAny_letGo ?_)
    rw [minName]
    exact wpAny_pure ⟨plainId_quiet PySem.F.plain_min_loop _, min_stays W hS cmp k (j + 1) _ c (by omega) (Nat.succ_pos _) hst' (kp S _ (fun z => hS (W.sub _ z)) hS0) fun h2 tk2 kp2 => hR h2 tk2 fun b o b1 b2 e => kp2 b o b1 b2 (kp b o b1 e)⟩
theorem min_begins (W : Walks prog w A.in1 I fp wr n P St) {S : Addr} (hS : S ∉ fp) {d : Value} {s : Shared} {c : Nat} (hst : St 0 s.heap) (hS0 : s.heap.get? S = some { cls := .type "list", dict := none, data := .seq #[] c, slots := #[] })
    (hE : n = 0 → ∀ h' tk, (∀ b o, b ∉ wr → b ≠ S → s.heap.get? b = some o → h'.get? b = some o) → R (.ok (.ret d)) { s with heap := h', toks := tk })
    (hN : ∀ v0, 0 < n → P 0 v0 → (∀ (j : Nat) (v : Value) (s : Shared) (Q : Value → Shared → Prop) (E : Value → Shared → Prop), 0 < j → P j v → Q (.bool false) s → wpAny (model prog w) A.in1 (richCompare .Lt v v0) Q E s) ∧
      ∀ h' tk, (∀ b o, b ∉ wr → b ≠ S → s.heap.get? b = some o → h'.get? b = some o) → R (.ok (.ret v0)) { s with heap := h', toks := tk }) :
    codeAny (model prog w) A (.builtin "min.loop" ⟨[.ref I, .none, .ref S], [("default", d)]⟩) R s := by
  refine codeAny_builtin PySem.F.entry_min_loop ?_
  rw [Around.under_plainId PySem.F.plain_min_loop _]
  show wpAny _ A.in1 (seqItems? (.ref S) >>= _) _ _ s
  refine wpAny_bind (wpAny_seqItems hS0 rfl ?_)
  show wpAny _ A.in1 (tryCatch (pyNext (.ref I)) _ >>= _) _ _ s
  rcases Nat.eq_zero_or_pos n with z | z
  · subst z
    refine wpAny_bind (wpAny_tryCatch (W.done s _ _ hst fun h' tk kp => ?_))
    refine wpAny_bind (wpAny_rule (wpAny_pure ?_))
    exact hE rfl h' tk fun b o b1 b2 e => kp b o b1 e
  · refine wpAny_bind (wpAny_tryCatch (W.item 0 s _ _ z hst fun v h' tk hv hst' kp => ?_))
    have hS1 := kp S _ (fun z => hS (W.sub _ z)) hS0
    obtain ⟨cm, q⟩ := hN v z hv
    show wpAny _ A.in1 (updateSeq S (fun _ => #[v, v]) >>= _) _ _ _
    refine wpAny_bind (wpAny_updateSeq hS1 rfl ?_)
    rw [minName]
    refine wpAny_pure ⟨plainId_quiet PySem.F.plain_min_loop _, min_stays W hS cm (n - 1) 1 _ _ (by omega) (Nat.succ_pos _) (W.frame _ _ _ hst' fun b hb o e => (Heap.get?_update_other _ _ (fun x : S = b => hS (x ▸ hb))).trans e) (Heap.get?_update_self _ hS1 rfl) fun h2 tk2 kp2 => ?_⟩
    exact q h2 tk2 fun b o b1 b2 e => kp2 b o b1 b2 ((Heap.get?_update_other _ _ (Ne.symm b2)).trans (kp b o b1 e))
end
section
variable {prog : Program} {w : World} {A : Around} {E : Value → Shared → Prop} {s : Shared}
theorem args_minD (a d : Value) : argsOk "min" ⟨[a], [("default", d)]⟩ := by unfold argsOk; kernel_rfl
theorem call_minD {l : Addr} {zs : Array (Int × Tok)} {d : Value} {Q : Value → Shared → Prop} (hh : A.handled = none) (hl : s.heap.IsList l (intItems zs)) (up : ∀ i j, i < j → j < zs.size → numAt zs i < numAt zs j)
    (h : ∀ v h' tk, (∀ b o, s.heap.get? b = some o → h'.get? b = some o) → (zs.size = 0 ∧ v = d) ∨ (0 < zs.size ∧ ∃ t, v = .int (numAt zs 0) t) → Q v { s with heap := h', toks := tk }) :
    wpAny (model prog w) A (call (.builtin "min") [.ref l] [("default", d)]) Q E s := by
  refine kmb_tree PySem.F.kind_min PySem.F.plain_min PySem.F.entry_min (args_minD _ _) ?_
  show wpAny _ A.in1 (Builtin.Builtins.bindParams "min" ["key", "default"] 0 ⟨[], [("default", d)]⟩ >>= _) _ _ s
  refine wpAny_bind (wpAny_of_eq (show Builtin.Builtins.bindParams "min" ["key", "default"] 0 ⟨[], [("default", d)]⟩ = pure [none, some d] from rfl) ?_)
  refine wpAny_bind (wpAny_pure ?_)
  refine wpAny_bind (iter_intList hl fun s₂ e st hfp hlI => ?_)
  refine wpAny_bind (wpAny_newObj_type ?_)
  have hSf : s₂.heap.objs.size ∉ [s.heap.objs.size, l] := fun hm => Nat.lt_irrefl _ (hfp _ hm)
  rw [minName]
  have W := Walks.list (prog := prog) (w := w) (A := A.in1) hh _ l hlI (intItems zs)
  have sz : (intItems zs).size = zs.size := by simp [intItems]
  have kept : ∀ (h' : Heap), (∀ b o, b ∉ [s.heap.objs.size] → b ≠ s₂.heap.objs.size → (s₂.heap.push { cls := .type "list", data := .seq #[] }).get? b = some o → h'.get? b = some o) → ∀ b o, s.heap.get? b = some o → h'.get? b = some o := fun h' kp b o q => by
    have q2 : s₂.heap.get? b = some o := by subst e; exact Heap.get?_push_of_some _ q
    exact kp b o (fun z => absurd (List.mem_singleton.mp z ▸ Heap.lt_size q) (Nat.lt_irrefl _)) (fun z => absurd (z ▸ Heap.lt_size q2) (Nat.lt_irrefl _)) (Heap.get?_push_of_some _ q2)
  refine wpAny_pure ⟨plainId_quiet PySem.F.plain_min_loop _, min_begins W hSf (W.frame _ _ _ st fun b hb o q => Heap.get?_push_of_some _ q) (Heap.get?_push_size _ rfl) (fun n0 h' tk kp => ?_) (fun v0 n0 hv0 => ⟨fun j v s' Q' E' hj hv hq => ?_, fun h' tk kp => ?_⟩)⟩
  · have := h d h' tk (kept h' kp) (.inl ⟨by omega, rfl⟩)
    subst e
    exact this
  · refine CmpOf.ints_lt (prog := prog) (w := w) (A := A.in1) (P := fun i v => (intItems zs)[i]? = some v) (numAt zs) (fun _ _ => intItems_at) j 0 v v0 s' Q' E' hv hv0 ?_
    have hjl : j < zs.size := by
      have := (Array.getElem?_eq_some_iff.mp hv).1
      omega
    show Q' (Value.bool (decide (numAt zs j < numAt zs 0))) s'
    rw [decide_eq_false (fun z => by have := up 0 j hj hjl; omega)]
    exact hq
  · have := h v0 h' tk (kept h' kp) (.inr ⟨by omega, intItems_at hv0⟩)
    subst e
    exact this
end
/-- min(list, default=None), of a rising list of numbers -/
def fstV : List Nat → V
  | [] => .non
  | x :: _ => .int ((x : Nat) : Int)
def tMinN (K : PySem.W.Frag) (ta tk : TA) : TE := fun σ H Q => ta σ H fun vs H1 => tk σ H1 fun zs H2 => ∃ (a : Addr) (ns : List Nat), vs = [.ref a] ∧ zs = [.non] ∧ SqL K H2 a (nats ns) ∧ ns.Pairwise (· < ·) ∧ Q (fstV ns) H2
theorem pe_minN {X : Cx} {a e : Expr} {ta tk : TA} {p pos kpos : Pos} (hc : X.calm = true) (hg : Gl X "min") (hm : X.mg "min" = none) (ha : PA X [a] ta) (hkw : PK X [⟨some "default", e, kpos⟩] tk) (hs : starEach [a] X.env = [(false, eval a X.env)] := by rfl) : PE X (.Call (.Name "min" p) [a] [⟨some "default", e, kpos⟩] pos) (tMinN X.K ta tk) := by
  intro pins s σ H Q I h
  refine wpAny_Call_Name_kw (ld_blt I hg hm (show bootBuiltins "min" = some (.builtin "min") by decide +kernel) (callWith_kw (thn (ha pos pins s σ H _ I h) fun us s1 ⟨vs, H1, I1, r1, q1⟩ => thn (hkw pos pins s1 σ H1 _ I1 q1) fun ks s2 ⟨zs, H2, I2, r2, q2⟩ => ?_) (by rw [hs]; rfl) (by rw [hs]; rfl) (by rfl) (by rfl)))
  obtain ⟨b, ns, e1, e2, hq, up, q⟩ := q2
  subst e1 e2
  obtain ⟨u, rfl, rx⟩ := vals1 r1
  cases rx
  obtain ⟨u2, rfl, rx2⟩ := vals1 r2
  cases rx2
  rw [nats_ints] at hq
  obtain ⟨its, rv, pl, hz⟩ := I2.list hq
  have hi := ints_of_vals rv
  obtain ⟨zs, hx⟩ := hi.allInts.items
  have hl : s2.heap.IsList b (intItems zs) := hx ▸ pl.isList
  have e1 : (ns.map fun p => ((p : Nat) : Int)) = zs.toList.map (·.1) := by
    rw [← nums_intItems, ← hx]
    exact (show numsOf its.toArray.toList = _ from hi.numsOf).symm
  have el : ns.length = zs.size := by
    have := congrArg List.length e1
    simpa using this
  have na : ∀ i, numAt zs i = ((ns.map fun p => ((p : Nat) : Int))[i]?).getD 0 := fun i => by
    rw [e1, List.getElem?_map, Array.getElem?_toList]
    rfl
  have ni : ∀ i (h : i < ns.length), numAt zs i = ((ns[i] : Nat) : Int) := fun i h => by
    rw [na, List.getElem?_map, List.getElem?_eq_getElem h]
    rfl
  refine call_minD (I2.ok.hd hc) hl (fun i j hij hj => ?_) fun v h' tk kp hv => ?_
  · have hj' : j < ns.length := by omega
    rw [ni i (by omega), ni j hj']
    have := List.pairwise_iff_getElem.mp up i j (by omega) hj' hij
    omega
  · refine ⟨fstV ns, H2, I2.kept (t' := tk) kp, ?_, q⟩
    rcases hv with ⟨z0, rfl⟩ | ⟨z0, t, rfl⟩
    · have : ns = [] := List.length_eq_zero_iff.mp (by omega)
      subst this
      rfl
    · rw [ni 0 (by omega)]
      match ns, el, z0 with
      | [], el, z0 => exact absurd z0 (by rw [← el]; exact Nat.lt_irrefl _)
      | x :: r, _, _ => exact ⟨t, rfl⟩
theorem qe_minN {X : Cx} {a e : Expr} {ta te : TE} {p pos kpos : Pos} (hc : X.calm = true) (hg : Gl X "min") (hm : X.mg "min" = none) (ha : QE X a ta) (hk : QE X e te) (hs : notStar a = true := by rfl) : QE X (.Call (.Name "min" p) [a] [⟨some "default", e, kpos⟩] pos) (tMinN X.K (tCons ta tNil) (tCons te tNil)) := ⟨pe_minN hc hg hm (qac ha qa_nil hs).h (pk_cons hk.h pk_nil) (starEach_cons hs)⟩
end L2
namespace L2
open PySem PySem.Spec PyProof.Rows
/-! ### lists of pairs as tables -/
section
variable {κ : Type} [DecidableEq κ]
def valV (kvs : List (κ × V)) (k : κ) : Option V := (kvs.find? fun kv => decide (kv.1 = k)).map (·.2)
/-- in its place, or at the end -/
def putK (kvs : List (κ × V)) (k : κ) (v : V) : List (κ × V) :=
  if (kvs.any fun kv => decide (kv.1 = k)) = true then kvs.map (fun kv => if kv.1 = k then (kv.1, v) else kv) else kvs ++ [(k, v)]
theorem valV_pos {p : κ × V} {r : List (κ × V)} {k : κ} (e : p.1 = k) : valV (p :: r) k = some p.2 := by simp [valV, List.find?_cons, e]
theorem valV_neg {p : κ × V} {r : List (κ × V)} {k : κ} (e : ¬ p.1 = k) : valV (p :: r) k = valV r k := by simp [valV, List.find?_cons, e]
theorem valV_any (k : κ) : ∀ kvs : List (κ × V), (kvs.any fun kv => decide (kv.1 = k)) = (valV kvs k).isSome
  | [] => rfl
  | p :: r => by
    rw [List.any_cons]
    by_cases e : p.1 = k
    · simp only [valV_pos e, decide_eq_true e, Bool.true_or, Option.isSome_some]
    · rw [valV_neg e, decide_eq_false e, Bool.false_or]; exact valV_any k r
theorem valV_map (k j : κ) (y : V) : ∀ kvs : List (κ × V), valV (kvs.map fun kv => if kv.1 = k then (kv.1, y) else kv) j = (valV kvs j).map fun x => if j = k then y else x
  | [] => rfl
  | p :: r => by
    have ih := valV_map k j y r
    rw [List.map_cons]
    by_cases h : p.1 = k
    · rw [if_pos h]
      by_cases e : p.1 = j
      · rw [valV_pos (p := (p.1, y)) e, valV_pos e, Option.map_some, if_pos (e.symm.trans h)]
      · rw [valV_neg (p := (p.1, y)) e, valV_neg e, ih]
    · rw [if_neg h]
      by_cases e : p.1 = j
      · rw [valV_pos (p := p) e, valV_pos e, Option.map_some, if_neg (fun z => h (e.trans z))]
      · rw [valV_neg (p := p) e, valV_neg e, ih]
theorem valV_snoc (k j : κ) (y : V) : ∀ kvs : List (κ × V), valV kvs k = none → valV (kvs ++ [(k, y)]) j = if j = k then some y else valV kvs j
  | [], _ => by
    by_cases e : k = j
    · rw [if_pos e.symm]; exact valV_pos (p := (k, y)) e
    · rw [if_neg (fun z => e z.symm)]; exact valV_neg (p := (k, y)) e
  | p :: r, hn => by
    rw [List.cons_append]
    have hk : ¬ p.1 = k := fun z => by rw [valV_pos z] at hn; cases hn
    rw [valV_neg hk] at hn
    have ih := valV_snoc k j y r hn
    by_cases e : p.1 = j
    · rw [valV_pos e, valV_pos e, if_neg (fun z => hk (e.trans z))]
    · rw [valV_neg e, valV_neg e, ih]
theorem valV_put (kvs : List (κ × V)) (k j : κ) (y : V) : valV (putK kvs k y) j = if j = k then some y else valV kvs j := by
  unfold putK
  by_cases a : (kvs.any fun kv => decide (kv.1 = k)) = true
  · rw [if_pos a, valV_map]
    rw [valV_any] at a
    by_cases e : j = k
    · obtain ⟨x, hx⟩ := Option.isSome_iff_exists.mp a
      rw [if_pos e, e, hx, Option.map_some, if_pos rfl]
    · rw [if_neg e]
      cases valV kvs j with
      | none => rfl
      | some x => rw [Option.map_some, if_neg e]
  · rw [if_neg a]
    refine valV_snoc k j y kvs ?_
    rw [valV_any] at a
    cases q : valV kvs k with
    | none => rfl
    | some x => rw [q] at a; exact (a rfl).elim
theorem length_putK (kvs : List (κ × V)) (k : κ) (v : V) : (putK kvs k v).length ≤ kvs.length + 1 := by
  unfold putK
  split
  · rw [List.length_map]; omega
  · rw [List.length_append, List.length_cons, List.length_nil]; omega
theorem RelO.isSome_eq {o : Option V} {u : Option Value} (r : RelO o u) : o.isSome = u.isSome := by
  cases o with
  | none => cases u with
    | none => rfl
    | some _ => exact (show False from r).elim
  | some _ => cases u with
    | none => exact (show False from r).elim
    | some _ => rfl
/-- raw tables of the same keys -/
theorem KV.val {kvs : List (κ × V)} {vs : List (κ × Value)} (r : KV kvs vs) (k : κ) : RelO (valV kvs k) (valueAt vs k) := by
  unfold KV at r
  induction r with
  | nil => exact True.intro
  | @cons p q ps qs h t ih =>
    obtain ⟨h1, h2⟩ := h
    by_cases e : p.1 = k
    · have e' : q.1 = k := h1.symm.trans e
      have b : valueAt (q :: qs) k = some q.2 := by simp [valueAt, List.find?_cons, e']
      rw [valV_pos e, b]; exact h2
    · have e' : ¬ q.1 = k := fun z => e (h1.trans z)
      have b : valueAt (q :: qs) k = valueAt qs k := by simp [valueAt, List.find?_cons, e']
      rw [valV_neg e, b]; exact ih
theorem KV.any {kvs : List (κ × V)} {vs : List (κ × Value)} (r : KV kvs vs) (k : κ) : (kvs.any fun kv => decide (kv.1 = k)) = vs.any fun kv => decide (kv.1 = k) := by
  unfold KV at r
  induction r with
  | nil => rfl
  | cons h t ih => rw [List.any_cons, List.any_cons, ih, h.1]
theorem KV.repl {kvs : List (κ × V)} {vs : List (κ × Value)} (r : KV kvs vs) (k : κ) {y : V} {u : Value} (ry : RelV y u) :
    KV (kvs.map fun kv => if kv.1 = k then (kv.1, y) else kv) (vs.map fun kv => if kv.1 = k then (kv.1, u) else kv) := by
  unfold KV at r ⊢
  induction r with
  | nil => exact .nil
  | @cons p q ps qs h t ih =>
    rw [List.map_cons, List.map_cons]
    refine .cons ?_ ih
    obtain ⟨h1, h2⟩ := h
    by_cases e : p.1 = k
    · rw [if_pos e, if_pos (h1.symm.trans e)]; exact ⟨h1, ry⟩
    · rw [if_neg e, if_neg (fun z => e (h1.trans z))]; exact ⟨h1, h2⟩
theorem KV.put {kvs : List (κ × V)} {vs : List (κ × Value)} (r : KV kvs vs) (k : κ) {y : V} {u : Value} (ry : RelV y u) : KV (putK kvs k y) (stored vs k u) := by
  unfold putK stored
  rw [r.any k]
  by_cases e : (vs.any fun kv => decide (kv.1 = k)) = true
  · rw [if_pos e, if_pos e]; exact r.repl k ry
  · rw [if_neg e, if_neg e]; exact Paired.snoc r ⟨rfl, ry⟩
theorem KV.length {kvs : List (κ × V)} {vs : List (κ × Value)} (r : KV kvs vs) : kvs.length = vs.length := Paired.length r
end


/-! ### a tracked dict, its keys ints and texts or tuples of these -/
theorem kV_is {P : Program} {w : World} {k : Key} {u : Value} (r : RelV (kV k) u) : (mixKind P w).is k u = true := by
  cases k with
  | inl i => obtain ⟨t, e⟩ := (show ∃ t, u = Value.int i t from r); subst e; exact mixKind_int P w i t
  | inr x => obtain ⟨t, e⟩ := (show ∃ t, u = Value.str x t from r); subst e; exact mixKind_str P w x t
theorem items_are {P : Program} {w : World} : ∀ {ks : List Key} {us : List Value}, Vals (ks.map kV) us → ItemsAre (mixKind P w) ks us
  | [], _, r => by rw [List.map_nil] at r; cases r; exact .nil
  | k :: ks, _, r => by
    rw [List.map_cons] at r
    cases r with
    | cons h t => exact .cons (kV_is h) (items_are t)

/-- raw entries of a dict with tuple keys -/
abbrev KT (H : Hp) : List (List Key × V) → List (List Key × Addr × Value) → Prop := Paired fun p q => p.1 = q.1 ∧ H q.2.1 = some (.tup (p.1.map kV)) ∧ RelV p.2 q.2.2
theorem KT.val {H : Hp} {kvs : List (List Key × V)} {xs : List (List Key × Addr × Value)} (r : KT H kvs xs) (k : List Key) : RelO (valV kvs k) ((atKey xs k).map (·.2)) := by
  induction r with
  | nil => exact True.intro
  | @cons p q ps qs h t ih =>
    obtain ⟨h1, _, h2⟩ := h
    by_cases e : p.1 = k
    · have e' : q.1 = k := h1.symm.trans e
      have b : atKey (q :: qs) k = some q.2 := by simp [atKey, List.find?_cons, e']
      rw [valV_pos e, b]; exact h2
    · have e' : ¬ q.1 = k := fun z => e (h1.trans z)
      have b : atKey (q :: qs) k = atKey qs k := by simp [atKey, List.find?_cons, e']
      rw [valV_neg e, b]; exact ih
theorem KT.repl {H : Hp} {kvs : List (List Key × V)} {xs : List (List Key × Addr × Value)} (r : KT H kvs xs) (k : List Key) {y : V} {u : Value} (ry : RelV y u) :
    KT H (kvs.map fun kv => if kv.1 = k then (kv.1, y) else kv) (xs.map (putAt k u)) := by
  induction r with
  | nil => exact .nil
  | @cons p q ps qs h t ih =>
    rw [List.map_cons, List.map_cons]
    refine .cons ?_ ih
    obtain ⟨h1, h2, h3⟩ := h
    unfold putAt
    by_cases e : p.1 = k
    · rw [if_pos e, if_pos (h1.symm.trans e)]; exact ⟨h1, h2, ry⟩
    · rw [if_neg e, if_neg (fun z => e (h1.trans z))]; exact ⟨h1, h2, h3⟩
theorem KT.put {H : Hp} {kvs : List (List Key × V)} {xs : List (List Key × Addr × Value)} (r : KT H kvs xs) (k : List Key) {b : Addr} {y : V} {u : Value} (hb : H b = some (.tup (k.map kV))) (ry : RelV y u) :
    KT H (putK kvs k y) (storedH xs k b u) := by
  have e : (kvs.any fun kv => decide (kv.1 = k)) = (atKey xs k).isSome := by
    rw [valV_any, (r.val k).isSome_eq, Option.isSome_map]
  unfold putK storedH
  rw [e]
  by_cases q : (atKey xs k).isSome = true
  · rw [if_pos q, if_pos q]; exact r.repl k ry
  · rw [if_neg q, if_neg q]; exact Paired.snoc r ⟨rfl, hb, ry⟩
theorem KT.keeps {H H' : Hp} {kvs : List (List Key × V)} {xs : List (List Key × Addr × Value)} (r : KT H kvs xs) (ht : ∀ b ys, H b = some (.tup ys) → H' b = some (.tup ys)) : KT H' kvs xs :=
  Paired.mapP r fun _ _ z => ⟨z.1, ht _ _ z.2.1, z.2.2⟩

section
variable {P : Program} {w : World} {H : Hp} {h : Heap} {a : Addr}
theorem rd_of {u : HO} (ok : HOk P w H h) (e : Rd H a u) : ObjOk P w H h a u := e.ok ok
theorem dk_rd {kvs : List (Key × V)} (ok : HOk P w H h) (e : Rd H a (.dK kvs)) : kvs.length ≤ sizeLine ∧ (a == sysModules) = false ∧ ∃ vs, KV kvs vs ∧ h.DictOf (mixKind P w) a vs :=
  show ObjOk P w H h a (.dK kvs) from rd_of ok e
theorem dk_of {kvs : List (Key × V)} (ok : HOk P w H h) (e : H a = some (.dK kvs)) : kvs.length ≤ sizeLine ∧ (a == sysModules) = false ∧ ∃ vs, KV kvs vs ∧ h.DictOf (mixKind P w) a vs := dk_rd ok (.inl e)
/-- a tracked tuple of ints and texts is a key -/
theorem key_of {ks : List Key} (ok : HOk P w H h) (e : H a = some (.tup (ks.map kV))) : (tupleKind (mixKind P w)).is h ks a := by
  obtain ⟨_, its, r, o, h1, h2, n, h3⟩ := (show ObjOk P w H h a (.tup (ks.map kV)) from ok a _ e)
  exact ⟨o, its.toArray, n, h1, h2, h3, by simpa using items_are r⟩
theorem dt_rd {kvs : List (List Key × V)} (ok : HOk P w H h) (e : Rd H a (.dT kvs)) : kvs.length ≤ sizeLine ∧ (a == sysModules) = false ∧
    ∃ xs, KT H kvs xs ∧ h.DictOfH (tupleKind (mixKind P w)) a xs := by
  obtain ⟨z, y, xs, r, o, es, ep, h1, h2, h3, h4, h5⟩ := (show ObjOk P w H h a (.dT kvs) from rd_of ok e)
  refine ⟨z, y, xs, r, o, es, ep, h1, h2, h3, h4, fun x hx => ?_, h5⟩
  have all : ∀ {l : List (List Key × V)} {m : List (List Key × Addr × Value)}, KT H l m → ∀ x ∈ m, (tupleKind (mixKind P w)).is h x.1 x.2.1 := by
    intro l m q
    induction q with
    | nil => intro x hx; exact nomatch hx
    | @cons p q ps qs hq t ih =>
      intro x hx
      rcases List.mem_cons.mp hx with e | hx
      · subst e
        exact key_of ok (by rw [← hq.1]; exact hq.2.1)
      · exact ih x hx
  exact all r x hx
theorem dt_of {kvs : List (List Key × V)} (ok : HOk P w H h) (e : H a = some (.dT kvs)) : kvs.length ≤ sizeLine ∧ (a == sysModules) = false ∧
    ∃ xs, KT H kvs xs ∧ h.DictOfH (tupleKind (mixKind P w)) a xs := dt_rd ok (.inl e)
end

/-- what the dict at a holds at the key y -/
def DGet (H : Hp) (a : Addr) (y : V) (r : Option V) : Prop :=
  (∃ kvs k, Rd H a (.dK kvs) ∧ y = kV k ∧ r = valV kvs k) ∨ ∃ kvs k b, Rd H a (.dT kvs) ∧ y = .ref b ∧ H b = some (.tup (k.map kV)) ∧ r = valV kvs k
/-- the heap behind a[y] = v -/
def DPut (H : Hp) (a : Addr) (y v : V) (H' : Hp) : Prop :=
  (∃ kvs k, H a = some (.dK kvs) ∧ y = kV k ∧ kvs.length < sizeLine ∧ H' = upd H a (.dK (putK kvs k v))) ∨
  ∃ kvs k b, H a = some (.dT kvs) ∧ y = .ref b ∧ H b = some (.tup (k.map kV)) ∧ kvs.length < sizeLine ∧ H' = upd H a (.dT (putK kvs k v))
section
variable {X : Cx} {pins : List (Addr × Obj)} {σ : St} {H : Hp} {s : Shared} {a : Addr} {y v : V} {u r : Value} {o : Option V} {A : Around} {E : Value → Shared → Prop}


/-- y in d -/
theorem d_in {Q : Value → Shared → Prop} (hu : A.units + 1 < cLine) (I : Inv X pins σ H s) (g : DGet H a y o) (ry : RelV y u) (h : ∀ s', Inv X pins σ H s' → Q (.bool o.isSome) s') :
    wpAny (model X.prog X.w) A (compareOp .In u (.ref a)) Q E s := by
  rcases g with ⟨kvs, k, e, ey, l⟩ | ⟨kvs, k, b, e, ey, eb, l⟩
  · subst ey
    obtain ⟨z, hd, vs, rel, dd⟩ := dk_rd I.hok e
    refine wpAny_in_of (kV_is ry) hd dd.mapOf ?_
    rw [← (rel.val k).isSome_eq, ← l]
    exact h _ (I.tok _)
  · subst ey
    cases (show u = Value.ref b from ry)
    obtain ⟨z, hd, xs, rel, dd⟩ := dt_rd I.hok e
    refine wpAny_in_heap (tupleKind_room_in1 hu) (key_of I.hok eb) hd dd ?_
    have q := (rel.val k).isSome_eq
    rw [Option.isSome_map] at q
    rw [← q, ← l]
    exact h _ (I.tok _)
theorem d_notIn {Q : Value → Shared → Prop} (hu : A.units + 1 < cLine) (I : Inv X pins σ H s) (g : DGet H a y o) (ry : RelV y u) (h : ∀ s', Inv X pins σ H s' → Q (.bool (!o.isSome)) s') :
    wpAny (model X.prog X.w) A (compareOp .NotIn u (.ref a)) Q E s := by
  rcases g with ⟨kvs, k, e, ey, l⟩ | ⟨kvs, k, b, e, ey, eb, l⟩
  · subst ey
    obtain ⟨z, hd, vs, rel, dd⟩ := dk_rd I.hok e
    refine wpAny_notIn_of (kV_is ry) hd dd.mapOf ?_
    rw [← (rel.val k).isSome_eq, ← l]
    exact h _ (I.tok _)
  · subst ey
    cases (show u = Value.ref b from ry)
    obtain ⟨z, hd, xs, rel, dd⟩ := dt_rd I.hok e
    refine wpAny_notIn_heap (tupleKind_room_in1 hu) (key_of I.hok eb) hd dd ?_
    have q := (rel.val k).isSome_eq
    rw [Option.isSome_map] at q
    rw [← q, ← l]
    exact h _ (I.tok _)
/-- a dict's object is replaced -/
theorem d_write {h' : Heap} {t' : Nat} {ob : HO} (I : Inv X pins σ H s) (mu : Mut (H a)) (hs : Heap.SameBut a s.heap h') (he : ∃ q, h'.get? a = some q) (new : ObjOk X.prog X.w (upd H a ob) h' a ob) :
    Inv X pins σ (upd H a ob) { s with heap := h', toks := t' } :=
  I.write (x := a) (e := a) mu (.inl rfl) (fun b q hb z => (hs.2 b hb).trans z) he new
theorem dk_new {P : Program} {w : World} {H' : Hp} {h' : Heap} {kvs : List (Key × V)} {vs : List (Key × Value)} (z : kvs.length ≤ sizeLine) (hd : (a == sysModules) = false) (rel : KV kvs vs) (dd : h'.DictOf (mixKind P w) a vs) :
    ObjOk P w H' h' a (.dK kvs) := ⟨z, hd, vs, rel, dd⟩
/-- d[y] = v -/
theorem d_setItem {H' : Hp} {Q : Unit → Shared → Prop} (hu : A.units + 1 < cLine) (I : Inv X pins σ H s) (g : DPut H a y v H') (ry : RelV y u) (rv : RelV v r) (h : ∀ s', Inv X pins σ H' s' → Q () s') :
    wpAny (model X.prog X.w) A (setItem (.ref a) u r) Q E s := by
  rcases g with ⟨kvs, k, e, ey, l, eH⟩ | ⟨kvs, k, b, e, ey, eb, l, eH⟩
  · subst ey eH
    obtain ⟨z, hd, vs, rel, dd⟩ := dk_of I.hok e
    have hz : vs.length ≤ sizeLine := by rw [← rel.length]; exact z
    have hl : (putK kvs k v).length ≤ sizeLine := by have := length_putK kvs k v; omega
    refine wpAny_setItem_pairs (hsz := hz) (kV_is ry) dd fun h' dd' hs => h _ ?_
    have he : ∃ q, h'.get? a = some q := let ⟨q, _, _, hq, _⟩ := dd'; ⟨q, hq⟩
    exact d_write I (by rw [e]; exact True.intro) hs he (dk_new hl hd (rel.put k rv) dd')
  · subst ey eH
    cases (show u = Value.ref b from ry)
    obtain ⟨z, hd, xs, rel, dd⟩ := dt_of I.hok e
    have hz : xs.length ≤ sizeLine := by rw [← Paired.length rel]; exact z
    have hl : (putK kvs k v).length ≤ sizeLine := by have := length_putK kvs k v; omega
    refine wpAny_setItem_heap (hsz := hz) (tupleKind_room_in1 hu) (key_of I.hok eb) dd fun h' dd' hs => h _ ?_
    obtain ⟨q, es, ep, hq, h2, h3, h4, _, h5⟩ := dd'
    refine d_write I (by rw [e]; exact True.intro) hs ⟨q, hq⟩ ⟨hl, hd, _, (rel.put k eb rv).keeps fun c ys ec => ?_, q, es, ep, hq, h2, h3, h4, h5⟩
    rw [upd_ne (ne_of ec e (fun z => nomatch z))]
    exact ec
end

section
variable {X : Cx} {pins : List (Addr × Obj)} {σ : St} {H : Hp} {s : Shared} {a : Addr} {kvs : List (Key × V)} {k : Key} {u : Value} {A : Around} {E : Value → Shared → Prop}
end


/-! ### readings and rules -/
/-- y in d, y not in d -/
def tDIn (ty td : TE) : TE := fun σ H Q => ty σ H fun y H1 => td σ H1 fun x H2 => ∃ a o, x = .ref a ∧ DGet H2 a y o ∧ Q (.bl o.isSome) H2
def tDNotIn (ty td : TE) : TE := fun σ H Q => ty σ H fun y H1 => td σ H1 fun x H2 => ∃ a o, x = .ref a ∧ DGet H2 a y o ∧ Q (.bl (!o.isSome)) H2
/-- d[y] = v -/
def sDPut (td ty tv : TE) : TS := fun D σ H => tv σ H fun v H1 => td σ H1 fun x H2 => ty σ H2 fun y H3 => ∃ a H4, x = .ref a ∧ DPut H3 a y v H4 ∧ D.nx σ H4
section
variable {X : Cx} {o i e value : Expr} {pos pos' tpos : Pos} {td ty tv : TE}
theorem pc_din (hu : X.A.units + 1 < cLine) (hi : PE X i ty) (ho : PE X o td) : PC X .In i o (tDIn ty td) := by
  intro pins s σ H Q I h
  refine thn (hi pins s σ H _ I h) fun iv s1 ⟨y, H1, I1, ry, q1⟩ => thn (ho pins s1 σ H1 _ I1 q1) fun u s2 ⟨x, H2, I2, rx, a, ov, ex, g, q2⟩ => ?_
  subst ex
  obtain rfl : u = Value.ref a := rx
  exact d_in hu I2 g ry fun s3 I3 => ⟨.bl ov.isSome, H2, I3, rfl, q2⟩
theorem pc_dnotin (hu : X.A.units + 1 < cLine) (hi : PE X i ty) (ho : PE X o td) : PC X .NotIn i o (tDNotIn ty td) := by
  intro pins s σ H Q I h
  refine thn (hi pins s σ H _ I h) fun iv s1 ⟨y, H1, I1, ry, q1⟩ => thn (ho pins s1 σ H1 _ I1 q1) fun u s2 ⟨x, H2, I2, rx, a, ov, ex, g, q2⟩ => ?_
  subst ex
  obtain rfl : u = Value.ref a := rx
  exact d_notIn hu I2 g ry fun s3 I3 => ⟨.bl (!ov.isSome), H2, I3, rfl, q2⟩
theorem ps_dput (hu : X.A.units + 1 < cLine) (ho : PE X o td) (hi : PE X i ty) (hv : PE X value tv) (hs : swapsWith value (some (.Subscript o i pos')) pos.line X.env = pure false) :
    PS X (.Assign [.Subscript o i pos'] value pos) (sDPut td ty tv) := by
  intro pins s σ H D I h
  refine wpAny_Assign_Subscript (thn (hv pins s σ H _ I h) fun r s1 ⟨v, H1, I1, rv, q1⟩ => thn (ho pins s1 σ H1 _ I1 q1) fun u s2 ⟨x, H2, I2, rx, q2⟩ => thn (hi pins s2 σ H2 _ I2 q2) fun iv s3 ⟨y, H3, I3, ry, a, H4, ex, g, q3⟩ => ?_) hs
  subst ex
  obtain rfl : u = Value.ref a := rx
  exact d_setItem hu I3 g ry rv fun s4 I4 => ⟨σ, H4, I4, q3⟩
end
section
variable {X : Cx} {pos : Pos}
end
end L2
/-! EvDq: dicts with tuples as keys, data in a list and its place. Behind the dict part of the layer (mk.py's dictpart). -/
namespace L2
open PySem PySem.Spec PyProof.Rows
section
variable {X : Cx} {o i value : Expr} {pos pos' : Pos} {td ty tv : TE}
theorem qs_dput (hu : X.A.units + 1 < cLine) (ho : QE X o td) (hi : QE X i ty) (hv : QE X value tv) (hs : swapsWith value (some (.Subscript o i pos')) pos.line X.env = pure false := by rfl) : QS X (.Assign [.Subscript o i pos'] value pos) (sDPut td ty tv) := ⟨ps_dput hu ho.h hi.h hv.h hs⟩
end
end L2
/-! EvDit: a dict with numbers as keys: made, walked while it is frozen, asked with a default. Behind EvDq. -/
namespace L2
open PySem PySem.Spec PyProof.Rows
section
variable {X : Cx} {o e : Expr} {es : List Expr} {to : TE} {t : TA} {apos cpos : Pos}
end
end L2
/-! EvVal: functions as values, a try whose clause has no name, () + t. Behind EvDit. -/
namespace L2
open PySem PySem.Spec PyProof.Rows
/-- () + t is t -/
def rCatE (K : PySem.W.Frag) : R2 := fun x y H Q => (∃ a b ys, x = .ref a ∧ y = .ref b ∧ SqT K H a [] ∧ SqT K H b ys ∧ Q (.ref b) H) ∨ rCatT K x y H Q
theorem op_catE {X : Cx} : OpR X (binaryOp .Add) (rCatE X.K) := by
  intro pins s σ H x y v u Q I rx ry h
  rcases h with ⟨a, b, ys, rfl, rfl, ha, hb, q⟩ | h
  · cases rx
    cases ry
    obtain ⟨its, r1, p1, _⟩ := I.tuple ha
    obtain ⟨its2, r2, p2, _⟩ := I.tuple hb
    cases r1
    obtain ⟨⟨cls, dd, data, sl⟩, ho, hc, n, hd⟩ := id p1
    obtain ⟨⟨cls2, dd2, data2, sl2⟩, ho2, hc2, n2, hd2⟩ := id p2
    simp only at hc hd hc2 hd2
    subst hc hd hc2 hd2
    exact concat_meets ⟨_, ho, rfl⟩ ⟨_, ho2, rfl⟩ noFill_tuple_add seq_tuple_add PySem.F.slot_tuple_add PySem.F.entry_tuple_add (PySem.F.args_tuple_add_2 _ _)
      (tuple_addW0 a b _ its2.toArray n n2 dd dd2 sl sl2 (by simp)) ⟨ho, ho2, ⟨.ref b, H, I, rfl, q⟩⟩
  · exact op_catT pins s σ H x y v u Q I rx ry h
end L2
/-! EvIns: list.insert. Behind EvLay. -/
namespace L2
open PySem PySem.Spec PyProof.Rows
end L2
/-! EvRin: a number in a range that is just made. Behind EvLay. -/
namespace L2
open PySem PySem.Spec PyProof.Rows
end L2
/-! EvNil: a list != [], whatever stands in it. Behind EvLay. -/
namespace L2
open PySem PySem.Spec PyProof.Rows
end L2
namespace L2
open PySem PySem.Spec PyProof.Rows
end L2
/-! EvSrt: sorted of pairs of numbers with unlike first numbers: by the first number. Behind EvSort. -/
namespace L2
open PySem PySem.Spec PyProof.Rows PySem.W
section
variable (key : Nat → Int)
variable {key}
end
section
variable {prog : Program} {w : World} {A : Around} {E : Value → Shared → Prop} {s : Shared}
end
end L2
/-! EvLex: sorted of tuples of numbers, like ones and empty ones among them: by the order of rows. Behind EvSrt. -/
namespace L2
open PySem PySem.Spec PyProof.Rows PySem.W
section
variable {key : Nat → Int}
end
section
variable {prog : Program} {w : World} {A : Around} {E : Value → Shared → Prop} {s : Shared}
end
end L2
/-! EvRev: t[::-1] and reversed(t) of a tuple t. Behind EvLay. -/
namespace L2
open PySem PySem.Spec PyProof.Rows
section
variable {prog : Program} {w : World} {A : Around} {E : Value → Shared → Prop} {s : Shared}
theorem adj_rev (n : Nat) : Builtin.Slice.sliceAdjust none none (-1) ((n : Nat) : Int) = (((n : Nat) : Int) - 1, -1) := by
  unfold Builtin.Slice.sliceAdjust
  simp
theorem places_rev (n : Nat) : Builtin.Slice.slicePlaces (((n : Nat) : Int) - 1) (-1) (-1) = n := by
  unfold Builtin.Slice.slicePlaces
  rw [if_neg (by decide)]
  by_cases h : n = 0
  · subst h; rfl
  · rw [if_pos (by omega)]
    show (((((n : Nat) : Int) - 1 - -1 - 1) / 1) + 1).toNat = n
    rw [Int.ediv_one]
    omega
theorem pick_rev (xs : List Value) : ((List.range xs.length).filterMap fun (k : Nat) => xs.toArray[(((xs.length : Nat) : Int) - 1 + (k : Int) * (-1)).toNat]?).toArray = xs.reverse.toArray := by
  have e : (fun (k : Nat) => xs.toArray[(((xs.length : Nat) : Int) - 1 + (k : Int) * (-1)).toNat]?) = (fun j => xs.toArray[j]?) ∘ fun k => xs.length - 1 - k := by
    funext k
    have : (((xs.length : Nat) : Int) - 1 + (k : Int) * (-1)).toNat = xs.length - 1 - k := by omega
    rw [this]
    rfl
  have h := PySem.W.krv_all xs.toArray
  rw [List.size_toArray] at h
  rw [e, ← List.filterMap_map, PySem.W.krv_range, List.filterMap_reverse, h]
theorem getItem_tuple_rev {t sl : Addr} {xs : List Value} {tk : Tok} {Q : Value → Shared → Prop} (ht : IsTup s.heap t xs.toArray) (hs : s.heap.IsSliceOf sl .none .none (.int (-1) tk))
    (h : Q (.ref s.heap.objs.size) { s with heap := s.heap.push { cls := .type "tuple", data := .seq xs.reverse.toArray } }) (hz : xs.length ≤ sizeLine) : wpAny (model prog w) A (getItem (.ref t) (.ref sl)) Q E s := by
  have hk : sizeOk (.seq xs.reverse.toArray) := by
    show xs.reverse.toArray.size ≤ sizeLine
    rw [List.size_toArray, List.length_reverse]
    exact hz
  obtain ⟨os, hos, hcs, hds⟩ := id hs
  have hTs : s.TypeIs (.ref sl) "slice" := ⟨os, hos, hcs⟩
  unfold getItem
  try with_reducible refine wpAny_holding ?_
  first | refine wpAny_bind (wpAny_pure ?_) | skip
  refine wpAny_bind (wpAny_sequenceKey ht.typeIs (by decide) (wpAny_bind (wpAny_callSpecial?_slot (name := Str.ofString "__getitem__") ht.typeIs PyProof.Rows.slot_tuple_getitem (wpAny_call_entry PyProof.Rows.slot_tuple_getitem ht.typeIs entry_tuple_getitem ?_ (args_tuple_getitem _ _)))))
  show wpAny _ _ (Builtin.Tuple.tupleItemsOf (.ref t) >>= _) _ _ s
  refine wpAny_bind (tupleItemsOf_ ht (wpAny_bind (wpAny_typeOf hTs ?_)))
  rw [if_pos (by decide)]
  refine wpAny_bind ?_
  unfold Builtin.Slice.sliceApplied Builtin.Slice.sliceFields
  refine wpAny_bind (wpAny_bind (wpAny_field hos hds (x := .none) rfl (wpAny_bind (wpAny_field hos hds (x := .none) rfl (wpAny_bind (wpAny_field hos hds (x := .int (-1) tk) rfl (wpAny_pure ?_)))))))
  refine wpAny_bind (HT.slicePart_ (.int (-1) tk) ?_)
  show wpAny _ _ (if ((-1 : Int) == 0) = true then _ else _) _ _ s
  rw [if_neg (by decide)]
  refine wpAny_bind (HT.slicePart_ .none (wpAny_bind (HT.slicePart_ .none (wpAny_bind (wpAny_pure ?_)))))
  show wpAny _ _ (match Builtin.Slice.sliceAdjust none none (-1) ((xs.toArray.size : Nat) : Int) with | (lo, hi) => pure (lo, (-1 : Int), Builtin.Slice.slicePlaces lo hi (-1))) _ _ s
  rw [adj_rev]
  show wpAny _ _ (pure (((xs.toArray.size : Nat) : Int) - 1, (-1 : Int), Builtin.Slice.slicePlaces (((xs.toArray.size : Nat) : Int) - 1) (-1) (-1))) _ _ s
  rw [places_rev]
  refine wpAny_pure ?_
  show wpAny _ _ (if ((((xs.toArray.size : Nat) : Int) - 1 == 0 && (-1 : Int) == 1 && xs.toArray.size == xs.toArray.size) = true) then _ else _) _ _ s
  rw [if_neg (by simp), List.size_toArray, pick_rev]
  first
    | exact wpAny_bind (m := Builtin.Tuple.tupleExact _) (wpAny_newObj_type (wpAny_pure ⟨_, rfl, wpAny_pure h⟩) hk)
    | exact wpAny_bind (m := Builtin.Tuple.tupleExact _) (wpAny_newObj_type (wpAny_bind (wpAny_pure (wpAny_pure ⟨_, rfl, wpAny_pure h⟩))) hk)
    | exact wpAny_bind (wpAny_bind (m := Builtin.Tuple.tupleExact _) (wpAny_newObj_type (wpAny_pure (wpAny_pure ⟨_, rfl, wpAny_pure h⟩)) hk))
    | exact wpAny_bind (wpAny_bind (m := Builtin.Tuple.tupleExact _) (wpAny_newObj_type (wpAny_pure ⟨_, rfl, wpAny_pure h⟩) hk))
end
def rRevT (K : PySem.W.Frag) : V → Hp → VK → Prop := fun x H Q => ∃ (a : Addr) (xs : List V), x = .ref a ∧ SqT K H a xs ∧ ∀ l, H l = none → Q (.ref l) (upd H l (.tup xs.reverse))
/-- a[::-1], a a list or a tuple -/
def tRevB (K : PySem.W.Frag) (te : TE) : TE := fun σ H Q => te σ H fun x H1 => rRev K x H1 Q ∨ rRevT K x H1 Q
theorem pe_revB {X : Cx} {e : Expr} {te : TE} {j : Nat} {p1 p2 p3 pos : Pos} (he : PE X e te) : PE X (.Subscript e (.Slice none none (some (.UnaryOp .USub (.Constant (.int 1) j p1) p2)) p3) pos) (tRevB X.K te) := by
  intro pins s σ H Q I h
  refine Subscript_ (thn (he pins s σ H _ I h) fun v s1 ⟨x, H1, I1, r1, q1⟩ => ?_)
  refine wpAny_Slice ?_
  rw [evalPart_none]
  refine wpAny_pure (wpAny_pure ?_)
  rw [evalPart_some]
  refine thn (pe_un un_neg pe_int pins s1 σ H1 (fun x H' => x = .int (-1) ∧ H' = H1) I1 ⟨1, rfl, rfl, rfl⟩) fun vk s3 ⟨x3, H3, I3, r3, e3, e4⟩ => ?_
  subst e3 e4
  obtain ⟨tk, rfl⟩ := r3
  have I4 : Inv X pins σ H3 { s3 with heap := s3.heap.push { cls := .type "slice", data := .fields #[.none, .none, .int (-1) tk] } } := I3.kept (t' := s3.toks) fun b ob q => Heap.get?_push_of_some _ q
  rcases q1 with ⟨a, xs, rfl, hx, q⟩ | ⟨a, xs, rfl, hx, q⟩
  · cases r1
    obtain ⟨its, r, ht, hz⟩ := I4.list hx
    have hlen := r.length
    show wpAny (model X.prog X.w) X.A (subscriptTail e (.Slice none none (some (.UnaryOp .USub (.Constant (.int 1) j p1) p2)) p3) (.ref a) (.ref s3.heap.objs.size)) (EP X pins σ Q) X.xe { s3 with heap := s3.heap.push { cls := .type "slice", data := .fields #[.none, .none, .int (-1) tk] } }
    refine tail_any (ops := [.ref a, .ref s3.heap.objs.size]) ht.isList.typeIs slot_list_getitem.lookup ?_ (by with_unfolding_all rfl)
    refine wpAny_getItem_list_slice ht.isList (Heap.IsSliceOf.new ..) .none .none (.int (-1) tk) (by simp) ?_ (by rw [List.size_toArray] <;> omega)
    rw [PySem.W.krv_pick, List.toList_toArray]
    exact ⟨.ref _, _, I4.laid (t' := s3.toks) (o := .lst xs.reverse) (fun b ob q => Heap.get?_push_of_some _ q) (Nat.le_refl _) ⟨by rw [List.length_reverse]; exact hz, its.reverse, 0, vals_rev r, Heap.get?_push_size _ rfl⟩, rfl, q _ (I4.hok.fresh (Nat.le_refl _))⟩
  · cases r1
    obtain ⟨its, r, ht, hz⟩ := I4.tuple hx
    have hlen := r.length
    show wpAny (model X.prog X.w) X.A (subscriptTail e (.Slice none none (some (.UnaryOp .USub (.Constant (.int 1) j p1) p2)) p3) (.ref a) (.ref s3.heap.objs.size)) (EP X pins σ Q) X.xe { s3 with heap := s3.heap.push { cls := .type "slice", data := .fields #[.none, .none, .int (-1) tk] } }
    refine tail_any (ops := [.ref a, .ref s3.heap.objs.size]) ht.typeIs slot_tuple_getitem.lookup ?_ (by with_unfolding_all rfl)
    refine getItem_tuple_rev ht (Heap.IsSliceOf.new ..) ?_ (by omega)
    exact ⟨.ref _, _, I4.laid (t' := s3.toks) (o := .tup xs.reverse) (fun b ob q => Heap.get?_push_of_some _ q) (Nat.le_refl _) ⟨by rw [List.length_reverse]; exact hz, its.reverse, vals_rev r, IsTup.new _ _⟩, rfl, q _ (I4.hok.fresh (Nat.le_refl _))⟩
theorem qe_revB {X : Cx} {e : Expr} {te : TE} {j : Nat} {p1 p2 p3 pos : Pos} (he : QE X e te) : QE X (.Subscript e (.Slice none none (some (.UnaryOp .USub (.Constant (.int 1) j p1) p2)) p3) pos) (tRevB X.K te) := ⟨pe_revB he.h⟩
/-! ### reversed(t) -/
section
variable {prog : Program} {w : World} {A : Around} {E : Value → Shared → Prop} {s : Shared}
end
end L2
/-! EvCls: own classes: fields, methods, makings, as rules with the promise bundled. Behind EvLay. -/
namespace L2
open PySem PySem.Spec PyProof.Rows
section
variable {X : Cx} {CX : CXT} {k : Nat} {C : Addr} {m : Str} {ps : List Str} {sp : Sp} {E : XK} {pos apos : Pos} {e o : Expr} {es : List Expr} {ta : TE} {t : TA}
end
end L2
/-! EvTr: tuple(range(i, j)). Behind EvLay. -/
namespace L2
open PySem PySem.Spec PyProof.Rows
section
variable {prog : Program} {w : World} {A : Around} {E : Value → Shared → Prop} {s : Shared}
end
theorem items_from {acc : Array Value} {lo n : Nat} (h : ItemsOf (fun i v => ∃ t, v = .int (((lo : Nat) : Int) + (i : Nat) * 1) t) acc n) : Vals ((List.range n).map fun p => V.int ((lo + p : Nat) : Int)) acc.toList := by
  obtain ⟨hs, hv⟩ := h
  have key : ∀ (k : Nat) (l : List Value), (∀ (j : Nat) (v : Value), l[j]? = some v → ∃ t, v = Value.int (((lo + k : Nat) : Int) + (j : Int)) t) → Vals ((List.range' k l.length).map fun p => V.int ((lo + p : Nat) : Int)) l := by
    intro k l
    induction l generalizing k with
    | nil => intro _; exact .nil
    | cons x l ih =>
      intro h
      rw [List.length_cons, List.range'_succ, List.map_cons]
      refine .cons ?_ (ih (k + 1) fun j v e => ?_)
      · obtain ⟨t, e⟩ := h 0 x rfl
        exact ⟨t, by rw [e]; simp⟩
      · obtain ⟨t, e'⟩ := h (j + 1) v e
        exact ⟨t, by rw [e']; congr 1; omega⟩
  have := key 0 acc.toList fun j v e => by
    obtain ⟨t, e'⟩ := hv j v (by simpa using e)
    exact ⟨t, by rw [e']; congr 1; omega⟩
  rw [Array.length_toList, hs] at this
  rw [List.range_eq_range']
  exact this
/-- range(i, j) as a thing -/
theorem call_rng2 {X : Cx} : CallR X (.type "range") (fun xs H Q => ∃ i j : Int, xs = [.int i, .int j] ∧ ∀ r, H r = none → Q (.ref r) (upd H r (.rng i j))) := by
  intro pins s σ H xs us Q I r h
  obtain ⟨i, j, rfl, q⟩ := h
  cases r with
  | cons r1 r2 =>
    cases r2 with
    | cons r3 r4 =>
      cases r4
      obtain ⟨t, rfl⟩ := r1
      obtain ⟨u, rfl⟩ := r3
      exact call_range_2 ⟨.ref s.heap.objs.size, _, I.laid (t' := s.toks + 1) (o := .rng i j) (fun b o e => Heap.get?_push_of_some _ e) (Nat.le_refl _) ⟨_, _, _, Heap.get?_push_size _ rfl⟩, rfl, q _ (I.hok.fresh (Nat.le_refl _))⟩
end L2
/-! EvLrn: list(range(i, j)); data not in a tuple of data. Behind EvTr. -/
namespace L2
open PySem PySem.Spec PyProof.Rows
/-- list(range(i, j)), the range just made -/
def rLrng : List V → Hp → VK → Prop := fun xs H Q => ∃ (r : Addr) (lo n : Nat), xs = [.ref r] ∧ H r = some (.rng ((lo : Nat) : Int) ((lo + n : Nat) : Int)) ∧ lo ≤ 100000 ∧ n ≤ 100000 ∧ ∀ l, H l = none → Q (.ref l) (upd H l (.lst ((List.range n).map fun p => V.int ((lo + p : Nat) : Int))))
theorem call_list_rngF {X : Cx} (hc : X.calm = true) : CallR X (.type "list") rLrng := by
  intro pins s σ H xs us Q I r h
  obtain ⟨a, lo, n, rfl, ha, hlo, hn, q⟩ := h
  obtain ⟨u, rfl, rx⟩ := vals1 r
  cases rx
  obtain ⟨t, u, v, ho⟩ := (show ∃ t u v, s.heap.get? a = some { cls := .type "range", data := .fields #[.int ((lo : Nat) : Int) t, .int ((lo + n : Nat) : Int) u, .int 1 v] } from I.hok a _ ha)
  refine call_list_range (n := n) (I.ok.hd hc) ho (small_one (by omega) (by omega) (by omega) (by omega)) (by rw [rangeSize_one]; split <;> omega) (Nat.le_trans hn (by decide)) fun h' tk acc c kp hg hit => ?_
  refine ⟨.ref s.heap.objs.size, _, I.laid (t' := tk) kp (Nat.le_refl _) (show ObjOk X.prog X.w _ h' _ (.lst _) from ⟨by rw [List.length_map, List.length_range]; exact Nat.le_trans hn (by decide), acc.toList, c, items_from hit, by rw [Array.toArray_toList]; exact hg⟩), rfl, q _ (I.hok.fresh (Nat.le_refl _))⟩
/-- data not in a tuple of data -/
def rNotInT (K : PySem.W.Frag) : R2 := fun x y H Q => ∃ d ds, IsD K H d x ∧ IsD K H (.tuple ds) y ∧ PySem.SeqAt.shaped d = true ∧ PySem.SeqAt.shaped (.tuple ds) = true ∧ Q (.bl (!ds.any fun e => PyData.eqv e d)) H
theorem op_notInT {X : Cx} (hu : X.A.units + 80 < cLine) : OpR X (compareOp .NotIn) (rNotInT X.K) := by
  intro pins s σ H x y v u Q I rx ry h
  obtain ⟨d, ds, hd, hl, sd, sl, q⟩ := h
  obtain ⟨as, ra⟩ := IsD.reads I d hd rx
  obtain ⟨bs, rb⟩ := IsD.reads I (.tuple ds) hl ry
  have hc : PyData.canLayAll0 ds = true := by
    have := PySem.SeqAt.canLay_of_shaped sl
    simpa only [PyData.canLay0] using this
  have hdep := PySem.SeqAt.depth_of_shaped sd
  exact PySem.SeqAt.notIn_tuple_reads rb ra hc (PySem.SeqAt.canLay_of_shaped sd) (by omega) ⟨.bl _, H, I, rfl, q⟩
/-- t[lo:hi], whatever it is -/
def rSlA : V → Option Int → Option Int → Hp → VK → Prop := fun x lo hi H Q => ∃ a xs, x = .ref a ∧ H a = some (.tup xs) ∧ ∀ (p : Addr) (H' : Hp), Same H H' → H' p = some (.tup (cutV xs lo hi)) → Q (.ref p) H'
theorem sl_tupA {X : Cx} : SlR X rSlA := by
  intro pins s σ H x v vl vu lo hi sl Q I rx hs pl pu h
  obtain ⟨a, xs, e, hx, q⟩ := h
  refine sl_tupW pins s σ H x v vl vu lo hi sl Q I rx hs pl pu ⟨a, xs, e, SqT.of hx, fun hw => q a H (Same.refl _) ?_, fun _ p hp => q p _ (fun b o hb => by rw [upd_ne (fun z => by rw [z, hp] at hb; cases hb)]; exact hb) upd_same⟩
  have : cutV xs lo hi = xs := by
    unfold cutV
    rw [hw.1, hw.2, List.drop_zero, Nat.sub_zero, List.take_length]
  rw [this]
  exact hx
end L2
/-! EvZlt: zip of a list and a tuple. Behind EvZit. -/
namespace L2
open PySem PySem.Spec PyProof.Rows
section
variable {prog : Program} {w : World} {A : Around} {E : Value → Shared → Prop} {s : Shared}
theorem zipLT_item {z TI TO i1 i2 l1 l2 : Addr} {k1 k2 : Nat} {xs ys : Array Value} {x y a b : Value} {Q : Option Value → Shared → Prop} (D : ZipApart z TI TO i1 i2 l1 l2) (kz : IsZip s.heap z TI TO .none) (kI : IsPair s.heap TI (.ref i1) (.ref i2)) (kO : IsPair s.heap TO a b)
    (j1 : s.heap.IsListIter i1 l1 k1) (j2 : s.heap.IsTupleIter i2 l2 k2) (t1 : s.heap.IsList l1 xs) (t2 : s.heap.IsTuple l2 ys) (hx : xs[k1]? = some x) (hy : ys[k2]? = some y)
    (hQ : ∀ h', IsZip h' z TI TO (rawInt s.heap.objs.size) → IsPair h' TO x y → h'.IsListIter i1 l1 (k1 + 1) → h'.IsTupleIter i2 l2 (k2 + 1) → IsPair h' s.heap.objs.size x y → Kp4 z TO i1 i2 s.heap h' → Q (some (.ref s.heap.objs.size)) { s with heap := h' }) :
    wpAny (model prog w) A (pyNext (.ref z)) Q E s := by
  have tz : s.TypeIs (.ref z) "zip" := ⟨_, kz, rfl⟩
  unfold pyNext
  refine wpAny_bind (wpAny_attempt (wpAny_callSpecial?_slot (name := Str.ofString "__next__") tz PySem.F.slot_zip_next (wpAny_call_entry PySem.F.slot_zip_next tz PySem.F.entry_zip_next ?_ (PySem.F.args_zip_next_1 _))))
  show wpAny _ _ (field (.ref z) 2 >>= _) _ _ _; refine wpAny_bind (wpAny_field kz rfl (x := .bool false) rfl ?_)
  show wpAny _ _ (field (.ref z) 3 >>= _) _ _ _; refine wpAny_bind (wpAny_field kz rfl (x := .ref TI) rfl (wpAny_bind (wpAny_seqItems kI rfl ?_)))
  show wpAny _ _ (Builtin.SmallTypes.ownedTupleIsFree (.ref z) >>= _) _ _ _; refine wpAny_bind ?_; unfold Builtin.SmallTypes.ownedTupleIsFree
  refine wpAny_bind (wpAny_field kz rfl (x := .none) rfl (wpAny_pure ?_)); simp only [if_true]
  refine wpAny_bind (wpAny_rule (wpAny_bind (wpAny_field kz rfl (x := .ref TO) rfl (wpAny_bind (wpAny_setField_rec kz (by simp) fun ha kza ba => wpAny_bind ?_)))))
  replace kza : IsZip ha z TI TO .ellipsis := kza
  simp only [List.zipIdx_cons, List.zipIdx_nil, List.forIn_cons, List.forIn_nil]
  refine wpAny_bind (wpAny_bind (wpAny_onRaise ?_)); show wpAny _ _ (Builtin.SmallTypes.nextOf (.ref i1) >>= _) _ _ _
  refine wpAny_bind (wpAny_nextOf_list_item (j1.extBut ba.extBut D.i1z) (t1.extBut ba.extBut D.l1z) hx fun hb j1b bb => wpAny_pure ?_)
  have kOb : IsPair hb TO a b := bb.extBut _ _ D.TOi1 (ba.extBut _ _ D.TOz kO)
  refine wpAny_bind (wpAny_seqItems kOb rfl (wpAny_bind (wpAny_updateSeq_pair kOb fun hc kOc bc => wpAny_bind (wpAny_letGo (wpAny_pure ?_)))))
  replace kOc : IsPair hc TO x b := kOc
  refine wpAny_bind (wpAny_bind (wpAny_onRaise ?_)); show wpAny _ _ (Builtin.SmallTypes.nextOf (.ref i2) >>= _) _ _ _
  have j2c := ((j2.extBut ba.extBut D.i2z).extBut bb.extBut D.i12.symm).extBut bc.extBut D.TOi2.symm
  have t2c := ((t2.extBut ba.extBut D.l2z).extBut bb.extBut D.l2i1).extBut bc.extBut D.l2TO
  refine wpAny_bind (nextT_item j2c t2c hy fun hd j2d bd => wpAny_pure ?_)
  have kOd : IsPair hd TO x b := bd.extBut _ _ D.TOi2 kOc
  refine wpAny_bind (wpAny_seqItems kOd rfl (wpAny_bind (wpAny_updateSeq_pair kOd fun he kOe be => wpAny_bind (wpAny_letGo (wpAny_pure (wpAny_pure ?_))))))
  replace kOe : IsPair he TO x y := kOe
  refine wpAny_bind (wpAny_seqItems kOe rfl (wpAny_bind (wpAny_newTuple ?_)))
  have same : he.objs.size = s.heap.objs.size := by rw [be.1, bd.1, bc.1, bb.1, ba.1]
  have kze : IsZip he z TI TO .ellipsis := be.extBut _ _ D.TOz.symm (bd.extBut _ _ D.i2z.symm (bc.extBut _ _ D.TOz.symm (bb.extBut _ _ D.i1z.symm kza)))
  have kp : Kp4 z TO i1 i2 s.heap he := fun c o n1 n2 n3 n4 q => be.extBut _ _ n2 (bd.extBut _ _ n4 (bc.extBut _ _ n2 (bb.extBut _ _ n3 (ba.extBut _ _ n1 q))))
  have j1e : he.IsListIter i1 l1 (k1 + 1) := ((j1b.extBut bc.extBut D.TOi1.symm).extBut bd.extBut D.i12).extBut be.extBut D.TOi1.symm
  have j2e : he.IsTupleIter i2 l2 (k2 + 1) := j2d.extBut be.extBut D.TOi2.symm
  have zlt : z < he.objs.size := Heap.lt_size kze
  show wpAny _ _ (Builtin.SmallTypes.ownedTupleHandOut (.ref z) (.ref he.objs.size) >>= _) _ _ _; refine wpAny_bind ?_; unfold Builtin.SmallTypes.ownedTupleHandOut
  have kzf : IsZip (he.push { cls := .type "tuple", data := .seq #[x, y] }) z TI TO .ellipsis := Heap.get?_push_of_some _ kze
  refine wpAny_bind (wpAny_setField_rec kzf (by simp) fun hg kzg bg => ?_)
  replace kzg : IsZip hg z TI TO (rawInt he.objs.size) := kzg
  refine wpAny_setField_rec kzg (by simp) fun hk kzk bk => ?_
  replace kzk : IsZip hk z TI TO (rawInt he.objs.size) := kzk
  have up : ∀ c o, c ≠ z → he.get? c = some o → hk.get? c = some o := fun c o n q => bk.extBut _ _ n (bg.extBut _ _ n (Heap.get?_push_of_some _ q))
  have kT : IsPair hk he.objs.size x y := bk.extBut _ _ (Nat.ne_of_gt zlt) (bg.extBut _ _ (Nat.ne_of_gt zlt) (Heap.get?_push_size _ rfl))
  rw [same] at kzk kT
  refine wpAny_pure ⟨_, rfl, wpAny_pure ?_⟩
  show Q (some (.ref he.objs.size)) _; rw [same]
  obtain ⟨o1, g1, c1, d1⟩ := j1e
  obtain ⟨o2, g2, c2, d2⟩ := j2e
  exact hQ hk kzk (up _ _ D.TOz kOe) ⟨o1, up _ _ D.i1z g1, c1, d1⟩ ⟨o2, up _ _ D.i2z g2, c2, d2⟩ kT fun c o n1 n2 n3 n4 q => up c o n1 (kp c o n1 n2 n3 n4 q)
theorem zipLT_end {z TI TO i1 i2 l1 l2 : Addr} {k1 : Nat} {xs : Array Value} {a b : Value} {Q : Option Value → Shared → Prop} (hh : A.handled = none) (D : ZipApart z TI TO i1 i2 l1 l2) (kz : IsZip s.heap z TI TO .none) (kI : IsPair s.heap TI (.ref i1) (.ref i2)) (kO : IsPair s.heap TO a b)
    (j1 : s.heap.IsListIter i1 l1 k1) (t1 : s.heap.IsList l1 xs) (hx : xs[k1]? = none) (hQ : ∀ h', Kp4 z TO i1 i2 s.heap h' → Q none { s with heap := h' }) : wpAny (model prog w) A (pyNext (.ref z)) Q E s := by
  have tz : s.TypeIs (.ref z) "zip" := ⟨_, kz, rfl⟩
  unfold pyNext
  refine wpAny_bind (wpAny_attempt (wpAny_callSpecial?_slot (name := Str.ofString "__next__") tz PySem.F.slot_zip_next (wpAny_call_entry PySem.F.slot_zip_next tz PySem.F.entry_zip_next ?_ (PySem.F.args_zip_next_1 _))))
  show wpAny _ _ (field (.ref z) 2 >>= _) _ _ _; refine wpAny_bind (wpAny_field kz rfl (x := .bool false) rfl ?_)
  show wpAny _ _ (field (.ref z) 3 >>= _) _ _ _; refine wpAny_bind (wpAny_field kz rfl (x := .ref TI) rfl (wpAny_bind (wpAny_seqItems kI rfl ?_)))
  show wpAny _ _ (Builtin.SmallTypes.ownedTupleIsFree (.ref z) >>= _) _ _ _; refine wpAny_bind ?_; unfold Builtin.SmallTypes.ownedTupleIsFree
  refine wpAny_bind (wpAny_field kz rfl (x := .none) rfl (wpAny_pure ?_)); simp only [if_true]
  refine wpAny_bind (wpAny_rule (wpAny_bind (wpAny_field kz rfl (x := .ref TO) rfl (wpAny_bind (wpAny_setField_rec kz (by simp) fun ha kza ba => wpAny_bind ?_)))))
  replace kza : IsZip ha z TI TO .ellipsis := kza
  simp only [List.zipIdx_cons, List.zipIdx_nil, List.forIn_cons, List.forIn_nil]
  refine wpAny_bind (wpAny_bind (wpAny_onRaise ?_)); show wpAny _ _ (Builtin.SmallTypes.nextOf (.ref i1) >>= _) _ _ _
  refine wpAny_bind (wpAny_nextOf_list_end hh (j1.extBut ba.extBut D.i1z) (t1.extBut ba.extBut D.l1z) hx fun hb e bb ⟨oe, ge, ce⟩ => ?_)
  have kzb : IsZip hb z TI TO .ellipsis := bb _ _ D.i1z.symm kza
  have ne : e ≠ z := fun q => by subst q; rw [kzb] at ge; cases ge; simp at ce
  refine wpAny_setField_rec kzb (by simp) fun hc _ bc => ?_
  refine wpAny_bind (wpAny_isInstance (T := "StopIteration") (b := true) ⟨oe, bc.extBut _ _ ne ge, ce⟩ isSubtype_stop ?_)
  exact wpAny_pure (hQ _ fun c o n1 _ n3 _ q => bc.extBut _ _ n1 (bb _ _ n3 (ba.extBut _ _ n1 q)))
end
abbrev zv1 (h : Heap) (l1 : Addr) : Heap := h.push { cls := .type "list_iterator", data := .fields #[.ref l1, .int 0 0] }
abbrev zv2 (h : Heap) (l1 l2 : Addr) : Heap := (zv1 h l1).push { cls := .type "tuple_iterator", data := .fields #[.ref l2, .int 0 0] }
abbrev zv3 (h : Heap) (l1 l2 : Addr) : Heap := (zv2 h l1 l2).push { cls := .type "tuple", data := .seq #[.ref h.objs.size, .ref (zv1 h l1).objs.size] }
abbrev zv4 (h : Heap) (l1 l2 : Addr) : Heap := (zv3 h l1 l2).push { cls := .type "tuple", data := .seq #[.none, .none] }
abbrev zv5 (h : Heap) (l1 l2 : Addr) : Heap := (zv4 h l1 l2).push { cls := .type "zip", data := .fields #[.none, .bool false, .bool false, .ref (zv2 h l1 l2).objs.size, .ref (zv3 h l1 l2).objs.size] }
theorem zipLT_new (l1 l2 : Addr) (xs ys : Array Value) :
    Meets (Builtin.«zip.__new__» ⟨[.type "zip", .ref l1, .ref l2], []⟩) (fun _ R s => s.heap.IsList l1 xs ∧ s.heap.IsTuple l2 ys ∧ R (.ok (.ret (.ref (zv4 s.heap l1 l2).objs.size))) { s with heap := zv5 s.heap l1 l2 }) :=
  .of_wp fun prog w A R s h => by
    obtain ⟨hp, g, d, tk, os⟩ := s; obtain ⟨g1, g2, h⟩ := h
    have hsub := sub_zip
    have a1 : Heap.IsList (Shared.heap ⟨hp, g, d, tk, os⟩) l1 xs := g1
    have a2 : Heap.IsTuple (Shared.heap ⟨hp.push { cls := .type "list_iterator", data := .fields #[.ref l1, .int 0 0] }, g, d, tk, os⟩) l2 ys := (let ⟨o, g, r⟩ := g2; ⟨o, Heap.get?_push_of_some _ g, r⟩)
    wp_walk using wpAny_pyIter_list a1, wpAny_pyIter_tuple a2
    exact ⟨_, rfl, h⟩
section
variable {prog : Program} {w : World} {A : Around} {E : Value → Shared → Prop} {s : Shared}
theorem call_zipLT {l1 l2 : Addr} {xs ys : Array Value} {Q : Value → Shared → Prop} (g1 : s.heap.IsList l1 xs) (g2 : s.heap.IsTuple l2 ys)
    (h : ∀ h', IsZip h' (s.heap.objs.size + 4) (s.heap.objs.size + 2) (s.heap.objs.size + 3) .none → IsPair h' (s.heap.objs.size + 2) (.ref s.heap.objs.size) (.ref (s.heap.objs.size + 1)) → IsPair h' (s.heap.objs.size + 3) .none .none →
      h'.IsListIter s.heap.objs.size l1 0 → h'.IsTupleIter (s.heap.objs.size + 1) l2 0 → (∀ c o, s.heap.get? c = some o → h'.get? c = some o) → Q (.ref (s.heap.objs.size + 4)) { s with heap := h' }) :
    wpAny (model prog w) A (call (.type "zip") [.ref l1, .ref l2]) Q E s := by
  refine callType_new PySem.F.called_zip (by decide) (PySem.F.typeCall_zip_2 _ _) (PySem.F.newCall_zip_2 _ _) (fun obj => PySem.F.args_object_init_3 obj _ _) PySem.F.entry_zip_new (zipLT_new l1 l2 xs ys) ⟨g1, g2, ?_⟩
  have n1 : (zv1 s.heap l1).objs.size = s.heap.objs.size + 1 := Heap.size_push ..
  have n2 : (zv2 s.heap l1 l2).objs.size = s.heap.objs.size + 2 := by rw [Heap.size_push, n1]
  have n3 : (zv3 s.heap l1 l2).objs.size = s.heap.objs.size + 3 := by rw [Heap.size_push, n2]
  have n4 : (zv4 s.heap l1 l2).objs.size = s.heap.objs.size + 4 := by rw [Heap.size_push, n3]
  have up : ∀ {c o}, (zv3 s.heap l1 l2).get? c = some o → (zv5 s.heap l1 l2).get? c = some o := fun q => Heap.get?_push_of_some _ (Heap.get?_push_of_some _ q)
  have up1 : ∀ {c o}, (zv1 s.heap l1).get? c = some o → (zv5 s.heap l1 l2).get? c = some o := fun q => up (Heap.get?_push_of_some _ (Heap.get?_push_of_some _ q))
  have q5 : (zv5 s.heap l1 l2).get? (zv4 s.heap l1 l2).objs.size = some _ := Heap.get?_push_size _ rfl
  have q4 : (zv5 s.heap l1 l2).get? (zv3 s.heap l1 l2).objs.size = some _ := Heap.get?_push_of_some _ (Heap.get?_push_size _ rfl)
  have q3 : (zv5 s.heap l1 l2).get? (zv2 s.heap l1 l2).objs.size = some _ := up (Heap.get?_push_size _ rfl)
  have q2 : (zv5 s.heap l1 l2).get? (zv1 s.heap l1).objs.size = some _ := up (Heap.get?_push_of_some _ (Heap.get?_push_size _ rfl))
  have q1 : (zv5 s.heap l1 l2).get? s.heap.objs.size = some _ := up1 (Heap.get?_push_size _ rfl)
  show _ ∧ _
  rw [n2, n3, n4] at q5; rw [n1, n2] at q3; rw [n3] at q4; rw [n1] at q2; rw [n4]
  exact ⟨⟨_, q5, rfl⟩, h _ q5 q3 q4 ⟨_, q1, rfl, rfl⟩ ⟨_, q2, rfl, rfl⟩ fun c o q => up1 (Heap.get?_push_of_some _ q)⟩
end
/-- the pairs of a tuple's and a list's items -/
def Itzq (K : PySem.W.Frag) (a b : Addr) : It :=
  ⟨fun i H => ∃ xs x ys y, SqL K H a xs ∧ xs[i]? = some x ∧ SqT K H b ys ∧ ys[i]? = some y, fun i H v H' => ∃ T x y, (∀ xs, SqL K H a xs → xs[i]? = some x) ∧ (∀ ys, SqT K H b ys → ys[i]? = some y) ∧ H T = none ∧ v = .ref T ∧ H' = upd H T (.tup [x, y]), fun i H => ∃ xs, SqL K H a xs ∧ xs.length ≤ i⟩
theorem turn_zipLT {P : Program} {w : World} {K : PySem.W.Frag} {elts : List Expr} {k : Nat} {tp : Pos} (l1 l2 z TI TO i1 i2 : Addr) (D : ZipApart z TI TO i1 i2 l1 l2) : Turn P w K (.Tuple elts k tp) (Itzq K l1 l2) [z, TO, i1, i2, TI] z
    (fun i h => IsZip h z TI TO .none ∧ IsPair h TI (.ref i1) (.ref i2) ∧ (∃ a b, IsPair h TO a b) ∧ h.IsListIter i1 l1 i ∧ h.IsTupleIter i2 l2 i) where
  mem := by simp
  obj := fun i h st b hb => by
    obtain ⟨kz, kI, ⟨a, b', kO⟩, ⟨o1, g1, _, d1⟩, ⟨o2, g2, _, d2⟩⟩ := st
    simp only [List.mem_cons, List.not_mem_nil, or_false] at hb
    rcases hb with rfl | rfl | rfl | rfl | rfl
    · exact ⟨_, kz, fun v q => by cases q⟩
    · exact ⟨_, kO, fun v q => by cases q⟩
    · exact ⟨o1, g1, fun v q => by rw [d1] at q; cases q⟩
    · exact ⟨o2, g2, fun v q => by rw [d2] at q; cases q⟩
    · exact ⟨_, kI, fun v q => by cases q⟩
  keep := fun i h h' ⟨kz, kI, ⟨a, b', kO⟩, ⟨o1, g1, r1⟩, ⟨o2, g2, r2⟩⟩ kp => ⟨kp z (by simp) _ kz, kp TI (by simp) _ kI, ⟨a, b', kp TO (by simp) _ kO⟩, ⟨o1, kp i1 (by simp) _ g1, r1⟩, ⟨o2, kp i2 (by simp) _ g2, r2⟩⟩
  item := by
    intro X hP hw hK hc i pins s σ H E I hf st hg
    subst hP hw hK
    obtain ⟨xs, x, ys, y, hq, hx, hq', hy⟩ := hg
    obtain ⟨us, rv, p, hz⟩ := I.list hq
    obtain ⟨us', rv', p', hz'⟩ := I.tuple hq'
    obtain ⟨u, hu, ru⟩ := rv.get hx
    obtain ⟨u', hu', ru'⟩ := rv'.get hy
    obtain ⟨kz, kI, ⟨a, b', kO⟩, j1, j2⟩ := st
    have fr : H s.heap.objs.size = none := I.hok.fresh (Nat.le_refl _)
    have hlt : ∀ b ∈ [z, TO, i1, i2, TI], b ≠ s.heap.objs.size := fun b hb e => by
      simp only [List.mem_cons, List.not_mem_nil, or_false] at hb
      have lt : ∀ {c o}, s.heap.get? c = some o → c ≠ s.heap.objs.size := fun q => Nat.ne_of_lt (Heap.lt_size q)
      rcases hb with rfl | rfl | rfl | rfl | rfl
      · exact lt kz e
      · exact lt kO e
      · obtain ⟨_, g, _⟩ := j1; exact lt g e
      · obtain ⟨_, g, _⟩ := j2; exact lt g e
      · exact lt kI e
    refine zipLT_item D kz kI kO j1 j2 p.isList p' (x := u) (y := u') (by simpa using hu) (by simpa using hu') fun h' kz' kO' j1' j2' kT kp => ?_
    have I1 : Inv X pins σ H { s with heap := h', toks := s.toks } := I.turnedL (wr := [z, TO, i1, i2]) (fun b o hb q => kp b o (fun e => hb (by simp [e])) (fun e => hb (by simp [e])) (fun e => hb (by simp [e])) (fun e => hb (by simp [e])) q) (fun b hb => hf b (by
      simp only [List.mem_cons, List.not_mem_nil, or_false] at hb ⊢
      rcases hb with e | e | e | e <;> simp [e]))
    have I2 : Inv X pins σ (upd H s.heap.objs.size (.tup [x, y])) { s with heap := h', toks := s.toks } := I.tracked I1 (Nat.le_refl _) ⟨by show 2 ≤ sizeLine; decide, [u, u'], .cons ru (.cons ru' .nil), ⟨_, kT, rfl, _, rfl⟩⟩
    have hf2 : ∀ b ∈ [z, TO, i1, i2, TI], FpOk X pins (upd H s.heap.objs.size (.tup [x, y])) b := fun b hb => by
      obtain ⟨f0, f1, f2, f3, f4, f5⟩ := hf b hb
      exact ⟨by rw [upd_ne (hlt b hb)]; exact f0, f1, f2, f3, f4, f5⟩
    refine ⟨_, rfl, wpAny_letOwnedTupleGo_zip kz' fun h'' kz'' bs => ?_⟩
    have bk : ∀ b o, b ≠ z → h'.get? b = some o → h''.get? b = some o := fun b o n q => (bs.2 b n).trans q
    obtain ⟨o1, g1, r1⟩ := j1'
    obtain ⟨o2, g2, r2⟩ := j2'
    refine ⟨.ref s.heap.objs.size, _, I2.turnedL (wr := [z]) (t' := s.toks) (fun b o hb q => bk b o (fun e => hb (by simp [e])) q) (fun b hb => hf2 b (by rw [List.mem_singleton.mp hb]; simp)), rfl,
      ⟨_, x, y, fun zs hs => by rw [I.list_inj hs hq]; exact hx, fun zs hs => by rw [I.tuple_inj hs hq']; exact hy, fr, rfl, rfl⟩,
      ⟨kz'', bk _ _ D.TIz (kp _ _ D.TIz D.TITO D.TIi1 D.TIi2 kI), ⟨_, _, bk _ _ D.TOz kO'⟩, ⟨o1, bk _ _ D.i1z g1, r1⟩, ⟨o2, bk _ _ D.i2z g2, r2⟩⟩, fun b hb => (hf2 b hb).1⟩
  done := by
    intro X hP hw hK hc i pins s σ H E I hf st hg
    subst hP hw hK
    obtain ⟨xs, hq, hx⟩ := hg
    obtain ⟨us, rv, p, hz⟩ := I.list hq
    have hl := rv.length
    obtain ⟨kz, kI, ⟨a, b', kO⟩, j1, j2⟩ := st
    exact zipLT_end (I.ok.hd hc) D kz kI kO j1 p.isList (by simp; omega) fun h' kp => ⟨rfl, I.turnedL (wr := [z, TO, i1, i2]) (t' := s.toks) (fun b o hb q => kp b o (fun e => hb (by simp [e])) (fun e => hb (by simp [e])) (fun e => hb (by simp [e])) (fun e => hb (by simp [e])) q) (fun b hb => hf b (by
      simp only [List.mem_cons, List.not_mem_nil, or_false] at hb ⊢
      rcases hb with e | e | e | e <;> simp [e]))⟩
  self := fun _ _ _ _ _ st h => wpAny_pyIter_zip st.1 h
section
variable {X : Cx} {elts : List Expr} {k : Nat} {tp : Pos}
def iZipLT (K : PySem.W.Frag) (ta : TA) : TI := fun σ H R => ta σ H fun vs H1 => ∃ a b, vs = [.ref a, .ref b] ∧ (∃ xs, SqL K H1 a xs) ∧ (∃ ys, SqT K H1 b ys) ∧ R (Itzq K a b) H1
theorem pi_zipLT {a b : Expr} {ta : TA} {p pos : Pos} (hg : Gl X "zip") (hm : X.mg "zip" = none) (ha : PA X [a, b] ta) (hs : starEach [a, b] X.env = [(false, eval a X.env), (false, eval b X.env)] := by rfl) (hs2 : starEach [b] X.env = [(false, eval b X.env)] := by rfl) : PI X (.Tuple elts k tp) (.Call (.Name "zip" p) [a, b] [] pos) (iZipLT X.K ta) := by
  intro pins s σ H R I h
  refine Call_ (ld_blt I hg hm (show bootBuiltins "zip" = some (.type "zip") by decide +kernel) (PyProof.Rows.callWith_type1 (thn (ha pos pins s σ H _ I h) fun us s1 ⟨vs, H1, I1, r1, q1⟩ => ?_) (by rw [hs, hs2]) (by rw [hs2]; rfl)))
  obtain ⟨a, b, e, ⟨xs, hq⟩, ⟨ys, hq'⟩, q⟩ := q1
  subst e
  cases r1 with
  | cons ra rr =>
    cases rr with
    | cons rb rr =>
      cases rr
      cases ra
      cases rb
      obtain ⟨its, rv, pl, hz⟩ := I1.list hq
      obtain ⟨its', rv', pl', hz'⟩ := I1.tuple hq'
      have la : a < s1.heap.objs.size := by obtain ⟨_, g, _⟩ := pl.isList; exact Heap.lt_size g
      have lb : b < s1.heap.objs.size := by obtain ⟨_, g, _⟩ := pl'; exact Heap.lt_size g
      refine call_zipLT pl.isList pl' fun h' kz kI kO j1 j2 kp => ?_
      have I2 : Inv X pins σ H1 { s1 with heap := h' } := I1.kept (t' := s1.toks) kp
      refine wpAny_pyIter_zip kz ?_
      have D : ZipApart (s1.heap.objs.size + 4) (s1.heap.objs.size + 2) (s1.heap.objs.size + 3) s1.heap.objs.size (s1.heap.objs.size + 1) a b := PySem.W.ktu_apart _ _ _ la lb
      refine ⟨s1.heap.objs.size + 4, [s1.heap.objs.size + 4, s1.heap.objs.size + 3, s1.heap.objs.size, s1.heap.objs.size + 1, s1.heap.objs.size + 2], _, _, H1, rfl, I2, turn_zipLT a b _ _ _ _ _ D, ⟨kz, kI, ⟨_, _, kO⟩, j1, j2⟩, fun c hc => ?_, q⟩
      have : s1.heap.objs.size ≤ c := by
        simp only [List.mem_cons, List.not_mem_nil, or_false] at hc
        rcases hc with rfl | rfl | rfl | rfl | rfl
        · exact Nat.le_add_right _ _
        · exact Nat.le_add_right _ _
        · exact Nat.le_refl _
        · exact Nat.le_add_right _ _
        · exact Nat.le_add_right _ _
      exact I1.fpOk this (I1.hok.fresh this)
theorem qi_zipLT {a b : Expr} {ta : TA} {p pos : Pos} (hg : Gl X "zip") (hm : X.mg "zip" = none) (ha : QA X [a, b] ta) (hs : starEach [a, b] X.env = [(false, eval a X.env), (false, eval b X.env)] := by rfl) (hs2 : starEach [b] X.env = [(false, eval b X.env)] := by rfl) : QI X (.Tuple elts k tp) (.Call (.Name "zip" p) [a, b] [] pos) (iZipLT X.K ta) := ⟨pi_zipLT hg hm ha.h hs hs2⟩
end
theorem for_zipLT {K : PySem.W.Frag} {a b : Addr} {xs ys : List V} {g : TG} {tb : TS} {D : Ends} {σ : St} {H : Hp} (hlen : xs.length = ys.length) (Pv : Nat → St → Hp → Prop) (h0 : Pv 0 σ H) (hl : ∀ i σ H, i ≤ xs.length → Pv i σ H → SqL K H a xs ∧ SqT K H b ys)
    (hs : ∀ i x y T σ H, xs[i]? = some x → ys[i]? = some y → Pv i σ H → H T = none → g (.ref T) σ (upd H T (.tup [x, y])) fun σ2 H2 => tb { D with nx := Pv (i + 1), ct := Pv (i + 1), bk := D.nx } σ2 H2) (hd : ∀ σ H, Pv xs.length σ H → D.nx σ H) :
    ∃ W : Nat → Nat → St → Hp → Prop, (∃ m, W 0 m σ H) ∧ ∀ i m σ H, W i m σ H →
      ((Itzq K a b).stop i H ∧ D.nx σ H) ∨ ((Itzq K a b).go i H ∧ ∃ N : St → Hp → Prop, (∀ σ' H', N σ' H' → ∃ m', m' < m ∧ W (i + 1) m' σ' H') ∧ ∀ x H', (Itzq K a b).yld i H x H' → g x σ H' fun σ2 H2 => tb { D with nx := N, ct := N, bk := D.nx } σ2 H2) := by
  refine ⟨fun i m σ H => m = xs.length - i ∧ i ≤ xs.length ∧ Pv i σ H, ⟨xs.length, by simp, Nat.zero_le _, h0⟩, ?_⟩
  rintro i m σ H ⟨rfl, hi, p⟩
  obtain ⟨q, q'⟩ := hl i σ H hi p
  by_cases hlt : i < xs.length
  · have hlt' : i < ys.length := hlen ▸ hlt
    refine .inr ⟨⟨xs, xs[i], ys, ys[i], q, by simp [hlt], q', by simp [hlt']⟩, Pv (i + 1), fun σ' H' p' => ⟨xs.length - (i + 1), by omega, rfl, hlt, p'⟩, fun v H' hy => ?_⟩
    obtain ⟨T, x, y, hx, hy, hT, rfl, rfl⟩ := hy
    exact hs i x y T σ _ (hx xs q) (hy ys q') p hT
  · have e : i = xs.length := by omega
    subst e
    exact .inl ⟨⟨xs, q, Nat.le_refl _⟩, hd σ H p⟩
end L2
/-! EvLsl: sorted of a list of lists of numbers, by the order of rows. Behind EvLex. -/
namespace L2
open PySem PySem.Spec PyProof.Rows PySem.W
section
variable {prog : Program} {w : World} {A : Around} {E : Value → Shared → Prop} {s : Shared}
end
end L2
namespace E1
open PySem L2
abbrev pw : Program := PySem.Challenge.pw_evenmeet_k46_trees_taken
def top (i : Nat) : Stmt := pw.main.body.getD i (.Pass ⟨0, 0, 0, 0⟩)
abbrev sWhole : Stmt := top 1
abbrev sIsJust : Stmt := top 2
abbrev sNoClasses : Stmt := top 4
abbrev sShutsAll : Stmt := top 5
abbrev sShutsBlock : Stmt := top 6
abbrev sIsTupleOf : Stmt := top 7
abbrev sBegun : Stmt := top 8
abbrev sBlocksLeft : Stmt := top 9
abbrev sMissingPoint : Stmt := top 10
abbrev sPointsHad : Stmt := top 11
abbrev sFittingBlocks : Stmt := top 12
abbrev sHasNone : Stmt := top 13
abbrev sWithBlock : Stmt := top 14
abbrev sCell : Stmt := top 16
abbrev sLNumbers : Stmt := top 17
abbrev sLRow : Stmt := top 18
abbrev sLParting : Stmt := top 19
abbrev sLLeast : Stmt := top 20
abbrev sLSons : Stmt := top 21
abbrev sLShut : Stmt := top 22
abbrev sLTree : Stmt := top 23
abbrev sLSpoilt : Stmt := top 24
abbrev sDue : Stmt := top 25
abbrev sLIs : Stmt := top 26
abbrev sLaw : Stmt := top 27
section
variable {P : Program} {w : World} {K : PySem.W.Frag} {mg : Str → Option Value} {base : Heap} {M C : Addr}
/-- a rising block below p -/
structure Bls (p : Nat) (b : List Nat) : Prop where
  so : b.Pairwise (· < ·)
  lt : ∀ x ∈ b, x < p
theorem Bls.nd {p : Nat} {b : List Nat} (h : Bls p b) : b.Nodup := by
  rw [List.nodup_iff_pairwise_ne]
  exact h.so.imp fun z => Nat.ne_of_lt z
theorem Bls.blk {p : Nat} {b : List Nat} (h : Bls p b) : Blk p b := ⟨h.nd, h.lt⟩
theorem blk_sorted {m : Nat} {b : List Nat} (h : Blk m b) (hs : b.Pairwise (· ≤ ·)) : Bls m b := by
  refine ⟨?_, h.lt⟩
  have hn := List.nodup_iff_pairwise_ne.mp h.nd
  exact (hs.and hn).imp fun ⟨z1, z2⟩ => Nat.lt_of_le_of_ne z1 z2
theorem scWhole : FnScope ["thing"] ["thing"] (defScope sWhole) := ⟨rfl, rfl, rfl, by decide +kernel, rfl, by decide +kernel, by decide +kernel⟩
theorem ok_whole {f : Addr} {fd : FuncData} (F : Fun K "is_whole" "is_whole" sWhole f fd) (T : TxtB mg) : FnOk P w K mg base CX0 1 f fd ["thing"] (spWhole K) := by
  refine F.okQ scWhole (fun vs H Q E h => ?_) (fun cdv A outer s H vs Q E hr h => ?_)
  · obtain ⟨v, b, rfl, _⟩ := h
    rfl
  · obtain ⟨v, b, rfl, hw, k⟩ := h
    refine ⟨_, qss_one (qs_ret (qe_and (qe_callB call_isinst (by rfl) T.isi PyProof.Rows.boot_isinstance (qac (qv 0) (qac (qe_bltn (v := .ty "int") rfl T.int PyProof.Rows.boot_int rfl) qa_nil)))
      (qe_one (qe_not (qe_callB call_isinst (by rfl) T.isi PyProof.Rows.boot_isinstance (qac (qv 0) (qac (qe_bltn (v := .ty "bool") rfl T.bool PyProof.Rows.boot_bool rfl) qa_nil))))))), ?_⟩
    cases hw with
    | int i =>
      refine ⟨_, rfl, _, _, _, _, rfl, .int i, rel_ty (kit_int_int K), true, rfl, iteT ?_⟩
      exact ⟨_, rfl, _, _, _, _, rfl, .int i, rel_ty (kit_int_bool K), false, rfl, k⟩
    | bl x =>
      refine ⟨_, rfl, _, _, _, _, rfl, .bl x, rel_ty (kit_bool_int K), true, rfl, iteT ?_⟩
      exact ⟨_, rfl, _, _, _, _, rfl, .bl x, rel_ty (kit_bool_bool K), true, rfl, k⟩
    | odd ty kk =>
      exact ⟨_, rfl, _, _, _, _, rfl, ty, rel_ty kk, false, rfl, iteF k⟩
def spCell2 (K : PySem.W.Frag) : Sp := fun vs H Q _ => ∃ (a : Addr) (ns : List Int) (k : Nat), vs = [.ref a, .int (k : Int)] ∧ SqL K H a (ns.map V.int) ∧ k ≤ 1000 ∧ ∀ (z : Int) (H' : Hp), Same H H' → Q (.int z) H'
theorem scCell : FnScope ["_law_script", "_law_k", "_law_state", "_law_cell_here"] ["_law_script", "_law_k"] (defScope sCell) := ⟨rfl, rfl, rfl, by decide +kernel, rfl, by decide +kernel, by decide +kernel⟩
theorem ok_cell2 {f : Addr} {fd : FuncData} (F : Fun K "_law_cell" "_law_cell" sCell f fd) (T : TxtB mg) : FnOk P w K mg base CX0 1 f fd ["_law_script", "_law_k"] (spCell2 K) := by
  refine F.okQ scCell (fun vs H Q E h => ?_) (fun cdv A outer s H vs Q E hr h => ?_)
  · obtain ⟨a, ns, k, rfl, _⟩ := h
    rfl
  · obtain ⟨a, ns, k, rfl, hS, hk, q⟩ := h
    refine ⟨_, (qss_cons (qs_if (qt_cmpR op_lt (qv 1) (qe_callB call_len_seq (by rfl) T.len PySem.boot_len (qac (qv 0) qa_nil)) (nomark _)) (qss_one (qs_ret (qe_ix ix_list (qv 0) (qv 1) (fun _ _ => rfl)))) qss_nil)
      (qss_cons (qs_set (i := 2) scCell.nd rfl (Or.inl rfl) (qe_op op_mod (qe_op op_mul qe_int (qe_op op_add (qe_op op_add (qe_op op_mul (qv 1) (qv 1)) (qe_op op_mul qe_int (qv 1))) qe_int)) qe_int))
      (qss_cons (qs_for PassesOwn.never rfl (qi_list (qe_slice sl_list (qv 0) qo_none (qo_some qe_int))) (qg_name (i := 3) scCell.nd rfl (Or.inl rfl))
        (qss_one (qs_set (i := 2) scCell.nd rfl (Or.inl rfl) (qe_op op_mod (qe_op op_add (qe_op op_mul (qv 2) qe_int) (qv 3)) qe_int))))
      (qss_one (qs_ret (qv 2)))))), ?_⟩
    refine ⟨_, rfl, _, rfl, a, _, rfl, .inl hS, _, _, rfl, rfl, _, rfl, ?_⟩
    refine ite2 (fun hc => ?_) (fun hc => ?_)
    · have hlt : k < ns.length := by
        have := of_decide_eq_true hc
        rw [List.length_map] at this
        omega
      refine ⟨_, rfl, _, rfl, a, _, _, V.int ns[k], rfl, rfl, hS, atI_nat (by rw [List.getElem?_map, List.getElem?_eq_getElem hlt]; rfl), q _ _ (Same.refl _)⟩
    · refine ⟨_, rfl, _, rfl, _, _, rfl, rfl, .inr ⟨by omega, by omega⟩, _, rfl, _, _, rfl, rfl, .inl ⟨by decide, by decide⟩, _, _, rfl, rfl, _, _, rfl, rfl, _, _, rfl, rfl, .inl ⟨by decide, by decide⟩, _, _, rfl, rfl, by show (0 : Int) < 2147483647; decide, ?_⟩
      refine ⟨_, rfl, _, rfl, a, _, rfl, hS, fun l hl => ?_⟩
      refine ⟨l, rfl, ⟨_, SqL.of upd_same⟩, for_list (K := K) (a := l) (xs := cutV (ns.map V.int) none (some 3)) (fun i σ H2 => H2 = upd H l (.lst (cutV (ns.map V.int) none (some 3))) ∧ ∃ (z : Int) (x3 : Option V), σ = [some (.ref a), some (.int k), some (.int z), x3]) ⟨rfl, _, _, rfl⟩ (fun i σ H2 _ ⟨e, _⟩ => SqL.of (e ▸ upd_same)) ?_ ?_⟩
      · rintro i v σ H2 hi ⟨rfl, z, x3, rfl⟩
        obtain ⟨c, rfl⟩ := cut_ints v (List.mem_of_getElem? hi)
        exact ⟨_, rfl, _, _, rfl, rfl, .inr ⟨by decide, by decide⟩, _, rfl, _, _, rfl, rfl, _, _, rfl, rfl, by show (0 : Int) < 2147483647; decide, rfl, _, _, rfl⟩
      · rintro σ H2 ⟨rfl, z, x3, rfl⟩
        exact ⟨_, rfl, q _ _ (same_new hl)⟩
theorem pickB {x y : Int} (b : Bool) : atI [V.int x, V.int y] (if b then 1 else 0) = some (V.int (if b then y else x)) := by cases b <;> rfl
def spNums : Sp := fun vs H Q _ => ∃ (c : Int) (m : Nat), vs = [.int c, .int (m : Nat)] ∧ m ≤ 1000 ∧ ∀ (l : Addr) (ns : List Int) (H' : Hp), H l = none → Same H H' → H' l = some (.lst (ns.map V.int)) → ns.length = m → (∀ x ∈ ns, 0 ≤ x ∧ x < 2000000000) → Q (.ref l) H'
theorem scLNumbers : FnScope ["_law_cell_here", "_law_many", "_law_found", "_law_state", "_law_digits", "_law_k"] ["_law_cell_here", "_law_many"] (defScope sLNumbers) := ⟨rfl, rfl, rfl, by decide +kernel, rfl, by decide +kernel, by decide +kernel⟩
theorem ok_numbers {f : Addr} {fd : FuncData} (F : Fun K "_law_numbers" "_law_numbers" sLNumbers f fd) (T : TxtB mg) : FnOk P w K mg base CX0 1 f fd ["_law_cell_here", "_law_many"] spNums := by
  refine F.okQ scLNumbers (fun vs H Q E h => ?_) (fun cdv A outer s H vs Q E hr h => ?_)
  · obtain ⟨c, m, rfl, _⟩ := h
    rfl
  · obtain ⟨c, m, rfl, hm, q⟩ := h
    refine ⟨_, (qss_cons (qs_set (i := 2) scLNumbers.nd rfl (Or.inl rfl) (qe_lst qa_nil))
      (qss_cons (qs_set (i := 3) scLNumbers.nd rfl (Or.inl rfl) (qe_op op_mod (qe_op op_mul (qe_op op_add (qe_op op_mod (qv 0) qe_int) qe_int) qe_int) qe_int))
      (qss_cons (qs_set (i := 4) scLNumbers.nd rfl (Or.inl rfl) qe_int)
      (qss_cons (qs_if (QW.pt (qw_or (qt_cmpR op_lt (qv 0) qe_int (nomark _)) (qw_or1 (qt_cmpR op_ge (qv 0) (qe_op op_pow qe_int qe_int) (nomark _))))) (qss_one (qs_set (i := 4) scLNumbers.nd rfl (Or.inl rfl) (qe_callB call_abs (by rfl) T.abs PyProof.Rows.boot_abs (qac (qv 0) qa_nil)))) qss_nil)
      (qss_cons (qs_for PassesOwn.never rfl (qi_range1 rfl T.range (qac (qv 1) qa_nil)) (qg_name (i := 5) scLNumbers.nd rfl (Or.inl rfl))
        (qss_cons (qs_set (i := 3) scLNumbers.nd rfl (Or.inl rfl) (qe_op op_mod (qe_op op_add (qe_op op_add (qe_op op_mul (qv 3) (qe_op op_add (qe_op op_mod (qv 3) qe_int) qe_int)) (qe_op op_mul qe_int (qv 5))) qe_int) qe_int))
        (qss_cons (qs_expr (qe_bm PySem.F.plainAttrs_list PySem.F.slot_list_append PySem.F.type_list_append mt_append (qv 2) (qac (qe_ix ix_list (qe_lst (qac (qv 3) (qac (qe_op op_mod (qv 4) qe_int) qa_nil))) (qe_callTy call_int1 (by rfl) T.int PyProof.Rows.boot_int (qac (qe_cmpR op_gt (qv 4) qe_int (nomark _)) qa_nil)) (fun _ _ => rfl)) qa_nil)))
        (qss_one (qs_set (i := 4) scLNumbers.nd rfl (Or.inl rfl) (qe_op op_fdiv (qv 4) qe_int))))))
      (qss_one (qs_ret (qv 2)))))))), ?_⟩
    refine ⟨by show 0 ≤ sizeLine; decide, fun l hl => ?_⟩
    have big : (0 : Int) < 1999999973 := by decide
    have c1 := Int.emod_nonneg c (show (1999999973 : Int) ≠ 0 by decide)
    have c2 := Int.emod_lt_of_pos c big
    refine ⟨_, rfl, _, _, rfl, rfl, (by show (0 : Int) < 1999999973; decide), _, _, rfl, rfl, _, _, rfl, rfl, .inr ⟨by decide, by decide⟩, _, _, rfl, rfl, (by show (0 : Int) < 1999999973; decide), ?_⟩
    generalize hst : (c % 1999999973 + 31) * 765432101 % 1999999973 = st0
    have st1 : 0 ≤ st0 ∧ st0 < 1999999973 := by
      rw [← hst]
      exact ⟨Int.emod_nonneg _ (by decide), Int.emod_lt_of_pos _ (by decide)⟩
    refine ⟨_, rfl, _, _, rfl, rfl, _, rfl, ?_⟩
    obtain ⟨dg, hdg, hw⟩ : ∃ dg : Int, 0 ≤ dg ∧ ((c < 0 ∧ dg = (if c < 0 then -c else c)) ∨ (¬ c < 0 ∧ c ≥ 10 ^ (18 : Int).toNat ∧ dg = (if c < 0 then -c else c)) ∨ (¬ c < 0 ∧ ¬ c ≥ 10 ^ (18 : Int).toNat ∧ dg = 0)) := by
      by_cases h1 : c < 0
      · exact ⟨_, abs_nn c, .inl ⟨h1, rfl⟩⟩
      · by_cases h2 : c ≥ 10 ^ (18 : Int).toNat
        · exact ⟨_, abs_nn c, .inr (.inl ⟨h1, h2, rfl⟩)⟩
        · exact ⟨0, Int.le_refl 0, .inr (.inr ⟨h1, h2, rfl⟩)⟩
    rcases hw with ⟨h1, e⟩ | ⟨h1, h2, e⟩ | ⟨h1, h2, e⟩
    all_goals first | refine ifF h1 ⟨_, rfl, _, _, rfl, rfl, ⟨by decide, by decide, by decide⟩, _, _, rfl, rfl, _, rfl, ifT h2 ⟨_, rfl, c, rfl, ?_⟩⟩ | refine ifF h1 ⟨_, rfl, _, _, rfl, rfl, ⟨by decide, by decide, by decide⟩, _, _, rfl, rfl, _, rfl, ifF h2 ?_⟩ | refine ifT h1 ⟨_, rfl, c, rfl, ?_⟩
    all_goals
      refine ⟨_, rfl, ((m : Nat) : Int), rfl, by omega, by omega, for_range (n := m) (fun i σ H2 => Same H H2 ∧ ∃ (ns : List Int) (sd dg : Int) (x : Option V), σ = [some (.int c), some (.int (m : Nat)), some (.ref l), some (.int sd), some (.int dg), x] ∧ H2 l = some (.lst (ns.map V.int)) ∧ ns.length = i ∧ (∀ x ∈ ns, 0 ≤ x ∧ x < 2000000000) ∧ 0 ≤ sd ∧ sd < 1999999973 ∧ 0 ≤ dg)
        ⟨same_new hl, [], st0, dg, none, by rw [e, ← hst]; rfl, upd_same, rfl, by simp, st1.1, st1.2, hdg⟩ ?_ ?_⟩
      · rintro i σ H2 hi ⟨s2, ns, sd, dg, x, rfl, hl2, hlen, hns, h1, h2, h3⟩
        have a1 := Int.emod_nonneg sd (show (65521 : Int) ≠ 0 by decide)
        have a2 := Int.emod_lt_of_pos sd (show (0 : Int) < 65521 by decide)
        refine ⟨_, rfl, _, rfl, _, _, rfl, rfl, (by show (0 : Int) < 65521; decide), _, _, rfl, rfl, _, _, rfl, rfl, .inl ⟨by omega, by omega⟩, _, rfl, _, _, rfl, rfl, .inl ⟨by decide, by decide⟩, _, _, rfl, rfl, _, _, rfl, rfl, _, _, rfl, rfl, (by show (0 : Int) < 1999999973; decide), ?_⟩
        refine ⟨_, rfl, .inl ⟨rfl, _, SqL.of hl2⟩, _, rfl, _, rfl, _, _, rfl, rfl, (by show (0 : Int) < 1000000; decide), by show 2 ≤ sizeLine; decide, fun t ht => ?_⟩
        refine ⟨_, rfl, _, _, rfl, rfl, .inr ⟨_, rfl, t, _, _, _, rfl, rfl, SqL.of upd_same, pickB _, l, _, _, rfl, rfl, (same_new ht) _ _ hl2, ?_, ?_⟩⟩
        · rw [List.length_map, hlen]
          exact Nat.lt_of_lt_of_le hi (Nat.le_trans hm (by decide))
        refine ⟨_, rfl, _, _, rfl, rfl, ⟨by decide, by decide⟩, same_upd (s2.trans (same_new ht)) hl, ns ++ [if decide (0 < dg) = true then dg % 1000000 else (sd * (sd % 65521 + 40487) + 7 * (0 + (i : Int)) + 5) % 1999999973], _, _, _, rfl, ?_, ?_, ?_, ?_, ?_, ?_⟩
        · rw [List.map_append]
          exact upd_same
        · rw [List.length_append, hlen]
          rfl
        · intro y hy
          rcases List.mem_append.mp hy with z | z
          · exact hns y z
          · rw [List.mem_singleton.mp z]
            split
            · exact ⟨Int.emod_nonneg _ (by decide), Int.lt_trans (Int.emod_lt_of_pos _ (by decide)) (by decide)⟩
            · exact ⟨Int.emod_nonneg _ (by decide), Int.lt_trans (Int.emod_lt_of_pos _ (by decide)) (by decide)⟩
        · exact Int.emod_nonneg _ (by decide)
        · exact Int.emod_lt_of_pos _ (by decide)
        · exact Int.ediv_nonneg h3 (by decide)
      · rintro σ H2 ⟨s2, ns, sd, dg, x, rfl, hl2, hlen, hns, _⟩
        exact ⟨_, rfl, q l ns H2 hl s2 hl2 hlen hns⟩
theorem comp_list {K : PySem.W.Frag} {a : Addr} {xs : List V} {g : TG} {tc : TT} {te : TE} {σ' : St} {H : Hp} {G : Addr → Hp → List V → Prop} (Pv : Nat → List V → Hp → Prop) (h0 : Pv 0 [] H) (hl : ∀ i ys H, i ≤ xs.length → Pv i ys H → SqL K H a xs)
    (hs : ∀ i x ys H (N : List V → Hp → Prop), xs[i]? = some x → Pv i ys H → (∀ ys' H', Pv (i + 1) ys' H' → N ys' H') → g x σ' H fun σ2 H4 => Weak σ' σ2 ∧ tc σ2 H4 fun b H5 => if b = true then te σ2 H5 fun y H6 => ys.length < sizeLine ∧ N (ys ++ [y]) H6 else N ys H5)
    (hd : ∀ ys H, Pv xs.length ys H → ys.length ≤ sizeLine ∧ ∀ p, H p = none → G p H ys) :
    ∃ W : Nat → Nat → List V → Hp → Prop, (∃ m, W 0 m [] H) ∧ ∀ i m ys H2, W i m ys H2 →
      ((Itl K a).stop i H2 ∧ ys.length ≤ sizeLine ∧ ∀ p, H2 p = none → G p H2 ys) ∨
      ((Itl K a).go i H2 ∧ ∀ x H3, (Itl K a).yld i H2 x H3 → g x σ' H3 fun σ2 H4 => Weak σ' σ2 ∧ tc σ2 H4 fun b H5 =>
        if b = true then te σ2 H5 fun y H6 => ys.length < sizeLine ∧ ∃ m', m' < m ∧ W (i + 1) m' (ys ++ [y]) H6 else ∃ m', m' < m ∧ W (i + 1) m' ys H5) := by
  refine ⟨fun i m ys H => m = xs.length - i ∧ i ≤ xs.length ∧ Pv i ys H, ⟨xs.length, rfl, Nat.zero_le _, h0⟩, ?_⟩
  rintro i m ys H2 ⟨rfl, hi, p⟩
  have q := hl i ys H2 hi p
  by_cases hlt : i < xs.length
  · refine .inr ⟨⟨xs, xs[i], q, by simp [hlt]⟩, fun x H' y => ?_⟩
    obtain ⟨e, y⟩ := y
    subst e
    exact hs i x ys _ (fun ys' H'' => ∃ m', m' < xs.length - i ∧ m' = xs.length - (i + 1) ∧ i + 1 ≤ xs.length ∧ Pv (i + 1) ys' H'') (y xs q) p (fun ys' H'' p' => ⟨_, by omega, rfl, hlt, p'⟩)
  · have e : i = xs.length := by omega
    subst e
    exact .inl ⟨⟨xs, q, Nat.le_refl _⟩, hd ys H2 p⟩
theorem comp_tup {K : PySem.W.Frag} {a : Addr} {xs : List V} {g : TG} {tc : TT} {te : TE} {σ' : St} {H : Hp} {G : Addr → Hp → List V → Prop} (Pv : Nat → List V → Hp → Prop) (h0 : Pv 0 [] H) (hl : ∀ i ys H, i ≤ xs.length → Pv i ys H → SqT K H a xs)
    (hs : ∀ i x ys H (N : List V → Hp → Prop), xs[i]? = some x → Pv i ys H → (∀ ys' H', Pv (i + 1) ys' H' → N ys' H') → g x σ' H fun σ2 H4 => Weak σ' σ2 ∧ tc σ2 H4 fun b H5 => if b = true then te σ2 H5 fun y H6 => ys.length < sizeLine ∧ N (ys ++ [y]) H6 else N ys H5)
    (hd : ∀ ys H, Pv xs.length ys H → ys.length ≤ sizeLine ∧ ∀ p, H p = none → G p H ys) :
    ∃ W : Nat → Nat → List V → Hp → Prop, (∃ m, W 0 m [] H) ∧ ∀ i m ys H2, W i m ys H2 →
      ((Itt K a).stop i H2 ∧ ys.length ≤ sizeLine ∧ ∀ p, H2 p = none → G p H2 ys) ∨
      ((Itt K a).go i H2 ∧ ∀ x H3, (Itt K a).yld i H2 x H3 → g x σ' H3 fun σ2 H4 => Weak σ' σ2 ∧ tc σ2 H4 fun b H5 =>
        if b = true then te σ2 H5 fun y H6 => ys.length < sizeLine ∧ ∃ m', m' < m ∧ W (i + 1) m' (ys ++ [y]) H6 else ∃ m', m' < m ∧ W (i + 1) m' ys H5) := by
  refine ⟨fun i m ys H => m = xs.length - i ∧ i ≤ xs.length ∧ Pv i ys H, ⟨xs.length, rfl, Nat.zero_le _, h0⟩, ?_⟩
  rintro i m ys H2 ⟨rfl, hi, p⟩
  have q := hl i ys H2 hi p
  by_cases hlt : i < xs.length
  · refine .inr ⟨⟨xs, xs[i], q, by simp [hlt]⟩, fun x H' y => ?_⟩
    obtain ⟨e, y⟩ := y
    subst e
    exact hs i x ys _ (fun ys' H'' => ∃ m', m' < xs.length - i ∧ m' = xs.length - (i + 1) ∧ i + 1 ≤ xs.length ∧ Pv (i + 1) ys' H'') (y xs q) p (fun ys' H'' p' => ⟨_, by omega, rfl, hlt, p'⟩)
  · have e : i = xs.length := by omega
    subst e
    exact .inl ⟨⟨xs, q, Nat.le_refl _⟩, hd ys H2 p⟩
theorem at_ok {ns : List Int} {i : Nat} (h : i < ns.length) : ∃ x : Int, atI (ns.map V.int) (i : Int) = some (.int x) ∧ x ∈ ns := ⟨ns[i], atI_nat (by rw [List.getElem?_map, List.getElem?_eq_getElem h]; rfl), List.getElem_mem h⟩
def spRow (K : PySem.W.Frag) : Sp := fun vs H Q _ => ∃ (a : Addr) (ns : List Int) (m : Nat), vs = [.ref a, .int (m : Nat)] ∧ SqL K H a (ns.map V.int) ∧ m ≤ ns.length ∧ m ≤ 60 ∧ ∀ (l : Addr) (r : List Nat) (H' : Hp), H l = none → Same H H' → H' l = some (.lst (nats r)) → r.Perm (List.range m) → Q (.ref l) H'
theorem scLRow : FnScope ["_law_xs", "_law_many"] ["_law_xs", "_law_many"] (defScope sLRow) := ⟨rfl, rfl, rfl, by decide +kernel, rfl, by decide +kernel, by decide +kernel⟩
theorem ok_row {f : Addr} {fd : FuncData} (F : Fun K "_law_row" "_law_row" sLRow f fd) (T : TxtB mg) : FnOk P w K mg base CX0 1 f fd ["_law_xs", "_law_many"] (spRow K) := by
  refine F.okQ scLRow (fun vs H Q E h => ?_) (fun cdv A outer s H vs Q E hr h => ?_)
  · obtain ⟨a, ns, m, rfl, _⟩ := h
    rfl
  · obtain ⟨a, ns, m, rfl, hS, hm, hm60, q⟩ := h
    refine ⟨_, (qss_one (qs_ret (qe_comp (g := gName 0) (N := ["_law_pair"]) (src := [none]) rfl (comp_scope (defScope sLRow) ["_law_xs", "_law_many"] rfl rfl (by decide +kernel) rfl) (qi_list (qe_callB call_sortP (by rfl) T.sor (by decide +kernel) (qac (qe_comp (g := gName 0) (N := ["_law_k", "_law_xs"]) (src := [none, some 0]) rfl (comp_scope (defScope sLRow) ["_law_xs", "_law_many"] rfl rfl (by decide +kernel) rfl) (qi_range1 rfl T.range (qac (qv 1) qa_nil)) (fun _ _ _ _ _ => (qg_name (i := 0) (show (["_law_k", "_law_xs"] : List Str).Nodup by decide +kernel) rfl (Or.inl rfl) (Or.inr rfl))) (fun _ _ _ _ _ => qif_nil) (fun _ _ _ _ _ => (qe_tup (qac (qe_ix (show IxR _ (rIxL K) from ix_list) (qv 1) (qv 0) (fun _ _ => rfl)) (qac (qv 0) qa_nil))))) qa_nil))) (fun _ _ _ _ _ => (qg_name (i := 0) (show (["_law_pair"] : List Str).Nodup by decide +kernel) rfl (Or.inl rfl) (Or.inr rfl))) (fun _ _ _ _ _ => qif_nil) (fun _ _ _ _ _ => (qe_ix (show IxR _ (rIxT K) from ix_tup) (qv 0) qe_int (fun _ _ => rfl)))))), ?_⟩
    refine ⟨_, rfl, ((m : Nat) : Int), rfl, by omega, by omega, comp_rng (lo := 0) (n := m) (fun i ys H2 => Same H H2 ∧ ∃ ps : List (Int × Int), PrsAt H2 ys ps ∧ ps.map (·.2) = (List.range i).map fun k => ((k : Nat) : Int)) ⟨Same.refl _, [], trivial, rfl⟩ ?_ ?_⟩
    · rintro i ys H2 N hi ⟨s2, ps, hP, hps⟩ nx
      obtain ⟨x, e, _⟩ := at_ok (ns := ns) (i := i) (by omega)
      refine ⟨Weak.set (by intro v z; cases z), ⟨_, rfl, _, rfl, a, _, _, .int x, rfl, rfl, s2.seq hS, by rw [Int.zero_add]; exact e, _, rfl, by show 2 ≤ sizeLine; decide, fun t ht => ⟨?_, nx _ _ ⟨s2.trans (same_new ht), ps ++ [(x, ((i : Nat) : Int))], ?_, ?_⟩⟩⟩⟩
      · have h1 := hP.len
        have h2 := congrArg List.length hps
        rw [List.length_map, List.length_map, List.length_range] at h2
        exact Nat.lt_of_le_of_lt (show ys.length ≤ 60 by omega) (by decide)
      · refine (hP.same (same_new ht)).snoc ?_
        rw [Int.zero_add]
        exact upd_same
      · rw [List.map_append, hps, List.range_succ, List.map_append]
        rfl
    rintro ys H2 ⟨s2, ps, hP, hps⟩
    have hyl : ys.length = m := by
      have h1 := hP.len
      have h2 := congrArg List.length hps
      rw [List.length_map, List.length_map, List.length_range] at h2
      omega
    refine ⟨by rw [hyl]; exact Nat.le_trans hm60 (by decide), fun r hr => ?_⟩
    have w1 := same_new (o := .lst ys) hr
    refine ⟨r, ys, ps, rfl, SqL.of upd_same, hP.same w1, by omega, fun l vs' hl hpm => ?_⟩
    have w2 := same_new (o := .lst vs') hl
    obtain ⟨ps', hP', hpp⟩ := ((hP.same w1).same w2).perm hpm
    have hmem : ∀ p ∈ ps', ∃ k : Nat, p.2 = ((k : Nat) : Int) := fun p hp => by
      have : p.2 ∈ ps.map (·.2) := List.mem_map_of_mem (hpp.mem_iff.mp hp)
      rw [hps] at this
      obtain ⟨k, _, e⟩ := List.mem_map.mp this
      exact ⟨k, e.symm⟩
    refine ⟨l, rfl, ⟨_, SqL.of upd_same⟩, comp_list (K := K) (xs := vs') (fun i zs H3 => H3 = upd (upd H2 r (.lst ys)) l (.lst vs') ∧ zs = nats ((ps'.take i).map fun p => p.2.toNat)) ⟨rfl, rfl⟩ (fun i zs H3 _ ⟨e, _⟩ => SqL.of (e ▸ upd_same)) ?_ ?_⟩
    · rintro i v zs H3 N hi ⟨rfl, rfl⟩ nx
      obtain ⟨b, p, rfl, hp, hb⟩ := hP'.get hi
      obtain ⟨k, hk⟩ := hmem p (List.mem_of_getElem? hp)
      have hil : i < vs'.length := (List.getElem?_eq_some_iff.mp hi).1
      have hvl := hpm.length_eq
      refine ⟨Weak.set (by intro v z; cases z), ⟨_, rfl, b, _, 1, .int p.2, rfl, rfl, SqT.of hb, rfl, ?_, nx _ _ ⟨rfl, ?_⟩⟩⟩
      · rw [nats_len, List.length_map, List.length_take]
        exact Nat.lt_of_le_of_lt (show _ ≤ 60 by omega) (by decide)
      · rw [List.take_add_one, hp, Option.toList_some, List.map_append, List.map_cons, List.map_nil, nats_snoc, hk, Int.toNat_natCast]
    rintro zs H3 ⟨rfl, rfl⟩
    have hlen' : vs'.length = ps'.length := hP'.len
    have hvl := hpm.length_eq
    rw [hlen', List.take_length]
    refine ⟨by rw [nats_len, List.length_map]; exact Nat.le_trans (show ps'.length ≤ 60 by omega) (by decide), fun l2 hl2 => ?_⟩
    have w3 := same_new (o := .lst (nats (ps'.map fun p => p.2.toNat))) hl2
    have sA := s2.trans (w1.trans w2)
    refine q l2 _ _ (sA.free hl2) (sA.trans w3) upd_same ?_
    have h1 := hpp.map fun p : Int × Int => p.2.toNat
    have h2 : (ps.map fun p : Int × Int => p.2.toNat) = List.range m := by
      have : (ps.map fun p : Int × Int => p.2.toNat) = (ps.map (·.2)).map Int.toNat := by rw [List.map_map]; rfl
      rw [this, hps, List.map_map]
      conv => rhs; rw [← List.map_id (List.range m)]
      exact List.map_congr_left fun k _ => by simp
    rwa [h2] at h1
theorem edit_blk {m : Nat} {b : List Nat} (hb : Blk m b) {p : Nat} (hp : p < m) (n : Nat) (hn : n ≤ 1) : Blk m (b.filter (fun x => decide (x ≠ p)) ++ List.replicate n p) := by
  refine ⟨?_, fun x hx => ?_⟩
  · rw [List.nodup_append]
    refine ⟨hb.nd.filter _, ?_, fun x hx y hy e => ?_⟩
    · rcases (show n = 0 ∨ n = 1 by omega) with rfl | rfl <;> simp
    · have h1 : x ≠ p := of_decide_eq_true (List.mem_filter.mp hx).2
      exact h1 (e.trans (List.eq_of_mem_replicate hy))
  · rcases List.mem_append.mp hx with z | z
    · exact hb.lt x (List.mem_filter.mp z).1
    · rw [List.eq_of_mem_replicate z]
      exact hp
theorem tp_edit {HZ : Hp} {l t : Addr} {ws : List V} {bs : List (List Nat)} {b : List Nat} (hT : TpAt HZ ws bs) (hl : HZ l = some (.lst ws)) (ht : HZ t = some (.tup (nats b))) (j : Nat) : TpAt (upd HZ l (.lst (ws.set j (.ref t)))) (ws.set j (.ref t)) (bs.set j b) := by
  have hne : ∀ (x : Addr) xs, HZ x = some (.tup xs) → x ≠ l := fun x xs hx z => by
    rw [z, hl] at hx
    cases hx
  refine TpAt.set ?_ j (hT.same fun x xs hx => ?_)
  · rw [upd_ne (hne t _ ht)]
    exact ht
  · rw [upd_ne (hne x xs hx)]
    exact hx
theorem inV_nats (p : Nat) : ∀ b : List Nat, inV (V.int ((p : Nat) : Int)) (nats b) = decide (p ∈ b)
  | [] => rfl
  | x :: b => by
    have ih := inV_nats p b
    unfold inV at ih ⊢
    unfold nats at ih ⊢
    rw [List.map_cons, List.any_cons, ih]
    by_cases h : x = p
    · subst h
      simp [eqV]
    · have : (eqV (V.int ((x : Nat) : Int)) (V.int ((p : Nat) : Int))) = false := by simp [eqV]; omega
      rw [this, Bool.false_or]
      simp [List.mem_cons, Ne.symm h]
theorem flat_nats (b : List Nat) : (nats b).all flatV = true := by simp [nats, flatV]
def LayA (H : Hp) (t : Addr) (m : Nat) (bs : List (List Nat)) : Prop := ∃ (l : Addr) (ws : List V), H t = some (.tup [.int (m : Nat), .ref l]) ∧ H l = some (.tup ws) ∧ TpAt H ws bs ∧ bs.length ≤ 200
theorem LayA.sm {H H' : Hp} (s : Same H H') {t : Addr} {m : Nat} {bs : List (List Nat)} (h : LayA H t m bs) : LayA H' t m bs := by
  obtain ⟨l, ws, h1, h2, h3, h4⟩ := h
  exact ⟨l, ws, s _ _ h1, s _ _ h2, h3.sm s, h4⟩
theorem take_snoc {α : Type} {bs : List α} {i : Nat} {b : α} (h : bs[i]? = some b) : bs.take (i + 1) = bs.take i ++ [b] := by
  rw [List.take_add_one, h, Option.toList_some]
theorem getD_at {α : Type} {bs : List α} {j : Nat} {b d : α} (h : bs[j]? = some b) : bs.getD j d = b := by rw [List.getD_eq_getElem?_getD, h]; rfl
theorem filt_le (m : Nat) (f : Nat → Bool) : ((List.range m).filter f).length ≤ m := Nat.le_trans (List.length_filter_le ..) (by rw [List.length_range]; exact Nat.le_refl _)
theorem filt_snoc (i : Nat) (f : Nat → Bool) : (List.range (i + 1)).filter f = (List.range i).filter f ++ if f i = true then [i] else [] := by
  rw [List.range_succ, List.filter_append]
  by_cases h : f i = true <;> simp [h]
theorem isD_blkS {K : PySem.W.Frag} {H : Hp} {a : Addr} {L : List Nat} (h : H a = some (.lst (nats L))) : IsD K H (dBlk L) (.ref a) := by
  simp only [dBlk, IsD]
  exact ⟨a, _, rfl, SqL.of h, ints_isD' L⟩
theorem eqv_intsS : ∀ L M : List Nat, PyData.eqvAll (L.map fun p => PyData.int ((p : Nat) : Int)) (M.map fun p => PyData.int ((p : Nat) : Int)) = decide (L = M)
  | [], [] => by simp [PyData.eqvAll]
  | [], _ :: _ => by simp [PyData.eqvAll]
  | _ :: _, [] => by simp [PyData.eqvAll]
  | x :: L, y :: M => by
    have ih := eqv_intsS L M
    simp only [List.map_cons, PyData.eqvAll, PyData.eqv, ih]
    by_cases h : x = y
    · subst h
      simp
    · have : ¬ ((x : Int) = (y : Int)) := by omega
      simp [h, this]
theorem eqv_blkS (L M : List Nat) : PyData.eqv (dBlk L) (dBlk M) = decide (L = M) := by
  simp only [dBlk, PyData.eqv]
  exact eqv_intsS L M
theorem nats_at {L : List Nat} {i x : Nat} (h : L[i]? = some x) : (nats L)[i]? = some (V.int ((x : Nat) : Int)) := by
  unfold nats
  rw [List.getElem?_map, h]
  rfl
def rInstQ (K : PySem.W.Frag) : List V → Hp → VK → Prop := fun xs H Q => ∃ x c t b, xs = [x, c] ∧ TyOf K H x t ∧ (∀ u, RelV c u → PySem.W.kitOne K t u = some b) ∧ Q (.bl b) H
theorem none_of {H H' : Hp} (s : Same H H') {r : Addr} (h : H' r = none) : H r = none := by
  cases e : H r with
  | none => rfl
  | some o => rw [s _ _ e] at h; cases h
theorem qt_isN {X : Cx} {a : Expr} {ta : TE} {j pos' pos} (ha : QE X a ta) : QT X (.Compare a [.Is] [.Constant .none j pos'] pos) (tB (tIsN ta)) := qt_cmp (pc_isN ha.h)
/-- the points of a row's blocks -/
def ptsOf (bs : List (List Nat)) (row : List Nat) : List Nat := (row.map fun k => bs.getD k []).flatten
theorem ptsOf_snoc (bs : List (List Nat)) (row : List Nat) (k : Nat) : ptsOf bs (row ++ [k]) = ptsOf bs row ++ bs.getD k [] := by
  unfold ptsOf
  rw [List.map_append, List.flatten_append]
  simp
theorem ptsOf_take {bs : List (List Nat)} {row : List Nat} {i k : Nat} (h : row[i]? = some k) : ptsOf bs (row.take (i + 1)) = ptsOf bs (row.take i) ++ bs.getD k [] := by rw [take_snoc h, ptsOf_snoc]
/-- a dict whose keys are the numbers of a list -/
def DSet (H : Hp) (d : Addr) (n : Nat) (L : List Nat) : Prop := ∃ kvs : List (Key × V), H d = some (.dK kvs) ∧ kvs.length ≤ n ∧ ∀ x : Nat, (valV kvs (.inl ((x : Nat) : Int))).isSome = decide (x ∈ L)
theorem DSet.sm {H H' : Hp} (s : Same H H') {d : Addr} {n : Nat} {L : List Nat} (h : DSet H d n L) : DSet H' d n L := by
  obtain ⟨kvs, h1, h2⟩ := h
  exact ⟨kvs, s _ _ h1, h2⟩
theorem DSet.put {H : Hp} {d : Addr} {n : Nat} {L : List Nat} (h : DSet H d n L) (hn : n < sizeLine) (x : Nat) : ∃ o, DPut H d (.int ((x : Nat) : Int)) (.bl true) (upd H d o) ∧ DSet (upd H d o) d (n + 1) (L ++ [x]) := by
  obtain ⟨kvs, h1, h2, h3⟩ := h
  refine ⟨.dK (putK kvs (.inl ((x : Nat) : Int)) (.bl true)), .inl ⟨kvs, .inl ((x : Nat) : Int), h1, rfl, Nat.lt_of_le_of_lt h2 hn, rfl⟩, _, upd_same, ?_, fun y => ?_⟩
  · unfold putK
    split
    · rw [List.length_map]; omega
    · rw [List.length_append]; simp; omega
  · rw [valV_put]
    by_cases e : y = x
    · subst e
      rw [if_pos rfl]
      simp
    · rw [if_neg (fun z => e (by injection z with z; omega)), h3]
      simp [e]
theorem DSet.get {H : Hp} {d : Addr} {n : Nat} {L : List Nat} (h : DSet H d n L) (x : Nat) : ∃ o, DGet H d (.int ((x : Nat) : Int)) o ∧ o.isSome = decide (x ∈ L) := by
  obtain ⟨kvs, h1, _, h3⟩ := h
  exact ⟨_, .inl ⟨kvs, .inl ((x : Nat) : Int), .inl h1, rfl, rfl⟩, h3 x⟩
theorem qt_dnotin {X : Cx} {o i : Expr} {pos : Pos} {td ty : TE} (hu : X.A.units + 1 < cLine) (hi : QE X i ty) (ho : QE X o td) (h1 : behindInMarks .NotIn o = false := by rfl) : QT X (.Compare i [.NotIn] [o] pos) (tB (tDNotIn ty td)) := ⟨pt_cmp (pc_dnotin hu hi.h ho.h) h1⟩
theorem qe_din {X : Cx} {o i : Expr} {pos : Pos} {td ty : TE} (hu : X.A.units + 1 < cLine) (hi : QE X i ty) (ho : QE X o td) (h1 : behindInMarks .In o = false := by rfl) : QE X (.Compare i [.In] [o] pos) (tDIn ty td) := ⟨pe_cmp (pc_din hu hi.h ho.h) h1⟩
theorem getD_mem {bs : List (List Nat)} {k : Nat} (h : k < bs.length) : bs.getD k [] ∈ bs := by
  rw [List.getD_eq_getElem?_getD, List.getElem?_eq_getElem h]
  exact List.getElem_mem h
/-- rows of block numbers -/
structure RwsAt (H : Hp) (a : Addr) (n : Nat) (ws : List V) (rows : List (List Nat)) : Prop where
  at_ : H a = some (.lst ws)
  bl : BlAt H ws rows
  lt : ∀ r ∈ rows, ∀ k ∈ r, k < n
def spHad : Sp := fun vs H Q _ => ∃ (t a : Addr) (m : Nat) (bs : List (List Nat)) (row : List Nat), vs = [.ref t, .ref a] ∧ LayA H t m bs ∧ m ≤ 60 ∧ (∀ b ∈ bs, Blk m b) ∧ H a = some (.lst (nats row)) ∧ (∀ k ∈ row, k < bs.length) ∧ row.length ≤ 60 ∧
  ∀ (d : Addr) (H' : Hp), H d = none → Same H H' → DSet H' d 3600 (ptsOf bs row) → Q (.ref d) H'
theorem scPointsHad : FnScope ["M", "row", "had", "block", "point"] ["M", "row"] (defScope sPointsHad) := ⟨rfl, rfl, rfl, by decide +kernel, rfl, by decide +kernel, by decide +kernel⟩
theorem ok_had {f : Addr} {fd : FuncData} (F : Fun K "points_had" "points_had" sPointsHad f fd) : FnOk P w K mg base CX0 1 f fd ["M", "row"] spHad := by
  refine F.okQ scPointsHad (fun vs H Q E h => ?_) (fun cdv A outer s H vs Q E hr h => ?_)
  · obtain ⟨t, a, m, bs, row, rfl, _⟩ := h
    rfl
  · obtain ⟨t, a, m, bs, row, rfl, ⟨lb, ws, ht, hlb, hT, hlen⟩, hm, hb, ha, hk, hrow, q⟩ := h
    have hu := Nat.lt_of_le_of_lt (Nat.add_le_add_left (show 1 ≤ 64 by decide) _) hr.units
    refine ⟨_, (qss_cons (qs_set (i := 2) scPointsHad.nd rfl (Or.inl rfl) qe_dnewK)
      (qss_cons (qs_for PassesOwn.never rfl (qi_list (qv 1)) (qg_name (i := 3) scPointsHad.nd rfl (Or.inl rfl))
        (qss_one (qs_for PassesOwn.never rfl (qi_tup (qe_ix ix_tup (qe_ix ix_tup (qv 0) qe_int (fun _ _ => rfl)) (qv 3) (fun _ _ => rfl))) (qg_name (i := 4) scPointsHad.nd rfl (Or.inl rfl))
          (qss_one (qs_dput hu (qv 2) (qv 4) qe_bl)))))
      (qss_one (qs_ret (qv 2))))), ?_⟩
    intro d hd
    have w1 := same_new (o := .dK []) hd
    have hd0 : DSet (upd H d (.dK [])) d 0 [] := ⟨[], upd_same, Nat.le_refl _, fun x => (decide_eq_false (by simp)).symm⟩
    refine ⟨_, rfl, a, rfl, ⟨_, SqL.of (w1 _ _ ha)⟩, for_list (K := K) (a := a) (xs := nats row) (fun i σ H2 => Same H H2 ∧ DSet H2 d (60 * i) (ptsOf bs (row.take i)) ∧ ∃ x3 x4, σ = [some (.ref t), some (.ref a), some (.ref d), x3, x4]) ⟨w1, hd0, none, none, rfl⟩ (fun i σ H2 _ ⟨e, _⟩ => SqL.of (e _ _ ha)) ?_ ?_⟩
    · rintro i v σ H2 hi ⟨s2, hd2, x3, x4, rfl⟩
      obtain ⟨k, hki, rfl⟩ := L2.nats_get hi
      have hil := (List.getElem?_eq_some_iff.mp hki).1
      have hkl := hk k (List.mem_of_getElem? hki)
      have gi : ws[k]? = some (ws[k]'(by rw [hT.len]; exact hkl)) := List.getElem?_eq_getElem _
      obtain ⟨c, b, ed, hbs, hc⟩ := (hT.sm s2).get gi
      have hbb := hb b (List.mem_of_getElem? hbs)
      have hbg : bs.getD k [] = b := getD_at hbs
      rw [ptsOf_take hki, hbg]
      have hc0 : H c = some (.tup (nats b)) := by
        obtain ⟨c', b', ed', hbs', hc'⟩ := hT.get gi
        rw [ed] at ed'
        cases ed'
        rw [hbs] at hbs'
        cases hbs'
        exact hc'
      refine ⟨_, rfl, t, _, 1, .ref lb, rfl, rfl, SqT.of (s2 _ _ ht), rfl, _, rfl, lb, ws, _, _, rfl, rfl, SqT.of (s2 _ _ hlb), atI_nat gi, c, ed, ⟨_, SqT.of hc⟩, for_tup (K := K) (a := c) (xs := nats b) (fun j σ H3 => Same H H3 ∧ DSet H3 d (60 * i + j) (ptsOf bs (row.take i) ++ b.take j) ∧ ∃ x3 x4, σ = [some (.ref t), some (.ref a), some (.ref d), x3, x4]) ⟨s2, by simpa using hd2, _, _, rfl⟩ (fun j σ H3 _ ⟨e, _⟩ => SqT.of (e _ _ hc0)) ?_ ?_⟩
      · rintro j v σ H3 hj ⟨s3, hd3, x3, x4, rfl⟩
        obtain ⟨x, hx, rfl⟩ := L2.nats_get hj
        have hjl := (List.getElem?_eq_some_iff.mp hx).1
        have hbl := hbb.len
        obtain ⟨o, p1, p2⟩ := hd3.put (Nat.lt_of_le_of_lt (show 60 * i + j ≤ 3600 by omega) (by decide)) x
        rw [List.append_assoc, ← take_snoc hx] at p2
        exact ⟨_, rfl, _, rfl, d, _, rfl, p1, same_upd s3 hd, p2, _, _, rfl⟩
      · rintro σ H3 ⟨s3, hd3, x3, x4, rfl⟩
        rw [nats_len, List.take_length] at hd3
        obtain ⟨kvs, e1, e2, e3⟩ := hd3
        have hbl := hbb.len
        exact ⟨s3, ⟨kvs, e1, by omega, e3⟩, _, _, rfl⟩
    · rintro σ H2 ⟨s2, hd2, x3, x4, rfl⟩
      rw [nats_len, List.take_length] at hd2
      obtain ⟨kvs, e1, e2, e3⟩ := hd2
      exact ⟨_, rfl, q d _ hd s2 ⟨kvs, e1, by omega, e3⟩⟩

/-- the points that a row does not reach -/
def leftP (m : Nat) (bs : List (List Nat)) (row : List Nat) : List Nat := (List.range m).filter fun p => decide (p ∉ ptsOf bs row)
theorem leftP_up (m : Nat) (bs : List (List Nat)) (row : List Nat) : (leftP m bs row).Pairwise (· < ·) := List.Pairwise.sublist List.filter_sublist List.pairwise_lt_range
def missV (m : Nat) (bs rows : List (List Nat)) : V := match rows.getLast? with | none => .non | some row => fstV (leftP m bs row)
theorem getLast_snoc {α : Type} {l : List α} (h : l ≠ []) : ∃ r x, l = r ++ [x] := ⟨l.dropLast, l.getLast h, (List.dropLast_concat_getLast h).symm⟩
theorem rws_last {H : Hp} {ws : List V} {rows : List (List Nat)} {row : List Nat} (h : BlAt H ws (rows ++ [row])) : ∃ us c, ws = us ++ [.ref c] ∧ H c = some (.lst (nats row)) ∧ BlAt H us rows := by
  have hl := h.len
  rw [List.length_append, List.length_singleton] at hl
  have hne : ws ≠ [] := fun z => by rw [z] at hl; simp at hl
  obtain ⟨us, v, rfl⟩ := getLast_snoc hne
  rw [List.length_append, List.length_singleton] at hl
  have e : us.length = rows.length := by omega
  obtain ⟨c, b, rfl, hb, hc⟩ := h.get (i := us.length) (v := v) (by simp)
  rw [e, List.getElem?_append_right (Nat.le_refl _), Nat.sub_self] at hb
  cases hb
  refine ⟨us, c, rfl, hc, ?_⟩
  have := h.take us.length
  rwa [List.take_left', e, List.take_left'] at this
  · rfl
  · rfl
def spMiss : Sp := fun vs H Q _ => ∃ (t a : Addr) (m : Nat) (bs rows : List (List Nat)) (ws : List V), vs = [.ref t, .ref a] ∧ LayA H t m bs ∧ m ≤ 60 ∧ (∀ b ∈ bs, Blk m b) ∧ RwsAt H a bs.length ws rows ∧ (∀ r ∈ rows, r.length ≤ 60) ∧ ∀ H' : Hp, Same H H' → Q (missV m bs rows) H'
theorem scMissingPoint : FnScope ["M", "rows", "had"] ["M", "rows"] (defScope sMissingPoint) := ⟨rfl, rfl, rfl, by decide +kernel, rfl, by decide +kernel, by decide +kernel⟩
theorem ok_miss {f : Addr} {fd : FuncData} (F : Fun K "missing_point" "missing_point" sMissingPoint f fd) (T : TxtB mg) (pHad : Pm P w K mg base CX0 1 "points_had" ["M", "row"] spHad) : FnOk P w K mg base CX0 2 f fd ["M", "rows"] spMiss := by
  refine F.okQ scMissingPoint (fun vs H Q E h => ?_) (fun cdv A outer s H vs Q E hr h => ?_)
  · obtain ⟨t, a, m, bs, rows, ws, rfl, _⟩ := h
    rfl
  · obtain ⟨t, a, m, bs, rows, ws, rfl, hL, hm, hb, hR, hrl, q⟩ := h
    obtain ⟨lb, wl, ht, hlb, hT, hlen⟩ := id hL
    have hu := Nat.lt_of_le_of_lt (Nat.add_le_add_left (show 1 ≤ 64 by decide) _) hr.units
    refine ⟨_, (qss_cons (qs_if (qt_cmpR op_eq (qe_callB call_len_seq (by rfl) T.len PySem.boot_len (qac (qv 1) qa_nil)) qe_int (nomark _)) (qss_one (qs_ret qe_non)) qss_nil)
      (qss_cons (qs_set (i := 2) scMissingPoint.nd rfl (Or.inr rfl) (qe_callP pHad hr rfl pass0 (qac (qv 0) (qac (qe_ix ix_list (qv 1) (qe_un un_neg qe_int) (fun _ _ => rfl)) qa_nil))))
      (qss_one (qs_ret (qe_minN rfl rfl T.min (qe_comp (g := gName 0) (N := ["point", "had"]) (src := [none, some 2]) rfl (comp_scope (defScope sMissingPoint) ["M", "rows", "had"] rfl rfl (by decide +kernel) rfl) (qi_range1 rfl T.range (qac (qe_ix ix_tup (qv 0) qe_int (fun _ _ => rfl)) qa_nil)) (fun _ _ _ _ _ => (qg_name (i := 0) (show (["point", "had"] : List Str).Nodup by decide +kernel) rfl (Or.inl rfl) (Or.inr rfl))) (fun _ _ _ _ _ => (qif_one (qt_dnotin hu (qv 0) (qv 1)))) (fun _ _ _ _ _ => (qv 0))) qe_non))))), ?_⟩
    refine ⟨_, rfl, a, ws, rfl, .inl (SqL.of hR.at_), rfl, _, rfl, ?_⟩
    rw [hR.bl.len]
    by_cases hz : rows = []
    · subst hz
      refine iteT ?_
      exact q _ (Same.refl H)
    have hz' : rows.length ≠ 0 := fun z => hz (List.length_eq_zero_iff.mp z)
    rw [decide_eq_false (show ¬ V.int ((rows.length : Nat) : Int) = V.int 0 from fun z => by injection z with z; omega)]
    refine iteF ?_
    obtain ⟨rs, row, rfl⟩ := getLast_snoc hz
    obtain ⟨us, c, rfl, hc, _⟩ := rws_last hR.bl
    have hmem : row ∈ rs ++ [row] := by simp
    refine ⟨_, rfl, _, rfl, _, rfl, a, _, _, .ref c, rfl, rfl, SqL.of hR.at_, atI_last us _, t, c, m, bs, row, rfl, hL, hm, hb, hc, hR.lt row hmem, hrl row hmem, fun d H1 hd s1 hD => ?_⟩
    refine ⟨_, rfl, t, _, 0, .int (m : Nat), rfl, rfl, SqT.of (s1 _ _ ht), rfl, ((m : Nat) : Int), rfl, by omega, by omega, ?_⟩
    rw [Int.toNat_natCast]
    refine comp_rng (lo := 0) (n := m) (fun i zs H2 => H2 = H1 ∧ zs = nats ((List.range i).filter fun p => decide (p ∉ ptsOf bs row))) ⟨rfl, rfl⟩ ?_ ?_
    · rintro i zs H2 N hi ⟨rfl, rfl⟩ nx
      rw [Int.zero_add]
      obtain ⟨o, g1, g2⟩ := hD.get i
      refine ⟨Weak.set (by intro v z; cases z), _, rfl, _, rfl, d, o, rfl, g1, _, rfl, ?_⟩
      have e := filt_snoc i fun p => decide (p ∉ ptsOf bs row)
      rw [g2]
      by_cases hg : i ∈ ptsOf bs row
      · rw [if_neg (by simp [hg]), List.append_nil] at e
        rw [decide_eq_true hg]
        exact iteF (nx _ _ ⟨rfl, by rw [e]⟩)
      · rw [if_pos (by simp [hg])] at e
        rw [decide_eq_false hg]
        refine iteT ⟨_, rfl, ?_, nx _ _ ⟨rfl, by rw [e, nats_snoc]⟩⟩
        rw [nats_len]
        exact Nat.lt_of_le_of_lt (filt_le ..) (Nat.lt_of_lt_of_le hi (Nat.le_trans hm (by decide)))
    · rintro zs H2 ⟨rfl, rfl⟩
      refine ⟨by rw [nats_len]; exact Nat.le_trans (filt_le ..) (Nat.le_trans hm (by decide)), fun r hr' => ?_⟩
      refine ⟨r, leftP m bs row, rfl, rfl, SqL.of upd_same, leftP_up m bs row, ?_⟩
      have := q _ (s1.trans (same_new (o := .lst (nats (leftP m bs row))) hr'))
      unfold missV at this
      rw [List.getLast?_append, List.getLast?_singleton] at this
      exact this
theorem none_all (L : List Nat) : ∀ b : List Nat, (!(b.map fun x => decide (x ∈ L)).any id) = b.all fun x => decide (x ∉ L)
  | [] => rfl
  | x :: t => by
    rw [List.map_cons, List.any_cons, Bool.not_or, none_all L t, List.all_cons]
    congr 1
    by_cases h : x ∈ L <;> simp [h]
def spHasNone : Sp := fun vs H Q _ => ∃ (c d : Addr) (n : Nat) (b L : List Nat), vs = [.ref c, .ref d] ∧ H c = some (.tup (nats b)) ∧ DSet H d n L ∧ b.length ≤ 60 ∧ ∀ H' : Hp, Same H H' → Q (.bl (b.all fun x => decide (x ∉ L))) H'
theorem scHasNone : FnScope ["block", "had"] ["block", "had"] (defScope sHasNone) := ⟨rfl, rfl, rfl, by decide +kernel, rfl, by decide +kernel, by decide +kernel⟩
theorem ok_hasNone {f : Addr} {fd : FuncData} (F : Fun K "has_none" "has_none" sHasNone f fd) (T : TxtB mg) : FnOk P w K mg base CX0 1 f fd ["block", "had"] spHasNone := by
  refine F.okQ scHasNone (fun vs H Q E h => ?_) (fun cdv A outer s H vs Q E hr h => ?_)
  · obtain ⟨c, d, n, b, L, rfl, _⟩ := h
    rfl
  · obtain ⟨c, d, n, b, L, rfl, hc, hD, hb, q⟩ := h
    have hu := Nat.lt_of_le_of_lt (Nat.add_le_add_left (show 1 ≤ 64 by decide) _) hr.units
    refine ⟨_, (qss_one (qs_ret (qe_not (qe_callB (call_any rfl) (by rfl) T.any (by decide +kernel) (qac (qe_comp (g := gName 0) (N := ["point", "had"]) (src := [none, some 1]) rfl (comp_scope (defScope sHasNone) ["block", "had"] rfl rfl (by decide +kernel) rfl) (qi_tup (qv 0)) (fun _ _ _ _ _ => (qg_name (i := 0) (show (["point", "had"] : List Str).Nodup by decide +kernel) rfl (Or.inl rfl) (Or.inr rfl))) (fun _ _ _ _ _ => qif_nil) (fun _ _ _ _ _ => (qe_din hu (qv 0) (qv 1)))) qa_nil))))), ?_⟩
    refine ⟨_, rfl, c, rfl, ⟨_, SqT.of hc⟩, comp_tup (K := K) (xs := nats b) (fun i zs H2 => H2 = H ∧ zs = ((b.take i).map fun x => decide (x ∈ L)).map V.bl) ⟨rfl, rfl⟩ (fun i zs H2 _ ⟨e, _⟩ => SqT.of (e ▸ hc)) ?_ ?_⟩
    · rintro i v zs H2 N hi ⟨rfl, rfl⟩ nx
      obtain ⟨x, hx, rfl⟩ := L2.nats_get hi
      have hil := (List.getElem?_eq_some_iff.mp hx).1
      obtain ⟨o, g1, g2⟩ := hD.get x
      refine ⟨Weak.set (by intro v z; cases z), _, rfl, _, rfl, d, o, rfl, g1, ?_, nx _ _ ⟨rfl, ?_⟩⟩
      · rw [List.length_map, List.length_map, List.length_take]
        exact Nat.lt_of_le_of_lt (show _ ≤ 60 by omega) (by decide)
      · rw [g2, take_snoc hx, List.map_append, List.map_append]
        rfl
    · rintro zs H2 ⟨rfl, rfl⟩
      rw [show b.take (nats b).length = b by rw [nats_len, List.take_length]]
      refine ⟨by rw [List.length_map, List.length_map]; exact Nat.le_trans hb (by decide), fun r hr' => ?_⟩
      refine ⟨r, _, rfl, SqL.of upd_same, ?_⟩
      refine ⟨_, rfl, ?_⟩
      rw [none_all]
      exact q _ (same_new hr')
/-- the blocks that no row has -/
def leftB (n : Nat) (rows : List (List Nat)) : List Nat := (List.range n).filter fun k => decide (k ∉ rows.flatten)
theorem flat_take {rows : List (List Nat)} {i : Nat} {r : List Nat} (h : rows[i]? = some r) : (rows.take (i + 1)).flatten = (rows.take i).flatten ++ r := by
  rw [take_snoc h, List.flatten_append]
  simp
def spLeftB : Sp := fun vs H Q _ => ∃ (t a : Addr) (m : Nat) (bs rows : List (List Nat)) (ws : List V), vs = [.ref t, .ref a] ∧ LayA H t m bs ∧ RwsAt H a bs.length ws rows ∧ (∀ r ∈ rows, r.length ≤ 60) ∧ rows.length ≤ 60 ∧ ∀ (l : Addr) (H' : Hp), H l = none → Same H H' → H' l = some (.lst (nats (leftB bs.length rows))) → Q (.ref l) H'
theorem scBlocksLeft : FnScope ["M", "rows", "taken", "row", "block"] ["M", "rows"] (defScope sBlocksLeft) := ⟨rfl, rfl, rfl, by decide +kernel, rfl, by decide +kernel, by decide +kernel⟩
theorem ok_leftB {f : Addr} {fd : FuncData} (F : Fun K "blocks_left" "blocks_left" sBlocksLeft f fd) (T : TxtB mg) : FnOk P w K mg base CX0 1 f fd ["M", "rows"] spLeftB := by
  refine F.okQ scBlocksLeft (fun vs H Q E h => ?_) (fun cdv A outer s H vs Q E hr h => ?_)
  · obtain ⟨t, a, m, bs, rows, ws, rfl, _⟩ := h
    rfl
  · obtain ⟨t, a, m, bs, rows, ws, rfl, ⟨lb, wl, ht, hlb, hT, hlen⟩, hR, hrl, hn, q⟩ := h
    have hu := Nat.lt_of_le_of_lt (Nat.add_le_add_left (show 1 ≤ 64 by decide) _) hr.units
    refine ⟨_, (qss_cons (qs_set (i := 2) scBlocksLeft.nd rfl (Or.inr rfl) qe_dnewK)
      (qss_cons (qs_for PassesOwn.never rfl (qi_list (qv 1)) (qg_name (i := 3) scBlocksLeft.nd rfl (Or.inl rfl))
        (qss_one (qs_for PassesOwn.never rfl (qi_list (qv 3)) (qg_name (i := 4) scBlocksLeft.nd rfl (Or.inl rfl))
          (qss_one (qs_dput hu (qv 2) (qv 4) qe_bl)))))
      (qss_one (qs_ret (qe_comp (g := gName 0) (N := ["block", "taken"]) (src := [none, some 2]) rfl (comp_scope (defScope sBlocksLeft) ["M", "rows", "taken", "row", "block"] rfl rfl (by decide +kernel) rfl) (qi_range1 rfl T.range (qac (qe_callB call_len_seq (by rfl) T.len PySem.boot_len (qac (qe_ix ix_tup (qv 0) qe_int (fun _ _ => rfl)) qa_nil)) qa_nil)) (fun _ _ _ _ _ => (qg_name (i := 0) (show (["block", "taken"] : List Str).Nodup by decide +kernel) rfl (Or.inl rfl) (Or.inr rfl))) (fun _ _ _ _ _ => (qif_one (qt_dnotin hu (qv 0) (qv 1)))) (fun _ _ _ _ _ => (qv 0))))))), ?_⟩
    intro d hd
    have w1 := same_new (o := .dK []) hd
    have hd0 : DSet (upd H d (.dK [])) d 0 [] := ⟨[], upd_same, Nat.le_refl _, fun x => (decide_eq_false (by simp)).symm⟩
    refine ⟨_, rfl, a, rfl, ⟨_, SqL.of (w1 _ _ hR.at_)⟩, for_list (K := K) (a := a) (xs := ws) (fun i σ H2 => Same H H2 ∧ DSet H2 d (60 * i) (rows.take i).flatten ∧ ∃ x3 x4, σ = [some (.ref t), some (.ref a), some (.ref d), x3, x4]) ⟨w1, hd0, none, none, rfl⟩ (fun i σ H2 _ ⟨e, _⟩ => SqL.of (e _ _ hR.at_)) ?_ ?_⟩
    · rintro i v σ H2 hi ⟨s2, hd2, x3, x4, rfl⟩
      obtain ⟨c, r, rfl, hri, hc0⟩ := hR.bl.get hi
      have hil := (List.getElem?_eq_some_iff.mp hri).1
      have hrr := hrl r (List.mem_of_getElem? hri)
      rw [flat_take hri]
      refine ⟨_, rfl, c, rfl, ⟨_, SqL.of (s2 _ _ hc0)⟩, for_list (K := K) (a := c) (xs := nats r) (fun j σ H3 => Same H H3 ∧ DSet H3 d (60 * i + j) ((rows.take i).flatten ++ r.take j) ∧ ∃ x3 x4, σ = [some (.ref t), some (.ref a), some (.ref d), x3, x4]) ⟨s2, by simpa using hd2, _, _, rfl⟩ (fun j σ H3 _ ⟨e, _⟩ => SqL.of (e _ _ hc0)) ?_ ?_⟩
      · rintro j v σ H3 hj ⟨s3, hd3, x3, x4, rfl⟩
        obtain ⟨x, hx, rfl⟩ := L2.nats_get hj
        have hjl := (List.getElem?_eq_some_iff.mp hx).1
        obtain ⟨o, p1, p2⟩ := hd3.put (Nat.lt_of_le_of_lt (show 60 * i + j ≤ 3600 by omega) (by decide)) x
        rw [List.append_assoc, ← take_snoc hx] at p2
        exact ⟨_, rfl, _, rfl, d, _, rfl, p1, same_upd s3 hd, p2, _, _, rfl⟩
      · rintro σ H3 ⟨s3, hd3, x3, x4, rfl⟩
        rw [nats_len, List.take_length] at hd3
        obtain ⟨kvs, e1, e2, e3⟩ := hd3
        exact ⟨s3, ⟨kvs, e1, by omega, e3⟩, _, _, rfl⟩
    · rintro σ H2 ⟨s2, hD, x3, x4, rfl⟩
      rw [hR.bl.len, List.take_length] at hD
      have hwl : wl.length ≤ 200 := by rw [hT.len]; exact hlen
      refine ⟨_, rfl, t, _, 1, .ref lb, rfl, rfl, SqT.of (s2 _ _ ht), rfl, lb, wl, rfl, .inr (SqT.of (s2 _ _ hlb)), ((wl.length : Nat) : Int), rfl, by omega, by omega, ?_⟩
      rw [Int.toNat_natCast, hT.len]
      refine comp_rng (lo := 0) (n := bs.length) (fun i zs H3 => H3 = H2 ∧ zs = nats ((List.range i).filter fun k => decide (k ∉ rows.flatten))) ⟨rfl, rfl⟩ ?_ ?_
      · rintro i zs H3 N hi ⟨rfl, rfl⟩ nx
        rw [Int.zero_add]
        obtain ⟨o, g1, g2⟩ := hD.get i
        refine ⟨Weak.set (by intro v z; cases z), _, rfl, _, rfl, d, o, rfl, g1, _, rfl, ?_⟩
        have e := filt_snoc i fun k => decide (k ∉ rows.flatten)
        rw [g2]
        by_cases hg : i ∈ rows.flatten
        · rw [if_neg (by simp only [decide_eq_true_iff]; exact fun z => z hg), List.append_nil] at e
          rw [decide_eq_true hg]
          exact iteF (nx _ _ ⟨rfl, by rw [e]⟩)
        · rw [if_pos (decide_eq_true hg)] at e
          rw [decide_eq_false hg]
          refine iteT ⟨_, rfl, ?_, nx _ _ ⟨rfl, by rw [e, nats_snoc]⟩⟩
          rw [nats_len]
          exact Nat.lt_of_le_of_lt (filt_le ..) (Nat.lt_of_lt_of_le hi (Nat.le_trans hlen (by decide)))
      · rintro zs H3 ⟨rfl, rfl⟩
        refine ⟨by rw [nats_len]; exact Nat.le_trans (filt_le ..) (Nat.le_trans hlen (by decide)), fun r hr' => ?_⟩
        exact q r _ (none_of s2 hr') (s2.trans (same_new hr')) upd_same
theorem cut_last (xs : List V) (v : V) : cutV (xs ++ [v]) none (some (-1)) = xs := by
  unfold cutV
  have h1 : HT.sIx (xs ++ [v]).length 0 none = 0 := rfl
  have h2 : HT.sIx (xs ++ [v]).length (xs ++ [v]).length (some (-1)) = xs.length := by
    show (if (-1 : Int) < 0 then ((-1 : Int) + ((xs ++ [v]).length : Int)).toNat else min (-1 : Int).toNat (xs ++ [v]).length) = _
    rw [if_pos (by decide), List.length_append, List.length_singleton]
    omega
  rw [h1, h2, List.drop_zero, Nat.sub_zero, List.take_left']
  rfl
theorem cut_one (x : V) (xs : List V) : cutV (x :: xs) (some 1) none = xs := by
  have := cut_from (xs := x :: xs) (k := 1) (by simp)
  simpa using this
/-- rows of unlike block numbers, none empty -/
structure RO (n : Nat) (rows : List (List Nat)) : Prop where
  nd : rows.flatten.Nodup
  lt : ∀ r ∈ rows, ∀ k ∈ r, k < n
  ne : ∀ r ∈ rows, r ≠ []
theorem RO.blk {n : Nat} {rows : List (List Nat)} (h : RO n rows) : Blk n rows.flatten := ⟨h.nd, fun x hx => by
  obtain ⟨r, hr, hx⟩ := List.mem_flatten.mp hx
  exact h.lt r hr x hx⟩
theorem flat_row_le {rows : List (List Nat)} {r : List Nat} (h : r ∈ rows) : r.length ≤ rows.flatten.length := by
  induction rows with
  | nil => cases h
  | cons a t ih =>
    rw [List.flatten_cons, List.length_append]
    rcases List.mem_cons.mp h with z | z
    · rw [z]; omega
    · have := ih z; omega
theorem flat_len_le : ∀ {rows : List (List Nat)}, (∀ r ∈ rows, r ≠ []) → rows.length ≤ rows.flatten.length
  | [], _ => Nat.le_refl _
  | a :: t, h => by
    rw [List.flatten_cons, List.length_append, List.length_cons]
    have h1 := flat_len_le fun r hr => h r (List.mem_cons_of_mem _ hr)
    have h2 := List.length_pos_iff.mpr (h a (List.mem_cons_self ..))
    omega
theorem RO.row {n : Nat} {rows : List (List Nat)} (h : RO n rows) {r : List Nat} (hr : r ∈ rows) : r.length ≤ n := Nat.le_trans (flat_row_le hr) h.blk.len
theorem RO.len {n : Nat} {rows : List (List Nat)} (h : RO n rows) : rows.length ≤ n := Nat.le_trans (flat_len_le h.ne) h.blk.len
theorem RO.more {n k : Nat} {rows : List (List Nat)} (h : RO n rows) (hk : k < n) (hn : k ∉ rows.flatten) : RO n (rows ++ [[k]]) := by
  refine ⟨?_, fun r hr x hx => ?_, fun r hr => ?_⟩
  · rw [List.flatten_append]
    have : ([[k]] : List (List Nat)).flatten = [k] := rfl
    rw [this]
    exact List.nodup_append.mpr ⟨h.nd, by simp, fun a ha b hb => by rw [List.mem_singleton.mp hb]; exact fun z => hn (z ▸ ha)⟩
  · rcases List.mem_append.mp hr with z | z
    · exact h.lt r z x hx
    · rw [List.mem_singleton.mp z] at hx
      rw [List.mem_singleton.mp hx]
      exact hk
  · rcases List.mem_append.mp hr with z | z
    · exact h.ne r z
    · rw [List.mem_singleton.mp z]; simp
theorem bl_ref {H : Hp} {a : Addr} : ∀ {vs : List V} {bs : List (List Nat)}, BlAt H vs bs → V.ref a ∈ vs → ∃ b, H a = some (.lst (nats b)) := fun {vs} {bs} h ha => by
  obtain ⟨i, hi⟩ := List.getElem?_of_mem ha
  obtain ⟨c, b, e, _, hc⟩ := h.get hi
  cases e
  exact ⟨b, hc⟩
theorem bl_grow {H : Hp} {l : Addr} {ws : List V} {rows : List (List Nat)} {v : V} (hl : H l = some (.lst ws)) (h : BlAt H ws rows) : BlAt (upd H l (.lst (ws ++ [v]))) ws rows := h.imp fun a xs ha q => by
  rw [upd_ne (fun z => ?_)]
  · exact q
  · obtain ⟨b, hb⟩ := bl_ref h ha
    rw [z, hl] at hb
    have hb : ws = nats b := HO.lst.inj (Option.some.inj hb)
    rw [hb] at ha
    obtain ⟨x, _, e⟩ := List.mem_map.mp ha
    cases e
/-- new rows begun where the last has all points -/
def begL (m : Nat) (bs : List (List Nat)) : List Nat → List (List Nat) → List (List Nat)
  | [], rows => rows
  | k :: ks, rows => if missV m bs rows = V.non then begL m bs ks (rows ++ [[k]]) else rows
def begR (m : Nat) (bs rows : List (List Nat)) : List (List Nat) := begL m bs (leftB bs.length rows) rows
theorem leftB_nd (n : Nat) (rows : List (List Nat)) : (leftB n rows).Nodup := List.Nodup.sublist List.filter_sublist List.nodup_range
theorem leftB_mem {n k : Nat} {rows : List (List Nat)} : k ∈ leftB n rows ↔ k < n ∧ k ∉ rows.flatten := by
  unfold leftB
  rw [List.mem_filter, List.mem_range, decide_eq_true_iff]
theorem begL_ok {m : Nat} {bs : List (List Nat)} : ∀ {ks : List Nat} {rows : List (List Nat)}, RO bs.length rows → ks.Nodup → (∀ k ∈ ks, k < bs.length ∧ k ∉ rows.flatten) → RO bs.length (begL m bs ks rows)
  | [], rows, h, _, _ => h
  | k :: ks, rows, h, hn, hk => by
    unfold begL
    split
    · refine begL_ok (h.more (hk k (by simp)).1 (hk k (by simp)).2) (List.nodup_cons.mp hn).2 fun j hj => ⟨(hk j (List.mem_cons_of_mem _ hj)).1, fun z => ?_⟩
      rw [List.flatten_append] at z
      rcases List.mem_append.mp z with z | z
      · exact (hk j (List.mem_cons_of_mem _ hj)).2 z
      · have : j = k := by simpa using z
        rw [this] at hj
        exact (List.nodup_cons.mp hn).1 hj
    · exact h
theorem begR_ok {m : Nat} {bs rows : List (List Nat)} (h : RO bs.length rows) : RO bs.length (begR m bs rows) := begL_ok h (leftB_nd ..) fun k hk => leftB_mem.mp hk
def spBegun : Sp := fun vs H Q _ => ∃ (t a : Addr) (m : Nat) (bs rows : List (List Nat)) (ws : List V), vs = [.ref t, .ref a] ∧ LayA H t m bs ∧ m ≤ 60 ∧ (∀ b ∈ bs, Blk m b) ∧ bs.length ≤ 60 ∧ H a = some (.lst ws) ∧ BlAt H ws rows ∧ RO bs.length rows ∧
  ∀ (l : Addr) (us : List V) (H' : Hp), H l = none → Same H H' → H' l = some (.lst us) → BlAt H' us (begR m bs rows) → Q (.ref l) H'
theorem scBegun : FnScope ["M", "rows", "built", "left"] ["M", "rows"] (defScope sBegun) := ⟨rfl, rfl, rfl, by decide +kernel, rfl, by decide +kernel, by decide +kernel⟩
theorem ok_begun {f : Addr} {fd : FuncData} (F : Fun K "begun" "begun" sBegun f fd) (T : TxtB mg) (pLeft : Pm P w K mg base CX0 1 "blocks_left" ["M", "rows"] spLeftB) (pMiss : Pm P w K mg base CX0 2 "missing_point" ["M", "rows"] spMiss) : FnOk P w K mg base CX0 3 f fd ["M", "rows"] spBegun := by
  refine F.okQ scBegun (fun vs H Q E h => ?_) (fun cdv A outer s H vs Q E hr2 h => ?_)
  · obtain ⟨t, a, m, bs, rows, ws, rfl, _⟩ := h
    rfl
  · obtain ⟨t, a, m, bs, rows, ws, rfl, hL, hm, hb, hn, ha, hB, hO, q⟩ := h
    have hr1 := hr2.mono (show 1 ≤ 2 by decide)
    refine ⟨_, (qss_cons (qs_set (i := 2) scBegun.nd rfl (Or.inl rfl) (qe_callTy call_list_of (by rfl) T.lst (by decide +kernel) (qac (qv 1) qa_nil)))
      (qss_cons (qs_set (i := 3) scBegun.nd rfl (Or.inl rfl) (qe_callP pLeft hr1 rfl pass0 (qac (qv 0) (qac (qv 1) qa_nil))))
      (qss_cons (qs_while PassesOwn.never (QW.pt (qw_and (qt_isN (qe_callP pMiss hr2 rfl pass0 (qac (qv 0) (qac (qv 2) qa_nil)))) (qw_and1 (qt_cmpR op_gt (qe_callB call_len_seq (by rfl) T.len PySem.boot_len (qac (qv 3) qa_nil)) qe_int (nomark _)))))
        (qss_cons (qs_expr (qe_bm PySem.F.plainAttrs_list PySem.F.slot_list_append PySem.F.type_list_append mt_append (qv 2) (qac (qe_lst (qac (qe_ix ix_list (qv 3) qe_int (fun _ _ => rfl)) qa_nil)) qa_nil)))
        (qss_one (qs_set (i := 3) scBegun.nd rfl (Or.inl rfl) (qe_slice sl_list (qv 3) (qo_some qe_int) qo_none)))))
      (qss_one (qs_ret (qv 2)))))), ?_⟩
    refine ⟨_, rfl, a, ws, rfl, .inl (SqL.of ha), fun l hl => ?_⟩
    have w1 := same_new (o := .lst ws) hl
    refine ⟨_, rfl, _, rfl, t, a, m, bs, rows, ws, rfl, hL.sm w1, ⟨w1 _ _ ha, hB.same w1, hO.lt⟩, fun r hr => Nat.le_trans (hO.row hr) hn, Nat.le_trans hO.len hn, fun lf H1 hlf s1 hlf1 => ?_⟩
    have s01 := w1.trans s1
    refine while_w (fun σ H2 => ∃ (ks : List Nat) (rows2 : List (List Nat)) (us : List V) (lf : Addr), Same H H2 ∧ H2 l = some (.lst us) ∧ BlAt H2 us rows2 ∧ RO bs.length rows2 ∧ H2 lf = some (.lst (nats ks)) ∧ begL m bs ks rows2 = begR m bs rows ∧ ks.Nodup ∧ (∀ k ∈ ks, k < bs.length ∧ k ∉ rows2.flatten) ∧ σ = [some (.ref t), some (.ref a), some (.ref l), some (.ref lf)]) (fun σ H2 => match σ with | [_, _, _, some (.ref x)] => (match H2 x with | some (.lst xs) => xs.length | _ => 0) | _ => 0)
      ⟨leftB bs.length rows, rows, ws, lf, s01, s1 _ _ upd_same, hB.same s01, hO, hlf1, rfl, leftB_nd .., fun k hk => leftB_mem.mp hk, rfl⟩ ?_
    rintro mu σ H2 ⟨ks, rows2, us, lf, s2, hl2, hB2, hO2, hlf2, hbeg, hnd, hks, rfl⟩ hmu
    refine ⟨_, rfl, _, rfl, t, l, m, bs, rows2, us, rfl, hL.sm s2, hm, hb, ⟨hl2, hB2, hO2.lt⟩, fun r hr => Nat.le_trans (hO2.row hr) hn, fun H3 s3 => ⟨_, rfl, ?_⟩⟩
    have stop : ks = [] ∨ missV m bs rows2 ≠ .non → begR m bs rows = rows2 := fun h => by
      rw [← hbeg]
      cases ks with
      | nil => rfl
      | cons k ks =>
        rcases h with z | z
        · cases z
        · unfold begL
          rw [if_neg z]
    by_cases hz : missV m bs rows2 = .non
    rotate_left
    · rw [decide_eq_false hz]
      refine iteF (iteF ?_)
      exact ⟨_, rfl, q l us H3 hl (s2.trans s3) (s3 _ _ hl2) (by rw [stop (.inr hz)]; exact hB2.same s3)⟩
    rw [decide_eq_true hz]
    refine iteT ⟨_, rfl, lf, _, rfl, .inl (SqL.of (s3 _ _ hlf2)), _, _, rfl, rfl, _, rfl, ?_⟩
    cases ks with
    | nil => exact iteF ⟨_, rfl, q l us H3 hl (s2.trans s3) (s3 _ _ hl2) (by rw [stop (.inl rfl)]; exact hB2.same s3)⟩
    | cons k ks =>
      refine ifT (by show (0 : Int) < (((nats (k :: ks)).length : Nat) : Int); rw [nats_len, List.length_cons]; omega) (WTurn.of ?_)
      have hl3 := s3 _ _ hl2
      have hB3 := hB2.same s3
      have hlf3 := s3 _ _ hlf2
      have ul : us.length ≤ 60 := by rw [hB2.len]; exact Nat.le_trans hO2.len hn
      refine ⟨_, rfl, .inl ⟨rfl, _, SqL.of hl3⟩, _, rfl, lf, _, 0, .int ((k : Nat) : Int), rfl, rfl, SqL.of hlf3, atI_nat (j := 0) rfl, by show 1 ≤ sizeLine; decide, fun c hc => ?_⟩
      have w4 := same_new (o := .lst [V.int ((k : Nat) : Int)]) hc
      have hc4 : upd H3 c (.lst [V.int ((k : Nat) : Int)]) c = some (.lst (nats [k])) := upd_same
      have hl4 := w4 _ _ hl3
      have hB4 := hB3.same w4
      have hlf4 := w4 _ _ hlf3
      have s4 := (s2.trans s3).trans w4
      generalize upd H3 c (.lst [V.int ((k : Nat) : Int)]) = H4 at hc4 hl4 hB4 hlf4 s4 ⊢
      refine ⟨l, us, .ref c, rfl, rfl, hl4, Nat.lt_of_le_of_lt ul (by decide), ?_⟩
      have ncl : c ≠ l := fun z => by
        rw [z, hl4] at hc4
        have e : us = nats [k] := HO.lst.inj (Option.some.inj hc4)
        rw [e] at hB4
        obtain ⟨a', b', e', _⟩ := hB4.get (i := 0) (v := V.int ((k : Nat) : Int)) rfl
        cases e'
      have nfl : lf ≠ l := fun z => by
        rw [z, hl4] at hlf4
        have e : us = nats (k :: ks) := HO.lst.inj (Option.some.inj hlf4)
        rw [e] at hB4
        obtain ⟨a', b', e', _⟩ := hB4.get (i := 0) (v := V.int ((k : Nat) : Int)) rfl
        cases e'
      have hl5 : upd H4 l (.lst (us ++ [.ref c])) l = some (.lst (us ++ [.ref c])) := upd_same
      have hB5 : BlAt (upd H4 l (.lst (us ++ [.ref c]))) (us ++ [.ref c]) (rows2 ++ [[k]]) := (bl_grow hl4 hB4).snoc (by rw [upd_ne ncl]; exact hc4)
      have hlf5 : upd H4 l (.lst (us ++ [.ref c])) lf = some (.lst (nats (k :: ks))) := by rw [upd_ne nfl]; exact hlf4
      have s5 := same_upd (o := .lst (us ++ [.ref c])) s4 hl
      generalize upd H4 l (.lst (us ++ [.ref c])) = H5 at hl5 hB5 hlf5 s5 ⊢
      refine ⟨_, rfl, _, rfl, lf, _, rfl, SqL.of hlf5, fun g hg => ?_⟩
      have w6 := same_new (o := .lst (cutV (nats (k :: ks)) (some 1) none)) hg
      have e1 : cutV (nats (k :: ks)) (some 1) none = nats ks := cut_one _ _
      rw [e1] at w6 ⊢
      refine ⟨⟨ks, rows2 ++ [[k]], us ++ [.ref c], g, s5.trans w6, w6 _ _ hl5, hB5.same w6, hO2.more (hks k (by simp)).1 (hks k (by simp)).2, upd_same, ?_, (List.nodup_cons.mp hnd).2, fun j hj => ⟨(hks j (List.mem_cons_of_mem _ hj)).1, fun z => ?_⟩, rfl⟩, ?_⟩
      · rw [← hbeg]
        conv => rhs; unfold begL
        rw [if_pos hz]
      · rw [List.flatten_append] at z
        rcases List.mem_append.mp z with z | z
        · exact (hks j (List.mem_cons_of_mem _ hj)).2 z
        · have : j = k := by simpa using z
          rw [this] at hj
          exact (List.nodup_cons.mp hnd).1 hj
      · show (match upd H5 g (.lst (nats ks)) g with | some (.lst xs) => xs.length | _ => 0) < mu
        rw [upd_same, hmu]
        show (nats ks).length < (match H2 lf with | some (.lst xs) => xs.length | _ => 0)
        rw [hlf2]
        show (nats ks).length < (nats (k :: ks)).length
        rw [nats_len, nats_len, List.length_cons]
        omega
theorem nats_app2 (l m : List Nat) : nats (l ++ m) = nats l ++ nats m := by simp [nats]
/-- a block joined to the last row -/
def withB (rows : List (List Nat)) (k : Nat) : List (List Nat) := rows.dropLast ++ [rows.getLast?.getD [] ++ [k]]
theorem withB_snoc (rs : List (List Nat)) (row : List Nat) (k : Nat) : withB (rs ++ [row]) k = rs ++ [row ++ [k]] := by
  unfold withB
  rw [List.dropLast_concat, List.getLast?_append, List.getLast?_singleton]
  rfl
def spWithB : Sp := fun vs H Q _ => ∃ (a : Addr) (ws : List V) (rows : List (List Nat)) (k : Nat), vs = [.ref a, .int ((k : Nat) : Int)] ∧ H a = some (.lst ws) ∧ BlAt H ws rows ∧ rows ≠ [] ∧ rows.length ≤ 60 ∧ (∀ r ∈ rows, r.length ≤ 60) ∧
  ∀ (l : Addr) (us : List V) (H' : Hp), Same H H' → H' l = some (.lst us) → BlAt H' us (withB rows k) → Q (.ref l) H'
theorem scWithBlock : FnScope ["rows", "block"] ["rows", "block"] (defScope sWithBlock) := ⟨rfl, rfl, rfl, by decide +kernel, rfl, by decide +kernel, by decide +kernel⟩
theorem ok_withB {f : Addr} {fd : FuncData} (F : Fun K "with_block" "with_block" sWithBlock f fd) : FnOk P w K mg base CX0 1 f fd ["rows", "block"] spWithB := by
  refine F.okQ scWithBlock (fun vs H Q E h => ?_) (fun cdv A outer s H vs Q E hr h => ?_)
  · obtain ⟨a, ws, rows, k, rfl, _⟩ := h
    rfl
  · obtain ⟨a, ws, rows, k, rfl, ha, hB, hne, hl60, hr60, q⟩ := h
    refine ⟨_, (qss_one (qs_ret (qe_op op_cat (qe_slice sl_list (qv 0) qo_none (qo_some (qe_un un_neg qe_int))) (qe_lst (qac (qe_op op_cat (qe_ix ix_list (qv 0) (qe_un un_neg qe_int) (fun _ _ => rfl)) (qe_lst (qac (qv 1) qa_nil))) qa_nil))))), ?_⟩
    obtain ⟨rs, row, rfl⟩ := getLast_snoc hne
    obtain ⟨us, c, rfl, hc, hBs⟩ := rws_last hB
    have ul : us.length ≤ 60 := by
      have := hBs.len
      rw [List.length_append] at hl60
      omega
    refine ⟨_, rfl, _, rfl, _, rfl, a, _, rfl, SqL.of ha, fun x hx => ?_⟩
    rw [cut_last]
    have w1 := same_new (o := .lst us) hx
    have hx1 : upd H x (.lst us) x = some (.lst us) := upd_same
    generalize upd H x (.lst us) = H1 at w1 hx1 ⊢
    refine ⟨_, rfl, _, rfl, a, _, _, .ref c, rfl, rfl, SqL.of (w1 _ _ ha), atI_last us _, _, rfl, by show 1 ≤ sizeLine; decide, fun y hy => ?_⟩
    have w2 := same_new (o := .lst [V.int ((k : Nat) : Int)]) hy
    have hy2 : upd H1 y (.lst [V.int ((k : Nat) : Int)]) y = some (.lst (nats [k])) := upd_same
    generalize upd H1 y (.lst [V.int ((k : Nat) : Int)]) = H2 at w2 hy2 ⊢
    have s2 := w1.trans w2
    refine ⟨c, y, _, _, rfl, rfl, s2 _ _ hc, hy2, ?_, fun z hz => ?_⟩
    · rw [nats_len, nats_len]
      exact Nat.le_trans (show row.length + 1 ≤ 61 by have := hr60 row (by simp); omega) (by decide)
    rw [← nats_app2]
    have w3 := same_new (o := .lst (nats (row ++ [k]))) hz
    have hz3 : upd H2 z (.lst (nats (row ++ [k]))) z = some (.lst (nats (row ++ [k]))) := upd_same
    generalize upd H2 z (.lst (nats (row ++ [k]))) = H3 at w3 hz3 ⊢
    refine ⟨by show 1 ≤ sizeLine; decide, fun v hv => ?_⟩
    have w4 := same_new (o := .lst [V.ref z]) hv
    have hv4 : upd H3 v (.lst [V.ref z]) v = some (.lst [V.ref z]) := upd_same
    generalize upd H3 v (.lst [V.ref z]) = H4 at w4 hv4 ⊢
    refine ⟨x, v, _, _, rfl, rfl, (w2.trans (w3.trans w4)) _ _ hx1, hv4, Nat.le_trans (show us.length + [V.ref z].length ≤ 61 by simp; omega) (by decide), fun r hr' => ?_⟩
    have w5 := same_new (o := .lst (us ++ [V.ref z])) hr'
    have s5 := s2.trans (w3.trans (w4.trans w5))
    refine q r _ _ s5 upd_same ?_
    rw [withB_snoc]
    exact (hBs.same s5).snoc ((w4.trans w5) _ _ hz3)
/-- the blocks that fit: with the point, and with none that the last row has -/
def fitB (m : Nat) (bs rows : List (List Nat)) (p : Nat) : List Nat := (leftB bs.length rows).filter fun k => decide (p ∈ bs.getD k []) && (bs.getD k []).all fun x => decide (x ∉ ptsOf bs (rows.getLast?.getD []))
def spFit : Sp := fun vs H Q _ => ∃ (t a : Addr) (m p : Nat) (bs rows : List (List Nat)) (ws : List V), vs = [.ref t, .ref a, .int ((p : Nat) : Int)] ∧ LayA H t m bs ∧ m ≤ 60 ∧ (∀ b ∈ bs, Blk m b) ∧ bs.length ≤ 60 ∧ H a = some (.lst ws) ∧ BlAt H ws rows ∧ RO bs.length rows ∧ rows ≠ [] ∧
  ∀ (l : Addr) (H' : Hp), H l = none → Same H H' → H' l = some (.lst (nats (fitB m bs rows p))) → Q (.ref l) H'
theorem scFittingBlocks : FnScope ["M", "rows", "point", "had"] ["M", "rows", "point"] (defScope sFittingBlocks) := ⟨rfl, rfl, rfl, by decide +kernel, rfl, by decide +kernel, by decide +kernel⟩
theorem filt_take {p : Nat → Bool} {L : List Nat} {i k : Nat} (h : L[i]? = some k) : (L.take (i + 1)).filter p = (L.take i).filter p ++ if p k = true then [k] else [] := by
  rw [take_snoc h, List.filter_append]
  by_cases e : p k = true <;> simp [e]
theorem ok_fit {f : Addr} {fd : FuncData} (F : Fun K "fitting_blocks" "fitting_blocks" sFittingBlocks f fd) (T : TxtB mg) (pHad : Pm P w K mg base CX0 1 "points_had" ["M", "row"] spHad) (pLeft : Pm P w K mg base CX0 1 "blocks_left" ["M", "rows"] spLeftB) (pHasNone : Pm P w K mg base CX0 1 "has_none" ["block", "had"] spHasNone) : FnOk P w K mg base CX0 2 f fd ["M", "rows", "point"] spFit := by
  refine F.okQ scFittingBlocks (fun vs H Q E h => ?_) (fun cdv A outer s H vs Q E hr h => ?_)
  · obtain ⟨t, a, m, p, bs, rows, ws, rfl, _⟩ := h
    rfl
  · obtain ⟨t, a, m, p, bs, rows, ws, rfl, hL, hm, hb, hn, ha, hB, hO, hne, q⟩ := h
    obtain ⟨lb, wl, ht, hlb, hT, hlen⟩ := id hL
    refine ⟨_, (qss_cons (qs_set (i := 3) scFittingBlocks.nd rfl (Or.inr rfl) (qe_callP pHad hr rfl pass0 (qac (qv 0) (qac (qe_ix ix_list (qv 1) (qe_un un_neg qe_int) (fun _ _ => rfl)) qa_nil))))
      (qss_one (qs_ret (qe_comp (g := gName 0) (N := ["block", "M", "point", "had"]) (src := [none, some 0, some 2, some 3]) rfl (comp_scope (defScope sFittingBlocks) ["M", "rows", "point", "had"] rfl rfl (by decide +kernel) rfl) (qi_list (qe_callP pLeft hr rfl pass0 (qac (qv 0) (qac (qv 1) qa_nil)))) (fun _ _ _ _ _ => (qg_name (i := 0) (show (["block", "M", "point", "had"] : List Str).Nodup by decide +kernel) rfl (Or.inl rfl) (Or.inr rfl))) (fun _ _ _ _ _ => (qif_one (QW.pt (qw_and (qt_cmpR (show OpR _ _ (rIn K false) from op_in_seq) (qv 2) (qe_ix (show IxR _ (rIxT K) from ix_tup) (qe_ix (show IxR _ (rIxT K) from ix_tup) (qv 1) qe_int (fun _ _ => rfl)) (qv 0) (fun _ _ => rfl)) rfl) (qw_and1 (qt_val (qe_callP pHasNone hr rfl pass0 (qac (qe_ix (show IxR _ (rIxT K) from ix_tup) (qe_ix (show IxR _ (rIxT K) from ix_tup) (qv 1) qe_int (fun _ _ => rfl)) (qv 0) (fun _ _ => rfl)) (qac (qv 3) qa_nil))))))))) (fun _ _ _ _ _ => (qv 0)))))), ?_⟩
    obtain ⟨rs, row, rfl⟩ := getLast_snoc hne
    obtain ⟨us, c, rfl, hc, hBs⟩ := rws_last hB
    have hmem : row ∈ rs ++ [row] := by simp
    refine ⟨_, rfl, _, rfl, _, rfl, a, _, _, .ref c, rfl, rfl, SqL.of ha, atI_last us _, t, c, m, bs, row, rfl, hL, hm, hb, hc, hO.lt row hmem, Nat.le_trans (hO.row hmem) hn, fun d H1 hd s1 hD => ?_⟩
    refine ⟨_, rfl, _, rfl, t, a, m, bs, _, _, rfl, hL.sm s1, ⟨s1 _ _ ha, hB.same s1, hO.lt⟩, fun r hr => Nat.le_trans (hO.row hr) hn, Nat.le_trans hO.len hn, fun g H2 hg s2 hg2 => ?_⟩
    have s12 := s1.trans s2
    have hD2 := hD.sm s2
    have hll : (leftB bs.length (rs ++ [row])).length ≤ 60 := Nat.le_trans (filt_le ..) hn
    refine ⟨g, rfl, ⟨_, SqL.of hg2⟩, comp_list (K := K) (a := g) (xs := nats (leftB bs.length (rs ++ [row]))) (fun i zs H3 => Same H2 H3 ∧ zs = nats (((leftB bs.length (rs ++ [row])).take i).filter fun k => decide (p ∈ bs.getD k []) && (bs.getD k []).all fun x => decide (x ∉ ptsOf bs row))) ⟨Same.refl _, rfl⟩ (fun i zs H3 _ ⟨e, _⟩ => SqL.of (e _ _ hg2)) ?_ ?_⟩
    · rintro i v zs H3 N hi ⟨s3, rfl⟩ nx
      obtain ⟨k, hki, rfl⟩ := L2.nats_get hi
      have hil := (List.getElem?_eq_some_iff.mp hki).1
      have hkl := (leftB_mem.mp (List.mem_of_getElem? hki)).1
      have gi : wl[k]? = some (wl[k]'(by rw [hT.len]; exact hkl)) := List.getElem?_eq_getElem _
      have s03 := s12.trans s3
      obtain ⟨e, b, ee, hbs, he⟩ := (hT.sm s03).get gi
      have hbg : bs.getD k [] = b := getD_at hbs
      have hbb := hb b (List.mem_of_getElem? hbs)
      have ef := filt_take (p := fun k => decide (p ∈ bs.getD k []) && (bs.getD k []).all fun x => decide (x ∉ ptsOf bs row)) hki
      rw [hbg] at ef
      have hzl : (((leftB bs.length (rs ++ [row])).take i).filter fun k => decide (p ∈ bs.getD k []) && (bs.getD k []).all fun x => decide (x ∉ ptsOf bs row)).length < sizeLine := Nat.lt_of_le_of_lt (List.length_filter_le ..) (by rw [List.length_take]; exact Nat.lt_of_le_of_lt (show _ ≤ 60 by omega) (by decide))
      refine ⟨Weak.set (by intro v z; cases z), _, rfl, _, rfl, t, _, 1, .ref lb, rfl, rfl, SqT.of (s03 _ _ ht), rfl, _, rfl, lb, wl, _, _, rfl, rfl, SqT.of (s03 _ _ hlb), atI_nat gi, e, nats b, ee, .inr (SqT.of he), rfl, flat_nats b, _, rfl, ?_⟩
      show if inV (V.int ((p : Nat) : Int)) (nats b) = true then _ else _
      rw [inV_nats]
      by_cases h1 : p ∈ b
      · rw [decide_eq_true h1] at ef ⊢
        refine iteT ⟨_, rfl, t, _, 1, .ref lb, rfl, rfl, SqT.of (s03 _ _ ht), rfl, _, rfl, lb, wl, _, _, rfl, rfl, SqT.of (s03 _ _ hlb), atI_nat gi, _, rfl, e, d, 3600, b, ptsOf bs row, by rw [ee]; rfl, he, hD2.sm s3, Nat.le_trans hbb.len hm, fun H4 s4 => ⟨_, rfl, ?_⟩⟩
        cases h2 : b.all fun x => decide (x ∉ ptsOf bs row) with
        | true =>
          rw [h2, if_pos (by decide)] at ef
          exact iteT ⟨_, rfl, by rw [nats_len]; exact hzl, nx _ _ ⟨s3.trans s4, by rw [ef, nats_snoc]⟩⟩
        | false =>
          rw [h2, if_neg (by decide), List.append_nil] at ef
          exact iteF (nx _ _ ⟨s3.trans s4, by rw [ef]⟩)
      · rw [decide_eq_false h1] at ef ⊢
        rw [Bool.false_and, if_neg (by decide), List.append_nil] at ef
        exact iteF (nx _ _ ⟨s3, by rw [ef]⟩)
    · rintro zs H3 ⟨s3, rfl⟩
      rw [show (leftB bs.length (rs ++ [row])).take (nats (leftB bs.length (rs ++ [row]))).length = leftB bs.length (rs ++ [row]) by rw [nats_len, List.take_length]]
      refine ⟨by rw [nats_len]; exact Nat.le_trans (List.length_filter_le ..) (Nat.le_trans hll (by decide)), fun r hr' => ?_⟩
      refine q r _ (none_of (s12.trans s3) hr') (s12.trans (s3.trans (same_new hr'))) ?_
      unfold fitB
      rw [List.getLast?_append, List.getLast?_singleton]
      exact upd_same
/-- data in a tuple of data -/
def rInT (K : PySem.W.Frag) : R2 := fun x y H Q => ∃ d ds, IsD K H d x ∧ IsD K H (.tuple ds) y ∧ PySem.SeqAt.shaped d = true ∧ PySem.SeqAt.shaped (.tuple ds) = true ∧ Q (.bl (ds.any fun e => PyData.eqv e d)) H
theorem op_inT {X : Cx} (hu : X.A.units + 80 < cLine) : OpR X (compareOp .In) (rInT X.K) := by
  intro pins s σ H x y v u Q I rx ry h
  obtain ⟨d, ds, hd, hl, sd, sl, q⟩ := h
  obtain ⟨as, ra⟩ := IsD.reads I d hd rx
  obtain ⟨bs, rb⟩ := IsD.reads I (.tuple ds) hl ry
  have hc : PyData.canLayAll0 ds = true := by
    have := PySem.SeqAt.canLay_of_shaped sl
    simpa only [PyData.canLay0] using this
  have hdep := PySem.SeqAt.depth_of_shaped sd
  exact PySem.SeqAt.in_tuple_reads rb ra hc (PySem.SeqAt.canLay_of_shaped sd) (by omega) ⟨.bl _, H, I, rfl, q⟩
/-! trees: tuples of tuples and numbers -/
mutual
def TrD (H : Hp) : PyData → V → Prop
  | .none, v => v = .non
  | .int i, v => v = .int i
  | .tuple ds, v => ∃ a xs, v = .ref a ∧ H a = some (.tup xs) ∧ TrDs H ds xs
  | .bool _, _ => False
  | .str _, _ => False
  | .list _, _ => False
  | .dict _, _ => False
def TrDs (H : Hp) : List PyData → List V → Prop
  | [], xs => xs = []
  | d :: ds, xs => ∃ x r, xs = x :: r ∧ TrD H d x ∧ TrDs H ds r
end
mutual
theorem TrD.imp {H H' : Hp} (st : ∀ a xs, H a = some (.tup xs) → H' a = some (.tup xs)) : ∀ (d : PyData) {v : V}, TrD H d v → TrD H' d v
  | .none, v, h => by simp only [TrD] at h ⊢; exact h
  | .int i, v, h => by simp only [TrD] at h ⊢; exact h
  | .tuple ds, v, h => by
    simp only [TrD] at h ⊢
    obtain ⟨a, xs, e, hs, hd⟩ := h
    exact ⟨a, xs, e, st a xs hs, TrDs.imp st ds hd⟩
  | .bool _, v, h => by simp only [TrD] at h
  | .str _, v, h => by simp only [TrD] at h
  | .list _, v, h => by simp only [TrD] at h
  | .dict _, v, h => by simp only [TrD] at h
theorem TrDs.imp {H H' : Hp} (st : ∀ a xs, H a = some (.tup xs) → H' a = some (.tup xs)) : ∀ (ds : List PyData) {vs : List V}, TrDs H ds vs → TrDs H' ds vs
  | [], vs, h => by simp only [TrDs] at h ⊢; exact h
  | d :: ds, vs, h => by
    simp only [TrDs] at h ⊢
    obtain ⟨x, r, e, hx, hr⟩ := h
    exact ⟨x, r, e, TrD.imp st d hx, TrDs.imp st ds hr⟩
end
mutual
theorem TrD.isD {K : PySem.W.Frag} {H : Hp} : ∀ (d : PyData) {v : V}, TrD H d v → IsD K H d v
  | .none, v, h => by simp only [TrD] at h; simp only [IsD]; exact h
  | .int i, v, h => by simp only [TrD] at h; simp only [IsD]; exact h
  | .tuple ds, v, h => by
    simp only [TrD] at h
    simp only [IsD]
    obtain ⟨a, xs, e, hs, hd⟩ := h
    exact ⟨a, xs, e, SqT.of hs, TrDs.isDs ds hd⟩
  | .bool _, v, h => by simp only [TrD] at h
  | .str _, v, h => by simp only [TrD] at h
  | .list _, v, h => by simp only [TrD] at h
  | .dict _, v, h => by simp only [TrD] at h
theorem TrDs.isDs {K : PySem.W.Frag} {H : Hp} : ∀ (ds : List PyData) {vs : List V}, TrDs H ds vs → IsDs K H ds vs
  | [], vs, h => by simp only [TrDs] at h; simp only [IsDs]; exact h
  | d :: ds, vs, h => by
    simp only [TrDs] at h
    simp only [IsDs]
    obtain ⟨x, r, e, hx, hr⟩ := h
    exact ⟨x, r, e, TrD.isD d hx, TrDs.isDs ds hr⟩
end
theorem TrDs.snoc {H : Hp} {d : PyData} {v : V} (h : TrD H d v) : ∀ {ds : List PyData} {vs : List V}, TrDs H ds vs → TrDs H (ds ++ [d]) (vs ++ [v])
  | [], vs, hs => by
    simp only [TrDs] at hs
    subst hs
    simp only [List.nil_append, TrDs]
    exact ⟨_, _, rfl, h, rfl⟩
  | e :: ds, vs, hs => by
    simp only [TrDs] at hs
    obtain ⟨x, r, rfl, hx, hr⟩ := hs
    simp only [List.cons_append, TrDs]
    exact ⟨_, _, rfl, hx, TrDs.snoc h hr⟩
theorem TrDs.len {H : Hp} : ∀ {ds : List PyData} {vs : List V}, TrDs H ds vs → vs.length = ds.length
  | [], vs, hs => by simp only [TrDs] at hs; subst hs; rfl
  | e :: ds, vs, hs => by
    simp only [TrDs] at hs
    obtain ⟨x, r, rfl, _, hr⟩ := hs
    rw [List.length_cons, List.length_cons, TrDs.len hr]
theorem miss_cases (m : Nat) (bs rows : List (List Nat)) : (missV m bs rows = .non ∧ ∀ rs row, rows = rs ++ [row] → ∀ x, x < m → x ∈ ptsOf bs row) ∨ ∃ (p : Nat) (rs : List (List Nat)) (row : List Nat), missV m bs rows = .int ((p : Nat) : Int) ∧ rows = rs ++ [row] ∧ p < m ∧ p ∉ ptsOf bs row ∧ ∀ x, x < p → x ∈ ptsOf bs row := by
  by_cases hz : rows = []
  · subst hz
    exact .inl ⟨rfl, fun rs row e => by simp at e⟩
  obtain ⟨rs, row, rfl⟩ := getLast_snoc hz
  unfold missV
  rw [List.getLast?_append, List.getLast?_singleton]
  show (fstV (leftP m bs row) = .non ∧ _) ∨ ∃ (p : Nat) (rs' : List (List Nat)) (row' : List Nat), fstV (leftP m bs row) = .int ((p : Nat) : Int) ∧ _
  have mem : ∀ x, x ∈ leftP m bs row ↔ x < m ∧ x ∉ ptsOf bs row := fun x => by
    unfold leftP
    rw [List.mem_filter, List.mem_range, decide_eq_true_iff]
  have up := leftP_up m bs row
  cases hl : leftP m bs row with
  | nil =>
    refine .inl ⟨rfl, fun rs' row' e x hx => ?_⟩
    have e2 : row = row' := by
      have := congrArg List.getLast? e
      simpa using this
    rw [← e2]
    refine Classical.byContradiction fun hn => ?_
    have := (mem x).mpr ⟨hx, hn⟩
    rw [hl] at this
    cases this
  | cons p tl =>
    have hp := (mem p).mp (by rw [hl]; simp)
    refine .inr ⟨p, rs, row, rfl, rfl, hp.1, hp.2, fun x hx => Classical.byContradiction fun hn => ?_⟩
    have := (mem x).mpr ⟨by omega, hn⟩
    rw [hl] at this up
    rcases List.mem_cons.mp this with z | z
    · omega
    · have := (List.pairwise_cons.mp up).1 x z
      omega
theorem withB_flat {rows : List (List Nat)} (h : rows ≠ []) (k : Nat) : (withB rows k).flatten = rows.flatten ++ [k] := by
  obtain ⟨rs, row, rfl⟩ := getLast_snoc h
  rw [withB_snoc, List.flatten_append, List.flatten_append]
  simp
theorem RO.withB {n k : Nat} {rows : List (List Nat)} (h : RO n rows) (hne : rows ≠ []) (hk : k < n) (hn : k ∉ rows.flatten) : RO n (withB rows k) := by
  refine ⟨?_, ?_, ?_⟩
  · rw [withB_flat hne]
    exact List.nodup_append.mpr ⟨h.nd, by simp, fun a ha b hb => by rw [List.mem_singleton.mp hb]; exact fun z => hn (z ▸ ha)⟩
  all_goals
    obtain ⟨rs, row, rfl⟩ := getLast_snoc hne
    rw [withB_snoc]
    intro r hr
    rcases List.mem_append.mp hr with z | z
  · exact h.lt r (List.mem_append_left _ z)
  · rw [List.mem_singleton.mp z]
    intro x hx
    rcases List.mem_append.mp hx with y | y
    · exact h.lt row (by simp) x y
    · rw [List.mem_singleton.mp y]; exact hk
  · exact h.ne r (List.mem_append_left _ z)
  · rw [List.mem_singleton.mp z]; simp
theorem begL_len {m : Nat} {bs : List (List Nat)} : ∀ (ks : List Nat) (rows : List (List Nat)), rows.flatten.length ≤ (begL m bs ks rows).flatten.length
  | [], rows => Nat.le_refl _
  | k :: ks, rows => by
    unfold begL
    split
    · refine Nat.le_trans ?_ (begL_len ks _)
      rw [List.flatten_append, List.length_append]
      omega
    · exact Nat.le_refl _
theorem fit_mem {m : Nat} {bs rows : List (List Nat)} {p k : Nat} (h : k ∈ fitB m bs rows p) : k < bs.length ∧ k ∉ rows.flatten ∧ p ∈ bs.getD k [] ∧ ∀ x ∈ bs.getD k [], x ∉ ptsOf bs (rows.getLast?.getD []) := by
  have h1 := List.mem_filter.mp h
  have h2 := leftB_mem.mp h1.1
  have h3 := h1.2
  rw [Bool.and_eq_true, decide_eq_true_iff, List.all_eq_true] at h3
  exact ⟨h2.1, h2.2, h3.1, fun x hx => of_decide_eq_true (h3.2 x hx)⟩
theorem any_nil : ∀ bs : List (List Nat), ((bs.map dTup).any fun e => PyData.eqv e (.tuple [])) = decide ([] ∈ bs)
  | [] => rfl
  | [] :: bs => by
    rw [List.map_cons, List.any_cons, any_nil bs]
    simp [dTup, PyData.eqv, PyData.eqvAll]
  | (x :: b) :: bs => by
    rw [List.map_cons, List.any_cons, any_nil bs]
    simp [dTup, PyData.eqv, PyData.eqvAll]
theorem shaped_lay (bs : List (List Nat)) : PySem.SeqAt.shaped (.tuple (bs.map dTup)) = true := by
  unfold PySem.SeqAt.shaped
  rw [Bool.and_eq_true]
  refine ⟨by simp only [PyData.canLay0]; exact lay_tps bs, decide_eq_true ?_⟩
  have := depth_tps bs
  simp only [PyData.depth]
  omega
/-! the rows that are found are classes -/
/-- all but what stands at B stays -/
def KpB (B : Addr) (H H' : Hp) : Prop := ∀ x o, x ≠ B → H x = some o → H' x = some o
theorem KpB.refl {B : Addr} {H : Hp} : KpB B H H := fun _ _ _ h => h
theorem KpB.sm {B : Addr} {H H1 H2 : Hp} (h : KpB B H H1) (s : Same H1 H2) : KpB B H H2 := fun x o n q => s _ _ (h x o n q)
theorem KpB.pre {B : Addr} {H H1 H2 : Hp} (s : Same H H1) (h : KpB B H1 H2) : KpB B H H2 := fun x o n q => h x o n (s _ _ q)
theorem KpB.up {B : Addr} {H H1 : Hp} {o : HO} (h : KpB B H H1) : KpB B H (upd H1 B o) := fun x o' n q => by rw [upd_ne n]; exact h x o' n q
theorem KpB.upF {B c : Addr} {H H1 : Hp} {o : HO} (h : KpB B H H1) (hc : H c = none) : KpB B H (upd H1 c o) := fun x o' n q => by
  rw [upd_ne (fun z => by rw [z, hc] at q; cases q)]
  exact h x o' n q
theorem KpB.same {B : Addr} {H H1 : Hp} (h : KpB B H H1) (hB : H B = none) : Same H H1 := fun x o q => h x o (fun z => by rw [z, hB] at q; cases q) q
theorem KpB.free {B c : Addr} {H H1 : Hp} {o : HO} (h : KpB B H H1) (hB : H1 B = some o) (hc : H1 c = none) : H c = none := by
  cases e : H c with
  | none => rfl
  | some o' => rw [h c o' (fun z => by rw [z, hB] at hc; cases hc) e] at hc; cases hc
theorem tp_up {H : Hp} {c : Addr} {xs ys ws : List V} {bs : List (List Nat)} (hc : H c = some (.lst xs)) (h : TpAt H ws bs) : TpAt (upd H c (.lst ys)) ws bs := h.same fun u zs hu => by
  rw [upd_ne (fun z => by rw [z, hc] at hu; cases hu)]
  exact hu
theorem tp_dropE {H : Hp} : ∀ {ws : List V} {bs : List (List Nat)}, TpAt H ws bs → ∀ k, TpAt H (ws.eraseIdx k) (bs.eraseIdx k)
  | [], [], h, _ => h
  | _ :: _, _ :: _, h, 0 => h.2
  | _ :: _, _ :: _, h, k + 1 => ⟨h.1, tp_dropE h.2 k⟩
theorem tp_drop {H : Hp} : ∀ {ws : List V} {bs : List (List Nat)}, TpAt H ws bs → ∀ k, TpAt H (ws.drop k) (bs.drop k)
  | _, _, h, 0 => h
  | [], [], h, _ + 1 => h
  | _ :: _, _ :: _, h, k + 1 => tp_drop h.2 k
theorem all_more {m : Nat} {bs : List (List Nat)} {b : List Nat} (h : ∀ b ∈ bs, Bls m b) (hb : Bls m b) : ∀ b' ∈ bs ++ [b], Bls m b' := fun b' hb' => by
  rcases List.mem_append.mp hb' with z | z
  · exact h b' z
  · rw [List.mem_singleton.mp z]; exact hb
theorem not_mem_takeN {l : List Nat} (hn : l.Nodup) {i x : Nat} (h : l[i]? = some x) : x ∉ l.take i := fun z => by
  have h1 : (l.take i ++ [x]).Nodup := by
    rw [← take_snoc h]
    exact hn.sublist (List.take_sublist ..)
  exact (List.nodup_append.mp h1).2.2 x z x (List.mem_singleton.mpr rfl) rfl
def spParting (K : PySem.W.Frag) : Sp := fun vs H Q _ => ∃ (a : Addr) (ns : List Int) (k : Nat), vs = [.ref a, .int (k : Int)] ∧ SqL K H a (ns.map V.int) ∧ k ≤ 50 ∧ ∀ (t l : Addr) (m : Nat) (ws : List V) (bs : List (List Nat)) (H' : Hp), Same H H' → H' t = some (.tup [.int ((m : Nat) : Int), .ref l]) → H' l = some (.tup ws) → TpAt H' ws bs → 1 ≤ m → m ≤ 6 → bs.length ≤ 9 → (∀ b ∈ bs, Bls m b) → Q (.ref t) H'
theorem scLParting : FnScope ["_law_script", "_law_at", "_law_xs", "_law_many", "_law_blocks", "_law_k", "_law_row_here", "_law_cuts", "_law_block", "_law_j", "_law_point", "_law_turn"] ["_law_script", "_law_at"] (defScope sLParting) := ⟨rfl, rfl, rfl, by decide +kernel, rfl, by decide +kernel, by decide +kernel⟩
theorem ok_parting {f : Addr} {fd : FuncData} (F : Fun K "_law_parting" "_law_parting" sLParting f fd) (T : TxtB mg) (pCell : Pm P w K mg base CX0 1 "_law_cell" ["_law_script", "_law_k"] (spCell2 K)) (pLNumbers : Pm P w K mg base CX0 1 "_law_numbers" ["_law_cell_here", "_law_many"] spNums) (pLRow : Pm P w K mg base CX0 1 "_law_row" ["_law_xs", "_law_many"] (spRow K)) : FnOk P w K mg base CX0 2 f fd ["_law_script", "_law_at"] (spParting K) := by
  refine F.okQ scLParting (fun vs H Q E h => ?_) (fun cdv A outer s H vs Q E hr h => ?_)
  · obtain ⟨a, ns, k, rfl, _⟩ := h
    rfl
  · obtain ⟨a, ns, k, rfl, hS, hk, q⟩ := h
    refine ⟨_, (qss_cons (qs_set (i := 2) scLParting.nd rfl (Or.inl rfl) (qe_callP pLNumbers hr rfl pass0 (qac (qe_callP pCell hr rfl pass0 (qac (qv 0) (qac (qv 1) qa_nil))) (qac qe_int qa_nil))))
      (qss_cons (qs_set (i := 3) scLParting.nd rfl (Or.inl rfl) (qe_op op_add qe_int (qe_op op_mod (qe_ix ix_list (qv 2) qe_int (fun _ _ => rfl)) qe_int)))
      (qss_cons (qs_set (i := 4) scLParting.nd rfl (Or.inl rfl) (qe_lst qa_nil))
      (qss_cons (qs_for PassesOwn.never rfl (qi_range1 rfl T.range (qac (qe_op op_add qe_int (qe_op op_mod (qe_ix ix_list (qv 2) qe_int (fun _ _ => rfl)) qe_int)) qa_nil)) (qg_name (i := 5) scLParting.nd rfl (Or.inl rfl))
        (qss_cons (qs_set (i := 6) scLParting.nd rfl (Or.inl rfl) (qe_callP pLRow hr rfl pass0 (qac (qe_callP pLNumbers hr rfl pass0 (qac (qe_callP pCell hr rfl pass0 (qac (qv 0) (qac (qe_op op_add (qe_op op_add (qv 1) qe_int) (qv 5)) qa_nil))) (qac qe_int qa_nil))) (qac (qv 3) qa_nil))))
        (qss_cons (qs_set (i := 7) scLParting.nd rfl (Or.inl rfl) (qe_op op_mod (qe_op op_shr (qe_ix ix_list (qv 2) qe_int (fun _ _ => rfl)) (qv 5)) (qe_op op_shl qe_int (qv 3))))
        (qss_cons (qs_set (i := 8) scLParting.nd rfl (Or.inl rfl) (qe_lst (qac (qe_ix ix_list (qv 6) qe_int (fun _ _ => rfl)) qa_nil)))
        (qss_cons (qs_for PassesOwn.never rfl (qi_range2 rfl T.range (qac qe_int (qac (qv 3) qa_nil))) (qg_name (i := 9) scLParting.nd rfl (Or.inl rfl))
          (qss_cons (qs_if (qt_cmpR op_eq (qe_op op_and (qe_op op_shr (qv 7) (qv 9)) qe_int) qe_int (nomark _)) (qss_cons (qs_expr (qe_bm PySem.F.plainAttrs_list PySem.F.slot_list_append PySem.F.type_list_append mt_append (qv 4) (qac (qe_callTy call_tuple_of (by rfl) T.tup (by decide +kernel) (qac (qe_callB call_sortI (by rfl) T.sor (by decide +kernel) (qac (qv 8) qa_nil)) qa_nil)) qa_nil)))
            (qss_one (qs_set (i := 8) scLParting.nd rfl (Or.inl rfl) (qe_lst qa_nil)))) qss_nil)
          (qss_one (qs_expr (qe_bm PySem.F.plainAttrs_list PySem.F.slot_list_append PySem.F.type_list_append mt_append (qv 8) (qac (qe_ix ix_list (qv 6) (qv 9) (fun _ _ => rfl)) qa_nil))))))
        (qss_one (qs_expr (qe_bm PySem.F.plainAttrs_list PySem.F.slot_list_append PySem.F.type_list_append mt_append (qv 4) (qac (qe_callTy call_tuple_of (by rfl) T.tup (by decide +kernel) (qac (qe_callB call_sortI (by rfl) T.sor (by decide +kernel) (qac (qv 8) qa_nil)) qa_nil)) qa_nil)))))))))
      (qss_cons (qs_set (i := 4) scLParting.nd rfl (Or.inl rfl) (qe_slice sl_list (qv 4) qo_none (qo_some qe_int)))
      (qss_cons (qs_if (qt_cmpR op_eq (qe_op op_mod (qe_ix ix_list (qv 2) qe_int (fun _ _ => rfl)) qe_int) qe_int (nomark _)) (qss_one (qs_expr (qe_bm PySem.F.plainAttrs_list PySem.F.slot_list_pop PySem.F.type_list_pop mt_popAt (qv 4) (qac (qe_op op_mod (qe_ix ix_list (qv 2) qe_int (fun _ _ => rfl)) (qe_callB call_len_seq (by rfl) T.len PySem.boot_len (qac (qv 4) qa_nil))) qa_nil)))) qss_nil)
      (qss_cons (qs_if (QW.pt (qw_and (qt_cmpR op_eq (qe_op op_mod (qe_ix ix_list (qv 2) qe_int (fun _ _ => rfl)) qe_int) qe_int (nomark _)) (qw_and1 (qt_cmpR op_gt (qv 3) qe_int (nomark _))))) (qss_cons (qs_set (i := 5) scLParting.nd rfl (Or.inl rfl) (qe_op op_mod (qe_ix ix_list (qv 2) qe_int (fun _ _ => rfl)) (qe_callB call_len_seq (by rfl) T.len PySem.boot_len (qac (qv 4) qa_nil))))
        (qss_cons (qs_set (i := 10) scLParting.nd rfl (Or.inr rfl) (qe_op op_mod (qe_ix ix_list (qv 2) qe_int (fun _ _ => rfl)) (qv 3)))
        (qss_cons (qs_set (i := 8) scLParting.nd rfl (Or.inl rfl) (qe_op op_cat (qe_comp (g := gName 0) (N := ["_law_other", "_law_point"]) (src := [none, some 10]) rfl (comp_scope (defScope sLParting) ["_law_script", "_law_at", "_law_xs", "_law_many", "_law_blocks", "_law_k", "_law_row_here", "_law_cuts", "_law_block", "_law_j", "_law_point", "_law_turn"] rfl rfl (by decide +kernel) rfl) (qi_tup (qe_ix ix_list (qv 4) (qv 5) (fun _ _ => rfl))) (fun _ _ _ _ _ => (qg_name (i := 0) (show (["_law_other", "_law_point"] : List Str).Nodup by decide +kernel) rfl (Or.inl rfl) (Or.inr rfl))) (fun _ _ _ _ _ => (qif_one (qt_cmpR op_ne (qv 0) (qv 1) (nomark _)))) (fun _ _ _ _ _ => (qv 0))) (qe_op op_mulL (qe_lst (qac (qv 10) qa_nil)) (qe_callTy call_int1 (by rfl) T.int (by decide +kernel) (qac (qe_cmpR op_notIn_seq (qv 10) (qe_ix ix_list (qv 4) (qv 5) (fun _ _ => rfl)) rfl) qa_nil)))))
        (qss_one (qs_asg (qe_callTy call_tuple_of (by rfl) T.tup (by decide +kernel) (qac (qe_callB call_sortI (by rfl) T.sor (by decide +kernel) (qac (qv 8) qa_nil)) qa_nil)) (qg_sub (qv 4) (qv 5) set_list (fun _ => rfl))))))) qss_nil)
      (qss_cons (qs_set (i := 11) scLParting.nd rfl (Or.inl rfl) (qe_op op_mod (qe_ix ix_list (qv 2) qe_int (fun _ _ => rfl)) (qe_callB (call_max2 rfl) (by rfl) T.max PyProof.Rows.boot_max (qac qe_int (qac (qe_callB call_len_seq (by rfl) T.len PySem.boot_len (qac (qv 4) qa_nil)) qa_nil)))))
      (qss_one (qs_ret (qe_tup (qac (qv 3) (qac (qe_callTy call_tuple_of (by rfl) T.tup (by decide +kernel) (qac (qe_op op_cat (qe_slice sl_list (qv 4) (qo_some (qv 11)) qo_none) (qe_slice sl_list (qv 4) qo_none (qo_some (qv 11)))) qa_nil)) qa_nil))))))))))))), ?_⟩
    refine ⟨_, rfl, _, rfl, a, ns, k, rfl, hS, by omega, fun c1 H1 s1 => ⟨c1, 8, rfl, by decide, fun lx xs H2 hlx s2 hx2 hn hxs => ?_⟩⟩
    have s02 := s1.trans s2
    have g : ∀ i : Nat, i < 8 → ∃ y, atI (xs.map V.int) (i : Int) = some (.int y) ∧ 0 ≤ y ∧ y < 2000000000 := fun i hi => by
      obtain ⟨x, e, m⟩ := at_ok (ns := xs) (i := i) (by omega)
      exact ⟨x, e, hxs x m⟩
    obtain ⟨y0, e0, p0, _⟩ := g 0 (by decide)
    obtain ⟨y1, e1, p1, _⟩ := g 1 (by decide)
    obtain ⟨y2, e2, p2, _⟩ := g 2 (by decide)
    obtain ⟨y3, e3, p3, _⟩ := g 3 (by decide)
    obtain ⟨y4, e4, p4, _⟩ := g 4 (by decide)
    obtain ⟨y5, e5, p5, _⟩ := g 5 (by decide)
    obtain ⟨y6, e6, p6, _⟩ := g 6 (by decide)
    obtain ⟨m, hme, hm1, hm6⟩ : ∃ m : Nat, 1 + y0 % 6 = (m : Int) ∧ 1 ≤ m ∧ m ≤ 6 := ⟨(1 + y0 % 6).toNat, by omega, by omega, by omega⟩
    obtain ⟨cn, hce, hc1, hc4⟩ : ∃ c : Nat, 1 + y1 % 4 = (c : Int) ∧ 1 ≤ c ∧ c ≤ 4 := ⟨(1 + y1 % 4).toNat, by omega, by omega, by omega⟩
    have hpw : (0 : Int) < 1 * 2 ^ (((m : Nat) : Int)).toNat := by
      rw [Int.one_mul]
      exact Int.pow_pos (by decide)
    refine ⟨_, rfl, lx, _, 0, .int y0, rfl, rfl, SqL.of hx2, e0, _, _, rfl, rfl, (by decide : (0 : Int) < 6), _, _, rfl, rfl, ?_⟩
    dsimp only
    rw [hme]
    refine ⟨by show 0 ≤ sizeLine; decide, fun B hB => ?_⟩
    have w3 := same_new (o := .lst []) hB
    have hB3 : upd H2 B (.lst []) B = some (.lst []) := upd_same
    generalize upd H2 B (.lst []) = H3 at w3 hB3 ⊢
    have s03 := s02.trans w3
    have hB0 : H B = none := none_of s02 hB
    have hx3 := w3 _ _ hx2
    have nxB : lx ≠ B := ne_of_none hx2 hB
    refine ⟨_, rfl, lx, _, 1, .int y1, rfl, rfl, SqL.of hx3, e1, _, _, rfl, rfl, (by decide : (0 : Int) < 4), _, _, rfl, rfl, 1 + y1 % 4, rfl, by omega, by omega, ?_⟩
    rw [hce, Int.toNat_natCast]
    refine for_range (lo := 0) (n := cn) (fun i σ H5 => KpB B H3 H5 ∧ ∃ (ws : List V) (bs : List (List Nat)) (x5 x6 x7 x8 x9 : Option V), H5 B = some (.lst ws) ∧ TpAt H5 ws bs ∧ (∀ b ∈ bs, Bls m b) ∧ bs.length ≤ 6 * i ∧ i ≤ bs.length ∧ σ = [some (.ref a), some (.int (k : Int)), some (.ref lx), some (.int ((m : Nat) : Int)), some (.ref B), x5, x6, x7, x8, x9, none, none]) ⟨KpB.refl, [], [], none, none, none, none, none, hB3, trivial, fun b hb => (by cases hb), Nat.zero_le _, Nat.zero_le _, rfl⟩ ?_ ?_
    · rintro i σ H5 hi ⟨kp5, ws, bs, x5, x6, x7, x8, x9, hB5, hT5, hb5, hl5, hg5, rfl⟩
      rw [Int.zero_add]
      have s05 : Same H H5 := (KpB.pre s03 kp5).same hB0
      refine ⟨_, rfl, _, rfl, _, _, rfl, rfl, _, rfl, _, _, rfl, rfl, a, ns, k + 1 + i, rfl, s05.seq hS, by omega, fun c6 H6 s6 => ⟨c6, 12, rfl, by decide, fun ln nr H7 hln s7 hn7 hnl hnr => ?_⟩⟩
      refine ⟨_, rfl, ln, nr, m, rfl, SqL.of hn7, by omega, by omega, fun lr r H8 hlr s8 hlr8 hperm => ?_⟩
      have s58 := s6.trans (s7.trans s8)
      have hrl : r.length = m := by rw [hperm.length_eq, List.length_range]
      have hrn : r.Nodup := hperm.nodup_iff.mpr List.nodup_range
      have hrm : ∀ x ∈ r, x < m := fun x hx => List.mem_range.mp (hperm.mem_iff.mp hx)
      have hx8 := s58 _ _ (kp5 _ _ nxB hx3)
      have hB8 := s58 _ _ hB5
      have hT8 := hT5.sm s58
      refine ⟨_, rfl, lx, _, 2, .int y2, rfl, rfl, SqL.of hx8, e2, _, rfl, _, _, rfl, rfl, by omega, _, rfl, _, _, rfl, rfl, ⟨by omega, by omega, by decide⟩, _, _, rfl, rfl, hpw, ?_⟩
      have hr0 : r[0]? = some (r[0]'(by omega)) := List.getElem?_eq_getElem _
      refine ⟨_, rfl, lr, _, 0, .int ((r[0]'(by omega) : Nat) : Int), rfl, rfl, SqL.of hlr8, atI_nat (j := 0) (nats_at hr0), by show 1 ≤ sizeLine; decide, fun c hc => ?_⟩
      have w9 := same_new (o := .lst [V.int ((r[0]'(by omega) : Nat) : Int)]) hc
      have hc9 : upd H8 c (.lst [V.int ((r[0]'(by omega) : Nat) : Int)]) c = some (.lst (nats [r[0]'(by omega)])) := upd_same
      have kp9 : KpB B H8 (upd H8 c (.lst [V.int ((r[0]'(by omega) : Nat) : Int)])) := KpB.refl.sm w9
      generalize upd H8 c (.lst [V.int ((r[0]'(by omega) : Nat) : Int)]) = H9 at w9 hc9 kp9 ⊢
      have nlB : lr ≠ B := (ne_of_none ((s6.trans s7) _ _ hB5) hlr).symm
      obtain ⟨cu, hcu⟩ : ∃ cu : Int, (fun i j : Int => V.int (i % j)) (y2 / 2 ^ ((i : Nat) : Int).toNat) (1 * 2 ^ ((m : Nat) : Int).toNat) = V.int cu := ⟨_, rfl⟩
      rw [hcu]
      clear hcu
      have e0t : r.take 1 = [r[0]'(by omega)] := by
        have := take_snoc hr0
        simpa using this
      have hbk : ∀ {cur : List Nat} {j : Nat}, cur.Nodup → (∀ x ∈ cur, x ∈ r.take j) → Blk m cur := fun hnd hmem => ⟨hnd, fun x hx => hrm x (List.mem_of_mem_take (hmem x hx))⟩
      refine ⟨_, rfl, 1, ((m : Nat) : Int), rfl, ⟨by omega, by omega, by omega, by omega⟩, ?_⟩
      refine for_range (lo := 1) (n := (((m : Nat) : Int) - 1).toNat) (fun jj σ H10 => KpB B H8 H10 ∧ ∃ (ws : List V) (bs : List (List Nat)) (c : Addr) (cur : List Nat) (x9 : Option V), H10 B = some (.lst ws) ∧ TpAt H10 ws bs ∧ (∀ b ∈ bs, Bls m b) ∧ bs.length ≤ 6 * i + jj ∧ i ≤ bs.length ∧ H8 c = none ∧ H10 c = some (.lst (nats cur)) ∧ cur.Nodup ∧ (∀ x ∈ cur, x ∈ r.take (1 + jj)) ∧ σ = [some (.ref a), some (.int (k : Int)), some (.ref lx), some (.int ((m : Nat) : Int)), some (.ref B), some (.int ((i : Nat) : Int)), some (.ref lr), some (.int cu), some (.ref c), x9, none, none]) ⟨kp9, ws, bs, c, _, _, w9 _ _ hB8, hT8.sm w9, hb5, by omega, hg5, hc, hc9, by simp, fun x hx => by rw [e0t]; exact hx, rfl⟩ ?_ ?_
      · rintro jj σ H10 hjj ⟨kp, ws, bs, c, cur, x9, hB10, hT10, hb10, hl10, hg10, hc0, hc10, hnd, hmem, rfl⟩
        rw [show ((1 : Int) + ((jj : Nat) : Int)) = ((1 + jj : Nat) : Int) by omega]
        have hjm : 1 + jj < m := by omega
        refine ⟨_, rfl, _, rfl, _, _, rfl, rfl, by omega, _, _, rfl, rfl, rfl, _, rfl, ?_⟩
        refine iteV (fun σ' H' => KpB B H8 H' ∧ ∃ (ws : List V) (bs : List (List Nat)) (c : Addr) (cur : List Nat), H' B = some (.lst ws) ∧ TpAt H' ws bs ∧ (∀ b ∈ bs, Bls m b) ∧ bs.length ≤ 6 * i + jj + 1 ∧ i ≤ bs.length ∧ H8 c = none ∧ H' c = some (.lst (nats cur)) ∧ cur.Nodup ∧ (∀ x ∈ cur, x ∈ r.take (1 + jj)) ∧ σ' = [some (.ref a), some (.int (k : Int)), some (.ref lx), some (.int ((m : Nat) : Int)), some (.ref B), some (.int ((i : Nat) : Int)), some (.ref lr), some (.int cu), some (.ref c), some (.int ((1 + jj : Nat) : Int)), none, none]) ?_ (fun _ go => ?_) (fun _ go => go _ _ ⟨kp, ws, bs, c, cur, hB10, hT10, hb10, by omega, hg10, hc0, hc10, hnd, hmem, rfl⟩)
        · rintro σ' H11 ⟨kp, ws, bs, c, cur, hB11, hT11, hb11, hl11, hg11, hc0, hc11, hnd, hmem, rfl⟩
          have hrj : r[1 + jj]? = some (r[1 + jj]'(by omega)) := List.getElem?_eq_getElem _
          have hcl : cur.length ≤ m := (⟨hnd, fun x hx => hrm x (List.mem_of_mem_take (hmem x hx))⟩ : Blk m cur).len
          refine ⟨_, rfl, .inl ⟨rfl, _, SqL.of hc11⟩, _, rfl, _, rfl, lr, _, _, .int ((r[1 + jj]'(by omega) : Nat) : Int), rfl, rfl, SqL.of (kp _ _ nlB hlr8), atI_nat (nats_at hrj), c, _, _, rfl, rfl, hc11, by rw [nats_len]; exact Nat.lt_of_le_of_lt (show cur.length ≤ 6 by omega) (by decide), ?_⟩
          have ncB : c ≠ B := (ne_of_none hB8 hc0).symm
          refine ⟨kp.upF hc0, ws, bs, c, cur ++ [r[1 + jj]'(by omega)], _, by rw [upd_ne ncB.symm]; exact hB11, tp_up hc11 hT11, hb11, by omega, hg11, hc0, by rw [nats_snoc]; exact upd_same, ?_, fun x hx => ?_, rfl⟩
          · refine List.nodup_append.mpr ⟨hnd, by simp, fun x hx y hy z => ?_⟩
            rw [List.mem_singleton.mp hy] at z
            have h1 := hmem x hx
            rw [z] at h1
            exact not_mem_takeN hrn hrj h1
          · rw [show 1 + (jj + 1) = 1 + jj + 1 by omega, take_snoc hrj]
            rcases List.mem_append.mp hx with z | z
            · exact List.mem_append_left _ (hmem x z)
            · exact List.mem_append_right _ z
        · have hbk1 := hbk hnd hmem
          have hcl := hbk1.len
          have hwl := hT10.len
          refine ⟨_, rfl, .inl ⟨rfl, _, SqL.of hB10⟩, _, rfl, c, cur.map fun p => ((p : Nat) : Int), rfl, SqL.of (by rw [← nats_ints]; exact hc10), by rw [List.length_map]; omega, fun l3 ns' hl3 hp' hs' => ?_⟩
          obtain ⟨b', eb, hp2, hs2⟩ := back_nats hp' hs'
          rw [eb]
          have v1 := same_new (o := .lst (nats b')) hl3
          refine ⟨l3, _, rfl, .inl ⟨SqL.of upd_same, fun t ht => ?_⟩⟩
          have v2 := same_new (o := .tup (nats b')) ht
          have ht2 : upd (upd H10 l3 (.lst (nats b'))) t (.tup (nats b')) t = some (.tup (nats b')) := upd_same
          have v12 := v1.trans v2
          generalize upd (upd H10 l3 (.lst (nats b'))) t (.tup (nats b')) = H11 at v12 ht2 ⊢
          refine ⟨B, ws, .ref t, rfl, rfl, v12 _ _ hB10, Nat.lt_of_le_of_lt (show ws.length ≤ 30 by omega) (by decide), ?_⟩
          have hb11 := all_more hb10 (blk_sorted (hbk1.perm hp2) hs2)
          have kp11 : KpB B H8 (upd H11 B (.lst (ws ++ [.ref t]))) := (kp.sm v12).up
          have hT11 : TpAt (upd H11 B (.lst (ws ++ [.ref t]))) (ws ++ [.ref t]) (bs ++ [b']) := (tp_up (v12 _ _ hB10) (hT10.sm v12)).snoc (by rw [upd_ne (fun z => by rw [z, v12 _ _ hB10] at ht2; cases ht2)]; exact ht2)
          have hB11 : upd H11 B (.lst (ws ++ [.ref t])) B = some (.lst (ws ++ [.ref t])) := upd_same
          generalize upd H11 B (.lst (ws ++ [.ref t])) = H12 at hT11 kp11 hB11 ⊢
          refine ⟨by show 0 ≤ sizeLine; decide, fun c' hc' => ?_⟩
          have w13 := same_new (o := .lst []) hc'
          refine go _ _ ⟨kp11.sm w13, _, _, c', [], w13 _ _ hB11, hT11.sm w13, hb11, by rw [List.length_append, List.length_singleton]; omega, by rw [List.length_append]; omega, kp11.free hB11 hc', upd_same, List.nodup_nil, fun x hx => (by cases hx), rfl⟩
      · rintro σ H10 ⟨kp, ws, bs, c, cur, x9, hB10, hT10, hb10, hl10, hg10, hc0, hc10, hnd, hmem, rfl⟩
        have hbk1 := hbk hnd hmem
        have hcl := hbk1.len
        have hwl := hT10.len
        refine ⟨_, rfl, .inl ⟨rfl, _, SqL.of hB10⟩, _, rfl, c, cur.map fun p => ((p : Nat) : Int), rfl, SqL.of (by rw [← nats_ints]; exact hc10), by rw [List.length_map]; omega, fun l3 ns' hl3 hp' hs' => ?_⟩
        obtain ⟨b', eb, hp2, hs2⟩ := back_nats hp' hs'
        rw [eb]
        have v1 := same_new (o := .lst (nats b')) hl3
        refine ⟨l3, _, rfl, .inl ⟨SqL.of upd_same, fun t ht => ?_⟩⟩
        have v2 := same_new (o := .tup (nats b')) ht
        have ht2 : upd (upd H10 l3 (.lst (nats b'))) t (.tup (nats b')) t = some (.tup (nats b')) := upd_same
        have v12 := v1.trans v2
        generalize upd (upd H10 l3 (.lst (nats b'))) t (.tup (nats b')) = H11 at v12 ht2 ⊢
        refine ⟨B, ws, .ref t, rfl, rfl, v12 _ _ hB10, Nat.lt_of_le_of_lt (show ws.length ≤ 30 by omega) (by decide), ?_⟩
        have hb11 := all_more hb10 (blk_sorted (hbk1.perm hp2) hs2)
        have kp11 : KpB B H8 (upd H11 B (.lst (ws ++ [.ref t]))) := (kp.sm v12).up
        have hT11 : TpAt (upd H11 B (.lst (ws ++ [.ref t]))) (ws ++ [.ref t]) (bs ++ [b']) := (tp_up (v12 _ _ hB10) (hT10.sm v12)).snoc (by rw [upd_ne (fun z => by rw [z, v12 _ _ hB10] at ht2; cases ht2)]; exact ht2)
        refine ⟨fun x o n h3 => kp11 x o n (s58 _ _ (kp5 x o n h3)), _, _, _, _, _, _, _, upd_same, hT11, hb11, by rw [List.length_append, List.length_singleton]; omega, by rw [List.length_append, List.length_singleton]; omega, rfl⟩
    rintro σ H5 ⟨kp5, ws, bs, x5, x6, x7, x8, x9, hB5, hT5, hb5, hl5, hg5, rfl⟩
    have s05 : Same H H5 := (KpB.pre s03 kp5).same hB0
    have hx5' := kp5 _ _ nxB hx3
    refine ⟨_, rfl, _, rfl, B, _, rfl, SqL.of hB5, fun B2 hB2 => ?_⟩
    rw [show cutV ws none (some 9) = ws.take 9 from cut_le (k := 9)]
    have w6 := same_new (o := .lst (ws.take 9)) hB2
    have hB6 : upd H5 B2 (.lst (ws.take 9)) B2 = some (.lst (ws.take 9)) := upd_same
    generalize upd H5 B2 (.lst (ws.take 9)) = H6 at w6 hB6 ⊢
    have hT6 := (hT5.take 9).sm w6
    have hb6 : ∀ b ∈ bs.take 9, Bls m b := fun b hb => hb5 b (List.mem_of_mem_take hb)
    have hl6 : (bs.take 9).length ≤ 9 := by rw [List.length_take]; omega
    have hg6 : 1 ≤ (bs.take 9).length := by rw [List.length_take]; omega
    have hx6 := w6 _ _ hx5'
    have s06 := s05.trans w6
    have hB20 : H B2 = none := none_of s05 hB2
    have nx2 : lx ≠ B2 := ne_of_none hx5' hB2
    clear hT5 hB5 kp5 hB2 hl5 hg5 hb5 hB3 w6 hB hx5' s05 nxB hB0
    generalize ws.take 9 = us at hB6 hT6 ⊢
    generalize bs.take 9 = cs at hT6 hb6 hl6 hg6 ⊢
    have hul := hT6.len
    refine ⟨_, rfl, lx, _, 3, .int y3, rfl, rfl, SqL.of hx6, e3, _, _, rfl, rfl, (by decide : (0 : Int) < 3), rfl, _, rfl, ?_⟩
    refine iteV (fun σ' H' => Same H H' ∧ H' lx = some (.lst (xs.map V.int)) ∧ ∃ (us : List V) (cs : List (List Nat)), H' B2 = some (.lst us) ∧ TpAt H' us cs ∧ (∀ b ∈ cs, Bls m b) ∧ cs.length ≤ 9 ∧ (cs.length = 0 → y3 % 3 = 1) ∧ σ' = [some (.ref a), some (.int (k : Int)), some (.ref lx), some (.int ((m : Nat) : Int)), some (.ref B2), x5, x6, x7, x8, x9, none, none]) ?_ (fun h3 go => ?_) (fun _ go => go _ _ ⟨s06, hx6, us, cs, hB6, hT6, hb6, hl6, fun z => by omega, rfl⟩)
    rotate_left
    · have h3 : y3 % 3 = 1 := by
        have := of_decide_eq_true h3
        injection this
      have hm2 := Int.emod_nonneg y4 (show ((us.length : Nat) : Int) ≠ 0 by omega)
      have hm3 := Int.emod_lt_of_pos y4 (show (0 : Int) < ((us.length : Nat) : Int) by omega)
      have hkl : (y4 % ((us.length : Nat) : Int)).toNat < us.length := by omega
      refine ⟨_, rfl, .inl ⟨rfl, _, SqL.of hB6⟩, _, rfl, lx, _, 4, .int y4, rfl, rfl, SqL.of hx6, e4, _, rfl, B2, _, rfl, .inl (SqL.of hB6), _, _, rfl, rfl, by omega, B2, us, _, (y4 % ((us.length : Nat) : Int)).toNat, us[(y4 % ((us.length : Nat) : Int)).toNat], rfl, rfl, hB6, by omega, by omega, PySem.seqIndex_of (by omega) (by omega), List.getElem?_eq_getElem hkl, ?_⟩
      refine go _ _ ⟨same_upd s06 hB20, by rw [upd_ne nx2]; exact hx6, _, cs.eraseIdx (y4 % ((us.length : Nat) : Int)).toNat, upd_same, tp_up hB6 (tp_dropE hT6 _), fun b hb => hb6 b (List.mem_of_mem_eraseIdx hb), Nat.le_trans (List.length_eraseIdx_le ..) hl6, fun _ => h3, rfl⟩
    clear hB6 hT6 hb6 hl6 hg6 hul hx6 s06
    rintro σ H7 ⟨sB, hx7, us, cs, hl7, hT, hb, hl9, hz7, rfl⟩
    dsimp only
    refine seqVia (fun σ' H' => Same H H' ∧ H' lx = some (.lst (xs.map V.int)) ∧ ∃ (us : List V) (cs : List (List Nat)) (x5 x6 x7 x8 x9 x10 : Option V), H' B2 = some (.lst us) ∧ TpAt H' us cs ∧ (∀ b ∈ cs, Bls m b) ∧ cs.length ≤ 9 ∧ σ' = [some (.ref a), some (.int (k : Int)), some (.ref lx), some (.int ((m : Nat) : Int)), some (.ref B2), x5, x6, x7, x8, x9, x10, none]) ?_ (fun D' go => ?_)
    rotate_left
    · refine ⟨_, rfl, lx, _, 3, .int y3, rfl, rfl, SqL.of hx7, e3, _, _, rfl, rfl, (by decide : (0 : Int) < 3), rfl, _, rfl, ?_⟩
      have st : Same H H7 ∧ H7 lx = some (.lst (xs.map V.int)) ∧ ∃ (us : List V) (cs : List (List Nat)) (z5 z6 z7 z8 z9 z10 : Option V), H7 B2 = some (.lst us) ∧ TpAt H7 us cs ∧ (∀ b ∈ cs, Bls m b) ∧ cs.length ≤ 9 ∧ [some (V.ref a), some (.int (k : Int)), some (.ref lx), some (.int ((m : Nat) : Int)), some (.ref B2), x5, x6, x7, x8, x9, none, none] = [some (.ref a), some (.int (k : Int)), some (.ref lx), some (.int ((m : Nat) : Int)), some (.ref B2), z5, z6, z7, z8, z9, z10, none] := ⟨sB, hx7, us, cs, _, _, _, _, _, _, hl7, hT, hb, hl9, rfl⟩
      by_cases hc : V.int (y3 % 3) = V.int 2
      · refine ifT hc ⟨_, rfl, _, _, rfl, rfl, _, rfl, ?_⟩
        refine ite2 (fun hgt => ?_) (fun _ => go _ _ st)
        have hc' : y3 % 3 = 2 := by injection hc
        have hwl : us.length = cs.length := hT.len
        have hlen0 : 0 < us.length := by
          rcases Nat.eq_zero_or_pos cs.length with z | z
          · have := hz7 z; omega
          · omega
        have hm2 := Int.emod_nonneg y4 (show ((us.length : Nat) : Int) ≠ 0 by omega)
        have hm3 := Int.emod_lt_of_pos y4 (show (0 : Int) < ((us.length : Nat) : Int) by omega)
        obtain ⟨jj, hjje, hjjl⟩ : ∃ jj : Nat, y4 % (us.length : Int) = (jj : Int) ∧ jj < us.length := ⟨(y4 % (us.length : Int)).toNat, by omega, by omega⟩
        have hget : us[jj]? = some us[jj] := List.getElem?_eq_getElem hjjl
        obtain ⟨ab, bb, eab, hbs, hab⟩ := hT.get hget
        have hbb : Blk m bb := (hb bb (List.mem_of_getElem? hbs)).blk
        have hbl := hbb.len
        have hpm1 := Int.emod_nonneg y5 (show ((m : Nat) : Int) ≠ 0 by omega)
        have hpm2 := Int.emod_lt_of_pos y5 (show (0 : Int) < ((m : Nat) : Int) by omega)
        obtain ⟨pt, hpte, hptl⟩ : ∃ pt : Nat, y5 % (m : Int) = (pt : Int) ∧ pt < m := ⟨(y5 % (m : Int)).toNat, by omega, by omega⟩
        have hatI : atI us (y4 % (us.length : Int)) = some (.ref ab) := by rw [hjje]; exact atI_nat (hget.trans (congrArg some eab))
        refine ⟨_, rfl, lx, _, 4, .int y4, rfl, rfl, SqL.of hx7, e4, _, rfl, B2, _, rfl, .inl (SqL.of hl7), _, _, rfl, rfl, by omega, ?_⟩
        refine ⟨_, rfl, lx, _, 5, .int y5, rfl, rfl, SqL.of hx7, e5, _, rfl, _, _, rfl, rfl, by show (0 : Int) < (m : Int); omega, ?_⟩
        refine ⟨_, rfl, _, rfl, B2, us, _, .ref ab, rfl, rfl, SqL.of hl7, hatI, ab, rfl, ⟨_, SqT.of hab⟩, comp_tup (K := K) (xs := nats bb) (fun i zs H9 => H9 = H7 ∧ zs = nats ((bb.take i).filter fun x => decide (x ≠ pt))) ⟨rfl, rfl⟩ (fun i zs H9 _ ⟨e, _⟩ => SqT.of (e ▸ hab)) ?_ ?_⟩
        · rintro i v zs H9 N9 hi ⟨rfl, rfl⟩ nx
          obtain ⟨p, hp, rfl⟩ := L2.nats_get hi
          refine ⟨Weak.set (by intro v z; cases z), ⟨_, rfl, _, rfl, rfl, _, rfl, ?_⟩⟩
          have htk : (bb.take (i + 1)).filter (fun x => decide (x ≠ pt)) = (bb.take i).filter (fun x => decide (x ≠ pt)) ++ [p].filter (fun x => decide (x ≠ pt)) := by
            rw [List.take_add_one, hp, Option.toList_some, List.filter_append]
          refine ite2 (fun hne => ⟨_, rfl, ?_, nx _ _ ⟨rfl, ?_⟩⟩) (fun hne => nx _ _ ⟨rfl, ?_⟩)
          · rw [nats_len]
            refine Nat.lt_of_le_of_lt (Nat.le_trans (List.length_filter_le ..) (show _ ≤ 9 from ?_)) (by decide)
            rw [List.length_take]
            omega
          · have hpp : p ≠ pt := fun z => by
              rw [z, ← hpte] at hne
              simp at hne
            rw [htk, List.filter_cons_of_pos (by simpa using hpp), List.filter_nil, nats_snoc]
          · have hpp : p = pt := by
              have : (V.int ((p : Nat) : Int)) = V.int (y5 % (m : Int)) := by simpa using hne
              have e := V.int.inj this
              omega
            rw [htk, List.filter_cons_of_neg (by simpa using hpp), List.filter_nil, List.append_nil]
        rintro zs H9 ⟨rfl, rfl⟩
        have hfl : ((bb.take (nats bb).length).filter fun x => decide (x ≠ pt)) = bb.filter fun x => decide (x ≠ pt) := by rw [nats_len, List.take_length]
        rw [hfl]
        have hfle : (bb.filter fun x => decide (x ≠ pt)).length ≤ 9 := Nat.le_trans (List.length_filter_le ..) (by omega)
        refine ⟨by rw [nats_len]; exact Nat.le_trans hfle (by decide), fun r hr => ?_⟩
        have w2 := same_new (o := .lst (nats (bb.filter fun x => decide (x ≠ pt)))) hr
        refine ⟨_, rfl, by show 1 ≤ sizeLine; decide, fun d2 hd2 => ?_⟩
        have w3 := same_new (o := .lst [V.int (y5 % (m : Int))]) hd2
        have w13 := w2.trans w3
        refine ⟨_, rfl, _, rfl, _, rfl, B2, us, _, .ref ab, rfl, rfl, SqL.of (w13 _ _ hl7), hatI, ab, nats bb, rfl, .inr (SqT.of (w13 _ _ hab)), rfl, by simp [nats, flatV], .inr ⟨_, rfl, ?_⟩⟩
        generalize (if (true : Bool) = true then !inV (V.int (y5 % (m : Int))) (nats bb) else inV (V.int (y5 % (m : Int))) (nats bb)) = kk
        obtain ⟨nn, hnn, hnn1⟩ : ∃ nn : Nat, (if kk = true then (1 : Int) else 0) = (nn : Int) ∧ nn ≤ 1 := by
          cases kk
          · exact ⟨0, rfl, by decide⟩
          · exact ⟨1, rfl, by decide⟩
        refine ⟨d2, [V.int (y5 % (m : Int))], (nn : Int), rfl, congrArg V.int hnn, SqL.of upd_same, by omega, by omega, by rw [List.length_singleton, Int.toNat_natCast]; omega, fun l2 hl2 => ?_⟩
        have erep : (List.replicate (nn : Int).toNat [V.int (y5 % (m : Int))]).flatten = nats (List.replicate nn pt) := by
          rw [Int.toNat_natCast, hpte]
          rcases (show nn = 0 ∨ nn = 1 by omega) with rfl | rfl <;> rfl
        rw [erep]
        have w4 := same_new (o := .lst (nats (List.replicate nn pt))) hl2
        have hbk := edit_blk hbb hptl nn hnn1
        refine ⟨r, l2, _, _, rfl, rfl, (w3.trans w4) _ _ upd_same, upd_same, by rw [nats_len, nats_len, List.length_replicate]; exact Nat.le_trans (show _ ≤ 10 by omega) (by decide), fun c hc' => ?_⟩
        rw [show nats (bb.filter fun x => decide (x ≠ pt)) ++ nats (List.replicate nn pt) = nats (bb.filter (fun x => decide (x ≠ pt)) ++ List.replicate nn pt) by unfold nats; rw [List.map_append]]
        generalize hBB : bb.filter (fun x => decide (x ≠ pt)) ++ List.replicate nn pt = BB at hbk ⊢
        have hBl := hbk.len
        have w5 := same_new (o := .lst (nats BB)) hc'
        refine ⟨_, rfl, c, BB.map fun p => ((p : Nat) : Int), rfl, SqL.of (by rw [← nats_ints]; exact upd_same), by rw [List.length_map]; omega, fun l3 ns' hl3 hp' hs' => ?_⟩
        obtain ⟨b', eb, hp2, hs2⟩ := back_nats hp' hs'
        rw [eb]
        have w6 := same_new (o := .lst (nats b')) hl3
        refine ⟨l3, _, rfl, .inl ⟨SqL.of upd_same, fun t ht => ?_⟩⟩
        have w7 := same_new (o := .tup (nats b')) ht
        have wA := w13.trans (w4.trans (w5.trans (w6.trans w7)))
        have hlA := wA _ _ hl7
        refine ⟨_, rfl, _, rfl, B2, us, _, jj, rfl, rfl, hlA, by rw [hjje]; unfold ixN; rw [if_pos (by omega), if_pos (by omega), Int.toNat_natCast], go _ _ ?_⟩
        refine ⟨same_upd (sB.trans wA) hB20, by rw [upd_ne nx2]; exact wA _ _ hx7, us.set jj (.ref t), cs.set jj b', _, _, _, _, _, _, upd_same, tp_edit (hT.sm wA) hlA upd_same jj, fun b hb' => ?_, by rw [List.length_set]; exact hl9, rfl⟩
        rcases List.mem_or_eq_of_mem_set hb' with z | z
        · exact hb b z
        · rw [z]
          exact blk_sorted (hbk.perm hp2) hs2
      · exact ifF hc (go _ _ st)
    clear hx7 hl7 hT hb sB hl9 hz7
    rintro σ H8 ⟨sB, hx8, us, cs, z5, z6, z7, z8, z9, z10, hl8, hT, hb, hl9, rfl⟩
    have hwl : us.length = cs.length := hT.len
    refine ⟨_, rfl, lx, _, 6, .int y6, rfl, rfl, SqL.of hx8, e6, _, rfl, B2, _, rfl, .inl (SqL.of hl8), _, _, rfl, ?_⟩
    obtain ⟨tn, mx, hmx, hmp, htn, htl⟩ : ∃ (tn mx : Nat), (if ((us.length : Nat) : Int) > 1 then ((us.length : Nat) : Int) else 1) = ((mx : Nat) : Int) ∧ 0 < mx ∧ y6 % ((mx : Nat) : Int) = ((tn : Nat) : Int) ∧ tn ≤ us.length := by
      by_cases h : ((us.length : Nat) : Int) > 1
      · have h1 := Int.emod_nonneg y6 (show ((us.length : Nat) : Int) ≠ 0 by omega)
        have h2 := Int.emod_lt_of_pos y6 (show (0 : Int) < ((us.length : Nat) : Int) by omega)
        exact ⟨(y6 % ((us.length : Nat) : Int)).toNat, us.length, by rw [if_pos h], by omega, by omega, by omega⟩
      · exact ⟨0, 1, by rw [if_neg h]; rfl, by decide, by show y6 % 1 = 0; omega, Nat.zero_le _⟩
    rw [hmx]
    refine ⟨_, _, rfl, rfl, by show (0 : Int) < ((mx : Nat) : Int); omega, ?_⟩
    dsimp only
    rw [htn]
    refine ⟨_, rfl, _, rfl, _, rfl, _, rfl, B2, _, rfl, SqL.of hl8, fun p1 hp1 => ?_⟩
    rw [cut_from htl]
    have w1 := same_new (o := .lst (us.drop tn)) hp1
    refine ⟨_, rfl, _, rfl, _, rfl, B2, _, rfl, SqL.of (w1 _ _ hl8), fun p2 hp2 => ?_⟩
    rw [show cutV us none (some ((tn : Nat) : Int)) = us.take tn from cut_le]
    have w2 := same_new (o := .lst (us.take tn)) hp2
    refine ⟨p1, p2, _, _, rfl, rfl, w2 _ _ upd_same, upd_same, by rw [List.length_drop, List.length_take]; exact Nat.le_trans (show _ ≤ 20 by omega) (by decide), fun c hc => ?_⟩
    have w3 := same_new (o := .lst (us.drop tn ++ us.take tn)) hc
    refine ⟨c, _, rfl, .inl ⟨SqL.of upd_same, fun l hl => ⟨by show 2 ≤ sizeLine; decide, fun t ht => ?_⟩⟩⟩
    have w4 := same_new (o := .tup (us.drop tn ++ us.take tn)) hl
    have w5 := same_new (o := .tup [.int ((m : Nat) : Int), .ref l]) ht
    have wA := w1.trans (w2.trans (w3.trans (w4.trans w5)))
    refine q t l m _ (cs.drop tn ++ cs.take tn) _ (sB.trans wA) upd_same (w5 _ _ upd_same) (((tp_drop hT tn).app (hT.take tn)).sm wA) hm1 hm6 ?_ fun b hb' => ?_
    · rw [List.length_append, List.length_drop, List.length_take]
      omega
    · rcases List.mem_append.mp hb' with z | z
      · exact hb b (List.mem_of_mem_drop z)
      · exact hb b (List.mem_of_mem_take z)
/-! ### no_classes: a tree, any data, held against a layout -/
mutual
def DtD (H : Hp) : PyData → V → Prop
  | .none, v => v = .non
  | .bool b, v => v = .bl b
  | .int i, v => v = .int i
  | .str x, v => v = .str x
  | .list ds, v => ∃ a xs, v = .ref a ∧ H a = some (.lst xs) ∧ DtDs H ds xs
  | .tuple ds, v => ∃ a xs, v = .ref a ∧ H a = some (.tup xs) ∧ DtDs H ds xs
  | .dict _, _ => False
def DtDs (H : Hp) : List PyData → List V → Prop
  | [], xs => xs = []
  | d :: ds, xs => ∃ x r, xs = x :: r ∧ DtD H d x ∧ DtDs H ds r
end
mutual
theorem DtD.same {H H' : Hp} (s : Same H H') : ∀ (d : PyData) {v : V}, DtD H d v → DtD H' d v
  | .none, v, h => by simp only [DtD] at h ⊢; exact h
  | .bool _, v, h => by simp only [DtD] at h ⊢; exact h
  | .int i, v, h => by simp only [DtD] at h ⊢; exact h
  | .str _, v, h => by simp only [DtD] at h ⊢; exact h
  | .tuple ds, v, h => by
    simp only [DtD] at h ⊢
    obtain ⟨a, xs, e, hs, hd⟩ := h
    exact ⟨a, xs, e, s _ _ hs, DtDs.same s ds hd⟩
  | .list ds, v, h => by
    simp only [DtD] at h ⊢
    obtain ⟨a, xs, e, hs, hd⟩ := h
    exact ⟨a, xs, e, s _ _ hs, DtDs.same s ds hd⟩
  | .dict _, v, h => by simp only [DtD] at h
theorem DtDs.same {H H' : Hp} (s : Same H H') : ∀ (ds : List PyData) {vs : List V}, DtDs H ds vs → DtDs H' ds vs
  | [], vs, h => by simp only [DtDs] at h ⊢; exact h
  | d :: ds, vs, h => by
    simp only [DtDs] at h ⊢
    obtain ⟨x, r, e, hx, hr⟩ := h
    exact ⟨x, r, e, DtD.same s d hx, DtDs.same s ds hr⟩
end
mutual
theorem TrD.dt {H : Hp} : ∀ (d : PyData) {v : V}, TrD H d v → DtD H d v
  | .none, v, h => by simp only [TrD] at h; simp only [DtD]; exact h
  | .int i, v, h => by simp only [TrD] at h; simp only [DtD]; exact h
  | .tuple ds, v, h => by
    simp only [TrD] at h
    simp only [DtD]
    obtain ⟨a, xs, e, hs, hd⟩ := h
    exact ⟨a, xs, e, hs, TrDs.dts ds hd⟩
  | .bool _, v, h => by simp only [TrD] at h
  | .str _, v, h => by simp only [TrD] at h
  | .list _, v, h => by simp only [TrD] at h
  | .dict _, v, h => by simp only [TrD] at h
theorem TrDs.dts {H : Hp} : ∀ (ds : List PyData) {vs : List V}, TrDs H ds vs → DtDs H ds vs
  | [], vs, h => by simp only [TrDs] at h; simp only [DtDs]; exact h
  | d :: ds, vs, h => by
    simp only [TrDs] at h
    simp only [DtDs]
    obtain ⟨x, r, e, hx, hr⟩ := h
    exact ⟨x, r, e, TrD.dt d hx, TrDs.dts ds hr⟩
end
theorem DtDs.len {H : Hp} : ∀ {ds : List PyData} {vs : List V}, DtDs H ds vs → vs.length = ds.length
  | [], vs, hs => by simp only [DtDs] at hs; subst hs; rfl
  | e :: ds, vs, hs => by
    simp only [DtDs] at hs
    obtain ⟨x, r, rfl, _, hr⟩ := hs
    rw [List.length_cons, List.length_cons, DtDs.len hr]
theorem DtDs.get {H : Hp} : ∀ {ds : List PyData} {vs : List V} {i : Nat} {v : V}, DtDs H ds vs → vs[i]? = some v → ∃ d, ds[i]? = some d ∧ DtD H d v
  | [], vs, i, v, hs, hi => by simp only [DtDs] at hs; subst hs; simp at hi
  | e :: ds, vs, 0, v, hs, hi => by
    simp only [DtDs] at hs
    obtain ⟨x, r, rfl, hx, hr⟩ := hs
    simp only [List.getElem?_cons_zero, Option.some.injEq] at hi
    subst hi
    exact ⟨e, rfl, hx⟩
  | e :: ds, vs, i + 1, v, hs, hi => by
    simp only [DtDs] at hs
    obtain ⟨x, r, rfl, hx, hr⟩ := hs
    rw [List.getElem?_cons_succ] at hi
    obtain ⟨d, hd, hv⟩ := DtDs.get hr hi
    exact ⟨d, by rw [List.getElem?_cons_succ]; exact hd, hv⟩
def isTupN : PyData → Nat → Bool
  | .tuple ds, n => decide (ds.length = n)
  | _, _ => false
def isJustD : PyData → Int → Bool
  | .int i, p => decide (i = p)
  | _, _ => false
def kidsD : PyData → List PyData
  | .tuple ds => ds
  | _ => []
theorem kit_non_tup (K : PySem.W.Frag) : PySem.W.kitOne K (.type "NoneType") (.type "tuple") = some false := by kernel_rfl
theorem kit_bool_tup (K : PySem.W.Frag) : PySem.W.kitOne K (.type "bool") (.type "tuple") = some false := by kernel_rfl
theorem kit_int_tup (K : PySem.W.Frag) : PySem.W.kitOne K (.type "int") (.type "tuple") = some false := by kernel_rfl
theorem kit_str_tup (K : PySem.W.Frag) : PySem.W.kitOne K (.type "str") (.type "tuple") = some false := by kernel_rfl
theorem kit_list_tup (K : PySem.W.Frag) : PySem.W.kitOne K (.type "list") (.type "tuple") = some false := by kernel_rfl
theorem dt_tup {K : PySem.W.Frag} {H : Hp} : ∀ (d : PyData) {v : V}, DtD H d v → (∃ T, TyOf K H v (.type T) ∧ PySem.W.kitOne K (.type T) (.type "tuple") = some false ∧ ∀ n, isTupN d n = false) ∨ ∃ a xs ds, v = .ref a ∧ H a = some (.tup xs) ∧ d = .tuple ds ∧ DtDs H ds xs
  | .none, v, h => by simp only [DtD] at h; subst h; exact .inl ⟨_, .non, kit_non_tup K, fun _ => rfl⟩
  | .bool b, v, h => by simp only [DtD] at h; subst h; exact .inl ⟨_, .bl b, kit_bool_tup K, fun _ => rfl⟩
  | .int i, v, h => by simp only [DtD] at h; subst h; exact .inl ⟨_, .int i, kit_int_tup K, fun _ => rfl⟩
  | .str x, v, h => by simp only [DtD] at h; subst h; exact .inl ⟨_, .str x, kit_str_tup K, fun _ => rfl⟩
  | .list ds, v, h => by
    simp only [DtD] at h
    obtain ⟨a, xs, rfl, ha, _⟩ := h
    exact .inl ⟨_, .lst ha, kit_list_tup K, fun _ => rfl⟩
  | .tuple ds, v, h => by
    simp only [DtD] at h
    obtain ⟨a, xs, rfl, ha, hd⟩ := h
    exact .inr ⟨a, xs, ds, rfl, ha, rfl, hd⟩
  | .dict _, v, h => by simp only [DtD] at h
def spIsTup : Sp := fun vs H Q _ => ∃ (v : V) (n : Nat) (d : PyData), vs = [v, .int ((n : Nat) : Int)] ∧ DtD H d v ∧ Q (.bl (isTupN d n)) H
theorem scIsTupleOf : FnScope ["thing", "many"] ["thing", "many"] (defScope sIsTupleOf) := ⟨rfl, rfl, rfl, by decide +kernel, rfl, by decide +kernel, by decide +kernel⟩
theorem ok_isTup {f : Addr} {fd : FuncData} (F : Fun K "is_tuple_of" "is_tuple_of" sIsTupleOf f fd) (T : TxtB mg) : FnOk P w K mg base CX0 1 f fd ["thing", "many"] spIsTup := by
  refine F.okQ scIsTupleOf (fun vs H Q E h => ?_) (fun cdv A outer s H vs Q E hr h => ?_)
  · obtain ⟨v, n, d, rfl, _⟩ := h
    rfl
  · obtain ⟨v, n, d, rfl, hd, q⟩ := h
    refine ⟨_, (qss_one (qs_ret (qe_and (qe_callB call_isinst (by rfl) T.isi PyProof.Rows.boot_isinstance (qac (qv 0) (qac (qe_bltn (v := .ty "tuple") rfl T.tup (by decide +kernel) rfl) qa_nil))) (qe_one (qe_cmpR op_eq (qe_callB call_len_seq (by rfl) T.len PySem.boot_len (qac (qv 0) qa_nil)) (qv 1) (nomark _)))))), ?_⟩
    rcases dt_tup (K := K) d hd with ⟨ty, h1, h2, h3⟩ | ⟨a, xs, ds, rfl, ha, rfl, hds⟩
    · rw [h3] at q
      exact ⟨_, rfl, _, _, _, _, rfl, h1, rel_ty h2, false, rfl, iteF q⟩
    · refine ⟨_, rfl, _, _, _, _, rfl, .tup ha, rel_ty (kit_tup_tup K), true, rfl, iteT ⟨_, rfl, a, xs, rfl, .inr (SqT.of ha), _, rfl, rfl, ?_⟩⟩
      have e : decide (V.int ((xs.length : Nat) : Int) = V.int ((n : Nat) : Int)) = decide (ds.length = n) := by
        rw [hds.len]
        refine decide_eq_decide.mpr ⟨fun z => by injection z with z; omega, fun z => by rw [z]⟩
      first
        | (rw [e]; exact q)
        | skip
def spJust : Sp := fun vs H Q _ => ∃ (v : V) (n : Nat) (d : PyData), vs = [v, .int ((n : Nat) : Int)] ∧ DtD H d v ∧ Q (.bl (isJustD d ((n : Nat) : Int))) H
theorem kit_non_int' (K : PySem.W.Frag) : PySem.W.kitOne K (.type "NoneType") (.type "int") = some false := by kernel_rfl
theorem kit_str_int' (K : PySem.W.Frag) : PySem.W.kitOne K (.type "str") (.type "int") = some false := by kernel_rfl
theorem kit_list_int' (K : PySem.W.Frag) : PySem.W.kitOne K (.type "list") (.type "int") = some false := by kernel_rfl
theorem kit_tup_int' (K : PySem.W.Frag) : PySem.W.kitOne K (.type "tuple") (.type "int") = some false := by kernel_rfl
theorem dt_whole {K : PySem.W.Frag} {H : Hp} : ∀ (d : PyData) {v : V}, DtD H d v → (∃ i, d = .int i ∧ v = .int i ∧ WholeIs K H v true) ∨ (WholeIs K H v false ∧ ∀ p, isJustD d p = false)
  | .none, v, h => by simp only [DtD] at h; subst h; exact .inr ⟨.odd .non (kit_non_int' K), fun _ => rfl⟩
  | .bool b, v, h => by simp only [DtD] at h; subst h; exact .inr ⟨.bl b, fun _ => rfl⟩
  | .int i, v, h => by simp only [DtD] at h; subst h; exact .inl ⟨i, rfl, rfl, .int i⟩
  | .str x, v, h => by simp only [DtD] at h; subst h; exact .inr ⟨.odd (.str x) (kit_str_int' K), fun _ => rfl⟩
  | .list ds, v, h => by
    simp only [DtD] at h
    obtain ⟨a, xs, rfl, ha, _⟩ := h
    exact .inr ⟨.odd (.lst ha) (kit_list_int' K), fun _ => rfl⟩
  | .tuple ds, v, h => by
    simp only [DtD] at h
    obtain ⟨a, xs, rfl, ha, hd⟩ := h
    exact .inr ⟨.odd (.tup ha) (kit_tup_int' K), fun _ => rfl⟩
  | .dict _, v, h => by simp only [DtD] at h
theorem scIsJust : FnScope ["thing", "number"] ["thing", "number"] (defScope sIsJust) := ⟨rfl, rfl, rfl, by decide +kernel, rfl, by decide +kernel, by decide +kernel⟩
theorem ok_just {f : Addr} {fd : FuncData} (F : Fun K "is_just" "is_just" sIsJust f fd) (pWhole : Pm P w K mg base CX0 1 "is_whole" ["thing"] (spWhole K)) : FnOk P w K mg base CX0 2 f fd ["thing", "number"] spJust := by
  refine F.okQ scIsJust (fun vs H Q E h => ?_) (fun cdv A outer s H vs Q E hr h => ?_)
  · obtain ⟨v, n, d, rfl, _⟩ := h
    rfl
  · obtain ⟨v, n, d, rfl, hd, q⟩ := h
    refine ⟨_, (qss_one (qs_ret (qe_and (qe_callP pWhole hr rfl pass0 (qac (qv 0) qa_nil)) (qe_one (qe_cmpR op_eq (qv 0) (qv 1) (nomark _)))))), ?_⟩
    rcases dt_whole (K := K) d hd with ⟨i, rfl, rfl, hw⟩ | ⟨hw, hj⟩
    · refine ⟨_, rfl, _, _, rfl, hw, true, rfl, iteT ⟨_, rfl, _, rfl, rfl, ?_⟩⟩
      have e : decide (V.int i = V.int ((n : Nat) : Int)) = decide (i = ((n : Nat) : Int)) := decide_eq_decide.mpr ⟨fun z => by injection z, fun z => by rw [z]⟩
      rw [e]
      exact q
    · rw [hj] at q
      exact ⟨_, rfl, _, _, rfl, hw, false, rfl, iteF q⟩
def shB (g : List (List Nat) → PyData → Bool) (rows : List (List Nat)) (k : Nat) : PyData → Bool
  | .tuple [dk, d] => isJustD dk ((k : Nat) : Int) && g (withB rows k) d
  | _ => false
def shL (g : List (List Nat) → PyData → Bool) (rows : List (List Nat)) : List Nat → List PyData → Bool
  | k :: ks, d :: ds => shB g rows k d && shL g rows ks ds
  | _, _ => true
/-- whether the tree is one that shuts: gone through as the program does -/
def shN (g : List (List Nat) → PyData → Bool) (rows : List (List Nat)) (p : Int) (fit : List Nat) : PyData → Bool
  | .tuple [dp, d1] => isJustD dp p && (isTupN d1 fit.length && shL g rows fit (kidsD d1))
  | _ => false
def shF (m : Nat) (bs : List (List Nat)) : Nat → List (List Nat) → PyData → Bool
  | 0, _, _ => false
  | n + 1, rows, d => match missV m bs (begR m bs rows) with
    | .int p => shN (shF m bs n) (begR m bs rows) p (fitB m bs (begR m bs rows) p.toNat) d
    | _ => false
theorem tup2 : ∀ {d : PyData}, isTupN d 2 = true → ∃ x y, d = .tuple [x, y]
  | .tuple [x, y], _ => ⟨x, y, rfl⟩
  | .tuple [], h => by simp [isTupN] at h
  | .tuple [_], h => by simp [isTupN] at h
  | .tuple (_ :: _ :: _ :: _), h => by simp [isTupN] at h
theorem shB_no {g : List (List Nat) → PyData → Bool} {rows : List (List Nat)} {k : Nat} : ∀ {d : PyData}, isTupN d 2 = false → shB g rows k d = false
  | .tuple [x, y], h => by simp [isTupN] at h
  | .tuple [], _ => rfl
  | .tuple [_], _ => rfl
  | .tuple (_ :: _ :: _ :: _), _ => rfl
  | .none, _ => rfl
  | .bool _, _ => rfl
  | .int _, _ => rfl
  | .str _, _ => rfl
  | .list _, _ => rfl
  | .dict _, _ => rfl
theorem shN_no {g : List (List Nat) → PyData → Bool} {rows : List (List Nat)} {p : Int} {fit : List Nat} : ∀ {d : PyData}, isTupN d 2 = false → shN g rows p fit d = false
  | .tuple [x, y], h => by simp [isTupN] at h
  | .tuple [], _ => rfl
  | .tuple [_], _ => rfl
  | .tuple (_ :: _ :: _ :: _), _ => rfl
  | .none, _ => rfl
  | .bool _, _ => rfl
  | .int _, _ => rfl
  | .str _, _ => rfl
  | .list _, _ => rfl
  | .dict _, _ => rfl
theorem dt_two {H : Hp} {x y : PyData} {v : V} (h : DtD H (.tuple [x, y]) v) : ∃ a u z, v = .ref a ∧ H a = some (.tup [u, z]) ∧ DtD H x u ∧ DtD H y z := by
  simp only [DtD, DtDs] at h
  obtain ⟨a, xs, rfl, ha, u, r, rfl, hu, z, r', rfl, hz, rfl⟩ := h
  exact ⟨a, u, z, rfl, ha, hu, hz⟩
def spShAll (n : Nat) : Sp := fun vs H Q _ => ∃ (t a : Addr) (v : V) (d : PyData) (m : Nat) (bs rows : List (List Nat)) (ws : List V), vs = [.ref t, .ref a, v] ∧ LayA H t m bs ∧ m ≤ 60 ∧ (∀ b ∈ bs, Blk m b) ∧ bs.length ≤ 60 ∧ H a = some (.lst ws) ∧ BlAt H ws rows ∧ RO bs.length rows ∧ bs.length < n + rows.flatten.length ∧ DtD H d v ∧
  ∀ H' : Hp, Same H H' → Q (.bl (shF m bs n rows d)) H'
def spShBlk (n : Nat) : Sp := fun vs H Q _ => ∃ (t a : Addr) (v : V) (k : Nat) (d : PyData) (m : Nat) (bs rows : List (List Nat)) (ws : List V), vs = [.ref t, .ref a, .int ((k : Nat) : Int), v] ∧ LayA H t m bs ∧ m ≤ 60 ∧ (∀ b ∈ bs, Blk m b) ∧ bs.length ≤ 60 ∧ H a = some (.lst ws) ∧ BlAt H ws rows ∧ RO bs.length rows ∧ rows ≠ [] ∧ k < bs.length ∧ k ∉ rows.flatten ∧ bs.length < n + 1 + rows.flatten.length ∧ DtD H d v ∧
  ∀ H' : Hp, Same H H' → Q (.bl (shB (shF m bs n) rows k d)) H'
theorem scShutsBlock : FnScope ["M", "rows", "block", "son"] ["M", "rows", "block", "son"] (defScope sShutsBlock) := ⟨rfl, rfl, rfl, by decide +kernel, rfl, by decide +kernel, by decide +kernel⟩
theorem ok_shBlk {f : Addr} {fd : FuncData} (F : Fun K "shuts_block" "shuts_block" sShutsBlock f fd) (pT : Pm P w K mg base CX0 1 "is_tuple_of" ["thing", "many"] spIsTup) (pJ : Pm P w K mg base CX0 2 "is_just" ["thing", "number"] spJust) (pWith : Pm P w K mg base CX0 1 "with_block" ["rows", "block"] spWithB) (n : Nat) (pA : Pm P w K mg base CX0 (2 * n + 4) "shuts_all" ["M", "rows", "tree"] (spShAll n)) : FnOk P w K mg base CX0 (2 * n + 5) f fd ["M", "rows", "block", "son"] (spShBlk n) := by
  refine F.okQ scShutsBlock (fun vs H Q E h => ?_) (fun cdv A outer s H vs Q E hr h => ?_)
  · obtain ⟨t, a, v, k, d, m, bs, rows, ws, rfl, _⟩ := h
    rfl
  · obtain ⟨t, a, v, k, d, m, bs, rows, ws, rfl, hL, hm, hb, hn, ha, hB, hO, hne, hk, hkn, hlt, hd, q⟩ := h
    have hr1 := hr.mono (show 1 ≤ 2 * n + 4 by omega)
    have hr2 := hr.mono (show 2 ≤ 2 * n + 4 by omega)
    refine ⟨_, (qss_one (qs_ret (qe_and (qe_callP pT hr1 rfl pass0 (qac (qv 3) (qac qe_int qa_nil))) (qe_and (qe_callP pJ hr2 rfl pass0 (qac (qe_ix ix_tup (qv 3) qe_int (fun _ _ => rfl)) (qac (qv 2) qa_nil))) (qe_one (qe_callP pA hr rfl pass0 (qac (qv 0) (qac (qe_callP pWith hr1 rfl pass0 (qac (qv 1) (qac (qv 2) qa_nil))) (qac (qe_ix ix_tup (qv 3) qe_int (fun _ _ => rfl)) qa_nil))))))))), ?_⟩
    refine ⟨_, rfl, v, 2, d, rfl, hd, _, rfl, ?_⟩
    by_cases h2 : isTupN d 2 = true
    · obtain ⟨x, y, rfl⟩ := tup2 h2
      obtain ⟨p, u, z, rfl, hp, hu, hz⟩ := dt_two hd
      rw [h2]
      refine iteT ⟨_, rfl, p, _, 0, u, rfl, rfl, SqT.of hp, rfl, _, rfl, u, k, x, rfl, hu, _, rfl, ?_⟩
      have es : shB (shF m bs n) rows k (.tuple [x, y]) = (isJustD x ((k : Nat) : Int) && shF m bs n (withB rows k) y) := rfl
      rw [es] at q
      by_cases hj : isJustD x ((k : Nat) : Int) = true
      · rw [hj, Bool.true_and] at q
        rw [hj]
        refine iteT ⟨_, rfl, _, rfl, _, rfl, a, ws, rows, k, rfl, ha, hB, hne, Nat.le_trans hO.len hn, fun r hr => Nat.le_trans (hO.row hr) hn, fun l2 us2 H1 s1 hl1 hB1 => ?_⟩
        refine ⟨_, rfl, p, _, 1, z, rfl, rfl, SqT.of (s1 _ _ hp), rfl, t, l2, z, y, m, bs, withB rows k, us2, rfl, hL.sm s1, hm, hb, hn, hl1, hB1, hO.withB hne hk hkn, ?_, DtD.same s1 y hz, fun H2 s2 => q H2 (s1.trans s2)⟩
        rw [withB_flat hne, List.length_append, List.length_singleton]
        omega
      · rw [Bool.not_eq_true] at hj
        rw [hj, Bool.false_and] at q
        rw [hj]
        exact iteF (q H (Same.refl _))
    · rw [Bool.not_eq_true] at h2
      rw [shB_no h2] at q
      rw [h2]
      exact iteF (q H (Same.refl _))
theorem shL_step {g : List (List Nat) → PyData → Bool} {rows : List (List Nat)} : ∀ {ks : List Nat} {ds : List PyData} {i k : Nat} {d : PyData}, ks[i]? = some k → ds[i]? = some d → shL g rows (ks.drop i) (ds.drop i) = (shB g rows k d && shL g rows (ks.drop (i + 1)) (ds.drop (i + 1))) := fun {ks ds i k d} hk hd => by
  have h1 := (List.getElem?_eq_some_iff.mp hk).1
  have h2 := (List.getElem?_eq_some_iff.mp hd).1
  rw [List.drop_eq_getElem_cons h1, List.drop_eq_getElem_cons h2]
  rw [List.getElem?_eq_getElem h1] at hk
  rw [List.getElem?_eq_getElem h2] at hd
  cases hk
  cases hd
  rfl
theorem scShutsAll : FnScope ["M", "rows", "tree", "built", "point", "blocks", "block", "son"] ["M", "rows", "tree"] (defScope sShutsAll) := ⟨rfl, rfl, rfl, by decide +kernel, rfl, by decide +kernel, by decide +kernel⟩
theorem ok_shAll {f g : Addr} {fd gd : FuncData} (F : Fun K "shuts_all" "shuts_all" sShutsAll f fd) (G : Fun K "shuts_block" "shuts_block" sShutsBlock g gd) (T : TxtB mg) (mF : mg "shuts_all" = some (.ref f)) (bF : Binds K fd ["M", "rows", "tree"] []) (mG : mg "shuts_block" = some (.ref g)) (bG : Binds K gd ["M", "rows", "block", "son"] []) (pT : Pm P w K mg base CX0 1 "is_tuple_of" ["thing", "many"] spIsTup) (pJ : Pm P w K mg base CX0 2 "is_just" ["thing", "number"] spJust) (pBegun : Pm P w K mg base CX0 3 "begun" ["M", "rows"] spBegun) (pMiss : Pm P w K mg base CX0 2 "missing_point" ["M", "rows"] spMiss) (pFit : Pm P w K mg base CX0 2 "fitting_blocks" ["M", "rows", "point"] spFit) (pWith : Pm P w K mg base CX0 1 "with_block" ["rows", "block"] spWithB) : ∀ n, FnOk P w K mg base CX0 (2 * n + 4) f fd ["M", "rows", "tree"] (spShAll n) := by
  intro n
  induction n with
  | zero =>
    refine F.okQ scShutsAll (fun vs H Q E h => ?_) (fun cdv A outer s H vs Q E hr h => ?_)
    · obtain ⟨t, a, v, d, m, bs, rows, ws, rfl, _⟩ := h
      rfl
    · obtain ⟨t, a, v, d, m, bs, rows, ws, rfl, hL, hm, hb, hn, ha, hB, hO, hlt, _⟩ := h
      have := hO.blk.len
      omega
  | succ n ih =>
    have pA : Pm P w K mg base CX0 (2 * n + 4) "shuts_all" ["M", "rows", "tree"] (spShAll n) := ⟨f, fd, mF, F.kp, bF, ih⟩
    have pB : Pm P w K mg base CX0 (2 * n + 5) "shuts_block" ["M", "rows", "block", "son"] (spShBlk n) := ⟨g, gd, mG, G.kp, bG, ok_shBlk G pT pJ pWith n pA⟩
    refine F.okQ scShutsAll (fun vs H Q E h => ?_) (fun cdv A outer s H vs Q E hr h => ?_)
    · obtain ⟨t, a, v, d, m, bs, rows, ws, rfl, _⟩ := h
      rfl
    · obtain ⟨t, a, v, d, m, bs, rows, ws, rfl, hL, hm, hb, hn, ha, hB, hO, hlt, hd, q⟩ := h
      have hr1 := hr.mono (show 1 ≤ 2 * n + 5 by omega)
      have hr2 := hr.mono (show 2 ≤ 2 * n + 5 by omega)
      have hr3 := hr.mono (show 3 ≤ 2 * n + 5 by omega)
      refine ⟨_, (qss_cons (qs_set (i := 3) scShutsAll.nd rfl (Or.inl rfl) (qe_callP pBegun hr3 rfl pass0 (qac (qv 0) (qac (qv 1) qa_nil))))
        (qss_cons (qs_set (i := 4) scShutsAll.nd rfl (Or.inl rfl) (qe_callP pMiss hr2 rfl pass0 (qac (qv 0) (qac (qv 3) qa_nil))))
        (qss_cons (qs_if (QW.pt (qw_or (qt_isN (qv 4)) (qw_or (qt_not (qt_val (qe_callP pT hr1 rfl pass0 (qac (qv 2) (qac qe_int qa_nil))))) (qw_or1 (qt_not (qt_val (qe_callP pJ hr2 rfl pass0 (qac (qe_ix ix_tup (qv 2) qe_int (fun _ _ => rfl)) (qac (qv 4) qa_nil))))))))) (qss_one (qs_ret qe_bl)) qss_nil)
        (qss_cons (qs_set (i := 5) scShutsAll.nd rfl (Or.inl rfl) (qe_callP pFit hr2 rfl pass0 (qac (qv 0) (qac (qv 3) (qac (qv 4) qa_nil)))))
        (qss_cons (qs_if (qt_not (qt_val (qe_callP pT hr1 rfl pass0 (qac (qe_ix ix_tup (qv 2) qe_int (fun _ _ => rfl)) (qac (qe_callB call_len_seq (by rfl) T.len PySem.boot_len (qac (qv 5) qa_nil)) qa_nil))))) (qss_one (qs_ret qe_bl)) qss_nil)
        (qss_cons (qs_for PassesOwn.never rfl (qi_zipLT (by rfl) T.zip (qac (qv 5) (qac (qe_ix ix_tup (qv 2) qe_int (fun _ _ => rfl)) qa_nil))) (qg_tup rfl (qgs_cons (qg_name (i := 6) scShutsAll.nd rfl (Or.inl rfl)) (qgs_cons (qg_name (i := 7) scShutsAll.nd rfl (Or.inl rfl)) qgs_nil)))
          (qss_one (qs_if (qt_not (qt_val (qe_callP pB hr rfl pass0 (qac (qv 0) (qac (qv 3) (qac (qv 6) (qac (qv 7) qa_nil))))))) (qss_one (qs_ret qe_bl)) qss_nil)))
        (qss_one (qs_ret qe_bl)))))))), ?_⟩
      refine ⟨_, rfl, _, rfl, t, a, m, bs, rows, ws, rfl, hL, hm, hb, hn, ha, hB, hO, fun bl us H1 hbl s1 hl1 hB1 => ?_⟩
      have hO1 := begR_ok (m := m) hO
      refine ⟨_, rfl, _, rfl, t, bl, m, bs, _, us, rfl, hL.sm s1, hm, hb, ⟨hl1, hB1, hO1.lt⟩, fun r hr => Nat.le_trans (hO1.row hr) hn, fun H2 s2 => ⟨_, rfl, _, rfl, ?_⟩⟩
      have s12 := s1.trans s2
      have hl2 := s2 _ _ hl1
      have hB2 := hB1.same s2
      have eshF : shF m bs (n + 1) rows d = match missV m bs (begR m bs rows) with
        | .int p => shN (shF m bs n) (begR m bs rows) p (fitB m bs (begR m bs rows) p.toNat) d
        | _ => false := rfl
      rw [eshF] at q
      have hbfl : rows.flatten.length ≤ (begR m bs rows).flatten.length := begL_len _ _
      generalize begR m bs rows = built at hB1 hO1 hB2 hbfl q ⊢
      rcases miss_cases m bs built with ⟨hmv, _⟩ | ⟨p, rs, row, hmv, hbr, hpm, hpn, _⟩
      · rw [hmv] at q ⊢
        rw [decide_eq_true rfl]
        exact iteT (iteT (q H2 s12))
      · rw [hmv] at q ⊢
        rw [decide_eq_false (show ¬ V.int ((p : Nat) : Int) = V.non from fun z => by cases z)]
        have hgo := Int.toNat_natCast p
        simp only [hgo] at q
        refine iteF ⟨_, rfl, v, 2, d, rfl, DtD.same s12 d hd, _, rfl, ?_⟩
        by_cases h2 : isTupN d 2 = true
        · obtain ⟨x, y, rfl⟩ := tup2 h2
          obtain ⟨pa, u, z, rfl, hp, hu, hz⟩ := dt_two hd
          rw [h2]
          refine iteF ⟨_, rfl, pa, _, 0, u, rfl, rfl, SqT.of (s12 _ _ hp), rfl, _, rfl, u, p, x, rfl, DtD.same s12 x hu, _, rfl, ?_⟩
          have es : shN (shF m bs n) built ((p : Nat) : Int) (fitB m bs built p) (.tuple [x, y]) = (isJustD x ((p : Nat) : Int) && (isTupN y (fitB m bs built p).length && shL (shF m bs n) built (fitB m bs built p) (kidsD y))) := rfl
          rw [es] at q
          by_cases hj : isJustD x ((p : Nat) : Int) = true
          · rw [hj, Bool.true_and] at q
            rw [hj]
            have hne : built ≠ [] := fun z => by rw [z] at hbr; simp at hbr
            refine iteF ⟨_, rfl, _, rfl, _, rfl, t, bl, m, p, bs, built, us, rfl, hL.sm s12, hm, hb, hn, hl2, hB2, hO1, hne, fun fa H3 hg s3 hg3 => ?_⟩
            have s13 := s12.trans s3
            have hfl : (nats (fitB m bs built p)).length = (fitB m bs built p).length := nats_len _
            refine ⟨_, rfl, pa, _, 1, z, rfl, rfl, SqT.of (s13 _ _ hp), rfl, _, rfl, fa, _, rfl, .inl (SqL.of hg3), z, (fitB m bs built p).length, y, ?_, DtD.same s13 y hz, _, rfl, ?_⟩
            · rw [hfl]
              rfl
            by_cases h3 : isTupN y (fitB m bs built p).length = true
            · rw [h3, Bool.true_and] at q
              rw [h3]
              rcases dt_tup (K := K) y hz with ⟨ty, _, _, h4⟩ | ⟨ya, ys, ds, rfl, hya, rfl, hds⟩
              · rw [h4] at h3
                cases h3
              have hdl : ds.length = (fitB m bs built p).length := of_decide_eq_true h3
              refine iteF ⟨_, rfl, _, rfl, pa, _, 1, .ref ya, rfl, rfl, SqT.of (s13 _ _ hp), rfl, fa, ya, rfl, ⟨_, SqL.of hg3⟩, ⟨_, SqT.of (s13 _ _ hya)⟩, ?_⟩
              refine for_zipLT (K := K) (a := fa) (b := ya) (xs := nats (fitB m bs built p)) (ys := ys) (by rw [hfl, hds.len, hdl]) (fun i σ H4 => Same H3 H4 ∧ shL (shF m bs n) built (fitB m bs built p) ds = shL (shF m bs n) built ((fitB m bs built p).drop i) (ds.drop i) ∧ ∃ x6 x7, σ = [some (.ref t), some (.ref a), some (.ref pa), some (.ref bl), some (.int ((p : Nat) : Int)), some (.ref fa), x6, x7]) ⟨Same.refl _, rfl, none, none, rfl⟩ (fun i σ H4 _ ⟨e, _⟩ => ⟨SqL.of (e _ _ hg3), SqT.of ((s13.trans e) _ _ hya)⟩) ?_ ?_
              · rintro i xk yk T2 σ H4 hi hj' ⟨s4, hsh, x6, x7, rfl⟩ hT2
                obtain ⟨k, hki, rfl⟩ := L2.nats_get hi
                obtain ⟨dk, hdk, hyk⟩ := hds.get hj'
                obtain ⟨fk1, fk2, _, _⟩ := fit_mem (List.mem_of_getElem? hki)
                have w5 := same_new (o := .tup [.int ((k : Nat) : Int), yk]) hT2
                have s05 := s13.trans (s4.trans w5)
                have s25 := s3.trans (s4.trans w5)
                refine ⟨T2, _, rfl, SqT.of upd_same, rfl, _, _, rfl, _, _, rfl, rfl, ?_⟩
                refine ⟨_, rfl, _, rfl, _, rfl, _, rfl, t, bl, yk, k, dk, m, bs, built, us, rfl, hL.sm s05, hm, hb, hn, s25 _ _ hl2, hB2.same s25, hO1, hne, fk1, fk2, by omega, DtD.same s05 dk hyk, fun H6 s6 => ⟨_, rfl, ?_⟩⟩
                rw [shL_step hki hdk] at hsh
                by_cases hs : shB (shF m bs n) built k dk = true
                · rw [hs, Bool.true_and] at hsh
                  rw [hs]
                  exact iteF ⟨s4.trans (w5.trans s6), hsh, _, _, rfl⟩
                · rw [Bool.not_eq_true] at hs
                  rw [hs, Bool.false_and] at hsh
                  rw [hs]
                  refine iteT ?_
                  have := q H6 (s05.trans s6)
                  rw [show kidsD (.tuple ds) = ds from rfl, hsh] at this
                  exact this
              · rintro σ H4 ⟨s4, hsh, x6, x7, rfl⟩
                rw [hfl, List.drop_length] at hsh
                have := q H4 (s13.trans s4)
                rw [show kidsD (.tuple ds) = ds from rfl, hsh] at this
                exact this
            · rw [Bool.not_eq_true] at h3
              rw [h3, Bool.false_and] at q
              rw [h3]
              exact iteT (q H3 s13)
          · rw [Bool.not_eq_true] at hj
            rw [hj, Bool.false_and] at q
            rw [hj]
            exact iteT (q H2 s12)
        · rw [Bool.not_eq_true] at h2
          rw [shN_no h2] at q
          rw [h2]
          exact iteT (iteT (q H2 s12))
/-- what no_classes tells of a layout and a tree -/
def isNonD : PyData → Bool
  | .none => true
  | _ => false
def ncT : PyData → Bool
  | .tuple [x, y] => isNonD x && isTupN y 0
  | _ => false
def ncF (m : Nat) (bs : List (List Nat)) (d : PyData) : Bool := if [] ∈ bs then ncT d else shF m bs 13 [] d
def spNoCls : Sp := fun vs H Q _ => ∃ (t : Addr) (v : V) (d : PyData) (m : Nat) (bs : List (List Nat)), vs = [.ref t, v] ∧ LayA H t m bs ∧ m ≤ 60 ∧ (∀ b ∈ bs, Blk m b) ∧ bs.length ≤ 12 ∧ DtD H d v ∧ ∀ H' : Hp, Same H H' → Q (.bl (ncF m bs d)) H'
theorem ncT_no : ∀ {d : PyData}, isTupN d 2 = false → ncT d = false
  | .tuple [x, y], h => by simp [isTupN] at h
  | .tuple [], _ => rfl
  | .tuple [_], _ => rfl
  | .tuple (_ :: _ :: _ :: _), _ => rfl
  | .none, _ => rfl
  | .bool _, _ => rfl
  | .int _, _ => rfl
  | .str _, _ => rfl
  | .list _, _ => rfl
  | .dict _, _ => rfl
theorem non_dt {H : Hp} : ∀ {x : PyData} {u : V}, DtD H x u → isNonD x = decide (u = .non)
  | .none, u, h => by simp only [DtD] at h; subst h; rfl
  | .bool b, u, h => by simp only [DtD] at h; subst h; rfl
  | .int i, u, h => by simp only [DtD] at h; subst h; rfl
  | .str s, u, h => by simp only [DtD] at h; subst h; rfl
  | .list ds, u, h => by simp only [DtD] at h; obtain ⟨a, xs, rfl, _⟩ := h; rfl
  | .tuple ds, u, h => by simp only [DtD] at h; obtain ⟨a, xs, rfl, _⟩ := h; rfl
  | .dict _, u, h => by simp only [DtD] at h
theorem ncT_two {H : Hp} {x y : PyData} {u : V} (h : DtD H x u) : ncT (.tuple [x, y]) = (decide (u = .non) && isTupN y 0) := by
  rw [← non_dt h]
  rfl
theorem scNoClasses : FnScope ["M", "tree"] ["M", "tree"] (defScope sNoClasses) := ⟨rfl, rfl, rfl, by decide +kernel, rfl, by decide +kernel, by decide +kernel⟩
theorem ok_noCls {f : Addr} {fd : FuncData} (F : Fun K "no_classes" "no_classes" sNoClasses f fd) (pT : Pm P w K mg base CX0 1 "is_tuple_of" ["thing", "many"] spIsTup) (pA : Pm P w K mg base CX0 30 "shuts_all" ["M", "rows", "tree"] (spShAll 13)) : FnOk P w K mg base CX0 31 f fd ["M", "tree"] spNoCls := by
  refine F.okQ scNoClasses (fun vs H Q E h => ?_) (fun cdv A outer s H vs Q E hr h => ?_)
  · obtain ⟨t, v, d, m, bs, rfl, _⟩ := h
    rfl
  · obtain ⟨t, v, d, m, bs, rfl, hL, hm, hb, hn, hd, q⟩ := h
    obtain ⟨lb, ws, ht, hlb, hT, hlen⟩ := id hL
    have hr1 := hr.mono (show 1 ≤ 30 by omega)
    have hu80 := Nat.lt_of_le_of_lt (Nat.add_le_add_left (show 80 ≤ 16 * 30 + 200 by decide) _) (show (A.deeper (PyProof.Rows.envOfC "no_classes" (defScope sNoClasses) s.heap.objs.size f cdv)).units + (16 * 30 + 200) < cLine by have := hr.un; omega)
    refine ⟨_, (qss_cons (qs_if (qt_cmpR (op_inT hu80) (qe_tup qa_nil) (qe_ix ix_tup (qv 0) qe_int (fun _ _ => rfl)) rfl) (qss_one (qs_ret (qe_and (qe_callP pT hr1 rfl pass0 (qac (qv 1) (qac qe_int qa_nil))) (qe_and (qe_cmpR op_isN (qe_ix ix_tup (qv 1) qe_int (fun _ _ => rfl)) qe_non (nomark _)) (qe_one (qe_callP pT hr1 rfl pass0 (qac (qe_ix ix_tup (qv 1) qe_int (fun _ _ => rfl)) (qac qe_int qa_nil)))))))) qss_nil)
      (qss_one (qs_ret (qe_callP pA hr rfl pass0 (qac (qv 0) (qac (qe_lst qa_nil) (qac (qv 1) qa_nil))))))), ?_⟩
    refine ⟨by show 0 ≤ sizeLine; decide, fun x hx => ?_⟩
    have w1 := same_new (o := .tup []) hx
    have hx1 : upd H x (.tup []) x = some (.tup []) := upd_same
    generalize upd H x (.tup []) = H1 at w1 hx1 ⊢
    refine ⟨_, rfl, t, _, 1, .ref lb, rfl, rfl, SqT.of (w1 _ _ ht), rfl, .tuple [], bs.map dTup, ?_, ?_, by decide +kernel, shaped_lay bs, _, rfl, ?_⟩
    · simp only [IsD, IsDs]
      exact ⟨x, [], rfl, SqT.of hx1, rfl⟩
    · simp only [IsD]
      exact ⟨lb, ws, rfl, SqT.of (w1 _ _ hlb), tps_isD (hT.sm w1)⟩
    rw [any_nil]
    unfold ncF at q
    by_cases hz : [] ∈ bs
    · rw [decide_eq_true hz]
      rw [if_pos hz] at q
      refine iteT ⟨_, rfl, v, 2, d, rfl, DtD.same w1 d hd, _, rfl, ?_⟩
      by_cases h2 : isTupN d 2 = true
      · obtain ⟨x', y, rfl⟩ := tup2 h2
        obtain ⟨p, u, z, rfl, hp, hu, hz'⟩ := dt_two hd
        rw [ncT_two hu] at q
        rw [h2]
        refine iteT ⟨_, rfl, p, _, 0, u, rfl, rfl, SqT.of (w1 _ _ hp), rfl, rfl, _, rfl, ?_⟩
        by_cases hn' : u = .non
        · rw [decide_eq_true hn', Bool.true_and] at q
          rw [decide_eq_true hn']
          exact iteT ⟨_, rfl, p, _, 1, z, rfl, rfl, SqT.of (w1 _ _ hp), rfl, z, 0, y, rfl, DtD.same w1 y hz', q _ w1⟩
        · rw [decide_eq_false hn', Bool.false_and] at q
          rw [decide_eq_false hn']
          exact iteF (q _ w1)
      · rw [Bool.not_eq_true] at h2
        rw [ncT_no h2] at q
        rw [h2]
        exact iteF (q _ w1)
    · rw [decide_eq_false hz]
      rw [if_neg hz] at q
      refine iteF ⟨_, rfl, by show 0 ≤ sizeLine; decide, fun y hy => ?_⟩
      have w2 := same_new (o := .lst []) hy
      have s2 := w1.trans w2
      exact ⟨_, rfl, t, y, v, d, m, bs, [], [], rfl, hL.sm s2, hm, hb, by omega, upd_same, trivial, ⟨List.nodup_nil, fun r hr => (by cases hr), fun r hr => (by cases hr)⟩, by show bs.length < 13 + 0; omega, DtD.same s2 d hd, fun H' s' => q H' (s2.trans s')⟩

def spLeast : Sp := fun vs H Q _ => ∃ (t a : Addr) (m : Nat) (bs rs : List (List Nat)) (row : List Nat), vs = [.ref t, .ref a] ∧ LayA H t m bs ∧ m ≤ 60 ∧ H a = some (.lst (nats row)) ∧ (∀ k ∈ row, k < bs.length) ∧ row.length ≤ 60 ∧ ∀ H', Same H H' → Q (missV m bs (rs ++ [row])) H'
theorem scLLeast : FnScope ["_law_layout", "_law_had", "_law_point"] ["_law_layout", "_law_had"] (defScope sLLeast) := ⟨rfl, rfl, rfl, by decide +kernel, rfl, by decide +kernel, by decide +kernel⟩
theorem pts_any {bs : List (List Nat)} {p : Nat} : ∀ row : List Nat, (row.any fun k => decide (p ∈ bs.getD k [])) = decide (p ∈ ptsOf bs row)
  | [] => rfl
  | k :: r => by
    rw [List.any_cons, pts_any r]
    unfold ptsOf
    rw [List.map_cons, List.flatten_cons]
    simp only [List.mem_append]
    by_cases h1 : p ∈ bs.getD k [] <;> by_cases h2 : p ∈ (r.map fun k => bs.getD k []).flatten <;> simp [h1, h2]
theorem miss_last (m : Nat) (bs rs : List (List Nat)) (row : List Nat) : missV m bs (rs ++ [row]) = fstV (leftP m bs row) := by
  unfold missV
  rw [List.getLast?_append, List.getLast?_singleton]
  rfl
theorem left_first {m p : Nat} {bs : List (List Nat)} {row : List Nat} (hp : p < m) (hn : p ∉ ptsOf bs row) (hb : ∀ x, x < p → x ∈ ptsOf bs row) : fstV (leftP m bs row) = .int ((p : Nat) : Int) := by
  have mem : ∀ x, x ∈ leftP m bs row ↔ x < m ∧ x ∉ ptsOf bs row := fun x => by
    unfold leftP
    rw [List.mem_filter, List.mem_range, decide_eq_true_iff]
  have up := leftP_up m bs row
  cases hl : leftP m bs row with
  | nil =>
    have := (mem p).mpr ⟨hp, hn⟩
    rw [hl] at this
    cases this
  | cons x r =>
    have hx := (mem x).mp (by rw [hl]; simp)
    have hpl := (mem p).mpr ⟨hp, hn⟩
    rw [hl] at hpl up
    have : x = p := by
      rcases List.mem_cons.mp hpl with z | z
      · exact z.symm
      · have := (List.pairwise_cons.mp up).1 p z
        exact absurd (hb x this) hx.2
    subst this
    rfl
theorem left_none {m : Nat} {bs : List (List Nat)} {row : List Nat} (hb : ∀ x, x < m → x ∈ ptsOf bs row) : fstV (leftP m bs row) = .non := by
  have : leftP m bs row = [] := by
    unfold leftP
    rw [List.filter_eq_nil_iff]
    intro x hx
    simp only [decide_eq_true_iff]
    exact fun z => z (hb x (List.mem_range.mp hx))
  rw [this]
  rfl
theorem ok_least {f : Addr} {fd : FuncData} (F : Fun K "_law_least" "_law_least" sLLeast f fd) (T : TxtB mg) : FnOk P w K mg base CX0 1 f fd ["_law_layout", "_law_had"] spLeast := by
  refine F.okQ scLLeast (fun vs H Q E h => ?_) (fun cdv A outer s H vs Q E hr h => ?_)
  · obtain ⟨t, a, m, bs, rs, row, rfl, _⟩ := h
    rfl
  · obtain ⟨t, a, m, bs, rs, row, rfl, ⟨lb, ws, ht, hlb, hT, hlen⟩, hm, ha, hk, hl60, q⟩ := h
    refine ⟨_, (qss_cons (qs_for PassesOwn.never rfl (qi_range1 rfl T.range (qac (qe_ix ix_tup (qv 0) qe_int (fun _ _ => rfl)) qa_nil)) (qg_name (i := 2) scLLeast.nd rfl (Or.inr rfl))
        (qss_one (qs_if (qt_not (qt_val (qe_callB (call_any rfl) (by rfl) T.any (by decide +kernel) (qac (qe_comp (g := gName 0) (N := ["_law_k", "_law_layout", "_law_point"]) (src := [none, some 0, some 2]) rfl (comp_scope (defScope sLLeast) ["_law_layout", "_law_had", "_law_point"] rfl rfl (by decide +kernel) rfl) (qi_list (qv 1)) (fun _ _ _ _ _ => (qg_name (i := 0) (show (["_law_k", "_law_layout", "_law_point"] : List Str).Nodup by decide +kernel) rfl (Or.inl rfl) (Or.inr rfl))) (fun _ _ _ _ _ => qif_nil) (fun _ _ _ _ _ => (qe_cmpR (show OpR _ _ (rIn K false) from op_in_seq) (qv 2) (qe_ix (show IxR _ (rIxT K) from ix_tup) (qe_ix (show IxR _ (rIxT K) from ix_tup) (qv 1) qe_int (fun _ _ => rfl)) (qv 0) (fun _ _ => rfl)) rfl))) qa_nil)))) (qss_one (qs_ret (qv 2))) qss_nil)))
      (qss_one (qs_ret qe_non))), ?_⟩
    refine ⟨_, rfl, t, _, 0, .int (m : Nat), rfl, rfl, SqT.of ht, rfl, ((m : Nat) : Int), rfl, by omega, by omega, ?_⟩
    rw [Int.toNat_natCast]
    refine for_range (lo := 0) (n := m) (fun i σ H2 => Same H H2 ∧ (∀ x, x < i → x ∈ ptsOf bs row) ∧ ∃ x2, σ = [some (.ref t), some (.ref a), x2]) ⟨Same.refl _, fun x hx => by omega, none, rfl⟩ ?_ ?_
    · rintro i σ H2 hi ⟨s2, hb, x2, rfl⟩
      rw [Int.zero_add]
      have ha2 := s2 _ _ ha
      refine ⟨_, rfl, a, rfl, ⟨_, SqL.of ha2⟩, comp_list (K := K) (a := a) (xs := nats row) (fun j zs H3 => H3 = H2 ∧ zs = ((row.take j).map fun k => decide (i ∈ bs.getD k [])).map V.bl) ⟨rfl, rfl⟩ (fun j zs H3 _ ⟨e, _⟩ => SqL.of (e ▸ ha2)) ?_ ?_⟩
      · rintro j v zs H3 N hj ⟨rfl, rfl⟩ nx
        obtain ⟨k, hkj, rfl⟩ := L2.nats_get hj
        have hjl := (List.getElem?_eq_some_iff.mp hkj).1
        have hkl := hk k (List.mem_of_getElem? hkj)
        have gi : ws[k]? = some (ws[k]'(by rw [hT.len]; exact hkl)) := List.getElem?_eq_getElem _
        obtain ⟨c, b, ed, hbs, hc⟩ := (hT.sm s2).get gi
        refine ⟨Weak.set (by intro v z; cases z), _, rfl, _, rfl, t, _, 1, .ref lb, rfl, rfl, SqT.of (s2 _ _ ht), rfl, _, rfl, lb, ws, _, _, rfl, rfl, SqT.of (s2 _ _ hlb), atI_nat gi, c, nats b, ed, .inr (SqT.of hc), rfl, flat_nats b, ?_, nx _ _ ⟨rfl, ?_⟩⟩
        · rw [List.length_map, List.length_map, List.length_take]
          exact Nat.lt_of_le_of_lt (show _ ≤ 60 by omega) (by decide)
        · rw [take_snoc hkj, List.map_append, List.map_append]
          show _ ++ [V.bl (inV (V.int ((i : Nat) : Int)) (nats b))] = _
          rw [inV_nats, ← getD_at (d := []) hbs]
          rfl
      · rintro zs H3 ⟨rfl, rfl⟩
        rw [show row.take (nats row).length = row by rw [nats_len, List.take_length]]
        refine ⟨by rw [List.length_map, List.length_map]; exact Nat.le_trans hl60 (by decide), fun r hr' => ⟨r, _, rfl, SqL.of upd_same, _, rfl, ?_⟩⟩
        rw [List.any_map, show ((id ∘ fun k => decide (i ∈ bs.getD k [])) : Nat → Bool) = fun k => decide (i ∈ bs.getD k []) from rfl, pts_any]
        by_cases hz : i ∈ ptsOf bs row
        · rw [decide_eq_true hz]
          refine iteF ⟨s2.trans (same_new hr'), fun x hx => ?_, _, rfl⟩
          by_cases e : x = i
          · rw [e]; exact hz
          · exact hb x (by omega)
        · rw [decide_eq_false hz]
          refine iteT ⟨_, rfl, ?_⟩
          have := q _ (s2.trans (same_new (o := .lst ((row.map fun k => decide (i ∈ bs.getD k [])).map V.bl)) hr'))
          rw [miss_last, left_first hi hz hb] at this
          exact this
    · rintro σ H2 ⟨s2, hb, x2, rfl⟩
      have := q _ s2
      rw [miss_last, left_none hb] at this
      exact this
/-- what the blocks of a row share with a block -/
def tgL (bs : List (List Nat)) (b : List Nat) (row : List Nat) : List Nat := (row.map fun k => (bs.getD k []).filter fun x => decide (x ∈ b)).flatten
theorem tgL_take {bs : List (List Nat)} {b row : List Nat} {i k : Nat} (h : row[i]? = some k) : tgL bs b (row.take (i + 1)) = tgL bs b (row.take i) ++ (bs.getD k []).filter fun x => decide (x ∈ b) := by
  unfold tgL
  rw [take_snoc h, List.map_append, List.flatten_append]
  simp
theorem tgL_nil {bs : List (List Nat)} {b row : List Nat} : tgL bs b row = [] ↔ (b.all fun x => decide (x ∉ ptsOf bs row)) = true := by
  rw [List.all_eq_true, List.eq_nil_iff_forall_not_mem]
  constructor
  · intro h x hx
    refine decide_eq_true fun z => ?_
    obtain ⟨c, hc, hxc⟩ := List.mem_flatten.mp z
    obtain ⟨k, hk, rfl⟩ := List.mem_map.mp hc
    exact h x (List.mem_flatten.mpr ⟨_, List.mem_map.mpr ⟨k, hk, rfl⟩, List.mem_filter.mpr ⟨hxc, decide_eq_true hx⟩⟩)
  · intro h x hx
    obtain ⟨c, hc, hxc⟩ := List.mem_flatten.mp hx
    obtain ⟨k, hk, rfl⟩ := List.mem_map.mp hc
    have h1 := List.mem_filter.mp hxc
    exact of_decide_eq_true (h x (of_decide_eq_true h1.2)) (List.mem_flatten.mpr ⟨_, List.mem_map.mpr ⟨k, hk, rfl⟩, h1.1⟩)
theorem tgL_le {m : Nat} {bs : List (List Nat)} {b : List Nat} (hb : ∀ c ∈ bs, Blk m c) (hm : m ≤ 60) : ∀ row : List Nat, (∀ k ∈ row, k < bs.length) → (tgL bs b row).length ≤ 60 * row.length
  | [], _ => Nat.le_refl _
  | k :: r, h => by
    have ih := tgL_le (b := b) hb hm r fun j hj => h j (List.mem_cons_of_mem _ hj)
    have h1 : ((bs.getD k []).filter fun x => decide (x ∈ b)).length ≤ 60 := Nat.le_trans (List.length_filter_le ..) (Nat.le_trans (hb _ (getD_mem (h k (by simp)))).len hm)
    unfold tgL at ih ⊢
    rw [List.map_cons, List.flatten_cons, List.length_append, List.length_cons]
    omega
def fitR (bs : List (List Nat)) (left row : List Nat) (p : Nat) : List Nat := left.filter fun k => decide (p ∈ bs.getD k []) && (bs.getD k []).all fun x => decide (x ∉ ptsOf bs row)
def spSons : Sp := fun vs H Q _ => ∃ (t l a : Addr) (m p : Nat) (bs : List (List Nat)) (left row : List Nat), vs = [.ref t, .ref l, .ref a, .int ((p : Nat) : Int)] ∧ LayA H t m bs ∧ m ≤ 60 ∧ (∀ b ∈ bs, Blk m b) ∧ H l = some (.lst (nats left)) ∧ H a = some (.lst (nats row)) ∧ (∀ k ∈ left, k < bs.length) ∧ (∀ k ∈ row, k < bs.length) ∧ left.length ≤ 60 ∧ row.length ≤ 60 ∧
  ∀ (r : Addr) (H' : Hp), Same H H' → H' r = some (.lst (nats (fitR bs left row p))) → Q (.ref r) H'
theorem scLSons : FnScope ["_law_layout", "_law_left", "_law_had", "_law_point", "_law_found", "_law_k", "_law_together", "_law_one"] ["_law_layout", "_law_left", "_law_had", "_law_point"] (defScope sLSons) := ⟨rfl, rfl, rfl, by decide +kernel, rfl, by decide +kernel, by decide +kernel⟩
theorem ok_sons {f : Addr} {fd : FuncData} (F : Fun K "_law_sons" "_law_sons" sLSons f fd) : FnOk P w K mg base CX0 1 f fd ["_law_layout", "_law_left", "_law_had", "_law_point"] spSons := by
  refine F.okQ scLSons (fun vs H Q E h => ?_) (fun cdv A outer s H vs Q E hr h => ?_)
  · obtain ⟨t, l, a, m, p, bs, left, row, rfl, _⟩ := h
    rfl
  · obtain ⟨t, l, a, m, p, bs, left, row, rfl, ⟨lb, ws, ht, hlb, hT, hlen⟩, hm, hb, hl, ha, hkl, hkr, hl60, hr60, q⟩ := h
    refine ⟨_, (qss_cons (qs_set (i := 4) scLSons.nd rfl (Or.inl rfl) (qe_lst qa_nil))
      (qss_cons (qs_for PassesOwn.never rfl (qi_list (qv 1)) (qg_name (i := 5) scLSons.nd rfl (Or.inr rfl))
        (qss_cons (qs_set (i := 6) scLSons.nd rfl (Or.inl rfl) (qe_lst qa_nil))
        (qss_cons (qs_for PassesOwn.never rfl (qi_list (qv 2)) (qg_name (i := 7) scLSons.nd rfl (Or.inl rfl))
          (qss_one (qs_set (i := 6) scLSons.nd rfl (Or.inl rfl) (qe_op op_cat (qv 6) (qe_comp (g := gName 0) (N := ["_law_other", "_law_layout", "_law_k"]) (src := [none, some 0, some 5]) rfl (comp_scope (defScope sLSons) ["_law_layout", "_law_left", "_law_had", "_law_point", "_law_found", "_law_k", "_law_together", "_law_one"] rfl rfl (by decide +kernel) rfl) (qi_tup (qe_ix ix_tup (qe_ix ix_tup (qv 0) qe_int (fun _ _ => rfl)) (qv 7) (fun _ _ => rfl))) (fun _ _ _ _ _ => (qg_name (i := 0) (show (["_law_other", "_law_layout", "_law_k"] : List Str).Nodup by decide +kernel) rfl (Or.inl rfl) (Or.inr rfl))) (fun _ _ _ _ _ => (qif_one (qt_cmpR (show OpR _ _ (rIn K false) from op_in_seq) (qv 0) (qe_ix (show IxR _ (rIxT K) from ix_tup) (qe_ix (show IxR _ (rIxT K) from ix_tup) (qv 1) qe_int (fun _ _ => rfl)) (qv 2) (fun _ _ => rfl)) rfl))) (fun _ _ _ _ _ => (qv 0)))))))
        (qss_one (qs_if (QW.pt (qw_and (qt_cmpR op_in_seq (qv 3) (qe_ix ix_tup (qe_ix ix_tup (qv 0) qe_int (fun _ _ => rfl)) (qv 5) (fun _ _ => rfl)) rfl) (qw_and1 (qt_cmpR (op_eqD hr.units) (qv 6) (qe_lst qa_nil) (nomark _))))) (qss_one (qs_expr (qe_bm PySem.F.plainAttrs_list PySem.F.slot_list_append PySem.F.type_list_append mt_append (qv 4) (qac (qv 5) qa_nil)))) qss_nil)))))
      (qss_one (qs_ret (qv 4))))), ?_⟩
    refine ⟨by show 0 ≤ sizeLine; decide, fun r hr' => ?_⟩
    have w1 := same_new (o := .lst []) hr'
    refine ⟨_, rfl, l, rfl, ⟨_, SqL.of (w1 _ _ hl)⟩, for_list (K := K) (a := l) (xs := nats left) (fun i σ H2 => Same H H2 ∧ H2 r = some (.lst (nats (fitR bs (left.take i) row p))) ∧ ∃ x5 x6 x7, σ = [some (.ref t), some (.ref l), some (.ref a), some (.int ((p : Nat) : Int)), some (.ref r), x5, x6, x7]) ⟨w1, upd_same, none, none, none, rfl⟩ (fun i σ H2 _ ⟨e, _⟩ => SqL.of (e _ _ hl)) ?_ ?_⟩
    rotate_left
    · rintro σ H2 ⟨s2, hr2, x5, x6, x7, rfl⟩
      rw [nats_len, List.take_length] at hr2
      exact ⟨_, rfl, q r _ s2 hr2⟩
    rintro i v σ H2 hi ⟨s2, hr2, x5, x6, x7, rfl⟩
    obtain ⟨k, hki, rfl⟩ := L2.nats_get hi
    have hil := (List.getElem?_eq_some_iff.mp hki).1
    have hk := hkl k (List.mem_of_getElem? hki)
    have gk : ws[k]? = some (ws[k]'(by rw [hT.len]; exact hk)) := List.getElem?_eq_getElem _
    obtain ⟨cb, b, ed, hbs, hcb0⟩ := hT.get gk
    have hbb := hb b (List.mem_of_getElem? hbs)
    have hbg : bs.getD k [] = b := getD_at hbs
    refine ⟨by show 0 ≤ sizeLine; decide, fun g hg => ?_⟩
    have w3 := same_new (o := .lst []) hg
    have s3 := s2.trans w3
    have hr3 := w3 _ _ hr2
    dsimp only
    refine seqVia (fun σ' H' => Same H H' ∧ H' r = some (.lst (nats (fitR bs (left.take i) row p))) ∧ ∃ g x7, H' g = some (.lst (nats (tgL bs b row))) ∧ σ' = [some (.ref t), some (.ref l), some (.ref a), some (.int ((p : Nat) : Int)), some (.ref r), some (.int ((k : Nat) : Int)), some (.ref g), x7]) ?_ (fun D' go => ?_)
    rotate_left
    · refine ⟨_, rfl, a, rfl, ⟨_, SqL.of (s3 _ _ ha)⟩, for_list (K := K) (a := a) (xs := nats row) (fun j σ H4 => Same H H4 ∧ H4 r = some (.lst (nats (fitR bs (left.take i) row p))) ∧ ∃ g x7, H4 g = some (.lst (nats (tgL bs b (row.take j)))) ∧ σ = [some (.ref t), some (.ref l), some (.ref a), some (.int ((p : Nat) : Int)), some (.ref r), some (.int ((k : Nat) : Int)), some (.ref g), x7]) ⟨s3, hr3, g, _, upd_same, rfl⟩ (fun j σ H4 _ ⟨e, _⟩ => SqL.of (e _ _ ha)) ?_ ?_⟩
      rotate_left
      · rintro σ H4 ⟨s4, hr4, g, x7, hg4, rfl⟩
        rw [nats_len, List.take_length] at hg4
        exact go _ _ ⟨s4, hr4, g, x7, hg4, rfl⟩
      rintro j v σ H4 hj ⟨s4, hr4, g, x7, hg4, rfl⟩
      obtain ⟨o, hoj, rfl⟩ := L2.nats_get hj
      have hjl := (List.getElem?_eq_some_iff.mp hoj).1
      have ho := hkr o (List.mem_of_getElem? hoj)
      have go' : ws[o]? = some (ws[o]'(by rw [hT.len]; exact ho)) := List.getElem?_eq_getElem _
      obtain ⟨cc, b2, ed2, hbs2, hcc0⟩ := hT.get go'
      have hcc := s4 _ _ hcc0
      have hcb := s4 _ _ hcb0
      have hb2g : bs.getD o [] = b2 := getD_at hbs2
      have hb2 := hb b2 (List.mem_of_getElem? hbs2)
      have hb2l := hb2.len
      refine ⟨_, rfl, _, rfl, t, _, 1, .ref lb, rfl, rfl, SqT.of (s4 _ _ ht), rfl, _, rfl, lb, ws, _, _, rfl, rfl, SqT.of (s4 _ _ hlb), atI_nat go', cc, ed2, ⟨_, SqT.of hcc⟩, comp_tup (K := K) (xs := nats b2) (fun e zs H5 => H5 = H4 ∧ zs = nats ((b2.take e).filter fun x => decide (x ∈ b))) ⟨rfl, rfl⟩ (fun e zs H5 _ ⟨z, _⟩ => SqT.of (z ▸ hcc)) ?_ ?_⟩
      · rintro e zs0 zs H5 N he ⟨rfl, rfl⟩ nx
        obtain ⟨x, hx, rfl⟩ := L2.nats_get he
        have hel := (List.getElem?_eq_some_iff.mp hx).1
        have ef := filt_take (p := fun x => decide (x ∈ b)) hx
        refine ⟨Weak.set (by intro v z; cases z), _, rfl, _, rfl, t, _, 1, .ref lb, rfl, rfl, SqT.of (s4 _ _ ht), rfl, _, rfl, lb, ws, _, _, rfl, rfl, SqT.of (s4 _ _ hlb), atI_nat gk, cb, nats b, ed, .inr (SqT.of hcb), rfl, flat_nats b, _, rfl, ?_⟩
        show if inV (V.int ((x : Nat) : Int)) (nats b) = true then _ else _
        rw [inV_nats]
        by_cases hxb : x ∈ b
        · rw [if_pos (decide_eq_true hxb)] at ef
          rw [decide_eq_true hxb]
          refine iteT ⟨_, rfl, ?_, nx _ _ ⟨rfl, by rw [ef, nats_snoc]⟩⟩
          rw [nats_len]
          refine Nat.lt_of_le_of_lt (Nat.le_trans (List.length_filter_le ..) (show _ ≤ 60 from ?_)) (by decide)
          rw [List.length_take]
          omega
        · rw [if_neg (by simp [hxb]), List.append_nil] at ef
          rw [decide_eq_false hxb]
          exact iteF (nx _ _ ⟨rfl, by rw [ef]⟩)
      · rintro zs H5 ⟨rfl, rfl⟩
        rw [show b2.take (nats b2).length = b2 by rw [nats_len, List.take_length]]
        have hfl : (b2.filter fun x => decide (x ∈ b)).length ≤ 60 := Nat.le_trans (List.length_filter_le ..) (by omega)
        refine ⟨by rw [nats_len]; exact Nat.le_trans hfl (by decide), fun u hu => ?_⟩
        have w6 := same_new (o := .lst (nats (b2.filter fun x => decide (x ∈ b)))) hu
        have htl := tgL_le (b := b) hb hm (row.take j) fun z hz => hkr z (List.mem_of_mem_take hz)
        rw [List.length_take] at htl
        refine ⟨g, u, _, _, rfl, rfl, w6 _ _ hg4, upd_same, by rw [nats_len, nats_len]; exact Nat.le_trans (show _ ≤ 3660 by omega) (by decide), fun g2 hg2 => ?_⟩
        rw [← nats_app2]
        have w7 := same_new (o := .lst (nats (tgL bs b (row.take j) ++ b2.filter fun x => decide (x ∈ b)))) hg2
        refine ⟨s4.trans (w6.trans w7), (w6.trans w7) _ _ hr4, g2, _, ?_, rfl⟩
        rw [tgL_take hoj, hb2g]
        exact upd_same
    rintro σ' H4 ⟨s4, hr4, g, x7, hg4, rfl⟩
    have ef := filt_take (p := fun k => decide (p ∈ bs.getD k []) && (bs.getD k []).all fun x => decide (x ∉ ptsOf bs row)) hki
    have ef : fitR bs (left.take (i + 1)) row p = fitR bs (left.take i) row p ++ _ := ef
    rw [hbg] at ef
    refine ⟨_, rfl, _, rfl, t, _, 1, .ref lb, rfl, rfl, SqT.of (s4 _ _ ht), rfl, _, rfl, lb, ws, _, _, rfl, rfl, SqT.of (s4 _ _ hlb), atI_nat gk, cb, nats b, ed, .inr (SqT.of (s4 _ _ hcb0)), rfl, flat_nats b, _, rfl, ?_⟩
    show if inV (V.int ((p : Nat) : Int)) (nats b) = true then _ else _
    rw [inV_nats]
    by_cases h1 : p ∈ b
    · rw [decide_eq_true h1] at ef ⊢
      refine iteT ⟨_, rfl, by show 0 ≤ sizeLine; decide, fun e he => ?_⟩
      have w5 := same_new (o := .lst []) he
      refine ⟨dBlk (tgL bs b row), dBlk [], isD_blkS (w5 _ _ hg4), isD_blkS upd_same, shaped_blk _, shaped_blk _, _, rfl, ?_⟩
      show if PyData.eqv (dBlk (tgL bs b row)) (dBlk []) = true then _ else _
      rw [eqv_blkS]
      by_cases hz : tgL bs b row = []
      · rw [decide_eq_true hz]
        rw [tgL_nil.mp hz, if_pos (by decide)] at ef
        have hr5 := w5 _ _ hr4
        have hfl : (fitR bs (left.take i) row p).length ≤ 60 := Nat.le_trans (List.length_filter_le ..) (by rw [List.length_take]; omega)
        refine iteT ⟨_, rfl, .inl ⟨rfl, _, SqL.of hr5⟩, _, rfl, r, _, _, rfl, rfl, hr5, by rw [nats_len]; exact Nat.lt_of_le_of_lt hfl (by decide), same_upd (s4.trans w5) hr', ?_, _, _, _, rfl⟩
        rw [ef, nats_snoc]
        exact upd_same
      · rw [decide_eq_false hz]
        have : (b.all fun x => decide (x ∉ ptsOf bs row)) = false := by
          cases e2 : b.all fun x => decide (x ∉ ptsOf bs row) with
          | false => rfl
          | true => exact absurd (tgL_nil.mpr e2) hz
        rw [this, if_neg (by decide), List.append_nil] at ef
        exact iteF ⟨s4.trans w5, by rw [ef]; exact w5 _ _ hr4, _, _, _, rfl⟩
    · rw [decide_eq_false h1] at ef ⊢
      rw [Bool.false_and, if_neg (by decide), List.append_nil] at ef
      exact iteF (iteF ⟨s4, by rw [ef]; exact hr4, _, _, _, rfl⟩)
/-! the tree that is told -/
theorem leftB_more {n k : Nat} {rows rows' : List (List Nat)} (h : ∀ x, x ∈ rows'.flatten ↔ x ∈ rows.flatten ∨ x = k) : leftB n rows' = (leftB n rows).filter fun x => decide (x ≠ k) := by
  unfold leftB
  rw [List.filter_filter]
  refine List.filter_congr fun x _ => ?_
  simp only [h x, not_or, Bool.decide_and]
  rw [Bool.and_comm]
theorem flat_more (rows : List (List Nat)) (k x : Nat) : x ∈ (rows ++ [[k]]).flatten ↔ x ∈ rows.flatten ∨ x = k := by
  rw [List.flatten_append, List.mem_append]
  simp
theorem flat_with {rows : List (List Nat)} (h : rows ≠ []) (k x : Nat) : x ∈ (withB rows k).flatten ↔ x ∈ rows.flatten ∨ x = k := by
  rw [withB_flat h, List.mem_append, List.mem_singleton]
theorem leftB_tail {n k : Nat} {rows : List (List Nat)} {ks : List Nat} (h : leftB n rows = k :: ks) : leftB n (rows ++ [[k]]) = ks := by
  rw [leftB_more (flat_more rows k), h]
  have hn := leftB_nd n rows
  rw [h] at hn
  have hk := (List.nodup_cons.mp hn).1
  rw [List.filter_cons_of_neg (by simp)]
  exact List.filter_eq_self.mpr fun x hx => decide_eq_true fun z => hk (z ▸ hx)
/-- a new row begun is begun by the search too -/
theorem begR_step {m k : Nat} {bs rows : List (List Nat)} {ks : List Nat} (hm : missV m bs rows = .non) (h : leftB bs.length rows = k :: ks) : begR m bs rows = begR m bs (rows ++ [[k]]) := by
  unfold begR
  rw [leftB_tail h, h]
  conv => lhs; unfold begL
  rw [if_pos hm]
theorem fit_eq {m p : Nat} {bs rs : List (List Nat)} {row : List Nat} : fitB m bs (rs ++ [row]) p = fitR bs (leftB bs.length (rs ++ [row])) row p := by
  unfold fitB fitR
  rw [List.getLast?_append, List.getLast?_singleton]
  rfl
theorem kit_int_boolS (K : PySem.W.Frag) : PySem.W.kitOne K (.type "int") (.type "bool") = some false := by kernel_rfl
/-! ### any data, bounded -/
mutual
theorem DtD.isD {K : PySem.W.Frag} {H : Hp} : ∀ (d : PyData) {v : V}, DtD H d v → IsD K H d v
  | .none, v, h => by simp only [DtD] at h; simp only [IsD]; exact h
  | .bool _, v, h => by simp only [DtD] at h; simp only [IsD]; exact h
  | .int i, v, h => by simp only [DtD] at h; simp only [IsD]; exact h
  | .str _, v, h => by simp only [DtD] at h; simp only [IsD]; exact h
  | .tuple ds, v, h => by
    simp only [DtD] at h
    simp only [IsD]
    obtain ⟨a, xs, e, hs, hd⟩ := h
    exact ⟨a, xs, e, SqT.of hs, DtDs.isDs ds hd⟩
  | .list ds, v, h => by
    simp only [DtD] at h
    simp only [IsD]
    obtain ⟨a, xs, e, hs, hd⟩ := h
    exact ⟨a, xs, e, SqL.of hs, DtDs.isDs ds hd⟩
  | .dict _, v, h => by simp only [DtD] at h
theorem DtDs.isDs {K : PySem.W.Frag} {H : Hp} : ∀ (ds : List PyData) {vs : List V}, DtDs H ds vs → IsDs K H ds vs
  | [], vs, h => by simp only [DtDs] at h; simp only [IsDs]; exact h
  | d :: ds, vs, h => by
    simp only [DtDs] at h
    simp only [IsDs]
    obtain ⟨x, r, e, hx, hr⟩ := h
    exact ⟨x, r, e, DtD.isD d hx, DtDs.isDs ds hr⟩
end
theorem DtDs.snoc {H : Hp} {d : PyData} {v : V} (h : DtD H d v) : ∀ {ds : List PyData} {vs : List V}, DtDs H ds vs → DtDs H (ds ++ [d]) (vs ++ [v])
  | [], vs, hs => by
    simp only [DtDs] at hs
    subst hs
    simp only [List.nil_append, DtDs]
    exact ⟨_, _, rfl, h, rfl⟩
  | e :: ds, vs, hs => by
    simp only [DtDs] at hs
    obtain ⟨x, r, rfl, hx, hr⟩ := hs
    simp only [List.cons_append, DtDs]
    exact ⟨_, _, rfl, hx, DtDs.snoc h hr⟩
mutual
def wide : PyData → Bool
  | .tuple ds => decide (ds.length ≤ 1000) && wideA ds
  | .list ds => decide (ds.length ≤ 1000) && wideA ds
  | .none => true
  | .bool _ => true
  | .int _ => true
  | .str _ => true
  | .dict _ => true
def wideA : List PyData → Bool
  | [] => true
  | d :: ds => wide d && wideA ds
end
def Bd (k : Nat) (d : PyData) : Prop := d.canLay0 = true ∧ d.depth ≤ k ∧ wide d = true
theorem Bd.mono {k j : Nat} {d : PyData} (h : Bd k d) (l : k ≤ j) : Bd j d := ⟨h.1, Nat.le_trans h.2.1 l, h.2.2⟩
theorem Bd.sh {k : Nat} {d : PyData} (h : Bd k d) (l : k ≤ 64) : PySem.SeqAt.shaped d = true := by
  unfold PySem.SeqAt.shaped
  rw [h.1, Bool.true_and]
  exact decide_eq_true (Nat.le_trans h.2.1 l)
theorem Bd.all : ∀ {ds : List PyData} {n : Nat}, (∀ d ∈ ds, Bd n d) → PyData.canLayAll0 ds = true ∧ PyData.depthAll ds ≤ n ∧ wideA ds = true
  | [], n, _ => ⟨by simp [PyData.canLayAll0], by simp [PyData.depthAll], by simp [wideA]⟩
  | d :: ds, n, h => by
    obtain ⟨h1, h2, h5⟩ := h d (by simp)
    obtain ⟨h3, h4, h6⟩ := Bd.all fun e he => h e (List.mem_cons_of_mem _ he)
    simp only [PyData.canLayAll0, PyData.depthAll, wideA, h1, h3, h5, h6, Bool.and_self, true_and, and_true]
    omega
theorem Bd.tup {ds : List PyData} {n : Nat} (hl : ds.length ≤ 1000) (h : ∀ d ∈ ds, Bd n d) : Bd (n + 1) (.tuple ds) := by
  obtain ⟨h1, h2, h3⟩ := Bd.all h
  exact ⟨by simp only [PyData.canLay0]; exact h1, by simp only [PyData.depth]; omega, by simp only [wide, h3, Bool.and_true]; exact decide_eq_true hl⟩
theorem Bd.lst {ds : List PyData} {n : Nat} (hl : ds.length ≤ 1000) (h : ∀ d ∈ ds, Bd n d) : Bd (n + 1) (.list ds) := by
  obtain ⟨h1, h2, h3⟩ := Bd.all h
  exact ⟨by simp only [PyData.canLay0]; exact h1, by simp only [PyData.depth]; omega, by simp only [wide, h3, Bool.and_true]; exact decide_eq_true hl⟩
theorem Bd.int (n : Nat) (i : Int) : Bd n (.int i) := ⟨by simp [PyData.canLay0], by simp [PyData.depth], by simp [wide]⟩
theorem Bd.kidsA : ∀ {ds : List PyData} {n : Nat}, PyData.canLayAll0 ds = true → PyData.depthAll ds ≤ n → wideA ds = true → ∀ d ∈ ds, Bd n d
  | d :: ds, n, h1, h2, h3, e, he => by
    simp only [PyData.canLayAll0, Bool.and_eq_true] at h1
    simp only [PyData.depthAll] at h2
    simp only [wideA, Bool.and_eq_true] at h3
    rcases List.mem_cons.mp he with rfl | z
    · exact ⟨h1.1, by omega, h3.1⟩
    · exact Bd.kidsA h1.2 (by omega) h3.2 e z
theorem Bd.kids {ds : List PyData} {n : Nat} (h : Bd (n + 1) (.tuple ds)) : ∀ d ∈ ds, Bd n d := by
  obtain ⟨h1, h2, h3⟩ := h
  simp only [PyData.canLay0] at h1
  simp only [PyData.depth] at h2
  simp only [wide, Bool.and_eq_true] at h3
  exact Bd.kidsA h1 (by omega) h3.2
theorem Bd.wid {ds : List PyData} {n : Nat} (h : Bd n (.tuple ds)) : ds.length ≤ 1000 := by
  have h3 := h.2.2
  simp only [wide, Bool.and_eq_true] at h3
  exact of_decide_eq_true h3.1
def AnyD (k : Nat) (H : Hp) (v : V) : Prop := ∃ d, DtD H d v ∧ Bd k d
theorem AnyD.sm {H H' : Hp} (s : Same H H') {k : Nat} {v : V} (h : AnyD k H v) : AnyD k H' v := by
  obtain ⟨d, hd, hb⟩ := h
  exact ⟨d, DtD.same s d hd, hb⟩
theorem AnyD.mono {k j : Nat} {H : Hp} {v : V} (h : AnyD k H v) (l : k ≤ j) : AnyD j H v := by
  obtain ⟨d, hd, hb⟩ := h
  exact ⟨d, hd, hb.mono l⟩
theorem any_list {k : Nat} {H : Hp} : ∀ {vs : List V}, (∀ v ∈ vs, AnyD k H v) → ∃ ds, DtDs H ds vs ∧ ∀ d ∈ ds, Bd k d
  | [], _ => ⟨[], by simp only [DtDs], fun d hd => by cases hd⟩
  | v :: vs, h => by
    obtain ⟨d, hd, hb⟩ := h v (by simp)
    obtain ⟨ds, hs, hbs⟩ := any_list fun w hw => h w (List.mem_cons_of_mem _ hw)
    refine ⟨d :: ds, by simp only [DtDs]; exact ⟨v, vs, rfl, hd, hs⟩, fun e he => ?_⟩
    rcases List.mem_cons.mp he with rfl | z
    · exact hb
    · exact hbs e z
theorem any_tup {k : Nat} {H : Hp} {a : Addr} {vs : List V} (ha : H a = some (.tup vs)) (hl : vs.length ≤ 1000) (h : ∀ v ∈ vs, AnyD k H v) : AnyD (k + 1) H (.ref a) := by
  obtain ⟨ds, hs, hb⟩ := any_list h
  exact ⟨.tuple ds, by simp only [DtD]; exact ⟨a, vs, rfl, ha, hs⟩, Bd.tup (by rw [← hs.len]; exact hl) hb⟩
theorem any_lst {k : Nat} {H : Hp} {a : Addr} {vs : List V} (ha : H a = some (.lst vs)) (hl : vs.length ≤ 1000) (h : ∀ v ∈ vs, AnyD k H v) : AnyD (k + 1) H (.ref a) := by
  obtain ⟨ds, hs, hb⟩ := any_list h
  exact ⟨.list ds, by simp only [DtD]; exact ⟨a, vs, rfl, ha, hs⟩, Bd.lst (by rw [← hs.len]; exact hl) hb⟩
theorem any_int (k : Nat) (H : Hp) (i : Int) : AnyD k H (.int i) := ⟨.int i, by simp only [DtD], Bd.int k i⟩
theorem any_bl (k : Nat) (H : Hp) (b : Bool) : AnyD k H (.bl b) := ⟨.bool b, by simp only [DtD], by simp [PyData.canLay0], by simp [PyData.depth], by simp [wide]⟩
theorem any_non (k : Nat) (H : Hp) : AnyD k H .non := ⟨.none, by simp only [DtD], by simp [PyData.canLay0], by simp [PyData.depth], by simp [wide]⟩
theorem any_str (k : Nat) (H : Hp) {x : Str} (h : PyData.strOk x = true) : AnyD k H (.str x) := ⟨.str x, by simp only [DtD], by simp [PyData.canLay0, h], by simp [PyData.depth], by simp [wide]⟩
theorem any2 {k : Nat} {H : Hp} {a : Addr} {x y : V} (ha : H a = some (.tup [x, y])) (hx : AnyD k H x) (hy : AnyD k H y) : AnyD (k + 1) H (.ref a) := any_tup ha (by simp) fun v hv => by
  simp only [List.mem_cons, List.not_mem_nil, or_false] at hv
  rcases hv with rfl | rfl
  · exact hx
  · exact hy
/-! ### the law's own walk of a tree -/
theorem shF_step {m k n : Nat} {bs rows : List (List Nat)} {ks : List Nat} {d : PyData} (hm : missV m bs rows = .non) (h : leftB bs.length rows = k :: ks) : shF m bs (n + 1) rows d = shF m bs (n + 1) (rows ++ [[k]]) d := by
  unfold shF
  rw [begR_step hm h]
theorem shF_full {m n : Nat} {bs rows : List (List Nat)} {d : PyData} (hm : missV m bs rows = .non) (h : leftB bs.length rows = []) : shF m bs (n + 1) rows d = false := by
  have e : begR m bs rows = rows := by
    unfold begR
    rw [h]
    rfl
  unfold shF
  rw [e, hm]
theorem shF_open {m n p : Nat} {bs rows : List (List Nat)} {d : PyData} (hm : missV m bs rows = .int ((p : Nat) : Int)) : shF m bs (n + 1) rows d = shN (shF m bs n) rows ((p : Nat) : Int) (fitB m bs rows p) d := by
  have e : begR m bs rows = rows := by
    unfold begR
    cases leftB bs.length rows with
    | nil => rfl
    | cons k ks =>
      unfold begL
      rw [if_neg (by rw [hm]; intro z; cases z)]
  have : shF m bs (n + 1) rows d = match missV m bs (begR m bs rows) with
        | .int p => shN (shF m bs n) (begR m bs rows) p (fitB m bs (begR m bs rows) p.toNat) d
        | _ => false := rfl
  rw [this, e, hm]
  show shN (shF m bs n) rows ((p : Nat) : Int) (fitB m bs rows ((p : Nat) : Int).toNat) d = _
  rw [Int.toNat_natCast]
theorem just_int {x : PyData} {p : Int} (h : isJustD x p = true) : x = .int p := by
  cases x with
  | int i => rw [of_decide_eq_true h]
  | _ => cases h
theorem sh_true {g : List (List Nat) → PyData → Bool} {rows : List (List Nat)} : ∀ {ks : List Nat} {ds : List PyData}, shL g rows ks ds = true → ds.length = ks.length → ∀ (i k : Nat), ks[i]? = some k → ∃ y, ds[i]? = some (.tuple [.int ((k : Nat) : Int), y])
  | [], ds, _, _, i, k, hk => by simp at hk
  | k0 :: ks, [], _, hl, i, k, hk => by simp at hl
  | k0 :: ks, d :: ds, h, hl, i, k, hk => by
    have h : (shB g rows k0 d && shL g rows ks ds) = true := h
    rw [Bool.and_eq_true] at h
    cases i with
    | zero =>
      simp only [List.getElem?_cons_zero, Option.some.injEq] at hk
      subst hk
      have h2 : isTupN d 2 = true := by
        cases q : isTupN d 2 with
        | true => rfl
        | false =>
          have := h.1
          rw [shB_no q] at this
          cases this
      obtain ⟨x, y, rfl⟩ := tup2 h2
      have h1 : (isJustD x ((k0 : Nat) : Int) && g (withB rows k0) y) = true := h.1
      rw [Bool.and_eq_true] at h1
      exact ⟨y, by rw [just_int h1.1]; rfl⟩
    | succ i =>
      rw [List.getElem?_cons_succ] at hk ⊢
      exact sh_true h.2 (by simpa using hl) i k hk
/-- the sons are as asked for: so many, each a pair of its block and a thing -/
def SonsOk (fits : List Nat) (ds : List PyData) : Prop := ds.length = fits.length ∧ ∀ (i k : Nat), fits[i]? = some k → ∃ y, ds[i]? = some (.tuple [.int ((k : Nat) : Int), y])
theorem sons_no {g : List (List Nat) → PyData → Bool} {rows : List (List Nat)} {fits : List Nat} {ds : List PyData} (h : ¬ SonsOk fits ds) : (isTupN (.tuple ds) fits.length && shL g rows fits (kidsD (.tuple ds))) = false := by
  cases e : (isTupN (.tuple ds) fits.length && shL g rows fits (kidsD (.tuple ds))) with
  | false => rfl
  | true =>
    rw [Bool.and_eq_true] at e
    have hl : ds.length = fits.length := of_decide_eq_true e.1
    exact absurd ⟨hl, sh_true e.2 hl⟩ h
def isTupD : PyData → Bool
  | .tuple _ => true
  | _ => false
def hd1 (d : PyData) : PyData := .tuple ((kidsD d).take 1)
def isBoolD : PyData → Bool
  | .bool _ => true
  | _ => false
theorem eqvAll_len : ∀ {xs ys : List PyData}, PyData.eqvAll xs ys = true → xs.length = ys.length
  | [], [], _ => rfl
  | [], _ :: _, h => by simp [PyData.eqvAll] at h
  | _ :: _, [], h => by simp [PyData.eqvAll] at h
  | x :: xs, y :: ys, h => by
    simp only [PyData.eqvAll, Bool.and_eq_true] at h
    rw [List.length_cons, List.length_cons, eqvAll_len h.2]
theorem eqvAll_at : ∀ {xs ys : List PyData} {i : Nat} {x y : PyData}, PyData.eqvAll xs ys = true → xs[i]? = some x → ys[i]? = some y → PyData.eqv x y = true
  | [], _, i, x, y, _, hx, _ => by simp at hx
  | _ :: _, [], i, x, y, _, _, hy => by simp at hy
  | a :: xs, b :: ys, 0, x, y, h, hx, hy => by
    simp only [PyData.eqvAll, Bool.and_eq_true] at h
    simp only [List.getElem?_cons_zero, Option.some.injEq] at hx hy
    rw [← hx, ← hy]
    exact h.1
  | a :: xs, b :: ys, i + 1, x, y, h, hx, hy => by
    simp only [PyData.eqvAll, Bool.and_eq_true] at h
    rw [List.getElem?_cons_succ] at hx hy
    exact eqvAll_at h.2 hx hy
def hk1 (k : Nat) : PyData := .tuple [.int ((k : Nat) : Int)]
/-- what the law's four questions say together -/
theorem sons_ok {fits : List Nat} {ds : List PyData} (h1 : ds.all isTupD = true) (h2 : PyData.eqvAll (ds.map hd1) (fits.map hk1) = true) (h3 : (ds.any fun d => !decide ((kidsD d).length = 2)) = false) (h4 : (ds.any fun d => isBoolD ((kidsD d).headD .none)) = false) : SonsOk fits ds := by
  have hl := eqvAll_len h2
  rw [List.length_map, List.length_map] at hl
  refine ⟨hl, fun i k hk => ?_⟩
  have hil : i < ds.length := by rw [hl]; exact (List.getElem?_eq_some_iff.mp hk).1
  have e1 : ds[i]? = some ds[i] := List.getElem?_eq_getElem hil
  have hm : ds[i] ∈ ds := List.getElem_mem hil
  have q1 := List.all_eq_true.mp h1 _ hm
  have q2 := eqvAll_at (i := i) h2 (by rw [List.getElem?_map, e1]; rfl) (by rw [List.getElem?_map, hk]; rfl)
  have q3 : (kidsD ds[i]).length = 2 := by
    have := List.any_eq_false.mp h3 _ hm
    simpa using this
  have q4 : isBoolD ((kidsD ds[i]).headD .none) = false := by
    have := List.any_eq_false.mp h4 _ hm
    simpa using this
  rw [e1]
  generalize ds[i] = d at q1 q2 q3 q4
  cases d with
  | tuple xs =>
    match xs, q3 with
    | [x, y], _ =>
      have q2 : PyData.eqv (.tuple [x]) (.tuple [.int ((k : Nat) : Int)]) = true := q2
      simp only [PyData.eqv, PyData.eqvAll, Bool.and_true] at q2
      cases x with
      | int j =>
        simp only [PyData.eqv, beq_iff_eq] at q2
        exact ⟨y, by rw [q2]⟩
      | bool b => cases q4
      | none => simp [PyData.eqv] at q2
      | str _ => simp [PyData.eqv] at q2
      | list _ => simp [PyData.eqv] at q2
      | tuple _ => simp [PyData.eqv] at q2
      | dict _ => simp [PyData.eqv] at q2
  | _ => cases q1
theorem hk_eqv : ∀ fits : List Nat, PyData.eqvAll (fits.map hk1) (fits.map hk1) = true
  | [] => by simp [PyData.eqvAll]
  | k :: fits => by
    have := hk_eqv fits
    simp [PyData.eqvAll, hk1, PyData.eqv, this]
theorem sons_all {fits : List Nat} {ds : List PyData} (h : SonsOk fits ds) : ds.all isTupD = true ∧ PyData.eqvAll (ds.map hd1) (fits.map hk1) = true ∧ (ds.any fun d => !decide ((kidsD d).length = 2)) = false ∧ (ds.any fun d => isBoolD ((kidsD d).headD .none)) = false := by
  have at_ : ∀ d ∈ ds, ∃ k y, d = .tuple [.int k, y] := fun d hd => by
    obtain ⟨i, hi, rfl⟩ := List.mem_iff_getElem.mp hd
    obtain ⟨y, hy⟩ := h.2 i (fits[i]'(by rw [← h.1]; exact hi)) (List.getElem?_eq_getElem _)
    rw [List.getElem?_eq_getElem hi] at hy
    exact ⟨_, y, Option.some.inj hy⟩
  refine ⟨List.all_eq_true.mpr fun d hd => ?_, ?_, List.any_eq_false.mpr fun d hd => ?_, List.any_eq_false.mpr fun d hd => ?_⟩
  · obtain ⟨k, y, rfl⟩ := at_ d hd
    rfl
  · have e : ds.map hd1 = fits.map hk1 := by
      refine List.ext_getElem (by rw [List.length_map, List.length_map, h.1]) fun i i1 i2 => ?_
      rw [List.length_map] at i1 i2
      obtain ⟨y, hy⟩ := h.2 i fits[i] (List.getElem?_eq_getElem i2)
      rw [List.getElem?_eq_getElem i1] at hy
      rw [List.getElem_map, List.getElem_map, Option.some.inj hy]
      rfl
    rw [e]
    exact hk_eqv fits
  · obtain ⟨k, y, rfl⟩ := at_ d hd
    simp [kidsD]
  · obtain ⟨k, y, rfl⟩ := at_ d hd
    simp [kidsD, isBoolD]
theorem DtDs.take {H : Hp} : ∀ {ds : List PyData} {vs : List V} (n : Nat), DtDs H ds vs → DtDs H (ds.take n) (vs.take n)
  | _, _, 0, _ => by simp only [List.take_zero, DtDs]
  | [], vs, n + 1, h => by simp only [DtDs] at h; subst h; simp only [List.take_nil, DtDs]
  | d :: ds, vs, n + 1, h => by
    simp only [DtDs] at h
    obtain ⟨x, r, rfl, hx, hr⟩ := h
    simp only [List.take_succ_cons, DtDs]
    exact ⟨x, _, rfl, hx, DtDs.take n hr⟩
theorem kit_non_bool (K : PySem.W.Frag) : PySem.W.kitOne K (.type "NoneType") (.type "bool") = some false := by kernel_rfl
theorem kit_bool_boolX (K : PySem.W.Frag) : PySem.W.kitOne K (.type "bool") (.type "bool") = some true := by kernel_rfl
theorem kit_str_boolX (K : PySem.W.Frag) : PySem.W.kitOne K (.type "str") (.type "bool") = some false := by kernel_rfl
theorem kit_list_bool (K : PySem.W.Frag) : PySem.W.kitOne K (.type "list") (.type "bool") = some false := by kernel_rfl
theorem kit_tup_bool (K : PySem.W.Frag) : PySem.W.kitOne K (.type "tuple") (.type "bool") = some false := by kernel_rfl
theorem dt_bool {K : PySem.W.Frag} {H : Hp} : ∀ (d : PyData) {v : V}, DtD H d v → ∃ T, TyOf K H v (.type T) ∧ PySem.W.kitOne K (.type T) (.type "bool") = some (isBoolD d)
  | .none, v, h => by simp only [DtD] at h; subst h; exact ⟨_, .non, kit_non_bool K⟩
  | .bool b, v, h => by simp only [DtD] at h; subst h; exact ⟨_, .bl b, kit_bool_boolX K⟩
  | .int i, v, h => by simp only [DtD] at h; subst h; exact ⟨_, .int i, kit_int_boolS K⟩
  | .str x, v, h => by simp only [DtD] at h; subst h; exact ⟨_, .str x, kit_str_boolX K⟩
  | .list ds, v, h => by
    simp only [DtD] at h
    obtain ⟨a, xs, rfl, ha, _⟩ := h
    exact ⟨_, .lst ha, kit_list_bool K⟩
  | .tuple ds, v, h => by
    simp only [DtD] at h
    obtain ⟨a, xs, rfl, ha, hd⟩ := h
    exact ⟨_, .tup ha, kit_tup_bool K⟩
  | .dict _, v, h => by simp only [DtD] at h
theorem dt_isT {K : PySem.W.Frag} {H : Hp} : ∀ (d : PyData) {v : V}, DtD H d v → ∃ T, TyOf K H v (.type T) ∧ PySem.W.kitOne K (.type T) (.type "tuple") = some (isTupD d)
  | .none, v, h => by simp only [DtD] at h; subst h; exact ⟨_, .non, kit_non_tup K⟩
  | .bool b, v, h => by simp only [DtD] at h; subst h; exact ⟨_, .bl b, kit_bool_tup K⟩
  | .int i, v, h => by simp only [DtD] at h; subst h; exact ⟨_, .int i, kit_int_tup K⟩
  | .str x, v, h => by simp only [DtD] at h; subst h; exact ⟨_, .str x, kit_str_tup K⟩
  | .list ds, v, h => by
    simp only [DtD] at h
    obtain ⟨a, xs, rfl, ha, _⟩ := h
    exact ⟨_, .lst ha, kit_list_tup K⟩
  | .tuple ds, v, h => by
    simp only [DtD] at h
    obtain ⟨a, xs, rfl, ha, hd⟩ := h
    exact ⟨_, .tup ha, kit_tup_tup K⟩
  | .dict _, v, h => by simp only [DtD] at h
theorem dt_ofT {H : Hp} : ∀ {d : PyData} {v : V}, DtD H d v → isTupD d = true → ∃ a xs, v = .ref a ∧ H a = some (.tup xs) ∧ DtDs H (kidsD d) xs
  | .tuple ds, v, h, _ => by
    simp only [DtD] at h
    obtain ⟨a, xs, rfl, ha, hd⟩ := h
    exact ⟨a, xs, rfl, ha, hd⟩
theorem just_eqv {x : PyData} {p : Int} (h1 : isBoolD x = false) (h2 : PyData.eqv x (.int p) = true) : x = .int p := by
  cases x with
  | int j =>
    simp only [PyData.eqv, beq_iff_eq] at h2
    rw [h2]
  | bool b => cases h1
  | none => simp [PyData.eqv] at h2
  | str _ => simp [PyData.eqv] at h2
  | list _ => simp [PyData.eqv] at h2
  | tuple _ => simp [PyData.eqv] at h2
  | dict _ => simp [PyData.eqv] at h2
theorem any_bool {α : Type} (L : List α) (f : α → Bool) : ((L.map f).any id) = L.any f := by rw [List.any_map]; rfl
theorem all_bool {α : Type} (L : List α) (f : α → Bool) : ((L.map f).all id) = L.all f := by rw [List.all_map]; rfl
def spShutX (ok : Nat → Prop) : Sp := fun vs H Q _ => ∃ (t l h : Addr) (v : V) (m N : Nat) (bs rs : List (List Nat)) (row : List Nat) (d : PyData), vs = [.ref t, .ref l, .ref h, v] ∧ LayA H t m bs ∧ m ≤ 60 ∧ (∀ b ∈ bs, Blk m b) ∧ bs.length ≤ 60 ∧ H l = some (.lst (nats (leftB bs.length (rs ++ [row])))) ∧ H h = some (.lst (nats row)) ∧ RO bs.length (rs ++ [row]) ∧ bs.length < N + (rs ++ [row]).flatten.length ∧ DtD H d v ∧ Bd 60 d ∧ ok (leftB bs.length (rs ++ [row])).length ∧ ∀ H', Same H H' → Q (.bl (shF m bs N (rs ++ [row]) d)) H'
theorem scLShut : FnScope ["_law_layout", "_law_left", "_law_had", "_law_tree_here", "_law_point", "_law_sons_here", "_law_k", "_law_below"] ["_law_layout", "_law_left", "_law_had", "_law_tree_here"] (defScope sLShut) := ⟨rfl, rfl, rfl, by decide +kernel, rfl, by decide +kernel, by decide +kernel⟩
theorem ok_shutX_step {f : Addr} {fd : FuncData} {j kk : Nat} {sp : Sp} (hk2 : 1 ≤ kk) (F : Fun K "_law_shut" "_law_shut" sLShut f fd) (T : TxtB mg) (pLeast : Pm P w K mg base CX0 1 "_law_least" ["_law_layout", "_law_had"] spLeast) (pSons : Pm P w K mg base CX0 1 "_law_sons" ["_law_layout", "_law_left", "_law_had", "_law_point"] spSons) (pS : Pm P w K mg base CX0 kk "_law_shut" ["_law_layout", "_law_left", "_law_had", "_law_tree_here"] sp) (hsp : ∀ vs H Q E, spShutX (fun n => n < j) vs H Q E → sp vs H Q E) : FnOk P w K mg base CX0 (kk + 1) f fd ["_law_layout", "_law_left", "_law_had", "_law_tree_here"] (spShutX fun n => n ≤ j) := by
  refine F.okQ scLShut (fun vs H Q E h => ?_) (fun cdv A outer s H vs Q E hr h => ?_)
  · obtain ⟨t, l, h, v, m, N, bs, rs, row, d, rfl, _⟩ := h
    rfl
  · obtain ⟨t, l, h, v, m, N, bs, rs, row, d, rfl, hL, hm, hb, hn, hl, hh, hO, hfuel, hd, hbd, hj, q⟩ := h
    have hr1 := hr.mono hk2
    refine ⟨_, (qss_cons (qs_set (i := 4) scLShut.nd rfl (Or.inl rfl) (qe_callP pLeast hr1 rfl pass0 (qac (qv 0) (qac (qv 2) qa_nil))))
      (qss_cons (qs_if (qt_isN (qv 4)) (qss_one (qs_ret (qe_and (qe_cmpR (op_neD hr.units) (qv 1) (qe_lst qa_nil) (nomark _)) (qe_one (qe_callP pS hr rfl pass0 (qac (qv 0) (qac (qe_slice sl_list (qv 1) (qo_some qe_int) qo_none) (qac (qe_slice sl_list (qv 1) qo_none (qo_some qe_int)) (qac (qv 3) qa_nil))))))))) qss_nil)
      (qss_cons (qs_if (QW.pt (qw_or (qt_not (qt_val (qe_callB call_isinst (by rfl) T.isi PyProof.Rows.boot_isinstance (qac (qv 3) (qac (qe_bltn (v := .ty "tuple") rfl T.tup (by decide +kernel) rfl) qa_nil))))) (qw_or (qt_cmpR op_ne (qe_callB call_len_seq (by rfl) T.len PySem.boot_len (qac (qv 3) qa_nil)) qe_int (nomark _)) (qw_or1 (qt_not (qt_val (qe_callB call_isinst (by rfl) T.isi PyProof.Rows.boot_isinstance (qac (qe_ix ix_tup (qv 3) qe_int (fun _ _ => rfl)) (qac (qe_bltn (v := .ty "tuple") rfl T.tup (by decide +kernel) rfl) qa_nil))))))))) (qss_one (qs_ret qe_bl)) qss_nil)
      (qss_cons (qs_if (QW.pt (qw_or (qt_val (qe_callB call_isinst (by rfl) T.isi PyProof.Rows.boot_isinstance (qac (qe_ix ix_tup (qv 3) qe_int (fun _ _ => rfl)) (qac (qe_bltn (v := .ty "bool") rfl T.bool (by decide +kernel) rfl) qa_nil)))) (qw_or (qt_cmpR (op_neD hr.units) (qe_ix ix_tup (qv 3) qe_int (fun _ _ => rfl)) (qv 4) (nomark _)) (qw_or1 (qt_not (qt_val (qe_callB (call_all rfl) (by rfl) T.all (by decide +kernel) (qac (qe_comp (g := gName 0) (N := ["_law_son"]) (src := [none]) rfl (comp_scope (defScope sLShut) ["_law_layout", "_law_left", "_law_had", "_law_tree_here", "_law_point", "_law_sons_here", "_law_k", "_law_below"] rfl rfl (by decide +kernel) rfl) (qi_tup (qe_ix ix_tup (qv 3) qe_int (fun _ _ => rfl))) (fun _ _ _ _ _ => (qg_name (i := 0) (show (["_law_son"] : List Str).Nodup by decide +kernel) rfl (Or.inl rfl) (Or.inr rfl))) (fun _ _ _ _ _ => qif_nil) (fun _ _ _ _ _ => (qe_callB (show CallR _ _ (rInstQ K) from call_isinst) (by rfl) T.isi PyProof.Rows.boot_isinstance (qac (qv 0) (qac (qe_bltn (v := .ty "tuple") rfl T.tup (by decide +kernel) rfl) qa_nil))))) qa_nil)))))))) (qss_one (qs_ret qe_bl)) qss_nil)
      (qss_cons (qs_set (i := 5) scLShut.nd rfl (Or.inl rfl) (qe_callP pSons hr1 rfl pass0 (qac (qv 0) (qac (qv 1) (qac (qv 2) (qac (qv 4) qa_nil))))))
      (qss_cons (qs_if (QW.pt (qw_or (qt_cmpR (op_neD hr.units) (qe_comp (g := gName 0) (N := ["_law_son"]) (src := [none]) rfl (comp_scope (defScope sLShut) ["_law_layout", "_law_left", "_law_had", "_law_tree_here", "_law_point", "_law_sons_here", "_law_k", "_law_below"] rfl rfl (by decide +kernel) rfl) (qi_tup (qe_ix ix_tup (qv 3) qe_int (fun _ _ => rfl))) (fun _ _ _ _ _ => (qg_name (i := 0) (show (["_law_son"] : List Str).Nodup by decide +kernel) rfl (Or.inl rfl) (Or.inr rfl))) (fun _ _ _ _ _ => qif_nil) (fun _ _ _ _ _ => (qe_slice (show SlR _ rSlA from sl_tupA) (qv 0) qo_none (qo_some qe_int)))) (qe_comp (g := gName 0) (N := ["_law_k"]) (src := [none]) rfl (comp_scope (defScope sLShut) ["_law_layout", "_law_left", "_law_had", "_law_tree_here", "_law_point", "_law_sons_here", "_law_k", "_law_below"] rfl rfl (by decide +kernel) rfl) (qi_list (qv 5)) (fun _ _ _ _ _ => (qg_name (i := 0) (show (["_law_k"] : List Str).Nodup by decide +kernel) rfl (Or.inl rfl) (Or.inr rfl))) (fun _ _ _ _ _ => qif_nil) (fun _ _ _ _ _ => (qe_tup (qac (qv 0) qa_nil)))) (nomark _)) (qw_or1 (qt_val (qe_callB (call_any rfl) (by rfl) T.any (by decide +kernel) (qac (qe_comp (g := gName 0) (N := ["_law_son"]) (src := [none]) rfl (comp_scope (defScope sLShut) ["_law_layout", "_law_left", "_law_had", "_law_tree_here", "_law_point", "_law_sons_here", "_law_k", "_law_below"] rfl rfl (by decide +kernel) rfl) (qi_tup (qe_ix ix_tup (qv 3) qe_int (fun _ _ => rfl))) (fun _ _ _ _ _ => (qg_name (i := 0) (show (["_law_son"] : List Str).Nodup by decide +kernel) rfl (Or.inl rfl) (Or.inr rfl))) (fun _ _ _ _ _ => qif_nil) (fun _ _ _ _ _ => (qe_cmpR op_ne (qe_callB (show CallR _ _ (rLenQ K) from call_lenQ) (by rfl) T.len PySem.boot_len (qac (qv 0) qa_nil)) qe_int (nomark _)))) qa_nil)))))) (qss_one (qs_ret qe_bl)) qss_nil)
      (qss_cons (qs_if (qt_val (qe_callB (call_any rfl) (by rfl) T.any (by decide +kernel) (qac (qe_comp (g := gName 0) (N := ["_law_son"]) (src := [none]) rfl (comp_scope (defScope sLShut) ["_law_layout", "_law_left", "_law_had", "_law_tree_here", "_law_point", "_law_sons_here", "_law_k", "_law_below"] rfl rfl (by decide +kernel) rfl) (qi_tup (qe_ix ix_tup (qv 3) qe_int (fun _ _ => rfl))) (fun _ _ _ _ _ => (qg_name (i := 0) (show (["_law_son"] : List Str).Nodup by decide +kernel) rfl (Or.inl rfl) (Or.inr rfl))) (fun _ _ _ _ _ => qif_nil) (fun _ _ _ _ _ => (qe_callB (show CallR _ _ (rInstQ K) from call_isinst) (by rfl) T.isi PyProof.Rows.boot_isinstance (qac (qe_ix (show IxR _ (rIxT K) from ix_tup) (qv 0) qe_int (fun _ _ => rfl)) (qac (qe_bltn (v := .ty "bool") rfl T.bool (by decide +kernel) rfl) qa_nil))))) qa_nil))) (qss_one (qs_ret qe_bl)) qss_nil)
      (qss_cons (qs_for PassesOwn.never rfl (qi_tup (qe_ix ix_tup (qv 3) qe_int (fun _ _ => rfl))) (qg_tup rfl (qgs_cons (qg_name (i := 6) scLShut.nd rfl (Or.inr rfl)) (qgs_cons (qg_name (i := 7) scLShut.nd rfl (Or.inl rfl)) qgs_nil)))
        (qss_one (qs_if (qt_not (qt_val (qe_callP pS hr rfl pass0 (qac (qv 0) (qac (qe_comp (g := gName 0) (N := ["_law_j", "_law_k"]) (src := [none, some 6]) rfl (comp_scope (defScope sLShut) ["_law_layout", "_law_left", "_law_had", "_law_tree_here", "_law_point", "_law_sons_here", "_law_k", "_law_below"] rfl rfl (by decide +kernel) rfl) (qi_list (qv 1)) (fun _ _ _ _ _ => (qg_name (i := 0) (show (["_law_j", "_law_k"] : List Str).Nodup by decide +kernel) rfl (Or.inl rfl) (Or.inr rfl))) (fun _ _ _ _ _ => (qif_one (qt_cmpR op_ne (qv 0) (qv 1) (nomark _)))) (fun _ _ _ _ _ => (qv 0))) (qac (qe_op op_cat (qv 2) (qe_lst (qac (qv 6) qa_nil))) (qac (qv 7) qa_nil))))))) (qss_one (qs_ret qe_bl)) qss_nil)))
      (qss_one (qs_ret qe_bl)))))))))), ?_⟩
    have hrm : row ∈ rs ++ [row] := by simp
    have hrl : row.length ≤ 60 := Nat.le_trans (hO.row hrm) hn
    have hll : (leftB bs.length (rs ++ [row])).length ≤ 60 := Nat.le_trans (filt_le ..) hn
    have hne : rs ++ [row] ≠ [] := by simp
    obtain ⟨n, rfl⟩ : ∃ n, N = n + 1 := by
      cases N with
      | zero =>
        have := hO.blk.len
        omega
      | succ n => exact ⟨n, rfl⟩
    refine ⟨_, rfl, _, rfl, t, h, m, bs, rs, row, rfl, hL, hm, hh, hO.lt row hrm, hrl, fun H1 s1 => ⟨_, rfl, _, rfl, ?_⟩⟩
    rcases miss_cases m bs (rs ++ [row]) with ⟨hmv, _⟩ | ⟨p, _, _, hmv, _, hpm, _, _⟩
    · rw [hmv, decide_eq_true rfl]
      refine iteT ⟨_, rfl, by show 0 ≤ sizeLine; decide, fun e he => ?_⟩
      have w2 := same_new (o := .lst []) he
      refine ⟨dBlk (leftB bs.length (rs ++ [row])), dBlk [], isD_blkS ((s1.trans w2) _ _ hl), isD_blkS upd_same, shaped_blk _, shaped_blk _, ?_⟩
      show ∃ c, V.bl (!PyData.eqv (dBlk (leftB bs.length (rs ++ [row]))) (dBlk [])) = V.bl c ∧ _
      rw [eqv_blkS]
      have s12 := s1.trans w2
      cases hlf : leftB bs.length (rs ++ [row]) with
      | nil =>
        rw [shF_full hmv hlf] at q
        rw [decide_eq_true rfl]
        exact ⟨_, rfl, iteF (q _ s12)⟩
      | cons k ks =>
        rw [decide_eq_false (by intro z; cases z)]
        generalize upd H1 e (.lst []) = H2 at s12 ⊢
        rw [hlf] at hl hj
        have hl2 := s12 _ _ hl
        refine ⟨_, rfl, iteT ⟨_, rfl, _, rfl, _, rfl, l, _, rfl, SqL.of hl2, fun p1 hp1 => ?_⟩⟩
        rw [show cutV (nats (k :: ks)) (some 1) none = nats ks from cut_one _ _]
        have w3 := same_new (o := .lst (nats ks)) hp1
        refine ⟨_, rfl, _, rfl, l, _, rfl, SqL.of (w3 _ _ hl2), fun p2 hp2 => ⟨_, rfl, ?_⟩⟩
        rw [show cutV (nats (k :: ks)) none (some 1) = nats [k] from (cut_le (k := 1)).trans rfl]
        have w4 := same_new (o := .lst (nats [k])) hp2
        have s4 := s12.trans (w3.trans w4)
        have hkm := leftB_mem.mp (show k ∈ leftB bs.length (rs ++ [row]) by rw [hlf]; simp)
        rw [shF_step hmv hlf] at q
        refine hsp _ _ _ _ ⟨t, p1, p2, v, m, n + 1, bs, rs ++ [row], [k], d, rfl, hL.sm s4, hm, hb, hn, ?_, upd_same, hO.more hkm.1 hkm.2, ?_, DtD.same s4 d hd, hbd, ?_, fun H' s' => q _ (s4.trans s')⟩
        · rw [leftB_tail hlf]
          exact w4 _ _ upd_same
        · rw [List.flatten_append, List.length_append]
          omega
        · rw [leftB_tail hlf]
          rw [List.length_cons] at hj
          omega
    rw [shF_open hmv] at q
    rw [hmv, decide_eq_false (show ¬ V.int ((p : Nat) : Int) = V.non from fun z => by cases z)]
    refine iteF ?_
    rcases dt_tup (K := K) d hd with ⟨ty, z1, z2, z3⟩ | ⟨tr, xs, dd, rfl, htr, rfl, hxs⟩
    · rw [shN_no (z3 2)] at q
      exact ⟨_, rfl, _, _, _, _, rfl, ty_same s1 z1, rel_ty z2, _, rfl, iteT (iteT (q _ s1))⟩
    have htr1 := s1 _ _ htr
    refine ⟨_, rfl, _, _, _, _, rfl, .tup htr1, rel_ty (kit_tup_tup K), _, rfl, iteF ⟨_, rfl, tr, _, rfl, .inr (SqT.of htr1), rfl, _, rfl, ?_⟩⟩
    by_cases h2 : isTupN (.tuple dd) 2 = true
    rotate_left
    · rw [Bool.not_eq_true] at h2
      rw [shN_no h2] at q
      rw [decide_eq_false (show ¬ V.int ((xs.length : Nat) : Int) = V.int 2 from fun z => by
        injection z with z
        have hxl := hxs.len
        have : ¬ dd.length = 2 := of_decide_eq_false h2
        omega)]
      exact iteT (iteT (q _ s1))
    obtain ⟨x, y, e2⟩ := tup2 h2
    rw [e2] at hd hbd q
    obtain ⟨tr', u, z, e3, htr', hu, hz⟩ := dt_two hd
    cases e3
    rw [htr] at htr'
    cases htr'
    have hbx : Bd 59 x := Bd.kids hbd x (by simp)
    have hby : Bd 59 y := Bd.kids hbd y (by simp)
    rw [show decide (V.int ((([u, z] : List V).length : Nat) : Int) = V.int 2) = true from decide_eq_true rfl]
    refine iteF ?_
    rcases dt_tup (K := K) y hz with ⟨ty, z1, z2, z3⟩ | ⟨sn, vs, ds, rfl, hsn, rfl, hvs⟩
    · have e0 : shN (shF m bs n) (rs ++ [row]) ((p : Nat) : Int) (fitB m bs (rs ++ [row]) p) (.tuple [x, y]) = false := by
        show (isJustD x ((p : Nat) : Int) && (isTupN y (fitB m bs (rs ++ [row]) p).length && _)) = false
        rw [z3, Bool.false_and, Bool.and_false]
      rw [e0] at q
      exact ⟨_, rfl, tr, _, 1, z, rfl, rfl, SqT.of htr1, rfl, _, _, _, _, rfl, ty_same s1 z1, rel_ty z2, _, rfl, iteT (q _ s1)⟩
    have hsn1 := s1 _ _ hsn
    refine ⟨_, rfl, tr, _, 1, .ref sn, rfl, rfl, SqT.of htr1, rfl, _, _, _, _, rfl, .tup hsn1, rel_ty (kit_tup_tup K), _, rfl, iteF ?_⟩
    have eN : shN (shF m bs n) (rs ++ [row]) ((p : Nat) : Int) (fitB m bs (rs ++ [row]) p) (.tuple [x, .tuple ds]) = (isJustD x ((p : Nat) : Int) && (isTupN (.tuple ds) (fitB m bs (rs ++ [row]) p).length && shL (shF m bs n) (rs ++ [row]) (fitB m bs (rs ++ [row]) p) (kidsD (.tuple ds)))) := rfl
    rw [eN] at q
    obtain ⟨tb, tb1, tb2⟩ := dt_bool (K := K) x hu
    refine ⟨_, rfl, tr, _, 0, u, rfl, rfl, SqT.of htr1, rfl, _, _, _, _, rfl, ty_same s1 tb1, rel_ty tb2, _, rfl, ?_⟩
    by_cases hxb : isBoolD x = true
    · have : isJustD x ((p : Nat) : Int) = false := by
        cases x with
        | bool b => rfl
        | _ => cases hxb
      rw [this, Bool.false_and] at q
      rw [hxb]
      exact iteT (iteT (q _ s1))
    rw [Bool.not_eq_true] at hxb
    rw [hxb]
    refine iteF ⟨_, rfl, tr, _, 0, u, rfl, rfl, SqT.of htr1, rfl, _, rfl, x, .int ((p : Nat) : Int), DtD.isD x (DtD.same s1 x hu), by simp only [IsD], hbx.sh (by decide), (Bd.int 0 _).sh (by decide), _, rfl, ?_⟩
    show if (!PyData.eqv x (.int ((p : Nat) : Int))) = true then _ else _
    by_cases hxe : PyData.eqv x (.int ((p : Nat) : Int)) = true
    rotate_left
    · have : isJustD x ((p : Nat) : Int) = false := by
        cases hq : isJustD x ((p : Nat) : Int) with
        | false => rfl
        | true =>
          rw [just_int hq] at hxe
          exact absurd (by simp [PyData.eqv]) hxe
      rw [this, Bool.false_and] at q
      rw [Bool.not_eq_true] at hxe
      rw [hxe]
      exact iteT (iteT (q _ s1))
    have ex := just_eqv hxb hxe
    subst ex
    rw [hxe]
    refine iteF ?_
    rw [show isJustD (.int ((p : Nat) : Int)) ((p : Nat) : Int) = true from decide_eq_true rfl, Bool.true_and] at q
    have hvl : vs.length = ds.length := hvs.len
    have hv1000 : vs.length ≤ 1000 := by rw [hvl]; exact hby.wid
    have hbd58 : ∀ d ∈ ds, Bd 58 d := Bd.kids hby
    have hsz : ∀ k, k ≤ 1000 → k < sizeLine := fun k hk => Nat.lt_of_le_of_lt hk (by decide)
    refine ⟨_, rfl, tr, _, 1, .ref sn, rfl, rfl, SqT.of htr1, rfl, sn, rfl, ⟨_, SqT.of hsn1⟩, comp_tup (K := K) (xs := vs) (fun i zs H2 => H2 = H1 ∧ zs = ((ds.take i).map isTupD).map V.bl) ⟨rfl, rfl⟩ (fun i zs H2 _ ⟨e, _⟩ => SqT.of (e ▸ hsn1)) ?_ ?_⟩
    · rintro i x zs H2 N hi ⟨rfl, rfl⟩ nx
      obtain ⟨dk, hdk, hxk⟩ := hvs.get hi
      have hil := (List.getElem?_eq_some_iff.mp hi).1
      obtain ⟨ty, y1, y2⟩ := dt_isT (K := K) dk (DtD.same s1 dk hxk)
      refine ⟨Weak.set (by intro v z; cases z), _, rfl, _, _, _, _, rfl, y1, rel_ty y2, ?_, nx _ _ ⟨rfl, ?_⟩⟩
      · rw [List.length_map, List.length_map, List.length_take]
        exact hsz _ (by omega)
      · rw [take_snoc hdk, List.map_append, List.map_append]
        rfl
    rintro zs H2 ⟨rfl, rfl⟩
    rw [hvl, List.take_length]
    refine ⟨by rw [List.length_map, List.length_map]; exact Nat.le_of_lt (hsz _ (by omega)), fun r0 hr0 => ⟨r0, _, rfl, SqL.of upd_same, ?_⟩⟩
    rw [all_bool]
    have s2 := s1.trans (same_new (o := .lst ((ds.map isTupD).map V.bl)) hr0)
    generalize upd H2 r0 (.lst ((ds.map isTupD).map V.bl)) = H2 at s2 ⊢
    by_cases hT1 : ds.all isTupD = true
    rotate_left
    · rw [sons_no fun z => hT1 (sons_all z).1] at q
      rw [Bool.not_eq_true] at hT1
      rw [hT1]
      exact ⟨_, rfl, iteT (q _ s2)⟩
    rw [hT1]
    refine ⟨_, rfl, iteF ?_⟩
    refine ⟨_, rfl, _, rfl, _, rfl, _, rfl, t, l, h, m, p, bs, _, row, rfl, hL.sm s2, hm, hb, s2 _ _ hl, s2 _ _ hh, fun k hk => (leftB_mem.mp hk).1, hO.lt row hrm, hll, hrl, fun g H3 s3 hg3 => ?_⟩
    rw [← fit_eq (m := m)] at hg3
    have s23 := s2.trans s3
    have hfl : (fitB m bs (rs ++ [row]) p).length ≤ 60 := Nat.le_trans (List.length_filter_le ..) hll
    have htr3 := s23 _ _ htr
    have hsn3 := s23 _ _ hsn
    refine ⟨_, rfl, tr, _, 1, .ref sn, rfl, rfl, SqT.of htr3, rfl, sn, rfl, ⟨_, SqT.of hsn3⟩, comp_tup (K := K) (xs := vs) (fun i zs H4 => Same H3 H4 ∧ DtDs H4 ((ds.take i).map hd1) zs) ⟨Same.refl _, by simp only [List.take_zero, List.map_nil, DtDs]⟩ (fun i zs H4 _ ⟨e, _⟩ => SqT.of (e _ _ hsn3)) ?_ ?_⟩
    · rintro i x zs H4 N hi ⟨s4, hz⟩ nx
      obtain ⟨dk, hdk, hxk⟩ := hvs.get hi
      have hil := (List.getElem?_eq_some_iff.mp hi).1
      obtain ⟨c, cs, rfl, hc, hcs⟩ := dt_ofT (DtD.same (s23.trans s4) dk hxk) (List.all_eq_true.mp hT1 dk (List.mem_of_getElem? hdk))
      have hzl := hz.len
      rw [List.length_map, List.length_take] at hzl
      refine ⟨Weak.set (by intro v z; cases z), _, rfl, _, rfl, c, cs, rfl, hc, fun p1 H5 s5 hp1 => ?_⟩
      rw [show cutV cs none (some 1) = cs.take 1 from cut_le (k := 1)] at hp1
      refine ⟨hsz _ (by omega), nx _ _ ⟨s4.trans s5, ?_⟩⟩
      rw [take_snoc hdk, List.map_append]
      refine DtDs.snoc ?_ (DtDs.same s5 _ hz)
      simp only [hd1, DtD]
      exact ⟨p1, _, rfl, hp1, DtDs.same s5 _ (hcs.take 1)⟩
    rintro zs H4 ⟨s4, hz⟩
    rw [hvl, List.take_length] at hz
    have hzl := hz.len
    rw [List.length_map] at hzl
    refine ⟨Nat.le_of_lt (hsz _ (by omega)), fun r1 hr1' => ?_⟩
    have w5 := same_new (o := .lst zs) hr1'
    have hr15 : upd H4 r1 (.lst zs) r1 = some (.lst zs) := upd_same
    have hz5 := DtDs.same w5 _ hz
    have s35 := s4.trans w5
    generalize upd H4 r1 (.lst zs) = H5 at hr15 hz5 s35 ⊢
    have hg5 := s35 _ _ hg3
    generalize hFt : fitB m bs (rs ++ [row]) p = fits at hg3 hg5 hfl q
    refine ⟨_, rfl, g, rfl, ⟨_, SqL.of hg5⟩, comp_list (K := K) (a := g) (xs := nats fits) (fun i zs H6 => Same H5 H6 ∧ TpAt H6 zs ((fits.take i).map fun k => [k])) ⟨Same.refl _, trivial⟩ (fun i zs H6 _ ⟨e, _⟩ => SqL.of (e _ _ hg5)) ?_ ?_⟩
    · rintro i x zs' H6 N hi ⟨s6, hz'⟩ nx
      obtain ⟨k, hki, rfl⟩ := L2.nats_get hi
      have hil := (List.getElem?_eq_some_iff.mp hki).1
      have hzl' := hz'.len
      rw [List.length_map, List.length_take] at hzl'
      refine ⟨Weak.set (by intro v z; cases z), _, rfl, by show 1 ≤ sizeLine; decide, fun p1 hp1 => ?_⟩
      have w7 := same_new (o := .tup (nats [k])) hp1
      refine ⟨Nat.lt_of_le_of_lt (show zs'.length ≤ 60 by omega) (by decide), nx _ _ ⟨s6.trans w7, ?_⟩⟩
      rw [take_snoc hki, List.map_append]
      exact (hz'.sm w7).snoc upd_same
    rintro zs' H6 ⟨s6, hz'⟩
    rw [nats_len, List.take_length] at hz'
    have hzl' := hz'.len
    rw [List.length_map] at hzl'
    refine ⟨Nat.le_trans (show zs'.length ≤ 60 by omega) (by decide), fun r2 hr2' => ?_⟩
    have w7 := same_new (o := .lst zs') hr2'
    have hr27 : upd H6 r2 (.lst zs') r2 = some (.lst zs') := upd_same
    have hz7 := hz'.sm w7
    have s57 := s6.trans w7
    generalize upd H6 r2 (.lst zs') = H7 at hr27 hz7 s57 ⊢
    have s07 := s23.trans (s35.trans s57)
    have ehk : (fits.map fun k => [k]).map dTup = fits.map hk1 := by rw [List.map_map]; rfl
    have hbH : Bd 59 (.list (ds.map hd1)) := Bd.lst (by rw [List.length_map]; omega) fun e he => by
      obtain ⟨d, hd', rfl⟩ := List.mem_map.mp he
      have b58 := hbd58 d hd'
      cases d with
      | tuple ks => exact Bd.tup (by show (ks.take 1).length ≤ 1000; rw [List.length_take]; omega) fun x hx => (Bd.kids b58) x (List.mem_of_mem_take hx)
      | _ => exact Bd.tup (by show ([] : List PyData).length ≤ 1000; simp) fun x hx => (by cases hx)
    have hbK : Bd 59 (.list (fits.map hk1)) := Bd.lst (by rw [List.length_map]; omega) fun e he => by
      obtain ⟨k, _, rfl⟩ := List.mem_map.mp he
      exact Bd.tup (n := 57) (by simp) fun x hx => by
        rw [List.mem_singleton.mp hx]
        exact Bd.int _ _
    refine ⟨.list (ds.map hd1), .list (fits.map hk1), by simp only [IsD]; exact ⟨r1, _, rfl, SqL.of (s57 _ _ hr15), DtDs.isDs _ (DtDs.same s57 _ hz5)⟩, by simp only [IsD]; exact ⟨r2, _, rfl, SqL.of hr27, ehk ▸ tps_isD hz7⟩, hbH.sh (by decide), hbK.sh (by decide), _, rfl, ?_⟩
    show if (!PyData.eqvAll (ds.map hd1) (fits.map hk1)) = true then _ else _
    by_cases hT2 : PyData.eqvAll (ds.map hd1) (fits.map hk1) = true
    rotate_left
    · rw [sons_no fun z => hT2 (sons_all z).2.1] at q
      rw [Bool.not_eq_true] at hT2
      rw [hT2]
      exact iteT (iteT (q _ s07))
    rw [hT2]
    refine iteF ?_
    have htr7 := s07 _ _ htr
    have hsn7 := s07 _ _ hsn
    refine ⟨_, rfl, tr, _, 1, .ref sn, rfl, rfl, SqT.of htr7, rfl, sn, rfl, ⟨_, SqT.of hsn7⟩, comp_tup (K := K) (xs := vs) (fun i zs H8 => H8 = H7 ∧ zs = ((ds.take i).map fun d => !decide ((kidsD d).length = 2)).map V.bl) ⟨rfl, rfl⟩ (fun i zs H8 _ ⟨e, _⟩ => SqT.of (e ▸ hsn7)) ?_ ?_⟩
    · rintro i x zs H8 N hi ⟨rfl, rfl⟩ nx
      obtain ⟨dk, hdk, hxk⟩ := hvs.get hi
      have hil := (List.getElem?_eq_some_iff.mp hi).1
      obtain ⟨c, cs, rfl, hc, hcs⟩ := dt_ofT (DtD.same s07 dk hxk) (List.all_eq_true.mp hT1 dk (List.mem_of_getElem? hdk))
      refine ⟨Weak.set (by intro v z; cases z), _, rfl, c, _, rfl, .inr (SqT.of hc), rfl, ?_, nx _ _ ⟨rfl, ?_⟩⟩
      · rw [List.length_map, List.length_map, List.length_take]
        exact hsz _ (by omega)
      · rw [take_snoc hdk, List.map_append, List.map_append]
        have e : decide (V.int ((cs.length : Nat) : Int) = V.int 2) = decide ((kidsD dk).length = 2) := by
          rw [hcs.len]
          exact decide_eq_decide.mpr ⟨fun z => by injection z with z; omega, fun z => by rw [z]; rfl⟩
        show _ ++ [V.bl (!decide (V.int ((cs.length : Nat) : Int) = V.int 2))] = _
        rw [e]
        rfl
    rintro zs8 H8 ⟨rfl, rfl⟩
    rw [hvl, List.take_length]
    refine ⟨by rw [List.length_map, List.length_map]; exact Nat.le_of_lt (hsz _ (by omega)), fun r3 hr3' => ⟨r3, _, rfl, SqL.of upd_same, ?_⟩⟩
    rw [any_bool]
    have s08 := s07.trans (same_new (o := .lst ((ds.map fun d => !decide ((kidsD d).length = 2)).map V.bl)) hr3')
    generalize upd H8 r3 (.lst ((ds.map fun d => !decide ((kidsD d).length = 2)).map V.bl)) = H9 at s08 ⊢
    by_cases hT3 : (ds.any fun d => !decide ((kidsD d).length = 2)) = true
    · rw [sons_no fun z => by rw [(sons_all z).2.2.1] at hT3; cases hT3] at q
      rw [hT3]
      exact ⟨_, rfl, iteT (q _ s08)⟩
    rw [Bool.not_eq_true] at hT3
    rw [hT3]
    refine ⟨_, rfl, iteF ?_⟩
    have htr9 := s08 _ _ htr
    have hsn9 := s08 _ _ hsn
    have two : ∀ dk ∈ ds, ∃ x y, dk = .tuple [x, y] := fun dk hdk => by
      have q1 := List.all_eq_true.mp hT1 dk hdk
      have q3 : (kidsD dk).length = 2 := by
        have := List.any_eq_false.mp hT3 _ hdk
        simpa using this
      cases dk with
      | tuple ks => exact tup2 (decide_eq_true q3)
      | _ => cases q1
    refine ⟨_, rfl, tr, _, 1, .ref sn, rfl, rfl, SqT.of htr9, rfl, sn, rfl, ⟨_, SqT.of hsn9⟩, comp_tup (K := K) (xs := vs) (fun i zs H8 => H8 = H9 ∧ zs = ((ds.take i).map fun d => isBoolD ((kidsD d).headD .none)).map V.bl) ⟨rfl, rfl⟩ (fun i zs H8 _ ⟨e, _⟩ => SqT.of (e ▸ hsn9)) ?_ ?_⟩
    · rintro i x zs H8 N hi ⟨rfl, rfl⟩ nx
      obtain ⟨dk, hdk, hxk⟩ := hvs.get hi
      have hil := (List.getElem?_eq_some_iff.mp hi).1
      obtain ⟨x1, y1, rfl⟩ := two dk (List.mem_of_getElem? hdk)
      obtain ⟨c, u1, z1, rfl, hc, hu1, hz1⟩ := dt_two (DtD.same s08 _ hxk)
      obtain ⟨ty, b1, b2⟩ := dt_bool (K := K) x1 hu1
      refine ⟨Weak.set (by intro v z; cases z), _, rfl, c, _, 0, u1, rfl, rfl, SqT.of hc, rfl, _, _, _, _, rfl, b1, rel_ty b2, ?_, nx _ _ ⟨rfl, ?_⟩⟩
      · rw [List.length_map, List.length_map, List.length_take]
        exact hsz _ (by omega)
      · rw [take_snoc hdk, List.map_append, List.map_append]
        rfl
    rintro zs9 HA ⟨rfl, rfl⟩
    rw [hvl, List.take_length]
    refine ⟨by rw [List.length_map, List.length_map]; exact Nat.le_of_lt (hsz _ (by omega)), fun r4 hr4' => ⟨r4, _, rfl, SqL.of upd_same, ?_⟩⟩
    rw [any_bool]
    have s0A := s08.trans (same_new (o := .lst ((ds.map fun d => isBoolD ((kidsD d).headD .none)).map V.bl)) hr4')
    generalize upd HA r4 (.lst ((ds.map fun d => isBoolD ((kidsD d).headD .none)).map V.bl)) = HB at s0A ⊢
    by_cases hT4 : (ds.any fun d => isBoolD ((kidsD d).headD .none)) = true
    · rw [sons_no fun z => by rw [(sons_all z).2.2.2] at hT4; cases hT4] at q
      rw [hT4]
      exact ⟨_, rfl, iteT (q _ s0A)⟩
    rw [Bool.not_eq_true] at hT4
    rw [hT4]
    refine ⟨_, rfl, iteF ?_⟩
    obtain ⟨hdl, hds⟩ := sons_ok hT1 hT2 hT3 hT4
    rw [show isTupN (.tuple ds) fits.length = true from decide_eq_true hdl, Bool.true_and, show kidsD (.tuple ds) = ds from rfl] at q
    have hsnB := s0A _ _ hsn
    refine ⟨_, rfl, tr, _, 1, .ref sn, rfl, rfl, SqT.of (s0A _ _ htr), rfl, sn, rfl, ⟨_, SqT.of hsnB⟩, for_tup (K := K) (a := sn) (xs := vs) (fun i σ H8 => Same HB H8 ∧ shL (shF m bs n) (rs ++ [row]) fits ds = shL (shF m bs n) (rs ++ [row]) (fits.drop i) (ds.drop i) ∧ ∃ x6 x7, σ = [some (.ref t), some (.ref l), some (.ref h), some (.ref tr), some (.int ((p : Nat) : Int)), some (.ref g), x6, x7]) ⟨Same.refl _, rfl, none, none, rfl⟩ (fun i σ H8 _ ⟨e, _⟩ => SqT.of (e _ _ hsnB)) ?_ ?_⟩
    rotate_left
    · rintro σ H8 ⟨s8, hsh, x6, x7, rfl⟩
      rw [hvl, hdl, List.drop_length] at hsh
      have := q _ (s0A.trans s8)
      rw [hsh] at this
      exact this
    rintro i x σ HC hi ⟨sC, hsh, x6, x7, rfl⟩
    have s0C := s0A.trans sC
    obtain ⟨dk, hdk, hxk⟩ := hvs.get hi
    have hil := (List.getElem?_eq_some_iff.mp hi).1
    have hki : fits[i]? = some (fits[i]'(by omega)) := List.getElem?_eq_getElem _
    generalize fits[i]'(by omega) = k at hki
    obtain ⟨yk, hyk⟩ := hds i k hki
    rw [hdk] at hyk
    cases hyk
    obtain ⟨c, u1, ww, rfl, hc, hu1, hw⟩ := dt_two (DtD.same s0C _ hxk)
    simp only [DtD] at hu1
    subst hu1
    have hbk : Bd 57 yk := Bd.kids (hbd58 _ (List.mem_of_getElem? hdk)) yk (by simp)
    have hkf : k ∈ fitB m bs (rs ++ [row]) p := by rw [hFt]; exact List.mem_of_getElem? hki
    obtain ⟨f1, f2, _, _⟩ := fit_mem hkf
    have hkl : k ∈ leftB bs.length (rs ++ [row]) := leftB_mem.mpr ⟨f1, f2⟩
    have hlC := s0C _ _ hl
    rw [shL_step hki hdk] at hsh
    have eB : shB (shF m bs n) (rs ++ [row]) k (.tuple [.int ((k : Nat) : Int), yk]) = shF m bs n (withB (rs ++ [row]) k) yk := by
      show (isJustD (.int ((k : Nat) : Int)) ((k : Nat) : Int) && _) = _
      rw [show isJustD (.int ((k : Nat) : Int)) ((k : Nat) : Int) = true from decide_eq_true rfl, Bool.true_and]
    rw [eB] at hsh
    refine ⟨c, _, rfl, SqT.of hc, rfl, _, _, rfl, _, _, rfl, rfl, ?_⟩
    refine ⟨_, rfl, _, rfl, l, rfl, ⟨_, SqL.of hlC⟩, comp_list (K := K) (a := l) (xs := nats (leftB bs.length (rs ++ [row]))) (fun i zs H8 => H8 = HC ∧ zs = nats (((leftB bs.length (rs ++ [row])).take i).filter fun x => decide (x ≠ k))) ⟨rfl, rfl⟩ (fun i zs H8 _ ⟨e, _⟩ => SqL.of (e ▸ hlC)) ?_ ?_⟩
    · rintro j x zs H8 N hj' ⟨rfl, rfl⟩ nx
      obtain ⟨y, hy, rfl⟩ := L2.nats_get hj'
      have hjl := (List.getElem?_eq_some_iff.mp hy).1
      have ef := filt_take (p := fun x => decide (x ≠ k)) hy
      refine ⟨Weak.set (by intro v z; cases z), _, rfl, _, rfl, rfl, _, rfl, ?_⟩
      by_cases hyk : y = k
      · subst hyk
        rw [if_neg (by simp), List.append_nil] at ef
        rw [decide_eq_true rfl]
        exact iteF (nx _ _ ⟨rfl, by rw [ef]⟩)
      · rw [if_pos (by simp [hyk])] at ef
        rw [decide_eq_false (show ¬ V.int ((y : Nat) : Int) = V.int ((k : Nat) : Int) from fun z => hyk (by injection z with z; omega))]
        refine iteT ⟨_, rfl, ?_, nx _ _ ⟨rfl, by rw [ef, nats_snoc]⟩⟩
        rw [nats_len]
        refine Nat.lt_of_le_of_lt (Nat.le_trans (List.length_filter_le ..) (show _ ≤ 60 from ?_)) (by decide)
        rw [List.length_take]
        omega
    rintro zsL H8 ⟨rfl, rfl⟩
    rw [show (leftB bs.length (rs ++ [row])).take (nats (leftB bs.length (rs ++ [row]))).length = leftB bs.length (rs ++ [row]) by rw [nats_len, List.take_length]]
    refine ⟨by rw [nats_len]; exact Nat.le_trans (Nat.le_trans (List.length_filter_le ..) hll) (by decide), fun ll hll' => ?_⟩
    have w8 := same_new (o := .lst (nats ((leftB bs.length (rs ++ [row])).filter fun x => decide (x ≠ k)))) hll'
    have hll8 : upd H8 ll (.lst (nats ((leftB bs.length (rs ++ [row])).filter fun x => decide (x ≠ k)))) ll = some (.lst (nats ((leftB bs.length (rs ++ [row])).filter fun x => decide (x ≠ k)))) := upd_same
    generalize upd H8 ll (.lst (nats ((leftB bs.length (rs ++ [row])).filter fun x => decide (x ≠ k)))) = H8' at w8 hll8 ⊢
    refine ⟨_, rfl, _, rfl, by show 1 ≤ sizeLine; decide, fun g1 hg1 => ?_⟩
    have w9 := same_new (o := .lst [V.int ((k : Nat) : Int)]) hg1
    refine ⟨h, g1, _, _, rfl, rfl, (s0C.trans (w8.trans w9)) _ _ hh, upd_same, by rw [nats_len]; exact Nat.le_trans (show row.length + 1 ≤ 61 by omega) (by decide), fun g2 hg2 => ?_⟩
    rw [show nats row ++ [V.int ((k : Nat) : Int)] = nats (row ++ [k]) from (nats_snoc row k).symm]
    have w10 := same_new (o := .lst (nats (row ++ [k]))) hg2
    have s8A := w8.trans (w9.trans w10)
    have s0D := s0C.trans s8A
    have ew : rs ++ [row ++ [k]] = withB (rs ++ [row]) k := (withB_snoc rs row k).symm
    refine ⟨_, rfl, hsp _ _ _ _ ⟨t, ll, g2, ww, m, n, bs, rs, row ++ [k], yk, rfl, hL.sm s0D, hm, hb, hn, ?_, upd_same, ?_, ?_, DtD.same s8A yk hw, hbk.mono (by decide), ?_, fun H' s' => ⟨_, rfl, ?_⟩⟩⟩
    · rw [ew, leftB_more (flat_with hne k)]
      exact (w9.trans w10) _ _ hll8
    · rw [ew]
      exact hO.withB hne f1 f2
    · rw [ew, withB_flat hne, List.length_append, List.length_singleton]
      omega
    · rw [ew, leftB_more (flat_with hne k)]
      have : ((leftB bs.length (rs ++ [row])).filter fun x => decide (x ≠ k)).length < (leftB bs.length (rs ++ [row])).length := by
        rcases Nat.lt_or_ge ((leftB bs.length (rs ++ [row])).filter fun x => decide (x ≠ k)).length (leftB bs.length (rs ++ [row])).length with z | z
        · exact z
        · exfalso
          have e := List.filter_sublist.eq_of_length_le z
          have : k ∈ (leftB bs.length (rs ++ [row])).filter fun x => decide (x ≠ k) := by rw [e]; exact hkl
          exact of_decide_eq_true (List.mem_filter.mp this).2 rfl
      omega
    · rw [ew]
      by_cases hs : shF m bs n (withB (rs ++ [row]) k) yk = true
      · rw [hs, Bool.true_and] at hsh
        rw [hs]
        exact iteF ⟨sC.trans (s8A.trans s'), hsh, _, _, rfl⟩
      · rw [Bool.not_eq_true] at hs
        rw [hs, Bool.false_and] at hsh
        rw [hs]
        have := q _ (s0D.trans s')
        rw [hsh] at this
        exact iteT this
theorem ok_shutX {f : Addr} {fd : FuncData} (F : Fun K "_law_shut" "_law_shut" sLShut f fd) (T : TxtB mg) (mS : mg "_law_shut" = some (.ref f)) (bS : Binds K fd ["_law_layout", "_law_left", "_law_had", "_law_tree_here"] []) (pLeast : Pm P w K mg base CX0 1 "_law_least" ["_law_layout", "_law_had"] spLeast) (pSons : Pm P w K mg base CX0 1 "_law_sons" ["_law_layout", "_law_left", "_law_had", "_law_point"] spSons) : ∀ j, FnOk P w K mg base CX0 (j + 2) f fd ["_law_layout", "_law_left", "_law_had", "_law_tree_here"] (spShutX fun n => n ≤ j)
  | 0 => ok_shutX_step (kk := 1) (Nat.le_refl _) F T pLeast pSons ⟨f, fd, mS, F.kp, bS, FnOk.never⟩ fun vs H Q E h => by
    obtain ⟨_, _, _, _, _, _, _, _, _, _, _, _, _, _, _, _, _, _, _, _, _, h, _⟩ := h
    exact absurd h (Nat.not_lt_zero _)
  | j + 1 => ok_shutX_step (kk := j + 2) (Nat.succ_le_succ (Nat.zero_le _)) F T pLeast pSons ⟨f, fd, mS, F.kp, bS, ok_shutX F T mS bS pLeast pSons j⟩ fun vs H Q E h => by
    obtain ⟨t, l, h', v, m, N, bs, rs, row, d, h1, h2, h3, h4, h5, h6, h7, h8, h9, h10, h11, h12, h13⟩ := h
    exact ⟨t, l, h', v, m, N, bs, rs, row, d, h1, h2, h3, h4, h5, h6, h7, h8, h9, h10, h11, Nat.le_of_lt_succ h12, h13⟩
/-! ### the law's own tree -/
def Node : Nat → PyData → Prop
  | 0, _ => False
  | n + 1, d => ∃ (p : Int) (ds : List PyData), d = .tuple [.int p, .tuple ds] ∧ ds.length ≤ 60 ∧ ∀ s ∈ ds, ∃ (k : Int) (d' : PyData), s = .tuple [.int k, d'] ∧ Node n d'
theorem Node.up : ∀ {n : Nat} {d : PyData}, Node n d → Node (n + 1) d
  | 0, d, h => h.elim
  | n + 1, d, h => by
    obtain ⟨p, ds, rfl, hl, hs⟩ := h
    refine ⟨p, ds, rfl, hl, fun s hsm => ?_⟩
    obtain ⟨k, d', e, hn⟩ := hs s hsm
    exact ⟨k, d', e, Node.up hn⟩
theorem Node.mono {n : Nat} {d : PyData} (h : Node n d) : ∀ {j : Nat}, n ≤ j → Node j d
  | 0, l => by
    cases (Nat.le_zero.mp l)
    exact h
  | j + 1, l => by
    rcases Nat.lt_or_ge n (j + 1) with z | z
    · exact Node.up (Node.mono h (Nat.le_of_lt_succ z))
    · cases (Nat.le_antisymm l z)
      exact h
theorem Node.bd : ∀ {n : Nat} {d : PyData}, Node n d → Bd (3 * n) d
  | 0, d, h => h.elim
  | n + 1, d, h => by
    obtain ⟨p, ds, rfl, hl, hs⟩ := h
    refine Bd.tup (n := 3 * n + 2) (by simp) fun e he => ?_
    simp only [List.mem_cons, List.not_mem_nil, or_false] at he
    rcases he with rfl | rfl
    · exact Bd.int _ _
    · refine Bd.tup (n := 3 * n + 1) (by omega) fun s hsm => ?_
      obtain ⟨k, d', rfl, hn⟩ := hs s hsm
      refine Bd.tup (n := 3 * n) (by simp) fun e he => ?_
      simp only [List.mem_cons, List.not_mem_nil, or_false] at he
      rcases he with rfl | rfl
      · exact Bd.int _ _
      · exact hn.bd
def spTree (ok : Nat → Prop) : Sp := fun vs H Q _ => ∃ (t l h : Addr) (m : Nat) (bs : List (List Nat)) (left row : List Nat), vs = [.ref t, .ref l, .ref h] ∧ LayA H t m bs ∧ m ≤ 60 ∧ (∀ b ∈ bs, Blk m b) ∧ H l = some (.lst (nats left)) ∧ H h = some (.lst (nats row)) ∧ (∀ k ∈ left, k < bs.length) ∧ (∀ k ∈ row, k < bs.length) ∧ left.length + row.length ≤ 60 ∧ ok left.length ∧ ∀ (v : V) (d : PyData) (H' : Hp), Same H H' → TrD H' d v → Node (left.length + 1) d → Q v H'
theorem scLTree : FnScope ["_law_layout", "_law_left", "_law_had", "_law_point", "_law_sons_here", "_law_k"] ["_law_layout", "_law_left", "_law_had"] (defScope sLTree) := ⟨rfl, rfl, rfl, by decide +kernel, rfl, by decide +kernel, by decide +kernel⟩
theorem filt_lt {left : List Nat} {k : Nat} (h : k ∈ left) : (left.filter fun x => decide (x ≠ k)).length < left.length := by
  rcases Nat.lt_or_ge (left.filter fun x => decide (x ≠ k)).length left.length with z | z
  · exact z
  · exfalso
    have e := List.filter_sublist.eq_of_length_le z
    have : k ∈ left.filter fun x => decide (x ≠ k) := by rw [e]; exact h
    exact of_decide_eq_true (List.mem_filter.mp this).2 rfl
theorem ok_tree_step {f : Addr} {fd : FuncData} {j kk : Nat} {sp : Sp} (hk2 : 1 ≤ kk) (F : Fun K "_law_tree" "_law_tree" sLTree f fd) (T : TxtB mg) (pLeast : Pm P w K mg base CX0 1 "_law_least" ["_law_layout", "_law_had"] spLeast) (pSons : Pm P w K mg base CX0 1 "_law_sons" ["_law_layout", "_law_left", "_law_had", "_law_point"] spSons) (pS : Pm P w K mg base CX0 kk "_law_tree" ["_law_layout", "_law_left", "_law_had"] sp) (hsp : ∀ vs H Q E, spTree (fun n => n < j) vs H Q E → sp vs H Q E) : FnOk P w K mg base CX0 (kk + 1) f fd ["_law_layout", "_law_left", "_law_had"] (spTree fun n => n ≤ j) := by
  refine F.okQ scLTree (fun vs H Q E h => ?_) (fun cdv A outer s H vs Q E hr h => ?_)
  · obtain ⟨t, l, h, m, bs, left, row, rfl, _⟩ := h
    rfl
  · obtain ⟨t, l, h, m, bs, left, row, rfl, hL, hm, hb, hl, hh, hkl, hkr, h60, hj, q⟩ := h
    have hr1 := hr.mono hk2
    refine ⟨_, (qss_cons (qs_set (i := 3) scLTree.nd rfl (Or.inl rfl) (qe_callP pLeast hr1 rfl pass0 (qac (qv 0) (qac (qv 2) qa_nil))))
      (qss_cons (qs_if (qt_isN (qv 3)) (qss_cons (qs_if (qt_cmpR (op_eqD hr.units) (qv 1) (qe_lst qa_nil) (nomark _)) (qss_one (qs_ret (qe_tup (qac qe_int (qac (qe_tup qa_nil) qa_nil))))) qss_nil)
        (qss_one (qs_ret (qe_callP pS hr rfl pass0 (qac (qv 0) (qac (qe_slice sl_list (qv 1) (qo_some qe_int) qo_none) (qac (qe_slice sl_list (qv 1) qo_none (qo_some qe_int)) qa_nil))))))) qss_nil)
      (qss_cons (qs_set (i := 4) scLTree.nd rfl (Or.inl rfl) (qe_lst qa_nil))
      (qss_cons (qs_for PassesOwn.never rfl (qi_list (qe_callP pSons hr1 rfl pass0 (qac (qv 0) (qac (qv 1) (qac (qv 2) (qac (qv 3) qa_nil)))))) (qg_name (i := 5) scLTree.nd rfl (Or.inr rfl))
        (qss_one (qs_expr (qe_bm PySem.F.plainAttrs_list PySem.F.slot_list_append PySem.F.type_list_append mt_append (qv 4) (qac (qe_tup (qac (qv 5) (qac (qe_callP pS hr rfl pass0 (qac (qv 0) (qac (qe_comp (g := gName 0) (N := ["_law_j", "_law_k"]) (src := [none, some 5]) rfl (comp_scope (defScope sLTree) ["_law_layout", "_law_left", "_law_had", "_law_point", "_law_sons_here", "_law_k"] rfl rfl (by decide +kernel) rfl) (qi_list (qv 1)) (fun _ _ _ _ _ => (qg_name (i := 0) (show (["_law_j", "_law_k"] : List Str).Nodup by decide +kernel) rfl (Or.inl rfl) (Or.inr rfl))) (fun _ _ _ _ _ => (qif_one (qt_cmpR op_ne (qv 0) (qv 1) (nomark _)))) (fun _ _ _ _ _ => (qv 0))) (qac (qe_op op_cat (qv 2) (qe_lst (qac (qv 5) qa_nil))) qa_nil)))) qa_nil))) qa_nil)))))
      (qss_one (qs_ret (qe_tup (qac (qv 3) (qac (qe_callTy call_tuple_of (by rfl) T.tup (by decide +kernel) (qac (qv 4) qa_nil)) qa_nil))))))))), ?_⟩
    refine ⟨_, rfl, _, rfl, t, h, m, bs, [], row, rfl, hL, hm, hh, hkr, by omega, fun H1 s1 => ⟨_, rfl, _, rfl, ?_⟩⟩
    rcases miss_cases m bs ([] ++ [row]) with ⟨hmv, _⟩ | ⟨p, _, _, hmv, _, hpm, _, _⟩
    · rw [hmv, decide_eq_true rfl]
      refine iteT ⟨_, rfl, by show 0 ≤ sizeLine; decide, fun e he => ?_⟩
      have w2 := same_new (o := .lst []) he
      have s12 := s1.trans w2
      refine ⟨dBlk left, dBlk [], isD_blkS (s12 _ _ hl), isD_blkS upd_same, shaped_blk _, shaped_blk _, _, rfl, ?_⟩
      show if PyData.eqv (dBlk left) (dBlk []) = true then _ else _
      rw [eqv_blkS]
      generalize upd H1 e (.lst []) = H2 at s12 ⊢
      cases left with
      | nil =>
        rw [decide_eq_true rfl]
        refine iteT ⟨by show 0 ≤ sizeLine; decide, fun x hx => ⟨by show 2 ≤ sizeLine; decide, fun y hy => ?_⟩⟩
        have v1 := same_new (o := .tup []) hx
        have v2 := same_new (o := .tup [V.int 0, .ref x]) hy
        refine q (.ref y) (.tuple [.int 0, .tuple []]) _ (s12.trans (v1.trans v2)) ?_ ⟨0, [], rfl, by simp, fun s hs => by cases hs⟩
        simp only [TrD, TrDs]
        exact ⟨y, _, rfl, upd_same, _, _, rfl, rfl, _, _, rfl, ⟨x, _, rfl, v2 _ _ upd_same, rfl⟩, rfl⟩
      | cons k ks =>
        rw [decide_eq_false (by intro z; cases z)]
        have hl2 := s12 _ _ hl
        refine iteF ⟨_, rfl, _, rfl, _, rfl, l, _, rfl, SqL.of hl2, fun p1 hp1 => ?_⟩
        rw [show cutV (nats (k :: ks)) (some 1) none = nats ks from cut_one _ _]
        have w3 := same_new (o := .lst (nats ks)) hp1
        refine ⟨_, rfl, _, rfl, l, _, rfl, SqL.of (w3 _ _ hl2), fun p2 hp2 => ?_⟩
        rw [show cutV (nats (k :: ks)) none (some 1) = nats [k] from (cut_le (k := 1)).trans rfl]
        have w4 := same_new (o := .lst (nats [k])) hp2
        have s4 := s12.trans (w3.trans w4)
        rw [List.length_cons] at h60 hj q
        exact hsp _ _ _ _ ⟨t, p1, p2, m, bs, ks, [k], rfl, hL.sm s4, hm, hb, w4 _ _ upd_same, upd_same, fun x hx => hkl x (List.mem_cons_of_mem _ hx), fun x hx => by rw [List.mem_singleton.mp hx]; exact hkl k (by simp), by rw [List.length_singleton]; omega, by omega, fun v d H' s' hd hn => q v d H' (s4.trans s') hd hn.up⟩
    rw [hmv, decide_eq_false (show ¬ V.int ((p : Nat) : Int) = V.non from fun z => by cases z)]
    refine iteF ⟨by show 0 ≤ sizeLine; decide, fun so hso => ?_⟩
    have w2 := same_new (o := .lst []) hso
    have hso2 : upd H1 so (.lst []) so = some (.lst []) := upd_same
    generalize upd H1 so (.lst []) = H2 at w2 hso2 ⊢
    have s02 := s1.trans w2
    have hso0 : H so = none := none_of s1 hso
    refine ⟨_, rfl, _, rfl, _, rfl, _, rfl, t, l, h, m, p, bs, left, row, rfl, hL.sm s02, hm, hb, s02 _ _ hl, s02 _ _ hh, hkl, hkr, by omega, by omega, fun g H3 s3 hg3 => ?_⟩
    have s03 := s02.trans s3
    have hso3 := s3 _ _ hso2
    have hfl : (fitR bs left row p).length ≤ left.length := List.length_filter_le ..
    have hfm : ∀ k ∈ fitR bs left row p, k ∈ left := fun k hk => (List.mem_filter.mp hk).1
    generalize fitR bs left row p = fits at hg3 hfl hfm
    by_cases hgso : g = so
    · rw [hgso, hso3] at hg3
      have e0 : fits = [] := by
        cases fits with
        | nil => rfl
        | cons _ _ => cases hg3
      subst e0
      subst hgso
      refine ⟨g, rfl, ⟨_, SqL.of hso3⟩, for_list (K := K) (a := g) (xs := []) (fun i σ H5 => H5 = H3 ∧ σ = [some (.ref t), some (.ref l), some (.ref h), some (.int ((p : Nat) : Int)), some (.ref g), none]) ⟨rfl, rfl⟩ (fun i σ H5 _ ⟨e, _⟩ => SqL.of (e ▸ hso3)) (fun i v σ H5 hi _ => by simp at hi) ?_⟩
      rintro σ H5 ⟨rfl, rfl⟩
      refine ⟨_, rfl, _, rfl, g, _, rfl, .inl ⟨SqL.of hso3, fun x hx => ⟨by show 2 ≤ sizeLine; decide, fun y hy => ?_⟩⟩⟩
      have v1 := same_new (o := .tup []) hx
      have v2 := same_new (o := .tup [V.int ((p : Nat) : Int), .ref x]) hy
      refine q (.ref y) (.tuple [.int ((p : Nat) : Int), .tuple []]) _ (s03.trans (v1.trans v2)) ?_ ⟨_, [], rfl, by simp, fun s hs => by cases hs⟩
      simp only [TrD, TrDs]
      exact ⟨y, _, rfl, upd_same, _, _, rfl, rfl, _, _, rfl, ⟨x, _, rfl, v2 _ _ upd_same, rfl⟩, rfl⟩
    have up0 : ∀ {H' : Hp}, (∀ x o, x ≠ so → H3 x = some o → H' x = some o) → Same H H' := fun hk x o hx => hk x o (fun z => by rw [z, hso0] at hx; cases hx) (s03 x o hx)
    refine ⟨g, rfl, ⟨_, SqL.of hg3⟩, for_list (K := K) (a := g) (xs := nats fits) (fun i σ H5 => (∀ x o, x ≠ so → H3 x = some o → H5 x = some o) ∧ ∃ vs ds, H5 so = some (.lst vs) ∧ TrDs H5 ds vs ∧ ds.length = i ∧ (∀ s ∈ ds, ∃ (k : Int) (d' : PyData), s = .tuple [.int k, d'] ∧ Node left.length d') ∧ ∃ x5, σ = [some (.ref t), some (.ref l), some (.ref h), some (.int ((p : Nat) : Int)), some (.ref so), x5]) ⟨fun x o _ h => h, [], [], hso3, by simp only [TrDs], rfl, fun s hs => (by cases hs), none, rfl⟩ (fun i σ H5 _ ⟨e, _⟩ => SqL.of (e _ _ hgso hg3)) ?_ ?_⟩
    · rintro i v σ H5 hi ⟨k5, vs, ds, hso5, hT5, hdl, hds, x5, rfl⟩
      obtain ⟨k, hki, rfl⟩ := L2.nats_get hi
      have hil := (List.getElem?_eq_some_iff.mp hki).1
      have hkL := hfm k (List.mem_of_getElem? hki)
      have s05 := up0 k5
      have hl5 := s05 _ _ hl
      have hvl : vs.length = ds.length := hT5.len
      refine ⟨_, rfl, .inl ⟨rfl, _, SqL.of hso5⟩, _, rfl, _, rfl, _, rfl, l, rfl, ⟨_, SqL.of hl5⟩, comp_list (K := K) (a := l) (xs := nats left) (fun i zs H8 => H8 = H5 ∧ zs = nats ((left.take i).filter fun x => decide (x ≠ k))) ⟨rfl, rfl⟩ (fun i zs H8 _ ⟨e, _⟩ => SqL.of (e ▸ hl5)) ?_ ?_⟩
      · rintro j x zs H8 N hj' ⟨rfl, rfl⟩ nx
        obtain ⟨y, hy, rfl⟩ := L2.nats_get hj'
        have hjl := (List.getElem?_eq_some_iff.mp hy).1
        have ef := filt_take (p := fun x => decide (x ≠ k)) hy
        refine ⟨Weak.set (by intro v z; cases z), _, rfl, _, rfl, rfl, _, rfl, ?_⟩
        by_cases hyk : y = k
        · subst hyk
          rw [if_neg (by simp), List.append_nil] at ef
          rw [decide_eq_true rfl]
          exact iteF (nx _ _ ⟨rfl, by rw [ef]⟩)
        · rw [if_pos (by simp [hyk])] at ef
          rw [decide_eq_false (show ¬ V.int ((y : Nat) : Int) = V.int ((k : Nat) : Int) from fun z => hyk (by injection z with z; omega))]
          refine iteT ⟨_, rfl, ?_, nx _ _ ⟨rfl, by rw [ef, nats_snoc]⟩⟩
          rw [nats_len]
          refine Nat.lt_of_le_of_lt (Nat.le_trans (List.length_filter_le ..) (show _ ≤ 60 from ?_)) (by decide)
          rw [List.length_take]
          omega
      rintro zsL H8 ⟨rfl, rfl⟩
      rw [show left.take (nats left).length = left by rw [nats_len, List.take_length]]
      have hflt := filt_lt hkL
      refine ⟨by rw [nats_len]; exact Nat.le_trans (show _ ≤ 60 by omega) (by decide), fun ll hll' => ?_⟩
      have w8 := same_new (o := .lst (nats (left.filter fun x => decide (x ≠ k)))) hll'
      refine ⟨_, rfl, _, rfl, by show 1 ≤ sizeLine; decide, fun g1 hg1 => ?_⟩
      have w9 := same_new (o := .lst [V.int ((k : Nat) : Int)]) hg1
      refine ⟨h, g1, _, _, rfl, rfl, (s05.trans (w8.trans w9)) _ _ hh, upd_same, by rw [nats_len]; exact Nat.le_trans (show row.length + 1 ≤ 61 by omega) (by decide), fun g2 hg2 => ?_⟩
      rw [show nats row ++ [V.int ((k : Nat) : Int)] = nats (row ++ [k]) from (nats_snoc row k).symm]
      have w10 := same_new (o := .lst (nats (row ++ [k]))) hg2
      have s8A := w8.trans (w9.trans w10)
      have s0D := s05.trans s8A
      refine hsp _ _ _ _ ⟨t, ll, g2, m, bs, left.filter fun x => decide (x ≠ k), row ++ [k], rfl, hL.sm s0D, hm, hb, (w9.trans w10) _ _ upd_same, upd_same, fun x hx => hkl x (List.mem_filter.mp hx).1, fun x hx => ?_, by rw [List.length_append, List.length_singleton]; omega, by omega, fun v d H6 s6 hd6 hn6 => ⟨by show 2 ≤ sizeLine; decide, fun x hx => ?_⟩⟩
      · rcases List.mem_append.mp hx with z | z
        · exact hkr x z
        · rw [List.mem_singleton.mp z]
          exact hkl k hkL
      have w7 := same_new (o := .tup [V.int ((k : Nat) : Int), v]) hx
      have hx7 : upd H6 x (.tup [V.int ((k : Nat) : Int), v]) x = some (.tup [V.int ((k : Nat) : Int), v]) := upd_same
      have hd7 := TrD.imp (fun b xs h => w7 b _ h) _ hd6
      generalize upd H6 x (.tup [V.int ((k : Nat) : Int), v]) = H7 at w7 hx7 hd7 ⊢
      have s57 := s8A.trans (s6.trans w7)
      have hso7 := s57 _ _ hso5
      have tp : ∀ b xs, H7 b = some (.tup xs) → upd H7 so (.lst (vs ++ [.ref x])) b = some (.tup xs) := fun b xs h => by
        rw [upd_ne (fun z => by rw [z, hso7] at h; cases h)]
        exact h
      refine ⟨so, vs, .ref x, rfl, rfl, hso7, Nat.lt_of_le_of_lt (show vs.length ≤ 60 by omega) (by decide), fun y o hy h4 => ?_, vs ++ [.ref x], ds ++ [.tuple [.int ((k : Nat) : Int), d]], upd_same, ?_, by rw [List.length_append, hdl]; rfl, fun s hs => ?_, _, rfl⟩
      · rw [upd_ne hy]
        exact s57 _ _ (k5 y o hy h4)
      · refine TrDs.snoc ?_ (TrDs.imp (fun b xs h => tp b xs (s57 _ _ h)) _ hT5)
        simp only [TrD, TrDs]
        exact ⟨x, _, rfl, tp _ _ hx7, _, _, rfl, rfl, _, _, rfl, TrD.imp (fun b xs h => tp b xs h) _ hd7, rfl⟩
      · rcases List.mem_append.mp hs with z | z
        · exact hds s z
        · rw [List.mem_singleton.mp z]
          exact ⟨_, d, rfl, hn6.mono (by omega)⟩
    · rintro σ H5 ⟨k5, vs, ds, hso5, hT5, hdl, hds, x5, rfl⟩
      rw [nats_len] at hdl
      have s05 := up0 k5
      refine ⟨_, rfl, _, rfl, so, _, rfl, .inl ⟨SqL.of hso5, fun x hx => ⟨by show 2 ≤ sizeLine; decide, fun y hy => ?_⟩⟩⟩
      have v1 := same_new (o := .tup vs) hx
      have v2 := same_new (o := .tup [V.int ((p : Nat) : Int), .ref x]) hy
      have v12 := v1.trans v2
      refine q (.ref y) (.tuple [.int ((p : Nat) : Int), .tuple ds]) _ (s05.trans v12) ?_ ⟨_, ds, rfl, by omega, hds⟩
      simp only [TrD, TrDs]
      exact ⟨y, _, rfl, upd_same, _, _, rfl, rfl, _, _, rfl, ⟨x, vs, rfl, v2 _ _ upd_same, TrDs.imp (fun b xs h => v12 _ _ h) _ hT5⟩, rfl⟩
theorem ok_tree {f : Addr} {fd : FuncData} (F : Fun K "_law_tree" "_law_tree" sLTree f fd) (T : TxtB mg) (mS : mg "_law_tree" = some (.ref f)) (bS : Binds K fd ["_law_layout", "_law_left", "_law_had"] []) (pLeast : Pm P w K mg base CX0 1 "_law_least" ["_law_layout", "_law_had"] spLeast) (pSons : Pm P w K mg base CX0 1 "_law_sons" ["_law_layout", "_law_left", "_law_had", "_law_point"] spSons) : ∀ j, FnOk P w K mg base CX0 (j + 2) f fd ["_law_layout", "_law_left", "_law_had"] (spTree fun n => n ≤ j)
  | 0 => ok_tree_step (kk := 1) (Nat.le_refl _) F T pLeast pSons ⟨f, fd, mS, F.kp, bS, FnOk.never⟩ fun vs H Q E h => by
    obtain ⟨_, _, _, _, _, _, _, _, _, _, _, _, _, _, _, _, h, _⟩ := h
    exact absurd h (Nat.not_lt_zero _)
  | j + 1 => ok_tree_step (kk := j + 2) (Nat.succ_le_succ (Nat.zero_le _)) F T pLeast pSons ⟨f, fd, mS, F.kp, bS, ok_tree F T mS bS pLeast pSons j⟩ fun vs H Q E h => by
    obtain ⟨t, l, h', m, bs, left, row, h1, h2, h3, h4, h5, h6, h7, h8, h9, h10, h11⟩ := h
    exact ⟨t, l, h', m, bs, left, row, h1, h2, h3, h4, h5, h6, h7, h8, h9, Nat.le_of_lt_succ h10, h11⟩
/-! ### a tree spoilt: some data -/
def rCatA : R2 := fun x y H Q => ∃ a b xs ys, x = .ref a ∧ y = .ref b ∧ H a = some (.tup xs) ∧ H b = some (.tup ys) ∧ xs.length + ys.length ≤ sizeLine ∧ ∀ (p : Addr) (H' : Hp), Same H H' → H' p = some (.tup (xs ++ ys)) → Q (.ref p) H'
theorem op_catA {X : Cx} : OpR X (binaryOp .Add) rCatA := by
  intro pins s σ H x y v u Q I rx ry h
  obtain ⟨a, b, xs, ys, e1, e2, ha, hb, hl, q⟩ := h
  refine op_catE pins s σ H x y v u Q I rx ry ?_
  by_cases hx : xs = []
  · subst hx
    exact .inl ⟨a, b, ys, e1, e2, SqT.of ha, SqT.of hb, q b H (Same.refl _) hb⟩
  · refine .inr ⟨a, b, xs, ys, e1, e2, SqT.of ha, SqT.of hb, hx, hl, fun hy => q a H (Same.refl _) (by rw [hy, List.append_nil]; exact ha), fun _ p hp => q p _ (same_new hp) upd_same⟩
theorem cut_sub {xs : List V} {lo hi : Option Int} : ∀ x ∈ cutV xs lo hi, x ∈ xs := fun x hx => by
  unfold cutV at hx
  exact List.mem_of_mem_drop (List.mem_of_mem_take hx)
theorem at_mod {ws : List V} (h : 0 < ws.length) (y : Int) : ∃ x ∈ ws, atI ws (y % ((ws.length : Nat) : Int)) = some x := by
  have h1 := Int.emod_nonneg y (show ((ws.length : Nat) : Int) ≠ 0 by omega)
  have h2 := Int.emod_lt_of_pos y (show (0 : Int) < ((ws.length : Nat) : Int) by omega)
  have hl : (y % ((ws.length : Nat) : Int)).toNat < ws.length := by omega
  refine ⟨ws[(y % ((ws.length : Nat) : Int)).toNat], List.getElem_mem hl, ?_⟩
  have := atI_nat (xs := ws) (j := (y % ((ws.length : Nat) : Int)).toNat) (List.getElem?_eq_getElem hl)
  rwa [Int.toNat_of_nonneg h1] at this
theorem int_at {ns : List Int} {i : Nat} (h : i < ns.length) : ∃ y, atI (ns.map V.int) ((i : Nat) : Int) = some (.int y) := ⟨ns[i], atI_nat (by rw [List.getElem?_map, List.getElem?_eq_getElem h]; rfl)⟩
/-- a node, where it lies -/
structure NdAt (n : Nat) (H : Hp) (a sn : Addr) (p : Int) (vs : List V) (ds : List PyData) : Prop where
  ha : H a = some (.tup [.int p, .ref sn])
  hs : H sn = some (.tup vs)
  ln : vs.length ≤ 60
  dt : DtDs H ds vs
  bd : Bd (3 * n + 2) (.tuple ds)
  at_ : ∀ x ∈ vs, ∃ (c : Addr) (k : Int) (w : V) (d : PyData), x = .ref c ∧ H c = some (.tup [.int k, w]) ∧ TrD H d w ∧ Node n d
theorem NdAt.sm {n : Nat} {H H' : Hp} (s : Same H H') {a sn : Addr} {p : Int} {vs : List V} {ds : List PyData} (h : NdAt n H a sn p vs ds) : NdAt n H' a sn p vs ds := by
  refine ⟨s _ _ h.ha, s _ _ h.hs, h.ln, DtDs.same s _ h.dt, h.bd, fun x hx => ?_⟩
  obtain ⟨c, k, w, d, e, hc, hd, hn⟩ := h.at_ x hx
  exact ⟨c, k, w, d, e, s _ _ hc, TrD.imp (fun b xs q => s _ _ q) _ hd, hn⟩
theorem NdAt.any {n : Nat} {H : Hp} {a sn : Addr} {p : Int} {vs : List V} {ds : List PyData} (h : NdAt n H a sn p vs ds) : ∀ x ∈ vs, AnyD (3 * n + 1) H x := fun x hx => by
  obtain ⟨c, k, w, d, rfl, hc, hd, hn⟩ := h.at_ x hx
  exact any2 hc (any_int _ _ _) ⟨d, TrD.dt d hd, hn.bd⟩
theorem TrDs.getX {H : Hp} : ∀ {ds : List PyData} {vs : List V} {v : V}, TrDs H ds vs → v ∈ vs → ∃ d ∈ ds, TrD H d v
  | [], vs, v, h, hv => by
    simp only [TrDs] at h
    subst h
    cases hv
  | d :: ds, vs, v, h, hv => by
    simp only [TrDs] at h
    obtain ⟨x, r, rfl, hx, hr⟩ := h
    rcases List.mem_cons.mp hv with rfl | z
    · exact ⟨d, by simp, hx⟩
    · obtain ⟨e, he, h2⟩ := TrDs.getX hr z
      exact ⟨e, List.mem_cons_of_mem _ he, h2⟩
theorem nd_at {n : Nat} {H : Hp} {d : PyData} {v : V} (hd : TrD H d v) (hn : Node (n + 1) d) : ∃ a sn p vs ds, v = .ref a ∧ NdAt n H a sn p vs ds := by
  have hb := hn.bd
  obtain ⟨p, ds, rfl, hl, hs⟩ := hn
  simp only [TrD, TrDs] at hd
  obtain ⟨a, xs, rfl, ha, _, _, rfl, rfl, _, _, rfl, ⟨sn, vs, rfl, hsn, hvs⟩, rfl⟩ := hd
  refine ⟨a, sn, p, vs, ds, rfl, ha, hsn, by rw [hvs.len]; exact hl, TrDs.dts _ hvs, Bd.kids hb (.tuple ds) (by simp), fun x hx => ?_⟩
  obtain ⟨s, hsm, hts⟩ := hvs.getX hx
  obtain ⟨k, d', rfl, hn'⟩ := hs s hsm
  simp only [TrD, TrDs] at hts
  obtain ⟨c, _, rfl, hc, _, _, rfl, rfl, w, _, rfl, hw, rfl⟩ := hts
  exact ⟨c, k, w, d', rfl, hc, hw, hn'⟩
/-- a pair of a thing and a tuple of things -/
theorem fin2 {n : Nat} {H : Hp} {y c : Addr} {x : V} {ws : List V} (hy : H y = some (.tup [x, .ref c])) (hx : AnyD (3 * n + 5) H x) (hc : H c = some (.tup ws)) (hl : ws.length ≤ 1000) (hw : ∀ w ∈ ws, AnyD (3 * n + 4) H w) : AnyD (3 * n + 6) H (.ref y) := any2 hy hx (any_tup hc hl hw)
def spSpoilt (ok : Nat → Prop) : Sp := fun vs H Q _ => ∃ (v : V) (lx : Addr) (xs : List Int) (dp : Int) (n : Nat) (d : PyData), vs = [v, .ref lx, .int dp] ∧ TrD H d v ∧ Node (n + 1) d ∧ H lx = some (.lst (xs.map V.int)) ∧ xs.length = 4 ∧ 0 ≤ dp ∧ dp ≤ 60 ∧ n ≤ 15 ∧ ok n ∧ ∀ (u : V) (H' : Hp), Same H H' → AnyD (3 * n + 6) H' u → Q u H'
theorem scLSpoilt : FnScope ["_law_tree_here", "_law_xs", "_law_deep", "_law_point", "_law_sons_here", "_law_k", "_law_son", "_law_way", "_law_worse"] ["_law_tree_here", "_law_xs", "_law_deep"] (defScope sLSpoilt) := ⟨rfl, rfl, rfl, by decide +kernel, rfl, by decide +kernel, by decide +kernel⟩
theorem eqv_nilT {ds : List PyData} : PyData.eqv (.tuple ds) (.tuple []) = decide (ds = []) := by
  cases ds with
  | nil => simp [PyData.eqv, PyData.eqvAll]
  | cons d ds => simp [PyData.eqv, PyData.eqvAll]
theorem seqViaR {t rest : TS} {D : Ends} {σ : St} {H : Hp} (J : St → Hp → Prop) (hJ : ∀ σ' H', J σ' H' → rest D σ' H') (h : ∀ N : St → Hp → Prop, (∀ σ' H', J σ' H' → N σ' H') → t { D with nx := N } σ H) : tSeq t rest D σ H := h (rest D) hJ
theorem any_newT {k : Nat} {H : Hp} {a : Addr} {vs : List V} (_ : Same H (upd H a (.tup vs))) (hl : vs.length ≤ 1000) (h : ∀ v ∈ vs, AnyD k (upd H a (.tup vs)) v) : AnyD (k + 1) (upd H a (.tup vs)) (.ref a) := any_tup upd_same hl h
theorem at_new {H : Hp} {a : Addr} {o : HO} (_ : Same H (upd H a o)) : upd H a o a = some o := upd_same
theorem all_new {k : Nat} {H : Hp} {a : Addr} {o : HO} {vs : List V} (_ : Same H (upd H a o)) (h : ∀ v ∈ vs, AnyD k (upd H a o) v) : ∀ v ∈ vs, AnyD k (upd H a o) v := h
theorem word_tree : PyData.strOk "tree" = true := by decide +kernel
theorem ok_spoilt_step {f : Addr} {fd : FuncData} {j kk : Nat} {sp : Sp} (F : Fun K "_law_spoilt" "_law_spoilt" sLSpoilt f fd) (T : TxtB mg) (pS : Pm P w K mg base CX0 kk "_law_spoilt" ["_law_tree_here", "_law_xs", "_law_deep"] sp) (hsp : ∀ vs H Q E, spSpoilt (fun n => n < j) vs H Q E → sp vs H Q E) : FnOk P w K mg base CX0 (kk + 1) f fd ["_law_tree_here", "_law_xs", "_law_deep"] (spSpoilt fun n => n ≤ j) := by
  refine F.okQ scLSpoilt (fun vs H Q E h => ?_) (fun cdv A outer s H vs Q E hr h => ?_)
  · obtain ⟨v, lx, xs, dp, n, d, rfl, _⟩ := h
    rfl
  · obtain ⟨v, lx, xs, dp, n, d, rfl, hd, hn, hx, hxl, hd0, hd60, hn15, hj, q⟩ := h
    refine ⟨_, (qss_cons (qs_asg (qv 0) (qg_tup rfl (qgs_cons (qg_name (i := 3) scLSpoilt.nd rfl (Or.inl rfl)) (qgs_cons (qg_name (i := 4) scLSpoilt.nd rfl (Or.inl rfl)) qgs_nil))))
      (qss_cons (qs_if (QW.pt (qw_and (qt_cmpR (op_neD hr.units) (qv 4) (qe_tup qa_nil) (nomark _)) (qw_and (qt_cmpR op_eq (qe_op op_and (qe_op op_shr (qe_ix ix_list (qv 1) qe_int (fun _ _ => rfl)) (qv 2)) qe_int) qe_int (nomark _)) (qw_and1 (qt_cmpR op_lt (qv 2) qe_int (nomark _)))))) (qss_cons (qs_set (i := 5) scLSpoilt.nd rfl (Or.inl rfl) (qe_op op_mod (qe_ix ix_list (qv 1) qe_int (fun _ _ => rfl)) (qe_callB call_len_seq (by rfl) T.len PySem.boot_len (qac (qv 4) qa_nil))))
        (qss_cons (qs_set (i := 6) scLSpoilt.nd rfl (Or.inl rfl) (qe_tup (qac (qe_ix ix_tup (qe_ix ix_tup (qv 4) (qv 5) (fun _ _ => rfl)) qe_int (fun _ _ => rfl)) (qac (qe_callP pS hr rfl pass0 (qac (qe_ix ix_tup (qe_ix ix_tup (qv 4) (qv 5) (fun _ _ => rfl)) qe_int (fun _ _ => rfl)) (qac (qv 1) (qac (qe_op op_add (qv 2) qe_int) qa_nil)))) qa_nil))))
        (qss_one (qs_ret (qe_tup (qac (qv 3) (qac (qe_op op_catA (qe_op op_catA (qe_slice sl_tupA (qv 4) qo_none (qo_some (qv 5))) (qe_tup (qac (qv 6) qa_nil))) (qe_slice sl_tupA (qv 4) (qo_some (qe_op op_add (qv 5) qe_int)) qo_none)) qa_nil))))))) qss_nil)
      (qss_cons (qs_set (i := 7) scLSpoilt.nd rfl (Or.inl rfl) (qe_op op_mod (qe_ix ix_list (qv 1) qe_int (fun _ _ => rfl)) qe_int))
      (qss_cons (qs_if (qt_cmpR op_eq (qv 7) qe_int (nomark _)) (qss_one (qs_ret (qe_tup (qac (qe_op op_add (qv 3) qe_int) (qac (qv 4) qa_nil))))) qss_nil)
      (qss_cons (qs_if (qt_cmpR op_eq (qv 7) qe_int (nomark _)) (qss_one (qs_ret (qe_tup (qac (qv 3) (qac (qe_slice sl_tupA (qv 4) (qo_some qe_int) qo_none) qa_nil))))) qss_nil)
      (qss_cons (qs_if (qt_cmpR op_eq (qv 7) qe_int (nomark _)) (qss_one (qs_ret (qe_tup (qac (qv 3) (qac (qe_op op_catA (qv 4) (qe_tup (qac (qe_tup (qac (qe_op op_mod (qe_ix ix_list (qv 1) qe_int (fun _ _ => rfl)) qe_int) (qac (qe_tup (qac (qv 3) (qac (qe_tup qa_nil) qa_nil))) qa_nil))) qa_nil))) qa_nil))))) qss_nil)
      (qss_cons (qs_if (qt_cmpR op_eq (qv 7) qe_int (nomark _)) (qss_one (qs_ret (qe_tup (qac (qv 3) (qac (qe_op op_catA (qv 4) (qe_slice sl_tupA (qv 4) qo_none (qo_some qe_int))) qa_nil))))) qss_nil)
      (qss_cons (qs_if (qt_cmpR op_eq (qv 7) qe_int (nomark _)) (qss_one (qs_ret (qe_tup (qac (qv 3) (qac (qe_revB (qv 4)) qa_nil))))) qss_nil)
      (qss_cons (qs_if (qt_cmpR op_eq (qv 7) qe_int (nomark _)) (qss_one (qs_ret (qe_ix ix_list (qe_lst (qac (qe_tup (qac (qe_cmpR op_eq (qv 3) qe_int (nomark _)) (qac (qv 4) qa_nil))) (qac (qe_tup (qac (qe_cmpR op_gt (qv 3) qe_int (nomark _)) (qac (qv 4) qa_nil))) qa_nil))) (qe_op op_mod (qe_ix ix_list (qv 1) qe_int (fun _ _ => rfl)) qe_int) (fun _ _ => rfl)))) qss_nil)
      (qss_cons (qs_if (qt_cmpR op_eq (qv 7) qe_int (nomark _)) (qss_cons (qs_set (i := 8) scLSpoilt.nd rfl (Or.inl rfl) (qe_lst (qac (qe_lst (qac (qv 3) (qac (qv 4) qa_nil))) (qac (qe_tup (qac (qv 3) (qac (qe_callTy call_list_of (by rfl) T.lst (by decide +kernel) (qac (qv 4) qa_nil)) qa_nil))) (qac (qe_tup (qac (qv 3) qa_nil)) (qac (qe_tup (qac (qv 3) (qac (qv 4) (qac (qe_tup qa_nil) qa_nil)))) qa_nil))))))
        (qss_cons (qs_for PassesOwn.never rfl (qi_tup (qe_slice sl_tupA (qv 4) (qo_some (qe_un un_neg qe_int)) qo_none)) (qg_name (i := 6) scLSpoilt.nd rfl (Or.inl rfl))
          (qss_cons (qs_set (i := 8) scLSpoilt.nd rfl (Or.inl rfl) (qe_op op_cat (qv 8) (qe_lst (qac (qe_tup (qac (qv 3) (qac (qe_op op_catA (qe_slice sl_tupA (qv 4) qo_none (qo_some (qe_un un_neg qe_int))) (qe_tup (qac (qe_op op_catA (qv 6) (qe_tup (qac qe_int qa_nil))) qa_nil))) qa_nil))) (qac (qe_tup (qac (qv 3) (qac (qe_op op_catA (qe_slice sl_tupA (qv 4) qo_none (qo_some (qe_un un_neg qe_int))) (qe_tup (qac (qe_slice sl_tupA (qv 6) qo_none (qo_some qe_int)) qa_nil))) qa_nil))) qa_nil)))))
          (qss_one (qs_set (i := 8) scLSpoilt.nd rfl (Or.inl rfl) (qe_op op_cat (qv 8) (qe_lst (qac (qe_tup (qac (qv 3) (qac (qe_op op_catA (qe_slice sl_tupA (qv 4) qo_none (qo_some (qe_un un_neg qe_int))) (qe_tup (qac qe_int qa_nil))) qa_nil))) (qac (qe_tup (qac (qv 3) (qac (qe_op op_catA (qe_slice sl_tupA (qv 4) qo_none (qo_some (qe_un un_neg qe_int))) (qe_tup (qac (qe_callTy call_list_of (by rfl) T.lst (by decide +kernel) (qac (qv 6) qa_nil)) qa_nil))) qa_nil))) (qac (qe_tup (qac (qv 3) (qac (qe_op op_catA (qe_tup (qac qe_non qa_nil)) (qv 4)) qa_nil))) qa_nil)))))))))
        (qss_one (qs_ret (qe_ix ix_list (qv 8) (qe_op op_mod (qe_ix ix_list (qv 1) qe_int (fun _ _ => rfl)) (qe_callB call_len_seq (by rfl) T.len PySem.boot_len (qac (qv 8) qa_nil))) (fun _ _ => rfl)))))) qss_nil)
      (qss_cons (qs_if (qt_cmpR op_eq (qv 7) qe_int (nomark _)) (qss_one (qs_ret (qe_tup (qac (qv 3) (qac (qe_callTy call_tuple_of (by rfl) T.tup (by decide +kernel) (qac (qe_comp (g := gTup K 2 (gCons (gName 0) (gCons (gName 1) gNil))) (N := ["_law_k", "_law_son"]) (src := [none, none]) rfl (comp_scope (defScope sLSpoilt) ["_law_tree_here", "_law_xs", "_law_deep", "_law_point", "_law_sons_here", "_law_k", "_law_son", "_law_way", "_law_worse"] rfl rfl (by decide +kernel) rfl) (qi_tup (qv 4)) (fun _ _ _ _ _ => (show QG _ _ (gTup K 2 _) from qg_tup rfl (qgs_cons (qg_name (i := 0) (show (["_law_k", "_law_son"] : List Str).Nodup by decide +kernel) rfl (Or.inl rfl) (Or.inr rfl)) (qgs_cons (qg_name (i := 1) (show (["_law_k", "_law_son"] : List Str).Nodup by decide +kernel) rfl (Or.inl rfl) (Or.inr rfl)) qgs_nil)))) (fun _ _ _ _ _ => qif_nil) (fun _ _ _ _ _ => (qe_tup (qac (qe_cmpR op_eq (qv 0) qe_int (nomark _)) (qac (qv 1) qa_nil))))) qa_nil)) qa_nil))))) qss_nil)
      (qss_one (qs_ret (qe_ix ix_list (qe_lst (qac qe_non (qac qe_int (qac qe_str (qac (qe_tup qa_nil) (qac (qe_tup (qac qe_non (qac (qe_tup qa_nil) qa_nil))) qa_nil)))))) (qe_op op_mod (qe_ix ix_list (qv 1) qe_int (fun _ _ => rfl)) qe_int) (fun _ _ => rfl))))))))))))))), ?_⟩
    obtain ⟨a, sn, p, vs, ds, rfl, N0⟩ := nd_at hd hn
    have hA : ∀ {H' : Hp}, Same H H' → NdAt n H' a sn p vs ds := fun s => N0.sm s
    obtain ⟨y0, a0⟩ := int_at (ns := xs) (i := 0) (by omega)
    obtain ⟨y1, a1⟩ := int_at (ns := xs) (i := 1) (by omega)
    obtain ⟨y2, a2⟩ := int_at (ns := xs) (i := 2) (by omega)
    obtain ⟨y3, a3⟩ := int_at (ns := xs) (i := 3) (by omega)
    have hvl := N0.ln
    have hsz : ∀ k, k ≤ 1000 → k ≤ sizeLine := fun k hk => Nat.le_trans hk (by decide)
    have up : ∀ {H' : Hp} {x : V}, Same H H' → x ∈ vs → AnyD (3 * n + 4) H' x := fun s hx => ((hA s).any _ hx).mono (by omega)
    refine ⟨_, rfl, a, _, rfl, SqT.of N0.ha, rfl, _, _, rfl, _, _, rfl, rfl, ?_⟩
    dsimp only
    refine seqViaR (fun σ' H' => Same H H' ∧ σ' = [some (.ref a), some (.ref lx), some (.int dp), some (.int p), some (.ref sn), none, none, none, none]) ?_ (fun D' go => ?_)
    rotate_left
    · refine ⟨_, rfl, by show 0 ≤ sizeLine; decide, fun e he => ?_⟩
      have w1 := same_new (o := .tup []) he
      have he1 : upd H e (.tup []) e = some (.tup []) := upd_same
      generalize upd H e (.tup []) = H1 at w1 he1 ⊢
      refine ⟨.tuple ds, .tuple [], DtD.isD _ (by simp only [DtD]; exact ⟨sn, vs, rfl, (hA w1).hs, (hA w1).dt⟩), by simp only [IsD, IsDs]; exact ⟨e, [], rfl, SqT.of he1, rfl⟩, ?_, by decide +kernel, _, rfl, ?_⟩
      · exact N0.bd.sh (by omega)
      show if (!PyData.eqv (.tuple ds) (.tuple [])) = true then _ else _
      rw [eqv_nilT]
      by_cases hz : ds = []
      · rw [decide_eq_true hz]
        exact iteF (iteF (go _ _ ⟨w1, rfl⟩))
      rw [decide_eq_false hz]
      refine iteT ⟨_, rfl, lx, _, 0, .int y0, rfl, rfl, SqL.of (w1 _ _ hx), a0, _, rfl, _, _, rfl, rfl, by omega, _, _, rfl, rfl, rfl, _, rfl, ?_⟩
      refine ite2 (fun _ => ?_) (fun _ => iteF (go _ _ ⟨w1, rfl⟩))
      refine ⟨_, rfl, _, _, rfl, rfl, _, rfl, ?_⟩
      refine ite2 (fun h8 => ?_) (fun _ => go _ _ ⟨w1, rfl⟩)
      have h8 : dp < 8 := of_decide_eq_true h8
      have hv0 : 0 < vs.length := by rw [N0.dt.len]; exact List.length_pos_iff.mpr hz
      obtain ⟨x, hxm, hxa⟩ := at_mod hv0 y1
      refine ⟨_, rfl, lx, _, 1, .int y1, rfl, rfl, SqL.of (w1 _ _ hx), a1, _, rfl, sn, vs, rfl, .inr (SqT.of (hA w1).hs), _, _, rfl, rfl, by show (0 : Int) < ((vs.length : Nat) : Int); omega, ?_⟩
      dsimp only
      obtain ⟨c, k', ww, d', rfl, hc, hd', hn'⟩ := (hA w1).at_ x hxm
      refine ⟨_, rfl, _, rfl, sn, vs, _, .ref c, rfl, rfl, SqT.of (hA w1).hs, hxa, c, _, 0, .int k', rfl, rfl, SqT.of hc, rfl, ?_⟩
      refine ⟨_, rfl, _, rfl, sn, vs, _, .ref c, rfl, rfl, SqT.of (hA w1).hs, hxa, c, _, 1, ww, rfl, rfl, SqT.of hc, rfl, _, rfl, _, rfl, _, _, rfl, rfl, ?_⟩
      obtain ⟨n', rfl⟩ : ∃ n', n = n' + 1 := by
        cases n with
        | zero => exact hn'.elim
        | succ n' => exact ⟨n', rfl⟩
      refine hsp _ _ _ _ ⟨ww, lx, xs, dp + 1, n', d', rfl, hd', hn', w1 _ _ hx, hxl, by omega, by omega, by omega, by omega, fun u H2 s2 hu2 => ⟨by show 2 ≤ sizeLine; decide, fun so hso => ?_⟩⟩
      have w3 := same_new (o := .tup [V.int k', u]) hso
      have s03 := w1.trans (s2.trans w3)
      have hso3 : AnyD (3 * (n' + 1) + 4) (upd H2 so (.tup [V.int k', u])) (.ref so) := any2 upd_same (any_int _ _ _) ((hu2.sm w3).mono (by omega))
      generalize upd H2 so (.tup [V.int k', u]) = H3 at s03 hso3 ⊢
      refine ⟨_, rfl, _, rfl, _, rfl, _, rfl, sn, vs, rfl, (hA s03).hs, fun p1 H4 s4 hp1 => ?_⟩
      have s04 := s03.trans s4
      refine ⟨_, rfl, by show 1 ≤ sizeLine; decide, fun q1 hq1 => ?_⟩
      have w5 := same_new (o := .tup [V.ref so]) hq1
      have hc1 := cutV_length vs none (some (y1 % ((vs.length : Nat) : Int)))
      refine ⟨p1, q1, _, _, rfl, rfl, w5 _ _ hp1, upd_same, hsz _ (by rw [List.length_singleton]; omega), fun c1 H6 s6 hc6 => ?_⟩
      have s06 := s04.trans (w5.trans s6)
      refine ⟨_, rfl, _, rfl, _, _, rfl, rfl, _, rfl, sn, vs, rfl, (hA s06).hs, fun p2 H7 s7 hp2 => ?_⟩
      have hc2 := cutV_length vs (some (y1 % ((vs.length : Nat) : Int) + 1)) none
      refine ⟨c1, p2, _, _, rfl, rfl, s7 _ _ hc6, hp2, hsz _ (by rw [List.length_append, List.length_singleton]; omega), fun c2 H8 s8 hc8 => ⟨by show 2 ≤ sizeLine; decide, fun y hy => ?_⟩⟩
      have w9 := same_new (o := .tup [V.int p, .ref c2]) hy
      have s09 := s06.trans (s7.trans (s8.trans w9))
      have s39 := s4.trans (w5.trans (s6.trans (s7.trans (s8.trans w9))))
      refine q (.ref y) _ s09 (fin2 upd_same (any_int _ _ _) (w9 _ _ hc8) (by rw [List.length_append, List.length_append, List.length_singleton]; omega) fun w hw => ?_)
      rcases List.mem_append.mp hw with z | z
      · rcases List.mem_append.mp z with z | z
        · exact up s09 (cut_sub _ z)
        · rw [List.mem_singleton.mp z]
          exact hso3.sm s39
      · exact up s09 (cut_sub _ z)
    rintro σ' H1 ⟨s1, rfl⟩
    refine ⟨_, rfl, lx, _, 2, .int y2, rfl, rfl, SqL.of (s1 _ _ hx), a2, _, _, rfl, rfl, (by decide : (0 : Int) < 9), ?_⟩
    have hs1 := (hA s1).hs
    have pairQ : ∀ {H2 : Hp} {c : Addr} {ws : List V} {x : V}, Same H H2 → H2 c = some (.tup ws) → ws.length ≤ 1000 → (∀ w ∈ ws, AnyD (3 * n + 4) H2 w) → AnyD (3 * n + 5) H2 x → ∀ y, H2 y = none → Q (.ref y) (upd H2 y (.tup [x, .ref c])) := fun {H2 c ws x} s2 hc hl hw hx y hy => by
      have w3 := same_new (o := .tup [x, .ref c]) hy
      exact q (.ref y) _ (s2.trans w3) (fin2 upd_same (hx.sm w3) (w3 _ _ hc) hl fun w hw' => (hw w hw').sm w3)
    refine ⟨_, rfl, rfl, _, rfl, ite2 (fun _ => ?_) (fun _ => ?_)⟩
    · refine ⟨_, rfl, _, _, rfl, rfl, _, rfl, by show 2 ≤ sizeLine; decide, fun y hy => ?_⟩
      exact pairQ s1 hs1 (by omega) (fun w hw => up s1 hw) (any_int _ _ _) y hy
    refine ⟨_, rfl, rfl, _, rfl, ite2 (fun _ => ?_) (fun _ => ?_)⟩
    · refine ⟨_, rfl, _, rfl, _, rfl, sn, vs, rfl, hs1, fun p1 H2 s2 hp1 => ⟨by show 2 ≤ sizeLine; decide, fun y hy => ?_⟩⟩
      have hc1 := cutV_length vs (some 1) none
      exact pairQ (s1.trans s2) hp1 (by omega) (fun w hw => up (s1.trans s2) (cut_sub _ hw)) (any_int _ _ _) y hy
    refine ⟨_, rfl, rfl, _, rfl, ite2 (fun _ => ?_) (fun _ => ?_)⟩
    · refine ⟨_, rfl, _, rfl, _, rfl, lx, _, 3, .int y3, rfl, rfl, SqL.of (s1 _ _ hx), a3, _, _, rfl, rfl, (by decide : (0 : Int) < 9), _, rfl, by show 0 ≤ sizeLine; decide, fun e1 he1 => ⟨by show 2 ≤ sizeLine; decide, fun e2 he2 => ⟨by show 2 ≤ sizeLine; decide, fun e3 he3 => ⟨by show 1 ≤ sizeLine; decide, fun e4 he4 => ?_⟩⟩⟩⟩
      have w1 := same_new (o := .tup []) he1
      have g1 : AnyD 1 (upd H1 e1 (.tup [])) (.ref e1) := any_tup (k := 0) (vs := []) upd_same (by simp) fun w hw => (by cases hw)
      have w2 := same_new (o := .tup [V.int p, .ref e1]) he2
      have g2 : AnyD 2 _ (.ref e2) := any2 upd_same (any_int _ _ p) (g1.sm w2)
      have w3 := same_new (o := .tup [V.int (y3 % 9), .ref e2]) he3
      have g3 : AnyD 3 _ (.ref e3) := any2 upd_same (any_int _ _ (y3 % 9)) (g2.sm w3)
      have w4 := same_new (o := .tup [V.ref e3]) he4
      have s14 := w1.trans (w2.trans (w3.trans w4))
      refine ⟨sn, e4, _, _, rfl, rfl, s14 _ _ hs1, upd_same, hsz _ (by rw [List.length_singleton]; omega), fun c H2 s2 hc => ⟨by show 2 ≤ sizeLine; decide, fun y hy => ?_⟩⟩
      have s02 := s1.trans (s14.trans s2)
      refine pairQ s02 hc (by rw [List.length_append, List.length_singleton]; omega) (fun w hw => ?_) (any_int _ _ _) y hy
      rcases List.mem_append.mp hw with z | z
      · exact up s02 z
      · rw [List.mem_singleton.mp z]
        exact ((g3.sm w4).sm s2).mono (by omega)
    refine ⟨_, rfl, rfl, _, rfl, ite2 (fun _ => ?_) (fun _ => ?_)⟩
    · refine ⟨_, rfl, _, rfl, _, rfl, _, rfl, sn, vs, rfl, hs1, fun p1 H2 s2 hp1 => ?_⟩
      have hc1 := cutV_length vs none (some 1)
      refine ⟨sn, p1, _, _, rfl, rfl, s2 _ _ hs1, hp1, hsz _ (by omega), fun c H3 s3 hc => ⟨by show 2 ≤ sizeLine; decide, fun y hy => ?_⟩⟩
      have s03 := s1.trans (s2.trans s3)
      refine pairQ s03 hc (by rw [List.length_append]; omega) (fun w hw => ?_) (any_int _ _ _) y hy
      rcases List.mem_append.mp hw with z | z
      · exact up s03 z
      · exact up s03 (cut_sub _ z)
    refine ⟨_, rfl, rfl, _, rfl, ite2 (fun _ => ?_) (fun _ => ?_)⟩
    · refine ⟨_, rfl, _, rfl, .inr ⟨sn, vs, rfl, SqT.of hs1, fun c hc => ⟨by show 2 ≤ sizeLine; decide, fun y hy => ?_⟩⟩⟩
      have w2 := same_new (o := .tup vs.reverse) hc
      exact pairQ (s1.trans w2) upd_same (by rw [List.length_reverse]; omega) (fun w hw => up (s1.trans w2) (List.mem_reverse.mp hw)) (any_int _ _ _) y hy
    have hsnA : ∀ {H' : Hp}, Same H H' → AnyD (3 * n + 5) H' (.ref sn) := fun s => any_tup (hA s).hs (by omega) fun w hw => up s hw
    have lastQ : ∀ {H2 : Hp} {ws : List V} {w : V}, Same H H2 → (∀ w ∈ ws, AnyD (3 * n + 6) H2 w) → w ∈ ws → Q w H2 := fun s2 hw hm => q _ _ s2 (hw _ hm)
    refine ⟨_, rfl, rfl, _, rfl, ite2 (fun _ => ?_) (fun _ => ?_)⟩
    · refine ⟨_, rfl, rfl, _, rfl, by show 2 ≤ sizeLine; decide, fun e1 he1 => ⟨_, rfl, _, _, rfl, rfl, _, rfl, by show 2 ≤ sizeLine; decide, fun e2 he2 => ⟨by show 2 ≤ sizeLine; decide, fun e3 he3 => ?_⟩⟩⟩
      have w1 := same_new (o := .tup [V.bl (decide (V.int p = V.int 1)), .ref sn]) he1
      have g1 : AnyD (3 * n + 6) _ (.ref e1) := any2 upd_same (any_bl _ _ (decide (V.int p = V.int 1))) (hsnA (s1.trans w1))
      have w2 := same_new (o := .tup [V.bl (decide (p > 0)), .ref sn]) he2
      have g2 : AnyD (3 * n + 6) _ (.ref e2) := any2 upd_same (any_bl _ _ (decide (p > 0))) (hsnA (s1.trans (w1.trans w2)))
      have w3 := same_new (o := .lst [V.ref e1, .ref e2]) he3
      have s03 := s1.trans (w1.trans (w2.trans w3))
      obtain ⟨x, hxm, hxa⟩ := at_mod (ws := [V.ref e1, .ref e2]) (by simp) y3
      refine ⟨_, rfl, lx, _, 3, .int y3, rfl, rfl, SqL.of (s03 _ _ hx), a3, _, _, rfl, rfl, (by decide : (0 : Int) < 2), e3, _, _, x, rfl, rfl, SqL.of upd_same, hxa, ?_⟩
      refine q x _ s03 ?_
      simp only [List.mem_cons, List.not_mem_nil, or_false] at hxm
      rcases hxm with rfl | rfl
      · exact (g1.sm w2).sm w3
      · exact g2.sm w3
    refine ⟨_, rfl, rfl, _, rfl, ite2 (fun _ => ?_) (fun _ => ?_)⟩
    · refine ⟨_, rfl, _, rfl, by show 2 ≤ sizeLine; decide, fun e1 he1 => ⟨_, rfl, _, rfl, sn, vs, rfl, .inr (SqT.of ((same_new he1) _ _ hs1)), fun e2 he2 => ⟨by show 2 ≤ sizeLine; decide, fun e3 he3 => ⟨_, rfl, by show 1 ≤ sizeLine; decide, fun e4 he4 => ⟨_, rfl, _, rfl, by show 0 ≤ sizeLine; decide, fun e5 he5 => ⟨by show 3 ≤ sizeLine; decide, fun e6 he6 => ⟨by show 4 ≤ sizeLine; decide, fun lw hlw => ?_⟩⟩⟩⟩⟩⟩⟩
      have w1 := same_new (o := .lst [V.int p, .ref sn]) he1
      have g1 : AnyD (3 * n + 6) _ (.ref e1) := any_lst (vs := [V.int p, V.ref sn]) upd_same (by simp) fun w hw => by
        simp only [List.mem_cons, List.not_mem_nil, or_false] at hw
        rcases hw with rfl | rfl
        · exact any_int _ _ _
        · exact hsnA (s1.trans w1)
      have w2 := same_new (o := .lst vs) he2
      have s02 := s1.trans (w1.trans w2)
      have g2 : AnyD (3 * n + 5) _ (.ref e2) := any_lst (vs := vs) upd_same (by omega) fun w hw => up s02 hw
      have w3 := same_new (o := .tup [V.int p, .ref e2]) he3
      have g3 : AnyD (3 * n + 6) _ (.ref e3) := any2 upd_same (any_int _ _ _) (g2.sm w3)
      have w4 := same_new (o := .tup [V.int p]) he4
      have g4 : AnyD (3 * n + 6) _ (.ref e4) := any_newT (k := 3 * n + 5) w4 (by simp) fun w hw => by
        rw [List.mem_singleton.mp hw]
        exact any_int _ _ _
      have w5 := same_new (o := .tup []) he5
      have g5 : AnyD (3 * n + 5) _ (.ref e5) := any_newT (k := 3 * n + 4) w5 (by simp) fun w hw => (by cases hw)
      have w6 := same_new (o := .tup [V.int p, .ref sn, .ref e5]) he6
      have s06 := s02.trans (w3.trans (w4.trans (w5.trans w6)))
      have g6 : AnyD (3 * n + 6) _ (.ref e6) := any_newT w6 (by simp) fun w hw => by
        simp only [List.mem_cons, List.not_mem_nil, or_false] at hw
        rcases hw with rfl | rfl | rfl
        · exact any_int _ _ _
        · exact hsnA s06
        · exact g5.sm w6
      have w7 := same_new (o := .lst [V.ref e1, .ref e3, .ref e4, .ref e6]) hlw
      have s07 := s06.trans w7
      have hw7 : ∀ w ∈ [V.ref e1, .ref e3, .ref e4, .ref e6], AnyD (3 * n + 6) _ w := fun w hw => by
        simp only [List.mem_cons, List.not_mem_nil, or_false] at hw
        rcases hw with rfl | rfl | rfl | rfl
        · exact g1.sm (w2.trans (w3.trans (w4.trans (w5.trans (w6.trans w7)))))
        · exact g3.sm (w4.trans (w5.trans (w6.trans w7)))
        · exact g4.sm (w5.trans (w6.trans w7))
        · exact g6.sm w7
      have hlw7 := at_new w7
      generalize upd _ lw (.lst [V.ref e1, .ref e3, .ref e4, .ref e6]) = H7 at s07 hw7 hlw7 ⊢
      refine ⟨_, rfl, _, rfl, _, rfl, sn, vs, rfl, (hA s07).hs, fun c8 H8 s8 hc8 => ?_⟩
      have s08 := s07.trans s8
      have hcl := cutV_length vs (some (-1)) none
      refine ⟨c8, rfl, ⟨_, SqT.of hc8⟩, for_tup (K := K) (a := c8) (xs := cutV vs (some (-1)) none) (fun i σ H9 => Same H8 H9 ∧ ∃ (lw : Addr) (ws : List V) (x6 : Option V), H9 lw = some (.lst ws) ∧ (∀ w ∈ ws, AnyD (3 * n + 6) H9 w) ∧ ws.length = 4 + 5 * i ∧ σ = [some (.ref a), some (.ref lx), some (.int dp), some (.int p), some (.ref sn), none, x6, some (.int (y2 % 9)), some (.ref lw)]) ⟨Same.refl _, lw, _, none, s8 _ _ hlw7, fun w hw => (hw7 w hw).sm s8, rfl, rfl⟩ (fun i σ H9 _ ⟨e, _⟩ => SqT.of (e _ _ hc8)) ?_ ?_⟩
      · rintro i x σ H9 hi ⟨s9, lw, ws, x6, hlw9, hw9, hwl, rfl⟩
        have hil := (List.getElem?_eq_some_iff.mp hi).1
        have s09 := s08.trans s9
        have hxv : x ∈ vs := cut_sub x (List.mem_of_getElem? hi)
        obtain ⟨c, k', ww, d', rfl, hc, hd', hn'⟩ := (hA s09).at_ x hxv
        have hwwA : ∀ {H' : Hp}, Same H9 H' → AnyD (3 * n) H' ww := fun s => ⟨d', DtD.same s _ (TrD.dt d' hd'), hn'.bd⟩
        have hcl1 := cutV_length vs none (some (-1))
        refine ⟨_, rfl, _, rfl, _, rfl, _, rfl, _, rfl, sn, vs, rfl, (hA s09).hs, fun p1 H10 s10 hp1 => ?_⟩
        have s010 := s09.trans s10
        refine ⟨_, rfl, by show 1 ≤ sizeLine; decide, fun q1 hq1 => ?_⟩
        have w11 := same_new (o := .tup [V.int 0]) hq1
        refine ⟨c, q1, _, _, rfl, rfl, (s10.trans w11) _ _ hc, upd_same, by show 3 ≤ sizeLine; decide, fun q2 H12 s12 hq2 => ⟨by show 1 ≤ sizeLine; decide, fun q3 hq3 => ?_⟩⟩
        have w13 := same_new (o := .tup [V.ref q2]) hq3
        have s1013 := w11.trans (s12.trans w13)
        refine ⟨p1, q3, _, _, rfl, rfl, s1013 _ _ hp1, upd_same, hsz _ (by rw [List.length_singleton]; omega), fun q4 H14 s14 hq4 => ⟨by show 2 ≤ sizeLine; decide, fun q5 hq5 => ?_⟩⟩
        have w15 := same_new (o := .tup [V.int p, .ref q4]) hq5
        have s0914 := s10.trans (s1013.trans s14)
        have gq2 : AnyD (3 * n + 4) H14 (.ref q2) := any_tup (k := 3 * n + 3) ((w13.trans s14) _ _ hq2) (by simp) fun w hw => by
          rcases List.mem_append.mp hw with z | z
          · simp only [List.mem_cons, List.not_mem_nil, or_false] at z
            rcases z with rfl | rfl
            · exact any_int _ _ _
            · exact (hwwA s0914).mono (by omega)
          · rw [List.mem_singleton.mp z]
            exact any_int _ _ _
        have g15 : AnyD (3 * n + 6) _ (.ref q5) := fin2 upd_same (any_int _ _ _) (w15 _ _ hq4) (by rw [List.length_append, List.length_singleton]; omega) fun w hw => by
          rcases List.mem_append.mp hw with z | z
          · exact up (s09.trans (s0914.trans w15)) (cut_sub _ z)
          · rw [List.mem_singleton.mp z]
            exact gq2.sm w15
        have s15 := s0914.trans w15
        generalize upd H14 q5 (.tup [V.int p, .ref q4]) = H15 at s15 g15 ⊢
        have s015 := s09.trans s15
        refine ⟨_, rfl, _, rfl, _, rfl, _, rfl, sn, vs, rfl, (hA s015).hs, fun p2 H16 s16 hp2 => ?_⟩
        refine ⟨_, rfl, _, rfl, c, _, rfl, (s15.trans s16) _ _ hc, fun q6 H17 s17 hq6 => ⟨by show 1 ≤ sizeLine; decide, fun q7 hq7 => ?_⟩⟩
        have w18 := same_new (o := .tup [V.ref q6]) hq7
        refine ⟨p2, q7, _, _, rfl, rfl, (s17.trans w18) _ _ hp2, upd_same, hsz _ (by rw [List.length_singleton]; omega), fun q8 H19 s19 hq8 => ⟨by show 2 ≤ sizeLine; decide, fun q9 hq9 => ⟨by show 2 ≤ sizeLine; decide, fun l1 hl1 => ?_⟩⟩⟩
        have w20 := same_new (o := .tup [V.int p, .ref q8]) hq9
        have s1519 := s16.trans (s17.trans (w18.trans s19))
        have gq6 : AnyD (3 * n + 4) H19 (.ref q6) := any_tup (k := 3 * n + 3) ((w18.trans s19) _ _ hq6) (by have := cutV_length [V.int k', ww] none (some 1); simp at this; omega) fun w hw => by
          have hw' := cut_sub _ hw
          simp only [List.mem_cons, List.not_mem_nil, or_false] at hw'
          rcases hw' with rfl | rfl
          · exact any_int _ _ _
          · exact (hwwA (s15.trans s1519)).mono (by omega)
        have g20 : AnyD (3 * n + 6) _ (.ref q9) := fin2 upd_same (any_int _ _ _) (w20 _ _ hq8) (by rw [List.length_append, List.length_singleton]; omega) fun w hw => by
          rcases List.mem_append.mp hw with z | z
          · exact up (s015.trans (s1519.trans w20)) (cut_sub _ z)
          · rw [List.mem_singleton.mp z]
            exact gq6.sm w20
        have w21 := same_new (o := .lst [V.ref q5, .ref q9]) hl1
        have s1521 := s1519.trans (w20.trans w21)
        have s921 := s15.trans s1521
        refine ⟨lw, l1, ws, _, rfl, rfl, s921 _ _ hlw9, upd_same, hsz _ (by show ws.length + 2 ≤ 1000; omega), fun l2 hl2 => ?_⟩
        have w22 := same_new (o := .lst (ws ++ [V.ref q5, .ref q9])) hl2
        have s922 := s921.trans w22
        have hw22 : ∀ w ∈ ws ++ [V.ref q5, .ref q9], AnyD (3 * n + 6) _ w := fun w hw => by
          rcases List.mem_append.mp hw with z | z
          · exact (hw9 w z).sm s922
          · simp only [List.mem_cons, List.not_mem_nil, or_false] at z
            rcases z with rfl | rfl
            · exact g15.sm (s1521.trans w22)
            · exact g20.sm (w21.trans w22)
        have hl22 := at_new w22
        generalize upd _ l2 (.lst (ws ++ [V.ref q5, .ref q9])) = H22 at s922 hw22 hl22 ⊢
        have s022 := s09.trans s922
        refine ⟨_, rfl, _, rfl, _, rfl, _, rfl, _, rfl, sn, vs, rfl, (hA s022).hs, fun p3 H23 s23 hp3 => ⟨by show 1 ≤ sizeLine; decide, fun t1 ht1 => ?_⟩⟩
        have w24 := same_new (o := .tup [V.int 5]) ht1
        refine ⟨p3, t1, _, _, rfl, rfl, w24 _ _ hp3, upd_same, hsz _ (by rw [List.length_singleton]; omega), fun t2 H25 s25 ht2 => ⟨by show 2 ≤ sizeLine; decide, fun t3 ht3 => ?_⟩⟩
        have w26 := same_new (o := .tup [V.int p, .ref t2]) ht3
        have s2226 := s23.trans (w24.trans (s25.trans w26))
        have g26 : AnyD (3 * n + 6) _ (.ref t3) := fin2 upd_same (any_int _ _ _) (w26 _ _ ht2) (by rw [List.length_append, List.length_singleton]; omega) fun w hw => by
          rcases List.mem_append.mp hw with z | z
          · exact up (s022.trans s2226) (cut_sub _ z)
          · rw [List.mem_singleton.mp z]
            exact any_int _ _ _
        generalize upd H25 t3 (.tup [V.int p, .ref t2]) = H26 at s2226 g26 ⊢
        have s026 := s022.trans s2226
        refine ⟨_, rfl, _, rfl, _, rfl, _, rfl, sn, vs, rfl, (hA s026).hs, fun p4 H27 s27 hp4 => ?_⟩
        have s927 := s922.trans (s2226.trans s27)
        refine ⟨_, rfl, c, _, rfl, .inr (SqT.of (s927 _ _ hc)), fun t4 ht4 => ⟨by show 1 ≤ sizeLine; decide, fun t5 ht5 => ?_⟩⟩
        have w28 := same_new (o := .lst [V.int k', ww]) ht4
        have g28 : AnyD (3 * n + 4) _ (.ref t4) := any_lst (k := 3 * n + 3) (vs := [V.int k', ww]) upd_same (by simp) fun w hw => by
          simp only [List.mem_cons, List.not_mem_nil, or_false] at hw
          rcases hw with rfl | rfl
          · exact any_int _ _ _
          · exact (hwwA (s927.trans w28)).mono (by omega)
        have w29 := same_new (o := .tup [V.ref t4]) ht5
        refine ⟨p4, t5, _, _, rfl, rfl, (w28.trans w29) _ _ hp4, upd_same, hsz _ (by rw [List.length_singleton]; omega), fun t6 H30 s30 ht6 => ⟨by show 2 ≤ sizeLine; decide, fun t7 ht7 => ?_⟩⟩
        have w31 := same_new (o := .tup [V.int p, .ref t6]) ht7
        have s2631 := s27.trans (w28.trans (w29.trans (s30.trans w31)))
        have g31 : AnyD (3 * n + 6) _ (.ref t7) := fin2 upd_same (any_int _ _ _) (w31 _ _ ht6) (by rw [List.length_append, List.length_singleton]; omega) fun w hw => by
          rcases List.mem_append.mp hw with z | z
          · exact up (s026.trans s2631) (cut_sub _ z)
          · rw [List.mem_singleton.mp z]
            exact g28.sm (w29.trans (s30.trans w31))
        generalize upd H30 t7 (.tup [V.int p, .ref t6]) = H31 at s2631 g31 ⊢
        have s031 := s026.trans s2631
        refine ⟨_, rfl, by show 1 ≤ sizeLine; decide, fun t8 ht8 => ?_⟩
        have w32 := same_new (o := .tup [V.non]) ht8
        refine ⟨_, rfl, t8, sn, _, _, rfl, rfl, upd_same, (hA (s031.trans w32)).hs, hsz _ (by rw [List.length_singleton]; omega), fun t9 H33 s33 ht9 => ⟨by show 2 ≤ sizeLine; decide, fun ta hta => ⟨by show 3 ≤ sizeLine; decide, fun l3 hl3 => ?_⟩⟩⟩
        have w34 := same_new (o := .tup [V.int p, .ref t9]) hta
        have s3134 := w32.trans (s33.trans w34)
        have g34 : AnyD (3 * n + 6) _ (.ref ta) := fin2 upd_same (any_int _ _ _) (w34 _ _ ht9) (by rw [List.length_append, List.length_singleton]; omega) fun w hw => by
          rcases List.mem_append.mp hw with z | z
          · rw [List.mem_singleton.mp z]
            exact any_non _ _
          · exact up (s031.trans s3134) z
        have w35 := same_new (o := .lst [V.ref t3, .ref t7, .ref ta]) hl3
        have s2235 := s2226.trans (s2631.trans (s3134.trans w35))
        refine ⟨l2, l3, _, _, rfl, rfl, s2235 _ _ hl22, upd_same, hsz _ (by rw [List.length_append]; show ws.length + 2 + 3 ≤ 1000; omega), fun l4 hl4 => ?_⟩
        have w36 := same_new (o := .lst (ws ++ [V.ref q5, .ref q9] ++ [V.ref t3, .ref t7, .ref ta])) hl4
        refine ⟨s9.trans (s922.trans (s2235.trans w36)), l4, _, _, upd_same, fun w hw => ?_, by rw [List.length_append, List.length_append, hwl]; show 4 + 5 * i + 2 + 3 = _; omega, rfl⟩
        rcases List.mem_append.mp hw with z | z
        · exact (hw22 w z).sm (s2235.trans w36)
        · simp only [List.mem_cons, List.not_mem_nil, or_false] at z
          rcases z with rfl | rfl | rfl
          · exact g26.sm (s2631.trans (s3134.trans (w35.trans w36)))
          · exact g31.sm (s3134.trans (w35.trans w36))
          · exact g34.sm (w35.trans w36)
      · rintro σ H9 ⟨s9, lw, ws, x6, hlw9, hw9, hwl, rfl⟩
        have s09 := s08.trans s9
        have hw0 : 0 < ws.length := by omega
        obtain ⟨x, hxm, hxa⟩ := at_mod hw0 y3
        exact ⟨_, rfl, _, rfl, lx, _, 3, .int y3, rfl, rfl, SqL.of (s09 _ _ hx), a3, _, rfl, lw, ws, rfl, .inl (SqL.of hlw9), _, _, rfl, rfl, by show (0 : Int) < ((ws.length : Nat) : Int); omega, lw, _, _, x, rfl, rfl, SqL.of hlw9, hxa, q x _ s09 (hw9 x hxm)⟩
    refine ⟨_, rfl, rfl, _, rfl, ite2 (fun _ => ?_) (fun _ => ?_)⟩
    · refine ⟨_, rfl, _, rfl, sn, rfl, ⟨_, SqT.of hs1⟩, comp_tup (K := K) (a := sn) (xs := vs) (fun i zs H2 => Same H1 H2 ∧ zs.length = i ∧ ∀ w ∈ zs, AnyD (3 * n + 1) H2 w) ⟨Same.refl _, rfl, fun w hw => (by cases hw)⟩ (fun i zs H2 _ ⟨e, _⟩ => SqT.of (e _ _ hs1)) ?_ ?_⟩
      · rintro i x zs H2 N hi ⟨s2, hzl, hz⟩ nx
        have hil := (List.getElem?_eq_some_iff.mp hi).1
        have s02 := s1.trans s2
        obtain ⟨c, k', ww, d', rfl, hc, hd', hn'⟩ := (hA s02).at_ x (List.mem_of_getElem? hi)
        refine ⟨c, _, rfl, SqT.of hc, rfl, _, _, rfl, _, _, rfl, rfl, (Weak.set (by intro v z; cases z)).trans (Weak.set (by intro v z; cases z)), ?_⟩
        refine ⟨_, rfl, rfl, _, rfl, by show 2 ≤ sizeLine; decide, fun e he => ?_⟩
        have w3 := same_new (o := .tup [V.bl (decide (V.int k' = V.int 1)), ww]) he
        refine ⟨Nat.lt_of_le_of_lt (show zs.length ≤ 60 by omega) (by decide), nx _ _ ⟨s2.trans w3, by rw [List.length_append, hzl]; rfl, fun w hw => ?_⟩⟩
        rcases List.mem_append.mp hw with z | z
        · exact (hz w z).sm w3
        · rw [List.mem_singleton.mp z]
          exact any2 upd_same (any_bl _ _ _) ⟨d', DtD.same w3 _ (TrD.dt d' hd'), hn'.bd⟩
      · rintro zs H2 ⟨s2, hzl, hz⟩
        refine ⟨Nat.le_trans (show zs.length ≤ 60 by omega) (by decide), fun e he => ⟨e, _, rfl, .inl ⟨SqL.of upd_same, fun c hc => ⟨by show 2 ≤ sizeLine; decide, fun y hy => ?_⟩⟩⟩⟩
        have w3 := same_new (o := .lst zs) he
        have w4 := same_new (o := .tup zs) hc
        have s24 := w3.trans w4
        exact pairQ (s1.trans (s2.trans s24)) upd_same (by omega) (fun w hw => ((hz w hw).sm s24).mono (by omega)) (any_int _ _ _) y hy
    refine ⟨by show 0 ≤ sizeLine; decide, fun e1 he1 => ⟨by show 0 ≤ sizeLine; decide, fun e2 he2 => ⟨by show 2 ≤ sizeLine; decide, fun e3 he3 => ⟨by show 5 ≤ sizeLine; decide, fun e4 he4 => ?_⟩⟩⟩⟩
    have w1 := same_new (o := .tup []) he1
    have g1 : AnyD 1 (upd H1 e1 (.tup [])) (.ref e1) := any_tup (k := 0) (vs := []) upd_same (by simp) fun w hw => (by cases hw)
    have w2 := same_new (o := .tup []) he2
    have g2 : AnyD 1 _ (.ref e2) := any_newT (k := 0) w2 (by simp) fun w hw => (by cases hw)
    have w3 := same_new (o := .tup [V.non, .ref e2]) he3
    have g3 : AnyD 2 _ (.ref e3) := any2 upd_same (any_non _ _) (g2.sm w3)
    have w4 := same_new (o := .lst [V.non, .int 5, .str "tree", .ref e1, .ref e3]) he4
    have s04 := s1.trans (w1.trans (w2.trans (w3.trans w4)))
    obtain ⟨x, hxm, hxa⟩ := at_mod (ws := [V.non, .int 5, .str "tree", .ref e1, .ref e3]) (by simp) y3
    refine ⟨_, rfl, lx, _, 3, .int y3, rfl, rfl, SqL.of (s04 _ _ hx), a3, _, _, rfl, rfl, (by decide : (0 : Int) < 5), e4, _, _, x, rfl, rfl, SqL.of upd_same, hxa, ?_⟩
    refine q x _ s04 ?_
    simp only [List.mem_cons, List.not_mem_nil, or_false] at hxm
    rcases hxm with rfl | rfl | rfl | rfl | rfl
    · exact any_non _ _
    · exact any_int _ _ _
    · exact any_str _ _ word_tree
    · exact (g1.sm (w2.trans (w3.trans w4))).mono (by omega)
    · exact (g3.sm w4).mono (by omega)
theorem ok_spoilt {f : Addr} {fd : FuncData} (F : Fun K "_law_spoilt" "_law_spoilt" sLSpoilt f fd) (T : TxtB mg) (mS : mg "_law_spoilt" = some (.ref f)) (bS : Binds K fd ["_law_tree_here", "_law_xs", "_law_deep"] []) : ∀ j, FnOk P w K mg base CX0 (j + 2) f fd ["_law_tree_here", "_law_xs", "_law_deep"] (spSpoilt fun n => n ≤ j)
  | 0 => ok_spoilt_step (kk := 1) F T ⟨f, fd, mS, F.kp, bS, FnOk.never⟩ fun vs H Q E h => by
    obtain ⟨_, _, _, _, _, _, _, _, _, _, _, _, _, _, h, _⟩ := h
    exact absurd h (Nat.not_lt_zero _)
  | j + 1 => ok_spoilt_step (kk := j + 2) F T ⟨f, fd, mS, F.kp, bS, ok_spoilt F T mS bS j⟩ fun vs H Q E h => by
    obtain ⟨v, lx, xs, dp, n, d, h1, h2, h3, h4, h5, h6, h7, h8, h9, h10⟩ := h
    exact ⟨v, lx, xs, dp, n, d, h1, h2, h3, h4, h5, h6, h7, h8, Nat.le_of_lt_succ h9, h10⟩
def spIsB : Sp := fun vs H Q _ => ∃ (b : Bool), vs = [.bl b, .bl b] ∧ Q (.bl true) H
theorem scLIs : FnScope ["_law_found", "_law_due_here"] ["_law_found", "_law_due_here"] (defScope sLIs) := ⟨rfl, rfl, rfl, by decide +kernel, rfl, by decide +kernel, by decide +kernel⟩
theorem ok_isB {f : Addr} {fd : FuncData} (F : Fun K "_law_is" "_law_is" sLIs f fd) (T : TxtB mg) : FnOk P w K mg base CX0 1 f fd ["_law_found", "_law_due_here"] spIsB := by
  refine F.okQ scLIs (fun vs H Q E h => ?_) (fun cdv A outer s H vs Q E hr h => ?_)
  · obtain ⟨b, rfl, _⟩ := h
    rfl
  · obtain ⟨b, rfl, q⟩ := h
    refine ⟨_, (qss_one (qs_ret (qe_and (qe_callB call_isinst (by rfl) T.isi PyProof.Rows.boot_isinstance (qac (qv 0) (qac (qe_bltn (v := .ty "bool") rfl T.bool (by decide +kernel) rfl) qa_nil))) (qe_one (qe_cmpR op_eq (qv 0) (qv 1) (nomark _)))))), ?_⟩
    refine ⟨_, rfl, _, _, _, _, rfl, .bl b, rel_ty (kit_bool_boolX K), true, rfl, iteT ⟨_, rfl, _, rfl, rfl, ?_⟩⟩
    rw [decide_eq_true rfl]
    exact q
theorem eqv_non {x : PyData} : PyData.eqv x .none = isNonD x := by
  cases x <;> simp [PyData.eqv, isNonD]
theorem eqv_emp {y : PyData} : PyData.eqv y (.tuple []) = isTupN y 0 := by
  cases y with
  | tuple ds =>
    rw [eqv_nilT]
    show decide (ds = []) = decide (ds.length = 0)
    exact decide_eq_decide.mpr List.length_eq_zero_iff.symm
  | _ => simp [PyData.eqv, isTupN]
theorem eqv_ncT {d : PyData} : PyData.eqv d (.tuple [.none, .tuple []]) = ncT d := by
  cases d with
  | tuple ds =>
    match ds with
    | [] => simp [PyData.eqv, PyData.eqvAll, ncT]
    | [x] => simp [PyData.eqv, PyData.eqvAll, ncT]
    | [x, y] =>
      have h1 := eqv_non (x := x)
      have h2 := eqv_emp (y := y)
      simp only [PyData.eqv, PyData.eqvAll, ncT, h1, h2, Bool.and_true]
    | x :: y :: z :: r => simp [PyData.eqv, PyData.eqvAll, ncT]
  | _ => simp [PyData.eqv, ncT]
theorem nonD_isD {K : PySem.W.Frag} {H : Hp} {x y : Addr} (hx : H x = some (.tup [])) (hy : H y = some (.tup [V.non, .ref x])) : IsD K H (.tuple [.none, .tuple []]) (.ref y) := by
  simp only [IsD, IsDs]
  exact ⟨y, _, rfl, SqT.of hy, _, _, rfl, rfl, _, _, rfl, ⟨x, [], rfl, SqT.of hx, rfl⟩, rfl⟩
def spDueT : Sp := fun vs H Q _ => ∃ (t : Addr) (v : V) (d : PyData) (m : Nat) (bs : List (List Nat)), vs = [.ref t, v] ∧ LayA H t m bs ∧ m ≤ 60 ∧ (∀ b ∈ bs, Blk m b) ∧ bs.length ≤ 9 ∧ DtD H d v ∧ Bd 60 d ∧ ∀ H', Same H H' → Q (.bl (ncF m bs d)) H'
theorem scDue : FnScope ["_law_layout", "_law_tree_here"] ["_law_layout", "_law_tree_here"] (defScope sDue) := ⟨rfl, rfl, rfl, by decide +kernel, rfl, by decide +kernel, by decide +kernel⟩
theorem ok_dueT {f : Addr} {fd : FuncData} (F : Fun K "_law_due" "_law_due" sDue f fd) (T : TxtB mg) (pShut : Pm P w K mg base CX0 11 "_law_shut" ["_law_layout", "_law_left", "_law_had", "_law_tree_here"] (spShutX fun n => n ≤ 9)) : FnOk P w K mg base CX0 12 f fd ["_law_layout", "_law_tree_here"] spDueT := by
  refine F.okQ scDue (fun vs H Q E h => ?_) (fun cdv A outer s H vs Q E hr h => ?_)
  · obtain ⟨t, v, d, m, bs, rfl, _⟩ := h
    rfl
  · obtain ⟨t, v, d, m, bs, rfl, hL, hm, hb, hn, hd, hbd, q⟩ := h
    obtain ⟨lb, ws, ht, hlb, hT, hlen⟩ := id hL
    have hwl := hT.len
    have hu80 := Nat.lt_of_le_of_lt (Nat.add_le_add_left (show 80 ≤ 16 * 11 + 200 by decide) _) (show (A.deeper (PyProof.Rows.envOfC "_law_due" (defScope sDue) s.heap.objs.size f cdv)).units + (16 * 11 + 200) < cLine by have := hr.un; omega)
    refine ⟨_, (qss_cons (qs_if (qt_cmpR (op_inT hu80) (qe_tup qa_nil) (qe_ix ix_tup (qv 0) qe_int (fun _ _ => rfl)) rfl) (qss_one (qs_ret (qe_cmpR (op_eqD hr.units) (qv 1) (qe_tup (qac qe_non (qac (qe_tup qa_nil) qa_nil))) (nomark _)))) qss_nil)
      (qss_cons (qs_if (qt_cmpR (op_eqD hr.units) (qe_ix ix_tup (qv 0) qe_int (fun _ _ => rfl)) (qe_tup qa_nil) (nomark _)) (qss_one (qs_ret qe_bl)) qss_nil)
      (qss_one (qs_ret (qe_callP pShut hr rfl pass0 (qac (qv 0) (qac (qe_callTy (call_list_rngF rfl) (by rfl) T.lst (by decide +kernel) (qac (qe_callTy call_rng2 (by rfl) T.range PyProof.Rows.boot_range (qac qe_int (qac (qe_callB call_len_seq (by rfl) T.len PySem.boot_len (qac (qe_ix ix_tup (qv 0) qe_int (fun _ _ => rfl)) qa_nil)) qa_nil))) qa_nil)) (qac (qe_lst (qac qe_int qa_nil)) (qac (qv 1) qa_nil))))))))), ?_⟩
    refine ⟨by show 0 ≤ sizeLine; decide, fun x hx => ?_⟩
    have w1 := same_new (o := .tup []) hx
    have hx1 : upd H x (.tup []) x = some (.tup []) := upd_same
    generalize upd H x (.tup []) = H1 at w1 hx1 ⊢
    refine ⟨_, rfl, t, _, 1, .ref lb, rfl, rfl, SqT.of (w1 _ _ ht), rfl, .tuple [], bs.map dTup, ?_, ?_, by decide +kernel, shaped_lay bs, _, rfl, ?_⟩
    · simp only [IsD, IsDs]
      exact ⟨x, [], rfl, SqT.of hx1, rfl⟩
    · simp only [IsD]
      exact ⟨lb, ws, rfl, SqT.of (w1 _ _ hlb), tps_isD (hT.sm w1)⟩
    rw [any_nil]
    by_cases hz : [] ∈ bs
    · rw [decide_eq_true hz]
      unfold ncF at q
      rw [if_pos hz] at q
      refine iteT ⟨_, rfl, by show 0 ≤ sizeLine; decide, fun z1 hz1 => ⟨by show 2 ≤ sizeLine; decide, fun z2 hz2 => ?_⟩⟩
      have w3 := same_new (o := .tup []) hz1
      have w4 := same_new (o := .tup [V.non, .ref z1]) hz2
      have s4 := w1.trans (w3.trans w4)
      refine ⟨d, .tuple [.none, .tuple []], DtD.isD d (DtD.same s4 d hd), nonD_isD (w4 _ _ upd_same) upd_same, hbd.sh (by decide), by decide +kernel, ?_⟩
      show Q (V.bl (PyData.eqv d (.tuple [.none, .tuple []]))) _
      rw [eqv_ncT]
      exact q _ s4
    rw [decide_eq_false hz]
    refine iteF ⟨_, rfl, t, _, 1, .ref lb, rfl, rfl, SqT.of (w1 _ _ ht), rfl, by show 0 ≤ sizeLine; decide, fun y hy => ?_⟩
    have w2 := same_new (o := .tup []) hy
    have s2 := w1.trans w2
    refine ⟨.tuple (bs.map dTup), .tuple [], by simp only [IsD]; exact ⟨lb, ws, rfl, SqT.of (s2 _ _ hlb), tps_isD (hT.sm s2)⟩, by simp only [IsD, IsDs]; exact ⟨y, [], rfl, SqT.of upd_same, rfl⟩, shaped_lay bs, by decide +kernel, _, rfl, ?_⟩
    show if PyData.eqv (.tuple (bs.map dTup)) (.tuple []) = true then _ else _
    rw [eqv_nilT]
    unfold ncF at q
    rw [if_neg hz] at q
    by_cases hbe : bs = []
    · subst hbe
      have : shF m [] 13 [] d = false := shF_full (n := 12) rfl rfl
      rw [this] at q
      rw [show decide (([] : List (List Nat)).map dTup = []) = true from decide_eq_true rfl]
      exact iteT (q _ s2)
    rw [decide_eq_false (by intro z; exact hbe (List.map_eq_nil_iff.mp z))]
    generalize upd H1 y (.tup []) = H2 at s2 ⊢
    have hbp : 1 ≤ bs.length := List.length_pos_iff.mpr hbe
    obtain ⟨n', hn'⟩ : ∃ n', bs.length = 1 + n' := ⟨bs.length - 1, by omega⟩
    have eL : leftB bs.length [] = 0 :: (List.range n').map fun p => 1 + p := by
      unfold leftB
      rw [show ((List.range bs.length).filter fun k => decide (k ∉ ([] : List (List Nat)).flatten)) = List.range bs.length from List.filter_eq_self.mpr fun x _ => by simp, hn', Nat.add_comm, List.range_succ_eq_map]
      congr 1
      exact List.map_congr_left fun x _ => by show x + 1 = 1 + x; omega
    have eL2 := leftB_tail eL
    refine iteF ⟨_, rfl, _, rfl, t, _, 1, .ref lb, rfl, rfl, SqT.of (s2 _ _ ht), rfl, lb, ws, rfl, .inr (SqT.of (s2 _ _ hlb)), 1, ((ws.length : Nat) : Int), rfl, fun rg hrg => ⟨rg, 1, n', rfl, ?_, by decide, by omega, fun ll hll => ?_⟩⟩
    · rw [show (((1 + n' : Nat)) : Int) = ((ws.length : Nat) : Int) by omega]
      exact upd_same
    have w3 := same_new (o := .rng 1 ((ws.length : Nat) : Int)) hrg
    have w4 := same_new (o := .lst ((List.range n').map fun p => V.int ((1 + p : Nat) : Int))) hll
    refine ⟨by show 1 ≤ sizeLine; decide, fun h0 hh0 => ?_⟩
    have w5 := same_new (o := .lst [V.int 0]) hh0
    have s5 := s2.trans (w3.trans (w4.trans w5))
    rw [shF_step (rows := []) rfl eL] at q
    refine ⟨_, rfl, t, ll, h0, v, m, 13, bs, [], [0], d, rfl, hL.sm s5, hm, hb, by omega, ?_, upd_same, ?_, ?_, DtD.same s5 d hd, hbd, ?_, fun H' s' => q _ (s5.trans s')⟩
    · rw [show ([] : List (List Nat)) ++ [[0]] = [] ++ [[0]] from rfl, eL2]
      have : ((List.range n').map fun p => V.int ((1 + p : Nat) : Int)) = nats ((List.range n').map fun p => 1 + p) := by
        unfold nats
        rw [List.map_map]
        rfl
      rw [← this]
      exact w5 _ _ upd_same
    · exact RO.more ⟨List.nodup_nil, fun r hr => (by cases hr), fun r hr => (by cases hr)⟩ (by omega) (by simp)
    · show bs.length < 13 + 1
      omega
    · rw [eL2, List.length_map, List.length_range]
      omega
theorem hi12 (L : Nat) : ∃ hi : Nat, (if (if (12 : Int) < (L : Int) then 12 else (L : Int)) > 8 then (if (12 : Int) < (L : Int) then 12 else (L : Int)) else 8) = (hi : Int) ∧ 8 ≤ hi ∧ hi ≤ 12 := by
  by_cases h1 : (12 : Int) < (L : Int)
  · rw [if_pos h1]
    exact ⟨12, by decide, by decide, by decide⟩
  · rw [if_neg h1]
    by_cases h2 : (L : Int) > 8
    · rw [if_pos h2]
      exact ⟨L, rfl, by omega, by omega⟩
    · rw [if_neg h2]
      exact ⟨8, rfl, by decide, by decide⟩
theorem node_ne {n : Nat} {d : PyData} (h : Node n d) : PyData.eqv d (.tuple [.none, .tuple []]) = false := by
  rw [eqv_ncT]
  cases n with
  | zero => exact h.elim
  | succ n =>
    obtain ⟨p, ds, rfl, _⟩ := h
    rfl
theorem scLaw : FnScope ["_law_script", "_law_layout", "_law_tree_here", "_law_k", "_law_xs", "_law_worse"] ["_law_script"] (defScope sLaw) := ⟨rfl, rfl, rfl, by decide +kernel, rfl, by decide +kernel, by decide +kernel⟩
theorem ok_law {f : Addr} {fd : FuncData} (F : Fun K "law" "law" sLaw f fd) (T : TxtB mg) (pCell : Pm P w K mg base CX0 1 "_law_cell" ["_law_script", "_law_k"] (spCell2 K)) (pLNumbers : Pm P w K mg base CX0 1 "_law_numbers" ["_law_cell_here", "_law_many"] spNums) (pPart : Pm P w K mg base CX0 2 "_law_parting" ["_law_script", "_law_at"] (spParting K)) (pTree : Pm P w K mg base CX0 10 "_law_tree" ["_law_layout", "_law_left", "_law_had"] (spTree fun n => n ≤ 8)) (pSpoilt : Pm P w K mg base CX0 12 "_law_spoilt" ["_law_tree_here", "_law_xs", "_law_deep"] (spSpoilt fun n => n ≤ 10)) (pNc : Pm P w K mg base CX0 31 "no_classes" ["M", "tree"] spNoCls) (pDue : Pm P w K mg base CX0 12 "_law_due" ["_law_layout", "_law_tree_here"] spDueT) (pIs : Pm P w K mg base CX0 1 "_law_is" ["_law_found", "_law_due_here"] spIsB) : FnOk P w K mg base CX0 45 f fd ["_law_script"] (spLaw K) := by
  refine F.okQ scLaw (fun vs H Q E h => ?_) (fun cdv A outer s H vs Q E hr h => ?_)
  · obtain ⟨a, ns, rfl, _⟩ := h
    rfl
  · obtain ⟨a, ns, rfl, hS, hns, k⟩ := h
    have hr1 := hr.mono (show 1 ≤ 44 by decide)
    have hr2 := hr.mono (show 2 ≤ 44 by decide)
    have hr10 := hr.mono (show 10 ≤ 44 by decide)
    have hr12 := hr.mono (show 12 ≤ 44 by decide)
    have hr31 := hr.mono (show 31 ≤ 44 by decide)
    have hu80 := Nat.lt_of_le_of_lt (Nat.add_le_add_left (show 80 ≤ 16 * 44 + 200 by decide) _) (show (A.deeper (PyProof.Rows.envOfC "law" (defScope sLaw) s.heap.objs.size f cdv)).units + (16 * 44 + 200) < cLine by have := hr.un; omega)
    refine ⟨_, (qss_cons (qs_set (i := 1) scLaw.nd rfl (Or.inl rfl) (qe_callP pPart hr2 rfl pass0 (qac (qv 0) (qac qe_int qa_nil))))
      (qss_cons (qs_set (i := 2) scLaw.nd rfl (Or.inl rfl) (qe_tup (qac qe_non (qac (qe_tup qa_nil) qa_nil))))
      (qss_cons (qs_if (QW.pt (qw_and (qt_cmpR (op_neD hr.units) (qe_ix ix_tup (qv 1) qe_int (fun _ _ => rfl)) (qe_tup qa_nil) (nomark _)) (qw_and1 (qt_cmpR (op_notInT hu80) (qe_tup qa_nil) (qe_ix ix_tup (qv 1) qe_int (fun _ _ => rfl)) rfl)))) (qss_one (qs_set (i := 2) scLaw.nd rfl (Or.inl rfl) (qe_callP pTree hr10 rfl pass0 (qac (qv 1) (qac (qe_callTy (call_list_rngF rfl) (by rfl) T.lst (by decide +kernel) (qac (qe_callTy call_rng2 (by rfl) T.range PyProof.Rows.boot_range (qac qe_int (qac (qe_callB call_len_seq (by rfl) T.len PySem.boot_len (qac (qe_ix ix_tup (qv 1) qe_int (fun _ _ => rfl)) qa_nil)) qa_nil))) qa_nil)) (qac (qe_lst (qac qe_int qa_nil)) qa_nil)))))) qss_nil)
      (qss_cons (qs_if (qt_not (qt_val (qe_callP pIs hr1 rfl pass0 (qac (qe_callP pNc hr31 rfl pass0 (qac (qv 1) (qac (qv 2) qa_nil))) (qac (qe_callP pDue hr12 rfl pass0 (qac (qv 1) (qac (qv 2) qa_nil))) qa_nil))))) (qss_one (qs_ret qe_bl)) qss_nil)
      (qss_cons (qs_for PassesOwn.never rfl (qi_range2 rfl T.range (qac qe_int (qac (qe_callB (call_max2 rfl) (by rfl) T.max PyProof.Rows.boot_max (qac qe_int (qac (qe_callB (call_min2 rfl) (by rfl) T.min PyProof.Rows.boot_min (qac (qe_callB call_len_seq (by rfl) T.len PySem.boot_len (qac (qv 0) qa_nil)) (qac qe_int qa_nil))) qa_nil))) qa_nil))) (qg_name (i := 3) scLaw.nd rfl (Or.inl rfl))
        (qss_cons (qs_set (i := 4) scLaw.nd rfl (Or.inl rfl) (qe_callP pLNumbers hr1 rfl pass0 (qac (qe_callP pCell hr1 rfl pass0 (qac (qv 0) (qac (qv 3) qa_nil))) (qac qe_int qa_nil))))
        (qss_cons (qs_set (i := 5) scLaw.nd rfl (Or.inl rfl) (qe_lst (qac qe_non (qac qe_int (qac qe_str (qac (qe_tup qa_nil) (qac (qe_tup (qac qe_int (qac (qe_tup qa_nil) qa_nil))) (qac (qe_tup (qac qe_non (qac (qe_tup qa_nil) qa_nil))) (qac (qe_lst (qac qe_non (qac (qe_tup qa_nil) qa_nil))) (qac (qe_tup (qac qe_non (qac (qe_lst qa_nil) qa_nil))) (qac (qe_tup (qac qe_non (qac (qe_tup (qac (qe_tup (qac qe_int (qac (qe_tup qa_nil) qa_nil))) qa_nil)) qa_nil))) (qac (qe_tup (qac qe_non (qac qe_int qa_nil))) qa_nil))))))))))))
        (qss_cons (qs_set (i := 5) scLaw.nd rfl (Or.inl rfl) (qe_ix ix_list (qv 5) (qe_op op_mod (qe_ix ix_list (qv 4) qe_int (fun _ _ => rfl)) qe_int) (fun _ _ => rfl)))
        (qss_cons (qs_if (qt_cmpR (op_neD hr.units) (qv 2) (qe_tup (qac qe_non (qac (qe_tup qa_nil) qa_nil))) (nomark _)) (qss_one (qs_set (i := 5) scLaw.nd rfl (Or.inl rfl) (qe_callP pSpoilt hr12 rfl pass0 (qac (qv 2) (qac (qv 4) (qac qe_int qa_nil)))))) qss_nil)
        (qss_one (qs_if (qt_not (qt_val (qe_callP pIs hr1 rfl pass0 (qac (qe_callP pNc hr31 rfl pass0 (qac (qv 1) (qac (qv 5) qa_nil))) (qac (qe_callP pDue hr12 rfl pass0 (qac (qv 1) (qac (qv 5) qa_nil))) qa_nil))))) (qss_one (qs_ret qe_bl)) qss_nil)))))))
      (qss_one (qs_ret qe_bl))))))), ?_⟩
    refine ⟨_, rfl, a, ns, 0, rfl, hS, by decide, fun t lb m ws bs H1 s1 ht hlb hT h1 h6 hn hb4 => ?_⟩
    have hb : ∀ b ∈ bs, Blk m b := fun b h => (hb4 b h).blk
    have hwl := hT.len
    have hLA : ∀ {H' : Hp}, Same H1 H' → LayA H' t m bs := fun s => ⟨lb, ws, s _ _ ht, s _ _ hlb, hT.sm s, by omega⟩
    refine ⟨by show 0 ≤ sizeLine; decide, fun e1 he1 => ⟨by show 2 ≤ sizeLine; decide, fun e2 he2 => ?_⟩⟩
    have w1 := same_new (o := .tup []) he1
    have w2 := same_new (o := .tup [V.non, .ref e1]) he2
    have s12 := w1.trans w2
    have hd2 : TrD (upd (upd H1 e1 (.tup [])) e2 (.tup [V.non, .ref e1])) (.tuple [.none, .tuple []]) (.ref e2) := by
      simp only [TrD, TrDs]
      exact ⟨e2, _, rfl, upd_same, _, _, rfl, rfl, _, _, rfl, ⟨e1, _, rfl, w2 _ _ upd_same, rfl⟩, rfl⟩
    generalize upd (upd H1 e1 (.tup [])) e2 (.tup [V.non, .ref e1]) = H2 at s12 hd2 ⊢
    dsimp only
    refine seqVia (fun σ' H' => Same H1 H' ∧ ∃ (v : V) (d : PyData), TrD H' d v ∧ (d = .tuple [.none, .tuple []] ∨ Node 9 d) ∧ σ' = [some (.ref a), some (.ref t), some v, none, none, none]) ?_ (fun D' go => ?_)
    rotate_left
    · refine ⟨_, rfl, t, _, 1, .ref lb, rfl, rfl, SqT.of (s12 _ _ ht), rfl, by show 0 ≤ sizeLine; decide, fun x hx => ?_⟩
      have w3 := same_new (o := .tup []) hx
      have s13 := s12.trans w3
      have hd3 : TrD (upd H2 x (.tup [])) (.tuple [.none, .tuple []]) (.ref e2) := TrD.imp (fun b xs q => w3 _ _ q) _ hd2
      have hx3 : upd H2 x (.tup []) x = some (.tup []) := upd_same
      generalize upd H2 x (.tup []) = H3 at s13 hd3 hx3 ⊢
      refine ⟨.tuple (bs.map dTup), .tuple [], by simp only [IsD]; exact ⟨lb, ws, rfl, SqT.of (s13 _ _ hlb), tps_isD (hT.sm s13)⟩, by simp only [IsD, IsDs]; exact ⟨x, [], rfl, SqT.of hx3, rfl⟩, shaped_lay bs, by decide +kernel, _, rfl, ?_⟩
      show if (!PyData.eqv (.tuple (bs.map dTup)) (.tuple [])) = true then _ else _
      rw [eqv_nilT]
      by_cases hbe : bs = []
      · rw [decide_eq_true (by rw [hbe]; rfl)]
        exact iteF (iteF (go _ _ ⟨s13, _, _, hd3, .inl rfl, rfl⟩))
      rw [decide_eq_false (by intro z; exact hbe (List.map_eq_nil_iff.mp z))]
      refine iteT ⟨by show 0 ≤ sizeLine; decide, fun y hy => ?_⟩
      have w4 := same_new (o := .tup []) hy
      have s14 := s13.trans w4
      have hd4 : TrD (upd H3 y (.tup [])) (.tuple [.none, .tuple []]) (.ref e2) := TrD.imp (fun b xs q => w4 _ _ q) _ hd3
      have hy4 : upd H3 y (.tup []) y = some (.tup []) := upd_same
      generalize upd H3 y (.tup []) = H4 at s14 hd4 hy4 ⊢
      refine ⟨_, rfl, t, _, 1, .ref lb, rfl, rfl, SqT.of (s14 _ _ ht), rfl, .tuple [], bs.map dTup, by simp only [IsD, IsDs]; exact ⟨y, [], rfl, SqT.of hy4, rfl⟩, by simp only [IsD]; exact ⟨lb, ws, rfl, SqT.of (s14 _ _ hlb), tps_isD (hT.sm s14)⟩, by decide +kernel, shaped_lay bs, _, rfl, ?_⟩
      rw [any_nil]
      by_cases hz : [] ∈ bs
      · rw [decide_eq_true hz]
        exact iteF (go _ _ ⟨s14, _, _, hd4, .inl rfl, rfl⟩)
      rw [decide_eq_false hz]
      have hbp : 1 ≤ bs.length := List.length_pos_iff.mpr hbe
      obtain ⟨n', hn'⟩ : ∃ n', bs.length = 1 + n' := ⟨bs.length - 1, by omega⟩
      refine iteT ⟨_, rfl, _, rfl, t, _, 1, .ref lb, rfl, rfl, SqT.of (s14 _ _ ht), rfl, lb, ws, rfl, .inr (SqT.of (s14 _ _ hlb)), 1, ((ws.length : Nat) : Int), rfl, fun rg hrg => ⟨rg, 1, n', rfl, ?_, by decide, by omega, fun ll hll => ?_⟩⟩
      · rw [show (((1 + n' : Nat)) : Int) = ((ws.length : Nat) : Int) by omega]
        exact upd_same
      have w5 := same_new (o := .rng 1 ((ws.length : Nat) : Int)) hrg
      have w6 := same_new (o := .lst ((List.range n').map fun p => V.int ((1 + p : Nat) : Int))) hll
      refine ⟨by show 1 ≤ sizeLine; decide, fun h0 hh0 => ?_⟩
      have w7 := same_new (o := .lst [V.int 0]) hh0
      have s17 := s14.trans (w5.trans (w6.trans w7))
      have eN : ((List.range n').map fun p => V.int ((1 + p : Nat) : Int)) = nats ((List.range n').map fun p => 1 + p) := by
        unfold nats
        rw [List.map_map]
        rfl
      refine ⟨t, ll, h0, m, bs, (List.range n').map fun p => 1 + p, [0], rfl, hLA s17, by omega, hb, by rw [← eN]; exact w7 _ _ upd_same, upd_same, fun x hx => ?_, fun x hx => by rw [List.mem_singleton.mp hx]; omega, by rw [List.length_map, List.length_range, List.length_singleton]; omega, by rw [List.length_map, List.length_range]; omega, fun v d H8 s8 hd8 hn8 => go _ _ ⟨s17.trans s8, v, d, hd8, .inr (hn8.mono (by rw [List.length_map, List.length_range]; omega)), rfl⟩⟩
      obtain ⟨y', hy', rfl⟩ := List.mem_map.mp hx
      have := List.mem_range.mp hy'
      omega
    rintro σ' H3 ⟨s13, v, d, hd3, hcase, rfl⟩
    have hbd : Bd 60 d := by
      rcases hcase with rfl | z
      · exact ⟨by decide +kernel, by decide +kernel, by decide +kernel⟩
      · exact z.bd.mono (by decide)
    refine ⟨_, rfl, _, rfl, t, v, d, m, bs, rfl, hLA s13, by omega, hb, by omega, TrD.dt d hd3, fun H4 s4 => ?_⟩
    have s14 := s13.trans s4
    refine ⟨_, rfl, _, rfl, t, v, d, m, bs, rfl, hLA s14, by omega, hb, hn, DtD.same s4 d (TrD.dt d hd3), hbd, fun H5 s5 => ⟨_, rfl, _, rfl, iteF ?_⟩⟩
    have s15 := s14.trans s5
    have s35 := s4.trans s5
    obtain ⟨hi, ehi, h8, h12⟩ := hi12 (ns.map V.int).length
    refine ⟨_, rfl, a, _, rfl, .inl ((s1.trans s15).seq hS), _, _, rfl, _, _, rfl, 6, (hi : Int), ?_, ⟨by omega, by omega, by omega, by omega⟩, ?_⟩
    · rw [← ehi]
    refine for_range (lo := 6) (n := ((hi : Int) - 6).toNat) (fun i σ H6 => Same H5 H6 ∧ ∃ x3 x4 x5, σ = [some (.ref a), some (.ref t), some v, x3, x4, x5]) ⟨Same.refl _, none, none, none, rfl⟩ ?_ ?_
    rotate_left
    · rintro σ H6 ⟨s6, x3, x4, x5, rfl⟩
      exact k _
    rintro i σ H6 hi6 ⟨s6, x3, x4, x5, rfl⟩
    rw [show ((6 : Int) + ((i : Nat) : Int)) = ((6 + i : Nat) : Int) by omega]
    have s16 := s15.trans s6
    refine ⟨_, rfl, _, rfl, a, ns, 6 + i, rfl, (s1.trans s16).seq hS, by omega, fun c H7 s7 => ⟨c, 4, rfl, by decide, fun lx xs H8 hlx s8 hx8 hxl hxs => ?_⟩⟩
    have s18 := s16.trans (s7.trans s8)
    obtain ⟨y3, a3⟩ := int_at (ns := xs) (i := 3) (by omega)
    refine ⟨by show 0 ≤ sizeLine; decide, fun b1 hb1 => ⟨by show 0 ≤ sizeLine; decide, fun b2 hb2 => ⟨by show 2 ≤ sizeLine; decide, fun b3 hb3 => ⟨by show 0 ≤ sizeLine; decide, fun b4 hb4' => ⟨by show 2 ≤ sizeLine; decide, fun b5 hb5 => ⟨by show 0 ≤ sizeLine; decide, fun b6 hb6 => ⟨by show 2 ≤ sizeLine; decide, fun b7 hb7 => ⟨by show 0 ≤ sizeLine; decide, fun b8 hb8 => ⟨by show 2 ≤ sizeLine; decide, fun b9 hb9 => ⟨by show 0 ≤ sizeLine; decide, fun c1 hc1 => ⟨by show 2 ≤ sizeLine; decide, fun c2 hc2 => ⟨by show 1 ≤ sizeLine; decide, fun c3 hc3 => ⟨by show 2 ≤ sizeLine; decide, fun c4 hc4 => ⟨by show 2 ≤ sizeLine; decide, fun c5 hc5 => ⟨by show 10 ≤ sizeLine; decide, fun lw hlw => ?_⟩⟩⟩⟩⟩⟩⟩⟩⟩⟩⟩⟩⟩⟩⟩
    have u1 := same_new (o := .tup []) hb1
    have g1 : AnyD 50 _ (.ref b1) := any_newT (k := 49) u1 (by simp) fun w hw => (by cases hw)
    have u2 := same_new (o := .tup []) hb2
    have g2 : AnyD 49 _ (.ref b2) := any_newT (k := 48) u2 (by simp) fun w hw => (by cases hw)
    have u3 := same_new (o := .tup [V.int 0, .ref b2]) hb3
    have g3 : AnyD 50 _ (.ref b3) := any2 (at_new u3) (any_int _ _ _) (g2.sm u3)
    have u4 := same_new (o := .tup []) hb4'
    have g4 : AnyD 49 _ (.ref b4) := any_newT (k := 48) u4 (by simp) fun w hw => (by cases hw)
    have u5 := same_new (o := .tup [V.non, .ref b4]) hb5
    have g5 : AnyD 50 _ (.ref b5) := any2 (at_new u5) (any_non _ _) (g4.sm u5)
    have u6 := same_new (o := .tup []) hb6
    have g6 : AnyD 49 _ (.ref b6) := any_newT (k := 48) u6 (by simp) fun w hw => (by cases hw)
    have u7 := same_new (o := .lst [V.non, .ref b6]) hb7
    have g7 : AnyD 50 _ (.ref b7) := any_lst (at_new u7) (by simp) fun w hw => by
      simp only [List.mem_cons, List.not_mem_nil, or_false] at hw
      rcases hw with rfl | rfl
      · exact any_non _ _
      · exact g6.sm u7
    have u8 := same_new (o := .lst []) hb8
    have g8 : AnyD 49 _ (.ref b8) := any_lst (k := 48) (at_new u8) (by simp) fun w hw => (by cases hw)
    have u9 := same_new (o := .tup [V.non, .ref b8]) hb9
    have g9 : AnyD 50 _ (.ref b9) := any2 (at_new u9) (any_non _ _) (g8.sm u9)
    have v1 := same_new (o := .tup []) hc1
    have f1 : AnyD 47 _ (.ref c1) := any_newT (k := 46) v1 (by simp) fun w hw => (by cases hw)
    have v2 := same_new (o := .tup [V.int 0, .ref c1]) hc2
    have f2 : AnyD 48 _ (.ref c2) := any2 (at_new v2) (any_int _ _ _) (f1.sm v2)
    have v3 := same_new (o := .tup [V.ref c2]) hc3
    have f3 : AnyD 49 _ (.ref c3) := any_newT v3 (by simp) fun w hw => by
      rw [List.mem_singleton.mp hw]
      exact f2.sm v3
    have v4 := same_new (o := .tup [V.non, .ref c3]) hc4
    have f4 : AnyD 50 _ (.ref c4) := any2 (at_new v4) (any_non _ _) (f3.sm v4)
    have v5 := same_new (o := .tup [V.non, .int 5]) hc5
    have f5 : AnyD 50 _ (.ref c5) := any2 (at_new v5) (any_non _ _) (any_int _ _ _)
    have v6 := same_new (o := .lst [V.non, .int 5, .str "tree", .ref b1, .ref b3, .ref b5, .ref b7, .ref b9, .ref c4, .ref c5]) hlw
    have z9 := v1.trans (v2.trans (v3.trans (v4.trans (v5.trans v6))))
    have z7 := u8.trans (u9.trans z9)
    have z5 := u6.trans (u7.trans z7)
    have z3 := u4.trans (u5.trans z5)
    have z1 := u2.trans (u3.trans z3)
    have z0 := u1.trans z1
    obtain ⟨x, hxm, hxa⟩ := at_mod (ws := [V.non, .int 5, .str "tree", .ref b1, .ref b3, .ref b5, .ref b7, .ref b9, .ref c4, .ref c5]) (by simp) y3
    have hxA := all_new (k := 50) (vs := [V.non, .int 5, .str "tree", .ref b1, .ref b3, .ref b5, .ref b7, .ref b9, .ref c4, .ref c5]) v6 (fun w hw => by
      simp only [List.mem_cons, List.not_mem_nil, or_false] at hw
      rcases hw with rfl | rfl | rfl | rfl | rfl | rfl | rfl | rfl | rfl | rfl
      · exact any_non _ _
      · exact any_int _ _ _
      · exact any_str _ _ word_tree
      · exact g1.sm z1
      · exact g3.sm z3
      · exact g5.sm z5
      · exact g7.sm z7
      · exact g9.sm z9
      · exact f4.sm (v5.trans v6)
      · exact f5.sm v6) x hxm
    have hlw9 := at_new v6
    generalize upd _ lw (.lst [V.non, .int 5, .str "tree", .ref b1, .ref b3, .ref b5, .ref b7, .ref b9, .ref c4, .ref c5]) = H9 at z0 hxA hlw9 ⊢
    have s19 := s18.trans z0
    refine ⟨_, rfl, _, rfl, lx, _, 3, .int y3, rfl, rfl, SqL.of (z0 _ _ hx8), a3, _, _, rfl, rfl, (by decide : (0 : Int) < 10), lw, _, _, x, rfl, rfl, SqL.of hlw9, hxa, ?_⟩
    have s39 := s35.trans (s6.trans (s7.trans (s8.trans z0)))
    have hd9 : TrD H9 d v := TrD.imp (fun b xs q => s39 _ _ q) _ hd3
    dsimp only
    refine seqVia (fun σ' H' => Same H9 H' ∧ ∃ (u : V), AnyD 60 H' u ∧ σ' = [some (.ref a), some (.ref t), some v, some (.int ((6 + i : Nat) : Int)), some (.ref lx), some u]) ?_ (fun D' go => ?_)
    rotate_left
    · refine ⟨_, rfl, by show 0 ≤ sizeLine; decide, fun z1' hz1 => ⟨by show 2 ≤ sizeLine; decide, fun z2 hz2 => ?_⟩⟩
      have w3 := same_new (o := .tup []) hz1
      have w4 := same_new (o := .tup [V.non, .ref z1']) hz2
      have s34 := w3.trans w4
      have hdN := nonD_isD (K := K) (w4 _ _ upd_same) (at_new w4)
      have hd10 : TrD _ d v := TrD.imp (fun b xs q => s34 _ _ q) _ hd9
      generalize upd (upd H9 z1' (.tup [])) z2 (.tup [V.non, .ref z1']) = H10 at s34 hdN hd10 ⊢
      refine ⟨d, .tuple [.none, .tuple []], TrD.isD d hd10, hdN, hbd.sh (by decide), by decide +kernel, _, rfl, ?_⟩
      show if (!PyData.eqv d (.tuple [.none, .tuple []])) = true then _ else _
      rcases hcase with rfl | hN
      · rw [show PyData.eqv (.tuple [.none, .tuple []]) (.tuple [.none, .tuple []]) = true by decide +kernel]
        exact iteF (go _ _ ⟨s34, x, (hxA.sm s34).mono (by decide), rfl⟩)
      · rw [node_ne hN]
        refine iteT ⟨_, rfl, _, rfl, v, lx, xs, 0, 8, d, rfl, hd10, hN, (z0.trans s34) _ _ hx8, hxl, by decide, by decide, by decide, by decide, fun u H11 s11 hu11 => go _ _ ⟨s34.trans s11, u, hu11.mono (by decide), rfl⟩⟩
    rintro σ' H10 ⟨s10, u, ⟨du, hdu, hbu⟩, rfl⟩
    have s110 := s19.trans s10
    refine ⟨_, rfl, _, rfl, t, u, du, m, bs, rfl, hLA s110, by omega, hb, by omega, hdu, fun H11 s11 => ?_⟩
    refine ⟨_, rfl, _, rfl, t, u, du, m, bs, rfl, hLA (s110.trans s11), by omega, hb, hn, DtD.same s11 du hdu, hbu, fun H12 s12' => ⟨_, rfl, _, rfl, iteF ⟨s6.trans (s7.trans (s8.trans (z0.trans (s10.trans (s11.trans s12'))))), _, _, _, rfl⟩⟩⟩
end
end E1
namespace E1
open PySem L2
theorem all_mk {l : PySem.W.OpenLaw} {w : World} {K : PySem.W.Frag} {h : Heap} {mg : Str → Option Value} {fa : Addr} (X : K.In h) (G : h.Ns mainGlobals mg) (hfa : mg "law" = some (.ref fa))
    (N : PySem.W.nsIn K mainGlobals "isinstance" = some none ∧ PySem.W.nsIn K mainGlobals "int" = some none ∧ PySem.W.nsIn K mainGlobals "bool" = some none ∧ PySem.W.nsIn K mainGlobals "abs" = some none ∧ PySem.W.nsIn K mainGlobals "len" = some none ∧ PySem.W.nsIn K mainGlobals "range" = some none ∧ PySem.W.nsIn K mainGlobals "tuple" = some none ∧ PySem.W.nsIn K mainGlobals "list" = some none ∧ PySem.W.nsIn K mainGlobals "sorted" = some none ∧ PySem.W.nsIn K mainGlobals "all" = some none ∧ PySem.W.nsIn K mainGlobals "set" = some none ∧ PySem.W.nsIn K mainGlobals "zip" = some none ∧ PySem.W.nsIn K mainGlobals "enumerate" = some none ∧ PySem.W.nsIn K mainGlobals "any" = some none ∧ PySem.W.nsIn K mainGlobals "max" = some none ∧ PySem.W.nsIn K mainGlobals "min" = some none ∧ PySem.W.nsIn K mainGlobals "str" = some none ∧ PySem.W.nsIn K mainGlobals "sum" = some none)
    (AWhole : At K "is_whole" sWhole) (AIsJust : At K "is_just" sIsJust) (ANoClasses : At K "no_classes" sNoClasses) (AShutsAll : At K "shuts_all" sShutsAll) (AShutsBlock : At K "shuts_block" sShutsBlock) (AIsTupleOf : At K "is_tuple_of" sIsTupleOf) (ABegun : At K "begun" sBegun) (ABlocksLeft : At K "blocks_left" sBlocksLeft) (AMissingPoint : At K "missing_point" sMissingPoint) (APointsHad : At K "points_had" sPointsHad) (AFittingBlocks : At K "fitting_blocks" sFittingBlocks) (AHasNone : At K "has_none" sHasNone) (AWithBlock : At K "with_block" sWithBlock) (ACell : At K "_law_cell" sCell) (ALNumbers : At K "_law_numbers" sLNumbers) (ALRow : At K "_law_row" sLRow) (ALParting : At K "_law_parting" sLParting) (ALLeast : At K "_law_least" sLLeast) (ALSons : At K "_law_sons" sLSons) (ALShut : At K "_law_shut" sLShut) (ALTree : At K "_law_tree" sLTree) (ALSpoilt : At K "_law_spoilt" sLSpoilt) (ADue : At K "_law_due" sDue) (ALIs : At K "_law_is" sLIs) (ALaw : At K "law" sLaw) :
    ∃ fd : FuncData, (∀ (s : Shared) (v : Value), BindsTo s fd ⟨[v], []⟩ [("_law_script", v)]) ∧ ∀ base : Heap, K.In base → base.Ns mainGlobals mg → FnOk l.prog w K mg base CX0 45 fa fd ["_law_script"] (spLaw K) := by
  obtain ⟨n0, n1, n2, n3, n4, n5, n6, n7, n8, n9, n10, n11, n12, n13, n14, n15, n16, n17⟩ := N
  have T : TxtB mg := ⟨PySem.W.mg_none_of X G n0, PySem.W.mg_none_of X G n1, PySem.W.mg_none_of X G n2, PySem.W.mg_none_of X G n3, PySem.W.mg_none_of X G n4, PySem.W.mg_none_of X G n5, PySem.W.mg_none_of X G n6, PySem.W.mg_none_of X G n7, PySem.W.mg_none_of X G n8, PySem.W.mg_none_of X G n9, PySem.W.mg_none_of X G n10, PySem.W.mg_none_of X G n11, PySem.W.mg_none_of X G n12, PySem.W.mg_none_of X G n13, PySem.W.mg_none_of X G n14, PySem.W.mg_none_of X G n15, PySem.W.mg_none_of X G n16, PySem.W.mg_none_of X G n17⟩
  obtain ⟨fWhole, fdWhole, aWhole, FWhole⟩ := AWhole
  obtain ⟨fIsJust, fdIsJust, aIsJust, FIsJust⟩ := AIsJust
  obtain ⟨fNoClasses, fdNoClasses, aNoClasses, FNoClasses⟩ := ANoClasses
  obtain ⟨fShutsAll, fdShutsAll, aShutsAll, FShutsAll⟩ := AShutsAll
  obtain ⟨fShutsBlock, fdShutsBlock, aShutsBlock, FShutsBlock⟩ := AShutsBlock
  obtain ⟨fIsTupleOf, fdIsTupleOf, aIsTupleOf, FIsTupleOf⟩ := AIsTupleOf
  obtain ⟨fBegun, fdBegun, aBegun, FBegun⟩ := ABegun
  obtain ⟨fBlocksLeft, fdBlocksLeft, aBlocksLeft, FBlocksLeft⟩ := ABlocksLeft
  obtain ⟨fMissingPoint, fdMissingPoint, aMissingPoint, FMissingPoint⟩ := AMissingPoint
  obtain ⟨fPointsHad, fdPointsHad, aPointsHad, FPointsHad⟩ := APointsHad
  obtain ⟨fFittingBlocks, fdFittingBlocks, aFittingBlocks, FFittingBlocks⟩ := AFittingBlocks
  obtain ⟨fHasNone, fdHasNone, aHasNone, FHasNone⟩ := AHasNone
  obtain ⟨fWithBlock, fdWithBlock, aWithBlock, FWithBlock⟩ := AWithBlock
  obtain ⟨fCell, fdCell, aCell, FCell⟩ := ACell
  obtain ⟨fLNumbers, fdLNumbers, aLNumbers, FLNumbers⟩ := ALNumbers
  obtain ⟨fLRow, fdLRow, aLRow, FLRow⟩ := ALRow
  obtain ⟨fLParting, fdLParting, aLParting, FLParting⟩ := ALParting
  obtain ⟨fLLeast, fdLLeast, aLLeast, FLLeast⟩ := ALLeast
  obtain ⟨fLSons, fdLSons, aLSons, FLSons⟩ := ALSons
  obtain ⟨fLShut, fdLShut, aLShut, FLShut⟩ := ALShut
  obtain ⟨fLTree, fdLTree, aLTree, FLTree⟩ := ALTree
  obtain ⟨fLSpoilt, fdLSpoilt, aLSpoilt, FLSpoilt⟩ := ALSpoilt
  obtain ⟨fDue, fdDue, aDue, FDue⟩ := ADue
  obtain ⟨fLIs, fdLIs, aLIs, FLIs⟩ := ALIs
  obtain ⟨fLaw, fdLaw, aLaw, FLaw⟩ := ALaw
  have e := hfa.symm.trans (PySem.W.mg_of X G aLaw)
  cases e
  have bWhole := FWhole.binds (ps := ["thing"]) fun _ _ _ _ _ _ us hl => match us, hl with | [_], _ => rfl
  have mWhole := PySem.W.mg_of X G aWhole
  have bIsJust := FIsJust.binds (ps := ["thing", "number"]) fun _ _ _ _ _ _ us hl => match us, hl with | [_, _], _ => rfl
  have mIsJust := PySem.W.mg_of X G aIsJust
  have bNoClasses := FNoClasses.binds (ps := ["M", "tree"]) fun _ _ _ _ _ _ us hl => match us, hl with | [_, _], _ => rfl
  have mNoClasses := PySem.W.mg_of X G aNoClasses
  have bShutsAll := FShutsAll.binds (ps := ["M", "rows", "tree"]) fun _ _ _ _ _ _ us hl => match us, hl with | [_, _, _], _ => rfl
  have mShutsAll := PySem.W.mg_of X G aShutsAll
  have bShutsBlock := FShutsBlock.binds (ps := ["M", "rows", "block", "son"]) fun _ _ _ _ _ _ us hl => match us, hl with | [_, _, _, _], _ => rfl
  have mShutsBlock := PySem.W.mg_of X G aShutsBlock
  have bIsTupleOf := FIsTupleOf.binds (ps := ["thing", "many"]) fun _ _ _ _ _ _ us hl => match us, hl with | [_, _], _ => rfl
  have mIsTupleOf := PySem.W.mg_of X G aIsTupleOf
  have bBegun := FBegun.binds (ps := ["M", "rows"]) fun _ _ _ _ _ _ us hl => match us, hl with | [_, _], _ => rfl
  have mBegun := PySem.W.mg_of X G aBegun
  have bBlocksLeft := FBlocksLeft.binds (ps := ["M", "rows"]) fun _ _ _ _ _ _ us hl => match us, hl with | [_, _], _ => rfl
  have mBlocksLeft := PySem.W.mg_of X G aBlocksLeft
  have bMissingPoint := FMissingPoint.binds (ps := ["M", "rows"]) fun _ _ _ _ _ _ us hl => match us, hl with | [_, _], _ => rfl
  have mMissingPoint := PySem.W.mg_of X G aMissingPoint
  have bPointsHad := FPointsHad.binds (ps := ["M", "row"]) fun _ _ _ _ _ _ us hl => match us, hl with | [_, _], _ => rfl
  have mPointsHad := PySem.W.mg_of X G aPointsHad
  have bFittingBlocks := FFittingBlocks.binds (ps := ["M", "rows", "point"]) fun _ _ _ _ _ _ us hl => match us, hl with | [_, _, _], _ => rfl
  have mFittingBlocks := PySem.W.mg_of X G aFittingBlocks
  have bHasNone := FHasNone.binds (ps := ["block", "had"]) fun _ _ _ _ _ _ us hl => match us, hl with | [_, _], _ => rfl
  have mHasNone := PySem.W.mg_of X G aHasNone
  have bWithBlock := FWithBlock.binds (ps := ["rows", "block"]) fun _ _ _ _ _ _ us hl => match us, hl with | [_, _], _ => rfl
  have mWithBlock := PySem.W.mg_of X G aWithBlock
  have bCell := FCell.binds (ps := ["_law_script", "_law_k"]) fun _ _ _ _ _ _ us hl => match us, hl with | [_, _], _ => rfl
  have mCell := PySem.W.mg_of X G aCell
  have bLNumbers := FLNumbers.binds (ps := ["_law_cell_here", "_law_many"]) fun _ _ _ _ _ _ us hl => match us, hl with | [_, _], _ => rfl
  have mLNumbers := PySem.W.mg_of X G aLNumbers
  have bLRow := FLRow.binds (ps := ["_law_xs", "_law_many"]) fun _ _ _ _ _ _ us hl => match us, hl with | [_, _], _ => rfl
  have mLRow := PySem.W.mg_of X G aLRow
  have bLParting := FLParting.binds (ps := ["_law_script", "_law_at"]) fun _ _ _ _ _ _ us hl => match us, hl with | [_, _], _ => rfl
  have mLParting := PySem.W.mg_of X G aLParting
  have bLLeast := FLLeast.binds (ps := ["_law_layout", "_law_had"]) fun _ _ _ _ _ _ us hl => match us, hl with | [_, _], _ => rfl
  have mLLeast := PySem.W.mg_of X G aLLeast
  have bLSons := FLSons.binds (ps := ["_law_layout", "_law_left", "_law_had", "_law_point"]) fun _ _ _ _ _ _ us hl => match us, hl with | [_, _, _, _], _ => rfl
  have mLSons := PySem.W.mg_of X G aLSons
  have bLShut := FLShut.binds (ps := ["_law_layout", "_law_left", "_law_had", "_law_tree_here"]) fun _ _ _ _ _ _ us hl => match us, hl with | [_, _, _, _], _ => rfl
  have mLShut := PySem.W.mg_of X G aLShut
  have bLTree := FLTree.binds (ps := ["_law_layout", "_law_left", "_law_had"]) fun _ _ _ _ _ _ us hl => match us, hl with | [_, _, _], _ => rfl
  have mLTree := PySem.W.mg_of X G aLTree
  have bLSpoilt := FLSpoilt.binds (ps := ["_law_tree_here", "_law_xs", "_law_deep"]) fun _ _ _ _ _ _ us hl => match us, hl with | [_, _, _], _ => rfl
  have mLSpoilt := PySem.W.mg_of X G aLSpoilt
  have bDue := FDue.binds (ps := ["_law_layout", "_law_tree_here"]) fun _ _ _ _ _ _ us hl => match us, hl with | [_, _], _ => rfl
  have mDue := PySem.W.mg_of X G aDue
  have bLIs := FLIs.binds (ps := ["_law_found", "_law_due_here"]) fun _ _ _ _ _ _ us hl => match us, hl with | [_, _], _ => rfl
  have mLIs := PySem.W.mg_of X G aLIs
  refine ⟨fdLaw, ?_, fun base _ _ => ?_⟩
  · obtain ⟨oc, od, kV, doc, pm, an, cdv, ct, osl, rfl, lk, hcd⟩ := FLaw.ex
    exact fun s v => .of_eq rfl
  · have pN : Pm l.prog w K mg base CX0 1 "_law_numbers" ["_law_cell_here", "_law_many"] spNums := ⟨fLNumbers, fdLNumbers, mLNumbers, FLNumbers.kp, bLNumbers, ok_numbers FLNumbers T⟩
    have pC : Pm l.prog w K mg base CX0 1 "_law_cell" ["_law_script", "_law_k"] (spCell2 K) := ⟨fCell, fdCell, mCell, FCell.kp, bCell, ok_cell2 FCell T⟩
    have pR : Pm l.prog w K mg base CX0 1 "_law_row" ["_law_xs", "_law_many"] (spRow K) := ⟨fLRow, fdLRow, mLRow, FLRow.kp, bLRow, ok_row FLRow T⟩
    have pW : Pm l.prog w K mg base CX0 1 "is_whole" ["thing"] (spWhole K) := ⟨fWhole, fdWhole, mWhole, FWhole.kp, bWhole, ok_whole FWhole T⟩
    have pHad : Pm l.prog w K mg base CX0 1 "points_had" ["M", "row"] spHad := ⟨fPointsHad, fdPointsHad, mPointsHad, FPointsHad.kp, bPointsHad, ok_had FPointsHad⟩
    have pMi : Pm l.prog w K mg base CX0 2 "missing_point" ["M", "rows"] spMiss := ⟨fMissingPoint, fdMissingPoint, mMissingPoint, FMissingPoint.kp, bMissingPoint, ok_miss FMissingPoint T pHad⟩
    have pLB : Pm l.prog w K mg base CX0 1 "blocks_left" ["M", "rows"] spLeftB := ⟨fBlocksLeft, fdBlocksLeft, mBlocksLeft, FBlocksLeft.kp, bBlocksLeft, ok_leftB FBlocksLeft T⟩
    have pBe : Pm l.prog w K mg base CX0 3 "begun" ["M", "rows"] spBegun := ⟨fBegun, fdBegun, mBegun, FBegun.kp, bBegun, ok_begun FBegun T pLB pMi⟩
    have pHN : Pm l.prog w K mg base CX0 1 "has_none" ["block", "had"] spHasNone := ⟨fHasNone, fdHasNone, mHasNone, FHasNone.kp, bHasNone, ok_hasNone FHasNone T⟩
    have pFi : Pm l.prog w K mg base CX0 2 "fitting_blocks" ["M", "rows", "point"] spFit := ⟨fFittingBlocks, fdFittingBlocks, mFittingBlocks, FFittingBlocks.kp, bFittingBlocks, ok_fit FFittingBlocks T pHad pLB pHN⟩
    have pWB : Pm l.prog w K mg base CX0 1 "with_block" ["rows", "block"] spWithB := ⟨fWithBlock, fdWithBlock, mWithBlock, FWithBlock.kp, bWithBlock, ok_withB FWithBlock⟩
    have pPa : Pm l.prog w K mg base CX0 2 "_law_parting" ["_law_script", "_law_at"] (spParting K) := ⟨fLParting, fdLParting, mLParting, FLParting.kp, bLParting, ok_parting FLParting T pC pN pR⟩
    have pIT : Pm l.prog w K mg base CX0 1 "is_tuple_of" ["thing", "many"] spIsTup := ⟨fIsTupleOf, fdIsTupleOf, mIsTupleOf, FIsTupleOf.kp, bIsTupleOf, ok_isTup FIsTupleOf T⟩
    have pIJ : Pm l.prog w K mg base CX0 2 "is_just" ["thing", "number"] spJust := ⟨fIsJust, fdIsJust, mIsJust, FIsJust.kp, bIsJust, ok_just FIsJust pW⟩
    have pSA : Pm l.prog w K mg base CX0 30 "shuts_all" ["M", "rows", "tree"] (spShAll 13) := ⟨fShutsAll, fdShutsAll, mShutsAll, FShutsAll.kp, bShutsAll, ok_shAll FShutsAll FShutsBlock T mShutsAll bShutsAll mShutsBlock bShutsBlock pIT pIJ pBe pMi pFi pWB 13⟩
    have pNc : Pm l.prog w K mg base CX0 31 "no_classes" ["M", "tree"] spNoCls := ⟨fNoClasses, fdNoClasses, mNoClasses, FNoClasses.kp, bNoClasses, ok_noCls FNoClasses pIT pSA⟩
    have pLe : Pm l.prog w K mg base CX0 1 "_law_least" ["_law_layout", "_law_had"] spLeast := ⟨fLLeast, fdLLeast, mLLeast, FLLeast.kp, bLLeast, ok_least FLLeast T⟩
    have pSo : Pm l.prog w K mg base CX0 1 "_law_sons" ["_law_layout", "_law_left", "_law_had", "_law_point"] spSons := ⟨fLSons, fdLSons, mLSons, FLSons.kp, bLSons, ok_sons FLSons⟩
    have pSh : Pm l.prog w K mg base CX0 11 "_law_shut" ["_law_layout", "_law_left", "_law_had", "_law_tree_here"] (spShutX fun n => n ≤ 9) := ⟨fLShut, fdLShut, mLShut, FLShut.kp, bLShut, ok_shutX FLShut T mLShut bLShut pLe pSo 9⟩
    have pTr : Pm l.prog w K mg base CX0 10 "_law_tree" ["_law_layout", "_law_left", "_law_had"] (spTree fun n => n ≤ 8) := ⟨fLTree, fdLTree, mLTree, FLTree.kp, bLTree, ok_tree FLTree T mLTree bLTree pLe pSo 8⟩
    have pSp : Pm l.prog w K mg base CX0 12 "_law_spoilt" ["_law_tree_here", "_law_xs", "_law_deep"] (spSpoilt fun n => n ≤ 10) := ⟨fLSpoilt, fdLSpoilt, mLSpoilt, FLSpoilt.kp, bLSpoilt, ok_spoilt FLSpoilt T mLSpoilt bLSpoilt 10⟩
    have pDu : Pm l.prog w K mg base CX0 12 "_law_due" ["_law_layout", "_law_tree_here"] spDueT := ⟨fDue, fdDue, mDue, FDue.kp, bDue, ok_dueT FDue T pSh⟩
    have pIs : Pm l.prog w K mg base CX0 1 "_law_is" ["_law_found", "_law_due_here"] spIsB := ⟨fLIs, fdLIs, mLIs, FLIs.kp, bLIs, ok_isB FLIs T⟩
    exact ok_law FLaw T pC pN pPa pTr pSp pNc pDu pIs
end E1
def PySem.W.Fast.tw12782233586724189599 : Nat := 0
def PySem.W.Fast.tw13737899953493465479 : Nat := 0
def PySem.W.Fast.tw14716115245867396524 : Nat := 0
def PySem.W.Fast.tw15023388957102699491 : Nat := 0
def PySem.W.Fast.tw18295533674183105316 : Nat := 0
def PySem.W.Fast.tw2629915022499555023 : Nat := 0
def PySem.W.Fast.tw2726413761410215709 : Nat := 0
def PySem.W.Fast.tw3190902484025905580 : Nat := 0
def PySem.W.Fast.tw3513248428546844749 : Nat := 0
def PySem.W.Fast.tw4674165379851411430 : Nat := 0
def PySem.W.Fast.tw5978696542222568896 : Nat := 0
def PySem.W.Fast.tw6782653349788967842 : Nat := 0
def PySem.W.Fast.tw6844449697994302992 : Nat := 0
def PySem.W.Fast.tw7462092845870204043 : Nat := 0
def PySem.W.Fast.tw746695351744138365 : Nat := 0
def PySem.W.Fast.tw7805203456385856237 : Nat := 0
def PySem.W.Fast.tw9003157712199027467 : Nat := 0
open PySem PySem.W PyProof.Rows
set_option maxRecDepth 100000 in
set_option maxHeartbeats 0 in
theorem PySem.Challenge.cw_evenmeet_k46_trees_taken_holds : PySem.Challenge.rw_evenmeet_k46_trees_taken.Holds := by
  w_on; o_law; k_head; (case hw => w_witness2)
  k_fill
  refine E1.walk (l := PySem.Challenge.rw_evenmeet_k46_trees_taken) (k := 45) ⟨rfl, by decide, by decide⟩ rfl rfl (fun w h Y => PySem.W.kIn_of Y) ?F
  case F =>
    intro w mg fa h KX G hmg
    have N : PySem.W.nsIn (L2.KOf KX) mainGlobals "isinstance" = some none ∧ PySem.W.nsIn (L2.KOf KX) mainGlobals "int" = some none ∧ PySem.W.nsIn (L2.KOf KX) mainGlobals "bool" = some none ∧ PySem.W.nsIn (L2.KOf KX) mainGlobals "abs" = some none ∧ PySem.W.nsIn (L2.KOf KX) mainGlobals "len" = some none ∧ PySem.W.nsIn (L2.KOf KX) mainGlobals "range" = some none ∧ PySem.W.nsIn (L2.KOf KX) mainGlobals "tuple" = some none ∧ PySem.W.nsIn (L2.KOf KX) mainGlobals "list" = some none ∧ PySem.W.nsIn (L2.KOf KX) mainGlobals "sorted" = some none ∧ PySem.W.nsIn (L2.KOf KX) mainGlobals "all" = some none ∧ PySem.W.nsIn (L2.KOf KX) mainGlobals "set" = some none ∧ PySem.W.nsIn (L2.KOf KX) mainGlobals "zip" = some none ∧ PySem.W.nsIn (L2.KOf KX) mainGlobals "enumerate" = some none ∧ PySem.W.nsIn (L2.KOf KX) mainGlobals "any" = some none ∧ PySem.W.nsIn (L2.KOf KX) mainGlobals "max" = some none ∧ PySem.W.nsIn (L2.KOf KX) mainGlobals "min" = some none ∧ PySem.W.nsIn (L2.KOf KX) mainGlobals "str" = some none ∧ PySem.W.nsIn (L2.KOf KX) mainGlobals "sum" = some none := by
      dsimp only [L2.KOf]
      refine' ⟨?z0, ?z1, ?z2, ?z3, ?z4, ?z5, ?z6, ?z7, ?z8, ?z9, ?z10, ?z11, ?z12, ?z13, ?z14, ?z15, ?z16, ?z17⟩
      (case z0 => k_is)
      (case z1 => k_is)
      (case z2 => k_is)
      (case z3 => k_is)
      (case z4 => k_is)
      (case z5 => k_is)
      (case z6 => k_is)
      (case z7 => k_is)
      (case z8 => k_is)
      (case z9 => k_is)
      (case z10 => k_is)
      (case z11 => k_is)
      (case z12 => k_is)
      (case z13 => k_is)
      (case z14 => k_is)
      (case z15 => k_is)
      (case z16 => k_is)
      (case z17 => k_is)
    have AWhole : E1.At (L2.KOf KX) "is_whole" E1.sWhole := by
      dsimp only [L2.KOf]
      refine' E1.fn_mk ?a ?l ?c ?k
      (case a => k_is); (case l => k_is); (case c => k_is); (case k => k_is)
    have AIsJust : E1.At (L2.KOf KX) "is_just" E1.sIsJust := by
      dsimp only [L2.KOf]
      refine' E1.fn_mk ?a ?l ?c ?k
      (case a => k_is); (case l => k_is); (case c => k_is); (case k => k_is)
    have ANoClasses : E1.At (L2.KOf KX) "no_classes" E1.sNoClasses := by
      dsimp only [L2.KOf]
      refine' E1.fn_mk ?a ?l ?c ?k
      (case a => k_is); (case l => k_is); (case c => k_is); (case k => k_is)
    have AShutsAll : E1.At (L2.KOf KX) "shuts_all" E1.sShutsAll := by
      dsimp only [L2.KOf]
      refine' E1.fn_mk ?a ?l ?c ?k
      (case a => k_is); (case l => k_is); (case c => k_is); (case k => k_is)
    have AShutsBlock : E1.At (L2.KOf KX) "shuts_block" E1.sShutsBlock := by
      dsimp only [L2.KOf]
      refine' E1.fn_mk ?a ?l ?c ?k
      (case a => k_is); (case l => k_is); (case c => k_is); (case k => k_is)
    have AIsTupleOf : E1.At (L2.KOf KX) "is_tuple_of" E1.sIsTupleOf := by
      dsimp only [L2.KOf]
      refine' E1.fn_mk ?a ?l ?c ?k
      (case a => k_is); (case l => k_is); (case c => k_is); (case k => k_is)
    have ABegun : E1.At (L2.KOf KX) "begun" E1.sBegun := by
      dsimp only [L2.KOf]
      refine' E1.fn_mk ?a ?l ?c ?k
      (case a => k_is); (case l => k_is); (case c => k_is); (case k => k_is)
    have ABlocksLeft : E1.At (L2.KOf KX) "blocks_left" E1.sBlocksLeft := by
      dsimp only [L2.KOf]
      refine' E1.fn_mk ?a ?l ?c ?k
      (case a => k_is); (case l => k_is); (case c => k_is); (case k => k_is)
    have AMissingPoint : E1.At (L2.KOf KX) "missing_point" E1.sMissingPoint := by
      dsimp only [L2.KOf]
      refine' E1.fn_mk ?a ?l ?c ?k
      (case a => k_is); (case l => k_is); (case c => k_is); (case k => k_is)
    have APointsHad : E1.At (L2.KOf KX) "points_had" E1.sPointsHad := by
      dsimp only [L2.KOf]
      refine' E1.fn_mk ?a ?l ?c ?k
      (case a => k_is); (case l => k_is); (case c => k_is); (case k => k_is)
    have AFittingBlocks : E1.At (L2.KOf KX) "fitting_blocks" E1.sFittingBlocks := by
      dsimp only [L2.KOf]
      refine' E1.fn_mk ?a ?l ?c ?k
      (case a => k_is); (case l => k_is); (case c => k_is); (case k => k_is)
    have AHasNone : E1.At (L2.KOf KX) "has_none" E1.sHasNone := by
      dsimp only [L2.KOf]
      refine' E1.fn_mk ?a ?l ?c ?k
      (case a => k_is); (case l => k_is); (case c => k_is); (case k => k_is)
    have AWithBlock : E1.At (L2.KOf KX) "with_block" E1.sWithBlock := by
      dsimp only [L2.KOf]
      refine' E1.fn_mk ?a ?l ?c ?k
      (case a => k_is); (case l => k_is); (case c => k_is); (case k => k_is)
    have ACell : E1.At (L2.KOf KX) "_law_cell" E1.sCell := by
      dsimp only [L2.KOf]
      refine' E1.fn_mk ?a ?l ?c ?k
      (case a => k_is); (case l => k_is); (case c => k_is); (case k => k_is)
    have ALNumbers : E1.At (L2.KOf KX) "_law_numbers" E1.sLNumbers := by
      dsimp only [L2.KOf]
      refine' E1.fn_mk ?a ?l ?c ?k
      (case a => k_is); (case l => k_is); (case c => k_is); (case k => k_is)
    have ALRow : E1.At (L2.KOf KX) "_law_row" E1.sLRow := by
      dsimp only [L2.KOf]
      refine' E1.fn_mk ?a ?l ?c ?k
      (case a => k_is); (case l => k_is); (case c => k_is); (case k => k_is)
    have ALParting : E1.At (L2.KOf KX) "_law_parting" E1.sLParting := by
      dsimp only [L2.KOf]
      refine' E1.fn_mk ?a ?l ?c ?k
      (case a => k_is); (case l => k_is); (case c => k_is); (case k => k_is)
    have ALLeast : E1.At (L2.KOf KX) "_law_least" E1.sLLeast := by
      dsimp only [L2.KOf]
      refine' E1.fn_mk ?a ?l ?c ?k
      (case a => k_is); (case l => k_is); (case c => k_is); (case k => k_is)
    have ALSons : E1.At (L2.KOf KX) "_law_sons" E1.sLSons := by
      dsimp only [L2.KOf]
      refine' E1.fn_mk ?a ?l ?c ?k
      (case a => k_is); (case l => k_is); (case c => k_is); (case k => k_is)
    have ALShut : E1.At (L2.KOf KX) "_law_shut" E1.sLShut := by
      dsimp only [L2.KOf]
      refine' E1.fn_mk ?a ?l ?c ?k
      (case a => k_is); (case l => k_is); (case c => k_is); (case k => k_is)
    have ALTree : E1.At (L2.KOf KX) "_law_tree" E1.sLTree := by
      dsimp only [L2.KOf]
      refine' E1.fn_mk ?a ?l ?c ?k
      (case a => k_is); (case l => k_is); (case c => k_is); (case k => k_is)
    have ALSpoilt : E1.At (L2.KOf KX) "_law_spoilt" E1.sLSpoilt := by
      dsimp only [L2.KOf]
      refine' E1.fn_mk ?a ?l ?c ?k
      (case a => k_is); (case l => k_is); (case c => k_is); (case k => k_is)
    have ADue : E1.At (L2.KOf KX) "_law_due" E1.sDue := by
      dsimp only [L2.KOf]
      refine' E1.fn_mk ?a ?l ?c ?k
      (case a => k_is); (case l => k_is); (case c => k_is); (case k => k_is)
    have ALIs : E1.At (L2.KOf KX) "_law_is" E1.sLIs := by
      dsimp only [L2.KOf]
      refine' E1.fn_mk ?a ?l ?c ?k
      (case a => k_is); (case l => k_is); (case c => k_is); (case k => k_is)
    have ALaw : E1.At (L2.KOf KX) "law" E1.sLaw := by
      dsimp only [L2.KOf]
      refine' E1.fn_mk ?a ?l ?c ?k
      (case a => k_is); (case l => k_is); (case c => k_is); (case k => k_is)
    exact E1.all_mk KX G hmg N  AWhole AIsJust ANoClasses AShutsAll AShutsBlock AIsTupleOf ABegun ABlocksLeft AMissingPoint APointsHad AFittingBlocks AHasNone AWithBlock ACell ALNumbers ALRow ALParting ALLeast ALSons ALShut ALTree ALSpoilt ADue ALIs ALaw


