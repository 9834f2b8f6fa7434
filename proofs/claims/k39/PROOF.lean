import PyProof.Rows.All
import Wide.All
import OpenK.AllK
import Wide.FinOn
import Lean
import PyProof.EqAt
import PyProof.EqKinds
import PyProof.TupleCall
import PySem.Challenge.RW_evenmeet_k39_bases_for
set_option Elab.async false
set_option linter.all false
set_option maxRecDepth 100000
/-! THE HAND LAYER, for ints, bools, texts, own classes, LISTS and tuples (index, slices, in, append, pop ..), calls, loops. Paste it whole ahead of your own text; what your proof does not reach may be deleted. -/
namespace L2
open PySem PySem.Spec PyProof.Rows

/-- a key: an int or a str -/
abbrev Key := Sum Int Str
def keyIs : Key → Value → Bool
  | .inl k, v => Value.isInt k v
  | .inr x, v => Value.isStrOf x v
def keyH (w : World) : Key → Int
  | .inl k => hashInt k
  | .inr x => hashStr w x
theorem keyIs_shape : ∀ {k : Key} {v : Value}, keyIs k v = true → (∃ i t, k = Sum.inl i ∧ v = Value.int i t) ∨ (∃ x t, k = Sum.inr x ∧ v = Value.str x t)
  | .inl i, v, h => by
    obtain ⟨t, e⟩ := Value.isInt_shape (k := i) (v := v) h
    exact .inl ⟨i, t, rfl, e⟩
  | .inr x, v, h => by
    obtain ⟨t, e⟩ := Value.isStrOf_shape (x := x) (v := v) h
    exact .inr ⟨x, t, rfl, e⟩
theorem keyIs_int (i : Int) (t : Tok) : keyIs (.inl i) (.int i t) = true := by simp [keyIs, Value.isInt]
theorem keyIs_str (x : Str) (t : Tok) : keyIs (.inr x) (.str x t) = true := by simp [keyIs, Value.isStrOf]
theorem key_ll (a b : Int) : decide ((Sum.inl a : Key) = Sum.inl b) = (a == b) := by
  by_cases e : a = b
  · subst e; simp
  · have h : ¬ (Sum.inl a : Key) = Sum.inl b := fun q => e (Sum.inl.inj q)
    rw [decide_eq_false h]
    exact (beq_eq_false_iff_ne.mpr e).symm
theorem key_rr (a b : Str) : decide ((Sum.inr a : Key) = Sum.inr b) = decide (a = b) := by
  by_cases e : a = b
  · subst e; simp
  · have h : ¬ (Sum.inr a : Key) = Sum.inr b := fun q => e (Sum.inr.inj q)
    rw [decide_eq_false h, decide_eq_false e]
theorem key_lr (a : Int) (b : Str) : decide ((Sum.inl a : Key) = Sum.inr b) = false := decide_eq_false (fun q => nomatch q)
theorem key_rl (a : Str) (b : Int) : decide ((Sum.inr a : Key) = Sum.inl b) = false := decide_eq_false (fun q => nomatch q)

def mixKind (prog : Program) (w : World) : PySem.KeyKind prog w Key where
  is := keyIs
  hash := keyH w
  inj := fun v a b ha hb => by
    rcases keyIs_shape ha with ⟨i, t, rfl, rfl⟩ | ⟨x, t, rfl, rfl⟩
    · rcases keyIs_shape hb with ⟨j, u, rfl, e⟩ | ⟨y, u, rfl, e⟩
      · injection e with e1 _; rw [e1]
      · exact nomatch e
    · rcases keyIs_shape hb with ⟨j, u, rfl, e⟩ | ⟨y, u, rfl, e⟩
      · exact nomatch e
      · injection e with e1 _; rw [e1]
  byValue := fun k v h => by
    rcases keyIs_shape h with ⟨i, t, rfl, rfl⟩ | ⟨x, t, rfl, rfl⟩ <;> rfl
  pyHash := fun hv h => by
    rcases keyIs_shape hv with ⟨i, t, rfl, rfl⟩ | ⟨x, t, rfl, rfl⟩
    · exact wpAny_pyHash_int h
    · exact wpAny_pyHash_str h
  eqBool := fun hu hv h => by
    rcases keyIs_shape hu with ⟨i, t, rfl, rfl⟩ | ⟨x, t, rfl, rfl⟩
    · rcases keyIs_shape hv with ⟨j, u, rfl, rfl⟩ | ⟨y, u, rfl, rfl⟩
      · rw [key_ll] at h; exact wpAny_eqBool_int h
      · rw [key_lr] at h; exact SeqAt.EqAt.int_str i t y u _ _ _ _ h
    · rcases keyIs_shape hv with ⟨j, u, rfl, rfl⟩ | ⟨y, u, rfl, rfl⟩
      · rw [key_rl] at h; exact SeqAt.EqAt.str_int x t j u _ _ _ _ h
      · rw [key_rr] at h; exact wpAny_eqBool_str h
  «strs» := fun k x t v h => by
    rcases keyIs_shape h with ⟨i, u, rfl, e⟩ | ⟨y, u, rfl, e⟩
    · exact nomatch e
    · injection e with e1 _
      subst e1
      cases v <;> rfl

theorem mixKind_int (prog : Program) (w : World) (i : Int) (t : Tok) : (mixKind prog w).is (.inl i) (.int i t) = true := keyIs_int i t
theorem mixKind_str (prog : Program) (w : World) (x : Str) (t : Tok) : (mixKind prog w).is (.inr x) (.str x t) = true := keyIs_str x t
end L2

namespace L2
open PySem PySem.Spec PyProof.Rows

/-- a value, without the heap -/
inductive V where
  | non | bl (b : Bool) | int (i : Int) | str (x : Str) | byt (b : Array UInt8) | flt (b : UInt64) | ref (a : Addr) | ty (n : String)
  deriving DecidableEq

def RelV : V → Value → Prop
  | .non, u => u = Value.none
  | .bl b, u => u = Value.bool b
  | .int i, u => ∃ t, u = Value.int i t
  | .str x, u => ∃ t, u = Value.str x t
  | .byt b, u => ∃ t, u = Value.bytes b t
  | .flt b, u => ∃ t, u = Value.float b t
  | .ref a, u => u = Value.ref a
  | .ty n, u => u = Value.type n

abbrev Vals : List V → List Value → Prop := Paired RelV
theorem Vals.length {xs : List V} {us : List Value} (r : Vals xs us) : xs.length = us.length := Paired.length r
theorem Vals.get : ∀ {xs : List V} {us : List Value} {i : Nat} {x : V}, Vals xs us → xs[i]? = some x → ∃ u, us[i]? = some u ∧ RelV x u
  | _, _, _, _, .nil, e => by simp at e
  | _, _, 0, _, .cons r _, e => by simp at e; subst e; exact ⟨_, rfl, r⟩
  | _, _, i + 1, x, .cons _ t, e => by
    obtain ⟨u, h1, h2⟩ := Vals.get (i := i) (x := x) t (by simpa using e)
    exact ⟨u, by simpa using h1, h2⟩
theorem Vals.set {x : V} {u : Value} (r : RelV x u) : ∀ {xs : List V} {us : List Value} (i : Nat), Vals xs us → Vals (xs.set i x) (us.set i u)
  | _, _, _, .nil => .nil
  | _, _, 0, .cons _ t => .cons r t
  | _, _, i + 1, .cons q t => .cons q (Vals.set r i t)
theorem Vals.append : ∀ {xs ys : List V} {us ws : List Value}, Vals xs us → Vals ys ws → Vals (xs ++ ys) (us ++ ws)
  | _, _, _, _, .nil, s => s
  | _, _, _, _, .cons r t, s => .cons r (Vals.append t s)
theorem Vals.take : ∀ {xs : List V} {us : List Value} (n : Nat), Vals xs us → Vals (xs.take n) (us.take n)
  | _, _, 0, _ => .nil
  | _, _, _ + 1, .nil => .nil
  | _, _, n + 1, .cons r t => .cons r (Vals.take n t)
theorem Vals.drop : ∀ {xs : List V} {us : List Value} (n : Nat), Vals xs us → Vals (xs.drop n) (us.drop n)
  | _, _, 0, r => r
  | _, _, _ + 1, .nil => .nil
  | _, _, n + 1, .cons _ t => Vals.drop n t
def RelO : Option V → Option Value → Prop
  | some v, some u => RelV v u
  | none, none => True
  | _, _ => False
def KV {κ : Type} : List (κ × V) → List (κ × Value) → Prop := Paired fun (p : κ × V) (q : κ × Value) => p.1 = q.1 ∧ RelV p.2 q.2

/-- a key of a dict (00_mix): an int or a text -/
def kV : Key → V
  | .inl i => .int i
  | .inr x => .str x

/-- what stands at a tracked address -/
inductive HO where
  /-- a list -/
  | lst (xs : List V)
  /-- a tuple (never changes) -/
  | tup (xs : List V)
  /-- a dict whose keys are ints and texts; one whose keys are tuples of ints and texts (the empty one is both) -/
  | dK (kvs : List (Key × V)) | dT (kvs : List (List Key × V))
  /-- a set of ints: its members, its size -/
  | set (S : Int → Bool) (n : Nat)
  /-- an instance of the class at C, its dict at dx, its attributes -/
  | ins (C dx : Addr) (fs : List (Str × V))
  /-- the dict of the instance at x -/
  | own (x : Addr)
  /-- the dict of an exception -/
  | xd (fs : List (Str × V))
  /-- a bound method, f of x -/
  | met (f x : Addr)
  /-- a range object lo, lo + 1, .. below hi -/
  | rng (lo hi : Int)
  /-- a thing that is known to the object (the script; a dict while a loop walks it): read, never written while it is so -/
  | frz (o : Obj) (u : HO)
  /-- a code object's table -/
  | tbl (ps : Array Value)
  /-- any other thing, by what is true of its one object (a def of one's own: SetO a S n := HO.ext fun h => ..) -/
  | ext (φ : Heap → Prop)

abbrev Hp := Addr → Option HO
def upd (H : Hp) (a : Addr) (o : HO) : Hp := fun b => if b = a then some o else H b
theorem upd_same {H : Hp} {a : Addr} {o : HO} : upd H a o a = some o := by unfold upd; rw [if_pos rfl]
theorem upd_ne {H : Hp} {a b : Addr} {o : HO} (h : b ≠ a) : upd H a o b = H b := by unfold upd; rw [if_neg h]
/-- two objects of different content stand apart -/
theorem ne_of {H : Hp} {a b : Addr} {o u : HO} (h : H a = some o) (h' : H b = some u) (d : o ≠ u) : a ≠ b := by
  intro e; subst e; rw [h] at h'; exact d (Option.some.inj h')
theorem ne_of_none {H : Hp} {a b : Addr} {o : HO} (h : H a = some o) (h' : H b = none) : a ≠ b := by
  intro e; subst e; rw [h] at h'; cases h'

section
variable (P : Program) (w : World)
def ObjOk (H : Hp) (h : Heap) (a : Addr) : HO → Prop
  | .lst xs => xs.length ≤ sizeLine ∧ ∃ (its : List Value) (n : Nat), Vals xs its ∧ h.get? a = some { cls := .type "list", data := .seq its.toArray n }
  | .tup xs => xs.length ≤ sizeLine ∧ ∃ its : List Value, Vals xs its ∧ IsTup h a its.toArray
  | .dK kvs => kvs.length ≤ sizeLine ∧ (a == sysModules) = false ∧ ∃ vs, KV kvs vs ∧ h.DictOf (mixKind P w) a vs
  | .dT kvs => kvs.length ≤ sizeLine ∧ (a == sysModules) = false ∧ ∃ xs : List (List Key × Addr × Value),
      Paired (fun (p : List Key × V) (q : List Key × Addr × Value) => p.1 = q.1 ∧ H q.2.1 = some (.tup (p.1.map kV)) ∧ RelV p.2 q.2.2) kvs xs ∧
      ∃ o es ep, h.get? a = some o ∧ o.ExactDict ∧ o.data = .dict es ep ∧ es.toList = xs.map (entryOfKey (tupleKind (mixKind P w))) ∧ (xs.map (·.1)).Nodup
  | .set S n => h.SetOf (intKind P w) a S n
  | .ins C dx fs => H dx = some (.own a) ∧ fs.length ≤ 1000 ∧ dx ≠ a ∧ h.get? a = some (PySem.W.instObj C dx) ∧
      ∃ mA, h.Ns1 dx mA ∧ (∀ f, RelO (fs.lookup f) (mA f)) ∧ PySem.Within mA (fs.map (·.1))
  | .own _ => ∃ o, h.get? a = some o
  | .xd fs => ∃ mA, h.Ns1 a mA ∧ ∀ f, RelO (fs.lookup f) (mA f)
  | .rng lo hi => ∃ t u v, h.get? a = some { cls := .type "range", data := .fields #[.int lo t, .int hi u, .int 1 v] }
  | .frz o u => h.get? a = some o ∧ ObjOk H h a u
  | .tbl ps => h.get? a = some { cls := .none, data := .fields ps }
  | .met f x => h.get? a = some (PySem.W.methodObj (.ref f) (.ref x))
  | .ext φ => φ h ∧ (∃ o, h.get? a = some o) ∧ ∀ h1 h2 : Heap, φ h1 → (∀ o, h1.get? a = some o → h2.get? a = some o) → φ h2
/-- the abstract heap is held -/
def HOk (H : Hp) (h : Heap) : Prop := ∀ a o, H a = some o → ObjOk P w H h a o
end

section
variable {P : Program} {w : World} {H H' : Hp} {h h' : Heap} {a : Addr} {o : HO}
theorem ObjOk.lt (x : ObjOk P w H h a o) : a < h.objs.size := by
  cases o with
  | lst xs => obtain ⟨_, _, _, _, e⟩ := x; exact Heap.lt_size e
  | tup xs => obtain ⟨_, _, _, p⟩ := x; exact p.lt
  | dK kvs => obtain ⟨_, _, _, _, o, _, _, e, _⟩ := x; exact Heap.lt_size e
  | dT kvs => obtain ⟨_, _, _, _, o, _, _, e, _⟩ := x; exact Heap.lt_size e
  | set S n => obtain ⟨o, _, _, _, e, _⟩ := x; exact Heap.lt_size e
  | ins C dx fs => obtain ⟨_, _, _, e, _⟩ := x; exact Heap.lt_size e
  | own y => obtain ⟨_, e⟩ := x; exact Heap.lt_size e
  | xd fs => obtain ⟨_, ⟨_, _, _, e, _⟩, _⟩ := x; exact Heap.lt_size e
  | rng lo hi => obtain ⟨_, _, _, e⟩ := x; exact Heap.lt_size e
  | frz ob u => obtain ⟨e, _⟩ := x; exact Heap.lt_size e
  | tbl ps => exact Heap.lt_size (show h.get? a = some _ from x)
  | met f y => exact Heap.lt_size (show h.get? a = some _ from x)
  | ext φ => obtain ⟨_, ⟨_, e⟩, _⟩ := x; exact Heap.lt_size e
theorem Paired.mapP {α β : Type} {F G : α → β → Prop} : ∀ {l₁ : List α} {l₂ : List β}, Paired F l₁ l₂ → (∀ a b, F a b → G a b) → Paired G l₁ l₂
  | _, _, .nil, _ => .nil
  | _, _, .cons r t, f => .cons (f _ _ r) (Paired.mapP t f)
/-- what an object's description leans on: its own object, its own dict, the tuples -/
theorem ObjOk.stay (x : ObjOk P w H h a o) (k : ∀ b u, (b = a ∨ H b = some (.own a)) → h.get? b = some u → h'.get? b = some u)
    (ho : ∀ b, H b = some (.own a) → H' b = some (.own a)) (ht : ∀ b xs, H b = some (.tup xs) → H' b = some (.tup xs)) : ObjOk P w H' h' a o := by
  induction o with
  | lst xs => obtain ⟨z, its, n, r, e⟩ := x; exact ⟨z, its, n, r, k _ _ (.inl rfl) e⟩
  | tup xs => obtain ⟨z, its, r, ob, e, c⟩ := x; exact ⟨z, its, r, ob, k _ _ (.inl rfl) e, c⟩
  | dK kvs => obtain ⟨z, y, vs, r, ob, es, ep, e, c⟩ := x; exact ⟨z, y, vs, r, ob, es, ep, k _ _ (.inl rfl) e, c⟩
  | dT kvs =>
    obtain ⟨z, y, xs, r, ob, es, ep, e, c⟩ := x
    exact ⟨z, y, xs, Paired.mapP r fun p q z => ⟨z.1, ht _ _ z.2.1, z.2.2⟩, ob, es, ep, k _ _ (.inl rfl) e, c⟩
  | set S n => obtain ⟨ob, es, ep, t, e, c⟩ := x; exact ⟨ob, es, ep, t, k _ _ (.inl rfl) e, c⟩
  | ins C dx fs =>
    obtain ⟨d, z, ne, e, mA, ⟨od, es, ep, e2, c⟩, r⟩ := x
    exact ⟨ho _ d, z, ne, k _ _ (.inl rfl) e, mA, ⟨od, es, ep, k _ _ (.inr d) e2, c⟩, r⟩
  | own y => obtain ⟨ob, e⟩ := x; exact ⟨ob, k _ _ (.inl rfl) e⟩
  | xd fs => obtain ⟨mA, ⟨od, es, ep, e, c⟩, r⟩ := x; exact ⟨mA, ⟨od, es, ep, k _ _ (.inl rfl) e, c⟩, r⟩
  | rng lo hi => obtain ⟨t, u, v, e⟩ := x; exact ⟨t, u, v, k _ _ (.inl rfl) e⟩
  | frz ob u ih => obtain ⟨e, q⟩ := x; exact ⟨k _ _ (.inl rfl) e, ih q⟩
  | tbl ps =>
    have e : h.get? a = some { cls := .none, data := .fields ps } := x
    show h'.get? a = some { cls := .none, data := .fields ps }
    exact k a _ (.inl rfl) e
  | met f y =>
    have e : h.get? a = some (PySem.W.methodObj (.ref f) (.ref y)) := x
    show h'.get? a = some (PySem.W.methodObj (.ref f) (.ref y))
    exact k a _ (.inl rfl) e
  | ext φ => obtain ⟨p, ⟨o, e⟩, st⟩ := x; exact ⟨st _ _ p fun o q => k _ _ (.inl rfl) q, ⟨o, k _ _ (.inl rfl) e⟩, st⟩
theorem HOk.lt (x : HOk P w H h) (e : H a = some o) : a < h.objs.size := (x a o e).lt
theorem HOk.fresh (x : HOk P w H h) (e : h.objs.size ≤ a) : H a = none := by
  cases q : H a with
  | none => rfl
  | some u => exact absurd (Nat.lt_of_lt_of_le (x.lt q) e) (Nat.lt_irrefl _)
/-- every object of the heap is kept -/
theorem HOk.kept (x : HOk P w H h) (k : ∀ b u, h.get? b = some u → h'.get? b = some u) : HOk P w H h' := fun a o e =>
  (x a o e).stay (fun b u _ q => k b u q) (fun _ q => q) fun _ _ q => q
/-- a new object is laid and tracked -/
theorem HOk.laid (x : HOk P w H h) (k : ∀ b u, h.get? b = some u → h'.get? b = some u) (hp : h.objs.size ≤ a) (new : ObjOk P w (upd H a o) h' a o) : HOk P w (upd H a o) h' := fun b u e => by
  have hn := x.fresh hp
  by_cases hb : b = a
  · subst hb; rw [upd_same] at e; cases e; exact new
  · rw [upd_ne hb] at e
    exact (x b u e).stay (fun c v _ q => k c v q) (fun c q => by rw [upd_ne (ne_of_none q hn)]; exact q) fun c xs q => by rw [upd_ne (ne_of_none q hn)]; exact q
end

/-- what may be read as u: it is u, or a known u -/
def Rd (H : Hp) (a : Addr) (u : HO) : Prop := H a = some u ∨ ∃ o, H a = some (.frz o u)
theorem Rd.ok {P : Program} {w : World} {H : Hp} {h : Heap} {a : Addr} {u : HO} (r : Rd H a u) (x : HOk P w H h) : ObjOk P w H h a u := by
  rcases r with r | ⟨o, r⟩
  · exact x a u r
  · obtain ⟨_, q⟩ := x a _ r
    exact q
/-- what may be written -/
def Mut : Option HO → Prop
  | some (.lst _) => True
  | some (.dK _) => True
  | some (.dT _) => True
  | some (.set _ _) => True
  | some (.ins _ _ _) => True
  | some (.ext _) => True
  | _ => False
section
variable {P : Program} {w : World} {H : Hp} {h h' : Heap} {x e : Addr} {o' : HO}
/-- the object at e is changed: x itself, or the dict of the instance x -/
theorem HOk.write (ok : HOk P w H h) (mu : Mut (H x)) (he : e = x ∨ H e = some (.own x)) (k : ∀ b u, b ≠ e → h.get? b = some u → h'.get? b = some u) (heo : ∃ u, h'.get? e = some u)
    (new : ObjOk P w (upd H x o') h' x o') : HOk P w (upd H x o') h' := fun b u q => by
  have nown : ∀ c y, H c = some (.own y) → c ≠ x := fun c y r z => by subst z; rw [r] at mu; exact mu
  have ntup : ∀ c xs, H c = some (.tup xs) → c ≠ x := fun c xs r z => by subst z; rw [r] at mu; exact mu
  by_cases hb : b = x
  · subst hb; rw [upd_same] at q; cases q; exact new
  · rw [upd_ne hb] at q
    by_cases hbe : b = e
    · have q' : H b = some (.own x) := by
        rcases he with z | z
        · exact absurd (hbe.trans z) hb
        · rw [hbe]; exact z
      rw [q] at q'; cases q'
      obtain ⟨v, hv⟩ := heo
      exact ⟨v, by rw [hbe]; exact hv⟩
    · refine (ok b u q).stay (fun c v hc r => k c v ?_ r) (fun c r => by rw [upd_ne (nown c b r)]; exact r) fun c xs r => by rw [upd_ne (ntup c xs r)]; exact r
      rcases hc with rfl | hc
      · exact hbe
      · rintro rfl
        rcases he with z | z
        · exact nown c b hc z
        · rw [hc] at z; cases z; exact hb rfl
end

/-! ### kept unless tracked; of the frames at fs (the callers') the slots may change (an exception that passes writes there); of the records at ex (iterators) nothing is said -/
structure Un (fs ex : List Addr) (H H' : Hp) (h h' : Heap) : Prop where
  keep : ∀ b o, h.get? b = some o → H b = none → b ∉ fs → b ∉ ex → h'.get? b = some o
  slot : ∀ b o, h.get? b = some o → H b = none → b ∈ fs → b ∉ ex → ∃ sl, h'.get? b = some { o with slots := sl }
  free : ∀ b o, h.get? b = some o → H b = none → b ∉ ex → H' b = none
  there : ∀ b o, h.get? b = some o → b ∉ ex → ∃ o', h'.get? b = some o'
  tups : ∀ b xs, H b = some (.tup xs) → H' b = some (.tup xs)
  frzs : ∀ b o u, H b = some (.frz o u) → H' b = some (.frz o u)
  tbls : ∀ b ps, H b = some (.tbl ps) → ∃ more, H' b = some (.tbl (ps ++ more))
section
variable {fs fs' ex ex' : List Addr} {H H1 H2 : Hp} {h h1 h2 h' : Heap} {a x e : Addr} {o : HO}
theorem Un.any (u : Un fs ex H H1 h h1) {b : Addr} {ob : Obj} (q : h.get? b = some ob) (n : H b = none) (hx : b ∉ ex) : ∃ sl, h1.get? b = some { ob with slots := sl } := by
  by_cases hb : b ∈ fs
  · exact u.slot b ob q n hb hx
  · exact ⟨ob.slots, u.keep b ob q n hb hx⟩
theorem Un.kept (k : ∀ b u, h.get? b = some u → h'.get? b = some u) : Un fs ex H H h h' :=
  ⟨fun b ob q _ _ _ => k b ob q, fun b ob q _ _ _ => ⟨ob.slots, k b ob q⟩, fun _ _ _ n _ => n, fun b ob q _ => ⟨ob, k b ob q⟩, fun _ _ q => q, fun _ _ _ q => q, fun _ ps q => ⟨#[], by rw [q]; simp⟩⟩
theorem Un.refl : Un fs ex H H h h := Un.kept fun _ _ q => q
theorem Un.laid (k : ∀ b u, h.get? b = some u → h'.get? b = some u) (hp : h.objs.size ≤ a) (hn : H a = none) : Un fs ex H (upd H a o) h h' where
  keep := fun b u q _ _ _ => k b u q
  slot := fun b u q _ _ _ => ⟨u.slots, k b u q⟩
  free := fun b u q n _ => by rw [upd_ne (Nat.ne_of_lt (Nat.lt_of_lt_of_le (Heap.lt_size q) hp))]; exact n
  there := fun b u q _ => ⟨u, k b u q⟩
  tups := fun b xs q => by rw [upd_ne (ne_of_none q hn)]; exact q
  frzs := fun b u xs q => by rw [upd_ne (ne_of_none q hn)]; exact q
  tbls := fun b ps q => ⟨#[], by rw [upd_ne (ne_of_none q hn), q]; simp⟩
theorem Un.write (mu : Mut (H x)) (he : e = x ∨ H e = some (.own x)) (k : ∀ b u, b ≠ e → h.get? b = some u → h'.get? b = some u) (heo : ∃ u, h'.get? e = some u) : Un fs ex H (upd H x o) h h' := by
  have hx : ∀ b, H b = none → b ≠ x := fun b n z => by subst z; rw [n] at mu; exact mu
  have hb : ∀ b, H b = none → b ≠ e := fun b n z => by
    subst z
    rcases he with r | r
    · exact hx b n r
    · rw [n] at r; cases r
  have hm : ∀ b u, H b = some u → ¬ Mut (some u) → b ≠ x := fun b u q nm z => by subst z; rw [q] at mu; exact nm mu
  refine ⟨fun b u q n _ _ => k b u (hb b n) q, fun b u q n _ _ => ⟨u.slots, k b u (hb b n) q⟩, fun b u q n _ => by rw [upd_ne (hx b n)]; exact n, fun b u q _ => ?_,
    fun b xs q => by rw [upd_ne (hm b _ q fun z => z)]; exact q, fun b u xs q => by rw [upd_ne (hm b _ q fun z => z)]; exact q, fun b ps q => ⟨#[], by rw [upd_ne (hm b _ q fun z => z), q]; simp⟩⟩
  by_cases hbe : b = e
  · subst hbe; exact heo
  · exact ⟨u, k b u hbe q⟩
end

/-! ### the heap without what is tracked -/
def trk (h : Heap) (H : Hp) : List Addr := (List.range h.objs.size).filter fun a => (H a).isSome
def hidT (h : Heap) (H : Hp) : Heap := PySem.W.hideAll h (trk h H)
theorem hidT_size (h : Heap) (H : Hp) : (hidT h H).objs.size = h.objs.size := PySem.W.hideAll_size _ _
theorem hidT_get {h : Heap} {H : Hp} {b : Addr} {o : Obj} (e : h.get? b = some o) (n : H b = none) : (hidT h H).get? b = some o :=
  PySem.W.hideAll_get _ e fun hm => by
    have q : (H b).isSome = true := (List.mem_filter.mp hm).2
    rw [n] at q; simp at q
theorem of_hidT {h : Heap} {H : Hp} {b : Addr} {o : Obj} (e : (hidT h H).get? b = some o) : h.get? b = some o ∧ H b = none := by
  have e' : h.get? b = some o := PySem.W.of_hideAll (trk h H) e
  refine ⟨e', ?_⟩
  cases q : H b with
  | none => rfl
  | some x =>
    have hm : b ∈ trk h H := List.mem_filter.mpr ⟨List.mem_range.mpr (Heap.lt_size e'), by simp [q]⟩
    have z : (hidT h H).get? b = none := PySem.W.hideAll_none (trk h H) hm
    rw [z] at e; cases e

/-! ### OpenK's ledger, filled with every new object but one -/
end L2

namespace L2
open PySem PySem.Spec PyProof.Rows

/-- the module's facts, over the base: the heap at the law's entry without what is tracked there -/
structure Mod (K : PySem.W.Frag) (mg : Str → Option Value) (base : Heap) : Prop where
  kin : K.In base
  glob : base.Ns mainGlobals mg
  blt : ∃ mb, base.Ns builtinsNs mb ∧ ∀ x : Str, x ≠ "__name__" → mb x = bootBuiltins x
  nolimit : base.NoLimit

/-- the context: a def's body (or a comprehension's block) running. base: fixed through the whole law; s₀, H₀: the entry; outer: the frames whose slots others may change (a def's callers); stack: all frames that run;
   ex: iterators that were made ahead of the entry and are walked here (a comprehension's); fn: the names whose cells were made at the entry (a def: all; a comprehension's block: its own); calm: not within an except suite; pn: pins that every state bears; xe: what is wanted of an exception that leaves the code -/
structure Cx where
  prog : Program
  w : World
  K : PySem.W.Frag
  mg : Str → Option Value
  base : Heap
  A : Around
  N : List Str
  s₀ : Shared
  H₀ : Hp
  env : Env
  outer : List Env
  stack : List Env
  ex : List Addr
  fn : Str → Bool
  calm : Bool
  pn : List (Addr × Obj)
  xe : Value → Shared → Prop
/-- the callers' frames -/
def frs (l : List Env) : List Addr := l.filterMap (·.frame)
abbrev Cx.fs (X : Cx) : List Addr := frs X.outer

def Vis (sc : Scope) (x : Str) : Prop := sc.names.lookup x = some .local ∨ sc.names.lookup x = some .cell ∨ sc.names.lookup x = some .free
def Loc (sc : Scope) (x : Str) : Prop := sc.names.lookup x = some .local ∨ sc.names.lookup x = some .cell
def Look (env : Env) (h : Heap) (m : Str → Option Value) (x : Str) (u : Value) : Prop :=
  (env.kindOf x = some .local ∧ m x = some u) ∨ ((env.kindOf x = some .cell ∨ env.kindOf x = some .free) ∧ ∃ c, env.cells.lookup x = some c ∧ h.IsCell c (some u))

structure Cx.Ok (X : Cx) : Prop where
  mod : Mod X.K X.mg X.base
  kind : X.env.scope.kind = .function
  glob : X.env.globals = mainGlobals
  blt : X.env.builtins = builtinsNs
  above : X.s₀.heap.objs.size ≤ X.env.locals
  inj : ∀ x y c, X.env.cells.lookup x = some c → X.env.cells.lookup y = some c → x = y
  has : ∀ x, (X.env.kindOf x = some .cell ∨ X.env.kindOf x = some .free) → ∃ c, X.env.cells.lookup x = some c
  cab : ∀ x c, X.fn x = true → X.env.cells.lookup x = some c → X.s₀.heap.objs.size ≤ c
  hd : X.calm = true → X.A.handled = none
  frames : X.A.frames = some X.stack
  stk : X.stack = X.outer ∨ (X.stack = X.env :: X.outer ∧ X.env.frame = some X.env.locals)
  exf : ∀ b ∈ X.ex, b ≠ X.env.locals ∧ ∀ x c, X.env.cells.lookup x = some c → c ≠ b
  bs : ∀ b o, X.base.get? b = some o → X.s₀.heap.get? b = some o ∧ X.H₀ b = none
  bsz : X.base.objs.size ≤ X.s₀.heap.objs.size
  noex : ∀ b o, X.base.get? b = some o → b ∉ X.ex
  exfs : ∀ b ∈ X.ex, b ∉ X.fs
  funs : X.s₀.heap.FunFrames X.base X.outer
  frf : ∀ b ∈ X.fs, X.H₀ b = none

structure Inv (X : Cx) (pins : List (Addr × Obj)) (σ : List (Option V)) (H : Hp) (s : Shared) : Prop where
  ok : X.Ok
  os : s.os = X.s₀.os
  bare : AllBare s.gens
  base : Un X.fs X.ex X.H₀ H X.s₀.heap s.heap
  loc : ∃ m, s.heap.Ns X.env.locals m ∧ ∀ (i : Nat) (x : Str) (v : V), X.N[i]? = some x → σ[i]? = some (some v) → Vis X.env.scope x → ∃ u, RelV v u ∧ Look X.env s.heap m x u
  cell : ∀ x c, X.env.cells.lookup x = some c → ∃ v, s.heap.IsCell c v
  free : H X.env.locals = none
  freeC : ∀ x c, X.env.cells.lookup x = some c → H c = none
  pin : ∀ p ∈ X.pn ++ pins, s.heap.get? p.1 = some p.2 ∧ H p.1 = none ∧ p.1 ≠ X.env.locals ∧ p.1 ∉ X.fs ∧ ∀ v, p.2.data ≠ .cell v
  hok : HOk X.prog X.w H s.heap
  len : σ.length = X.N.length

section
variable {X : Cx} {pins : List (Addr × Obj)} {σ : List (Option V)} {H H' : Hp} {s : Shared} {h' : Heap}

theorem Cx.Ok.nofr (ok : X.Ok) {b : Addr} {o : Obj} (e : X.base.get? b = some o) : b ∉ X.fs := fun hb => by
  have := (ok.funs.mem hb).1
  rw [e] at this; cases this
theorem Inv.bs (I : Inv X pins σ H s) : ∀ b o, X.base.get? b = some o → s.heap.get? b = some o ∧ H b = none := fun b o e =>
  ⟨I.base.keep b o (I.ok.bs b o e).1 (I.ok.bs b o e).2 (I.ok.nofr e) (I.ok.noex b o e), I.base.free b o (I.ok.bs b o e).1 (I.ok.bs b o e).2 (I.ok.noex b o e)⟩
theorem Inv.bk (I : Inv X pins σ H s) : ∀ b o, X.base.get? b = some o → s.heap.get? b = some o := fun b o e => (I.bs b o e).1
theorem Inv.mod (I : Inv X pins σ H s) : Mod X.K X.mg X.base := I.ok.mod
theorem Inv.kIn (I : Inv X pins σ H s) : X.K.In s.heap := I.ok.mod.kin.keeps I.bk
theorem Inv.lt (I : Inv X pins σ H s) : X.env.locals < s.heap.objs.size := let ⟨_, hn, _⟩ := I.loc; hn.lt
theorem Inv.sz (I : Inv X pins σ H s) : X.s₀.heap.objs.size ≤ s.heap.objs.size := Nat.le_trans I.ok.above (Nat.le_of_lt I.lt)
theorem Inv.nofs (I : Inv X pins σ H s) {a : Addr} (h : s.heap.objs.size ≤ a) : a ∉ X.fs := fun hb => by
  obtain ⟨_, o, ho, _⟩ := I.ok.funs.mem hb
  exact absurd (Nat.lt_of_lt_of_le (Heap.lt_size ho) (Nat.le_trans I.sz h)) (Nat.lt_irrefl _)
theorem Inv.cne (I : Inv X pins σ H s) : ∀ x c, X.env.cells.lookup x = some c → c ≠ X.env.locals := fun x c e z => by
  obtain ⟨v, o, ho, hd⟩ := I.cell x c e
  obtain ⟨m, ⟨o', es, ep, ho', hd', _⟩, _⟩ := I.loc
  rw [z, ho'] at ho; cases ho; rw [hd'] at hd; cases hd
theorem Inv.funs (I : Inv X pins σ H s) : s.heap.FunFrames X.base X.outer := by
  have all : ∀ (l : List Env), (∀ b ∈ frs l, b ∈ X.fs) → X.s₀.heap.FunFrames X.base l → s.heap.FunFrames X.base l := by
    intro l
    induction l with
    | nil => intro _ _; trivial
    | cons env r ih =>
      intro hs hl
      obtain ⟨hk, ⟨L, o, hf, hn, ho, hd⟩, hr⟩ := hl
      have hL : L ∈ X.fs := hs L (by unfold frs; rw [List.filterMap_cons, hf]; exact List.mem_cons_self)
      obtain ⟨sl, e⟩ := I.base.slot L o ho (I.ok.frf L hL) hL fun z => I.ok.exfs L z hL
      exact ⟨hk, ⟨L, _, hf, hn, e, hd⟩, ih (fun b hb => hs b (by unfold frs; rw [List.filterMap_cons, hf]; exact List.mem_cons_of_mem _ hb)) hr⟩
  exact all X.outer (fun _ hb => hb) I.ok.funs

/-- the frames that run, for a call -/
theorem Inv.stack (I : Inv X pins σ H s) : s.heap.FunFrames X.base X.stack := by
  rcases I.ok.stk with e | ⟨e, hf⟩
  · rw [e]; exact I.funs
  · rw [e]
    obtain ⟨m, hn, _⟩ := I.loc
    refine .cons (by rw [I.ok.kind]; decide) hf hn ?_ I.funs
    exact Heap.get?_none_of_le (Nat.le_trans I.ok.bsz I.ok.above)
theorem Inv.stkSub (I : Inv X pins σ H s) : ∀ b ∈ frs X.stack, b ∈ X.env.locals :: X.fs := fun b hb => by
  rcases I.ok.stk with e | ⟨e, hf⟩
  · rw [e] at hb; exact List.mem_cons_of_mem _ hb
  · rw [e] at hb
    unfold frs at hb
    rw [List.filterMap_cons, hf] at hb
    exact hb
theorem Inv.stkFree (I : Inv X pins σ H s) : ∀ b ∈ frs X.stack, H b = none := fun b hb => by
  rcases List.mem_cons.mp (I.stkSub b hb) with e | hb
  · rw [e]; exact I.free
  · obtain ⟨_, o, ho, _⟩ := I.ok.funs.mem hb
    exact I.base.free b o ho (I.ok.frf b hb) fun z => I.ok.exfs b z hb

/-- THE STEP: the untracked objects but the frame and the records at ch are kept (the callers' frames up to slots), the frame's map is kept, the new abstract heap is held -/
theorem Inv.step {g' : Array GenState} {t' : Nat} {d' : Drawn} {ch : List Addr} (I : Inv X pins σ H s)
    (hch : ∀ b ∈ ch, (b ∈ X.ex ∨ X.s₀.heap.objs.size ≤ b) ∧ b ≠ X.env.locals ∧ (∀ x c, X.env.cells.lookup x = some c → c ≠ b) ∧ ∀ p ∈ X.pn ++ pins, p.1 ≠ b)
    (keep : ∀ b o, b ≠ X.env.locals → b ∉ X.fs → b ∉ ch → s.heap.get? b = some o → H b = none → h'.get? b = some o)
    (slot : ∀ b o, b ≠ X.env.locals → b ∈ X.fs → b ∉ ch → s.heap.get? b = some o → H b = none → ∃ sl, h'.get? b = some { o with slots := sl }) (free : ∀ b o, b ∉ ch → s.heap.get? b = some o → H b = none → H' b = none)
    (there : ∀ b o, b ∉ ch → s.heap.get? b = some o → ∃ o', h'.get? b = some o')
    (tups : ∀ b xs, H b = some (.tup xs) → H' b = some (.tup xs)) (frzs : ∀ b o u, H b = some (.frz o u) → H' b = some (.frz o u)) (tbls : ∀ b ps, H b = some (.tbl ps) → ∃ more, H' b = some (.tbl (ps ++ more)))
    (ns : ∀ m, s.heap.Ns X.env.locals m → h'.Ns X.env.locals m) (hok : HOk X.prog X.w H' h') (hg : AllBare g') :
    Inv X pins σ H' { s with heap := h', gens := g', drawn := d', toks := t' } := by
  have neL : ∀ b o, X.s₀.heap.get? b = some o → b ≠ X.env.locals := fun b o e => Nat.ne_of_lt (Nat.lt_of_lt_of_le (Heap.lt_size e) I.ok.above)
  have neC : ∀ b o, X.s₀.heap.get? b = some o → b ∉ X.ex → b ∉ ch := fun b o e hx hb => by
    rcases (hch b hb).1 with z | z
    · exact hx z
    · exact absurd (Nat.lt_of_lt_of_le (Heap.lt_size e) z) (Nat.lt_irrefl _)
  have cellK : ∀ x c, X.env.cells.lookup x = some c → ∀ v, s.heap.IsCell c v → h'.IsCell c v := fun x c e v ⟨o, ho, hd⟩ => by
    have nch : c ∉ ch := fun z => (hch c z).2.2.1 x c e rfl
    by_cases hc : c ∈ X.fs
    · obtain ⟨sl, q⟩ := slot c o (I.cne x c e) hc nch ho (I.freeC x c e)
      exact ⟨_, q, hd⟩
    · exact ⟨o, keep c o (I.cne x c e) hc nch ho (I.freeC x c e), hd⟩
  refine ⟨I.ok, I.os, hg, ⟨fun b o e n hb hx => ?_, fun b o e n hb hx => ?_, fun b o e n hx => ?_, fun b o e hx => ?_, fun b xs e => tups b xs (I.base.tups b xs e), fun b o xs e => frzs b o xs (I.base.frzs b o xs e), fun b ps e => ?_⟩, ?_, fun x c e => ?_, ?_, fun x c e => ?_, fun p hp => ?_, hok, I.len⟩
  · exact keep b o (neL b o e) hb (neC b o e hx) (I.base.keep b o e n hb hx) (I.base.free b o e n hx)
  · obtain ⟨sl, e1⟩ := I.base.slot b o e n hb hx
    obtain ⟨sl', e2⟩ := slot b _ (neL b o e) hb (neC b o e hx) e1 (I.base.free b o e n hx)
    exact ⟨sl', e2⟩
  · obtain ⟨o', e1⟩ := I.base.there b o e hx
    exact free b o' (neC b o e hx) e1 (I.base.free b o e n hx)
  · obtain ⟨o', e1⟩ := I.base.there b o e hx
    exact there b o' (neC b o e hx) e1
  · obtain ⟨m1, e1⟩ := I.base.tbls b ps e
    obtain ⟨m2, e2⟩ := tbls b _ e1
    exact ⟨m1 ++ m2, by rw [e2, Array.append_assoc]⟩
  · obtain ⟨m, hn, hl⟩ := I.loc
    refine ⟨m, ns m hn, fun i x v e1 e2 e3 => ?_⟩
    obtain ⟨u, r, l⟩ := hl i x v e1 e2 e3
    refine ⟨u, r, ?_⟩
    rcases l with l | ⟨k, c, e, z⟩
    · exact .inl l
    · exact .inr ⟨k, c, e, cellK x c e _ z⟩
  · obtain ⟨v, z⟩ := I.cell x c e
    exact ⟨v, cellK x c e v z⟩
  · obtain ⟨m, ⟨o, _, _, ho, _⟩, _⟩ := I.loc
    exact free _ o (fun z => (hch _ z).2.1 rfl) ho I.free
  · obtain ⟨v, o, ho, hd⟩ := I.cell x c e
    exact free c o (fun z => (hch c z).2.2.1 x c e rfl) ho (I.freeC x c e)
  · obtain ⟨e, n, ne, nf, d⟩ := I.pin p hp
    have nch : p.1 ∉ ch := fun z => (hch p.1 z).2.2.2 p hp rfl
    exact ⟨keep p.1 p.2 ne nf nch e n, free p.1 p.2 nch e n, ne, nf, d⟩
/-- .. where the frame's own object is kept too -/
theorem Inv.un {t' : Nat} (I : Inv X pins σ H s) (u : Un X.fs [] H H' s.heap h') (hok : HOk X.prog X.w H' h') : Inv X pins σ H' { s with heap := h', toks := t' } := by
  obtain ⟨m, ⟨o, es, ep, ho, r⟩, _⟩ := id I.loc
  obtain ⟨sl, hL⟩ := u.any ho I.free (by simp)
  exact I.step (g' := s.gens) (d' := s.drawn) (ch := []) (fun _ z => nomatch z) (fun b o _ hb _ e n => u.keep b o e n hb (by simp)) (fun b o _ hb _ e n => u.slot b o e n hb (by simp)) (fun b o _ e n => u.free b o e n (by simp)) (fun b o _ e => u.there b o e (by simp)) u.tups u.frzs u.tbls (fun m' hm => by
    obtain ⟨o', es', ep', ho', r'⟩ := hm
    rw [ho] at ho'; cases ho'
    exact ⟨_, es', ep', hL, r'⟩) hok I.bare
/-- behind a call (or a comprehension's block): the slots of this frame may have changed too, the records at ch may have turned -/
theorem Inv.call {g' : Array GenState} {t' : Nat} {d' : Drawn} {ch : List Addr} (I : Inv X pins σ H s) (u : Un (frs X.stack) ch H H' s.heap h') (hok : HOk X.prog X.w H' h') (hg : AllBare g')
    (hch : ∀ b ∈ ch, (b ∈ X.ex ∨ X.s₀.heap.objs.size ≤ b) ∧ b ≠ X.env.locals ∧ (∀ x c, X.env.cells.lookup x = some c → c ≠ b) ∧ ∀ p ∈ X.pn ++ pins, p.1 ≠ b) :
    Inv X pins σ H' { s with heap := h', gens := g', drawn := d', toks := t' } := by
  obtain ⟨m, ⟨o, es, ep, ho, r⟩, _⟩ := id I.loc
  obtain ⟨sl, hL⟩ := u.any ho I.free fun z => (hch _ z).2.1 rfl
  exact I.step (ch := ch) hch (fun b o hL hb hc e n => u.keep b o e n (fun z => (List.mem_cons.mp (I.stkSub b z)).elim hL hb) hc) (fun b o _ _ hc e n => u.any e n hc) (fun b o hc e n => u.free b o e n hc) (fun b o hc e => u.there b o e hc) u.tups u.frzs u.tbls (fun m' hm => by
    obtain ⟨o', es', ep', ho', r'⟩ := hm
    rw [ho] at ho'; cases ho'
    exact ⟨_, es', ep', hL, r'⟩) hok hg
/-- an untracked record of ours (an iterator) has turned -/
theorem Inv.turned {t' : Nat} {it : Addr} (I : Inv X pins σ H s) (k : ∀ b o, b ≠ it → s.heap.get? b = some o → h'.get? b = some o) (hn : H it = none) (hL : it ≠ X.env.locals)
    (h1 : it ∈ X.ex ∨ X.s₀.heap.objs.size ≤ it) (h2 : ∀ x c, X.env.cells.lookup x = some c → c ≠ it) (h3 : ∀ p ∈ X.pn ++ pins, p.1 ≠ it) : Inv X pins σ H { s with heap := h', toks := t' } := by
  have nit : ∀ b u, H b = some u → b ≠ it := fun b u e z => by rw [z, hn] at e; cases e
  refine I.step (g' := s.gens) (d' := s.drawn) (ch := [it]) (fun b hb => ?_) (fun b o _ _ hc e _ => k b o (fun z => hc (by simp [z])) e) (fun b o _ _ hc e _ => ⟨o.slots, k b o (fun z => hc (by simp [z])) e⟩) (fun _ _ _ _ n => n)
    (fun b o hc e => ⟨o, k b o (fun z => hc (by simp [z])) e⟩) (fun _ _ e => e) (fun _ _ _ e => e) (fun b ps e => ⟨#[], by rw [e]; simp⟩) (fun m hm => ?_) (fun b u e => ?_) I.bare
  · have e : b = it := by simpa using hb
    subst e
    exact ⟨h1, hL, h2, h3⟩
  · obtain ⟨o, es, ep, ho, r⟩ := hm
    exact ⟨o, es, ep, k _ o (Ne.symm hL) ho, r⟩
  · refine (I.hok b u e).stay (fun c v hc q => k c v ?_ q) (fun _ q => q) fun _ _ q => q
    rcases hc with z | z
    · rw [z]; exact nit b u e
    · exact nit c _ z
theorem Inv.tok (I : Inv X pins σ H s) (t : Nat) : Inv X pins σ H { s with toks := t } := I.un (h' := s.heap) (t' := t) Un.refl I.hok
/-- all objects kept -/
theorem Inv.kept {t' : Nat} (I : Inv X pins σ H s) (k : ∀ b u, s.heap.get? b = some u → h'.get? b = some u) : Inv X pins σ H { s with heap := h', toks := t' } := I.un (Un.kept k) (I.hok.kept k)
/-- a new object laid and tracked -/
theorem Inv.laid {a : Addr} {o : HO} {t' : Nat} (I : Inv X pins σ H s) (k : ∀ b u, s.heap.get? b = some u → h'.get? b = some u) (hp : s.heap.objs.size ≤ a) (new : ObjOk X.prog X.w (upd H a o) h' a o) :
    Inv X pins σ (upd H a o) { s with heap := h', toks := t' } := I.un (Un.laid k hp (I.hok.fresh hp)) (I.hok.laid k hp new)
/-- an object written -/
theorem Inv.write {x e : Addr} {o : HO} {t' : Nat} (I : Inv X pins σ H s) (mu : Mut (H x)) (he : e = x ∨ H e = some (.own x)) (k : ∀ b u, b ≠ e → s.heap.get? b = some u → h'.get? b = some u) (heo : ∃ u, h'.get? e = some u)
    (new : ObjOk X.prog X.w (upd H x o) h' x o) : Inv X pins σ (upd H x o) { s with heap := h', toks := t' } := I.un (Un.write mu he k heo) (I.hok.write mu he k heo new)
/-- forgetting slots, pins -/
theorem Inv.weak {σ' : List (Option V)} (I : Inv X pins σ H s) (hl : σ'.length = σ.length) (w : ∀ (i : Nat) v, σ'[i]? = some (some v) → σ[i]? = some (some v)) : Inv X pins σ' H s :=
  ⟨I.ok, I.os, I.bare, I.base, let ⟨m, hn, hl'⟩ := I.loc; ⟨m, hn, fun i x v e1 e2 e3 => hl' i x v e1 (w i v e2) e3⟩, I.cell, I.free, I.freeC, I.pin, I.hok, hl.trans I.len⟩
theorem Inv.pins_of {pins' : List (Addr × Obj)} (I : Inv X pins σ H s) (h : ∀ p ∈ pins', s.heap.get? p.1 = some p.2 ∧ H p.1 = none ∧ p.1 ≠ X.env.locals ∧ p.1 ∉ X.fs ∧ ∀ v, p.2.data ≠ .cell v) : Inv X pins' σ H s :=
  ⟨I.ok, I.os, I.bare, I.base, I.loc, I.cell, I.free, I.freeC, fun p hp => (List.mem_append.mp hp).elim (fun z => I.pin p (List.mem_append_left _ z)) (h p), I.hok, I.len⟩

theorem nodup_ix {N : List Str} (hN : N.Nodup) {i j : Nat} {x : Str} (a : N[i]? = some x) (b : N[j]? = some x) : i = j := by
  obtain ⟨h1, e1⟩ := List.getElem?_eq_some_iff.mp a
  obtain ⟨h2, e2⟩ := List.getElem?_eq_some_iff.mp b
  exact (List.getElem_inj hN).mp (e1.trans e2.symm)

/-- a name is stored; what changed -/
theorem store_ok2 {M : Model} {A : Around} {E : Value → Shared → Prop} {i : Nat} {x : Str} {v : V} {u : Value} {Q : Unit → Shared → Prop} (I : Inv X pins σ H s) (hN : X.N.Nodup) (hi : X.N[i]? = some x) (hx : Loc X.env.scope x) (r : RelV v u)
    (h : ∀ s', Inv X pins (σ.set i (some v)) H s' → (∃ a, Heap.SameBut a s.heap s'.heap ∧ (a = X.env.locals ∨ X.env.cells.lookup x = some a)) → Q () s') (hf : X.fn x = true ∨ X.env.scope.names.lookup x = some .local := by first | exact .inl rfl | exact .inr rfl | assumption) : wpAny M A (storeName X.env x u) Q E s := by
  obtain ⟨m, hn, hl⟩ := id I.loc
  have hcls : (X.env.scope.kind == .class || (X.env.scope.kind == .module && X.env.locals != X.env.globals)) = false := by rw [I.ok.kind]; rfl
  have hiσ : i < σ.length := by rw [I.len]; exact (List.getElem?_eq_some_iff.mp hi).1
  have cne := I.cne
  have tracked : ∀ {a : Addr} {h' : Heap}, (∃ o, s.heap.get? a = some o ∧ H a = none) → Heap.SameBut a s.heap h' → HOk X.prog X.w H h' := fun {a h'} ha hs b ob e => by
    obtain ⟨_, _, hfree⟩ := ha
    refine (I.hok b ob e).stay (fun c w' hc q => (hs.2 c ?_).trans q) (fun _ q => q) fun _ _ q => q
    rintro rfl
    rcases hc with rfl | hc
    · rw [hfree] at e; cases e
    · rw [hfree] at hc; cases hc
  rcases hx with hk | hk
  · refine wpAny_storeName_local hk hn (fun h' hn' hs => ?_) hcls
    obtain ⟨oL, _, _, hoL, _⟩ := id hn
    refine h _ ⟨I.ok, I.os, I.bare, ⟨fun b o e n hb hx => ?_, fun b o e n hb hx => ?_, I.base.free, fun b o e hx => ?_, I.base.tups, I.base.frzs, I.base.tbls⟩, ⟨_, hn', fun j y v' e1 e2 e3 => ?_⟩, fun y c e => ?_, I.free, I.freeC, fun p hp => ?_, tracked ⟨oL, hoL, I.free⟩ hs, by simpa using I.len⟩ ⟨_, hs, .inl rfl⟩
    · exact (hs.2 b (Nat.ne_of_lt (Nat.lt_of_lt_of_le (Heap.lt_size e) I.ok.above))).trans (I.base.keep b o e n hb hx)
    · obtain ⟨sl, e1⟩ := I.base.slot b o e n hb hx
      exact ⟨sl, (hs.2 b (Nat.ne_of_lt (Nat.lt_of_lt_of_le (Heap.lt_size e) I.ok.above))).trans e1⟩
    · obtain ⟨o', e1⟩ := I.base.there b o e hx
      exact ⟨o', (hs.2 b (Nat.ne_of_lt (Nat.lt_of_lt_of_le (Heap.lt_size e) I.ok.above))).trans e1⟩
    · by_cases hj : j = i
      · subst hj
        rw [hi] at e1; cases e1
        rw [List.getElem?_set_self hiσ] at e2
        cases e2
        exact ⟨u, r, .inl ⟨hk, by simp⟩⟩
      · rw [List.getElem?_set_ne (Ne.symm hj)] at e2
        obtain ⟨u', r', q⟩ := hl j y v' e1 e2 e3
        refine ⟨u', r', ?_⟩
        rcases q with ⟨k, e⟩ | ⟨k, c, e, z⟩
        · refine .inl ⟨k, ?_⟩
          have : y ≠ x := fun e => hj (nodup_ix hN e1 (e ▸ hi))
          simp [this, e]
        · exact .inr ⟨k, c, e, z.sameBut hs (cne y c e)⟩
    · obtain ⟨w', z⟩ := I.cell y c e
      exact ⟨w', z.sameBut hs (cne y c e)⟩
    · obtain ⟨e, n, ne, nf, d⟩ := I.pin p hp
      exact ⟨(hs.2 p.1 ne).trans e, n, ne, nf, d⟩
  · have hfn : X.fn x = true := by
      rcases hf with z | z
      · exact z
      · rw [z] at hk; cases hk
    obtain ⟨c, hc⟩ := I.ok.has x (.inl hk)
    obtain ⟨w', z⟩ := I.cell x c hc
    refine wpAny_storeName_cell I.ok.kind hk hc z (fun h' hc' hs => ?_)
    obtain ⟨oc, hoc, hocd⟩ := id z
    refine h { s with heap := h' } ⟨I.ok, I.os, I.bare, ⟨fun b o e n hb hx => ?_, fun b o e n hb hx => ?_, I.base.free, fun b o e hx => ?_, I.base.tups, I.base.frzs, I.base.tbls⟩, ⟨m, hn.sameBut hs (Ne.symm (cne x c hc)), fun j y v' e1 e2 e3 => ?_⟩, fun y c' e => ?_, I.free, I.freeC, fun p hp => ?_, tracked ⟨oc, hoc, I.freeC x c hc⟩ hs, by simpa using I.len⟩ ⟨c, hs, .inr hc⟩
    · exact (hs.2 b (Nat.ne_of_lt (Nat.lt_of_lt_of_le (Heap.lt_size e) (I.ok.cab x c hfn hc)))).trans (I.base.keep b o e n hb hx)
    · obtain ⟨sl, e1⟩ := I.base.slot b o e n hb hx
      exact ⟨sl, (hs.2 b (Nat.ne_of_lt (Nat.lt_of_lt_of_le (Heap.lt_size e) (I.ok.cab x c hfn hc)))).trans e1⟩
    · obtain ⟨o', e1⟩ := I.base.there b o e hx
      exact ⟨o', (hs.2 b (Nat.ne_of_lt (Nat.lt_of_lt_of_le (Heap.lt_size e) (I.ok.cab x c hfn hc)))).trans e1⟩
    · by_cases hj : j = i
      · subst hj
        rw [hi] at e1; cases e1
        rw [List.getElem?_set_self hiσ] at e2
        cases e2
        exact ⟨u, r, .inr ⟨.inl hk, c, hc, hc'⟩⟩
      · rw [List.getElem?_set_ne (Ne.symm hj)] at e2
        obtain ⟨u', r', q⟩ := hl j y v' e1 e2 e3
        refine ⟨u', r', ?_⟩
        rcases q with q | ⟨k, c', e, z'⟩
        · exact .inl q
        · refine .inr ⟨k, c', e, z'.sameBut hs ?_⟩
          rintro rfl
          exact hj (nodup_ix hN e1 (I.ok.inj _ _ _ e hc ▸ hi))
    · by_cases hcc : c' = c
      · subst hcc; exact ⟨_, hc'⟩
      · obtain ⟨w2, z2⟩ := I.cell y c' e
        exact ⟨w2, z2.sameBut hs hcc⟩
    · obtain ⟨e, n, ne, nf, d⟩ := I.pin p hp
      refine ⟨(hs.2 p.1 ?_).trans e, n, ne, nf, d⟩
      intro q
      rw [q, hoc] at e
      have q' : oc = p.2 := Option.some.inj e
      exact d w' (by rw [← q']; exact hocd)
theorem store_ok {M : Model} {A : Around} {E : Value → Shared → Prop} {i : Nat} {x : Str} {v : V} {u : Value} {Q : Unit → Shared → Prop} (I : Inv X pins σ H s) (hN : X.N.Nodup) (hi : X.N[i]? = some x) (hx : Loc X.env.scope x) (r : RelV v u)
    (h : ∀ s', Inv X pins (σ.set i (some v)) H s' → Q () s') (hf : X.fn x = true ∨ X.env.scope.names.lookup x = some .local := by first | exact .inl rfl | exact .inr rfl | assumption) : wpAny M A (storeName X.env x u) Q E s :=
  store_ok2 I hN hi hx r (fun s' I' _ => h s' I') hf
/-- behind a call or a block, the state as it is -/
theorem Inv.call' {s' : Shared} {ch : List Addr} (I : Inv X pins σ H s) (ho : s'.os = s.os) (u : Un (frs X.stack) ch H H' s.heap s'.heap) (hok : HOk X.prog X.w H' s'.heap) (hg : AllBare s'.gens)
    (hch : ∀ b ∈ ch, (b ∈ X.ex ∨ X.s₀.heap.objs.size ≤ b) ∧ b ≠ X.env.locals ∧ (∀ x c, X.env.cells.lookup x = some c → c ≠ b) ∧ ∀ p ∈ X.pn ++ pins, p.1 ≠ b) : Inv X pins σ H' s' := by
  obtain ⟨h', g', d', t', o'⟩ := s'
  have e : o' = s.os := ho
  subst e
  exact I.call (g' := g') (t' := t') (d' := d') u hok hg hch
end

/-! ### the judgements -/
/-- an exception: its class, its own dict's address (where it has one), the abstract heap behind it -/
abbrev XK := Value → Option Addr → Hp → Prop
abbrev St := List (Option V)
abbrev VK := V → Hp → Prop
/-- an expression's reading; a test's; an argument list's -/
abbrev TE := St → Hp → VK → Prop
abbrev TT := St → Hp → (Bool → Hp → Prop) → Prop
abbrev TA := St → Hp → (List V → Hp → Prop) → Prop
/-- what is wanted behind a statement -/
structure Ends where
  nx : St → Hp → Prop
  rt : VK
  bk : St → Hp → Prop := fun _ _ => False
  ct : St → Hp → Prop := fun _ _ => False
abbrev TS := Ends → St → Hp → Prop

def EP (X : Cx) (pins : List (Addr × Obj)) (σ : St) (Q : VK) (u : Value) (s' : Shared) : Prop := ∃ v H', Inv X pins σ H' s' ∧ RelV v u ∧ Q v H'
def TP (X : Cx) (pins : List (Addr × Obj)) (σ : St) (Q : Bool → Hp → Prop) (b : Bool) (s' : Shared) : Prop := ∃ H', Inv X pins σ H' s' ∧ Q b H'
def AP (X : Cx) (pins : List (Addr × Obj)) (σ : St) (Q : List V → Hp → Prop) (us : List Value) (s' : Shared) : Prop := ∃ vs H', Inv X pins σ H' s' ∧ Vals vs us ∧ Q vs H'
def SP (X : Cx) (pins : List (Addr × Obj)) (D : Ends) (f : Flow) (s' : Shared) : Prop :=
  match f with
  | .next => ∃ σ' H', Inv X pins σ' H' s' ∧ D.nx σ' H'
  | .brk => ∃ σ' H', Inv X pins σ' H' s' ∧ D.bk σ' H'
  | .cont => ∃ σ' H', Inv X pins σ' H' s' ∧ D.ct σ' H'
  | .ret u => ∃ v σ' H', Inv X pins σ' H' s' ∧ RelV v u ∧ D.rt v H'

def PE (X : Cx) (e : Expr) (t : TE) : Prop :=
  ∀ (pins : List (Addr × Obj)) (s : Shared) (σ : St) (H : Hp) (Q : VK), Inv X pins σ H s → t σ H Q → wpAny (model X.prog X.w) X.A (eval e X.env) (EP X pins σ Q) X.xe s
def PT (X : Cx) (e : Expr) (t : TT) : Prop :=
  ∀ (pins : List (Addr × Obj)) (s : Shared) (σ : St) (H : Hp) (Q : Bool → Hp → Prop), Inv X pins σ H s → t σ H Q → wpAny (model X.prog X.w) X.A (isTrue e X.env (eval e X.env)) (TP X pins σ Q) X.xe s
/-- a test whatever its 'whole' is (and, or) -/
def PW (X : Cx) (e : Expr) (t : TT) : Prop :=
  ∀ (whole : Sem Value) (pins : List (Addr × Obj)) (s : Shared) (σ : St) (H : Hp) (Q : Bool → Hp → Prop), Inv X pins σ H s → t σ H Q → wpAny (model X.prog X.w) X.A (isTrue e X.env whole) (TP X pins σ Q) X.xe s
theorem PW.pt {X : Cx} {e : Expr} {t : TT} (h : PW X e t) : PT X e t := h _
/-- an argument list (no star), from the left -/
def PA (X : Cx) (es : List Expr) (t : TA) : Prop :=
  ∀ (pos : Pos) (pins : List (Addr × Obj)) (s : Shared) (σ : St) (H : Hp) (Q : List V → Hp → Prop), Inv X pins σ H s → t σ H Q → wpAny (model X.prog X.w) X.A (spliced (backTo pos (starEach es X.env))) (AP X pins σ Q) X.xe s
def PS (X : Cx) (st : Stmt) (t : TS) : Prop :=
  ∀ (pins : List (Addr × Obj)) (s : Shared) (σ : St) (H : Hp) (D : Ends), Inv X pins σ H s → t D σ H → wpAny (model X.prog X.w) X.A (exec st X.env) (SP X pins D) X.xe s
def PSs (X : Cx) (st : List Stmt) (t : TS) : Prop :=
  ∀ (pins : List (Addr × Obj)) (s : Shared) (σ : St) (H : Hp) (D : Ends), Inv X pins σ H s → t D σ H → wpAny (model X.prog X.w) X.A (execs st X.env) (SP X pins D) X.xe s
/-- weaken the end -/
theorem thn {α : Type} {t : Sem α} {Q Q' : α → Shared → Prop} {M : Model} {A : Around} {E : Value → Shared → Prop} {s : Shared} (h : wpAny M A t Q E s) (hQ : ∀ a s, Q a s → Q' a s) : wpAny M A t Q' E s := wpAny_mono h hQ fun _ _ x => x
end L2

namespace L2
open PySem PySem.Spec PyProof.Rows
section
variable {X : Cx}

/-! ### names and constants -/
def tVar (i : Nat) : TE := fun σ H Q => ∃ v, σ[i]? = some (some v) ∧ Q v H
def tC (v : V) : TE := fun _ H Q => Q v H
theorem pe_var {i : Nat} {x : Str} {pos : Pos} (hN : X.N[i]? = some x) (hv : Vis X.env.scope x) (hd : (x == ("__debug__" : Str)) = false := by decide) (hcd : (x == ("__classdict__" : Str)) = false := by decide) : PE X (.Name x pos) (tVar i) := by
  intro pins s σ H Q I h
  obtain ⟨v, e, h⟩ := h
  obtain ⟨m, hn, hl⟩ := I.loc
  obtain ⟨u, r, l⟩ := hl i x v hN e hv
  have fin : EP X pins σ Q u s := ⟨v, H, I, r, h⟩
  rcases l with ⟨hk, hm⟩ | ⟨hk, c, hc, hcell⟩
  · exact wpAny_Name (wpAny_loadName_local I.ok.kind hk hn hm fin) hd
  · rcases hk with hk | hk
    · exact wpAny_Name (wpAny_loadName_cell I.ok.kind hk hc hcell fin) hd
    · exact wpAny_Name (wpAny_loadName_free I.ok.kind hk hc hcell fin hcd) hd
theorem pe_int {i j pos} : PE X (.Constant (.int i) j pos) (tC (.int i)) := fun _ _ _ H _ I h => wpAny_Constant_int ⟨.int i, H, I.tok _, ⟨_, rfl⟩, h⟩
theorem pe_bl {b j pos} : PE X (.Constant (.bool b) j pos) (tC (.bl b)) := fun _ _ _ H _ I h => Constant_bool ⟨.bl b, H, I, rfl, h⟩
theorem pe_non {j pos} : PE X (.Constant .none j pos) (tC .non) := fun _ _ _ H _ I h => Constant_none ⟨.non, H, I, rfl, h⟩
theorem pe_str {x j pos} : PE X (.Constant (.str x) j pos) (tC (.str x)) := fun _ _ _ H _ I h => Calls.Constant_str ⟨.str x, H, I.tok _, ⟨_, rfl⟩, h⟩

/-- a global name of the def -/
def Gl (X : Cx) (x : Str) : Prop := X.env.kindOf x = some .globalImplicit
theorem ld_glob {E : Value → Shared → Prop} {pins : List (Addr × Obj)} {s : Shared} {σ : St} {H : Hp} {x : Str} {u : Value} {pos : Pos} {Q : Value → Shared → Prop} (I : Inv X pins σ H s) (hg : Gl X x) (hm : X.mg x = some u) (h : Q u s)
    (hd : (x == ("__debug__" : Str)) = false := by decide) : wpAny (model X.prog X.w) X.A (eval (.Name x pos) X.env) Q E s :=
  Calls.Name_function_global I.ok.kind hg (Calls.loadGlobal_global (by rw [I.ok.glob]; exact I.mod.glob.keeps I.bk) hm h) hd
theorem ld_blt {E : Value → Shared → Prop} {pins : List (Addr × Obj)} {s : Shared} {σ : St} {H : Hp} {x : Str} {u : Value} {pos : Pos} {Q : Value → Shared → Prop} (I : Inv X pins σ H s) (hg : Gl X x) (hm : X.mg x = none) (hv : bootBuiltins x = some u) (h : Q u s)
    (hn : x ≠ "__name__" := by decide) (hd : (x == ("__debug__" : Str)) = false := by decide) : wpAny (model X.prog X.w) X.A (eval (.Name x pos) X.env) Q E s := by
  obtain ⟨mb, h1, h2⟩ := I.mod.blt
  exact Calls.Name_function_global I.ok.kind hg (Calls.loadGlobal_builtin (by rw [I.ok.glob]; exact I.mod.glob.keeps I.bk) hm (by rw [I.ok.blt]; exact h1.keeps I.bk) ((h2 x hn).trans hv) h) hd
/-- a module's constant, a class, a function, as a value -/
theorem pe_glob {x : Str} {v : V} {u : Value} {pos : Pos} (hg : Gl X x) (hm : X.mg x = some u) (r : RelV v u) (hd : (x == ("__debug__" : Str)) = false := by decide) : PE X (.Name x pos) (tC v) :=
  fun _ _ _ H _ I h => ld_glob I hg hm ⟨v, H, I, r, h⟩ hd
theorem pe_bltn {x : Str} {v : V} {u : Value} {pos : Pos} (hg : Gl X x) (hm : X.mg x = none) (hv : bootBuiltins x = some u) (r : RelV v u) (hn : x ≠ "__name__" := by decide) (hd : (x == ("__debug__" : Str)) = false := by decide) : PE X (.Name x pos) (tC v) :=
  fun _ _ _ H _ I h => ld_blt I hg hm hv ⟨v, H, I, r, h⟩ hn hd

/-! ### arithmetic -/
variable {a b : Expr} {ta tb : TE} {pos : Pos}
/-! ### comparisons -/
/-- a comparison as a value, as a test -/
def tB (t : TE) : TT := fun σ H Q => t σ H fun x H1 => ∃ c, x = .bl c ∧ Q c H1
/-- an expression whose value is a bool, as a test -/
theorem pt_val {e : Expr} {t : TE} (h : PE X e t) (he : ∀ whole, isTrue e X.env whole = (do let v ← whole; standAt e.pos; holding [v] (truthy v)) := by intro _; rfl) : PT X e (tB t) := by
  intro pins s σ H Q I hw
  refine isTrue_plain (thn (h pins s σ H _ I hw) fun v s1 ⟨x, H1, I1, r1, q1⟩ => ?_) (he _)
  obtain ⟨d, rfl, q⟩ := q1
  cases r1
  exact wpAny_truthy_bool ⟨H1, I1, q⟩

/-! ### and, or, not -/
variable {tA tB' : TT} {rest : List Expr}
def tAnd (t u : TT) : TT := fun σ H Q => t σ H fun c H1 => if c = true then u σ H1 Q else Q false H1
def tOr (t u : TT) : TT := fun σ H Q => t σ H fun c H1 => if c = true then Q true H1 else u σ H1 Q
def tNot (t : TT) : TT := fun σ H Q => t σ H fun c H1 => Q (!c) H1
theorem pw_and1 (ha : PT X a tA) : PW X (.BoolOp .And [a] pos) tA := by
  intro wh pins s σ H Q I h
  refine isTrue_and (thn (ha pins s σ H Q I h) fun c s1 e => ?_)
  cases c with
  | true => exact isTrue_and_nil e
  | false => exact e
theorem pw_or1 (ha : PT X a tA) : PW X (.BoolOp .Or [a] pos) tA := by
  intro wh pins s σ H Q I h
  refine isTrue_or (thn (ha pins s σ H Q I h) fun c s1 e => ?_)
  cases c with
  | false => exact isTrue_or_nil e
  | true => exact e
theorem pw_and (ha : PT X a tA) (hb : PW X (.BoolOp .And (b :: rest) pos) tB') : PW X (.BoolOp .And (a :: b :: rest) pos) (tAnd tA tB') := by
  intro wh pins s σ H Q I h
  refine isTrue_and (thn (ha pins s σ H _ I h) fun c s1 ⟨H1, I1, q1⟩ => ?_)
  cases c with
  | true => exact hb wh pins s1 σ H1 Q I1 q1
  | false => exact ⟨H1, I1, q1⟩
theorem pw_or (ha : PT X a tA) (hb : PW X (.BoolOp .Or (b :: rest) pos) tB') : PW X (.BoolOp .Or (a :: b :: rest) pos) (tOr tA tB') := by
  intro wh pins s σ H Q I h
  refine isTrue_or (thn (ha pins s σ H _ I h) fun c s1 ⟨H1, I1, q1⟩ => ?_)
  cases c with
  | true => exact ⟨H1, I1, q1⟩
  | false => exact hb wh pins s1 σ H1 Q I1 q1
theorem pt_not (ha : PT X a tA) : PT X (.UnaryOp .Not a pos) (tNot tA) := by
  intro pins s σ H Q I h
  exact isTrue_not (ha pins s σ H (fun c H1 => Q (!c) H1) I h)
/-- .. as values (bools) -/
def tAndV (ta tb : TE) : TE := fun σ H Q => ta σ H fun x H1 => ∃ c, x = .bl c ∧ if c = true then tb σ H1 Q else Q (.bl false) H1
def tNotV (ta : TE) : TE := fun σ H Q => ta σ H fun x H1 => ∃ c, x = .bl c ∧ Q (.bl (!c)) H1
theorem pe_one {op} {t : TE} (h : PE X a t) : PE X (.BoolOp op [a] pos) t := fun pins s σ H Q I hw => BoolOp_one (h pins s σ H Q I hw)
theorem pe_and (ha : PE X a ta) (hb : PE X (.BoolOp .And (b :: rest) pos) tb) : PE X (.BoolOp .And (a :: b :: rest) pos) (tAndV ta tb) := by
  intro pins s σ H Q I h
  refine BoolOp_and (thn (ha pins s σ H _ I h) fun v s1 ⟨x, H1, I1, r1, q1⟩ => ?_)
  obtain ⟨c, rfl, q1⟩ := q1
  cases r1
  refine wpAny_truthy_bool ?_
  cases c with
  | true => exact hb pins s1 σ H1 Q I1 q1
  | false => exact ⟨.bl false, H1, I1, rfl, q1⟩
theorem pe_not (ha : PE X a ta) : PE X (.UnaryOp .Not a pos) (tNotV ta) := by
  intro pins s σ H Q I h
  refine UnaryOp_ (thn (ha pins s σ H _ I h) fun v s1 ⟨x, H1, I1, r1, q1⟩ => ?_)
  obtain ⟨c, rfl, q1⟩ := q1
  cases r1
  exact not_of (wpAny_truthy_bool ⟨.bl (!c), H1, I1, rfl, q1⟩)
end
end L2

namespace L2
open PySem PySem.Spec PyProof.Rows

/-! ### a list, a tuple that is read: tracked, frozen, or an object of the module -/
def SqL (K : PySem.W.Frag) (H : Hp) (a : Addr) (xs : List V) : Prop :=
  Rd H a (.lst xs) ∨
    ∃ (o : Obj) (its : Array Value) (n : Nat), K.lookup a = some o ∧ o.cls = .type "list" ∧ o.dict = none ∧ o.data = .seq its n ∧ its.size ≤ sizeLine ∧ Vals xs its.toList
def SqT (K : PySem.W.Frag) (H : Hp) (a : Addr) (xs : List V) : Prop :=
  Rd H a (.tup xs) ∨
    ∃ (o : Obj) (its : Array Value) (n : Nat), K.lookup a = some o ∧ o.cls = .type "tuple" ∧ o.data = .seq its n ∧ its.size ≤ sizeLine ∧ Vals xs its.toList
def absV : Value → Option V
  | .none => some .non
  | .bool b => some (.bl b)
  | .int i _ => some (.int i)
  | .str x _ => some (.str x)
  | .bytes b _ => some (.byt b)
  | .float b _ => some (.flt b)
  | .ref a => some (.ref a)
  | .type n => some (.ty n)
  | _ => none
theorem RelV.abs {x : V} {u : Value} (r : RelV x u) : absV u = some x := by
  cases x with
  | non => cases r; rfl
  | bl _ => cases r; rfl
  | int _ => obtain ⟨t, rfl⟩ := r; rfl
  | str _ => obtain ⟨t, rfl⟩ := r; rfl
  | byt _ => obtain ⟨t, rfl⟩ := r; rfl
  | flt _ => obtain ⟨t, rfl⟩ := r; rfl
  | ref _ => cases r; rfl
  | ty _ => cases r; rfl
theorem RelV.inj {x y : V} {u : Value} (r : RelV x u) (q : RelV y u) : x = y := Option.some.inj (r.abs.symm.trans q.abs)
theorem Vals.inj : ∀ {xs ys : List V} {us : List Value}, Vals xs us → Vals ys us → xs = ys
  | _, _, _, .nil, .nil => rfl
  | _, _, _, .cons r t, .cons r' t' => by rw [r.inj r', Vals.inj t t']
section
variable {X : Cx} {pins : List (Addr × Obj)} {σ : St} {H : Hp} {s : Shared} {a : Addr} {xs ys : List V}
theorem SqL.of {K : PySem.W.Frag} (h : H a = some (.lst xs)) : SqL K H a xs := .inl (.inl h)
theorem SqT.of {K : PySem.W.Frag} (h : H a = some (.tup xs)) : SqT K H a xs := .inl (.inl h)
theorem Inv.list (I : Inv X pins σ H s) (h : SqL X.K H a xs) : ∃ its : List Value, Vals xs its ∧ PlainL s.heap a its.toArray ∧ xs.length ≤ sizeLine := by
  rcases h with h | ⟨o, its, n, hk, hc, hd, hs, hz, r⟩
  · obtain ⟨z, its, n, r, e⟩ := h.ok I.hok
    exact ⟨its, r, ⟨_, n, e, rfl, rfl, rfl⟩, z⟩
  · refine ⟨its.toList, r, ⟨o, n, I.kIn a o hk, hc, hd, by simpa using hs⟩, ?_⟩
    have e := r.length
    simp only [Array.length_toList] at e
    omega
theorem Inv.tuple (I : Inv X pins σ H s) (h : SqT X.K H a xs) : ∃ its : List Value, Vals xs its ∧ IsTup s.heap a its.toArray ∧ xs.length ≤ sizeLine := by
  rcases h with h | ⟨o, its, n, hk, hc, hs, hz, r⟩
  · obtain ⟨z, its, r, p⟩ := h.ok I.hok
    exact ⟨its, r, p, z⟩
  · refine ⟨its.toList, r, ⟨o, I.kIn a o hk, hc, n, by simpa using hs⟩, ?_⟩
    have e := r.length
    simp only [Array.length_toList] at e
    omega
theorem Inv.list_inj (I : Inv X pins σ H s) (h : SqL X.K H a xs) (h' : SqL X.K H a ys) : xs = ys := by
  obtain ⟨its, r, ⟨o, n, e, _, _, d⟩, _⟩ := I.list h
  obtain ⟨its', r', ⟨o', n', e', _, _, d'⟩, _⟩ := I.list h'
  rw [e] at e'; cases e'
  rw [d] at d'
  injection d' with d1 _
  have : its = its' := by simpa using congrArg Array.toList d1
  subst this
  exact r.inj r'
theorem Inv.tuple_inj (I : Inv X pins σ H s) (h : SqT X.K H a xs) (h' : SqT X.K H a ys) : xs = ys := by
  obtain ⟨its, r, ⟨o, e, _, n, d⟩, _⟩ := I.tuple h
  obtain ⟨its', r', ⟨o', e', _, n', d'⟩, _⟩ := I.tuple h'
  rw [e] at e'; cases e'
  rw [d] at d'
  injection d' with d1 _
  have : its = its' := by simpa using congrArg Array.toList d1
  subst this
  exact r.inj r'
end

/-! ### another wish about exceptions -/
abbrev Cx.wish (X : Cx) (E : Value → Shared → Prop) : Cx := { X with xe := E }
/-- no exception leaves -/
abbrev Cx.nox (X : Cx) : Cx := X.wish fun _ _ => False
theorem Cx.Ok.wish {X : Cx} (ok : X.Ok) (E : Value → Shared → Prop) : (X.wish E).Ok :=
  ⟨ok.mod, ok.kind, ok.glob, ok.blt, ok.above, ok.inj, ok.has, ok.cab, ok.hd, ok.frames, ok.stk, ok.exf, ok.bs, ok.bsz, ok.noex, ok.exfs, ok.funs, ok.frf⟩
theorem Cx.Ok.unwish {X : Cx} {E : Value → Shared → Prop} (ok : (X.wish E).Ok) : X.Ok :=
  ⟨ok.mod, ok.kind, ok.glob, ok.blt, ok.above, ok.inj, ok.has, ok.cab, ok.hd, ok.frames, ok.stk, ok.exf, ok.bs, ok.bsz, ok.noex, ok.exfs, ok.funs, ok.frf⟩
section
variable {X : Cx} {pins : List (Addr × Obj)} {σ : St} {H : Hp} {s : Shared} {E : Value → Shared → Prop}
theorem Inv.wish (I : Inv X pins σ H s) (E : Value → Shared → Prop) : Inv (X.wish E) pins σ H s := ⟨I.ok.wish E, I.os, I.bare, I.base, I.loc, I.cell, I.free, I.freeC, I.pin, I.hok, I.len⟩
theorem Inv.unwish (I : Inv (X.wish E) pins σ H s) : Inv X pins σ H s := ⟨I.ok.unwish, I.os, I.bare, I.base, I.loc, I.cell, I.free, I.freeC, I.pin, I.hok, I.len⟩
theorem SP.unwish {D : Ends} {f : Flow} {s' : Shared} (h : SP (X.wish E) pins D f s') : SP X pins D f s' := by
  cases f with
  | next => obtain ⟨σ', H', I, q⟩ := h; exact ⟨σ', H', I.unwish, q⟩
  | brk => obtain ⟨σ', H', I, q⟩ := h; exact ⟨σ', H', I.unwish, q⟩
  | cont => obtain ⟨σ', H', I, q⟩ := h; exact ⟨σ', H', I.unwish, q⟩
  | ret u => obtain ⟨v, σ', H', I, r, q⟩ := h; exact ⟨v, σ', H', I.unwish, r, q⟩
theorem PSs.nox {st : List Stmt} {t : TS} (h : PSs X.nox st t) : PSs X st t := fun pins s σ H D I hw =>
  wpAny_mono (h pins s σ H D (I.wish _) hw) (fun _ _ q => q.unwish) fun _ _ z => False.elim z
end

/-! ### blocks and small statements -/
section
variable {X : Cx} {st : Stmt} {rest : List Stmt} {t u : TS} {e : Expr} {te : TE} {pos : Pos}
def tNext : TS := fun D σ H => D.nx σ H
def tSeq (t u : TS) : TS := fun D σ H => t { D with nx := u D } σ H
theorem pss_nil : PSs X [] tNext := fun _ _ σ H _ I h => wpAny_execs_nil ⟨σ, H, I, h⟩
theorem pss_cons (h1 : PS X st t) (h2 : PSs X rest u) : PSs X (st :: rest) (tSeq t u) := by
  intro pins s σ H D I h
  refine wpAny_execs_cons (thn (h1 pins s σ H { D with nx := u D } I h) fun f s1 q => ?_)
  cases f with
  | next =>
    obtain ⟨σ', H', I', q⟩ := q
    exact h2 pins s1 σ' H' D I' q
  | ret v => exact q
  | brk => exact q
  | cont => exact q
theorem pss_one (h1 : PS X st t) : PSs X [st] t := by
  intro pins s σ H D I h
  refine wpAny_execs_cons (thn (h1 pins s σ H D I h) fun f s1 q => ?_)
  cases f with
  | next => exact wpAny_execs_nil q
  | ret v => exact q
  | brk => exact q
  | cont => exact q
/-- in a def's body nothing is shown -/
theorem Inv.quiet {pins : List (Addr × Obj)} {σ : St} {H : Hp} {s : Shared} (I : Inv X pins σ H s) : interactive X.env = false := by simp [interactive, I.ok.kind]
/-- an expression whose value is dropped -/
def tDrop (te : TE) : TS := fun D σ H => te σ H fun _ H1 => D.nx σ H1
theorem ps_expr (he : PE X e te) (hs : swapsWith e none pos.line X.env = pure false := by rfl) : PS X (.Expr e pos) (tDrop te) := by
  intro pins s σ H D I h
  exact wpAny_Expr_any (thn (he pins s σ H _ I h) fun v s1 ⟨x, H1, I1, r1, q1⟩ => ⟨σ, H1, I1, q1⟩) I.quiet hs
def tRet (te : TE) : TS := fun D σ H => te σ H D.rt
theorem ps_ret (he : PE X e te) : PS X (.Return (some e) pos) (tRet te) := by
  intro pins s σ H D I h
  exact wpAny_Return_some (thn (he pins s σ H _ I h) fun v s1 ⟨x, H1, I1, r1, q1⟩ => ⟨x, σ, H1, I1, r1, q1⟩)
def tIfS (c : TT) (t u : TS) : TS := fun D σ H => c σ H fun b H1 => if b = true then t D σ H1 else u D σ H1
theorem ps_if {c : Expr} {a b : List Stmt} {tc : TT} (hc : PT X c tc) (ha : PSs X a t) (hb : PSs X b u) : PS X (.If c a b pos) (tIfS tc t u) := by
  intro pins s σ H D I h
  refine wpAny_If (thn (hc pins s σ H _ I h) fun d s1 ⟨H1, I1, q1⟩ => ?_)
  cases d with
  | true => exact ha pins s1 σ H1 D I1 q1
  | false => exact hb pins s1 σ H1 D I1 q1
/-- code that the proof never comes to -/
def tNever : TS := fun _ _ _ => False
theorem pss_never {sts : List Stmt} : PSs X sts tNever := fun _ _ _ _ _ _ h => h.elim
end

/-! ### targets -/
abbrev TG := V → St → Hp → (St → Hp → Prop) → Prop
abbrev TGs := List V → St → Hp → (St → Hp → Prop) → Prop
def PG (X : Cx) (target : Expr) (t : TG) : Prop :=
  ∀ (pins : List (Addr × Obj)) (s : Shared) (σ : St) (H : Hp) (v : V) (u : Value) (Q : St → Hp → Prop), Inv X pins σ H s → RelV v u → t v σ H Q →
    wpAny (model X.prog X.w) X.A (assign target X.env u) (fun _ s' => ∃ σ' H', Inv X pins σ' H' s' ∧ Q σ' H') X.xe s
/-- several targets, one after another -/
def PGs (X : Cx) (ts : List Expr) (t : TGs) : Prop :=
  ∀ (pins : List (Addr × Obj)) (s : Shared) (σ : St) (H : Hp) (vs : List V) (us : List Value) (Q : St → Hp → Prop), Inv X pins σ H s → Vals vs us → t vs σ H Q →
    wpAny (model X.prog X.w) X.A (assignInOrder ((assignEach ts X.env).map (·.2)) us) (fun _ s' => ∃ σ' H', Inv X pins σ' H' s' ∧ Q σ' H') X.xe s
/-- o[i] = v, by values -/
abbrev TSet := V → V → V → Hp → (Hp → Prop) → Prop
def PSet (X : Cx) (t : TSet) : Prop :=
  ∀ (pins : List (Addr × Obj)) (s : Shared) (σ : St) (H : Hp) (o i v : V) (ov iv u : Value) (Q : Hp → Prop), Inv X pins σ H s → RelV o ov → RelV i iv → RelV v u → t o i v H Q →
    wpAny (model X.prog X.w) X.A (setItem ov iv u) (fun _ s' => ∃ H', Inv X pins σ H' s' ∧ Q H') X.xe s
/-- a op= b, by values -/
abbrev TIp := V → V → Hp → VK → Prop
def PIp (X : Cx) (op : Operator) (t : TIp) : Prop :=
  ∀ (pins : List (Addr × Obj)) (s : Shared) (σ : St) (H : Hp) (x y : V) (v u : Value) (Q : VK), Inv X pins σ H s → RelV x v → RelV y u → t x y H Q →
    wpAny (model X.prog X.w) X.A (inplaceOp op v u) (EP X pins σ Q) X.xe s
section
variable {X : Cx} {pos : Pos}
def gName (i : Nat) : TG := fun v σ H Q => Q (σ.set i (some v)) H
theorem pg_name {i : Nat} {x : Str} (hN : X.N.Nodup) (hi : X.N[i]? = some x) (hx : Loc X.env.scope x) (hf : X.fn x = true ∨ X.env.scope.names.lookup x = some .local := by first | exact .inl rfl | exact .inr rfl | assumption) : PG X (.Name x pos) (gName i) := by
  intro pins s σ H v u Q I r h
  exact wpAny_assign_Name (store_ok I hN hi hx r (fun s' I' => ⟨_, H, I', h⟩) hf)
def gNil : TGs := fun vs σ H Q => vs = [] ∧ Q σ H
def gCons (t : TG) (u : TGs) : TGs := fun vs σ H Q => ∃ v r, vs = v :: r ∧ t v σ H fun σ' H' => u r σ' H' Q
theorem pgs_nil : PGs X [] gNil := by
  intro pins s σ H vs us Q I r h
  obtain ⟨e, h⟩ := h
  subst e
  cases r
  exact assignInOrder_nil ⟨σ, H, I, h⟩
theorem pgs_cons {e : Expr} {es : List Expr} {t : TG} {u : TGs} (h1 : PG X e t) (h2 : PGs X es u)
    (hs : (assignEach (e :: es) X.env).map (·.2) = assign e X.env :: (assignEach es X.env).map (·.2) := by rfl) : PGs X (e :: es) (gCons t u) := by
  intro pins s σ H vs us Q I r h
  obtain ⟨v, vr, e1, h⟩ := h
  subst e1
  cases r with
  | cons r rr =>
    rw [hs]
    refine assignInOrder_cons (thn (h1 pins s σ H _ _ _ I r h) fun _ s1 ⟨σ1, H1, I1, q1⟩ => ?_)
    exact h2 pins s1 σ1 H1 _ _ Q I1 rr q1
/-- (a, b, ..) = a tuple of that length -/
def gTup (K : PySem.W.Frag) (n : Nat) (t : TGs) : TG := fun v σ H Q => ∃ a xs, v = .ref a ∧ SqT K H a xs ∧ xs.length = n ∧ t xs σ H Q
theorem pg_tup {es : List Expr} {k : Nat} {t : TGs} {n : Nat} (hc : X.calm = true) (h : PGs X es t)
    (hn : (assignEach es X.env).length = n := by rfl) (hst : (assignEach es X.env).findIdx? (·.1) = none := by rfl) : PG X (.Tuple es k pos) (gTup X.K n t) := by
  intro pins s σ H v u Q I r hw
  obtain ⟨a, xs, e1, hq, hl, hw⟩ := hw
  subst e1
  cases r
  obtain ⟨its, rv, ht, hz⟩ := I.tuple hq
  refine assign_Tuple_tuple (I.ok.hd hc) ht (by simp [hn, ← hl, rv.length]) hst fun h' hx => ?_
  have I1 : Inv X pins σ H { s with heap := h' } := I.kept (t' := s.toks) fun b o e => hx b o (Nat.ne_of_lt (Heap.lt_size e)) e
  exact h pins _ σ H xs _ Q I1 (by simpa using rv) hw
/-- o[i] = .. -/
def gSub (to ti : TE) (t : TSet) : TG := fun v σ H Q => to σ H fun o H1 => ti σ H1 fun i H2 => t o i v H2 fun H3 => Q σ H3
theorem pg_sub {o i : Expr} {to ti : TE} {t : TSet} (ho : PE X o to) (hi : PE X i ti) (hs : PSet X t)
    (ha : ∀ v, assign (.Subscript o i pos) X.env v = (do
      let ov ← holding [v] (eval o X.env)
      let iv ← holding [v, ov] (eval i X.env)
      standAt pos
      holding [v, ov, iv] (setItem ov iv v)
      release [v, ov, iv] []) := by intro _; rfl) : PG X (.Subscript o i pos) (gSub to ti t) := by
  intro pins s σ H v u Q I r h
  rw [ha]
  refine wpAny_bind (wpAny_holding (thn (ho pins s σ H _ I h) fun ov s1 ⟨x, H1, I1, r1, q1⟩ => ?_))
  refine wpAny_bind (wpAny_holding (thn (hi pins s1 σ H1 _ I1 q1) fun iv s2 ⟨y, H2, I2, r2, q2⟩ => ?_))
  refine wpAny_bind (wpAny_standAt (wpAny_bind (wpAny_holding (thn (hs pins s2 σ H2 x y v ov iv u _ I2 r1 r2 r q2) fun _ s3 ⟨H3, I3, q3⟩ => ?_))))
  exact wpAny_release ⟨σ, H3, I3, q3⟩
/-- target = value -/
def tAsg (te : TE) (g : TG) : TS := fun D σ H => te σ H fun x H1 => g x σ H1 D.nx
theorem ps_asg {tg e : Expr} {te : TE} {g : TG} (he : PE X e te) (hg : PG X tg g) (hs : swapsWithSole [tg] e pos.line X.env = pure false := by rfl) (hw : swappedStores [tg] e X.env = pure none := by rfl)
    (h1 : (assignEach [tg] X.env).map (·.2) = [assign tg X.env] := by rfl) : PS X (.Assign [tg] e pos) (tAsg te g) := by
  intro pins s σ H D I h
  refine wpAny_Assign_stores (thn (he pins s σ H _ I h) fun v s1 ⟨x, H1, I1, r1, q1⟩ => ?_) hs hw
  rw [h1]
  exact thn (hg pins s1 σ H1 x v _ I1 r1 q1) fun _ s2 q => q
/-- name = value -/
theorem ps_set {i : Nat} {x : Str} {e : Expr} {te : TE} {pos' : Pos} (hN : X.N.Nodup) (hi : X.N[i]? = some x) (hx : Loc X.env.scope x) (he : PE X e te) (hs : swapsWith e (some (.Name x pos')) pos.line X.env = pure false := by rfl) (hf : X.fn x = true ∨ X.env.scope.names.lookup x = some .local := by first | exact .inl rfl | exact .inr rfl | assumption) :
    PS X (.Assign [.Name x pos'] e pos) (tAsg te (gName i)) := by
  intro pins s σ H D I h
  refine wpAny_Assign_Name (thn (he pins s σ H _ I h) fun v s1 ⟨y, H1, I1, r1, q1⟩ => ?_) hs
  exact store_ok I1 hN hi hx r1 (fun s2 I2 => ⟨_, H1, I2, q1⟩) hf
/-- o[i] op= e -/
def tAugS (to ti te : TE) (tget : V → V → Hp → VK → Prop) (tip : TIp) (tset : TSet) : TS := fun D σ H => to σ H fun o H1 => ti σ H1 fun i H2 => tget o i H2 fun x H3 => te σ H3 fun y H4 => tip x y H4 fun z H5 => tset o i z H5 fun H6 => D.nx σ H6
/-- o[i], by values -/
def PGet (X : Cx) (t : V → V → Hp → VK → Prop) : Prop :=
  ∀ (pins : List (Addr × Obj)) (s : Shared) (σ : St) (H : Hp) (o i : V) (ov iv : Value) (Q : VK), Inv X pins σ H s → RelV o ov → RelV i iv → t o i H Q →
    wpAny (model X.prog X.w) X.A (getItem ov iv) (EP X pins σ Q) X.xe s
theorem ps_augS {o i e : Expr} {to ti te : TE} {tget : V → V → Hp → VK → Prop} {tip : TIp} {tset : TSet} {op : Operator} {tpos : Pos} (ho : PE X o to) (hi : PE X i ti) (hg : PGet X tget) (he : PE X e te) (hp : PIp X op tip) (hs : PSet X tset)
    (ha : ∀ ov iv new, augStore i ov iv new = (do holding [new, ov, iv] (setItem ov iv new); release [new, ov, iv] []; pure .next) := by intros; rfl) : PS X (.AugAssign (.Subscript o i tpos) op e pos) (tAugS to ti te tget tip tset) := by
  intro pins s σ H D I h
  refine wpAny_AugAssign_SubscriptAny (thn (ho pins s σ H _ I h) fun ov s1 ⟨x1, H1, I1, r1, q1⟩ => ?_) ha
  refine thn (hi pins s1 σ H1 _ I1 q1) fun iv s2 ⟨x2, H2, I2, r2, q2⟩ => ?_
  refine thn (hg pins s2 σ H2 x1 x2 ov iv _ I2 r1 r2 q2) fun old s3 ⟨x3, H3, I3, r3, q3⟩ => ?_
  refine thn (he pins s3 σ H3 _ I3 q3) fun v s4 ⟨x4, H4, I4, r4, q4⟩ => ?_
  refine thn (hp pins s4 σ H4 x3 x4 old v _ I4 r3 r4 q4) fun new s5 ⟨x5, H5, I5, r5, q5⟩ => ?_
  exact thn (hs pins s5 σ H5 x1 x2 x5 ov iv new _ I5 r1 r2 r5 q5) fun _ s6 ⟨H6, I6, q6⟩ => ⟨σ, H6, I6, q6⟩
/-- ints -/
def ipI (f : Int → Int → Int) : TIp := fun x y H Q => ∃ i j, x = .int i ∧ y = .int j ∧ Q (.int (f i j)) H
theorem ip_add : PIp X .Add (ipI fun i j => i + j) := by
  intro pins s σ H x y v u Q I r1 r2 h
  obtain ⟨i, j, e1, e2, q⟩ := h
  subst e1; subst e2
  obtain ⟨t, rfl⟩ := r1
  obtain ⟨t', rfl⟩ := r2
  exact iadd_int ⟨.int _, H, I.tok _, ⟨_, rfl⟩, q⟩
end

/-! ### while -/
section
variable {X : Cx} {pos : Pos}
/-- the invariant W with its measure -/
def tWhile (c : TT) (tb : TS) : TS := fun D σ H => ∃ W : Nat → St → Hp → Prop, (∃ m, W m σ H) ∧ ∀ m σ H, W m σ H →
  c σ H fun b H1 => if b = true then ∃ N : St → Hp → Prop, (∀ σ' H', N σ' H' → ∃ m', m' < m ∧ W m' σ' H') ∧ tb { D with nx := N, ct := N, bk := D.nx } σ H1 else D.nx σ H1
theorem ps_while {c : Expr} {body : List Stmt} {tc : TT} {tb : TS} (hp : PassesOwn (model X.prog X.w) X.A X.env X.xe) (hc : PT X c tc) (hb : PSs X body tb) : PS X (.While c body [] pos) (tWhile tc tb) := by
  intro pins s σ H D I h
  obtain ⟨W, ⟨m0, w0⟩, turn⟩ := h
  refine wpAny_While (codeAny_whileLoop (fun n s' => ∃ σ' H', Inv X pins σ' H' s' ∧ W n σ' H') ?_ m0 ⟨σ, H, I, w0⟩)
  rintro n s1 ⟨σ1, H1, I1, w1⟩
  refine wpAny_passesOwn hp (thn (hc pins s1 σ1 H1 _ I1 (turn n σ1 H1 w1)) fun b s2 ⟨H2, I2, q2⟩ => ?_)
  cases b with
  | true =>
    obtain ⟨N, hN, q2⟩ := q2
    rw [if_pos rfl]
    refine wpAny_passesOwn hp (thn (hb pins s2 σ1 H2 _ I2 q2) fun f s3 q3 => ?_)
    cases f with
    | next =>
      obtain ⟨σ3, H3, I3, n3⟩ := q3
      obtain ⟨m', hm, w3⟩ := hN σ3 H3 n3
      exact ⟨m', hm, σ3, H3, I3, w3⟩
    | cont =>
      obtain ⟨σ3, H3, I3, n3⟩ := q3
      obtain ⟨m', hm, w3⟩ := hN σ3 H3 n3
      exact ⟨m', hm, σ3, H3, I3, w3⟩
    | brk => exact q3
    | ret v => exact q3
  | false =>
    rw [if_neg Bool.false_ne_true]
    exact wpAny_execs_nil ⟨σ1, H2, I2, q2⟩
end

/-! ### what a loop or a comprehension walks -/
/-- at turn i: it yields x (the heap may grow), or it stops -/
structure It where
  go : Nat → Hp → Prop
  yld : Nat → Hp → V → Hp → Prop
  stop : Nat → Hp → Prop
/-- the iterator's own objects may turn: they are not the frame's, not pinned, younger than the entry (or a comprehension's own) -/
def FpOk (X : Cx) (pins : List (Addr × Obj)) (H : Hp) (b : Addr) : Prop :=
  H b = none ∧ b ≠ X.env.locals ∧ b ∉ X.fs ∧ (b ∈ X.ex ∨ X.s₀.heap.objs.size ≤ b) ∧ (∀ x c, X.env.cells.lookup x = some c → c ≠ b) ∧ ∀ p ∈ X.pn ++ pins, p.1 ≠ b
theorem Inv.fpOk {X : Cx} {pins : List (Addr × Obj)} {σ : St} {H H' : Hp} {s : Shared} {b : Addr} (I : Inv X pins σ H s) (hb : s.heap.objs.size ≤ b) (hn : H' b = none) : FpOk X pins H' b := by
  refine ⟨hn, Nat.ne_of_gt (Nat.lt_of_lt_of_le I.lt hb), I.nofs hb, .inr (Nat.le_trans I.sz hb), fun x c e z => ?_, fun p hp z => ?_⟩
  · obtain ⟨v, q⟩ := I.cell x c e
    exact absurd (Nat.lt_of_lt_of_le q.lt (by rw [z]; exact hb)) (Nat.lt_irrefl _)
  · exact absurd (Nat.lt_of_lt_of_le (Heap.lt_size (I.pin p hp).1) (by rw [z]; exact hb)) (Nat.lt_irrefl _)
structure Turn (P : Program) (w : World) (K : PySem.W.Frag) (tg : Expr) (J : It) (fp : List Addr) (it : Addr) (tn : Nat → Heap → Prop) : Prop where
  mem : it ∈ fp
  obj : ∀ i h, tn i h → ∀ b ∈ fp, ∃ o, h.get? b = some o ∧ ∀ v, o.data ≠ .cell v
  keep : ∀ i h h', tn i h → (∀ b ∈ fp, ∀ o, h.get? b = some o → h'.get? b = some o) → tn i h'
  item : ∀ (X : Cx), X.prog = P → X.w = w → X.K = K → X.calm = true → ∀ (i : Nat) (pins : List (Addr × Obj)) (s : Shared) (σ : St) (H : Hp) (E : Value → Shared → Prop), Inv X pins σ H s → (∀ b ∈ fp, FpOk X pins H b) → tn i s.heap → J.go i H →
    wpAny (model P w) X.A (pyNext (.ref it)) (fun r s1 => ∃ u, r = some u ∧
      wpAny (model P w) X.A (letOwnedTupleGo tg (.ref it) u) (fun _ s2 => ∃ x H', Inv X pins σ H' s2 ∧ RelV x u ∧ J.yld i H x H' ∧ tn (i + 1) s2.heap ∧ ∀ b ∈ fp, H' b = none) E s1) E s
  done : ∀ (X : Cx), X.prog = P → X.w = w → X.K = K → X.calm = true → ∀ (i : Nat) (pins : List (Addr × Obj)) (s : Shared) (σ : St) (H : Hp) (E : Value → Shared → Prop), Inv X pins σ H s → (∀ b ∈ fp, FpOk X pins H b) → tn i s.heap → J.stop i H →
    wpAny (model P w) X.A (pyNext (.ref it)) (fun r s1 => r = none ∧ Inv X pins σ H s1) E s
  self : ∀ (A : Around) (i : Nat) (s : Shared) (Q : Value → Shared → Prop) (E : Value → Shared → Prop), tn i s.heap → Q (.ref it) s → wpAny (model P w) A (pyIter (.ref it)) Q E s
abbrev TI := St → Hp → (It → Hp → Prop) → Prop
/-- an iterator has come -/
def PIE (X : Cx) (pins : List (Addr × Obj)) (σ : St) (tg : Expr) (R : It → Hp → Prop) (itv : Value) (s2 : Shared) : Prop :=
  ∃ (it : Addr) (fp : List Addr) (tn : Nat → Heap → Prop) (J : It) (H' : Hp), itv = .ref it ∧ Inv X pins σ H' s2 ∧ Turn X.prog X.w X.K tg J fp it tn ∧ tn 0 s2.heap ∧ (∀ b ∈ fp, FpOk X pins H' b) ∧ R J H'
def PI (X : Cx) (tg iter : Expr) (wi : TI) : Prop :=
  ∀ (pins : List (Addr × Obj)) (s : Shared) (σ : St) (H : Hp) (R : It → Hp → Prop), Inv X pins σ H s → wi σ H R →
    wpAny (model X.prog X.w) X.A (eval iter X.env) (fun v s1 => wpAny (model X.prog X.w) X.A (pyIter v) (PIE X pins σ tg R) X.xe s1) X.xe s

/-- the step ahead of the store is nothing for an iterator that keeps no tuple -/
theorem go_of {M : Model} {A : Around} {E : Value → Shared → Prop} {s : Shared} {tg : Expr} {it : Addr} {u : Value} {o : Obj} {n : String} {vs : Array Value} {Q : Unit → Shared → Prop} (ho : s.heap.get? it = some o) (hc : o.cls = .type n) (hd : o.data = .fields vs)
    (hn : ["enumerate", "zip", "dict_itemiterator", "dict_reverseitemiterator", "odict_iterator", "itertools.zip_longest", "itertools.pairwise"].contains n = false) (hQ : Q () s) : wpAny M A (letOwnedTupleGo tg (.ref it) u) Q E s := by
  unfold letOwnedTupleGo
  cases tg <;> first
    | exact wpAny_pure hQ
    | (cases u <;> first
        | exact wpAny_pure hQ
        | (refine wpAny_bind (wpAny_load ho ?_)
           rw [hc, hd]
           show wpAny M A (if (["enumerate", "zip", "dict_itemiterator", "dict_reverseitemiterator", "odict_iterator", "itertools.zip_longest", "itertools.pairwise"].contains n && vs[0]? == some (rawInt _)) = true then _ else _) Q E s
           rw [if_neg (by intro h; rw [hn, Bool.false_and] at h; cases h)]
           exact wpAny_pure hQ))

/-- the list at a, as it stands at each turn (a loop may append to it) -/
def Itl (K : PySem.W.Frag) (a : Addr) : It :=
  ⟨fun i H => ∃ xs x, SqL K H a xs ∧ xs[i]? = some x, fun i H x H' => H' = H ∧ ∀ xs, SqL K H a xs → xs[i]? = some x, fun i H => ∃ xs, SqL K H a xs ∧ xs.length ≤ i⟩
def Itt (K : PySem.W.Frag) (a : Addr) : It :=
  ⟨fun i H => ∃ xs x, SqT K H a xs ∧ xs[i]? = some x, fun i H x H' => H' = H ∧ ∀ xs, SqT K H a xs → xs[i]? = some x, fun i H => ∃ xs, SqT K H a xs ∧ xs.length ≤ i⟩
/-- lo, lo + 1, .. (n of them) -/
def Itr (lo : Int) (n : Nat) : It := ⟨fun i _ => i < n, fun i H x H' => H' = H ∧ x = .int (lo + i), fun i _ => n ≤ i⟩
theorem turn_list {P : Program} {w : World} {K : PySem.W.Frag} {tg : Expr} (a it : Addr) : Turn P w K tg (Itl K a) [it] it (fun i h => h.IsListIter it a i) where
  mem := by simp
  obj := fun i h st b hb => by
    have e : b = it := by simpa using hb
    subst e
    obtain ⟨o, e, c, d⟩ := st
    exact ⟨o, e, fun v z => by rw [d] at z; cases z⟩
  keep := fun i h h' st k => st.at fun o e => k it (by simp) o e
  item := by
    intro X hP hw hK hc i pins s σ H E I hf st hg
    subst hP hw hK
    obtain ⟨xs, x, hq, hx⟩ := hg
    obtain ⟨its, rv, p, hz⟩ := I.list hq
    obtain ⟨u, hu, ru⟩ := rv.get hx
    obtain ⟨f0, f1, f2, f3, f4, f5⟩ := hf it (by simp)
    refine wpAny_pyNext_list_item st p.isList (x := u) (by simpa using hu) fun h' st' sb => ?_
    have I1 : Inv X pins σ H { s with heap := h' } := I.turned (t' := s.toks) (fun b o hb e => (sb.2 b hb).trans e) f0 f1 f3 f4 f5
    obtain ⟨o, e, c, d⟩ := id st'
    exact ⟨u, rfl, go_of (s := { s with heap := h' }) e c d (by decide) ⟨x, H, I1, ru, ⟨rfl, fun ys hy => by rw [I.list_inj hy hq]; exact hx⟩, st', fun b hb => (hf b hb).1⟩⟩
  done := by
    intro X hP hw hK hc i pins s σ H E I hf st hg
    subst hP hw hK
    obtain ⟨xs, hq, hx⟩ := hg
    obtain ⟨its, rv, p, hz⟩ := I.list hq
    obtain ⟨f0, f1, f2, f3, f4, f5⟩ := hf it (by simp)
    have hl := rv.length
    exact wpAny_pyNext_list_end (I.ok.hd hc) st p.isList (by simp; omega) fun h' eb => ⟨rfl, I.turned (t' := s.toks) (fun b o hb e => eb b o hb e) f0 f1 f3 f4 f5⟩
  self := fun _ _ _ _ _ st h => wpAny_pyIter_listiter st h
theorem turn_tuple {P : Program} {w : World} {K : PySem.W.Frag} {tg : Expr} (a it : Addr) : Turn P w K tg (Itt K a) [it] it (fun i h => h.IsTupleIter it a i) where
  mem := by simp
  obj := fun i h st b hb => by
    have e : b = it := by simpa using hb
    subst e
    obtain ⟨o, e, c, d⟩ := st
    exact ⟨o, e, fun v z => by rw [d] at z; cases z⟩
  keep := fun i h h' st k => st.at fun o e => k it (by simp) o e
  item := by
    intro X hP hw hK hc i pins s σ H E I hf st hg
    subst hP hw hK
    obtain ⟨xs, x, hq, hx⟩ := hg
    obtain ⟨its, rv, p, hz⟩ := I.tuple hq
    obtain ⟨u, hu, ru⟩ := rv.get hx
    obtain ⟨f0, f1, f2, f3, f4, f5⟩ := hf it (by simp)
    refine wpAny_pyNext_tuple_item st (show s.heap.IsTuple a its.toArray from p) (x := u) (by simpa using hu) fun h' st' sb => ?_
    have I1 : Inv X pins σ H { s with heap := h' } := I.turned (t' := s.toks) (fun b o hb e => (sb.2 b hb).trans e) f0 f1 f3 f4 f5
    obtain ⟨o, e, c, d⟩ := id st'
    exact ⟨u, rfl, go_of (s := { s with heap := h' }) e c d (by decide) ⟨x, H, I1, ru, ⟨rfl, fun ys hy => by rw [I.tuple_inj hy hq]; exact hx⟩, st', fun b hb => (hf b hb).1⟩⟩
  done := by
    intro X hP hw hK hc i pins s σ H E I hf st hg
    subst hP hw hK
    obtain ⟨xs, hq, hx⟩ := hg
    obtain ⟨its, rv, p, hz⟩ := I.tuple hq
    obtain ⟨f0, f1, f2, f3, f4, f5⟩ := hf it (by simp)
    have hl := rv.length
    exact wpAny_pyNext_tuple_end (I.ok.hd hc) st (show s.heap.IsTuple a its.toArray from p) (by simp; omega) fun h' eb => ⟨rfl, I.turned (t' := s.toks) (fun b o hb e => eb b o hb e) f0 f1 f3 f4 f5⟩
  self := fun _ _ _ _ _ st h => wpAny_pyIter_tupleiter st h
theorem turn_range {P : Program} {w : World} {K : PySem.W.Frag} {tg : Expr} (it : Addr) (lo : Int) (n : Nat) : Turn P w K tg (Itr lo n) [it] it (fun i h => IsRangeIter h it (lo + (i : Nat) * 1) ((n : Int) - (i : Nat)) 1) where
  mem := by simp
  obj := fun i h st b hb => by
    have e : b = it := by simpa using hb
    subst e
    exact ⟨_, st, fun v z => by
      have z' : Data.fields _ = Data.cell v := z
      cases z'⟩
  keep := fun i h h' st k => k it (by simp) _ st
  item := by
    intro X hP hw hK hc i pins s σ H E I hf st hg
    subst hP hw hK
    obtain ⟨f0, f1, f2, f3, f4, f5⟩ := hf it (by simp)
    have W := Walks.range (prog := X.prog) (w := X.w) (I.ok.hd hc) it lo 1 n
    refine W.item i s _ _ hg st fun v h' tk hv st' kk => ?_
    obtain ⟨t, rfl⟩ := hv
    have I1 : Inv X pins σ H { s with heap := h', toks := tk } := I.turned (fun b o hb e => kk b o (by simpa using hb) e) f0 f1 f3 f4 f5
    refine ⟨_, rfl, go_of (s := { s with heap := h', toks := tk }) (n := "range_iterator") st' rfl rfl (by decide) ⟨.int (lo + i), H, I1, ⟨t, ?_⟩, ⟨rfl, rfl⟩, st', fun b hb => (hf b hb).1⟩⟩
    rw [Int.mul_one]
  done := by
    intro X hP hw hK hc i pins s σ H E I hf st hg
    subst hP hw hK
    obtain ⟨f0, f1, f2, f3, f4, f5⟩ := hf it (by simp)
    exact wpAny_pyNext_range_end (I.ok.hd hc) st (by have : n ≤ i := hg; omega) fun h' eb => ⟨rfl, I.turned (t' := s.toks) (fun b o hb e => eb b o hb e) f0 f1 f3 f4 f5⟩
  self := fun _ _ _ _ _ st h => wpAny_pyIter_rangeiter st h
end L2

namespace L2
open PySem PySem.Spec PyProof.Rows
section
variable {X : Cx} {tg : Expr}
def iList (K : PySem.W.Frag) (tl : TE) : TI := fun σ H R => tl σ H fun x H1 => ∃ a, x = .ref a ∧ (∃ xs, SqL K H1 a xs) ∧ R (Itl K a) H1
theorem pi_list {l : Expr} {tl : TE} (hl : PE X l tl) : PI X tg l (iList X.K tl) := by
  intro pins s σ H R I h
  refine thn (hl pins s σ H _ I h) fun v s1 ⟨x, H1, I1, r1, q1⟩ => ?_
  obtain ⟨a, e, ⟨xs, hq⟩, q⟩ := q1
  subst e
  cases r1
  obtain ⟨its, rv, p, hz⟩ := I1.list hq
  refine wpAny_pyIter_list p.isList ?_
  refine ⟨s1.heap.objs.size, [s1.heap.objs.size], _, _, H1, rfl, I1.kept (t' := s1.toks) fun b o e => Heap.get?_push_of_some _ e, turn_list a _, ⟨_, Heap.get?_push_size _ rfl, rfl, rfl⟩, fun b hb => ?_, q⟩
  have e : b = s1.heap.objs.size := by simpa using hb
  subst e
  exact I1.fpOk (Nat.le_refl _) (I1.hok.fresh (Nat.le_refl _))
/-- a range object just made, walked -/
theorem range_it {pins : List (Addr × Obj)} {σ : St} {H : Hp} {s : Shared} {R : It → Hp → Prop} {E : Value → Shared → Prop} {lo hi : Int} {t u v : Tok} {tk : Nat} (I : Inv X pins σ H s) (h1 : -(2 ^ 62) ≤ lo) (h2 : lo < 2 ^ 62) (h3 : -(2 ^ 62) ≤ hi) (h4 : hi < 2 ^ 62)
    (q : R (Itr lo (hi - lo).toNat) H) : wpAny (model X.prog X.w) X.A (pyIter (.ref s.heap.objs.size)) (PIE X pins σ tg R) E { s with heap := s.heap.push { cls := .type "range", data := .fields #[.int lo t, .int hi u, .int 1 v] }, toks := tk } := by
  refine wpAny_pyIter_range (IsRange.new ..) (small_one h1 h2 h3 h4) ?_
  have I1 : Inv X pins σ H { s with heap := s.heap.push { cls := .type "range", data := .fields #[.int lo t, .int hi u, .int 1 v] }, toks := tk } := I.kept fun b o e => Heap.get?_push_of_some _ e
  refine ⟨(s.heap.push { cls := .type "range", data := .fields #[.int lo t, .int hi u, .int 1 v] }).objs.size, [(s.heap.push { cls := .type "range", data := .fields #[.int lo t, .int hi u, .int 1 v] }).objs.size], _, _, H, rfl,
    I1.kept (t' := tk) fun b o e => Heap.get?_push_of_some _ e, turn_range _ lo (hi - lo).toNat, ?_, fun b hb => ?_, q⟩
  · have e1 : lo + ((0 : Nat) : Int) * 1 = lo := by simp
    have e2 : (((hi - lo).toNat : Nat) : Int) - ((0 : Nat) : Int) = Builtin.Range.rangeSize lo hi 1 := by rw [rangeSize_one]; split <;> omega
    show IsRangeIter _ _ (lo + ((0 : Nat) : Int) * 1) ((((hi - lo).toNat : Nat) : Int) - ((0 : Nat) : Int)) 1
    rw [e1, e2]
    exact Heap.get?_push_size _ rfl
  · have e : b = (s.heap.push { cls := .type "range", data := .fields #[.int lo t, .int hi u, .int 1 v] }).objs.size := by simpa using hb
    subst e
    exact I1.fpOk (Nat.le_refl _) (I1.hok.fresh (Nat.le_refl _))
def iRng1 (ta : TA) : TI := fun σ H R => ta σ H fun vs H1 => ∃ j : Int, vs = [.int j] ∧ -(2 ^ 62) ≤ j ∧ j < 2 ^ 62 ∧ R (Itr 0 j.toNat) H1
def iRng2 (ta : TA) : TI := fun σ H R => ta σ H fun vs H1 => ∃ i j : Int, vs = [.int i, .int j] ∧ (-(2 ^ 62) ≤ i ∧ i < 2 ^ 62 ∧ -(2 ^ 62) ≤ j ∧ j < 2 ^ 62) ∧ R (Itr i (j - i).toNat) H1
theorem pi_range1 {a : Expr} {ta : TA} {p pos : Pos} (hg : Gl X "range") (hm : X.mg "range" = none) (ha : PA X [a] ta) (hs : starEach [a] X.env = [(false, eval a X.env)] := by rfl) : PI X tg (.Call (.Name "range" p) [a] [] pos) (iRng1 ta) := by
  intro pins s σ H R I h
  refine Call_ (ld_blt I hg hm boot_range (PyProof.Rows.callWith_type1 (thn (ha pos pins s σ H _ I h) fun us s1 ⟨vs, H1, I1, r1, q1⟩ => ?_) hs rfl))
  obtain ⟨j, e, q1, q2, q⟩ := q1
  subst e
  cases r1 with
  | cons r rr =>
    cases rr
    obtain ⟨t, rfl⟩ := r
    exact call_range_1 (range_it I1 (by omega) (by omega) q1 q2 (by simpa using q))
theorem pi_range2 {a b : Expr} {ta : TA} {p pos : Pos} (hg : Gl X "range") (hm : X.mg "range" = none) (ha : PA X [a, b] ta) (hs : starEach [a, b] X.env = [(false, eval a X.env), (false, eval b X.env)] := by rfl) (hs2 : starEach [b] X.env = [(false, eval b X.env)] := by rfl) :
    PI X tg (.Call (.Name "range" p) [a, b] [] pos) (iRng2 ta) := by
  intro pins s σ H R I h
  refine Call_ (ld_blt I hg hm boot_range (PyProof.Rows.callWith_type1 (thn (ha pos pins s σ H _ I h) fun us s1 ⟨vs, H1, I1, r1, q1⟩ => ?_) (by rw [hs, hs2]) (by rw [hs2]; rfl)))
  obtain ⟨i, j, e, ⟨q1, q2, q3, q4⟩, q⟩ := q1
  subst e
  cases r1 with
  | cons r rr =>
    cases rr with
    | cons r' rr =>
      cases rr
      obtain ⟨t, rfl⟩ := r
      obtain ⟨t', rfl⟩ := r'
      exact call_range_2 (range_it I1 q1 q2 q3 q4 q)

/-! ### for -/
/-- W: the invariant by the turn and a measure; N: what the body is to reach -/
def tFor (wi : TI) (g : TG) (tb : TS) : TS := fun D σ H => wi σ H fun J H1 => ∃ W : Nat → Nat → St → Hp → Prop, (∃ m, W 0 m σ H1) ∧ ∀ i m σ H, W i m σ H →
  (J.stop i H ∧ D.nx σ H) ∨ (J.go i H ∧ ∃ N : St → Hp → Prop, (∀ σ' H', N σ' H' → ∃ m', m' < m ∧ W (i + 1) m' σ' H') ∧ ∀ x H', J.yld i H x H' → g x σ H' fun σ2 H2 => tb { D with nx := N, ct := N, bk := D.nx } σ2 H2)
/-- the records at fp as they stand -/
def pinsAt (fp : List Addr) (h : Heap) : List (Addr × Obj) := fp.filterMap fun b => (h.get? b).map fun o => (b, o)
theorem mem_pinsAt {fp : List Addr} {h : Heap} {b : Addr} {o : Obj} (hb : b ∈ fp) (e : h.get? b = some o) : (b, o) ∈ pinsAt fp h := List.mem_filterMap.mpr ⟨b, hb, by rw [e]; rfl⟩
theorem of_pinsAt {fp : List Addr} {h : Heap} {p : Addr × Obj} (hp : p ∈ pinsAt fp h) : p.1 ∈ fp ∧ h.get? p.1 = some p.2 := by
  obtain ⟨b, hb, e⟩ := List.mem_filterMap.mp hp
  cases q : h.get? b with
  | none => rw [q] at e; cases e
  | some o =>
    rw [q] at e
    have e' : (b, o) = p := Option.some.inj e
    subst e'
    exact ⟨hb, q⟩
theorem Inv.pinned {pins : List (Addr × Obj)} {σ : St} {H : Hp} {s : Shared} {fp : List Addr} (I : Inv X pins σ H s) (hf : ∀ b ∈ fp, FpOk X pins H b) (ho : ∀ b ∈ fp, ∃ o, s.heap.get? b = some o ∧ ∀ v, o.data ≠ .cell v) : Inv X (pins ++ pinsAt fp s.heap) σ H s :=
  I.pins_of fun p hp => (List.mem_append.mp hp).elim (fun z => I.pin p (List.mem_append_right _ z)) fun z => by
    obtain ⟨hb, e⟩ := of_pinsAt z
    obtain ⟨f0, f1, f2, _⟩ := hf p.1 hb
    obtain ⟨o, e', d⟩ := ho p.1 hb
    rw [e] at e'; cases e'
    exact ⟨e, f0, f1, f2, d⟩
theorem Inv.unpinned {pins pl : List (Addr × Obj)} {σ : St} {H : Hp} {s : Shared} (I : Inv X (pins ++ pl) σ H s) : Inv X pins σ H s := I.pins_of fun p hp => I.pin p (List.mem_append_right _ (List.mem_append_left _ hp))
theorem ps_for {iter : Expr} {body : List Stmt} {wi : TI} {g : TG} {tb : TS} {pos : Pos} (hp : PassesOwn (model X.prog X.w) X.A X.env X.xe) (hc : X.calm = true) (hi : PI X tg iter wi) (hg : PG X tg g) (hb : PSs X body tb)
    (hs : ∀ x, foldedSetIterable iter X.env x = pure x := by intro _; rfl) : PS X (.For tg iter body [] pos) (tFor wi g tb) := by
  intro pins s σ H D I h
  refine wpAny_For (thn (hi pins s σ H _ I h) fun v s1 h1 => thn h1 fun itv s2 h2 => ?_) hs
  obtain ⟨it, fp, tn, J, H2, e, I2, T, st2, f2, W, ⟨m0, w0⟩, turn⟩ := h2
  subst e
  -- what stays true of the iterator's objects through the loop
  have stat : ∀ {H' : Hp}, (∀ b ∈ fp, H' b = none) → ∀ b ∈ fp, FpOk X pins H' b := fun hn b hb => ⟨hn b hb, (f2 b hb).2⟩
  refine codeAny_forLoop_any (fun n s' => ∃ i σ' H', Inv X pins σ' H' s' ∧ tn i s'.heap ∧ (∀ b ∈ fp, H' b = none) ∧ W i n σ' H') ?_ m0 ⟨0, σ, H2, I2, st2, fun b hb => (f2 b hb).1, w0⟩
  rintro n s3 ⟨i, σ3, H3, I3, st3, fr3, w3⟩
  rcases turn i n σ3 H3 w3 with ⟨stop, qn⟩ | ⟨go, N, hN, step⟩
  · refine wpAny_passesOwn hp (thn (T.done X rfl rfl rfl hc i pins s3 σ3 H3 X.xe I3 (stat fr3) st3 stop) fun r s4 ⟨hr, I4⟩ => ?_)
    subst hr
    exact wpAny_execs_nil ⟨σ3, H3, I4, qn⟩
  · refine wpAny_passesOwn hp (thn (T.item X rfl rfl rfl hc i pins s3 σ3 H3 X.xe I3 (stat fr3) st3 go) fun r s4 ⟨u, hr, h4⟩ => ?_)
    subst hr
    refine wpAny_passesOwn hp (thn h4 fun _ s5 ⟨x, H5, I5, r5, y5, st5, fr5⟩ => ?_)
    have I5' := I5.pinned (stat fr5) (T.obj _ _ st5)
    refine wpAny_passesOwn hp (thn (hg _ s5 σ3 H5 x u _ I5' r5 (step x H5 y5)) fun _ s6 ⟨σ6, H6, I6, q6⟩ => ?_)
    refine wpAny_passesOwn hp (thn (hb _ s6 σ6 H6 _ I6 q6) fun f s7 q7 => ?_)
    have again : ∀ {σ7 : St} {H7 : Hp}, Inv X (pins ++ pinsAt fp s5.heap) σ7 H7 s7 → N σ7 H7 → ∃ m, m < n ∧ ∃ i σ' H', Inv X pins σ' H' s7 ∧ tn i s7.heap ∧ (∀ b ∈ fp, H' b = none) ∧ W i m σ' H' := fun {σ7 H7} I7 n7 => by
      obtain ⟨m', hm, w7⟩ := hN σ7 H7 n7
      refine ⟨m', hm, i + 1, σ7, H7, I7.unpinned, T.keep _ _ _ st5 fun b hb o e => (I7.pin (b, o) (List.mem_append_right _ (List.mem_append_right _ (mem_pinsAt hb e)))).1, fun b hb => ?_, w7⟩
      obtain ⟨o, e, d⟩ := T.obj _ _ st5 b hb
      exact (I7.pin (b, o) (List.mem_append_right _ (List.mem_append_right _ (mem_pinsAt hb e)))).2.1
    cases f with
    | next => obtain ⟨σ7, H7, I7, n7⟩ := q7; exact again I7 n7
    | cont => obtain ⟨σ7, H7, I7, n7⟩ := q7; exact again I7 n7
    | brk => obtain ⟨σ7, H7, I7, q7⟩ := q7; exact ⟨σ7, H7, I7.unpinned, q7⟩
    | ret v => obtain ⟨x7, σ7, H7, I7, r7, q7⟩ := q7; exact ⟨x7, σ7, H7, I7.unpinned, r7, q7⟩
end

/-! ### the forms one uses -/
/-- over a list that the body leaves as it is -/
theorem for_list {K : PySem.W.Frag} {a : Addr} {xs : List V} {g : TG} {tb : TS} {D : Ends} {σ : St} {H : Hp} (Pv : Nat → St → Hp → Prop) (h0 : Pv 0 σ H) (hl : ∀ i σ H, i ≤ xs.length → Pv i σ H → SqL K H a xs)
    (hs : ∀ i x σ H, xs[i]? = some x → Pv i σ H → g x σ H fun σ2 H2 => tb { D with nx := Pv (i + 1), ct := Pv (i + 1), bk := D.nx } σ2 H2) (hd : ∀ σ H, Pv xs.length σ H → D.nx σ H) :
    ∃ W : Nat → Nat → St → Hp → Prop, (∃ m, W 0 m σ H) ∧ ∀ i m σ H, W i m σ H →
      ((Itl K a).stop i H ∧ D.nx σ H) ∨ ((Itl K a).go i H ∧ ∃ N : St → Hp → Prop, (∀ σ' H', N σ' H' → ∃ m', m' < m ∧ W (i + 1) m' σ' H') ∧ ∀ x H', (Itl K a).yld i H x H' → g x σ H' fun σ2 H2 => tb { D with nx := N, ct := N, bk := D.nx } σ2 H2) := by
  refine ⟨fun i m σ H => m = xs.length - i ∧ i ≤ xs.length ∧ Pv i σ H, ⟨xs.length, by simp, Nat.zero_le _, h0⟩, ?_⟩
  rintro i m σ H ⟨rfl, hi, p⟩
  have q := hl i σ H hi p
  by_cases hlt : i < xs.length
  · refine .inr ⟨⟨xs, xs[i], q, by simp [hlt]⟩, Pv (i + 1), fun σ' H' p' => ⟨xs.length - (i + 1), by omega, rfl, hlt, p'⟩, fun x H' y => ?_⟩
    obtain ⟨e, y⟩ := y
    subst e
    exact hs i x σ _ (y xs q) p
  · have e : i = xs.length := by omega
    subst e
    exact .inl ⟨⟨xs, q, Nat.le_refl _⟩, hd σ H p⟩
theorem for_tup {K : PySem.W.Frag} {a : Addr} {xs : List V} {g : TG} {tb : TS} {D : Ends} {σ : St} {H : Hp} (Pv : Nat → St → Hp → Prop) (h0 : Pv 0 σ H) (hl : ∀ i σ H, i ≤ xs.length → Pv i σ H → SqT K H a xs)
    (hs : ∀ i x σ H, xs[i]? = some x → Pv i σ H → g x σ H fun σ2 H2 => tb { D with nx := Pv (i + 1), ct := Pv (i + 1), bk := D.nx } σ2 H2) (hd : ∀ σ H, Pv xs.length σ H → D.nx σ H) :
    ∃ W : Nat → Nat → St → Hp → Prop, (∃ m, W 0 m σ H) ∧ ∀ i m σ H, W i m σ H →
      ((Itt K a).stop i H ∧ D.nx σ H) ∨ ((Itt K a).go i H ∧ ∃ N : St → Hp → Prop, (∀ σ' H', N σ' H' → ∃ m', m' < m ∧ W (i + 1) m' σ' H') ∧ ∀ x H', (Itt K a).yld i H x H' → g x σ H' fun σ2 H2 => tb { D with nx := N, ct := N, bk := D.nx } σ2 H2) := by
  refine ⟨fun i m σ H => m = xs.length - i ∧ i ≤ xs.length ∧ Pv i σ H, ⟨xs.length, by simp, Nat.zero_le _, h0⟩, ?_⟩
  rintro i m σ H ⟨rfl, hi, p⟩
  have q := hl i σ H hi p
  by_cases hlt : i < xs.length
  · refine .inr ⟨⟨xs, xs[i], q, by simp [hlt]⟩, Pv (i + 1), fun σ' H' p' => ⟨xs.length - (i + 1), by omega, rfl, hlt, p'⟩, fun x H' y => ?_⟩
    obtain ⟨e, y⟩ := y
    subst e
    exact hs i x σ _ (y xs q) p
  · have e : i = xs.length := by omega
    subst e
    exact .inl ⟨⟨xs, q, Nat.le_refl _⟩, hd σ H p⟩
theorem for_range {lo : Int} {n : Nat} {g : TG} {tb : TS} {D : Ends} {σ : St} {H : Hp} (Pv : Nat → St → Hp → Prop) (h0 : Pv 0 σ H)
    (hs : ∀ i σ H, i < n → Pv i σ H → g (.int (lo + i)) σ H fun σ2 H2 => tb { D with nx := Pv (i + 1), ct := Pv (i + 1), bk := D.nx } σ2 H2) (hd : ∀ σ H, Pv n σ H → D.nx σ H) :
    ∃ W : Nat → Nat → St → Hp → Prop, (∃ m, W 0 m σ H) ∧ ∀ i m σ H, W i m σ H →
      ((Itr lo n).stop i H ∧ D.nx σ H) ∨ ((Itr lo n).go i H ∧ ∃ N : St → Hp → Prop, (∀ σ' H', N σ' H' → ∃ m', m' < m ∧ W (i + 1) m' σ' H') ∧ ∀ x H', (Itr lo n).yld i H x H' → g x σ H' fun σ2 H2 => tb { D with nx := N, ct := N, bk := D.nx } σ2 H2) := by
  refine ⟨fun i m σ H => m = n - i ∧ i ≤ n ∧ Pv i σ H, ⟨n, by simp, Nat.zero_le _, h0⟩, ?_⟩
  rintro i m σ H ⟨rfl, hi, p⟩
  by_cases hlt : i < n
  · refine .inr ⟨hlt, Pv (i + 1), fun σ' H' p' => ⟨n - (i + 1), by omega, rfl, hlt, p'⟩, fun x H' y => ?_⟩
    obtain ⟨e, y⟩ := y
    subst e y
    exact hs i σ _ hlt p
  · have e : i = n := by omega
    subst e
    exact .inl ⟨Nat.le_refl _, hd σ H p⟩
end L2

namespace L2
open PySem PySem.Spec PyProof.Rows

abbrev R2 := V → V → Hp → VK → Prop
/-- a two-place operation on values: f is binaryOp op, inplaceOp op or compareOp op -/
def OpR (X : Cx) (f : Value → Value → Sem Value) (r : R2) : Prop :=
  ∀ (pins : List (Addr × Obj)) (s : Shared) (σ : St) (H : Hp) (x y : V) (v u : Value) (Q : VK), Inv X pins σ H s → RelV x v → RelV y u → r x y H Q →
    wpAny (model X.prog X.w) X.A (f v u) (EP X pins σ Q) X.xe s
/-- a one-place operation -/
def UnR (X : Cx) (f : Value → Sem Value) (r : V → Hp → VK → Prop) : Prop :=
  ∀ (pins : List (Addr × Obj)) (s : Shared) (σ : St) (H : Hp) (x : V) (v : Value) (Q : VK), Inv X pins σ H s → RelV x v → r x H Q →
    wpAny (model X.prog X.w) X.A (f v) (EP X pins σ Q) X.xe s
/-- a call of a value that is known (a builtin, a type) with values -/
def CallR (X : Cx) (f : Value) (r : List V → Hp → VK → Prop) : Prop :=
  ∀ (pins : List (Addr × Obj)) (s : Shared) (σ : St) (H : Hp) (xs : List V) (us : List Value) (Q : VK), Inv X pins σ H s → Vals xs us → r xs H Q →
    wpAny (model X.prog X.w) X.A (call f us) (EP X pins σ Q) X.xe s
def tOp (r : R2) (ta tb : TE) : TE := fun σ H Q => ta σ H fun x H1 => tb σ H1 fun y H2 => r x y H2 Q
def tUn (r : V → Hp → VK → Prop) (ta : TE) : TE := fun σ H Q => ta σ H fun x H1 => r x H1 Q
/-- ints in, under C, and a value out -/
def rI (C : Int → Int → Prop) (g : Int → Int → V) : R2 := fun x y H Q => ∃ i j, x = .int i ∧ y = .int j ∧ C i j ∧ Q (g i j) H
def rI0 (g : Int → Int → V) : R2 := fun x y H Q => ∃ i j, x = .int i ∧ y = .int j ∧ Q (g i j) H
def rU (g : Int → V) : V → Hp → VK → Prop := fun x H Q => ∃ i, x = .int i ∧ Q (g i) H

section
variable {X : Cx} {a b c : Expr} {ta tb tc : TE} {pos : Pos}

theorem binT (ha : PE X a ta) (hb : PE X b tb) {pins : List (Addr × Obj)} {s : Shared} {σ : St} {H : Hp} {R : V → V → Hp → Prop} (I : Inv X pins σ H s)
    (h : ta σ H fun x H1 => tb σ H1 fun y H2 => R x y H2) {Q : Value → Shared → Prop} {f : Value → Value → Sem Value}
    (hf : ∀ v u s2 x y H2, Inv X pins σ H2 s2 → RelV x v → RelV y u → R x y H2 → wpAny (model X.prog X.w) X.A (f v u) Q X.xe s2) :
    wpAny (model X.prog X.w) X.A (eval a X.env) (fun v s₁ => wpAny (model X.prog X.w) X.A (eval b X.env) (fun u s₂ => wpAny (model X.prog X.w) X.A (f v u) Q X.xe s₂) X.xe s₁) X.xe s := by
  refine thn (ha pins s σ H _ I h) fun v s1 ⟨x, H1, I1, r1, q1⟩ => ?_
  refine thn (hb pins s1 σ H1 _ I1 q1) fun u s2 ⟨y, H2, I2, r2, q2⟩ => ?_
  exact hf v u s2 x y H2 I2 r1 r2 q2

theorem pe_op {op : Operator} {r : R2} (ho : OpR X (binaryOp op) r) (ha : PE X a ta) (hb : PE X b tb) : PE X (.BinOp a op b pos) (tOp r ta tb) := by
  intro pins s σ H Q I h
  exact wpAny_BinOp (binT ha hb I h fun v u s2 x y H2 I2 rx ry q => ho pins s2 σ H2 x y v u Q I2 rx ry q)
theorem pe_un {op : UnaryOp} {r : V → Hp → VK → Prop} (ho : UnR X (unaryOp op) r) (ha : PE X a ta) : PE X (.UnaryOp op a pos) (tUn r ta) := by
  intro pins s σ H Q I h
  exact UnaryOp_ (thn (ha pins s σ H _ I h) fun v s1 ⟨x, H1, I1, r1, q1⟩ => ho pins s1 σ H1 x v Q I1 r1 q1)
/-! ### ints -/
theorem opI {f : Value → Value → Sem Value} {C : Int → Int → Prop} {g : Int → Int → Int}
    (rule : ∀ (i j : Int) (t u : Tok) (s : Shared) (Q : Value → Shared → Prop) (E : Value → Shared → Prop), C i j → Q (.int (g i j) s.toks) { s with toks := s.toks + 1 } → wpAny (model X.prog X.w) X.A (f (.int i t) (.int j u)) Q E s) :
    OpR X f (rI C fun i j => .int (g i j)) := by
  intro pins s σ H x y v u Q I rx ry h
  obtain ⟨i, j, rfl, rfl, hc, q⟩ := h
  obtain ⟨t, rfl⟩ := rx
  obtain ⟨t', rfl⟩ := ry
  exact rule i j t t' s _ _ hc ⟨.int (g i j), H, I.tok _, ⟨_, rfl⟩, q⟩
theorem opI0 {f : Value → Value → Sem Value} {g : Int → Int → Int}
    (rule : ∀ (i j : Int) (t u : Tok) (s : Shared) (Q : Value → Shared → Prop) (E : Value → Shared → Prop), Q (.int (g i j) s.toks) { s with toks := s.toks + 1 } → wpAny (model X.prog X.w) X.A (f (.int i t) (.int j u)) Q E s) :
    OpR X f (rI0 fun i j => .int (g i j)) := by
  intro pins s σ H x y v u Q I rx ry h
  obtain ⟨i, j, rfl, rfl, q⟩ := h
  obtain ⟨t, rfl⟩ := rx
  obtain ⟨t', rfl⟩ := ry
  exact rule i j t t' s _ _ ⟨.int (g i j), H, I.tok _, ⟨_, rfl⟩, q⟩
theorem opB0 {f : Value → Value → Sem Value} {g : Int → Int → Bool}
    (rule : ∀ (i j : Int) (t u : Tok) (s : Shared) (Q : Value → Shared → Prop) (E : Value → Shared → Prop), Q (.bool (g i j)) s → wpAny (model X.prog X.w) X.A (f (.int i t) (.int j u)) Q E s) :
    OpR X f (rI0 fun i j => .bl (g i j)) := by
  intro pins s σ H x y v u Q I rx ry h
  obtain ⟨i, j, rfl, rfl, q⟩ := h
  obtain ⟨t, rfl⟩ := rx
  obtain ⟨t', rfl⟩ := ry
  exact rule i j t t' s _ _ ⟨.bl (g i j), H, I, rfl, q⟩

def CDiv (i j : Int) : Prop := 0 < j ∧ j < 1073741824
def CPow (i j : Int) : Prop := 0 ≤ j ∧ j ≤ 1000000 ∧ i.natAbs < 2 ^ 64
def CMul (i j : Int) : Prop := (-(2 ^ 64) < i ∧ i < 2 ^ 64) ∨ (-(2 ^ 64) < j ∧ j < 2 ^ 64)
theorem CMul.ok {i j : Int} (h : CMul i j) : IntMulOk i j := by
  rcases h with ⟨h1, h2⟩ | ⟨h1, h2⟩
  · exact .of_left (intBits_le_64 h1 h2)
  · exact .of_right (intBits_le_64 h1 h2)
theorem op_add : OpR X (binaryOp .Add) (rI0 fun i j => .int (i + j)) := opI0 fun _ _ _ _ _ _ _ q => add_int q
theorem op_sub : OpR X (binaryOp .Sub) (rI0 fun i j => .int (i - j)) := opI0 fun _ _ _ _ _ _ _ q => sub_int q
theorem op_mul : OpR X (binaryOp .Mult) (rI CMul fun i j => .int (i * j)) := opI fun _ _ _ _ _ _ _ hc q => mul_int q hc.ok
/-- // by a positive divisor -/
theorem op_fdiv : OpR X (binaryOp .FloorDiv) (rI CDiv fun i j => .int (i / j)) := opI fun i j _ _ _ _ _ hc q => by
  have h1 : (0 : Int) < j := hc.1
  have h2 : j < 1073741824 := hc.2
  exact floordiv_int (by omega) (by rw [Int.fdiv_eq_ediv_of_nonneg i (by omega)]; exact q) (.inl (PyProof.noPylong_small (by omega)))
/-- % by a positive divisor of any size -/
theorem op_mod : OpR X (binaryOp .Mod) (rI (fun _ j => 0 < j) fun i j => .int (i % j)) := opI fun i j _ _ _ _ _ hc q => by
  have h1 : (0 : Int) < j := hc
  exact mod_int' (by omega) (by rw [Int.fmod_eq_emod_of_nonneg i (by omega)]; exact q)
theorem op_pow : OpR X (binaryOp .Pow) (rI CPow fun i j => .int (i ^ j.toNat)) := opI fun _ _ _ _ _ _ _ hc q => pow_int_small hc.1 hc.2.1 hc.2.2 q
theorem unI {f : Value → Sem Value} {g : Int → Int}
    (rule : ∀ (i : Int) (t : Tok) (s : Shared) (Q : Value → Shared → Prop) (E : Value → Shared → Prop), Q (.int (g i) s.toks) { s with toks := s.toks + 1 } → wpAny (model X.prog X.w) X.A (f (.int i t)) Q E s) :
    UnR X f (rU fun i => .int (g i)) := by
  intro pins s σ H x v Q I rx h
  obtain ⟨i, rfl, q⟩ := h
  obtain ⟨t, rfl⟩ := rx
  exact rule i t s _ _ ⟨.int (g i), H, I.tok _, ⟨_, rfl⟩, q⟩
theorem un_neg : UnR X (unaryOp .USub) (rU fun i => .int (-i)) := unI fun _ _ _ _ _ q => neg_int q
/-! ### bools among ints: n += (a < b) -/
end

/-! ### comparisons -/
/-- the scalars that == tells apart as data does -/
def scal : V → V → Bool
  | .non, .non => true | .non, .int _ => true | .int _, .non => true | .non, .bl _ => true | .bl _, .non => true | .non, .str _ => true | .str _, .non => true
  | .int _, .int _ => true | .bl _, .bl _ => true | .str _, .str _ => true | .byt _, .byt _ => true
  | .int _, .str _ => true | .str _, .int _ => true | .bl _, .str _ => true | .str _, .bl _ => true
  | _, _ => false
def rEq : R2 := fun x y H Q => scal x y = true ∧ Q (.bl (decide (x = y))) H
def rNe : R2 := fun x y H Q => scal x y = true ∧ Q (.bl (!decide (x = y))) H

theorem dec_int {i j : Int} : decide (V.int i = V.int j) = (i == j) := by
  rw [Bool.eq_iff_iff]
  simp
theorem dec_bl {i j : Bool} : decide (V.bl i = V.bl j) = (i == j) := by
  rw [Bool.eq_iff_iff]
  simp
theorem dec_str {i j : Str} : decide (V.str i = V.str j) = (i == j) := by
  rw [Bool.eq_iff_iff]
  simp
theorem dec_byt {i j : Array UInt8} : decide (V.byt i = V.byt j) = (i.toList == j.toList) := by
  rw [Bool.eq_iff_iff]
  cases i
  cases j
  simp

section
variable {X : Cx} {a b c : Expr} {ta tb tc : TE} {pos : Pos}
theorem fin_bl {pins : List (Addr × Obj)} {σ : St} {H : Hp} {s : Shared} {Q : VK} {k k' : Bool} (I : Inv X pins σ H s) (q : Q (.bl k) H) (e : k = k') : EP X pins σ Q (.bool k') s := by
  subst e
  exact ⟨.bl k, H, I, rfl, q⟩
theorem op_eq : OpR X (compareOp .Eq) rEq := by
  intro pins s σ H x y v u Q I rx ry h
  obtain ⟨hs, q⟩ := h
  cases x with
  | non =>
    cases rx
    cases y with
    | non => cases ry; exact PySem.EqNone.eq_none_none (fin_bl I q (by simp))
    | bl j => cases ry; exact PySem.EqNone.eq_none_bool (fin_bl I q (by simp))
    | int j => obtain ⟨t', rfl⟩ := ry; exact PySem.EqNone.eq_none_int (fin_bl I q (by simp))
    | str j => obtain ⟨t', rfl⟩ := ry; exact PySem.EqNone.eq_none_str (fin_bl I q (by simp))
    | _ => exact absurd (show false = true from hs) Bool.false_ne_true
  | bl i =>
    cases rx
    cases y with
    | non => cases ry; exact PySem.EqNone.eq_bool_none (fin_bl I q (by simp))
    | bl j => cases ry; exact eq_bool (fin_bl I q dec_bl)
    | str j => obtain ⟨t', rfl⟩ := ry; exact PySem.EqMixed.eq_bool_str (fin_bl I q (by simp))
    | _ => exact absurd (show false = true from hs) Bool.false_ne_true
  | int i =>
    obtain ⟨t, rfl⟩ := rx
    cases y with
    | non => cases ry; exact PySem.EqNone.eq_int_none (fin_bl I q (by simp))
    | int j => obtain ⟨t', rfl⟩ := ry; exact eq_int (fin_bl I q dec_int)
    | str j => obtain ⟨t', rfl⟩ := ry; exact PySem.EqMixed.eq_int_str (fin_bl I q (by simp))
    | _ => exact absurd (show false = true from hs) Bool.false_ne_true
  | str i =>
    obtain ⟨t, rfl⟩ := rx
    cases y with
    | non => cases ry; exact PySem.EqNone.eq_str_none (fin_bl I q (by simp))
    | bl j => cases ry; exact PySem.EqMixed.eq_str_bool (fin_bl I q (by simp))
    | int j => obtain ⟨t', rfl⟩ := ry; exact PySem.EqMixed.eq_str_int (fin_bl I q (by simp))
    | str j => obtain ⟨t', rfl⟩ := ry; exact eq_str (fin_bl I q dec_str)
    | _ => exact absurd (show false = true from hs) Bool.false_ne_true
  | byt i =>
    obtain ⟨t, rfl⟩ := rx
    cases y with
    | byt j => obtain ⟨t', rfl⟩ := ry; exact PySem.W.eq_bytes (fin_bl I q dec_byt)
    | _ => exact absurd (show false = true from hs) Bool.false_ne_true
  | _ => cases y <;> exact absurd (show false = true from hs) Bool.false_ne_true
theorem op_ne : OpR X (compareOp .NotEq) rNe := by
  intro pins s σ H x y v u Q I rx ry h
  obtain ⟨hs, q⟩ := h
  cases x with
  | non =>
    cases rx
    cases y with
    | non => cases ry; exact PySem.EqNone.ne_none_none (fin_bl I q (by simp))
    | bl j => cases ry; exact PySem.EqNone.ne_none_bool (fin_bl I q (by simp))
    | int j => obtain ⟨t', rfl⟩ := ry; exact PySem.EqNone.ne_none_int (fin_bl I q (by simp))
    | str j => obtain ⟨t', rfl⟩ := ry; exact PySem.EqNone.ne_none_str (fin_bl I q (by simp))
    | _ => exact absurd (show false = true from hs) Bool.false_ne_true
  | bl i =>
    cases rx
    cases y with
    | non => cases ry; exact PySem.EqNone.ne_bool_none (fin_bl I q (by simp))
    | bl j => cases ry; exact ne_bool (fin_bl I q (congrArg not dec_bl))
    | str j => obtain ⟨t', rfl⟩ := ry; exact PySem.EqMixed.ne_bool_str (fin_bl I q (by simp))
    | _ => exact absurd (show false = true from hs) Bool.false_ne_true
  | int i =>
    obtain ⟨t, rfl⟩ := rx
    cases y with
    | non => cases ry; exact PySem.EqNone.ne_int_none (fin_bl I q (by simp))
    | int j => obtain ⟨t', rfl⟩ := ry; exact ne_int (fin_bl I q (congrArg not dec_int))
    | str j => obtain ⟨t', rfl⟩ := ry; exact PySem.EqMixed.ne_int_str (fin_bl I q (by simp))
    | _ => exact absurd (show false = true from hs) Bool.false_ne_true
  | str i =>
    obtain ⟨t, rfl⟩ := rx
    cases y with
    | non => cases ry; exact PySem.EqNone.ne_str_none (fin_bl I q (by simp))
    | bl j => cases ry; exact PySem.EqMixed.ne_str_bool (fin_bl I q (by simp))
    | int j => obtain ⟨t', rfl⟩ := ry; exact PySem.EqMixed.ne_str_int (fin_bl I q (by simp))
    | str j => obtain ⟨t', rfl⟩ := ry; exact ne_str (fin_bl I q (congrArg not dec_str))
    | _ => exact absurd (show false = true from hs) Bool.false_ne_true
  | byt i =>
    obtain ⟨t, rfl⟩ := rx
    cases y with
    | byt j => obtain ⟨t', rfl⟩ := ry; exact PySem.W.ne_bytes (fin_bl I q (congrArg not dec_byt))
    | _ => exact absurd (show false = true from hs) Bool.false_ne_true
  | _ => cases y <;> exact absurd (show false = true from hs) Bool.false_ne_true

theorem op_lt : OpR X (compareOp .Lt) (rI0 fun i j => .bl (decide (i < j))) := opB0 fun _ _ _ _ _ _ _ q => lt_int q
theorem op_le : OpR X (compareOp .LtE) (rI0 fun i j => .bl (decide (i ≤ j))) := opB0 fun _ _ _ _ _ _ _ q => le_int q
theorem op_gt : OpR X (compareOp .Gt) (rI0 fun i j => .bl (decide (j < i))) := opB0 fun _ _ _ _ _ _ _ q => gt_int q
theorem op_ge : OpR X (compareOp .GtE) (rI0 fun i j => .bl (decide (j ≤ i))) := opB0 fun _ _ _ _ _ _ _ q => ge_int q
/-- is None, is not None: the right side a value none -/
theorem op_isN : OpR X (compareOp .Is) (fun x y H Q => y = .non ∧ Q (.bl (decide (x = .non))) H) := by
  intro pins s σ H x y v u Q I rx ry h
  obtain ⟨rfl, q⟩ := h
  cases ry
  refine is_none_gen (fin_bl I q ?_)
  cases x <;> first
    | (cases rx; rfl)
    | (obtain ⟨t, rfl⟩ := rx; rfl)
theorem op_notN : OpR X (compareOp .IsNot) (fun x y H Q => y = .non ∧ Q (.bl (!decide (x = .non))) H) := by
  intro pins s σ H x y v u Q I rx ry h
  obtain ⟨rfl, q⟩ := h
  cases ry
  refine isnot_none_gen (fin_bl I q ?_)
  cases x <;> first
    | (cases rx; rfl)
    | (obtain ⟨t, rfl⟩ := rx; rfl)

theorem nomark (b : Expr) {op : CmpOp} (h : op ≠ .In := by decide) (h2 : op ≠ .NotIn := by decide) : behindInMarks op b = false := by
  have e1 : (op == CmpOp.In) = false := by cases op <;> first | rfl | exact absurd rfl h
  have e2 : (op == CmpOp.NotIn) = false := by cases op <;> first | rfl | exact absurd rfl h2
  cases b <;> simp [behindInMarks, e1, e2]
/-- a comparison as a value; hm: nomark b, or (for in, not in) by with_unfolding_all rfl -/
theorem pe_cmpR {op : CmpOp} {r : R2} (ho : OpR X (compareOp op) r) (ha : PE X a ta) (hb : PE X b tb) (hm : behindInMarks op b = false) : PE X (.Compare a [op] [b] pos) (tOp r ta tb) := by
  intro pins s σ H Q I h
  exact wpAny_Compare1 (binT ha hb I h fun v u s2 x y H2 I2 rx ry q => ho pins s2 σ H2 x y v u Q I2 rx ry q) hm
/-- a reading of a value as a test -/
def tTest (t : TE) : TT := fun σ H Q => t σ H fun x H' => ∃ k, x = .bl k ∧ Q k H'
theorem pt_cmpR {op : CmpOp} {r : R2} (ho : OpR X (compareOp op) r) (ha : PE X a ta) (hb : PE X b tb) (hm : behindInMarks op b = false) : PT X (.Compare a [op] [b] pos) (tTest (tOp r ta tb)) := by
  intro pins s σ H Q I h
  refine wpAny_isTrue_Compare1 (thn (ha pins s σ H _ I h) fun v s1 ⟨x, H1, I1, r1, q1⟩ => thn (hb pins s1 σ H1 _ I1 q1) fun u s2 ⟨y, H2, I2, r2, q2⟩ =>
    thn (ho pins s2 σ H2 x y v u _ I2 r1 r2 q2) fun c s3 ⟨z, H3, I3, r3, k, e, q3⟩ => ?_) hm
  subst e
  cases r3
  exact wpAny_truthy_bool ⟨H3, I3, q3⟩
/-- a op1 b op2 c -/
def tChain (r r' : R2) (ta tb tc : TE) : TE := fun σ H Q => ta σ H fun x H1 => tb σ H1 fun y H2 => r x y H2 fun z H3 => ∃ k, z = .bl k ∧
  (if k = true then tc σ H3 fun w' H4 => r' y w' H4 Q else Q (.bl false) H3)
theorem pe_chain {op op' : CmpOp} {r r' : R2} (ho : OpR X (compareOp op) r) (ho' : OpR X (compareOp op') r') (ha : PE X a ta) (hb : PE X b tb) (hc : PE X c tc)
    (hm : lastMarks [op, op'] [b, c] = false := by with_unfolding_all rfl) : PE X (.Compare a [op, op'] [b, c] pos) (tChain r r' ta tb tc) := by
  intro pins s σ H Q I h
  refine Compare_chain (thn (ha pins s σ H _ I h) fun v s1 ⟨x, H1, I1, r1, q1⟩ => chain_link (thn (hb pins s1 σ H1 _ I1 q1) fun u s2 ⟨y, H2, I2, r2, q2⟩ =>
    thn (ho pins s2 σ H2 x y v u _ I2 r1 r2 q2) fun d s3 ⟨z, H3, I3, r3, k, e, q3⟩ => ?_)) hm
  subst e
  cases r3
  refine wpAny_truthy_bool ?_
  cases k with
  | false => exact ite_ff ⟨.bl false, H3, I3, rfl, q3⟩
  | true => exact ite_tt (chain_last (thn (hc pins s3 σ H3 _ I3 q3) fun w' s4 ⟨z', H4, I4, r4, q4⟩ => ho' pins s4 σ H4 y z' u w' Q I4 r2 r4 q4))
theorem pt_chain {op op' : CmpOp} {r r' : R2} (ho : OpR X (compareOp op) r) (ho' : OpR X (compareOp op') r') (ha : PE X a ta) (hb : PE X b tb) (hc : PE X c tc)
    (hm : lastMarks [op, op'] [b, c] = false := by with_unfolding_all rfl) : PT X (.Compare a [op, op'] [b, c] pos) (tTest (tChain r r' ta tb tc)) := by
  intro pins s σ H Q I h
  refine isTrue_chain (thn (ha pins s σ H _ I h) fun v s1 ⟨x, H1, I1, r1, q1⟩ => test_link (thn (hb pins s1 σ H1 _ I1 q1) fun u s2 ⟨y, H2, I2, r2, q2⟩ =>
    thn (ho pins s2 σ H2 x y v u _ I2 r1 r2 q2) fun d s3 ⟨z, H3, I3, r3, k, e, q3⟩ => ?_)) hm
  subst e
  cases r3
  refine wpAny_truthy_bool ?_
  cases k with
  | false =>
    obtain ⟨k', e', q'⟩ := q3
    cases e'
    exact ite_ff ⟨H3, I3, q'⟩
  | true =>
    refine ite_tt (test_last (thn (hc pins s3 σ H3 _ I3 q3) fun w' s4 ⟨z', H4, I4, r4, q4⟩ => thn (ho' pins s4 σ H4 y z' u w' _ I4 r2 r4 q4) fun d' s5 ⟨z2, H5, I5, r5, k2, e2, q5⟩ => ?_))
    subst e2
    cases r5
    exact wpAny_truthy_bool ⟨H5, I5, q5⟩

/-! ### truth -/
theorem line63 : (sizeLine : Nat) < 2 ^ 63 := by rw [sizeLine_eq]; decide
/-! ### strs and bytes -/
/-! ### scalar builtins, by CallR -/
theorem vals1 {x : V} {us : List Value} (r : Vals [x] us) : ∃ u, us = [u] ∧ RelV x u := by
  cases r with
  | cons r1 r2 => cases r2; exact ⟨_, rfl, r1⟩
theorem vals2 {x y : V} {us : List Value} (r : Vals [x, y] us) : ∃ u w', us = [u, w'] ∧ RelV x u ∧ RelV y w' := by
  cases r with
  | cons r1 r2 =>
    cases r2 with
    | cons r3 r4 => cases r4; exact ⟨_, _, rfl, r1, r3⟩
theorem call_abs : CallR X (.builtin "abs") (fun xs H Q => ∃ i, xs = [.int i] ∧ Q (.int (if i < 0 then -i else i)) H) := by
  intro pins s σ H xs us Q I r h
  obtain ⟨i, rfl, q⟩ := h
  obtain ⟨u, rfl, t, rfl⟩ := vals1 r
  exact call_abs_int fun u tk => ⟨.int (if i < 0 then -i else i), H, I.tok _, ⟨_, rfl⟩, q⟩
theorem call_min2 (hc : X.calm = true) : CallR X (.builtin "min") (fun xs H Q => ∃ i j, xs = [.int i, .int j] ∧ Q (.int (if j < i then j else i)) H) := by
  intro pins s σ H xs us Q I r h
  obtain ⟨i, j, rfl, q⟩ := h
  obtain ⟨u, w', rfl, ⟨t, rfl⟩, ⟨t', rfl⟩⟩ := vals2 r
  refine min_two_ints (I.ok.hd hc) fun h' tk k => ⟨_, H, I.kept k, ?_, q⟩
  by_cases hj : j < i
  · rw [if_pos hj, if_pos hj]; exact ⟨_, rfl⟩
  · rw [if_neg hj, if_neg hj]; exact ⟨_, rfl⟩
end
end L2

namespace L2
open PySem PySem.Spec PyProof.Rows

/-! ### an instance, its attributes a map -/
structure ObjM (h : Heap) (x dx C : Addr) (mA : Str → Option Value) : Prop where
  obj : h.get? x = some (PySem.W.instObj C dx)
  ns : h.Ns1 dx mA
  ne : dx ≠ x

theorem lookIn_ns {h : Heap} {dx : Addr} {mA : Str → Option Value} (n : h.Ns1 dx mA) : ∃ od, h.get? dx = some od ∧ ∀ name, PySem.W.lookIn name od = some (mA name) := by
  obtain ⟨o, es, ep, ho, hd, hk, _, hm⟩ := n
  refine ⟨o, ho, fun name => ?_⟩
  have e := hm name
  unfold nsFind findBy at e
  rw [← Array.find?_toList] at e
  unfold PySem.W.lookIn
  rw [hd]
  dsimp only
  split
  · rename_i y q
    rw [q] at e
    exact congrArg some e
  · rename_i q
    rw [q] at e
    have a : es.toList.any (·.refKey) = false := by
      rw [List.any_eq_false]
      intro y hy
      obtain ⟨z, t, hkey⟩ := hk y (Array.mem_toList_iff.mp hy)
      simp [DictEntry.refKey, hkey]
    have a' : ¬ es.toList.any (·.refKey) = true := by rw [a]; exact Bool.false_ne_true
    rw [if_neg a']
    exact congrArg some e

theorem ObjM.look {h : Heap} {x dx C : Addr} {mA : Str → Option Value} (I : ObjM h x dx C mA) : ∃ od, PySem.W.InstAt h x (PySem.W.instObj C dx) C (some od) ∧ ∀ name, PySem.W.lookIn name od = some (mA name) :=
  let ⟨od, ho, hl⟩ := lookIn_ns I.ns
  ⟨od, ⟨I.obj, rfl, rfl, ho⟩, hl⟩

section
variable {prog : Program} {w : World} {A : Around} {E : Value → Shared → Prop} {s : Shared} {K : PySem.W.Frag} {x dx C f : Addr} {mA : Str → Option Value} {name : Str} {v : Value}

end

/-! ### the attributes as a list of pairs -/
theorem RelO.some_of {v : V} {o : Option Value} (r : RelO (some v) o) : ∃ u, o = some u ∧ RelV v u := by
  cases o with
  | none => exact (show False from r).elim
  | some u => exact ⟨u, rfl, r⟩
section
variable {P : Program} {w : World} {H H' : Hp} {h h' : Heap} {a C dx : Addr} {fs fs' : List (Str × V)}
theorem ins_get (hok : HOk P w H h) (e : H a = some (.ins C dx fs)) : ∃ mA, ObjM h a dx C mA ∧ (∀ f, RelO (fs.lookup f) (mA f)) ∧ PySem.Within mA (fs.map (·.1)) ∧ fs.length ≤ 1000 ∧ H dx = some (.own a) := by
  obtain ⟨d, z, ne, ob, mA, n, r, q⟩ := (show ObjOk P w H h a (.ins C dx fs) from hok a _ e)
  exact ⟨mA, ⟨ob, n, ne⟩, r, q, z, d⟩
end

/-! ### what of the text a class must have -/
structure Cls (K : PySem.W.Frag) (C : Addr) : Prop where
  pg : PySem.W.plainGet K C Str.empty = true
  hd : PySem.W.hasDictIn K C = true
  po : PySem.W.plainOver K C = true
  sa : PySem.W.findIn K (.ref C) "__setattr__" = some (some (.builtin "object.__setattr__"))
theorem Cls.get {K : PySem.W.Frag} {C : Addr} (c : Cls K C) (f : Str) : PySem.W.plainGet K C f = true := c.pg
section
variable {X : Cx} {pins : List (Addr × Obj)} {σ : St} {H : Hp} {s : Shared} {a C dx : Addr} {fs : List (Str × V)} {f : Str} {v : V} {A : Around} {E : Value → Shared → Prop}

end

/-! ### readings and rules -/
section
variable {X : Cx} {o e value : Expr} {f : Str} {pos pos' tpos : Pos} {ta tv : TE}
end

/-! ### isinstance -/
section
variable {X : Cx} {pins : List (Addr × Obj)} {σ : St} {H : Hp} {s : Shared} {A : Around} {E : Value → Shared → Prop} {Q : Value → Shared → Prop} {c : Value} {b : Bool}
/-- the type of a value, as the fragment's deciders take it; for an instance its class -/
inductive TyOf (K : PySem.W.Frag) (H : Hp) : V → Value → Prop where
  | non : TyOf K H .non (.type "NoneType")
  | bl (x : Bool) : TyOf K H (.bl x) (.type "bool")
  | int (i : Int) : TyOf K H (.int i) (.type "int")
  | str (x : Str) : TyOf K H (.str x) (.type "str")
  | flt (x : UInt64) : TyOf K H (.flt x) (.type "float")
  | lst {a : Addr} {xs : List V} (e : H a = some (.lst xs)) : TyOf K H (.ref a) (.type "list")
  | frz {a : Addr} {o : Obj} {xs : List V} (e : H a = some (.frz o (.lst xs))) : TyOf K H (.ref a) (.type "list")
  | tup {a : Addr} {xs : List V} (e : H a = some (.tup xs)) : TyOf K H (.ref a) (.type "tuple")
  | dK {a : Addr} {kvs : List (Key × V)} (e : H a = some (.dK kvs)) : TyOf K H (.ref a) (.type "dict")
  | dT {a : Addr} {kvs : List (List Key × V)} (e : H a = some (.dT kvs)) : TyOf K H (.ref a) (.type "dict")
  | ins {a C dx : Addr} {fs : List (Str × V)} (e : H a = some (.ins C dx fs)) (cl : Cls K C) (ha : PySem.W.findIn K (.ref C) "__class__" = some (some (.builtin "object.__class__")))
      (hn : PySem.W.specialIn K (.builtin "object.__class__") "__get__" = some (some (.builtin "getset_descriptor.__get__"))) (htk : PySem.W.takesIn K (.builtin "object.__class__") = some true)
      (hm : PySem.W.mroIn K C (.type "object") = some true) : TyOf K H (.ref a) (.ref C)
/-- isinstance(x, c) for one class c, a built-in or an own one: kitOne's answer -/
theorem isinst_ok {x : V} {u t : Value} (I : Inv X pins σ H s) (rx : RelV x u) (ty : TyOf X.K H x t) (e : PySem.W.kitOne X.K t c = some b) (h : ∀ tk, Q (.bool b) { s with toks := tk }) :
    wpAny (model X.prog X.w) A (call (.builtin "isinstance") [u, c]) Q E s := by
  cases ty with
  | non => cases (show u = Value.none from rx); exact PySem.W.kia_one PySem.W.kitx_none I.kIn True.intro e (fun z => nomatch z) h
  | bl y => cases (show u = Value.bool y from rx); exact PySem.W.kia_one PySem.W.kitx_bool I.kIn True.intro e (fun z => nomatch z) h
  | int i => obtain ⟨t, q⟩ := (show ∃ t, u = Value.int i t from rx); cases q; exact PySem.W.kia_one PySem.W.kitx_int I.kIn True.intro e (fun z => nomatch z) h
  | str y => obtain ⟨t, q⟩ := (show ∃ t, u = Value.str y t from rx); cases q; exact PySem.W.kia_one PySem.W.kitx_str I.kIn True.intro e (fun z => nomatch z) h
  | flt y => obtain ⟨t, q⟩ := (show ∃ t, u = Value.float y t from rx); cases q; exact PySem.W.kia_one PySem.W.kitx_float I.kIn True.intro e (fun z => nomatch z) h
  | @lst a xs ea =>
    cases (show u = Value.ref a from rx)
    obtain ⟨_, _, n, _, h1⟩ := (show ObjOk X.prog X.w H s.heap a (.lst xs) from I.hok a _ ea)
    exact PySem.W.kia_one PySem.W.kitx_list I.kIn ⟨_, h1, rfl⟩ e (fun z => nomatch z) h
  | @frz a ob xs ea =>
    cases (show u = Value.ref a from rx)
    obtain ⟨_, _, _, n, _, h1⟩ := (show ObjOk X.prog X.w H s.heap a (.frz ob (.lst xs)) from I.hok a _ ea)
    exact PySem.W.kia_one PySem.W.kitx_list I.kIn ⟨_, h1, rfl⟩ e (fun z => nomatch z) h
  | @tup a xs ea =>
    cases (show u = Value.ref a from rx)
    obtain ⟨_, _, _, p⟩ := (show ObjOk X.prog X.w H s.heap a (.tup xs) from I.hok a _ ea)
    obtain ⟨o, h1, h2, _⟩ := p
    exact PySem.W.kia_one PySem.W.kitx_tuple I.kIn ⟨o, h1, h2⟩ e (fun z => nomatch z) h
  | @dK a kvs ea =>
    cases (show u = Value.ref a from rx)
    obtain ⟨_, _, vs, _, p⟩ := (show ObjOk X.prog X.w H s.heap a (.dK kvs) from I.hok a _ ea)
    obtain ⟨o, es, ep, h1, h2, _⟩ := p
    exact PySem.W.kia_one PySem.W.kitx_dict I.kIn ⟨o, h1, h2.1⟩ e (fun z => nomatch z) h
  | @dT a kvs ea =>
    cases (show u = Value.ref a from rx)
    obtain ⟨_, _, xs, _, o, es, ep, h1, h2, _⟩ := (show ObjOk X.prog X.w H s.heap a (.dT kvs) from I.hok a _ ea)
    exact PySem.W.kia_one PySem.W.kitx_dict I.kIn ⟨o, h1, h2.1⟩ e (fun z => nomatch z) h
  | @ins a C dx fs ea cl ha hn htk hm =>
    cases (show u = Value.ref a from rx)
    obtain ⟨mA, O, _⟩ := ins_get I.hok ea
    obtain ⟨od, J, _⟩ := O.look
    exact PySem.W.kia_one (PySem.W.kitx_own (cl.get _) cl.hd ha hn htk hm) I.kIn J e (fun z => nomatch z) h
end
end L2

namespace L2
open PySem PySem.Spec PyProof.Rows

/-! ### room -/
structure Room (k : Nat) (A : Around) : Prop where
  hd : A.handled = none
  dp : A.depth + 3 * k + 5 < recursionLimit
  un : A.units + 16 * k + 200 < cLine
  gd : A.guards = some []
theorem Room.mono {j k : Nat} {A : Around} (r : Room k A) (h : j ≤ k) : Room j A := ⟨r.hd, by have := r.dp; omega, by have := r.un; omega, r.gd⟩
theorem Room.deeper {k : Nat} {A : Around} (r : Room (k + 1) A) (env : Env) : Room k (A.deeper env) :=
  ⟨r.hd, by have := r.dp; show A.depth + 1 + 3 * k + 5 < _; omega, by have := r.un; show A.units + 3 + 16 * k + 200 < _; omega, r.gd⟩
theorem Room.depth {k : Nat} {A : Around} (r : Room k A) : A.depth < recursionLimit := by have := r.dp; omega
theorem Room.units {k : Nat} {A : Around} (r : Room k A) : A.units + 64 < cLine := by have := r.un; omega
/-! ### argument lists and displays -/
def tNil : TA := fun _ H Q => Q [] H
def tCons (ta : TE) (tr : TA) : TA := fun σ H Q => ta σ H fun x H1 => tr σ H1 fun xs H2 => Q (x :: xs) H2
section
variable {X : Cx} {e : Expr} {es : List Expr} {te : TE} {t : TA} {pos : Pos}
theorem pa_nil : PA X [] tNil := fun _ _ _ _ H Q I h => Calls.spliced_nil ⟨[], H, I, .nil, h⟩
theorem pa_cons (ha : PE X e te) (hr : PA X es t) (hs : starEach (e :: es) X.env = (false, eval e X.env) :: starEach es X.env := by rfl) : PA X (e :: es) (tCons te t) := by
  intro pos pins s σ H Q I h
  rw [hs]
  show wpAny _ _ (spliced ((false, eval e X.env) :: backTo pos (starEach es X.env))) _ _ s
  refine Calls.spliced_cons (thn (ha pins s σ H _ I h) fun u s1 ⟨x, H1, I1, r1, q1⟩ => ?_)
  exact thn (hr pos pins s1 σ H1 _ I1 q1) fun us s2 ⟨xs, H2, I2, r2, q2⟩ => ⟨x :: xs, H2, I2, .cons r1 r2, q2⟩

/-- a tuple, a list of written items -/
def tTup (t : TA) : TE := fun σ H Q => t σ H fun xs H1 => xs.length ≤ sizeLine ∧ ∀ p, H1 p = none → Q (.ref p) (upd H1 p (.tup xs))
def tLst (t : TA) : TE := fun σ H Q => t σ H fun xs H1 => xs.length ≤ sizeLine ∧ ∀ p, H1 p = none → Q (.ref p) (upd H1 p (.lst xs))
theorem pe_tup {x1} (h : PA X es t) : PE X (.Tuple es x1 pos) (tTup t) := by
  intro pins s σ H Q I hq
  refine wpAny_Tuple_spliced (thn (h pos pins s σ H _ I hq) fun us s1 ⟨xs, H1, I1, r, z, q⟩ => ⟨by rw [← r.length]; exact z, ?_⟩)
  have hf : H1 s1.heap.objs.size = none := I1.hok.fresh (Nat.le_refl _)
  refine ⟨.ref s1.heap.objs.size, upd H1 s1.heap.objs.size (.tup xs), I1.laid (t' := s1.toks) (fun b u e => Heap.get?_push_of_some _ e) (Nat.le_refl _) ?_, rfl, q _ hf⟩
  exact ⟨z, us, r, ⟨_, Heap.get?_push_size _ rfl, rfl, _, rfl⟩⟩
theorem pe_lst (h : PA X es t) : PE X (.List es pos) (tLst t) := by
  intro pins s σ H Q I hq
  refine wpAny_List_spliced (thn (h pos pins s σ H _ I hq) fun us s1 ⟨xs, H1, I1, r, z, q⟩ => ⟨by rw [← r.length]; exact z, ?_⟩)
  have hf : H1 s1.heap.objs.size = none := I1.hok.fresh (Nat.le_refl _)
  refine ⟨.ref s1.heap.objs.size, upd H1 s1.heap.objs.size (.lst xs), I1.laid (t' := s1.toks) (fun b u e => Heap.get?_push_of_some _ e) (Nat.le_refl _) ?_, rfl, q _ hf⟩
  exact ⟨z, us, 0, r, Heap.get?_push_size _ rfl⟩
end

/-! ### what a def promises -/
/-- a def's promise: the bound arguments in the parameters' order, the heap, the wanted end, the wanted exception -/
abbrev Sp := List V → Hp → VK → XK → Prop
/-- how an exception lies behind a call (file 08 gives it): the callers' frames, abstract heap and state ahead of the call, the wish, the exception, the state -/
abbrev CXT := List Env → Hp → Shared → XK → Value → Shared → Prop

/-- the state at a call -/
structure Env0 (P : Program) (w : World) (K : PySem.W.Frag) (mg : Str → Option Value) (base : Heap) (A : Around) (outer : List Env) (s : Shared) (H : Hp) : Prop where
  frames : A.frames = some outer
  mod : Mod K mg base
  bs : ∀ b o, base.get? b = some o → s.heap.get? b = some o ∧ H b = none
  bsz : base.objs.size ≤ s.heap.objs.size
  funs : s.heap.FunFrames base outer
  frf : ∀ b ∈ frs outer, H b = none
  hok : HOk P w H s.heap
  bare : AllBare s.gens
/-- a call's end -/
def CE (outer : List Env) (P : Program) (w : World) (H : Hp) (s : Shared) (Q : VK) (u : Value) (s' : Shared) : Prop :=
  ∃ v H', s'.os = s.os ∧ AllBare s'.gens ∧ Un (frs outer) [] H H' s.heap s'.heap ∧ HOk P w H' s'.heap ∧ RelV v u ∧ Q v H'
def CR (CX : CXT) (outer : List Env) (P : Program) (w : World) (H : Hp) (s : Shared) (Q : VK) (E : XK) (r : Result) (s' : Shared) : Prop :=
  match r with
  | .ok (.ret u) => CE outer P w H s Q u s'
  | .ok _ => False
  | .error e => CX outer H s E e s'
structure FnOk (P : Program) (w : World) (K : PySem.W.Frag) (mg : Str → Option Value) (base : Heap) (CX : CXT) (k : Nat) (f : Addr) (fd : FuncData) (ps : List Str) (sp : Sp) : Prop where
  len : ∀ vs H Q E, sp vs H Q E → vs.length = ps.length
  run : ∀ (A : Around) (outer : List Env) (s : Shared) (H : Hp) (args : Args) (us : List Value) (vs : List V) (Q : VK) (E : XK), Room k A → Env0 P w K mg base A outer s H → BindsTo s fd args (ps.zip us) → Vals vs us → sp vs H Q E →
    codeAny (model P w) A (.call (.ref f) args) (CR CX outer P w H s Q E) s
/-- a weaker promise -/
theorem FnOk.imp {P : Program} {w : World} {K : PySem.W.Frag} {mg : Str → Option Value} {base : Heap} {CX : CXT} {k : Nat} {f : Addr} {fd : FuncData} {ps : List Str} {sp sp' : Sp} (F : FnOk P w K mg base CX k f fd ps sp)
    (h : ∀ vs H Q E, sp' vs H Q E → sp vs H Q E) : FnOk P w K mg base CX k f fd ps sp' :=
  ⟨fun vs H Q E q => F.len vs H Q E (h _ _ _ _ q), fun A outer s H args us vs Q E hr he hb hv hs => F.run A outer s H args us vs Q E hr he hb hv (h _ _ _ _ hs)⟩

section
variable {X : Cx} {pins : List (Addr × Obj)} {σ : St} {H : Hp} {s s' : Shared}
/-- from a body: what a callee wants -/
theorem Inv.env0 (I : Inv X pins σ H s) : Env0 X.prog X.w X.K X.mg X.base X.A X.stack s H :=
  ⟨I.ok.frames, I.ok.mod, I.bs, Nat.le_trans I.ok.bsz I.sz, I.stack, I.stkFree, I.hok, I.bare⟩
/-- behind a call -/
theorem Inv.after {Q : VK} {u : Value} (I : Inv X pins σ H s) (h : CE X.stack X.prog X.w H s Q u s') : EP X pins σ Q u s' := by
  obtain ⟨v, H', os, bare, un, hok, r, q⟩ := h
  obtain ⟨hh, g, d, t, os'⟩ := s'
  obtain rfl : os' = s.os := os
  exact ⟨v, H', I.call (h' := hh) (g' := g) (d' := d) (t' := t) (ch := []) un hok bare (fun b z => absurd z (by simp)), r, q⟩
end

/-! ### calls -/
/-- f(..): the written arguments, then the defaults dvs; E: what is wanted of an exception -/
def tCall (sp : Sp) (dvs : List V) (E : XK) (t : TA) : TE := fun σ H Q => t σ H fun vs H1 => sp (vs ++ dvs) H1 Q E
/-- how the parameters are bound: us the positional arguments, kw the keywords' values by name, ds the defaults that fill up -/
def Binds (K : PySem.W.Frag) (fd : FuncData) (ps : List Str) (ds : List Value) : Prop :=
  ∀ (s : Shared) (us : List Value), K.In s.heap → (us ++ ds).length = ps.length → BindsTo s fd ⟨us, []⟩ (ps.zip (us ++ ds))
/-- every parameter is given -/
theorem Binds.all {K : PySem.W.Frag} {fd : FuncData} {ps : List Str} (h : ∀ us : List Value, us.length = ps.length → bindArgs fd ⟨us, []⟩ = pure (ps.zip us)) : Binds K fd ps [] := fun s us _ hl => by
  rw [List.append_nil] at hl ⊢
  exact .of_eq (h us hl)

/-- an exception of a callee reaches what this body wants of exceptions -/
def Passes (CX : CXT) (X : Cx) (E : XK) : Prop := ∀ (pins : List (Addr × Obj)) (σ : St) (H : Hp) (s : Shared) (e : Value) (s' : Shared), Inv X pins σ H s → CX X.stack H s E e s' → X.xe e s'

section
variable {X : Cx} {CX : CXT} {k : Nat} {f C : Addr} {fd : FuncData} {ps : List Str} {sp : Sp} {dvs : List V} {ds : List Value} {E : XK} {x m : Str} {p pos apos : Pos} {e o : Expr} {es : List Expr} {ta : TE} {t : TA}

/-- the callee runs -/
theorem run_fn {pins : List (Addr × Obj)} {σ : St} {H : Hp} {s : Shared} {Q : VK} {us : List Value} {vs : List V} (F : FnOk X.prog X.w X.K X.mg X.base CX k f fd ps sp) (hr : Room k X.A) (hb : Binds X.K fd ps ds) (hd : Vals dvs ds) (hx : Passes CX X E)
    (I : Inv X pins σ H s) (r : Vals vs us) (h : sp (vs ++ dvs) H Q E) : wpAny (model X.prog X.w) X.A (call (.ref f) us) (EP X pins σ Q) X.xe s := by
  have r2 : Vals (vs ++ dvs) (us ++ ds) := r.append hd
  have hl : (us ++ ds).length = ps.length := by rw [← r2.length]; exact F.len _ _ _ _ h
  refine wpAny_call (codeAny_mono (F.run X.A X.stack s H ⟨us, []⟩ (us ++ ds) (vs ++ dvs) Q E hr I.env0 (hb s us I.kIn hl) r2 h) fun r s' hq => ?_)
  cases r with
  | error e => exact hx pins σ H s e s' I hq
  | ok fl =>
    cases fl with
    | ret u => exact I.after hq
    | next => exact False.elim hq
    | brk => exact False.elim hq
    | cont => exact False.elim hq

theorem pe_call (F : FnOk X.prog X.w X.K X.mg X.base CX k f fd ps sp) (hr : Room k X.A) (hg : Gl X x) (hm : X.mg x = some (.ref f)) (hk : PySem.W.keepIn X.K (.ref f) = true) (hb : Binds X.K fd ps ds) (hd : Vals dvs ds) (hx : Passes CX X E)
    (ha : PA X (e :: es) t) (hdb : (x == ("__debug__" : Str)) = false := by decide) (he : starEach (e :: es) X.env = (false, eval e X.env) :: starEach es X.env := by rfl) (hpl : (backTo pos (starEach es X.env)).any (·.1) = false := by rfl) :
    PE X (.Call (.Name x p) (e :: es) [] pos) (tCall sp dvs E t) := by
  intro pins s σ H Q I h
  refine wpAny_Call_Name_kw (ld_glob I hg hm ?_ hdb)
  refine PySem.W.callWith_K (h₀ := X.base) I.ok.mod.kin hk (thn (ha pos pins s σ H _ I h) fun us s1 ⟨vs, H1, I1, r, q⟩ => ⟨I1.kIn, ?_⟩) he hpl
  exact run_fn F hr hb hd hx I1 r q
end

/-! ### keywords -/
section
variable {X : Cx} {CX : CXT} {k : Nat} {f C : Addr} {fd : FuncData} {ps ks : List Str} {sp : Sp} {E : XK} {x m : Str} {p pos apos kpos : Pos} {e o : Expr} {es : List Expr} {kws : List Keyword} {te ta : TE} {t tk : TA} {nm : Option Str}
variable {g : List Value → List Value → List Value} {gV : List V → List V → List V}
end

/-! ### a def's body keeps its promise -/
/-- names: the parameters first -/
structure FnScope (N P : List Str) (sc : Scope) : Prop where
  kind : sc.kind = .function
  co : sc.isCoroutine = false
  gen : sc.isGenerator = false
  nd : N.Nodup
  pre : N.take P.length = P
  par : ∀ x ∈ P, sc.names.lookup x = some .local ∨ sc.names.lookup x = some .cell
  nofree : ∀ y ∈ sc.names, y.2 ≠ .free

theorem bindL_out {kindOf : Str → Option NameKind} {x : Str} : ∀ {binds : List (Str × Value)} {m : Str → Option Value}, (∀ v, (x, v) ∉ binds) → bindL kindOf binds m x = m x
  | [], _, _ => rfl
  | (n, v) :: r, m, h => by
    unfold bindL
    rw [bindL_out fun w hw => h w (List.mem_cons_of_mem _ hw)]
    split
    · have : x ≠ n := by rintro rfl; exact h v List.mem_cons_self
      simp [this]
    · rfl
theorem bindC_out {kindOf : Str → Option NameKind} {x : Str} : ∀ {binds : List (Str × Value)} {m : Str → Option Value}, (∀ v, (x, v) ∉ binds) → bindC kindOf binds m x = m x
  | [], _, _ => rfl
  | (n, v) :: r, m, h => by
    unfold bindC
    rw [bindC_out fun w hw => h w (List.mem_cons_of_mem _ hw)]
    split
    · rfl
    · have : x ≠ n := by rintro rfl; exact h v List.mem_cons_self
      simp [this]
theorem bindL_get {kindOf : Str → Option NameKind} {x : Str} {v : Value} : ∀ {P : List Str} {vs : List Value} {i : Nat} {m : Str → Option Value}, P.Nodup → P[i]? = some x → vs[i]? = some v → kindOf x = some .local →
    bindL kindOf (P.zip vs) m x = some v
  | [], _, _, _, _, h, _, _ => by simp at h
  | _ :: _, [], _, _, _, _, h, _ => by simp at h
  | p :: P, w :: vs, 0, m, nd, h1, h2, hk => by
    simp at h1 h2; subst h1; subst h2
    show bindL kindOf ((p, w) :: P.zip vs) m p = _
    unfold bindL
    rw [bindL_out fun v hv => (List.nodup_cons.mp nd).1 (List.of_mem_zip hv).1, if_pos hk]
    simp
  | p :: P, w :: vs, i + 1, m, nd, h1, h2, hk => by
    show bindL kindOf ((p, w) :: P.zip vs) m x = _
    unfold bindL
    exact bindL_get (i := i) (List.nodup_cons.mp nd).2 (by simpa using h1) (by simpa using h2) hk
theorem bindC_get {kindOf : Str → Option NameKind} {x : Str} {v : Value} : ∀ {P : List Str} {vs : List Value} {i : Nat} {m : Str → Option Value}, P.Nodup → P[i]? = some x → vs[i]? = some v → kindOf x ≠ some .local →
    bindC kindOf (P.zip vs) m x = some v
  | [], _, _, _, _, h, _, _ => by simp at h
  | _ :: _, [], _, _, _, _, h, _ => by simp at h
  | p :: P, w :: vs, 0, m, nd, h1, h2, hk => by
    simp at h1 h2; subst h1; subst h2
    show bindC kindOf ((p, w) :: P.zip vs) m p = _
    unfold bindC
    rw [bindC_out fun v hv => (List.nodup_cons.mp nd).1 (List.of_mem_zip hv).1, if_neg hk]
    simp
  | p :: P, w :: vs, i + 1, m, nd, h1, h2, hk => by
    show bindC kindOf ((p, w) :: P.zip vs) m x = _
    unfold bindC
    exact bindC_get (i := i) (List.nodup_cons.mp nd).2 (by simpa using h1) (by simpa using h2) hk

/-- the names' values at the entry -/
def start (N : List Str) (vs : List V) : St := vs.map some ++ List.replicate (N.length - vs.length) none

/-- the context of a def's body, at its entry; an exception leaves the frame, then lies as CX says -/
def cxOf (CX : CXT) (P : Program) (w : World) (K : PySem.W.Frag) (mg : Str → Option Value) (base : Heap) (N : List Str) (qual : Str) (scope : Scope) (f : Addr) (cd : Value) (A : Around) (outer : List Env) (s : Shared) (H : Hp) (E : XK) : Cx where
  prog := P
  w := w
  K := K
  mg := mg
  base := base
  A := A.deeper (envOfC qual scope s.heap.objs.size f cd)
  N := N
  s₀ := s
  H₀ := H
  env := envOfC qual scope s.heap.objs.size f cd
  outer := outer
  stack := envOfC qual scope s.heap.objs.size f cd :: outer
  ex := []
  calm := true
  fn := fun _ => true
  pn := []
  xe := fun e s' => wpAny (model P w) (A.deeper (envOfC qual scope s.heap.objs.size f cd)) (leaving (envOfC qual scope s.heap.objs.size f cd) e) (fun _ s'' => CX outer H s E e s'') (fun e' s'' => CX outer H s E e' s'') s'

theorem cell_has {sc : Scope} {n : Nat} {x : Str} (h : sc.names.lookup x = some .cell) : ∃ c, (cellsFrom n sc.names []).lookup x = some c := by
  have q := PySem.W.cellsFrom_some sc.names n [] (.inl h)
  exact Option.isSome_iff_exists.mp q

theorem inv_start {CX : CXT} {P : Program} {w : World} {K : PySem.W.Frag} {mg : Str → Option Value} {base : Heap} {N ps : List Str} {qual : Str} {scope : Scope} {f : Addr} {cd : Value} {A : Around} {outer : List Env} {s s1 : Shared} {H : Hp} {E : XK} {us : List Value} {vs : List V}
    (S : FnScope N ps scope) (hd : A.handled = none) (e0 : Env0 P w K mg base A outer s H) (hl : vs.length = ps.length) (r : Vals vs us)
    (x : InCallC s s.heap.objs.size (bindL (envOfC qual scope s.heap.objs.size f cd).kindOf (ps.zip us) fun _ => none) (cellsFrom (s.heap.objs.size + 1) scope.names []) (bindC (envOfC qual scope s.heap.objs.size f cd).kindOf (ps.zip us) fun _ => none) s1) :
    Inv (cxOf CX P w K mg base N qual scope f cd A outer s H E) [] (start N vs) H s1 := by
  have hpl : ps.length ≤ N.length := by have := congrArg List.length S.pre; rw [List.length_take] at this; omega
  obtain ⟨h1, tk, rfl, hk⟩ := x.done
  have noA : ∀ b : Addr, b ∉ (cxOf CX P w K mg base N qual scope f cd A outer s H E).ex := fun b z => absurd (show b ∈ ([] : List Addr) from z) (by simp)
  refine ⟨⟨e0.mod, S.kind, rfl, rfl, Nat.le_refl _, fun y z c h1 h2 => ?_, fun y hy => ?_, fun y c _ h => ?_, fun _ => hd, Around.frames_deeper e0.frames, .inr ⟨rfl, rfl⟩, fun b z => absurd z (noA b), e0.bs, e0.bsz, fun b _ _ => noA b, fun b z => absurd z (noA b), e0.funs, e0.frf⟩,
    rfl, e0.bare, Un.kept hk, ⟨_, x.toInCall.ns, fun i y v h1 h2 h3 => ?_⟩, fun y c h => ⟨_, x.cell y c h⟩, e0.hok.fresh (Nat.le_refl _), fun y c h => ?_, fun p hp => absurd (show p ∈ ([] : List (Addr × Obj)) from hp) (by simp), e0.hok.kept hk, ?_⟩
  · exact name_of_addr x.apart (PySem.mem_of_lookup h1) (PySem.mem_of_lookup h2)
  · have hy : scope.names.lookup y = some .cell ∨ scope.names.lookup y = some .free := hy
    rcases hy with hy | hy
    · exact cell_has hy
    · exact absurd rfl (S.nofree _ (PySem.mem_of_lookup hy))
  · exact Nat.le_of_lt (x.above y c (PySem.mem_of_lookup h))
  · have hi : i < vs.length := by
      unfold start at h2
      by_cases hi : i < vs.length
      · exact hi
      · rw [List.getElem?_append_right (by simpa using hi)] at h2
        rw [List.getElem?_replicate] at h2
        split at h2 <;> cases h2
    have ha : vs[i]? = some v := by
      unfold start at h2
      rw [List.getElem?_append_left (by simpa using hi), List.getElem?_map] at h2
      cases e : vs[i]? with
      | none => rw [e] at h2; cases h2
      | some a => rw [e] at h2; cases h2; rfl
    obtain ⟨u, hu, rv⟩ := r.get ha
    have hp : ps[i]? = some y := by
      rw [← S.pre, List.getElem?_take_of_lt (by omega)]; exact h1
    have ndP : ps.Nodup := by rw [← S.pre]; exact S.nd.sublist (List.take_sublist _ _)
    refine ⟨u, rv, ?_⟩
    rcases S.par y (List.mem_of_getElem? hp) with k | k
    · exact .inl ⟨k, bindL_get ndP hp hu k⟩
    · obtain ⟨c, e⟩ := cell_has (n := s.heap.objs.size + 1) k
      refine .inr ⟨.inl k, c, e, ?_⟩
      have q := x.cell y c e
      rw [bindC_get ndP hp hu (by show scope.names.lookup y ≠ _; rw [k]; decide)] at q
      exact q
  · exact e0.hok.fresh (Nat.le_of_lt (x.above y c (PySem.mem_of_lookup h)))
  · unfold start
    show _ = N.length
    rw [List.length_append, List.length_map, List.length_replicate]
    omega

/-- THE RULE: a def (or a method) of the text, by its body. The body's reading t is chosen for each entry; it is run at the parameters' values -/
theorem fn_of {CX : CXT} {P : Program} {w : World} {K : PySem.W.Frag} {mg : Str → Option Value} {base : Heap} {k : Nat} {f : Addr} {name qual : Str} {params : Arguments} {body : List Stmt} {scope : Scope} {dV kV doc pm cdv ct oc : Value} {an od : Option Addr}
    {osl : Array (Option Value)} {N ps : List Str} {sp : Sp} (lk : K.lookup f = some ⟨oc, od, .func (PySem.W.fnOf name qual params body scope dV kV doc pm an cdv ct), osl⟩) (hcd : PySem.W.codeIn K cdv qual = true) (S : FnScope N ps scope)
    (len : ∀ vs H Q E, sp vs H Q E → vs.length = ps.length)
    (hbody : ∀ (A : Around) (outer : List Env) (s : Shared) (H : Hp) (vs : List V) (Q : VK) (E : XK), Room k (A.deeper (envOfC qual scope s.heap.objs.size f cdv)) → sp vs H Q E →
      ∃ t, PSs (cxOf CX P w K mg base N qual scope f cdv A outer s H E) body t ∧ t { nx := fun _ H' => Q .non H', rt := Q } (start N vs) H) :
    FnOk P w K mg base CX (k + 1) f (PySem.W.fnOf name qual params body scope dV kV doc pm an cdv ct) ps sp := by
  refine ⟨len, fun A outer s H args us vs Q E hr e0 hb r hsp => ?_⟩
  have hl := len _ _ _ _ hsp
  have KX : K.In s.heap := e0.mod.kin.keeps fun b o e => (e0.bs b o e).1
  have lim : s.heap.NoLimit := e0.mod.nolimit.keeps fun b o e => (e0.bs b o e).1
  have hkind : ∀ y ∈ ps.zip us, scope.names.lookup y.1 = some .local ∨ (scope.names.lookup y.1 = some .cell ∧ ((cellsFrom (s.heap.objs.size + 1) scope.names []).lookup y.1).isSome = true) := fun ⟨n, v⟩ hy => by
    rcases S.par n (List.of_mem_zip hy).1 with q | q
    · exact .inl q
    · exact .inr ⟨q, PySem.W.cellsFrom_some _ _ _ (.inl q)⟩
  refine codeAny_call_function hr.depth (KX _ _ lk) rfl S.co S.gen rfl (PySem.W.codeRec_of KX hcd) (hb _ _ _ _ ?_)
  refine wpAny_newFunctionEnv_cells S.kind hkind fun env he s1 x => ?_
  subst he
  refine ⟨lim.keeps x.toInCall.keep, codeAny_func ?_⟩
  obtain ⟨t, ht, hq⟩ := hbody A outer s H vs Q E (hr.deeper _) hsp
  have I : Inv (cxOf CX P w K mg base N qual scope f cdv A outer s H E) [] (start N vs) H s1 := inv_start S hr.hd e0 hl r x
  refine wpAny_mono (ht [] s1 (start N vs) H _ I hq) (fun fl s' hs => ?_) fun e s' hs => hs
  have fin : ∀ {σ' : St} {H' : Hp} {v : V} {u : Value}, Inv (cxOf CX P w K mg base N qual scope f cdv A outer s H E) [] σ' H' s' → RelV v u → Q v H' → CE outer P w H s Q u s' :=
    fun {σ' H' v u} J rv q => ⟨v, H', J.os, J.bare, J.base, J.hok, rv, q⟩
  cases fl with
  | ret u =>
    obtain ⟨v, σ', H', J, rv, q⟩ := hs
    exact fin J rv q
  | next =>
    obtain ⟨σ', H', J, q⟩ := hs
    exact fin (v := V.non) (u := Value.none) J rfl q
  | brk =>
    obtain ⟨_, _, _, q⟩ := hs
    exact False.elim q
  | cont =>
    obtain ⟨_, _, _, q⟩ := hs
    exact False.elim q
end L2

namespace L2
open PySem PySem.Spec PyProof.Rows
section
variable {X : Cx} {x : Str} {p pos : Pos} {e : Expr} {es : List Expr} {t : TA} {id T : String} {r : List V → Hp → VK → Prop}

def tCB (r : List V → Hp → VK → Prop) (t : TA) : TE := fun σ H Q => t σ H fun vs H1 => r vs H1 Q
/-- f(e, ..), f a built-in function -/
theorem pe_callB (hc : CallR X (.builtin id) r) (hg : Gl X x) (hm : X.mg x = none) (hv : bootBuiltins x = some (.builtin id)) (ha : PA X (e :: es) t) (hn : x ≠ "__name__" := by decide) (hdb : (x == ("__debug__" : Str)) = false := by decide)
    (he : starEach (e :: es) X.env = (false, eval e X.env) :: starEach es X.env := by rfl) (hpl : (backTo pos (starEach es X.env)).any (·.1) = false := by rfl) : PE X (.Call (.Name x p) (e :: es) [] pos) (tCB r t) := by
  intro pins s σ H Q I h
  refine wpAny_Call_Name_kw (ld_blt I hg hm hv ?_ hn hdb)
  exact PyProof.Rows.callWith_builtin1 (thn (ha pos pins s σ H _ I h) fun us s1 ⟨vs, H1, I1, r1, q1⟩ => hc pins s1 σ H1 vs us Q I1 r1 q1) he hpl
/-- T(e, ..), T a built-in type -/
theorem pe_callTy (hc : CallR X (.type T) r) (hg : Gl X x) (hm : X.mg x = none) (hv : bootBuiltins x = some (.type T)) (ha : PA X (e :: es) t) (hn : x ≠ "__name__" := by decide) (hdb : (x == ("__debug__" : Str)) = false := by decide)
    (he : starEach (e :: es) X.env = (false, eval e X.env) :: starEach es X.env := by rfl) (hpl : (backTo pos (starEach es X.env)).any (·.1) = false := by rfl) : PE X (.Call (.Name x p) (e :: es) [] pos) (tCB r t) := by
  intro pins s σ H Q I h
  refine wpAny_Call_Name_kw (ld_blt I hg hm hv ?_ hn hdb)
  exact PyProof.Rows.callWith_type1 (thn (ha pos pins s σ H _ I h) fun us s1 ⟨vs, H1, I1, r1, q1⟩ => hc pins s1 σ H1 vs us Q I1 r1 q1) he hpl
end
end L2

namespace HT
open PySem PyProof.Rows

section
open PySem.SeqAt
open PySem.AutoSeq1 (wpAny_loadPart')
open PySem.MeetsSeq PySem.MeetsSeq2 PySem.MeetsSeq3

end

section
variable {prog : Program} {w : World} {A : Around} {E : Value → Shared → Prop} {s : Shared}

/-- t + u, t not empty -/
theorem cat_tup {t b : Addr} {vs ws : List Value} {Q : Value → Shared → Prop} (ht : IsTup s.heap t vs.toArray) (hb : IsTup s.heap b ws.toArray) (hv : vs ≠ [])
    (h1 : ws = [] → Q (.ref t) s) (h2 : ws ≠ [] → Q (.ref s.heap.objs.size) { s with heap := s.heap.push { cls := .type "tuple", data := .seq (vs ++ ws).toArray } })
    (hsz : vs.length + ws.length ≤ sizeLine) : wpAny (model prog w) A (binaryOp .Add (.ref t) (.ref b)) Q E s := by
  obtain ⟨⟨cls, dd, data, sl⟩, ho, hc, n, hd⟩ := id ht
  obtain ⟨⟨cls2, dd2, data2, sl2⟩, ho2, hc2, n2, hd2⟩ := id hb
  simp only at hc hd hc2 hd2
  subst hc hd hc2 hd2
  have e : vs.toArray ++ ws.toArray = (vs ++ ws).toArray := by simp
  by_cases hw : ws = []
  · exact concat_meets ⟨_, ho, rfl⟩ ⟨_, ho2, rfl⟩ noFill_tuple_add seq_tuple_add PySem.F.slot_tuple_add PySem.F.entry_tuple_add (PySem.F.args_tuple_add_2 _ _)
      (tuple_addW1 t b vs.toArray ws.toArray n n2 dd dd2 sl sl2 (by simpa using hv) (by simp [hw])) ⟨ho, ho2, h1 hw⟩
  · refine concat_meets ⟨_, ho, rfl⟩ ⟨_, ho2, rfl⟩ noFill_tuple_add seq_tuple_add PySem.F.slot_tuple_add PySem.F.entry_tuple_add (PySem.F.args_tuple_add_2 _ _)
      (tuple_addW2 t b vs.toArray ws.toArray n n2 dd dd2 sl sl2 (by simpa using hv) (by simpa using hw) (by rw [List.size_toArray, List.size_toArray]; exact hsz)) ⟨ho, ho2, ?_⟩
    rw [e]
    exact h2 hw

/-! ### t[a:b], not the whole -/
/-- a slice's bound as a place among n (d where it is left out) -/
def sIx (n d : Nat) : Option Int → Nat
  | none => d
  | some v => if v < 0 then (v + (n : Int)).toNat else min v.toNat n
theorem sIx_nat (n d k : Nat) : sIx n d (some (k : Int)) = min k n := by
  show (if (k : Int) < 0 then ((k : Int) + (n : Int)).toNat else min (k : Int).toNat n) = min k n
  rw [if_neg (by omega), Int.toNat_natCast]
end
end HT

namespace L2
open PySem PySem.Spec PyProof.Rows

/-! ### the parts of a slice -/
abbrev TO := St → Hp → (Option Int → Hp → Prop) → Prop
/-- a slice's part (left out, or an int) -/
def PO (X : Cx) (e : Option Expr) (t : TO) : Prop :=
  ∀ (pins : List (Addr × Obj)) (s : Shared) (σ : St) (H : Hp) (Q : Option Int → Hp → Prop), Inv X pins σ H s → t σ H Q →
    wpAny (model X.prog X.w) X.A (evalPart e X.env) (fun u s' => ∃ o H', Inv X pins σ H' s' ∧ IsPart u o ∧ Q o H') X.xe s
def tNoPart : TO := fun _ H Q => Q none H
def tPart (t : TE) : TO := fun σ H Q => t σ H fun x H1 => ∃ i, x = .int i ∧ Q (some i) H1

theorem intsAre_of {ns : List Int} : ∀ {us : List Value}, Vals (ns.map V.int) us → IntsAre us ns := by
  induction ns with
  | nil => intro us r; rw [List.map_nil] at r; cases r; exact .nil
  | cons n ns ih =>
    intro us r
    rw [List.map_cons] at r
    cases r with
    | cons r1 r2 =>
      obtain ⟨t, e⟩ := r1
      subst e
      exact .cons n t (ih r2)

section
variable {X : Cx} {e : Expr} {te : TE} {lo hi : Option Expr} {tl th : TO} {pos p2 : Pos}

theorem po_none : PO X none tNoPart := by
  intro pins s σ H Q I h
  rw [evalPart_none]
  exact wpAny_pure ⟨none, H, I, .none, h⟩
theorem po_some (h : PE X e te) : PO X (some e) (tPart te) := by
  intro pins s σ H Q I hw
  rw [evalPart_some]
  refine thn (h pins s σ H _ I hw) fun u s1 ⟨x, H1, I1, r1, q1⟩ => ?_
  obtain ⟨i, rfl, q⟩ := q1
  obtain ⟨t, rfl⟩ := r1
  exact ⟨some i, H1, I1, .int i t, q⟩

/-- what a slice of a value is, by values: the slice object stands at sl -/
def SlR (X : Cx) (r : V → Option Int → Option Int → Hp → VK → Prop) : Prop :=
  ∀ (pins : List (Addr × Obj)) (s : Shared) (σ : St) (H : Hp) (x : V) (v vl vu : Value) (lo hi : Option Int) (sl : Addr) (Q : VK), Inv X pins σ H s → RelV x v → s.heap.IsSliceOf sl vl vu .none → IsPart vl lo → IsPart vu hi → r x lo hi H Q →
    ∃ T id, typeLookup (.type T) "__getitem__" = pure (some (.builtin id)) ∧ s.TypeIs v T ∧ wpAny (model X.prog X.w) X.A (getItem v (.ref sl)) (EP X pins σ Q) X.xe s
def tSl (r : V → Option Int → Option Int → Hp → VK → Prop) (te : TE) (tl th : TO) : TE := fun σ H Q => te σ H fun x H1 => tl σ H1 fun l H2 => th σ H2 fun u H3 => r x l u H3 Q
/-- a[lo:hi], any a -/
theorem pe_slice {r : V → Option Int → Option Int → Hp → VK → Prop} (hr : SlR X r) (he : PE X e te) (hl : PO X lo tl) (hu : PO X hi th) : PE X (.Subscript e (.Slice lo hi none p2) pos) (tSl r te tl th) := by
  intro pins s σ H Q I h
  refine Subscript_ (thn (he pins s σ H _ I h) fun v s1 ⟨x, H1, I1, r1, q1⟩ => ?_)
  refine wpAny_Slice (thn (hl pins s1 σ H1 _ I1 q1) fun vl s2 ⟨l, H2, I2, pl, q2⟩ => thn (hu pins s2 σ H2 _ I2 q2) fun vu s3 ⟨u, H3, I3, pu, q3⟩ => ?_)
  rw [evalPart_none]
  refine wpAny_pure ?_
  have I4 : Inv X pins σ H3 { s3 with heap := s3.heap.push { cls := .type "slice", data := .fields #[vl, vu, .none] } } := I3.kept (t' := s3.toks) fun b ob q => Heap.get?_push_of_some _ q
  obtain ⟨T, id, hT, ht, hg⟩ := hr pins { s3 with heap := s3.heap.push { cls := .type "slice", data := .fields #[vl, vu, .none] } } σ H3 x v vl vu l u s3.heap.objs.size Q I4 r1 (Heap.IsSliceOf.new ..) pl pu q3
  show wpAny (model X.prog X.w) X.A (subscriptTail e (.Slice lo hi none p2) v (.ref s3.heap.objs.size)) (EP X pins σ Q) X.xe { s3 with heap := s3.heap.push { cls := .type "slice", data := .fields #[vl, vu, .none] } }
  exact tail_any (ops := [.ref s3.heap.objs.size, v]) ht hT hg (by with_unfolding_all rfl)

/-- the items of xs[lo:hi] -/
def cutV (xs : List V) (lo hi : Option Int) : List V := (xs.drop (HT.sIx xs.length 0 lo)).take (HT.sIx xs.length xs.length hi - HT.sIx xs.length 0 lo)
theorem cutV_length (xs : List V) (lo hi : Option Int) : (cutV xs lo hi).length ≤ xs.length := by
  unfold cutV
  rw [List.length_take, List.length_drop]
  omega
/-! ### t < u, t + u -/
/-- t + u, t not empty: u empty gives t itself -/
def rCatT (K : PySem.W.Frag) : R2 := fun x y H Q => ∃ a b xs ys, x = .ref a ∧ y = .ref b ∧ SqT K H a xs ∧ SqT K H b ys ∧ xs ≠ [] ∧ xs.length + ys.length ≤ sizeLine ∧
  (ys = [] → Q (.ref a) H) ∧ (ys ≠ [] → ∀ p, H p = none → Q (.ref p) (upd H p (.tup (xs ++ ys))))
theorem Vals.nil_iff {xs : List V} {us : List Value} (r : Vals xs us) : us = [] ↔ xs = [] := by
  cases r with
  | nil => simp
  | cons _ _ => simp
theorem op_catT : OpR X (binaryOp .Add) (rCatT X.K) := by
  intro pins s σ H x y v u Q I rx ry h
  obtain ⟨a, b, xs, ys, rfl, rfl, ha, hb, hx, hz, q1, q2⟩ := h
  cases rx
  cases ry
  obtain ⟨its, r1, p1, _⟩ := I.tuple ha
  obtain ⟨its2, r2, p2, _⟩ := I.tuple hb
  refine HT.cat_tup p1 p2 (fun z => hx (r1.nil_iff.mp z)) (fun z => ⟨.ref a, H, I, rfl, q1 (r2.nil_iff.mp z)⟩) (fun z => ?_) (by rw [← r1.length, ← r2.length]; exact hz)
  refine ⟨.ref s.heap.objs.size, _, I.laid (t' := s.toks) (o := .tup (xs ++ ys)) (fun b ob q => Heap.get?_push_of_some _ q) (Nat.le_refl _) ?_, rfl, q2 (fun w => z (r2.nil_iff.mpr w)) _ (I.hok.fresh (Nat.le_refl _))⟩
  exact ⟨by rw [List.length_append]; exact hz, _, r1.append r2, IsTup.new _ _⟩
end
end L2

namespace L2
open PySem PySem.Spec PyProof.Rows

/-! ### places -/
/-- the place that an index of any sign means -/
def ixN (n : Nat) (i : Int) : Option Nat := if 0 ≤ i then (if i < n then some i.toNat else none) else if -(n : Int) ≤ i then some (i + n).toNat else none
def atI {α : Type} (xs : List α) (i : Int) : Option α := (ixN xs.length i).bind fun j => xs[j]?
theorem ixN_seq {n : Nat} {i : Int} {j : Nat} (h : ixN n i = some j) : seqIndex? i n = some j ∧ j < n ∧ -(n : Int) ≤ i ∧ i < n := by
  unfold ixN at h
  by_cases h0 : 0 ≤ i
  · rw [if_pos h0] at h
    by_cases h1 : i < n
    · rw [if_pos h1] at h
      have e : i.toNat = j := Option.some.inj h
      exact ⟨by rw [seqIndex_of h0 h1, e], by omega, by omega, h1⟩
    · rw [if_neg h1] at h; cases h
  · rw [if_neg h0] at h
    by_cases h1 : -(n : Int) ≤ i
    · rw [if_pos h1] at h
      have e : (i + n).toNat = j := Option.some.inj h
      exact ⟨by rw [seqIndex_neg (by omega) h1, e], by omega, h1, by omega⟩
    · rw [if_neg h1] at h; cases h
theorem atI_get {α : Type} {xs : List α} {i : Int} {v : α} (h : atI xs i = some v) : ∃ j, seqIndex? i xs.length = some j ∧ xs[j]? = some v ∧ j < xs.length ∧ -(xs.length : Int) ≤ i ∧ i < xs.length := by
  unfold atI at h
  cases e : ixN xs.length i with
  | none => rw [e] at h; cases h
  | some j =>
    rw [e] at h
    obtain ⟨h1, h2, h3, h4⟩ := ixN_seq e
    exact ⟨j, h1, h, h2, h3, h4⟩
theorem atI_nat {α : Type} {xs : List α} {j : Nat} {v : α} (h : xs[j]? = some v) : atI xs (j : Int) = some v := by
  have hj : j < xs.length := (List.getElem?_eq_some_iff.mp h).1
  have e : ixN xs.length (j : Int) = some j := by
    unfold ixN
    rw [if_pos (by omega), if_pos (by omega)]; simp
  unfold atI; rw [e]; exact h
theorem atI_last {α : Type} (xs : List α) (v : α) : atI (xs ++ [v]) (-1) = some v := by
  have hl : (xs ++ [v]).length = xs.length + 1 := by simp
  have e : ixN (xs ++ [v]).length (-1) = some xs.length := by
    unfold ixN
    rw [hl, if_neg (by decide), if_pos (by omega)]
    congr 1
    omega
  unfold atI
  rw [e]
  show (xs ++ [v])[xs.length]? = some v
  simp

/-! ### what may be subscripted -/
/-- what stands as an index of a plain subscript -/
def PlainIx (b : Expr) : Prop := ∀ o i, subscripted b false o i = operate [o, i] (getItem o i)
/-- a subscript by values -/
def IxR (X : Cx) (r : R2) : Prop :=
  ∀ (value slice : Expr) (pins : List (Addr × Obj)) (s : Shared) (σ : St) (H : Hp) (x y : V) (v u : Value) (Q : VK), Inv X pins σ H s → RelV x v → RelV y u → r x y H Q →
    subscripted slice false v u = operate [v, u] (getItem v u) → wpAny (model X.prog X.w) X.A (subscriptTail value slice v u) (EP X pins σ Q) X.xe s
/-- a call of a builtin's method by values: the receiver, the arguments -/
def MtR (X : Cx) (id : String) (r : V → List V → Hp → VK → Prop) : Prop :=
  ∀ (pins : List (Addr × Obj)) (s : Shared) (σ : St) (H : Hp) (x : V) (xs : List V) (v : Value) (us : List Value) (Q : VK), Inv X pins σ H s → RelV x v → Vals xs us → r x xs H Q →
    wpAny (model X.prog X.w) X.A (call (.builtin id) (v :: us)) (EP X pins σ Q) X.xe s
section
variable {X : Cx} {a b : Expr} {ta tb : TE} {pos : Pos}
/-- a[b] -/
theorem pe_ix {r : R2} (hr : IxR X r) (ha : PE X a ta) (hb : PE X b tb) (hs : PlainIx b) : PE X (.Subscript a b pos) (tOp r ta tb) := by
  intro pins s σ H Q I h
  exact Subscript_ (binT ha hb I h fun v u s2 x y H2 I2 rx ry q => hr a b pins s2 σ H2 x y v u Q I2 rx ry q (hs _ _))

def rIxL (K : PySem.W.Frag) : R2 := fun x y H Q => ∃ p xs i v, x = .ref p ∧ y = .int i ∧ SqL K H p xs ∧ atI xs i = some v ∧ Q v H
def rIxT (K : PySem.W.Frag) : R2 := fun x y H Q => ∃ p xs i v, x = .ref p ∧ y = .int i ∧ SqT K H p xs ∧ atI xs i = some v ∧ Q v H
theorem ix_list : IxR X (rIxL X.K) := by
  intro value slice pins s σ H x y v u Q I rx ry h hs
  obtain ⟨p, xs, i, z, rfl, rfl, hq, he, q⟩ := h
  cases rx
  obtain ⟨t, rfl⟩ := ry
  obtain ⟨its, r, pl, hz⟩ := I.list hq
  obtain ⟨j, h1, h2, h3, h4, h5⟩ := atI_get he
  obtain ⟨w, ew, rw'⟩ := r.get h2
  have hl := r.length
  have hn := line63
  have fin : EP X pins σ Q w s := ⟨z, H, I, rw', q⟩
  by_cases h0 : 0 ≤ i
  · have hj : i.toNat = j := by
      rw [seqIndex_of h0 h5] at h1
      exact Option.some.inj h1
    exact item_listR pl.isList h0 (by omega) (by rw [hj]; simpa using ew) fin hs
  · have hj : (i + (its.toArray.size : Int)).toNat = j := by
      rw [seqIndex_neg (by omega) h4] at h1
      rw [List.size_toArray, ← hl]
      exact Option.some.inj h1
    exact subscriptTail_builtinR (x := w) pl.isList.typeIs slot_list_getitem.lookup
      (wpAny_getItem_list_neg (Q := fun r s' => r = w ∧ EP X pins σ Q r s') pl.isList (by omega) (by rw [List.size_toArray] <;> omega) (by omega) (by rw [hj]; simpa using ew) ⟨rfl, fin⟩) hs
theorem ix_tup : IxR X (rIxT X.K) := by
  intro value slice pins s σ H x y v u Q I rx ry h hs
  obtain ⟨p, xs, i, z, rfl, rfl, hq, he, q⟩ := h
  cases rx
  obtain ⟨t, rfl⟩ := ry
  obtain ⟨its, r, pl, hz⟩ := I.tuple hq
  obtain ⟨j, h1, h2, h3, h4, h5⟩ := atI_get he
  obtain ⟨w, ew, rw'⟩ := r.get h2
  have hl := r.length
  have hn := line63
  have fin : EP X pins σ Q w s := ⟨z, H, I, rw', q⟩
  exact subscriptTail_builtinR (x := w) pl.typeIs slot_tuple_getitem.lookup
    (getItem_tuple (j := j) (Q := fun r s' => r = w ∧ EP X pins σ Q r s') pl (by omega) (by omega) (by rw [List.size_toArray, ← hl]; exact h1) (by simpa using ew) ⟨rfl, fin⟩) hs
/-! ### xs[i] = v, any sign -/
/-- the list's object behind a store -/
theorem mapSeq_set (its : List Value) (n j : Nat) (u : Value) : Obj.mapSeq (·.setIfInBounds j u) { cls := .type "list", data := .seq its.toArray n } = { cls := .type "list", data := .seq (its.set j u).toArray n } := by
  simp [Obj.mapSeq]
theorem Inv.lst {pins : List (Addr × Obj)} {σ : St} {H : Hp} {s : Shared} {p : Addr} {xs : List V} (I : Inv X pins σ H s) (h : H p = some (.lst xs)) :
    ∃ (its : List Value) (n : Nat), Vals xs its ∧ s.heap.get? p = some { cls := .type "list", data := .seq its.toArray n } ∧ xs.length ≤ sizeLine := by
  obtain ⟨z, its, n, r, e⟩ := I.hok p _ h
  exact ⟨its, n, r, e, z⟩
/-- the list at p is written by an update of its object -/
theorem Inv.lstUpd {pins : List (Addr × Obj)} {σ : St} {H : Hp} {s : Shared} {p : Addr} {xs ys : List V} {its its' : List Value} {n n' : Nat} {f : Obj → Obj} (I : Inv X pins σ H s) (h : H p = some (.lst xs))
    (ho : s.heap.get? p = some { cls := .type "list", data := .seq its.toArray n }) (hf : f { cls := .type "list", data := .seq its.toArray n } = { cls := .type "list", data := .seq its'.toArray n' }) (r : Vals ys its') (hz : ys.length ≤ sizeLine) (t : Nat) :
    Inv X pins σ (upd H p (.lst ys)) { s with heap := s.heap.update p f, toks := t } := by
  have e : (s.heap.update p f).get? p = some { cls := .type "list", data := .seq its'.toArray n' } := by
    rw [Heap.get?_update_self f ho (by rw [hf] <;> rfl), hf]
  refine I.write (x := p) (e := p) (by rw [h]; trivial) (.inl rfl) (fun b u hb q => (Heap.get?_update_other _ _ (Ne.symm hb)).trans q) ⟨_, e⟩ ?_
  exact ⟨hz, its', n', r, e⟩
def rSetL : V → V → V → Hp → (Hp → Prop) → Prop := fun o i v H Q => ∃ p xs k j, o = .ref p ∧ i = .int k ∧ H p = some (.lst xs) ∧ ixN xs.length k = some j ∧ Q (upd H p (.lst (xs.set j v)))
theorem set_list : PSet X rSetL := by
  intro pins s σ H o i v ov iv u Q I ro ri rv h
  obtain ⟨p, xs, k, j, rfl, rfl, hp, hj, q⟩ := h
  cases ro
  obtain ⟨t, rfl⟩ := ri
  obtain ⟨its, n, r, ho, hz⟩ := I.lst hp
  obtain ⟨h1, h2, h3, h4⟩ := ixN_seq hj
  have hl := r.length
  have hn := line63
  have I' : Inv X pins σ (upd H p (.lst (xs.set j v))) { s with heap := s.heap.update p (Obj.mapSeq (·.setIfInBounds j u)) } :=
    I.lstUpd hp ho (mapSeq_set its n j u) (r.set rv j) (by rw [List.length_set]; exact hz) s.toks
  by_cases h0 : 0 ≤ k
  · have hk : k.toNat = j := by
      rw [seqIndex_of h0 h4] at h1
      exact Option.some.inj h1
    exact PySem.W.ki_setAt ho h0 (by omega) (by rw [List.size_toArray, ← hl]; exact h4) (by rw [hk]; exact ⟨_, I', q⟩)
  · have hk : (k + (its.toArray.size : Int)).toNat = j := by
      rw [seqIndex_neg (by omega) h3] at h1
      rw [List.size_toArray, ← hl]
      exact Option.some.inj h1
    exact PySem.W.ki_setBack ho (by omega) (by rw [List.size_toArray, ← hl]; exact h3) (by omega) (by rw [hk]; exact ⟨_, I', q⟩)

/-! ### slices -/
theorem slice_bounds (lo hi : Option Int) (n : Nat) : (sliceBounds lo hi none n).1 = ((HT.sIx n 0 lo : Nat) : Int) ∧ (sliceBounds lo hi none n).2.1 = ((HT.sIx n n hi : Nat) : Int) ∧ (sliceBounds lo hi none n).2.2 = 1 := by
  refine ⟨?_, ?_, rfl⟩
  · cases lo with
    | none => simp [sliceBounds, HT.sIx]
    | some i =>
      simp only [sliceBounds, HT.sIx, Option.getD_none, show (1 : Int) > 0 by decide, if_true]
      by_cases h : i < 0
      · simp only [h, if_true] <;> omega
      · simp only [h, if_false] <;> omega
  · cases hi with
    | none => simp [sliceBounds, HT.sIx]
    | some i =>
      simp only [sliceBounds, HT.sIx, Option.getD_none, show (1 : Int) > 0 by decide, if_true]
      by_cases h : i < 0
      · simp only [h, if_true] <;> omega
      · simp only [h, if_false] <;> omega
theorem slicePick_cut (its : List Value) (lo hi : Option Int) : slicePick its.toArray lo hi none = ((its.drop (HT.sIx its.length 0 lo)).take (HT.sIx its.length its.length hi - HT.sIx its.length 0 lo)).toArray := by
  obtain ⟨h1, h2, h3⟩ := slice_bounds lo hi its.toArray.size
  unfold slicePick
  rw [h1, h2, h3]
  simp only [sliceRange_one, pick_run, List.size_toArray] <;> rfl
/-- xs[lo:hi] of a list: a new list -/
def rSlL (K : PySem.W.Frag) : V → Option Int → Option Int → Hp → VK → Prop := fun x lo hi H Q => ∃ a xs, x = .ref a ∧ SqL K H a xs ∧ ∀ p, H p = none → Q (.ref p) (upd H p (.lst (cutV xs lo hi)))
theorem sl_list : SlR X (rSlL X.K) := by
  intro pins s σ H x v vl vu lo hi sl Q I rx hs pl pu h
  obtain ⟨a, xs, rfl, hx, q⟩ := h
  cases rx
  obtain ⟨its, r, ht, hz⟩ := I.list hx
  have hlen := r.length
  refine ⟨"list", _, slot_list_getitem.lookup, ht.isList.typeIs, ?_⟩
  refine wpAny_getItem_list_slice ht.isList hs pl pu .none (by simp) ?_ (by rw [List.size_toArray] <;> omega)
  rw [slicePick_cut, ← hlen]
  refine ⟨.ref s.heap.objs.size, _, I.laid (t' := s.toks) (o := .lst (cutV xs lo hi)) (fun b ob q => Heap.get?_push_of_some _ q) (Nat.le_refl _) ?_, rfl, q _ (I.hok.fresh (Nat.le_refl _))⟩
  exact ⟨Nat.le_trans (cutV_length xs lo hi) hz, _, 0, (r.drop (HT.sIx xs.length 0 lo)).take (HT.sIx xs.length xs.length hi - HT.sIx xs.length 0 lo), Heap.get?_push_size _ rfl⟩

/-! ### in, not in: flat items -/
def flatV : V → Bool
  | .non => true
  | .bl _ => true
  | .int _ => true
  | .str _ => true
  | _ => false
/-- == of flat values -/
def eqV : V → V → Bool
  | .non, .non => true
  | .bl a, .bl b => a == b
  | .bl a, .int b => (if a then 1 else 0) == b
  | .int a, .bl b => a == (if b then 1 else 0)
  | .int a, .int b => a == b
  | .str a, .str b => a == b
  | _, _ => false
theorem eqAt_V {A : Around} {s : Shared} {y x : V} {u v : Value} (ry : RelV y u) (rx : RelV x v) (fy : flatV y = true) (fx : flatV x = true) : SeqAt.EqAt A s u v (eqV y x) := by
  cases y with
  | non =>
    cases ry
    cases x with
    | non => cases rx; exact SeqAt.EqAt.same _
    | bl b => cases rx; exact SeqAt.EqAt.none_bool b
    | int b => obtain ⟨t, rfl⟩ := rx; exact SeqAt.EqAt.none_int b t
    | str b => obtain ⟨t, rfl⟩ := rx; exact SeqAt.EqAt.none_str b t
    | _ => exact absurd (show false = true from fx) Bool.false_ne_true
  | bl a =>
    cases ry
    cases x with
    | non => cases rx; exact SeqAt.EqAt.bool_none a
    | bl b => cases rx; exact SeqAt.EqAt.bool_bool a b
    | int b => obtain ⟨t, rfl⟩ := rx; exact SeqAt.EqAt.bool_int a b t
    | str b => obtain ⟨t, rfl⟩ := rx; exact SeqAt.EqAt.bool_str a b t
    | _ => exact absurd (show false = true from fx) Bool.false_ne_true
  | int a =>
    obtain ⟨t', rfl⟩ := ry
    cases x with
    | non => cases rx; exact SeqAt.EqAt.int_none a t'
    | bl b => cases rx; exact SeqAt.EqAt.int_bool a t' b
    | int b => obtain ⟨t, rfl⟩ := rx; exact SeqAt.EqAt.int_int a t' b t
    | str b => obtain ⟨t, rfl⟩ := rx; exact SeqAt.EqAt.int_str a t' b t
    | _ => exact absurd (show false = true from fx) Bool.false_ne_true
  | str a =>
    obtain ⟨t', rfl⟩ := ry
    cases x with
    | non => cases rx; exact SeqAt.EqAt.str_none a t'
    | bl b => cases rx; exact SeqAt.EqAt.str_bool a t' b
    | int b => obtain ⟨t, rfl⟩ := rx; exact SeqAt.EqAt.str_int a t' b t
    | str b => obtain ⟨t, rfl⟩ := rx; exact SeqAt.EqAt.str_str a t' b t
    | _ => exact absurd (show false = true from fx) Bool.false_ne_true
  | _ => exact absurd (show false = true from fy) Bool.false_ne_true
/-- the items' answers, read off the values (a value's own answer does not lean on its token) -/
def eqU (x : V) (u : Value) : Bool := match u with
  | .none => eqV .non x
  | .bool b => eqV (.bl b) x
  | .int i _ => eqV (.int i) x
  | .str z _ => eqV (.str z) x
  | _ => false
theorem eqU_of {x y : V} {u : Value} (r : RelV y u) (f : flatV y = true) : eqU x u = eqV y x := by
  cases y with
  | non => cases r; rfl
  | bl b => cases r; rfl
  | int i => obtain ⟨t, rfl⟩ := r; rfl
  | str z => obtain ⟨t, rfl⟩ := r; rfl
  | _ => exact absurd (show false = true from f) Bool.false_ne_true
theorem any_eqU {x : V} : ∀ {xs : List V} {us : List Value}, Vals xs us → xs.all flatV = true → us.any (eqU x) = xs.any fun y => eqV y x
  | _, _, .nil, _ => rfl
  | y :: xs, u :: us, .cons r t, f => by
    rw [List.all_cons, Bool.and_eq_true] at f
    rw [List.any_cons, List.any_cons, eqU_of r f.1, any_eqU t f.2]
theorem mem_eqAt {A : Around} {s : Shared} {x : V} {v : Value} (rx : RelV x v) (fx : flatV x = true) : ∀ {xs : List V} {us : List Value}, Vals xs us → xs.all flatV = true → ∀ u ∈ us, SeqAt.EqAt A s u v (eqU x u)
  | _, _, .nil, _ => fun u hu => by cases hu
  | y :: xs, u :: us, .cons r t, f => fun u' hu => by
    rw [List.all_cons, Bool.and_eq_true] at f
    rcases List.mem_cons.mp hu with rfl | hu
    · rw [eqU_of r f.1]; exact eqAt_V r rx f.1 fx
    · exact mem_eqAt rx fx t f.2 u' hu
def inV (x : V) (xs : List V) : Bool := xs.any fun y => eqV y x
/-- x in a list or tuple of flat items -/
def rIn (K : PySem.W.Frag) (neg : Bool) : R2 := fun x y H Q => ∃ p xs, y = .ref p ∧ (SqL K H p xs ∨ SqT K H p xs) ∧ flatV x = true ∧ xs.all flatV = true ∧ Q (.bl (if neg then !inV x xs else inV x xs)) H
theorem op_in_seq : OpR X (compareOp .In) (rIn X.K false) := by
  intro pins s σ H x y v u Q I rx ry h
  obtain ⟨p, xs, rfl, hq, fx, fs, q⟩ := h
  cases ry
  rcases hq with hq | hq
  · obtain ⟨its, r, pl, hz⟩ := I.list hq
    refine SeqAt.in_listAt (eqU x) pl.isList (fun w hw => mem_eqAt rx fx r fs w (by simpa using hw)) ⟨.bl _, H, I, rfl, ?_⟩
    rw [show its.toArray.any (eqU x) = its.any (eqU x) by simp, any_eqU r fs]
    exact q
  · obtain ⟨its, r, pl, hz⟩ := I.tuple hq
    refine SeqAt.in_tupleAt (eqU x) pl (fun w hw => mem_eqAt rx fx r fs w (by simpa using hw)) ⟨.bl _, H, I, rfl, ?_⟩
    rw [show its.toArray.any (eqU x) = its.any (eqU x) by simp, any_eqU r fs]
    exact q
/-! ### len, list(x), tuple(x) of any list or tuple that is read -/
theorem call_len_seq : CallR X (.builtin "len") (fun xs H Q => ∃ p ys, xs = [.ref p] ∧ (SqL X.K H p ys ∨ SqT X.K H p ys) ∧ Q (.int ys.length) H) := by
  intro pins s σ H xs us Q I r h
  obtain ⟨p, ys, rfl, hq, q⟩ := h
  obtain ⟨u, rfl, rx⟩ := vals1 r
  cases rx
  have hn := line63
  rcases hq with hq | hq
  · obtain ⟨its, r', pl, hz⟩ := I.list hq
    have hlen := r'.length
    exact Calls.call_len_list pl.isList (by simp only [List.size_toArray] <;> omega) ⟨.int ys.length, H, I.tok _, ⟨s.toks + 1, by rw [List.size_toArray, hlen]⟩, q⟩
  · obtain ⟨its, r', pl, hz⟩ := I.tuple hq
    have hlen := r'.length
    exact len_tuple pl (by simp only [List.size_toArray] <;> omega) ⟨.int ys.length, H, I.tok _, ⟨s.toks + 1, by rw [List.size_toArray, hlen]⟩, q⟩
theorem call_list_of : CallR X (.type "list") (fun xs H Q => ∃ p ys, xs = [.ref p] ∧ (SqL X.K H p ys ∨ SqT X.K H p ys) ∧ ∀ l, H l = none → Q (.ref l) (upd H l (.lst ys))) := by
  intro pins s σ H xs us Q I r h
  obtain ⟨p, ys, rfl, hq, q⟩ := h
  obtain ⟨u, rfl, rx⟩ := vals1 r
  cases rx
  have fin : ∀ (its : List Value), Vals ys its → ys.length ≤ sizeLine → ∀ (h' : Heap) (c' : Nat), (∀ b o', s.heap.get? b = some o' → h'.get? b = some o') →
      h'.get? s.heap.objs.size = some { cls := .type "list", dict := none, data := .seq its.toArray c', slots := #[] } → EP X pins σ Q (.ref s.heap.objs.size) { s with heap := h' } := fun its r' hz h' c' kp e =>
    ⟨.ref s.heap.objs.size, _, I.laid (t' := s.toks) kp (Nat.le_refl _) (show ObjOk X.prog X.w _ h' _ (.lst ys) from ⟨hz, its, c', r', e⟩), rfl, q _ (I.hok.fresh (Nat.le_refl _))⟩
  rcases hq with hq | hq
  · obtain ⟨its, r', pl, hz⟩ := I.list hq
    have hlen := r'.length
    obtain ⟨o, ho, hc, n, hd⟩ := pl.isList
    exact call_list_seq p (.inl rfl) ho hc hd (fun h' c' kp e => fin its r' hz h' c' kp e) (by simp only [List.size_toArray] <;> omega)
  · obtain ⟨its, r', pl, hz⟩ := I.tuple hq
    have hlen := r'.length
    obtain ⟨o, ho, hc, n, hd⟩ := pl
    exact call_list_seq p (.inr rfl) ho hc hd (fun h' c' kp e => fin its r' hz h' c' kp e) (by simp only [List.size_toArray] <;> omega)
theorem call_tuple_of : CallR X (.type "tuple") (fun xs H Q => ∃ p ys, xs = [.ref p] ∧ ((SqL X.K H p ys ∧ ∀ l, H l = none → Q (.ref l) (upd H l (.tup ys))) ∨ (SqT X.K H p ys ∧ Q (.ref p) H))) := by
  intro pins s σ H xs us Q I r h
  obtain ⟨p, ys, rfl, h⟩ := h
  obtain ⟨u, rfl, rx⟩ := vals1 r
  cases rx
  rcases h with ⟨hq, q⟩ | ⟨hq, q⟩
  · obtain ⟨its, r', pl, hz⟩ := I.list hq
    have hlen := r'.length
    refine call_tuple_list pl.isList (fun h' kp => ?_) (by simp only [List.size_toArray] <;> omega)
    have I1 : Inv X pins σ H { s with heap := h' } := I.kept (t' := s.toks) kp
    have I2 : Inv X pins σ (upd H h'.objs.size (.tup ys)) { s with heap := h'.push { cls := .type "tuple", data := .seq its.toArray } } :=
      I1.laid (t' := s.toks) (fun b o e => Heap.get?_push_of_some _ e) (Nat.le_refl _) (show ObjOk X.prog X.w _ _ _ (.tup ys) from ⟨hz, its, r', IsTup.new _ _⟩)
    exact ⟨.ref h'.objs.size, _, I2, rfl, q _ (I1.hok.fresh (Nat.le_refl _))⟩
  · obtain ⟨its, r', pl, hz⟩ := I.tuple hq
    exact call_tuple_same pl ⟨.ref p, H, I, rfl, q⟩

/-! ### the call of a builtin's method: o.m(..) -/
/-- the value is of that builtin type -/
def tyV (K : PySem.W.Frag) (T : String) (x : V) (H : Hp) : Prop := match x with
  | .str _ => T = "str"
  | .int _ => T = "int"
  | .ref p => (T = "list" ∧ ∃ xs, SqL K H p xs) ∨ (T = "tuple" ∧ ∃ o, K.lookup p = some o ∧ o.cls = .type "tuple" ∧ o.dict = none) ∨
      (T = "dict" ∧ ((∃ kvs, H p = some (.dK kvs)) ∨ ∃ kvs, H p = some (.dT kvs))) ∨ (T = "set" ∧ ∃ S n, H p = some (.set S n))
  | _ => False
theorem tyV_is {pins : List (Addr × Obj)} {σ : St} {H : Hp} {s : Shared} {T : String} {x : V} {v : Value} (I : Inv X pins σ H s) (r : RelV x v) (ty : tyV X.K T x H) :
    s.TypeIs v T ∧ ∀ a, v = .ref a → ∃ ob, s.heap.get? a = some ob ∧ ob.dict = none := by
  cases x with
  | str z =>
    obtain ⟨t, rfl⟩ := r
    cases (show T = "str" from ty)
    exact ⟨typeIs_str s z t, fun _ e => nomatch e⟩
  | int i =>
    obtain ⟨t, rfl⟩ := r
    cases (show T = "int" from ty)
    exact ⟨typeIs_int s i t, fun _ e => nomatch e⟩
  | ref p =>
    cases r
    rcases ty with ⟨rfl, xs, hq⟩ | ⟨rfl, o, hk, hc, hd⟩ | ⟨rfl, hk⟩ | ⟨rfl, S, n, hk⟩
    · obtain ⟨its, _, pl, _⟩ := I.list hq
      refine ⟨pl.isList.typeIs, fun a e => ?_⟩
      cases e
      obtain ⟨o, n, e, c, hd, _⟩ := pl
      exact ⟨o, e, hd⟩
    · refine ⟨⟨o, I.kIn p o hk, hc⟩, fun a e => ?_⟩
      cases e
      exact ⟨o, I.kIn _ o hk, hd⟩
    · have z : ∃ o, s.heap.get? p = some o ∧ o.ExactDict := by
        rcases hk with ⟨kvs, hk⟩ | ⟨kvs, hk⟩
        · obtain ⟨_, _, _, _, o, _, _, e, ex, _⟩ := I.hok p _ hk
          exact ⟨o, e, ex⟩
        · obtain ⟨_, _, _, _, o, _, _, e, ex, _⟩ := I.hok p _ hk
          exact ⟨o, e, ex⟩
      obtain ⟨o, e, ex⟩ := z
      refine ⟨⟨o, e, ex.1⟩, fun a e2 => ?_⟩
      cases e2
      exact ⟨o, e, ex.2.1⟩
    · obtain ⟨o, _, _, _, e, ex, _⟩ := I.hok p _ hk
      refine ⟨⟨o, e, ex.1⟩, fun a e2 => ?_⟩
      cases e2
      exact ⟨o, e, ex.2.1⟩
  | _ => exact False.elim ty
def tBM (K : PySem.W.Frag) (T : String) (r : V → List V → Hp → VK → Prop) (to : TE) (t : TA) : TE := fun σ H Q => to σ H fun x H1 => tyV K T x H1 ∧ t σ H1 fun xs H2 => r x xs H2 Q
variable {o e : Expr} {es : List Expr} {to : TE} {t : TA} {name : Str} {apos cpos : Pos} {T id : String} {r : V → List V → Hp → VK → Prop}
theorem pe_bm (pa : PlainAttrs T) (slot : Slot T name id) (hty : typeOf (.builtin id) = pure (.type "method_descriptor")) (hm : MtR X id r) (ho : PE X o to) (ha : PA X (e :: es) t)
    (hbase : attributeBase o name X.env (eval o X.env) = eval o X.env := by rfl)
    (hfew : ((backTo cpos (starEach (e :: es) X.env)).all (fun x => !x.1) && (backToKw cpos (keywordEach [] X.env)).all (fun x => x.1.isSome)
      && decide ((e :: es).length + ([] : List Keyword).length + (if ([] : List Keyword).isEmpty then 0 else 1) < 30)) = true := by rfl)
    (hline : (apos.endLine == cpos.line) = true := by rfl) (hs : starEach (e :: es) X.env = (false, eval e X.env) :: starEach es X.env := by rfl) (hplain : (backTo cpos (starEach es X.env)).any (·.1) = false := by rfl) :
    PE X (.Call (.Attribute o name apos) (e :: es) [] cpos) (tBM X.K T r to t) := by
  intro pins s σ H Q I h
  refine wpAny_Call_method_late hbase hfew hline rfl (thn (ho pins s σ H _ I h) fun v s1 ⟨x, H1, I1, r1, ty, q1⟩ => ?_)
  obtain ⟨h1, h2⟩ := tyV_is I1 r1 ty
  refine ⟨T, id, pa, slot, hty, h1, h2, ?_⟩
  have hA := ha cpos pins s1 σ H1 _ I1 q1
  rw [hs] at hA ⊢
  refine Calls.callWith_builtin (by show (false || (backTo cpos (starEach es X.env)).any (·.1)) = false; rw [hplain] <;> rfl) (Calls.evalArgs_plain ?_)
  exact thn hA fun us s2 ⟨vs, H2, I2, r2, q2⟩ => hm pins s2 σ H2 x vs v us Q I2 r1 r2 q2
/- xs.append(e), list.index on a module's tuple .. are MtR facts of 06m -/
end
end L2

namespace L2
open PySem PySem.Spec PyProof.Rows

def MtM (X : Cx) (id : String) (r : V → List V → Hp → VK → Prop) : Prop :=
  ∀ (pins : List (Addr × Obj)) (s : Shared) (σ : St) (H : Hp) (x : V) (xs : List V) (v : Value) (us : List Value) (Q : VK), Inv X pins σ H s → RelV x v → Vals xs us → r x xs H Q →
    wpAny (model X.prog X.w) X.A (call (.builtin id) (v :: us)) (EP X pins σ Q) X.xe s

/-! ### lists of values -/
theorem Vals.one : ∀ {x : V} {us : List Value}, Vals [x] us → ∃ u, us = [u] ∧ RelV x u
  | _, _, .cons r .nil => ⟨_, rfl, r⟩
section
variable {X : Cx} {pins : List (Addr × Obj)} {σ : St} {H : Hp} {s : Shared} {l b : Addr} {xs ys zs : List V}

/-! ### the two steps: a tracked list is rewritten, a new list is laid -/
theorem Inv.lset {its its' : List Value} {n : Nat} {f : Array Value → Array Value} {t' : Nat} (I : Inv X pins σ H s) (hH : H l = some (.lst xs))
    (e : s.heap.get? l = some { cls := .type "list", data := .seq its.toArray n }) (hf : f its.toArray = its'.toArray) (hv : Vals ys its') (hz : ys.length ≤ sizeLine) :
    Inv X pins σ (upd H l (.lst ys)) { s with heap := s.heap.update l (Obj.mapSeq f), toks := t' } := by
  have q := PySem.IsL.update e f
  rw [hf] at q
  refine I.write (x := l) (e := l) (by rw [hH]; exact trivial) (.inl rfl) (fun b' u hb hu => (Heap.get?_update_other s.heap (Obj.mapSeq f) (Ne.symm hb)).trans hu) ⟨_, q⟩ ?_
  exact ⟨hz, its', _, hv, q⟩
theorem Inv.lnew {its : List Value} {t' : Nat} (I : Inv X pins σ H s) (hv : Vals ys its) (hz : ys.length ≤ sizeLine) :
    Inv X pins σ (upd H s.heap.objs.size (.lst ys)) { s with heap := s.heap.push { cls := .type "list", data := .seq its.toArray }, toks := t' } :=
  I.laid (fun _ _ q => Heap.get?_push_of_some _ q) (Nat.le_refl _) ⟨hz, its, 0, hv, Heap.get?_push_size _ rfl⟩
theorem Inv.fresh (I : Inv X pins σ H s) : H s.heap.objs.size = none := I.hok.fresh (Nat.le_refl _)
theorem Inv.lstM (I : Inv X pins σ H s) (hH : H l = some (.lst xs)) : xs.length ≤ sizeLine ∧ ∃ (its : List Value) (n : Nat), Vals xs its ∧ xs.length = its.length ∧ s.heap.get? l = some { cls := .type "list", data := .seq its.toArray n } := by
  obtain ⟨z, its, n, r, e⟩ := I.hok l _ hH
  exact ⟨z, its, n, r, r.length, e⟩

theorem notLongL {n : Nat} (h : n ≤ sizeLine) : Builtin.List.listTooLong n = false := by
  unfold Builtin.List.listTooLong
  exact decide_eq_false (by omega)
end

section
variable {X : Cx}

/-! ### methods -/
def rAppend : V → List V → Hp → VK → Prop := fun x vs H Q => ∃ l xs y, x = .ref l ∧ vs = [y] ∧ H l = some (.lst xs) ∧ xs.length < sizeLine ∧ Q .non (upd H l (.lst (xs ++ [y])))
theorem mt_append : MtM X "list.append" rAppend := by
  intro pins s σ H x vs v us Q I rx rv h
  obtain ⟨l, xs, y, rfl, rfl, hH, hz, q⟩ := h
  cases rx
  obtain ⟨u, rfl, ru⟩ := rv.one
  obtain ⟨z, its, n, r, hl, e⟩ := I.lstM hH
  refine call_meets F.slot_list_append ⟨_, e, rfl⟩ F.entry_list_append (F.args_list_append_2 _ _) (PySem.list_append l its.toArray n u (by rw [List.size_toArray]; omega)) ⟨e, ?_⟩
  refine ⟨.non, _, I.lset (its' := its ++ [u]) hH e (by simp) (r.append (.cons ru .nil)) ?_, rfl, q⟩
  rw [List.length_append, List.length_singleton]
  omega

def rExtend : V → List V → Hp → VK → Prop := fun x vs H Q => ∃ l b xs zs, x = .ref l ∧ vs = [.ref b] ∧ H l = some (.lst xs) ∧ H b = some (.lst zs) ∧ xs.length + zs.length ≤ sizeLine ∧ Q .non (upd H l (.lst (xs ++ zs)))
theorem mt_extend : MtM X "list.extend" rExtend := by
  intro pins s σ H x vs v us Q I rx rv h
  obtain ⟨l, b, xs, zs, rfl, rfl, hH, hB, hz, q⟩ := h
  cases rx
  obtain ⟨u, rfl, ru⟩ := rv.one
  cases ru
  obtain ⟨z, its, n, r, hl, e⟩ := I.lstM hH
  obtain ⟨z2, its2, n2, r2, hl2, e2⟩ := I.lstM hB
  have hsz : its.toArray.size + its2.toArray.size ≤ sizeLine := by rw [List.size_toArray, List.size_toArray]; omega
  have hlong : ¬ (!its.toArray.isEmpty && Builtin.List.listTooLong (its.toArray.size + its2.toArray.size)) = true := by
    rw [notLongL hsz, Bool.and_false]
    exact Bool.false_ne_true
  refine call_meets F.slot_list_extend ⟨_, e, rfl⟩ F.entry_list_extend (F.args_list_extend_2 _ _)
    (AutoSeq1.list_extend_list_list_0 l its.toArray n b its2.toArray n2 hlong (by rw [List.size_toArray]; omega) (by omega)) ⟨e, e2, ?_⟩
  refine ⟨.non, _, I.lset (its' := its ++ its2) hH e (by simp) (r.append r2) ?_, rfl, q⟩
  rw [List.length_append]
  omega

/-! ### list + list, list += list, list * int -/
def rCat : R2 := fun x y H Q => ∃ l b xs zs, x = .ref l ∧ y = .ref b ∧ H l = some (.lst xs) ∧ H b = some (.lst zs) ∧ xs.length + zs.length ≤ sizeLine ∧ ∀ p, H p = none → Q (.ref p) (upd H p (.lst (xs ++ zs)))
theorem op_cat : OpR X (binaryOp .Add) rCat := by
  intro pins s σ H x y v u Q I rx ry h
  obtain ⟨l, b, xs, zs, rfl, rfl, hH, hB, hz, q⟩ := h
  cases rx
  cases ry
  obtain ⟨z, its, n, r, hl, e⟩ := I.lstM hH
  obtain ⟨z2, its2, n2, r2, hl2, e2⟩ := I.lstM hB
  refine PySem.P.add_list e e2 ?_ (by rw [List.size_toArray, List.size_toArray]; omega)
  have ea : its.toArray ++ its2.toArray = (its ++ its2).toArray := by simp
  rw [ea]
  exact ⟨.ref _, _, I.lnew (t' := s.toks) (r.append r2) (by rw [List.length_append]; omega), rfl, q _ I.fresh⟩
/-! ### del xs[i] -/
end

/-! ### xs[a:b] = ys -/
section
variable {prog : Program} {w : World} {A : Around} {E : Value → Shared → Prop} {s : Shared}
end

section
variable {X : Cx}
end
end L2

namespace Att
open PySem PySem.W PySem.Calls PyProof.Rows

/-! ### the script -/
theorem ints_of_wellAll {P : Params} {h : Heap} : ∀ (ns : List Int) (vs : List Value), WellAll P h vs (ns.map WData.int) → IntsAre vs ns := by
  intro ns
  induction ns with
  | nil =>
    intro vs w
    rw [List.map_nil] at w
    cases w
    exact .nil
  | cons n ns ih =>
    intro vs w
    rw [List.map_cons] at w
    cases w with
    | cons a b =>
      cases a
      exact .cons _ _ (ih _ b)

theorem script_of {l : OpenLaw} {n : Nat} (hn : l.most = some n) {P : Params} {h : Heap} {args : List WData} {vals : List Value}
    (hpre : l.row.toRowW.claim.pre args = true) (hwl : WellAll P h vals args) :
    ∃ a vs ns, vals = [Value.ref a] ∧ args = [WData.list (ns.map WData.int)] ∧ h.get? a = some { cls := .type "list", data := .seq vs.toArray } ∧ IntsAre vs ns ∧ ns.length ≤ n := by
  have hsh : WShape.hasAll [] args [.list .int] = true := (pre_splitW hpre).1
  have hc : l.pre.holds [] { args := args } = true := (pre_splitW hpre).2
  obtain ⟨d, r, rfl, h1, h2⟩ := hasAllW_cons hsh
  obtain rfl := hasAllW_nil h2
  obtain ⟨xs, rfl, h3⟩ := hasW_list h1
  obtain ⟨ns, rfl⟩ := items_int h3
  have hlen : ns.length ≤ n := by
    unfold OpenLaw.pre at hc
    have h4 : (WTm.not (.lt (.lit (.int (n : Int))) (.len (.arg 0)))).holds [] { args := [.list (ns.map .int)] } = true := by
      have h4 := (holds_andW hc).1
      rw [hn] at h4
      exact h4
    have h5 := condW_of h4 (w_not (w_lt w_lit (w_len_list (w_arg rfl))))
    rw [List.length_map] at h5
    refine Nat.le_of_not_lt fun q => ?_
    have q' : (n : Int) < ((ns.length : Nat) : Int) := by omega
    first
      | (rw [decide_eq_true q'] at h5; exact absurd h5 (by decide))
      | (simp at h5; omega)
  cases hwl with
  | cons w1 w2 =>
    cases w2
    cases w1 with
    | list ho hall => exact ⟨_, _, ns, rfl, rfl, ho, ints_of_wellAll ns _ hall, hlen⟩

theorem post_true (l : OpenLaw) (args : List WData) : l.row.toRowW.claim.post args (.bool true) args = true :=
  postW_of (r := l.row.toRowW) (X := (true == true))
    (show WShape.has [] (.bool true) .bool = true by first | rfl | decide | simp [WShape.has, WShape.arms, WShape.armsAll])
    (show (WTm.eq .res (.lit (.bool true))).value [] { args := args, res := some (.bool true), after := args } = some (.bool (true == true)) from w_eq_bool (w_res rfl) w_lit) rfl

/-! ### the attachment: holds_open's last premise (the goal 'hc' behind k_head) from a wpAny of the law's body -/
/-- the same from a codeAny of the CALL (for a layer whose function contracts speak of calls) -/
theorem attach_call {l : OpenLaw} {n : Nat} {q : Program} {loose : List Str} {XP : (Str → Option Value) → Heap → Prop} {YP : World → Heap → Prop} {d : DefRec}
    (hn : l.most = some n) (hdf : d.params.defaults = [])
    (call : ∀ (w : World) (s₀ s₁ : Shared) (mg mb : Str → Option Value) (fa : Addr) (o : Obj) (pm cd doc : Value) (a : Addr) (vs : List Value) (ns : List Int),
      Ground q loose [] XP w s₀ mg mb s₁.heap → YP w s₁.heap →
      s₁.heap.get? fa = some o → o.data = .func (docDef d.name d.params d.body d.scope pm cd doc) → s₁.heap.CodeRec cd d.name → mg d.name = some (.ref fa) →
      s₁.heap.get? a = some { cls := .type "list", data := .seq vs.toArray } → IntsAre vs ns → ns.length ≤ n → s₁.gens = #[] →
      codeAny (model l.prog w) callerA (.call (.ref fa) ⟨[.ref a], []⟩) (fun r s' => r = .ok (.ret (.bool true)) ∧ OldK s₁.heap s'.heap ∧ s'.os = s₁.os ∧ AllBare s'.gens) s₁) :
    WalkO q loose XP YP l.row.toRowW d [] (fun f vs => PySem.call f vs) := by
  intro w s₀ s₁ mg mb G Y fa o pm cd doc dV kV ho hd hcd hD hmg hg args vals as hpre hlay hrd hwl hlo
  obtain rfl : dV = .none := Dflts.none hD hdf
  obtain rfl : kV = .none := Dflts.noKw hD
  obtain ⟨a, vs, ns, rfl, rfl, hobj, hints, hlen⟩ := script_of hn hpre hwl
  refine enter_call (codeAny_mono (call w s₀ s₁ mg mb fa o pm cd doc a vs ns G Y ho (fd_plain hd) hcd hmg hobj hints hlen hg) fun r s' hq => ?_)
  obtain ⟨rfl, h2, h3, h4⟩ := hq
  exact ⟨.inl ⟨.bool true, .bool true, [], rfl, fun _ => rfl, .bool true, post_true l _, fun _ => ⟨List.Pairwise.nil, fun _ hm => (nomatch hm)⟩⟩, h2, h3, h4⟩

/-! ### rules over ANY heap (no ledger) from facts about the written part K: the library's own take a ledger (News) for what they write -/
section
variable {prog : Program} {w : World} {A : Around} {E : Value → Shared → Prop} {s : Shared} {K : Frag}

/-! the whole heap as the ledger: makes every rule that writes through a ledger a rule over any heap -/
end
end Att

namespace L2
open PySem PySem.Spec PyProof.Rows

theorem vals_ints : ∀ {vs : List Value} {ns : List Int}, IntsAre vs ns → Vals (ns.map V.int) vs
  | _, _, .nil => .nil
  | _, _, .cons n t h => .cons ⟨t, rfl⟩ (vals_ints h)

/-- nothing is tracked but the script, known to the object (or it is an object of the module) -/
def Only (H : Hp) : Prop := ∀ b, H b = none ∨ ∃ o xs, H b = some (.frz o (.lst xs))

/-- THE HEAD: the law's promise, at the heap behind the top. F, the promise of the law's def, may use that base is part of the heap (so K.In base, base.Ns mainGlobals mg stand in Mod) -/
theorem law_call {P : Program} {w : World} {K : PySem.W.Frag} {mg mb : Str → Option Value} {CX : CXT} {k : Nat} {fa a : Addr} {fd : FuncData} {x : Str} {sp : Sp} {s₁ : Shared} {vs : List Value} {ns : List Int}
    (KX : K.In s₁.heap) (hns : s₁.heap.Ns mainGlobals mg) (hb : s₁.heap.Ns builtinsNs mb) (hbb : ∀ x : Str, x ≠ "__name__" → mb x = bootBuiltins x) (hlim : s₁.heap.NoLimit) (hg : s₁.gens = #[])
    (ha : s₁.heap.get? a = some { cls := .type "list", data := .seq vs.toArray }) (hi : IntsAre vs ns) (hl : ns.length ≤ sizeLine) (hr : Room k callerA)
    (F : ∀ base : Heap, K.In base → base.Ns mainGlobals mg → FnOk P w K mg base CX k fa fd [x] sp) (hbind : ∀ (s : Shared) (u : Value), BindsTo s fd ⟨[u], []⟩ [(x, u)])
    (hsp : ∀ H : Hp, Only H → SqL K H a (ns.map V.int) → sp [.ref a] H (fun v _ => v = .bl true) fun _ _ _ => False)
    (hCX : ∀ H e s', CX [] H s₁ (fun _ _ _ => False) e s' → False) :
    codeAny (model P w) callerA (.call (.ref fa) ⟨[.ref a], []⟩) (fun r s' => r = .ok (.ret (.bool true)) ∧ OldK s₁.heap s'.heap ∧ s'.os = s₁.os ∧ AllBare s'.gens) s₁ := by
  have rv := vals_ints hi
  have lenV := hi.length
  -- from an abstract heap in which nothing but the script may be tracked
  have core : ∀ H : Hp, Only H → SqL K H a (ns.map V.int) → HOk P w H s₁.heap → (∀ b, H b ≠ none → b = a) → (H a ≠ none → K.lookup a = none) →
      codeAny (model P w) callerA (.call (.ref fa) ⟨[.ref a], []⟩) (fun r s' => r = .ok (.ret (.bool true)) ∧ OldK s₁.heap s'.heap ∧ s'.os = s₁.os ∧ AllBare s'.gens) s₁ := by
    intro H hO hS hok hA hK
    have base_of : ∀ {b : Addr} {o : Obj}, s₁.heap.get? b = some o → H b = none → (hidT s₁.heap H).get? b = some o := fun e n => hidT_get e n
    have noA : ∀ {b : Addr} {o : Obj} {es : Array DictEntry} {ep : Nat}, s₁.heap.get? b = some o → o.data = .dict es ep → H b = none := fun {b o es ep} e d => by
      cases q : H b with
      | none => rfl
      | some u =>
        have e' : b = a := hA b (by rw [q]; simp)
        subst e'
        rw [ha] at e; cases e
        have d' : Data.seq vs.toArray _ = Data.dict es ep := d
        cases d'
    have nsK : ∀ {b : Addr} {m : Str → Option Value}, s₁.heap.Ns b m → (hidT s₁.heap H).Ns b m := fun {b m} ⟨o, es, ep, e, d, r⟩ => ⟨o, es, ep, base_of e (noA e d), d, r⟩
    have hKb : K.In (hidT s₁.heap H) := fun b o e => base_of (KX b o e) (by
      cases q : H b with
      | none => rfl
      | some u =>
        have e' : b = a := hA b (by rw [q]; simp)
        subst e'
        rw [hK (by rw [q]; simp)] at e; cases e)
    have hM : Mod K mg (hidT s₁.heap H) := ⟨hKb, nsK hns, ⟨mb, nsK hb, hbb⟩, let ⟨mc, h1, h2⟩ := hlim; ⟨mc, nsK h1, h2⟩⟩
    have e0 : Env0 P w K mg (hidT s₁.heap H) callerA [] s₁ H := ⟨rfl, hM, fun b o e => of_hidT e, Nat.le_of_eq (hidT_size _ _), trivial, fun b hb => absurd (show b ∈ ([] : List Addr) from hb) (by simp), hok, .of_eq hg⟩
    refine codeAny_mono ((F _ hKb (nsK hns)).run callerA [] s₁ H ⟨[.ref a], []⟩ [.ref a] [.ref a] _ _ hr e0 (hbind s₁ (.ref a)) (.cons rfl .nil) (hsp H hO hS)) fun r s' h => ?_
    cases r with
    | error e => exact (hCX H e s' h).elim
    | ok fl =>
      cases fl with
      | next => exact False.elim h
      | brk => exact False.elim h
      | cont => exact False.elim h
      | ret u =>
        obtain ⟨v, H', os, bare, un, hok', r', q⟩ := h
        have q' : v = .bl true := q
        subst q'
        obtain rfl : u = Value.bool true := r'
        refine ⟨rfl, OldK.of_keep fun b o e => ?_, os, bare⟩
        cases q : H b with
        | none => exact un.keep b o e q (by intro z; exact absurd (show b ∈ ([] : List Addr) from z) (by simp)) (by simp)
        | some u =>
          rcases hO b with z | ⟨ob, xs, z⟩
          · rw [q] at z; cases z
          · have z2 := un.frzs b ob _ z
            obtain ⟨e1, _⟩ := hok b _ z
            obtain ⟨e2, _⟩ := hok' b _ z2
            rw [e] at e1; cases e1
            exact e2
  cases hk : K.lookup a with
  | some o =>
    -- the script is one of the module's own objects
    have e := KX a o hk
    rw [ha] at e
    cases e
    refine core (fun _ => none) (fun _ => .inl rfl) (.inr ⟨_, vs.toArray, _, hk, rfl, rfl, rfl, by rw [List.size_toArray, lenV]; exact hl, by simpa using rv⟩) (fun b u z => by have z' : (none : Option HO) = some u := z; cases z') (fun b z => absurd rfl z) fun z => absurd rfl z
  | none =>
    refine core (fun b => if b = a then some (.frz { cls := .type "list", data := .seq vs.toArray } (.lst (ns.map V.int))) else none) (fun b => ?_) (.inl (.inr ⟨{ cls := .type "list", data := .seq vs.toArray }, if_pos rfl⟩)) (fun b u z => ?_) (fun b z => ?_) fun _ => hk
    · by_cases hb : b = a
      · exact .inr ⟨_, _, if_pos hb⟩
      · exact .inl (if_neg hb)
    · by_cases hb : b = a
      · have z' := (if_pos hb).symm.trans z
        cases z'
        subst hb
        exact ⟨ha, by rw [List.length_map]; exact hl, vs, _, rv, ha⟩
      · have z' := (if_neg hb).symm.trans z
        cases z'
    · by_cases hb : b = a
      · exact hb
      · exact absurd (if_neg hb) z
end L2

namespace L2
open PySem PySem.Spec PyProof.Rows

abbrev KOf {K : PySem.W.Frag} {h : Heap} (_ : K.In h) : PySem.W.Frag := K

/-- the goal that k_head leaves (case hc), from the law's promise. F gives the function object fd (K's own) once, then the promise over every base -/
theorem walk_of {l : PySem.W.OpenLaw} {n k : Nat} {q : Program} {loose : List Str} {XP : (Str → Option Value) → Heap → Prop} {YP : World → Heap → Prop} {d : DefRec} {K : Params → PySem.W.Frag} {CX : World → CXT} {sp : World → Sp} {x : Str}
    (hn : l.most = some n) (hn2 : n ≤ sizeLine) (hdf : d.params.defaults = []) (hr : Room k callerA)
    (hY : ∀ (w : World) (h : Heap), YP w h → (K w.params).In h)
    (F : ∀ (w : World) (mg : Str → Option Value) (fa : Addr) (h : Heap), (K w.params).In h → h.Ns mainGlobals mg → mg d.name = some (.ref fa) →
      ∃ fd : FuncData, (∀ (s : Shared) (u : Value), BindsTo s fd ⟨[u], []⟩ [(x, u)]) ∧
        ∀ base : Heap, (K w.params).In base → base.Ns mainGlobals mg → FnOk l.prog w (K w.params) mg base (CX w) k fa fd [x] (sp w))
    (hsp : ∀ (w : World) (H : Hp) (a : Addr) (ns : List Int), ns.length ≤ n → Only H → SqL (K w.params) H a (ns.map V.int) → sp w [.ref a] H (fun v _ => v = .bl true) fun _ _ _ => False)
    (hCX : ∀ (w : World) (H : Hp) (s : Shared) (e : Value) (s' : Shared), CX w [] H s (fun _ _ _ => False) e s' → False) :
    PySem.W.WalkO q loose XP YP l.row.toRowW d [] (fun f vs => PySem.call f vs) := by
  refine Att.attach_call hn hdf fun w s₀ s₁ mg mb fa o pm cd doc a vs ns G Y ho hd hcd hmg hobj hints hlen hg => ?_
  have KX := hY w _ Y
  obtain ⟨fd, hb, hF⟩ := F w mg fa _ KX G.T.g hmg
  exact law_call KX G.T.g G.T.b G.T.builtins G.T.nolimit hg hobj hints (Nat.le_trans hlen hn2) hr hF hb (fun H hO hS => hsp w H a ns hlen hO hS) fun H e s' => hCX w H s₁ e s'
end L2

/- THE LAST THEOREM (shape; LID, My.* are yours):
   My.Adr: a structure of the addresses that your layer names (classes, functions); My.Txt K t: a structure (Prop) of the equations over K;
   My.txt_mk : {K} {implicit addresses ..} (e1 : nsIn K mainGlobals "law" = some (some (.ref f))) (e2 : K.lookup f = some ⟨oc, od, .func (fnOf "law" "law" params body scope dV kV doc pm an cdv ct), sl⟩) (e3 : codeIn K cdv "law" = true) .. : ∃ t, My.Txt K t

set_option maxRecDepth 100000 in
set_option maxHeartbeats 0 in
theorem PySem.Challenge.cw_LID_holds : PySem.Challenge.rw_LID.Holds := by
  w_on; o_law; k_head; (case hw => w_witness2)
  k_fill
  refine L2.walk_of (l := PySem.Challenge.rw_LID) (n := 63) (k := 40) (x := "script") (CX := fun w => ..) (sp := fun _ => My.sp_law) rfl (by decide) rfl ⟨rfl, by decide, by decide⟩ (fun w h Y => PySem.W.kIn_of Y) ?F ?S ?C
  case F =>
    intro w mg fa h KX G hmg
    have T : ∃ t, My.Txt (L2.KOf KX) t := by
      dsimp only [L2.KOf]                          -- K must stand as «<heap const> w.params» for k_is
      refine' My.txt_mk ?e1 ?e2 ?e3 ..
      (case e1 => PySem.W.k_is)                    -- in the order: a name -> its address -> its object -> its parts
      (case e2 => PySem.W.k_is)
      ..
    obtain ⟨t, T⟩ := T
    have e0 := hmg.symm.trans (PySem.W.mg_of KX G T.law)
    cases e0                                       -- fa is the law's own address
    exact ⟨_, fun s u => .of_eq rfl, fun base kb nb => My.law_fn T kb nb⟩     -- if «.of_eq rfl» comes too early: refine' ⟨_, ?b, fun base kb nb => My.law_fn T kb nb⟩; exact fun s u => .of_eq rfl
  case S => exact fun w H a ns hl hO hS => ..
  case C => exact ..
(the tactic k_is has no namespace: write k_is) -/

/-! SHORT WORDS over the layer: a def of the text, its body, what a loop and a test want. -/
namespace L2
open PySem PySem.Spec PyProof.Rows

/-! ### the text by places -/
def defArgs (s : Stmt) : Arguments := match s with
  | .FunctionDef _ a _ _ _ _ _ _ _ _ => a
  | _ => { posonlyargs := [], args := [], vararg := none, kwonlyargs := [], kw_defaults := [], kwarg := none, defaults := [] }
def defBody (s : Stmt) : List Stmt := match s with
  | .FunctionDef _ _ b _ _ _ _ _ _ _ => b
  | _ => []
def defScope (s : Stmt) : Scope := match s with
  | .FunctionDef _ _ _ _ _ _ sc _ _ _ => sc
  | _ => { kind := .function, names := [], isGenerator := false, isCoroutine := false }

/-! ### no exception leaves a def -/
abbrev CX0 : CXT := fun _ _ _ _ _ _ => False
abbrev E0 : XK := fun _ _ _ => False
theorem pass0 {X : Cx} : Passes CX0 X E0 := fun _ _ _ _ _ _ _ h => h.elim

/-! ### a def (or method) of the text as it stands behind the top -/
structure Fun (K : PySem.W.Frag) (x qual : Str) (st : Stmt) (f : Addr) (fd : FuncData) : Prop where
  ex : ∃ (oc : Value) (od : Option Addr) (kV doc pm : Value) (an : Option Addr) (cdv ct : Value) (osl : Array (Option Value)),
    fd = PySem.W.fnOf x qual (defArgs st) (defBody st) (defScope st) .none kV doc pm an cdv ct ∧ K.lookup f = some ⟨oc, od, .func fd, osl⟩ ∧ PySem.W.codeIn K cdv qual = true
  kp : PySem.W.keepIn K (.ref f) = true
section
variable {P : Program} {w : World} {K : PySem.W.Frag} {mg : Str → Option Value} {base : Heap}
/-- THE RULE for a def: its body as a term of rules, and the reading of that term -/
theorem Fun.ok {x qual : Str} {st : Stmt} {f : Addr} {fd : FuncData} {N ps : List Str} {k : Nat} {sp : Sp} (F : Fun K x qual st f fd) (S : FnScope N ps (defScope st)) (len : ∀ vs H Q E, sp vs H Q E → vs.length = ps.length)
    (hbody : ∀ (cdv : Value) (A : Around) (outer : List Env) (s : Shared) (H : Hp) (vs : List V) (Q : VK) (E : XK), Room k (A.deeper (envOfC qual (defScope st) s.heap.objs.size f cdv)) → sp vs H Q E →
      ∃ t, PSs (cxOf CX0 P w K mg base N qual (defScope st) f cdv A outer s H E).nox (defBody st) t ∧ t { nx := fun _ H' => Q .non H', rt := Q } (start N vs) H) : FnOk P w K mg base CX0 (k + 1) f fd ps sp := by
  obtain ⟨oc, od, kV, doc, pm, an, cdv, ct, osl, rfl, lk, hcd⟩ := F.ex
  refine fn_of lk hcd S len fun A outer s H vs Q E hr hsp => ?_
  obtain ⟨t, h, q⟩ := hbody cdv A outer s H vs Q E hr hsp
  exact ⟨t, h.nox, q⟩
/-- how its arguments bind (no defaults): h is «fun _ _ _ _ _ _ us hl => match us, hl with | [_, _], _ => rfl», one _ a parameter -/
theorem Fun.binds {x qual : Str} {st : Stmt} {f : Addr} {fd : FuncData} {ps : List Str} (F : Fun K x qual st f fd)
    (h : ∀ (kV doc pm : Value) (an : Option Addr) (cdv ct : Value) (us : List Value), us.length = ps.length → bindArgs (PySem.W.fnOf x qual (defArgs st) (defBody st) (defScope st) .none kV doc pm an cdv ct) ⟨us, []⟩ = pure (ps.zip us)) : Binds K fd ps [] := by
  obtain ⟨oc, od, kV, doc, pm, an, cdv, ct, osl, rfl, lk, hcd⟩ := F.ex
  exact .all (h kV doc pm an cdv ct)
theorem fun_mk {x qual : Str} {st : Stmt} {f : Addr} {oc : Value} {od an : Option Addr} {osl : Array (Option Value)} {kV doc pm cdv ct : Value} (l : K.lookup f = some ⟨oc, od, .func (PySem.W.fnOf x qual (defArgs st) (defBody st) (defScope st) .none kV doc pm an cdv ct), osl⟩)
    (c : PySem.W.codeIn K cdv qual = true) (k : PySem.W.keepIn K (.ref f) = true) : Fun K x qual st f (PySem.W.fnOf x qual (defArgs st) (defBody st) (defScope st) .none kV doc pm an cdv ct) := ⟨⟨oc, od, kV, doc, pm, an, cdv, ct, osl, rfl, l, c⟩, k⟩
end
/-! ### expressions in short: the name that stands in the i-th slot -/
section
variable {X : Cx}
theorem pv (i : Nat) {x : Str} {pos : Pos} (hN : X.N[i]? = some x := by rfl) (hv : Vis X.env.scope x := by first | exact Or.inl rfl | exact Or.inr (Or.inl rfl) | exact Or.inr (Or.inr rfl)) (hd : (x == ("__debug__" : Str)) = false := by decide)
    (hcd : (x == ("__classdict__" : Str)) = false := by decide) : PE X (.Name x pos) (tVar i) := pe_var hN hv hd hcd
end

/-! ### tests -/
theorem iteF {A B : Prop} (h : B) : if false = true then A else B := by
  rw [if_neg Bool.false_ne_true]
  exact h
theorem iteT {A B : Prop} (h : A) : if true = true then A else B := by
  rw [if_pos rfl]
  exact h
theorem ite2 {c A B : Prop} [Decidable c] (h1 : c → A) (h2 : ¬ c → B) : if c then A else B := by
  by_cases h : c
  · rw [if_pos h]
    exact h1 h
  · rw [if_neg h]
    exact h2 h
/-! ### heaps -/
/-- all that was tracked is as it was -/
def Same (H H' : Hp) : Prop := ∀ b o, H b = some o → H' b = some o
theorem Same.refl (H : Hp) : Same H H := fun _ _ h => h
theorem Same.trans {H H1 H2 : Hp} (a : Same H H1) (b : Same H1 H2) : Same H H2 := fun c o h => b c o (a c o h)
theorem Same.free {H H' : Hp} (e : Same H H') {l : Addr} (h : H' l = Option.none) : H l = Option.none := by
  cases q : H l with
  | none => rfl
  | some o =>
    rw [e l o q] at h
    cases h
end L2

set_option maxHeartbeats 4000000
/-! EvExc: refusals of own classes by hand: raise, a callee's refusal that passes, try with one except clause that names, isinstance of a refusal. Over the hand layer (namespace L2), which stands ahead of it. -/
namespace L2
open PySem PySem.Spec PyProof.Rows

section
variable {X : Cx} {pins : List (Addr × Obj)} {σ : St} {H H' : Hp} {s s' : Shared}
theorem Inv.nopins (I : Inv X pins σ H s) : Inv X [] σ H s := I.pins_of fun p hp => nomatch hp
end

section
variable {P : Program} {w : World} {K : PySem.W.Frag} {mg : Str → Option Value} {base : Heap} {N : List Str} {qual : Str} {scope : Scope} {f : Addr} {cd : Value} {A : Around} {outer : List Env} {s : Shared} {H : Hp} {E : XK}
end
/-! ### raise -/
end L2
/-! EvTry: isinstance of a refusal, except clauses, defs called within an except suite. Behind EvExc. -/
namespace PySem.W
open PySem PySem.Calls PyProof.Rows Builtin Builtin.ObjectAttr Builtin.Getset_descriptor
section
variable {prog : Program} {w : World} {A : Around} {E : Value → Shared → Prop} {s : Shared} {K : Frag} {x C D : Addr} {ox : Obj}
end
end PySem.W

namespace L2
open PySem PySem.Spec PyProof.Rows
/-! ### isinstance by values -/
/-- isinstance(x, c), c one class -/
theorem call_isinst {X : Cx} : CallR X (.builtin "isinstance") (fun xs H Q => ∃ x c t b, xs = [x, c] ∧ TyOf X.K H x t ∧ (∀ u, RelV c u → PySem.W.kitOne X.K t u = some b) ∧ Q (.bl b) H) := by
  intro pins s σ H xs us Q I r h
  obtain ⟨x, c, t, b, rfl, ty, k, q⟩ := h
  obtain ⟨u, w', rfl, r1, r2⟩ := vals2 r
  exact isinst_ok I r1 ty (k _ r2) fun tk => ⟨.bl b, H, I.tok tk, rfl, q⟩
/-! ### try, one clause with a name -/
section
variable {X : Cx} {pins : List (Addr × Obj)} {σ : St} {H : Hp} {s : Shared}
/-- an object that was not tracked is -/
theorem Inv.track {a : Addr} {o : HO} (I : Inv X pins σ H s) (hn : H a = none) (h0 : X.s₀.heap.get? a = none) (hL : a ≠ X.env.locals) (hc : ∀ x c, X.env.cells.lookup x = some c → c ≠ a) (hp : ∀ p ∈ X.pn ++ pins, p.1 ≠ a)
    (new : ObjOk X.prog X.w (upd H a o) s.heap a o) : Inv X pins σ (upd H a o) s := by
  have ne : ∀ b u, H b = some u → b ≠ a := fun b u e => ne_of_none e hn
  refine ⟨I.ok, I.os, I.bare, ⟨I.base.keep, I.base.slot, fun b ob e n hx => ?_, I.base.there, fun b xs e => ?_, fun b ob u e => ?_, fun b ps e => ?_⟩, I.loc, I.cell, ?_, fun x c e => ?_, fun p hp' => ?_, fun b u e => ?_, I.len⟩
  · rw [upd_ne (fun z => by rw [z, h0] at e; cases e)]
    exact I.base.free b ob e n hx
  · have q := I.base.tups b xs e
    rw [upd_ne (ne b _ q)]; exact q
  · have q := I.base.frzs b ob u e
    rw [upd_ne (ne b _ q)]; exact q
  · obtain ⟨m, q⟩ := I.base.tbls b ps e
    exact ⟨m, by rw [upd_ne (ne b _ q)]; exact q⟩
  · rw [upd_ne (Ne.symm hL)]; exact I.free
  · rw [upd_ne (hc x c e)]; exact I.freeC x c e
  · obtain ⟨e, n, r⟩ := I.pin p hp'
    exact ⟨e, by rw [upd_ne (hp p hp')]; exact n, r⟩
  · by_cases hb : b = a
    · subst hb; rw [upd_same] at e; cases e; exact new
    · rw [upd_ne hb] at e
      exact (I.hok b u e).stay (fun _ _ _ q => q) (fun c q => by rw [upd_ne (ne c _ q)]; exact q) fun c xs q => by rw [upd_ne (ne c _ q)]; exact q
end
/-! ### a def that is called within an except suite -/
end L2

namespace L2
open PySem PySem.Spec PyProof.Rows
theorem Inv.big {X : Cx} {pins : List (Addr × Obj)} {σ : St} {H : Hp} {s : Shared} (I : Inv X pins σ H s) : sysModules < s.heap.objs.size := by
  have h : mainGlobals < s.heap.objs.size := (I.mod.glob.keeps I.bk).lt
  exact Nat.lt_trans (by decide) h
end L2
/-! EvStr: f-strings with ints, a while whose test need not be monotone. Behind EvTry. -/
namespace L2
open PySem PySem.Spec PyProof.Rows
/-! ### while -/
def WTurn (Pv : St → Hp → Prop) (mu : St → Hp → Nat) (m : Nat) (tb : TS) (D : Ends) (σ : St) (H1 : Hp) : Prop :=
  ∃ N : St → Hp → Prop, (∀ σ' H', N σ' H' → ∃ m', m' < m ∧ m' = mu σ' H' ∧ Pv σ' H') ∧ tb { D with nx := N, ct := N, bk := D.nx } σ H1
theorem WTurn.of {Pv : St → Hp → Prop} {mu : St → Hp → Nat} {m : Nat} {tb : TS} {D : Ends} {σ : St} {H1 : Hp}
    (h : tb { D with nx := fun σ' H' => Pv σ' H' ∧ mu σ' H' < m, ct := fun σ' H' => Pv σ' H' ∧ mu σ' H' < m, bk := D.nx } σ H1) : WTurn Pv mu m tb D σ H1 :=
  ⟨_, fun σ' H' ⟨p, l⟩ => ⟨_, l, rfl, p⟩, h⟩
theorem while_w {c : TT} {tb : TS} {D : Ends} {σ : St} {H : Hp} (Pv : St → Hp → Prop) (mu : St → Hp → Nat) (h0 : Pv σ H)
    (hs : ∀ m σ H, Pv σ H → m = mu σ H → c σ H fun b H1 => if b = true then WTurn Pv mu m tb D σ H1 else D.nx σ H1) : tWhile c tb D σ H := by
  refine ⟨fun m σ H => m = mu σ H ∧ Pv σ H, ⟨_, rfl, h0⟩, ?_⟩
  rintro m σ H ⟨e, p⟩
  exact hs m σ H p e
/-! ### tests that are known -/
theorem ifT {c A B : Prop} [Decidable c] (h : c) (k : A) : if decide c = true then A else B := by
  rw [if_pos (decide_eq_true h)]
  exact k
theorem ifF {c A B : Prop} [Decidable c] (h : ¬ c) (k : B) : if decide c = true then A else B := by
  rw [if_neg (fun z => h (of_decide_eq_true z))]
  exact k
theorem blT {Q : VK} {H : Hp} {c : Prop} [Decidable c] (h : c) (k : Q (.bl true) H) : Q (.bl (decide c)) H := by
  rw [decide_eq_true h]
  exact k
/-! ### f-strings -/
end L2
/-! EvComp: a list comprehension with one for and at most one if, by hand. Behind EvStr. -/
namespace L2
open PySem PySem.Spec PyProof.Rows
/-! ### the closure -/
theorem cellOf_some {env : Env} {x : Str} {c : Addr} (h : env.cells.lookup x = some c) : cellOf env x = pure c := by
  unfold cellOf
  rw [h]
theorem closure_go {env : Env} : ∀ (names : List (Str × NameKind)) (cs : List (Str × Addr)), (∀ x, (x, NameKind.free) ∈ names → ∃ c, env.cells.lookup x = some c) →
    (∀ x c, cs.lookup x = some c → env.cells.lookup x = some c) →
    ∃ cl : List (Str × Addr), (forIn names cs fun (y : Str × NameKind) (r : List (Str × Addr)) => if (y.2 == .free) = true then (do let c ← cellOf env y.1; pure (ForInStep.yield ((y.1, c) :: r)) : Sem _) else pure (ForInStep.yield r)) = pure cl ∧
      (∀ x c, cl.lookup x = some c → env.cells.lookup x = some c) ∧ (∀ x, ((x, NameKind.free) ∈ names ∨ ∃ c, cs.lookup x = some c) → ∃ c, cl.lookup x = some c)
  | [], cs, _, h2 => ⟨cs, rfl, h2, fun x hx => hx.elim (fun z => nomatch z) id⟩
  | (y, k) :: names, cs, h1, h2 => by
    by_cases hk : k = .free
    · subst hk
      obtain ⟨c, hc⟩ := h1 y (List.mem_cons_self ..)
      obtain ⟨cl, e, a, b⟩ := closure_go names ((y, c) :: cs) (fun x hx => h1 x (List.mem_cons_of_mem _ hx)) (fun x c' hx => by
        rw [List.lookup_cons] at hx
        split at hx
        · rename_i hb
          have hb' : x = y := by simpa using hb
          cases hx
          rw [hb']
          exact hc
        · exact h2 x c' hx)
      refine ⟨cl, ?_, a, fun x hx => b x ?_⟩
      · rw [List.forIn_cons]
        simp only [beq_self_eq_true, if_true, cellOf_some hc]
        exact e
      · rcases hx with hx | ⟨c', hx⟩
        · rcases List.mem_cons.mp hx with z | z
          · cases z
            exact .inr ⟨c, by simp⟩
          · exact .inl z
        · by_cases hb : (x == y) = true
          · exact .inr ⟨c, by rw [List.lookup_cons, hb]⟩
          · exact .inr ⟨c', by rw [List.lookup_cons, Bool.not_eq_true _ |>.mp hb]; exact hx⟩
    · obtain ⟨cl, e, a, b⟩ := closure_go names cs (fun x hx => h1 x (List.mem_cons_of_mem _ hx)) h2
      have hb : (k == NameKind.free) = false := by simpa using hk
      refine ⟨cl, ?_, a, fun x hx => b x ?_⟩
      · rw [List.forIn_cons]
        simp only [hb, Bool.false_eq_true, if_false]
        exact e
      · rcases hx with hx | hx
        · rcases List.mem_cons.mp hx with z | z
          · cases z
            exact absurd rfl hk
          · exact .inl z
        · exact .inr hx
theorem closure_of {scope : Scope} {env : Env} (h : ∀ x, (x, NameKind.free) ∈ scope.names → ∃ c, env.cells.lookup x = some c) :
    ∃ cl, closureFor scope env = pure cl ∧ (∀ x c, cl.lookup x = some c → env.cells.lookup x = some c) ∧ ∀ x, (x, NameKind.free) ∈ scope.names → ∃ c, cl.lookup x = some c := by
  obtain ⟨cl, e, a, b⟩ := closure_go scope.names [] h (fun x c hx => nomatch hx)
  refine ⟨cl, ?_, a, fun x hx => b x (.inl hx)⟩
  refine Eq.trans (b := (forIn scope.names [] fun (y : Str × NameKind) (r : List (Str × Addr)) => if (y.2 == .free) = true then (do let c ← cellOf env y.1; pure (ForInStep.yield ((y.1, c) :: r)) : Sem _) else pure (ForInStep.yield r)) >>= fun r => pure r) rfl ?_
  rw [e]
  rfl
/-! ### the loop -/
section
variable {prog : Program} {w : World} {A : Around} {R : Result → Shared → Prop} {s : Shared}
theorem compLoop_any {elt target iter : Expr} {ifs : List Expr} {scope : Scope} {pos : Pos} {it acc : Value} {env : Env} (I : Nat → Shared → Prop)
    (turn : ∀ n s, I n s → wpAny (model prog w) A (pyNext it) (fun r s1 => match r with
      | none => R (.ok .next) s1
      | some v => wpAny (model prog w) A (letOwnedTupleGo target it v) (fun _ s1' => wpAny (model prog w) A (assign target env v) (fun _ s2 =>
          wpAny (model prog w) A (forIn ifs true fun c r => if r = true then do let ok ← isTrue c env (eval c env); pure (ForInStep.yield ok) else pure (ForInStep.yield r)) (fun ok s3 =>
            if ok = true then wpAny (model prog w) A (eval elt env) (fun x s4 =>
              wpAny (model prog w) A (call (.builtin "list.append") [acc, x]) (fun _ s5 => ∃ m, m < n ∧ I m s5) (fun _ _ => False) s4) (fun _ _ => False) s3
            else ∃ m, m < n ∧ I m s3) (fun _ _ => False) s2) (fun _ _ => False) s1') (fun _ _ => False) s1) (fun _ _ => False) s)
    (n : Nat) (h : I n s) : codeAny (model prog w) A (.compLoop (.ListComp elt [⟨target, iter, ifs, 0⟩] scope pos) 0 it acc env) R s := by
  refine codeAny_loop rfl I (fun n s hI => ?_) n h
  show wpAny _ A ((compTurn (.ListComp elt [⟨target, iter, ifs, 0⟩] scope pos) 0 it acc env).onRaise (fun x => do noteFrame x env; theTreesLotGoes x)) _ _ s
  refine wpAny_noted ?_
  rw [compTurn_list]
  refine wpAny_bind (wpAny_standAt (wpAny_bind (wpAny_mono (turn n s hI) (fun r s1 h1 => ?_) fun _ _ h' => h'.elim)))
  cases r with
  | none => exact wpAny_pure h1
  | some v =>
    refine wpAny_bind (wpAny_mono h1 (fun _ s1' h1' => ?_) fun _ _ h' => h'.elim)
    refine wpAny_bind (wpAny_mono h1' (fun _ s2 h2 => wpAny_bind (wpAny_mono h2 (fun ok s3 h3 => ?_) fun _ _ h' => h'.elim)) fun _ _ h' => h'.elim)
    cases ok with
    | false => exact wpAny_pure ⟨rfl, h3⟩
    | true =>
      exact wpAny_bind (wpAny_bind (wpAny_mono h3 (fun x s4 h4 => wpAny_bind (wpAny_mono h4 (fun _ s5 h5 => wpAny_pure (wpAny_pure ⟨rfl, h5⟩)) fun _ _ h' => h'.elim)) fun _ _ h' => h'.elim))
end
/-! ### the block's context -/
def cxC (X : Cx) (s : Shared) (H : Hp) (scope : Scope) (cl : List (Str × Addr)) (C : Addr) (N : List Str) (fp : List Addr) : Cx where
  prog := X.prog
  w := X.w
  K := X.K
  mg := X.mg
  base := X.base
  A := X.A
  N := N
  s₀ := s
  H₀ := H
  env := compEnvC scope cl C X.env
  outer := X.stack
  stack := X.stack
  ex := fp
  fn := fun x => scope.names.lookup x == some NameKind.cell
  calm := X.calm
  pn := []
  xe := fun _ _ => False
/-- slot i of the block is the outer slot, or the block's own -/
def seen (σ : St) (src : List (Option Nat)) : St := src.map fun o => match o with | some j => (σ[j]?).join | none => none
structure CompScope (X : Cx) (scope : Scope) (N : List Str) (src : List (Option Nat)) : Prop where
  kind : scope.kind = .function
  cells : ∀ y ∈ scope.names, y.2 = .cell → scope.names.lookup y.1 = some .cell
  own : ∀ y ∈ scope.names, y.2 = .local → scope.names.lookup y.1 = some .local
  has : ∀ x, (x, NameKind.free) ∈ scope.names → X.env.kindOf x = some .cell ∨ X.env.kindOf x = some .free
  len : src.length = N.length
  src : ∀ (i j : Nat) (x : Str), src[i]? = some (some j) → N[i]? = some x → X.N[j]? = some x ∧ (x, NameKind.free) ∈ scope.names ∧ scope.names.lookup x = some .free
theorem lookup_relabel_free {env : Env} : ∀ {names : List (Str × NameKind)} {x : Str}, names.lookup x = some .free →
    (names.map fun (n, k) => if (k == NameKind.free && env.scope.kind == .function && env.kindOf n == some .cell) then (n, NameKind.cell) else (n, k)).lookup x = some .cell ∨
    (names.map fun (n, k) => if (k == NameKind.free && env.scope.kind == .function && env.kindOf n == some .cell) then (n, NameKind.cell) else (n, k)).lookup x = some .free
  | [], _, h => by simp at h
  | (n, k) :: r, x, h => by
    have ih := @lookup_relabel_free env r x
    show List.lookup x ((if (k == NameKind.free && env.scope.kind == .function && env.kindOf n == some .cell) = true then (n, NameKind.cell) else (n, k)) :: _) = _ ∨ List.lookup x ((if (k == NameKind.free && env.scope.kind == .function && env.kindOf n == some .cell) = true then (n, NameKind.cell) else (n, k)) :: _) = _
    cases hx : x == n with
    | true =>
      simp only [List.lookup_cons, hx] at h
      cases h
      by_cases hc : (NameKind.free == NameKind.free && env.scope.kind == .function && env.kindOf n == some .cell) = true
      · rw [if_pos hc]; left; simp only [List.lookup_cons, hx]
      · rw [if_neg hc]; right; simp only [List.lookup_cons, hx]
    | false =>
      simp only [List.lookup_cons, hx] at h
      by_cases hc : (k == NameKind.free && env.scope.kind == .function && env.kindOf n == some .cell) = true
      · rw [if_pos hc]; simp only [List.lookup_cons, hx]; exact ih h
      · rw [if_neg hc]; simp only [List.lookup_cons, hx]; exact ih h
/-- a cell or a free name of the block was free in it -/
theorem relabel_cell {env : Env} : ∀ {names : List (Str × NameKind)} {x : Str},
    ((names.map fun (n, k) => if (k == NameKind.free && env.scope.kind == .function && env.kindOf n == some .cell) then (n, NameKind.cell) else (n, k)).lookup x = some .cell ∨
    (names.map fun (n, k) => if (k == NameKind.free && env.scope.kind == .function && env.kindOf n == some .cell) then (n, NameKind.cell) else (n, k)).lookup x = some .free) → (x, NameKind.free) ∈ names ∨ (x, NameKind.cell) ∈ names
  | [], _, h => by simp at h
  | (n, k) :: r, x, h => by
    have ih := @relabel_cell env r x
    change List.lookup x ((if (k == NameKind.free && env.scope.kind == .function && env.kindOf n == some .cell) = true then (n, NameKind.cell) else (n, k)) :: _) = _ ∨ List.lookup x ((if (k == NameKind.free && env.scope.kind == .function && env.kindOf n == some .cell) = true then (n, NameKind.cell) else (n, k)) :: _) = _ at h
    cases hx : x == n with
    | true =>
      have e : x = n := by simpa using hx
      by_cases hc : (k == NameKind.free && env.scope.kind == .function && env.kindOf n == some .cell) = true
      · have hk : k = .free := by
          simp only [Bool.and_eq_true, beq_iff_eq] at hc
          exact hc.1.1
        rw [e, hk]; exact .inl (List.mem_cons_self ..)
      · rw [if_neg hc] at h
        simp only [List.lookup_cons, hx, Option.some.injEq] at h
        rcases h with h | h
        · rw [e, h]; exact .inr (List.mem_cons_self ..)
        · rw [e, h]; exact .inl (List.mem_cons_self ..)
    | false =>
      by_cases hc : (k == NameKind.free && env.scope.kind == .function && env.kindOf n == some .cell) = true
      · rw [if_pos hc] at h; simp only [List.lookup_cons, hx] at h; exact (ih h).imp (List.mem_cons_of_mem _) (List.mem_cons_of_mem _)
      · rw [if_neg hc] at h; simp only [List.lookup_cons, hx] at h; exact (ih h).imp (List.mem_cons_of_mem _) (List.mem_cons_of_mem _)
def Weak (σ σ2 : St) : Prop := σ2.length = σ.length ∧ ∀ (i : Nat) (v : V), σ[i]? = some (some v) → σ2[i]? = some (some v)
theorem Weak.refl (σ : St) : Weak σ σ := ⟨rfl, fun _ _ h => h⟩
theorem Weak.set {σ : St} {i : Nat} {o : Option V} (h : ∀ v, σ[i]? ≠ some (some v)) : Weak σ (σ.set i o) := ⟨by simp, fun j v e => by
  have : i ≠ j := fun z => h v (z ▸ e)
  rw [List.getElem?_set_ne this]
  exact e⟩
theorem Weak.trans {a b c : St} (h : Weak a b) (h' : Weak b c) : Weak a c := ⟨h'.1.trans h.1, fun i v e => h'.2 i v (h.2 i v e)⟩
/-- the tests -/
def PIf (X : Cx) (ifs : List Expr) (t : TT) : Prop := ∀ (pins : List (Addr × Obj)) (s : Shared) (σ : St) (H : Hp) (Q : Bool → Hp → Prop), Inv X pins σ H s → t σ H Q →
  wpAny (model X.prog X.w) X.A (forIn ifs true fun c r => if r = true then do let ok ← isTrue c X.env (eval c X.env); pure (ForInStep.yield ok) else pure (ForInStep.yield r)) (TP X pins σ Q) X.xe s
def tYes : TT := fun _ H Q => Q true H
theorem pif_nil {X : Cx} : PIf X [] tYes := fun _ _ _ H _ I h => wpAny_tests_nil ⟨H, I, h⟩
def tComp (src : List (Option Nat)) (wi : TI) (g : TG) (tc : TT) (te : TE) : TE := fun σ H Q => wi σ H fun J H1 => ∃ W : Nat → Nat → List V → Hp → Prop, (∃ m, W 0 m [] H1) ∧ ∀ i m ys H2, W i m ys H2 →
  (J.stop i H2 ∧ ys.length ≤ sizeLine ∧ ∀ p, H2 p = none → Q (.ref p) (upd H2 p (.lst ys))) ∨
  (J.go i H2 ∧ ∀ x H3, J.yld i H2 x H3 → g x (seen σ src) H3 fun σ2 H4 => Weak (seen σ src) σ2 ∧ tc σ2 H4 fun b H5 =>
    if b = true then te σ2 H5 fun y H6 => ys.length < sizeLine ∧ ∃ m', m' < m ∧ W (i + 1) m' (ys ++ [y]) H6 else ∃ m', m' < m ∧ W (i + 1) m' ys H5)
theorem cellsFrom_app : ∀ (names : List (Str × NameKind)) (n : Nat) (acc : List (Str × Addr)), cellsFrom n names acc = cellsFrom n names [] ++ acc
  | [], _, acc => rfl
  | (x, k) :: r, n, acc => by
    unfold cellsFrom
    split
    · rw [cellsFrom_app r (n + 1) ((x, n) :: acc), cellsFrom_app r (n + 1) [(x, n)], List.append_assoc]
      rfl
    · exact cellsFrom_app r n acc
theorem cellsFrom_mem : ∀ (names : List (Str × NameKind)) (n : Nat) (acc : List (Str × Addr)) (x : Str) (c : Addr), (x, c) ∈ cellsFrom n names acc → (x, c) ∈ acc ∨ (x, NameKind.cell) ∈ names
  | [], _, _, _, _, h => .inl h
  | (y, k) :: r, n, acc, x, c, h => by
    unfold cellsFrom at h
    split at h
    · rename_i hk
      have hk' : k = .cell := by simpa using hk
      rcases cellsFrom_mem r _ _ x c h with z | z
      · rcases List.mem_cons.mp z with z | z
        · cases z
          exact .inr (hk' ▸ List.mem_cons_self ..)
        · exact .inl z
      · exact .inr (List.mem_cons_of_mem _ z)
    · rcases cellsFrom_mem r _ _ x c h with z | z
      · exact .inl z
      · exact .inr (List.mem_cons_of_mem _ z)
theorem new_around {M : Model} {A : Around} {E : Value → Shared → Prop} {s : Shared} {scope : Scope} {globals : Addr} {cl : List (Str × Addr)} {qual : Str} {env : Env} {Q : Env → Shared → Prop}
    (h : ∀ h', h'.Ns s.heap.objs.size (fun _ => none) → (∀ b o, s.heap.get? b = some o → h'.get? b = some o) → CellsOk h' (s.heap.objs.size + 1) (cellsFrom (s.heap.objs.size + 1) scope.names []) →
      Q { scope, locals := s.heap.objs.size, globals, cells := cellsFrom (s.heap.objs.size + 1) scope.names [] ++ cl, qual, func := none, code := env.code, frame := env.frame, builtins := env.builtins } { s with heap := h' }) :
    wpAny M A (newFunctionEnv scope globals cl [] qual none .none (some env)) Q E s := by
  simp only [newFunctionEnv, Option.isSome_some, if_true]
  refine wpAny_bind (wpAny_alloc ?_)
  refine wpAny_bind (wpAny_layCells _ (fun name kind cells => by cases hkc : kind == NameKind.cell <;> simp [hkc]) _ _ _ _ ?_)
  have ok := cellsFrom_ok scope.names (s.heap.push { cls := .type "dict", data := .dict #[] }) (s.heap.objs.size + 1) [] ⟨fun _ _ hm => (nomatch hm), List.Pairwise.nil⟩ (by rw [Heap.size_push]; exact Nat.le_refl _)
  rw [Heap.size_push] at ok
  rw [show ({ s with heap := s.heap.push { cls := .type "dict", data := .dict #[] } } : Shared).heap.objs.size = s.heap.objs.size + 1 from Heap.size_push .., cellsFrom_app]
  rw [List.forIn_nil]
  exact wpAny_bind (wpAny_pure (wpAny_pure (h _ ((Heap.Ns.new s.heap (.type "dict")).keeps (pushCells_keeps _ _)) (fun b o e => pushCells_keeps _ _ b o (Heap.get?_push_of_some _ e)) ok)))
/-- a comprehension, whatever is done with its list -/
theorem comp_core {X : Cx} {elt tg iter : Expr} {ifs : List Expr} {scope : Scope} {pos pos2 : Pos} {N : List Str} {src : List (Option Nat)} {wi : TI} {g : TG} {tc : TT} {te : TE} {use : Option (Value → Sem Unit)} {Post : Value → Shared → Prop} {pins : List (Addr × Obj)} {s : Shared} {σ : St} {H : Hp} {Q : VK}
    (hc : X.calm = true) (S : CompScope X scope N src) (hi : PI X tg iter wi)
    (hg : ∀ s H cl C fp, PG (cxC X s H scope cl C N fp) tg g) (hf : ∀ s H cl C fp, PIf (cxC X s H scope cl C N fp) ifs tc) (he : ∀ s H cl C fp, PE (cxC X s H scope cl C N fp) elt te)
    (hs : ∀ x, foldedSetIterable iter X.env x = pure x) (I : Inv X pins σ H s) (h : tComp src wi g tc te σ H Q)
    (fin : ∀ (C a : Addr) (H1 : Hp) (s' : Shared), (∀ h', Heap.SameBut C s'.heap h' → Inv X pins σ H1 { s' with heap := h' }) → FpOk X pins H1 C → (∃ m, s'.heap.Ns C m) → Q (.ref a) H1 → compPost (model X.prog X.w) X.A X.xe use Post (.ref a) C (.ok .next) s') :
    wpAny (model X.prog X.w) X.A (comprehension (.ListComp elt [⟨tg, iter, ifs, 0⟩] scope pos) scope X.env pos2 (newList []) false (eval iter X.env) use) Post X.xe s := by
  obtain ⟨cl, hcl, cl1, cl2⟩ := closure_of (scope := scope) (env := X.env) (fun x hx => I.ok.has x (S.has x hx))
  refine wpAny_comprehension_free (use := use) rfl hs hcl S.kind S.own (thn (hi pins s σ H _ I h) fun v s1 h1 => thn h1 fun itv s2 h2 => ?_)
  obtain ⟨it, fp, tn, J, H2, rfl, I2, T, st2, f2, W, ⟨m0, w0⟩, turn⟩ := h2
  refine wpAny_newObj_type (new_around fun h3 hns hsb cok => ?_)
  dsimp only at hns hsb cok ⊢
  generalize hHd : s2.heap.push { cls := .type "list", dict := none, data := .seq ([] : List Value).toArray } = Hd at hns hsb cok ⊢
  have hCs : Hd.objs.size = s2.heap.objs.size + 1 := by rw [← hHd, Heap.size_push]
  have hDC : s2.heap.objs.size ≠ Hd.objs.size := by rw [hCs]; exact Nat.ne_of_lt (Nat.lt_succ_self _)
  have below : ∀ b, b < s2.heap.objs.size → b ≠ Hd.objs.size ∧ b ≠ s2.heap.objs.size := fun b hb => ⟨by rw [hCs]; exact Nat.ne_of_lt (Nat.lt_succ_of_lt hb), Nat.ne_of_lt hb⟩
  have old : ∀ b o, s2.heap.get? b = some o → h3.get? b = some o := fun b o e => hsb b o (hHd ▸ Heap.get?_push_of_some _ e)
  have hacc : h3.get? s2.heap.objs.size = some { cls := .type "list", dict := none, data := .seq ([] : List Value).toArray } := hsb _ _ (hHd ▸ Heap.get?_push_size _ rfl)
  have fpObj := T.obj 0 _ st2
  have fpLt : ∀ b ∈ fp, b < s2.heap.objs.size := fun b hb => by
    obtain ⟨o, e, _⟩ := fpObj b hb
    exact Heap.lt_size e
  generalize hown : cellsFrom (Hd.objs.size + 1) scope.names [] = own at cok ⊢
  have ownC : ∀ x c, (x, c) ∈ own → scope.names.lookup x = some .cell := fun x c hm => by
    rw [← hown] at hm
    rcases cellsFrom_mem _ _ _ _ _ hm with z | z
    · exact nomatch z
    · exact S.cells _ z rfl
  have two : ∀ x c, (own ++ cl).lookup x = some c → (cl.lookup x = some c ∧ c < s2.heap.objs.size) ∨ ((x, c) ∈ own ∧ h3.IsCell c none ∧ Hd.objs.size < c) := fun x c e => by
    rw [List.lookup_append] at e
    cases ho : own.lookup x with
    | none =>
      rw [ho, Option.none_or] at e
      obtain ⟨v, q⟩ := I2.cell x c (cl1 x c e)
      exact .inl ⟨e, q.lt⟩
    | some c' =>
      rw [ho, Option.some_or] at e
      cases e
      have hm := mem_of_lookup ho
      exact .inr ⟨hm, (cok.empty x c hm).1, (cok.empty x c hm).2⟩
  have cellNe : ∀ x c, (own ++ cl).lookup x = some c → c ≠ s2.heap.objs.size ∧ ∀ b ∈ fp, c ≠ b := fun x c e => by
    rcases two x c e with ⟨e, lt⟩ | ⟨_, _, lt⟩
    · exact ⟨Nat.ne_of_lt lt, fun b hb => (f2 b hb).2.2.2.2.1 x c (cl1 x c e)⟩
    · rw [hCs] at lt
      exact ⟨Nat.ne_of_gt (Nat.lt_trans (Nat.lt_succ_self _) lt), fun b hb => Nat.ne_of_gt (Nat.lt_trans (fpLt b hb) (Nat.lt_trans (Nat.lt_succ_self _) lt))⟩
  have fresh : ∀ a, s2.heap.objs.size ≤ a → s2.heap.get? a = none := fun a ha => by
    cases e : s2.heap.get? a with
    | none => rfl
    | some o' => exact absurd (Heap.lt_size e) (Nat.not_lt.mpr ha)
  -- the context
  have okY : (cxC X s2 H2 scope (own ++ cl) Hd.objs.size N fp).Ok := by
    refine ⟨I2.ok.mod, S.kind, I2.ok.glob, I2.ok.blt, ?_, ?_, ?_, ?_, fun hcc => I2.ok.hd hcc, I2.ok.frames, .inl rfl, fun b hb => ⟨(below b (fpLt b hb)).1, fun x c e => (cellNe x c e).2 b hb⟩,
      I2.bs, Nat.le_trans I2.ok.bsz I2.sz, fun b o e hb => ?_, fun b hb z => (List.mem_cons.mp (I2.stkSub b z)).elim (f2 b hb).2.1 (f2 b hb).2.2.1, I2.stack, I2.stkFree⟩
    · show s2.heap.objs.size ≤ Hd.objs.size
      rw [hCs]; exact Nat.le_succ _
    · intro x y c e1 e2
      rcases two x c e1 with ⟨e1, l1⟩ | ⟨m1, _, l1⟩ <;> rcases two y c e2 with ⟨e2, l2⟩ | ⟨m2, _, l2⟩
      · exact I2.ok.inj x y c (cl1 x c e1) (cl1 y c e2)
      · rw [hCs] at l2; exact absurd (Nat.lt_trans l1 (Nat.lt_trans (Nat.lt_succ_self _) l2)) (Nat.lt_irrefl _)
      · rw [hCs] at l1; exact absurd (Nat.lt_trans l2 (Nat.lt_trans (Nat.lt_succ_self _) l1)) (Nat.lt_irrefl _)
      · exact name_of_addr cok.apart m1 m2
    · intro x hx
      show ∃ c, (own ++ cl).lookup x = some c
      rw [List.lookup_append]
      cases ho : own.lookup x with
      | some c => exact ⟨c, rfl⟩
      | none =>
        rw [Option.none_or]
        rcases relabel_cell hx with z | z
        · exact cl2 x z
        · have := PySem.W.cellsFrom_some scope.names (Hd.objs.size + 1) [] (.inl (S.cells _ z rfl))
          rw [hown, ho] at this
          cases this
    · intro x c hf e
      have hf' : scope.names.lookup x = some .cell := by simpa [cxC] using hf
      have := PySem.W.cellsFrom_some scope.names (Hd.objs.size + 1) [] (.inl hf')
      rw [hown] at this
      obtain ⟨c', ho⟩ := Option.isSome_iff_exists.mp this
      have e' : (own ++ cl).lookup x = some c := e
      rw [List.lookup_append, ho, Option.some_or] at e'
      cases e'
      have := (cok.empty x c (mem_of_lookup ho)).2
      show s2.heap.objs.size ≤ c
      rw [hCs] at this
      omega
    · rcases (f2 b hb).2.2.2.1 with z | z
      · exact I2.ok.noex b o e z
      · exact absurd (Nat.lt_of_lt_of_le (Heap.lt_size e) (Nat.le_trans I2.ok.bsz z)) (Nat.lt_irrefl _)
  have IY : Inv (cxC X s2 H2 scope (own ++ cl) Hd.objs.size N fp) [] (seen σ src) H2 { s2 with heap := h3 } := by
    refine ⟨okY, rfl, I2.bare, Un.kept old, ⟨_, hns, fun i x v e1 e2 _ => ?_⟩, fun x c e => ?_, I2.hok.fresh (by show s2.heap.objs.size ≤ Hd.objs.size; rw [hCs]; exact Nat.le_succ _), ?_, fun p hp => (nomatch hp), I2.hok.kept old, ?_⟩
    · unfold seen at e2
      rw [List.getElem?_map] at e2
      cases hsr : src[i]? with
      | none => rw [hsr] at e2; cases e2
      | some oj =>
        rw [hsr] at e2
        cases oj with
        | none => cases e2
        | some j =>
          obtain ⟨hN, hfr, hlk⟩ := S.src i j x hsr e1
          have e3 : σ[j]? = some (some v) := by
            have : (σ[j]?).join = some v := Option.some.inj e2
            cases hj : σ[j]? with
            | none => rw [hj] at this; cases this
            | some o => rw [hj] at this; cases this; rfl
          have hk := S.has x hfr
          have vis : Vis X.env.scope x := by
            rcases hk with z | z
            · exact .inr (.inl z)
            · exact .inr (.inr z)
          obtain ⟨m, hnm, hl⟩ := I2.loc
          obtain ⟨u, r, l⟩ := hl j x v hN e3 vis
          refine ⟨u, r, .inr ⟨lookup_relabel_free hlk, ?_⟩⟩
          rcases l with ⟨l1, _⟩ | ⟨_, c, ec, ic⟩
          · rcases hk with z | z <;> (rw [l1] at z; cases z)
          · obtain ⟨c', ec'⟩ := cl2 x hfr
            have := cl1 x c' ec'
            rw [ec] at this
            cases this
            obtain ⟨o, ho, hd⟩ := ic
            have hno : own.lookup x = none := by
              cases ho : own.lookup x with
              | none => rfl
              | some c2 =>
                have := ownC x c2 (mem_of_lookup ho)
                rw [hlk] at this
                cases this
            exact ⟨c, by show (own ++ cl).lookup x = some c; rw [List.lookup_append, hno, Option.none_or]; exact ec', o, old _ _ ho, hd⟩
    · rcases two x c e with ⟨e, _⟩ | ⟨_, q, _⟩
      · obtain ⟨v, o, ho, hd⟩ := I2.cell x c (cl1 x c e)
        exact ⟨v, o, old _ _ ho, hd⟩
      · exact ⟨none, q⟩
    · intro x c e
      rcases two x c e with ⟨e, _⟩ | ⟨_, _, lt⟩
      · exact I2.freeC x c (cl1 x c e)
      · exact I2.hok.fresh (by rw [hCs] at lt; omega)
    · show (seen σ src).length = N.length
      unfold seen
      rw [List.length_map, S.len]
  have dFs : s2.heap.objs.size ∉ frs X.stack := fun z => by
    obtain ⟨_, o, ho, _⟩ := I2.stack.mem z
    exact absurd (Heap.lt_size ho) (Nat.lt_irrefl _)
  have cFs : Hd.objs.size ∉ frs X.stack := fun z => by
    obtain ⟨_, o, ho, _⟩ := I2.stack.mem z
    have z2 := Heap.lt_size ho
    rw [hCs] at z2
    exact absurd z2 (Nat.not_lt.mpr (Nat.le_succ _))
  have stat : ∀ {H' : Hp} {pn : List (Addr × Obj)}, (∀ b ∈ fp, H' b = none) → (∀ p ∈ pn, p.1 = s2.heap.objs.size) → ∀ b ∈ fp, FpOk (cxC X s2 H2 scope (own ++ cl) Hd.objs.size N fp) pn H' b := fun hn hp b hb =>
    ⟨hn b hb, (below b (fpLt b hb)).1, okY.exfs b hb, .inl hb, fun x c e => (cellNe x c e).2 b hb, fun p q z => (below b (fpLt b hb)).2 (z ▸ hp p q)⟩
  have loop : ∀ sA : Shared, sA = { s2 with heap := h3 } →
      codeAny (model X.prog X.w) X.A (.compLoop (.ListComp elt [⟨tg, iter, ifs, 0⟩] scope pos) 0 (.ref it) (.ref s2.heap.objs.size) (compEnvC scope (own ++ cl) Hd.objs.size X.env))
        (compPost (model X.prog X.w) X.A X.xe use Post (.ref s2.heap.objs.size) Hd.objs.size) sA := by
    rintro sA rfl
    refine compLoop_any (fun n s' => ∃ (i : Nat) (ys : List V) (its : List Value) (k : Nat) (σ3 : St) (H3 : Hp), Inv (cxC X s2 H2 scope (own ++ cl) Hd.objs.size N fp) [] σ3 H3 s' ∧ Weak (seen σ src) σ3 ∧ tn i s'.heap ∧ (∀ b ∈ fp, H3 b = none) ∧ W i n ys H3 ∧
        s'.heap.get? s2.heap.objs.size = some { cls := .type "list", data := .seq its.toArray k } ∧ Vals ys its ∧ H3 s2.heap.objs.size = none) ?_ m0
      ⟨0, [], [], 0, _, H2, IY, Weak.refl _, T.keep 0 _ _ st2 (fun b hb o e => old b o e), fun b hb => (f2 b hb).1, w0, hacc, .nil, I2.fresh⟩
    rintro n s3 ⟨i, ys, its, k, σ3, H3, I3, wk, st3, fr3, w3, hD, rv, nD⟩
    have I4 : Inv (cxC X s2 H2 scope (own ++ cl) Hd.objs.size N fp) [] (seen σ src) H3 s3 := I3.weak wk.1.symm wk.2
    have I5 : Inv (cxC X s2 H2 scope (own ++ cl) Hd.objs.size N fp) [(s2.heap.objs.size, { cls := .type "list", data := .seq its.toArray k })] (seen σ src) H3 s3 := I4.pins_of fun p hp => by
      cases List.mem_singleton.mp hp
      exact ⟨hD, nD, hDC, dFs, fun v z => nomatch z⟩
    have one : ∀ p ∈ [((s2.heap.objs.size, { cls := .type "list", data := .seq its.toArray k }) : Addr × Obj)], p.1 = s2.heap.objs.size := fun p hp => by
      cases List.mem_singleton.mp hp
      rfl
    rcases turn i n ys H3 w3 with ⟨stop, hlen, q⟩ | ⟨go, step⟩
    · refine thn (T.done (cxC X s2 H2 scope (own ++ cl) Hd.objs.size N fp) rfl rfl rfl hc i _ s3 _ H3 _ I5 (stat fr3 one) st3 stop) fun r s4 ⟨hr, I6⟩ => ?_
      subst hr
      have hD4 := (I6.pin _ (List.mem_append_right _ (List.mem_singleton.mpr rfl))).1
      obtain ⟨m, hn4, _⟩ := I6.loc
      refine fin Hd.objs.size s2.heap.objs.size (upd H3 s2.heap.objs.size (.lst ys)) s4 (fun h' hsb' => ?_) (I2.fpOk (by rw [hCs]; exact Nat.le_succ _) (by rw [upd_ne (Ne.symm hDC)]; exact I6.free)) ⟨m, hn4⟩ (q _ nD)
      have kp : ∀ b o, b ≠ Hd.objs.size → s4.heap.get? b = some o → h'.get? b = some o := fun b o hb e => (hsb'.2 b hb).trans e
      have neC : ∀ b o, s2.heap.get? b = some o → b ≠ Hd.objs.size := fun b o e => (below b (Heap.lt_size e)).1
      have un : Un (frs X.stack) fp H2 H3 s2.heap h' := by
        have u0 : Un (frs X.stack) fp H2 H3 s2.heap s4.heap := I6.base
        refine ⟨fun b o e n' hb hx => kp b o (neC b o e) (u0.keep b o e n' hb hx), fun b o e n' hb hx => ?_, u0.free, fun b o e hx => ?_, u0.tups, u0.frzs, u0.tbls⟩
        · obtain ⟨sl, e1⟩ := u0.slot b o e n' hb hx
          exact ⟨sl, kp b _ (neC b o e) e1⟩
        · obtain ⟨o', e1⟩ := u0.there b o e hx
          exact ⟨o', kp b o' (neC b o e) e1⟩
      have nC : H3 Hd.objs.size = none := I6.free
      have hok : HOk X.prog X.w H3 h' := fun a o e => (I6.hok a o e).stay (fun b u hb q' => kp b u (fun z => by
        rcases hb with rfl | hb
        · rw [z, nC] at e; cases e
        · rw [z, nC] at hb; cases hb) q') (fun _ q' => q') fun _ _ q' => q'
      have I7 : Inv X pins σ H3 { s4 with heap := h' } := I2.call' (s' := { s4 with heap := h' }) I6.os un hok I6.bare (fun b hb => ⟨(f2 b hb).2.2.2.1, (f2 b hb).2.1, (f2 b hb).2.2.2.2.1, (f2 b hb).2.2.2.2.2⟩)
      have e0 : X.s₀.heap.get? s2.heap.objs.size = none := by
        cases e : X.s₀.heap.get? s2.heap.objs.size with
        | none => rfl
        | some o => exact absurd (Nat.lt_of_lt_of_le (Heap.lt_size e) I2.sz) (Nat.lt_irrefl _)
      have I8 : Inv X pins σ (upd H3 s2.heap.objs.size (.lst ys)) { s4 with heap := h' } := I7.track nD e0 (fun z => Nat.lt_irrefl _ (z ▸ I2.lt)) (fun x c e z => by
        obtain ⟨v, q'⟩ := I2.cell x c e
        exact Nat.lt_irrefl _ (z ▸ q'.lt)) (fun p hp z => Nat.lt_irrefl _ (z ▸ Heap.lt_size (I2.pin p hp).1)) ⟨hlen, its, k, rv, kp _ _ hDC hD4⟩
      exact I8
    · refine thn (T.item (cxC X s2 H2 scope (own ++ cl) Hd.objs.size N fp) rfl rfl rfl hc i _ s3 _ H3 _ I5 (stat fr3 one) st3 go) fun r s4 ⟨u, hr, h4⟩ => ?_
      subst hr
      refine thn h4 fun _ s5 ⟨x, H5, I6, r5, y5, st5, fr5⟩ => ?_
      have I6' := I6.pinned (stat fr5 one) (T.obj _ _ st5)
      refine thn (hg _ _ _ _ _ _ s5 _ H5 x u _ I6' r5 (step x H5 y5)) fun _ s6 ⟨σ6, H6, I7, wk6, q6⟩ => ?_
      refine thn (hf _ _ _ _ _ _ s6 σ6 H6 _ I7 q6) fun ok s7 ⟨H7, I8, q7⟩ => ?_
      have back : ∀ {σ' : St} {H' : Hp} {s' : Shared}, Inv (cxC X s2 H2 scope (own ++ cl) Hd.objs.size N fp) ([(s2.heap.objs.size, { cls := .type "list", data := .seq its.toArray k })] ++ pinsAt fp s5.heap) σ' H' s' →
          tn (i + 1) s'.heap ∧ (∀ b ∈ fp, H' b = none) ∧ s'.heap.get? s2.heap.objs.size = some { cls := .type "list", data := .seq its.toArray k } ∧ H' s2.heap.objs.size = none := fun {σ' H' s'} J => by
        have jD := J.pin (s2.heap.objs.size, { cls := .type "list", data := .seq its.toArray k }) (by simp)
        refine ⟨T.keep _ _ _ st5 fun b hb o e => (J.pin (b, o) (List.mem_append_right _ (List.mem_append_right _ (mem_pinsAt hb e)))).1, fun b hb => ?_, jD.1, jD.2.1⟩
        obtain ⟨o, e, d⟩ := T.obj _ _ st5 b hb
        exact (J.pin (b, o) (List.mem_append_right _ (List.mem_append_right _ (mem_pinsAt hb e)))).2.1
      cases ok with
      | false =>
        rw [if_neg Bool.false_ne_true] at q7
        rw [if_neg Bool.false_ne_true]
        obtain ⟨m', hm, w'⟩ := q7
        obtain ⟨b1, b2, b3, b4⟩ := back I8
        exact ⟨m', hm, i + 1, ys, its, k, σ6, H7, I8.nopins, wk6, b1, b2, w', b3, rv, b4⟩
      | true =>
        rw [if_pos rfl] at q7
        rw [if_pos rfl]
        refine thn (he _ _ _ _ _ _ s7 σ6 H7 _ I8 q7) fun u2 s8 ⟨y, H8, I9, r9, hlt, m', hm, w'⟩ => ?_
        obtain ⟨b1, b2, b3, b4⟩ := back I9
        have hl := rv.length
        refine call_meets F.slot_list_append ⟨_, b3, rfl⟩ F.entry_list_append (F.args_list_append_2 _ _) (PySem.list_append s2.heap.objs.size its.toArray k u2 (by rw [List.size_toArray]; omega)) ⟨b3, ?_⟩
        have qu := PySem.IsL.update b3 (·.push u2)
        rw [show its.toArray.push u2 = (its ++ [u2]).toArray by simp] at qu
        refine ⟨m', hm, i + 1, ys ++ [y], its ++ [u2], _, σ6, H8, ?_, wk6, ?_, b2, w', qu, rv.append (.cons r9 .nil), b4⟩
        · exact I9.nopins.turned (it := s2.heap.objs.size) (fun b o hb e => (Heap.get?_update_other s8.heap (Obj.mapSeq _) (Ne.symm hb)).trans e) b4 hDC (.inr (Nat.le_refl _)) (fun x c e z => (cellNe x c e).1 z) (fun p hp => nomatch hp)
        · exact T.keep _ _ _ b1 fun b hb o e => (Heap.get?_update_other s8.heap (Obj.mapSeq _) ((below b (fpLt b hb)).2.symm)).trans e
  exact codeAny_compStart_list (loop _ rfl) (T.self _ 0 _ _ _ (T.keep 0 _ _ st2 (fun b hb o e => old b o e)) (loop _ rfl))
theorem pe_comp {X : Cx} {elt tg iter : Expr} {ifs : List Expr} {scope : Scope} {pos : Pos} {N : List Str} {src : List (Option Nat)} {wi : TI} {g : TG} {tc : TT} {te : TE} (hc : X.calm = true) (S : CompScope X scope N src) (hi : PI X tg iter wi)
    (hg : ∀ s H cl C fp, PG (cxC X s H scope cl C N fp) tg g) (hf : ∀ s H cl C fp, PIf (cxC X s H scope cl C N fp) ifs tc) (he : ∀ s H cl C fp, PE (cxC X s H scope cl C N fp) elt te)
    (hs : ∀ x, foldedSetIterable iter X.env x = pure x := by intro _; rfl) : PE X (.ListComp elt [⟨tg, iter, ifs, 0⟩] scope pos) (tComp src wi g tc te) := by
  intro pins s σ H Q I h
  rw [eval_ListComp]
  refine comp_core (use := none) hc S hi hg hf he hs I h fun C a H1 s' key _ ⟨m, hn⟩ q => ⟨m, hn, fun h' sb => ⟨.ref a, H1, key h' sb, rfl, q⟩⟩
/-- x = [.. for ..], x a local name on the same row: stored before the block's names are let go -/
theorem ps_setComp {X : Cx} {elt tg iter : Expr} {ifs : List Expr} {scope : Scope} {pos spos pos' : Pos} {x : Str} {i : Nat} {N : List Str} {src : List (Option Nat)} {wi : TI} {g : TG} {tc : TT} {te : TE} (hc : X.calm = true) (S : CompScope X scope N src) (hi : PI X tg iter wi)
    (hg : ∀ s H cl C fp, PG (cxC X s H scope cl C N fp) tg g) (hf : ∀ s H cl C fp, PIf (cxC X s H scope cl C N fp) ifs tc) (he : ∀ s H cl C fp, PE (cxC X s H scope cl C N fp) elt te) (ht : PG X (.Name x pos') (gName i))
    (hsw : swapsWith (.ListComp elt [⟨tg, iter, ifs, 0⟩] scope pos) (some (.Name x pos')) spos.line X.env = pure true := by rfl)
    (hs : ∀ x, foldedSetIterable iter X.env x = pure x := by intro _; rfl) : PS X (.Assign [.Name x pos'] (.ListComp elt [⟨tg, iter, ifs, 0⟩] scope pos) spos) (tAsg (tComp src wi g tc te) (gName i)) := by
  intro pins s σ H D I h
  rw [exec_Assign_Name_used _ _ _ _ hsw]
  refine wpAny_bind (wpAny_standAt (wpAny_bind ?_))
  rw [arm_evalThenUse_ListComp]
  refine wpAny_bind ?_
  refine comp_core (use := some (assign (.Name x pos') X.env)) hc S hi hg hf he hs I h fun C a H1 s' key fp ⟨m, o, es, ep, ho, hd, hk⟩ q => ?_
  have I1 : Inv X pins σ H1 s' := key s'.heap (Heap.SameBut.refl _ _)
  have I2 := I1.pinned (fp := [C]) (fun b hb => by rw [List.mem_singleton.mp hb]; exact fp) (fun b hb => by rw [List.mem_singleton.mp hb]; exact ⟨o, ho, fun v z => by rw [hd] at z; cases z⟩)
  refine thn (ht _ s' σ H1 (.ref a) (.ref a) _ I2 rfl q) fun _ s5 ⟨σ5, H5, I5, q5⟩ => ?_
  have pC := I5.pin (C, o) (List.mem_append_right _ (List.mem_append_right _ (mem_pinsAt (List.mem_singleton.mpr rfl) ho)))
  obtain ⟨f0, f1, f2, f3, f4, f5⟩ := fp
  refine ⟨m, ⟨o, es, ep, pC.1, hd, hk⟩, fun h' sb => ?_⟩
  exact wpAny_pure (wpAny_pure ⟨σ5, H5, I5.unpinned.turned (it := C) (t' := s5.toks) (fun b o' hb e => (sb.2 b hb).trans e) pC.2.1 f1 f3 f4 f5, q5⟩)
/-! ### a scope that is written -/
def compOkB (osc sc : Scope) (oN N : List Str) (src : List (Option Nat)) : Bool :=
  sc.names.all (fun y => decide (y.2 ≠ .cell) || decide (sc.names.lookup y.1 = some .cell)) && sc.names.all (fun y => decide (y.2 ≠ .local) || decide (sc.names.lookup y.1 = some .local)) &&
  sc.names.all (fun y => decide (y.2 ≠ .free) || decide (osc.names.lookup y.1 = some .cell) || decide (osc.names.lookup y.1 = some .free)) && decide (src.length = N.length) &&
  (List.range src.length).all (fun i => match src[i]?, N[i]? with | some (some j), some x => decide (oN[j]? = some x) && decide ((x, NameKind.free) ∈ sc.names) && decide (sc.names.lookup x = some .free) | _, _ => true)
theorem comp_scope {X : Cx} {scope : Scope} {N : List Str} {src : List (Option Nat)} (osc : Scope) (oN : List Str) (e1 : X.env.scope = osc) (e2 : X.N = oN) (c : compOkB osc scope oN N src = true) (k : scope.kind = .function) : CompScope X scope N src := by
  unfold compOkB at c
  simp only [Bool.and_eq_true, List.all_eq_true, decide_eq_true_eq, Bool.or_eq_true] at c
  obtain ⟨⟨⟨⟨c1, c2⟩, c3⟩, c4⟩, c5⟩ := c
  refine ⟨k, fun y hy e => (c1 y hy).resolve_left fun z => z e, fun y hy e => ?_, fun x hx => ?_, c4, fun i j x h1 h2 => ?_⟩
  · rcases c2 y hy with z | z
    · exact absurd e z
    · exact z
  · show X.env.scope.names.lookup x = _ ∨ X.env.scope.names.lookup x = _
    rw [e1]
    rcases c3 (x, .free) hx with (z | z) | z
    · exact absurd rfl z
    · exact .inl z
    · exact .inr z
  · have hi : i < src.length := (List.getElem?_eq_some_iff.mp h1).1
    have z := c5 i (List.mem_range.mpr hi)
    rw [h1, h2] at z
    simp only [Bool.and_eq_true, decide_eq_true_eq] at z
    rw [e2]
    exact ⟨z.1.1, z.1.2, z.2⟩
end L2
/-! EvMore: data read off the abstract heap and compared, any, all; promises of defs in bundles. Behind EvComp. -/
namespace L2
open PySem PySem.Spec PyProof.Rows
/-! ### data -/
mutual
def IsD (K : PySem.W.Frag) (H : Hp) : PyData → V → Prop
  | .none, v => v = .non
  | .bool b, v => v = .bl b
  | .int i, v => v = .int i
  | .str x, v => v = .str x
  | .list ds, v => ∃ a xs, v = .ref a ∧ SqL K H a xs ∧ IsDs K H ds xs
  | .tuple ds, v => ∃ a xs, v = .ref a ∧ SqT K H a xs ∧ IsDs K H ds xs
  | .dict _, _ => False
def IsDs (K : PySem.W.Frag) (H : Hp) : List PyData → List V → Prop
  | [], xs => xs = []
  | d :: ds, xs => ∃ x r, xs = x :: r ∧ IsD K H d x ∧ IsDs K H ds r
end
theorem isTup_reads {h : Heap} {a : Addr} {its : Array Value} (t : IsTup h a its) : ∃ o n, h.get? a = some o ∧ o.cls = .type "tuple" ∧ o.data = .seq its n := by
  obtain ⟨o, ho, hc, n, hd⟩ := t
  exact ⟨o, n, ho, hc, hd⟩
section
variable {X : Cx} {pins : List (Addr × Obj)} {σ : St} {H : Hp} {s : Shared}
mutual
theorem IsD.reads (I : Inv X pins σ H s) : ∀ (d : PyData) {v : V} {u : Value}, IsD X.K H d v → RelV v u → ∃ as, Reads s.heap u d as
  | .none, v, u, h, r => by
    simp only [IsD] at h; subst h
    cases (show u = .none from r); exact ⟨_, .none⟩
  | .bool b, v, u, h, r => by
    simp only [IsD] at h; subst h
    cases (show u = .bool b from r); exact ⟨_, .bool b⟩
  | .int i, v, u, h, r => by
    simp only [IsD] at h; subst h
    obtain ⟨t, rfl⟩ := r; exact ⟨_, .int i t⟩
  | .str x, v, u, h, r => by
    simp only [IsD] at h; subst h
    obtain ⟨t, rfl⟩ := r; exact ⟨_, .str x t⟩
  | .list ds, v, u, h, r => by
    simp only [IsD] at h
    obtain ⟨a, xs, rfl, hs, hd⟩ := h
    cases (show u = .ref a from r)
    obtain ⟨its, rv, p, _⟩ := I.list hs
    obtain ⟨o, ho, hc, n, hdd⟩ := p.isList
    obtain ⟨as, ra⟩ := IsDs.reads I ds hd rv
    exact ⟨_, .list ho hc hdd (by simpa using ra)⟩
  | .tuple ds, v, u, h, r => by
    simp only [IsD] at h
    obtain ⟨a, xs, rfl, hs, hd⟩ := h
    cases (show u = .ref a from r)
    obtain ⟨its, rv, p, _⟩ := I.tuple hs
    obtain ⟨o, n, ho, hc, hdd⟩ := isTup_reads p
    obtain ⟨as, ra⟩ := IsDs.reads I ds hd rv
    exact ⟨_, .tuple ho hc hdd (by simpa using ra)⟩
  | .dict _, v, u, h, r => by
    simp only [IsD] at h
theorem IsDs.reads (I : Inv X pins σ H s) : ∀ (ds : List PyData) {vs : List V} {us : List Value}, IsDs X.K H ds vs → Vals vs us → ∃ as, ReadsAll s.heap us ds as
  | [], vs, us, h, r => by
    simp only [IsDs] at h; subst h
    cases r; exact ⟨_, .nil⟩
  | d :: ds, vs, us, h, r => by
    simp only [IsDs] at h
    obtain ⟨x, rr, rfl, hx, hr⟩ := h
    cases r with
    | cons r1 r2 =>
      obtain ⟨as, ra⟩ := IsD.reads I d hx r1
      obtain ⟨bs, rb⟩ := IsDs.reads I ds hr r2
      exact ⟨_, .cons ra rb⟩
end
end
mutual
theorem IsD.imp {K : PySem.W.Frag} {H H' : Hp} (sl : ∀ a xs, SqL K H a xs → SqL K H' a xs) (st : ∀ a xs, SqT K H a xs → SqT K H' a xs) : ∀ (d : PyData) {v : V}, IsD K H d v → IsD K H' d v
  | .none, v, h => by simp only [IsD] at h ⊢; exact h
  | .bool b, v, h => by simp only [IsD] at h ⊢; exact h
  | .int i, v, h => by simp only [IsD] at h ⊢; exact h
  | .str x, v, h => by simp only [IsD] at h ⊢; exact h
  | .list ds, v, h => by
    simp only [IsD] at h ⊢
    obtain ⟨a, xs, e, hs, hd⟩ := h
    exact ⟨a, xs, e, sl a xs hs, IsDs.imp sl st ds hd⟩
  | .tuple ds, v, h => by
    simp only [IsD] at h ⊢
    obtain ⟨a, xs, e, hs, hd⟩ := h
    exact ⟨a, xs, e, st a xs hs, IsDs.imp sl st ds hd⟩
  | .dict _, v, h => by simp only [IsD] at h
theorem IsDs.imp {K : PySem.W.Frag} {H H' : Hp} (sl : ∀ a xs, SqL K H a xs → SqL K H' a xs) (st : ∀ a xs, SqT K H a xs → SqT K H' a xs) : ∀ (ds : List PyData) {vs : List V}, IsDs K H ds vs → IsDs K H' ds vs
  | [], vs, h => by simp only [IsDs] at h ⊢; exact h
  | d :: ds, vs, h => by
    simp only [IsDs] at h ⊢
    obtain ⟨x, r, e, hx, hr⟩ := h
    exact ⟨x, r, e, IsD.imp sl st d hx, IsDs.imp sl st ds hr⟩
end
/-! ### == and != of data -/
def rEqD (K : PySem.W.Frag) (neg : Bool) : R2 := fun x y H Q => ∃ da db, IsD K H da x ∧ IsD K H db y ∧ PySem.SeqAt.shaped da = true ∧ PySem.SeqAt.shaped db = true ∧ Q (.bl (if neg then !PyData.eqv da db else PyData.eqv da db)) H
theorem op_eqD {X : Cx} (hu : X.A.units + 64 < cLine) : OpR X (compareOp .Eq) (rEqD X.K false) := by
  intro pins s σ H x y v u Q I rx ry h
  obtain ⟨da, db, ha, hb, sa, sb, q⟩ := h
  obtain ⟨as, ra⟩ := IsD.reads I da ha rx
  obtain ⟨bs, rb⟩ := IsD.reads I db hb ry
  exact PySem.SeqAt.compareEq_shaped ra rb sa sb hu ⟨.bl _, H, I, rfl, q⟩
/-! ### any, all -/
theorem bools_of : ∀ {bs : List Bool} {us : List Value}, Vals (bs.map V.bl) us → LSm.BoolsAre us bs
  | [], _, .nil => .nil
  | b :: bs, _, .cons h t => by
    cases (show _ = Value.bool b from h)
    exact .cons b (bools_of t)
theorem call_all {X : Cx} (hc : X.calm = true) : CallR X (.builtin "all") (fun xs H Q => ∃ (a : Addr) (bs : List Bool), xs = [.ref a] ∧ SqL X.K H a (bs.map V.bl) ∧ Q (.bl (bs.all id)) H) := by
  intro pins s σ H xs us Q I r h
  obtain ⟨a, bs, rfl, hS, q⟩ := h
  obtain ⟨u, rfl, ru⟩ := r.one
  cases (show u = Value.ref a from ru)
  obtain ⟨its, rv, p, _⟩ := I.list hS
  have hl := p.isList
  have hb := bools_of rv
  have hlt : a < s.heap.objs.size := by obtain ⟨_, e, _⟩ := hl; exact Heap.lt_size e
  refine call_all_walk (wpAny_pyIter_list hl ?_)
  refine ⟨s.heap.objs.size, [s.heap.objs.size, a], [s.heap.objs.size], its.toArray.size, _, _, fun i => (bs[i]?).getD true, rfl, Walks.list (A := X.A.in1) (I.ok.hd hc) _ a (Nat.ne_of_lt hlt) its.toArray,
    ⟨⟨_, Heap.get?_push_size _ rfl, rfl, rfl⟩, hl.push _⟩, fun i v s' Q' E' hP hQ => ?_, fun h' tk hk => ?_⟩
  · obtain ⟨b, e, rfl⟩ := hb.get i v (by simpa using hP)
    simp only [e, Option.getD_some] at hQ
    exact wpAny_truthy_bool hQ
  · have e : ((List.range its.toArray.size).all fun i => (bs[i]?).getD true) = bs.all id := by
      rw [List.size_toArray, hb.length]; exact LSm.range_all bs
    rw [e]
    exact ⟨.bl _, H, I.kept (LSm.kept_iter hk), rfl, q⟩
/-! ### a def with its promise, in one -/
def Pm (P : Program) (w : World) (K : PySem.W.Frag) (mg : Str → Option Value) (base : Heap) (CX : CXT) (k : Nat) (x : Str) (ps : List Str) (sp : Sp) : Prop :=
  ∃ (f : Addr) (fd : FuncData), mg x = some (.ref f) ∧ PySem.W.keepIn K (.ref f) = true ∧ Binds K fd ps [] ∧ FnOk P w K mg base CX k f fd ps sp
theorem pe_callP {X : Cx} {CX : CXT} {k : Nat} {x : Str} {ps : List Str} {sp : Sp} {E : XK} {p pos : Pos} {e : Expr} {es : List Expr} {t : TA} (h : Pm X.prog X.w X.K X.mg X.base CX k x ps sp) (hr : Room k X.A) (hg : Gl X x) (hx : Passes CX X E) (ha : PA X (e :: es) t)
    (hdb : (x == ("__debug__" : Str)) = false := by decide) (he : starEach (e :: es) X.env = (false, eval e X.env) :: starEach es X.env := by rfl) (hpl : (backTo pos (starEach es X.env)).any (·.1) = false := by rfl) :
    PE X (.Call (.Name x p) (e :: es) [] pos) (tCall sp [] E t) := by
  obtain ⟨f, fd, hm, hk, hb, F⟩ := h
  exact pe_call F hr hg hm hk hb .nil hx ha hdb he hpl
end L2
/-! EvQ: made by mkq.py. The rules over structures. -/
namespace L2
open PySem PySem.Spec PyProof.Rows
set_option autoImplicit true
set_option relaxedAutoImplicit true
structure QE (X : Cx) (e : Expr) (t : TE) : Prop where
  h : PE X e t
structure QT (X : Cx) (e : Expr) (t : TT) : Prop where
  h : PT X e t
structure QW (X : Cx) (e : Expr) (t : TT) : Prop where
  h : PW X e t
structure QA (X : Cx) (e : List Expr) (t : TA) : Prop where
  h : PA X e t
structure QS (X : Cx) (e : Stmt) (t : TS) : Prop where
  h : PS X e t
structure QSs (X : Cx) (e : List Stmt) (t : TS) : Prop where
  h : PSs X e t
structure QGs (X : Cx) (e : List Expr) (t : TGs) : Prop where
  h : PGs X e t
structure QG (X : Cx) (e : Expr) (t : TG) : Prop where
  h : PG X e t
structure QIf (X : Cx) (e : List Expr) (t : TT) : Prop where
  h : PIf X e t
structure QO (X : Cx) (e : Option Expr) (t : TO) : Prop where
  h : PO X e t
structure QI (X : Cx) (tg iter : Expr) (t : TI) : Prop where
  h : PI X tg iter t
theorem QW.pt {X : Cx} {e : Expr} {t : TT} (k : QW X e t) : QT X e t := ⟨k.h.pt⟩
theorem qe_int {i j pos} : QE X (.Constant (.int i) j pos) (tC (.int i)) := ⟨pe_int ⟩
theorem qe_bl {b j pos} : QE X (.Constant (.bool b) j pos) (tC (.bl b)) := ⟨pe_bl ⟩
theorem qe_non {j pos} : QE X (.Constant .none j pos) (tC .non) := ⟨pe_non ⟩
theorem qe_str {x j pos} : QE X (.Constant (.str x) j pos) (tC (.str x)) := ⟨pe_str ⟩
theorem qe_glob {x : Str} {v : V} {u : Value} {pos : Pos} (hg : Gl X x) (hm : X.mg x = some u) (r : RelV v u) (hd : (x == ("__debug__" : Str)) = false := by decide) : QE X (.Name x pos) (tC v) := ⟨pe_glob (hg) (hm) (r) (hd)⟩
theorem qe_bltn {x : Str} {v : V} {u : Value} {pos : Pos} (hg : Gl X x) (hm : X.mg x = none) (hv : bootBuiltins x = some u) (r : RelV v u) (hn : x ≠ "__name__" := by decide) (hd : (x == ("__debug__" : Str)) = false := by decide) : QE X (.Name x pos) (tC v) := ⟨pe_bltn (hg) (hm) (hv) (r) (hn) (hd)⟩
theorem qt_val {e : Expr} {t : TE} (h : QE X e t) (he : ∀ whole, isTrue e X.env whole = (do let v ← whole; standAt e.pos; holding [v] (truthy v)) := by intro _; rfl) : QT X e (tB t) := ⟨pt_val h.h (he)⟩
theorem qw_and1 (ha : QT X a tA) : QW X (.BoolOp .And [a] pos) tA := ⟨pw_and1 ha.h⟩
theorem qw_or1 (ha : QT X a tA) : QW X (.BoolOp .Or [a] pos) tA := ⟨pw_or1 ha.h⟩
theorem qw_and (ha : QT X a tA) (hb : QW X (.BoolOp .And (b :: restq) pos) tB') : QW X (.BoolOp .And (a :: b :: restq) pos) (tAnd tA tB') := ⟨pw_and ha.h hb.h⟩
theorem qw_or (ha : QT X a tA) (hb : QW X (.BoolOp .Or (b :: restq) pos) tB') : QW X (.BoolOp .Or (a :: b :: restq) pos) (tOr tA tB') := ⟨pw_or ha.h hb.h⟩
theorem qt_not (ha : QT X a tA) : QT X (.UnaryOp .Not a pos) (tNot tA) := ⟨pt_not ha.h⟩
theorem qe_one {op} {t : TE} (h : QE X a t) : QE X (.BoolOp op [a] pos) t := ⟨pe_one h.h⟩
theorem qe_and (ha : QE X a ta) (hb : QE X (.BoolOp .And (b :: restq) pos) tb) : QE X (.BoolOp .And (a :: b :: restq) pos) (tAndV ta tb) := ⟨pe_and ha.h hb.h⟩
theorem qe_not (ha : QE X a ta) : QE X (.UnaryOp .Not a pos) (tNotV ta) := ⟨pe_not ha.h⟩
theorem qss_nil  : QSs X [] tNext := ⟨pss_nil ⟩
theorem qss_cons (h1 : QS X stq t) (h2 : QSs X restq u) : QSs X (stq :: restq) (tSeq t u) := ⟨pss_cons h1.h h2.h⟩
theorem qss_one (h1 : QS X stq t) : QSs X [stq] t := ⟨pss_one h1.h⟩
theorem qs_expr (he : QE X e te) (hs : swapsWith e none pos.line X.env = pure false := by rfl) : QS X (.Expr e pos) (tDrop te) := ⟨ps_expr he.h (hs)⟩
theorem qs_ret (he : QE X e te) : QS X (.Return (some e) pos) (tRet te) := ⟨ps_ret he.h⟩
theorem qs_if {c : Expr} {a b : List Stmt} {tc : TT} (hc : QT X c tc) (ha : QSs X a t) (hb : QSs X b u) : QS X (.If c a b pos) (tIfS tc t u) := ⟨ps_if hc.h ha.h hb.h⟩
theorem qg_name {i : Nat} {x : Str} (hN : X.N.Nodup) (hiq : X.N[i]? = some x) (hx : Loc X.env.scope x) (hf : X.fn x = true ∨ X.env.scope.names.lookup x = some .local := by first | exact .inl rfl | exact .inr rfl | assumption) : QG X (.Name x pos) (gName i) := ⟨pg_name (hN) (hiq) (hx) (hf)⟩
theorem qgs_nil  : QGs X [] gNil := ⟨pgs_nil ⟩
theorem qgs_cons {e : Expr} {es : List Expr} {t : TG} {u : TGs} (h1 : QG X e t) (h2 : QGs X es u) (hs : (assignEach (e :: es) X.env).map (·.2) = assign e X.env :: (assignEach es X.env).map (·.2) := by rfl) : QGs X (e :: es) (gCons t u) := ⟨pgs_cons h1.h h2.h (hs)⟩
theorem qg_tup {es : List Expr} {k : Nat} {t : TGs} {n : Nat} (hc : X.calm = true) (h : QGs X es t) (hn : (assignEach es X.env).length = n := by rfl) (hst : (assignEach es X.env).findIdx? (·.1) = none := by rfl) : QG X (.Tuple es k pos) (gTup X.K n t) := ⟨pg_tup (hc) h.h (hn) (hst)⟩
theorem qg_sub {o i : Expr} {to ti : TE} {t : TSet} (ho : QE X o to) (hiq : QE X i ti) (hs : PSet X t) (ha : ∀ v, assign (.Subscript o i pos) X.env v = (do
      let ov ← holding [v] (eval o X.env)
      let iv ← holding [v, ov] (eval i X.env)
      standAt pos
      holding [v, ov, iv] (setItem ov iv v)
      release [v, ov, iv] []) := by intro _; rfl) : QG X (.Subscript o i pos) (gSub to ti t) := ⟨pg_sub ho.h hiq.h (hs) (ha)⟩
theorem qs_asg {tg e : Expr} {te : TE} {g : TG} (he : QE X e te) (hg : QG X tg g) (hs : swapsWithSole [tg] e pos.line X.env = pure false := by rfl) (hw : swappedStores [tg] e X.env = pure none := by rfl) (h1 : (assignEach [tg] X.env).map (·.2) = [assign tg X.env] := by rfl) : QS X (.Assign [tg] e pos) (tAsg te g) := ⟨ps_asg he.h hg.h (hs) (hw) (h1)⟩
theorem qs_set {i : Nat} {x : Str} {e : Expr} {te : TE} {pos' : Pos} (hN : X.N.Nodup) (hiq : X.N[i]? = some x) (hx : Loc X.env.scope x) (he : QE X e te) (hs : swapsWith e (some (.Name x pos')) pos.line X.env = pure false := by rfl) (hf : X.fn x = true ∨ X.env.scope.names.lookup x = some .local := by first | exact .inl rfl | exact .inr rfl | assumption) : QS X (.Assign [.Name x pos'] e pos) (tAsg te (gName i)) := ⟨ps_set (hN) (hiq) (hx) he.h (hs) (hf)⟩
theorem qs_augS {o i e : Expr} {to ti te : TE} {tget : V → V → Hp → VK → Prop} {tip : TIp} {tset : TSet} {op : Operator} {tpos : Pos} (ho : QE X o to) (hiq : QE X i ti) (hg : PGet X tget) (he : QE X e te) (hp : PIp X op tip) (hs : PSet X tset) (ha : ∀ ov iv new, augStore i ov iv new = (do holding [new, ov, iv] (setItem ov iv new); release [new, ov, iv] []; pure .next) := by intros; rfl) : QS X (.AugAssign (.Subscript o i tpos) op e pos) (tAugS to ti te tget tip tset) := ⟨ps_augS ho.h hiq.h (hg) he.h (hp) (hs) (ha)⟩
theorem qs_while {c : Expr} {body : List Stmt} {tc : TT} {tb : TS} (hp : PassesOwn (model X.prog X.w) X.A X.env X.xe) (hc : QT X c tc) (hb : QSs X body tb) : QS X (.While c body [] pos) (tWhile tc tb) := ⟨ps_while (hp) hc.h hb.h⟩
theorem qi_list {l : Expr} {tl : TE} (hl : QE X l tl) : QI X tg l (iList X.K tl) := ⟨pi_list hl.h⟩
theorem qi_range1 {a : Expr} {ta : TA} {p pos : Pos} (hg : Gl X "range") (hm : X.mg "range" = none) (ha : QA X [a] ta) (hs : starEach [a] X.env = [(false, eval a X.env)] := by rfl) : QI X tg (.Call (.Name "range" p) [a] [] pos) (iRng1 ta) := ⟨pi_range1 (hg) (hm) ha.h (hs)⟩
theorem qi_range2 {a b : Expr} {ta : TA} {p pos : Pos} (hg : Gl X "range") (hm : X.mg "range" = none) (ha : QA X [a, b] ta) (hs : starEach [a, b] X.env = [(false, eval a X.env), (false, eval b X.env)] := by rfl) (hs2 : starEach [b] X.env = [(false, eval b X.env)] := by rfl) : QI X tg (.Call (.Name "range" p) [a, b] [] pos) (iRng2 ta) := ⟨pi_range2 (hg) (hm) ha.h (hs) (hs2)⟩
theorem qs_for {iter : Expr} {body : List Stmt} {wi : TI} {g : TG} {tb : TS} {pos : Pos} (hp : PassesOwn (model X.prog X.w) X.A X.env X.xe) (hc : X.calm = true) (hiq : QI X tg iter wi) (hg : QG X tg g) (hb : QSs X body tb) (hs : ∀ x, foldedSetIterable iter X.env x = pure x := by intro _; rfl) : QS X (.For tg iter body [] pos) (tFor wi g tb) := ⟨ps_for (hp) (hc) hiq.h hg.h hb.h (hs)⟩
theorem qe_op {op : Operator} {r : R2} (ho : OpR X (binaryOp op) r) (ha : QE X a ta) (hb : QE X b tb) : QE X (.BinOp a op b pos) (tOp r ta tb) := ⟨pe_op (ho) ha.h hb.h⟩
theorem qe_un {op : UnaryOp} {r : V → Hp → VK → Prop} (ho : UnR X (unaryOp op) r) (ha : QE X a ta) : QE X (.UnaryOp op a pos) (tUn r ta) := ⟨pe_un (ho) ha.h⟩
theorem qe_cmpR {op : CmpOp} {r : R2} (ho : OpR X (compareOp op) r) (ha : QE X a ta) (hb : QE X b tb) (hm : behindInMarks op b = false) : QE X (.Compare a [op] [b] pos) (tOp r ta tb) := ⟨pe_cmpR (ho) ha.h hb.h (hm)⟩
theorem qt_cmpR {op : CmpOp} {r : R2} (ho : OpR X (compareOp op) r) (ha : QE X a ta) (hb : QE X b tb) (hm : behindInMarks op b = false) : QT X (.Compare a [op] [b] pos) (tTest (tOp r ta tb)) := ⟨pt_cmpR (ho) ha.h hb.h (hm)⟩
theorem qe_chain {op op' : CmpOp} {r r' : R2} (ho : OpR X (compareOp op) r) (ho' : OpR X (compareOp op') r') (ha : QE X a ta) (hb : QE X b tb) (hc : QE X c tc) (hm : lastMarks [op, op'] [b, c] = false := by with_unfolding_all rfl) : QE X (.Compare a [op, op'] [b, c] pos) (tChain r r' ta tb tc) := ⟨pe_chain (ho) (ho') ha.h hb.h hc.h (hm)⟩
theorem qt_chain {op op' : CmpOp} {r r' : R2} (ho : OpR X (compareOp op) r) (ho' : OpR X (compareOp op') r') (ha : QE X a ta) (hb : QE X b tb) (hc : QE X c tc) (hm : lastMarks [op, op'] [b, c] = false := by with_unfolding_all rfl) : QT X (.Compare a [op, op'] [b, c] pos) (tTest (tChain r r' ta tb tc)) := ⟨pt_chain (ho) (ho') ha.h hb.h hc.h (hm)⟩
theorem qa_nil  : QA X [] tNil := ⟨pa_nil ⟩
theorem qe_tup {x1} (h : QA X es t) : QE X (.Tuple es x1 pos) (tTup t) := ⟨pe_tup h.h⟩
theorem qe_lst (h : QA X es t) : QE X (.List es pos) (tLst t) := ⟨pe_lst h.h⟩
theorem qe_callB (hc : CallR X (.builtin idq) r) (hg : Gl X x) (hm : X.mg x = none) (hv : bootBuiltins x = some (.builtin idq)) (ha : QA X (e :: es) t) (hn : x ≠ "__name__" := by decide) (hdb : (x == ("__debug__" : Str)) = false := by decide) (he : starEach (e :: es) X.env = (false, eval e X.env) :: starEach es X.env := by rfl) (hpl : (backTo pos (starEach es X.env)).any (·.1) = false := by rfl) : QE X (.Call (.Name x p) (e :: es) [] pos) (tCB r t) := ⟨pe_callB (hc) (hg) (hm) (hv) ha.h (hn) (hdb) (he) (hpl)⟩
theorem qe_callTy (hc : CallR X (.type T) r) (hg : Gl X x) (hm : X.mg x = none) (hv : bootBuiltins x = some (.type T)) (ha : QA X (e :: es) t) (hn : x ≠ "__name__" := by decide) (hdb : (x == ("__debug__" : Str)) = false := by decide) (he : starEach (e :: es) X.env = (false, eval e X.env) :: starEach es X.env := by rfl) (hpl : (backTo pos (starEach es X.env)).any (·.1) = false := by rfl) : QE X (.Call (.Name x p) (e :: es) [] pos) (tCB r t) := ⟨pe_callTy (hc) (hg) (hm) (hv) ha.h (hn) (hdb) (he) (hpl)⟩
theorem qo_none  : QO X none tNoPart := ⟨po_none ⟩
theorem qo_some (h : QE X e te) : QO X (some e) (tPart te) := ⟨po_some h.h⟩
theorem qe_slice {r : V → Option Int → Option Int → Hp → VK → Prop} (hr : SlR X r) (he : QE X e te) (hl : QO X loq tl) (hu : QO X hiq th) : QE X (.Subscript e (.Slice loq hiq none p2) pos) (tSl r te tl th) := ⟨pe_slice (hr) he.h hl.h hu.h⟩
theorem qe_ix {r : R2} (hr : IxR X r) (ha : QE X a ta) (hb : QE X b tb) (hs : PlainIx b) : QE X (.Subscript a b pos) (tOp r ta tb) := ⟨pe_ix (hr) ha.h hb.h (hs)⟩
theorem qe_bm (pa : PlainAttrs T) (slot : Slot T nameq idq) (hty : typeOf (.builtin idq) = pure (.type "method_descriptor")) (hm : MtR X idq r) (ho : QE X o to) (ha : QA X (e :: es) t) (hbase : attributeBase o nameq X.env (eval o X.env) = eval o X.env := by rfl) (hfew : ((backTo cpos (starEach (e :: es) X.env)).all (fun x => !x.1) && (backToKw cpos (keywordEach [] X.env)).all (fun x => x.1.isSome)
      && decide ((e :: es).length + ([] : List Keyword).length + (if ([] : List Keyword).isEmpty then 0 else 1) < 30)) = true := by rfl) (hline : (apos.endLine == cpos.line) = true := by rfl) (hs : starEach (e :: es) X.env = (false, eval e X.env) :: starEach es X.env := by rfl) (hplain : (backTo cpos (starEach es X.env)).any (·.1) = false := by rfl) : QE X (.Call (.Attribute o nameq apos) (e :: es) [] cpos) (tBM X.K T r to t) := ⟨pe_bm (pa) (slot) (hty) (hm) ho.h ha.h (hbase) (hfew) (hline) (hs) (hplain)⟩
theorem qv (i : Nat) {x : Str} {pos : Pos} (hN : X.N[i]? = some x := by rfl) (hv : Vis X.env.scope x := by first | exact Or.inl rfl | exact Or.inr (Or.inl rfl) | exact Or.inr (Or.inr rfl)) (hd : (x == ("__debug__" : Str)) = false := by decide) (hcd : (x == ("__classdict__" : Str)) = false := by decide) : QE X (.Name x pos) (tVar i) := ⟨pv (i) (hN) (hv) (hd) (hcd)⟩
theorem qif_nil {X : Cx} : QIf X [] tYes := ⟨pif_nil ⟩
theorem qe_callP {X : Cx} {CX : CXT} {k : Nat} {x : Str} {ps : List Str} {sp : Sp} {E : XK} {p pos : Pos} {e : Expr} {es : List Expr} {t : TA} (h : Pm X.prog X.w X.K X.mg X.base CX k x ps sp) (hr : Room k X.A) (hg : Gl X x) (hx : Passes CX X E) (ha : QA X (e :: es) t) (hdb : (x == ("__debug__" : Str)) = false := by decide) (he : starEach (e :: es) X.env = (false, eval e X.env) :: starEach es X.env := by rfl) (hpl : (backTo pos (starEach es X.env)).any (·.1) = false := by rfl) : QE X (.Call (.Name x p) (e :: es) [] pos) (tCall sp [] E t) := ⟨pe_callP (h) (hr) (hg) (hx) ha.h (hdb) (he) (hpl)⟩
/-- an argument, by a test that is small -/
def notStar : Expr → Bool
  | .Starred .. => false
  | _ => true
theorem starEach_cons {e : Expr} {es : List Expr} {env : Env} (h : notStar e = true) : starEach (e :: es) env = (false, eval e env) :: starEach es env := by
  cases e <;> first | rfl | cases h
theorem qac {X : Cx} {e : Expr} {es : List Expr} {te : TE} {t : TA} (ha : QE X e te) (hr : QA X es t) (hs : notStar e = true := by rfl) : QA X (e :: es) (tCons te t) := ⟨pa_cons ha.h hr.h (starEach_cons hs)⟩
theorem qe_comp {X : Cx} {elt tg iter : Expr} {ifs : List Expr} {scope : Scope} {pos : Pos} {N : List Str} {src : List (Option Nat)} {wi : TI} {g : TG} {tc : TT} {te : TE} (hc : X.calm = true) (S : CompScope X scope N src) (hi : QI X tg iter wi)
    (hg : ∀ s H cl C fp, QG (cxC X s H scope cl C N fp) tg g) (hf : ∀ s H cl C fp, QIf (cxC X s H scope cl C N fp) ifs tc) (he : ∀ s H cl C fp, QE (cxC X s H scope cl C N fp) elt te)
    (hs : ∀ x, foldedSetIterable iter X.env x = pure x := by intro _; rfl) : QE X (.ListComp elt [⟨tg, iter, ifs, 0⟩] scope pos) (tComp src wi g tc te) :=
  ⟨pe_comp hc S hi.h (fun s H cl C fp => (hg s H cl C fp).h) (fun s H cl C fp => (hf s H cl C fp).h) (fun s H cl C fp => (he s H cl C fp).h) hs⟩
theorem qs_setComp {X : Cx} {elt tg iter : Expr} {ifs : List Expr} {scope : Scope} {pos spos pos' : Pos} {x : Str} {i : Nat} {N : List Str} {src : List (Option Nat)} {wi : TI} {g : TG} {tc : TT} {te : TE} (hc : X.calm = true) (S : CompScope X scope N src) (hi : QI X tg iter wi)
    (hg : ∀ s H cl C fp, QG (cxC X s H scope cl C N fp) tg g) (hf : ∀ s H cl C fp, QIf (cxC X s H scope cl C N fp) ifs tc) (he : ∀ s H cl C fp, QE (cxC X s H scope cl C N fp) elt te) (ht : QG X (.Name x pos') (gName i))
    (hsw : swapsWith (.ListComp elt [⟨tg, iter, ifs, 0⟩] scope pos) (some (.Name x pos')) spos.line X.env = pure true := by rfl)
    (hs : ∀ x, foldedSetIterable iter X.env x = pure x := by intro _; rfl) : QS X (.Assign [.Name x pos'] (.ListComp elt [⟨tg, iter, ifs, 0⟩] scope pos) spos) (tAsg (tComp src wi g tc te) (gName i)) :=
  ⟨ps_setComp hc S hi.h (fun s H cl C fp => (hg s H cl C fp).h) (fun s H cl C fp => (hf s H cl C fp).h) (fun s H cl C fp => (he s H cl C fp).h) ht.h hsw hs⟩
theorem qss_never {X : Cx} {sts : List Stmt} : QSs X sts tNever := ⟨pss_never⟩
/-! ### defs -/
section
variable {P : Program} {w : World} {K : PySem.W.Frag} {mg : Str → Option Value} {base : Heap} {x qual : Str} {st : Stmt} {f : Addr} {fd : FuncData} {N ps : List Str} {k : Nat} {sp : Sp}
theorem Fun.okQ (F : Fun K x qual st f fd) (S : FnScope N ps (defScope st)) (len : ∀ vs H Q E, sp vs H Q E → vs.length = ps.length)
    (hbody : ∀ (cdv : Value) (A : Around) (outer : List Env) (s : Shared) (H : Hp) (vs : List V) (Q : VK) (E : XK), Room k (A.deeper (envOfC qual (defScope st) s.heap.objs.size f cdv)) → sp vs H Q E →
      ∃ t, QSs (cxOf CX0 P w K mg base N qual (defScope st) f cdv A outer s H E).nox (defBody st) t ∧ t { nx := fun _ H' => Q .non H', rt := Q } (start N vs) H) : FnOk P w K mg base CX0 (k + 1) f fd ps sp :=
  F.ok S len fun cdv A outer s H vs Q E hr h => let ⟨t, a, b⟩ := hbody cdv A outer s H vs Q E hr h; ⟨t, a.h, b⟩
end

end L2
/-! EvRange: range with a step. Behind EvQ. -/
namespace L2
open PySem PySem.Spec PyProof.Rows
section
variable {X : Cx} {tg : Expr}
end
theorem comp_rng {lo : Int} {n : Nat} {g : TG} {tc : TT} {te : TE} {σ' : St} {H : Hp} {G : Addr → Hp → List V → Prop} (Pv : Nat → List V → Hp → Prop) (h0 : Pv 0 [] H)
    (hs : ∀ i ys H (N : List V → Hp → Prop), i < n → Pv i ys H → (∀ ys' H', Pv (i + 1) ys' H' → N ys' H') → g (.int (lo + i)) σ' H fun σ2 H4 => Weak σ' σ2 ∧ tc σ2 H4 fun b H5 => if b = true then te σ2 H5 fun y H6 => ys.length < sizeLine ∧ N (ys ++ [y]) H6 else N ys H5)
    (hd : ∀ ys H, Pv n ys H → ys.length ≤ sizeLine ∧ ∀ p, H p = none → G p H ys) :
    ∃ W : Nat → Nat → List V → Hp → Prop, (∃ m, W 0 m [] H) ∧ ∀ i m ys H2, W i m ys H2 →
      ((Itr lo n).stop i H2 ∧ ys.length ≤ sizeLine ∧ ∀ p, H2 p = none → G p H2 ys) ∨
      ((Itr lo n).go i H2 ∧ ∀ x H3, (Itr lo n).yld i H2 x H3 → g x σ' H3 fun σ2 H4 => Weak σ' σ2 ∧ tc σ2 H4 fun b H5 =>
        if b = true then te σ2 H5 fun y H6 => ys.length < sizeLine ∧ ∃ m', m' < m ∧ W (i + 1) m' (ys ++ [y]) H6 else ∃ m', m' < m ∧ W (i + 1) m' ys H5) := by
  refine ⟨fun i m ys H => m = n - i ∧ i ≤ n ∧ Pv i ys H, ⟨n, rfl, Nat.zero_le _, h0⟩, ?_⟩
  rintro i m ys H2 ⟨rfl, hi, p⟩
  by_cases hlt : i < n
  · refine .inr ⟨hlt, fun x H' y => ?_⟩
    obtain ⟨e, rfl⟩ := y
    subst e
    exact hs i ys _ (fun ys' H'' => ∃ m', m' < n - i ∧ m' = n - (i + 1) ∧ i + 1 ≤ n ∧ Pv (i + 1) ys' H'') hlt p (fun ys' H'' p' => ⟨_, by omega, rfl, hlt, p'⟩)
  · have e : i = n := by omega
    subst e
    exact .inl ⟨Nat.le_refl _, hd ys H2 p⟩
end L2
/-! EvMath: the mathematics of primes, by naturals; core alone. -/
namespace EM
/-! ### lists of primes with how often -/
/-! ### plain parts -/
/-! ### roots -/
end EM
/-! EvEuler: Fermat and Euler for a prime, by naturals and ints; core alone. Behind EvMath. -/
namespace EM
/-! ### lists without repeats -/
/-! ### roots of a sum of powers, the highest one once -/
/-! ### Euler -/
/-! ### rests of squares -/
/-! ### powers by squaring -/
/-! ### small primes by looking -/
/-! ### plain parts are told in one way -/
/-! ### what shuts a form -/
/-! ### the plain part by looking -/
/-! ### odd primes by looking -/
end EM
/-! EvBase: what every row of stage 1 shares; no row is named here. Behind EvTry, EvMath. -/
namespace E1
open PySem L2
/-! ### whole numbers by their kinds -/
inductive WholeIs (K : PySem.W.Frag) (H : Hp) : V → Bool → Prop where
  | int (i : Int) : WholeIs K H (.int i) true
  | bl (x : Bool) : WholeIs K H (.bl x) false
  | odd {v : V} {T : String} (ty : TyOf K H v (.type T)) (k : PySem.W.kitOne K (.type T) (.type "int") = some false) : WholeIs K H v false
section
variable (K : PySem.W.Frag)
theorem kit_int_int : PySem.W.kitOne K (.type "int") (.type "int") = some true := by kernel_rfl
theorem kit_int_bool : PySem.W.kitOne K (.type "int") (.type "bool") = some false := by kernel_rfl
theorem kit_bool_int : PySem.W.kitOne K (.type "bool") (.type "int") = some true := by kernel_rfl
theorem kit_bool_bool : PySem.W.kitOne K (.type "bool") (.type "bool") = some true := by kernel_rfl
end
theorem rel_ty {n : String} {K : PySem.W.Frag} {t : Value} {b : Bool} (h : PySem.W.kitOne K t (.type n) = some b) : ∀ u, RelV (.ty n) u → PySem.W.kitOne K t u = some b := fun u r => by
  cases (show u = Value.type n from r)
  exact h
/-! ### the promises -/
def spWhole (K : PySem.W.Frag) : Sp := fun vs H Q _ => ∃ v b, vs = [v] ∧ WholeIs K H v b ∧ Q (.bl b) H
def spCell (K : PySem.W.Frag) : Sp := fun vs H Q _ => ∃ (a : Addr) (ns : List Int) (k : Nat), vs = [.ref a, .int (k : Int)] ∧ SqL K H a (ns.map V.int) ∧ k ≤ 1000 ∧ ∀ z : Int, Q (.int z) H
def spPool : Sp := fun vs H Q _ => ∃ c : Int, vs = [.int c] ∧ ∀ p f, H p = none → 0 ≤ f → Q (.ref p) (upd H p (.lst [.int f]))
def spTake : Sp := fun vs H Q _ => ∃ (p : Addr) (f m : Int), vs = [.ref p, .int m] ∧ H p = some (.lst [.int f]) ∧ 0 ≤ f ∧ 0 < m ∧ m < 1073741824 ∧ ∀ g r : Int, 0 ≤ g → 0 ≤ r → r < m → Q (.int r) (upd H p (.lst [.int g]))
/-- all but what stands at p is as it was; there a pool stands again -/
structure Drawn1 (p : Addr) (H H' : Hp) : Prop where
  pool : ∃ g : Int, 0 ≤ g ∧ H' p = some (.lst [.int g])
  kept : ∀ b o, H b = some o → b ≠ p → H' b = some o
theorem Drawn1.trans {p : Addr} {H H1 H2 : Hp} (a : Drawn1 p H H1) (b : Drawn1 p H1 H2) : Drawn1 p H H2 := ⟨b.pool, fun c o h n => b.kept c o (a.kept c o h n) n⟩
theorem Drawn1.put {p : Addr} {H : Hp} {g : Int} (h0 : 0 ≤ g) : Drawn1 p H (upd H p (.lst [.int g])) := ⟨⟨g, h0, upd_same⟩, fun _ _ h n => by rw [upd_ne n]; exact h⟩
theorem same_new {q : Addr} {H : Hp} {o : HO} (n : H q = none) : Same H (upd H q o) := fun b u h => by rw [upd_ne (ne_of_none h n)]; exact h
theorem abs_nn (i : Int) : 0 ≤ (if i < 0 then -i else i) := by split <;> omega
/-! ### primes as tuples in a list -/
theorem same_upd {H H' : Hp} {l : Addr} {o : HO} (s : Same H H') (hl : H l = none) : Same H (upd H' l o) := fun b u e => by
  rw [upd_ne (ne_of_none e hl)]
  exact s _ _ e
/-! ### primes as data -/
/-! ### forms -/
theorem kit_lst_lst (K : PySem.W.Frag) : PySem.W.kitOne K (.type "list") (.type "list") = some true := by kernel_rfl
theorem kit_tup_tup (K : PySem.W.Frag) : PySem.W.kitOne K (.type "tuple") (.type "tuple") = some true := by kernel_rfl

/-! ### a law's loop over its cells -/
theorem fn_mk {K : PySem.W.Frag} {x : Str} {st : Stmt} {f : Addr} {oc : Value} {od an : Option Addr} {osl : Array (Option Value)} {kV doc pm cdv ct : Value}
    (a : PySem.W.nsIn K mainGlobals x = some (some (.ref f)))
    (l : K.lookup f = some ⟨oc, od, .func (PySem.W.fnOf x x (defArgs st) (defBody st) (defScope st) .none kV doc pm an cdv ct), osl⟩)
    (c : PySem.W.codeIn K cdv x = true) (k : PySem.W.keepIn K (.ref f) = true) :
    ∃ (f : Addr) (fd : FuncData), PySem.W.nsIn K mainGlobals x = some (some (.ref f)) ∧ Fun K x x st f fd := ⟨f, _, a, fun_mk l c k⟩
def spLaw (K : PySem.W.Frag) : Sp := fun vs H Q _ => ∃ (a : Addr) (ns : List Int), vs = [.ref a] ∧ SqL K H a (ns.map V.int) ∧ ns.length ≤ 63 ∧ ∀ H', Q (.bl true) H'
theorem walk {l : PySem.W.OpenLaw} {q : Program} {loose : List Str} {XP : (Str → Option Value) → Heap → Prop} {YP : World → Heap → Prop} {d : DefRec} {K : Params → PySem.W.Frag} {k : Nat} (hr : Room k PySem.callerA) (hn : l.most = some 63) (hdf : d.params.defaults = [])
    (hY : ∀ (w : World) (h : Heap), YP w h → (K w.params).In h)
    (F : ∀ (w : World) (mg : Str → Option Value) (fa : Addr) (h : Heap), (K w.params).In h → h.Ns mainGlobals mg → mg d.name = some (.ref fa) →
      ∃ fd : FuncData, (∀ (s : Shared) (u : Value), BindsTo s fd ⟨[u], []⟩ [("_law_script", u)]) ∧ ∀ base : Heap, (K w.params).In base → base.Ns mainGlobals mg → FnOk l.prog w (K w.params) mg base CX0 k fa fd ["_law_script"] (spLaw (K w.params))) :
    PySem.W.WalkO q loose XP YP l.row.toRowW d [] (fun f vs => PySem.call f vs) :=
  L2.walk_of (n := 63) (k := k) (x := "_law_script") (CX := fun _ => CX0) (sp := fun w => spLaw (K w.params)) hn (by decide) hdf hr hY F (fun _ _ a ns hl _ hS => ⟨a, ns, rfl, hS, hl, fun _ => rfl⟩) fun _ _ _ _ _ z => z
abbrev At (K : PySem.W.Frag) (x : Str) (st : Stmt) : Prop := ∃ (f : Addr) (fd : FuncData), PySem.W.nsIn K mainGlobals x = some (some (.ref f)) ∧ Fun K x x st f fd

end E1
/-! EvLay: rules for sorted numbers, sets of numbers, lists taken so often, turned about, made of a range. Behind EvRange. -/
namespace L2
open PySem PySem.Spec PyProof.Rows
theorem ints_of_vals {ns : List Int} {us : List Value} (r : Vals (ns.map V.int) us) : IntsAre us ns := intsAre_of r
theorem firstMet_nodup {ns : List Int} (h : ns.Nodup) : ∀ i, i ≤ ns.length → firstMet (fun i => ns.getD i 0) i = ns.take i
  | 0, _ => by rw [firstMet_zero, List.take_zero]
  | i + 1, hi => by
    have hlt : i < ns.length := hi
    have ev : ns.getD i 0 = ns[i] := by simp [hlt]
    rw [firstMet_succ, firstMet_nodup h i (Nat.le_of_lt hlt)]
    show step_dedup (ns.take i) (ns.getD i 0) = _
    rw [ev]
    unfold step_dedup
    rw [if_neg]
    · rw [List.take_add_one, List.getElem?_eq_getElem hlt]
      rfl
    · intro z
      obtain ⟨x, hx, e⟩ := List.any_eq_true.mp z
      have e' : x = ns[i] := by simpa using e
      subst e'
      obtain ⟨j, hj, ej⟩ := List.mem_iff_getElem.mp hx
      rw [List.length_take] at hj
      rw [List.getElem_take] at ej
      have := (List.getElem_inj h).mp ej
      omega
theorem firstMet_len_iff {ns : List Int} : (firstMet (fun i => ns.getD i 0) ns.length).length = ns.length ↔ ns.Nodup := by
  constructor
  · intro h
    have key : ∀ i, i ≤ ns.length → ((firstMet (fun i => ns.getD i 0) i).length = i → (ns.take i).Nodup ∧ firstMet (fun i => ns.getD i 0) i = ns.take i) := by
      intro i
      induction i with
      | zero => intro _ _; exact ⟨by simp, by rw [firstMet_zero, List.take_zero]⟩
      | succ i ih =>
        intro hi hl
        have hlt : i < ns.length := hi
        have ev : ns.getD i 0 = ns[i] := by simp [hlt]
        rw [firstMet_succ] at hl ⊢
        have hle := firstMet_length_le (fun i => ns.getD i 0) i
        unfold step_dedup at hl ⊢
        by_cases z : (firstMet (fun i => ns.getD i 0) i).any (· == (fun i => ns.getD i 0) i) = true
        · rw [if_pos z] at hl
          omega
        · rw [if_neg z] at hl ⊢
          rw [List.length_append, List.length_singleton] at hl
          obtain ⟨h1, h2⟩ := ih (Nat.le_of_lt hlt) (by omega)
          have et : ns.take (i + 1) = ns.take i ++ [ns[i]] := by rw [List.take_add_one, List.getElem?_eq_getElem hlt]; rfl
          rw [et]
          refine ⟨?_, by rw [h2]; show _ ++ [ns.getD i 0] = _; rw [ev]⟩
          rw [List.nodup_append]
          refine ⟨h1, by simp, fun a ha b hb e => z ?_⟩
          rw [List.mem_singleton.mp hb] at e
          rw [List.any_eq_true]
          exact ⟨a, h2 ▸ ha, by show (a == ns.getD i 0) = true; rw [ev, e]; simp⟩
    have := (key ns.length (Nat.le_refl _) h).1
    rwa [List.take_length] at this
  · intro h
    rw [firstMet_nodup h _ (Nat.le_refl _), List.take_length]
/-- set(list of numbers): its size -/
def rSetI (K : PySem.W.Frag) : List V → Hp → VK → Prop := fun xs H Q => ∃ (a : Addr) (ns : List Int), xs = [.ref a] ∧ SqL K H a (ns.map V.int) ∧ ns.length ≤ 1000 ∧ ∀ (l : Addr) (S : Int → Bool) (n : Nat), H l = none → (n = ns.length ↔ ns.Nodup) → Q (.ref l) (upd H l (.set S n))
theorem call_setI {X : Cx} (hc : X.calm = true) : CallR X (.type "set") (rSetI X.K) := by
  intro pins s σ H xs us Q I r h
  obtain ⟨a, ns, rfl, hq, h64, q⟩ := h
  obtain ⟨u, rfl, rx⟩ := vals1 r
  cases rx
  obtain ⟨its, r', pl, hz⟩ := I.list hq
  have hlen := r'.length
  rw [List.length_map] at hlen
  refine call_set_list (ns := ns) (I.ok.hd hc) pl.isList (by simpa using ints_of_vals r') (by rw [List.size_toArray, ← hlen]; exact Nat.lt_of_le_of_lt (Nat.succ_le_succ h64) (by decide)) fun h' tk hS kp => ?_
  refine ⟨.ref s.heap.objs.size, _, I.laid (t' := tk) (fun b o e => kp b o (Heap.lt_size e) e) (Nat.le_refl _) (show ObjOk X.prog X.w _ h' _ (.set _ _) from hS), rfl, q _ _ _ (I.hok.fresh (Nat.le_refl _)) ?_⟩
  rw [List.size_toArray, ← hlen]
  exact firstMet_len_iff
theorem call_len_setI {X : Cx} : CallR X (.builtin "len") (fun xs H Q => ∃ (p : Addr) (S : Int → Bool) (n : Nat), xs = [.ref p] ∧ H p = some (.set S n) ∧ Q (.int n) H) := by
  intro pins s σ H xs us Q I r h
  obtain ⟨p, S, n, rfl, hp, q⟩ := h
  obtain ⟨u, rfl, rx⟩ := vals1 r
  cases rx
  obtain ⟨o, es, ep, t, ho, hex, hd, _, _, hb, hf, rfl⟩ := (show s.heap.SetOf (intKind X.prog X.w) p S n from I.hok p _ hp)
  refine call_len_set ho hex hd hf ?_ ⟨.int es.size, H, I.tok _, ⟨_, rfl⟩, q⟩
  have : es.size < 4096 := hb
  omega
/-- list * number -/
def rMulL (K : PySem.W.Frag) : R2 := fun x y H Q => ∃ (a : Addr) (xs : List V) (n : Int), x = .ref a ∧ y = .int n ∧ SqL K H a xs ∧ n < 2 ^ 63 ∧ 0 ≤ n ∧ xs.length * n.toNat ≤ 65536 ∧ ∀ l, H l = none → Q (.ref l) (upd H l (.lst (List.replicate n.toNat xs).flatten))
theorem vals_flat {xs : List V} {us : List Value} (r : Vals xs us) : ∀ n, Vals (List.replicate n xs).flatten (List.replicate n us).flatten
  | 0 => .nil
  | n + 1 => by
    rw [List.replicate_succ, List.replicate_succ, List.flatten_cons, List.flatten_cons]
    exact r.append (vals_flat r n)
theorem op_mulL {X : Cx} : OpR X (binaryOp .Mult) (rMulL X.K) := by
  intro pins s σ H x y v u Q I rx ry h
  obtain ⟨a, xs, n, rfl, rfl, hx, hn, h0, hsz, q⟩ := h
  cases rx
  obtain ⟨tk, rfl⟩ := ry
  obtain ⟨its, r, pl, hz⟩ := I.list hx
  have hlen := r.length
  obtain ⟨⟨oc, od, odt, osl⟩, k, hl, e1, e2, e3⟩ := pl
  dsimp only at e1 e2 e3
  subst e1 e2 e3
  refine wpAny_binaryOp_repeat_ref (T := "list") (U := "int") (by decide) ⟨_, hl, rfl⟩ (fun s' => typeIs_int s' n tk) noFill_list_mul F.fills_int_mul F.slot_int_rmul repeat_list F.slot_int_index.lookup
    (call_meets F.slot_int_rmul (typeIs_int s n tk) F.entry_int_rmul (F.args_int_rmul_2 _ _) (lm_int_rmul_list_any n tk a its.toArray k _ _)
      ⟨hl, rfl, ⟨_, hl, rfl⟩, call_meets F.slot_list_mul ⟨_, hl, rfl⟩ F.entry_list_mul (F.args_list_mul_2 _ _)
        (lm_list_mul_any a its.toArray k _ _ n tk (by simp [Builtin.List.listFitsIndex]; omega) (by rw [List.size_toArray, ← hlen]; omega) (by rw [List.size_toArray, ← hlen]; simp [Builtin.List.listTooLong, sizeLine]; omega))
        ⟨hl, ?_⟩⟩)
  rw [listMul_foldl_if, List.toList_toArray]
  refine ⟨.ref s.heap.objs.size, _, I.laid (t' := s.toks) (o := .lst (List.replicate n.toNat xs).flatten) (fun b ob q => Heap.get?_push_of_some _ q) (Nat.le_refl _) ?_, rfl, q _ (I.hok.fresh (Nat.le_refl _))⟩
  refine ⟨?_, (List.replicate n.toNat its).flatten, 0, vals_flat r _, Heap.get?_push_size _ rfl⟩
  rw [List.length_flatten, List.map_replicate, List.sum_replicate_nat, Nat.mul_comm]
  exact Nat.le_trans hsz (by decide)
/-! ### enumerate(list) -/
theorem Inv.turnedL {X : Cx} {pins : List (Addr × Obj)} {σ : St} {H : Hp} {s : Shared} {h' : Heap} {t' : Nat} {wr : List Addr} (I : Inv X pins σ H s) (k : ∀ b o, b ∉ wr → s.heap.get? b = some o → h'.get? b = some o) (hf : ∀ b ∈ wr, FpOk X pins H b) : Inv X pins σ H { s with heap := h', toks := t' } := by
  have nit : ∀ b u, H b = some u → b ∉ wr := fun b u e z => by rw [(hf b z).1] at e; cases e
  refine I.step (g' := s.gens) (d' := s.drawn) (ch := wr) (fun b hb => ?_) (fun b o _ _ hc e _ => k b o hc e) (fun b o _ _ hc e _ => ⟨o.slots, k b o hc e⟩) (fun _ _ _ _ n => n) (fun b o hc e => ⟨o, k b o hc e⟩) (fun _ _ e => e) (fun _ _ _ e => e) (fun b ps e => ⟨#[], by rw [e]; simp⟩) (fun m hm => ?_) (fun b u e => ?_) I.bare
  · obtain ⟨_, f1, _, f3, f4, f5⟩ := hf b hb
    exact ⟨f3, f1, f4, f5⟩
  · obtain ⟨o, es, ep, ho, r⟩ := hm
    exact ⟨o, es, ep, k _ o (fun z => (hf _ z).2.1 rfl) ho, r⟩
  · refine (I.hok b u e).stay (fun c v hc q => k c v ?_ q) (fun _ q => q) fun _ _ q => q
    rcases hc with z | z
    · exact z ▸ nit b u e
    · exact nit c _ z
/-- the pairs (number, item) of a list -/
def Ite (K : PySem.W.Frag) (a : Addr) : It :=
  ⟨fun i H => ∃ xs x, SqL K H a xs ∧ xs[i]? = some x, fun i H v H' => ∃ T x, (∀ xs, SqL K H a xs → xs[i]? = some x) ∧ H T = none ∧ v = .ref T ∧ H' = upd H T (.tup [.int (i : Nat), x]), fun i H => ∃ xs, SqL K H a xs ∧ xs.length ≤ i⟩
theorem Inv.tracked {X : Cx} {pins : List (Addr × Obj)} {σ : St} {H : Hp} {s s' : Shared} {T : Addr} {o : HO} (I0 : Inv X pins σ H s) (I : Inv X pins σ H s') (hT : s.heap.objs.size ≤ T) (new : ObjOk X.prog X.w (upd H T o) s'.heap T o) : Inv X pins σ (upd H T o) s' := by
  obtain ⟨f0, f1, f2, f3, f4, f5⟩ := I0.fpOk (H' := H) hT (I0.hok.fresh hT)
  refine I.track f0 ?_ f1 f4 f5 new
  cases e : X.s₀.heap.get? T with
  | none => rfl
  | some ob => exact absurd (Nat.lt_of_lt_of_le (Heap.lt_size e) (Nat.le_trans I0.sz hT)) (Nat.lt_irrefl _)
theorem turn_enum {P : Program} {w : World} {K : PySem.W.Frag} {elts : List Expr} {k : Nat} {tp : Pos} (l e it : Addr) (hei : e ≠ it) : Turn P w K (.Tuple elts k tp) (Ite K l) [e, it] e (fun i h => (∃ old, IsEnum h e it ((i : Nat) : Int) old) ∧ h.IsListIter it l i) where
  mem := by simp
  obj := fun i h st b hb => by
    obtain ⟨⟨old, he⟩, o, ho, hc, hd⟩ := st
    simp only [List.mem_cons, List.not_mem_nil, or_false] at hb
    rcases hb with rfl | rfl
    · exact ⟨_, he, fun v z => by cases z⟩
    · exact ⟨o, ho, fun v z => by rw [hd] at z; cases z⟩
  keep := fun i h h' st kp => ⟨⟨_, kp e (by simp) _ st.1.choose_spec⟩, st.2.at fun o q => kp it (by simp) o q⟩
  item := by
    intro X hP hw hK hc i pins s σ H E I hf st hg
    subst hP hw hK
    obtain ⟨xs, x, hq, hx⟩ := hg
    obtain ⟨its, rv, p, hz⟩ := I.list hq
    obtain ⟨u, hu, ru⟩ := rv.get hx
    obtain ⟨⟨old, he⟩, hit⟩ := st
    have hlt : ∀ b ∈ [e, it], b ≠ s.heap.objs.size := fun b hb z => by
      simp only [List.mem_cons, List.not_mem_nil, or_false] at hb
      rcases hb with rfl | rfl
      · exact absurd (z ▸ Heap.lt_size he) (Nat.lt_irrefl _)
      · obtain ⟨_, ho, _⟩ := hit
        exact absurd (z ▸ Heap.lt_size ho) (Nat.lt_irrefl _)
    have fr : H s.heap.objs.size = none := I.hok.fresh (Nat.le_refl _)
    refine wpAny_pyNext_enum_item he hit p.isList (x := u) (by simpa using hu) hei fun h' ho hit' hT hsz hk => ?_
    have I1 : Inv X pins σ H { s with heap := h', toks := s.toks + 1 } := I.turnedL (wr := [e, it]) (fun b o hb q => hk b o (fun z => hb (by simp [z])) (fun z => hb (by simp [z])) q) hf
    have I2 : Inv X pins σ (upd H s.heap.objs.size (.tup [.int (i : Nat), x])) { s with heap := h', toks := s.toks + 1 } := I.tracked I1 (Nat.le_refl _) ⟨by show 2 ≤ sizeLine; decide, [.int i s.toks, u], .cons ⟨_, rfl⟩ (.cons ru .nil), ⟨_, hT, rfl, _, rfl⟩⟩
    have hf2 : ∀ b ∈ [e, it], FpOk X pins (upd H s.heap.objs.size (.tup [.int (i : Nat), x])) b := fun b hb => by
      obtain ⟨f0, f1, f2, f3, f4, f5⟩ := hf b hb
      exact ⟨by rw [upd_ne (hlt b hb)]; exact f0, f1, f2, f3, f4, f5⟩
    refine ⟨_, rfl, wpAny_letOwnedTupleGo_enum ho fun h'' he' hs' => ?_⟩
    refine ⟨.ref s.heap.objs.size, _, I2.turnedL (wr := [e]) (t' := s.toks + 1) (fun b o hb q => (hs'.2 b (fun z => hb (by simp [z]))).trans q) (fun b hb => hf2 b (by rw [List.mem_singleton.mp hb]; simp)), rfl, ⟨_, x, fun ys hy => by rw [I.list_inj hy hq]; exact hx, fr, rfl, rfl⟩, ⟨⟨_, by simpa using he'⟩, hit'.at fun o q => (hs'.2 it hei.symm).trans q⟩, fun b hb => (hf2 b hb).1⟩
  done := by
    intro X hP hw hK hc i pins s σ H E I hf st hg
    subst hP hw hK
    obtain ⟨xs, hq, hx⟩ := hg
    obtain ⟨its, rv, p, hz⟩ := I.list hq
    have hl := rv.length
    obtain ⟨⟨old, he⟩, hit⟩ := st
    exact wpAny_pyNext_enum_end (I.ok.hd hc) he hit p.isList (by simp; omega) fun h' eb => ⟨rfl, I.turnedL (wr := [it]) (t' := s.toks) (fun b o hb q => eb b o (fun z => hb (by simp [z])) q) (fun b hb => hf b (by rw [List.mem_singleton.mp hb]; simp))⟩
  self := fun _ _ _ _ _ st h => wpAny_pyIter_enum st.1.choose_spec h
section
variable {X : Cx} {elts : List Expr} {k : Nat} {tp : Pos}
def iEnum (K : PySem.W.Frag) (ta : TA) : TI := fun σ H R => ta σ H fun vs H1 => ∃ a, vs = [.ref a] ∧ (∃ xs, SqL K H1 a xs) ∧ R (Ite K a) H1
theorem pi_enum {a : Expr} {ta : TA} {p pos : Pos} (hg : Gl X "enumerate") (hm : X.mg "enumerate" = none) (ha : PA X [a] ta) (hs : starEach [a] X.env = [(false, eval a X.env)] := by rfl) : PI X (.Tuple elts k tp) (.Call (.Name "enumerate" p) [a] [] pos) (iEnum X.K ta) := by
  intro pins s σ H R I h
  refine Call_ (ld_blt I hg hm (show bootBuiltins "enumerate" = some (.type "enumerate") by decide +kernel) (PyProof.Rows.callWith_type1 (thn (ha pos pins s σ H _ I h) fun us s1 ⟨vs, H1, I1, r1, q1⟩ => ?_) (by rw [hs]; rfl) (by rfl)))
  obtain ⟨a, e, ⟨xs, hq⟩, q⟩ := q1
  subst e
  obtain ⟨u, rfl, rx⟩ := vals1 r1
  cases rx
  obtain ⟨its, rv, pl, hz⟩ := I1.list hq
  refine call_enumerate_list pl.isList fun h' he hit hsz kp => ?_
  have I2 : Inv X pins σ H1 { s1 with heap := h' } := I1.kept (t' := s1.toks) kp
  refine wpAny_pyIter_enum he ?_
  refine ⟨s1.heap.objs.size + 1, [s1.heap.objs.size + 1, s1.heap.objs.size], _, _, H1, rfl, I2, turn_enum a _ _ (Nat.succ_ne_self _), ⟨⟨_, he⟩, hit⟩, fun b hb => ?_, q⟩
  simp only [List.mem_cons, List.not_mem_nil, or_false] at hb
  rcases hb with rfl | rfl
  · exact I1.fpOk (Nat.le_succ _) (I1.hok.fresh (Nat.le_succ _))
  · exact I1.fpOk (Nat.le_refl _) (I1.hok.fresh (Nat.le_refl _))
theorem qi_enum {a : Expr} {ta : TA} {p pos : Pos} (hg : Gl X "enumerate") (hm : X.mg "enumerate" = none) (ha : QA X [a] ta) (hs : starEach [a] X.env = [(false, eval a X.env)] := by rfl) : QI X (.Tuple elts k tp) (.Call (.Name "enumerate" p) [a] [] pos) (iEnum X.K ta) := ⟨pi_enum hg hm ha.h hs⟩
end
theorem for_enum {K : PySem.W.Frag} {a : Addr} {xs : List V} {g : TG} {tb : TS} {D : Ends} {σ : St} {H : Hp} (Pv : Nat → St → Hp → Prop) (h0 : Pv 0 σ H) (hl : ∀ i σ H, i ≤ xs.length → Pv i σ H → SqL K H a xs)
    (hs : ∀ i x T σ H, xs[i]? = some x → Pv i σ H → H T = none → g (.ref T) σ (upd H T (.tup [.int (i : Nat), x])) fun σ2 H2 => tb { D with nx := Pv (i + 1), ct := Pv (i + 1), bk := D.nx } σ2 H2) (hd : ∀ σ H, Pv xs.length σ H → D.nx σ H) :
    ∃ W : Nat → Nat → St → Hp → Prop, (∃ m, W 0 m σ H) ∧ ∀ i m σ H, W i m σ H →
      ((Ite K a).stop i H ∧ D.nx σ H) ∨ ((Ite K a).go i H ∧ ∃ N : St → Hp → Prop, (∀ σ' H', N σ' H' → ∃ m', m' < m ∧ W (i + 1) m' σ' H') ∧ ∀ x H', (Ite K a).yld i H x H' → g x σ H' fun σ2 H2 => tb { D with nx := N, ct := N, bk := D.nx } σ2 H2) := by
  refine ⟨fun i m σ H => m = xs.length - i ∧ i ≤ xs.length ∧ Pv i σ H, ⟨xs.length, by simp, Nat.zero_le _, h0⟩, ?_⟩
  rintro i m σ H ⟨rfl, hi, p⟩
  have q := hl i σ H hi p
  by_cases hlt : i < xs.length
  · refine .inr ⟨⟨xs, xs[i], q, by simp [hlt]⟩, Pv (i + 1), fun σ' H' p' => ⟨xs.length - (i + 1), by omega, rfl, hlt, p'⟩, fun v H' y => ?_⟩
    obtain ⟨T, x, hx, hT, rfl, rfl⟩ := y
    exact hs i x T σ _ (hx xs q) p hT
  · have e : i = xs.length := by omega
    subst e
    exact .inl ⟨⟨xs, q, Nat.le_refl _⟩, hd σ H p⟩
/-- names of builtins that the text does not give -/
structure TxtB (mg : Str → Option Value) : Prop where
  isi : mg "isinstance" = none
  int : mg "int" = none
  bool : mg "bool" = none
  abs : mg "abs" = none
  len : mg "len" = none
  range : mg "range" = none
  tup : mg "tuple" = none
  lst : mg "list" = none
  sor : mg "sorted" = none
  all : mg "all" = none
  set : mg "set" = none
  zip : mg "zip" = none
  enu : mg "enumerate" = none
  any : mg "any" = none
  max : mg "max" = none
  min : mg "min" = none
  str : mg "str" = none
  sum : mg "sum" = none
/-- a block: a list of numbers -/
def nats (L : List Nat) : List V := L.map fun p => V.int ((p : Nat) : Int)
theorem nats_ints (L : List Nat) : nats L = (L.map fun p => ((p : Nat) : Int)).map V.int := by simp [nats]
theorem nats_snoc (L : List Nat) (j : Nat) : nats (L ++ [j]) = nats L ++ [V.int (j : Int)] := by unfold nats; rw [List.map_append]; rfl
theorem nats_len (L : List Nat) : (nats L).length = L.length := by unfold nats; rw [List.length_map]
/-- lists of blocks -/
def BlAt (H : Hp) : List V → List (List Nat) → Prop
  | [], [] => True
  | v :: vs, b :: bs => (∃ a, v = .ref a ∧ H a = some (.lst (nats b))) ∧ BlAt H vs bs
  | _, _ => False
theorem BlAt.len {H : Hp} : ∀ {vs : List V} {bs : List (List Nat)}, BlAt H vs bs → vs.length = bs.length
  | [], [], _ => rfl
  | _ :: _, _ :: _, h => by rw [List.length_cons, List.length_cons, BlAt.len h.2]
theorem BlAt.imp {H H' : Hp} : ∀ {vs : List V} {bs : List (List Nat)}, BlAt H vs bs → (∀ a xs, V.ref a ∈ vs → H a = some (.lst xs) → H' a = some (.lst xs)) → BlAt H' vs bs
  | [], [], _, _ => trivial
  | v :: vs, b :: bs, ⟨⟨a, e, q⟩, r⟩, k => ⟨⟨a, e, k a _ (e ▸ List.mem_cons_self ..) q⟩, r.imp fun a xs h1 h2 => k a xs (List.mem_cons_of_mem _ h1) h2⟩
theorem BlAt.same {H H' : Hp} (s : Same H H') {vs : List V} {bs : List (List Nat)} (h : BlAt H vs bs) : BlAt H' vs bs := h.imp fun a xs _ q => s _ _ q
theorem BlAt.snoc {H : Hp} {a : Addr} {b : List Nat} (e : H a = some (.lst (nats b))) : ∀ {vs : List V} {bs : List (List Nat)}, BlAt H vs bs → BlAt H (vs ++ [.ref a]) (bs ++ [b])
  | [], [], _ => ⟨⟨a, rfl, e⟩, trivial⟩
  | _ :: _, _ :: _, h => ⟨h.1, h.2.snoc e⟩
theorem BlAt.get {H : Hp} : ∀ {vs : List V} {bs : List (List Nat)} {i : Nat} {v : V}, BlAt H vs bs → vs[i]? = some v → ∃ a b, v = .ref a ∧ bs[i]? = some b ∧ H a = some (.lst (nats b))
  | v :: vs, b :: bs, 0, _, h, e => by
    cases e
    obtain ⟨a, e, q⟩ := h.1
    exact ⟨a, b, e, rfl, q⟩
  | _ :: vs, _ :: bs, i + 1, v, h, e => BlAt.get (i := i) h.2 e
/-- tuples of blocks, rising -/
def TpAt (H : Hp) : List V → List (List Nat) → Prop
  | [], [] => True
  | v :: vs, b :: bs => (∃ a, v = .ref a ∧ H a = some (.tup (nats b))) ∧ TpAt H vs bs
  | _, _ => False
theorem TpAt.len {H : Hp} : ∀ {vs : List V} {bs : List (List Nat)}, TpAt H vs bs → vs.length = bs.length
  | [], [], _ => rfl
  | _ :: _, _ :: _, h => by rw [List.length_cons, List.length_cons, TpAt.len h.2]
theorem TpAt.same {H H' : Hp} (s : ∀ a xs, H a = some (.tup xs) → H' a = some (.tup xs)) : ∀ {vs : List V} {bs : List (List Nat)}, TpAt H vs bs → TpAt H' vs bs
  | [], [], _ => trivial
  | v :: vs, b :: bs, ⟨⟨a, e, q⟩, r⟩ => ⟨⟨a, e, s _ _ q⟩, r.same s⟩
theorem TpAt.snoc {H : Hp} {a : Addr} {b : List Nat} (e : H a = some (.tup (nats b))) : ∀ {vs : List V} {bs : List (List Nat)}, TpAt H vs bs → TpAt H (vs ++ [.ref a]) (bs ++ [b])
  | [], [], _ => ⟨⟨a, rfl, e⟩, trivial⟩
  | _ :: _, _ :: _, h => ⟨h.1, h.2.snoc e⟩
theorem TpAt.get {H : Hp} : ∀ {vs : List V} {bs : List (List Nat)} {i : Nat} {v : V}, TpAt H vs bs → vs[i]? = some v → ∃ a b, v = .ref a ∧ bs[i]? = some b ∧ H a = some (.tup (nats b))
  | v :: vs, b :: bs, 0, _, h, e => by
    cases e
    obtain ⟨a, e, q⟩ := h.1
    exact ⟨a, b, e, rfl, q⟩
  | _ :: vs, _ :: bs, i + 1, v, h, e => TpAt.get (i := i) h.2 e
/-- a block below p -/
structure Blk (p : Nat) (b : List Nat) : Prop where
  nd : b.Nodup
  lt : ∀ x ∈ b, x < p
theorem nodup_le : ∀ (n : Nat) (b : List Nat), b.Nodup → (∀ x ∈ b, x < n) → b.length ≤ n
  | 0, [], _, _ => Nat.le_refl _
  | 0, x :: b, _, h => absurd (h x (List.mem_cons_self ..)) (Nat.not_lt_zero _)
  | n + 1, b, hn, hl => by
    have h1 := nodup_le n (b.filter (fun x => decide (x ≠ n))) (hn.filter _) (fun x hx => by
      have := List.mem_filter.mp hx
      have h2 := hl x this.1
      have h3 : x ≠ n := of_decide_eq_true this.2
      omega)
    by_cases hm : n ∈ b
    · have e : b.length = (b.filter (fun x => decide (x ≠ n))).length + 1 := by
        clear h1 hl
        induction b with
        | nil => cases hm
        | cons y b ih =>
          rw [List.nodup_cons] at hn
          by_cases hy : y = n
          · subst hy
            rw [List.filter_cons_of_neg (by simp)]
            have : b.filter (fun x => decide (x ≠ y)) = b := List.filter_eq_self.mpr fun x hx => decide_eq_true fun z => hn.1 (z ▸ hx)
            rw [this]; rfl
          · rw [List.filter_cons_of_pos (by simpa using hy)]
            have hm' : n ∈ b := (List.mem_cons.mp hm).resolve_left (fun z => hy z.symm)
            simp only [List.length_cons]
            rw [ih hn.2 hm']
      omega
    · have : b.filter (fun x => decide (x ≠ n)) = b := List.filter_eq_self.mpr fun x hx => decide_eq_true fun z => hm (z ▸ hx)
      rw [this] at h1
      omega
theorem Blk.len {p : Nat} {b : List Nat} (h : Blk p b) : b.length ≤ p := nodup_le p b h.nd h.lt
/-! ### a list or a tuple, gone through -/
def iSeq (K : PySem.W.Frag) (tl : TE) : TI := fun σ H R => tl σ H fun x H1 => ∃ a, x = .ref a ∧ (((∃ xs, SqL K H1 a xs) ∧ R (Itl K a) H1) ∨ ((∃ xs, SqT K H1 a xs) ∧ R (Itt K a) H1))
theorem pi_seq {X : Cx} {tg l : Expr} {tl : TE} (hl : PE X l tl) : PI X tg l (iSeq X.K tl) := by
  intro pins s σ H R I h
  refine thn (hl pins s σ H _ I h) fun v s1 ⟨x, H1, I1, r1, q1⟩ => ?_
  obtain ⟨a, e, q⟩ := q1
  subst e
  cases r1
  have fp : ∀ b ∈ [s1.heap.objs.size], FpOk X pins H1 b := fun b hb => by
    have e : b = s1.heap.objs.size := by simpa using hb
    subst e
    exact I1.fpOk (Nat.le_refl _) (I1.hok.fresh (Nat.le_refl _))
  rcases q with ⟨⟨xs, hq⟩, q⟩ | ⟨⟨xs, hq⟩, q⟩
  · obtain ⟨its, rv, p, hz⟩ := I1.list hq
    exact wpAny_pyIter_list p.isList ⟨s1.heap.objs.size, [s1.heap.objs.size], _, _, H1, rfl, I1.kept (t' := s1.toks) fun b o e => Heap.get?_push_of_some _ e, turn_list a _, ⟨_, Heap.get?_push_size _ rfl, rfl, rfl⟩, fp, q⟩
  · obtain ⟨its, rv, p, hz⟩ := I1.tuple hq
    exact wpAny_pyIter_tuple (show s1.heap.IsTuple a its.toArray from p) ⟨s1.heap.objs.size, [s1.heap.objs.size], _, _, H1, rfl, I1.kept (t' := s1.toks) fun b o e => Heap.get?_push_of_some _ e, turn_tuple a _, ⟨_, Heap.get?_push_size _ rfl, rfl, rfl⟩, fp, q⟩
theorem qi_seq {X : Cx} {tg l : Expr} {tl : TE} (hl : QE X l tl) : QI X tg l (iSeq X.K tl) := ⟨pi_seq hl.h⟩
/-! ### rules that name K, for comprehensions -/
theorem TpAt.sm {H H' : Hp} (s : Same H H') {vs : List V} {bs : List (List Nat)} (h : TpAt H vs bs) : TpAt H' vs bs := h.same fun a xs q => s _ _ q
theorem nats_get {b : List Nat} {j : Nat} {x : V} (h : (nats b)[j]? = some x) : ∃ p : Nat, b[j]? = some p ∧ x = V.int ((p : Nat) : Int) := by
  unfold nats at h
  rw [List.getElem?_map] at h
  cases e : b[j]? with
  | none => rw [e] at h; cases h
  | some p => rw [e] at h; cases h; exact ⟨p, rfl, rfl⟩
theorem TpAt.app {H : Hp} : ∀ {vs ws : List V} {bs cs : List (List Nat)}, TpAt H vs bs → TpAt H ws cs → TpAt H (vs ++ ws) (bs ++ cs)
  | [], _, [], _, _, h => h
  | _ :: _, _, _ :: _, _, h, h' => ⟨h.1, h.2.app h'⟩
theorem ints_isD' {K : PySem.W.Frag} {H : Hp} : ∀ L : List Nat, IsDs K H (L.map fun p => PyData.int ((p : Nat) : Int)) (nats L)
  | [] => by simp [nats, IsDs]
  | p :: L => by
    simp only [nats, List.map_cons, IsDs]
    exact ⟨_, _, rfl, by simp [IsD], ints_isD' L⟩
theorem lay_ints' : ∀ L : List Nat, PyData.canLayAll0 (L.map fun p => PyData.int ((p : Nat) : Int)) = true
  | [] => by simp [PyData.canLayAll0]
  | x :: L => by simp [PyData.canLayAll0, PyData.canLay0, lay_ints' L]
theorem depth_ints' : ∀ L : List Nat, PyData.depthAll (L.map fun p => PyData.int ((p : Nat) : Int)) ≤ 1
  | [] => by simp [PyData.depthAll]
  | x :: L => by
    have := depth_ints' L
    simp [PyData.depthAll, PyData.depth]
    omega
def dBlk (L : List Nat) : PyData := .list (L.map fun p => PyData.int ((p : Nat) : Int))
theorem shaped_blk (L : List Nat) : PySem.SeqAt.shaped (dBlk L) = true := by
  unfold PySem.SeqAt.shaped dBlk
  rw [Bool.and_eq_true]
  refine ⟨by simp only [PyData.canLay0]; exact lay_ints' L, decide_eq_true ?_⟩
  have := depth_ints' L
  simp only [PyData.depth]
  omega
theorem cut_from {xs : List V} {k : Nat} (hk : k ≤ xs.length) : cutV xs (some (k : Int)) none = xs.drop k := by
  unfold cutV
  have h1 : HT.sIx xs.length 0 (some (k : Int)) = k := by rw [HT.sIx_nat]; omega
  have h2 : HT.sIx xs.length xs.length none = xs.length := by simp [HT.sIx]
  rw [h1, h2, List.take_of_length_le (by rw [List.length_drop]; exact Nat.le_refl _)]
theorem seqVia {t rest : TS} {D : Ends} {σ : St} {H : Hp} (J : St → Hp → Prop) (hJ : ∀ σ' H', J σ' H' → rest D σ' H') (h : ∀ D' : Ends, (∀ σ' H', J σ' H' → D'.nx σ' H') → t D' σ H) : tSeq t rest D σ H := h { D with nx := rest D } hJ
theorem eqv_ints' : ∀ L : List Nat, PyData.eqvAll (L.map fun p => PyData.int ((p : Nat) : Int)) (L.map fun p => PyData.int ((p : Nat) : Int)) = true
  | [] => by simp [PyData.eqvAll]
  | x :: L => by simp [PyData.eqvAll, PyData.eqv, eqv_ints' L]
/-! ### a[i] += .. -/
def rGetN (K : PySem.W.Frag) : V → V → Hp → VK → Prop := fun x y H Q => ∃ (p : Addr) (xs : List V) (i : Int) (z : V), x = .ref p ∧ y = .int i ∧ SqL K H p xs ∧ 0 ≤ i ∧ atI xs i = some z ∧ Q z H
theorem get_listN {X : Cx} : PGet X (rGetN X.K) := by
  intro pins s σ H x y v u Q I rx ry h
  obtain ⟨p, xs, i, z, rfl, rfl, hq, h0, he, q⟩ := h
  cases rx
  obtain ⟨t, rfl⟩ := ry
  obtain ⟨its, r, pl, hz⟩ := I.list hq
  obtain ⟨j, h1, h2, h3, h4, h5⟩ := atI_get he
  obtain ⟨w, ew, rw'⟩ := r.get h2
  have hl := r.length
  have hn := line63
  have fin : EP X pins σ Q w s := ⟨z, H, I, rw', q⟩
  have hj : i.toNat = j := by
    rw [seqIndex_of h0 h5] at h1
    exact Option.some.inj h1
  exact wpAny_getItem_list pl.isList h0 (by omega) (by rw [hj]; simpa using ew) fin
end L2
/-! EvZip: zip of a tuple and a list. Behind EvLay. -/
namespace L2
open PySem PySem.Spec PyProof.Rows
section
variable {prog : Program} {w : World} {A : Around} {E : Value → Shared → Prop} {s : Shared}
/-- the next of a tuple's iterator, asked by a builtin -/
theorem nextT_item {it t : Addr} {i : Nat} {its : Array Value} {x : Value} {Q : Value → Shared → Prop} (hi : s.heap.IsTupleIter it t i) (ht : s.heap.IsTuple t its) (hx : its[i]? = some x)
    (hQ : ∀ h', h'.IsTupleIter it t (i + 1) → Heap.SameBut it s.heap h' → Q x { s with heap := h' }) : wpAny (model prog w) A (Builtin.SmallTypes.nextOf (.ref it)) Q E s := by
  obtain ⟨oi, gi, ci, di⟩ := id hi
  obtain ⟨ot, gt, _, nt, dt⟩ := ht
  unfold Builtin.SmallTypes.nextOf
  refine wpAny_bind (wpAny_callSpecial?_slot (name := Str.ofString "__next__") hi.typeIs PySem.F.slot_tuple_iterator_next (wpAny_call_entry PySem.F.slot_tuple_iterator_next hi.typeIs PySem.F.entry_tuple_iterator_next ?_ (PySem.F.args_tuple_iterator_next_1 _)))
  show wpAny _ _ (field (.ref it) 0 >>= _) _ _ s; refine wpAny_bind (wpAny_field gi di (x := .ref t) rfl ?_)
  show wpAny _ _ (if (Value.ref t == Value.none) = true then _ else _) _ _ s; rw [if_neg (show ¬ ((Value.ref t == Value.none) = true) from Bool.false_ne_true)]
  show wpAny _ _ (field (.ref it) 1 >>= _) _ _ s; refine wpAny_bind (wpAny_field gi di (x := .int i 0) rfl ?_)
  show wpAny _ _ (seqItems? (.ref t) >>= _) _ _ s; refine wpAny_bind (wpAny_seqItems gt dt ?_)
  simp only [Int.toNat_natCast, hx]
  have hn : ∀ f, (s.heap.update it (Obj.mapFields f)).get? it = some (Obj.mapFields f oi) := fun f => Heap.get?_update_self _ gi (Obj.isFreed_of_fields (Obj.data_mapFields di _))
  refine wpAny_bind (wpAny_setField gi di (by simp) (wpAny_pure ⟨x, rfl, wpAny_pure (hQ _ ⟨_, hn _, (Obj.cls_mapFields ..).trans ci, ?_⟩ (Heap.SameBut.update ..))⟩))
  rw [Obj.data_mapFields di]; simp [rawInt]
theorem nextT_end {it t : Addr} {i : Nat} {its : Array Value} {Q : Value → Shared → Prop} (hh : A.handled = none) (hi : s.heap.IsTupleIter it t i) (ht : s.heap.IsTuple t its) (hx : its[i]? = none)
    (hE : ∀ h' e, Heap.ExtBut it s.heap h' → (∃ o, h'.get? e = some o ∧ o.cls = .type "StopIteration") → E (.ref e) { s with heap := h' }) : wpAny (model prog w) A (Builtin.SmallTypes.nextOf (.ref it)) Q E s := by
  obtain ⟨oi, gi, ci, di⟩ := id hi
  obtain ⟨ot, gt, _, nt, dt⟩ := ht
  unfold Builtin.SmallTypes.nextOf
  refine wpAny_bind (wpAny_callSpecial?_slot (name := Str.ofString "__next__") hi.typeIs PySem.F.slot_tuple_iterator_next (wpAny_call_entry PySem.F.slot_tuple_iterator_next hi.typeIs PySem.F.entry_tuple_iterator_next ?_ (PySem.F.args_tuple_iterator_next_1 _)))
  show wpAny _ _ (field (.ref it) 0 >>= _) _ _ s; refine wpAny_bind (wpAny_field gi di (x := .ref t) rfl ?_)
  show wpAny _ _ (if (Value.ref t == Value.none) = true then _ else _) _ _ s; rw [if_neg (show ¬ ((Value.ref t == Value.none) = true) from Bool.false_ne_true)]
  show wpAny _ _ (field (.ref it) 1 >>= _) _ _ s; refine wpAny_bind (wpAny_field gi di (x := .int i 0) rfl ?_)
  show wpAny _ _ (seqItems? (.ref t) >>= _) _ _ s; refine wpAny_bind (wpAny_seqItems gt dt ?_)
  simp only [Int.toNat_natCast, hx]
  refine wpAny_bind (wpAny_rule (wpAny_bind (wpAny_setField gi di (by simp) ?_)))
  show wpAny _ _ (newExc (.type "StopIteration") [] >>= _) _ _ _; refine wpAny_bind ?_
  simp only [newExc, newTuple]; refine wpAny_bind (wpAny_newObj_type ?_ (by size_fits))
  refine wpAny_bind (m := firstArgMember _ _) (wpAny_of_eq (a := Value.none) (by first | rfl | (simp only [firstArgMember]; rfl)) (wpAny_newObj_type ?_ (by size_fits)))
  simp only [raiseNew]; refine wpAny_bind (wpAny_handled ?_)
  first | rw [show A.in1.handled = none from hh] | rw [hh]
  exact wpAny_bind (wpAny_pure (wpAny_throw (hE _ _ (((Heap.SameBut.update ..).extBut.push _).push _) ⟨_, Heap.get?_push_size _ rfl, rfl⟩)))
/-- what is kept beside the zip's own four things -/
def Kp4 (z TO i1 i2 : Addr) (h h' : Heap) : Prop := ∀ c o, c ≠ z → c ≠ TO → c ≠ i1 → c ≠ i2 → h.get? c = some o → h'.get? c = some o
theorem zipT_item {z TI TO i1 i2 l1 l2 : Addr} {k1 k2 : Nat} {xs ys : Array Value} {x y a b : Value} {Q : Option Value → Shared → Prop} (D : ZipApart z TI TO i1 i2 l1 l2) (kz : IsZip s.heap z TI TO .none) (kI : IsPair s.heap TI (.ref i1) (.ref i2)) (kO : IsPair s.heap TO a b)
    (j1 : s.heap.IsTupleIter i1 l1 k1) (j2 : s.heap.IsListIter i2 l2 k2) (t1 : s.heap.IsTuple l1 xs) (t2 : s.heap.IsList l2 ys) (hx : xs[k1]? = some x) (hy : ys[k2]? = some y)
    (hQ : ∀ h', IsZip h' z TI TO (rawInt s.heap.objs.size) → IsPair h' TO x y → h'.IsTupleIter i1 l1 (k1 + 1) → h'.IsListIter i2 l2 (k2 + 1) → IsPair h' s.heap.objs.size x y → Kp4 z TO i1 i2 s.heap h' → Q (some (.ref s.heap.objs.size)) { s with heap := h' }) :
    wpAny (model prog w) A (pyNext (.ref z)) Q E s := by
  have tz : s.TypeIs (.ref z) "zip" := ⟨_, kz, rfl⟩
  unfold pyNext
  refine wpAny_bind (wpAny_attempt (wpAny_callSpecial?_slot (name := Str.ofString "__next__") tz PySem.F.slot_zip_next (wpAny_call_entry PySem.F.slot_zip_next tz PySem.F.entry_zip_next ?_ (PySem.F.args_zip_next_1 _))))
  show wpAny _ _ (field (.ref z) 2 >>= _) _ _ _; refine wpAny_bind (wpAny_field kz rfl (x := .bool false) rfl ?_)
  show wpAny _ _ (field (.ref z) 3 >>= _) _ _ _; refine wpAny_bind (wpAny_field kz rfl (x := .ref TI) rfl (wpAny_bind (wpAny_seqItems kI rfl ?_)))
  show wpAny _ _ (Builtin.SmallTypes.ownedTupleIsFree (.ref z) >>= _) _ _ _; refine wpAny_bind ?_; unfold Builtin.SmallTypes.ownedTupleIsFree
  refine wpAny_bind (wpAny_field kz rfl (x := .none) rfl (wpAny_pure ?_)); simp only [if_true]
  refine wpAny_bind (wpAny_rule (wpAny_bind (wpAny_field kz rfl (x := .ref TO) rfl (wpAny_bind (wpAny_setField_rec kz (by simp) fun ha kza ba => wpAny_bind ?_)))))
  replace kza : IsZip ha z TI TO .ellipsis := kza
  simp only [List.zipIdx_cons, List.zipIdx_nil, List.forIn_cons, List.forIn_nil]
  refine wpAny_bind (wpAny_bind (wpAny_onRaise ?_)); show wpAny _ _ (Builtin.SmallTypes.nextOf (.ref i1) >>= _) _ _ _
  refine wpAny_bind (nextT_item (j1.extBut ba.extBut D.i1z) (t1.extBut ba.extBut D.l1z) hx fun hb j1b bb => wpAny_pure ?_)
  have kOb : IsPair hb TO a b := bb.extBut _ _ D.TOi1 (ba.extBut _ _ D.TOz kO)
  refine wpAny_bind (wpAny_seqItems kOb rfl (wpAny_bind (wpAny_updateSeq_pair kOb fun hc kOc bc => wpAny_bind (wpAny_letGo (wpAny_pure ?_)))))
  replace kOc : IsPair hc TO x b := kOc
  refine wpAny_bind (wpAny_bind (wpAny_onRaise ?_)); show wpAny _ _ (Builtin.SmallTypes.nextOf (.ref i2) >>= _) _ _ _
  have j2c := ((j2.extBut ba.extBut D.i2z).extBut bb.extBut D.i12.symm).extBut bc.extBut D.TOi2.symm
  have t2c := ((t2.extBut ba.extBut D.l2z).extBut bb.extBut D.l2i1).extBut bc.extBut D.l2TO
  refine wpAny_bind (wpAny_nextOf_list_item j2c t2c hy fun hd j2d bd => wpAny_pure ?_)
  have kOd : IsPair hd TO x b := bd.extBut _ _ D.TOi2 kOc
  refine wpAny_bind (wpAny_seqItems kOd rfl (wpAny_bind (wpAny_updateSeq_pair kOd fun he kOe be => wpAny_bind (wpAny_letGo (wpAny_pure (wpAny_pure ?_))))))
  replace kOe : IsPair he TO x y := kOe
  refine wpAny_bind (wpAny_seqItems kOe rfl (wpAny_bind (wpAny_newTuple ?_)))
  have same : he.objs.size = s.heap.objs.size := by rw [be.1, bd.1, bc.1, bb.1, ba.1]
  have kze : IsZip he z TI TO .ellipsis := be.extBut _ _ D.TOz.symm (bd.extBut _ _ D.i2z.symm (bc.extBut _ _ D.TOz.symm (bb.extBut _ _ D.i1z.symm kza)))
  have kp : Kp4 z TO i1 i2 s.heap he := fun c o n1 n2 n3 n4 q => be.extBut _ _ n2 (bd.extBut _ _ n4 (bc.extBut _ _ n2 (bb.extBut _ _ n3 (ba.extBut _ _ n1 q))))
  have j1e : he.IsTupleIter i1 l1 (k1 + 1) := ((j1b.extBut bc.extBut D.TOi1.symm).extBut bd.extBut D.i12).extBut be.extBut D.TOi1.symm
  have j2e : he.IsListIter i2 l2 (k2 + 1) := j2d.extBut be.extBut D.TOi2.symm
  have zlt : z < he.objs.size := Heap.lt_size kze
  show wpAny _ _ (Builtin.SmallTypes.ownedTupleHandOut (.ref z) (.ref he.objs.size) >>= _) _ _ _; refine wpAny_bind ?_; unfold Builtin.SmallTypes.ownedTupleHandOut
  have kzf : IsZip (he.push { cls := .type "tuple", data := .seq #[x, y] }) z TI TO .ellipsis := Heap.get?_push_of_some _ kze
  refine wpAny_bind (wpAny_setField_rec kzf (by simp) fun hg kzg bg => ?_)
  replace kzg : IsZip hg z TI TO (rawInt he.objs.size) := kzg
  refine wpAny_setField_rec kzg (by simp) fun hk kzk bk => ?_
  replace kzk : IsZip hk z TI TO (rawInt he.objs.size) := kzk
  have up : ∀ c o, c ≠ z → he.get? c = some o → hk.get? c = some o := fun c o n q => bk.extBut _ _ n (bg.extBut _ _ n (Heap.get?_push_of_some _ q))
  have kT : IsPair hk he.objs.size x y := bk.extBut _ _ (Nat.ne_of_gt zlt) (bg.extBut _ _ (Nat.ne_of_gt zlt) (Heap.get?_push_size _ rfl))
  rw [same] at kzk kT
  refine wpAny_pure ⟨_, rfl, wpAny_pure ?_⟩
  show Q (some (.ref he.objs.size)) _; rw [same]
  obtain ⟨o1, g1, c1, d1⟩ := j1e
  obtain ⟨o2, g2, c2, d2⟩ := j2e
  exact hQ hk kzk (up _ _ D.TOz kOe) ⟨o1, up _ _ D.i1z g1, c1, d1⟩ ⟨o2, up _ _ D.i2z g2, c2, d2⟩ kT fun c o n1 n2 n3 n4 q => up c o n1 (kp c o n1 n2 n3 n4 q)
theorem zipT_end {z TI TO i1 i2 l1 l2 : Addr} {k1 : Nat} {xs : Array Value} {a b : Value} {Q : Option Value → Shared → Prop} (hh : A.handled = none) (D : ZipApart z TI TO i1 i2 l1 l2) (kz : IsZip s.heap z TI TO .none) (kI : IsPair s.heap TI (.ref i1) (.ref i2)) (kO : IsPair s.heap TO a b)
    (j1 : s.heap.IsTupleIter i1 l1 k1) (t1 : s.heap.IsTuple l1 xs) (hx : xs[k1]? = none) (hQ : ∀ h', Kp4 z TO i1 i2 s.heap h' → Q none { s with heap := h' }) : wpAny (model prog w) A (pyNext (.ref z)) Q E s := by
  have tz : s.TypeIs (.ref z) "zip" := ⟨_, kz, rfl⟩
  unfold pyNext
  refine wpAny_bind (wpAny_attempt (wpAny_callSpecial?_slot (name := Str.ofString "__next__") tz PySem.F.slot_zip_next (wpAny_call_entry PySem.F.slot_zip_next tz PySem.F.entry_zip_next ?_ (PySem.F.args_zip_next_1 _))))
  show wpAny _ _ (field (.ref z) 2 >>= _) _ _ _; refine wpAny_bind (wpAny_field kz rfl (x := .bool false) rfl ?_)
  show wpAny _ _ (field (.ref z) 3 >>= _) _ _ _; refine wpAny_bind (wpAny_field kz rfl (x := .ref TI) rfl (wpAny_bind (wpAny_seqItems kI rfl ?_)))
  show wpAny _ _ (Builtin.SmallTypes.ownedTupleIsFree (.ref z) >>= _) _ _ _; refine wpAny_bind ?_; unfold Builtin.SmallTypes.ownedTupleIsFree
  refine wpAny_bind (wpAny_field kz rfl (x := .none) rfl (wpAny_pure ?_)); simp only [if_true]
  refine wpAny_bind (wpAny_rule (wpAny_bind (wpAny_field kz rfl (x := .ref TO) rfl (wpAny_bind (wpAny_setField_rec kz (by simp) fun ha kza ba => wpAny_bind ?_)))))
  replace kza : IsZip ha z TI TO .ellipsis := kza
  simp only [List.zipIdx_cons, List.zipIdx_nil, List.forIn_cons, List.forIn_nil]
  refine wpAny_bind (wpAny_bind (wpAny_onRaise ?_)); show wpAny _ _ (Builtin.SmallTypes.nextOf (.ref i1) >>= _) _ _ _
  refine wpAny_bind (nextT_end hh (j1.extBut ba.extBut D.i1z) (t1.extBut ba.extBut D.l1z) hx fun hb e bb ⟨oe, ge, ce⟩ => ?_)
  have kzb : IsZip hb z TI TO .ellipsis := bb _ _ D.i1z.symm kza
  have ne : e ≠ z := fun q => by subst q; rw [kzb] at ge; cases ge; simp at ce
  refine wpAny_setField_rec kzb (by simp) fun hc _ bc => ?_
  refine wpAny_bind (wpAny_isInstance (T := "StopIteration") (b := true) ⟨oe, bc.extBut _ _ ne ge, ce⟩ isSubtype_stop ?_)
  exact wpAny_pure (hQ _ fun c o n1 _ n3 _ q => bc.extBut _ _ n1 (bb _ _ n3 (ba.extBut _ _ n1 q)))
end
abbrev zt1 (h : Heap) (l1 : Addr) : Heap := h.push { cls := .type "tuple_iterator", data := .fields #[.ref l1, .int 0 0] }
abbrev zt2 (h : Heap) (l1 l2 : Addr) : Heap := (zt1 h l1).push { cls := .type "list_iterator", data := .fields #[.ref l2, .int 0 0] }
abbrev zt3 (h : Heap) (l1 l2 : Addr) : Heap := (zt2 h l1 l2).push { cls := .type "tuple", data := .seq #[.ref h.objs.size, .ref (zt1 h l1).objs.size] }
abbrev zt4 (h : Heap) (l1 l2 : Addr) : Heap := (zt3 h l1 l2).push { cls := .type "tuple", data := .seq #[.none, .none] }
abbrev zt5 (h : Heap) (l1 l2 : Addr) : Heap := (zt4 h l1 l2).push { cls := .type "zip", data := .fields #[.none, .bool false, .bool false, .ref (zt2 h l1 l2).objs.size, .ref (zt3 h l1 l2).objs.size] }
theorem zipT_new (l1 l2 : Addr) (xs ys : Array Value) :
    Meets (Builtin.«zip.__new__» ⟨[.type "zip", .ref l1, .ref l2], []⟩) (fun _ R s => s.heap.IsTuple l1 xs ∧ s.heap.IsList l2 ys ∧ R (.ok (.ret (.ref (zt4 s.heap l1 l2).objs.size))) { s with heap := zt5 s.heap l1 l2 }) :=
  .of_wp fun prog w A R s h => by
    obtain ⟨hp, g, d, tk, os⟩ := s; obtain ⟨g1, g2, h⟩ := h
    have hsub := sub_zip
    have a1 : Heap.IsTuple (Shared.heap ⟨hp, g, d, tk, os⟩) l1 xs := g1
    have a2 : Heap.IsList (Shared.heap ⟨hp.push { cls := .type "tuple_iterator", data := .fields #[.ref l1, .int 0 0] }, g, d, tk, os⟩) l2 ys := Heap.IsList.push g2 _
    wp_walk using wpAny_pyIter_tuple a1, wpAny_pyIter_list a2
    exact ⟨_, rfl, h⟩
section
variable {prog : Program} {w : World} {A : Around} {E : Value → Shared → Prop} {s : Shared}
theorem call_zipT {l1 l2 : Addr} {xs ys : Array Value} {Q : Value → Shared → Prop} (g1 : s.heap.IsTuple l1 xs) (g2 : s.heap.IsList l2 ys)
    (h : ∀ h', IsZip h' (s.heap.objs.size + 4) (s.heap.objs.size + 2) (s.heap.objs.size + 3) .none → IsPair h' (s.heap.objs.size + 2) (.ref s.heap.objs.size) (.ref (s.heap.objs.size + 1)) → IsPair h' (s.heap.objs.size + 3) .none .none →
      h'.IsTupleIter s.heap.objs.size l1 0 → h'.IsListIter (s.heap.objs.size + 1) l2 0 → (∀ c o, s.heap.get? c = some o → h'.get? c = some o) → Q (.ref (s.heap.objs.size + 4)) { s with heap := h' }) :
    wpAny (model prog w) A (call (.type "zip") [.ref l1, .ref l2]) Q E s := by
  refine callType_new PySem.F.called_zip (by decide) (PySem.F.typeCall_zip_2 _ _) (PySem.F.newCall_zip_2 _ _) (fun obj => PySem.F.args_object_init_3 obj _ _) PySem.F.entry_zip_new (zipT_new l1 l2 xs ys) ⟨g1, g2, ?_⟩
  have n1 : (zt1 s.heap l1).objs.size = s.heap.objs.size + 1 := Heap.size_push ..
  have n2 : (zt2 s.heap l1 l2).objs.size = s.heap.objs.size + 2 := by rw [Heap.size_push, n1]
  have n3 : (zt3 s.heap l1 l2).objs.size = s.heap.objs.size + 3 := by rw [Heap.size_push, n2]
  have n4 : (zt4 s.heap l1 l2).objs.size = s.heap.objs.size + 4 := by rw [Heap.size_push, n3]
  have up : ∀ {c o}, (zt3 s.heap l1 l2).get? c = some o → (zt5 s.heap l1 l2).get? c = some o := fun q => Heap.get?_push_of_some _ (Heap.get?_push_of_some _ q)
  have up1 : ∀ {c o}, (zt1 s.heap l1).get? c = some o → (zt5 s.heap l1 l2).get? c = some o := fun q => up (Heap.get?_push_of_some _ (Heap.get?_push_of_some _ q))
  have q5 : (zt5 s.heap l1 l2).get? (zt4 s.heap l1 l2).objs.size = some _ := Heap.get?_push_size _ rfl
  have q4 : (zt5 s.heap l1 l2).get? (zt3 s.heap l1 l2).objs.size = some _ := Heap.get?_push_of_some _ (Heap.get?_push_size _ rfl)
  have q3 : (zt5 s.heap l1 l2).get? (zt2 s.heap l1 l2).objs.size = some _ := up (Heap.get?_push_size _ rfl)
  have q2 : (zt5 s.heap l1 l2).get? (zt1 s.heap l1).objs.size = some _ := up (Heap.get?_push_of_some _ (Heap.get?_push_size _ rfl))
  have q1 : (zt5 s.heap l1 l2).get? s.heap.objs.size = some _ := up1 (Heap.get?_push_size _ rfl)
  show _ ∧ _
  rw [n2, n3, n4] at q5; rw [n1, n2] at q3; rw [n3] at q4; rw [n1] at q2; rw [n4]
  exact ⟨⟨_, q5, rfl⟩, h _ q5 q3 q4 ⟨_, q1, rfl, rfl⟩ ⟨_, q2, rfl, rfl⟩ fun c o q => up1 (Heap.get?_push_of_some _ q)⟩
end
/-- the pairs of a tuple's and a list's items -/
def Itz (K : PySem.W.Frag) (a b : Addr) : It :=
  ⟨fun i H => ∃ xs x ys y, SqT K H a xs ∧ xs[i]? = some x ∧ SqL K H b ys ∧ ys[i]? = some y, fun i H v H' => ∃ T x y, (∀ xs, SqT K H a xs → xs[i]? = some x) ∧ (∀ ys, SqL K H b ys → ys[i]? = some y) ∧ H T = none ∧ v = .ref T ∧ H' = upd H T (.tup [x, y]), fun i H => ∃ xs, SqT K H a xs ∧ xs.length ≤ i⟩
theorem turn_zipT {P : Program} {w : World} {K : PySem.W.Frag} {elts : List Expr} {k : Nat} {tp : Pos} (l1 l2 z TI TO i1 i2 : Addr) (D : ZipApart z TI TO i1 i2 l1 l2) : Turn P w K (.Tuple elts k tp) (Itz K l1 l2) [z, TO, i1, i2, TI] z
    (fun i h => IsZip h z TI TO .none ∧ IsPair h TI (.ref i1) (.ref i2) ∧ (∃ a b, IsPair h TO a b) ∧ h.IsTupleIter i1 l1 i ∧ h.IsListIter i2 l2 i) where
  mem := by simp
  obj := fun i h st b hb => by
    obtain ⟨kz, kI, ⟨a, b', kO⟩, ⟨o1, g1, _, d1⟩, ⟨o2, g2, _, d2⟩⟩ := st
    simp only [List.mem_cons, List.not_mem_nil, or_false] at hb
    rcases hb with rfl | rfl | rfl | rfl | rfl
    · exact ⟨_, kz, fun v q => by cases q⟩
    · exact ⟨_, kO, fun v q => by cases q⟩
    · exact ⟨o1, g1, fun v q => by rw [d1] at q; cases q⟩
    · exact ⟨o2, g2, fun v q => by rw [d2] at q; cases q⟩
    · exact ⟨_, kI, fun v q => by cases q⟩
  keep := fun i h h' ⟨kz, kI, ⟨a, b', kO⟩, ⟨o1, g1, r1⟩, ⟨o2, g2, r2⟩⟩ kp => ⟨kp z (by simp) _ kz, kp TI (by simp) _ kI, ⟨a, b', kp TO (by simp) _ kO⟩, ⟨o1, kp i1 (by simp) _ g1, r1⟩, ⟨o2, kp i2 (by simp) _ g2, r2⟩⟩
  item := by
    intro X hP hw hK hc i pins s σ H E I hf st hg
    subst hP hw hK
    obtain ⟨xs, x, ys, y, hq, hx, hq', hy⟩ := hg
    obtain ⟨us, rv, p, hz⟩ := I.tuple hq
    obtain ⟨us', rv', p', hz'⟩ := I.list hq'
    obtain ⟨u, hu, ru⟩ := rv.get hx
    obtain ⟨u', hu', ru'⟩ := rv'.get hy
    obtain ⟨kz, kI, ⟨a, b', kO⟩, j1, j2⟩ := st
    have fr : H s.heap.objs.size = none := I.hok.fresh (Nat.le_refl _)
    have hlt : ∀ b ∈ [z, TO, i1, i2, TI], b ≠ s.heap.objs.size := fun b hb e => by
      simp only [List.mem_cons, List.not_mem_nil, or_false] at hb
      have lt : ∀ {c o}, s.heap.get? c = some o → c ≠ s.heap.objs.size := fun q => Nat.ne_of_lt (Heap.lt_size q)
      rcases hb with rfl | rfl | rfl | rfl | rfl
      · exact lt kz e
      · exact lt kO e
      · obtain ⟨_, g, _⟩ := j1; exact lt g e
      · obtain ⟨_, g, _⟩ := j2; exact lt g e
      · exact lt kI e
    refine zipT_item D kz kI kO j1 j2 p p'.isList (x := u) (y := u') (by simpa using hu) (by simpa using hu') fun h' kz' kO' j1' j2' kT kp => ?_
    have I1 : Inv X pins σ H { s with heap := h', toks := s.toks } := I.turnedL (wr := [z, TO, i1, i2]) (fun b o hb q => kp b o (fun e => hb (by simp [e])) (fun e => hb (by simp [e])) (fun e => hb (by simp [e])) (fun e => hb (by simp [e])) q) (fun b hb => hf b (by
      simp only [List.mem_cons, List.not_mem_nil, or_false] at hb ⊢
      rcases hb with e | e | e | e <;> simp [e]))
    have I2 : Inv X pins σ (upd H s.heap.objs.size (.tup [x, y])) { s with heap := h', toks := s.toks } := I.tracked I1 (Nat.le_refl _) ⟨by show 2 ≤ sizeLine; decide, [u, u'], .cons ru (.cons ru' .nil), ⟨_, kT, rfl, _, rfl⟩⟩
    have hf2 : ∀ b ∈ [z, TO, i1, i2, TI], FpOk X pins (upd H s.heap.objs.size (.tup [x, y])) b := fun b hb => by
      obtain ⟨f0, f1, f2, f3, f4, f5⟩ := hf b hb
      exact ⟨by rw [upd_ne (hlt b hb)]; exact f0, f1, f2, f3, f4, f5⟩
    refine ⟨_, rfl, wpAny_letOwnedTupleGo_zip kz' fun h'' kz'' bs => ?_⟩
    have bk : ∀ b o, b ≠ z → h'.get? b = some o → h''.get? b = some o := fun b o n q => (bs.2 b n).trans q
    obtain ⟨o1, g1, r1⟩ := j1'
    obtain ⟨o2, g2, r2⟩ := j2'
    refine ⟨.ref s.heap.objs.size, _, I2.turnedL (wr := [z]) (t' := s.toks) (fun b o hb q => bk b o (fun e => hb (by simp [e])) q) (fun b hb => hf2 b (by rw [List.mem_singleton.mp hb]; simp)), rfl,
      ⟨_, x, y, fun zs hs => by rw [I.tuple_inj hs hq]; exact hx, fun zs hs => by rw [I.list_inj hs hq']; exact hy, fr, rfl, rfl⟩,
      ⟨kz'', bk _ _ D.TIz (kp _ _ D.TIz D.TITO D.TIi1 D.TIi2 kI), ⟨_, _, bk _ _ D.TOz kO'⟩, ⟨o1, bk _ _ D.i1z g1, r1⟩, ⟨o2, bk _ _ D.i2z g2, r2⟩⟩, fun b hb => (hf2 b hb).1⟩
  done := by
    intro X hP hw hK hc i pins s σ H E I hf st hg
    subst hP hw hK
    obtain ⟨xs, hq, hx⟩ := hg
    obtain ⟨us, rv, p, hz⟩ := I.tuple hq
    have hl := rv.length
    obtain ⟨kz, kI, ⟨a, b', kO⟩, j1, j2⟩ := st
    exact zipT_end (I.ok.hd hc) D kz kI kO j1 p (by simp; omega) fun h' kp => ⟨rfl, I.turnedL (wr := [z, TO, i1, i2]) (t' := s.toks) (fun b o hb q => kp b o (fun e => hb (by simp [e])) (fun e => hb (by simp [e])) (fun e => hb (by simp [e])) (fun e => hb (by simp [e])) q) (fun b hb => hf b (by
      simp only [List.mem_cons, List.not_mem_nil, or_false] at hb ⊢
      rcases hb with e | e | e | e <;> simp [e]))⟩
  self := fun _ _ _ _ _ st h => wpAny_pyIter_zip st.1 h
section
variable {X : Cx} {elts : List Expr} {k : Nat} {tp : Pos}
def iZipT (K : PySem.W.Frag) (ta : TA) : TI := fun σ H R => ta σ H fun vs H1 => ∃ a b, vs = [.ref a, .ref b] ∧ (∃ xs, SqT K H1 a xs) ∧ (∃ ys, SqL K H1 b ys) ∧ R (Itz K a b) H1
theorem pi_zipT {a b : Expr} {ta : TA} {p pos : Pos} (hg : Gl X "zip") (hm : X.mg "zip" = none) (ha : PA X [a, b] ta) (hs : starEach [a, b] X.env = [(false, eval a X.env), (false, eval b X.env)] := by rfl) (hs2 : starEach [b] X.env = [(false, eval b X.env)] := by rfl) : PI X (.Tuple elts k tp) (.Call (.Name "zip" p) [a, b] [] pos) (iZipT X.K ta) := by
  intro pins s σ H R I h
  refine Call_ (ld_blt I hg hm (show bootBuiltins "zip" = some (.type "zip") by decide +kernel) (PyProof.Rows.callWith_type1 (thn (ha pos pins s σ H _ I h) fun us s1 ⟨vs, H1, I1, r1, q1⟩ => ?_) (by rw [hs, hs2]) (by rw [hs2]; rfl)))
  obtain ⟨a, b, e, ⟨xs, hq⟩, ⟨ys, hq'⟩, q⟩ := q1
  subst e
  cases r1 with
  | cons ra rr =>
    cases rr with
    | cons rb rr =>
      cases rr
      cases ra
      cases rb
      obtain ⟨its, rv, pl, hz⟩ := I1.tuple hq
      obtain ⟨its', rv', pl', hz'⟩ := I1.list hq'
      have la : a < s1.heap.objs.size := by obtain ⟨_, g, _⟩ := pl; exact Heap.lt_size g
      have lb : b < s1.heap.objs.size := by obtain ⟨_, g, _⟩ := pl'.isList; exact Heap.lt_size g
      refine call_zipT pl pl'.isList fun h' kz kI kO j1 j2 kp => ?_
      have I2 : Inv X pins σ H1 { s1 with heap := h' } := I1.kept (t' := s1.toks) kp
      refine wpAny_pyIter_zip kz ?_
      have D : ZipApart (s1.heap.objs.size + 4) (s1.heap.objs.size + 2) (s1.heap.objs.size + 3) s1.heap.objs.size (s1.heap.objs.size + 1) a b := PySem.W.ktu_apart _ _ _ la lb
      refine ⟨s1.heap.objs.size + 4, [s1.heap.objs.size + 4, s1.heap.objs.size + 3, s1.heap.objs.size, s1.heap.objs.size + 1, s1.heap.objs.size + 2], _, _, H1, rfl, I2, turn_zipT a b _ _ _ _ _ D, ⟨kz, kI, ⟨_, _, kO⟩, j1, j2⟩, fun c hc => ?_, q⟩
      have : s1.heap.objs.size ≤ c := by
        simp only [List.mem_cons, List.not_mem_nil, or_false] at hc
        rcases hc with rfl | rfl | rfl | rfl | rfl
        · exact Nat.le_add_right _ _
        · exact Nat.le_add_right _ _
        · exact Nat.le_refl _
        · exact Nat.le_add_right _ _
        · exact Nat.le_add_right _ _
      exact I1.fpOk this (I1.hok.fresh this)
theorem qi_zipT {a b : Expr} {ta : TA} {p pos : Pos} (hg : Gl X "zip") (hm : X.mg "zip" = none) (ha : QA X [a, b] ta) (hs : starEach [a, b] X.env = [(false, eval a X.env), (false, eval b X.env)] := by rfl) (hs2 : starEach [b] X.env = [(false, eval b X.env)] := by rfl) : QI X (.Tuple elts k tp) (.Call (.Name "zip" p) [a, b] [] pos) (iZipT X.K ta) := ⟨pi_zipT hg hm ha.h hs hs2⟩
end
end L2
/-! EvSort: sorted of a list of pairs of numbers: the same pairs in some order. Behind EvLay. -/
namespace L2
open PySem PySem.Spec PyProof.Rows PySem.W
section
variable {n : Nat} (hn : 0 < n)
include hn
end
section
variable {prog : Program} {w : World} {A : Around} {E : Value → Shared → Prop} {s : Shared}
end
end L2
/-! EvMul: tuple * number. Behind EvLay. -/
namespace PySem
open Sem (wp)
open Builtin
end PySem
namespace L2
open PySem PySem.Spec PyProof.Rows
end L2
namespace HT2
open PySem PySem.Spec PyProof.Rows HT
variable {prog : Program} {w : World} {A : Around} {E : Value → Shared → Prop} {s : Shared}
end HT2
namespace L2
open PySem PySem.Spec PyProof.Rows
end L2
/-! EvTold: loops by steps, zip of two lists, a def that calls itself. Behind EvMul. -/
namespace L2
open PySem PySem.Spec PyProof.Rows
theorem FnOk.never {P : Program} {w : World} {K : PySem.W.Frag} {mg : Str → Option Value} {base : Heap} {CX : CXT} {k : Nat} {f : Addr} {fd : FuncData} {ps : List Str} : FnOk P w K mg base CX k f fd ps (fun _ _ _ _ => False) :=
  ⟨fun _ _ _ _ h => h.elim, fun _ _ _ _ _ _ _ _ _ _ _ _ _ h => h.elim⟩
section
variable {X : Cx} {elts : List Expr} {k : Nat} {tp : Pos}
end
end L2
/-! EvEnt: enumerate of a tuple, values of an `or`, a list taken apart. Behind EvTold and EvZip. -/
namespace L2
open PySem PySem.Spec PyProof.Rows
section
variable {prog : Program} {w : World} {A : Around} {E : Value → Shared → Prop} {s : Shared}
end
section
variable {X : Cx} {elts : List Expr} {k : Nat} {tp : Pos}
end
end L2
/-! EvIdx: places in tuples and lists from a start on, tuples whose object is known, lists taken apart, values of an `or`. Behind EvEnt. -/
namespace L2
open PySem PySem.Spec PyProof.Rows
section
variable {prog : Program} {w : World} {A : Around} {E : Value → Shared → Prop} {s : Shared}
end
/-! ### places from a start on -/
end L2
/-! EvKw: enumerate(tuple, start=k), sum of a list of numbers. Behind EvIdx. -/
namespace L2
open PySem PySem.Spec PyProof.Rows
section
variable {prog : Program} {w : World} {A : Around} {E : Value → Shared → Prop} {s : Shared}
end
section
variable {prog : Program} {w : World} {A : Around} {E : Value → Shared → Prop} {s : Shared}
end
section
variable {M : Model} {A : Around} {E : Value → Shared → Prop} {s : Shared} {env : Env}
end
/-- sum(list of numbers) -/
def rSumI (K : PySem.W.Frag) : List V → Hp → VK → Prop := fun xs H Q => ∃ (a : Addr) (ns : List Int), xs = [.ref a] ∧ SqL K H a (ns.map V.int) ∧ Q (.int ns.sum) H
theorem call_sumI {X : Cx} (hc : X.calm = true) : CallR X (.builtin "sum") (rSumI X.K) := by
  intro pins s σ H xs us Q I r h
  obtain ⟨a, ns, rfl, hq, q⟩ := h
  obtain ⟨u, rfl, rx⟩ := vals1 r
  cases rx
  obtain ⟨its, rv, pl, hz⟩ := I.list hq
  have hi := ints_of_vals rv
  obtain ⟨zs, hx⟩ := hi.allInts.items
  have hl : s.heap.IsList a (intItems zs) := hx ▸ pl.isList
  refine sum_intListG (I.ok.hd hc) hl fun h2 tk t2 hk => ⟨.int ns.sum, H, I.kept (t' := tk) hk, ⟨t2, ?_⟩, q⟩
  have e1 : ns = zs.toList.map (·.1) := by
    rw [← nums_intItems, ← hx]
    exact (show numsOf its.toArray.toList = ns from hi.numsOf).symm
  rw [preSum_eq, List.take_of_length_le (by simp), e1]
section
variable {X : Cx} {elts : List Expr} {k : Nat} {tp : Pos}
end
end L2
namespace L2
open PySem PySem.Spec PyProof.Rows
/-! ### lists of pairs as tables -/
section
variable {κ : Type} [DecidableEq κ]
def valV (kvs : List (κ × V)) (k : κ) : Option V := (kvs.find? fun kv => decide (kv.1 = k)).map (·.2)
/-- in its place, or at the end -/
def putK (kvs : List (κ × V)) (k : κ) (v : V) : List (κ × V) :=
  if (kvs.any fun kv => decide (kv.1 = k)) = true then kvs.map (fun kv => if kv.1 = k then (kv.1, v) else kv) else kvs ++ [(k, v)]
theorem valV_pos {p : κ × V} {r : List (κ × V)} {k : κ} (e : p.1 = k) : valV (p :: r) k = some p.2 := by simp [valV, List.find?_cons, e]
theorem valV_neg {p : κ × V} {r : List (κ × V)} {k : κ} (e : ¬ p.1 = k) : valV (p :: r) k = valV r k := by simp [valV, List.find?_cons, e]
theorem valV_any (k : κ) : ∀ kvs : List (κ × V), (kvs.any fun kv => decide (kv.1 = k)) = (valV kvs k).isSome
  | [] => rfl
  | p :: r => by
    rw [List.any_cons]
    by_cases e : p.1 = k
    · simp only [valV_pos e, decide_eq_true e, Bool.true_or, Option.isSome_some]
    · rw [valV_neg e, decide_eq_false e, Bool.false_or]; exact valV_any k r
theorem valV_snoc (k j : κ) (y : V) : ∀ kvs : List (κ × V), valV kvs k = none → valV (kvs ++ [(k, y)]) j = if j = k then some y else valV kvs j
  | [], _ => by
    by_cases e : k = j
    · rw [if_pos e.symm]; exact valV_pos (p := (k, y)) e
    · rw [if_neg (fun z => e z.symm)]; exact valV_neg (p := (k, y)) e
  | p :: r, hn => by
    rw [List.cons_append]
    have hk : ¬ p.1 = k := fun z => by rw [valV_pos z] at hn; cases hn
    rw [valV_neg hk] at hn
    have ih := valV_snoc k j y r hn
    by_cases e : p.1 = j
    · rw [valV_pos e, valV_pos e, if_neg (fun z => hk (e.trans z))]
    · rw [valV_neg e, valV_neg e, ih]
theorem length_putK (kvs : List (κ × V)) (k : κ) (v : V) : (putK kvs k v).length ≤ kvs.length + 1 := by
  unfold putK
  split
  · rw [List.length_map]; omega
  · rw [List.length_append, List.length_cons, List.length_nil]; omega
theorem RelO.isSome_eq {o : Option V} {u : Option Value} (r : RelO o u) : o.isSome = u.isSome := by
  cases o with
  | none => cases u with
    | none => rfl
    | some _ => exact (show False from r).elim
  | some _ => cases u with
    | none => exact (show False from r).elim
    | some _ => rfl
/-- raw tables of the same keys -/
theorem KV.val {kvs : List (κ × V)} {vs : List (κ × Value)} (r : KV kvs vs) (k : κ) : RelO (valV kvs k) (valueAt vs k) := by
  unfold KV at r
  induction r with
  | nil => exact True.intro
  | @cons p q ps qs h t ih =>
    obtain ⟨h1, h2⟩ := h
    by_cases e : p.1 = k
    · have e' : q.1 = k := h1.symm.trans e
      have b : valueAt (q :: qs) k = some q.2 := by simp [valueAt, List.find?_cons, e']
      rw [valV_pos e, b]; exact h2
    · have e' : ¬ q.1 = k := fun z => e (h1.trans z)
      have b : valueAt (q :: qs) k = valueAt qs k := by simp [valueAt, List.find?_cons, e']
      rw [valV_neg e, b]; exact ih
end


/-! ### a tracked dict, its keys ints and texts or tuples of these -/
theorem kV_is {P : Program} {w : World} {k : Key} {u : Value} (r : RelV (kV k) u) : (mixKind P w).is k u = true := by
  cases k with
  | inl i => obtain ⟨t, e⟩ := (show ∃ t, u = Value.int i t from r); subst e; exact mixKind_int P w i t
  | inr x => obtain ⟨t, e⟩ := (show ∃ t, u = Value.str x t from r); subst e; exact mixKind_str P w x t
theorem items_are {P : Program} {w : World} : ∀ {ks : List Key} {us : List Value}, Vals (ks.map kV) us → ItemsAre (mixKind P w) ks us
  | [], _, r => by rw [List.map_nil] at r; cases r; exact .nil
  | k :: ks, _, r => by
    rw [List.map_cons] at r
    cases r with
    | cons h t => exact .cons (kV_is h) (items_are t)

/-- raw entries of a dict with tuple keys -/
abbrev KT (H : Hp) : List (List Key × V) → List (List Key × Addr × Value) → Prop := Paired fun p q => p.1 = q.1 ∧ H q.2.1 = some (.tup (p.1.map kV)) ∧ RelV p.2 q.2.2
theorem KT.val {H : Hp} {kvs : List (List Key × V)} {xs : List (List Key × Addr × Value)} (r : KT H kvs xs) (k : List Key) : RelO (valV kvs k) ((atKey xs k).map (·.2)) := by
  induction r with
  | nil => exact True.intro
  | @cons p q ps qs h t ih =>
    obtain ⟨h1, _, h2⟩ := h
    by_cases e : p.1 = k
    · have e' : q.1 = k := h1.symm.trans e
      have b : atKey (q :: qs) k = some q.2 := by simp [atKey, List.find?_cons, e']
      rw [valV_pos e, b]; exact h2
    · have e' : ¬ q.1 = k := fun z => e (h1.trans z)
      have b : atKey (q :: qs) k = atKey qs k := by simp [atKey, List.find?_cons, e']
      rw [valV_neg e, b]; exact ih
theorem KT.repl {H : Hp} {kvs : List (List Key × V)} {xs : List (List Key × Addr × Value)} (r : KT H kvs xs) (k : List Key) {y : V} {u : Value} (ry : RelV y u) :
    KT H (kvs.map fun kv => if kv.1 = k then (kv.1, y) else kv) (xs.map (putAt k u)) := by
  induction r with
  | nil => exact .nil
  | @cons p q ps qs h t ih =>
    rw [List.map_cons, List.map_cons]
    refine .cons ?_ ih
    obtain ⟨h1, h2, h3⟩ := h
    unfold putAt
    by_cases e : p.1 = k
    · rw [if_pos e, if_pos (h1.symm.trans e)]; exact ⟨h1, h2, ry⟩
    · rw [if_neg e, if_neg (fun z => e (h1.trans z))]; exact ⟨h1, h2, h3⟩
theorem KT.put {H : Hp} {kvs : List (List Key × V)} {xs : List (List Key × Addr × Value)} (r : KT H kvs xs) (k : List Key) {b : Addr} {y : V} {u : Value} (hb : H b = some (.tup (k.map kV))) (ry : RelV y u) :
    KT H (putK kvs k y) (storedH xs k b u) := by
  have e : (kvs.any fun kv => decide (kv.1 = k)) = (atKey xs k).isSome := by
    rw [valV_any, (r.val k).isSome_eq, Option.isSome_map]
  unfold putK storedH
  rw [e]
  by_cases q : (atKey xs k).isSome = true
  · rw [if_pos q, if_pos q]; exact r.repl k ry
  · rw [if_neg q, if_neg q]; exact Paired.snoc r ⟨rfl, hb, ry⟩
theorem KT.keeps {H H' : Hp} {kvs : List (List Key × V)} {xs : List (List Key × Addr × Value)} (r : KT H kvs xs) (ht : ∀ b ys, H b = some (.tup ys) → H' b = some (.tup ys)) : KT H' kvs xs :=
  Paired.mapP r fun _ _ z => ⟨z.1, ht _ _ z.2.1, z.2.2⟩

section
variable {P : Program} {w : World} {H : Hp} {h : Heap} {a : Addr}
theorem rd_of {u : HO} (ok : HOk P w H h) (e : Rd H a u) : ObjOk P w H h a u := e.ok ok
theorem dk_rd {kvs : List (Key × V)} (ok : HOk P w H h) (e : Rd H a (.dK kvs)) : kvs.length ≤ sizeLine ∧ (a == sysModules) = false ∧ ∃ vs, KV kvs vs ∧ h.DictOf (mixKind P w) a vs :=
  show ObjOk P w H h a (.dK kvs) from rd_of ok e
/-- a tracked tuple of ints and texts is a key -/
theorem key_of {ks : List Key} (ok : HOk P w H h) (e : H a = some (.tup (ks.map kV))) : (tupleKind (mixKind P w)).is h ks a := by
  obtain ⟨_, its, r, o, h1, h2, n, h3⟩ := (show ObjOk P w H h a (.tup (ks.map kV)) from ok a _ e)
  exact ⟨o, its.toArray, n, h1, h2, h3, by simpa using items_are r⟩
theorem dt_rd {kvs : List (List Key × V)} (ok : HOk P w H h) (e : Rd H a (.dT kvs)) : kvs.length ≤ sizeLine ∧ (a == sysModules) = false ∧
    ∃ xs, KT H kvs xs ∧ h.DictOfH (tupleKind (mixKind P w)) a xs := by
  obtain ⟨z, y, xs, r, o, es, ep, h1, h2, h3, h4, h5⟩ := (show ObjOk P w H h a (.dT kvs) from rd_of ok e)
  refine ⟨z, y, xs, r, o, es, ep, h1, h2, h3, h4, fun x hx => ?_, h5⟩
  have all : ∀ {l : List (List Key × V)} {m : List (List Key × Addr × Value)}, KT H l m → ∀ x ∈ m, (tupleKind (mixKind P w)).is h x.1 x.2.1 := by
    intro l m q
    induction q with
    | nil => intro x hx; exact nomatch hx
    | @cons p q ps qs hq t ih =>
      intro x hx
      rcases List.mem_cons.mp hx with e | hx
      · subst e
        exact key_of ok (by rw [← hq.1]; exact hq.2.1)
      · exact ih x hx
  exact all r x hx
theorem dt_of {kvs : List (List Key × V)} (ok : HOk P w H h) (e : H a = some (.dT kvs)) : kvs.length ≤ sizeLine ∧ (a == sysModules) = false ∧
    ∃ xs, KT H kvs xs ∧ h.DictOfH (tupleKind (mixKind P w)) a xs := dt_rd ok (.inl e)
end

/-- what the dict at a holds at the key y -/
def DGet (H : Hp) (a : Addr) (y : V) (r : Option V) : Prop :=
  (∃ kvs k, Rd H a (.dK kvs) ∧ y = kV k ∧ r = valV kvs k) ∨ ∃ kvs k b, Rd H a (.dT kvs) ∧ y = .ref b ∧ H b = some (.tup (k.map kV)) ∧ r = valV kvs k
theorem DGet.t {H : Hp} {a b : Addr} {kvs : List (List Key × V)} {k : List Key} (e : H a = some (.dT kvs)) (eb : H b = some (.tup (k.map kV))) : DGet H a (.ref b) (valV kvs k) := .inr ⟨kvs, k, b, .inl e, rfl, eb, rfl⟩
section
variable {X : Cx} {pins : List (Addr × Obj)} {σ : St} {H : Hp} {s : Shared} {a : Addr} {y v : V} {u r : Value} {o : Option V} {A : Around} {E : Value → Shared → Prop}


/-- d[y], there -/
theorem d_getItem {Q : Value → Shared → Prop} (hu : A.units + 1 < cLine) (I : Inv X pins σ H s) (g : DGet H a y (some v)) (ry : RelV y u) (h : ∀ w' s', Inv X pins σ H s' → RelV v w' → Q w' s') :
    wpAny (model X.prog X.w) A (getItem (.ref a) u) Q E s := by
  rcases g with ⟨kvs, k, e, ey, l⟩ | ⟨kvs, k, b, e, ey, eb, l⟩
  · subst ey
    obtain ⟨z, hd, vs, rel, dd⟩ := dk_rd I.hok e
    obtain ⟨w', hw, rw'⟩ := RelO.some_of (v := v) (o := valueAt vs k) (by rw [l]; exact rel.val k)
    exact wpAny_getItem_of (kV_is ry) dd.mapOf hw (h w' _ (I.tok _) rw')
  · subst ey
    cases (show u = Value.ref b from ry)
    obtain ⟨z, hd, xs, rel, dd⟩ := dt_rd I.hok e
    obtain ⟨w', hw, rw'⟩ := RelO.some_of (v := v) (o := (atKey xs k).map (·.2)) (by rw [l]; exact rel.val k)
    obtain ⟨p, hp, hp2⟩ := Option.map_eq_some_iff.mp hw
    refine wpAny_getItem_heap (tupleKind_room_in1 hu) (key_of I.hok eb) dd hp ?_
    rw [hp2]
    exact h w' _ (I.tok _) rw'
/-- a dict's object is replaced -/
theorem d_write {h' : Heap} {t' : Nat} {ob : HO} (I : Inv X pins σ H s) (mu : Mut (H a)) (hs : Heap.SameBut a s.heap h') (he : ∃ q, h'.get? a = some q) (new : ObjOk X.prog X.w (upd H a ob) h' a ob) :
    Inv X pins σ (upd H a ob) { s with heap := h', toks := t' } :=
  I.write (x := a) (e := a) mu (.inl rfl) (fun b q hb z => (hs.2 b hb).trans z) he new
end

section
variable {X : Cx} {pins : List (Addr × Obj)} {σ : St} {H : Hp} {s : Shared} {a : Addr} {kvs : List (Key × V)} {k : Key} {u : Value} {A : Around} {E : Value → Shared → Prop}
end


/-! ### readings and rules -/
/-- the element of a subscription, not a slice -/
def NoSl (i : Expr) : Prop := ∀ ov iv, subscripted i false ov iv = operate [ov, iv] (getItem ov iv)
theorem subD_of {prog : Program} {w : World} {A : Around} {E : Value → Shared → Prop} {s : Shared} {env : Env} {value slice : Expr} {pos : Pos} {T id : String} {Q : Value → Shared → Prop}
    (hl : typeLookup (.type T) "__getitem__" = pure (some (.builtin id))) (hs : NoSl slice)
    (h : wpAny (model prog w) A (eval value env) (fun o s₁ => wpAny (model prog w) A (eval slice env) (fun i s₂ => s₂.TypeIs o T ∧ wpAny (model prog w) A (getItem o i) Q E s₂) E s₁) E s) :
    wpAny (model prog w) A (eval (.Subscript value slice pos) env) Q E s := by
  refine Subscript_ (wpAny_mono h (fun o s₁ h₁ => wpAny_mono h₁ (fun i s₂ h₂ => ?_) fun _ _ x => x) fun _ _ x => x)
  obtain ⟨hT, h₂⟩ := h₂
  unfold subscriptTail
  refine wpAny_bind ?_
  rw [getitemInPython_of_ne hT.not_modules]
  refine wpAny_bind (wpAny_specialOf hT hl ?_)
  have fin : wpAny (model prog w) A (subscripted slice false o i) (fun r s₃ => wpAny (model prog w) A (letTemporaryGo value o r >>= fun _ => pure r) Q E s₃) E s₂ := by
    rw [hs o i]
    exact wpAny_operating (wpAny_mono h₂ (fun r s₃ h₃ => wpAny_bind (wpAny_letTemporaryGo (wpAny_pure h₃))) fun _ _ x => x)
  first
    | exact wpAny_pure (wpAny_bind fin)
    | exact wpAny_bind (wpAny_pure (wpAny_bind fin))
    | exact wpAny_bind fin

theorem dict_typeIs {X : Cx} {pins : List (Addr × Obj)} {σ : St} {H : Hp} {s : Shared} {a : Addr} {y : V} {o : Option V} (I : Inv X pins σ H s) (g : DGet H a y o) : s.TypeIs (.ref a) "dict" := by
  rcases g with ⟨kvs, k, e, _, _⟩ | ⟨kvs, k, b, e, _, _, _⟩
  · obtain ⟨_, _, vs, _, dd⟩ := dk_rd I.hok e
    exact dd.typeIs
  · obtain ⟨_, _, xs, _, dd⟩ := dt_rd I.hok e
    exact dd.typeIs
/-- d[y] -/
def tDGet (td ty : TE) : TE := fun σ H Q => td σ H fun x H1 => ty σ H1 fun y H2 => ∃ a v, x = .ref a ∧ DGet H2 a y (some v) ∧ Q v H2
section
variable {X : Cx} {o i e value : Expr} {pos pos' tpos : Pos} {td ty tv : TE}
theorem pe_dget (hu : X.A.units + 1 < cLine) (ho : PE X o td) (hi : PE X i ty) (hs : NoSl i) : PE X (.Subscript o i pos) (tDGet td ty) := by
  intro pins s σ H Q I h
  refine subD_of PySem.F.slot_dict_getitem.lookup hs (thn (ho pins s σ H _ I h) fun u s1 ⟨x, H1, I1, rx, q1⟩ => thn (hi pins s1 σ H1 _ I1 q1) fun iv s2 ⟨y, H2, I2, ry, a, v, ex, g, q2⟩ => ?_)
  subst ex
  obtain rfl : u = Value.ref a := rx
  exact ⟨dict_typeIs I2 g, d_getItem hu I2 g ry fun w' s3 I3 rw' => ⟨v, H2, I3, rw', q2⟩⟩
end
theorem dt_empty {P : Program} {w : World} {H : Hp} (h : Heap) (hb : sysModules < h.objs.size) : ObjOk P w H (h.push { cls := .type "dict", data := .dict #[] }) h.objs.size (.dT []) :=
  ⟨Nat.zero_le _, beq_eq_false_iff_ne.mpr (Ne.symm (Nat.ne_of_lt hb)), [], .nil, _, #[], 0, Heap.get?_push_size _ rfl, ⟨rfl, rfl, rfl⟩, rfl, rfl, List.nodup_nil⟩
def tDNewT : TE := fun _ H Q => ∀ p, H p = none → Q (.ref p) (upd H p (.dT []))
section
variable {X : Cx} {pos : Pos}
theorem pe_dnewT : PE X (.Dict [] [] pos) tDNewT := fun pins s σ H Q I h =>
  wpAny_Dict_empty ⟨.ref s.heap.objs.size, _, I.laid (a := s.heap.objs.size) (o := .dT []) (t' := s.toks) (fun _ _ q => Heap.get?_push_of_some _ q) (Nat.le_refl _) (dt_empty s.heap I.big), rfl, h _ (I.hok.fresh (Nat.le_refl _))⟩
end
end L2
/-! EvDq: dicts with tuples as keys, data in a list and its place. Behind the dict part of the layer (mk.py's dictpart). -/
namespace L2
open PySem PySem.Spec PyProof.Rows
section
variable {X : Cx} {o i value : Expr} {pos pos' : Pos} {td ty tv : TE}
theorem qe_dnewT : QE X (.Dict [] [] pos) tDNewT := ⟨pe_dnewT⟩
theorem qe_dget (hu : X.A.units + 1 < cLine) (ho : QE X o td) (hi : QE X i ty) (hs : NoSl i) : QE X (.Subscript o i pos) (tDGet td ty) := ⟨pe_dget hu ho.h hi.h hs⟩
end
end L2
/-! EvDit: a dict with numbers as keys: made, walked while it is frozen, asked with a default. Behind EvDq. -/
namespace L2
open PySem PySem.Spec PyProof.Rows
section
variable {X : Cx} {o e : Expr} {es : List Expr} {to : TE} {t : TA} {apos cpos : Pos}
end
end L2
/-! EvVal: functions as values, a try whose clause has no name, () + t. Behind EvDit. -/
namespace L2
open PySem PySem.Spec PyProof.Rows
end L2
/-! EvRev: t[::-1] and reversed(t) of a tuple t. Behind EvLay. -/
namespace L2
open PySem PySem.Spec PyProof.Rows
section
variable {prog : Program} {w : World} {A : Around} {E : Value → Shared → Prop} {s : Shared}
end
/-! ### reversed(t) -/
section
variable {prog : Program} {w : World} {A : Around} {E : Value → Shared → Prop} {s : Shared}
end
end L2
/-! EvZit: zip of two tuples. Behind EvZip. -/
namespace L2
open PySem PySem.Spec PyProof.Rows
section
variable {prog : Program} {w : World} {A : Around} {E : Value → Shared → Prop} {s : Shared}
end
section
variable {prog : Program} {w : World} {A : Around} {E : Value → Shared → Prop} {s : Shared}
end
section
variable {X : Cx} {elts : List Expr} {k : Nat} {tp : Pos}
end
end L2
/-! EvMx: max and min of a list of numbers that is not empty. Behind EvKw. -/
namespace L2
open PySem PySem.Spec PyProof.Rows
def rMaxI (K : PySem.W.Frag) : List V → Hp → VK → Prop := fun xs H Q => ∃ (a : Addr) (ns : List Int), xs = [.ref a] ∧ SqL K H a (ns.map V.int) ∧ 0 < ns.length ∧ ∀ m, m ∈ ns → (∀ x ∈ ns, x ≤ m) → Q (.int m) H
def rMinI (K : PySem.W.Frag) : List V → Hp → VK → Prop := fun xs H Q => ∃ (a : Addr) (ns : List Int), xs = [.ref a] ∧ SqL K H a (ns.map V.int) ∧ 0 < ns.length ∧ ∀ m, m ∈ ns → (∀ x ∈ ns, m ≤ x) → Q (.int m) H
theorem best_at {zs : Array (Int × Tok)} {j : Nat} (h : j < zs.size) : numAt zs j ∈ zs.toList.map (·.1) := by
  rw [numAt_eq]
  exact getD_mem (by rw [List.length_map, Array.length_toList]; exact h)
theorem best_of {zs : Array (Int × Tok)} {x : Int} (h : x ∈ zs.toList.map (·.1)) : ∃ j, j < zs.size ∧ numAt zs j = x := by
  obtain ⟨j, hj, rfl⟩ := mem_getD h
  rw [List.length_map, Array.length_toList] at hj
  exact ⟨j, hj, numAt_eq ..⟩
theorem call_maxI {X : Cx} (hc : X.calm = true) : CallR X (.builtin "max") (rMaxI X.K) := by
  intro pins s σ H xs us Q I r h
  obtain ⟨a, ns, rfl, hq, hne, q⟩ := h
  obtain ⟨u, rfl, rx⟩ := vals1 r
  cases rx
  obtain ⟨its, rv, pl, hz⟩ := I.list hq
  have hi := ints_of_vals rv
  obtain ⟨zs, hx⟩ := hi.allInts.items
  have hl : s.heap.IsList a (intItems zs) := hx ▸ pl.isList
  have e1 : ns = zs.toList.map (·.1) := by
    rw [← nums_intItems, ← hx]
    exact (show numsOf its.toArray.toList = ns from hi.numsOf).symm
  have hsz : 0 < zs.size := by
    rw [e1, List.length_map, Array.length_toList] at hne
    exact hne
  refine max_intList (I.ok.hd hc) hl hsz fun v h2 tk hv hk => ?_
  obtain ⟨t, rfl⟩ := intItems_at hv
  obtain ⟨h1, h3⟩ := argBest_gt (numAt zs) (zs.size - 1)
  refine ⟨.int _, H, I.kept (t' := tk) hk, ⟨t, rfl⟩, q _ (by rw [e1]; exact best_at (by omega)) fun x hx' => ?_⟩
  rw [e1] at hx'
  obtain ⟨j, hj, rfl⟩ := best_of hx'
  exact h3 j (by omega)
theorem call_minI {X : Cx} (hc : X.calm = true) : CallR X (.builtin "min") (rMinI X.K) := by
  intro pins s σ H xs us Q I r h
  obtain ⟨a, ns, rfl, hq, hne, q⟩ := h
  obtain ⟨u, rfl, rx⟩ := vals1 r
  cases rx
  obtain ⟨its, rv, pl, hz⟩ := I.list hq
  have hi := ints_of_vals rv
  obtain ⟨zs, hx⟩ := hi.allInts.items
  have hl : s.heap.IsList a (intItems zs) := hx ▸ pl.isList
  have e1 : ns = zs.toList.map (·.1) := by
    rw [← nums_intItems, ← hx]
    exact (show numsOf its.toArray.toList = ns from hi.numsOf).symm
  have hsz : 0 < zs.size := by
    rw [e1, List.length_map, Array.length_toList] at hne
    exact hne
  refine min_intList (I.ok.hd hc) hl hsz fun v h2 tk hv hk => ?_
  obtain ⟨t, rfl⟩ := intItems_at hv
  obtain ⟨h1, h3⟩ := argBest_lt (numAt zs) (zs.size - 1)
  refine ⟨.int _, H, I.kept (t' := tk) hk, ⟨t, rfl⟩, q _ (by rw [e1]; exact best_at (by omega)) fun x hx' => ?_⟩
  rw [e1] at hx'
  obtain ⟨j, hj, rfl⟩ := best_of hx'
  exact h3 j (by omega)
end L2
/-! EvSdf: d.setdefault(k, v), the keys tuples: what stands there stays, a new key goes to the end. Behind EvDit. -/
namespace PySem
section
variable {prog : Program} {w : World} {K : Type} [DecidableEq K] {knd : HeapKind prog w K} {A : Around} {E : Value → Shared → Prop} {s : Shared}
theorem sdf_heap {d a : Addr} {xs : List (K × Addr × Value)} {k : K} {dflt : Value} {Q : Value → Shared → Prop} (hu : knd.room A) (hkey : knd.is s.heap k a) (hm : s.heap.DictOfH knd d xs) (hsz : xs.length ≤ sizeLine)
    (h1 : ∀ p, atKey xs k = some p → Q p.2 { s with toks := s.toks + knd.draws k })
    (h2 : atKey xs k = none → ∀ h', h'.DictOfH knd d (storedH xs k a dflt) → Heap.SameBut d s.heap h' → Q dflt { s with heap := h', toks := s.toks + knd.draws k }) :
    wpAny (model prog w) A (dictSetDefault d (.ref a) dflt) Q E s := by
  obtain ⟨o, es, ep, ho, hc, hd, he, his, hn⟩ := hm
  unfold dictSetDefault
  try with_reducible refine wpAny_holding ?_
  refine wpAny_bind (knd.pyHash hu hkey (wpAny_bind (wpAny_dictFind_heap (s := { s with toks := s.toks + knd.draws k }) hu hkey ho hd he his hn (fun hno => ?_) fun j p hj => ?_)))
  · have hk := atKey_none_of_get hno
    have hnot : k ∉ xs.map (·.1) := not_mem_keys_of_get hno
    have keep : ∀ {c : K} {b : Addr}, knd.is s.heap c b → knd.is (s.heap.update d (Obj.mapDictKeys fun es => es.push ⟨knd.hash k, .ref a, dflt⟩)) c b := fun z => knd.keeps z ho hd (Heap.SameBut.update ..)
    refine wpAny_bind (wpAny_rule (wpAny_bind (wpAny_updateDictKeys (hz := by have e := size_of_entries he; omega) (s := { s with toks := s.toks + knd.draws k }) ho hd (wpAny_pure ?_))))
    refine h2 hk _ ⟨_, _, ep + 1, Heap.get?_update_self _ ho (Obj.isFreed_of_dict (Obj.data_mapDictKeys hd _)), hc.mapDictKeys _, Obj.data_mapDictKeys hd _, ?_, ?_, ?_⟩ (Heap.SameBut.update ..)
    all_goals rw [storedH_new hk]
    · simp [he, entryOfKey]
    · intro x hx
      rcases List.mem_append.mp hx with z | z
      · exact keep (his x z)
      · rw [List.mem_singleton.mp z]
        exact keep hkey
    · rw [List.map_append]
      refine List.nodup_append.mpr ⟨hn, by simp, fun x hx y hy e => hnot ?_⟩
      rw [List.map_cons, List.map_nil, List.mem_singleton] at hy
      have z : x = k := e.trans hy
      rw [← z]
      exact hx
  · refine wpAny_bind (wpAny_dictEntries (s := { s with toks := s.toks + knd.draws k }) ho hd ?_)
    rw [entry_at he j, hj]
    exact wpAny_bind (wpAny_rule (wpAny_pure (h1 p (atKey_of_get hn hj))))
theorem meetsH_sdf (d a : Addr) (hd : (d == sysModules) = false) (dflt : Value) :
    MeetsIn prog w (Builtin.«dict.setdefault» ⟨[.ref d, .ref a, dflt], []⟩) (fun A R s => knd.room A.in1 ∧ ∃ k xs, knd.is s.heap k a ∧ s.heap.DictOfH knd d xs ∧ xs.length ≤ sizeLine ∧
      (∀ p, atKey xs k = some p → R (.ok (.ret p.2)) { s with toks := s.toks + knd.draws k }) ∧
      (atKey xs k = none → ∀ h', h'.DictOfH knd d (storedH xs k a dflt) → Heap.SameBut d s.heap h' → R (.ok (.ret dflt)) { s with heap := h', toks := s.toks + knd.draws k })) :=
  .of_wp fun A R s ⟨hu, k, xs, hkey, hm, hz, h1, h2⟩ => by
    unfold Builtin.«dict.setdefault»
    refine wpAny_bind ?_
    unfold Builtin.Dict.keyAndDefault
    refine wpAny_bind (wpAny_notOrdered_dict hm.typeIs ?_)
    show wpAny _ _ (pure (d, Value.ref a, some dflt)) _ _ s
    refine wpAny_pure ?_
    show wpAny _ _ (if (d == sysModules) = true then _ else (dictSetDefault d (.ref a) dflt >>= _)) _ _ s
    rw [if_neg (by rw [hd]; exact Bool.false_ne_true)]
    exact wpAny_bind (sdf_heap hu hkey hm hz (fun p hp => wpAny_pure ⟨_, rfl, h1 p hp⟩) fun hn h' hm' hs' => wpAny_pure ⟨_, rfl, h2 hn h' hm' hs'⟩)
end
end PySem
namespace L2
open PySem PySem.Spec PyProof.Rows
/-- d.setdefault(k, v) -/
def rSdf : V → List V → Hp → VK → Prop := fun x vs H Q => ∃ (d b : Addr) (kvs : List (List Key × V)) (k : List Key) (z : V), x = .ref d ∧ vs = [.ref b, z] ∧ H d = some (.dT kvs) ∧ H b = some (.tup (k.map kV)) ∧ kvs.length < sizeLine ∧
  (∀ v, valV kvs k = some v → Q v H) ∧ (valV kvs k = none → Q z (upd H d (.dT (putK kvs k z))))
def tBMDT (r : V → List V → Hp → VK → Prop) (to : TE) (t : TA) : TE := fun σ H Q => to σ H fun x H1 => (∃ d kvs, x = .ref d ∧ H1 d = some (.dT kvs)) ∧ t σ H1 fun xs H2 => r x xs H2 Q
section
variable {X : Cx} {o e : Expr} {es : List Expr} {to : TE} {t : TA} {apos cpos : Pos}
theorem qe_sdf (hu : X.A.units + 1 < cLine) (ho : QE X o to) (ha : QA X (e :: es) t)
    (hbase : attributeBase o "setdefault" X.env (eval o X.env) = eval o X.env := by rfl) (hfew : ((backTo cpos (starEach (e :: es) X.env)).all (fun x => !x.1) && (backToKw cpos (keywordEach [] X.env)).all (fun x => x.1.isSome) && decide ((e :: es).length + ([] : List Keyword).length + (if ([] : List Keyword).isEmpty then 0 else 1) < 30)) = true := by rfl)
    (hline : (apos.endLine == cpos.line) = true := by rfl) (hs : starEach (e :: es) X.env = (false, eval e X.env) :: starEach es X.env := by rfl) (hplain : (backTo cpos (starEach es X.env)).any (·.1) = false := by rfl) : QE X (.Call (.Attribute o "setdefault" apos) (e :: es) [] cpos) (tBMDT rSdf to t) := ⟨by
  intro pins s σ H Q I h
  refine wpAny_Call_method_late hbase hfew hline rfl (thn (ho.h pins s σ H _ I h) fun v s1 ⟨x, H1, I1, r1, ty, q1⟩ => ?_)
  obtain ⟨d, kvs, rfl, hq⟩ := ty
  cases r1
  obtain ⟨z, y, xs, rel, dd⟩ := dt_of I1.hok hq
  refine ⟨"dict", "dict.setdefault", PySem.F.plainAttrs_dict, PySem.F.slot_dict_setdefault, PySem.F.type_dict_setdefault, dd.typeIs, fun b eb => ?_, ?_⟩
  · cases eb
    obtain ⟨ob, _, _, h1, h2, _⟩ := dd
    exact ⟨ob, h1, h2.2.1⟩
  have hA := ha.h cpos pins s1 σ H1 _ I1 q1
  rw [hs] at hA ⊢
  refine Calls.callWith_builtin (by show (false || (backTo cpos (starEach es X.env)).any (·.1)) = false; rw [hplain]; rfl) (Calls.evalArgs_plain (thn hA fun us s2 ⟨ws, H2, I2, r2, q2⟩ => ?_))
  obtain ⟨d', b, kvs', k, zz, e1, rfl, hq2, hb2, hl2, qy, qn⟩ := q2
  cases e1
  cases r2 with
  | cons ry rr =>
    cases rr with
    | cons rd rr =>
      cases rr
      cases (show _ = Value.ref b from ry)
      obtain ⟨z, hd, xs, rel, dd⟩ := dt_of I2.hok hq2
      have hz : xs.length ≤ sizeLine := by rw [← Paired.length rel]; exact z
      have rv := rel.val k
      refine call_meetsIn PySem.F.slot_dict_setdefault dd.typeIs PySem.F.entry_dict_setdefault (PySem.F.args_dict_setdefault_3 _ _ _) (meetsH_sdf (knd := tupleKind (mixKind X.prog X.w)) d b hd _) ⟨tupleKind_room_in1 hu, k, xs, key_of I2.hok hb2, dd, hz, fun p hp => ?_, fun hn h' dd' hs' => ?_⟩
      · rw [hp] at rv
        cases hv : valV kvs' k with
        | none => rw [hv] at rv; exact rv.elim
        | some v =>
          rw [hv] at rv
          exact ⟨v, H2, I2.tok _, rv, qy v hv⟩
      · rw [hn] at rv
        cases hv : valV kvs' k with
        | some v => rw [hv] at rv; exact rv.elim
        | none =>
          have hl : (putK kvs' k zz).length ≤ sizeLine := by have := length_putK kvs' k zz; omega
          obtain ⟨q, es', ep, hq', h2, h3, h4, _, h5⟩ := dd'
          refine ⟨zz, _, d_write (ob := .dT (putK kvs' k zz)) I2 (by rw [hq2]; exact True.intro) hs' ⟨q, hq'⟩ ⟨hl, hd, _, (rel.put k hb2 rd).keeps fun c ys ec => ?_, q, es', ep, hq', h2, h3, h4, h5⟩, rd, qn hv⟩
          rw [upd_ne (ne_of ec hq2 (fun z => nomatch z))]
          exact ec⟩
end
end L2
/-! EvDk: a dict walked by its keys, whatever they are. Behind EvDit. -/
namespace PySem
section
variable {prog : Program} {w : World} {A : Around} {E : Value → Shared → Prop} {s : Shared}
theorem key_next {it d : Addr} {i ep : Nat} {od : Obj} {es : Array DictEntry} {e : DictEntry} {Q : Option Value → Shared → Prop} (hit : s.heap.IsKeyIter it d i es.size ep) (hod : s.heap.get? d = some od) (hdd : od.data = .dict es ep) (hx : es[i]? = some e)
    (hQ : ∀ h', h'.IsKeyIter it d (i + 1) es.size ep → Heap.SameBut it s.heap h' → Q (some e.key) { s with heap := h' }) : wpAny (model prog w) A (pyNext (.ref it)) Q E s := by
  obtain ⟨o, ho, hc, hd⟩ := id hit
  obtain ⟨hlt, he⟩ := Array.getElem?_eq_some_iff.mp hx
  have st : (s.heap.update it (Obj.mapFields (·.setIfInBounds 1 (rawInt ((i : Int) + 1))))).IsKeyIter it d (i + 1) es.size ep :=
    ⟨_, Heap.get?_update_self _ ho (Obj.isFreed_of_fields (Obj.data_mapFields hd _)), (Obj.cls_mapFields ..).trans hc, by rw [Obj.data_mapFields hd]; simp [rawInt]⟩
  unfold pyNext
  refine wpAny_bind (wpAny_attempt (wpAny_callSpecial?_slot (name := Str.ofString "__next__") hit.typeIs F.slot_dict_keyiterator_next (wpAny_call_entry F.slot_dict_keyiterator_next hit.typeIs F.entry_dict_keyiterator_next ?_ (F.args_dict_keyiterator_next_1 _))))
  refine wpAny_bind (wpAny_pure (wpAny_bind (wpAny_bind ?_)))
  first | refine wpAny_bind (wpAny_typeNameOfWhole_keyiter hit.typeIs (wpAny_pure ?_)) | refine wpAny_bind (wpAny_typeNameOf_keyiter hit.typeIs (wpAny_pure ?_))
  refine wpAny_bind (wpAny_fieldsOf ho hd ?_)
  simp only [show Builtin.Dict_items.ownsTuple "dict_keyiterator" = false by decide, Bool.false_eq_true, if_false]
  show wpAny _ _ (if (Value.ref d == Value.none) = true then _ else _) _ _ s
  rw [if_neg (show ¬ ((Value.ref d == Value.none) = true) from Bool.false_ne_true)]
  refine wpAny_bind (wpAny_pure (wpAny_bind (wpAny_dictEntries hod hdd ?_)))
  rw [if_neg (by simp)]
  refine wpAny_bind (wpAny_pure (wpAny_bind (wpAny_dictEpoch hod hdd ?_)))
  rw [if_neg (by simp)]
  refine wpAny_pure ?_
  simp only [show ¬ ((i : Int) < 0) from by omega, if_false, Int.toNat_natCast, hx]
  refine wpAny_bind ?_
  first | refine wpAny_bind (wpAny_typeNameOfWhole_keyiter hit.typeIs (wpAny_pure ?_)) | refine wpAny_bind (wpAny_typeNameOf_keyiter hit.typeIs (wpAny_pure ?_))
  refine wpAny_bind (wpAny_isOneOf_keyiter hit.typeIs ?_)
  show wpAny _ _ (setField (.ref it) 1 (rawInt ((i : Int) + 1)) >>= _) _ _ s
  refine wpAny_bind (wpAny_setField ho hd (by simp) (wpAny_bind (wpAny_holding ?_)))
  refine wpAny_bind (wpAny_isOneOf_keyiter (s := { s with heap := s.heap.update it (Obj.mapFields (·.setIfInBounds 1 (rawInt ((i : Int) + 1)))) }) st.typeIs ?_)
  show wpAny _ _ (pure e.key) _ _ _
  exact wpAny_pure (wpAny_pure ⟨_, rfl, wpAny_pure (hQ _ st (Heap.SameBut.update ..))⟩)
theorem key_end {it d : Addr} {i ep : Nat} {od : Obj} {es : Array DictEntry} {Q : Option Value → Shared → Prop} (hh : A.handled = none) (hit : s.heap.IsKeyIter it d i es.size ep) (hod : s.heap.get? d = some od) (hdd : od.data = .dict es ep) (hx : es.size ≤ i)
    (hQ : ∀ h', Heap.ExtBut it s.heap h' → Q none { s with heap := h' }) : wpAny (model prog w) A (pyNext (.ref it)) Q E s := by
  obtain ⟨o, ho, hc, hd⟩ := id hit
  unfold pyNext
  refine wpAny_bind (wpAny_attempt (wpAny_callSpecial?_slot (name := Str.ofString "__next__") hit.typeIs F.slot_dict_keyiterator_next (wpAny_call_entry F.slot_dict_keyiterator_next hit.typeIs F.entry_dict_keyiterator_next ?_ (F.args_dict_keyiterator_next_1 _))))
  refine wpAny_bind (wpAny_pure (wpAny_bind (wpAny_bind ?_)))
  first | refine wpAny_bind (wpAny_typeNameOfWhole_keyiter hit.typeIs (wpAny_pure ?_)) | refine wpAny_bind (wpAny_typeNameOf_keyiter hit.typeIs (wpAny_pure ?_))
  refine wpAny_bind (wpAny_fieldsOf ho hd ?_)
  simp only [show Builtin.Dict_items.ownsTuple "dict_keyiterator" = false by decide, Bool.false_eq_true, if_false]
  show wpAny _ _ (if (Value.ref d == Value.none) = true then _ else _) _ _ s
  rw [if_neg (show ¬ ((Value.ref d == Value.none) = true) from Bool.false_ne_true)]
  refine wpAny_bind (wpAny_pure (wpAny_bind (wpAny_dictEntries hod hdd ?_)))
  rw [if_neg (by simp)]
  refine wpAny_bind (wpAny_pure (wpAny_bind (wpAny_dictEpoch hod hdd ?_)))
  rw [if_neg (by simp)]
  refine wpAny_pure ?_
  simp only [show ¬ ((i : Int) < 0) from by omega, if_false, Int.toNat_natCast, Array.getElem?_eq_none hx]
  refine wpAny_bind ?_
  first | refine wpAny_bind (wpAny_typeNameOfWhole_keyiter hit.typeIs (wpAny_pure ?_)) | refine wpAny_bind (wpAny_typeNameOf_keyiter hit.typeIs (wpAny_pure ?_))
  show wpAny _ _ (setField (.ref it) 0 .none >>= _) _ _ s
  refine wpAny_bind (wpAny_setField ho hd (by simp) ?_)
  show wpAny _ _ (newExc (.type "StopIteration") [] >>= _) _ _ _
  refine wpAny_bind ?_
  simp only [newExc, newTuple]
  refine wpAny_bind (wpAny_newObj_type ?_ (by size_fits))
  refine wpAny_bind (m := firstArgMember _ _) (wpAny_of_eq (a := Value.none) (by first | rfl | (simp only [firstArgMember]; rfl)) ?_)
  refine wpAny_newObj_type ?_ (by size_fits)
  simp only [raiseNew]
  refine wpAny_bind (wpAny_handled ?_)
  rw [show A.in1.handled = none from hh]
  refine wpAny_bind (wpAny_pure (wpAny_throw ?_))
  refine wpAny_bind (wpAny_isInstance (T := "StopIteration") (b := true) ⟨_, Heap.get?_push_size _ rfl, rfl⟩ isSubtype_stop ?_)
  refine wpAny_pure (hQ _ fun b o' hb q => ?_)
  exact Heap.get?_push_of_some _ (Heap.get?_push_of_some _ ((Heap.get?_update_other _ _ (Ne.symm hb)).trans q))
theorem Walks.keysAny (hh : A.handled = none) (I d : Addr) (hne : d ≠ I) {od : Obj} {es : Array DictEntry} {ep : Nat} (hdd : od.data = .dict es ep) :
    Walks prog w A I [I, d] [I] es.size (fun i v => ∃ e, es[i]? = some e ∧ v = e.key) (fun i h => h.IsKeyIter I d i es.size ep ∧ h.get? d = some od) where
  sub := fun b hb => by simp at hb; simp [hb]
  frame := fun _ _ _ st hk => ⟨st.1.at fun o e => hk I (by simp) o e, hk d (by simp) _ st.2⟩
  item := fun i s Q E hi st hQ => by
    have hx : es[i]? = some es[i] := Array.getElem?_eq_getElem hi
    refine key_next st.1 st.2 hdd hx fun h' st' sb => ?_
    exact hQ _ h' s.toks ⟨_, hx, rfl⟩ ⟨st', sb.extBut _ _ hne st.2⟩ fun b o hb e => sb.extBut b o (fun z => hb (by simp [z])) e
  done := fun s Q E st hQ => key_end hh st.1 st.2 hdd (Nat.le_refl _) fun h' eb => hQ h' s.toks fun b o hb e => eb b o (fun z => hb (by simp [z])) e
  self := fun _ _ _ _ st hQ => wpAny_pyIter_keyiter st.1 hQ
end
end PySem
/-! EvLd: list(d), d a dict whose keys are tuples. Behind EvDk. -/
namespace PySem
section
variable {prog : Program} {w : World} {A : Around} {E : Value → Shared → Prop} {s : Shared}
theorem key_iter {d : Addr} {od : Obj} {es : Array DictEntry} {ep : Nat} {Q : Value → Shared → Prop} (hd : (d == sysModules) = false) (ho : s.heap.get? d = some od) (hc : od.ExactDict) (hdat : od.data = .dict es ep)
    (hQ : Q (.ref s.heap.objs.size) { s with heap := s.heap.push { cls := .type "dict_keyiterator", data := .fields #[.ref d, .int 0 0, .int es.size 0, .int ep 0] } }) : wpAny (model prog w) A (pyIter (.ref d)) Q E s := by
  have hT : s.TypeIs (.ref d) "dict" := ⟨od, ho, hc.1⟩
  refine wpAny_pyIter_slot hT F.slot_dict_iter (wpAny_call_entry F.slot_dict_iter hT F.entry_dict_iter ?_ (F.args_dict_iter_1 _))
  unfold Builtin.«dict.__iter__»
  refine wpAny_bind ?_
  unfold Builtin.Dict.dictSlotNone
  refine wpAny_bind (wpAny_notOrdered_dict hT ?_)
  show wpAny _ _ (pure (Value.ref d)) _ _ s
  refine wpAny_pure ?_
  show wpAny _ _ (Builtin.Dict.showsAll d >>= _) _ _ s
  unfold Builtin.Dict.showsAll
  rw [if_neg (by rw [hd]; exact Bool.false_ne_true)]
  refine wpAny_bind (wpAny_pure (wpAny_bind (wpAny_dictEntries ho hdat (wpAny_bind (wpAny_dictEpoch ho hdat ?_)))))
  refine wpAny_bind (wpAny_newObj_type (wpAny_pure ⟨_, rfl, "dict_keyiterator", _, ⟨_, Heap.get?_push_size _ rfl, rfl⟩, F.slot_dict_keyiterator_next.lookup, ?_⟩))
  simpa [rawInt] using hQ
theorem hint_dict {d : Addr} {Q : Bool → Shared → Prop} (hT : s.TypeIs (.ref d) "dict") (h : Q false s) : wpAny (model prog w) A (Builtin.List.listLengthHint (.ref d)) Q E s := by
  unfold Builtin.List.listLengthHint
  refine wpAny_bind (wpAny_specialOf hT F.slot_dict_len.lookup ?_)
  generalize hid : ("dict.__len__" : String) = id0
  wp_delta
  rw [show splitId id0 = some ("dict", "__len__") from by subst hid; decide +kernel]
  subst hid
  refine wpAny_bind (wpAny_isInstance (T := "dict") (b := true) hT (by rw [isSubtype_type]; kernel_rfl) ?_)
  refine wpAny_ite_split (fun hab => absurd hab (by decide)) (fun _ => ?_)
  refine wpAny_ite_split (fun _ => ?_) (fun hab => absurd (by decide +kernel) hab)
  exact wpAny_bind (wpAny_typeOf hT (wpAny_pure h))
theorem ext_dict {R : Result → Shared → Prop} {d : Addr} {od : Obj} {es : Array DictEntry} {ep : Nat} (hh : A.handled = none) (hd : (d == sysModules) = false) (ho : s.heap.get? d = some od) (hc : od.ExactDict) (hdat : od.data = .dict es ep) (hlen : es.size ≤ 2 ^ 24) (S : Addr) (res : Value) (c₀ : Nat) (hS : s.heap.get? S = some { cls := .type "list", data := .seq #[] c₀ })
    (hR : ∀ h' tk acc' c', (∀ b o, b ≠ S → s.heap.get? b = some o → h'.get? b = some o) → h'.get? S = some { cls := .type "list", dict := none, data := .seq acc' c', slots := #[] } →
      ItemsOf (fun i v => ∃ e, es[i]? = some e ∧ v = e.key) acc' es.size → R (.ok (.ret res)) { s with heap := h', toks := tk }) :
    wpAny (model prog w) A.in1 (Builtin.List.listExtendWith (.ref S) (.ref d) res)
      (fun fin s' => match fin with | .done f => R (.ok f) s' | .again c' => c'.quiet = true ∧ codeAny (model prog w) A c' R s') (fun e s' => R (.error e) s') s := by
  have hSd : S ≠ d := fun e => by rw [e, ho] at hS; cases hS; cases hdat
  have hSI : S ≠ s.heap.objs.size := Nat.ne_of_lt (Heap.lt_size hS)
  have hdI : d ≠ s.heap.objs.size := Nat.ne_of_lt (Heap.lt_size ho)
  have hSf : S ∉ [s.heap.objs.size, d] := fun hm => by
    rcases List.mem_cons.mp hm with z | z
    · exact hSI z
    · exact hSd (List.mem_singleton.mp z)
  have W := (Walks.keysAny (prog := prog) (w := w) (A := A.in1) hh s.heap.objs.size d hdI hdat).toS
  unfold Builtin.List.listExtendWith
  refine wpAny_bind (wpAny_typeOf (T := "dict") ⟨od, ho, hc.1⟩ ?_)
  have h1 : Builtin.List.listSameRef (.ref S) (.ref d) = false := by simp [Builtin.List.listSameRef, hSd]
  have h2 : (Value.type "dict" == Value.type "list") = false := by decide
  have h3 : (Value.type "dict" == Value.type "tuple") = false := by decide
  simp only [h1, h2, h3, Bool.or_false, Bool.false_eq_true, if_false]
  refine wpAny_bind (key_iter hd ho hc hdat ?_)
  refine wpAny_bind (wpAny_holding (hint_dict ⟨od, Heap.get?_push_of_some _ ho, hc.1⟩ ?_))
  have hit : Heap.IsKeyIter (s.heap.push { cls := .type "dict_keyiterator", data := .fields #[.ref d, .int 0 0, .int es.size 0, .int ep 0] }) s.heap.objs.size d 0 es.size ep := ⟨_, Heap.get?_push_size _ rfl, rfl, by simp⟩
  have key : ∀ (h : Heap) (c₁ : Nat), h.IsKeyIter s.heap.objs.size d 0 es.size ep → (∀ b o, b ≠ S → s.heap.get? b = some o → h.get? b = some o) → h.get? S = some { cls := .type "list", data := .seq #[] c₁ } →
      codeAny (model prog w) A (.builtin "list.extend.loop" ⟨[.ref S, .ref s.heap.objs.size, res], []⟩) R { s with heap := h } := fun h c₁ hi hk hs => by
    refine codeAny_extend_loopS W (by rw [sizeLine_eq]; omega) S hSf res es.size 0 _ #[] c₁ rfl (Nat.zero_le _) ⟨hi, hk d _ (Ne.symm hSd) ho⟩ hs (ItemsOf.nil _) fun s' acc' c' hm hS' hacc => ?_
    rw [Moved.eq_with hm]
    refine hR s'.heap s'.toks acc' c' (fun b o hb e => hm.heap b o (fun hmem => ?_) (hk b o hb e)) hS' hacc
    rcases List.mem_cons.mp hmem with z | z
    · exact hb z
    · exact absurd (Heap.lt_size e) (by rw [List.mem_singleton.mp z]; exact Nat.lt_irrefl _)
  have hS₁ := Heap.get?_push_of_some { cls := .type "dict_keyiterator", data := .fields #[.ref d, .int 0 0, .int es.size 0, .int ep 0] } hS
  refine wpAny_ite_split (fun _ => ?_) (fun _ => wpAny_pure ⟨plainId_quiet F.plain_extend_loop _, key _ c₀ hit (fun b o _ e => Heap.get?_push_of_some _ e) hS₁⟩)
  refine wpAny_bind (wpAny_rule (wpAny_bind ?_))
  show wpAny _ _ (updateSeq S (·.push .none) >>= fun _ => updateSeq S (·.pop)) _ _ _
  refine wpAny_bind (wpAny_updateSeq hS₁ rfl ?_)
  have hS₂ := Heap.get?_update_self (Obj.mapSeq (·.push Value.none)) hS₁ rfl
  refine wpAny_updateSeq (hz := by seq_fits) hS₂ rfl ?_
  have hS₃ := Heap.get?_update_self (Obj.mapSeq (·.pop)) hS₂ rfl
  have oth : ∀ b o, b ≠ S → (s.heap.push { cls := .type "dict_keyiterator", data := .fields #[.ref d, .int 0 0, .int es.size 0, .int ep 0] }).get? b = some o → (((s.heap.push { cls := .type "dict_keyiterator", data := .fields #[.ref d, .int 0 0, .int es.size 0, .int ep 0] }).update S (Obj.mapSeq (·.push Value.none))).update S (Obj.mapSeq (·.pop))).get? b = some o :=
    fun b o hb e => (Heap.get?_update_other _ _ (Ne.symm hb)).trans ((Heap.get?_update_other _ _ (Ne.symm hb)).trans e)
  exact wpAny_pure ⟨plainId_quiet F.plain_extend_loop _, key _ _ (hit.at fun o e => oth _ _ (Ne.symm hSI) e) (fun b o hb e => oth b o hb (Heap.get?_push_of_some _ e)) hS₃⟩
theorem init_dict {R : Result → Shared → Prop} {d : Addr} {od : Obj} {es : Array DictEntry} {ep : Nat} (hh : A.handled = none) (hd : (d == sysModules) = false) (ho : s.heap.get? d = some od) (hc : od.ExactDict) (hdat : od.data = .dict es ep) (hlen : es.size ≤ 2 ^ 24) (S : Addr) (hS : s.heap.get? S = some { cls := .type "list", data := .seq #[] })
    (hR : ∀ h' tk acc' c', (∀ b o, b ≠ S → s.heap.get? b = some o → h'.get? b = some o) → h'.get? S = some { cls := .type "list", dict := none, data := .seq acc' c', slots := #[] } →
      ItemsOf (fun i v => ∃ e, es[i]? = some e ∧ v = e.key) acc' es.size → R (.ok (.ret .none)) { s with heap := h', toks := tk }) :
    wpAny (model prog w) A.in1 (Builtin.«list.__init__» ⟨[.ref S, .ref d], []⟩)
      (fun fin s' => match fin with | .done f => R (.ok f) s' | .again c' => c'.quiet = true ∧ codeAny (model prog w) A c' R s') (fun e s' => R (.error e) s') s := by
  have hSd : S ≠ d := fun e => by rw [e, ho] at hS; cases hS; cases hdat
  show wpAny _ _ (do let old ← Builtin.List.listItems (.ref S); Builtin.List.listUpdate (.ref S) (fun _ => #[]); letGo old.toList.reverse; Builtin.List.listExtendWith (.ref S) (.ref d) .none) _ _ s
  refine wpAny_bind ?_
  unfold Builtin.List.listItems
  refine wpAny_bind (wpAny_seqItems hS rfl (wpAny_pure ?_))
  show wpAny _ _ (updateSeq S (fun _ => #[]) >>= fun _ => letGo (#[] : Array Value).toList.reverse >>= fun _ => Builtin.List.listExtendWith (.ref S) (.ref d) .none) _ _ s
  refine wpAny_bind (wpAny_updateSeq hS rfl ?_)
  have oth : ∀ b o, b ≠ S → s.heap.get? b = some o → (s.heap.update S (Obj.mapSeq (fun _ => (#[] : Array Value)))).get? b = some o := fun b o hb e => (Heap.get?_update_other _ _ (Ne.symm hb)).trans e
  refine wpAny_bind (wpAny_letGo ?_)
  exact ext_dict hh hd (oth d _ (Ne.symm hSd) ho) hc hdat hlen S .none _ (Heap.get?_update_self (Obj.mapSeq (fun _ => (#[] : Array Value))) hS rfl) fun h' tk acc' c' hk hS' hacc => hR h' tk acc' c' (fun b o hb e => hk b o hb (oth b o hb e)) hS' hacc
theorem call_list_dict {Q : Value → Shared → Prop} {d : Addr} {od : Obj} {es : Array DictEntry} {ep : Nat} (hh : A.handled = none) (hd : (d == sysModules) = false) (ho : s.heap.get? d = some od) (hc : od.ExactDict) (hdat : od.data = .dict es ep) (hlen : es.size ≤ 2 ^ 24)
    (hQ : ∀ h' tk acc' c', (∀ b o, s.heap.get? b = some o → h'.get? b = some o) → h'.get? s.heap.objs.size = some { cls := .type "list", dict := none, data := .seq acc' c', slots := #[] } →
      ItemsOf (fun i v => ∃ e, es[i]? = some e ∧ v = e.key) acc' es.size → Q (.ref s.heap.objs.size) { s with heap := h', toks := tk }) :
    wpAny (model prog w) A (call (.type "list") [.ref d]) Q E s := by
  refine callType_codes (Q₁ := fun obj s₁ => obj = .ref s.heap.objs.size ∧ s₁ = { s with heap := s.heap.push { cls := .type "list", data := .seq #[] } }) F.called_list (F.typeCall_list_1 _) F.entry_list_init (code_list_new _ ⟨rfl, rfl⟩) fun obj s₁ h₁ => ?_
  obtain ⟨rfl, rfl⟩ := h₁
  have hS : (s.heap.push { cls := .type "list", data := .seq #[] }).get? s.heap.objs.size = some { cls := .type "list", data := .seq #[] } := Heap.get?_push_size _ rfl
  refine ⟨⟨_, hS, rfl⟩, F.args_list_init_2 _ _, init_dict (A := A.in1) hh hd (Heap.get?_push_of_some _ ho) hc hdat hlen _ hS fun h' tk acc' c' hk hS' hacc => ?_⟩
  exact ⟨rfl, hQ h' tk acc' c' (fun b o e => hk b o (Nat.ne_of_lt (Heap.lt_size e)) (Heap.get?_push_of_some _ e)) hS' hacc⟩
end
end PySem
namespace L2
open PySem PySem.Spec PyProof.Rows
/-- tuples that are a dict's keys, where they lie -/
def TkAt (H : Hp) : List V → List (List Key) → Prop
  | [], [] => True
  | v :: vs, k :: ks => (∃ b : Addr, v = .ref b ∧ H b = some (.tup (k.map kV))) ∧ TkAt H vs ks
  | _, _ => False
theorem tk_of {H : Hp} : ∀ {kvs : List (List Key × V)} {xs : List (List Key × Addr × Value)}, KT H kvs xs → TkAt H (xs.map fun x => V.ref x.2.1) (kvs.map (·.1))
  | [], [], _ => trivial
  | p :: kvs, q :: xs, .cons ⟨e, h, _⟩ t => ⟨⟨q.2.1, rfl, h⟩, tk_of t⟩
def rListD : List V → Hp → VK → Prop := fun xs H Q => ∃ (d : Addr) (kvs : List (List Key × V)), xs = [.ref d] ∧ H d = some (.dT kvs) ∧ kvs.length ≤ 100000 ∧ ∀ l ws, H l = none → TkAt H ws (kvs.map (·.1)) → Q (.ref l) (upd H l (.lst ws))
theorem call_listD {X : Cx} (hc : X.calm = true) : CallR X (.type "list") rListD := by
  intro pins s σ H xs us Q I r h
  obtain ⟨d, kvs, rfl, hd, hn, q⟩ := h
  obtain ⟨u, rfl, rx⟩ := vals1 r
  cases rx
  obtain ⟨z, hsys, xs, rel, ob, es, ep, ho, hx, hdat, he, his, hnd⟩ := dt_of I.hok hd
  have hxl : xs.length = kvs.length := (Paired.length rel).symm
  have hes : es.size = kvs.length := by rw [← Array.length_toList, he, List.length_map, hxl]
  refine call_list_dict (I.ok.hd hc) hsys ho hx hdat (by rw [hes]; exact Nat.le_trans hn (by decide)) fun h' tk acc c kp hg hit => ?_
  have hv : Vals (xs.map fun x => V.ref x.2.1) acc.toList := by
    have e1 : acc.toList = xs.map fun x => Value.ref x.2.1 := by
      apply List.ext_getElem?
      intro i
      rw [List.getElem?_map, Array.getElem?_toList]
      cases ha : acc[i]? with
      | none =>
        have : acc.size ≤ i := by simpa using ha
        rw [hit.1, hes] at this
        rw [List.getElem?_eq_none (by omega)]
        rfl
      | some v =>
        obtain ⟨e, h1, rfl⟩ := hit.2 i v ha
        have h2 : es.toList[i]? = some e := by rw [Array.getElem?_toList]; exact h1
        rw [he, List.getElem?_map] at h2
        obtain ⟨x, hx1, rfl⟩ := Option.map_eq_some_iff.mp h2
        rw [hx1]
        rfl
    rw [e1]
    clear e1 hit hg he his hnd rel hxl
    induction xs with
    | nil => exact .nil
    | cons x xs ih => exact .cons rfl ih
  refine ⟨.ref s.heap.objs.size, _, I.laid (t' := tk) kp (Nat.le_refl _) (show ObjOk X.prog X.w _ h' _ (.lst _) from ⟨by rw [List.length_map, hxl]; exact Nat.le_trans hn (by decide), acc.toList, c, hv, by rw [Array.toArray_toList]; exact hg⟩), rfl, q _ _ (I.hok.fresh (Nat.le_refl _)) (tk_of rel)⟩
end L2
/-! EvCz: a comprehension over zip(tuple, list). Behind EvZit. -/
namespace L2
open PySem PySem.Spec PyProof.Rows
theorem comp_zipT {K : PySem.W.Frag} {a b : Addr} {xs zs : List V} {g : TG} {tc : TT} {te : TE} {σ' : St} {H : Hp} {G : Addr → Hp → List V → Prop} (hlen : xs.length = zs.length) (Pv : Nat → List V → Hp → Prop) (h0 : Pv 0 [] H) (hl : ∀ i ys H, i ≤ xs.length → Pv i ys H → SqT K H a xs ∧ SqL K H b zs)
    (hs : ∀ i x z t ys H (N : List V → Hp → Prop), xs[i]? = some x → zs[i]? = some z → Pv i ys H → H t = none → (∀ ys' H', Pv (i + 1) ys' H' → N ys' H') → g (.ref t) σ' (upd H t (.tup [x, z])) fun σ2 H4 => Weak σ' σ2 ∧ tc σ2 H4 fun b H5 => if b = true then te σ2 H5 fun y H6 => ys.length < sizeLine ∧ N (ys ++ [y]) H6 else N ys H5)
    (hd : ∀ ys H, Pv xs.length ys H → ys.length ≤ sizeLine ∧ ∀ p, H p = none → G p H ys) :
    ∃ W : Nat → Nat → List V → Hp → Prop, (∃ m, W 0 m [] H) ∧ ∀ i m ys H2, W i m ys H2 →
      ((Itz K a b).stop i H2 ∧ ys.length ≤ sizeLine ∧ ∀ p, H2 p = none → G p H2 ys) ∨
      ((Itz K a b).go i H2 ∧ ∀ x H3, (Itz K a b).yld i H2 x H3 → g x σ' H3 fun σ2 H4 => Weak σ' σ2 ∧ tc σ2 H4 fun b H5 =>
        if b = true then te σ2 H5 fun y H6 => ys.length < sizeLine ∧ ∃ m', m' < m ∧ W (i + 1) m' (ys ++ [y]) H6 else ∃ m', m' < m ∧ W (i + 1) m' ys H5) := by
  refine ⟨fun i m ys H => m = xs.length - i ∧ i ≤ xs.length ∧ Pv i ys H, ⟨xs.length, rfl, Nat.zero_le _, h0⟩, ?_⟩
  rintro i m ys H2 ⟨rfl, hi, p⟩
  obtain ⟨q, q'⟩ := hl i ys H2 hi p
  by_cases hlt : i < xs.length
  · have hlt' : i < zs.length := hlen ▸ hlt
    refine .inr ⟨⟨xs, xs[i], zs, zs[i], q, by simp [hlt], q', by simp [hlt']⟩, fun v H' y => ?_⟩
    obtain ⟨t, x, z, hx, hz, ht, rfl, rfl⟩ := y
    exact hs i x z t ys _ (fun ys' H'' => ∃ m', m' < xs.length - i ∧ m' = xs.length - (i + 1) ∧ i + 1 ≤ xs.length ∧ Pv (i + 1) ys' H'') (hx xs q) (hz zs q') p ht (fun ys' H'' p' => ⟨_, by omega, rfl, hlt, p'⟩)
  · have e : i = xs.length := by omega
    subst e
    exact .inl ⟨⟨xs, q, Nat.le_refl _⟩, hd ys H2 p⟩
end L2
/-! EvNil: a list != [], whatever stands in it. Behind EvLay. -/
namespace L2
open PySem PySem.Spec PyProof.Rows
end L2
namespace L2
open PySem PySem.Spec PyProof.Rows
/-- set(list of numbers): its size, and that it is no greater than the list's -/
def rSetJ (K : PySem.W.Frag) : List V → Hp → VK → Prop := fun xs H Q => ∃ (a : Addr) (ns : List Int), xs = [.ref a] ∧ SqL K H a (ns.map V.int) ∧ ns.length ≤ 1000 ∧ ∀ (l : Addr) (S : Int → Bool) (n : Nat), H l = none → (n = ns.length ↔ ns.Nodup) → n ≤ ns.length → Q (.ref l) (upd H l (.set S n))
theorem call_setJ {X : Cx} (hc : X.calm = true) : CallR X (.type "set") (rSetJ X.K) := by
  intro pins s σ H xs us Q I r h
  obtain ⟨a, ns, rfl, hq, h64, q⟩ := h
  obtain ⟨u, rfl, rx⟩ := vals1 r
  cases rx
  obtain ⟨its, r', pl, hz⟩ := I.list hq
  have hlen := r'.length
  rw [List.length_map] at hlen
  refine call_set_list (ns := ns) (I.ok.hd hc) pl.isList (by simpa using ints_of_vals r') (by rw [List.size_toArray, ← hlen]; exact Nat.lt_of_le_of_lt (Nat.succ_le_succ h64) (by decide)) fun h' tk hS kp => ?_
  refine ⟨.ref s.heap.objs.size, _, I.laid (t' := tk) (fun b o e => kp b o (Heap.lt_size e) e) (Nat.le_refl _) (show ObjOk X.prog X.w _ h' _ (.set _ _) from hS), rfl, q _ _ _ (I.hok.fresh (Nat.le_refl _)) ?_ ?_⟩
  · rw [List.size_toArray, ← hlen]
    exact firstMet_len_iff
  · rw [List.size_toArray, ← hlen]
    exact firstMet_length_le _ _
end L2
namespace E1
open PySem L2
abbrev pw : Program := PySem.Challenge.pw_evenmeet_k39_bases_for
def top (i : Nat) : Stmt := pw.main.body.getD i (.Pass ⟨0, 0, 0, 0⟩)
abbrev sWhole : Stmt := top 4
abbrev sIsBelow : Stmt := top 5
abbrev sIsPointsNumber : Stmt := top 9
abbrev sAreUnlikePoints : Stmt := top 10
abbrev sMustBeBases : Stmt := top 12
abbrev sDifferences : Stmt := top 13
abbrev sBasesFor : Stmt := top 15
abbrev sBasesByDifferences : Stmt := top 16
abbrev sBasesWithNought : Stmt := top 17
abbrev sLongerByOne : Stmt := top 18
abbrev sRowsAddingUp : Stmt := top 19
abbrev sFits : Stmt := top 20
abbrev sWithout : Stmt := top 21
abbrev sCell : Stmt := top 23
abbrev sPool : Stmt := top 24
abbrev sTake : Stmt := top 25
abbrev sLWanted : Stmt := top 26
abbrev sLCounted : Stmt := top 27
abbrev sLSets : Stmt := top 28
abbrev sLSome : Stmt := top 29
abbrev sLBasesRight : Stmt := top 30
abbrev sLaw : Stmt := top 31
section
variable {P : Program} {w : World} {K : PySem.W.Frag} {mg : Str → Option Value} {base : Heap} {M C : Addr}
theorem comp_list {K : PySem.W.Frag} {a : Addr} {xs : List V} {g : TG} {tc : TT} {te : TE} {σ' : St} {H : Hp} {G : Addr → Hp → List V → Prop} (Pv : Nat → List V → Hp → Prop) (h0 : Pv 0 [] H) (hl : ∀ i ys H, i ≤ xs.length → Pv i ys H → SqL K H a xs)
    (hs : ∀ i x ys H (N : List V → Hp → Prop), xs[i]? = some x → Pv i ys H → (∀ ys' H', Pv (i + 1) ys' H' → N ys' H') → g x σ' H fun σ2 H4 => Weak σ' σ2 ∧ tc σ2 H4 fun b H5 => if b = true then te σ2 H5 fun y H6 => ys.length < sizeLine ∧ N (ys ++ [y]) H6 else N ys H5)
    (hd : ∀ ys H, Pv xs.length ys H → ys.length ≤ sizeLine ∧ ∀ p, H p = none → G p H ys) :
    ∃ W : Nat → Nat → List V → Hp → Prop, (∃ m, W 0 m [] H) ∧ ∀ i m ys H2, W i m ys H2 →
      ((Itl K a).stop i H2 ∧ ys.length ≤ sizeLine ∧ ∀ p, H2 p = none → G p H2 ys) ∨
      ((Itl K a).go i H2 ∧ ∀ x H3, (Itl K a).yld i H2 x H3 → g x σ' H3 fun σ2 H4 => Weak σ' σ2 ∧ tc σ2 H4 fun b H5 =>
        if b = true then te σ2 H5 fun y H6 => ys.length < sizeLine ∧ ∃ m', m' < m ∧ W (i + 1) m' (ys ++ [y]) H6 else ∃ m', m' < m ∧ W (i + 1) m' ys H5) := by
  refine ⟨fun i m ys H => m = xs.length - i ∧ i ≤ xs.length ∧ Pv i ys H, ⟨xs.length, rfl, Nat.zero_le _, h0⟩, ?_⟩
  rintro i m ys H2 ⟨rfl, hi, p⟩
  have q := hl i ys H2 hi p
  by_cases hlt : i < xs.length
  · refine .inr ⟨⟨xs, xs[i], q, by simp [hlt]⟩, fun x H' y => ?_⟩
    obtain ⟨e, y⟩ := y
    subst e
    exact hs i x ys _ (fun ys' H'' => ∃ m', m' < xs.length - i ∧ m' = xs.length - (i + 1) ∧ i + 1 ≤ xs.length ∧ Pv (i + 1) ys' H'') (y xs q) p (fun ys' H'' p' => ⟨_, by omega, rfl, hlt, p'⟩)
  · have e : i = xs.length := by omega
    subst e
    exact .inl ⟨⟨xs, q, Nat.le_refl _⟩, hd ys H2 p⟩
theorem scWhole : FnScope ["thing"] ["thing"] (defScope sWhole) := ⟨rfl, rfl, rfl, by decide +kernel, rfl, by decide +kernel, by decide +kernel⟩
theorem ok_whole {f : Addr} {fd : FuncData} (F : Fun K "is_whole" "is_whole" sWhole f fd) (T : TxtB mg) : FnOk P w K mg base CX0 1 f fd ["thing"] (spWhole K) := by
  refine F.okQ scWhole (fun vs H Q E h => ?_) (fun cdv A outer s H vs Q E hr h => ?_)
  · obtain ⟨v, b, rfl, _⟩ := h
    rfl
  · obtain ⟨v, b, rfl, hw, k⟩ := h
    refine ⟨_, qss_one (qs_ret (qe_and (qe_callB call_isinst (by rfl) T.isi PyProof.Rows.boot_isinstance (qac (qv 0) (qac (qe_bltn (v := .ty "int") rfl T.int PyProof.Rows.boot_int rfl) qa_nil)))
      (qe_one (qe_not (qe_callB call_isinst (by rfl) T.isi PyProof.Rows.boot_isinstance (qac (qv 0) (qac (qe_bltn (v := .ty "bool") rfl T.bool PyProof.Rows.boot_bool rfl) qa_nil))))))), ?_⟩
    cases hw with
    | int i =>
      refine ⟨_, rfl, _, _, _, _, rfl, .int i, rel_ty (kit_int_int K), true, rfl, iteT ?_⟩
      exact ⟨_, rfl, _, _, _, _, rfl, .int i, rel_ty (kit_int_bool K), false, rfl, k⟩
    | bl x =>
      refine ⟨_, rfl, _, _, _, _, rfl, .bl x, rel_ty (kit_bool_int K), true, rfl, iteT ?_⟩
      exact ⟨_, rfl, _, _, _, _, rfl, .bl x, rel_ty (kit_bool_bool K), true, rfl, k⟩
    | odd ty kk =>
      exact ⟨_, rfl, _, _, _, _, rfl, ty, rel_ty kk, false, rfl, iteF k⟩
def spBelow : Sp := fun vs H Q _ => ∃ x m : Int, vs = [.int x, .int m] ∧ 0 ≤ x ∧ x < m ∧ Q (.bl true) H
theorem scIsBelow : FnScope ["thing", "many"] ["thing", "many"] (defScope sIsBelow) := ⟨rfl, rfl, rfl, by decide +kernel, rfl, by decide +kernel, by decide +kernel⟩
theorem ok_below {f : Addr} {fd : FuncData} (F : Fun K "is_below" "is_below" sIsBelow f fd) (pWhole : Pm P w K mg base CX0 1 "is_whole" ["thing"] (spWhole K)) : FnOk P w K mg base CX0 2 f fd ["thing", "many"] spBelow := by
  refine F.okQ scIsBelow (fun vs H Q E h => ?_) (fun cdv A outer s H vs Q E hr1 h => ?_)
  · obtain ⟨x, m, rfl, _⟩ := h
    rfl
  · obtain ⟨x, m, rfl, h0, h1, q⟩ := h
    refine ⟨_, (qss_one (qs_ret (qe_and (qe_callP pWhole hr1 rfl pass0 (qac (qv 0) qa_nil)) (qe_one (qe_chain op_le op_lt qe_int (qv 0) (qv 1)))))), ?_⟩
    refine ⟨_, rfl, .int x, true, rfl, .int x, true, rfl, iteT ?_⟩
    refine ⟨_, rfl, _, _, rfl, rfl, _, rfl, ifT h0 ?_⟩
    exact ⟨_, rfl, _, _, rfl, rfl, blT h1 q⟩
def spUnlike : Sp := fun vs H Q _ => ∃ (a : Addr) (b : List Nat) (p : Nat), vs = [.ref a, .int (p : Nat)] ∧ H a = some (.lst (nats b)) ∧ Blk p b ∧ p ≤ 60 ∧ ∀ H' : Hp, Same H H' → Q (.bl true) H'
theorem scAreUnlikePoints : FnScope ["things", "points"] ["things", "points"] (defScope sAreUnlikePoints) := ⟨rfl, rfl, rfl, by decide +kernel, rfl, by decide +kernel, by decide +kernel⟩
theorem nats_get {b : List Nat} {i : Nat} {v : V} (h : (nats b)[i]? = some v) : ∃ x, b[i]? = some x ∧ v = .int ((x : Nat) : Int) := by
  unfold nats at h
  rw [List.getElem?_map] at h
  cases hq : b[i]? with
  | none => rw [hq] at h; cases h
  | some p => rw [hq] at h; cases h; exact ⟨p, rfl, rfl⟩
theorem nodup_cast {b : List Nat} (h : b.Nodup) : (b.map fun p => ((p : Nat) : Int)).Nodup := by
  rw [List.nodup_iff_pairwise_ne] at h ⊢
  rw [List.pairwise_map]
  exact h.imp fun hn z => hn (by omega)
theorem ok_unlike {f : Addr} {fd : FuncData} (F : Fun K "are_unlike_points" "are_unlike_points" sAreUnlikePoints f fd) (T : TxtB mg) (pIsBelow : Pm P w K mg base CX0 2 "is_below" ["thing", "many"] spBelow) : FnOk P w K mg base CX0 3 f fd ["things", "points"] spUnlike := by
  refine F.okQ scAreUnlikePoints (fun vs H Q E h => ?_) (fun cdv A outer s H vs Q E hr2 h => ?_)
  · obtain ⟨a, b, p, rfl, _⟩ := h
    rfl
  · obtain ⟨a, b, p, rfl, ha, hb, hp, q⟩ := h
    refine ⟨_, (qss_one (qs_ret (qe_and (qe_callB (call_all rfl) (by rfl) T.all (by decide +kernel) (qac (qe_comp (g := gName 0) (N := ["thing", "points"]) (src := [none, some 1]) rfl (comp_scope (defScope sAreUnlikePoints) ["things", "points"] rfl rfl (by decide +kernel) rfl) (qi_list (qv 0)) (fun _ _ _ _ _ => (qg_name (i := 0) (show (["thing", "points"] : List Str).Nodup by decide +kernel) rfl (Or.inl rfl) (Or.inr rfl))) (fun _ _ _ _ _ => qif_nil) (fun _ _ _ _ _ => (qe_callP pIsBelow hr2 rfl pass0 (qac (qv 0) (qac (qv 1) qa_nil))))) qa_nil)) (qe_one (qe_cmpR op_eq (qe_callB call_len_setI (by rfl) T.len PySem.boot_len (qac (qe_callTy (call_setI rfl) (by rfl) T.set (by decide +kernel) (qac (qv 0) qa_nil)) qa_nil)) (qe_callB call_len_seq (by rfl) T.len PySem.boot_len (qac (qv 0) qa_nil)) (nomark _)))))), ?_⟩
    refine ⟨_, rfl, a, rfl, ⟨_, SqL.of ha⟩, comp_list (K := K) (xs := nats b) (fun i ys H2 => H2 = H ∧ ys = (List.replicate i true).map V.bl) ⟨rfl, rfl⟩ (fun i ys H2 _ ⟨e, _⟩ => SqL.of (e ▸ ha)) ?_ ?_⟩
    · rintro i v ys H2 N hi ⟨rfl, rfl⟩ nx
      obtain ⟨x, hx, rfl⟩ := nats_get hi
      have hxl := hb.lt x (List.mem_of_getElem? hx)
      have hil : i < b.length := (List.getElem?_eq_some_iff.mp hx).1
      refine ⟨Weak.set (by intro v z; cases z), ⟨_, rfl, _, rfl, _, _, rfl, by omega, by omega, ?_, nx _ _ ⟨rfl, by rw [List.replicate_succ', List.map_append]; rfl⟩⟩⟩
      rw [List.length_map, List.length_replicate]
      exact Nat.lt_of_lt_of_le hil (Nat.le_trans hb.len (Nat.le_trans hp (by decide)))
    rintro ys H2 ⟨eH, rfl⟩
    cases eH
    refine ⟨by rw [List.length_map, List.length_replicate, nats_len]; exact Nat.le_trans hb.len (Nat.le_trans hp (by decide)), fun r hr => ?_⟩
    have s1 := same_new (o := .lst ((List.replicate (nats b).length true).map V.bl)) hr
    have ha1 := s1 _ _ ha
    refine ⟨r, List.replicate (nats b).length true, rfl, SqL.of upd_same, true, by simp, iteT ?_⟩
    refine ⟨_, rfl, a, b.map fun p => ((p : Nat) : Int), rfl, SqL.of (by rw [← nats_ints]; exact ha1), by rw [List.length_map]; exact Nat.le_trans hb.len (Nat.le_trans hp (by decide)), fun l S n hl hn => ?_⟩
    have s2 := same_new (o := .set S n) hl
    refine ⟨l, S, n, rfl, upd_same, _, rfl, a, _, rfl, .inl (SqL.of (s2 _ _ ha1)), rfl, blT ?_ (q _ (s1.trans s2))⟩
    rw [hn.mpr (nodup_cast hb.nd), nats_len, List.length_map]
theorem scCell : FnScope ["_law_script", "_law_k"] ["_law_script", "_law_k"] (defScope sCell) := ⟨rfl, rfl, rfl, by decide +kernel, rfl, by decide +kernel, by decide +kernel⟩
theorem ok_cell {f : Addr} {fd : FuncData} (F : Fun K "_law_cell" "_law_cell" sCell f fd) (T : TxtB mg) : FnOk P w K mg base CX0 1 f fd ["_law_script", "_law_k"] (spCell K) := by
  refine F.okQ scCell (fun vs H Q E h => ?_) (fun cdv A outer s H vs Q E hr h => ?_)
  · obtain ⟨a, ns, k, rfl, _⟩ := h
    rfl
  · obtain ⟨a, ns, k, rfl, hS, hk, q⟩ := h
    refine ⟨_, qss_cons (qs_if (qt_cmpR op_lt (qv 1) (qe_callB call_len_seq (by rfl) T.len PySem.boot_len (qac (qv 0) qa_nil)) (nomark _)) (qss_one (qs_ret (qe_ix ix_list (qv 0) (qv 1) (fun _ _ => rfl)))) qss_nil)
      (qss_one (qs_ret (qe_op op_add (qe_op op_add (qe_op op_mul (qe_op op_mul qe_int (qv 1)) (qv 1)) (qe_op op_mul qe_int (qv 1))) qe_int))), ?_⟩
    refine ⟨_, rfl, _, rfl, a, _, rfl, .inl hS, _, _, rfl, rfl, _, rfl, ?_⟩
    refine ite2 (fun hc => ?_) (fun hc => ?_)
    · have hlt : k < ns.length := by
        have := of_decide_eq_true hc
        rw [List.length_map] at this
        omega
      refine ⟨_, rfl, _, rfl, a, _, _, V.int ns[k], rfl, rfl, hS, atI_nat (by rw [List.getElem?_map, List.getElem?_eq_getElem hlt]; rfl), q _⟩
    · refine ⟨_, rfl, _, _, rfl, rfl, .inl ⟨by decide, by decide⟩, _, rfl, _, _, rfl, rfl, .inr ⟨by omega, by omega⟩, _, rfl, _, _, rfl, rfl, .inl ⟨by decide, by decide⟩, _, _, rfl, rfl, _, _, rfl, rfl, q _⟩
theorem scPool : FnScope ["_law_cell_here", "_law_fill", "_law_seed", "_law_k"] ["_law_cell_here"] (defScope sPool) := ⟨rfl, rfl, rfl, by decide +kernel, rfl, by decide +kernel, by decide +kernel⟩
theorem ok_pool {f : Addr} {fd : FuncData} (F : Fun K "_law_pool" "_law_pool" sPool f fd) (T : TxtB mg) : FnOk P w K mg base CX0 1 f fd ["_law_cell_here"] spPool := by
  refine F.okQ scPool (fun vs H Q E h => ?_) (fun cdv A outer s H vs Q E hr h => ?_)
  · obtain ⟨c, rfl, _⟩ := h
    rfl
  · obtain ⟨c, rfl, q⟩ := h
    refine ⟨_, qss_cons (qs_set (i := 1) scPool.nd rfl (Or.inl rfl) (qe_callB call_abs (by rfl) T.abs PyProof.Rows.boot_abs (qac (qv 0) qa_nil)))
      (qss_cons (qs_if (qt_chain op_le op_lt qe_int (qv 0) (qe_op op_pow qe_int qe_int))
        (qss_cons (qs_set (i := 2) scPool.nd rfl (Or.inl rfl) (qe_op op_add (qe_op op_mod (qv 0) qe_int) qe_int))
        (qss_cons (qs_set (i := 1) scPool.nd rfl (Or.inl rfl) qe_int)
        (qss_one (qs_for PassesOwn.never rfl (qi_range1 rfl T.range (qac qe_int qa_nil)) (qg_name (i := 3) scPool.nd rfl (Or.inl rfl))
          (qss_cons (qs_set (i := 2) scPool.nd rfl (Or.inl rfl) (qe_op op_mod (qe_op op_add (qe_op op_add (qe_op op_mul (qv 2) (qe_op op_add (qe_op op_mod (qv 2) qe_int) qe_int)) (qe_op op_mul qe_int (qv 3))) qe_int) qe_int))
          (qss_one (qs_set (i := 1) scPool.nd rfl (Or.inl rfl) (qe_op op_add (qe_op op_mul (qv 1) qe_int) (qe_op op_mod (qv 2) qe_int)))))))))
        qss_nil)
      (qss_one (qs_ret (qe_lst (qac (qv 1) qa_nil))))), ?_⟩
    refine ⟨_, rfl, c, rfl, ?_⟩
    refine ⟨_, rfl, _, _, rfl, rfl, _, rfl, ?_⟩
    refine ite2 (fun _ => ?_) (fun _ => ?_)
    · refine ⟨_, _, rfl, rfl, ⟨by decide, by decide, by decide⟩, _, _, rfl, rfl, _, rfl, ?_⟩
      refine ite2 (fun _ => ?_) (fun _ => ?_)
      · refine ⟨_, rfl, _, _, rfl, rfl, (by show (0 : Int) < 1000000007; decide), _, _, rfl, rfl, ?_⟩
        refine ⟨30, rfl, by decide, by decide, for_range (n := 30) (fun i σ H2 => H2 = H ∧ ∃ (sd fl : Int) (x : Option V), σ = [some (.int c), some (.int fl), some (.int sd), x] ∧ 0 ≤ fl ∧ 0 ≤ sd ∧ sd < 2000000000)
          ⟨rfl, _, _, _, rfl, Int.le_refl 0, ?_, ?_⟩ ?_ ?_⟩
        · have := Int.emod_nonneg c (show (1000000007 : Int) ≠ 0 by decide)
          show 0 ≤ c % 1000000007 + 271
          omega
        · have := Int.emod_lt_of_pos c (show (0 : Int) < 1000000007 by decide)
          show c % 1000000007 + 271 < 2000000000
          omega
        · rintro i σ H2 hi ⟨rfl, sd, fl, x, rfl, h1, h2, h3⟩
          have a1 := Int.emod_nonneg sd (show (40093 : Int) ≠ 0 by decide)
          have a2 := Int.emod_lt_of_pos sd (show (0 : Int) < 40093 by decide)
          refine ⟨_, rfl, _, rfl, _, _, rfl, rfl, (by show (0 : Int) < 40093; decide), _, _, rfl, rfl, _, _, rfl, rfl, .inl ⟨by omega, by omega⟩, _, rfl, _, _, rfl, rfl, .inl ⟨by decide, by decide⟩, _, _, rfl, rfl, _, _, rfl, rfl, _, _, rfl, rfl, (by show (0 : Int) < 1000000007; decide), ?_⟩
          refine ⟨_, rfl, _, _, rfl, rfl, .inr ⟨by decide, by decide⟩, _, rfl, _, _, rfl, rfl, (by show (0 : Int) < 100003; decide), _, _, rfl, rfl, rfl, _, _, _, rfl, ?_, ?_, ?_⟩
          · refine Int.add_nonneg (Int.mul_nonneg h1 (by decide)) (Int.emod_nonneg _ (by decide))
          · exact Int.emod_nonneg _ (by decide)
          · exact Int.lt_trans (Int.emod_lt_of_pos _ (by decide)) (by decide)
        · rintro σ H2 ⟨rfl, sd, fl, x, rfl, h1, _, _⟩
          exact ⟨_, rfl, by show 1 ≤ sizeLine; decide, fun p hp => q p fl hp h1⟩
      · exact ⟨_, rfl, by show 1 ≤ sizeLine; decide, fun p hp => q p _ hp (abs_nn c)⟩
    · refine ⟨_, rfl, iteF ?_⟩
      exact ⟨_, rfl, by show 1 ≤ sizeLine; decide, fun p hp => q p _ hp (abs_nn c)⟩
theorem scTake : FnScope ["_law_pool_here", "_law_many", "_law_here"] ["_law_pool_here", "_law_many"] (defScope sTake) := ⟨rfl, rfl, rfl, by decide +kernel, rfl, by decide +kernel, by decide +kernel⟩
theorem ok_take {f : Addr} {fd : FuncData} (F : Fun K "_law_take" "_law_take" sTake f fd) : FnOk P w K mg base CX0 1 f fd ["_law_pool_here", "_law_many"] spTake := by
  refine F.okQ scTake (fun vs H Q E h => ?_) (fun cdv A outer s H vs Q E hr h => ?_)
  · obtain ⟨p, f, m, rfl, _⟩ := h
    rfl
  · obtain ⟨p, f, m, rfl, hp, h0, h1, h2, q⟩ := h
    refine ⟨_, qss_cons (qs_set (i := 2) scTake.nd rfl (Or.inl rfl) (qe_ix ix_list (qv 0) qe_int (fun _ _ => rfl)))
      (qss_cons (qs_asg (qe_op op_fdiv (qv 2) (qv 1)) (qg_sub (qv 0) qe_int set_list))
      (qss_one (qs_ret (qe_op op_mod (qv 2) (qv 1))))), ?_⟩
    refine ⟨_, rfl, p, [.int f], 0, .int f, rfl, rfl, SqL.of hp, rfl, ?_⟩
    refine ⟨_, rfl, _, rfl, _, _, rfl, rfl, ⟨h1, h2⟩, _, rfl, p, [.int f], 0, 0, rfl, rfl, hp, rfl, ?_⟩
    exact ⟨_, rfl, _, rfl, _, _, rfl, rfl, h1, q _ _ (Int.ediv_nonneg h0 (by omega)) (Int.emod_nonneg _ (by omega)) (Int.emod_lt_of_pos _ h1)⟩
def spPN : Sp := fun vs H Q _ => ∃ x : Int, vs = [.int x] ∧ 1 ≤ x ∧ x ≤ 60 ∧ Q (.bl true) H
theorem scIsPointsNumber : FnScope ["thing"] ["thing"] (defScope sIsPointsNumber) := ⟨rfl, rfl, rfl, by decide +kernel, rfl, by decide +kernel, by decide +kernel⟩
theorem ok_pn {f : Addr} {fd : FuncData} {t60 : Tok} (F : Fun K "is_points_number" "is_points_number" sIsPointsNumber f fd) (m60 : mg "MOST_POINTS" = some (.int 60 t60)) (pWhole : Pm P w K mg base CX0 1 "is_whole" ["thing"] (spWhole K)) : FnOk P w K mg base CX0 2 f fd ["thing"] spPN := by
  refine F.okQ scIsPointsNumber (fun vs H Q E h => ?_) (fun cdv A outer s H vs Q E hr1 h => ?_)
  · obtain ⟨x, rfl, _⟩ := h
    rfl
  · obtain ⟨x, rfl, h0, h1, q⟩ := h
    refine ⟨_, (qss_one (qs_ret (qe_and (qe_callP pWhole hr1 rfl pass0 (qac (qv 0) qa_nil)) (qe_one (qe_chain op_le op_le qe_int (qv 0) (qe_glob (v := .int 60) rfl m60 ⟨_, rfl⟩)))))), ?_⟩
    refine ⟨_, rfl, .int x, true, rfl, .int x, true, rfl, iteT ?_⟩
    refine ⟨_, rfl, _, _, rfl, rfl, _, rfl, ifT h0 ?_⟩
    exact ⟨_, _, rfl, rfl, blT h1 q⟩
theorem call_isinstLT {X : Cx} : CallR X (.builtin "isinstance") (fun xs H Q => ∃ a ws p ys b, xs = [.ref a, .ref p] ∧ H a = some (.lst ws) ∧ H p = some (.tup ys) ∧ (∀ us, Vals ys us → PySem.W.kitAny X.K (.type "list") us = some b) ∧ Q (.bl b) H) := by
  intro pins s σ H xs us Q I r h
  obtain ⟨a, ws, p, ys, b, rfl, e, hp, k, q⟩ := h
  obtain ⟨u, w', rfl, r1, r2⟩ := vals2 r
  cases (show u = Value.ref a from r1)
  cases (show w' = Value.ref p from r2)
  obtain ⟨_, its, rv, o, ho, hc, n, hd⟩ := (show ObjOk X.prog X.w H s.heap p (.tup ys) from I.hok p _ hp)
  obtain ⟨oc, od, oda, osl⟩ := o
  dsimp only at hc hd
  subst hc hd
  obtain ⟨_, _, n', _, h1⟩ := (show ObjOk X.prog X.w H s.heap a (.lst ws) from I.hok a _ e)
  exact PySem.W.kia_tup PySem.W.kitx_list I.kIn ⟨_, h1, rfl⟩ ho (k _ rv) (fun z => nomatch z) fun tk => ⟨.bl b, H, I.tok tk, rfl, q⟩
theorem kit_lt (K : PySem.W.Frag) : ∀ us, Vals [V.ty "list", V.ty "tuple"] us → PySem.W.kitAny K (.type "list") us = some true := by
  intro us r
  obtain ⟨u, w', rfl, r1, r2⟩ := vals2 r
  cases (show u = Value.type "list" from r1)
  cases (show w' = Value.type "tuple" from r2)
  kernel_rfl
def spMustB : Sp := fun vs H Q _ => ∃ (l : Addr) (n : Nat) (ws : List V) (bs : List (List Nat)), vs = [.int (n : Nat), .ref l] ∧ H l = some (.lst ws) ∧ BlAt H ws bs ∧ 1 ≤ n ∧ n ≤ 60 ∧ n * bs.length ≤ 200 ∧ (∀ b ∈ bs, Blk n b) ∧ ∀ H', Same H H' → Q .non H'
theorem scMustBeBases : FnScope ["n", "bases", "place", "base"] ["n", "bases"] (defScope sMustBeBases) := ⟨rfl, rfl, rfl, by decide +kernel, rfl, by decide +kernel, by decide +kernel⟩
theorem ok_mustB {f : Addr} {fd : FuncData} {t200 : Tok} (F : Fun K "must_be_bases" "must_be_bases" sMustBeBases f fd) (T : TxtB mg) (m200 : mg "MOST_BLOCKS" = some (.int 200 t200)) (pPN : Pm P w K mg base CX0 2 "is_points_number" ["thing"] spPN)
    (pUn : Pm P w K mg base CX0 3 "are_unlike_points" ["things", "points"] spUnlike) : FnOk P w K mg base CX0 4 f fd ["n", "bases"] spMustB := by
  refine F.okQ scMustBeBases (fun vs H Q E h => ?_) (fun cdv A outer s H vs Q E hr3 h => ?_)
  · obtain ⟨l, n, ws, bs, rfl, _⟩ := h
    rfl
  · obtain ⟨l, n, ws, bs, rfl, hl, hB, hn1, hn2, hlen, hbb, q⟩ := h
    have hr2 := hr3.mono (show 2 ≤ 3 by decide)
    refine ⟨_, (qss_cons (qs_if (QW.pt (qw_or (qt_not (qt_val (qe_callP pPN hr2 rfl pass0 (qac (qv 0) qa_nil)))) (qw_or1 (qt_cmpR op_gt (qe_op op_mul (qv 0) (qe_callB call_len_seq (by rfl) T.len PySem.boot_len (qac (qv 1) qa_nil))) (qe_glob (v := .int 200) rfl m200 ⟨_, rfl⟩) (nomark _))))) qss_never qss_nil)
      (qss_one (qs_for PassesOwn.never rfl (qi_enum rfl T.enu (qac (qv 1) qa_nil)) (qg_tup rfl (qgs_cons (qg_name (i := 2) scMustBeBases.nd rfl (Or.inl rfl)) (qgs_cons (qg_name (i := 3) scMustBeBases.nd rfl (Or.inl rfl)) qgs_nil)))
        (qss_one (qs_if (QW.pt (qw_or (qt_not (qt_val (qe_callB call_isinstLT (by rfl) T.isi PyProof.Rows.boot_isinstance (qac (qv 3) (qac (qe_tup (qac (qe_bltn (v := .ty "list") rfl T.lst (by decide +kernel) rfl) (qac (qe_bltn (v := .ty "tuple") rfl T.tup (by decide +kernel) rfl) qa_nil))) qa_nil))))) (qw_or1 (qt_not (qt_val (qe_callP pUn hr3 rfl pass0 (qac (qv 3) (qac (qv 0) qa_nil)))))))) qss_never qss_nil))))), ?_⟩
    have hwl := hB.len
    refine ⟨_, rfl, _, rfl, by omega, by omega, true, rfl, iteF ?_⟩
    refine ⟨_, rfl, _, rfl, l, _, rfl, .inl (SqL.of hl), _, _, rfl, rfl, .inl ⟨by omega, by omega⟩, _, _, rfl, rfl, _, rfl, ifF ?_ ?_⟩
    · rw [hwl, ← Int.natCast_mul]
      omega
    refine ⟨_, rfl, l, rfl, ⟨_, SqL.of hl⟩, for_enum (K := K) (a := l) (xs := ws) (fun i σ Hx => Same H Hx ∧ ∃ x2 x3 : Option V, σ = [some (.int (n : Nat)), some (.ref l), x2, x3]) ⟨Same.refl _, _, _, rfl⟩ (fun i σ Hx _ ⟨e, _⟩ => SqL.of (e _ _ hl)) ?_ ?_⟩
    · rintro i v U σ Hx hi ⟨sx, x2, x3, rfl⟩ hU
      obtain ⟨a, b, rfl, hb, ha⟩ := (hB.same sx).get hi
      have s1 := same_new (o := .tup [.int (i : Nat), .ref a]) hU
      refine ⟨U, _, rfl, SqT.of upd_same, rfl, _, _, rfl, _, _, rfl, rfl, ?_⟩
      have ha1 := s1 _ _ ha
      have sy := sx.trans s1
      generalize upd Hx U (.tup [.int (i : Nat), .ref a]) = H1 at ha1 sy ⊢
      refine ⟨_, rfl, by show 2 ≤ sizeLine; decide, fun p hp => ?_⟩
      have s2 := same_new (o := .tup [V.ty "list", V.ty "tuple"]) hp
      refine ⟨a, nats b, p, _, true, rfl, s2 _ _ ha1, upd_same, kit_lt K, true, rfl, iteF ?_⟩
      refine ⟨_, rfl, _, rfl, a, b, n, rfl, s2 _ _ ha1, hbb b (List.mem_of_getElem? hb), hn2, fun Hy s3 => ⟨true, rfl, iteF ?_⟩⟩
      exact ⟨sy.trans (s2.trans s3), _, _, rfl⟩
    rintro σ Hx ⟨sx, x2, x3, rfl⟩
    exact q _ sx
theorem Drawn1.updF {p q : Addr} {H H1 : Hp} {o : HO} (d : Drawn1 p H H1) (n : H q = none) (hne : q ≠ p) : Drawn1 p H (upd H1 q o) := by
  obtain ⟨⟨g, h0, e⟩, k⟩ := d
  refine ⟨⟨g, h0, by rw [upd_ne (Ne.symm hne)]; exact e⟩, fun b u h hb => ?_⟩
  rw [upd_ne (ne_of_none h n)]
  exact k b u h hb
theorem Drawn1.pup {p : Addr} {H H1 : Hp} {g : Int} (d : Drawn1 p H H1) (h0 : 0 ≤ g) : Drawn1 p H (L2.upd H1 p (.lst [.int g])) := d.trans (Drawn1.put h0)
theorem Drawn1.sm {p : Addr} {H H1 H2 : Hp} (d : Drawn1 p H H1) (s : Same H1 H2) : Drawn1 p H H2 := by
  obtain ⟨⟨g, h0, e⟩, k⟩ := d
  exact ⟨⟨g, h0, s _ _ e⟩, fun b u h hb => s _ _ (k b u h hb)⟩
theorem isD_blkT {K : PySem.W.Frag} {H : Hp} {a : Addr} {L : List Nat} (h : H a = some (.lst (nats L))) : IsD K H (dBlk L) (.ref a) := by
  simp only [dBlk, IsD]
  exact ⟨a, _, rfl, SqL.of h, ints_isD' L⟩
theorem take_snoc {α : Type} {xs : List α} {i : Nat} {x : α} (h : xs[i]? = some x) : xs.take (i + 1) = xs.take i ++ [x] := by rw [List.take_add_one, h, Option.toList_some]
theorem inV_natsT (p : Nat) : ∀ b : List Nat, inV (V.int ((p : Nat) : Int)) (nats b) = decide (p ∈ b)
  | [] => rfl
  | x :: b => by
    have ih := inV_natsT p b
    unfold inV at ih ⊢
    unfold nats at ih ⊢
    rw [List.map_cons, List.any_cons, ih]
    by_cases h : x = p
    · subst h
      simp [eqV]
    · have : (eqV (V.int ((x : Nat) : Int)) (V.int ((p : Nat) : Int))) = false := by simp [eqV]; omega
      rw [this, Bool.false_or]
      simp [List.mem_cons, Ne.symm h]
def rListOf (K : PySem.W.Frag) : List V → Hp → VK → Prop := fun xs H Q => ∃ p ys, xs = [.ref p] ∧ (SqL K H p ys ∨ SqT K H p ys) ∧ ∀ l, H l = none → Q (.ref l) (L2.upd H l (.lst ys))
def rInstQ (K : PySem.W.Frag) : List V → Hp → VK → Prop := fun xs H Q => ∃ x c t b, xs = [x, c] ∧ TyOf K H x t ∧ (∀ u, RelV c u → PySem.W.kitOne K t u = some b) ∧ Q (.bl b) H
def dBls (bs : List (List Nat)) : PyData := .list (bs.map dBlk)
theorem bls_isD {K : PySem.W.Frag} {H : Hp} : ∀ {vs : List V} {bs : List (List Nat)}, BlAt H vs bs → IsDs K H (bs.map dBlk) vs
  | [], [], _ => by simp [IsDs]
  | v :: vs, b :: bs, ⟨⟨a, e, q⟩, r⟩ => by
    simp only [List.map_cons, IsDs]
    refine ⟨v, vs, rfl, ?_, bls_isD r⟩
    simp only [dBlk, IsD]
    exact ⟨a, _, e, SqL.of q, ints_isD' b⟩
theorem lay_bls : ∀ bs : List (List Nat), PyData.canLayAll0 (bs.map dBlk) = true
  | [] => by simp [PyData.canLayAll0]
  | b :: bs => by
    have h1 := lay_ints' b
    simp only [List.map_cons, PyData.canLayAll0, dBlk, PyData.canLay0, h1, lay_bls bs, Bool.and_self, Bool.true_and]
theorem depth_bls : ∀ bs : List (List Nat), PyData.depthAll (bs.map dBlk) ≤ 2
  | [] => by simp [PyData.depthAll]
  | b :: bs => by
    have h1 := depth_ints' b
    have h2 := depth_bls bs
    simp only [List.map_cons, PyData.depthAll, dBlk, PyData.depth]
    omega
theorem shaped_bls (bs : List (List Nat)) : PySem.SeqAt.shaped (dBls bs) = true := by
  unfold PySem.SeqAt.shaped dBls
  rw [Bool.and_eq_true]
  refine ⟨by simp only [PyData.canLay0]; exact lay_bls bs, decide_eq_true ?_⟩
  have := depth_bls bs
  simp only [PyData.depth]
  omega
theorem eqv_bls : ∀ bs : List (List Nat), PyData.eqvAll (bs.map dBlk) (bs.map dBlk) = true
  | [] => by simp [PyData.eqvAll]
  | b :: bs => by simp only [List.map_cons, PyData.eqvAll, dBlk, PyData.eqv, eqv_ints' b, eqv_bls bs, Bool.and_self]
theorem isD_bls {K : PySem.W.Frag} {H : Hp} {a : Addr} {ws : List V} {bs : List (List Nat)} (h : H a = some (.lst ws)) (hB : BlAt H ws bs) : IsD K H (dBls bs) (.ref a) := by
  simp only [dBls, IsD]
  exact ⟨a, _, rfl, SqL.of h, bls_isD hB⟩
theorem eqv_dBls (bs : List (List Nat)) : PyData.eqv (dBls bs) (dBls bs) = true := by
  simp only [dBls, PyData.eqv]
  exact eqv_bls bs
/-- whether one less the other is d -/
def rD (n d i j : Nat) : Bool := decide ((i + (n - j)) % n = d)
/-- how often d comes among the differences of a base -/
def cD (n : Nat) (b : List Nat) (d : Nat) : Nat := (b.map fun i => b.countP fun j => rD n d i j).sum
def tD (n : Nat) (bs : List (List Nat)) (d : Nat) : Nat := (bs.map fun b => cD n b d).sum
def difL (n : Nat) (bs : List (List Nat)) : List Nat := (List.range (n - 1)).map fun k => tD n bs (1 + k)
/-- a list of counts, one raised -/
theorem cnt_set {n k : Nat} (f : Nat → Nat) : (nats ((List.range n).map f)).set k (V.int (((f k + 1 : Nat)) : Int)) = nats ((List.range n).map fun d => f d + if d = k then 1 else 0) := by
  unfold nats
  apply List.ext_getElem
  · simp
  intro i h1 h2
  rw [List.getElem_set]
  simp only [List.getElem_map, List.getElem_range]
  by_cases h : k = i
  · subst h
    simp
  · have : ¬ i = k := fun z => h z.symm
    simp [h, this]
/-- the counts when so many bases, so many first and so many second numbers are gone through -/
def stD (n : Nat) (bs : List (List Nat)) (b one : List Nat) (i : Nat) (other : List Nat) (d : Nat) : Nat := tD n bs d + (one.map fun i => b.countP fun j => rD n d i j).sum + other.countP fun j => rD n d i j
theorem zeros (n : Nat) : (List.replicate n [V.int 0]).flatten = nats (List.replicate n 0) := by
  induction n with
  | zero => rfl
  | succ n ih =>
    rw [List.replicate_succ, List.flatten_cons, ih, List.replicate_succ]
    rfl
theorem drop_one (f : Nat → Nat) (m : Nat) : (nats ((List.range (m + 1)).map f)).drop 1 = nats ((List.range m).map fun k => f (1 + k)) := by
  unfold nats
  rw [List.range_succ_eq_map]
  simp [List.map_map, Function.comp_def, Nat.add_comm]
def spDiff : Sp := fun vs H Q _ => ∃ (l : Addr) (n : Nat) (ws : List V) (bs : List (List Nat)), vs = [.int ((n : Nat) : Int), .ref l] ∧ H l = some (.lst ws) ∧ BlAt H ws bs ∧ 1 ≤ n ∧ n ≤ 60 ∧ n * bs.length ≤ 200 ∧ (∀ b ∈ bs, Blk n b) ∧ ∀ (g : Addr) (H' : Hp), H g = none → Same H H' → H' g = some (.lst (nats (difL n bs))) → Q (.ref g) H'
theorem scDifferences : FnScope ["n", "bases", "counts", "base", "one", "other"] ["n", "bases"] (defScope sDifferences) := ⟨rfl, rfl, rfl, by decide +kernel, rfl, by decide +kernel, by decide +kernel⟩
theorem sub_mod {n i j : Nat} (hj : j < n) : (((i : Nat) : Int) - ((j : Nat) : Int)) % ((n : Nat) : Int) = (((i + (n - j)) % n : Nat) : Int) := by
  have e : (((i : Nat) : Int) - ((j : Nat) : Int)) = ((i + (n - j) : Nat) : Int) - ((n : Nat) : Int) := by omega
  rw [e, Int.sub_emod_right]
  rfl
theorem ok_diff {f : Addr} {fd : FuncData} (F : Fun K "differences" "differences" sDifferences f fd) (T : TxtB mg) (pMustBeBases : Pm P w K mg base CX0 4 "must_be_bases" ["n", "bases"] spMustB) : FnOk P w K mg base CX0 5 f fd ["n", "bases"] spDiff := by
  refine F.okQ scDifferences (fun vs H Q E h => ?_) (fun cdv A outer s H vs Q E hr4 h => ?_)
  · obtain ⟨l, n, ws, bs, rfl, _⟩ := h
    rfl
  · obtain ⟨l, n, ws, bs, rfl, hl, hB, hn1, hn2, hlen, hbb, q⟩ := h
    refine ⟨_, (qss_cons (qs_expr (qe_callP pMustBeBases hr4 rfl pass0 (qac (qv 0) (qac (qv 1) qa_nil))))
      (qss_cons (qs_set (i := 2) scDifferences.nd rfl (Or.inl rfl) (qe_op op_mulL (qe_lst (qac qe_int qa_nil)) (qv 0)))
      (qss_cons (qs_for PassesOwn.never rfl (qi_list (qv 1)) (qg_name (i := 3) scDifferences.nd rfl (Or.inl rfl))
        (qss_one (qs_for PassesOwn.never rfl (qi_list (qv 3)) (qg_name (i := 4) scDifferences.nd rfl (Or.inl rfl))
          (qss_one (qs_for PassesOwn.never rfl (qi_list (qv 3)) (qg_name (i := 5) scDifferences.nd rfl (Or.inl rfl))
            (qss_one (qs_augS (qv 2) (qe_op op_mod (qe_op op_sub (qv 4) (qv 5)) (qv 0)) get_listN qe_int ip_add set_list)))))))
      (qss_one (qs_ret (qe_slice sl_list (qv 2) (qo_some qe_int) qo_none)))))), ?_⟩
    refine ⟨_, rfl, _, rfl, l, n, ws, bs, rfl, hl, hB, hn1, hn2, hlen, hbb, fun H1 s1 => ?_⟩
    refine ⟨by show 1 ≤ sizeLine; decide, fun d hd => ⟨_, rfl, d, [V.int 0], (n : Int), rfl, rfl, SqL.of upd_same, by omega, by omega, by rw [List.length_singleton, Int.toNat_natCast]; omega, fun c hc => ?_⟩⟩
    have ez : (List.replicate ((n : Nat) : Int).toNat [V.int 0]).flatten = nats ((List.range n).map (stD n [] [] [] 0 [])) := by
      rw [Int.toNat_natCast, zeros]
      congr 1
      symm
      rw [List.eq_replicate_iff]
      exact ⟨by simp, fun b hb => by obtain ⟨p, _, rfl⟩ := List.mem_map.mp hb; simp [stD, tD]⟩
    rw [ez]
    have w1 := same_new (o := .lst [V.int 0]) hd
    have w2 := same_new (o := .lst (nats ((List.range n).map (stD n [] [] [] 0 [])))) hc
    have hc0 : H c = none := s1.free (w1.free hc)
    have s2 := s1.trans (w1.trans w2)
    have hc2 : L2.upd (L2.upd H1 d (.lst [V.int 0])) c (.lst (nats ((List.range n).map (stD n [] [] [] 0 [])))) c = some (.lst (nats ((List.range n).map (stD n [] [] [] 0 [])))) := upd_same
    generalize L2.upd (L2.upd H1 d (.lst [V.int 0])) c (.lst (nats ((List.range n).map (stD n [] [] [] 0 [])))) = H2 at s2 hc2 ⊢
    refine ⟨_, rfl, l, rfl, ⟨_, SqL.of (s2 _ _ hl)⟩, for_list (K := K) (xs := ws) (fun i σ H3 => Same H H3 ∧ ∃ x3 x4 x5, σ = [some (.int ((n : Nat) : Int)), some (.ref l), some (.ref c), x3, x4, x5] ∧ H3 c = some (.lst (nats ((List.range n).map (stD n (bs.take i) [] [] 0 []))))) ⟨s2, none, none, none, rfl, hc2⟩ (fun i σ H3 _ ⟨s3, _⟩ => SqL.of (s3 _ _ hl)) ?_ ?_⟩
    · rintro i v σ H3 hi ⟨s3, x3, x4, x5, rfl, hc3⟩
      obtain ⟨a, b, rfl, hb, ha⟩ := hB.get hi
      have hbk := hbb b (List.mem_of_getElem? hb)
      refine ⟨_, rfl, a, rfl, ⟨_, SqL.of (s3 _ _ ha)⟩, for_list (K := K) (xs := nats b) (fun j σ H4 => Same H H4 ∧ ∃ x4 x5, σ = [some (.int ((n : Nat) : Int)), some (.ref l), some (.ref c), some (.ref a), x4, x5] ∧ H4 c = some (.lst (nats ((List.range n).map (stD n (bs.take i) b (b.take j) 0 []))))) ⟨s3, x4, x5, rfl, ?_⟩ (fun j σ H4 _ ⟨s4, _⟩ => SqL.of (s4 _ _ ha)) ?_ ?_⟩
      · rw [hc3]
        congr 3
      · rintro j v σ H4 hj ⟨s4, x4, x5, rfl, hc4⟩
        obtain ⟨x, hx, rfl⟩ := L2.nats_get hj
        refine ⟨_, rfl, a, rfl, ⟨_, SqL.of (s4 _ _ ha)⟩, for_list (K := K) (xs := nats b) (fun k σ H5 => Same H H5 ∧ ∃ x5, σ = [some (.int ((n : Nat) : Int)), some (.ref l), some (.ref c), some (.ref a), some (.int ((x : Nat) : Int)), x5] ∧ H5 c = some (.lst (nats ((List.range n).map (stD n (bs.take i) b (b.take j) x (b.take k)))))) ⟨s4, x5, rfl, ?_⟩ (fun k σ H5 _ ⟨s5, _⟩ => SqL.of (s5 _ _ ha)) ?_ ?_⟩
        · rw [hc4]
          congr 3
        · rintro k v σ H5 hk ⟨s5, x5, rfl, hc5⟩
          obtain ⟨y, hy, rfl⟩ := L2.nats_get hk
          have hym := hbk.lt y (List.mem_of_getElem? hy)
          have hz : (x + (n - y)) % n < n := Nat.mod_lt _ hn1
          have hat : (nats ((List.range n).map (stD n (bs.take i) b (b.take j) x (b.take k))))[(x + (n - y)) % n]? = some (.int ((stD n (bs.take i) b (b.take j) x (b.take k) ((x + (n - y)) % n) : Nat) : Int)) := by
            unfold nats
            rw [List.getElem?_map, List.getElem?_map, List.getElem?_range hz]
            rfl
          refine ⟨_, rfl, _, rfl, _, rfl, _, _, rfl, rfl, _, rfl, _, _, rfl, rfl, by omega, ?_⟩
          dsimp only
          rw [sub_mod hym]
          refine ⟨c, _, _, _, rfl, rfl, SqL.of hc5, by omega, atI_nat hat, _, _, rfl, rfl, c, _, _, (x + (n - y)) % n, rfl, rfl, hc5, ?_, same_upd s5 hc0, _, rfl, ?_⟩
          · unfold ixN
            rw [if_pos (by omega), if_pos (by rw [nats_len, List.length_map, List.length_range]; omega), Int.toNat_natCast]
          · rw [upd_same]
            have e := cnt_set (n := n) (k := (x + (n - y)) % n) (stD n (bs.take i) b (b.take j) x (b.take k))
            have e2 : (fun d => stD n (bs.take i) b (b.take j) x (b.take k) d + if d = (x + (n - y)) % n then 1 else 0) = stD n (bs.take i) b (b.take j) x (b.take (k + 1)) := by
              funext d
              unfold stD
              rw [take_snoc hy, List.countP_append, List.countP_cons, List.countP_nil]
              unfold rD
              by_cases hd : d = (x + (n - y)) % n
              · subst hd
                simp
                omega
              · have : ¬ (x + (n - y)) % n = d := fun z => hd z.symm
                simp [hd, this]
            rw [e2] at e
            rw [← e]
            rfl
        · rintro σ H5 ⟨s5, x5, rfl, hc5⟩
          refine ⟨s5, _, _, rfl, ?_⟩
          rw [hc5, nats_len, List.take_length]
          congr 4
          funext d
          unfold stD
          rw [take_snoc hx, List.map_append, List.sum_append]
          simp
          omega
      · rintro σ H4 ⟨s4, x4, x5, rfl, hc4⟩
        refine ⟨s4, _, _, _, rfl, ?_⟩
        rw [hc4, nats_len, List.take_length]
        congr 4
        funext d
        unfold stD tD cD
        rw [take_snoc hb, List.map_append, List.sum_append]
        simp
    · rintro σ H3 ⟨s3, x3, x4, x5, rfl, hc3⟩
      rw [hB.len, List.take_length] at hc3
      have e3 : (List.range n).map (stD n bs [] [] 0 []) = (List.range n).map (tD n bs) := List.map_congr_left fun d _ => by simp [stD]
      rw [e3] at hc3
      refine ⟨_, rfl, _, rfl, c, _, rfl, SqL.of hc3, fun g hg => ?_⟩
      have ec : cutV (nats ((List.range n).map (tD n bs))) (some 1) none = nats (difL n bs) := by
        rw [show cutV (nats ((List.range n).map (tD n bs))) (some 1) none = (nats ((List.range n).map (tD n bs))).drop 1 from cut_from (k := 1) (by rw [nats_len, List.length_map, List.length_range]; exact hn1)]
        obtain ⟨m, rfl⟩ : ∃ m, n = m + 1 := ⟨n - 1, by omega⟩
        exact drop_one (tD (m + 1) bs) m
      rw [ec]
      exact q g _ (s3.free hg) (s3.trans (same_new hg)) upd_same
/-- a walk over a list or a tuple -/
theorem for_seq {K : PySem.W.Frag} {a : Addr} {xs : List V} {g : TG} {tb : TS} {D : Ends} {σ : St} {H H0 : Hp} (ha : H0 a = some (.lst xs) ∨ H0 a = some (.tup xs)) (Pv : Nat → St → Hp → Prop) (h0 : Pv 0 σ H) (hl : ∀ i σ H, Pv i σ H → Same H0 H)
    (hs : ∀ i x σ H, xs[i]? = some x → Pv i σ H → g x σ H fun σ2 H2 => tb { D with nx := Pv (i + 1), ct := Pv (i + 1), bk := D.nx } σ2 H2) (hd : ∀ σ H, Pv xs.length σ H → D.nx σ H) :
    ((∃ ys, SqL K H a ys) ∧ ∃ W : Nat → Nat → St → Hp → Prop, (∃ m, W 0 m σ H) ∧ ∀ i m σ H, W i m σ H →
      ((Itl K a).stop i H ∧ D.nx σ H) ∨ ((Itl K a).go i H ∧ ∃ N : St → Hp → Prop, (∀ σ' H', N σ' H' → ∃ m', m' < m ∧ W (i + 1) m' σ' H') ∧ ∀ x H', (Itl K a).yld i H x H' → g x σ H' fun σ2 H2 => tb { D with nx := N, ct := N, bk := D.nx } σ2 H2)) ∨
    ((∃ ys, SqT K H a ys) ∧ ∃ W : Nat → Nat → St → Hp → Prop, (∃ m, W 0 m σ H) ∧ ∀ i m σ H, W i m σ H →
      ((Itt K a).stop i H ∧ D.nx σ H) ∨ ((Itt K a).go i H ∧ ∃ N : St → Hp → Prop, (∀ σ' H', N σ' H' → ∃ m', m' < m ∧ W (i + 1) m' σ' H') ∧ ∀ x H', (Itt K a).yld i H x H' → g x σ H' fun σ2 H2 => tb { D with nx := N, ct := N, bk := D.nx } σ2 H2)) := by
  rcases ha with ha | ha
  · exact .inl ⟨⟨_, SqL.of (hl 0 σ H h0 _ _ ha)⟩, for_list (K := K) (xs := xs) Pv h0 (fun i σ H _ p => SqL.of (hl i σ H p _ _ ha)) hs hd⟩
  · exact .inr ⟨⟨_, SqT.of (hl 0 σ H h0 _ _ ha)⟩, for_tup (K := K) (xs := xs) Pv h0 (fun i σ H _ p => SqT.of (hl i σ H p _ _ ha)) hs hd⟩
theorem or_p {tA tB : TT} {σ : St} {H : Hp} {Q : Bool → Hp → Prop} (pa pb : Bool) (ha : ∀ Q' : Bool → Hp → Prop, Q' pa H → tA σ H Q') (hb : pa = false → ∀ Q' : Bool → Hp → Prop, Q' pb H → tB σ H Q') (k : Q (pa || pb) H) : tOr tA tB σ H Q := by
  cases pa with
  | false => exact ha _ (iteF (hb rfl _ k))
  | true => exact ha _ (iteT k)
theorem cint_mk {K : PySem.W.Frag} {x : Str} {n : Int} {t : Tok} (h : PySem.W.nsIn K mainGlobals x = some (some (.int n t))) : ∃ t, PySem.W.nsIn K mainGlobals x = some (some (.int n t)) := ⟨t, h⟩
/-- no number of the row is above what is left -/
def fitL (row left : List Nat) : List Bool := List.zipWith (fun c m => decide (c ≤ m)) row left
def subL (row left : List Nat) : List Nat := List.zipWith (fun c m => m - c) row left
theorem zip_take {α : Type} (f : Nat → Nat → α) {row left : List Nat} {i x z : Nat} (hx : row[i]? = some x) (hz : left[i]? = some z) : (List.zipWith f row left).take (i + 1) = (List.zipWith f row left).take i ++ [f x z] := by
  rw [List.take_succ, List.getElem?_zipWith, hx, hz]
  rfl
def spFits : Sp := fun vs H Q _ => ∃ (a b : Addr) (row left : List Nat), vs = [.ref a, .ref b] ∧ H a = some (.tup (nats row)) ∧ H b = some (.lst (nats left)) ∧ row.length = left.length ∧ row.length ≤ 60 ∧ ∀ H', Same H H' → Q (.bl ((fitL row left).all id)) H'
theorem scFits : FnScope ["row", "left"] ["row", "left"] (defScope sFits) := ⟨rfl, rfl, rfl, by decide +kernel, rfl, by decide +kernel, by decide +kernel⟩
theorem ok_fits {f : Addr} {fd : FuncData} (F : Fun K "fits" "fits" sFits f fd) (T : TxtB mg) : FnOk P w K mg base CX0 1 f fd ["row", "left"] spFits := by
  refine F.okQ scFits (fun vs H Q E h => ?_) (fun cdv A outer s H vs Q E hr h => ?_)
  · obtain ⟨a, b, row, left, rfl, _⟩ := h
    rfl
  · obtain ⟨a, b, row, left, rfl, ha, hb, hl, h60, q⟩ := h
    refine ⟨_, (qss_one (qs_ret (qe_callB (call_all rfl) (by rfl) T.all (by decide +kernel) (qac (qe_comp (g := gTup K 2 (gCons (gName 0) (gCons (gName 1) (gNil)))) (N := ["count", "most"]) (src := [none, none]) rfl (comp_scope (defScope sFits) ["row", "left"] rfl rfl (by decide +kernel) rfl) (qi_zipT rfl T.zip (qac (qv 0) (qac (qv 1) qa_nil))) (fun _ _ _ _ _ => (qg_tup rfl (qgs_cons (qg_name (i := 0) (show (["count", "most"] : List Str).Nodup by decide +kernel) rfl (Or.inl rfl) (Or.inr rfl)) (qgs_cons (qg_name (i := 1) (show (["count", "most"] : List Str).Nodup by decide +kernel) rfl (Or.inl rfl) (Or.inr rfl)) qgs_nil)))) (fun _ _ _ _ _ => qif_nil) (fun _ _ _ _ _ => (qe_cmpR op_le (qv 0) (qv 1) (nomark _)))) qa_nil)))), ?_⟩
    refine ⟨_, rfl, _, rfl, a, b, rfl, ⟨_, SqT.of ha⟩, ⟨_, SqL.of hb⟩, comp_zipT (K := K) (a := a) (b := b) (xs := nats row) (zs := nats left) (by rw [nats_len, nats_len, hl]) (fun i ys H2 => Same H H2 ∧ ys = ((fitL row left).take i).map V.bl) ⟨Same.refl _, rfl⟩ (fun i ys H2 _ ⟨e, _⟩ => ⟨SqT.of (e _ _ ha), SqL.of (e _ _ hb)⟩) ?_ ?_⟩
    · rintro i x z t ys H2 N hx hz ⟨s2, rfl⟩ ht nx
      obtain ⟨c, hc, rfl⟩ := L2.nats_get hx
      obtain ⟨m, hm, rfl⟩ := L2.nats_get hz
      have hil := (List.getElem?_eq_some_iff.mp hc).1
      have w1 := same_new (o := .tup [.int ((c : Nat) : Int), .int ((m : Nat) : Int)]) ht
      refine ⟨t, _, rfl, SqT.of upd_same, rfl, _, _, rfl, _, _, rfl, rfl, (Weak.set (by intro v z; cases z)).trans (Weak.set (by intro v z; cases z)), ?_⟩
      refine ⟨_, rfl, _, rfl, _, _, rfl, rfl, ?_, nx _ _ ⟨s2.trans w1, ?_⟩⟩
      · rw [List.length_map, List.length_take]
        exact Nat.lt_of_le_of_lt (show min i (fitL row left).length ≤ 60 by omega) (by decide)
      · unfold fitL
        rw [zip_take _ hc hm, List.map_append]
        have : decide (((c : Nat) : Int) ≤ ((m : Nat) : Int)) = decide (c ≤ m) := by
          by_cases z : c ≤ m
          · rw [decide_eq_true z, decide_eq_true (by omega)]
          · rw [decide_eq_false z, decide_eq_false (by omega)]
        simp [this]
    · rintro ys H2 ⟨s2, rfl⟩
      have hfl : (fitL row left).length = row.length := by unfold fitL; rw [List.length_zipWith]; omega
      rw [nats_len, ← hfl, List.take_length]
      refine ⟨by rw [List.length_map, hfl]; exact Nat.le_trans h60 (by decide), fun r hr' => ?_⟩
      exact ⟨r, _, rfl, SqL.of upd_same, q _ (s2.trans (same_new hr'))⟩
def spWithout : Sp := fun vs H Q _ => ∃ (a b : Addr) (row left : List Nat), vs = [.ref b, .ref a] ∧ H a = some (.tup (nats row)) ∧ H b = some (.lst (nats left)) ∧ row.length = left.length ∧ row.length ≤ 60 ∧ (fitL row left).all id = true ∧ ∀ l H', H l = none → Same H H' → H' l = some (.lst (nats (subL row left))) → Q (.ref l) H'
theorem scWithout : FnScope ["left", "row"] ["left", "row"] (defScope sWithout) := ⟨rfl, rfl, rfl, by decide +kernel, rfl, by decide +kernel, by decide +kernel⟩
theorem ok_without {f : Addr} {fd : FuncData} (F : Fun K "without" "without" sWithout f fd) (T : TxtB mg) : FnOk P w K mg base CX0 1 f fd ["left", "row"] spWithout := by
  refine F.okQ scWithout (fun vs H Q E h => ?_) (fun cdv A outer s H vs Q E hr h => ?_)
  · obtain ⟨a, b, row, left, rfl, _⟩ := h
    rfl
  · obtain ⟨a, b, row, left, rfl, ha, hb, hl, h60, hfit, q⟩ := h
    refine ⟨_, (qss_one (qs_ret (qe_comp (g := gTup K 2 (gCons (gName 0) (gCons (gName 1) (gNil)))) (N := ["count", "most"]) (src := [none, none]) rfl (comp_scope (defScope sWithout) ["left", "row"] rfl rfl (by decide +kernel) rfl) (qi_zipT rfl T.zip (qac (qv 1) (qac (qv 0) qa_nil))) (fun _ _ _ _ _ => (qg_tup rfl (qgs_cons (qg_name (i := 0) (show (["count", "most"] : List Str).Nodup by decide +kernel) rfl (Or.inl rfl) (Or.inr rfl)) (qgs_cons (qg_name (i := 1) (show (["count", "most"] : List Str).Nodup by decide +kernel) rfl (Or.inl rfl) (Or.inr rfl)) qgs_nil)))) (fun _ _ _ _ _ => qif_nil) (fun _ _ _ _ _ => (qe_op op_sub (qv 1) (qv 0)))))), ?_⟩
    refine ⟨_, rfl, _, rfl, a, b, rfl, ⟨_, SqT.of ha⟩, ⟨_, SqL.of hb⟩, comp_zipT (K := K) (a := a) (b := b) (xs := nats row) (zs := nats left) (by rw [nats_len, nats_len, hl]) (fun i ys H2 => Same H H2 ∧ ys = nats ((subL row left).take i)) ⟨Same.refl _, rfl⟩ (fun i ys H2 _ ⟨e, _⟩ => ⟨SqT.of (e _ _ ha), SqL.of (e _ _ hb)⟩) ?_ ?_⟩
    · rintro i x z t ys H2 N hx hz ⟨s2, rfl⟩ ht nx
      obtain ⟨c, hc, rfl⟩ := L2.nats_get hx
      obtain ⟨m, hm, rfl⟩ := L2.nats_get hz
      have hil := (List.getElem?_eq_some_iff.mp hc).1
      have hcm : c ≤ m := by
        rw [List.all_eq_true] at hfit
        have h1 : (fitL row left)[i]? = some (decide (c ≤ m)) := by unfold fitL; rw [List.getElem?_zipWith, hc, hm]
        exact of_decide_eq_true (hfit _ (List.mem_of_getElem? h1))
      have w1 := same_new (o := .tup [.int ((c : Nat) : Int), .int ((m : Nat) : Int)]) ht
      refine ⟨t, _, rfl, SqT.of upd_same, rfl, _, _, rfl, _, _, rfl, rfl, (Weak.set (by intro v z; cases z)).trans (Weak.set (by intro v z; cases z)), ?_⟩
      refine ⟨_, rfl, _, rfl, _, _, rfl, rfl, ?_, nx _ _ ⟨s2.trans w1, ?_⟩⟩
      · rw [nats_len, List.length_take]
        exact Nat.lt_of_le_of_lt (show min i (subL row left).length ≤ 60 by omega) (by decide)
      · unfold subL
        rw [zip_take _ hc hm, nats_snoc]
        show _ ++ [V.int (((m : Nat) : Int) - ((c : Nat) : Int))] = _
        rw [show ((m : Nat) : Int) - ((c : Nat) : Int) = ((m - c : Nat) : Int) by omega]
    · rintro ys H2 ⟨s2, rfl⟩
      have hfl : (subL row left).length = row.length := by unfold subL; rw [List.length_zipWith]; omega
      rw [nats_len row, ← hfl, List.take_length]
      refine ⟨by rw [nats_len, hfl]; exact Nat.le_trans h60 (by decide), fun r hr' => ?_⟩
      exact q r _ (s2.free hr') (s2.trans (same_new hr')) upd_same
/-! ### bases with nought -/
def lgr1 (n : Nat) (b : List Nat) (j : Nat) : List (List Nat) := (List.range j).map fun i => b ++ [b.getLastD 0 + 1 + i]
def lgr (n : Nat) (bs : List (List Nat)) : List (List Nat) := bs.flatMap fun b => lgr1 n b (n - (b.getLastD 0 + 1))
theorem lgr_snoc {n i : Nat} {bs : List (List Nat)} {b : List Nat} (h : bs[i]? = some b) : lgr n (bs.take (i + 1)) = lgr n (bs.take i) ++ lgr1 n b (n - (b.getLastD 0 + 1)) := by
  unfold lgr
  rw [List.take_succ, h, List.flatMap_append]
  simp
theorem lgr1_snoc (n : Nat) (b : List Nat) (j : Nat) : lgr1 n b (j + 1) = lgr1 n b j ++ [b ++ [b.getLastD 0 + 1 + j]] := by
  unfold lgr1
  rw [List.range_succ, List.map_append]
  rfl
theorem lgr1_len (n : Nat) (b : List Nat) (j : Nat) : (lgr1 n b j).length = j := by
  unfold lgr1
  rw [List.length_map, List.length_range]
theorem lgr_len {n : Nat} : ∀ {bs : List (List Nat)}, (lgr n bs).length ≤ n * bs.length
  | [] => by simp [lgr]
  | b :: bs => by
    have ih := lgr_len (n := n) (bs := bs)
    have e : lgr n (b :: bs) = lgr1 n b (n - (b.getLastD 0 + 1)) ++ lgr n bs := by simp [lgr]
    rw [e, List.length_append, lgr1_len, List.length_cons, Nat.mul_succ]
    omega
theorem last_natsL {b : List Nat} (hl : 1 ≤ b.length) : atI (nats b) (-1) = some (.int ((b.getLastD 0 : Nat) : Int)) := by
  have hne : b ≠ [] := fun z => by rw [z] at hl; simp at hl
  have h1 := List.dropLast_concat_getLast hne
  have h3 : b.getLastD 0 = b.getLast hne := by
    cases b with
    | nil => exact absurd rfl hne
    | cons x b => simp [List.getLastD, List.getLast_cons]
  rw [h3]
  conv => lhs; rw [← h1]
  rw [nats_snoc, atI_last]
def spLonger : Sp := fun vs H Q _ => ∃ (l : Addr) (n : Nat) (ws : List V) (bs : List (List Nat)), vs = [.int ((n : Nat) : Int), .ref l] ∧ H l = some (.lst ws) ∧ BlAt H ws bs ∧ n ≤ 60 ∧ bs.length ≤ 10000 ∧ (∀ b ∈ bs, 1 ≤ b.length ∧ b.length ≤ 60 ∧ ∀ x ∈ b, x < 60) ∧ ∀ (g : Addr) (us : List V) (H' : Hp), H g = none → Same H H' → H' g = some (.lst us) → BlAt H' us (lgr n bs) → Q (.ref g) H'
theorem scLongerByOne : FnScope ["n", "bases", "longer", "base", "number"] ["n", "bases"] (defScope sLongerByOne) := ⟨rfl, rfl, rfl, by decide +kernel, rfl, by decide +kernel, by decide +kernel⟩
theorem ok_longer {f : Addr} {fd : FuncData} (F : Fun K "longer_by_one" "longer_by_one" sLongerByOne f fd) (T : TxtB mg) : FnOk P w K mg base CX0 1 f fd ["n", "bases"] spLonger := by
  refine F.okQ scLongerByOne (fun vs H Q E h => ?_) (fun cdv A outer s H vs Q E hr h => ?_)
  · obtain ⟨l, n, ws, bs, rfl, _⟩ := h
    rfl
  · obtain ⟨l, n, ws, bs, rfl, hl, hB, hn, hbl, hbb, q⟩ := h
    refine ⟨_, (qss_cons (qs_set (i := 2) scLongerByOne.nd rfl (Or.inl rfl) (qe_lst qa_nil))
      (qss_cons (qs_for PassesOwn.never rfl (qi_list (qv 1)) (qg_name (i := 3) scLongerByOne.nd rfl (Or.inl rfl))
        (qss_one (qs_for PassesOwn.never rfl (qi_range2 rfl T.range (qac (qe_op op_add (qe_ix ix_list (qv 3) (qe_un un_neg qe_int) (fun _ _ => rfl)) qe_int) (qac (qv 0) qa_nil))) (qg_name (i := 4) scLongerByOne.nd rfl (Or.inl rfl))
          (qss_one (qs_expr (qe_bm PySem.F.plainAttrs_list PySem.F.slot_list_append PySem.F.type_list_append mt_append (qv 2) (qac (qe_op op_cat (qv 3) (qe_lst (qac (qv 4) qa_nil))) qa_nil)))))))
      (qss_one (qs_ret (qv 2))))), ?_⟩
    refine ⟨by show 0 ≤ sizeLine; decide, fun c hc => ?_⟩
    have w1 := same_new (o := .lst []) hc
    have hl1 := w1 _ _ hl
    have hsz : ∀ k, (lgr n (bs.take k)).length ≤ 600000 := fun k => by
      have h1 := lgr_len (n := n) (bs := bs.take k)
      have h2 : (bs.take k).length ≤ 10000 := by rw [List.length_take]; omega
      have h3 := Nat.mul_le_mul hn h2
      omega
    have hbig : (600100 : Nat) < sizeLine := by decide
    refine ⟨_, rfl, l, rfl, ⟨_, SqL.of hl1⟩, for_list (K := K) (xs := ws) (fun i σ H2 => Same H H2 ∧ ∃ (us : List V) (x3 x4 : Option V), σ = [some (.int ((n : Nat) : Int)), some (.ref l), some (.ref c), x3, x4] ∧ H2 c = some (.lst us) ∧ V.ref c ∉ us ∧ BlAt H2 us (lgr n (bs.take i))) ⟨w1, [], none, none, rfl, upd_same, by simp, trivial⟩ (fun i σ H2 _ ⟨s2, _⟩ => SqL.of (s2 _ _ hl)) ?_ ?_⟩
    · rintro i v σ H2 hi ⟨s2, us, x3, x4, rfl, hc2, hcn, hT⟩
      obtain ⟨a, b, rfl, hb, ha⟩ := (hB.same s2).get hi
      obtain ⟨hb1, hb60, hbx⟩ := hbb b (List.mem_of_getElem? hb)
      have ha0 : H a = some (.lst (nats b)) := by
        obtain ⟨a', b', e1, e2, e3⟩ := hB.get hi
        cases e1
        rw [hb] at e2
        cases e2
        exact e3
      have hL60 : b.getLastD 0 < 60 := by
        have e1 := last_natsL hb1
        obtain ⟨j, _, hj, _⟩ := atI_get e1
        obtain ⟨x, hx, ex⟩ := L2.nats_get hj
        injection ex with ex
        have := hbx x (List.mem_of_getElem? hx)
        omega
      refine ⟨_, rfl, _, rfl, a, _, -1, _, rfl, rfl, SqL.of ha, last_natsL hb1, _, _, rfl, rfl, _, rfl, ((b.getLastD 0 : Nat) : Int) + 1, ((n : Nat) : Int), rfl, ⟨by omega, by omega, by omega, by omega⟩, ?_⟩
      rw [show (((n : Nat) : Int) - (((b.getLastD 0 : Nat) : Int) + 1)).toNat = n - (b.getLastD 0 + 1) by omega]
      have hsi := hsz i
      refine for_range (lo := ((b.getLastD 0 : Nat) : Int) + 1) (n := n - (b.getLastD 0 + 1)) (fun j σ H3 => Same H H3 ∧ ∃ (us' : List V) (x4 : Option V), σ = [some (.int ((n : Nat) : Int)), some (.ref l), some (.ref c), some (.ref a), x4] ∧ H3 c = some (.lst us') ∧ V.ref c ∉ us' ∧ BlAt H3 us' (lgr n (bs.take i) ++ lgr1 n b j)) ⟨s2, us, x4, rfl, hc2, hcn, by rw [show lgr1 n b 0 = [] from rfl, List.append_nil]; exact hT⟩ ?_ ?_
      · rintro j σ H3 hj ⟨s3, us', x4', rfl, hc3, hcn3, hT3⟩
        have ha3 := s3 _ _ ha0
        have hul : us'.length ≤ 600060 := by
          rw [hT3.len, List.length_append, lgr1_len]
          omega
        refine ⟨_, rfl, .inl ⟨rfl, _, SqL.of hc3⟩, _, rfl, _, rfl, by show 1 ≤ sizeLine; decide, fun g hg => ?_⟩
        have v1 := same_new (o := .lst [V.int (((b.getLastD 0 : Nat) : Int) + 1 + ((j : Nat) : Int))]) hg
        refine ⟨a, g, _, _, rfl, rfl, v1 _ _ ha3, upd_same, by rw [nats_len]; exact Nat.le_trans (show b.length + 1 ≤ 61 by omega) (by decide), fun g2 hg2 => ?_⟩
        have v2 := same_new (o := .lst (nats b ++ [V.int (((b.getLastD 0 : Nat) : Int) + 1 + ((j : Nat) : Int))])) hg2
        have v12 := v1.trans v2
        have hg2c : g2 ≠ c := fun z => by
          have := v1 _ _ hc3
          rw [z, this] at hg2
          cases hg2
        have eg : (upd (upd H3 g (.lst [V.int (((b.getLastD 0 : Nat) : Int) + 1 + ((j : Nat) : Int))])) g2 (.lst (nats b ++ [V.int (((b.getLastD 0 : Nat) : Int) + 1 + ((j : Nat) : Int))]))) g2 = some (.lst (nats (b ++ [b.getLastD 0 + 1 + j]))) := by
          rw [upd_same, nats_snoc, show (((b.getLastD 0 : Nat) : Int) + 1 + ((j : Nat) : Int)) = ((b.getLastD 0 + 1 + j : Nat) : Int) by omega]
        refine ⟨c, us', _, rfl, rfl, v12 _ _ hc3, Nat.lt_of_le_of_lt hul (by omega), same_upd (s3.trans v12) hc, us' ++ [.ref g2], _, rfl, upd_same, ?_, ?_⟩
        · intro hm
          rcases List.mem_append.mp hm with z | z
          · exact hcn3 z
          · injection (List.mem_singleton.mp z) with z
            exact hg2c z.symm
        · rw [lgr1_snoc, ← List.append_assoc]
          refine BlAt.snoc (by rw [upd_ne hg2c]; exact eg) (hT3.imp fun x xs hx q => ?_)
          have hxc : x ≠ c := fun z => hcn3 (by rw [← z]; exact hx)
          rw [upd_ne hxc]
          exact v12 _ _ q
      · rintro σ H3 ⟨s3, us', x4', rfl, hc3, hcn3, hT3⟩
        refine ⟨s3, us', _, _, rfl, hc3, hcn3, ?_⟩
        rw [lgr_snoc hb]
        exact hT3
    · rintro σ H2 ⟨s2, us, x3, x4, rfl, hc2, _, hT⟩
      have e : bs.take ws.length = bs := by rw [hB.len]; exact List.take_length
      rw [e] at hT
      exact ⟨_, rfl, q c us H2 hc s2 hc2 hT⟩
/-- the bases of k numbers with nought -/
def nght (n : Nat) : Nat → List (List Nat)
  | 0 => [[0]]
  | k + 1 => lgr n (nght n k)
theorem nght_facts {n : Nat} (hn : n ≤ 13) : ∀ k, (nght n k).length ≤ 13 ^ k ∧ ∀ b ∈ nght n k, b.length = k + 1 ∧ (∀ x ∈ b, x < max n 1) ∧ b.Pairwise (· < ·) ∧ b.head? = some 0
  | 0 => ⟨by simp [nght], fun b hb => by
      rw [List.mem_singleton.mp hb]
      exact ⟨rfl, fun x hx => by rw [List.mem_singleton.mp hx]; omega, by simp, rfl⟩⟩
  | k + 1 => by
    obtain ⟨h1, h2⟩ := nght_facts hn k
    refine ⟨?_, fun b hb => ?_⟩
    · have := lgr_len (n := n) (bs := nght n k)
      have h3 := Nat.mul_le_mul hn h1
      rw [Nat.pow_succ, Nat.mul_comm]
      exact Nat.le_trans this h3
    · obtain ⟨c, hc, hb⟩ := List.mem_flatMap.mp hb
      obtain ⟨i, hi, rfl⟩ := List.mem_map.mp hb
      obtain ⟨g1, g2, g3, g4⟩ := h2 c hc
      rw [List.mem_range] at hi
      have hne : c ≠ [] := fun z => by rw [z] at g1; simp at g1
      have hlast : c.getLastD 0 = c.getLast hne := by
        cases c with
        | nil => exact absurd rfl hne
        | cons x c => simp [List.getLastD, List.getLast_cons]
      refine ⟨by rw [List.length_append, g1]; rfl, fun x hx => ?_, ?_, ?_⟩
      · rcases List.mem_append.mp hx with hx | hx
        · exact g2 x hx
        · rw [List.mem_singleton.mp hx]
          omega
      · refine List.pairwise_append.mpr ⟨g3, by simp, fun x hx y hy => ?_⟩
        rw [List.mem_singleton.mp hy, hlast]
        have hd := List.dropLast_concat_getLast hne
        have hle : x ≤ c.getLast hne := by
          rw [← hd] at hx g3
          rcases List.mem_append.mp hx with hx | hx
          · exact Nat.le_of_lt ((List.pairwise_append.mp g3).2.2 x hx _ (by simp))
          · rw [List.mem_singleton.mp hx]
            exact Nat.le_refl _
        omega
      · cases c with
        | nil => exact absurd rfl hne
        | cons x c => simpa using g4
def spNought : Sp := fun vs H Q _ => ∃ (n k : Nat), vs = [.int ((n : Nat) : Int), .int ((k : Nat) : Int)] ∧ n ≤ 13 ∧ 1 ≤ k ∧ k ≤ 4 ∧ ∀ (g : Addr) (us : List V) (H' : Hp), H g = none → Same H H' → H' g = some (.lst us) → BlAt H' us (nght n (k - 1)) → Q (.ref g) H'
theorem scBasesWithNought : FnScope ["n", "k", "bases", "turn"] ["n", "k"] (defScope sBasesWithNought) := ⟨rfl, rfl, rfl, by decide +kernel, rfl, by decide +kernel, by decide +kernel⟩
theorem ok_nought {f : Addr} {fd : FuncData} (F : Fun K "bases_with_nought" "bases_with_nought" sBasesWithNought f fd) (T : TxtB mg) (pLongerByOne : Pm P w K mg base CX0 1 "longer_by_one" ["n", "bases"] spLonger) : FnOk P w K mg base CX0 2 f fd ["n", "k"] spNought := by
  refine F.okQ scBasesWithNought (fun vs H Q E h => ?_) (fun cdv A outer s H vs Q E hr1 h => ?_)
  · obtain ⟨n, k, rfl, _⟩ := h
    rfl
  · obtain ⟨n, k, rfl, hn, hk1, hk4, q⟩ := h
    refine ⟨_, (qss_cons (qs_set (i := 2) scBasesWithNought.nd rfl (Or.inl rfl) (qe_lst (qac (qe_lst (qac qe_int qa_nil)) qa_nil)))
      (qss_cons (qs_for PassesOwn.never rfl (qi_range1 rfl T.range (qac (qe_op op_sub (qv 1) qe_int) qa_nil)) (qg_name (i := 3) scBasesWithNought.nd rfl (Or.inl rfl))
        (qss_one (qs_set (i := 2) scBasesWithNought.nd rfl (Or.inl rfl) (qe_callP pLongerByOne hr1 rfl pass0 (qac (qv 0) (qac (qv 2) qa_nil))))))
      (qss_one (qs_ret (qv 2))))), ?_⟩
    refine ⟨by show 1 ≤ sizeLine; decide, fun z hz => ⟨by show 1 ≤ sizeLine; decide, fun c hc => ?_⟩⟩
    have w1 := same_new (o := .lst [V.int 0]) hz
    have w2 := same_new (o := .lst [V.ref z]) hc
    have hc0 : H c = none := w1.free hc
    refine ⟨_, rfl, _, _, rfl, rfl, ((k : Nat) : Int) - 1, rfl, by omega, by omega, ?_⟩
    rw [show (((k : Nat) : Int) - 1).toNat = k - 1 by omega]
    refine for_range (lo := 0) (n := k - 1) (fun i σ H2 => Same H H2 ∧ ∃ (g : Addr) (us : List V) (x3 : Option V), σ = [some (.int ((n : Nat) : Int)), some (.int ((k : Nat) : Int)), some (.ref g), x3] ∧ H g = none ∧ H2 g = some (.lst us) ∧ BlAt H2 us (nght n i)) ⟨w1.trans w2, c, [.ref z], none, rfl, hc0, upd_same, ⟨z, rfl, w2 _ _ upd_same⟩, trivial⟩ ?_ ?_
    · rintro i σ H2 hi ⟨s2, g, us, x3, rfl, hg0, hg2, hB⟩
      obtain ⟨h1, h2⟩ := nght_facts hn i
      have h13 : 13 ^ i ≤ 13 ^ 3 := Nat.pow_le_pow_right (by decide) (by omega)
      refine ⟨_, rfl, _, rfl, g, n, us, _, rfl, hg2, hB, by omega, Nat.le_trans h1 (Nat.le_trans h13 (by decide)), fun b hb => ?_, fun g2 us2 H3 hg3 s3 hg4 hB3 => ?_⟩
      · obtain ⟨e1, e2, _⟩ := h2 b hb
        exact ⟨by omega, by omega, fun x hx => by have := e2 x hx; omega⟩
      · exact ⟨s2.trans s3, g2, us2, _, rfl, s2.free hg3, hg4, hB3⟩
    · rintro σ H2 ⟨s2, g, us, x3, rfl, hg0, hg2, hB⟩
      exact ⟨_, rfl, q g us H2 hg0 s2 hg2 hB⟩
/-! ### the bases by their differences -/
def kRow (row : List Nat) : List Key := row.map fun x => .inl ((x : Nat) : Int)
theorem kRow_v (row : List Nat) : (kRow row).map kV = nats row := by
  unfold kRow
  rw [List.map_map]
  rfl
/-- each row of differences stands in the dict, with a base that has it -/
structure KvD (H : Hp) (n : Nat) (bs : List (List Nat)) (kvs : List (List Key × V)) : Prop where
  of : ∀ kv ∈ kvs, ∃ b ∈ bs, ∃ a : Addr, kv.1 = kRow (difL n [b]) ∧ kv.2 = .ref a ∧ H a = some (.lst (nats b))
  all : ∀ b ∈ bs, (valV kvs (kRow (difL n [b]))).isSome = true
  few : kvs.length ≤ bs.length
def spByD : Sp := fun vs H Q _ => ∃ (n k : Nat), vs = [.int ((n : Nat) : Int), .int ((k : Nat) : Int)] ∧ 1 ≤ n ∧ n ≤ 13 ∧ 1 ≤ k ∧ k ≤ 4 ∧ ∀ (d : Addr) (kvs : List (List Key × V)) (H' : Hp), H d = none → Same H H' → H' d = some (.dT kvs) → KvD H' n (nght n (k - 1)) kvs → Q (.ref d) H'
theorem scBasesByDifferences : FnScope ["n", "k", "bases", "base"] ["n", "k"] (defScope sBasesByDifferences) := ⟨rfl, rfl, rfl, by decide +kernel, rfl, by decide +kernel, by decide +kernel⟩
theorem ok_byD {f : Addr} {fd : FuncData} (F : Fun K "bases_by_differences" "bases_by_differences" sBasesByDifferences f fd) (T : TxtB mg) (pN : Pm P w K mg base CX0 2 "bases_with_nought" ["n", "k"] spNought) (pD : Pm P w K mg base CX0 5 "differences" ["n", "bases"] spDiff) : FnOk P w K mg base CX0 6 f fd ["n", "k"] spByD := by
  refine F.okQ scBasesByDifferences (fun vs H Q E h => ?_) (fun cdv A outer s H vs Q E hr5 h => ?_)
  · obtain ⟨n, k, rfl, _⟩ := h
    rfl
  · obtain ⟨n, k, rfl, hn1, hn, hk1, hk4, q⟩ := h
    have hr2 := hr5.mono (show 2 ≤ 5 by decide)
    have hu1 := Nat.lt_of_le_of_lt (Nat.add_le_add_left (show 1 ≤ 64 by decide) _) hr5.units
    refine ⟨_, (qss_cons (qs_set (i := 2) scBasesByDifferences.nd rfl (Or.inl rfl) qe_dnewT)
      (qss_cons (qs_for PassesOwn.never rfl (qi_list (qe_callP pN hr2 rfl pass0 (qac (qv 0) (qac (qv 1) qa_nil)))) (qg_name (i := 3) scBasesByDifferences.nd rfl (Or.inl rfl))
        (qss_one (qs_expr (qe_sdf hu1 (qv 2) (qac (qe_callTy call_tuple_of (by rfl) T.tup (by decide +kernel) (qac (qe_callP pD hr5 rfl pass0 (qac (qv 0) (qac (qe_lst (qac (qv 3) qa_nil)) qa_nil))) qa_nil)) (qac (qv 3) qa_nil))))))
      (qss_one (qs_ret (qv 2))))), ?_⟩
    intro d hd
    have w1 := same_new (o := .dT []) hd
    refine ⟨_, rfl, _, rfl, n, k, rfl, hn, hk1, hk4, fun g us H1 hg s1 hg1 hB => ?_⟩
    have hd1 : H1 d = some (.dT []) := s1 _ _ upd_same
    obtain ⟨hl13, hbf⟩ := nght_facts hn (k - 1)
    have h13 : 13 ^ (k - 1) ≤ 13 ^ 3 := Nat.pow_le_pow_right (by decide) (by omega)
    generalize nght n (k - 1) = bs at q hB hl13 hbf ⊢
    have hbl : bs.length ≤ 2197 := Nat.le_trans hl13 (Nat.le_trans h13 (by decide))
    refine ⟨g, rfl, ⟨_, SqL.of hg1⟩, for_list (K := K) (xs := us) (fun i σ H2 => Same H H2 ∧ ∃ (kvs : List (List Key × V)) (x3 : Option V), σ = [some (.int ((n : Nat) : Int)), some (.int ((k : Nat) : Int)), some (.ref d), x3] ∧ H2 g = some (.lst us) ∧ BlAt H2 us bs ∧ H2 d = some (.dT kvs) ∧ KvD H2 n (bs.take i) kvs) ⟨w1.trans s1, [], none, rfl, hg1, hB, hd1, ⟨nofun, by simp, by simp⟩⟩ (fun i σ H2 _ ⟨_, _, _, _, e, _⟩ => SqL.of e) ?_ ?_⟩
    · rintro i v σ H2 hi ⟨s2, kvs, x3, rfl, hg2, hB2, hd2, hK⟩
      obtain ⟨a, b, rfl, hb, ha⟩ := hB2.get hi
      obtain ⟨hbl2, hbx, hbp, _⟩ := hbf b (List.mem_of_getElem? hb)
      have hBlk : Blk n b := ⟨List.nodup_iff_pairwise_ne.mpr (hbp.imp fun z => Nat.ne_of_lt z), fun x hx => by have := hbx x hx; omega⟩
      refine ⟨_, rfl, ⟨d, kvs, rfl, hd2⟩, _, rfl, _, rfl, by show 1 ≤ sizeLine; decide, fun z hz => ?_⟩
      have v1 := same_new (o := .lst [V.ref a]) hz
      refine ⟨z, n, _, [b], rfl, upd_same, ⟨⟨a, rfl, v1 _ _ ha⟩, trivial⟩, hn1, by omega, by show n * 1 ≤ 200; omega, fun b' hb' => by rw [List.mem_singleton.mp hb']; exact hBlk, fun g2 H3 hg3 s3 hg4 => ?_⟩
      have v3 := v1.trans s3
      refine ⟨g2, _, rfl, .inl ⟨SqL.of hg4, fun t ht => ?_⟩⟩
      have v4 := v3.trans (same_new (o := .tup (nats (difL n [b]))) ht)
      have et : (upd H3 t (.tup (nats (difL n [b])))) t = some (.tup ((kRow (difL n [b])).map kV)) := by rw [upd_same, kRow_v]
      generalize upd H3 t (.tup (nats (difL n [b]))) = H4 at v4 et ⊢
      have hd4 := v4 _ _ hd2
      have hg5 := v4 _ _ hg2
      have ha4 := v4 _ _ ha
      have hB4 := hB2.same v4
      have hkl := hK.few
      have hil := (List.getElem?_eq_some_iff.mp hb).1
      have htl : (bs.take i).length ≤ 2197 := by rw [List.length_take]; omega
      have tk : bs.take (i + 1) = bs.take i ++ [b] := by rw [List.take_succ, hb]; rfl
      refine ⟨_, rfl, d, t, kvs, kRow (difL n [b]), .ref a, rfl, rfl, hd4, et, Nat.lt_of_le_of_lt (Nat.le_trans hkl htl) (by decide), fun v hv => ?_, fun hv => ?_⟩
      · refine ⟨s2.trans v4, kvs, _, rfl, hg5, hB4, hd4, ⟨fun kv hkv => ?_, fun b' hb' => ?_, ?_⟩⟩
        · obtain ⟨b', hb', a', e1, e2, e3⟩ := hK.of kv hkv
          exact ⟨b', by rw [tk]; exact List.mem_append_left _ hb', a', e1, e2, v4 _ _ e3⟩
        · rw [tk] at hb'
          rcases List.mem_append.mp hb' with z | z
          · exact hK.all b' z
          · rw [List.mem_singleton.mp z, hv]
            rfl
        · rw [tk, List.length_append]
          omega
      · have hput : putK kvs (kRow (difL n [b])) (.ref a) = kvs ++ [(kRow (difL n [b]), .ref a)] := by
          unfold putK
          rw [if_neg]
          rw [valV_any, hv]
          decide
        have hne : ∀ {x : Addr} {xs : List V}, H4 x = some (.lst xs) → x ≠ d := fun e z => by
          rw [z, hd4] at e
          cases e
        refine ⟨same_upd (s2.trans v4) hd, _, _, rfl, by rw [upd_ne (hne hg5)]; exact hg5, hB4.imp fun x xs _ e => by rw [upd_ne (hne e)]; exact e, upd_same, ?_⟩
        rw [hput]
        refine ⟨fun kv hkv => ?_, fun b' hb' => ?_, ?_⟩
        · rcases List.mem_append.mp hkv with z | z
          · obtain ⟨b', hb', a', e1, e2, e3⟩ := hK.of kv z
            have e4 := v4 _ _ e3
            exact ⟨b', by rw [tk]; exact List.mem_append_left _ hb', a', e1, e2, by rw [upd_ne (hne e4)]; exact e4⟩
          · rw [List.mem_singleton.mp z]
            exact ⟨b, by rw [tk]; simp, a, rfl, rfl, by rw [upd_ne (hne ha4)]; exact ha4⟩
        · rw [valV_snoc _ _ _ kvs hv]
          rw [tk] at hb'
          by_cases e : kRow (difL n [b']) = kRow (difL n [b])
          · rw [if_pos e]
            rfl
          · rw [if_neg e]
            rcases List.mem_append.mp hb' with z | z
            · exact hK.all b' z
            · rw [List.mem_singleton.mp z] at e
              exact absurd rfl e
        · rw [tk, List.length_append, List.length_append]
          exact Nat.succ_le_succ hkl
    · rintro σ H2 ⟨s2, kvs, x3, rfl, hg2, hB2, hd2, hK⟩
      rw [hB.len, List.take_length] at hK
      exact ⟨_, rfl, q d kvs H2 hd s2 hd2 hK⟩
/-! ### rows that add up -/
/-- the first choice of rows, in their order, each as often as it fits -/
def addF : Nat → List (List Nat) → List Nat → Option (List (List Nat))
  | 0, _, _ => some []
  | m + 1, rows, left => (List.range rows.length).findSome? fun i => if (fitL (rows.getD i []) left).all id then (addF m (rows.drop i) (subL (rows.getD i []) left)).map (rows.getD i [] :: ·) else none
def AddAt (H : Hp) (v : V) : Option (List (List Nat)) → Prop
  | none => v = .non
  | some rs => ∃ (r : Addr) (ws : List V), v = .ref r ∧ H r = some (.lst ws) ∧ TpAt H ws rs
def spAdd (ok : Nat → Prop) : Sp := fun vs H Q _ => ∃ (l lf : Addr) (ws : List V) (m : Nat) (rows : List (List Nat)) (left : List Nat), vs = [.ref l, .int ((m : Nat) : Int), .ref lf] ∧ H l = some (.lst ws) ∧ TpAt H ws rows ∧ H lf = some (.lst (nats left)) ∧ (∀ r ∈ rows, r.length = left.length) ∧ left.length ≤ 60 ∧ rows.length ≤ 10000 ∧ m ≤ 20 ∧ ok m ∧ ∀ v H', Same H H' → AddAt H' v (addF m rows left) → Q v H'
theorem find_take {α : Type} {f : Nat → Option α} {n : Nat} (h : ∀ i, i < n → f i = none) : (List.range n).findSome? f = none := by
  rw [List.findSome?_eq_none_iff]
  intro i hi
  exact h i (List.mem_range.mp hi)
theorem find_at {α : Type} {f : Nat → Option α} {n i : Nat} {y : α} (hi : i < n) (h : ∀ j, j < i → f j = none) (hy : f i = some y) : (List.range n).findSome? f = some y := by
  have e : List.range n = List.range i ++ (List.range' i (n - i)) := by
    rw [List.range_eq_range', List.range_eq_range', show n = i + (n - i) by omega, ← List.range'_append_1]
    simp
  rw [e, List.findSome?_append, find_take h]
  rw [show n - i = (n - i - 1) + 1 by omega, List.range'_succ]
  simp [hy]
theorem addF_len : ∀ {m : Nat} {rows : List (List Nat)} {left : List Nat} {rs : List (List Nat)}, addF m rows left = some rs → rs.length = m
  | 0, _, _, rs, h => by
    simp only [addF] at h
    cases h
    rfl
  | m + 1, rows, left, rs, h => by
    simp only [addF] at h
    obtain ⟨i, _, h⟩ := List.exists_of_findSome?_eq_some h
    split at h
    · obtain ⟨rs', e, rfl⟩ := Option.map_eq_some_iff.mp h
      rw [List.length_cons, addF_len e]
    · cases h
theorem tp_drop {H : Hp} : ∀ {vs : List V} {bs : List (List Nat)} (n : Nat), TpAt H vs bs → TpAt H (vs.drop n) (bs.drop n)
  | _, _, 0, h => h
  | [], [], _ + 1, _ => trivial
  | _ :: _, _ :: _, n + 1, ⟨_, t⟩ => tp_drop n t
  | [], _ :: _, _ + 1, h => h.elim
  | _ :: _, [], _ + 1, h => h.elim
theorem ejT {i j : Int} {A B : Prop} (h : i = j) (k : A) : if decide (V.int i = V.int j) = true then A else B := by
  rw [if_pos (by simp [h])]
  exact k
theorem ejF {i j : Int} {A B : Prop} (h : i ≠ j) (k : B) : if decide (V.int i = V.int j) = true then A else B := by
  rw [if_neg (by simp [h])]
  exact k
def addG (m : Nat) (rows : List (List Nat)) (left : List Nat) (i : Nat) : Option (List (List Nat)) := if (fitL (rows.getD i []) left).all id then (addF m (rows.drop i) (subL (rows.getD i []) left)).map (rows.getD i [] :: ·) else none
theorem addF_succ (m : Nat) (rows : List (List Nat)) (left : List Nat) : addF (m + 1) rows left = (List.range rows.length).findSome? (addG m rows left) := rfl
theorem scRowsAddingUp : FnScope ["rows", "many", "left", "place", "row", "further"] ["rows", "many", "left"] (defScope sRowsAddingUp) := ⟨rfl, rfl, rfl, by decide +kernel, rfl, by decide +kernel, by decide +kernel⟩
theorem ok_add_step {kk j : Nat} (hk : 1 ≤ kk) {f : Addr} {fd : FuncData} (F : Fun K "rows_adding_up" "rows_adding_up" sRowsAddingUp f fd) (T : TxtB mg) (pFits : Pm P w K mg base CX0 1 "fits" ["row", "left"] spFits) (pWithout : Pm P w K mg base CX0 1 "without" ["left", "row"] spWithout) (pS : Pm P w K mg base CX0 kk "rows_adding_up" ["rows", "many", "left"] (spAdd fun m => m < j)) : FnOk P w K mg base CX0 (kk + 1) f fd ["rows", "many", "left"] (spAdd fun m => m < j + 1) := by
  refine F.okQ scRowsAddingUp (fun vs H Q E h => ?_) (fun cdv A outer s H vs Q E hr h => ?_)
  · obtain ⟨l, lf, ws, m, rows, left, rfl, _⟩ := h
    rfl
  · obtain ⟨l, lf, ws, m, rows, left, rfl, hl, hT, hlf, hrl, h60, hrows, hm20, hmj, q⟩ := h
    have hr1 := hr.mono hk
    refine ⟨_, (qss_cons (qs_if (qt_cmpR op_eq (qv 1) qe_int (nomark _)) (qss_one (qs_ret (qe_lst qa_nil))) qss_nil)
      (qss_cons (qs_for PassesOwn.never rfl (qi_enum rfl T.enu (qac (qv 0) qa_nil)) (qg_tup rfl (qgs_cons (qg_name (i := 3) scRowsAddingUp.nd rfl (Or.inl rfl)) (qgs_cons (qg_name (i := 4) scRowsAddingUp.nd rfl (Or.inl rfl)) qgs_nil)))
        (qss_one (qs_if (qt_val (qe_callP pFits hr1 rfl pass0 (qac (qv 4) (qac (qv 2) qa_nil)))) (qss_cons (qs_set (i := 5) scRowsAddingUp.nd rfl (Or.inl rfl) (qe_callP pS hr rfl pass0 (qac (qe_slice sl_list (qv 0) (qo_some (qv 3)) qo_none) (qac (qe_op op_sub (qv 1) qe_int) (qac (qe_callP pWithout hr1 rfl pass0 (qac (qv 2) (qac (qv 4) qa_nil))) qa_nil)))))
          (qss_one (qs_if (qt_cmpR op_notN (qv 5) qe_non (nomark _)) (qss_one (qs_ret (qe_op op_cat (qe_lst (qac (qv 4) qa_nil)) (qv 5)))) qss_nil))) qss_nil)))
      (qss_one (qs_ret qe_non)))), ?_⟩
    refine ⟨_, rfl, rfl, _, rfl, ?_⟩
    dsimp only
    cases m with
    | zero => exact ejT rfl ⟨by show 0 ≤ sizeLine; decide, fun r hr' => q (.ref r) _ (same_new hr') ⟨r, [], rfl, upd_same, trivial⟩⟩
    | succ m =>
      refine ejF (by omega) ?_
      have hwl := hT.len
      refine ⟨_, rfl, l, rfl, ⟨_, SqL.of hl⟩, for_enum (K := K) (a := l) (xs := ws) (fun i σ H2 => Same H H2 ∧ (∃ x3 x4 x5 : Option V, σ = [some (.ref l), some (.int ((m + 1 : Nat) : Int)), some (.ref lf), x3, x4, x5]) ∧ ∀ i', i' < i → addG m rows left i' = none) ⟨Same.refl _, ⟨none, none, none, rfl⟩, fun i' h => by omega⟩ (fun i σ H2 _ ⟨s2, _⟩ => SqL.of (s2 _ _ hl)) ?_ ?_⟩
      · rintro i x t σ H2 hi ⟨s2, ⟨x3, x4, x5, rfl⟩, hno⟩ ht
        obtain ⟨a, row, rfl, hrow, ha⟩ := (hT.sm s2).get hi
        have hil := (List.getElem?_eq_some_iff.mp hrow).1
        have hgd : rows.getD i [] = row := by rw [List.getD_eq_getElem?_getD, hrow]; rfl
        have hlen := hrl row (List.mem_of_getElem? hrow)
        have v1 := same_new (o := .tup [.int ((i : Nat) : Int), .ref a]) ht
        refine ⟨t, _, rfl, SqT.of upd_same, rfl, _, _, rfl, _, _, rfl, rfl, ?_⟩
        generalize upd H2 t (.tup [.int ((i : Nat) : Int), .ref a]) = H3 at v1 ⊢
        have s3 := s2.trans v1
        refine ⟨_, rfl, _, rfl, a, lf, row, left, rfl, v1 _ _ ha, s3 _ _ hlf, hlen, by omega, fun H4 v4 => ⟨_, rfl, ?_⟩⟩
        have s4 := s3.trans v4
        have ha4 := (v1.trans v4) _ _ ha
        cases hfit : (fitL row left).all id with
        | false =>
          refine iteF ⟨s4, ⟨_, _, _, rfl⟩, fun i' h => ?_⟩
          by_cases e : i' = i
          · subst e
            unfold addG
            rw [hgd, hfit]
            rfl
          · exact hno i' (by omega)
        | true =>
          refine iteT ?_
          have hcut : cutV ws (some ((i : Nat) : Int)) none = ws.drop i := cut_from (by omega)
          refine ⟨_, rfl, _, rfl, _, rfl, l, _, rfl, SqL.of (s4 _ _ hl), fun l2 hl2 => ?_⟩
          rw [hcut]
          have v5 := same_new (o := .lst (ws.drop i)) hl2
          have e5 : (upd H4 l2 (.lst (ws.drop i))) l2 = some (.lst (ws.drop i)) := upd_same
          generalize upd H4 l2 (.lst (ws.drop i)) = H5 at v5 e5 ⊢
          have s5 := s4.trans v5
          refine ⟨_, rfl, _, _, rfl, rfl, _, rfl, _, rfl, a, lf, row, left, rfl, v5 _ _ ha4, s5 _ _ hlf, hlen, by omega, hfit, fun l3 H6 hl3 v6 hl6 => ?_⟩
          have s6 := s5.trans v6
          have hsub : (subL row left).length = left.length := by unfold subL; rw [List.length_zipWith]; omega
          refine ⟨l2, l3, _, m, rows.drop i, subL row left, ?_, v6 _ _ e5, tp_drop i (hT.sm s6), hl6, fun r hr' => by rw [hsub]; exact hrl r (List.mem_of_mem_drop hr'), by omega, by rw [List.length_drop]; omega, by omega, by omega, fun v H7 v7 hv => ?_⟩
          · show [V.ref l2, V.int (((m + 1 : Nat) : Int) - 1), V.ref l3] = _
            rw [show ((m + 1 : Nat) : Int) - 1 = ((m : Nat) : Int) by omega]
          have s7 := s6.trans v7
          have ha7 := (v5.trans (v6.trans v7)) _ _ ha4
          have hg : addG m rows left i = (addF m (rows.drop i) (subL row left)).map (row :: ·) := by
            unfold addG
            rw [hgd, hfit]
            rfl
          cases hA : addF m (rows.drop i) (subL row left) with
          | none =>
            rw [hA] at hv hg
            have : v = .non := hv
            subst this
            refine ⟨_, rfl, rfl, _, rfl, iteF ⟨s7, ⟨_, _, _, rfl⟩, fun i' h => ?_⟩⟩
            by_cases e : i' = i
            · rw [e, hg]
              rfl
            · exact hno i' (by omega)
          | some rs =>
            rw [hA] at hv hg
            obtain ⟨r2, ws2, rfl, hr2, hT2⟩ := hv
            have hrs := addF_len hA
            refine ⟨_, rfl, rfl, _, rfl, iteT ⟨_, rfl, by show 1 ≤ sizeLine; decide, fun r1 hr1' => ?_⟩⟩
            have v8 := same_new (o := .lst [V.ref a]) hr1'
            refine ⟨_, rfl, r1, r2, _, _, rfl, rfl, upd_same, v8 _ _ hr2, ?_, fun r3 hr3 => ?_⟩
            · rw [hT2.len, hrs]
              exact Nat.le_trans (show 1 + m ≤ 21 by omega) (by decide)
            · have v9 := v8.trans (same_new (o := .lst ([V.ref a] ++ ws2)) hr3)
              refine q (.ref r3) _ (s7.trans v9) ?_
              rw [addF_succ, find_at hil hno hg]
              exact ⟨r3, _, rfl, upd_same, ⟨a, rfl, v9 _ _ ha7⟩, hT2.sm v9⟩
      · rintro σ H2 ⟨s2, ⟨x3, x4, x5, rfl⟩, hno⟩
        refine q .non _ s2 ?_
        rw [addF_succ, find_take fun i' h => hno i' (by omega)]
        rfl
theorem ok_add {f : Addr} {fd : FuncData} (F : Fun K "rows_adding_up" "rows_adding_up" sRowsAddingUp f fd) (T : TxtB mg) (mS : mg "rows_adding_up" = some (.ref f)) (bS : Binds K fd ["rows", "many", "left"] []) (pFits : Pm P w K mg base CX0 1 "fits" ["row", "left"] spFits) (pWithout : Pm P w K mg base CX0 1 "without" ["left", "row"] spWithout) : ∀ j, FnOk P w K mg base CX0 (j + 2) f fd ["rows", "many", "left"] (spAdd fun m => m < j + 1)
  | 0 => ok_add_step (kk := 1) (j := 0) (Nat.le_refl _) F T pFits pWithout ⟨f, fd, mS, F.kp, bS, FnOk.never.imp fun vs H Q E h => by
      obtain ⟨_, _, _, _, _, _, _, _, _, _, _, _, _, _, h, _⟩ := h
      exact absurd h (Nat.not_lt_zero _)⟩
  | j + 1 => ok_add_step (kk := j + 2) (j := j + 1) (by omega) F T pFits pWithout ⟨f, fd, mS, F.kp, bS, ok_add F T mS bS pFits pWithout j⟩
/-! ### what rows add up: completeness -/
/-- the numbers of rows, added at a place -/
def tot (rs : List (List Nat)) (d : Nat) : Nat := (rs.map fun r => r.getD d 0).sum
theorem fit_iff {row left : List Nat} (h : row.length = left.length) : (fitL row left).all id = true ↔ ∀ d, row.getD d 0 ≤ left.getD d 0 := by
  unfold fitL
  rw [List.all_eq_true]
  constructor
  · intro hh d
    by_cases hd : d < row.length
    · have h1 : (List.zipWith (fun c m => decide (c ≤ m)) row left)[d]? = some (decide (row[d] ≤ left[d])) := by
        rw [List.getElem?_zipWith, List.getElem?_eq_getElem hd, List.getElem?_eq_getElem (show d < left.length by omega)]
      have h2 := of_decide_eq_true (hh _ (List.mem_of_getElem? h1))
      rw [List.getD_eq_getElem?_getD, List.getD_eq_getElem?_getD, List.getElem?_eq_getElem hd, List.getElem?_eq_getElem (show d < left.length by omega)]
      exact h2
    · rw [List.getD_eq_getElem?_getD, List.getElem?_eq_none (by omega)]
      exact Nat.zero_le _
  · intro hh b hb
    obtain ⟨d, hd⟩ := List.getElem?_of_mem hb
    rw [List.getElem?_zipWith] at hd
    cases hx : row[d]? with
    | none => rw [hx] at hd; cases hd
    | some x =>
      cases hy : left[d]? with
      | none => rw [hx, hy] at hd; cases hd
      | some y =>
        rw [hx, hy] at hd
        cases hd
        have := hh d
        rw [List.getD_eq_getElem?_getD, List.getD_eq_getElem?_getD, hx, hy] at this
        exact decide_eq_true this
theorem sub_at {row left : List Nat} (h : row.length = left.length) (d : Nat) : (subL row left).getD d 0 = left.getD d 0 - row.getD d 0 := by
  unfold subL
  rw [List.getD_eq_getElem?_getD, List.getElem?_zipWith, List.getD_eq_getElem?_getD, List.getD_eq_getElem?_getD]
  by_cases hd : d < row.length
  · rw [List.getElem?_eq_getElem hd, List.getElem?_eq_getElem (show d < left.length by omega)]
    rfl
  · rw [List.getElem?_eq_none (show row.length ≤ d by omega), List.getElem?_eq_none (show left.length ≤ d by omega)]
    rfl
theorem sum_perm : ∀ {a b : List Nat}, a.Perm b → a.sum = b.sum := fun h => by
  induction h with
  | nil => rfl
  | cons x _ ih => simp [ih]
  | swap x y l => simp; omega
  | trans _ _ h1 h2 => exact h1.trans h2
theorem tot_erase {rs : List (List Nat)} {r : List Nat} (h : r ∈ rs) (d : Nat) : tot rs d = r.getD d 0 + tot (rs.erase r) d := by
  unfold tot
  rw [sum_perm ((List.perm_cons_erase h).map _)]
  rfl
theorem add_complete : ∀ {m : Nat} {rows rs : List (List Nat)} {left : List Nat}, (∀ r ∈ rows, r.length = left.length) → rs.length = m → (∀ r ∈ rs, r ∈ rows) → (∀ d, tot rs d ≤ left.getD d 0) → (addF m rows left).isSome = true
  | 0, _, _, _, _, _, _, _ => rfl
  | m + 1, rows, rs, left, hl, hm, hin, ht => by
    rw [addF_succ]
    obtain ⟨r0, hr0⟩ : ∃ r, r ∈ rs := by
      cases rs with
      | nil => simp at hm
      | cons r rs => exact ⟨r, List.mem_cons_self ..⟩
    let i := rows.findIdx fun r => decide (r ∈ rs)
    have hi : i < rows.length := List.findIdx_lt_length_of_exists ⟨r0, hin r0 hr0, decide_eq_true hr0⟩
    have hir : rows[i] ∈ rs := of_decide_eq_true (List.findIdx_getElem (p := fun r => decide (r ∈ rs)) (w := hi))
    have hgd : rows.getD i [] = rows[i] := by rw [List.getD_eq_getElem?_getD, List.getElem?_eq_getElem hi]; rfl
    have hlen := hl _ (List.getElem_mem hi)
    have hdrop : ∀ r ∈ rs, r ∈ rows.drop i := fun r hr => by
      obtain ⟨j, hj, e⟩ := List.getElem_of_mem (hin r hr)
      have hij : i ≤ j := by
        by_cases z : i ≤ j
        · exact z
        · have := List.not_of_lt_findIdx (p := fun r => decide (r ∈ rs)) (show j < rows.findIdx _ by show j < i; omega)
          rw [e] at this
          exact absurd hr (of_decide_eq_false this)
      rw [← e]
      refine List.mem_drop_iff_getElem.mpr ⟨j - i, by omega, ?_⟩
      congr 1
      omega
    have hfit : (fitL rows[i] left).all id = true := (fit_iff hlen).mpr fun d => by
      have h1 := ht d
      rw [tot_erase hir] at h1
      omega
    have ih := add_complete (m := m) (rows := rows.drop i) (rs := rs.erase rows[i]) (left := subL rows[i] left)
      (fun r hr => by
        have e1 : (subL rows[i] left).length = left.length := by unfold subL; rw [List.length_zipWith]; omega
        rw [e1]
        exact hl r (List.mem_of_mem_drop hr))
      (by rw [List.length_erase_of_mem hir]; omega) (fun r hr => hdrop r (List.mem_of_mem_erase hr)) (fun d => by
        rw [sub_at hlen]
        have h1 := ht d
        rw [tot_erase hir] at h1
        omega)
    have hg : (addG m rows left i).isSome = true := by
      unfold addG
      rw [hgd, hfit, if_pos rfl, Option.isSome_map]
      exact ih
    cases hf : (List.range rows.length).findSome? (addG m rows left) with
    | some y => rfl
    | none =>
      rw [List.findSome?_eq_none_iff] at hf
      rw [hf i (List.mem_range.mpr hi)] at hg
      cases hg
theorem add_sound : ∀ {m : Nat} {rows : List (List Nat)} {left : List Nat} {rs : List (List Nat)}, (∀ r ∈ rows, r.length = left.length) → addF m rows left = some rs → (∀ r ∈ rs, r ∈ rows) ∧ ∀ d, tot rs d ≤ left.getD d 0
  | 0, _, _, rs, _, h => by
    simp only [addF] at h
    cases h
    exact ⟨nofun, fun d => Nat.zero_le _⟩
  | m + 1, rows, left, rs, hl, h => by
    rw [addF_succ] at h
    obtain ⟨i, hi, h⟩ := List.exists_of_findSome?_eq_some h
    rw [List.mem_range] at hi
    have hgd : rows.getD i [] = rows[i] := by rw [List.getD_eq_getElem?_getD, List.getElem?_eq_getElem hi]; rfl
    unfold addG at h
    rw [hgd] at h
    split at h
    · rename_i hfit
      obtain ⟨rs', e, rfl⟩ := Option.map_eq_some_iff.mp h
      have hlen := hl _ (List.getElem_mem hi)
      have e1 : (subL rows[i] left).length = left.length := by unfold subL; rw [List.length_zipWith]; omega
      obtain ⟨g1, g2⟩ := add_sound (fun r hr => by rw [e1]; exact hl r (List.mem_of_mem_drop hr)) e
      refine ⟨fun r hr => ?_, fun d => ?_⟩
      · rcases List.mem_cons.mp hr with rfl | hr
        · exact List.getElem_mem hi
        · exact List.mem_of_mem_drop (g1 r hr)
      · have h1 := g2 d
        have h2 := (fit_iff hlen).mp hfit d
        rw [sub_at hlen] at h1
        show rows[i].getD d 0 + tot rs' d ≤ _
        omega
    · cases h
/-! ### bases for -/
theorem kRow_inj {a b : List Nat} (h : kRow a = kRow b) : a = b := by
  unfold kRow at h
  induction a generalizing b with
  | nil =>
    cases b with
    | nil => rfl
    | cons y b => cases h
  | cons x a ih =>
    cases b with
    | nil => cases h
    | cons y b =>
      rw [List.map_cons, List.map_cons] at h
      injection h with h1 h2
      injection h1 with h1
      rw [ih h2, show x = y by omega]
theorem KvD.rows {H : Hp} {n : Nat} {bs : List (List Nat)} {kvs : List (List Key × V)} (h : KvD H n bs kvs) : ∃ rows : List (List Nat), kvs.map (·.1) = rows.map kRow ∧ (∀ r ∈ rows, ∃ b ∈ bs, r = difL n [b]) ∧ ∀ b ∈ bs, difL n [b] ∈ rows := by
  have key : ∀ kvs : List (List Key × V), (∀ kv ∈ kvs, ∃ b ∈ bs, ∃ a : Addr, kv.1 = kRow (difL n [b]) ∧ kv.2 = .ref a ∧ H a = some (.lst (nats b))) → ∃ rows : List (List Nat), kvs.map (·.1) = rows.map kRow ∧ ∀ r ∈ rows, ∃ b ∈ bs, r = difL n [b] := by
    intro kvs
    induction kvs with
    | nil => exact fun _ => ⟨[], rfl, nofun⟩
    | cons kv kvs ih =>
      intro hh
      obtain ⟨rows, e, hr⟩ := ih fun kv' hk => hh kv' (List.mem_cons_of_mem _ hk)
      obtain ⟨b, hb, a, e1, _⟩ := hh kv (List.mem_cons_self ..)
      refine ⟨difL n [b] :: rows, by rw [List.map_cons, List.map_cons, e, e1], fun r hr' => ?_⟩
      rcases List.mem_cons.mp hr' with rfl | z
      · exact ⟨b, hb, rfl⟩
      · exact hr r z
  obtain ⟨rows, e, hr⟩ := key kvs h.of
  refine ⟨rows, e, hr, fun b hb => ?_⟩
  have h1 := h.all b hb
  rw [← valV_any, List.any_eq_true] at h1
  obtain ⟨kv, hk, e1⟩ := h1
  have h2 : kRow (difL n [b]) ∈ rows.map kRow := by
    rw [← e, ← of_decide_eq_true e1]
    exact List.mem_map_of_mem hk
  obtain ⟨r, hr', e2⟩ := List.mem_map.mp h2
  rw [← kRow_inj e2]
  exact hr'
theorem tk_tp {H : Hp} : ∀ {ws : List V} {rows : List (List Nat)}, TkAt H ws (rows.map kRow) → TpAt H ws rows
  | [], [], _ => trivial
  | v :: ws, r :: rows, ⟨⟨b, e, h⟩, t⟩ => ⟨⟨b, e, by rw [← kRow_v]; exact h⟩, tk_tp t⟩
theorem KvD.at {H : Hp} {n : Nat} {bs : List (List Nat)} {kvs : List (List Key × V)} (h : KvD H n bs kvs) {b : List Nat} (hb : b ∈ bs) : ∃ b' ∈ bs, ∃ a : Addr, valV kvs (kRow (difL n [b])) = some (.ref a) ∧ difL n [b'] = difL n [b] ∧ H a = some (.lst (nats b')) := by
  obtain ⟨v, hv⟩ := Option.isSome_iff_exists.mp (h.all b hb)
  have hv' := hv
  unfold valV at hv'
  obtain ⟨kv, hf, rfl⟩ := Option.map_eq_some_iff.mp hv'
  have h1 := List.mem_of_find?_eq_some hf
  have h2 : kv.1 = kRow (difL n [b]) := of_decide_eq_true (List.find?_some (p := fun kv : List Key × V => decide (kv.1 = kRow (difL n [b]))) hf)
  obtain ⟨b', hb', a, e1, e2, e3⟩ := h.of kv h1
  exact ⟨b', hb', a, by rw [hv, e2], kRow_inj (e1.symm.trans h2), e3⟩
theorem dif_lenQ (n : Nat) (bs : List (List Nat)) : (difL n bs).length = n - 1 := by unfold difL; rw [List.length_map, List.length_range]
/-- what bases_for tells -/
def ForAt (H : Hp) (t : Addr) (n k l : Nat) : Prop :=
  (H t = some (.tup [.str "none"]) ∧ (l * (n - 1) % (k * (k - 1)) ≠ 0 ∨ l * (n - 1) % (k * (k - 1)) = 0 ∧ ∀ rs : List (List Nat), rs.length = l * (n - 1) / (k * (k - 1)) → (∀ r ∈ rs, ∃ b ∈ nght n (k - 1), r = difL n [b]) → ¬ ∀ d, tot rs d ≤ (List.replicate (n - 1) l).getD d 0)) ∨
  ∃ (g : Addr) (ws : List V) (bs : List (List Nat)), H t = some (.tup [.str "bases", .ref g]) ∧ H g = some (.lst ws) ∧ BlAt H ws bs ∧ ws.Nodup ∧ V.ref g ∉ ws ∧ (∀ b ∈ bs, b ∈ nght n (k - 1)) ∧ l * (n - 1) % (k * (k - 1)) = 0 ∧ bs.length = l * (n - 1) / (k * (k - 1)) ∧ ∀ d, tot (bs.map fun b => difL n [b]) d ≤ (List.replicate (n - 1) l).getD d 0
def spFor : Sp := fun vs H Q _ => ∃ (n k l : Nat), vs = [.int ((n : Nat) : Int), .int ((k : Nat) : Int), .int ((l : Nat) : Int)] ∧ 2 ≤ n ∧ n ≤ 13 ∧ 2 ≤ k ∧ k ≤ 4 ∧ l ≤ 40 ∧ (l * (n - 1) % (k * (k - 1)) = 0 → l * (n - 1) / (k * (k - 1)) ≤ 3) ∧ ∀ t H', Same H H' → ForAt H' t n k l → Q (.ref t) H'
theorem scBasesFor : FnScope ["n", "k", "l", "wanted", "each", "bases", "rows"] ["n", "k", "l"] (defScope sBasesFor) := ⟨rfl, rfl, rfl, by decide +kernel, rfl, by decide +kernel, by decide +kernel⟩
theorem flat_rep (l : Nat) : ∀ m : Nat, (List.replicate m [V.int ((l : Nat) : Int)]).flatten = nats (List.replicate m l)
  | 0 => rfl
  | m + 1 => by
    rw [List.replicate_succ, List.flatten_cons, flat_rep l m]
    rfl
theorem enF {i j : Int} {A B : Prop} (h : i = j) (k : B) : if (!decide (V.int i = V.int j)) = true then A else B := by
  rw [if_neg (by simp [h])]
  exact k
theorem enT {i j : Int} {A B : Prop} (h : i ≠ j) (k : A) : if (!decide (V.int i = V.int j)) = true then A else B := by
  rw [if_pos (by simp [h])]
  exact k
theorem ok_for {f : Addr} {fd : FuncData} (F : Fun K "bases_for" "bases_for" sBasesFor f fd) (T : TxtB mg) (pB : Pm P w K mg base CX0 6 "bases_by_differences" ["n", "k"] spByD) (pA : Pm P w K mg base CX0 5 "rows_adding_up" ["rows", "many", "left"] (spAdd fun m => m < 4)) : FnOk P w K mg base CX0 7 f fd ["n", "k", "l"] spFor := by
  refine F.okQ scBasesFor (fun vs H Q E h => ?_) (fun cdv A outer s H vs Q E hr6 h => ?_)
  · obtain ⟨n, k, l, rfl, _⟩ := h
    rfl
  · obtain ⟨n, k, l, rfl, hn2, hn, hk2, hk4, hl, hm3, q⟩ := h
    have hr5 := hr6.mono (show 5 ≤ 6 by decide)
    have hu1 := Nat.lt_of_le_of_lt (Nat.add_le_add_left (show 1 ≤ 64 by decide) _) hr6.units
    refine ⟨_, (qss_cons (qs_set (i := 3) scBasesFor.nd rfl (Or.inl rfl) (qe_op op_mul (qv 2) (qe_op op_sub (qv 0) qe_int)))
      (qss_cons (qs_set (i := 4) scBasesFor.nd rfl (Or.inl rfl) (qe_op op_mul (qv 1) (qe_op op_sub (qv 1) qe_int)))
      (qss_cons (qs_if (qt_cmpR op_ne (qe_op op_mod (qv 3) (qv 4)) qe_int (nomark _)) (qss_one (qs_ret (qe_tup (qac qe_str qa_nil)))) qss_nil)
      (qss_cons (qs_set (i := 5) scBasesFor.nd rfl (Or.inr rfl) (qe_callP pB hr6 rfl pass0 (qac (qv 0) (qac (qv 1) qa_nil))))
      (qss_cons (qs_set (i := 6) scBasesFor.nd rfl (Or.inl rfl) (qe_callP pA hr5 rfl pass0 (qac (qe_callTy (call_listD rfl) (by rfl) T.lst (by decide +kernel) (qac (qv 5) qa_nil)) (qac (qe_op op_fdiv (qv 3) (qv 4)) (qac (qe_op op_mulL (qe_lst (qac (qv 2) qa_nil)) (qe_op op_sub (qv 0) qe_int)) qa_nil)))))
      (qss_cons (qs_if (qt_cmpR op_isN (qv 6) qe_non (nomark _)) (qss_one (qs_ret (qe_tup (qac qe_str qa_nil)))) qss_nil)
      (qss_one (qs_ret (qe_tup (qac qe_str (qac (qe_comp (g := gName 0) (N := ["row", "bases"]) (src := [none, some 5]) rfl (comp_scope (defScope sBasesFor) ["n", "k", "l", "wanted", "each", "bases", "rows"] rfl rfl (by decide +kernel) rfl) (qi_list (qv 6)) (fun _ _ _ _ _ => (qg_name (i := 0) (show (["row", "bases"] : List Str).Nodup by decide +kernel) rfl (Or.inl rfl) (Or.inr rfl))) (fun _ _ _ _ _ => qif_nil) (fun _ _ _ _ _ => (qe_callTy (show CallR _ _ (rListOf K) from call_list_of) (by rfl) T.lst (by decide +kernel) (qac (qe_dget hu1 (qv 1) (qv 0) (fun _ _ => rfl)) qa_nil)))) qa_nil))))))))))), ?_⟩
    have eW : ((l : Nat) : Int) * (((n : Nat) : Int) - 1) = ((l * (n - 1) : Nat) : Int) := by
      rw [show ((n : Nat) : Int) - 1 = ((n - 1 : Nat) : Int) by omega, Int.natCast_mul]
    have eE : ((k : Nat) : Int) * (((k : Nat) : Int) - 1) = ((k * (k - 1) : Nat) : Int) := by
      rw [show ((k : Nat) : Int) - 1 = ((k - 1 : Nat) : Int) by omega, Int.natCast_mul]
    have hE0 : 2 ≤ k * (k - 1) := Nat.le_trans (show 2 ≤ 2 * 1 by decide) (Nat.mul_le_mul hk2 (show 1 ≤ k - 1 by omega))
    have hE12 : k * (k - 1) ≤ 12 := Nat.mul_le_mul hk4 (show k - 1 ≤ 3 by omega)
    have hW : l * (n - 1) ≤ 480 := Nat.mul_le_mul hl (show n - 1 ≤ 12 by omega)
    refine ⟨_, rfl, _, rfl, _, _, rfl, rfl, _, _, rfl, rfl, .inl ⟨by omega, by omega⟩, ?_⟩
    refine ⟨_, rfl, _, rfl, _, _, rfl, rfl, _, _, rfl, rfl, .inl ⟨by omega, by omega⟩, ?_⟩
    dsimp only [gName]
    rw [eW, eE]
    refine ⟨_, rfl, _, rfl, _, _, rfl, rfl, by show (0 : Int) < _; omega, rfl, _, rfl, ?_⟩
    dsimp only
    by_cases h0 : l * (n - 1) % (k * (k - 1)) = 0
    · refine enF (by rw [← Int.natCast_emod, h0]; rfl) ?_
      have hm := hm3 h0
      refine ⟨_, rfl, _, rfl, n, k, rfl, by omega, hn, by omega, hk4, fun d kvs H1 hd0 s1 hd1 hK => ?_⟩
      obtain ⟨hl13, hbf⟩ := nght_facts hn (k - 1)
      have h13 : 13 ^ (k - 1) ≤ 13 ^ 3 := Nat.pow_le_pow_right (by decide) (by omega)
      have hkl : kvs.length ≤ 2197 := Nat.le_trans hK.few (Nat.le_trans hl13 (Nat.le_trans h13 (by decide)))
      obtain ⟨rows, er, hr1, hr2⟩ := hK.rows
      have hrl : rows.length = kvs.length := by rw [← List.length_map (f := kRow), ← er, List.length_map]
      refine ⟨_, rfl, d, kvs, rfl, hd1, by omega, fun a ws ha hT => ?_⟩
      rw [er] at hT
      have hTp := tk_tp hT
      have v1 := same_new (o := .lst ws) ha
      have e1 : (upd H1 a (.lst ws)) a = some (.lst ws) := upd_same
      generalize upd H1 a (.lst ws) = H2 at v1 e1 ⊢
      refine ⟨_, rfl, _, rfl, _, _, rfl, rfl, ⟨by omega, by omega⟩, ?_⟩
      refine ⟨_, rfl, by show 1 ≤ sizeLine; decide, fun z hz => ?_⟩
      have v2 := same_new (o := .lst [V.int ((l : Nat) : Int)]) hz
      refine ⟨_, rfl, _, _, rfl, rfl, z, _, _, rfl, rfl, SqL.of upd_same, by omega, by omega, by show 1 * _ ≤ 65536; omega, fun y hy => ?_⟩
      have el : (List.replicate (((n : Nat) : Int) - 1).toNat [V.int ((l : Nat) : Int)]).flatten = nats (List.replicate (n - 1) l) := by
        rw [show (((n : Nat) : Int) - 1).toNat = n - 1 by omega, flat_rep]
      have ey : (upd (upd H2 z (.lst [V.int ((l : Nat) : Int)])) y (.lst (List.replicate (((n : Nat) : Int) - 1).toNat [V.int ((l : Nat) : Int)]).flatten)) y = some (.lst (nats (List.replicate (n - 1) l))) := by rw [upd_same, el]
      have v3 := v2.trans (same_new (o := .lst (List.replicate (((n : Nat) : Int) - 1).toNat [V.int ((l : Nat) : Int)]).flatten) hy)
      generalize upd (upd H2 z (.lst [V.int ((l : Nat) : Int)])) y (.lst (List.replicate (((n : Nat) : Int) - 1).toNat [V.int ((l : Nat) : Int)]).flatten) = H3 at ey v3 ⊢
      have s13 := v1.trans v3
      have hrlen : ∀ r ∈ rows, r.length = (List.replicate (n - 1) l).length := fun r hr => by
        obtain ⟨b, _, rfl⟩ := hr1 r hr
        rw [dif_lenQ, List.length_replicate]
      refine ⟨a, y, ws, l * (n - 1) / (k * (k - 1)), rows, List.replicate (n - 1) l, ?_, v3 _ _ e1, hTp.sm s13, ey, hrlen, by rw [List.length_replicate]; omega, by omega, by omega, by omega, fun v H4 v4 hv => ?_⟩
      · show [V.ref a, V.int (((l * (n - 1) : Nat) : Int) / ((k * (k - 1) : Nat) : Int)), V.ref y] = _
        rw [← Int.natCast_ediv]
      have s14 := s13.trans v4
      have hd4 := s14 _ _ hd1
      cases hA : addF (l * (n - 1) / (k * (k - 1))) rows (List.replicate (n - 1) l) with
      | none =>
        rw [hA] at hv
        have : v = .non := hv
        subst this
        refine ⟨_, rfl, rfl, _, rfl, iteT ⟨by show 1 ≤ sizeLine; decide, fun t ht => q t _ (s1.trans (s14.trans (same_new ht))) (.inl ⟨upd_same, .inr ⟨h0, fun rs hrs hin hall => ?_⟩⟩)⟩⟩
        have := add_complete hrlen hrs (fun r hr => by
          obtain ⟨b, hb, rfl⟩ := hin r hr
          exact hr2 b hb) hall
        rw [hA] at this
        cases this
      | some rs =>
        rw [hA] at hv
        obtain ⟨g, ws2, rfl, hg, hT2⟩ := hv
        obtain ⟨hin, htot⟩ := add_sound hrlen hA
        have hlen := addF_len hA
        refine ⟨_, rfl, rfl, _, rfl, iteF ?_⟩
        refine ⟨_, rfl, g, rfl, ⟨_, SqL.of hg⟩, comp_list (K := K) (xs := ws2) (fun i zs H5 => Same H4 H5 ∧ zs.Nodup ∧ (∀ v ∈ zs, ∃ x : Addr, v = .ref x ∧ H4 x = none ∧ H5 x ≠ none) ∧ ∃ bs : List (List Nat), BlAt H5 zs bs ∧ (bs.map fun b => difL n [b]) = rs.take i ∧ ∀ b ∈ bs, b ∈ nght n (k - 1)) ⟨Same.refl _, by simp, nofun, [], trivial, rfl, nofun⟩ (fun i zs H5 _ ⟨e, _⟩ => SqL.of (e _ _ hg)) ?_ ?_⟩
        · rintro i v zs H5 N hi ⟨s5, hnd, hfr, bs, hB, hbs, hbn⟩ nx
          obtain ⟨tt, r, rfl, hri, htt⟩ := (hT2.sm s5).get hi
          obtain ⟨b, hb, hrb⟩ := hr1 r (hin r (List.mem_of_getElem? hri))
          obtain ⟨b', hb', a', hval, hdif, ha'⟩ := hK.at hb
          have hzl : zs.length ≤ 3 := by
            have h1 : bs.length = (rs.take i).length := by rw [← hbs, List.length_map]
            rw [hB.len, h1, List.length_take]
            omega
          refine ⟨Weak.set (by intro v z; cases z), ⟨_, rfl, _, rfl, d, .ref a', rfl, ?_, a', _, rfl, .inl (SqL.of ((s14.trans s5) _ _ ha')), fun x hx => ⟨Nat.lt_of_le_of_lt hzl (by decide), nx _ _ ⟨s5.trans (same_new hx), ?_, ?_, bs ++ [b'], ?_, ?_, ?_⟩⟩⟩⟩
          · rw [← hval]
            exact DGet.t (s5 _ _ hd4) (by rw [kRow_v, ← hrb]; exact htt)
          · refine List.nodup_append.mpr ⟨hnd, by simp, fun u hu w hw e => ?_⟩
            rw [List.mem_singleton.mp hw] at e
            obtain ⟨x', e1, _, e3⟩ := hfr u hu
            rw [e1] at e
            injection e with e
            exact e3 (by rw [e]; exact hx)
          · intro u hu
            rcases List.mem_append.mp hu with hu | hu
            · obtain ⟨x', e1, e2, e3⟩ := hfr u hu
              refine ⟨x', e1, e2, ?_⟩
              by_cases z : x' = x
              · exact absurd hx (z ▸ e3)
              · rw [upd_ne z]
                exact e3
            · exact ⟨x, List.mem_singleton.mp hu, s5.free hx, by rw [upd_same]; exact nofun⟩
          · exact BlAt.snoc upd_same (hB.same (same_new hx))
          · rw [List.map_append, hbs, List.take_succ, hri, hrb, ← hdif]
            rfl
          · intro c hc
            rcases List.mem_append.mp hc with z | z
            · exact hbn c z
            · rw [List.mem_singleton.mp z]
              exact hb'
        · rintro zs H5 ⟨s5, hnd, hfr, bs, hB, hbs, hbn⟩
          have hwl : ws2.length = rs.length := hT2.len
          rw [hwl, List.take_length] at hbs
          have hzl : zs.length ≤ 3 := by
            have h1 : bs.length = rs.length := by rw [← hbs, List.length_map]
            rw [hB.len, h1]
            omega
          refine ⟨Nat.le_trans hzl (by decide), fun g2 hg2 => ⟨by show 2 ≤ sizeLine; decide, fun t ht => ?_⟩⟩
          have v6 := same_new (o := .lst zs) hg2
          have v7 := same_new (o := .tup [V.str "bases", V.ref g2]) ht
          refine q t _ (s1.trans (s14.trans (s5.trans (v6.trans v7)))) (.inr ⟨g2, zs, bs, upd_same, v7 _ _ upd_same, hB.same (v6.trans v7), hnd, fun hm => ?_, hbn, h0, ?_, ?_⟩)
          · obtain ⟨x', e1, _, e3⟩ := hfr _ hm
            injection e1 with e1
            exact e3 (by rw [← e1]; exact hg2)
          · have h1 : bs.length = rs.length := by rw [← hbs, List.length_map]
            rw [h1, hlen]
          · rw [hbs]
            exact htot
    · refine enT (fun z => h0 (by rw [← Int.natCast_emod] at z; omega)) ?_
      exact ⟨by show 1 ≤ sizeLine; decide, fun t ht => q t _ (same_new ht) (.inl ⟨upd_same, .inl h0⟩)⟩
/-! ### what is wanted -/
def mnT (n k t : Nat) : Nat := t * (n - 1) / (k * (k - 1))
def okT (n k t : Nat) : Bool := !decide (t * (n - 1) = mnT n k t * k * (k - 1)) || (decide (1 ≤ mnT n k t ∧ mnT n k t ≤ 3) && (decide (n < 10) || decide (mnT n k t < 3)))
def wnt (n k j : Nat) : List Nat := ((List.range j).map (1 + ·)).filter (okT n k)
theorem wnt_snoc (n k j : Nat) : wnt n k (j + 1) = wnt n k j ++ (if okT n k (1 + j) then [1 + j] else []) := by
  unfold wnt
  rw [List.range_succ, List.map_append, List.filter_append]
  simp [List.filter_cons]
theorem wnt_all : ((List.range 14).all fun n => (List.range 5).all fun k => decide (n < 2) || decide (k < 2) || (decide (k = 2) && (decide (n = 9) || decide (n = 11) || decide (n = 13))) || decide (0 < (wnt n k 39).length)) = true := by decide +kernel
theorem wnt_some {n k : Nat} (hn : n ≤ 13) (hn2 : 2 ≤ n) (hk : k ≤ 4) (hk2 : 2 ≤ k) (h : k = 2 → n ≠ 9 ∧ n ≠ 11 ∧ n ≠ 13) : 0 < (wnt n k 39).length := by
  have h1 := List.all_eq_true.mp (List.all_eq_true.mp wnt_all n (List.mem_range.mpr (by omega))) k (List.mem_range.mpr (by omega))
  simp only [Bool.or_eq_true, Bool.and_eq_true, decide_eq_true_eq] at h1
  omega
theorem wnt_in {n k t : Nat} (h : t ∈ wnt n k 39) : 1 ≤ t ∧ t ≤ 39 ∧ okT n k t = true := by
  unfold wnt at h
  obtain ⟨h1, h2⟩ := List.mem_filter.mp h
  obtain ⟨i, hi, rfl⟩ := List.mem_map.mp h1
  rw [List.mem_range] at hi
  exact ⟨by omega, by omega, h2⟩
def spWanted : Sp := fun vs H Q _ => ∃ (p : Addr) (f : Int), vs = [.ref p] ∧ H p = some (.lst [.int f]) ∧ 0 ≤ f ∧ ∀ (t : Addr) (n k l : Nat) (H' : Hp), Drawn1 p H H' → H' t = some (.tup [.int ((n : Nat) : Int), .int ((k : Nat) : Int), .int ((l : Nat) : Int)]) → 2 ≤ n → n ≤ 13 → 2 ≤ k → k ≤ 4 → 1 ≤ l → l ≤ 39 → okT n k l = true → Q (.ref t) H'
theorem scLWanted : FnScope ["_law_pool_here", "_law_n", "_law_k", "_law_some_here", "_law_times", "_law_many"] ["_law_pool_here"] (defScope sLWanted) := ⟨rfl, rfl, rfl, by decide +kernel, rfl, by decide +kernel, by decide +kernel⟩
theorem ok_wanted {f : Addr} {fd : FuncData} (F : Fun K "_law_wanted" "_law_wanted" sLWanted f fd) (T : TxtB mg) (pTake : Pm P w K mg base CX0 1 "_law_take" ["_law_pool_here", "_law_many"] spTake) : FnOk P w K mg base CX0 2 f fd ["_law_pool_here"] spWanted := by
  refine F.okQ scLWanted (fun vs H Q E h => ?_) (fun cdv A outer s H vs Q E hr1 h => ?_)
  · obtain ⟨p, f, rfl, _⟩ := h
    rfl
  · obtain ⟨p, f, rfl, hp, hf, q⟩ := h
    refine ⟨_, (qss_cons (qs_set (i := 1) scLWanted.nd rfl (Or.inl rfl) (qe_op op_add qe_int (qe_callP pTake hr1 rfl pass0 (qac (qv 0) (qac qe_int qa_nil)))))
      (qss_cons (qs_set (i := 2) scLWanted.nd rfl (Or.inl rfl) (qe_op op_add qe_int (qe_callP pTake hr1 rfl pass0 (qac (qv 0) (qac qe_int qa_nil)))))
      (qss_cons (qs_if (QW.pt (qw_and (qt_cmpR op_eq (qv 2) qe_int (nomark _)) (qw_and1 (qt_cmpR op_in_seq (qv 1) (qe_lst (qac qe_int (qac qe_int (qac qe_int qa_nil)))) rfl)))) (qss_one (qs_set (i := 2) scLWanted.nd rfl (Or.inl rfl) qe_int)) qss_nil)
      (qss_cons (qs_set (i := 3) scLWanted.nd rfl (Or.inl rfl) (qe_lst qa_nil))
      (qss_cons (qs_for PassesOwn.never rfl (qi_range2 rfl T.range (qac qe_int (qac qe_int qa_nil))) (qg_name (i := 4) scLWanted.nd rfl (Or.inl rfl))
        (qss_cons (qs_set (i := 5) scLWanted.nd rfl (Or.inl rfl) (qe_op op_fdiv (qe_op op_mul (qv 4) (qe_op op_sub (qv 1) qe_int)) (qe_op op_mul (qv 2) (qe_op op_sub (qv 2) qe_int))))
        (qss_one (qs_if (QW.pt (qw_or (qt_cmpR op_ne (qe_op op_mul (qv 4) (qe_op op_sub (qv 1) qe_int)) (qe_op op_mul (qe_op op_mul (qv 5) (qv 2)) (qe_op op_sub (qv 2) qe_int)) (nomark _)) (qw_or1 (QW.pt (qw_and (qt_chain op_le op_le qe_int (qv 5) qe_int) (qw_and1 (QW.pt (qw_or (qt_cmpR op_lt (qv 1) qe_int (nomark _)) (qw_or1 (qt_cmpR op_lt (qv 5) qe_int (nomark _))))))))))) (qss_one (qs_expr (qe_bm PySem.F.plainAttrs_list PySem.F.slot_list_append PySem.F.type_list_append mt_append (qv 3) (qac (qv 4) qa_nil)))) qss_nil))))
      (qss_one (qs_ret (qe_tup (qac (qv 1) (qac (qv 2) (qac (qe_ix ix_list (qv 3) (qe_callP pTake hr1 rfl pass0 (qac (qv 0) (qac (qe_callB (call_min2 rfl) (by rfl) T.min PyProof.Rows.boot_min (qac (qe_callB call_len_seq (by rfl) T.len PySem.boot_len (qac (qv 3) qa_nil)) (qac qe_int qa_nil))) qa_nil))) (fun _ _ => rfl)) qa_nil))))))))))), ?_⟩
    refine ⟨_, rfl, p, f, 12, rfl, hp, hf, by decide, by decide, fun g r hg h0 h1 => ⟨_, _, rfl, rfl, ?_⟩⟩
    have d1 := Drawn1.put (p := p) (H := H) hg
    refine ⟨_, rfl, p, g, 3, rfl, upd_same, hg, by decide, by decide, fun g2 r2 hg2 h02 h12 => ⟨_, _, rfl, rfl, ?_⟩⟩
    dsimp only
    have d2 := d1.pup hg2
    generalize L2.upd (L2.upd H p (.lst [.int g])) p (.lst [.int g2]) = H2 at d2 ⊢
    obtain ⟨n, en, hn1, hn2⟩ : ∃ n : Nat, 2 + r = (n : Int) ∧ 2 ≤ n ∧ n ≤ 13 := ⟨(2 + r).toNat, by omega, by omega, by omega⟩
    obtain ⟨k, ek, hk1, hk2⟩ : ∃ k : Nat, 2 + r2 = (k : Int) ∧ 2 ≤ k ∧ k ≤ 4 := ⟨(2 + r2).toNat, by omega, by omega, by omega⟩
    rw [en, ek]
    refine seqVia (fun σ' H' => ∃ k : Nat, 2 ≤ k ∧ k ≤ 4 ∧ (k = 2 → n ≠ 9 ∧ n ≠ 11 ∧ n ≠ 13) ∧ σ' = [some (.ref p), some (.int ((n : Nat) : Int)), some (.int ((k : Nat) : Int)), none, none, none] ∧ Drawn1 p H H') ?_ (fun D' go => ?_)
    rotate_left
    · refine ⟨_, rfl, rfl, _, rfl, ?_⟩
      by_cases hk : k = 2
      · refine ejT (by omega) ⟨_, rfl, by show 3 ≤ sizeLine; decide, fun z hz => ⟨z, _, rfl, .inl (SqL.of upd_same), rfl, rfl, _, rfl, ?_⟩⟩
        have e : inV (V.int ((n : Nat) : Int)) [V.int 9, V.int 11, V.int 13] = decide (n ∈ [9, 11, 13]) := inV_natsT n [9, 11, 13]
        have d3 := d2.sm (same_new (o := .lst [V.int 9, V.int 11, V.int 13]) hz)
        refine ite2 (fun h => ?_) (fun h => ?_)
        · exact go _ _ ⟨3, by decide, by decide, fun z => absurd z (by decide), rfl, d3⟩
        · refine go _ _ ⟨2, by decide, by decide, fun _ => ?_, by rw [hk]; rfl, d3⟩
          have h2 : ¬ n ∈ [9, 11, 13] := fun z => h (e.trans (decide_eq_true z))
          simpa using h2
      · exact ejF (by omega) (go _ _ ⟨k, hk1, hk2, fun z => absurd z hk, rfl, d2⟩)
    clear ek hk1 hk2
    rintro σ H3 ⟨k, hk1, hk2, hkn, rfl, d3⟩
    refine ⟨by show 0 ≤ sizeLine; decide, fun c hc => ?_⟩
    have hpc : c ≠ p := fun z => by
      obtain ⟨g5, _, hp5⟩ := d3.pool
      rw [z, hp5] at hc
      cases hc
    have hc3 : upd H3 c (.lst []) c = some (.lst (nats (wnt n k 0))) := upd_same
    have d4 := d3.sm (same_new (o := .lst []) hc)
    generalize upd H3 c (.lst []) = H4 at d4 hc3 ⊢
    refine ⟨1, 40, rfl, ⟨by decide, by decide, by decide, by decide⟩, for_range (lo := 1) (n := 39) (fun i σ H5 => Drawn1 p H H5 ∧ ∃ x4 x5 : Option V, σ = [some (.ref p), some (.int ((n : Nat) : Int)), some (.int ((k : Nat) : Int)), some (.ref c), x4, x5] ∧ H5 c = some (.lst (nats (wnt n k i)))) ⟨d4, _, _, rfl, hc3⟩ ?_ ?_⟩
    · rintro i σ H5 hi ⟨d5, x4, x5, rfl, hc5⟩
      have hl39 : (wnt n k i).length ≤ 39 := by
        unfold wnt
        refine Nat.le_trans (List.length_filter_le _ _) ?_
        rw [List.length_map, List.length_range]
        omega
      have hc0 : H c = none := by
        cases e : H c with
        | none => rfl
        | some u => rw [d3.kept c u e hpc] at hc; cases hc
      have e1 : (1 + ((i : Nat) : Int)) * (((n : Nat) : Int) - 1) = (((1 + i) * (n - 1) : Nat) : Int) := by
        rw [show ((n : Nat) : Int) - 1 = ((n - 1 : Nat) : Int) by omega, Int.natCast_mul, Int.natCast_add]
        rfl
      have e2 : ((k : Nat) : Int) * (((k : Nat) : Int) - 1) = ((k * (k - 1) : Nat) : Int) := by
        rw [show ((k : Nat) : Int) - 1 = ((k - 1 : Nat) : Int) by omega, Int.natCast_mul]
      have hE0 : 2 ≤ k * (k - 1) := Nat.le_trans (show 2 ≤ 2 * 1 by decide) (Nat.mul_le_mul hk1 (show 1 ≤ k - 1 by omega))
      have hE12 : k * (k - 1) ≤ 12 := Nat.mul_le_mul hk2 (show k - 1 ≤ 3 by omega)
      have hW : (1 + i) * (n - 1) ≤ 480 := Nat.mul_le_mul (show 1 + i ≤ 40 by omega) (show n - 1 ≤ 12 by omega)
      refine ⟨_, rfl, _, rfl, _, _, rfl, rfl, _, _, rfl, rfl, .inl ⟨by omega, by omega⟩, ?_⟩
      refine ⟨_, rfl, _, rfl, _, _, rfl, rfl, _, _, rfl, rfl, .inl ⟨by omega, by omega⟩, ?_⟩
      dsimp only
      rw [e1, e2]
      refine ⟨_, _, rfl, rfl, ⟨by omega, by omega⟩, ?_⟩
      dsimp only [gName]
      rw [← Int.natCast_ediv]
      have hm : mnT n k (1 + i) ≤ 480 := Nat.le_trans (Nat.div_le_self _ _) hW
      change tIfS _ _ _ _ [some (.ref p), some (.int ((n : Nat) : Int)), some (.int ((k : Nat) : Int)), some (.ref c), some (.int (1 + ((i : Nat) : Int))), some (.int ((mnT n k (1 + i) : Nat) : Int))] H5
      have app : okT n k (1 + i) = true → upd H5 c (.lst (nats (wnt n k i) ++ [V.int (1 + ((i : Nat) : Int))])) c = some (.lst (nats (wnt n k (i + 1)))) := fun z => by
        rw [upd_same, wnt_snoc, if_pos z, nats_snoc, Int.natCast_add]
        rfl
      have skp : okT n k (1 + i) = false → H5 c = some (.lst (nats (wnt n k (i + 1)))) := fun z => by
        rw [hc5, wnt_snoc, z]
        simp
      have e3 : ((mnT n k (1 + i) : Nat) : Int) * ((k : Nat) : Int) * (((k : Nat) : Int) - 1) = ((mnT n k (1 + i) * k * (k - 1) : Nat) : Int) := by
        rw [show ((k : Nat) : Int) - 1 = ((k - 1 : Nat) : Int) by omega, Int.natCast_mul, Int.natCast_mul]
      have hmk : mnT n k (1 + i) * k ≤ 480 * 4 := Nat.mul_le_mul hm hk2
      generalize hmm : mnT n k (1 + i) = m at hm e3 hmk ⊢
      refine ⟨_, rfl, _, rfl, _, _, rfl, rfl, _, _, rfl, rfl, .inl ⟨by omega, by omega⟩, ?_⟩
      refine ⟨_, rfl, _, rfl, _, _, rfl, rfl, .inl ⟨by omega, by omega⟩, _, rfl, _, _, rfl, rfl, _, _, rfl, rfl, .inl ⟨by rw [← Int.natCast_mul]; omega, by rw [← Int.natCast_mul]; omega⟩, rfl, _, rfl, ?_⟩
      dsimp only
      have hlz : (nats (wnt n k i)).length < sizeLine := by rw [nats_len]; exact Nat.lt_of_le_of_lt hl39 (by decide)
      by_cases h1 : (1 + i) * (n - 1) = m * k * (k - 1)
      · have hok : okT n k (1 + i) = (decide (1 ≤ m ∧ m ≤ 3) && (decide (n < 10) || decide (m < 3))) := by
          unfold okT
          rw [hmm, decide_eq_true h1]
          rfl
        refine enF (by rw [e1, e3, h1]) ⟨_, rfl, _, _, rfl, rfl, _, rfl, ?_⟩
        by_cases h2 : 1 ≤ m
        · refine ifT (by omega) ⟨_, _, rfl, rfl, _, rfl, ?_⟩
          by_cases h3 : m ≤ 3
          · refine ifT (by omega) ⟨_, rfl, _, _, rfl, rfl, _, rfl, ?_⟩
            rw [decide_eq_true (show 1 ≤ m ∧ m ≤ 3 from ⟨h2, h3⟩)] at hok
            by_cases h4 : n < 10
            · rw [decide_eq_true h4] at hok
              exact ifT (by omega) (iteT ⟨_, rfl, .inl ⟨rfl, _, SqL.of hc5⟩, _, rfl, c, _, _, rfl, rfl, hc5, hlz, d5.updF hc0 hpc, _, _, rfl, app hok⟩)
            · refine ifF (by omega) ⟨_, rfl, _, _, rfl, rfl, _, rfl, ?_⟩
              rw [decide_eq_false h4] at hok
              by_cases h5 : m < 3
              · rw [decide_eq_true h5] at hok
                exact ifT (by omega) ⟨_, rfl, .inl ⟨rfl, _, SqL.of hc5⟩, _, rfl, c, _, _, rfl, rfl, hc5, hlz, d5.updF hc0 hpc, _, _, rfl, app hok⟩
              · rw [decide_eq_false h5] at hok
                exact ifF (by omega) ⟨d5, _, _, rfl, skp hok⟩
          · rw [decide_eq_false (show ¬ (1 ≤ m ∧ m ≤ 3) from fun z => h3 z.2)] at hok
            exact ifF (by omega) (iteF ⟨d5, _, _, rfl, skp hok⟩)
        · rw [decide_eq_false (show ¬ (1 ≤ m ∧ m ≤ 3) from fun z => h2 z.1)] at hok
          exact ifF (by omega) ⟨_, rfl, iteF (iteF ⟨d5, _, _, rfl, skp hok⟩)⟩
      · have hok : okT n k (1 + i) = true := by
          unfold okT
          rw [hmm, decide_eq_false h1]
          rfl
        exact enT (fun z => h1 (by rw [e1, e3] at z; omega)) (iteT ⟨_, rfl, .inl ⟨rfl, _, SqL.of hc5⟩, _, rfl, c, _, _, rfl, rfl, hc5, hlz, d5.updF hc0 hpc, _, _, rfl, app hok⟩)
    · rintro σ H5 ⟨d5, x4, x5, rfl, hc5⟩
      obtain ⟨g5, hg5, hp5⟩ := d5.pool
      have hw := wnt_some hn2 hn1 hk2 hk1 hkn
      have hc5l : H5 c ≠ none := by rw [hc5]; exact nofun
      refine ⟨_, rfl, _, rfl, _, rfl, _, rfl, _, rfl, c, _, rfl, .inl (SqL.of hc5), _, _, rfl, p, g5, _, rfl, hp5, hg5, ?_, ?_, fun g6 r hg6 hr0 hr1 => ?_⟩
      · rw [nats_len]
        split <;> omega
      · rw [nats_len]
        split <;> omega
      · obtain ⟨j, rfl⟩ := Int.eq_ofNat_of_zero_le hr0
        have hrl : j < (wnt n k 39).length := by
          rw [nats_len] at hr1
          split at hr1 <;> omega
        have gr : (wnt n k 39)[j]? = some (wnt n k 39)[j] := List.getElem?_eq_getElem _
        obtain ⟨t1, t2, t3⟩ := wnt_in (List.mem_of_getElem? gr)
        refine ⟨c, _, _, _, rfl, rfl, SqL.of (by rw [upd_ne hpc]; exact hc5), atI_nat (v := .int (((wnt n k 39)[j] : Nat) : Int)) (by unfold nats; rw [List.getElem?_map, gr]; rfl), by show 3 ≤ sizeLine; decide, fun t ht => ?_⟩
        exact q t n k _ _ ((d5.pup hg6).sm (same_new ht)) upd_same hn1 hn2 hk1 hk2 t1 t2 t3
/-! ### differences, counted by the law -/
/-- counts of the differences from 1 on: so many first and so many second numbers are gone through -/
def stC (n : Nat) (b one : List Nat) (i : Nat) (other : List Nat) (d : Nat) : Nat := (one.map fun i => b.countP fun j => decide (i ≠ j) && rD n d i j).sum + other.countP fun j => decide (i ≠ j) && rD n d i j
def spCnt : Sp := fun vs H Q _ => ∃ (a : Addr) (n : Nat) (b : List Nat), vs = [.int ((n : Nat) : Int), .ref a] ∧ (H a = some (.lst (nats b)) ∨ H a = some (.tup (nats b))) ∧ 1 ≤ n ∧ n ≤ 60 ∧ Blk n b ∧ ∀ (g : Addr) (H' : Hp), H g = none → Same H H' → H' g = some (.lst (nats (difL n [b]))) → Q (.ref g) H'
theorem scLCounted : FnScope ["_law_n", "_law_base", "_law_found", "_law_one", "_law_other"] ["_law_n", "_law_base"] (defScope sLCounted) := ⟨rfl, rfl, rfl, by decide +kernel, rfl, by decide +kernel, by decide +kernel⟩
theorem rD_self {n d i : Nat} (hi : i < n) (hd : 1 ≤ d) : rD n d i i = false := by
  unfold rD
  rw [show i + (n - i) = n by omega, Nat.mod_self]
  exact decide_eq_false (by omega)
theorem stC_cD {n : Nat} {b : List Nat} (hb : Blk n b) {d : Nat} (hd : 1 ≤ d) : stC n b b 0 [] d = tD n [b] d := by
  unfold stC tD cD
  rw [List.countP_nil, Nat.add_zero, List.map_cons, List.map_nil, List.sum_cons, List.sum_nil, Nat.add_zero]
  congr 1
  refine List.map_congr_left fun i hi => List.countP_congr fun j hj => ?_
  by_cases e : i = j
  · subst e
    rw [rD_self (hb.lt i hi) hd]
    simp
  · rw [decide_eq_true (show i ≠ j from e), Bool.true_and]
theorem ok_counted {f : Addr} {fd : FuncData} (F : Fun K "_law_counted" "_law_counted" sLCounted f fd) (T : TxtB mg) : FnOk P w K mg base CX0 1 f fd ["_law_n", "_law_base"] spCnt := by
  refine F.okQ scLCounted (fun vs H Q E h => ?_) (fun cdv A outer s H vs Q E hr h => ?_)
  · obtain ⟨a, n, b, rfl, _⟩ := h
    rfl
  · obtain ⟨a, n, b, rfl, ha, hn1, hn2, hb, q⟩ := h
    refine ⟨_, (qss_cons (qs_set (i := 2) scLCounted.nd rfl (Or.inl rfl) (qe_op op_mulL (qe_lst (qac qe_int qa_nil)) (qv 0)))
      (qss_cons (qs_for PassesOwn.never rfl (qi_seq (qv 1)) (qg_name (i := 3) scLCounted.nd rfl (Or.inl rfl))
        (qss_one (qs_for PassesOwn.never rfl (qi_seq (qv 1)) (qg_name (i := 4) scLCounted.nd rfl (Or.inl rfl))
          (qss_one (qs_if (qt_cmpR op_ne (qv 3) (qv 4) (nomark _)) (qss_one (qs_asg (qe_op op_add (qe_ix ix_list (qv 2) (qe_op op_mod (qe_op op_sub (qv 3) (qv 4)) (qv 0)) (fun _ _ => rfl)) qe_int) (qg_sub (qv 2) (qe_op op_mod (qe_op op_sub (qv 3) (qv 4)) (qv 0)) set_list))) qss_nil)))))
      (qss_one (qs_ret (qe_slice sl_list (qv 2) (qo_some qe_int) qo_none))))), ?_⟩
    refine ⟨by show 1 ≤ sizeLine; decide, fun d hd => ⟨_, rfl, d, [V.int 0], (n : Int), rfl, rfl, SqL.of upd_same, by omega, by omega, by rw [List.length_singleton, Int.toNat_natCast]; omega, fun c hc => ?_⟩⟩
    have ez : (List.replicate ((n : Nat) : Int).toNat [V.int 0]).flatten = nats ((List.range n).map (stC n b [] 0 [])) := by
      rw [Int.toNat_natCast, zeros]
      congr 1
      symm
      rw [List.eq_replicate_iff]
      exact ⟨by simp, fun b hb => by obtain ⟨p, _, rfl⟩ := List.mem_map.mp hb; simp [stC]⟩
    rw [ez]
    have w1 := same_new (o := .lst [V.int 0]) hd
    have w2 := same_new (o := .lst (nats ((List.range n).map (stC n b [] 0 [])))) hc
    have hc0 : H c = none := w1.free hc
    have s2 := w1.trans w2
    have hc2 : L2.upd (L2.upd H d (.lst [V.int 0])) c (.lst (nats ((List.range n).map (stC n b [] 0 [])))) c = some (.lst (nats ((List.range n).map (stC n b [] 0 [])))) := upd_same
    generalize L2.upd (L2.upd H d (.lst [V.int 0])) c (.lst (nats ((List.range n).map (stC n b [] 0 [])))) = H2 at s2 hc2 ⊢
    refine ⟨_, rfl, a, rfl, for_seq (K := K) (xs := nats b) ha (fun j σ H4 => Same H H4 ∧ ∃ x3 x4, σ = [some (.int ((n : Nat) : Int)), some (.ref a), some (.ref c), x3, x4] ∧ H4 c = some (.lst (nats ((List.range n).map (stC n b (b.take j) 0 []))))) ⟨s2, none, none, rfl, hc2⟩ (fun _ _ _ z => z.1) ?_ ?_⟩
    · rintro j v σ H4 hj ⟨s4, x3, x4, rfl, hc4⟩
      obtain ⟨x, hx, rfl⟩ := L2.nats_get hj
      refine ⟨_, rfl, a, rfl, for_seq (K := K) (xs := nats b) ha (fun k σ H5 => Same H H5 ∧ ∃ x4, σ = [some (.int ((n : Nat) : Int)), some (.ref a), some (.ref c), some (.int ((x : Nat) : Int)), x4] ∧ H5 c = some (.lst (nats ((List.range n).map (stC n b (b.take j) x (b.take k)))))) ⟨s4, x4, rfl, ?_⟩ (fun _ _ _ z => z.1) ?_ ?_⟩
      · rw [hc4]
        congr 3
      · rintro k v σ H5 hk ⟨s5, x4, rfl, hc5⟩
        obtain ⟨y, hy, rfl⟩ := L2.nats_get hk
        have hym := hb.lt y (List.mem_of_getElem? hy)
        have hz : (x + (n - y)) % n < n := Nat.mod_lt _ hn1
        have hat : (nats ((List.range n).map (stC n b (b.take j) x (b.take k))))[(x + (n - y)) % n]? = some (.int ((stC n b (b.take j) x (b.take k) ((x + (n - y)) % n) : Nat) : Int)) := by
          unfold nats
          rw [List.getElem?_map, List.getElem?_map, List.getElem?_range hz]
          rfl
        refine ⟨_, rfl, _, rfl, rfl, _, rfl, ?_⟩
        by_cases hxy : x = y
        · refine enF (by omega) ⟨s5, _, rfl, ?_⟩
          rw [hc5]
          congr 4
          funext d
          unfold stC
          rw [take_snoc hy, List.countP_append, List.countP_cons, List.countP_nil, decide_eq_false (fun z => z hxy)]
          simp
        · refine enT (by omega) ⟨_, rfl, _, rfl, _, rfl, _, _, rfl, rfl, _, rfl, _, _, rfl, rfl, by omega, ?_⟩
          dsimp only
          rw [sub_mod hym]
          refine ⟨c, _, _, _, rfl, rfl, SqL.of hc5, atI_nat hat, _, _, rfl, rfl, ?_⟩
          refine ⟨_, rfl, _, rfl, _, rfl, _, _, rfl, rfl, _, rfl, _, _, rfl, rfl, by omega, c, _, _, (x + (n - y)) % n, rfl, rfl, hc5, ?_, same_upd s5 hc0, _, rfl, ?_⟩
          · unfold ixN
            rw [sub_mod hym, if_pos (by omega), if_pos (by rw [nats_len, List.length_map, List.length_range]; omega), Int.toNat_natCast]
          · rw [upd_same]
            have e := cnt_set (n := n) (k := (x + (n - y)) % n) (stC n b (b.take j) x (b.take k))
            have e2 : (fun d => stC n b (b.take j) x (b.take k) d + if d = (x + (n - y)) % n then 1 else 0) = stC n b (b.take j) x (b.take (k + 1)) := by
              funext d
              unfold stC
              rw [take_snoc hy, List.countP_append, List.countP_cons, List.countP_nil, decide_eq_true hxy]
              unfold rD
              by_cases hd : d = (x + (n - y)) % n
              · subst hd
                simp
                omega
              · have : ¬ (x + (n - y)) % n = d := fun z => hd z.symm
                simp [hd, this]
            rw [e2] at e
            rw [← e]
            rfl
      · rintro σ H5 ⟨s5, x5, rfl, hc5⟩
        refine ⟨s5, _, _, rfl, ?_⟩
        rw [hc5, nats_len, List.take_length]
        congr 4
        funext d
        unfold stC
        rw [take_snoc hx, List.map_append, List.sum_append]
        simp
    · rintro σ H3 ⟨s3, x3, x4, rfl, hc3⟩
      rw [nats_len, List.take_length] at hc3
      refine ⟨_, rfl, _, rfl, c, _, rfl, SqL.of hc3, fun g hg => ?_⟩
      have ec : cutV (nats ((List.range n).map (stC n b b 0 []))) (some 1) none = nats (difL n [b]) := by
        rw [show cutV (nats ((List.range n).map (stC n b b 0 []))) (some 1) none = (nats ((List.range n).map (stC n b b 0 []))).drop 1 from cut_from (k := 1) (by rw [nats_len, List.length_map, List.length_range]; exact hn1)]
        obtain ⟨m, rfl⟩ : ∃ m, n = m + 1 := ⟨n - 1, by omega⟩
        rw [drop_one (stC (m + 1) b b 0 []) m]
        unfold difL
        rw [Nat.add_sub_cancel]
        congr 1
        exact List.map_congr_left fun d _ => stC_cD hb (by omega)
      rw [ec]
      exact q g _ (s3.free hg) (s3.trans (same_new hg)) upd_same
/-! ### the law's bases with nought, as tuples -/
def spSets : Sp := fun vs H Q _ => ∃ (n k : Nat), vs = [.int ((n : Nat) : Int), .int ((k : Nat) : Int)] ∧ n ≤ 13 ∧ 1 ≤ k ∧ k ≤ 4 ∧ ∀ (g : Addr) (us : List V) (H' : Hp), H g = none → Same H H' → H' g = some (.lst us) → TpAt H' us (nght n (k - 1)) → Q (.ref g) H'
theorem scLSets : FnScope ["_law_n", "_law_k", "_law_found", "_law_turn", "_law_longer", "_law_some_here"] ["_law_n", "_law_k"] (defScope sLSets) := ⟨rfl, rfl, rfl, by decide +kernel, rfl, by decide +kernel, by decide +kernel⟩
theorem ok_sets {f : Addr} {fd : FuncData} (F : Fun K "_law_sets" "_law_sets" sLSets f fd) (T : TxtB mg) : FnOk P w K mg base CX0 1 f fd ["_law_n", "_law_k"] spSets := by
  refine F.okQ scLSets (fun vs H Q E h => ?_) (fun cdv A outer s H vs Q E hr h => ?_)
  · obtain ⟨n, k, rfl, _⟩ := h
    rfl
  · obtain ⟨n, k, rfl, hn, hk1, hk4, q⟩ := h
    refine ⟨_, (qss_cons (qs_set (i := 2) scLSets.nd rfl (Or.inl rfl) (qe_lst (qac (qe_tup (qac qe_int qa_nil)) qa_nil)))
      (qss_cons (qs_for PassesOwn.never rfl (qi_range1 rfl T.range (qac (qe_op op_sub (qv 1) qe_int) qa_nil)) (qg_name (i := 3) scLSets.nd rfl (Or.inl rfl))
        (qss_cons (qs_set (i := 4) scLSets.nd rfl (Or.inl rfl) (qe_lst qa_nil))
        (qss_cons (qs_for PassesOwn.never rfl (qi_list (qv 2)) (qg_name (i := 5) scLSets.nd rfl (Or.inr rfl))
          (qss_one (qs_expr (qe_bm PySem.F.plainAttrs_list PySem.F.slot_list_extend PySem.F.type_list_extend mt_extend (qv 4) (qac (qe_comp (g := gName 0) (N := ["_law_point", "_law_some_here"]) (src := [none, some 5]) rfl (comp_scope (defScope sLSets) ["_law_n", "_law_k", "_law_found", "_law_turn", "_law_longer", "_law_some_here"] rfl rfl (by decide +kernel) rfl) (qi_range2 rfl T.range (qac (qe_op op_add (qe_ix ix_tup (qv 5) (qe_un un_neg qe_int) (fun _ _ => rfl)) qe_int) (qac (qv 0) qa_nil))) (fun _ _ _ _ _ => (qg_name (i := 0) (show (["_law_point", "_law_some_here"] : List Str).Nodup by decide +kernel) rfl (Or.inl rfl) (Or.inr rfl))) (fun _ _ _ _ _ => qif_nil) (fun _ _ _ _ _ => (qe_op (show OpR _ _ (rCatT K) from op_catT) (qv 1) (qe_tup (qac (qv 0) qa_nil))))) qa_nil)))))
        (qss_one (qs_set (i := 2) scLSets.nd rfl (Or.inl rfl) (qv 4))))))
      (qss_one (qs_ret (qv 2))))), ?_⟩
    refine ⟨by show 1 ≤ sizeLine; decide, fun z hz => ⟨by show 1 ≤ sizeLine; decide, fun c hc => ?_⟩⟩
    have w1 := same_new (o := .tup [V.int 0]) hz
    have w2 := same_new (o := .lst [V.ref z]) hc
    have hc0 : H c = none := w1.free hc
    refine ⟨_, rfl, _, _, rfl, rfl, ((k : Nat) : Int) - 1, rfl, by omega, by omega, ?_⟩
    rw [show (((k : Nat) : Int) - 1).toNat = k - 1 by omega]
    refine for_range (lo := 0) (n := k - 1) (fun i σ H2 => Same H H2 ∧ ∃ (g : Addr) (us : List V) (x3 x4 x5 : Option V), σ = [some (.int ((n : Nat) : Int)), some (.int ((k : Nat) : Int)), some (.ref g), x3, x4, x5] ∧ H g = none ∧ H2 g = some (.lst us) ∧ TpAt H2 us (nght n i)) ⟨w1.trans w2, c, [.ref z], none, none, none, rfl, hc0, upd_same, ⟨z, rfl, w2 _ _ upd_same⟩, trivial⟩ ?_ ?_
    · rintro i σ H2 hi ⟨s2, g, us, x3, x4, x5, rfl, hg0, hg2, hB⟩
      obtain ⟨h1, h2⟩ := nght_facts hn i
      have h13 : 13 ^ i ≤ 13 ^ 3 := Nat.pow_le_pow_right (by decide) (by omega)
      have hbl : (nght n i).length ≤ 2197 := Nat.le_trans h1 (Nat.le_trans h13 (by decide))
      generalize hbs : nght n i = bs at hB h2 hbl
      refine ⟨by show 0 ≤ sizeLine; decide, fun d hd => ?_⟩
      have v1 := same_new (o := .lst []) hd
      have hgd : g ≠ d := ne_of_none hg2 hd
      refine ⟨_, rfl, g, rfl, ⟨_, SqL.of (v1 _ _ hg2)⟩, for_list (K := K) (xs := us) (fun j σ H3 => Same H H3 ∧ ∃ (ws : List V) (x5 : Option V), σ = [some (.int ((n : Nat) : Int)), some (.int ((k : Nat) : Int)), some (.ref g), some (.int (0 + ((i : Nat) : Int))), some (.ref d), x5] ∧ H3 g = some (.lst us) ∧ TpAt H3 us bs ∧ H3 d = some (.lst ws) ∧ TpAt H3 ws (lgr n (bs.take j))) ⟨s2.trans v1, [], x5, rfl, v1 _ _ hg2, hB.sm v1, upd_same, trivial⟩ (fun j σ H3 _ ⟨_, _, _, _, e, _⟩ => SqL.of e) ?_ ?_⟩
      · rintro j v σ H3 hj ⟨s3, ws, x5, rfl, hg3, hB3, hd3, hW⟩
        obtain ⟨a, b, rfl, hb, ha⟩ := hB3.get hj
        obtain ⟨e1, e2, e3, e4⟩ := h2 b (List.mem_of_getElem? hb)
        have hL := last_natsL (b := b) (by omega)
        have hL13 : b.getLastD 0 < 13 := by
          obtain ⟨j', _, hj', _⟩ := atI_get hL
          obtain ⟨x, hx, ex⟩ := L2.nats_get hj'
          injection ex with ex
          have := e2 x (List.mem_of_getElem? hx)
          omega
        refine ⟨_, rfl, .inl ⟨rfl, _, SqL.of hd3⟩, _, rfl, _, rfl, a, _, -1, _, rfl, rfl, SqT.of ha, hL, _, _, rfl, rfl, _, rfl, ((b.getLastD 0 : Nat) : Int) + 1, ((n : Nat) : Int), rfl, ⟨by omega, by omega, by omega, by omega⟩, ?_⟩
        rw [show (((n : Nat) : Int) - (((b.getLastD 0 : Nat) : Int) + 1)).toNat = n - (b.getLastD 0 + 1) by omega]
        refine comp_rng (lo := ((b.getLastD 0 : Nat) : Int) + 1) (n := n - (b.getLastD 0 + 1)) (fun m ys H4 => Same H3 H4 ∧ TpAt H4 ys (lgr1 n b m)) ⟨Same.refl _, trivial⟩ ?_ ?_
        · rintro m ys H4 N hm ⟨s4, hy⟩ nx
          refine ⟨Weak.set (by intro v z; cases z), ⟨_, rfl, _, rfl, by show 1 ≤ sizeLine; decide, fun t ht => ?_⟩⟩
          have v2 := same_new (o := .tup [V.int (((b.getLastD 0 : Nat) : Int) + 1 + ((m : Nat) : Int))]) ht
          refine ⟨a, t, _, _, rfl, rfl, SqT.of (v2 _ _ (s4 _ _ ha)), SqT.of upd_same, fun z => ?_, ?_, fun z => absurd z (by simp), fun _ t2 ht2 => ⟨?_, nx _ _ ⟨s4.trans (v2.trans (same_new ht2)), ?_⟩⟩⟩
          · have := congrArg List.length z
            rw [nats_len] at this
            simp at this
            rw [this] at e1
            simp at e1
          · rw [nats_len]
            exact Nat.le_trans (show b.length + 1 ≤ 61 by omega) (by decide)
          · rw [hy.len, lgr1_len]
            exact Nat.lt_of_le_of_lt (show m ≤ 13 by omega) (by decide)
          · rw [lgr1_snoc]
            refine TpAt.snoc ?_ (hy.sm (v2.trans (same_new ht2)))
            rw [upd_same, nats_snoc, show (((b.getLastD 0 : Nat) : Int) + 1 + ((m : Nat) : Int)) = ((b.getLastD 0 + 1 + m : Nat) : Int) by omega]
        · rintro ys H4 ⟨s4, hy⟩
          have hyl : ys.length ≤ 13 := by rw [hy.len, lgr1_len]; omega
          have hwl : ws.length ≤ 13 * 2197 := by
            rw [hW.len]
            refine Nat.le_trans lgr_len (Nat.mul_le_mul hn ?_)
            rw [List.length_take]
            omega
          refine ⟨Nat.le_trans hyl (by decide), fun t ht => ?_⟩
          have v3 := same_new (o := .lst ys) ht
          have s5 := s4.trans v3
          have htd : t ≠ d := fun z => by
            rw [z, s4 _ _ hd3] at ht
            cases ht
          refine ⟨d, t, _, _, rfl, rfl, s5 _ _ hd3, upd_same, Nat.le_trans (show ws.length + ys.length ≤ 29000 by omega) (by decide), ?_⟩
          have hne : ∀ {x : Addr} {xs : List V}, (upd H4 t (.lst ys)) x = some (.tup xs) → x ≠ d := fun e z => by
            rw [z, s5 _ _ hd3] at e
            cases e
          refine ⟨same_upd (s3.trans s5) (s2.free hd), ws ++ ys, _, rfl, by rw [upd_ne hgd]; exact s5 _ _ hg3, (hB3.sm s5).same (fun _ _ q => by rw [upd_ne (hne q)]; exact q), upd_same, ?_⟩
          rw [lgr_snoc hb]
          exact TpAt.app ((hW.sm s5).same fun _ _ q => by rw [upd_ne (hne q)]; exact q) ((hy.sm v3).same fun _ _ q => by rw [upd_ne (hne q)]; exact q)
      · rintro σ H3 ⟨s3, ws, x5, rfl, hg3, hB3, hd3, hW⟩
        have e : bs.take us.length = bs := by rw [hB.len]; exact List.take_length
        rw [e] at hW
        refine ⟨_, rfl, s3, d, ws, _, _, _, rfl, s2.free hd, hd3, ?_⟩
        show TpAt H3 ws (lgr n (nght n i))
        rw [hbs]
        exact hW
    · rintro σ H2 ⟨s2, g, us, x3, x4, x5, rfl, hg0, hg2, hB⟩
      exact ⟨_, rfl, q g us H2 hg0 s2 hg2 hB⟩
/-! ### whether some rows add up -/
def spSome (ok : Nat → Prop) : Sp := fun vs H Q _ => ∃ (l r : Addr) (m : Nat) (lacks : List Nat) (ws : List V) (rows : List (List Nat)), vs = [.ref l, .int ((m : Nat) : Int), .ref r] ∧ H l = some (.lst (nats lacks)) ∧ H r = some (.lst ws) ∧ BlAt H ws rows ∧ (∀ r ∈ rows, r.length = lacks.length) ∧ 0 < lacks.length ∧ lacks.length ≤ 60 ∧ rows.length ≤ 10000 ∧ m ≤ 20 ∧ ok m ∧ (m = 0 ∨ 0 < lacks.sum) ∧
  ∀ (b : Bool) H', Same H H' → (b = true → ∃ rs : List (List Nat), rs.length = m ∧ (∀ r ∈ rs, r ∈ rows) ∧ ∀ d, tot rs d ≤ lacks.getD d 0) → Q (.bl b) H'
theorem nats_ints (L : List Nat) : nats L = (L.map fun x => ((x : Nat) : Int)).map V.int := by
  unfold nats
  rw [List.map_map]
  rfl
theorem sum_ints (L : List Nat) : (L.map fun x => ((x : Nat) : Int)).sum = ((L.sum : Nat) : Int) := by
  induction L with
  | nil => rfl
  | cons x L ih => rw [List.map_cons, List.sum_cons, ih, List.sum_cons, Int.natCast_add]
/-- what is left, perhaps below nought -/
def lftI (row lacks : List Nat) (k : Nat) : List Int := (List.range k).map fun d => ((lacks.getD d 0 : Nat) : Int) - ((row.getD d 0 : Nat) : Int)
theorem lftI_snoc (row lacks : List Nat) (k : Nat) : lftI row lacks (k + 1) = lftI row lacks k ++ [((lacks.getD k 0 : Nat) : Int) - ((row.getD k 0 : Nat) : Int)] := by
  unfold lftI
  rw [List.range_succ, List.map_append]
  rfl
theorem lftI_len (row lacks : List Nat) (k : Nat) : (lftI row lacks k).length = k := by
  unfold lftI
  rw [List.length_map, List.length_range]
theorem lft_fit {row lacks : List Nat} (hl : row.length = lacks.length) (h : ∀ x ∈ lftI row lacks lacks.length, 0 ≤ x) : (fitL row lacks).all id = true := by
  refine (fit_iff hl).mpr fun d => ?_
  by_cases hd : d < lacks.length
  · have := h _ (List.mem_map_of_mem (f := fun d => ((lacks.getD d 0 : Nat) : Int) - ((row.getD d 0 : Nat) : Int)) (List.mem_range.mpr hd))
    omega
  · have : row.getD d 0 = 0 := by
      rw [List.getD_eq_getElem?_getD, List.getElem?_eq_none (by omega)]
      rfl
    omega
theorem lft_sub {row lacks : List Nat} (hl : row.length = lacks.length) (h : (fitL row lacks).all id = true) : lftI row lacks lacks.length = (subL row lacks).map fun x => ((x : Nat) : Int) := by
  have h' := (fit_iff hl).mp h
  apply List.ext_getElem
  · rw [lftI_len, List.length_map]
    unfold subL
    rw [List.length_zipWith]
    omega
  intro i h1 h2
  rw [List.length_map] at h2
  have e := sub_at hl i
  have e2 : (subL row lacks).getD i 0 = (subL row lacks)[i] := by rw [List.getD_eq_getElem?_getD, List.getElem?_eq_getElem h2]; rfl
  have := h' i
  have e3 : (lftI row lacks lacks.length)[i] = ((lacks.getD i 0 : Nat) : Int) - ((row.getD i 0 : Nat) : Int) := by simp [lftI]
  rw [e3, List.getElem_map, ← e2, e]
  omega
theorem scLSome : FnScope ["_law_lacks", "_law_many", "_law_rows", "_law_spot", "_law_row", "_law_left"] ["_law_lacks", "_law_many", "_law_rows"] (defScope sLSome) := ⟨rfl, rfl, rfl, by decide +kernel, rfl, by decide +kernel, by decide +kernel⟩
theorem get_nats {L : List Nat} {d : Nat} (h : d < L.length) : (nats L)[d]? = some (.int ((L.getD d 0 : Nat) : Int)) := by
  unfold nats
  rw [List.getElem?_map, List.getElem?_eq_getElem h, List.getD_eq_getElem?_getD, List.getElem?_eq_getElem h]
  rfl
theorem some_at {L : List Nat} (h : 0 < L.sum) : ∃ d, d < L.length ∧ 0 < L.getD d 0 := by
  induction L with
  | nil => simp at h
  | cons x L ih =>
    by_cases hx : 0 < x
    · exact ⟨0, by simp, by simpa using hx⟩
    · rw [List.sum_cons] at h
      obtain ⟨d, h1, h2⟩ := ih (by omega)
      exact ⟨d + 1, by simpa using h1, by simpa using h2⟩
theorem ok_some_step {kk j : Nat} {f : Addr} {fd : FuncData} (F : Fun K "_law_some" "_law_some" sLSome f fd) (T : TxtB mg) (pS : Pm P w K mg base CX0 kk "_law_some" ["_law_lacks", "_law_many", "_law_rows"] (spSome fun m => m < j)) : FnOk P w K mg base CX0 (kk + 1) f fd ["_law_lacks", "_law_many", "_law_rows"] (spSome fun m => m < j + 1) := by
  refine F.okQ scLSome (fun vs H Q E h => ?_) (fun cdv A outer s H vs Q E hr h => ?_)
  · obtain ⟨l, r, m, lacks, ws, rows, rfl, _⟩ := h
    rfl
  · obtain ⟨l, r, m, lacks, ws, rows, rfl, hl, hr', hB, hrl, h0, h60, hrows, hm20, hmj, hsum, q⟩ := h
    refine ⟨_, (qss_cons (qs_if (qt_cmpR op_eq (qv 1) qe_int (nomark _)) (qss_one (qs_ret (qe_cmpR op_eq (qe_callB (call_maxI rfl) (by rfl) T.max PyProof.Rows.boot_max (qac (qv 0) qa_nil)) qe_int (nomark _)))) qss_nil)
      (qss_cons (qs_set (i := 3) scLSome.nd rfl (Or.inl rfl) qe_int)
      (qss_cons (qs_while PassesOwn.never (qt_cmpR op_eq (qe_ix ix_list (qv 0) (qv 3) (fun _ _ => rfl)) qe_int (nomark _))
        (qss_one (qs_set (i := 3) scLSome.nd rfl (Or.inl rfl) (qe_op op_add (qv 3) qe_int))))
      (qss_cons (qs_for PassesOwn.never rfl (qi_list (qv 2)) (qg_name (i := 4) scLSome.nd rfl (Or.inr rfl))
        (qss_cons (qs_setComp (i := 5) (g := gName 0) (N := ["_law_d", "_law_lacks", "_law_row"]) (src := [none, some 0, some 4]) rfl (comp_scope (defScope sLSome) ["_law_lacks", "_law_many", "_law_rows", "_law_spot", "_law_row", "_law_left"] rfl rfl (by decide +kernel) rfl) (qi_range1 rfl T.range (qac (qe_callB call_len_seq (by rfl) T.len PySem.boot_len (qac (qv 0) qa_nil)) qa_nil)) (fun _ _ _ _ _ => (qg_name (i := 0) (show (["_law_d", "_law_lacks", "_law_row"] : List Str).Nodup by decide +kernel) rfl (Or.inl rfl) (Or.inr rfl))) (fun _ _ _ _ _ => qif_nil) (fun _ _ _ _ _ => (qe_op op_sub (qe_ix (show IxR _ (rIxL K) from ix_list) (qv 1) (qv 0) (fun _ _ => rfl)) (qe_ix (show IxR _ (rIxL K) from ix_list) (qv 2) (qv 0) (fun _ _ => rfl)))) (qg_name (i := 5) scLSome.nd rfl (Or.inl rfl)))
        (qss_one (qs_if (QW.pt (qw_and (qt_cmpR op_gt (qe_ix ix_list (qv 4) (qv 3) (fun _ _ => rfl)) qe_int (nomark _)) (qw_and (qt_cmpR op_ge (qe_callB (call_minI rfl) (by rfl) T.min PyProof.Rows.boot_min (qac (qv 5) qa_nil)) qe_int (nomark _)) (qw_and1 (QW.pt (qw_or (qt_cmpR op_eq (qv 1) qe_int (nomark _)) (qw_or1 (qt_cmpR op_gt (qe_callB (call_sumI rfl) (by rfl) T.sum (by decide +kernel) (qac (qv 5) qa_nil)) qe_int (nomark _))))))))) (qss_one (qs_if (qt_val (qe_callP pS hr rfl pass0 (qac (qv 5) (qac (qe_op op_sub (qv 1) qe_int) (qac (qv 2) qa_nil))))) (qss_one (qs_ret qe_bl)) qss_nil)) qss_nil))))
      (qss_one (qs_ret qe_bl)))))), ?_⟩
    refine ⟨_, rfl, rfl, _, rfl, ?_⟩
    by_cases hm : m = 0
    · subst hm
      refine ejT rfl ⟨_, rfl, l, _, rfl, (show SqL K H l ((lacks.map fun x => ((x : Nat) : Int)).map V.int) from nats_ints lacks ▸ SqL.of hl), by rw [List.length_map]; exact h0, fun x _ _ => ⟨rfl, q _ _ (Same.refl _) fun _ => ⟨[], rfl, nofun, fun d => Nat.zero_le _⟩⟩⟩
    · refine ejF (by omega) ?_
      have hs := hsum.resolve_left hm
      obtain ⟨d0, hd0, hd1⟩ := some_at hs
      refine while_w (fun σ H2 => H2 = H ∧ ∃ sp : Nat, sp ≤ d0 ∧ σ = [some (.ref l), some (.int ((m : Nat) : Int)), some (.ref r), some (.int ((sp : Nat) : Int)), none, none]) (fun σ _ => match σ with | [_, _, _, some (.int i), _, _] => lacks.length - i.toNat | _ => 0) ⟨rfl, 0, Nat.zero_le _, rfl⟩ ?_
      rintro mm σ H2 ⟨rfl, sp, hsp, rfl⟩ em
      refine ⟨_, rfl, _, rfl, l, _, _, _, rfl, rfl, SqL.of hl, atI_nat (get_nats (show sp < lacks.length by omega)), rfl, _, rfl, ?_⟩
      by_cases hz : lacks.getD sp 0 = 0
      · refine ejT (by omega) (WTurn.of ⟨_, rfl, _, _, rfl, rfl, ⟨rfl, sp + 1, ?_, rfl⟩, ?_⟩)
        · by_cases e : sp = d0
          · rw [e] at hz
            omega
          · omega
        · rw [em]
          show lacks.length - (((sp : Nat) : Int) + 1).toNat < lacks.length - (((sp : Nat) : Int)).toNat
          omega
      · refine ejF (by omega) ?_
        refine ⟨_, rfl, r, rfl, ⟨_, SqL.of hr'⟩, for_list (K := K) (xs := ws) (fun i σ H3 => Same H2 H3 ∧ ∃ x4 x5 : Option V, σ = [some (.ref l), some (.int ((m : Nat) : Int)), some (.ref r), some (.int ((sp : Nat) : Int)), x4, x5]) ⟨Same.refl _, _, _, rfl⟩ (fun i σ H3 _ ⟨s3, _⟩ => SqL.of (s3 _ _ hr')) ?_ ?_⟩
        · rintro i v σ H3 hi ⟨s3, x4, x5, rfl⟩
          obtain ⟨a, row, rfl, hrow, ha⟩ := (hB.same s3).get hi
          have hrm := List.mem_of_getElem? hrow
          have hlen := hrl row hrm
          have hl3 := s3 _ _ hl
          refine ⟨_, rfl, l, _, rfl, .inl (SqL.of hl3), ((lacks.length : Nat) : Int), by rw [nats_len], by omega, by omega, ?_⟩
          rw [Int.toNat_natCast]
          refine comp_rng (lo := 0) (n := lacks.length) (fun d ys H4 => H4 = H3 ∧ ys = (lftI row lacks d).map V.int) ⟨rfl, rfl⟩ ?_ ?_
          · rintro d ys H4 N hd ⟨rfl, rfl⟩ nx
            rw [Int.zero_add]
            refine ⟨Weak.set (by intro v z; cases z), ⟨_, rfl, _, rfl, l, _, _, _, rfl, rfl, SqL.of hl3, atI_nat (get_nats hd), _, rfl, _, rfl, a, _, _, _, rfl, rfl, SqL.of ha, atI_nat (get_nats (by omega)), _, _, rfl, rfl, ?_, nx _ _ ⟨rfl, ?_⟩⟩⟩
            · rw [List.length_map, lftI_len]
              exact Nat.lt_of_lt_of_le hd (Nat.le_trans h60 (by decide))
            · rw [lftI_snoc, List.map_append]
              rfl
          · rintro ys H4 ⟨rfl, rfl⟩
            refine ⟨by rw [List.length_map, lftI_len]; exact Nat.le_trans h60 (by decide), fun c hc => ?_⟩
            have v1 := same_new (o := .lst ((lftI row lacks lacks.length).map V.int)) hc
            have hc1 : (upd H4 c (.lst ((lftI row lacks lacks.length).map V.int))) c = some (.lst ((lftI row lacks lacks.length).map V.int)) := upd_same
            dsimp only [gName]
            generalize upd H4 c (.lst ((lftI row lacks lacks.length).map V.int)) = H5 at v1 hc1 ⊢
            have s5 := s3.trans v1
            have ha5 := v1 _ _ ha
            have hz0 : 0 < (lftI row lacks lacks.length).length := by rw [lftI_len]; exact h0
            refine ⟨_, rfl, _, rfl, a, _, _, _, rfl, rfl, SqL.of ha5, atI_nat (get_nats (show sp < row.length by omega)), _, _, rfl, rfl, _, rfl, ?_⟩
            by_cases h1 : 0 < row.getD sp 0
            · refine ifT (by omega) ⟨_, rfl, c, _, rfl, SqL.of hc1, hz0, fun mn hmn hle => ⟨_, _, rfl, rfl, _, rfl, ?_⟩⟩
              by_cases h2 : 0 ≤ mn
              · refine ifT h2 ?_
                have hfit := lft_fit hlen fun x hx => Int.le_trans h2 (hle x hx)
                have hsub := lft_sub hlen hfit
                rw [hsub] at hc1
                have hsl : (subL row lacks).length = lacks.length := by unfold subL; rw [List.length_zipWith]; omega
                refine or_p (decide (m = 1)) (decide (0 < (subL row lacks).sum)) (fun Q' z => ⟨_, rfl, rfl, _, rfl, ?_⟩) (fun _ Q' z => ⟨_, rfl, c, _, rfl, SqL.of hc1, _, _, rfl, rfl, _, rfl, ?_⟩) ?_
                · rw [show decide (V.int ((m : Nat) : Int) = V.int 1) = decide (m = 1) by by_cases e : m = 1 <;> simp [e] <;> omega]
                  exact z
                · rw [sum_ints, show decide ((0 : Int) < (((subL row lacks).sum : Nat) : Int)) = decide (0 < (subL row lacks).sum) by by_cases e : 0 < (subL row lacks).sum <;> simp [e]]
                  exact z
                · refine ite2 (fun hc => ?_) (fun hc => ⟨s5, _, _, rfl⟩)
                  have hor : m - 1 = 0 ∨ 0 < (subL row lacks).sum := by
                    rcases Bool.or_eq_true _ _ ▸ hc with z | z
                    · exact .inl (by have := of_decide_eq_true z; omega)
                    · exact .inr (of_decide_eq_true z)
                  refine ⟨_, rfl, _, rfl, _, _, rfl, rfl, _, rfl, c, r, m - 1, subL row lacks, ws, rows, ?_, by rw [nats_ints]; exact hc1, s5 _ _ hr', hB.same s5, fun r' hr2 => by rw [hsl]; exact hrl r' hr2, by omega, by omega, hrows, by omega, by omega, hor, fun b H6 s6 hb => ⟨b, rfl, ?_⟩⟩
                  · show [V.ref c, V.int (((m : Nat) : Int) - 1), V.ref r] = _
                    rw [show ((m : Nat) : Int) - 1 = ((m - 1 : Nat) : Int) by omega]
                  · cases b with
                    | false => exact iteF ⟨s5.trans s6, _, _, rfl⟩
                    | true =>
                      refine iteT (q true _ (s5.trans s6) fun _ => ?_)
                      obtain ⟨rs, e1, e2, e3⟩ := hb rfl
                      refine ⟨row :: rs, by rw [List.length_cons, e1]; omega, fun r' hr2 => ?_, fun d => ?_⟩
                      · rcases List.mem_cons.mp hr2 with rfl | z
                        · exact hrm
                        · exact e2 r' z
                      · have g1 := e3 d
                        rw [sub_at hlen] at g1
                        have g2 := (fit_iff hlen).mp hfit d
                        show row.getD d 0 + tot rs d ≤ _
                        omega
              · exact ifF h2 (iteF ⟨s5, _, _, rfl⟩)
            · exact ifF (by omega) (iteF ⟨s5, _, _, rfl⟩)
        · rintro σ H3 ⟨s3, x4, x5, rfl⟩
          exact q _ _ s3 (fun z => by cases z)
theorem ok_some {f : Addr} {fd : FuncData} (F : Fun K "_law_some" "_law_some" sLSome f fd) (T : TxtB mg) (hm : mg "_law_some" = some (.ref f)) (hb : Binds K fd ["_law_lacks", "_law_many", "_law_rows"] []) : ∀ j, FnOk P w K mg base CX0 (j + 1) f fd ["_law_lacks", "_law_many", "_law_rows"] (spSome fun m => m < j)
  | 0 => FnOk.never.imp fun vs H Q E h => by
    obtain ⟨_, _, _, _, _, _, _, _, _, _, _, _, _, _, _, h, _⟩ := h
    exact absurd h (Nat.not_lt_zero _)
  | j + 1 => ok_some_step F T ⟨f, fd, hm, F.kp, hb, ok_some F T hm hb j⟩
/-! ### sums of differences -/
theorem sum_const {c : Nat} : ∀ {L : List Nat}, (∀ x ∈ L, x = c) → L.sum = L.length * c
  | [], _ => by simp
  | x :: L, h => by
    rw [List.sum_cons, sum_const fun y hy => h y (List.mem_cons_of_mem _ hy), h x (List.mem_cons_self ..), List.length_cons, Nat.succ_mul]
    omega
theorem sum_nil0 {L : List Nat} (h : ∀ x ∈ L, x = 0) : L.sum = 0 := by rw [sum_const h, Nat.mul_zero]
theorem one_at (v : Nat) : ∀ m : Nat, ((List.range m).map fun d => if v = 1 + d then 1 else 0).sum = if 1 ≤ v ∧ v ≤ m then 1 else 0
  | 0 => by
    rw [if_neg (by omega)]
    rfl
  | m + 1 => by
    rw [List.range_succ, List.map_append, List.sum_append, one_at v m]
    simp only [List.map_cons, List.map_nil, List.sum_cons, List.sum_nil]
    by_cases h : v = 1 + m
    · simp only [if_pos h, if_neg (show ¬ (1 ≤ v ∧ v ≤ m) by omega), if_pos (show 1 ≤ v ∧ v ≤ m + 1 by omega), Nat.add_zero, Nat.zero_add]
    · rw [if_neg h]
      by_cases h2 : 1 ≤ v ∧ v ≤ m
      · simp only [if_pos h2, if_pos (show 1 ≤ v ∧ v ≤ m + 1 by omega), Nat.add_zero, Nat.zero_add]
      · simp only [if_neg h2, if_neg (show ¬ (1 ≤ v ∧ v ≤ m + 1) by omega), Nat.add_zero, Nat.zero_add]
theorem sum_addF (f g : Nat → Nat) (L : List Nat) : (L.map fun d => f d + g d).sum = (L.map f).sum + (L.map g).sum := by
  induction L with
  | nil => rfl
  | cons x L ih =>
    rw [List.map_cons, List.sum_cons, ih, List.map_cons, List.sum_cons, List.map_cons, List.sum_cons]
    omega
theorem dif_one {n i : Nat} (hi : i < n) : ∀ {b : List Nat}, (∀ j ∈ b, j < n) → ((List.range (n - 1)).map fun d => b.countP fun j => rD n (1 + d) i j).sum = b.countP fun j => decide (j ≠ i)
  | [], _ => by
    rw [List.countP_nil]
    exact sum_nil0 (fun x hx => by obtain ⟨d, _, rfl⟩ := List.mem_map.mp hx; rfl)
  | j :: b, hb => by
    have ih := dif_one hi (b := b) fun j hj => hb j (List.mem_cons_of_mem _ hj)
    have hj := hb j (List.mem_cons_self ..)
    have e : (fun d => (j :: b).countP fun j => rD n (1 + d) i j) = fun d => (b.countP fun j => rD n (1 + d) i j) + if (i + (n - j)) % n = 1 + d then 1 else 0 := by
      funext d
      rw [List.countP_cons]
      unfold rD
      simp only [decide_eq_true_eq]
    rw [e, sum_addF, ih, one_at, List.countP_cons]
    congr 1
    have hv : (i + (n - j)) % n < n := Nat.mod_lt _ (by omega)
    by_cases h : j = i
    · subst h
      rw [show j + (n - j) = n by omega, Nat.mod_self, if_neg (by omega), if_neg (by simp)]
    · have : (i + (n - j)) % n ≠ 0 := fun z => by
        by_cases hij : i < j
        · rw [Nat.mod_eq_of_lt (by omega)] at z
          omega
        · rw [show i + (n - j) = n + (i - j) by omega, Nat.add_mod_left, Nat.mod_eq_of_lt (by omega)] at z
          omega
      rw [if_pos (by omega), if_pos (decide_eq_true h)]
theorem cnt_other {i : Nat} : ∀ {b : List Nat}, b.Nodup → i ∈ b → (b.countP fun j => decide (j ≠ i)) = b.length - 1
  | [], _, h => nomatch h
  | x :: b, hb, hi => by
    obtain ⟨h1, h2⟩ := List.nodup_cons.mp hb
    rw [List.countP_cons, List.length_cons]
    by_cases e : x = i
    · have : (b.countP fun j => decide (j ≠ i)) = b.length := List.countP_eq_length.mpr fun j hj => decide_eq_true fun z => h1 (by rw [e, ← z]; exact hj)
      rw [this, if_neg (by simp [e])]
      rfl
    · have hi2 : i ∈ b := (List.mem_cons.mp hi).resolve_left (Ne.symm e)
      have := List.length_pos_of_mem hi2
      rw [cnt_other h2 hi2, if_pos (decide_eq_true e)]
      omega
theorem sum_rows (f : Nat → Nat → Nat) (L : List Nat) : ∀ b : List Nat, (L.map fun d => (b.map fun i => f d i).sum).sum = (b.map fun i => (L.map fun d => f d i).sum).sum
  | [] => sum_nil0 (fun x hx => by obtain ⟨d, _, rfl⟩ := List.mem_map.mp hx; rfl)
  | i :: b => by
    have e : (fun d => ((i :: b).map fun i => f d i).sum) = fun d => f d i + (b.map fun i => f d i).sum := by
      funext d
      rw [List.map_cons, List.sum_cons]
    rw [e, sum_addF, sum_rows f L b, List.map_cons, List.sum_cons]
theorem dif_sum {n : Nat} {b : List Nat} (hb : Blk n b) : (difL n [b]).sum = b.length * (b.length - 1) := by
  have e : difL n [b] = (List.range (n - 1)).map fun d => (b.map fun i => b.countP fun j => rD n (1 + d) i j).sum := by
    unfold difL tD cD
    refine List.map_congr_left fun d _ => ?_
    rw [List.map_cons, List.map_nil, List.sum_cons, List.sum_nil, Nat.add_zero]
  rw [e, sum_rows (fun d i => b.countP fun j => rD n (1 + d) i j) _ b]
  have e2 : (b.map fun i => ((List.range (n - 1)).map fun d => b.countP fun j => rD n (1 + d) i j).sum) = b.map fun _ => b.length - 1 := List.map_congr_left fun i hi => by
    rw [dif_one (hb.lt i hi) hb.lt, cnt_other hb.nd hi]
  rw [e2, sum_const (c := b.length - 1) (fun x hx => by obtain ⟨_, _, rfl⟩ := List.mem_map.mp hx; rfl), List.length_map]
theorem getD_sum (r : List Nat) : ((List.range r.length).map fun d => r.getD d 0).sum = r.sum := by
  have : (List.range r.length).map (fun d => r.getD d 0) = r := by
    apply List.ext_getElem
    · simp
    intro i h1 h2
    simp [h2]
  rw [this]
theorem tot_sum {m : Nat} : ∀ {rs : List (List Nat)}, (∀ r ∈ rs, r.length = m) → ((List.range m).map (tot rs)).sum = (rs.map List.sum).sum
  | [], _ => sum_nil0 (fun x hx => by obtain ⟨d, _, rfl⟩ := List.mem_map.mp hx; rfl)
  | r :: rs, h => by
    have e : tot (r :: rs) = fun d => r.getD d 0 + tot rs d := rfl
    rw [e, sum_addF, tot_sum fun r' hr => h r' (List.mem_cons_of_mem _ hr), List.map_cons, List.sum_cons, ← h r (List.mem_cons_self ..), getD_sum]
theorem sum_le (l : Nat) (f : Nat → Nat) : ∀ m : Nat, (∀ d, d < m → f d ≤ l) → ((List.range m).map f).sum ≤ l * m
  | 0, _ => Nat.zero_le _
  | m + 1, h => by
    rw [List.range_succ, List.map_append, List.sum_append, Nat.mul_succ]
    have := sum_le l f m fun d hd => h d (by omega)
    have h2 := h m (by omega)
    simp only [List.map_cons, List.map_nil, List.sum_cons, List.sum_nil]
    omega
theorem all_full (l : Nat) (f : Nat → Nat) : ∀ m : Nat, (∀ d, d < m → f d ≤ l) → ((List.range m).map f).sum = l * m → ∀ d, d < m → f d = l
  | 0, _, _, d, hd => absurd hd (Nat.not_lt_zero _)
  | m + 1, h, hs, d, hd => by
    rw [List.range_succ, List.map_append, List.sum_append, Nat.mul_succ] at hs
    have h1 := sum_le l f m fun d hd => h d (by omega)
    have h2 := h m (by omega)
    simp only [List.map_cons, List.map_nil, List.sum_cons, List.sum_nil] at hs
    by_cases e : d = m
    · subst e
      omega
    · exact all_full l f m (fun d hd => h d (by omega)) (by omega) d (by omega)
/-- bases whose differences come at most so often, and are as many as all: they come just so often -/
theorem tot_full {n k l : Nat} {bs : List (List Nat)} (hb : ∀ b ∈ bs, Blk n b ∧ b.length = k) (hl : bs.length * (k * (k - 1)) = l * (n - 1)) (h : ∀ d, tot (bs.map fun b => difL n [b]) d ≤ (List.replicate (n - 1) l).getD d 0) : ∀ d, d < n - 1 → tot (bs.map fun b => difL n [b]) d = l := by
  refine all_full l _ (n - 1) (fun d hd => ?_) ?_
  · have := h d
    rw [List.getD_eq_getElem?_getD, List.getElem?_replicate, if_pos hd] at this
    exact this
  · rw [tot_sum fun r hr => by obtain ⟨b, _, rfl⟩ := List.mem_map.mp hr; exact dif_lenQ n [b], ← hl, List.map_map]
    rw [sum_const (c := k * (k - 1)) fun x hx => ?_, List.length_map]
    obtain ⟨b, hb', rfl⟩ := List.mem_map.mp hx
    obtain ⟨h1, h2⟩ := hb b hb'
    show (difL n [b]).sum = _
    rw [dif_sum h1, h2]
theorem eqv_blkD (L : List Nat) : PyData.eqv (dBlk L) (dBlk L) = true := by
  simp only [dBlk, PyData.eqv]
  exact eqv_ints' L
/-! ### bases looked at -/
def spRight : Sp := fun vs H Q _ => ∃ (g : Addr) (n k l : Nat) (ws : List V) (bs : List (List Nat)), vs = [.ref g, .int ((n : Nat) : Int), .int ((k : Nat) : Int), .int ((l : Nat) : Int)] ∧ H g = some (.lst ws) ∧ BlAt H ws bs ∧ 1 ≤ n ∧ n ≤ 13 ∧ (∀ b ∈ bs, Blk n b ∧ b.length = k) ∧ (∀ d, d < n - 1 → tot (bs.map fun b => difL n [b]) d = l) ∧ ∀ H', Same H H' → Q (.bl true) H'
theorem scLBasesRight : FnScope ["_law_found", "_law_n", "_law_k", "_law_times", "_law_total", "_law_base", "_law_row"] ["_law_found", "_law_n", "_law_k", "_law_times"] (defScope sLBasesRight) := ⟨rfl, rfl, rfl, by decide +kernel, rfl, by decide +kernel, by decide +kernel⟩
theorem tot_snoc (rs : List (List Nat)) (r : List Nat) (d : Nat) : tot (rs ++ [r]) d = tot rs d + r.getD d 0 := by
  unfold tot
  rw [List.map_append, List.sum_append]
  simp
theorem ok_right {f : Addr} {fd : FuncData} (F : Fun K "_law_bases_right" "_law_bases_right" sLBasesRight f fd) (T : TxtB mg) (pLCounted : Pm P w K mg base CX0 1 "_law_counted" ["_law_n", "_law_base"] spCnt) : FnOk P w K mg base CX0 2 f fd ["_law_found", "_law_n", "_law_k", "_law_times"] spRight := by
  refine F.okQ scLBasesRight (fun vs H Q E h => ?_) (fun cdv A outer s H vs Q E hr1 h => ?_)
  · obtain ⟨g, n, k, l, ws, bs, rfl, _⟩ := h
    rfl
  · obtain ⟨g, n, k, l, ws, bs, rfl, hg, hB, hn1, hn2, hbb, hT, q⟩ := h
    refine ⟨_, (qss_cons (qs_set (i := 4) scLBasesRight.nd rfl (Or.inr rfl) (qe_op op_mulL (qe_lst (qac qe_int qa_nil)) (qe_op op_sub (qv 1) qe_int)))
      (qss_cons (qs_if (qt_not (qt_val (qe_callB call_isinst (by rfl) T.isi PyProof.Rows.boot_isinstance (qac (qv 0) (qac (qe_bltn (v := .ty "list") rfl T.lst (by decide +kernel) rfl) qa_nil))))) (qss_one (qs_ret qe_bl)) qss_nil)
      (qss_cons (qs_for PassesOwn.never rfl (qi_list (qv 0)) (qg_name (i := 5) scLBasesRight.nd rfl (Or.inl rfl))
        (qss_cons (qs_if (QW.pt (qw_or (qt_not (qt_val (qe_callB call_isinst (by rfl) T.isi PyProof.Rows.boot_isinstance (qac (qv 5) (qac (qe_bltn (v := .ty "list") rfl T.lst (by decide +kernel) rfl) qa_nil))))) (qw_or (qt_cmpR op_ne (qe_callB call_len_seq (by rfl) T.len PySem.boot_len (qac (qv 5) qa_nil)) (qv 2) (nomark _)) (qw_or1 (qt_cmpR op_ne (qe_callB call_len_setI (by rfl) T.len PySem.boot_len (qac (qe_callTy (call_setJ rfl) (by rfl) T.set (by decide +kernel) (qac (qv 5) qa_nil)) qa_nil)) (qv 2) (nomark _)))))) (qss_one (qs_ret qe_bl)) qss_nil)
        (qss_cons (qs_if (qt_not (qt_val (qe_callB (call_all rfl) (by rfl) T.all (by decide +kernel) (qac (qe_comp (g := gName 0) (N := ["_law_point", "_law_n"]) (src := [none, some 1]) rfl (comp_scope (defScope sLBasesRight) ["_law_found", "_law_n", "_law_k", "_law_times", "_law_total", "_law_base", "_law_row"] rfl rfl (by decide +kernel) rfl) (qi_list (qv 5)) (fun _ _ _ _ _ => (qg_name (i := 0) (show (["_law_point", "_law_n"] : List Str).Nodup by decide +kernel) rfl (Or.inl rfl) (Or.inr rfl))) (fun _ _ _ _ _ => qif_nil) (fun _ _ _ _ _ => (qe_and (qe_callB (show CallR _ _ (rInstQ K) from call_isinst) (by rfl) T.isi PyProof.Rows.boot_isinstance (qac (qv 0) (qac (qe_bltn (v := .ty "int") rfl T.int (by decide +kernel) rfl) qa_nil))) (qe_and (qe_not (qe_callB (show CallR _ _ (rInstQ K) from call_isinst) (by rfl) T.isi PyProof.Rows.boot_isinstance (qac (qv 0) (qac (qe_bltn (v := .ty "bool") rfl T.bool (by decide +kernel) rfl) qa_nil)))) (qe_one (qe_chain op_le op_lt qe_int (qv 0) (qv 1))))))) qa_nil)))) (qss_one (qs_ret qe_bl)) qss_nil)
        (qss_cons (qs_set (i := 6) scLBasesRight.nd rfl (Or.inr rfl) (qe_callP pLCounted hr1 rfl pass0 (qac (qv 1) (qac (qv 5) qa_nil))))
        (qss_one (qs_set (i := 4) scLBasesRight.nd rfl (Or.inr rfl) (qe_comp (g := gName 0) (N := ["_law_d", "_law_total", "_law_row"]) (src := [none, some 4, some 6]) rfl (comp_scope (defScope sLBasesRight) ["_law_found", "_law_n", "_law_k", "_law_times", "_law_total", "_law_base", "_law_row"] rfl rfl (by decide +kernel) rfl) (qi_range1 rfl T.range (qac (qe_op op_sub (qv 1) qe_int) qa_nil)) (fun _ _ _ _ _ => (qg_name (i := 0) (show (["_law_d", "_law_total", "_law_row"] : List Str).Nodup by decide +kernel) rfl (Or.inl rfl) (Or.inr rfl))) (fun _ _ _ _ _ => qif_nil) (fun _ _ _ _ _ => (qe_op op_add (qe_ix (show IxR _ (rIxL K) from ix_list) (qv 1) (qv 0) (fun _ _ => rfl)) (qe_ix (show IxR _ (rIxL K) from ix_list) (qv 2) (qv 0) (fun _ _ => rfl)))))))))))
      (qss_one (qs_ret (qe_cmpR (op_eqD hr1.units) (qv 4) (qe_op op_mulL (qe_lst (qac (qv 3) qa_nil)) (qe_op op_sub (qv 1) qe_int)) (nomark _))))))), ?_⟩
    refine ⟨by show 1 ≤ sizeLine; decide, fun d hd => ⟨_, rfl, _, _, rfl, rfl, d, [V.int 0], _, rfl, rfl, SqL.of upd_same, by omega, by omega, by show 1 * _ ≤ 65536; omega, fun c hc => ?_⟩⟩
    have ez : (List.replicate (((n : Nat) : Int) - 1).toNat [V.int 0]).flatten = nats ((List.range (n - 1)).map (tot [])) := by
      rw [show (((n : Nat) : Int) - 1).toNat = n - 1 by omega, zeros]
      congr 1
      symm
      rw [List.eq_replicate_iff]
      exact ⟨by simp, fun b hb => by obtain ⟨p, _, rfl⟩ := List.mem_map.mp hb; rfl⟩
    rw [ez]
    have w1 := same_new (o := .lst [V.int 0]) hd
    have w2 := w1.trans (same_new (o := .lst (nats ((List.range (n - 1)).map (tot [])))) hc)
    have hc2 : upd (upd H d (.lst [V.int 0])) c (.lst (nats ((List.range (n - 1)).map (tot [])))) c = some (.lst (nats ((List.range (n - 1)).map (tot [])))) := upd_same
    dsimp only [gName]
    generalize upd (upd H d (.lst [V.int 0])) c (.lst (nats ((List.range (n - 1)).map (tot [])))) = H2 at w2 hc2 ⊢
    refine ⟨_, rfl, _, _, _, _, rfl, .lst (w2 _ _ hg), rel_ty (kit_lst_lst K), true, rfl, iteF ?_⟩
    refine ⟨_, rfl, g, rfl, ⟨_, SqL.of (w2 _ _ hg)⟩, for_list (K := K) (xs := ws) (fun i σ H3 => Same H H3 ∧ ∃ (c : Addr) (x5 x6 : Option V), σ = [some (.ref g), some (.int ((n : Nat) : Int)), some (.int ((k : Nat) : Int)), some (.int ((l : Nat) : Int)), some (.ref c), x5, x6] ∧ H3 c = some (.lst (nats ((List.range (n - 1)).map (tot ((bs.take i).map fun b => difL n [b])))))) ⟨w2, c, none, none, rfl, hc2⟩ (fun i σ H3 _ ⟨e, _⟩ => SqL.of (e _ _ hg)) ?_ ?_⟩
    · rintro i v σ H3 hi ⟨s3, c, x5, x6, rfl, hc3⟩
      obtain ⟨a, b, rfl, hb, ha⟩ := (hB.same s3).get hi
      obtain ⟨hBk, hbk⟩ := hbb b (List.mem_of_getElem? hb)
      have hbl := hBk.len
      refine ⟨_, rfl, _, _, _, _, rfl, .lst ha, rel_ty (kit_lst_lst K), true, rfl, iteF ?_⟩
      refine ⟨_, rfl, a, _, rfl, .inl (SqL.of ha), _, rfl, rfl, _, rfl, enF (by rw [nats_len, hbk]) ?_⟩
      refine ⟨_, rfl, a, b.map fun x => ((x : Nat) : Int), rfl, nats_ints b ▸ SqL.of ha, by rw [List.length_map]; omega, fun z S m hz hmm hml => ?_⟩
      have em : m = b.length := by
        rw [List.length_map] at hmm
        refine hmm.mpr ?_
        rw [List.nodup_iff_pairwise_ne, List.pairwise_map]
        exact hBk.nd.imp fun h e => h (by omega)
      have v1 := same_new (o := .set S m) hz
      refine ⟨z, S, m, rfl, upd_same, _, rfl, rfl, _, rfl, enF (by rw [em, hbk]) ?_⟩
      have ha1 := v1 _ _ ha
      have hc4 := v1 _ _ hc3
      have s4 := s3.trans v1
      generalize upd H3 z (.set S m) = H4 at ha1 hc4 s4 ⊢
      refine ⟨_, rfl, a, rfl, ⟨_, SqL.of ha1⟩, comp_list (K := K) (xs := nats b) (fun j zs H5 => H5 = H4 ∧ zs = (List.replicate j true).map V.bl) ⟨rfl, rfl⟩ (fun j zs H5 _ ⟨e, _⟩ => SqL.of (e ▸ ha1)) ?_ ?_⟩
      · rintro j v zs H5 N hj ⟨rfl, rfl⟩ nx
        obtain ⟨y, hy, rfl⟩ := L2.nats_get hj
        have hil := (List.getElem?_eq_some_iff.mp hy).1
        have hyn := hBk.lt y (List.mem_of_getElem? hy)
        refine ⟨Weak.set (by intro v z; cases z), ⟨_, rfl, _, _, _, _, rfl, .int _, rel_ty (kit_int_int K), true, rfl, iteT ⟨_, rfl, _, _, _, _, rfl, .int _, rel_ty (kit_int_bool K), false, rfl, true, rfl, iteT ⟨_, rfl, _, _, rfl, rfl, _, rfl, ifT (by omega) ⟨_, rfl, _, _, rfl, rfl, ?_⟩⟩⟩⟩⟩
        dsimp only
        rw [decide_eq_true (show ((y : Nat) : Int) < ((n : Nat) : Int) by omega)]
        refine ⟨?_, nx _ _ ⟨rfl, by rw [List.replicate_succ', List.map_append]; rfl⟩⟩
        rw [List.length_map, List.length_replicate]
        exact Nat.lt_of_lt_of_le (show j < 60 by omega) (by decide)
      · rintro zs H5 ⟨rfl, rfl⟩
        refine ⟨by rw [List.length_map, List.length_replicate, nats_len]; exact Nat.le_trans (show b.length ≤ 60 by omega) (by decide), fun r hr' => ⟨r, _, rfl, SqL.of upd_same, ?_⟩⟩
        rw [show (List.replicate (nats b).length true).all id = true by simp]
        refine ⟨_, rfl, iteF ?_⟩
        have v2 := same_new (o := .lst ((List.replicate (nats b).length true).map V.bl)) hr'
        have ha6 := v2 _ _ ha1
        have hc6 := v2 _ _ hc4
        have s6 := s4.trans v2
        generalize upd H5 r (.lst ((List.replicate (nats b).length true).map V.bl)) = H6 at ha6 hc6 s6 ⊢
        refine ⟨_, rfl, _, rfl, a, n, b, rfl, .inl ha6, hn1, by omega, hBk, fun u H7 _ s7 hu => ?_⟩
        have hc7 := s7 _ _ hc6
        refine ⟨_, rfl, _, _, rfl, rfl, ((n : Nat) : Int) - 1, rfl, by omega, by omega, ?_⟩
        rw [show (((n : Nat) : Int) - 1).toNat = n - 1 by omega]
        refine comp_rng (lo := 0) (n := n - 1) (fun e ys H8 => H8 = H7 ∧ ys = nats ((List.range e).map (tot ((bs.take (i + 1)).map fun b => difL n [b])))) ⟨rfl, rfl⟩ ?_ ?_
        · rintro e ys H8 N he ⟨rfl, rfl⟩ nx
          rw [Int.zero_add]
          refine ⟨Weak.set (by intro v z; cases z), ⟨_, rfl, _, rfl, c, _, _, _, rfl, rfl, SqL.of hc7, atI_nat (get_nats (by rw [List.length_map, List.length_range]; exact he)), _, rfl, _, rfl, u, _, _, _, rfl, rfl, SqL.of hu, atI_nat (get_nats (by rw [dif_lenQ]; exact he)), _, _, rfl, rfl, ?_, nx _ _ ⟨rfl, ?_⟩⟩⟩
          · rw [nats_len, List.length_map, List.length_range]
            exact Nat.lt_of_lt_of_le (show e < 60 by omega) (by decide)
          · rw [List.range_succ, List.map_append, List.map_cons, List.map_nil, nats_snoc, take_snoc hb, List.map_append, List.map_cons, List.map_nil, tot_snoc]
            congr 2
            have e1 : ((List.range (n - 1)).map (tot ((bs.take i).map fun b => difL n [b]))).getD e 0 = tot ((bs.take i).map fun b => difL n [b]) e := by
              rw [List.getD_eq_getElem?_getD, List.getElem?_map, List.getElem?_range he]
              rfl
            show V.int _ = _
            rw [e1, Int.natCast_add]
        · rintro ys H8 ⟨rfl, rfl⟩
          refine ⟨by rw [nats_len, List.length_map, List.length_range]; exact Nat.le_trans (show n - 1 ≤ 60 by omega) (by decide), fun e he => ?_⟩
          exact ⟨s6.trans (s7.trans (same_new he)), e, _, _, rfl, upd_same⟩
    · rintro σ H3 ⟨s3, c, x5, x6, rfl, hc3⟩
      rw [hB.len, List.take_length] at hc3
      have et : (List.range (n - 1)).map (tot (bs.map fun b => difL n [b])) = List.replicate (n - 1) l := by
        rw [List.eq_replicate_iff]
        exact ⟨by simp, fun x hx => by obtain ⟨e, he, rfl⟩ := List.mem_map.mp hx; exact hT e (List.mem_range.mp he)⟩
      rw [et] at hc3
      refine ⟨_, rfl, _, rfl, by show 1 ≤ sizeLine; decide, fun z hz => ?_⟩
      have v2 := same_new (o := .lst [V.int ((l : Nat) : Int)]) hz
      refine ⟨_, rfl, _, _, rfl, rfl, z, _, _, rfl, rfl, SqL.of upd_same, by omega, by omega, by show 1 * _ ≤ 65536; omega, fun y hy => ?_⟩
      have el : (List.replicate (((n : Nat) : Int) - 1).toNat [V.int ((l : Nat) : Int)]).flatten = nats (List.replicate (n - 1) l) := by
        rw [show (((n : Nat) : Int) - 1).toNat = n - 1 by omega, flat_rep]
      rw [el]
      have v3 := v2.trans (same_new (o := .lst (nats (List.replicate (n - 1) l))) hy)
      refine ⟨dBlk (List.replicate (n - 1) l), dBlk (List.replicate (n - 1) l), isD_blkT (v3 _ _ hc3), isD_blkT upd_same, shaped_blk _, shaped_blk _, ?_⟩
      show Q (.bl (PyData.eqv (dBlk (List.replicate (n - 1) l)) (dBlk (List.replicate (n - 1) l)))) _
      rw [eqv_blkD]
      exact q _ (s3.trans v3)
/-! ### the law -/
theorem sh_none : PySem.SeqAt.shaped (.tuple [.str "none"]) = true := by decide +kernel
theorem eqv_none : PyData.eqv (.tuple [.str "none"]) (.tuple [.str "none"]) = true := by decide +kernel
theorem isD_none {K : PySem.W.Frag} {H : Hp} {t : Addr} (h : H t = some (.tup [.str "none"])) : IsD K H (.tuple [.str "none"]) (.ref t) := by
  simp only [IsD, IsDs]
  exact ⟨t, _, rfl, SqT.of h, _, _, rfl, rfl, rfl⟩
theorem nght_blk {n k : Nat} (hn1 : 1 ≤ n) (hn : n ≤ 13) (hk : 1 ≤ k) {b : List Nat} (hb : b ∈ nght n (k - 1)) : Blk n b ∧ b.length = k := by
  obtain ⟨h1, h2, h3, h4⟩ := (nght_facts hn (k - 1)).2 b hb
  exact ⟨⟨List.nodup_iff_pairwise_ne.mpr (h3.imp fun z => Nat.ne_of_lt z), fun x hx => by have := h2 x hx; omega⟩, by omega⟩
theorem scLaw : FnScope ["_law_script", "_law_n", "_law_k", "_law_times", "_law_found", "_law_kept", "_law_many", "_law_rows"] ["_law_script"] (defScope sLaw) := ⟨rfl, rfl, rfl, by decide +kernel, rfl, by decide +kernel, by decide +kernel⟩
theorem ok_law {f : Addr} {fd : FuncData} (F : Fun K "law" "law" sLaw f fd) (T : TxtB mg) (pCell : Pm P w K mg base CX0 1 "_law_cell" ["_law_script", "_law_k"] (spCell K)) (pPool : Pm P w K mg base CX0 1 "_law_pool" ["_law_cell_here"] spPool) (pLWanted : Pm P w K mg base CX0 2 "_law_wanted" ["_law_pool_here"] spWanted) (pBasesFor : Pm P w K mg base CX0 7 "bases_for" ["n", "k", "l"] spFor)
    (pLBasesRight : Pm P w K mg base CX0 2 "_law_bases_right" ["_law_found", "_law_n", "_law_k", "_law_times"] spRight) (pLCounted : Pm P w K mg base CX0 1 "_law_counted" ["_law_n", "_law_base"] spCnt) (pLSets : Pm P w K mg base CX0 1 "_law_sets" ["_law_n", "_law_k"] spSets) (pLSome : Pm P w K mg base CX0 5 "_law_some" ["_law_lacks", "_law_many", "_law_rows"] (spSome fun m => m < 4)) : FnOk P w K mg base CX0 20 f fd ["_law_script"] (spLaw K) := by
  refine F.okQ scLaw (fun vs H Q E h => ?_) (fun cdv A outer s H vs Q E hr h => ?_)
  · obtain ⟨a, ns, rfl, _⟩ := h
    rfl
  · obtain ⟨a, ns, rfl, hS, hns, kk⟩ := h
    have hr1 := hr.mono (show 1 ≤ 19 by decide)
    have hr2 := hr.mono (show 2 ≤ 19 by decide)
    have hr5 := hr.mono (show 5 ≤ 19 by decide)
    have hr7 := hr.mono (show 7 ≤ 19 by decide)
    have hu := hr.units
    refine ⟨_, (qss_cons (qs_asg (qe_callP pLWanted hr2 rfl pass0 (qac (qe_callP pPool hr1 rfl pass0 (qac (qe_callP pCell hr1 rfl pass0 (qac (qv 0) (qac qe_int qa_nil))) qa_nil)) qa_nil)) (qg_tup rfl (qgs_cons (qg_name (i := 1) scLaw.nd rfl (Or.inr rfl)) (qgs_cons (qg_name (i := 2) scLaw.nd rfl (Or.inl rfl)) (qgs_cons (qg_name (i := 3) scLaw.nd rfl (Or.inl rfl)) qgs_nil)))))
      (qss_cons (qs_set (i := 4) scLaw.nd rfl (Or.inl rfl) (qe_callP pBasesFor hr7 rfl pass0 (qac (qv 1) (qac (qv 2) (qac (qv 3) qa_nil)))))
      (qss_cons (qs_if (qt_not (qt_val (qe_callB call_isinst (by rfl) T.isi PyProof.Rows.boot_isinstance (qac (qv 4) (qac (qe_bltn (v := .ty "tuple") rfl T.tup (by decide +kernel) rfl) qa_nil))))) (qss_one (qs_ret qe_bl)) qss_nil)
      (qss_cons (qs_if (qt_cmpR op_eq (qe_ix ix_tup (qv 4) qe_int (fun _ _ => rfl)) qe_str (nomark _)) (qss_cons (qs_if (QW.pt (qw_or (qt_cmpR op_ne (qe_callB call_len_seq (by rfl) T.len PySem.boot_len (qac (qv 4) qa_nil)) qe_int (nomark _)) (qw_or1 (qt_not (qt_val (qe_callP pLBasesRight hr2 rfl pass0 (qac (qe_ix ix_tup (qv 4) qe_int (fun _ _ => rfl)) (qac (qv 1) (qac (qv 2) (qac (qv 3) qa_nil)))))))))) (qss_one (qs_ret qe_bl)) qss_nil)
        (qss_cons (qs_setComp (i := 5) (g := gName 0) (N := ["_law_base"]) (src := [none]) rfl (comp_scope (defScope sLaw) ["_law_script", "_law_n", "_law_k", "_law_times", "_law_found", "_law_kept", "_law_many", "_law_rows"] rfl rfl (by decide +kernel) rfl) (qi_list (qe_ix ix_tup (qv 4) qe_int (fun _ _ => rfl))) (fun _ _ _ _ _ => (qg_name (i := 0) (show (["_law_base"] : List Str).Nodup by decide +kernel) rfl (Or.inl rfl) (Or.inr rfl))) (fun _ _ _ _ _ => qif_nil) (fun _ _ _ _ _ => (qe_callTy (show CallR _ _ (rListOf K) from call_list_of) (by rfl) T.lst (by decide +kernel) (qac (qv 0) qa_nil))) (qg_name (i := 5) scLaw.nd rfl (Or.inl rfl)))
        (qss_cons (qs_expr (qe_bm PySem.F.plainAttrs_list PySem.F.slot_list_append PySem.F.type_list_append mt_append (qe_ix ix_list (qe_ix ix_tup (qv 4) qe_int (fun _ _ => rfl)) qe_int (fun _ _ => rfl)) (qac qe_int qa_nil)))
        (qss_one (qs_ret (qe_and (qe_cmpR (op_eqD hu) (qe_slice sl_list (qe_ix ix_tup (qv 4) qe_int (fun _ _ => rfl)) (qo_some qe_int) qo_none) (qe_slice sl_list (qv 5) (qo_some qe_int) qo_none) (nomark _)) (qe_one (qe_callP pLBasesRight hr2 rfl pass0 (qac (qe_ix ix_tup (qe_callP pBasesFor hr7 rfl pass0 (qac (qv 1) (qac (qv 2) (qac (qv 3) qa_nil)))) qe_int (fun _ _ => rfl)) (qac (qv 1) (qac (qv 2) (qac (qv 3) qa_nil)))))))))))) qss_nil)
      (qss_cons (qs_set (i := 6) scLaw.nd rfl (Or.inl rfl) (qe_op op_fdiv (qe_op op_mul (qv 3) (qe_op op_sub (qv 1) qe_int)) (qe_op op_mul (qv 2) (qe_op op_sub (qv 2) qe_int))))
      (qss_cons (qs_if (qt_cmpR op_ne (qe_op op_mul (qv 3) (qe_op op_sub (qv 1) qe_int)) (qe_op op_mul (qe_op op_mul (qv 6) (qv 2)) (qe_op op_sub (qv 2) qe_int)) (nomark _)) (qss_one (qs_ret (qe_cmpR (op_eqD hu) (qv 4) (qe_tup (qac qe_str qa_nil)) (nomark _)))) qss_nil)
      (qss_cons (qs_setComp (i := 7) (g := gName 0) (N := ["_law_some_here", "_law_n"]) (src := [none, some 1]) rfl (comp_scope (defScope sLaw) ["_law_script", "_law_n", "_law_k", "_law_times", "_law_found", "_law_kept", "_law_many", "_law_rows"] rfl rfl (by decide +kernel) rfl) (qi_list (qe_callP pLSets hr1 rfl pass0 (qac (qv 1) (qac (qv 2) qa_nil)))) (fun _ _ _ _ _ => (qg_name (i := 0) (show (["_law_some_here", "_law_n"] : List Str).Nodup by decide +kernel) rfl (Or.inl rfl) (Or.inr rfl))) (fun _ _ _ _ _ => qif_nil) (fun _ _ _ _ _ => (qe_callP pLCounted hr1 rfl pass0 (qac (qv 1) (qac (qv 0) qa_nil)))) (qg_name (i := 7) scLaw.nd rfl (Or.inl rfl)))
      (qss_one (qs_ret (qe_and (qe_cmpR (op_eqD hu) (qv 4) (qe_tup (qac qe_str qa_nil)) (nomark _)) (qe_one (qe_not (qe_callP pLSome hr5 rfl pass0 (qac (qe_op op_mulL (qe_lst (qac (qv 3) qa_nil)) (qe_op op_sub (qv 1) qe_int)) (qac (qv 6) (qac (qv 7) qa_nil)))))))))))))))), ?_⟩
    refine ⟨_, rfl, a, ns, 0, rfl, hS, by decide, fun z => ⟨z, rfl, fun p f hp hf => ⟨p, f, rfl, upd_same, hf, fun t n k l H1 d1 ht hn1 hn2 hk1 hk2 hl1 hl2 hok => ?_⟩⟩⟩
    clear d1
    have hE0 : 2 ≤ k * (k - 1) := Nat.le_trans (show 2 ≤ 2 * 1 by decide) (Nat.mul_le_mul hk1 (show 1 ≤ k - 1 by omega))
    have hE12 : k * (k - 1) ≤ 12 := Nat.mul_le_mul hk2 (show k - 1 ≤ 3 by omega)
    have hW : l * (n - 1) ≤ 480 := Nat.mul_le_mul (show l ≤ 40 by omega) (show n - 1 ≤ 12 by omega)
    have hW1 : 1 ≤ l * (n - 1) := Nat.le_trans (show 1 ≤ 1 * 1 by decide) (Nat.mul_le_mul hl1 (show 1 ≤ n - 1 by omega))
    have e2 : ((k : Nat) : Int) * (((k : Nat) : Int) - 1) = ((k * (k - 1) : Nat) : Int) := by
      rw [show ((k : Nat) : Int) - 1 = ((k - 1 : Nat) : Int) by omega, Int.natCast_mul]
    have e1 : ((l : Nat) : Int) * (((n : Nat) : Int) - 1) = ((l * (n - 1) : Nat) : Int) := by
      rw [show ((n : Nat) : Int) - 1 = ((n - 1 : Nat) : Int) by omega, Int.natCast_mul]
    have hmn : l * (n - 1) % (k * (k - 1)) = 0 → l * (n - 1) = mnT n k l * k * (k - 1) := fun z => by
      have := Nat.mod_add_div (l * (n - 1)) (k * (k - 1))
      rw [z, Nat.zero_add] at this
      unfold mnT
      rw [Nat.mul_assoc, Nat.mul_comm (l * (n - 1) / (k * (k - 1)))]
      exact this.symm
    have hm3 : l * (n - 1) % (k * (k - 1)) = 0 → mnT n k l ≤ 3 := fun z => by
      unfold okT at hok
      rw [decide_eq_true (hmn z)] at hok
      simp only [Bool.not_true, Bool.false_or, Bool.and_eq_true, decide_eq_true_eq] at hok
      exact hok.1.2
    refine ⟨t, _, rfl, SqT.of ht, rfl, _, _, rfl, _, _, rfl, _, _, rfl, rfl, ?_⟩
    refine ⟨_, rfl, _, rfl, _, rfl, n, k, l, rfl, hn1, hn2, hk1, hk2, by omega, hm3, fun t2 H2 _ hF => ?_⟩
    rcases hF with ⟨ht2, hnone⟩ | ⟨g, ws, bs, ht2, hg, hB, hnd, hgn, hbn, hdiv, hbl, htot⟩
    · refine ⟨_, rfl, _, _, _, _, rfl, .tup ht2, rel_ty (kit_tup_tup K), true, rfl, iteF ?_⟩
      refine ⟨_, rfl, t2, _, 0, .str "none", rfl, rfl, SqT.of ht2, rfl, rfl, _, rfl, ifF (fun z => by injection z with z; exact absurd z (by decide +kernel)) ?_⟩
      refine ⟨_, rfl, _, rfl, _, _, rfl, rfl, _, _, rfl, rfl, .inl ⟨by omega, by omega⟩, ?_⟩
      refine ⟨_, rfl, _, rfl, _, _, rfl, rfl, _, _, rfl, rfl, .inl ⟨by omega, by omega⟩, ?_⟩
      dsimp only
      rw [e1, e2]
      refine ⟨_, _, rfl, rfl, ⟨by omega, by omega⟩, ?_⟩
      dsimp only [gName]
      rw [← Int.natCast_ediv]
      have hm480 : mnT n k l ≤ 480 := Nat.le_trans (Nat.div_le_self _ _) hW
      have hmk : mnT n k l * k ≤ 480 * 4 := Nat.mul_le_mul hm480 hk2
      have e3 : ((mnT n k l : Nat) : Int) * ((k : Nat) : Int) * (((k : Nat) : Int) - 1) = ((mnT n k l * k * (k - 1) : Nat) : Int) := by
        rw [show ((k : Nat) : Int) - 1 = ((k - 1 : Nat) : Int) by omega, Int.natCast_mul, Int.natCast_mul]
      change tSeq _ _ _ [some (.ref a), some (.int ((n : Nat) : Int)), some (.int ((k : Nat) : Int)), some (.int ((l : Nat) : Int)), some (.ref t2), none, some (.int ((mnT n k l : Nat) : Int)), none] H2
      refine ⟨_, rfl, _, rfl, _, _, rfl, rfl, _, _, rfl, rfl, .inl ⟨by omega, by omega⟩, ?_⟩
      refine ⟨_, rfl, _, rfl, _, _, rfl, rfl, .inl ⟨by omega, by omega⟩, _, rfl, _, _, rfl, rfl, _, _, rfl, rfl, .inl ⟨by rw [← Int.natCast_mul]; omega, by rw [← Int.natCast_mul]; omega⟩, rfl, _, rfl, ?_⟩
      dsimp only
      by_cases h0 : l * (n - 1) % (k * (k - 1)) = 0
      · refine enF (by rw [e1, e3, ← hmn h0]) ?_
        obtain ⟨_, hno⟩ := hnone.resolve_left fun z => z h0
        refine ⟨_, rfl, _, rfl, n, k, rfl, hn2, by omega, hk2, fun g us H3 _ s3 hg hT => ?_⟩
        obtain ⟨hl13, hbf⟩ := nght_facts hn2 (k - 1)
        have h13 : 13 ^ (k - 1) ≤ 13 ^ 3 := Nat.pow_le_pow_right (by decide) (by omega)
        have hbl : (nght n (k - 1)).length ≤ 2197 := Nat.le_trans hl13 (Nat.le_trans h13 (by decide))
        refine ⟨g, rfl, ⟨_, SqL.of hg⟩, comp_list (K := K) (xs := us) (fun i zs H4 => Same H3 H4 ∧ BlAt H4 zs (((nght n (k - 1)).take i).map fun b => difL n [b])) ⟨Same.refl _, trivial⟩ (fun i zs H4 _ ⟨e, _⟩ => SqL.of (e _ _ hg)) ?_ ?_⟩
        · rintro i v zs H4 N hi ⟨s4, hz⟩ nx
          obtain ⟨c, b, rfl, hb, hc⟩ := (hT.sm s4).get hi
          have hil := (List.getElem?_eq_some_iff.mp hb).1
          refine ⟨Weak.set (by intro v z; cases z), ⟨_, rfl, _, rfl, c, n, b, rfl, .inr hc, by omega, by omega, (nght_blk (by omega) hn2 (by omega) (List.mem_of_getElem? hb)).1, fun u H5 _ s5 hu => ⟨?_, nx _ _ ⟨s4.trans s5, ?_⟩⟩⟩⟩
          · rw [hz.len, List.length_map, List.length_take]
            exact Nat.lt_of_le_of_lt (show _ ≤ 2197 by omega) (by decide)
          · rw [take_snoc hb, List.map_append]
            exact BlAt.snoc hu (hz.same s5)
        · rintro zs H4 ⟨s4, hz⟩
          rw [hT.len, List.take_length] at hz
          have hzl : zs.length ≤ 2197 := by rw [hz.len, List.length_map]; exact hbl
          refine ⟨Nat.le_trans hzl (by decide), fun r hr' => ?_⟩
          have v5 := same_new (o := .lst zs) hr'
          have hr5' : (upd H4 r (.lst zs)) r = some (.lst zs) := upd_same
          have s5 := s3.trans (s4.trans v5)
          have hz5 := hz.same v5
          dsimp only [gName]
          generalize upd H4 r (.lst zs) = H5 at s5 hr5' hz5 ⊢
          refine ⟨_, rfl, by show 1 ≤ sizeLine; decide, fun u hu => ?_⟩
          have v6 := same_new (o := .tup [V.str "none"]) hu
          refine ⟨.tuple [.str "none"], .tuple [.str "none"], isD_none (v6 _ _ (s5 _ _ ht2)), isD_none upd_same, sh_none, sh_none, ?_⟩
          refine ⟨true, by show V.bl (PyData.eqv _ _) = _; rw [eqv_none], iteT ?_⟩
          have hr6 := v6 _ _ hr5'
          have hz6 := hz5.same v6
          generalize upd H5 u (.tup [V.str "none"]) = H6 at hr6 hz6 ⊢
          refine ⟨_, rfl, by show 1 ≤ sizeLine; decide, fun z hz' => ?_⟩
          have v2 := same_new (o := .lst [V.int ((l : Nat) : Int)]) hz'
          refine ⟨_, rfl, _, _, rfl, rfl, z, _, _, rfl, rfl, SqL.of upd_same, by omega, by omega, by show 1 * _ ≤ 65536; omega, fun y hy => ?_⟩
          have el : (List.replicate (((n : Nat) : Int) - 1).toNat [V.int ((l : Nat) : Int)]).flatten = nats (List.replicate (n - 1) l) := by
            rw [show (((n : Nat) : Int) - 1).toNat = n - 1 by omega, flat_rep]
          rw [el]
          have v3 := v2.trans (same_new (o := .lst (nats (List.replicate (n - 1) l))) hy)
          refine ⟨_, rfl, _, rfl, y, r, mnT n k l, List.replicate (n - 1) l, zs, _, rfl, upd_same, v3 _ _ hr6, hz6.same v3, fun r' hr2 => ?_, by rw [List.length_replicate]; omega, by rw [List.length_replicate]; omega, by rw [List.length_map]; omega, by have := hm3 h0; omega, by have := hm3 h0; omega, ?_, fun b H7 _ hb => ⟨b, rfl, ?_⟩⟩
          · obtain ⟨b, _, rfl⟩ := List.mem_map.mp hr2
            rw [dif_lenQ, List.length_replicate]
          · right
            rw [List.sum_replicate_nat]
            rw [Nat.mul_comm]
            exact hW1
          · cases b with
            | false => exact kk _
            | true =>
              obtain ⟨rs, f1, f2, f3⟩ := hb rfl
              exact absurd f3 (hno rs f1 fun r' hr2 => by
                obtain ⟨b, hb, rfl⟩ := List.mem_map.mp (f2 r' hr2)
                exact ⟨b, hb, rfl⟩)
      · refine enT (fun z => h0 (by
          rw [e1, e3] at z
          have : l * (n - 1) = mnT n k l * k * (k - 1) := by omega
          rw [this, Nat.mul_assoc]
          exact Nat.mul_mod_left _ _)) ?_
        refine ⟨_, rfl, by show 1 ≤ sizeLine; decide, fun u hu => ?_⟩
        have v6 := same_new (o := .tup [V.str "none"]) hu
        refine ⟨.tuple [.str "none"], .tuple [.str "none"], isD_none (v6 _ _ ht2), isD_none upd_same, sh_none, sh_none, ?_⟩
        show Q (.bl (PyData.eqv _ _)) _
        rw [eqv_none]
        exact kk _
    · refine ⟨_, rfl, _, _, _, _, rfl, .tup ht2, rel_ty (kit_tup_tup K), true, rfl, iteF ?_⟩
      refine ⟨_, rfl, t2, _, 0, .str "bases", rfl, rfl, SqT.of ht2, rfl, rfl, _, rfl, ifT rfl ?_⟩
      have hmn1 := hmn hdiv
      have hl3 : bs.length ≤ 3 := by rw [hbl]; exact hm3 hdiv
      have hblk : ∀ b ∈ bs, Blk n b ∧ b.length = k := fun b hb => nght_blk (by omega) hn2 (by omega) (hbn b hb)
      have hful : ∀ {cs : List (List Nat)}, (∀ b ∈ cs, b ∈ nght n (k - 1)) → cs.length = l * (n - 1) / (k * (k - 1)) → (∀ d, tot (cs.map fun b => difL n [b]) d ≤ (List.replicate (n - 1) l).getD d 0) → ∀ d, d < n - 1 → tot (cs.map fun b => difL n [b]) d = l := fun {cs} h1 h2 h3 => tot_full (fun b hb => nght_blk (by omega) hn2 (by omega) (h1 b hb)) (by rw [h2, ← Nat.mul_assoc]; exact hmn1.symm) h3
      have h1pos : 1 ≤ bs.length := by
        rw [hbl]
        refine Nat.pos_of_ne_zero fun z => ?_
        have hz : mnT n k l = 0 := z
        rw [hz] at hmn1
        simp at hmn1
        omega
      refine ⟨_, rfl, t2, _, rfl, .inr (SqT.of ht2), rfl, _, rfl, enF rfl ?_⟩
      refine ⟨_, rfl, t2, _, 1, .ref g, rfl, rfl, SqT.of ht2, rfl, _, rfl, _, rfl, _, rfl, g, n, k, l, ws, bs, rfl, hg, hB, by omega, hn2, hblk, hful hbn hbl htot, fun H3 s3 => ⟨true, rfl, iteF ?_⟩⟩
      have ht3 := s3 _ _ ht2
      have hg3 := s3 _ _ hg
      have hB3 := hB.same s3
      refine ⟨_, rfl, t2, _, 1, .ref g, rfl, rfl, SqT.of ht3, rfl, g, rfl, ⟨_, SqL.of hg3⟩, comp_list (K := K) (xs := ws) (fun i zs H4 => Same H3 H4 ∧ BlAt H4 zs (bs.take i) ∧ ∀ x, V.ref x ∈ zs → H3 x = none) ⟨Same.refl _, trivial, nofun⟩ (fun i zs H4 _ ⟨e, _⟩ => SqL.of (e _ _ hg3)) ?_ ?_⟩
      · rintro i v zs H4 N hi ⟨s4, hz, hfr⟩ nx
        obtain ⟨c, b, rfl, hb, hc⟩ := (hB3.same s4).get hi
        have hil := (List.getElem?_eq_some_iff.mp hb).1
        refine ⟨Weak.set (by intro v z; cases z), ⟨_, rfl, c, _, rfl, .inl (SqL.of hc), fun e he => ⟨?_, nx _ _ ⟨s4.trans (same_new he), ?_, fun x hx => ?_⟩⟩⟩⟩
        · rw [hz.len, List.length_take]
          exact Nat.lt_of_le_of_lt (show _ ≤ 4 by omega) (by decide)
        · rw [take_snoc hb]
          exact (hz.same (same_new he)).snoc upd_same
        · rcases List.mem_append.mp hx with z | z
          · exact hfr x z
          · injection List.mem_singleton.mp z with z
            rw [z]
            exact s4.free he
      rintro zs H4 ⟨s4, hz, hfr⟩
      rw [hB.len, List.take_length] at hz
      have hzl : zs.length ≤ 3 := by rw [hz.len]; exact hl3
      refine ⟨Nat.le_trans hzl (by decide), fun r hr' => ?_⟩
      have v5 := same_new (o := .lst zs) hr'
      have hr5' : (upd H4 r (.lst zs)) r = some (.lst zs) := upd_same
      have s5 := s4.trans v5
      have hz5 := hz.same v5
      have hr0 : H3 r = none := s4.free hr'
      dsimp only [gName]
      generalize upd H4 r (.lst zs) = H5 at s5 hr5' hz5 ⊢
      have ht5 := s5 _ _ ht3
      have hg5 := s5 _ _ hg3
      have hB5 := hB3.same s5
      obtain ⟨b0, bs', rfl⟩ : ∃ b0 bs', bs = b0 :: bs' := by
        cases bs with
        | nil => simp at h1pos
        | cons x y => exact ⟨x, y, rfl⟩
      obtain ⟨v0, ws', rfl⟩ : ∃ v0 ws', ws = v0 :: ws' := by
        cases ws with
        | nil => exact hB.elim
        | cons x y => exact ⟨x, y, rfl⟩
      obtain ⟨z0, zs', rfl⟩ : ∃ z0 zs', zs = z0 :: zs' := by
        cases zs with
        | nil => exact hz.elim
        | cons x y => exact ⟨x, y, rfl⟩
      obtain ⟨⟨a0, rfl, ha0⟩, hBr⟩ := hB5
      obtain ⟨⟨a03, e03, ha03⟩, _⟩ := hB3
      cases e03
      have hzr := hz5.2
      obtain ⟨hn0, _⟩ := List.nodup_cons.mp hnd
      have hb0l := (hblk b0 (List.mem_cons_self ..)).1.len
      have hga0 : g ≠ a0 := fun z => hgn (by rw [z]; exact List.mem_cons_self ..)
      have hta0 : t2 ≠ a0 := fun z => by
        rw [z, ha0] at ht5
        cases ht5
      have hra0 : r ≠ a0 := fun z => by
        rw [z, ha03] at hr0
        cases hr0
      refine ⟨_, rfl, t2, _, 1, .ref g, rfl, rfl, SqT.of ht5, rfl, g, _, 0, .ref a0, rfl, rfl, SqL.of hg5, atI_nat (j := 0) rfl, .inl ⟨rfl, _, SqL.of ha0⟩, a0, _, _, rfl, rfl, ha0, by rw [nats_len]; exact Nat.lt_of_le_of_lt (show b0.length ≤ 60 by omega) (by decide), ?_⟩
      have ht6 : (upd H5 a0 (.lst (nats b0 ++ [V.int 0]))) t2 = some (.tup [.str "bases", .ref g]) := by rw [upd_ne hta0]; exact ht5
      have hg6 : (upd H5 a0 (.lst (nats b0 ++ [V.int 0]))) g = some (.lst (.ref a0 :: ws')) := by rw [upd_ne hga0]; exact hg5
      have hr6 : (upd H5 a0 (.lst (nats b0 ++ [V.int 0]))) r = some (.lst (z0 :: zs')) := by rw [upd_ne hra0]; exact hr5'
      have hB6 : BlAt (upd H5 a0 (.lst (nats b0 ++ [V.int 0]))) ws' bs' := hBr.imp fun x xs hx e => by
        rw [upd_ne (fun z => hn0 (by rw [← z]; exact hx))]
        exact e
      have hz6 : BlAt (upd H5 a0 (.lst (nats b0 ++ [V.int 0]))) zs' bs' := hzr.imp fun x xs hx e => by
        rw [upd_ne (fun z => by
          have := hfr x (List.mem_cons_of_mem _ hx)
          rw [z, ha03] at this
          cases this)]
        exact e
      generalize upd H5 a0 (.lst (nats b0 ++ [V.int 0])) = H6 at ht6 hg6 hr6 hB6 hz6 ⊢
      refine ⟨_, rfl, t2, _, 1, .ref g, rfl, rfl, SqT.of ht6, rfl, _, rfl, g, _, rfl, SqL.of hg6, fun c hc => ?_⟩
      have v7 := same_new (o := .lst (cutV (.ref a0 :: ws') (some 1) none)) hc
      refine ⟨_, rfl, _, rfl, r, _, rfl, SqL.of (v7 _ _ hr6), fun e he => ?_⟩
      have v8 := same_new (o := .lst (cutV (z0 :: zs') (some 1) none)) he
      have c1 : cutV (V.ref a0 :: ws') (some 1) none = ws' := by
        rw [show cutV (V.ref a0 :: ws') (some 1) none = (V.ref a0 :: ws').drop 1 from cut_from (k := 1) (by simp)]
        rfl
      have c2 : cutV (z0 :: zs') (some 1) none = zs' := by
        rw [show cutV (z0 :: zs') (some 1) none = (z0 :: zs').drop 1 from cut_from (k := 1) (by simp)]
        rfl
      refine ⟨dBls bs', dBls bs', isD_bls (v8 _ _ upd_same) (Eq.mpr (congrArg (fun z => BlAt _ z bs') c1) ((hB6.same v7).same v8)), isD_bls upd_same (Eq.mpr (congrArg (fun z => BlAt _ z bs') c2) ((hz6.same v7).same v8)), shaped_bls _, shaped_bls _, true, by show V.bl (PyData.eqv _ _) = _; rw [eqv_dBls], iteT ?_⟩
      refine ⟨_, rfl, _, rfl, _, rfl, n, k, l, rfl, hn1, hn2, hk1, hk2, by omega, hm3, fun t3 H9 _ hF => ?_⟩
      rcases hF with ⟨_, hnone⟩ | ⟨g2, ws2, cs, ht9, hg9, hB9, _, _, hcn, _, hcl, htc⟩
      · obtain ⟨_, hno⟩ := hnone.resolve_left fun z => z hdiv
        refine absurd htot (hno ((b0 :: bs').map fun b => difL n [b]) (by rw [List.length_map]; exact hbl) fun r' hr2 => ?_)
        obtain ⟨b, hb, rfl⟩ := List.mem_map.mp hr2
        exact ⟨b, hbn b hb, rfl⟩
      · exact ⟨t3, _, 1, .ref g2, rfl, rfl, SqT.of ht9, rfl, _, rfl, _, rfl, _, rfl, g2, n, k, l, ws2, cs, rfl, hg9, hB9, by omega, hn2, fun b hb => nght_blk (by omega) hn2 (by omega) (hcn b hb), hful hcn hcl htc, fun H10 _ => kk _⟩
end
end E1
namespace E1
open PySem L2
theorem all_mk {l : PySem.W.OpenLaw} {w : World} {K : PySem.W.Frag} {h : Heap} {mg : Str → Option Value} {fa : Addr} (X : K.In h) (G : h.Ns mainGlobals mg) (hfa : mg "law" = some (.ref fa))
    (N : PySem.W.nsIn K mainGlobals "isinstance" = some none ∧ PySem.W.nsIn K mainGlobals "int" = some none ∧ PySem.W.nsIn K mainGlobals "bool" = some none ∧ PySem.W.nsIn K mainGlobals "abs" = some none ∧ PySem.W.nsIn K mainGlobals "len" = some none ∧ PySem.W.nsIn K mainGlobals "range" = some none ∧ PySem.W.nsIn K mainGlobals "tuple" = some none ∧ PySem.W.nsIn K mainGlobals "list" = some none ∧ PySem.W.nsIn K mainGlobals "sorted" = some none ∧ PySem.W.nsIn K mainGlobals "all" = some none ∧ PySem.W.nsIn K mainGlobals "set" = some none ∧ PySem.W.nsIn K mainGlobals "zip" = some none ∧ PySem.W.nsIn K mainGlobals "enumerate" = some none ∧ PySem.W.nsIn K mainGlobals "any" = some none ∧ PySem.W.nsIn K mainGlobals "max" = some none ∧ PySem.W.nsIn K mainGlobals "min" = some none ∧ PySem.W.nsIn K mainGlobals "str" = some none ∧ PySem.W.nsIn K mainGlobals "sum" = some none)
    (CMostPoints : ∃ t, PySem.W.nsIn K mainGlobals "MOST_POINTS" = some (some (.int 60 t)))
    (CMostBlocks : ∃ t, PySem.W.nsIn K mainGlobals "MOST_BLOCKS" = some (some (.int 200 t)))
    (AWhole : At K "is_whole" sWhole) (AIsBelow : At K "is_below" sIsBelow) (AIsPointsNumber : At K "is_points_number" sIsPointsNumber) (AAreUnlikePoints : At K "are_unlike_points" sAreUnlikePoints) (AMustBeBases : At K "must_be_bases" sMustBeBases) (ADifferences : At K "differences" sDifferences) (ABasesFor : At K "bases_for" sBasesFor) (ABasesByDifferences : At K "bases_by_differences" sBasesByDifferences) (ABasesWithNought : At K "bases_with_nought" sBasesWithNought) (ALongerByOne : At K "longer_by_one" sLongerByOne) (ARowsAddingUp : At K "rows_adding_up" sRowsAddingUp) (AFits : At K "fits" sFits) (AWithout : At K "without" sWithout) (ACell : At K "_law_cell" sCell) (APool : At K "_law_pool" sPool) (ATake : At K "_law_take" sTake) (ALWanted : At K "_law_wanted" sLWanted) (ALCounted : At K "_law_counted" sLCounted) (ALSets : At K "_law_sets" sLSets) (ALSome : At K "_law_some" sLSome) (ALBasesRight : At K "_law_bases_right" sLBasesRight) (ALaw : At K "law" sLaw) :
    ∃ fd : FuncData, (∀ (s : Shared) (v : Value), BindsTo s fd ⟨[v], []⟩ [("_law_script", v)]) ∧ ∀ base : Heap, K.In base → base.Ns mainGlobals mg → FnOk l.prog w K mg base CX0 20 fa fd ["_law_script"] (spLaw K) := by
  obtain ⟨n0, n1, n2, n3, n4, n5, n6, n7, n8, n9, n10, n11, n12, n13, n14, n15, n16, n17⟩ := N
  have T : TxtB mg := ⟨PySem.W.mg_none_of X G n0, PySem.W.mg_none_of X G n1, PySem.W.mg_none_of X G n2, PySem.W.mg_none_of X G n3, PySem.W.mg_none_of X G n4, PySem.W.mg_none_of X G n5, PySem.W.mg_none_of X G n6, PySem.W.mg_none_of X G n7, PySem.W.mg_none_of X G n8, PySem.W.mg_none_of X G n9, PySem.W.mg_none_of X G n10, PySem.W.mg_none_of X G n11, PySem.W.mg_none_of X G n12, PySem.W.mg_none_of X G n13, PySem.W.mg_none_of X G n14, PySem.W.mg_none_of X G n15, PySem.W.mg_none_of X G n16, PySem.W.mg_none_of X G n17⟩
  obtain ⟨tMostPoints, cMostPoints⟩ := CMostPoints
  have mMostPoints := PySem.W.mg_of X G cMostPoints
  obtain ⟨tMostBlocks, cMostBlocks⟩ := CMostBlocks
  have mMostBlocks := PySem.W.mg_of X G cMostBlocks
  obtain ⟨fWhole, fdWhole, aWhole, FWhole⟩ := AWhole
  obtain ⟨fIsBelow, fdIsBelow, aIsBelow, FIsBelow⟩ := AIsBelow
  obtain ⟨fIsPointsNumber, fdIsPointsNumber, aIsPointsNumber, FIsPointsNumber⟩ := AIsPointsNumber
  obtain ⟨fAreUnlikePoints, fdAreUnlikePoints, aAreUnlikePoints, FAreUnlikePoints⟩ := AAreUnlikePoints
  obtain ⟨fMustBeBases, fdMustBeBases, aMustBeBases, FMustBeBases⟩ := AMustBeBases
  obtain ⟨fDifferences, fdDifferences, aDifferences, FDifferences⟩ := ADifferences
  obtain ⟨fBasesFor, fdBasesFor, aBasesFor, FBasesFor⟩ := ABasesFor
  obtain ⟨fBasesByDifferences, fdBasesByDifferences, aBasesByDifferences, FBasesByDifferences⟩ := ABasesByDifferences
  obtain ⟨fBasesWithNought, fdBasesWithNought, aBasesWithNought, FBasesWithNought⟩ := ABasesWithNought
  obtain ⟨fLongerByOne, fdLongerByOne, aLongerByOne, FLongerByOne⟩ := ALongerByOne
  obtain ⟨fRowsAddingUp, fdRowsAddingUp, aRowsAddingUp, FRowsAddingUp⟩ := ARowsAddingUp
  obtain ⟨fFits, fdFits, aFits, FFits⟩ := AFits
  obtain ⟨fWithout, fdWithout, aWithout, FWithout⟩ := AWithout
  obtain ⟨fCell, fdCell, aCell, FCell⟩ := ACell
  obtain ⟨fPool, fdPool, aPool, FPool⟩ := APool
  obtain ⟨fTake, fdTake, aTake, FTake⟩ := ATake
  obtain ⟨fLWanted, fdLWanted, aLWanted, FLWanted⟩ := ALWanted
  obtain ⟨fLCounted, fdLCounted, aLCounted, FLCounted⟩ := ALCounted
  obtain ⟨fLSets, fdLSets, aLSets, FLSets⟩ := ALSets
  obtain ⟨fLSome, fdLSome, aLSome, FLSome⟩ := ALSome
  obtain ⟨fLBasesRight, fdLBasesRight, aLBasesRight, FLBasesRight⟩ := ALBasesRight
  obtain ⟨fLaw, fdLaw, aLaw, FLaw⟩ := ALaw
  have e := hfa.symm.trans (PySem.W.mg_of X G aLaw)
  cases e
  have bWhole := FWhole.binds (ps := ["thing"]) fun _ _ _ _ _ _ us hl => match us, hl with | [_], _ => rfl
  have mWhole := PySem.W.mg_of X G aWhole
  have bIsBelow := FIsBelow.binds (ps := ["thing", "many"]) fun _ _ _ _ _ _ us hl => match us, hl with | [_, _], _ => rfl
  have mIsBelow := PySem.W.mg_of X G aIsBelow
  have bIsPointsNumber := FIsPointsNumber.binds (ps := ["thing"]) fun _ _ _ _ _ _ us hl => match us, hl with | [_], _ => rfl
  have mIsPointsNumber := PySem.W.mg_of X G aIsPointsNumber
  have bAreUnlikePoints := FAreUnlikePoints.binds (ps := ["things", "points"]) fun _ _ _ _ _ _ us hl => match us, hl with | [_, _], _ => rfl
  have mAreUnlikePoints := PySem.W.mg_of X G aAreUnlikePoints
  have bMustBeBases := FMustBeBases.binds (ps := ["n", "bases"]) fun _ _ _ _ _ _ us hl => match us, hl with | [_, _], _ => rfl
  have mMustBeBases := PySem.W.mg_of X G aMustBeBases
  have bDifferences := FDifferences.binds (ps := ["n", "bases"]) fun _ _ _ _ _ _ us hl => match us, hl with | [_, _], _ => rfl
  have mDifferences := PySem.W.mg_of X G aDifferences
  have bBasesFor := FBasesFor.binds (ps := ["n", "k", "l"]) fun _ _ _ _ _ _ us hl => match us, hl with | [_, _, _], _ => rfl
  have mBasesFor := PySem.W.mg_of X G aBasesFor
  have bBasesByDifferences := FBasesByDifferences.binds (ps := ["n", "k"]) fun _ _ _ _ _ _ us hl => match us, hl with | [_, _], _ => rfl
  have mBasesByDifferences := PySem.W.mg_of X G aBasesByDifferences
  have bBasesWithNought := FBasesWithNought.binds (ps := ["n", "k"]) fun _ _ _ _ _ _ us hl => match us, hl with | [_, _], _ => rfl
  have mBasesWithNought := PySem.W.mg_of X G aBasesWithNought
  have bLongerByOne := FLongerByOne.binds (ps := ["n", "bases"]) fun _ _ _ _ _ _ us hl => match us, hl with | [_, _], _ => rfl
  have mLongerByOne := PySem.W.mg_of X G aLongerByOne
  have bRowsAddingUp := FRowsAddingUp.binds (ps := ["rows", "many", "left"]) fun _ _ _ _ _ _ us hl => match us, hl with | [_, _, _], _ => rfl
  have mRowsAddingUp := PySem.W.mg_of X G aRowsAddingUp
  have bFits := FFits.binds (ps := ["row", "left"]) fun _ _ _ _ _ _ us hl => match us, hl with | [_, _], _ => rfl
  have mFits := PySem.W.mg_of X G aFits
  have bWithout := FWithout.binds (ps := ["left", "row"]) fun _ _ _ _ _ _ us hl => match us, hl with | [_, _], _ => rfl
  have mWithout := PySem.W.mg_of X G aWithout
  have bCell := FCell.binds (ps := ["_law_script", "_law_k"]) fun _ _ _ _ _ _ us hl => match us, hl with | [_, _], _ => rfl
  have mCell := PySem.W.mg_of X G aCell
  have bPool := FPool.binds (ps := ["_law_cell_here"]) fun _ _ _ _ _ _ us hl => match us, hl with | [_], _ => rfl
  have mPool := PySem.W.mg_of X G aPool
  have bTake := FTake.binds (ps := ["_law_pool_here", "_law_many"]) fun _ _ _ _ _ _ us hl => match us, hl with | [_, _], _ => rfl
  have mTake := PySem.W.mg_of X G aTake
  have bLWanted := FLWanted.binds (ps := ["_law_pool_here"]) fun _ _ _ _ _ _ us hl => match us, hl with | [_], _ => rfl
  have mLWanted := PySem.W.mg_of X G aLWanted
  have bLCounted := FLCounted.binds (ps := ["_law_n", "_law_base"]) fun _ _ _ _ _ _ us hl => match us, hl with | [_, _], _ => rfl
  have mLCounted := PySem.W.mg_of X G aLCounted
  have bLSets := FLSets.binds (ps := ["_law_n", "_law_k"]) fun _ _ _ _ _ _ us hl => match us, hl with | [_, _], _ => rfl
  have mLSets := PySem.W.mg_of X G aLSets
  have bLSome := FLSome.binds (ps := ["_law_lacks", "_law_many", "_law_rows"]) fun _ _ _ _ _ _ us hl => match us, hl with | [_, _, _], _ => rfl
  have mLSome := PySem.W.mg_of X G aLSome
  have bLBasesRight := FLBasesRight.binds (ps := ["_law_found", "_law_n", "_law_k", "_law_times"]) fun _ _ _ _ _ _ us hl => match us, hl with | [_, _, _, _], _ => rfl
  have mLBasesRight := PySem.W.mg_of X G aLBasesRight
  refine ⟨fdLaw, ?_, fun base _ _ => ?_⟩
  · obtain ⟨oc, od, kV, doc, pm, an, cdv, ct, osl, rfl, lk, hcd⟩ := FLaw.ex
    exact fun s v => .of_eq rfl
  · have pC : Pm l.prog w K mg base CX0 1 "_law_cell" ["_law_script", "_law_k"] (spCell K) := ⟨fCell, fdCell, mCell, FCell.kp, bCell, ok_cell FCell T⟩
    have pP : Pm l.prog w K mg base CX0 1 "_law_pool" ["_law_cell_here"] spPool := ⟨fPool, fdPool, mPool, FPool.kp, bPool, ok_pool FPool T⟩
    have pT : Pm l.prog w K mg base CX0 1 "_law_take" ["_law_pool_here", "_law_many"] spTake := ⟨fTake, fdTake, mTake, FTake.kp, bTake, ok_take FTake⟩
    have pWt : Pm l.prog w K mg base CX0 2 "_law_wanted" ["_law_pool_here"] spWanted := ⟨fLWanted, fdLWanted, mLWanted, FLWanted.kp, bLWanted, ok_wanted FLWanted T pT⟩
    have pW : Pm l.prog w K mg base CX0 1 "is_whole" ["thing"] (spWhole K) := ⟨fWhole, fdWhole, mWhole, FWhole.kp, bWhole, ok_whole FWhole T⟩
    have pBl : Pm l.prog w K mg base CX0 2 "is_below" ["thing", "many"] spBelow := ⟨fIsBelow, fdIsBelow, mIsBelow, FIsBelow.kp, bIsBelow, ok_below FIsBelow pW⟩
    have pN : Pm l.prog w K mg base CX0 2 "is_points_number" ["thing"] spPN := ⟨fIsPointsNumber, fdIsPointsNumber, mIsPointsNumber, FIsPointsNumber.kp, bIsPointsNumber, ok_pn FIsPointsNumber mMostPoints pW⟩
    have pU : Pm l.prog w K mg base CX0 3 "are_unlike_points" ["things", "points"] spUnlike := ⟨fAreUnlikePoints, fdAreUnlikePoints, mAreUnlikePoints, FAreUnlikePoints.kp, bAreUnlikePoints, ok_unlike FAreUnlikePoints T pBl⟩
    have pMb : Pm l.prog w K mg base CX0 4 "must_be_bases" ["n", "bases"] spMustB := ⟨fMustBeBases, fdMustBeBases, mMustBeBases, FMustBeBases.kp, bMustBeBases, ok_mustB FMustBeBases T mMostBlocks pN pU⟩
    have pD : Pm l.prog w K mg base CX0 5 "differences" ["n", "bases"] spDiff := ⟨fDifferences, fdDifferences, mDifferences, FDifferences.kp, bDifferences, ok_diff FDifferences T pMb⟩
    have pLo : Pm l.prog w K mg base CX0 1 "longer_by_one" ["n", "bases"] spLonger := ⟨fLongerByOne, fdLongerByOne, mLongerByOne, FLongerByOne.kp, bLongerByOne, ok_longer FLongerByOne T⟩
    have pNo : Pm l.prog w K mg base CX0 2 "bases_with_nought" ["n", "k"] spNought := ⟨fBasesWithNought, fdBasesWithNought, mBasesWithNought, FBasesWithNought.kp, bBasesWithNought, ok_nought FBasesWithNought T pLo⟩
    have pBy : Pm l.prog w K mg base CX0 6 "bases_by_differences" ["n", "k"] spByD := ⟨fBasesByDifferences, fdBasesByDifferences, mBasesByDifferences, FBasesByDifferences.kp, bBasesByDifferences, ok_byD FBasesByDifferences T pNo pD⟩
    have pFi : Pm l.prog w K mg base CX0 1 "fits" ["row", "left"] spFits := ⟨fFits, fdFits, mFits, FFits.kp, bFits, ok_fits FFits T⟩
    have pWi : Pm l.prog w K mg base CX0 1 "without" ["left", "row"] spWithout := ⟨fWithout, fdWithout, mWithout, FWithout.kp, bWithout, ok_without FWithout T⟩
    have pA : Pm l.prog w K mg base CX0 5 "rows_adding_up" ["rows", "many", "left"] (spAdd fun m => m < 4) := ⟨fRowsAddingUp, fdRowsAddingUp, mRowsAddingUp, FRowsAddingUp.kp, bRowsAddingUp, ok_add FRowsAddingUp T mRowsAddingUp bRowsAddingUp pFi pWi 3⟩
    have pF : Pm l.prog w K mg base CX0 7 "bases_for" ["n", "k", "l"] spFor := ⟨fBasesFor, fdBasesFor, mBasesFor, FBasesFor.kp, bBasesFor, ok_for FBasesFor T pBy pA⟩
    have pCn : Pm l.prog w K mg base CX0 1 "_law_counted" ["_law_n", "_law_base"] spCnt := ⟨fLCounted, fdLCounted, mLCounted, FLCounted.kp, bLCounted, ok_counted FLCounted T⟩
    have pSe : Pm l.prog w K mg base CX0 1 "_law_sets" ["_law_n", "_law_k"] spSets := ⟨fLSets, fdLSets, mLSets, FLSets.kp, bLSets, ok_sets FLSets T⟩
    have pSo : Pm l.prog w K mg base CX0 5 "_law_some" ["_law_lacks", "_law_many", "_law_rows"] (spSome fun m => m < 4) := ⟨fLSome, fdLSome, mLSome, FLSome.kp, bLSome, ok_some FLSome T mLSome bLSome 4⟩
    have pR : Pm l.prog w K mg base CX0 2 "_law_bases_right" ["_law_found", "_law_n", "_law_k", "_law_times"] spRight := ⟨fLBasesRight, fdLBasesRight, mLBasesRight, FLBasesRight.kp, bLBasesRight, ok_right FLBasesRight T pCn⟩
    exact ok_law FLaw T pC pP pWt pF pR pCn pSe pSo
end E1
def PySem.W.Fast.tw12595757642767954217 : Nat := 0
def PySem.W.Fast.tw14023786405875284098 : Nat := 0
def PySem.W.Fast.tw16031166173222665746 : Nat := 0
def PySem.W.Fast.tw17844237723427143421 : Nat := 0
def PySem.W.Fast.tw17861636936865873283 : Nat := 0
def PySem.W.Fast.tw2153685597089025806 : Nat := 0
def PySem.W.Fast.tw4036029115720488742 : Nat := 0
def PySem.W.Fast.tw436418284325255080 : Nat := 0
def PySem.W.Fast.tw4770707312853710386 : Nat := 0
def PySem.W.Fast.tw488574400895779416 : Nat := 0
def PySem.W.Fast.tw6570619366980282482 : Nat := 0
def PySem.W.Fast.tw7064631213160268691 : Nat := 0
def PySem.W.Fast.tw7956366812701932058 : Nat := 0
def PySem.W.Fast.tw8905729185639052289 : Nat := 0
def PySem.W.Fast.tw9414805667980487903 : Nat := 0
open PySem PySem.W PyProof.Rows
set_option maxRecDepth 100000 in
set_option maxHeartbeats 0 in
theorem PySem.Challenge.cw_evenmeet_k39_bases_for_holds : PySem.Challenge.rw_evenmeet_k39_bases_for.Holds := by
  w_on; o_law; k_head; (case hw => w_witness2)
  k_fill
  refine E1.walk (l := PySem.Challenge.rw_evenmeet_k39_bases_for) (k := 20) ⟨rfl, by decide, by decide, rfl⟩ rfl rfl (fun w h Y => PySem.W.kIn_of Y) ?F
  case F =>
    intro w mg fa h KX G hmg
    have N : PySem.W.nsIn (L2.KOf KX) mainGlobals "isinstance" = some none ∧ PySem.W.nsIn (L2.KOf KX) mainGlobals "int" = some none ∧ PySem.W.nsIn (L2.KOf KX) mainGlobals "bool" = some none ∧ PySem.W.nsIn (L2.KOf KX) mainGlobals "abs" = some none ∧ PySem.W.nsIn (L2.KOf KX) mainGlobals "len" = some none ∧ PySem.W.nsIn (L2.KOf KX) mainGlobals "range" = some none ∧ PySem.W.nsIn (L2.KOf KX) mainGlobals "tuple" = some none ∧ PySem.W.nsIn (L2.KOf KX) mainGlobals "list" = some none ∧ PySem.W.nsIn (L2.KOf KX) mainGlobals "sorted" = some none ∧ PySem.W.nsIn (L2.KOf KX) mainGlobals "all" = some none ∧ PySem.W.nsIn (L2.KOf KX) mainGlobals "set" = some none ∧ PySem.W.nsIn (L2.KOf KX) mainGlobals "zip" = some none ∧ PySem.W.nsIn (L2.KOf KX) mainGlobals "enumerate" = some none ∧ PySem.W.nsIn (L2.KOf KX) mainGlobals "any" = some none ∧ PySem.W.nsIn (L2.KOf KX) mainGlobals "max" = some none ∧ PySem.W.nsIn (L2.KOf KX) mainGlobals "min" = some none ∧ PySem.W.nsIn (L2.KOf KX) mainGlobals "str" = some none ∧ PySem.W.nsIn (L2.KOf KX) mainGlobals "sum" = some none := by
      dsimp only [L2.KOf]
      refine' ⟨?z0, ?z1, ?z2, ?z3, ?z4, ?z5, ?z6, ?z7, ?z8, ?z9, ?z10, ?z11, ?z12, ?z13, ?z14, ?z15, ?z16, ?z17⟩
      (case z0 => k_is)
      (case z1 => k_is)
      (case z2 => k_is)
      (case z3 => k_is)
      (case z4 => k_is)
      (case z5 => k_is)
      (case z6 => k_is)
      (case z7 => k_is)
      (case z8 => k_is)
      (case z9 => k_is)
      (case z10 => k_is)
      (case z11 => k_is)
      (case z12 => k_is)
      (case z13 => k_is)
      (case z14 => k_is)
      (case z15 => k_is)
      (case z16 => k_is)
      (case z17 => k_is)
    have CMostPoints : ∃ t, PySem.W.nsIn (L2.KOf KX) mainGlobals "MOST_POINTS" = some (some (.int 60 t)) := by
      dsimp only [L2.KOf]
      refine' E1.cint_mk ?a
      (case a => k_is)
    have CMostBlocks : ∃ t, PySem.W.nsIn (L2.KOf KX) mainGlobals "MOST_BLOCKS" = some (some (.int 200 t)) := by
      dsimp only [L2.KOf]
      refine' E1.cint_mk ?a
      (case a => k_is)
    have AWhole : E1.At (L2.KOf KX) "is_whole" E1.sWhole := by
      dsimp only [L2.KOf]
      refine' E1.fn_mk ?a ?l ?c ?k
      (case a => k_is); (case l => k_is); (case c => k_is); (case k => k_is)
    have AIsBelow : E1.At (L2.KOf KX) "is_below" E1.sIsBelow := by
      dsimp only [L2.KOf]
      refine' E1.fn_mk ?a ?l ?c ?k
      (case a => k_is); (case l => k_is); (case c => k_is); (case k => k_is)
    have AIsPointsNumber : E1.At (L2.KOf KX) "is_points_number" E1.sIsPointsNumber := by
      dsimp only [L2.KOf]
      refine' E1.fn_mk ?a ?l ?c ?k
      (case a => k_is); (case l => k_is); (case c => k_is); (case k => k_is)
    have AAreUnlikePoints : E1.At (L2.KOf KX) "are_unlike_points" E1.sAreUnlikePoints := by
      dsimp only [L2.KOf]
      refine' E1.fn_mk ?a ?l ?c ?k
      (case a => k_is); (case l => k_is); (case c => k_is); (case k => k_is)
    have AMustBeBases : E1.At (L2.KOf KX) "must_be_bases" E1.sMustBeBases := by
      dsimp only [L2.KOf]
      refine' E1.fn_mk ?a ?l ?c ?k
      (case a => k_is); (case l => k_is); (case c => k_is); (case k => k_is)
    have ADifferences : E1.At (L2.KOf KX) "differences" E1.sDifferences := by
      dsimp only [L2.KOf]
      refine' E1.fn_mk ?a ?l ?c ?k
      (case a => k_is); (case l => k_is); (case c => k_is); (case k => k_is)
    have ABasesFor : E1.At (L2.KOf KX) "bases_for" E1.sBasesFor := by
      dsimp only [L2.KOf]
      refine' E1.fn_mk ?a ?l ?c ?k
      (case a => k_is); (case l => k_is); (case c => k_is); (case k => k_is)
    have ABasesByDifferences : E1.At (L2.KOf KX) "bases_by_differences" E1.sBasesByDifferences := by
      dsimp only [L2.KOf]
      refine' E1.fn_mk ?a ?l ?c ?k
      (case a => k_is); (case l => k_is); (case c => k_is); (case k => k_is)
    have ABasesWithNought : E1.At (L2.KOf KX) "bases_with_nought" E1.sBasesWithNought := by
      dsimp only [L2.KOf]
      refine' E1.fn_mk ?a ?l ?c ?k
      (case a => k_is); (case l => k_is); (case c => k_is); (case k => k_is)
    have ALongerByOne : E1.At (L2.KOf KX) "longer_by_one" E1.sLongerByOne := by
      dsimp only [L2.KOf]
      refine' E1.fn_mk ?a ?l ?c ?k
      (case a => k_is); (case l => k_is); (case c => k_is); (case k => k_is)
    have ARowsAddingUp : E1.At (L2.KOf KX) "rows_adding_up" E1.sRowsAddingUp := by
      dsimp only [L2.KOf]
      refine' E1.fn_mk ?a ?l ?c ?k
      (case a => k_is); (case l => k_is); (case c => k_is); (case k => k_is)
    have AFits : E1.At (L2.KOf KX) "fits" E1.sFits := by
      dsimp only [L2.KOf]
      refine' E1.fn_mk ?a ?l ?c ?k
      (case a => k_is); (case l => k_is); (case c => k_is); (case k => k_is)
    have AWithout : E1.At (L2.KOf KX) "without" E1.sWithout := by
      dsimp only [L2.KOf]
      refine' E1.fn_mk ?a ?l ?c ?k
      (case a => k_is); (case l => k_is); (case c => k_is); (case k => k_is)
    have ACell : E1.At (L2.KOf KX) "_law_cell" E1.sCell := by
      dsimp only [L2.KOf]
      refine' E1.fn_mk ?a ?l ?c ?k
      (case a => k_is); (case l => k_is); (case c => k_is); (case k => k_is)
    have APool : E1.At (L2.KOf KX) "_law_pool" E1.sPool := by
      dsimp only [L2.KOf]
      refine' E1.fn_mk ?a ?l ?c ?k
      (case a => k_is); (case l => k_is); (case c => k_is); (case k => k_is)
    have ATake : E1.At (L2.KOf KX) "_law_take" E1.sTake := by
      dsimp only [L2.KOf]
      refine' E1.fn_mk ?a ?l ?c ?k
      (case a => k_is); (case l => k_is); (case c => k_is); (case k => k_is)
    have ALWanted : E1.At (L2.KOf KX) "_law_wanted" E1.sLWanted := by
      dsimp only [L2.KOf]
      refine' E1.fn_mk ?a ?l ?c ?k
      (case a => k_is); (case l => k_is); (case c => k_is); (case k => k_is)
    have ALCounted : E1.At (L2.KOf KX) "_law_counted" E1.sLCounted := by
      dsimp only [L2.KOf]
      refine' E1.fn_mk ?a ?l ?c ?k
      (case a => k_is); (case l => k_is); (case c => k_is); (case k => k_is)
    have ALSets : E1.At (L2.KOf KX) "_law_sets" E1.sLSets := by
      dsimp only [L2.KOf]
      refine' E1.fn_mk ?a ?l ?c ?k
      (case a => k_is); (case l => k_is); (case c => k_is); (case k => k_is)
    have ALSome : E1.At (L2.KOf KX) "_law_some" E1.sLSome := by
      dsimp only [L2.KOf]
      refine' E1.fn_mk ?a ?l ?c ?k
      (case a => k_is); (case l => k_is); (case c => k_is); (case k => k_is)
    have ALBasesRight : E1.At (L2.KOf KX) "_law_bases_right" E1.sLBasesRight := by
      dsimp only [L2.KOf]
      refine' E1.fn_mk ?a ?l ?c ?k
      (case a => k_is); (case l => k_is); (case c => k_is); (case k => k_is)
    have ALaw : E1.At (L2.KOf KX) "law" E1.sLaw := by
      dsimp only [L2.KOf]
      refine' E1.fn_mk ?a ?l ?c ?k
      (case a => k_is); (case l => k_is); (case c => k_is); (case k => k_is)
    exact E1.all_mk KX G hmg N CMostPoints CMostBlocks AWhole AIsBelow AIsPointsNumber AAreUnlikePoints AMustBeBases ADifferences ABasesFor ABasesByDifferences ABasesWithNought ALongerByOne ARowsAddingUp AFits AWithout ACell APool ATake ALWanted ALCounted ALSets ALSome ALBasesRight ALaw


