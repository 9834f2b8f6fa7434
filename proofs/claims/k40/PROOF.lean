import PyProof.Rows.All
import Wide.All
import OpenK.AllK
import Wide.FinOn
import Lean
import PyProof.EqAt
import PyProof.EqKinds
import PyProof.TupleCall
import PySem.Challenge.RW_evenmeet_k40_whole_bases_taken_so_often
set_option Elab.async false
set_option linter.all false
set_option maxRecDepth 100000
/-! THE HAND LAYER, for ints, bools, texts, own classes, LISTS and tuples (index, slices, in, append, pop ..), calls, loops. Paste it whole ahead of your own text; what your proof does not reach may be deleted. -/
namespace L2
open PySem PySem.Spec PyProof.Rows

/-- a key: an int or a str -/
abbrev Key := Sum Int Str
def keyIs : Key → Value → Bool
  | .inl k, v => Value.isInt k v
  | .inr x, v => Value.isStrOf x v
def keyH (w : World) : Key → Int
  | .inl k => hashInt k
  | .inr x => hashStr w x
theorem keyIs_shape : ∀ {k : Key} {v : Value}, keyIs k v = true → (∃ i t, k = Sum.inl i ∧ v = Value.int i t) ∨ (∃ x t, k = Sum.inr x ∧ v = Value.str x t)
  | .inl i, v, h => by
    obtain ⟨t, e⟩ := Value.isInt_shape (k := i) (v := v) h
    exact .inl ⟨i, t, rfl, e⟩
  | .inr x, v, h => by
    obtain ⟨t, e⟩ := Value.isStrOf_shape (x := x) (v := v) h
    exact .inr ⟨x, t, rfl, e⟩
theorem keyIs_int (i : Int) (t : Tok) : keyIs (.inl i) (.int i t) = true := by simp [keyIs, Value.isInt]
theorem keyIs_str (x : Str) (t : Tok) : keyIs (.inr x) (.str x t) = true := by simp [keyIs, Value.isStrOf]
theorem key_ll (a b : Int) : decide ((Sum.inl a : Key) = Sum.inl b) = (a == b) := by
  by_cases e : a = b
  · subst e; simp
  · have h : ¬ (Sum.inl a : Key) = Sum.inl b := fun q => e (Sum.inl.inj q)
    rw [decide_eq_false h]
    exact (beq_eq_false_iff_ne.mpr e).symm
theorem key_rr (a b : Str) : decide ((Sum.inr a : Key) = Sum.inr b) = decide (a = b) := by
  by_cases e : a = b
  · subst e; simp
  · have h : ¬ (Sum.inr a : Key) = Sum.inr b := fun q => e (Sum.inr.inj q)
    rw [decide_eq_false h, decide_eq_false e]
theorem key_lr (a : Int) (b : Str) : decide ((Sum.inl a : Key) = Sum.inr b) = false := decide_eq_false (fun q => nomatch q)
theorem key_rl (a : Str) (b : Int) : decide ((Sum.inr a : Key) = Sum.inl b) = false := decide_eq_false (fun q => nomatch q)

def mixKind (prog : Program) (w : World) : PySem.KeyKind prog w Key where
  is := keyIs
  hash := keyH w
  inj := fun v a b ha hb => by
    rcases keyIs_shape ha with ⟨i, t, rfl, rfl⟩ | ⟨x, t, rfl, rfl⟩
    · rcases keyIs_shape hb with ⟨j, u, rfl, e⟩ | ⟨y, u, rfl, e⟩
      · injection e with e1 _; rw [e1]
      · exact nomatch e
    · rcases keyIs_shape hb with ⟨j, u, rfl, e⟩ | ⟨y, u, rfl, e⟩
      · exact nomatch e
      · injection e with e1 _; rw [e1]
  byValue := fun k v h => by
    rcases keyIs_shape h with ⟨i, t, rfl, rfl⟩ | ⟨x, t, rfl, rfl⟩ <;> rfl
  pyHash := fun hv h => by
    rcases keyIs_shape hv with ⟨i, t, rfl, rfl⟩ | ⟨x, t, rfl, rfl⟩
    · exact wpAny_pyHash_int h
    · exact wpAny_pyHash_str h
  eqBool := fun hu hv h => by
    rcases keyIs_shape hu with ⟨i, t, rfl, rfl⟩ | ⟨x, t, rfl, rfl⟩
    · rcases keyIs_shape hv with ⟨j, u, rfl, rfl⟩ | ⟨y, u, rfl, rfl⟩
      · rw [key_ll] at h; exact wpAny_eqBool_int h
      · rw [key_lr] at h; exact SeqAt.EqAt.int_str i t y u _ _ _ _ h
    · rcases keyIs_shape hv with ⟨j, u, rfl, rfl⟩ | ⟨y, u, rfl, rfl⟩
      · rw [key_rl] at h; exact SeqAt.EqAt.str_int x t j u _ _ _ _ h
      · rw [key_rr] at h; exact wpAny_eqBool_str h
  «strs» := fun k x t v h => by
    rcases keyIs_shape h with ⟨i, u, rfl, e⟩ | ⟨y, u, rfl, e⟩
    · exact nomatch e
    · injection e with e1 _
      subst e1
      cases v <;> rfl

theorem mixKind_int (prog : Program) (w : World) (i : Int) (t : Tok) : (mixKind prog w).is (.inl i) (.int i t) = true := keyIs_int i t
theorem mixKind_str (prog : Program) (w : World) (x : Str) (t : Tok) : (mixKind prog w).is (.inr x) (.str x t) = true := keyIs_str x t
end L2

namespace L2
open PySem PySem.Spec PyProof.Rows

/-- a value, without the heap -/
inductive V where
  | non | bl (b : Bool) | int (i : Int) | str (x : Str) | byt (b : Array UInt8) | flt (b : UInt64) | ref (a : Addr) | ty (n : String)
  deriving DecidableEq

def RelV : V → Value → Prop
  | .non, u => u = Value.none
  | .bl b, u => u = Value.bool b
  | .int i, u => ∃ t, u = Value.int i t
  | .str x, u => ∃ t, u = Value.str x t
  | .byt b, u => ∃ t, u = Value.bytes b t
  | .flt b, u => ∃ t, u = Value.float b t
  | .ref a, u => u = Value.ref a
  | .ty n, u => u = Value.type n

abbrev Vals : List V → List Value → Prop := Paired RelV
theorem Vals.length {xs : List V} {us : List Value} (r : Vals xs us) : xs.length = us.length := Paired.length r
theorem Vals.get : ∀ {xs : List V} {us : List Value} {i : Nat} {x : V}, Vals xs us → xs[i]? = some x → ∃ u, us[i]? = some u ∧ RelV x u
  | _, _, _, _, .nil, e => by simp at e
  | _, _, 0, _, .cons r _, e => by simp at e; subst e; exact ⟨_, rfl, r⟩
  | _, _, i + 1, x, .cons _ t, e => by
    obtain ⟨u, h1, h2⟩ := Vals.get (i := i) (x := x) t (by simpa using e)
    exact ⟨u, by simpa using h1, h2⟩
theorem Vals.set {x : V} {u : Value} (r : RelV x u) : ∀ {xs : List V} {us : List Value} (i : Nat), Vals xs us → Vals (xs.set i x) (us.set i u)
  | _, _, _, .nil => .nil
  | _, _, 0, .cons _ t => .cons r t
  | _, _, i + 1, .cons q t => .cons q (Vals.set r i t)
theorem Vals.append : ∀ {xs ys : List V} {us ws : List Value}, Vals xs us → Vals ys ws → Vals (xs ++ ys) (us ++ ws)
  | _, _, _, _, .nil, s => s
  | _, _, _, _, .cons r t, s => .cons r (Vals.append t s)
theorem Vals.take : ∀ {xs : List V} {us : List Value} (n : Nat), Vals xs us → Vals (xs.take n) (us.take n)
  | _, _, 0, _ => .nil
  | _, _, _ + 1, .nil => .nil
  | _, _, n + 1, .cons r t => .cons r (Vals.take n t)
theorem Vals.drop : ∀ {xs : List V} {us : List Value} (n : Nat), Vals xs us → Vals (xs.drop n) (us.drop n)
  | _, _, 0, r => r
  | _, _, _ + 1, .nil => .nil
  | _, _, n + 1, .cons _ t => Vals.drop n t
def RelO : Option V → Option Value → Prop
  | some v, some u => RelV v u
  | none, none => True
  | _, _ => False
def KV {κ : Type} : List (κ × V) → List (κ × Value) → Prop := Paired fun (p : κ × V) (q : κ × Value) => p.1 = q.1 ∧ RelV p.2 q.2

/-- a key of a dict (00_mix): an int or a text -/
def kV : Key → V
  | .inl i => .int i
  | .inr x => .str x

/-- what stands at a tracked address -/
inductive HO where
  /-- a list -/
  | lst (xs : List V)
  /-- a tuple (never changes) -/
  | tup (xs : List V)
  /-- a dict whose keys are ints and texts; one whose keys are tuples of ints and texts (the empty one is both) -/
  | dK (kvs : List (Key × V)) | dT (kvs : List (List Key × V))
  /-- a set of ints: its members, its size -/
  | set (S : Int → Bool) (n : Nat)
  /-- an instance of the class at C, its dict at dx, its attributes -/
  | ins (C dx : Addr) (fs : List (Str × V))
  /-- the dict of the instance at x -/
  | own (x : Addr)
  /-- the dict of an exception -/
  | xd (fs : List (Str × V))
  /-- a bound method, f of x -/
  | met (f x : Addr)
  /-- a range object lo, lo + 1, .. below hi -/
  | rng (lo hi : Int)
  /-- a thing that is known to the object (the script; a dict while a loop walks it): read, never written while it is so -/
  | frz (o : Obj) (u : HO)
  /-- a code object's table -/
  | tbl (ps : Array Value)
  /-- any other thing, by what is true of its one object (a def of one's own: SetO a S n := HO.ext fun h => ..) -/
  | ext (φ : Heap → Prop)

abbrev Hp := Addr → Option HO
def upd (H : Hp) (a : Addr) (o : HO) : Hp := fun b => if b = a then some o else H b
theorem upd_same {H : Hp} {a : Addr} {o : HO} : upd H a o a = some o := by unfold upd; rw [if_pos rfl]
theorem upd_ne {H : Hp} {a b : Addr} {o : HO} (h : b ≠ a) : upd H a o b = H b := by unfold upd; rw [if_neg h]
/-- two objects of different content stand apart -/
theorem ne_of {H : Hp} {a b : Addr} {o u : HO} (h : H a = some o) (h' : H b = some u) (d : o ≠ u) : a ≠ b := by
  intro e; subst e; rw [h] at h'; exact d (Option.some.inj h')
theorem ne_of_none {H : Hp} {a b : Addr} {o : HO} (h : H a = some o) (h' : H b = none) : a ≠ b := by
  intro e; subst e; rw [h] at h'; cases h'

section
variable (P : Program) (w : World)
def ObjOk (H : Hp) (h : Heap) (a : Addr) : HO → Prop
  | .lst xs => xs.length ≤ sizeLine ∧ ∃ (its : List Value) (n : Nat), Vals xs its ∧ h.get? a = some { cls := .type "list", data := .seq its.toArray n }
  | .tup xs => xs.length ≤ sizeLine ∧ ∃ its : List Value, Vals xs its ∧ IsTup h a its.toArray
  | .dK kvs => kvs.length ≤ sizeLine ∧ (a == sysModules) = false ∧ ∃ vs, KV kvs vs ∧ h.DictOf (mixKind P w) a vs
  | .dT kvs => kvs.length ≤ sizeLine ∧ (a == sysModules) = false ∧ ∃ xs : List (List Key × Addr × Value),
      Paired (fun (p : List Key × V) (q : List Key × Addr × Value) => p.1 = q.1 ∧ H q.2.1 = some (.tup (p.1.map kV)) ∧ RelV p.2 q.2.2) kvs xs ∧
      ∃ o es ep, h.get? a = some o ∧ o.ExactDict ∧ o.data = .dict es ep ∧ es.toList = xs.map (entryOfKey (tupleKind (mixKind P w))) ∧ (xs.map (·.1)).Nodup
  | .set S n => h.SetOf (intKind P w) a S n
  | .ins C dx fs => H dx = some (.own a) ∧ fs.length ≤ 1000 ∧ dx ≠ a ∧ h.get? a = some (PySem.W.instObj C dx) ∧
      ∃ mA, h.Ns1 dx mA ∧ (∀ f, RelO (fs.lookup f) (mA f)) ∧ PySem.Within mA (fs.map (·.1))
  | .own _ => ∃ o, h.get? a = some o
  | .xd fs => ∃ mA, h.Ns1 a mA ∧ ∀ f, RelO (fs.lookup f) (mA f)
  | .rng lo hi => ∃ t u v, h.get? a = some { cls := .type "range", data := .fields #[.int lo t, .int hi u, .int 1 v] }
  | .frz o u => h.get? a = some o ∧ ObjOk H h a u
  | .tbl ps => h.get? a = some { cls := .none, data := .fields ps }
  | .met f x => h.get? a = some (PySem.W.methodObj (.ref f) (.ref x))
  | .ext φ => φ h ∧ (∃ o, h.get? a = some o) ∧ ∀ h1 h2 : Heap, φ h1 → (∀ o, h1.get? a = some o → h2.get? a = some o) → φ h2
/-- the abstract heap is held -/
def HOk (H : Hp) (h : Heap) : Prop := ∀ a o, H a = some o → ObjOk P w H h a o
end

section
variable {P : Program} {w : World} {H H' : Hp} {h h' : Heap} {a : Addr} {o : HO}
theorem ObjOk.lt (x : ObjOk P w H h a o) : a < h.objs.size := by
  cases o with
  | lst xs => obtain ⟨_, _, _, _, e⟩ := x; exact Heap.lt_size e
  | tup xs => obtain ⟨_, _, _, p⟩ := x; exact p.lt
  | dK kvs => obtain ⟨_, _, _, _, o, _, _, e, _⟩ := x; exact Heap.lt_size e
  | dT kvs => obtain ⟨_, _, _, _, o, _, _, e, _⟩ := x; exact Heap.lt_size e
  | set S n => obtain ⟨o, _, _, _, e, _⟩ := x; exact Heap.lt_size e
  | ins C dx fs => obtain ⟨_, _, _, e, _⟩ := x; exact Heap.lt_size e
  | own y => obtain ⟨_, e⟩ := x; exact Heap.lt_size e
  | xd fs => obtain ⟨_, ⟨_, _, _, e, _⟩, _⟩ := x; exact Heap.lt_size e
  | rng lo hi => obtain ⟨_, _, _, e⟩ := x; exact Heap.lt_size e
  | frz ob u => obtain ⟨e, _⟩ := x; exact Heap.lt_size e
  | tbl ps => exact Heap.lt_size (show h.get? a = some _ from x)
  | met f y => exact Heap.lt_size (show h.get? a = some _ from x)
  | ext φ => obtain ⟨_, ⟨_, e⟩, _⟩ := x; exact Heap.lt_size e
theorem Paired.mapP {α β : Type} {F G : α → β → Prop} : ∀ {l₁ : List α} {l₂ : List β}, Paired F l₁ l₂ → (∀ a b, F a b → G a b) → Paired G l₁ l₂
  | _, _, .nil, _ => .nil
  | _, _, .cons r t, f => .cons (f _ _ r) (Paired.mapP t f)
/-- what an object's description leans on: its own object, its own dict, the tuples -/
theorem ObjOk.stay (x : ObjOk P w H h a o) (k : ∀ b u, (b = a ∨ H b = some (.own a)) → h.get? b = some u → h'.get? b = some u)
    (ho : ∀ b, H b = some (.own a) → H' b = some (.own a)) (ht : ∀ b xs, H b = some (.tup xs) → H' b = some (.tup xs)) : ObjOk P w H' h' a o := by
  induction o with
  | lst xs => obtain ⟨z, its, n, r, e⟩ := x; exact ⟨z, its, n, r, k _ _ (.inl rfl) e⟩
  | tup xs => obtain ⟨z, its, r, ob, e, c⟩ := x; exact ⟨z, its, r, ob, k _ _ (.inl rfl) e, c⟩
  | dK kvs => obtain ⟨z, y, vs, r, ob, es, ep, e, c⟩ := x; exact ⟨z, y, vs, r, ob, es, ep, k _ _ (.inl rfl) e, c⟩
  | dT kvs =>
    obtain ⟨z, y, xs, r, ob, es, ep, e, c⟩ := x
    exact ⟨z, y, xs, Paired.mapP r fun p q z => ⟨z.1, ht _ _ z.2.1, z.2.2⟩, ob, es, ep, k _ _ (.inl rfl) e, c⟩
  | set S n => obtain ⟨ob, es, ep, t, e, c⟩ := x; exact ⟨ob, es, ep, t, k _ _ (.inl rfl) e, c⟩
  | ins C dx fs =>
    obtain ⟨d, z, ne, e, mA, ⟨od, es, ep, e2, c⟩, r⟩ := x
    exact ⟨ho _ d, z, ne, k _ _ (.inl rfl) e, mA, ⟨od, es, ep, k _ _ (.inr d) e2, c⟩, r⟩
  | own y => obtain ⟨ob, e⟩ := x; exact ⟨ob, k _ _ (.inl rfl) e⟩
  | xd fs => obtain ⟨mA, ⟨od, es, ep, e, c⟩, r⟩ := x; exact ⟨mA, ⟨od, es, ep, k _ _ (.inl rfl) e, c⟩, r⟩
  | rng lo hi => obtain ⟨t, u, v, e⟩ := x; exact ⟨t, u, v, k _ _ (.inl rfl) e⟩
  | frz ob u ih => obtain ⟨e, q⟩ := x; exact ⟨k _ _ (.inl rfl) e, ih q⟩
  | tbl ps =>
    have e : h.get? a = some { cls := .none, data := .fields ps } := x
    show h'.get? a = some { cls := .none, data := .fields ps }
    exact k a _ (.inl rfl) e
  | met f y =>
    have e : h.get? a = some (PySem.W.methodObj (.ref f) (.ref y)) := x
    show h'.get? a = some (PySem.W.methodObj (.ref f) (.ref y))
    exact k a _ (.inl rfl) e
  | ext φ => obtain ⟨p, ⟨o, e⟩, st⟩ := x; exact ⟨st _ _ p fun o q => k _ _ (.inl rfl) q, ⟨o, k _ _ (.inl rfl) e⟩, st⟩
theorem HOk.lt (x : HOk P w H h) (e : H a = some o) : a < h.objs.size := (x a o e).lt
theorem HOk.fresh (x : HOk P w H h) (e : h.objs.size ≤ a) : H a = none := by
  cases q : H a with
  | none => rfl
  | some u => exact absurd (Nat.lt_of_lt_of_le (x.lt q) e) (Nat.lt_irrefl _)
/-- every object of the heap is kept -/
theorem HOk.kept (x : HOk P w H h) (k : ∀ b u, h.get? b = some u → h'.get? b = some u) : HOk P w H h' := fun a o e =>
  (x a o e).stay (fun b u _ q => k b u q) (fun _ q => q) fun _ _ q => q
/-- a new object is laid and tracked -/
theorem HOk.laid (x : HOk P w H h) (k : ∀ b u, h.get? b = some u → h'.get? b = some u) (hp : h.objs.size ≤ a) (new : ObjOk P w (upd H a o) h' a o) : HOk P w (upd H a o) h' := fun b u e => by
  have hn := x.fresh hp
  by_cases hb : b = a
  · subst hb; rw [upd_same] at e; cases e; exact new
  · rw [upd_ne hb] at e
    exact (x b u e).stay (fun c v _ q => k c v q) (fun c q => by rw [upd_ne (ne_of_none q hn)]; exact q) fun c xs q => by rw [upd_ne (ne_of_none q hn)]; exact q
end

/-- what may be read as u: it is u, or a known u -/
def Rd (H : Hp) (a : Addr) (u : HO) : Prop := H a = some u ∨ ∃ o, H a = some (.frz o u)
theorem Rd.ok {P : Program} {w : World} {H : Hp} {h : Heap} {a : Addr} {u : HO} (r : Rd H a u) (x : HOk P w H h) : ObjOk P w H h a u := by
  rcases r with r | ⟨o, r⟩
  · exact x a u r
  · obtain ⟨_, q⟩ := x a _ r
    exact q
/-- what may be written -/
def Mut : Option HO → Prop
  | some (.lst _) => True
  | some (.dK _) => True
  | some (.dT _) => True
  | some (.set _ _) => True
  | some (.ins _ _ _) => True
  | some (.ext _) => True
  | _ => False
section
variable {P : Program} {w : World} {H : Hp} {h h' : Heap} {x e : Addr} {o' : HO}
/-- the object at e is changed: x itself, or the dict of the instance x -/
theorem HOk.write (ok : HOk P w H h) (mu : Mut (H x)) (he : e = x ∨ H e = some (.own x)) (k : ∀ b u, b ≠ e → h.get? b = some u → h'.get? b = some u) (heo : ∃ u, h'.get? e = some u)
    (new : ObjOk P w (upd H x o') h' x o') : HOk P w (upd H x o') h' := fun b u q => by
  have nown : ∀ c y, H c = some (.own y) → c ≠ x := fun c y r z => by subst z; rw [r] at mu; exact mu
  have ntup : ∀ c xs, H c = some (.tup xs) → c ≠ x := fun c xs r z => by subst z; rw [r] at mu; exact mu
  by_cases hb : b = x
  · subst hb; rw [upd_same] at q; cases q; exact new
  · rw [upd_ne hb] at q
    by_cases hbe : b = e
    · have q' : H b = some (.own x) := by
        rcases he with z | z
        · exact absurd (hbe.trans z) hb
        · rw [hbe]; exact z
      rw [q] at q'; cases q'
      obtain ⟨v, hv⟩ := heo
      exact ⟨v, by rw [hbe]; exact hv⟩
    · refine (ok b u q).stay (fun c v hc r => k c v ?_ r) (fun c r => by rw [upd_ne (nown c b r)]; exact r) fun c xs r => by rw [upd_ne (ntup c xs r)]; exact r
      rcases hc with rfl | hc
      · exact hbe
      · rintro rfl
        rcases he with z | z
        · exact nown c b hc z
        · rw [hc] at z; cases z; exact hb rfl
end

/-! ### kept unless tracked; of the frames at fs (the callers') the slots may change (an exception that passes writes there); of the records at ex (iterators) nothing is said -/
structure Un (fs ex : List Addr) (H H' : Hp) (h h' : Heap) : Prop where
  keep : ∀ b o, h.get? b = some o → H b = none → b ∉ fs → b ∉ ex → h'.get? b = some o
  slot : ∀ b o, h.get? b = some o → H b = none → b ∈ fs → b ∉ ex → ∃ sl, h'.get? b = some { o with slots := sl }
  free : ∀ b o, h.get? b = some o → H b = none → b ∉ ex → H' b = none
  there : ∀ b o, h.get? b = some o → b ∉ ex → ∃ o', h'.get? b = some o'
  tups : ∀ b xs, H b = some (.tup xs) → H' b = some (.tup xs)
  frzs : ∀ b o u, H b = some (.frz o u) → H' b = some (.frz o u)
  tbls : ∀ b ps, H b = some (.tbl ps) → ∃ more, H' b = some (.tbl (ps ++ more))
section
variable {fs fs' ex ex' : List Addr} {H H1 H2 : Hp} {h h1 h2 h' : Heap} {a x e : Addr} {o : HO}
theorem Un.any (u : Un fs ex H H1 h h1) {b : Addr} {ob : Obj} (q : h.get? b = some ob) (n : H b = none) (hx : b ∉ ex) : ∃ sl, h1.get? b = some { ob with slots := sl } := by
  by_cases hb : b ∈ fs
  · exact u.slot b ob q n hb hx
  · exact ⟨ob.slots, u.keep b ob q n hb hx⟩
theorem Un.kept (k : ∀ b u, h.get? b = some u → h'.get? b = some u) : Un fs ex H H h h' :=
  ⟨fun b ob q _ _ _ => k b ob q, fun b ob q _ _ _ => ⟨ob.slots, k b ob q⟩, fun _ _ _ n _ => n, fun b ob q _ => ⟨ob, k b ob q⟩, fun _ _ q => q, fun _ _ _ q => q, fun _ ps q => ⟨#[], by rw [q]; simp⟩⟩
theorem Un.refl : Un fs ex H H h h := Un.kept fun _ _ q => q
theorem Un.laid (k : ∀ b u, h.get? b = some u → h'.get? b = some u) (hp : h.objs.size ≤ a) (hn : H a = none) : Un fs ex H (upd H a o) h h' where
  keep := fun b u q _ _ _ => k b u q
  slot := fun b u q _ _ _ => ⟨u.slots, k b u q⟩
  free := fun b u q n _ => by rw [upd_ne (Nat.ne_of_lt (Nat.lt_of_lt_of_le (Heap.lt_size q) hp))]; exact n
  there := fun b u q _ => ⟨u, k b u q⟩
  tups := fun b xs q => by rw [upd_ne (ne_of_none q hn)]; exact q
  frzs := fun b u xs q => by rw [upd_ne (ne_of_none q hn)]; exact q
  tbls := fun b ps q => ⟨#[], by rw [upd_ne (ne_of_none q hn), q]; simp⟩
theorem Un.write (mu : Mut (H x)) (he : e = x ∨ H e = some (.own x)) (k : ∀ b u, b ≠ e → h.get? b = some u → h'.get? b = some u) (heo : ∃ u, h'.get? e = some u) : Un fs ex H (upd H x o) h h' := by
  have hx : ∀ b, H b = none → b ≠ x := fun b n z => by subst z; rw [n] at mu; exact mu
  have hb : ∀ b, H b = none → b ≠ e := fun b n z => by
    subst z
    rcases he with r | r
    · exact hx b n r
    · rw [n] at r; cases r
  have hm : ∀ b u, H b = some u → ¬ Mut (some u) → b ≠ x := fun b u q nm z => by subst z; rw [q] at mu; exact nm mu
  refine ⟨fun b u q n _ _ => k b u (hb b n) q, fun b u q n _ _ => ⟨u.slots, k b u (hb b n) q⟩, fun b u q n _ => by rw [upd_ne (hx b n)]; exact n, fun b u q _ => ?_,
    fun b xs q => by rw [upd_ne (hm b _ q fun z => z)]; exact q, fun b u xs q => by rw [upd_ne (hm b _ q fun z => z)]; exact q, fun b ps q => ⟨#[], by rw [upd_ne (hm b _ q fun z => z), q]; simp⟩⟩
  by_cases hbe : b = e
  · subst hbe; exact heo
  · exact ⟨u, k b u hbe q⟩
end

/-! ### the heap without what is tracked -/
def trk (h : Heap) (H : Hp) : List Addr := (List.range h.objs.size).filter fun a => (H a).isSome
def hidT (h : Heap) (H : Hp) : Heap := PySem.W.hideAll h (trk h H)
theorem hidT_size (h : Heap) (H : Hp) : (hidT h H).objs.size = h.objs.size := PySem.W.hideAll_size _ _
theorem hidT_get {h : Heap} {H : Hp} {b : Addr} {o : Obj} (e : h.get? b = some o) (n : H b = none) : (hidT h H).get? b = some o :=
  PySem.W.hideAll_get _ e fun hm => by
    have q : (H b).isSome = true := (List.mem_filter.mp hm).2
    rw [n] at q; simp at q
theorem of_hidT {h : Heap} {H : Hp} {b : Addr} {o : Obj} (e : (hidT h H).get? b = some o) : h.get? b = some o ∧ H b = none := by
  have e' : h.get? b = some o := PySem.W.of_hideAll (trk h H) e
  refine ⟨e', ?_⟩
  cases q : H b with
  | none => rfl
  | some x =>
    have hm : b ∈ trk h H := List.mem_filter.mpr ⟨List.mem_range.mpr (Heap.lt_size e'), by simp [q]⟩
    have z : (hidT h H).get? b = none := PySem.W.hideAll_none (trk h H) hm
    rw [z] at e; cases e

/-! ### OpenK's ledger, filled with every new object but one -/
end L2

namespace L2
open PySem PySem.Spec PyProof.Rows

/-- the module's facts, over the base: the heap at the law's entry without what is tracked there -/
structure Mod (K : PySem.W.Frag) (mg : Str → Option Value) (base : Heap) : Prop where
  kin : K.In base
  glob : base.Ns mainGlobals mg
  blt : ∃ mb, base.Ns builtinsNs mb ∧ ∀ x : Str, x ≠ "__name__" → mb x = bootBuiltins x
  nolimit : base.NoLimit

/-- the context: a def's body (or a comprehension's block) running. base: fixed through the whole law; s₀, H₀: the entry; outer: the frames whose slots others may change (a def's callers); stack: all frames that run;
   ex: iterators that were made ahead of the entry and are walked here (a comprehension's); fn: the names whose cells were made at the entry (a def: all; a comprehension's block: its own); calm: not within an except suite; pn: pins that every state bears; xe: what is wanted of an exception that leaves the code -/
structure Cx where
  prog : Program
  w : World
  K : PySem.W.Frag
  mg : Str → Option Value
  base : Heap
  A : Around
  N : List Str
  s₀ : Shared
  H₀ : Hp
  env : Env
  outer : List Env
  stack : List Env
  ex : List Addr
  fn : Str → Bool
  calm : Bool
  pn : List (Addr × Obj)
  xe : Value → Shared → Prop
/-- the callers' frames -/
def frs (l : List Env) : List Addr := l.filterMap (·.frame)
abbrev Cx.fs (X : Cx) : List Addr := frs X.outer

def Vis (sc : Scope) (x : Str) : Prop := sc.names.lookup x = some .local ∨ sc.names.lookup x = some .cell ∨ sc.names.lookup x = some .free
def Loc (sc : Scope) (x : Str) : Prop := sc.names.lookup x = some .local ∨ sc.names.lookup x = some .cell
def Look (env : Env) (h : Heap) (m : Str → Option Value) (x : Str) (u : Value) : Prop :=
  (env.kindOf x = some .local ∧ m x = some u) ∨ ((env.kindOf x = some .cell ∨ env.kindOf x = some .free) ∧ ∃ c, env.cells.lookup x = some c ∧ h.IsCell c (some u))

structure Cx.Ok (X : Cx) : Prop where
  mod : Mod X.K X.mg X.base
  kind : X.env.scope.kind = .function
  glob : X.env.globals = mainGlobals
  blt : X.env.builtins = builtinsNs
  above : X.s₀.heap.objs.size ≤ X.env.locals
  inj : ∀ x y c, X.env.cells.lookup x = some c → X.env.cells.lookup y = some c → x = y
  has : ∀ x, (X.env.kindOf x = some .cell ∨ X.env.kindOf x = some .free) → ∃ c, X.env.cells.lookup x = some c
  cab : ∀ x c, X.fn x = true → X.env.cells.lookup x = some c → X.s₀.heap.objs.size ≤ c
  hd : X.calm = true → X.A.handled = none
  frames : X.A.frames = some X.stack
  stk : X.stack = X.outer ∨ (X.stack = X.env :: X.outer ∧ X.env.frame = some X.env.locals)
  exf : ∀ b ∈ X.ex, b ≠ X.env.locals ∧ ∀ x c, X.env.cells.lookup x = some c → c ≠ b
  bs : ∀ b o, X.base.get? b = some o → X.s₀.heap.get? b = some o ∧ X.H₀ b = none
  bsz : X.base.objs.size ≤ X.s₀.heap.objs.size
  noex : ∀ b o, X.base.get? b = some o → b ∉ X.ex
  exfs : ∀ b ∈ X.ex, b ∉ X.fs
  funs : X.s₀.heap.FunFrames X.base X.outer
  frf : ∀ b ∈ X.fs, X.H₀ b = none

structure Inv (X : Cx) (pins : List (Addr × Obj)) (σ : List (Option V)) (H : Hp) (s : Shared) : Prop where
  ok : X.Ok
  os : s.os = X.s₀.os
  bare : AllBare s.gens
  base : Un X.fs X.ex X.H₀ H X.s₀.heap s.heap
  loc : ∃ m, s.heap.Ns X.env.locals m ∧ ∀ (i : Nat) (x : Str) (v : V), X.N[i]? = some x → σ[i]? = some (some v) → Vis X.env.scope x → ∃ u, RelV v u ∧ Look X.env s.heap m x u
  cell : ∀ x c, X.env.cells.lookup x = some c → ∃ v, s.heap.IsCell c v
  free : H X.env.locals = none
  freeC : ∀ x c, X.env.cells.lookup x = some c → H c = none
  pin : ∀ p ∈ X.pn ++ pins, s.heap.get? p.1 = some p.2 ∧ H p.1 = none ∧ p.1 ≠ X.env.locals ∧ p.1 ∉ X.fs ∧ ∀ v, p.2.data ≠ .cell v
  hok : HOk X.prog X.w H s.heap
  len : σ.length = X.N.length

section
variable {X : Cx} {pins : List (Addr × Obj)} {σ : List (Option V)} {H H' : Hp} {s : Shared} {h' : Heap}

theorem Cx.Ok.nofr (ok : X.Ok) {b : Addr} {o : Obj} (e : X.base.get? b = some o) : b ∉ X.fs := fun hb => by
  have := (ok.funs.mem hb).1
  rw [e] at this; cases this
theorem Inv.bs (I : Inv X pins σ H s) : ∀ b o, X.base.get? b = some o → s.heap.get? b = some o ∧ H b = none := fun b o e =>
  ⟨I.base.keep b o (I.ok.bs b o e).1 (I.ok.bs b o e).2 (I.ok.nofr e) (I.ok.noex b o e), I.base.free b o (I.ok.bs b o e).1 (I.ok.bs b o e).2 (I.ok.noex b o e)⟩
theorem Inv.bk (I : Inv X pins σ H s) : ∀ b o, X.base.get? b = some o → s.heap.get? b = some o := fun b o e => (I.bs b o e).1
theorem Inv.mod (I : Inv X pins σ H s) : Mod X.K X.mg X.base := I.ok.mod
theorem Inv.kIn (I : Inv X pins σ H s) : X.K.In s.heap := I.ok.mod.kin.keeps I.bk
theorem Inv.lt (I : Inv X pins σ H s) : X.env.locals < s.heap.objs.size := let ⟨_, hn, _⟩ := I.loc; hn.lt
theorem Inv.sz (I : Inv X pins σ H s) : X.s₀.heap.objs.size ≤ s.heap.objs.size := Nat.le_trans I.ok.above (Nat.le_of_lt I.lt)
theorem Inv.nofs (I : Inv X pins σ H s) {a : Addr} (h : s.heap.objs.size ≤ a) : a ∉ X.fs := fun hb => by
  obtain ⟨_, o, ho, _⟩ := I.ok.funs.mem hb
  exact absurd (Nat.lt_of_lt_of_le (Heap.lt_size ho) (Nat.le_trans I.sz h)) (Nat.lt_irrefl _)
theorem Inv.cne (I : Inv X pins σ H s) : ∀ x c, X.env.cells.lookup x = some c → c ≠ X.env.locals := fun x c e z => by
  obtain ⟨v, o, ho, hd⟩ := I.cell x c e
  obtain ⟨m, ⟨o', es, ep, ho', hd', _⟩, _⟩ := I.loc
  rw [z, ho'] at ho; cases ho; rw [hd'] at hd; cases hd
theorem Inv.funs (I : Inv X pins σ H s) : s.heap.FunFrames X.base X.outer := by
  have all : ∀ (l : List Env), (∀ b ∈ frs l, b ∈ X.fs) → X.s₀.heap.FunFrames X.base l → s.heap.FunFrames X.base l := by
    intro l
    induction l with
    | nil => intro _ _; trivial
    | cons env r ih =>
      intro hs hl
      obtain ⟨hk, ⟨L, o, hf, hn, ho, hd⟩, hr⟩ := hl
      have hL : L ∈ X.fs := hs L (by unfold frs; rw [List.filterMap_cons, hf]; exact List.mem_cons_self)
      obtain ⟨sl, e⟩ := I.base.slot L o ho (I.ok.frf L hL) hL fun z => I.ok.exfs L z hL
      exact ⟨hk, ⟨L, _, hf, hn, e, hd⟩, ih (fun b hb => hs b (by unfold frs; rw [List.filterMap_cons, hf]; exact List.mem_cons_of_mem _ hb)) hr⟩
  exact all X.outer (fun _ hb => hb) I.ok.funs

/-- the frames that run, for a call -/
theorem Inv.stack (I : Inv X pins σ H s) : s.heap.FunFrames X.base X.stack := by
  rcases I.ok.stk with e | ⟨e, hf⟩
  · rw [e]; exact I.funs
  · rw [e]
    obtain ⟨m, hn, _⟩ := I.loc
    refine .cons (by rw [I.ok.kind]; decide) hf hn ?_ I.funs
    exact Heap.get?_none_of_le (Nat.le_trans I.ok.bsz I.ok.above)
theorem Inv.stkSub (I : Inv X pins σ H s) : ∀ b ∈ frs X.stack, b ∈ X.env.locals :: X.fs := fun b hb => by
  rcases I.ok.stk with e | ⟨e, hf⟩
  · rw [e] at hb; exact List.mem_cons_of_mem _ hb
  · rw [e] at hb
    unfold frs at hb
    rw [List.filterMap_cons, hf] at hb
    exact hb
theorem Inv.stkFree (I : Inv X pins σ H s) : ∀ b ∈ frs X.stack, H b = none := fun b hb => by
  rcases List.mem_cons.mp (I.stkSub b hb) with e | hb
  · rw [e]; exact I.free
  · obtain ⟨_, o, ho, _⟩ := I.ok.funs.mem hb
    exact I.base.free b o ho (I.ok.frf b hb) fun z => I.ok.exfs b z hb

/-- THE STEP: the untracked objects but the frame and the records at ch are kept (the callers' frames up to slots), the frame's map is kept, the new abstract heap is held -/
theorem Inv.step {g' : Array GenState} {t' : Nat} {d' : Drawn} {ch : List Addr} (I : Inv X pins σ H s)
    (hch : ∀ b ∈ ch, (b ∈ X.ex ∨ X.s₀.heap.objs.size ≤ b) ∧ b ≠ X.env.locals ∧ (∀ x c, X.env.cells.lookup x = some c → c ≠ b) ∧ ∀ p ∈ X.pn ++ pins, p.1 ≠ b)
    (keep : ∀ b o, b ≠ X.env.locals → b ∉ X.fs → b ∉ ch → s.heap.get? b = some o → H b = none → h'.get? b = some o)
    (slot : ∀ b o, b ≠ X.env.locals → b ∈ X.fs → b ∉ ch → s.heap.get? b = some o → H b = none → ∃ sl, h'.get? b = some { o with slots := sl }) (free : ∀ b o, b ∉ ch → s.heap.get? b = some o → H b = none → H' b = none)
    (there : ∀ b o, b ∉ ch → s.heap.get? b = some o → ∃ o', h'.get? b = some o')
    (tups : ∀ b xs, H b = some (.tup xs) → H' b = some (.tup xs)) (frzs : ∀ b o u, H b = some (.frz o u) → H' b = some (.frz o u)) (tbls : ∀ b ps, H b = some (.tbl ps) → ∃ more, H' b = some (.tbl (ps ++ more)))
    (ns : ∀ m, s.heap.Ns X.env.locals m → h'.Ns X.env.locals m) (hok : HOk X.prog X.w H' h') (hg : AllBare g') :
    Inv X pins σ H' { s with heap := h', gens := g', drawn := d', toks := t' } := by
  have neL : ∀ b o, X.s₀.heap.get? b = some o → b ≠ X.env.locals := fun b o e => Nat.ne_of_lt (Nat.lt_of_lt_of_le (Heap.lt_size e) I.ok.above)
  have neC : ∀ b o, X.s₀.heap.get? b = some o → b ∉ X.ex → b ∉ ch := fun b o e hx hb => by
    rcases (hch b hb).1 with z | z
    · exact hx z
    · exact absurd (Nat.lt_of_lt_of_le (Heap.lt_size e) z) (Nat.lt_irrefl _)
  have cellK : ∀ x c, X.env.cells.lookup x = some c → ∀ v, s.heap.IsCell c v → h'.IsCell c v := fun x c e v ⟨o, ho, hd⟩ => by
    have nch : c ∉ ch := fun z => (hch c z).2.2.1 x c e rfl
    by_cases hc : c ∈ X.fs
    · obtain ⟨sl, q⟩ := slot c o (I.cne x c e) hc nch ho (I.freeC x c e)
      exact ⟨_, q, hd⟩
    · exact ⟨o, keep c o (I.cne x c e) hc nch ho (I.freeC x c e), hd⟩
  refine ⟨I.ok, I.os, hg, ⟨fun b o e n hb hx => ?_, fun b o e n hb hx => ?_, fun b o e n hx => ?_, fun b o e hx => ?_, fun b xs e => tups b xs (I.base.tups b xs e), fun b o xs e => frzs b o xs (I.base.frzs b o xs e), fun b ps e => ?_⟩, ?_, fun x c e => ?_, ?_, fun x c e => ?_, fun p hp => ?_, hok, I.len⟩
  · exact keep b o (neL b o e) hb (neC b o e hx) (I.base.keep b o e n hb hx) (I.base.free b o e n hx)
  · obtain ⟨sl, e1⟩ := I.base.slot b o e n hb hx
    obtain ⟨sl', e2⟩ := slot b _ (neL b o e) hb (neC b o e hx) e1 (I.base.free b o e n hx)
    exact ⟨sl', e2⟩
  · obtain ⟨o', e1⟩ := I.base.there b o e hx
    exact free b o' (neC b o e hx) e1 (I.base.free b o e n hx)
  · obtain ⟨o', e1⟩ := I.base.there b o e hx
    exact there b o' (neC b o e hx) e1
  · obtain ⟨m1, e1⟩ := I.base.tbls b ps e
    obtain ⟨m2, e2⟩ := tbls b _ e1
    exact ⟨m1 ++ m2, by rw [e2, Array.append_assoc]⟩
  · obtain ⟨m, hn, hl⟩ := I.loc
    refine ⟨m, ns m hn, fun i x v e1 e2 e3 => ?_⟩
    obtain ⟨u, r, l⟩ := hl i x v e1 e2 e3
    refine ⟨u, r, ?_⟩
    rcases l with l | ⟨k, c, e, z⟩
    · exact .inl l
    · exact .inr ⟨k, c, e, cellK x c e _ z⟩
  · obtain ⟨v, z⟩ := I.cell x c e
    exact ⟨v, cellK x c e v z⟩
  · obtain ⟨m, ⟨o, _, _, ho, _⟩, _⟩ := I.loc
    exact free _ o (fun z => (hch _ z).2.1 rfl) ho I.free
  · obtain ⟨v, o, ho, hd⟩ := I.cell x c e
    exact free c o (fun z => (hch c z).2.2.1 x c e rfl) ho (I.freeC x c e)
  · obtain ⟨e, n, ne, nf, d⟩ := I.pin p hp
    have nch : p.1 ∉ ch := fun z => (hch p.1 z).2.2.2 p hp rfl
    exact ⟨keep p.1 p.2 ne nf nch e n, free p.1 p.2 nch e n, ne, nf, d⟩
/-- .. where the frame's own object is kept too -/
theorem Inv.un {t' : Nat} (I : Inv X pins σ H s) (u : Un X.fs [] H H' s.heap h') (hok : HOk X.prog X.w H' h') : Inv X pins σ H' { s with heap := h', toks := t' } := by
  obtain ⟨m, ⟨o, es, ep, ho, r⟩, _⟩ := id I.loc
  obtain ⟨sl, hL⟩ := u.any ho I.free (by simp)
  exact I.step (g' := s.gens) (d' := s.drawn) (ch := []) (fun _ z => nomatch z) (fun b o _ hb _ e n => u.keep b o e n hb (by simp)) (fun b o _ hb _ e n => u.slot b o e n hb (by simp)) (fun b o _ e n => u.free b o e n (by simp)) (fun b o _ e => u.there b o e (by simp)) u.tups u.frzs u.tbls (fun m' hm => by
    obtain ⟨o', es', ep', ho', r'⟩ := hm
    rw [ho] at ho'; cases ho'
    exact ⟨_, es', ep', hL, r'⟩) hok I.bare
/-- behind a call (or a comprehension's block): the slots of this frame may have changed too, the records at ch may have turned -/
theorem Inv.call {g' : Array GenState} {t' : Nat} {d' : Drawn} {ch : List Addr} (I : Inv X pins σ H s) (u : Un (frs X.stack) ch H H' s.heap h') (hok : HOk X.prog X.w H' h') (hg : AllBare g')
    (hch : ∀ b ∈ ch, (b ∈ X.ex ∨ X.s₀.heap.objs.size ≤ b) ∧ b ≠ X.env.locals ∧ (∀ x c, X.env.cells.lookup x = some c → c ≠ b) ∧ ∀ p ∈ X.pn ++ pins, p.1 ≠ b) :
    Inv X pins σ H' { s with heap := h', gens := g', drawn := d', toks := t' } := by
  obtain ⟨m, ⟨o, es, ep, ho, r⟩, _⟩ := id I.loc
  obtain ⟨sl, hL⟩ := u.any ho I.free fun z => (hch _ z).2.1 rfl
  exact I.step (ch := ch) hch (fun b o hL hb hc e n => u.keep b o e n (fun z => (List.mem_cons.mp (I.stkSub b z)).elim hL hb) hc) (fun b o _ _ hc e n => u.any e n hc) (fun b o hc e n => u.free b o e n hc) (fun b o hc e => u.there b o e hc) u.tups u.frzs u.tbls (fun m' hm => by
    obtain ⟨o', es', ep', ho', r'⟩ := hm
    rw [ho] at ho'; cases ho'
    exact ⟨_, es', ep', hL, r'⟩) hok hg
/-- an untracked record of ours (an iterator) has turned -/
theorem Inv.turned {t' : Nat} {it : Addr} (I : Inv X pins σ H s) (k : ∀ b o, b ≠ it → s.heap.get? b = some o → h'.get? b = some o) (hn : H it = none) (hL : it ≠ X.env.locals)
    (h1 : it ∈ X.ex ∨ X.s₀.heap.objs.size ≤ it) (h2 : ∀ x c, X.env.cells.lookup x = some c → c ≠ it) (h3 : ∀ p ∈ X.pn ++ pins, p.1 ≠ it) : Inv X pins σ H { s with heap := h', toks := t' } := by
  have nit : ∀ b u, H b = some u → b ≠ it := fun b u e z => by rw [z, hn] at e; cases e
  refine I.step (g' := s.gens) (d' := s.drawn) (ch := [it]) (fun b hb => ?_) (fun b o _ _ hc e _ => k b o (fun z => hc (by simp [z])) e) (fun b o _ _ hc e _ => ⟨o.slots, k b o (fun z => hc (by simp [z])) e⟩) (fun _ _ _ _ n => n)
    (fun b o hc e => ⟨o, k b o (fun z => hc (by simp [z])) e⟩) (fun _ _ e => e) (fun _ _ _ e => e) (fun b ps e => ⟨#[], by rw [e]; simp⟩) (fun m hm => ?_) (fun b u e => ?_) I.bare
  · have e : b = it := by simpa using hb
    subst e
    exact ⟨h1, hL, h2, h3⟩
  · obtain ⟨o, es, ep, ho, r⟩ := hm
    exact ⟨o, es, ep, k _ o (Ne.symm hL) ho, r⟩
  · refine (I.hok b u e).stay (fun c v hc q => k c v ?_ q) (fun _ q => q) fun _ _ q => q
    rcases hc with z | z
    · rw [z]; exact nit b u e
    · exact nit c _ z
theorem Inv.tok (I : Inv X pins σ H s) (t : Nat) : Inv X pins σ H { s with toks := t } := I.un (h' := s.heap) (t' := t) Un.refl I.hok
/-- all objects kept -/
theorem Inv.kept {t' : Nat} (I : Inv X pins σ H s) (k : ∀ b u, s.heap.get? b = some u → h'.get? b = some u) : Inv X pins σ H { s with heap := h', toks := t' } := I.un (Un.kept k) (I.hok.kept k)
/-- a new object laid and tracked -/
theorem Inv.laid {a : Addr} {o : HO} {t' : Nat} (I : Inv X pins σ H s) (k : ∀ b u, s.heap.get? b = some u → h'.get? b = some u) (hp : s.heap.objs.size ≤ a) (new : ObjOk X.prog X.w (upd H a o) h' a o) :
    Inv X pins σ (upd H a o) { s with heap := h', toks := t' } := I.un (Un.laid k hp (I.hok.fresh hp)) (I.hok.laid k hp new)
/-- an object written -/
theorem Inv.write {x e : Addr} {o : HO} {t' : Nat} (I : Inv X pins σ H s) (mu : Mut (H x)) (he : e = x ∨ H e = some (.own x)) (k : ∀ b u, b ≠ e → s.heap.get? b = some u → h'.get? b = some u) (heo : ∃ u, h'.get? e = some u)
    (new : ObjOk X.prog X.w (upd H x o) h' x o) : Inv X pins σ (upd H x o) { s with heap := h', toks := t' } := I.un (Un.write mu he k heo) (I.hok.write mu he k heo new)
/-- forgetting slots, pins -/
theorem Inv.weak {σ' : List (Option V)} (I : Inv X pins σ H s) (hl : σ'.length = σ.length) (w : ∀ (i : Nat) v, σ'[i]? = some (some v) → σ[i]? = some (some v)) : Inv X pins σ' H s :=
  ⟨I.ok, I.os, I.bare, I.base, let ⟨m, hn, hl'⟩ := I.loc; ⟨m, hn, fun i x v e1 e2 e3 => hl' i x v e1 (w i v e2) e3⟩, I.cell, I.free, I.freeC, I.pin, I.hok, hl.trans I.len⟩
theorem Inv.pins_of {pins' : List (Addr × Obj)} (I : Inv X pins σ H s) (h : ∀ p ∈ pins', s.heap.get? p.1 = some p.2 ∧ H p.1 = none ∧ p.1 ≠ X.env.locals ∧ p.1 ∉ X.fs ∧ ∀ v, p.2.data ≠ .cell v) : Inv X pins' σ H s :=
  ⟨I.ok, I.os, I.bare, I.base, I.loc, I.cell, I.free, I.freeC, fun p hp => (List.mem_append.mp hp).elim (fun z => I.pin p (List.mem_append_left _ z)) (h p), I.hok, I.len⟩

theorem nodup_ix {N : List Str} (hN : N.Nodup) {i j : Nat} {x : Str} (a : N[i]? = some x) (b : N[j]? = some x) : i = j := by
  obtain ⟨h1, e1⟩ := List.getElem?_eq_some_iff.mp a
  obtain ⟨h2, e2⟩ := List.getElem?_eq_some_iff.mp b
  exact (List.getElem_inj hN).mp (e1.trans e2.symm)

/-- a name is stored; what changed -/
theorem store_ok2 {M : Model} {A : Around} {E : Value → Shared → Prop} {i : Nat} {x : Str} {v : V} {u : Value} {Q : Unit → Shared → Prop} (I : Inv X pins σ H s) (hN : X.N.Nodup) (hi : X.N[i]? = some x) (hx : Loc X.env.scope x) (r : RelV v u)
    (h : ∀ s', Inv X pins (σ.set i (some v)) H s' → (∃ a, Heap.SameBut a s.heap s'.heap ∧ (a = X.env.locals ∨ X.env.cells.lookup x = some a)) → Q () s') (hf : X.fn x = true ∨ X.env.scope.names.lookup x = some .local := by first | exact .inl rfl | exact .inr rfl | assumption) : wpAny M A (storeName X.env x u) Q E s := by
  obtain ⟨m, hn, hl⟩ := id I.loc
  have hcls : (X.env.scope.kind == .class || (X.env.scope.kind == .module && X.env.locals != X.env.globals)) = false := by rw [I.ok.kind]; rfl
  have hiσ : i < σ.length := by rw [I.len]; exact (List.getElem?_eq_some_iff.mp hi).1
  have cne := I.cne
  have tracked : ∀ {a : Addr} {h' : Heap}, (∃ o, s.heap.get? a = some o ∧ H a = none) → Heap.SameBut a s.heap h' → HOk X.prog X.w H h' := fun {a h'} ha hs b ob e => by
    obtain ⟨_, _, hfree⟩ := ha
    refine (I.hok b ob e).stay (fun c w' hc q => (hs.2 c ?_).trans q) (fun _ q => q) fun _ _ q => q
    rintro rfl
    rcases hc with rfl | hc
    · rw [hfree] at e; cases e
    · rw [hfree] at hc; cases hc
  rcases hx with hk | hk
  · refine wpAny_storeName_local hk hn (fun h' hn' hs => ?_) hcls
    obtain ⟨oL, _, _, hoL, _⟩ := id hn
    refine h _ ⟨I.ok, I.os, I.bare, ⟨fun b o e n hb hx => ?_, fun b o e n hb hx => ?_, I.base.free, fun b o e hx => ?_, I.base.tups, I.base.frzs, I.base.tbls⟩, ⟨_, hn', fun j y v' e1 e2 e3 => ?_⟩, fun y c e => ?_, I.free, I.freeC, fun p hp => ?_, tracked ⟨oL, hoL, I.free⟩ hs, by simpa using I.len⟩ ⟨_, hs, .inl rfl⟩
    · exact (hs.2 b (Nat.ne_of_lt (Nat.lt_of_lt_of_le (Heap.lt_size e) I.ok.above))).trans (I.base.keep b o e n hb hx)
    · obtain ⟨sl, e1⟩ := I.base.slot b o e n hb hx
      exact ⟨sl, (hs.2 b (Nat.ne_of_lt (Nat.lt_of_lt_of_le (Heap.lt_size e) I.ok.above))).trans e1⟩
    · obtain ⟨o', e1⟩ := I.base.there b o e hx
      exact ⟨o', (hs.2 b (Nat.ne_of_lt (Nat.lt_of_lt_of_le (Heap.lt_size e) I.ok.above))).trans e1⟩
    · by_cases hj : j = i
      · subst hj
        rw [hi] at e1; cases e1
        rw [List.getElem?_set_self hiσ] at e2
        cases e2
        exact ⟨u, r, .inl ⟨hk, by simp⟩⟩
      · rw [List.getElem?_set_ne (Ne.symm hj)] at e2
        obtain ⟨u', r', q⟩ := hl j y v' e1 e2 e3
        refine ⟨u', r', ?_⟩
        rcases q with ⟨k, e⟩ | ⟨k, c, e, z⟩
        · refine .inl ⟨k, ?_⟩
          have : y ≠ x := fun e => hj (nodup_ix hN e1 (e ▸ hi))
          simp [this, e]
        · exact .inr ⟨k, c, e, z.sameBut hs (cne y c e)⟩
    · obtain ⟨w', z⟩ := I.cell y c e
      exact ⟨w', z.sameBut hs (cne y c e)⟩
    · obtain ⟨e, n, ne, nf, d⟩ := I.pin p hp
      exact ⟨(hs.2 p.1 ne).trans e, n, ne, nf, d⟩
  · have hfn : X.fn x = true := by
      rcases hf with z | z
      · exact z
      · rw [z] at hk; cases hk
    obtain ⟨c, hc⟩ := I.ok.has x (.inl hk)
    obtain ⟨w', z⟩ := I.cell x c hc
    refine wpAny_storeName_cell I.ok.kind hk hc z (fun h' hc' hs => ?_)
    obtain ⟨oc, hoc, hocd⟩ := id z
    refine h { s with heap := h' } ⟨I.ok, I.os, I.bare, ⟨fun b o e n hb hx => ?_, fun b o e n hb hx => ?_, I.base.free, fun b o e hx => ?_, I.base.tups, I.base.frzs, I.base.tbls⟩, ⟨m, hn.sameBut hs (Ne.symm (cne x c hc)), fun j y v' e1 e2 e3 => ?_⟩, fun y c' e => ?_, I.free, I.freeC, fun p hp => ?_, tracked ⟨oc, hoc, I.freeC x c hc⟩ hs, by simpa using I.len⟩ ⟨c, hs, .inr hc⟩
    · exact (hs.2 b (Nat.ne_of_lt (Nat.lt_of_lt_of_le (Heap.lt_size e) (I.ok.cab x c hfn hc)))).trans (I.base.keep b o e n hb hx)
    · obtain ⟨sl, e1⟩ := I.base.slot b o e n hb hx
      exact ⟨sl, (hs.2 b (Nat.ne_of_lt (Nat.lt_of_lt_of_le (Heap.lt_size e) (I.ok.cab x c hfn hc)))).trans e1⟩
    · obtain ⟨o', e1⟩ := I.base.there b o e hx
      exact ⟨o', (hs.2 b (Nat.ne_of_lt (Nat.lt_of_lt_of_le (Heap.lt_size e) (I.ok.cab x c hfn hc)))).trans e1⟩
    · by_cases hj : j = i
      · subst hj
        rw [hi] at e1; cases e1
        rw [List.getElem?_set_self hiσ] at e2
        cases e2
        exact ⟨u, r, .inr ⟨.inl hk, c, hc, hc'⟩⟩
      · rw [List.getElem?_set_ne (Ne.symm hj)] at e2
        obtain ⟨u', r', q⟩ := hl j y v' e1 e2 e3
        refine ⟨u', r', ?_⟩
        rcases q with q | ⟨k, c', e, z'⟩
        · exact .inl q
        · refine .inr ⟨k, c', e, z'.sameBut hs ?_⟩
          rintro rfl
          exact hj (nodup_ix hN e1 (I.ok.inj _ _ _ e hc ▸ hi))
    · by_cases hcc : c' = c
      · subst hcc; exact ⟨_, hc'⟩
      · obtain ⟨w2, z2⟩ := I.cell y c' e
        exact ⟨w2, z2.sameBut hs hcc⟩
    · obtain ⟨e, n, ne, nf, d⟩ := I.pin p hp
      refine ⟨(hs.2 p.1 ?_).trans e, n, ne, nf, d⟩
      intro q
      rw [q, hoc] at e
      have q' : oc = p.2 := Option.some.inj e
      exact d w' (by rw [← q']; exact hocd)
theorem store_ok {M : Model} {A : Around} {E : Value → Shared → Prop} {i : Nat} {x : Str} {v : V} {u : Value} {Q : Unit → Shared → Prop} (I : Inv X pins σ H s) (hN : X.N.Nodup) (hi : X.N[i]? = some x) (hx : Loc X.env.scope x) (r : RelV v u)
    (h : ∀ s', Inv X pins (σ.set i (some v)) H s' → Q () s') (hf : X.fn x = true ∨ X.env.scope.names.lookup x = some .local := by first | exact .inl rfl | exact .inr rfl | assumption) : wpAny M A (storeName X.env x u) Q E s :=
  store_ok2 I hN hi hx r (fun s' I' _ => h s' I') hf
/-- behind a call or a block, the state as it is -/
theorem Inv.call' {s' : Shared} {ch : List Addr} (I : Inv X pins σ H s) (ho : s'.os = s.os) (u : Un (frs X.stack) ch H H' s.heap s'.heap) (hok : HOk X.prog X.w H' s'.heap) (hg : AllBare s'.gens)
    (hch : ∀ b ∈ ch, (b ∈ X.ex ∨ X.s₀.heap.objs.size ≤ b) ∧ b ≠ X.env.locals ∧ (∀ x c, X.env.cells.lookup x = some c → c ≠ b) ∧ ∀ p ∈ X.pn ++ pins, p.1 ≠ b) : Inv X pins σ H' s' := by
  obtain ⟨h', g', d', t', o'⟩ := s'
  have e : o' = s.os := ho
  subst e
  exact I.call (g' := g') (t' := t') (d' := d') u hok hg hch
end

/-! ### the judgements -/
/-- an exception: its class, its own dict's address (where it has one), the abstract heap behind it -/
abbrev XK := Value → Option Addr → Hp → Prop
abbrev St := List (Option V)
abbrev VK := V → Hp → Prop
/-- an expression's reading; a test's; an argument list's -/
abbrev TE := St → Hp → VK → Prop
abbrev TT := St → Hp → (Bool → Hp → Prop) → Prop
abbrev TA := St → Hp → (List V → Hp → Prop) → Prop
/-- what is wanted behind a statement -/
structure Ends where
  nx : St → Hp → Prop
  rt : VK
  bk : St → Hp → Prop := fun _ _ => False
  ct : St → Hp → Prop := fun _ _ => False
abbrev TS := Ends → St → Hp → Prop

def EP (X : Cx) (pins : List (Addr × Obj)) (σ : St) (Q : VK) (u : Value) (s' : Shared) : Prop := ∃ v H', Inv X pins σ H' s' ∧ RelV v u ∧ Q v H'
def TP (X : Cx) (pins : List (Addr × Obj)) (σ : St) (Q : Bool → Hp → Prop) (b : Bool) (s' : Shared) : Prop := ∃ H', Inv X pins σ H' s' ∧ Q b H'
def AP (X : Cx) (pins : List (Addr × Obj)) (σ : St) (Q : List V → Hp → Prop) (us : List Value) (s' : Shared) : Prop := ∃ vs H', Inv X pins σ H' s' ∧ Vals vs us ∧ Q vs H'
def SP (X : Cx) (pins : List (Addr × Obj)) (D : Ends) (f : Flow) (s' : Shared) : Prop :=
  match f with
  | .next => ∃ σ' H', Inv X pins σ' H' s' ∧ D.nx σ' H'
  | .brk => ∃ σ' H', Inv X pins σ' H' s' ∧ D.bk σ' H'
  | .cont => ∃ σ' H', Inv X pins σ' H' s' ∧ D.ct σ' H'
  | .ret u => ∃ v σ' H', Inv X pins σ' H' s' ∧ RelV v u ∧ D.rt v H'

def PE (X : Cx) (e : Expr) (t : TE) : Prop :=
  ∀ (pins : List (Addr × Obj)) (s : Shared) (σ : St) (H : Hp) (Q : VK), Inv X pins σ H s → t σ H Q → wpAny (model X.prog X.w) X.A (eval e X.env) (EP X pins σ Q) X.xe s
def PT (X : Cx) (e : Expr) (t : TT) : Prop :=
  ∀ (pins : List (Addr × Obj)) (s : Shared) (σ : St) (H : Hp) (Q : Bool → Hp → Prop), Inv X pins σ H s → t σ H Q → wpAny (model X.prog X.w) X.A (isTrue e X.env (eval e X.env)) (TP X pins σ Q) X.xe s
/-- a test whatever its 'whole' is (and, or) -/
def PW (X : Cx) (e : Expr) (t : TT) : Prop :=
  ∀ (whole : Sem Value) (pins : List (Addr × Obj)) (s : Shared) (σ : St) (H : Hp) (Q : Bool → Hp → Prop), Inv X pins σ H s → t σ H Q → wpAny (model X.prog X.w) X.A (isTrue e X.env whole) (TP X pins σ Q) X.xe s
theorem PW.pt {X : Cx} {e : Expr} {t : TT} (h : PW X e t) : PT X e t := h _
/-- an argument list (no star), from the left -/
def PA (X : Cx) (es : List Expr) (t : TA) : Prop :=
  ∀ (pos : Pos) (pins : List (Addr × Obj)) (s : Shared) (σ : St) (H : Hp) (Q : List V → Hp → Prop), Inv X pins σ H s → t σ H Q → wpAny (model X.prog X.w) X.A (spliced (backTo pos (starEach es X.env))) (AP X pins σ Q) X.xe s
def PS (X : Cx) (st : Stmt) (t : TS) : Prop :=
  ∀ (pins : List (Addr × Obj)) (s : Shared) (σ : St) (H : Hp) (D : Ends), Inv X pins σ H s → t D σ H → wpAny (model X.prog X.w) X.A (exec st X.env) (SP X pins D) X.xe s
def PSs (X : Cx) (st : List Stmt) (t : TS) : Prop :=
  ∀ (pins : List (Addr × Obj)) (s : Shared) (σ : St) (H : Hp) (D : Ends), Inv X pins σ H s → t D σ H → wpAny (model X.prog X.w) X.A (execs st X.env) (SP X pins D) X.xe s
/-- weaken the end -/
theorem thn {α : Type} {t : Sem α} {Q Q' : α → Shared → Prop} {M : Model} {A : Around} {E : Value → Shared → Prop} {s : Shared} (h : wpAny M A t Q E s) (hQ : ∀ a s, Q a s → Q' a s) : wpAny M A t Q' E s := wpAny_mono h hQ fun _ _ x => x
end L2

namespace L2
open PySem PySem.Spec PyProof.Rows
section
variable {X : Cx}

/-! ### names and constants -/
def tVar (i : Nat) : TE := fun σ H Q => ∃ v, σ[i]? = some (some v) ∧ Q v H
def tC (v : V) : TE := fun _ H Q => Q v H
theorem pe_var {i : Nat} {x : Str} {pos : Pos} (hN : X.N[i]? = some x) (hv : Vis X.env.scope x) (hd : (x == ("__debug__" : Str)) = false := by decide) (hcd : (x == ("__classdict__" : Str)) = false := by decide) : PE X (.Name x pos) (tVar i) := by
  intro pins s σ H Q I h
  obtain ⟨v, e, h⟩ := h
  obtain ⟨m, hn, hl⟩ := I.loc
  obtain ⟨u, r, l⟩ := hl i x v hN e hv
  have fin : EP X pins σ Q u s := ⟨v, H, I, r, h⟩
  rcases l with ⟨hk, hm⟩ | ⟨hk, c, hc, hcell⟩
  · exact wpAny_Name (wpAny_loadName_local I.ok.kind hk hn hm fin) hd
  · rcases hk with hk | hk
    · exact wpAny_Name (wpAny_loadName_cell I.ok.kind hk hc hcell fin) hd
    · exact wpAny_Name (wpAny_loadName_free I.ok.kind hk hc hcell fin hcd) hd
theorem pe_int {i j pos} : PE X (.Constant (.int i) j pos) (tC (.int i)) := fun _ _ _ H _ I h => wpAny_Constant_int ⟨.int i, H, I.tok _, ⟨_, rfl⟩, h⟩
theorem pe_bl {b j pos} : PE X (.Constant (.bool b) j pos) (tC (.bl b)) := fun _ _ _ H _ I h => Constant_bool ⟨.bl b, H, I, rfl, h⟩
theorem pe_str {x j pos} : PE X (.Constant (.str x) j pos) (tC (.str x)) := fun _ _ _ H _ I h => Calls.Constant_str ⟨.str x, H, I.tok _, ⟨_, rfl⟩, h⟩

/-- a global name of the def -/
def Gl (X : Cx) (x : Str) : Prop := X.env.kindOf x = some .globalImplicit
theorem ld_glob {E : Value → Shared → Prop} {pins : List (Addr × Obj)} {s : Shared} {σ : St} {H : Hp} {x : Str} {u : Value} {pos : Pos} {Q : Value → Shared → Prop} (I : Inv X pins σ H s) (hg : Gl X x) (hm : X.mg x = some u) (h : Q u s)
    (hd : (x == ("__debug__" : Str)) = false := by decide) : wpAny (model X.prog X.w) X.A (eval (.Name x pos) X.env) Q E s :=
  Calls.Name_function_global I.ok.kind hg (Calls.loadGlobal_global (by rw [I.ok.glob]; exact I.mod.glob.keeps I.bk) hm h) hd
theorem ld_blt {E : Value → Shared → Prop} {pins : List (Addr × Obj)} {s : Shared} {σ : St} {H : Hp} {x : Str} {u : Value} {pos : Pos} {Q : Value → Shared → Prop} (I : Inv X pins σ H s) (hg : Gl X x) (hm : X.mg x = none) (hv : bootBuiltins x = some u) (h : Q u s)
    (hn : x ≠ "__name__" := by decide) (hd : (x == ("__debug__" : Str)) = false := by decide) : wpAny (model X.prog X.w) X.A (eval (.Name x pos) X.env) Q E s := by
  obtain ⟨mb, h1, h2⟩ := I.mod.blt
  exact Calls.Name_function_global I.ok.kind hg (Calls.loadGlobal_builtin (by rw [I.ok.glob]; exact I.mod.glob.keeps I.bk) hm (by rw [I.ok.blt]; exact h1.keeps I.bk) ((h2 x hn).trans hv) h) hd
/-- a module's constant, a class, a function, as a value -/
theorem pe_glob {x : Str} {v : V} {u : Value} {pos : Pos} (hg : Gl X x) (hm : X.mg x = some u) (r : RelV v u) (hd : (x == ("__debug__" : Str)) = false := by decide) : PE X (.Name x pos) (tC v) :=
  fun _ _ _ H _ I h => ld_glob I hg hm ⟨v, H, I, r, h⟩ hd
theorem pe_bltn {x : Str} {v : V} {u : Value} {pos : Pos} (hg : Gl X x) (hm : X.mg x = none) (hv : bootBuiltins x = some u) (r : RelV v u) (hn : x ≠ "__name__" := by decide) (hd : (x == ("__debug__" : Str)) = false := by decide) : PE X (.Name x pos) (tC v) :=
  fun _ _ _ H _ I h => ld_blt I hg hm hv ⟨v, H, I, r, h⟩ hn hd

/-! ### arithmetic -/
variable {a b : Expr} {ta tb : TE} {pos : Pos}
/-! ### comparisons -/
/-- a comparison as a value, as a test -/
def tB (t : TE) : TT := fun σ H Q => t σ H fun x H1 => ∃ c, x = .bl c ∧ Q c H1
/-- an expression whose value is a bool, as a test -/
theorem pt_val {e : Expr} {t : TE} (h : PE X e t) (he : ∀ whole, isTrue e X.env whole = (do let v ← whole; standAt e.pos; holding [v] (truthy v)) := by intro _; rfl) : PT X e (tB t) := by
  intro pins s σ H Q I hw
  refine isTrue_plain (thn (h pins s σ H _ I hw) fun v s1 ⟨x, H1, I1, r1, q1⟩ => ?_) (he _)
  obtain ⟨d, rfl, q⟩ := q1
  cases r1
  exact wpAny_truthy_bool ⟨H1, I1, q⟩

/-! ### and, or, not -/
variable {tA tB' : TT} {rest : List Expr}
def tAnd (t u : TT) : TT := fun σ H Q => t σ H fun c H1 => if c = true then u σ H1 Q else Q false H1
def tOr (t u : TT) : TT := fun σ H Q => t σ H fun c H1 => if c = true then Q true H1 else u σ H1 Q
def tNot (t : TT) : TT := fun σ H Q => t σ H fun c H1 => Q (!c) H1
theorem pw_and1 (ha : PT X a tA) : PW X (.BoolOp .And [a] pos) tA := by
  intro wh pins s σ H Q I h
  refine isTrue_and (thn (ha pins s σ H Q I h) fun c s1 e => ?_)
  cases c with
  | true => exact isTrue_and_nil e
  | false => exact e
theorem pw_or1 (ha : PT X a tA) : PW X (.BoolOp .Or [a] pos) tA := by
  intro wh pins s σ H Q I h
  refine isTrue_or (thn (ha pins s σ H Q I h) fun c s1 e => ?_)
  cases c with
  | false => exact isTrue_or_nil e
  | true => exact e
theorem pw_and (ha : PT X a tA) (hb : PW X (.BoolOp .And (b :: rest) pos) tB') : PW X (.BoolOp .And (a :: b :: rest) pos) (tAnd tA tB') := by
  intro wh pins s σ H Q I h
  refine isTrue_and (thn (ha pins s σ H _ I h) fun c s1 ⟨H1, I1, q1⟩ => ?_)
  cases c with
  | true => exact hb wh pins s1 σ H1 Q I1 q1
  | false => exact ⟨H1, I1, q1⟩
theorem pw_or (ha : PT X a tA) (hb : PW X (.BoolOp .Or (b :: rest) pos) tB') : PW X (.BoolOp .Or (a :: b :: rest) pos) (tOr tA tB') := by
  intro wh pins s σ H Q I h
  refine isTrue_or (thn (ha pins s σ H _ I h) fun c s1 ⟨H1, I1, q1⟩ => ?_)
  cases c with
  | true => exact ⟨H1, I1, q1⟩
  | false => exact hb wh pins s1 σ H1 Q I1 q1
theorem pt_not (ha : PT X a tA) : PT X (.UnaryOp .Not a pos) (tNot tA) := by
  intro pins s σ H Q I h
  exact isTrue_not (ha pins s σ H (fun c H1 => Q (!c) H1) I h)
/-- .. as values (bools) -/
def tAndV (ta tb : TE) : TE := fun σ H Q => ta σ H fun x H1 => ∃ c, x = .bl c ∧ if c = true then tb σ H1 Q else Q (.bl false) H1
def tNotV (ta : TE) : TE := fun σ H Q => ta σ H fun x H1 => ∃ c, x = .bl c ∧ Q (.bl (!c)) H1
theorem pe_one {op} {t : TE} (h : PE X a t) : PE X (.BoolOp op [a] pos) t := fun pins s σ H Q I hw => BoolOp_one (h pins s σ H Q I hw)
theorem pe_and (ha : PE X a ta) (hb : PE X (.BoolOp .And (b :: rest) pos) tb) : PE X (.BoolOp .And (a :: b :: rest) pos) (tAndV ta tb) := by
  intro pins s σ H Q I h
  refine BoolOp_and (thn (ha pins s σ H _ I h) fun v s1 ⟨x, H1, I1, r1, q1⟩ => ?_)
  obtain ⟨c, rfl, q1⟩ := q1
  cases r1
  refine wpAny_truthy_bool ?_
  cases c with
  | true => exact hb pins s1 σ H1 Q I1 q1
  | false => exact ⟨.bl false, H1, I1, rfl, q1⟩
theorem pe_not (ha : PE X a ta) : PE X (.UnaryOp .Not a pos) (tNotV ta) := by
  intro pins s σ H Q I h
  refine UnaryOp_ (thn (ha pins s σ H _ I h) fun v s1 ⟨x, H1, I1, r1, q1⟩ => ?_)
  obtain ⟨c, rfl, q1⟩ := q1
  cases r1
  exact not_of (wpAny_truthy_bool ⟨.bl (!c), H1, I1, rfl, q1⟩)
end
end L2

namespace L2
open PySem PySem.Spec PyProof.Rows

/-! ### a list, a tuple that is read: tracked, frozen, or an object of the module -/
def SqL (K : PySem.W.Frag) (H : Hp) (a : Addr) (xs : List V) : Prop :=
  Rd H a (.lst xs) ∨
    ∃ (o : Obj) (its : Array Value) (n : Nat), K.lookup a = some o ∧ o.cls = .type "list" ∧ o.dict = none ∧ o.data = .seq its n ∧ its.size ≤ sizeLine ∧ Vals xs its.toList
def SqT (K : PySem.W.Frag) (H : Hp) (a : Addr) (xs : List V) : Prop :=
  Rd H a (.tup xs) ∨
    ∃ (o : Obj) (its : Array Value) (n : Nat), K.lookup a = some o ∧ o.cls = .type "tuple" ∧ o.data = .seq its n ∧ its.size ≤ sizeLine ∧ Vals xs its.toList
def absV : Value → Option V
  | .none => some .non
  | .bool b => some (.bl b)
  | .int i _ => some (.int i)
  | .str x _ => some (.str x)
  | .bytes b _ => some (.byt b)
  | .float b _ => some (.flt b)
  | .ref a => some (.ref a)
  | .type n => some (.ty n)
  | _ => none
theorem RelV.abs {x : V} {u : Value} (r : RelV x u) : absV u = some x := by
  cases x with
  | non => cases r; rfl
  | bl _ => cases r; rfl
  | int _ => obtain ⟨t, rfl⟩ := r; rfl
  | str _ => obtain ⟨t, rfl⟩ := r; rfl
  | byt _ => obtain ⟨t, rfl⟩ := r; rfl
  | flt _ => obtain ⟨t, rfl⟩ := r; rfl
  | ref _ => cases r; rfl
  | ty _ => cases r; rfl
theorem RelV.inj {x y : V} {u : Value} (r : RelV x u) (q : RelV y u) : x = y := Option.some.inj (r.abs.symm.trans q.abs)
theorem Vals.inj : ∀ {xs ys : List V} {us : List Value}, Vals xs us → Vals ys us → xs = ys
  | _, _, _, .nil, .nil => rfl
  | _, _, _, .cons r t, .cons r' t' => by rw [r.inj r', Vals.inj t t']
section
variable {X : Cx} {pins : List (Addr × Obj)} {σ : St} {H : Hp} {s : Shared} {a : Addr} {xs ys : List V}
theorem SqL.of {K : PySem.W.Frag} (h : H a = some (.lst xs)) : SqL K H a xs := .inl (.inl h)
theorem SqT.of {K : PySem.W.Frag} (h : H a = some (.tup xs)) : SqT K H a xs := .inl (.inl h)
theorem Inv.list (I : Inv X pins σ H s) (h : SqL X.K H a xs) : ∃ its : List Value, Vals xs its ∧ PlainL s.heap a its.toArray ∧ xs.length ≤ sizeLine := by
  rcases h with h | ⟨o, its, n, hk, hc, hd, hs, hz, r⟩
  · obtain ⟨z, its, n, r, e⟩ := h.ok I.hok
    exact ⟨its, r, ⟨_, n, e, rfl, rfl, rfl⟩, z⟩
  · refine ⟨its.toList, r, ⟨o, n, I.kIn a o hk, hc, hd, by simpa using hs⟩, ?_⟩
    have e := r.length
    simp only [Array.length_toList] at e
    omega
theorem Inv.tuple (I : Inv X pins σ H s) (h : SqT X.K H a xs) : ∃ its : List Value, Vals xs its ∧ IsTup s.heap a its.toArray ∧ xs.length ≤ sizeLine := by
  rcases h with h | ⟨o, its, n, hk, hc, hs, hz, r⟩
  · obtain ⟨z, its, r, p⟩ := h.ok I.hok
    exact ⟨its, r, p, z⟩
  · refine ⟨its.toList, r, ⟨o, I.kIn a o hk, hc, n, by simpa using hs⟩, ?_⟩
    have e := r.length
    simp only [Array.length_toList] at e
    omega
theorem Inv.list_inj (I : Inv X pins σ H s) (h : SqL X.K H a xs) (h' : SqL X.K H a ys) : xs = ys := by
  obtain ⟨its, r, ⟨o, n, e, _, _, d⟩, _⟩ := I.list h
  obtain ⟨its', r', ⟨o', n', e', _, _, d'⟩, _⟩ := I.list h'
  rw [e] at e'; cases e'
  rw [d] at d'
  injection d' with d1 _
  have : its = its' := by simpa using congrArg Array.toList d1
  subst this
  exact r.inj r'
theorem Inv.tuple_inj (I : Inv X pins σ H s) (h : SqT X.K H a xs) (h' : SqT X.K H a ys) : xs = ys := by
  obtain ⟨its, r, ⟨o, e, _, n, d⟩, _⟩ := I.tuple h
  obtain ⟨its', r', ⟨o', e', _, n', d'⟩, _⟩ := I.tuple h'
  rw [e] at e'; cases e'
  rw [d] at d'
  injection d' with d1 _
  have : its = its' := by simpa using congrArg Array.toList d1
  subst this
  exact r.inj r'
end

/-! ### another wish about exceptions -/
abbrev Cx.wish (X : Cx) (E : Value → Shared → Prop) : Cx := { X with xe := E }
/-- no exception leaves -/
abbrev Cx.nox (X : Cx) : Cx := X.wish fun _ _ => False
theorem Cx.Ok.wish {X : Cx} (ok : X.Ok) (E : Value → Shared → Prop) : (X.wish E).Ok :=
  ⟨ok.mod, ok.kind, ok.glob, ok.blt, ok.above, ok.inj, ok.has, ok.cab, ok.hd, ok.frames, ok.stk, ok.exf, ok.bs, ok.bsz, ok.noex, ok.exfs, ok.funs, ok.frf⟩
theorem Cx.Ok.unwish {X : Cx} {E : Value → Shared → Prop} (ok : (X.wish E).Ok) : X.Ok :=
  ⟨ok.mod, ok.kind, ok.glob, ok.blt, ok.above, ok.inj, ok.has, ok.cab, ok.hd, ok.frames, ok.stk, ok.exf, ok.bs, ok.bsz, ok.noex, ok.exfs, ok.funs, ok.frf⟩
section
variable {X : Cx} {pins : List (Addr × Obj)} {σ : St} {H : Hp} {s : Shared} {E : Value → Shared → Prop}
theorem Inv.wish (I : Inv X pins σ H s) (E : Value → Shared → Prop) : Inv (X.wish E) pins σ H s := ⟨I.ok.wish E, I.os, I.bare, I.base, I.loc, I.cell, I.free, I.freeC, I.pin, I.hok, I.len⟩
theorem Inv.unwish (I : Inv (X.wish E) pins σ H s) : Inv X pins σ H s := ⟨I.ok.unwish, I.os, I.bare, I.base, I.loc, I.cell, I.free, I.freeC, I.pin, I.hok, I.len⟩
theorem SP.unwish {D : Ends} {f : Flow} {s' : Shared} (h : SP (X.wish E) pins D f s') : SP X pins D f s' := by
  cases f with
  | next => obtain ⟨σ', H', I, q⟩ := h; exact ⟨σ', H', I.unwish, q⟩
  | brk => obtain ⟨σ', H', I, q⟩ := h; exact ⟨σ', H', I.unwish, q⟩
  | cont => obtain ⟨σ', H', I, q⟩ := h; exact ⟨σ', H', I.unwish, q⟩
  | ret u => obtain ⟨v, σ', H', I, r, q⟩ := h; exact ⟨v, σ', H', I.unwish, r, q⟩
theorem PSs.nox {st : List Stmt} {t : TS} (h : PSs X.nox st t) : PSs X st t := fun pins s σ H D I hw =>
  wpAny_mono (h pins s σ H D (I.wish _) hw) (fun _ _ q => q.unwish) fun _ _ z => False.elim z
end

/-! ### blocks and small statements -/
section
variable {X : Cx} {st : Stmt} {rest : List Stmt} {t u : TS} {e : Expr} {te : TE} {pos : Pos}
def tNext : TS := fun D σ H => D.nx σ H
def tSeq (t u : TS) : TS := fun D σ H => t { D with nx := u D } σ H
theorem pss_nil : PSs X [] tNext := fun _ _ σ H _ I h => wpAny_execs_nil ⟨σ, H, I, h⟩
theorem pss_cons (h1 : PS X st t) (h2 : PSs X rest u) : PSs X (st :: rest) (tSeq t u) := by
  intro pins s σ H D I h
  refine wpAny_execs_cons (thn (h1 pins s σ H { D with nx := u D } I h) fun f s1 q => ?_)
  cases f with
  | next =>
    obtain ⟨σ', H', I', q⟩ := q
    exact h2 pins s1 σ' H' D I' q
  | ret v => exact q
  | brk => exact q
  | cont => exact q
theorem pss_one (h1 : PS X st t) : PSs X [st] t := by
  intro pins s σ H D I h
  refine wpAny_execs_cons (thn (h1 pins s σ H D I h) fun f s1 q => ?_)
  cases f with
  | next => exact wpAny_execs_nil q
  | ret v => exact q
  | brk => exact q
  | cont => exact q
/-- in a def's body nothing is shown -/
theorem Inv.quiet {pins : List (Addr × Obj)} {σ : St} {H : Hp} {s : Shared} (I : Inv X pins σ H s) : interactive X.env = false := by simp [interactive, I.ok.kind]
/-- an expression whose value is dropped -/
def tDrop (te : TE) : TS := fun D σ H => te σ H fun _ H1 => D.nx σ H1
theorem ps_expr (he : PE X e te) (hs : swapsWith e none pos.line X.env = pure false := by rfl) : PS X (.Expr e pos) (tDrop te) := by
  intro pins s σ H D I h
  exact wpAny_Expr_any (thn (he pins s σ H _ I h) fun v s1 ⟨x, H1, I1, r1, q1⟩ => ⟨σ, H1, I1, q1⟩) I.quiet hs
def tRet (te : TE) : TS := fun D σ H => te σ H D.rt
theorem ps_ret (he : PE X e te) : PS X (.Return (some e) pos) (tRet te) := by
  intro pins s σ H D I h
  exact wpAny_Return_some (thn (he pins s σ H _ I h) fun v s1 ⟨x, H1, I1, r1, q1⟩ => ⟨x, σ, H1, I1, r1, q1⟩)
def tIfS (c : TT) (t u : TS) : TS := fun D σ H => c σ H fun b H1 => if b = true then t D σ H1 else u D σ H1
theorem ps_if {c : Expr} {a b : List Stmt} {tc : TT} (hc : PT X c tc) (ha : PSs X a t) (hb : PSs X b u) : PS X (.If c a b pos) (tIfS tc t u) := by
  intro pins s σ H D I h
  refine wpAny_If (thn (hc pins s σ H _ I h) fun d s1 ⟨H1, I1, q1⟩ => ?_)
  cases d with
  | true => exact ha pins s1 σ H1 D I1 q1
  | false => exact hb pins s1 σ H1 D I1 q1
/-- code that the proof never comes to -/
def tNever : TS := fun _ _ _ => False
theorem pss_never {sts : List Stmt} : PSs X sts tNever := fun _ _ _ _ _ _ h => h.elim
end

/-! ### targets -/
abbrev TG := V → St → Hp → (St → Hp → Prop) → Prop
abbrev TGs := List V → St → Hp → (St → Hp → Prop) → Prop
def PG (X : Cx) (target : Expr) (t : TG) : Prop :=
  ∀ (pins : List (Addr × Obj)) (s : Shared) (σ : St) (H : Hp) (v : V) (u : Value) (Q : St → Hp → Prop), Inv X pins σ H s → RelV v u → t v σ H Q →
    wpAny (model X.prog X.w) X.A (assign target X.env u) (fun _ s' => ∃ σ' H', Inv X pins σ' H' s' ∧ Q σ' H') X.xe s
/-- several targets, one after another -/
def PGs (X : Cx) (ts : List Expr) (t : TGs) : Prop :=
  ∀ (pins : List (Addr × Obj)) (s : Shared) (σ : St) (H : Hp) (vs : List V) (us : List Value) (Q : St → Hp → Prop), Inv X pins σ H s → Vals vs us → t vs σ H Q →
    wpAny (model X.prog X.w) X.A (assignInOrder ((assignEach ts X.env).map (·.2)) us) (fun _ s' => ∃ σ' H', Inv X pins σ' H' s' ∧ Q σ' H') X.xe s
/-- o[i] = v, by values -/
abbrev TSet := V → V → V → Hp → (Hp → Prop) → Prop
def PSet (X : Cx) (t : TSet) : Prop :=
  ∀ (pins : List (Addr × Obj)) (s : Shared) (σ : St) (H : Hp) (o i v : V) (ov iv u : Value) (Q : Hp → Prop), Inv X pins σ H s → RelV o ov → RelV i iv → RelV v u → t o i v H Q →
    wpAny (model X.prog X.w) X.A (setItem ov iv u) (fun _ s' => ∃ H', Inv X pins σ H' s' ∧ Q H') X.xe s
/-- a op= b, by values -/
abbrev TIp := V → V → Hp → VK → Prop
def PIp (X : Cx) (op : Operator) (t : TIp) : Prop :=
  ∀ (pins : List (Addr × Obj)) (s : Shared) (σ : St) (H : Hp) (x y : V) (v u : Value) (Q : VK), Inv X pins σ H s → RelV x v → RelV y u → t x y H Q →
    wpAny (model X.prog X.w) X.A (inplaceOp op v u) (EP X pins σ Q) X.xe s
section
variable {X : Cx} {pos : Pos}
def gName (i : Nat) : TG := fun v σ H Q => Q (σ.set i (some v)) H
theorem pg_name {i : Nat} {x : Str} (hN : X.N.Nodup) (hi : X.N[i]? = some x) (hx : Loc X.env.scope x) (hf : X.fn x = true ∨ X.env.scope.names.lookup x = some .local := by first | exact .inl rfl | exact .inr rfl | assumption) : PG X (.Name x pos) (gName i) := by
  intro pins s σ H v u Q I r h
  exact wpAny_assign_Name (store_ok I hN hi hx r (fun s' I' => ⟨_, H, I', h⟩) hf)
def gNil : TGs := fun vs σ H Q => vs = [] ∧ Q σ H
def gCons (t : TG) (u : TGs) : TGs := fun vs σ H Q => ∃ v r, vs = v :: r ∧ t v σ H fun σ' H' => u r σ' H' Q
theorem pgs_nil : PGs X [] gNil := by
  intro pins s σ H vs us Q I r h
  obtain ⟨e, h⟩ := h
  subst e
  cases r
  exact assignInOrder_nil ⟨σ, H, I, h⟩
theorem pgs_cons {e : Expr} {es : List Expr} {t : TG} {u : TGs} (h1 : PG X e t) (h2 : PGs X es u)
    (hs : (assignEach (e :: es) X.env).map (·.2) = assign e X.env :: (assignEach es X.env).map (·.2) := by rfl) : PGs X (e :: es) (gCons t u) := by
  intro pins s σ H vs us Q I r h
  obtain ⟨v, vr, e1, h⟩ := h
  subst e1
  cases r with
  | cons r rr =>
    rw [hs]
    refine assignInOrder_cons (thn (h1 pins s σ H _ _ _ I r h) fun _ s1 ⟨σ1, H1, I1, q1⟩ => ?_)
    exact h2 pins s1 σ1 H1 _ _ Q I1 rr q1
/-- (a, b, ..) = a tuple of that length -/
def gTup (K : PySem.W.Frag) (n : Nat) (t : TGs) : TG := fun v σ H Q => ∃ a xs, v = .ref a ∧ SqT K H a xs ∧ xs.length = n ∧ t xs σ H Q
theorem pg_tup {es : List Expr} {k : Nat} {t : TGs} {n : Nat} (hc : X.calm = true) (h : PGs X es t)
    (hn : (assignEach es X.env).length = n := by rfl) (hst : (assignEach es X.env).findIdx? (·.1) = none := by rfl) : PG X (.Tuple es k pos) (gTup X.K n t) := by
  intro pins s σ H v u Q I r hw
  obtain ⟨a, xs, e1, hq, hl, hw⟩ := hw
  subst e1
  cases r
  obtain ⟨its, rv, ht, hz⟩ := I.tuple hq
  refine assign_Tuple_tuple (I.ok.hd hc) ht (by simp [hn, ← hl, rv.length]) hst fun h' hx => ?_
  have I1 : Inv X pins σ H { s with heap := h' } := I.kept (t' := s.toks) fun b o e => hx b o (Nat.ne_of_lt (Heap.lt_size e)) e
  exact h pins _ σ H xs _ Q I1 (by simpa using rv) hw
/-- target = value -/
def tAsg (te : TE) (g : TG) : TS := fun D σ H => te σ H fun x H1 => g x σ H1 D.nx
/-- name = value -/
theorem ps_set {i : Nat} {x : Str} {e : Expr} {te : TE} {pos' : Pos} (hN : X.N.Nodup) (hi : X.N[i]? = some x) (hx : Loc X.env.scope x) (he : PE X e te) (hs : swapsWith e (some (.Name x pos')) pos.line X.env = pure false := by rfl) (hf : X.fn x = true ∨ X.env.scope.names.lookup x = some .local := by first | exact .inl rfl | exact .inr rfl | assumption) :
    PS X (.Assign [.Name x pos'] e pos) (tAsg te (gName i)) := by
  intro pins s σ H D I h
  refine wpAny_Assign_Name (thn (he pins s σ H _ I h) fun v s1 ⟨y, H1, I1, r1, q1⟩ => ?_) hs
  exact store_ok I1 hN hi hx r1 (fun s2 I2 => ⟨_, H1, I2, q1⟩) hf
/-- a, b = x, y with plain local names: stored from the right; the pair itself is not tracked (the opening rows as in PyProof/Rows/TupAssign.lean:23) -/
def tPar (i j : Nat) (ta : TA) : TS := fun D σ H => ta σ H fun vs H1 => ∃ v w, vs = [v, w] ∧ D.nx ((σ.set i (some v)).set j (some w)) H1
theorem ps_par {i j : Nat} {x y : Str} {a b : Expr} {ta : TA} {px py pt : Pos} {kt k2 pt2} (hc : X.calm = true) (hN : X.N.Nodup) (hi : X.N[i]? = some x) (hj : X.N[j]? = some y) (hij : i ≠ j)
    (hx : X.env.scope.names.lookup x = some .local) (hy : X.env.scope.names.lookup y = some .local) (ha : PA X [a, b] ta)
    (hw : swappedStores [.Tuple [.Name x px, .Name y py] kt pt] (.Tuple [a, b] k2 pt2) X.env = pure (some [x, y]))
    (hs : swapsWithSole [.Tuple [.Name x px, .Name y py] kt pt] (.Tuple [a, b] k2 pt2) pos.line X.env = pure false := by rfl) :
    PS X (.Assign [.Tuple [.Name x px, .Name y py] kt pt] (.Tuple [a, b] k2 pt2) pos) (tPar i j ta) := by
  intro pins s σ H D I h
  rw [exec_Assign_arm]
  refine wpAny_bind (wpAny_standAt ?_)
  rw [hs]
  refine wpAny_bind (wpAny_pure ?_)
  rw [if_neg (by decide)]
  refine wpAny_bind (Tuple_ (thn (ha _ pins s σ H _ I h) fun us s1 ⟨vs, H1, I1, r1, q1⟩ => ?_))
  obtain ⟨v, w, e1, q1⟩ := q1
  subst e1
  obtain ⟨u1, u2, rfl, rv, rw'⟩ : ∃ u1 u2, us = [u1, u2] ∧ RelV v u1 ∧ RelV w u2 := by
    cases r1 with
    | cons p q =>
      cases q with
      | cons p' q' =>
        cases q'
        exact ⟨_, _, rfl, p, p'⟩
  refine wpAny_newObj_type ?_ (by show 2 ≤ sizeLine; decide)
  have I2 : Inv X pins σ H1 { s1 with heap := s1.heap.push { cls := .type "tuple", data := .seq [u1, u2].toArray } } := I1.kept (t' := s1.toks) fun b o e => Heap.get?_push_of_some _ e
  rw [hw]
  refine wpAny_bind (wpAny_pure ?_)
  show wpAny (model X.prog X.w) X.A (do rule "assign.swapped-stores"; let items ← unpackItems (.ref s1.heap.objs.size) 2 none; assignInOrder [fun v => bindName X.env y v, fun v => bindName X.env x v] items.reverse; pure Flow.next) _ _ _
  refine wpAny_bind (wpAny_rule (wpAny_bind (unpackItems_tuple (items := #[u1, u2]) (I.ok.hd hc) (IsTup.new s1.heap _) fun h' hx' => ?_)))
  have I3 := I2.kept (h' := h') (t' := s1.toks) fun b o e => hx' b o (Nat.ne_of_lt (Heap.lt_size e)) e
  show wpAny _ _ (assignInOrder [fun v => bindName X.env y v, fun v => bindName X.env x v] [u2, u1] >>= fun _ => pure Flow.next) _ _ _
  refine wpAny_bind (assignInOrder_cons (wpAny_bindName (store_ok I3 hN hj (.inl hy) rw' (fun s2 I4 => ?_) (.inr hy))))
  refine assignInOrder_cons (wpAny_bindName (store_ok I4 hN hi (.inl hx) rv (fun s3 I5 => assignInOrder_nil (wpAny_pure ?_)) (.inr hx)))
  rw [List.set_comm _ _ (Ne.symm hij)] at I5
  exact ⟨_, H1, I5, q1⟩
/-- o[i] op= e -/
def tAugS (to ti te : TE) (tget : V → V → Hp → VK → Prop) (tip : TIp) (tset : TSet) : TS := fun D σ H => to σ H fun o H1 => ti σ H1 fun i H2 => tget o i H2 fun x H3 => te σ H3 fun y H4 => tip x y H4 fun z H5 => tset o i z H5 fun H6 => D.nx σ H6
/-- o[i], by values -/
def PGet (X : Cx) (t : V → V → Hp → VK → Prop) : Prop :=
  ∀ (pins : List (Addr × Obj)) (s : Shared) (σ : St) (H : Hp) (o i : V) (ov iv : Value) (Q : VK), Inv X pins σ H s → RelV o ov → RelV i iv → t o i H Q →
    wpAny (model X.prog X.w) X.A (getItem ov iv) (EP X pins σ Q) X.xe s
theorem ps_augS {o i e : Expr} {to ti te : TE} {tget : V → V → Hp → VK → Prop} {tip : TIp} {tset : TSet} {op : Operator} {tpos : Pos} (ho : PE X o to) (hi : PE X i ti) (hg : PGet X tget) (he : PE X e te) (hp : PIp X op tip) (hs : PSet X tset)
    (ha : ∀ ov iv new, augStore i ov iv new = (do holding [new, ov, iv] (setItem ov iv new); release [new, ov, iv] []; pure .next) := by intros; rfl) : PS X (.AugAssign (.Subscript o i tpos) op e pos) (tAugS to ti te tget tip tset) := by
  intro pins s σ H D I h
  refine wpAny_AugAssign_SubscriptAny (thn (ho pins s σ H _ I h) fun ov s1 ⟨x1, H1, I1, r1, q1⟩ => ?_) ha
  refine thn (hi pins s1 σ H1 _ I1 q1) fun iv s2 ⟨x2, H2, I2, r2, q2⟩ => ?_
  refine thn (hg pins s2 σ H2 x1 x2 ov iv _ I2 r1 r2 q2) fun old s3 ⟨x3, H3, I3, r3, q3⟩ => ?_
  refine thn (he pins s3 σ H3 _ I3 q3) fun v s4 ⟨x4, H4, I4, r4, q4⟩ => ?_
  refine thn (hp pins s4 σ H4 x3 x4 old v _ I4 r3 r4 q4) fun new s5 ⟨x5, H5, I5, r5, q5⟩ => ?_
  exact thn (hs pins s5 σ H5 x1 x2 x5 ov iv new _ I5 r1 r2 r5 q5) fun _ s6 ⟨H6, I6, q6⟩ => ⟨σ, H6, I6, q6⟩
/-- ints -/
def ipI (f : Int → Int → Int) : TIp := fun x y H Q => ∃ i j, x = .int i ∧ y = .int j ∧ Q (.int (f i j)) H
theorem ip_add : PIp X .Add (ipI fun i j => i + j) := by
  intro pins s σ H x y v u Q I r1 r2 h
  obtain ⟨i, j, e1, e2, q⟩ := h
  subst e1; subst e2
  obtain ⟨t, rfl⟩ := r1
  obtain ⟨t', rfl⟩ := r2
  exact iadd_int ⟨.int _, H, I.tok _, ⟨_, rfl⟩, q⟩
end

/-! ### while -/
section
variable {X : Cx} {pos : Pos}
/-- the invariant W with its measure -/
def tWhile (c : TT) (tb : TS) : TS := fun D σ H => ∃ W : Nat → St → Hp → Prop, (∃ m, W m σ H) ∧ ∀ m σ H, W m σ H →
  c σ H fun b H1 => if b = true then ∃ N : St → Hp → Prop, (∀ σ' H', N σ' H' → ∃ m', m' < m ∧ W m' σ' H') ∧ tb { D with nx := N, ct := N, bk := D.nx } σ H1 else D.nx σ H1
theorem ps_while {c : Expr} {body : List Stmt} {tc : TT} {tb : TS} (hp : PassesOwn (model X.prog X.w) X.A X.env X.xe) (hc : PT X c tc) (hb : PSs X body tb) : PS X (.While c body [] pos) (tWhile tc tb) := by
  intro pins s σ H D I h
  obtain ⟨W, ⟨m0, w0⟩, turn⟩ := h
  refine wpAny_While (codeAny_whileLoop (fun n s' => ∃ σ' H', Inv X pins σ' H' s' ∧ W n σ' H') ?_ m0 ⟨σ, H, I, w0⟩)
  rintro n s1 ⟨σ1, H1, I1, w1⟩
  refine wpAny_passesOwn hp (thn (hc pins s1 σ1 H1 _ I1 (turn n σ1 H1 w1)) fun b s2 ⟨H2, I2, q2⟩ => ?_)
  cases b with
  | true =>
    obtain ⟨N, hN, q2⟩ := q2
    rw [if_pos rfl]
    refine wpAny_passesOwn hp (thn (hb pins s2 σ1 H2 _ I2 q2) fun f s3 q3 => ?_)
    cases f with
    | next =>
      obtain ⟨σ3, H3, I3, n3⟩ := q3
      obtain ⟨m', hm, w3⟩ := hN σ3 H3 n3
      exact ⟨m', hm, σ3, H3, I3, w3⟩
    | cont =>
      obtain ⟨σ3, H3, I3, n3⟩ := q3
      obtain ⟨m', hm, w3⟩ := hN σ3 H3 n3
      exact ⟨m', hm, σ3, H3, I3, w3⟩
    | brk => exact q3
    | ret v => exact q3
  | false =>
    rw [if_neg Bool.false_ne_true]
    exact wpAny_execs_nil ⟨σ1, H2, I2, q2⟩
end

/-! ### what a loop or a comprehension walks -/
/-- at turn i: it yields x (the heap may grow), or it stops -/
structure It where
  go : Nat → Hp → Prop
  yld : Nat → Hp → V → Hp → Prop
  stop : Nat → Hp → Prop
/-- the iterator's own objects may turn: they are not the frame's, not pinned, younger than the entry (or a comprehension's own) -/
def FpOk (X : Cx) (pins : List (Addr × Obj)) (H : Hp) (b : Addr) : Prop :=
  H b = none ∧ b ≠ X.env.locals ∧ b ∉ X.fs ∧ (b ∈ X.ex ∨ X.s₀.heap.objs.size ≤ b) ∧ (∀ x c, X.env.cells.lookup x = some c → c ≠ b) ∧ ∀ p ∈ X.pn ++ pins, p.1 ≠ b
theorem Inv.fpOk {X : Cx} {pins : List (Addr × Obj)} {σ : St} {H H' : Hp} {s : Shared} {b : Addr} (I : Inv X pins σ H s) (hb : s.heap.objs.size ≤ b) (hn : H' b = none) : FpOk X pins H' b := by
  refine ⟨hn, Nat.ne_of_gt (Nat.lt_of_lt_of_le I.lt hb), I.nofs hb, .inr (Nat.le_trans I.sz hb), fun x c e z => ?_, fun p hp z => ?_⟩
  · obtain ⟨v, q⟩ := I.cell x c e
    exact absurd (Nat.lt_of_lt_of_le q.lt (by rw [z]; exact hb)) (Nat.lt_irrefl _)
  · exact absurd (Nat.lt_of_lt_of_le (Heap.lt_size (I.pin p hp).1) (by rw [z]; exact hb)) (Nat.lt_irrefl _)
structure Turn (P : Program) (w : World) (K : PySem.W.Frag) (tg : Expr) (J : It) (fp : List Addr) (it : Addr) (tn : Nat → Heap → Prop) : Prop where
  mem : it ∈ fp
  obj : ∀ i h, tn i h → ∀ b ∈ fp, ∃ o, h.get? b = some o ∧ ∀ v, o.data ≠ .cell v
  keep : ∀ i h h', tn i h → (∀ b ∈ fp, ∀ o, h.get? b = some o → h'.get? b = some o) → tn i h'
  item : ∀ (X : Cx), X.prog = P → X.w = w → X.K = K → X.calm = true → ∀ (i : Nat) (pins : List (Addr × Obj)) (s : Shared) (σ : St) (H : Hp) (E : Value → Shared → Prop), Inv X pins σ H s → (∀ b ∈ fp, FpOk X pins H b) → tn i s.heap → J.go i H →
    wpAny (model P w) X.A (pyNext (.ref it)) (fun r s1 => ∃ u, r = some u ∧
      wpAny (model P w) X.A (letOwnedTupleGo tg (.ref it) u) (fun _ s2 => ∃ x H', Inv X pins σ H' s2 ∧ RelV x u ∧ J.yld i H x H' ∧ tn (i + 1) s2.heap ∧ ∀ b ∈ fp, H' b = none) E s1) E s
  done : ∀ (X : Cx), X.prog = P → X.w = w → X.K = K → X.calm = true → ∀ (i : Nat) (pins : List (Addr × Obj)) (s : Shared) (σ : St) (H : Hp) (E : Value → Shared → Prop), Inv X pins σ H s → (∀ b ∈ fp, FpOk X pins H b) → tn i s.heap → J.stop i H →
    wpAny (model P w) X.A (pyNext (.ref it)) (fun r s1 => r = none ∧ Inv X pins σ H s1) E s
  self : ∀ (A : Around) (i : Nat) (s : Shared) (Q : Value → Shared → Prop) (E : Value → Shared → Prop), tn i s.heap → Q (.ref it) s → wpAny (model P w) A (pyIter (.ref it)) Q E s
abbrev TI := St → Hp → (It → Hp → Prop) → Prop
/-- an iterator has come -/
def PIE (X : Cx) (pins : List (Addr × Obj)) (σ : St) (tg : Expr) (R : It → Hp → Prop) (itv : Value) (s2 : Shared) : Prop :=
  ∃ (it : Addr) (fp : List Addr) (tn : Nat → Heap → Prop) (J : It) (H' : Hp), itv = .ref it ∧ Inv X pins σ H' s2 ∧ Turn X.prog X.w X.K tg J fp it tn ∧ tn 0 s2.heap ∧ (∀ b ∈ fp, FpOk X pins H' b) ∧ R J H'
def PI (X : Cx) (tg iter : Expr) (wi : TI) : Prop :=
  ∀ (pins : List (Addr × Obj)) (s : Shared) (σ : St) (H : Hp) (R : It → Hp → Prop), Inv X pins σ H s → wi σ H R →
    wpAny (model X.prog X.w) X.A (eval iter X.env) (fun v s1 => wpAny (model X.prog X.w) X.A (pyIter v) (PIE X pins σ tg R) X.xe s1) X.xe s

/-- the step ahead of the store is nothing for an iterator that keeps no tuple -/
theorem go_of {M : Model} {A : Around} {E : Value → Shared → Prop} {s : Shared} {tg : Expr} {it : Addr} {u : Value} {o : Obj} {n : String} {vs : Array Value} {Q : Unit → Shared → Prop} (ho : s.heap.get? it = some o) (hc : o.cls = .type n) (hd : o.data = .fields vs)
    (hn : ["enumerate", "zip", "dict_itemiterator", "dict_reverseitemiterator", "odict_iterator", "itertools.zip_longest", "itertools.pairwise"].contains n = false) (hQ : Q () s) : wpAny M A (letOwnedTupleGo tg (.ref it) u) Q E s := by
  unfold letOwnedTupleGo
  cases tg <;> first
    | exact wpAny_pure hQ
    | (cases u <;> first
        | exact wpAny_pure hQ
        | (refine wpAny_bind (wpAny_load ho ?_)
           rw [hc, hd]
           show wpAny M A (if (["enumerate", "zip", "dict_itemiterator", "dict_reverseitemiterator", "odict_iterator", "itertools.zip_longest", "itertools.pairwise"].contains n && vs[0]? == some (rawInt _)) = true then _ else _) Q E s
           rw [if_neg (by intro h; rw [hn, Bool.false_and] at h; cases h)]
           exact wpAny_pure hQ))

/-- the list at a, as it stands at each turn (a loop may append to it) -/
def Itl (K : PySem.W.Frag) (a : Addr) : It :=
  ⟨fun i H => ∃ xs x, SqL K H a xs ∧ xs[i]? = some x, fun i H x H' => H' = H ∧ ∀ xs, SqL K H a xs → xs[i]? = some x, fun i H => ∃ xs, SqL K H a xs ∧ xs.length ≤ i⟩
def Itt (K : PySem.W.Frag) (a : Addr) : It :=
  ⟨fun i H => ∃ xs x, SqT K H a xs ∧ xs[i]? = some x, fun i H x H' => H' = H ∧ ∀ xs, SqT K H a xs → xs[i]? = some x, fun i H => ∃ xs, SqT K H a xs ∧ xs.length ≤ i⟩
/-- lo, lo + 1, .. (n of them) -/
def Itr (lo : Int) (n : Nat) : It := ⟨fun i _ => i < n, fun i H x H' => H' = H ∧ x = .int (lo + i), fun i _ => n ≤ i⟩
theorem turn_list {P : Program} {w : World} {K : PySem.W.Frag} {tg : Expr} (a it : Addr) : Turn P w K tg (Itl K a) [it] it (fun i h => h.IsListIter it a i) where
  mem := by simp
  obj := fun i h st b hb => by
    have e : b = it := by simpa using hb
    subst e
    obtain ⟨o, e, c, d⟩ := st
    exact ⟨o, e, fun v z => by rw [d] at z; cases z⟩
  keep := fun i h h' st k => st.at fun o e => k it (by simp) o e
  item := by
    intro X hP hw hK hc i pins s σ H E I hf st hg
    subst hP hw hK
    obtain ⟨xs, x, hq, hx⟩ := hg
    obtain ⟨its, rv, p, hz⟩ := I.list hq
    obtain ⟨u, hu, ru⟩ := rv.get hx
    obtain ⟨f0, f1, f2, f3, f4, f5⟩ := hf it (by simp)
    refine wpAny_pyNext_list_item st p.isList (x := u) (by simpa using hu) fun h' st' sb => ?_
    have I1 : Inv X pins σ H { s with heap := h' } := I.turned (t' := s.toks) (fun b o hb e => (sb.2 b hb).trans e) f0 f1 f3 f4 f5
    obtain ⟨o, e, c, d⟩ := id st'
    exact ⟨u, rfl, go_of (s := { s with heap := h' }) e c d (by decide) ⟨x, H, I1, ru, ⟨rfl, fun ys hy => by rw [I.list_inj hy hq]; exact hx⟩, st', fun b hb => (hf b hb).1⟩⟩
  done := by
    intro X hP hw hK hc i pins s σ H E I hf st hg
    subst hP hw hK
    obtain ⟨xs, hq, hx⟩ := hg
    obtain ⟨its, rv, p, hz⟩ := I.list hq
    obtain ⟨f0, f1, f2, f3, f4, f5⟩ := hf it (by simp)
    have hl := rv.length
    exact wpAny_pyNext_list_end (I.ok.hd hc) st p.isList (by simp; omega) fun h' eb => ⟨rfl, I.turned (t' := s.toks) (fun b o hb e => eb b o hb e) f0 f1 f3 f4 f5⟩
  self := fun _ _ _ _ _ st h => wpAny_pyIter_listiter st h
theorem turn_tuple {P : Program} {w : World} {K : PySem.W.Frag} {tg : Expr} (a it : Addr) : Turn P w K tg (Itt K a) [it] it (fun i h => h.IsTupleIter it a i) where
  mem := by simp
  obj := fun i h st b hb => by
    have e : b = it := by simpa using hb
    subst e
    obtain ⟨o, e, c, d⟩ := st
    exact ⟨o, e, fun v z => by rw [d] at z; cases z⟩
  keep := fun i h h' st k => st.at fun o e => k it (by simp) o e
  item := by
    intro X hP hw hK hc i pins s σ H E I hf st hg
    subst hP hw hK
    obtain ⟨xs, x, hq, hx⟩ := hg
    obtain ⟨its, rv, p, hz⟩ := I.tuple hq
    obtain ⟨u, hu, ru⟩ := rv.get hx
    obtain ⟨f0, f1, f2, f3, f4, f5⟩ := hf it (by simp)
    refine wpAny_pyNext_tuple_item st (show s.heap.IsTuple a its.toArray from p) (x := u) (by simpa using hu) fun h' st' sb => ?_
    have I1 : Inv X pins σ H { s with heap := h' } := I.turned (t' := s.toks) (fun b o hb e => (sb.2 b hb).trans e) f0 f1 f3 f4 f5
    obtain ⟨o, e, c, d⟩ := id st'
    exact ⟨u, rfl, go_of (s := { s with heap := h' }) e c d (by decide) ⟨x, H, I1, ru, ⟨rfl, fun ys hy => by rw [I.tuple_inj hy hq]; exact hx⟩, st', fun b hb => (hf b hb).1⟩⟩
  done := by
    intro X hP hw hK hc i pins s σ H E I hf st hg
    subst hP hw hK
    obtain ⟨xs, hq, hx⟩ := hg
    obtain ⟨its, rv, p, hz⟩ := I.tuple hq
    obtain ⟨f0, f1, f2, f3, f4, f5⟩ := hf it (by simp)
    have hl := rv.length
    exact wpAny_pyNext_tuple_end (I.ok.hd hc) st (show s.heap.IsTuple a its.toArray from p) (by simp; omega) fun h' eb => ⟨rfl, I.turned (t' := s.toks) (fun b o hb e => eb b o hb e) f0 f1 f3 f4 f5⟩
  self := fun _ _ _ _ _ st h => wpAny_pyIter_tupleiter st h
theorem turn_range {P : Program} {w : World} {K : PySem.W.Frag} {tg : Expr} (it : Addr) (lo : Int) (n : Nat) : Turn P w K tg (Itr lo n) [it] it (fun i h => IsRangeIter h it (lo + (i : Nat) * 1) ((n : Int) - (i : Nat)) 1) where
  mem := by simp
  obj := fun i h st b hb => by
    have e : b = it := by simpa using hb
    subst e
    exact ⟨_, st, fun v z => by
      have z' : Data.fields _ = Data.cell v := z
      cases z'⟩
  keep := fun i h h' st k => k it (by simp) _ st
  item := by
    intro X hP hw hK hc i pins s σ H E I hf st hg
    subst hP hw hK
    obtain ⟨f0, f1, f2, f3, f4, f5⟩ := hf it (by simp)
    have W := Walks.range (prog := X.prog) (w := X.w) (I.ok.hd hc) it lo 1 n
    refine W.item i s _ _ hg st fun v h' tk hv st' kk => ?_
    obtain ⟨t, rfl⟩ := hv
    have I1 : Inv X pins σ H { s with heap := h', toks := tk } := I.turned (fun b o hb e => kk b o (by simpa using hb) e) f0 f1 f3 f4 f5
    refine ⟨_, rfl, go_of (s := { s with heap := h', toks := tk }) (n := "range_iterator") st' rfl rfl (by decide) ⟨.int (lo + i), H, I1, ⟨t, ?_⟩, ⟨rfl, rfl⟩, st', fun b hb => (hf b hb).1⟩⟩
    rw [Int.mul_one]
  done := by
    intro X hP hw hK hc i pins s σ H E I hf st hg
    subst hP hw hK
    obtain ⟨f0, f1, f2, f3, f4, f5⟩ := hf it (by simp)
    exact wpAny_pyNext_range_end (I.ok.hd hc) st (by have : n ≤ i := hg; omega) fun h' eb => ⟨rfl, I.turned (t' := s.toks) (fun b o hb e => eb b o hb e) f0 f1 f3 f4 f5⟩
  self := fun _ _ _ _ _ st h => wpAny_pyIter_rangeiter st h
end L2

namespace L2
open PySem PySem.Spec PyProof.Rows
section
variable {X : Cx} {tg : Expr}
def iList (K : PySem.W.Frag) (tl : TE) : TI := fun σ H R => tl σ H fun x H1 => ∃ a, x = .ref a ∧ (∃ xs, SqL K H1 a xs) ∧ R (Itl K a) H1
def iTup (K : PySem.W.Frag) (tl : TE) : TI := fun σ H R => tl σ H fun x H1 => ∃ a, x = .ref a ∧ (∃ xs, SqT K H1 a xs) ∧ R (Itt K a) H1
theorem pi_list {l : Expr} {tl : TE} (hl : PE X l tl) : PI X tg l (iList X.K tl) := by
  intro pins s σ H R I h
  refine thn (hl pins s σ H _ I h) fun v s1 ⟨x, H1, I1, r1, q1⟩ => ?_
  obtain ⟨a, e, ⟨xs, hq⟩, q⟩ := q1
  subst e
  cases r1
  obtain ⟨its, rv, p, hz⟩ := I1.list hq
  refine wpAny_pyIter_list p.isList ?_
  refine ⟨s1.heap.objs.size, [s1.heap.objs.size], _, _, H1, rfl, I1.kept (t' := s1.toks) fun b o e => Heap.get?_push_of_some _ e, turn_list a _, ⟨_, Heap.get?_push_size _ rfl, rfl, rfl⟩, fun b hb => ?_, q⟩
  have e : b = s1.heap.objs.size := by simpa using hb
  subst e
  exact I1.fpOk (Nat.le_refl _) (I1.hok.fresh (Nat.le_refl _))
theorem pi_tup {l : Expr} {tl : TE} (hl : PE X l tl) : PI X tg l (iTup X.K tl) := by
  intro pins s σ H R I h
  refine thn (hl pins s σ H _ I h) fun v s1 ⟨x, H1, I1, r1, q1⟩ => ?_
  obtain ⟨a, e, ⟨xs, hq⟩, q⟩ := q1
  subst e
  cases r1
  obtain ⟨its, rv, p, hz⟩ := I1.tuple hq
  refine wpAny_pyIter_tuple (show s1.heap.IsTuple a its.toArray from p) ?_
  refine ⟨s1.heap.objs.size, [s1.heap.objs.size], _, _, H1, rfl, I1.kept (t' := s1.toks) fun b o e => Heap.get?_push_of_some _ e, turn_tuple a _, ⟨_, Heap.get?_push_size _ rfl, rfl, rfl⟩, fun b hb => ?_, q⟩
  have e : b = s1.heap.objs.size := by simpa using hb
  subst e
  exact I1.fpOk (Nat.le_refl _) (I1.hok.fresh (Nat.le_refl _))
/-- a range object just made, walked -/
theorem range_it {pins : List (Addr × Obj)} {σ : St} {H : Hp} {s : Shared} {R : It → Hp → Prop} {E : Value → Shared → Prop} {lo hi : Int} {t u v : Tok} {tk : Nat} (I : Inv X pins σ H s) (h1 : -(2 ^ 62) ≤ lo) (h2 : lo < 2 ^ 62) (h3 : -(2 ^ 62) ≤ hi) (h4 : hi < 2 ^ 62)
    (q : R (Itr lo (hi - lo).toNat) H) : wpAny (model X.prog X.w) X.A (pyIter (.ref s.heap.objs.size)) (PIE X pins σ tg R) E { s with heap := s.heap.push { cls := .type "range", data := .fields #[.int lo t, .int hi u, .int 1 v] }, toks := tk } := by
  refine wpAny_pyIter_range (IsRange.new ..) (small_one h1 h2 h3 h4) ?_
  have I1 : Inv X pins σ H { s with heap := s.heap.push { cls := .type "range", data := .fields #[.int lo t, .int hi u, .int 1 v] }, toks := tk } := I.kept fun b o e => Heap.get?_push_of_some _ e
  refine ⟨(s.heap.push { cls := .type "range", data := .fields #[.int lo t, .int hi u, .int 1 v] }).objs.size, [(s.heap.push { cls := .type "range", data := .fields #[.int lo t, .int hi u, .int 1 v] }).objs.size], _, _, H, rfl,
    I1.kept (t' := tk) fun b o e => Heap.get?_push_of_some _ e, turn_range _ lo (hi - lo).toNat, ?_, fun b hb => ?_, q⟩
  · have e1 : lo + ((0 : Nat) : Int) * 1 = lo := by simp
    have e2 : (((hi - lo).toNat : Nat) : Int) - ((0 : Nat) : Int) = Builtin.Range.rangeSize lo hi 1 := by rw [rangeSize_one]; split <;> omega
    show IsRangeIter _ _ (lo + ((0 : Nat) : Int) * 1) ((((hi - lo).toNat : Nat) : Int) - ((0 : Nat) : Int)) 1
    rw [e1, e2]
    exact Heap.get?_push_size _ rfl
  · have e : b = (s.heap.push { cls := .type "range", data := .fields #[.int lo t, .int hi u, .int 1 v] }).objs.size := by simpa using hb
    subst e
    exact I1.fpOk (Nat.le_refl _) (I1.hok.fresh (Nat.le_refl _))
def iRng1 (ta : TA) : TI := fun σ H R => ta σ H fun vs H1 => ∃ j : Int, vs = [.int j] ∧ -(2 ^ 62) ≤ j ∧ j < 2 ^ 62 ∧ R (Itr 0 j.toNat) H1
def iRng2 (ta : TA) : TI := fun σ H R => ta σ H fun vs H1 => ∃ i j : Int, vs = [.int i, .int j] ∧ (-(2 ^ 62) ≤ i ∧ i < 2 ^ 62 ∧ -(2 ^ 62) ≤ j ∧ j < 2 ^ 62) ∧ R (Itr i (j - i).toNat) H1
theorem pi_range1 {a : Expr} {ta : TA} {p pos : Pos} (hg : Gl X "range") (hm : X.mg "range" = none) (ha : PA X [a] ta) (hs : starEach [a] X.env = [(false, eval a X.env)] := by rfl) : PI X tg (.Call (.Name "range" p) [a] [] pos) (iRng1 ta) := by
  intro pins s σ H R I h
  refine Call_ (ld_blt I hg hm boot_range (PyProof.Rows.callWith_type1 (thn (ha pos pins s σ H _ I h) fun us s1 ⟨vs, H1, I1, r1, q1⟩ => ?_) hs rfl))
  obtain ⟨j, e, q1, q2, q⟩ := q1
  subst e
  cases r1 with
  | cons r rr =>
    cases rr
    obtain ⟨t, rfl⟩ := r
    exact call_range_1 (range_it I1 (by omega) (by omega) q1 q2 (by simpa using q))
theorem pi_range2 {a b : Expr} {ta : TA} {p pos : Pos} (hg : Gl X "range") (hm : X.mg "range" = none) (ha : PA X [a, b] ta) (hs : starEach [a, b] X.env = [(false, eval a X.env), (false, eval b X.env)] := by rfl) (hs2 : starEach [b] X.env = [(false, eval b X.env)] := by rfl) :
    PI X tg (.Call (.Name "range" p) [a, b] [] pos) (iRng2 ta) := by
  intro pins s σ H R I h
  refine Call_ (ld_blt I hg hm boot_range (PyProof.Rows.callWith_type1 (thn (ha pos pins s σ H _ I h) fun us s1 ⟨vs, H1, I1, r1, q1⟩ => ?_) (by rw [hs, hs2]) (by rw [hs2]; rfl)))
  obtain ⟨i, j, e, ⟨q1, q2, q3, q4⟩, q⟩ := q1
  subst e
  cases r1 with
  | cons r rr =>
    cases rr with
    | cons r' rr =>
      cases rr
      obtain ⟨t, rfl⟩ := r
      obtain ⟨t', rfl⟩ := r'
      exact call_range_2 (range_it I1 q1 q2 q3 q4 q)

/-! ### for -/
/-- W: the invariant by the turn and a measure; N: what the body is to reach -/
def tFor (wi : TI) (g : TG) (tb : TS) : TS := fun D σ H => wi σ H fun J H1 => ∃ W : Nat → Nat → St → Hp → Prop, (∃ m, W 0 m σ H1) ∧ ∀ i m σ H, W i m σ H →
  (J.stop i H ∧ D.nx σ H) ∨ (J.go i H ∧ ∃ N : St → Hp → Prop, (∀ σ' H', N σ' H' → ∃ m', m' < m ∧ W (i + 1) m' σ' H') ∧ ∀ x H', J.yld i H x H' → g x σ H' fun σ2 H2 => tb { D with nx := N, ct := N, bk := D.nx } σ2 H2)
/-- the records at fp as they stand -/
def pinsAt (fp : List Addr) (h : Heap) : List (Addr × Obj) := fp.filterMap fun b => (h.get? b).map fun o => (b, o)
theorem mem_pinsAt {fp : List Addr} {h : Heap} {b : Addr} {o : Obj} (hb : b ∈ fp) (e : h.get? b = some o) : (b, o) ∈ pinsAt fp h := List.mem_filterMap.mpr ⟨b, hb, by rw [e]; rfl⟩
theorem of_pinsAt {fp : List Addr} {h : Heap} {p : Addr × Obj} (hp : p ∈ pinsAt fp h) : p.1 ∈ fp ∧ h.get? p.1 = some p.2 := by
  obtain ⟨b, hb, e⟩ := List.mem_filterMap.mp hp
  cases q : h.get? b with
  | none => rw [q] at e; cases e
  | some o =>
    rw [q] at e
    have e' : (b, o) = p := Option.some.inj e
    subst e'
    exact ⟨hb, q⟩
theorem Inv.pinned {pins : List (Addr × Obj)} {σ : St} {H : Hp} {s : Shared} {fp : List Addr} (I : Inv X pins σ H s) (hf : ∀ b ∈ fp, FpOk X pins H b) (ho : ∀ b ∈ fp, ∃ o, s.heap.get? b = some o ∧ ∀ v, o.data ≠ .cell v) : Inv X (pins ++ pinsAt fp s.heap) σ H s :=
  I.pins_of fun p hp => (List.mem_append.mp hp).elim (fun z => I.pin p (List.mem_append_right _ z)) fun z => by
    obtain ⟨hb, e⟩ := of_pinsAt z
    obtain ⟨f0, f1, f2, _⟩ := hf p.1 hb
    obtain ⟨o, e', d⟩ := ho p.1 hb
    rw [e] at e'; cases e'
    exact ⟨e, f0, f1, f2, d⟩
theorem Inv.unpinned {pins pl : List (Addr × Obj)} {σ : St} {H : Hp} {s : Shared} (I : Inv X (pins ++ pl) σ H s) : Inv X pins σ H s := I.pins_of fun p hp => I.pin p (List.mem_append_right _ (List.mem_append_left _ hp))
theorem ps_for {iter : Expr} {body : List Stmt} {wi : TI} {g : TG} {tb : TS} {pos : Pos} (hp : PassesOwn (model X.prog X.w) X.A X.env X.xe) (hc : X.calm = true) (hi : PI X tg iter wi) (hg : PG X tg g) (hb : PSs X body tb)
    (hs : ∀ x, foldedSetIterable iter X.env x = pure x := by intro _; rfl) : PS X (.For tg iter body [] pos) (tFor wi g tb) := by
  intro pins s σ H D I h
  refine wpAny_For (thn (hi pins s σ H _ I h) fun v s1 h1 => thn h1 fun itv s2 h2 => ?_) hs
  obtain ⟨it, fp, tn, J, H2, e, I2, T, st2, f2, W, ⟨m0, w0⟩, turn⟩ := h2
  subst e
  -- what stays true of the iterator's objects through the loop
  have stat : ∀ {H' : Hp}, (∀ b ∈ fp, H' b = none) → ∀ b ∈ fp, FpOk X pins H' b := fun hn b hb => ⟨hn b hb, (f2 b hb).2⟩
  refine codeAny_forLoop_any (fun n s' => ∃ i σ' H', Inv X pins σ' H' s' ∧ tn i s'.heap ∧ (∀ b ∈ fp, H' b = none) ∧ W i n σ' H') ?_ m0 ⟨0, σ, H2, I2, st2, fun b hb => (f2 b hb).1, w0⟩
  rintro n s3 ⟨i, σ3, H3, I3, st3, fr3, w3⟩
  rcases turn i n σ3 H3 w3 with ⟨stop, qn⟩ | ⟨go, N, hN, step⟩
  · refine wpAny_passesOwn hp (thn (T.done X rfl rfl rfl hc i pins s3 σ3 H3 X.xe I3 (stat fr3) st3 stop) fun r s4 ⟨hr, I4⟩ => ?_)
    subst hr
    exact wpAny_execs_nil ⟨σ3, H3, I4, qn⟩
  · refine wpAny_passesOwn hp (thn (T.item X rfl rfl rfl hc i pins s3 σ3 H3 X.xe I3 (stat fr3) st3 go) fun r s4 ⟨u, hr, h4⟩ => ?_)
    subst hr
    refine wpAny_passesOwn hp (thn h4 fun _ s5 ⟨x, H5, I5, r5, y5, st5, fr5⟩ => ?_)
    have I5' := I5.pinned (stat fr5) (T.obj _ _ st5)
    refine wpAny_passesOwn hp (thn (hg _ s5 σ3 H5 x u _ I5' r5 (step x H5 y5)) fun _ s6 ⟨σ6, H6, I6, q6⟩ => ?_)
    refine wpAny_passesOwn hp (thn (hb _ s6 σ6 H6 _ I6 q6) fun f s7 q7 => ?_)
    have again : ∀ {σ7 : St} {H7 : Hp}, Inv X (pins ++ pinsAt fp s5.heap) σ7 H7 s7 → N σ7 H7 → ∃ m, m < n ∧ ∃ i σ' H', Inv X pins σ' H' s7 ∧ tn i s7.heap ∧ (∀ b ∈ fp, H' b = none) ∧ W i m σ' H' := fun {σ7 H7} I7 n7 => by
      obtain ⟨m', hm, w7⟩ := hN σ7 H7 n7
      refine ⟨m', hm, i + 1, σ7, H7, I7.unpinned, T.keep _ _ _ st5 fun b hb o e => (I7.pin (b, o) (List.mem_append_right _ (List.mem_append_right _ (mem_pinsAt hb e)))).1, fun b hb => ?_, w7⟩
      obtain ⟨o, e, d⟩ := T.obj _ _ st5 b hb
      exact (I7.pin (b, o) (List.mem_append_right _ (List.mem_append_right _ (mem_pinsAt hb e)))).2.1
    cases f with
    | next => obtain ⟨σ7, H7, I7, n7⟩ := q7; exact again I7 n7
    | cont => obtain ⟨σ7, H7, I7, n7⟩ := q7; exact again I7 n7
    | brk => obtain ⟨σ7, H7, I7, q7⟩ := q7; exact ⟨σ7, H7, I7.unpinned, q7⟩
    | ret v => obtain ⟨x7, σ7, H7, I7, r7, q7⟩ := q7; exact ⟨x7, σ7, H7, I7.unpinned, r7, q7⟩
end

/-! ### the forms one uses -/
/-- over a list that the body leaves as it is -/
theorem for_list {K : PySem.W.Frag} {a : Addr} {xs : List V} {g : TG} {tb : TS} {D : Ends} {σ : St} {H : Hp} (Pv : Nat → St → Hp → Prop) (h0 : Pv 0 σ H) (hl : ∀ i σ H, i ≤ xs.length → Pv i σ H → SqL K H a xs)
    (hs : ∀ i x σ H, xs[i]? = some x → Pv i σ H → g x σ H fun σ2 H2 => tb { D with nx := Pv (i + 1), ct := Pv (i + 1), bk := D.nx } σ2 H2) (hd : ∀ σ H, Pv xs.length σ H → D.nx σ H) :
    ∃ W : Nat → Nat → St → Hp → Prop, (∃ m, W 0 m σ H) ∧ ∀ i m σ H, W i m σ H →
      ((Itl K a).stop i H ∧ D.nx σ H) ∨ ((Itl K a).go i H ∧ ∃ N : St → Hp → Prop, (∀ σ' H', N σ' H' → ∃ m', m' < m ∧ W (i + 1) m' σ' H') ∧ ∀ x H', (Itl K a).yld i H x H' → g x σ H' fun σ2 H2 => tb { D with nx := N, ct := N, bk := D.nx } σ2 H2) := by
  refine ⟨fun i m σ H => m = xs.length - i ∧ i ≤ xs.length ∧ Pv i σ H, ⟨xs.length, by simp, Nat.zero_le _, h0⟩, ?_⟩
  rintro i m σ H ⟨rfl, hi, p⟩
  have q := hl i σ H hi p
  by_cases hlt : i < xs.length
  · refine .inr ⟨⟨xs, xs[i], q, by simp [hlt]⟩, Pv (i + 1), fun σ' H' p' => ⟨xs.length - (i + 1), by omega, rfl, hlt, p'⟩, fun x H' y => ?_⟩
    obtain ⟨e, y⟩ := y
    subst e
    exact hs i x σ _ (y xs q) p
  · have e : i = xs.length := by omega
    subst e
    exact .inl ⟨⟨xs, q, Nat.le_refl _⟩, hd σ H p⟩
theorem for_tup {K : PySem.W.Frag} {a : Addr} {xs : List V} {g : TG} {tb : TS} {D : Ends} {σ : St} {H : Hp} (Pv : Nat → St → Hp → Prop) (h0 : Pv 0 σ H) (hl : ∀ i σ H, i ≤ xs.length → Pv i σ H → SqT K H a xs)
    (hs : ∀ i x σ H, xs[i]? = some x → Pv i σ H → g x σ H fun σ2 H2 => tb { D with nx := Pv (i + 1), ct := Pv (i + 1), bk := D.nx } σ2 H2) (hd : ∀ σ H, Pv xs.length σ H → D.nx σ H) :
    ∃ W : Nat → Nat → St → Hp → Prop, (∃ m, W 0 m σ H) ∧ ∀ i m σ H, W i m σ H →
      ((Itt K a).stop i H ∧ D.nx σ H) ∨ ((Itt K a).go i H ∧ ∃ N : St → Hp → Prop, (∀ σ' H', N σ' H' → ∃ m', m' < m ∧ W (i + 1) m' σ' H') ∧ ∀ x H', (Itt K a).yld i H x H' → g x σ H' fun σ2 H2 => tb { D with nx := N, ct := N, bk := D.nx } σ2 H2) := by
  refine ⟨fun i m σ H => m = xs.length - i ∧ i ≤ xs.length ∧ Pv i σ H, ⟨xs.length, by simp, Nat.zero_le _, h0⟩, ?_⟩
  rintro i m σ H ⟨rfl, hi, p⟩
  have q := hl i σ H hi p
  by_cases hlt : i < xs.length
  · refine .inr ⟨⟨xs, xs[i], q, by simp [hlt]⟩, Pv (i + 1), fun σ' H' p' => ⟨xs.length - (i + 1), by omega, rfl, hlt, p'⟩, fun x H' y => ?_⟩
    obtain ⟨e, y⟩ := y
    subst e
    exact hs i x σ _ (y xs q) p
  · have e : i = xs.length := by omega
    subst e
    exact .inl ⟨⟨xs, q, Nat.le_refl _⟩, hd σ H p⟩
theorem for_range {lo : Int} {n : Nat} {g : TG} {tb : TS} {D : Ends} {σ : St} {H : Hp} (Pv : Nat → St → Hp → Prop) (h0 : Pv 0 σ H)
    (hs : ∀ i σ H, i < n → Pv i σ H → g (.int (lo + i)) σ H fun σ2 H2 => tb { D with nx := Pv (i + 1), ct := Pv (i + 1), bk := D.nx } σ2 H2) (hd : ∀ σ H, Pv n σ H → D.nx σ H) :
    ∃ W : Nat → Nat → St → Hp → Prop, (∃ m, W 0 m σ H) ∧ ∀ i m σ H, W i m σ H →
      ((Itr lo n).stop i H ∧ D.nx σ H) ∨ ((Itr lo n).go i H ∧ ∃ N : St → Hp → Prop, (∀ σ' H', N σ' H' → ∃ m', m' < m ∧ W (i + 1) m' σ' H') ∧ ∀ x H', (Itr lo n).yld i H x H' → g x σ H' fun σ2 H2 => tb { D with nx := N, ct := N, bk := D.nx } σ2 H2) := by
  refine ⟨fun i m σ H => m = n - i ∧ i ≤ n ∧ Pv i σ H, ⟨n, by simp, Nat.zero_le _, h0⟩, ?_⟩
  rintro i m σ H ⟨rfl, hi, p⟩
  by_cases hlt : i < n
  · refine .inr ⟨hlt, Pv (i + 1), fun σ' H' p' => ⟨n - (i + 1), by omega, rfl, hlt, p'⟩, fun x H' y => ?_⟩
    obtain ⟨e, y⟩ := y
    subst e y
    exact hs i σ _ hlt p
  · have e : i = n := by omega
    subst e
    exact .inl ⟨Nat.le_refl _, hd σ H p⟩
end L2

namespace L2
open PySem PySem.Spec PyProof.Rows

abbrev R2 := V → V → Hp → VK → Prop
/-- a two-place operation on values: f is binaryOp op, inplaceOp op or compareOp op -/
def OpR (X : Cx) (f : Value → Value → Sem Value) (r : R2) : Prop :=
  ∀ (pins : List (Addr × Obj)) (s : Shared) (σ : St) (H : Hp) (x y : V) (v u : Value) (Q : VK), Inv X pins σ H s → RelV x v → RelV y u → r x y H Q →
    wpAny (model X.prog X.w) X.A (f v u) (EP X pins σ Q) X.xe s
/-- a one-place operation -/
def UnR (X : Cx) (f : Value → Sem Value) (r : V → Hp → VK → Prop) : Prop :=
  ∀ (pins : List (Addr × Obj)) (s : Shared) (σ : St) (H : Hp) (x : V) (v : Value) (Q : VK), Inv X pins σ H s → RelV x v → r x H Q →
    wpAny (model X.prog X.w) X.A (f v) (EP X pins σ Q) X.xe s
/-- a call of a value that is known (a builtin, a type) with values -/
def CallR (X : Cx) (f : Value) (r : List V → Hp → VK → Prop) : Prop :=
  ∀ (pins : List (Addr × Obj)) (s : Shared) (σ : St) (H : Hp) (xs : List V) (us : List Value) (Q : VK), Inv X pins σ H s → Vals xs us → r xs H Q →
    wpAny (model X.prog X.w) X.A (call f us) (EP X pins σ Q) X.xe s
def tOp (r : R2) (ta tb : TE) : TE := fun σ H Q => ta σ H fun x H1 => tb σ H1 fun y H2 => r x y H2 Q
def tUn (r : V → Hp → VK → Prop) (ta : TE) : TE := fun σ H Q => ta σ H fun x H1 => r x H1 Q
/-- ints in, under C, and a value out -/
def rI (C : Int → Int → Prop) (g : Int → Int → V) : R2 := fun x y H Q => ∃ i j, x = .int i ∧ y = .int j ∧ C i j ∧ Q (g i j) H
def rI0 (g : Int → Int → V) : R2 := fun x y H Q => ∃ i j, x = .int i ∧ y = .int j ∧ Q (g i j) H
def rU (g : Int → V) : V → Hp → VK → Prop := fun x H Q => ∃ i, x = .int i ∧ Q (g i) H

section
variable {X : Cx} {a b c : Expr} {ta tb tc : TE} {pos : Pos}

theorem binT (ha : PE X a ta) (hb : PE X b tb) {pins : List (Addr × Obj)} {s : Shared} {σ : St} {H : Hp} {R : V → V → Hp → Prop} (I : Inv X pins σ H s)
    (h : ta σ H fun x H1 => tb σ H1 fun y H2 => R x y H2) {Q : Value → Shared → Prop} {f : Value → Value → Sem Value}
    (hf : ∀ v u s2 x y H2, Inv X pins σ H2 s2 → RelV x v → RelV y u → R x y H2 → wpAny (model X.prog X.w) X.A (f v u) Q X.xe s2) :
    wpAny (model X.prog X.w) X.A (eval a X.env) (fun v s₁ => wpAny (model X.prog X.w) X.A (eval b X.env) (fun u s₂ => wpAny (model X.prog X.w) X.A (f v u) Q X.xe s₂) X.xe s₁) X.xe s := by
  refine thn (ha pins s σ H _ I h) fun v s1 ⟨x, H1, I1, r1, q1⟩ => ?_
  refine thn (hb pins s1 σ H1 _ I1 q1) fun u s2 ⟨y, H2, I2, r2, q2⟩ => ?_
  exact hf v u s2 x y H2 I2 r1 r2 q2

theorem pe_op {op : Operator} {r : R2} (ho : OpR X (binaryOp op) r) (ha : PE X a ta) (hb : PE X b tb) : PE X (.BinOp a op b pos) (tOp r ta tb) := by
  intro pins s σ H Q I h
  exact wpAny_BinOp (binT ha hb I h fun v u s2 x y H2 I2 rx ry q => ho pins s2 σ H2 x y v u Q I2 rx ry q)
theorem pe_un {op : UnaryOp} {r : V → Hp → VK → Prop} (ho : UnR X (unaryOp op) r) (ha : PE X a ta) : PE X (.UnaryOp op a pos) (tUn r ta) := by
  intro pins s σ H Q I h
  exact UnaryOp_ (thn (ha pins s σ H _ I h) fun v s1 ⟨x, H1, I1, r1, q1⟩ => ho pins s1 σ H1 x v Q I1 r1 q1)
/-! ### ints -/
theorem opI {f : Value → Value → Sem Value} {C : Int → Int → Prop} {g : Int → Int → Int}
    (rule : ∀ (i j : Int) (t u : Tok) (s : Shared) (Q : Value → Shared → Prop) (E : Value → Shared → Prop), C i j → Q (.int (g i j) s.toks) { s with toks := s.toks + 1 } → wpAny (model X.prog X.w) X.A (f (.int i t) (.int j u)) Q E s) :
    OpR X f (rI C fun i j => .int (g i j)) := by
  intro pins s σ H x y v u Q I rx ry h
  obtain ⟨i, j, rfl, rfl, hc, q⟩ := h
  obtain ⟨t, rfl⟩ := rx
  obtain ⟨t', rfl⟩ := ry
  exact rule i j t t' s _ _ hc ⟨.int (g i j), H, I.tok _, ⟨_, rfl⟩, q⟩
theorem opI0 {f : Value → Value → Sem Value} {g : Int → Int → Int}
    (rule : ∀ (i j : Int) (t u : Tok) (s : Shared) (Q : Value → Shared → Prop) (E : Value → Shared → Prop), Q (.int (g i j) s.toks) { s with toks := s.toks + 1 } → wpAny (model X.prog X.w) X.A (f (.int i t) (.int j u)) Q E s) :
    OpR X f (rI0 fun i j => .int (g i j)) := by
  intro pins s σ H x y v u Q I rx ry h
  obtain ⟨i, j, rfl, rfl, q⟩ := h
  obtain ⟨t, rfl⟩ := rx
  obtain ⟨t', rfl⟩ := ry
  exact rule i j t t' s _ _ ⟨.int (g i j), H, I.tok _, ⟨_, rfl⟩, q⟩
theorem opB0 {f : Value → Value → Sem Value} {g : Int → Int → Bool}
    (rule : ∀ (i j : Int) (t u : Tok) (s : Shared) (Q : Value → Shared → Prop) (E : Value → Shared → Prop), Q (.bool (g i j)) s → wpAny (model X.prog X.w) X.A (f (.int i t) (.int j u)) Q E s) :
    OpR X f (rI0 fun i j => .bl (g i j)) := by
  intro pins s σ H x y v u Q I rx ry h
  obtain ⟨i, j, rfl, rfl, q⟩ := h
  obtain ⟨t, rfl⟩ := rx
  obtain ⟨t', rfl⟩ := ry
  exact rule i j t t' s _ _ ⟨.bl (g i j), H, I, rfl, q⟩

def CDiv (i j : Int) : Prop := 0 < j ∧ j < 1073741824
def CPow (i j : Int) : Prop := 0 ≤ j ∧ j ≤ 1000000 ∧ i.natAbs < 2 ^ 64
def CMul (i j : Int) : Prop := (-(2 ^ 64) < i ∧ i < 2 ^ 64) ∨ (-(2 ^ 64) < j ∧ j < 2 ^ 64)
theorem CMul.ok {i j : Int} (h : CMul i j) : IntMulOk i j := by
  rcases h with ⟨h1, h2⟩ | ⟨h1, h2⟩
  · exact .of_left (intBits_le_64 h1 h2)
  · exact .of_right (intBits_le_64 h1 h2)
theorem two_pow_nn (k : Nat) : (0 : Int) ≤ 2 ^ k := by
  rw [two_pow_cast]
  exact Int.natCast_nonneg _

theorem op_add : OpR X (binaryOp .Add) (rI0 fun i j => .int (i + j)) := opI0 fun _ _ _ _ _ _ _ q => add_int q
theorem op_sub : OpR X (binaryOp .Sub) (rI0 fun i j => .int (i - j)) := opI0 fun _ _ _ _ _ _ _ q => sub_int q
theorem op_mul : OpR X (binaryOp .Mult) (rI CMul fun i j => .int (i * j)) := opI fun _ _ _ _ _ _ _ hc q => mul_int q hc.ok
/-- // by a positive divisor -/
theorem op_fdiv : OpR X (binaryOp .FloorDiv) (rI CDiv fun i j => .int (i / j)) := opI fun i j _ _ _ _ _ hc q => by
  have h1 : (0 : Int) < j := hc.1
  have h2 : j < 1073741824 := hc.2
  exact floordiv_int (by omega) (by rw [Int.fdiv_eq_ediv_of_nonneg i (by omega)]; exact q) (.inl (PyProof.noPylong_small (by omega)))
/-- % by a positive divisor of any size -/
theorem op_mod : OpR X (binaryOp .Mod) (rI (fun _ j => 0 < j) fun i j => .int (i % j)) := opI fun i j _ _ _ _ _ hc q => by
  have h1 : (0 : Int) < j := hc
  exact mod_int' (by omega) (by rw [Int.fmod_eq_emod_of_nonneg i (by omega)]; exact q)
theorem op_pow : OpR X (binaryOp .Pow) (rI CPow fun i j => .int (i ^ j.toNat)) := opI fun _ _ _ _ _ _ _ hc q => pow_int_small hc.1 hc.2.1 hc.2.2 q
theorem op_shr : OpR X (binaryOp .RShift) (rI (fun _ j => 0 ≤ j) fun i j => .int (i / 2 ^ j.toNat)) := opI fun i j _ _ _ _ _ hc q =>
  rshift_int hc (by rw [Int.fdiv_eq_ediv_of_nonneg i (two_pow_nn _)]; exact q)
theorem op_and : OpR X (binaryOp .BitAnd) (rI0 fun i j => .int (Builtin.bitAnd i j)) := opI0 fun _ _ _ _ _ _ _ q => and_int q
theorem unI {f : Value → Sem Value} {g : Int → Int}
    (rule : ∀ (i : Int) (t : Tok) (s : Shared) (Q : Value → Shared → Prop) (E : Value → Shared → Prop), Q (.int (g i) s.toks) { s with toks := s.toks + 1 } → wpAny (model X.prog X.w) X.A (f (.int i t)) Q E s) :
    UnR X f (rU fun i => .int (g i)) := by
  intro pins s σ H x v Q I rx h
  obtain ⟨i, rfl, q⟩ := h
  obtain ⟨t, rfl⟩ := rx
  exact rule i t s _ _ ⟨.int (g i), H, I.tok _, ⟨_, rfl⟩, q⟩
theorem un_neg : UnR X (unaryOp .USub) (rU fun i => .int (-i)) := unI fun _ _ _ _ _ q => neg_int q
/-! ### bools among ints: n += (a < b) -/
end

/-! ### comparisons -/
/-- the scalars that == tells apart as data does -/
def scal : V → V → Bool
  | .non, .non => true | .non, .int _ => true | .int _, .non => true | .non, .bl _ => true | .bl _, .non => true | .non, .str _ => true | .str _, .non => true
  | .int _, .int _ => true | .bl _, .bl _ => true | .str _, .str _ => true | .byt _, .byt _ => true
  | .int _, .str _ => true | .str _, .int _ => true | .bl _, .str _ => true | .str _, .bl _ => true
  | _, _ => false
def rEq : R2 := fun x y H Q => scal x y = true ∧ Q (.bl (decide (x = y))) H
def rNe : R2 := fun x y H Q => scal x y = true ∧ Q (.bl (!decide (x = y))) H

theorem dec_int {i j : Int} : decide (V.int i = V.int j) = (i == j) := by
  rw [Bool.eq_iff_iff]
  simp
theorem dec_bl {i j : Bool} : decide (V.bl i = V.bl j) = (i == j) := by
  rw [Bool.eq_iff_iff]
  simp
theorem dec_str {i j : Str} : decide (V.str i = V.str j) = (i == j) := by
  rw [Bool.eq_iff_iff]
  simp
theorem dec_byt {i j : Array UInt8} : decide (V.byt i = V.byt j) = (i.toList == j.toList) := by
  rw [Bool.eq_iff_iff]
  cases i
  cases j
  simp

section
variable {X : Cx} {a b c : Expr} {ta tb tc : TE} {pos : Pos}
theorem fin_bl {pins : List (Addr × Obj)} {σ : St} {H : Hp} {s : Shared} {Q : VK} {k k' : Bool} (I : Inv X pins σ H s) (q : Q (.bl k) H) (e : k = k') : EP X pins σ Q (.bool k') s := by
  subst e
  exact ⟨.bl k, H, I, rfl, q⟩
theorem op_eq : OpR X (compareOp .Eq) rEq := by
  intro pins s σ H x y v u Q I rx ry h
  obtain ⟨hs, q⟩ := h
  cases x with
  | non =>
    cases rx
    cases y with
    | non => cases ry; exact PySem.EqNone.eq_none_none (fin_bl I q (by simp))
    | bl j => cases ry; exact PySem.EqNone.eq_none_bool (fin_bl I q (by simp))
    | int j => obtain ⟨t', rfl⟩ := ry; exact PySem.EqNone.eq_none_int (fin_bl I q (by simp))
    | str j => obtain ⟨t', rfl⟩ := ry; exact PySem.EqNone.eq_none_str (fin_bl I q (by simp))
    | _ => exact absurd (show false = true from hs) Bool.false_ne_true
  | bl i =>
    cases rx
    cases y with
    | non => cases ry; exact PySem.EqNone.eq_bool_none (fin_bl I q (by simp))
    | bl j => cases ry; exact eq_bool (fin_bl I q dec_bl)
    | str j => obtain ⟨t', rfl⟩ := ry; exact PySem.EqMixed.eq_bool_str (fin_bl I q (by simp))
    | _ => exact absurd (show false = true from hs) Bool.false_ne_true
  | int i =>
    obtain ⟨t, rfl⟩ := rx
    cases y with
    | non => cases ry; exact PySem.EqNone.eq_int_none (fin_bl I q (by simp))
    | int j => obtain ⟨t', rfl⟩ := ry; exact eq_int (fin_bl I q dec_int)
    | str j => obtain ⟨t', rfl⟩ := ry; exact PySem.EqMixed.eq_int_str (fin_bl I q (by simp))
    | _ => exact absurd (show false = true from hs) Bool.false_ne_true
  | str i =>
    obtain ⟨t, rfl⟩ := rx
    cases y with
    | non => cases ry; exact PySem.EqNone.eq_str_none (fin_bl I q (by simp))
    | bl j => cases ry; exact PySem.EqMixed.eq_str_bool (fin_bl I q (by simp))
    | int j => obtain ⟨t', rfl⟩ := ry; exact PySem.EqMixed.eq_str_int (fin_bl I q (by simp))
    | str j => obtain ⟨t', rfl⟩ := ry; exact eq_str (fin_bl I q dec_str)
    | _ => exact absurd (show false = true from hs) Bool.false_ne_true
  | byt i =>
    obtain ⟨t, rfl⟩ := rx
    cases y with
    | byt j => obtain ⟨t', rfl⟩ := ry; exact PySem.W.eq_bytes (fin_bl I q dec_byt)
    | _ => exact absurd (show false = true from hs) Bool.false_ne_true
  | _ => cases y <;> exact absurd (show false = true from hs) Bool.false_ne_true
theorem op_ne : OpR X (compareOp .NotEq) rNe := by
  intro pins s σ H x y v u Q I rx ry h
  obtain ⟨hs, q⟩ := h
  cases x with
  | non =>
    cases rx
    cases y with
    | non => cases ry; exact PySem.EqNone.ne_none_none (fin_bl I q (by simp))
    | bl j => cases ry; exact PySem.EqNone.ne_none_bool (fin_bl I q (by simp))
    | int j => obtain ⟨t', rfl⟩ := ry; exact PySem.EqNone.ne_none_int (fin_bl I q (by simp))
    | str j => obtain ⟨t', rfl⟩ := ry; exact PySem.EqNone.ne_none_str (fin_bl I q (by simp))
    | _ => exact absurd (show false = true from hs) Bool.false_ne_true
  | bl i =>
    cases rx
    cases y with
    | non => cases ry; exact PySem.EqNone.ne_bool_none (fin_bl I q (by simp))
    | bl j => cases ry; exact ne_bool (fin_bl I q (congrArg not dec_bl))
    | str j => obtain ⟨t', rfl⟩ := ry; exact PySem.EqMixed.ne_bool_str (fin_bl I q (by simp))
    | _ => exact absurd (show false = true from hs) Bool.false_ne_true
  | int i =>
    obtain ⟨t, rfl⟩ := rx
    cases y with
    | non => cases ry; exact PySem.EqNone.ne_int_none (fin_bl I q (by simp))
    | int j => obtain ⟨t', rfl⟩ := ry; exact ne_int (fin_bl I q (congrArg not dec_int))
    | str j => obtain ⟨t', rfl⟩ := ry; exact PySem.EqMixed.ne_int_str (fin_bl I q (by simp))
    | _ => exact absurd (show false = true from hs) Bool.false_ne_true
  | str i =>
    obtain ⟨t, rfl⟩ := rx
    cases y with
    | non => cases ry; exact PySem.EqNone.ne_str_none (fin_bl I q (by simp))
    | bl j => cases ry; exact PySem.EqMixed.ne_str_bool (fin_bl I q (by simp))
    | int j => obtain ⟨t', rfl⟩ := ry; exact PySem.EqMixed.ne_str_int (fin_bl I q (by simp))
    | str j => obtain ⟨t', rfl⟩ := ry; exact ne_str (fin_bl I q (congrArg not dec_str))
    | _ => exact absurd (show false = true from hs) Bool.false_ne_true
  | byt i =>
    obtain ⟨t, rfl⟩ := rx
    cases y with
    | byt j => obtain ⟨t', rfl⟩ := ry; exact PySem.W.ne_bytes (fin_bl I q (congrArg not dec_byt))
    | _ => exact absurd (show false = true from hs) Bool.false_ne_true
  | _ => cases y <;> exact absurd (show false = true from hs) Bool.false_ne_true

theorem op_lt : OpR X (compareOp .Lt) (rI0 fun i j => .bl (decide (i < j))) := opB0 fun _ _ _ _ _ _ _ q => lt_int q
theorem op_le : OpR X (compareOp .LtE) (rI0 fun i j => .bl (decide (i ≤ j))) := opB0 fun _ _ _ _ _ _ _ q => le_int q
theorem op_gt : OpR X (compareOp .Gt) (rI0 fun i j => .bl (decide (j < i))) := opB0 fun _ _ _ _ _ _ _ q => gt_int q
theorem op_ge : OpR X (compareOp .GtE) (rI0 fun i j => .bl (decide (j ≤ i))) := opB0 fun _ _ _ _ _ _ _ q => ge_int q
theorem nomark (b : Expr) {op : CmpOp} (h : op ≠ .In := by decide) (h2 : op ≠ .NotIn := by decide) : behindInMarks op b = false := by
  have e1 : (op == CmpOp.In) = false := by cases op <;> first | rfl | exact absurd rfl h
  have e2 : (op == CmpOp.NotIn) = false := by cases op <;> first | rfl | exact absurd rfl h2
  cases b <;> simp [behindInMarks, e1, e2]
/-- a comparison as a value; hm: nomark b, or (for in, not in) by with_unfolding_all rfl -/
theorem pe_cmpR {op : CmpOp} {r : R2} (ho : OpR X (compareOp op) r) (ha : PE X a ta) (hb : PE X b tb) (hm : behindInMarks op b = false) : PE X (.Compare a [op] [b] pos) (tOp r ta tb) := by
  intro pins s σ H Q I h
  exact wpAny_Compare1 (binT ha hb I h fun v u s2 x y H2 I2 rx ry q => ho pins s2 σ H2 x y v u Q I2 rx ry q) hm
/-- a reading of a value as a test -/
def tTest (t : TE) : TT := fun σ H Q => t σ H fun x H' => ∃ k, x = .bl k ∧ Q k H'
theorem pt_cmpR {op : CmpOp} {r : R2} (ho : OpR X (compareOp op) r) (ha : PE X a ta) (hb : PE X b tb) (hm : behindInMarks op b = false) : PT X (.Compare a [op] [b] pos) (tTest (tOp r ta tb)) := by
  intro pins s σ H Q I h
  refine wpAny_isTrue_Compare1 (thn (ha pins s σ H _ I h) fun v s1 ⟨x, H1, I1, r1, q1⟩ => thn (hb pins s1 σ H1 _ I1 q1) fun u s2 ⟨y, H2, I2, r2, q2⟩ =>
    thn (ho pins s2 σ H2 x y v u _ I2 r1 r2 q2) fun c s3 ⟨z, H3, I3, r3, k, e, q3⟩ => ?_) hm
  subst e
  cases r3
  exact wpAny_truthy_bool ⟨H3, I3, q3⟩
/-- a op1 b op2 c -/
def tChain (r r' : R2) (ta tb tc : TE) : TE := fun σ H Q => ta σ H fun x H1 => tb σ H1 fun y H2 => r x y H2 fun z H3 => ∃ k, z = .bl k ∧
  (if k = true then tc σ H3 fun w' H4 => r' y w' H4 Q else Q (.bl false) H3)
theorem pe_chain {op op' : CmpOp} {r r' : R2} (ho : OpR X (compareOp op) r) (ho' : OpR X (compareOp op') r') (ha : PE X a ta) (hb : PE X b tb) (hc : PE X c tc)
    (hm : lastMarks [op, op'] [b, c] = false := by with_unfolding_all rfl) : PE X (.Compare a [op, op'] [b, c] pos) (tChain r r' ta tb tc) := by
  intro pins s σ H Q I h
  refine Compare_chain (thn (ha pins s σ H _ I h) fun v s1 ⟨x, H1, I1, r1, q1⟩ => chain_link (thn (hb pins s1 σ H1 _ I1 q1) fun u s2 ⟨y, H2, I2, r2, q2⟩ =>
    thn (ho pins s2 σ H2 x y v u _ I2 r1 r2 q2) fun d s3 ⟨z, H3, I3, r3, k, e, q3⟩ => ?_)) hm
  subst e
  cases r3
  refine wpAny_truthy_bool ?_
  cases k with
  | false => exact ite_ff ⟨.bl false, H3, I3, rfl, q3⟩
  | true => exact ite_tt (chain_last (thn (hc pins s3 σ H3 _ I3 q3) fun w' s4 ⟨z', H4, I4, r4, q4⟩ => ho' pins s4 σ H4 y z' u w' Q I4 r2 r4 q4))
/-! ### truth -/
theorem line63 : (sizeLine : Nat) < 2 ^ 63 := by rw [sizeLine_eq]; decide
/-! ### strs and bytes -/
/-! ### scalar builtins, by CallR -/
theorem vals1 {x : V} {us : List Value} (r : Vals [x] us) : ∃ u, us = [u] ∧ RelV x u := by
  cases r with
  | cons r1 r2 => cases r2; exact ⟨_, rfl, r1⟩
theorem vals2 {x y : V} {us : List Value} (r : Vals [x, y] us) : ∃ u w', us = [u, w'] ∧ RelV x u ∧ RelV y w' := by
  cases r with
  | cons r1 r2 =>
    cases r2 with
    | cons r3 r4 => cases r4; exact ⟨_, _, rfl, r1, r3⟩
theorem call_abs : CallR X (.builtin "abs") (fun xs H Q => ∃ i, xs = [.int i] ∧ Q (.int (if i < 0 then -i else i)) H) := by
  intro pins s σ H xs us Q I r h
  obtain ⟨i, rfl, q⟩ := h
  obtain ⟨u, rfl, t, rfl⟩ := vals1 r
  exact call_abs_int fun u tk => ⟨.int (if i < 0 then -i else i), H, I.tok _, ⟨_, rfl⟩, q⟩
theorem call_int1 : CallR X (.type "int") (fun xs H Q => (∃ i, xs = [.int i] ∧ Q (.int i) H) ∨ ∃ k, xs = [.bl k] ∧ Q (.int (if k then 1 else 0)) H) := by
  intro pins s σ H xs us Q I r h
  rcases h with ⟨i, rfl, q⟩ | ⟨k, rfl, q⟩
  · obtain ⟨u, rfl, t, rfl⟩ := vals1 r
    exact call_int_int ⟨.int i, H, I, ⟨_, rfl⟩, q⟩
  · obtain ⟨u, rfl, r1⟩ := vals1 r
    cases r1
    exact call_int_bool ⟨.int (if k then 1 else 0), H, I.tok _, ⟨_, rfl⟩, q⟩
end
end L2

namespace L2
open PySem PySem.Spec PyProof.Rows

/-! ### an instance, its attributes a map -/
structure ObjM (h : Heap) (x dx C : Addr) (mA : Str → Option Value) : Prop where
  obj : h.get? x = some (PySem.W.instObj C dx)
  ns : h.Ns1 dx mA
  ne : dx ≠ x

theorem lookIn_ns {h : Heap} {dx : Addr} {mA : Str → Option Value} (n : h.Ns1 dx mA) : ∃ od, h.get? dx = some od ∧ ∀ name, PySem.W.lookIn name od = some (mA name) := by
  obtain ⟨o, es, ep, ho, hd, hk, _, hm⟩ := n
  refine ⟨o, ho, fun name => ?_⟩
  have e := hm name
  unfold nsFind findBy at e
  rw [← Array.find?_toList] at e
  unfold PySem.W.lookIn
  rw [hd]
  dsimp only
  split
  · rename_i y q
    rw [q] at e
    exact congrArg some e
  · rename_i q
    rw [q] at e
    have a : es.toList.any (·.refKey) = false := by
      rw [List.any_eq_false]
      intro y hy
      obtain ⟨z, t, hkey⟩ := hk y (Array.mem_toList_iff.mp hy)
      simp [DictEntry.refKey, hkey]
    have a' : ¬ es.toList.any (·.refKey) = true := by rw [a]; exact Bool.false_ne_true
    rw [if_neg a']
    exact congrArg some e

theorem ObjM.look {h : Heap} {x dx C : Addr} {mA : Str → Option Value} (I : ObjM h x dx C mA) : ∃ od, PySem.W.InstAt h x (PySem.W.instObj C dx) C (some od) ∧ ∀ name, PySem.W.lookIn name od = some (mA name) :=
  let ⟨od, ho, hl⟩ := lookIn_ns I.ns
  ⟨od, ⟨I.obj, rfl, rfl, ho⟩, hl⟩

section
variable {prog : Program} {w : World} {A : Around} {E : Value → Shared → Prop} {s : Shared} {K : PySem.W.Frag} {x dx C f : Addr} {mA : Str → Option Value} {name : Str} {v : Value}

end

/-! ### the attributes as a list of pairs -/
theorem RelO.some_of {v : V} {o : Option Value} (r : RelO (some v) o) : ∃ u, o = some u ∧ RelV v u := by
  cases o with
  | none => exact (show False from r).elim
  | some u => exact ⟨u, rfl, r⟩
section
variable {P : Program} {w : World} {H H' : Hp} {h h' : Heap} {a C dx : Addr} {fs fs' : List (Str × V)}
theorem ins_get (hok : HOk P w H h) (e : H a = some (.ins C dx fs)) : ∃ mA, ObjM h a dx C mA ∧ (∀ f, RelO (fs.lookup f) (mA f)) ∧ PySem.Within mA (fs.map (·.1)) ∧ fs.length ≤ 1000 ∧ H dx = some (.own a) := by
  obtain ⟨d, z, ne, ob, mA, n, r, q⟩ := (show ObjOk P w H h a (.ins C dx fs) from hok a _ e)
  exact ⟨mA, ⟨ob, n, ne⟩, r, q, z, d⟩
end

/-! ### what of the text a class must have -/
structure Cls (K : PySem.W.Frag) (C : Addr) : Prop where
  pg : PySem.W.plainGet K C Str.empty = true
  hd : PySem.W.hasDictIn K C = true
  po : PySem.W.plainOver K C = true
  sa : PySem.W.findIn K (.ref C) "__setattr__" = some (some (.builtin "object.__setattr__"))
theorem Cls.get {K : PySem.W.Frag} {C : Addr} (c : Cls K C) (f : Str) : PySem.W.plainGet K C f = true := c.pg
section
variable {X : Cx} {pins : List (Addr × Obj)} {σ : St} {H : Hp} {s : Shared} {a C dx : Addr} {fs : List (Str × V)} {f : Str} {v : V} {A : Around} {E : Value → Shared → Prop}

end

/-! ### readings and rules -/
section
variable {X : Cx} {o e value : Expr} {f : Str} {pos pos' tpos : Pos} {ta tv : TE}
end

/-! ### isinstance -/
section
variable {X : Cx} {pins : List (Addr × Obj)} {σ : St} {H : Hp} {s : Shared} {A : Around} {E : Value → Shared → Prop} {Q : Value → Shared → Prop} {c : Value} {b : Bool}
/-- the type of a value, as the fragment's deciders take it; for an instance its class -/
inductive TyOf (K : PySem.W.Frag) (H : Hp) : V → Value → Prop where
  | non : TyOf K H .non (.type "NoneType")
  | bl (x : Bool) : TyOf K H (.bl x) (.type "bool")
  | int (i : Int) : TyOf K H (.int i) (.type "int")
  | str (x : Str) : TyOf K H (.str x) (.type "str")
  | flt (x : UInt64) : TyOf K H (.flt x) (.type "float")
  | lst {a : Addr} {xs : List V} (e : H a = some (.lst xs)) : TyOf K H (.ref a) (.type "list")
  | frz {a : Addr} {o : Obj} {xs : List V} (e : H a = some (.frz o (.lst xs))) : TyOf K H (.ref a) (.type "list")
  | tup {a : Addr} {xs : List V} (e : H a = some (.tup xs)) : TyOf K H (.ref a) (.type "tuple")
  | dK {a : Addr} {kvs : List (Key × V)} (e : H a = some (.dK kvs)) : TyOf K H (.ref a) (.type "dict")
  | dT {a : Addr} {kvs : List (List Key × V)} (e : H a = some (.dT kvs)) : TyOf K H (.ref a) (.type "dict")
  | ins {a C dx : Addr} {fs : List (Str × V)} (e : H a = some (.ins C dx fs)) (cl : Cls K C) (ha : PySem.W.findIn K (.ref C) "__class__" = some (some (.builtin "object.__class__")))
      (hn : PySem.W.specialIn K (.builtin "object.__class__") "__get__" = some (some (.builtin "getset_descriptor.__get__"))) (htk : PySem.W.takesIn K (.builtin "object.__class__") = some true)
      (hm : PySem.W.mroIn K C (.type "object") = some true) : TyOf K H (.ref a) (.ref C)
/-- isinstance(x, c) for one class c, a built-in or an own one: kitOne's answer -/
theorem isinst_ok {x : V} {u t : Value} (I : Inv X pins σ H s) (rx : RelV x u) (ty : TyOf X.K H x t) (e : PySem.W.kitOne X.K t c = some b) (h : ∀ tk, Q (.bool b) { s with toks := tk }) :
    wpAny (model X.prog X.w) A (call (.builtin "isinstance") [u, c]) Q E s := by
  cases ty with
  | non => cases (show u = Value.none from rx); exact PySem.W.kia_one PySem.W.kitx_none I.kIn True.intro e (fun z => nomatch z) h
  | bl y => cases (show u = Value.bool y from rx); exact PySem.W.kia_one PySem.W.kitx_bool I.kIn True.intro e (fun z => nomatch z) h
  | int i => obtain ⟨t, q⟩ := (show ∃ t, u = Value.int i t from rx); cases q; exact PySem.W.kia_one PySem.W.kitx_int I.kIn True.intro e (fun z => nomatch z) h
  | str y => obtain ⟨t, q⟩ := (show ∃ t, u = Value.str y t from rx); cases q; exact PySem.W.kia_one PySem.W.kitx_str I.kIn True.intro e (fun z => nomatch z) h
  | flt y => obtain ⟨t, q⟩ := (show ∃ t, u = Value.float y t from rx); cases q; exact PySem.W.kia_one PySem.W.kitx_float I.kIn True.intro e (fun z => nomatch z) h
  | @lst a xs ea =>
    cases (show u = Value.ref a from rx)
    obtain ⟨_, _, n, _, h1⟩ := (show ObjOk X.prog X.w H s.heap a (.lst xs) from I.hok a _ ea)
    exact PySem.W.kia_one PySem.W.kitx_list I.kIn ⟨_, h1, rfl⟩ e (fun z => nomatch z) h
  | @frz a ob xs ea =>
    cases (show u = Value.ref a from rx)
    obtain ⟨_, _, _, n, _, h1⟩ := (show ObjOk X.prog X.w H s.heap a (.frz ob (.lst xs)) from I.hok a _ ea)
    exact PySem.W.kia_one PySem.W.kitx_list I.kIn ⟨_, h1, rfl⟩ e (fun z => nomatch z) h
  | @tup a xs ea =>
    cases (show u = Value.ref a from rx)
    obtain ⟨_, _, _, p⟩ := (show ObjOk X.prog X.w H s.heap a (.tup xs) from I.hok a _ ea)
    obtain ⟨o, h1, h2, _⟩ := p
    exact PySem.W.kia_one PySem.W.kitx_tuple I.kIn ⟨o, h1, h2⟩ e (fun z => nomatch z) h
  | @dK a kvs ea =>
    cases (show u = Value.ref a from rx)
    obtain ⟨_, _, vs, _, p⟩ := (show ObjOk X.prog X.w H s.heap a (.dK kvs) from I.hok a _ ea)
    obtain ⟨o, es, ep, h1, h2, _⟩ := p
    exact PySem.W.kia_one PySem.W.kitx_dict I.kIn ⟨o, h1, h2.1⟩ e (fun z => nomatch z) h
  | @dT a kvs ea =>
    cases (show u = Value.ref a from rx)
    obtain ⟨_, _, xs, _, o, es, ep, h1, h2, _⟩ := (show ObjOk X.prog X.w H s.heap a (.dT kvs) from I.hok a _ ea)
    exact PySem.W.kia_one PySem.W.kitx_dict I.kIn ⟨o, h1, h2.1⟩ e (fun z => nomatch z) h
  | @ins a C dx fs ea cl ha hn htk hm =>
    cases (show u = Value.ref a from rx)
    obtain ⟨mA, O, _⟩ := ins_get I.hok ea
    obtain ⟨od, J, _⟩ := O.look
    exact PySem.W.kia_one (PySem.W.kitx_own (cl.get _) cl.hd ha hn htk hm) I.kIn J e (fun z => nomatch z) h
end
end L2

namespace L2
open PySem PySem.Spec PyProof.Rows

/-! ### room -/
structure Room (k : Nat) (A : Around) : Prop where
  hd : A.handled = none
  dp : A.depth + 3 * k + 5 < recursionLimit
  un : A.units + 16 * k + 200 < cLine
  gd : A.guards = some []
theorem Room.mono {j k : Nat} {A : Around} (r : Room k A) (h : j ≤ k) : Room j A := ⟨r.hd, by have := r.dp; omega, by have := r.un; omega, r.gd⟩
theorem Room.deeper {k : Nat} {A : Around} (r : Room (k + 1) A) (env : Env) : Room k (A.deeper env) :=
  ⟨r.hd, by have := r.dp; show A.depth + 1 + 3 * k + 5 < _; omega, by have := r.un; show A.units + 3 + 16 * k + 200 < _; omega, r.gd⟩
theorem Room.depth {k : Nat} {A : Around} (r : Room k A) : A.depth < recursionLimit := by have := r.dp; omega
theorem Room.units {k : Nat} {A : Around} (r : Room k A) : A.units + 64 < cLine := by have := r.un; omega
/-! ### argument lists and displays -/
def tNil : TA := fun _ H Q => Q [] H
def tCons (ta : TE) (tr : TA) : TA := fun σ H Q => ta σ H fun x H1 => tr σ H1 fun xs H2 => Q (x :: xs) H2
section
variable {X : Cx} {e : Expr} {es : List Expr} {te : TE} {t : TA} {pos : Pos}
theorem pa_nil : PA X [] tNil := fun _ _ _ _ H Q I h => Calls.spliced_nil ⟨[], H, I, .nil, h⟩
theorem pa_cons (ha : PE X e te) (hr : PA X es t) (hs : starEach (e :: es) X.env = (false, eval e X.env) :: starEach es X.env := by rfl) : PA X (e :: es) (tCons te t) := by
  intro pos pins s σ H Q I h
  rw [hs]
  show wpAny _ _ (spliced ((false, eval e X.env) :: backTo pos (starEach es X.env))) _ _ s
  refine Calls.spliced_cons (thn (ha pins s σ H _ I h) fun u s1 ⟨x, H1, I1, r1, q1⟩ => ?_)
  exact thn (hr pos pins s1 σ H1 _ I1 q1) fun us s2 ⟨xs, H2, I2, r2, q2⟩ => ⟨x :: xs, H2, I2, .cons r1 r2, q2⟩

/-- a tuple, a list of written items -/
def tTup (t : TA) : TE := fun σ H Q => t σ H fun xs H1 => xs.length ≤ sizeLine ∧ ∀ p, H1 p = none → Q (.ref p) (upd H1 p (.tup xs))
def tLst (t : TA) : TE := fun σ H Q => t σ H fun xs H1 => xs.length ≤ sizeLine ∧ ∀ p, H1 p = none → Q (.ref p) (upd H1 p (.lst xs))
theorem pe_tup {x1} (h : PA X es t) : PE X (.Tuple es x1 pos) (tTup t) := by
  intro pins s σ H Q I hq
  refine wpAny_Tuple_spliced (thn (h pos pins s σ H _ I hq) fun us s1 ⟨xs, H1, I1, r, z, q⟩ => ⟨by rw [← r.length]; exact z, ?_⟩)
  have hf : H1 s1.heap.objs.size = none := I1.hok.fresh (Nat.le_refl _)
  refine ⟨.ref s1.heap.objs.size, upd H1 s1.heap.objs.size (.tup xs), I1.laid (t' := s1.toks) (fun b u e => Heap.get?_push_of_some _ e) (Nat.le_refl _) ?_, rfl, q _ hf⟩
  exact ⟨z, us, r, ⟨_, Heap.get?_push_size _ rfl, rfl, _, rfl⟩⟩
theorem pe_lst (h : PA X es t) : PE X (.List es pos) (tLst t) := by
  intro pins s σ H Q I hq
  refine wpAny_List_spliced (thn (h pos pins s σ H _ I hq) fun us s1 ⟨xs, H1, I1, r, z, q⟩ => ⟨by rw [← r.length]; exact z, ?_⟩)
  have hf : H1 s1.heap.objs.size = none := I1.hok.fresh (Nat.le_refl _)
  refine ⟨.ref s1.heap.objs.size, upd H1 s1.heap.objs.size (.lst xs), I1.laid (t' := s1.toks) (fun b u e => Heap.get?_push_of_some _ e) (Nat.le_refl _) ?_, rfl, q _ hf⟩
  exact ⟨z, us, 0, r, Heap.get?_push_size _ rfl⟩
end

/-! ### what a def promises -/
/-- a def's promise: the bound arguments in the parameters' order, the heap, the wanted end, the wanted exception -/
abbrev Sp := List V → Hp → VK → XK → Prop
/-- how an exception lies behind a call (file 08 gives it): the callers' frames, abstract heap and state ahead of the call, the wish, the exception, the state -/
abbrev CXT := List Env → Hp → Shared → XK → Value → Shared → Prop

/-- the state at a call -/
structure Env0 (P : Program) (w : World) (K : PySem.W.Frag) (mg : Str → Option Value) (base : Heap) (A : Around) (outer : List Env) (s : Shared) (H : Hp) : Prop where
  frames : A.frames = some outer
  mod : Mod K mg base
  bs : ∀ b o, base.get? b = some o → s.heap.get? b = some o ∧ H b = none
  bsz : base.objs.size ≤ s.heap.objs.size
  funs : s.heap.FunFrames base outer
  frf : ∀ b ∈ frs outer, H b = none
  hok : HOk P w H s.heap
  bare : AllBare s.gens
/-- a call's end -/
def CE (outer : List Env) (P : Program) (w : World) (H : Hp) (s : Shared) (Q : VK) (u : Value) (s' : Shared) : Prop :=
  ∃ v H', s'.os = s.os ∧ AllBare s'.gens ∧ Un (frs outer) [] H H' s.heap s'.heap ∧ HOk P w H' s'.heap ∧ RelV v u ∧ Q v H'
def CR (CX : CXT) (outer : List Env) (P : Program) (w : World) (H : Hp) (s : Shared) (Q : VK) (E : XK) (r : Result) (s' : Shared) : Prop :=
  match r with
  | .ok (.ret u) => CE outer P w H s Q u s'
  | .ok _ => False
  | .error e => CX outer H s E e s'
structure FnOk (P : Program) (w : World) (K : PySem.W.Frag) (mg : Str → Option Value) (base : Heap) (CX : CXT) (k : Nat) (f : Addr) (fd : FuncData) (ps : List Str) (sp : Sp) : Prop where
  len : ∀ vs H Q E, sp vs H Q E → vs.length = ps.length
  run : ∀ (A : Around) (outer : List Env) (s : Shared) (H : Hp) (args : Args) (us : List Value) (vs : List V) (Q : VK) (E : XK), Room k A → Env0 P w K mg base A outer s H → BindsTo s fd args (ps.zip us) → Vals vs us → sp vs H Q E →
    codeAny (model P w) A (.call (.ref f) args) (CR CX outer P w H s Q E) s
section
variable {X : Cx} {pins : List (Addr × Obj)} {σ : St} {H : Hp} {s s' : Shared}
/-- from a body: what a callee wants -/
theorem Inv.env0 (I : Inv X pins σ H s) : Env0 X.prog X.w X.K X.mg X.base X.A X.stack s H :=
  ⟨I.ok.frames, I.ok.mod, I.bs, Nat.le_trans I.ok.bsz I.sz, I.stack, I.stkFree, I.hok, I.bare⟩
/-- behind a call -/
theorem Inv.after {Q : VK} {u : Value} (I : Inv X pins σ H s) (h : CE X.stack X.prog X.w H s Q u s') : EP X pins σ Q u s' := by
  obtain ⟨v, H', os, bare, un, hok, r, q⟩ := h
  obtain ⟨hh, g, d, t, os'⟩ := s'
  obtain rfl : os' = s.os := os
  exact ⟨v, H', I.call (h' := hh) (g' := g) (d' := d) (t' := t) (ch := []) un hok bare (fun b z => absurd z (by simp)), r, q⟩
end

/-! ### calls -/
/-- f(..): the written arguments, then the defaults dvs; E: what is wanted of an exception -/
def tCall (sp : Sp) (dvs : List V) (E : XK) (t : TA) : TE := fun σ H Q => t σ H fun vs H1 => sp (vs ++ dvs) H1 Q E
/-- how the parameters are bound: us the positional arguments, kw the keywords' values by name, ds the defaults that fill up -/
def Binds (K : PySem.W.Frag) (fd : FuncData) (ps : List Str) (ds : List Value) : Prop :=
  ∀ (s : Shared) (us : List Value), K.In s.heap → (us ++ ds).length = ps.length → BindsTo s fd ⟨us, []⟩ (ps.zip (us ++ ds))
/-- every parameter is given -/
theorem Binds.all {K : PySem.W.Frag} {fd : FuncData} {ps : List Str} (h : ∀ us : List Value, us.length = ps.length → bindArgs fd ⟨us, []⟩ = pure (ps.zip us)) : Binds K fd ps [] := fun s us _ hl => by
  rw [List.append_nil] at hl ⊢
  exact .of_eq (h us hl)

/-- an exception of a callee reaches what this body wants of exceptions -/
def Passes (CX : CXT) (X : Cx) (E : XK) : Prop := ∀ (pins : List (Addr × Obj)) (σ : St) (H : Hp) (s : Shared) (e : Value) (s' : Shared), Inv X pins σ H s → CX X.stack H s E e s' → X.xe e s'

section
variable {X : Cx} {CX : CXT} {k : Nat} {f C : Addr} {fd : FuncData} {ps : List Str} {sp : Sp} {dvs : List V} {ds : List Value} {E : XK} {x m : Str} {p pos apos : Pos} {e o : Expr} {es : List Expr} {ta : TE} {t : TA}

/-- the callee runs -/
theorem run_fn {pins : List (Addr × Obj)} {σ : St} {H : Hp} {s : Shared} {Q : VK} {us : List Value} {vs : List V} (F : FnOk X.prog X.w X.K X.mg X.base CX k f fd ps sp) (hr : Room k X.A) (hb : Binds X.K fd ps ds) (hd : Vals dvs ds) (hx : Passes CX X E)
    (I : Inv X pins σ H s) (r : Vals vs us) (h : sp (vs ++ dvs) H Q E) : wpAny (model X.prog X.w) X.A (call (.ref f) us) (EP X pins σ Q) X.xe s := by
  have r2 : Vals (vs ++ dvs) (us ++ ds) := r.append hd
  have hl : (us ++ ds).length = ps.length := by rw [← r2.length]; exact F.len _ _ _ _ h
  refine wpAny_call (codeAny_mono (F.run X.A X.stack s H ⟨us, []⟩ (us ++ ds) (vs ++ dvs) Q E hr I.env0 (hb s us I.kIn hl) r2 h) fun r s' hq => ?_)
  cases r with
  | error e => exact hx pins σ H s e s' I hq
  | ok fl =>
    cases fl with
    | ret u => exact I.after hq
    | next => exact False.elim hq
    | brk => exact False.elim hq
    | cont => exact False.elim hq

theorem pe_call (F : FnOk X.prog X.w X.K X.mg X.base CX k f fd ps sp) (hr : Room k X.A) (hg : Gl X x) (hm : X.mg x = some (.ref f)) (hk : PySem.W.keepIn X.K (.ref f) = true) (hb : Binds X.K fd ps ds) (hd : Vals dvs ds) (hx : Passes CX X E)
    (ha : PA X (e :: es) t) (hdb : (x == ("__debug__" : Str)) = false := by decide) (he : starEach (e :: es) X.env = (false, eval e X.env) :: starEach es X.env := by rfl) (hpl : (backTo pos (starEach es X.env)).any (·.1) = false := by rfl) :
    PE X (.Call (.Name x p) (e :: es) [] pos) (tCall sp dvs E t) := by
  intro pins s σ H Q I h
  refine wpAny_Call_Name_kw (ld_glob I hg hm ?_ hdb)
  refine PySem.W.callWith_K (h₀ := X.base) I.ok.mod.kin hk (thn (ha pos pins s σ H _ I h) fun us s1 ⟨vs, H1, I1, r, q⟩ => ⟨I1.kIn, ?_⟩) he hpl
  exact run_fn F hr hb hd hx I1 r q
end

/-! ### keywords -/
section
variable {X : Cx} {CX : CXT} {k : Nat} {f C : Addr} {fd : FuncData} {ps ks : List Str} {sp : Sp} {E : XK} {x m : Str} {p pos apos kpos : Pos} {e o : Expr} {es : List Expr} {kws : List Keyword} {te ta : TE} {t tk : TA} {nm : Option Str}
variable {g : List Value → List Value → List Value} {gV : List V → List V → List V}
end

/-! ### a def's body keeps its promise -/
/-- names: the parameters first -/
structure FnScope (N P : List Str) (sc : Scope) : Prop where
  kind : sc.kind = .function
  co : sc.isCoroutine = false
  gen : sc.isGenerator = false
  nd : N.Nodup
  pre : N.take P.length = P
  par : ∀ x ∈ P, sc.names.lookup x = some .local ∨ sc.names.lookup x = some .cell
  nofree : ∀ y ∈ sc.names, y.2 ≠ .free

theorem bindL_out {kindOf : Str → Option NameKind} {x : Str} : ∀ {binds : List (Str × Value)} {m : Str → Option Value}, (∀ v, (x, v) ∉ binds) → bindL kindOf binds m x = m x
  | [], _, _ => rfl
  | (n, v) :: r, m, h => by
    unfold bindL
    rw [bindL_out fun w hw => h w (List.mem_cons_of_mem _ hw)]
    split
    · have : x ≠ n := by rintro rfl; exact h v List.mem_cons_self
      simp [this]
    · rfl
theorem bindC_out {kindOf : Str → Option NameKind} {x : Str} : ∀ {binds : List (Str × Value)} {m : Str → Option Value}, (∀ v, (x, v) ∉ binds) → bindC kindOf binds m x = m x
  | [], _, _ => rfl
  | (n, v) :: r, m, h => by
    unfold bindC
    rw [bindC_out fun w hw => h w (List.mem_cons_of_mem _ hw)]
    split
    · rfl
    · have : x ≠ n := by rintro rfl; exact h v List.mem_cons_self
      simp [this]
theorem bindL_get {kindOf : Str → Option NameKind} {x : Str} {v : Value} : ∀ {P : List Str} {vs : List Value} {i : Nat} {m : Str → Option Value}, P.Nodup → P[i]? = some x → vs[i]? = some v → kindOf x = some .local →
    bindL kindOf (P.zip vs) m x = some v
  | [], _, _, _, _, h, _, _ => by simp at h
  | _ :: _, [], _, _, _, _, h, _ => by simp at h
  | p :: P, w :: vs, 0, m, nd, h1, h2, hk => by
    simp at h1 h2; subst h1; subst h2
    show bindL kindOf ((p, w) :: P.zip vs) m p = _
    unfold bindL
    rw [bindL_out fun v hv => (List.nodup_cons.mp nd).1 (List.of_mem_zip hv).1, if_pos hk]
    simp
  | p :: P, w :: vs, i + 1, m, nd, h1, h2, hk => by
    show bindL kindOf ((p, w) :: P.zip vs) m x = _
    unfold bindL
    exact bindL_get (i := i) (List.nodup_cons.mp nd).2 (by simpa using h1) (by simpa using h2) hk
theorem bindC_get {kindOf : Str → Option NameKind} {x : Str} {v : Value} : ∀ {P : List Str} {vs : List Value} {i : Nat} {m : Str → Option Value}, P.Nodup → P[i]? = some x → vs[i]? = some v → kindOf x ≠ some .local →
    bindC kindOf (P.zip vs) m x = some v
  | [], _, _, _, _, h, _, _ => by simp at h
  | _ :: _, [], _, _, _, _, h, _ => by simp at h
  | p :: P, w :: vs, 0, m, nd, h1, h2, hk => by
    simp at h1 h2; subst h1; subst h2
    show bindC kindOf ((p, w) :: P.zip vs) m p = _
    unfold bindC
    rw [bindC_out fun v hv => (List.nodup_cons.mp nd).1 (List.of_mem_zip hv).1, if_neg hk]
    simp
  | p :: P, w :: vs, i + 1, m, nd, h1, h2, hk => by
    show bindC kindOf ((p, w) :: P.zip vs) m x = _
    unfold bindC
    exact bindC_get (i := i) (List.nodup_cons.mp nd).2 (by simpa using h1) (by simpa using h2) hk

/-- the names' values at the entry -/
def start (N : List Str) (vs : List V) : St := vs.map some ++ List.replicate (N.length - vs.length) none

/-- the context of a def's body, at its entry; an exception leaves the frame, then lies as CX says -/
def cxOf (CX : CXT) (P : Program) (w : World) (K : PySem.W.Frag) (mg : Str → Option Value) (base : Heap) (N : List Str) (qual : Str) (scope : Scope) (f : Addr) (cd : Value) (A : Around) (outer : List Env) (s : Shared) (H : Hp) (E : XK) : Cx where
  prog := P
  w := w
  K := K
  mg := mg
  base := base
  A := A.deeper (envOfC qual scope s.heap.objs.size f cd)
  N := N
  s₀ := s
  H₀ := H
  env := envOfC qual scope s.heap.objs.size f cd
  outer := outer
  stack := envOfC qual scope s.heap.objs.size f cd :: outer
  ex := []
  calm := true
  fn := fun _ => true
  pn := []
  xe := fun e s' => wpAny (model P w) (A.deeper (envOfC qual scope s.heap.objs.size f cd)) (leaving (envOfC qual scope s.heap.objs.size f cd) e) (fun _ s'' => CX outer H s E e s'') (fun e' s'' => CX outer H s E e' s'') s'

theorem cell_has {sc : Scope} {n : Nat} {x : Str} (h : sc.names.lookup x = some .cell) : ∃ c, (cellsFrom n sc.names []).lookup x = some c := by
  have q := PySem.W.cellsFrom_some sc.names n [] (.inl h)
  exact Option.isSome_iff_exists.mp q

theorem inv_start {CX : CXT} {P : Program} {w : World} {K : PySem.W.Frag} {mg : Str → Option Value} {base : Heap} {N ps : List Str} {qual : Str} {scope : Scope} {f : Addr} {cd : Value} {A : Around} {outer : List Env} {s s1 : Shared} {H : Hp} {E : XK} {us : List Value} {vs : List V}
    (S : FnScope N ps scope) (hd : A.handled = none) (e0 : Env0 P w K mg base A outer s H) (hl : vs.length = ps.length) (r : Vals vs us)
    (x : InCallC s s.heap.objs.size (bindL (envOfC qual scope s.heap.objs.size f cd).kindOf (ps.zip us) fun _ => none) (cellsFrom (s.heap.objs.size + 1) scope.names []) (bindC (envOfC qual scope s.heap.objs.size f cd).kindOf (ps.zip us) fun _ => none) s1) :
    Inv (cxOf CX P w K mg base N qual scope f cd A outer s H E) [] (start N vs) H s1 := by
  have hpl : ps.length ≤ N.length := by have := congrArg List.length S.pre; rw [List.length_take] at this; omega
  obtain ⟨h1, tk, rfl, hk⟩ := x.done
  have noA : ∀ b : Addr, b ∉ (cxOf CX P w K mg base N qual scope f cd A outer s H E).ex := fun b z => absurd (show b ∈ ([] : List Addr) from z) (by simp)
  refine ⟨⟨e0.mod, S.kind, rfl, rfl, Nat.le_refl _, fun y z c h1 h2 => ?_, fun y hy => ?_, fun y c _ h => ?_, fun _ => hd, Around.frames_deeper e0.frames, .inr ⟨rfl, rfl⟩, fun b z => absurd z (noA b), e0.bs, e0.bsz, fun b _ _ => noA b, fun b z => absurd z (noA b), e0.funs, e0.frf⟩,
    rfl, e0.bare, Un.kept hk, ⟨_, x.toInCall.ns, fun i y v h1 h2 h3 => ?_⟩, fun y c h => ⟨_, x.cell y c h⟩, e0.hok.fresh (Nat.le_refl _), fun y c h => ?_, fun p hp => absurd (show p ∈ ([] : List (Addr × Obj)) from hp) (by simp), e0.hok.kept hk, ?_⟩
  · exact name_of_addr x.apart (PySem.mem_of_lookup h1) (PySem.mem_of_lookup h2)
  · have hy : scope.names.lookup y = some .cell ∨ scope.names.lookup y = some .free := hy
    rcases hy with hy | hy
    · exact cell_has hy
    · exact absurd rfl (S.nofree _ (PySem.mem_of_lookup hy))
  · exact Nat.le_of_lt (x.above y c (PySem.mem_of_lookup h))
  · have hi : i < vs.length := by
      unfold start at h2
      by_cases hi : i < vs.length
      · exact hi
      · rw [List.getElem?_append_right (by simpa using hi)] at h2
        rw [List.getElem?_replicate] at h2
        split at h2 <;> cases h2
    have ha : vs[i]? = some v := by
      unfold start at h2
      rw [List.getElem?_append_left (by simpa using hi), List.getElem?_map] at h2
      cases e : vs[i]? with
      | none => rw [e] at h2; cases h2
      | some a => rw [e] at h2; cases h2; rfl
    obtain ⟨u, hu, rv⟩ := r.get ha
    have hp : ps[i]? = some y := by
      rw [← S.pre, List.getElem?_take_of_lt (by omega)]; exact h1
    have ndP : ps.Nodup := by rw [← S.pre]; exact S.nd.sublist (List.take_sublist _ _)
    refine ⟨u, rv, ?_⟩
    rcases S.par y (List.mem_of_getElem? hp) with k | k
    · exact .inl ⟨k, bindL_get ndP hp hu k⟩
    · obtain ⟨c, e⟩ := cell_has (n := s.heap.objs.size + 1) k
      refine .inr ⟨.inl k, c, e, ?_⟩
      have q := x.cell y c e
      rw [bindC_get ndP hp hu (by show scope.names.lookup y ≠ _; rw [k]; decide)] at q
      exact q
  · exact e0.hok.fresh (Nat.le_of_lt (x.above y c (PySem.mem_of_lookup h)))
  · unfold start
    show _ = N.length
    rw [List.length_append, List.length_map, List.length_replicate]
    omega

/-- THE RULE: a def (or a method) of the text, by its body. The body's reading t is chosen for each entry; it is run at the parameters' values -/
theorem fn_of {CX : CXT} {P : Program} {w : World} {K : PySem.W.Frag} {mg : Str → Option Value} {base : Heap} {k : Nat} {f : Addr} {name qual : Str} {params : Arguments} {body : List Stmt} {scope : Scope} {dV kV doc pm cdv ct oc : Value} {an od : Option Addr}
    {osl : Array (Option Value)} {N ps : List Str} {sp : Sp} (lk : K.lookup f = some ⟨oc, od, .func (PySem.W.fnOf name qual params body scope dV kV doc pm an cdv ct), osl⟩) (hcd : PySem.W.codeIn K cdv qual = true) (S : FnScope N ps scope)
    (len : ∀ vs H Q E, sp vs H Q E → vs.length = ps.length)
    (hbody : ∀ (A : Around) (outer : List Env) (s : Shared) (H : Hp) (vs : List V) (Q : VK) (E : XK), Room k (A.deeper (envOfC qual scope s.heap.objs.size f cdv)) → sp vs H Q E →
      ∃ t, PSs (cxOf CX P w K mg base N qual scope f cdv A outer s H E) body t ∧ t { nx := fun _ H' => Q .non H', rt := Q } (start N vs) H) :
    FnOk P w K mg base CX (k + 1) f (PySem.W.fnOf name qual params body scope dV kV doc pm an cdv ct) ps sp := by
  refine ⟨len, fun A outer s H args us vs Q E hr e0 hb r hsp => ?_⟩
  have hl := len _ _ _ _ hsp
  have KX : K.In s.heap := e0.mod.kin.keeps fun b o e => (e0.bs b o e).1
  have lim : s.heap.NoLimit := e0.mod.nolimit.keeps fun b o e => (e0.bs b o e).1
  have hkind : ∀ y ∈ ps.zip us, scope.names.lookup y.1 = some .local ∨ (scope.names.lookup y.1 = some .cell ∧ ((cellsFrom (s.heap.objs.size + 1) scope.names []).lookup y.1).isSome = true) := fun ⟨n, v⟩ hy => by
    rcases S.par n (List.of_mem_zip hy).1 with q | q
    · exact .inl q
    · exact .inr ⟨q, PySem.W.cellsFrom_some _ _ _ (.inl q)⟩
  refine codeAny_call_function hr.depth (KX _ _ lk) rfl S.co S.gen rfl (PySem.W.codeRec_of KX hcd) (hb _ _ _ _ ?_)
  refine wpAny_newFunctionEnv_cells S.kind hkind fun env he s1 x => ?_
  subst he
  refine ⟨lim.keeps x.toInCall.keep, codeAny_func ?_⟩
  obtain ⟨t, ht, hq⟩ := hbody A outer s H vs Q E (hr.deeper _) hsp
  have I : Inv (cxOf CX P w K mg base N qual scope f cdv A outer s H E) [] (start N vs) H s1 := inv_start S hr.hd e0 hl r x
  refine wpAny_mono (ht [] s1 (start N vs) H _ I hq) (fun fl s' hs => ?_) fun e s' hs => hs
  have fin : ∀ {σ' : St} {H' : Hp} {v : V} {u : Value}, Inv (cxOf CX P w K mg base N qual scope f cdv A outer s H E) [] σ' H' s' → RelV v u → Q v H' → CE outer P w H s Q u s' :=
    fun {σ' H' v u} J rv q => ⟨v, H', J.os, J.bare, J.base, J.hok, rv, q⟩
  cases fl with
  | ret u =>
    obtain ⟨v, σ', H', J, rv, q⟩ := hs
    exact fin J rv q
  | next =>
    obtain ⟨σ', H', J, q⟩ := hs
    exact fin (v := V.non) (u := Value.none) J rfl q
  | brk =>
    obtain ⟨_, _, _, q⟩ := hs
    exact False.elim q
  | cont =>
    obtain ⟨_, _, _, q⟩ := hs
    exact False.elim q
end L2

namespace L2
open PySem PySem.Spec PyProof.Rows
section
variable {X : Cx} {x : Str} {p pos : Pos} {e : Expr} {es : List Expr} {t : TA} {id T : String} {r : List V → Hp → VK → Prop}

def tCB (r : List V → Hp → VK → Prop) (t : TA) : TE := fun σ H Q => t σ H fun vs H1 => r vs H1 Q
/-- f(e, ..), f a built-in function -/
theorem pe_callB (hc : CallR X (.builtin id) r) (hg : Gl X x) (hm : X.mg x = none) (hv : bootBuiltins x = some (.builtin id)) (ha : PA X (e :: es) t) (hn : x ≠ "__name__" := by decide) (hdb : (x == ("__debug__" : Str)) = false := by decide)
    (he : starEach (e :: es) X.env = (false, eval e X.env) :: starEach es X.env := by rfl) (hpl : (backTo pos (starEach es X.env)).any (·.1) = false := by rfl) : PE X (.Call (.Name x p) (e :: es) [] pos) (tCB r t) := by
  intro pins s σ H Q I h
  refine wpAny_Call_Name_kw (ld_blt I hg hm hv ?_ hn hdb)
  exact PyProof.Rows.callWith_builtin1 (thn (ha pos pins s σ H _ I h) fun us s1 ⟨vs, H1, I1, r1, q1⟩ => hc pins s1 σ H1 vs us Q I1 r1 q1) he hpl
/-- T(e, ..), T a built-in type -/
theorem pe_callTy (hc : CallR X (.type T) r) (hg : Gl X x) (hm : X.mg x = none) (hv : bootBuiltins x = some (.type T)) (ha : PA X (e :: es) t) (hn : x ≠ "__name__" := by decide) (hdb : (x == ("__debug__" : Str)) = false := by decide)
    (he : starEach (e :: es) X.env = (false, eval e X.env) :: starEach es X.env := by rfl) (hpl : (backTo pos (starEach es X.env)).any (·.1) = false := by rfl) : PE X (.Call (.Name x p) (e :: es) [] pos) (tCB r t) := by
  intro pins s σ H Q I h
  refine wpAny_Call_Name_kw (ld_blt I hg hm hv ?_ hn hdb)
  exact PyProof.Rows.callWith_type1 (thn (ha pos pins s σ H _ I h) fun us s1 ⟨vs, H1, I1, r1, q1⟩ => hc pins s1 σ H1 vs us Q I1 r1 q1) he hpl
end
end L2

namespace HT
open PySem PyProof.Rows

section
open PySem.SeqAt
open PySem.AutoSeq1 (wpAny_loadPart')
open PySem.MeetsSeq PySem.MeetsSeq2 PySem.MeetsSeq3

end

section
variable {prog : Program} {w : World} {A : Around} {E : Value → Shared → Prop} {s : Shared}

/-! ### t[a:b], not the whole -/
/-- a slice's bound as a place among n (d where it is left out) -/
def sIx (n d : Nat) : Option Int → Nat
  | none => d
  | some v => if v < 0 then (v + (n : Int)).toNat else min v.toNat n
theorem sIx_nat (n d k : Nat) : sIx n d (some (k : Int)) = min k n := by
  show (if (k : Int) < 0 then ((k : Int) + (n : Int)).toNat else min (k : Int).toNat n) = min k n
  rw [if_neg (by omega), Int.toNat_natCast]
end
end HT

namespace L2
open PySem PySem.Spec PyProof.Rows

/-! ### the parts of a slice -/
abbrev TO := St → Hp → (Option Int → Hp → Prop) → Prop
/-- a slice's part (left out, or an int) -/
def PO (X : Cx) (e : Option Expr) (t : TO) : Prop :=
  ∀ (pins : List (Addr × Obj)) (s : Shared) (σ : St) (H : Hp) (Q : Option Int → Hp → Prop), Inv X pins σ H s → t σ H Q →
    wpAny (model X.prog X.w) X.A (evalPart e X.env) (fun u s' => ∃ o H', Inv X pins σ H' s' ∧ IsPart u o ∧ Q o H') X.xe s
def tNoPart : TO := fun _ H Q => Q none H
def tPart (t : TE) : TO := fun σ H Q => t σ H fun x H1 => ∃ i, x = .int i ∧ Q (some i) H1

theorem intsAre_of {ns : List Int} : ∀ {us : List Value}, Vals (ns.map V.int) us → IntsAre us ns := by
  induction ns with
  | nil => intro us r; rw [List.map_nil] at r; cases r; exact .nil
  | cons n ns ih =>
    intro us r
    rw [List.map_cons] at r
    cases r with
    | cons r1 r2 =>
      obtain ⟨t, e⟩ := r1
      subst e
      exact .cons n t (ih r2)

section
variable {X : Cx} {e : Expr} {te : TE} {lo hi : Option Expr} {tl th : TO} {pos p2 : Pos}

theorem po_none : PO X none tNoPart := by
  intro pins s σ H Q I h
  rw [evalPart_none]
  exact wpAny_pure ⟨none, H, I, .none, h⟩
theorem po_some (h : PE X e te) : PO X (some e) (tPart te) := by
  intro pins s σ H Q I hw
  rw [evalPart_some]
  refine thn (h pins s σ H _ I hw) fun u s1 ⟨x, H1, I1, r1, q1⟩ => ?_
  obtain ⟨i, rfl, q⟩ := q1
  obtain ⟨t, rfl⟩ := r1
  exact ⟨some i, H1, I1, .int i t, q⟩

/-- what a slice of a value is, by values: the slice object stands at sl -/
def SlR (X : Cx) (r : V → Option Int → Option Int → Hp → VK → Prop) : Prop :=
  ∀ (pins : List (Addr × Obj)) (s : Shared) (σ : St) (H : Hp) (x : V) (v vl vu : Value) (lo hi : Option Int) (sl : Addr) (Q : VK), Inv X pins σ H s → RelV x v → s.heap.IsSliceOf sl vl vu .none → IsPart vl lo → IsPart vu hi → r x lo hi H Q →
    ∃ T id, typeLookup (.type T) "__getitem__" = pure (some (.builtin id)) ∧ s.TypeIs v T ∧ wpAny (model X.prog X.w) X.A (getItem v (.ref sl)) (EP X pins σ Q) X.xe s
def tSl (r : V → Option Int → Option Int → Hp → VK → Prop) (te : TE) (tl th : TO) : TE := fun σ H Q => te σ H fun x H1 => tl σ H1 fun l H2 => th σ H2 fun u H3 => r x l u H3 Q
/-- a[lo:hi], any a -/
theorem pe_slice {r : V → Option Int → Option Int → Hp → VK → Prop} (hr : SlR X r) (he : PE X e te) (hl : PO X lo tl) (hu : PO X hi th) : PE X (.Subscript e (.Slice lo hi none p2) pos) (tSl r te tl th) := by
  intro pins s σ H Q I h
  refine Subscript_ (thn (he pins s σ H _ I h) fun v s1 ⟨x, H1, I1, r1, q1⟩ => ?_)
  refine wpAny_Slice (thn (hl pins s1 σ H1 _ I1 q1) fun vl s2 ⟨l, H2, I2, pl, q2⟩ => thn (hu pins s2 σ H2 _ I2 q2) fun vu s3 ⟨u, H3, I3, pu, q3⟩ => ?_)
  rw [evalPart_none]
  refine wpAny_pure ?_
  have I4 : Inv X pins σ H3 { s3 with heap := s3.heap.push { cls := .type "slice", data := .fields #[vl, vu, .none] } } := I3.kept (t' := s3.toks) fun b ob q => Heap.get?_push_of_some _ q
  obtain ⟨T, id, hT, ht, hg⟩ := hr pins { s3 with heap := s3.heap.push { cls := .type "slice", data := .fields #[vl, vu, .none] } } σ H3 x v vl vu l u s3.heap.objs.size Q I4 r1 (Heap.IsSliceOf.new ..) pl pu q3
  show wpAny (model X.prog X.w) X.A (subscriptTail e (.Slice lo hi none p2) v (.ref s3.heap.objs.size)) (EP X pins σ Q) X.xe { s3 with heap := s3.heap.push { cls := .type "slice", data := .fields #[vl, vu, .none] } }
  exact tail_any (ops := [.ref s3.heap.objs.size, v]) ht hT hg (by with_unfolding_all rfl)

/-- the items of xs[lo:hi] -/
def cutV (xs : List V) (lo hi : Option Int) : List V := (xs.drop (HT.sIx xs.length 0 lo)).take (HT.sIx xs.length xs.length hi - HT.sIx xs.length 0 lo)
theorem cutV_length (xs : List V) (lo hi : Option Int) : (cutV xs lo hi).length ≤ xs.length := by
  unfold cutV
  rw [List.length_take, List.length_drop]
  omega
/-! ### t < u, t + u -/
end
end L2

namespace L2
open PySem PySem.Spec PyProof.Rows

/-! ### places -/
/-- the place that an index of any sign means -/
def ixN (n : Nat) (i : Int) : Option Nat := if 0 ≤ i then (if i < n then some i.toNat else none) else if -(n : Int) ≤ i then some (i + n).toNat else none
def atI {α : Type} (xs : List α) (i : Int) : Option α := (ixN xs.length i).bind fun j => xs[j]?
theorem ixN_seq {n : Nat} {i : Int} {j : Nat} (h : ixN n i = some j) : seqIndex? i n = some j ∧ j < n ∧ -(n : Int) ≤ i ∧ i < n := by
  unfold ixN at h
  by_cases h0 : 0 ≤ i
  · rw [if_pos h0] at h
    by_cases h1 : i < n
    · rw [if_pos h1] at h
      have e : i.toNat = j := Option.some.inj h
      exact ⟨by rw [seqIndex_of h0 h1, e], by omega, by omega, h1⟩
    · rw [if_neg h1] at h; cases h
  · rw [if_neg h0] at h
    by_cases h1 : -(n : Int) ≤ i
    · rw [if_pos h1] at h
      have e : (i + n).toNat = j := Option.some.inj h
      exact ⟨by rw [seqIndex_neg (by omega) h1, e], by omega, h1, by omega⟩
    · rw [if_neg h1] at h; cases h
theorem atI_get {α : Type} {xs : List α} {i : Int} {v : α} (h : atI xs i = some v) : ∃ j, seqIndex? i xs.length = some j ∧ xs[j]? = some v ∧ j < xs.length ∧ -(xs.length : Int) ≤ i ∧ i < xs.length := by
  unfold atI at h
  cases e : ixN xs.length i with
  | none => rw [e] at h; cases h
  | some j =>
    rw [e] at h
    obtain ⟨h1, h2, h3, h4⟩ := ixN_seq e
    exact ⟨j, h1, h, h2, h3, h4⟩
theorem atI_nat {α : Type} {xs : List α} {j : Nat} {v : α} (h : xs[j]? = some v) : atI xs (j : Int) = some v := by
  have hj : j < xs.length := (List.getElem?_eq_some_iff.mp h).1
  have e : ixN xs.length (j : Int) = some j := by
    unfold ixN
    rw [if_pos (by omega), if_pos (by omega)]; simp
  unfold atI; rw [e]; exact h
/-! ### what may be subscripted -/
/-- what stands as an index of a plain subscript -/
def PlainIx (b : Expr) : Prop := ∀ o i, subscripted b false o i = operate [o, i] (getItem o i)
/-- a subscript by values -/
def IxR (X : Cx) (r : R2) : Prop :=
  ∀ (value slice : Expr) (pins : List (Addr × Obj)) (s : Shared) (σ : St) (H : Hp) (x y : V) (v u : Value) (Q : VK), Inv X pins σ H s → RelV x v → RelV y u → r x y H Q →
    subscripted slice false v u = operate [v, u] (getItem v u) → wpAny (model X.prog X.w) X.A (subscriptTail value slice v u) (EP X pins σ Q) X.xe s
/-- a call of a builtin's method by values: the receiver, the arguments -/
def MtR (X : Cx) (id : String) (r : V → List V → Hp → VK → Prop) : Prop :=
  ∀ (pins : List (Addr × Obj)) (s : Shared) (σ : St) (H : Hp) (x : V) (xs : List V) (v : Value) (us : List Value) (Q : VK), Inv X pins σ H s → RelV x v → Vals xs us → r x xs H Q →
    wpAny (model X.prog X.w) X.A (call (.builtin id) (v :: us)) (EP X pins σ Q) X.xe s
section
variable {X : Cx} {a b : Expr} {ta tb : TE} {pos : Pos}
/-- a[b] -/
theorem pe_ix {r : R2} (hr : IxR X r) (ha : PE X a ta) (hb : PE X b tb) (hs : PlainIx b) : PE X (.Subscript a b pos) (tOp r ta tb) := by
  intro pins s σ H Q I h
  exact Subscript_ (binT ha hb I h fun v u s2 x y H2 I2 rx ry q => hr a b pins s2 σ H2 x y v u Q I2 rx ry q (hs _ _))

def rIxL (K : PySem.W.Frag) : R2 := fun x y H Q => ∃ p xs i v, x = .ref p ∧ y = .int i ∧ SqL K H p xs ∧ atI xs i = some v ∧ Q v H
def rIxT (K : PySem.W.Frag) : R2 := fun x y H Q => ∃ p xs i v, x = .ref p ∧ y = .int i ∧ SqT K H p xs ∧ atI xs i = some v ∧ Q v H
theorem ix_list : IxR X (rIxL X.K) := by
  intro value slice pins s σ H x y v u Q I rx ry h hs
  obtain ⟨p, xs, i, z, rfl, rfl, hq, he, q⟩ := h
  cases rx
  obtain ⟨t, rfl⟩ := ry
  obtain ⟨its, r, pl, hz⟩ := I.list hq
  obtain ⟨j, h1, h2, h3, h4, h5⟩ := atI_get he
  obtain ⟨w, ew, rw'⟩ := r.get h2
  have hl := r.length
  have hn := line63
  have fin : EP X pins σ Q w s := ⟨z, H, I, rw', q⟩
  by_cases h0 : 0 ≤ i
  · have hj : i.toNat = j := by
      rw [seqIndex_of h0 h5] at h1
      exact Option.some.inj h1
    exact item_listR pl.isList h0 (by omega) (by rw [hj]; simpa using ew) fin hs
  · have hj : (i + (its.toArray.size : Int)).toNat = j := by
      rw [seqIndex_neg (by omega) h4] at h1
      rw [List.size_toArray, ← hl]
      exact Option.some.inj h1
    exact subscriptTail_builtinR (x := w) pl.isList.typeIs slot_list_getitem.lookup
      (wpAny_getItem_list_neg (Q := fun r s' => r = w ∧ EP X pins σ Q r s') pl.isList (by omega) (by rw [List.size_toArray] <;> omega) (by omega) (by rw [hj]; simpa using ew) ⟨rfl, fin⟩) hs
theorem ix_tup : IxR X (rIxT X.K) := by
  intro value slice pins s σ H x y v u Q I rx ry h hs
  obtain ⟨p, xs, i, z, rfl, rfl, hq, he, q⟩ := h
  cases rx
  obtain ⟨t, rfl⟩ := ry
  obtain ⟨its, r, pl, hz⟩ := I.tuple hq
  obtain ⟨j, h1, h2, h3, h4, h5⟩ := atI_get he
  obtain ⟨w, ew, rw'⟩ := r.get h2
  have hl := r.length
  have hn := line63
  have fin : EP X pins σ Q w s := ⟨z, H, I, rw', q⟩
  exact subscriptTail_builtinR (x := w) pl.typeIs slot_tuple_getitem.lookup
    (getItem_tuple (j := j) (Q := fun r s' => r = w ∧ EP X pins σ Q r s') pl (by omega) (by omega) (by rw [List.size_toArray, ← hl]; exact h1) (by simpa using ew) ⟨rfl, fin⟩) hs
/-! ### xs[i] = v, any sign -/
/-- the list's object behind a store -/
theorem mapSeq_set (its : List Value) (n j : Nat) (u : Value) : Obj.mapSeq (·.setIfInBounds j u) { cls := .type "list", data := .seq its.toArray n } = { cls := .type "list", data := .seq (its.set j u).toArray n } := by
  simp [Obj.mapSeq]
theorem Inv.lst {pins : List (Addr × Obj)} {σ : St} {H : Hp} {s : Shared} {p : Addr} {xs : List V} (I : Inv X pins σ H s) (h : H p = some (.lst xs)) :
    ∃ (its : List Value) (n : Nat), Vals xs its ∧ s.heap.get? p = some { cls := .type "list", data := .seq its.toArray n } ∧ xs.length ≤ sizeLine := by
  obtain ⟨z, its, n, r, e⟩ := I.hok p _ h
  exact ⟨its, n, r, e, z⟩
/-- the list at p is written by an update of its object -/
theorem Inv.lstUpd {pins : List (Addr × Obj)} {σ : St} {H : Hp} {s : Shared} {p : Addr} {xs ys : List V} {its its' : List Value} {n n' : Nat} {f : Obj → Obj} (I : Inv X pins σ H s) (h : H p = some (.lst xs))
    (ho : s.heap.get? p = some { cls := .type "list", data := .seq its.toArray n }) (hf : f { cls := .type "list", data := .seq its.toArray n } = { cls := .type "list", data := .seq its'.toArray n' }) (r : Vals ys its') (hz : ys.length ≤ sizeLine) (t : Nat) :
    Inv X pins σ (upd H p (.lst ys)) { s with heap := s.heap.update p f, toks := t } := by
  have e : (s.heap.update p f).get? p = some { cls := .type "list", data := .seq its'.toArray n' } := by
    rw [Heap.get?_update_self f ho (by rw [hf] <;> rfl), hf]
  refine I.write (x := p) (e := p) (by rw [h]; trivial) (.inl rfl) (fun b u hb q => (Heap.get?_update_other _ _ (Ne.symm hb)).trans q) ⟨_, e⟩ ?_
  exact ⟨hz, its', n', r, e⟩
def rSetL : V → V → V → Hp → (Hp → Prop) → Prop := fun o i v H Q => ∃ p xs k j, o = .ref p ∧ i = .int k ∧ H p = some (.lst xs) ∧ ixN xs.length k = some j ∧ Q (upd H p (.lst (xs.set j v)))
theorem set_list : PSet X rSetL := by
  intro pins s σ H o i v ov iv u Q I ro ri rv h
  obtain ⟨p, xs, k, j, rfl, rfl, hp, hj, q⟩ := h
  cases ro
  obtain ⟨t, rfl⟩ := ri
  obtain ⟨its, n, r, ho, hz⟩ := I.lst hp
  obtain ⟨h1, h2, h3, h4⟩ := ixN_seq hj
  have hl := r.length
  have hn := line63
  have I' : Inv X pins σ (upd H p (.lst (xs.set j v))) { s with heap := s.heap.update p (Obj.mapSeq (·.setIfInBounds j u)) } :=
    I.lstUpd hp ho (mapSeq_set its n j u) (r.set rv j) (by rw [List.length_set]; exact hz) s.toks
  by_cases h0 : 0 ≤ k
  · have hk : k.toNat = j := by
      rw [seqIndex_of h0 h4] at h1
      exact Option.some.inj h1
    exact PySem.W.ki_setAt ho h0 (by omega) (by rw [List.size_toArray, ← hl]; exact h4) (by rw [hk]; exact ⟨_, I', q⟩)
  · have hk : (k + (its.toArray.size : Int)).toNat = j := by
      rw [seqIndex_neg (by omega) h3] at h1
      rw [List.size_toArray, ← hl]
      exact Option.some.inj h1
    exact PySem.W.ki_setBack ho (by omega) (by rw [List.size_toArray, ← hl]; exact h3) (by omega) (by rw [hk]; exact ⟨_, I', q⟩)

/-! ### slices -/
theorem slice_bounds (lo hi : Option Int) (n : Nat) : (sliceBounds lo hi none n).1 = ((HT.sIx n 0 lo : Nat) : Int) ∧ (sliceBounds lo hi none n).2.1 = ((HT.sIx n n hi : Nat) : Int) ∧ (sliceBounds lo hi none n).2.2 = 1 := by
  refine ⟨?_, ?_, rfl⟩
  · cases lo with
    | none => simp [sliceBounds, HT.sIx]
    | some i =>
      simp only [sliceBounds, HT.sIx, Option.getD_none, show (1 : Int) > 0 by decide, if_true]
      by_cases h : i < 0
      · simp only [h, if_true] <;> omega
      · simp only [h, if_false] <;> omega
  · cases hi with
    | none => simp [sliceBounds, HT.sIx]
    | some i =>
      simp only [sliceBounds, HT.sIx, Option.getD_none, show (1 : Int) > 0 by decide, if_true]
      by_cases h : i < 0
      · simp only [h, if_true] <;> omega
      · simp only [h, if_false] <;> omega
theorem slicePick_cut (its : List Value) (lo hi : Option Int) : slicePick its.toArray lo hi none = ((its.drop (HT.sIx its.length 0 lo)).take (HT.sIx its.length its.length hi - HT.sIx its.length 0 lo)).toArray := by
  obtain ⟨h1, h2, h3⟩ := slice_bounds lo hi its.toArray.size
  unfold slicePick
  rw [h1, h2, h3]
  simp only [sliceRange_one, pick_run, List.size_toArray] <;> rfl
/-- xs[lo:hi] of a list: a new list -/
def rSlL (K : PySem.W.Frag) : V → Option Int → Option Int → Hp → VK → Prop := fun x lo hi H Q => ∃ a xs, x = .ref a ∧ SqL K H a xs ∧ ∀ p, H p = none → Q (.ref p) (upd H p (.lst (cutV xs lo hi)))
theorem sl_list : SlR X (rSlL X.K) := by
  intro pins s σ H x v vl vu lo hi sl Q I rx hs pl pu h
  obtain ⟨a, xs, rfl, hx, q⟩ := h
  cases rx
  obtain ⟨its, r, ht, hz⟩ := I.list hx
  have hlen := r.length
  refine ⟨"list", _, slot_list_getitem.lookup, ht.isList.typeIs, ?_⟩
  refine wpAny_getItem_list_slice ht.isList hs pl pu .none (by simp) ?_ (by rw [List.size_toArray] <;> omega)
  rw [slicePick_cut, ← hlen]
  refine ⟨.ref s.heap.objs.size, _, I.laid (t' := s.toks) (o := .lst (cutV xs lo hi)) (fun b ob q => Heap.get?_push_of_some _ q) (Nat.le_refl _) ?_, rfl, q _ (I.hok.fresh (Nat.le_refl _))⟩
  exact ⟨Nat.le_trans (cutV_length xs lo hi) hz, _, 0, (r.drop (HT.sIx xs.length 0 lo)).take (HT.sIx xs.length xs.length hi - HT.sIx xs.length 0 lo), Heap.get?_push_size _ rfl⟩

/-! ### in, not in: flat items -/
def flatV : V → Bool
  | .non => true
  | .bl _ => true
  | .int _ => true
  | .str _ => true
  | _ => false
/-- == of flat values -/
def eqV : V → V → Bool
  | .non, .non => true
  | .bl a, .bl b => a == b
  | .bl a, .int b => (if a then 1 else 0) == b
  | .int a, .bl b => a == (if b then 1 else 0)
  | .int a, .int b => a == b
  | .str a, .str b => a == b
  | _, _ => false
theorem eqAt_V {A : Around} {s : Shared} {y x : V} {u v : Value} (ry : RelV y u) (rx : RelV x v) (fy : flatV y = true) (fx : flatV x = true) : SeqAt.EqAt A s u v (eqV y x) := by
  cases y with
  | non =>
    cases ry
    cases x with
    | non => cases rx; exact SeqAt.EqAt.same _
    | bl b => cases rx; exact SeqAt.EqAt.none_bool b
    | int b => obtain ⟨t, rfl⟩ := rx; exact SeqAt.EqAt.none_int b t
    | str b => obtain ⟨t, rfl⟩ := rx; exact SeqAt.EqAt.none_str b t
    | _ => exact absurd (show false = true from fx) Bool.false_ne_true
  | bl a =>
    cases ry
    cases x with
    | non => cases rx; exact SeqAt.EqAt.bool_none a
    | bl b => cases rx; exact SeqAt.EqAt.bool_bool a b
    | int b => obtain ⟨t, rfl⟩ := rx; exact SeqAt.EqAt.bool_int a b t
    | str b => obtain ⟨t, rfl⟩ := rx; exact SeqAt.EqAt.bool_str a b t
    | _ => exact absurd (show false = true from fx) Bool.false_ne_true
  | int a =>
    obtain ⟨t', rfl⟩ := ry
    cases x with
    | non => cases rx; exact SeqAt.EqAt.int_none a t'
    | bl b => cases rx; exact SeqAt.EqAt.int_bool a t' b
    | int b => obtain ⟨t, rfl⟩ := rx; exact SeqAt.EqAt.int_int a t' b t
    | str b => obtain ⟨t, rfl⟩ := rx; exact SeqAt.EqAt.int_str a t' b t
    | _ => exact absurd (show false = true from fx) Bool.false_ne_true
  | str a =>
    obtain ⟨t', rfl⟩ := ry
    cases x with
    | non => cases rx; exact SeqAt.EqAt.str_none a t'
    | bl b => cases rx; exact SeqAt.EqAt.str_bool a t' b
    | int b => obtain ⟨t, rfl⟩ := rx; exact SeqAt.EqAt.str_int a t' b t
    | str b => obtain ⟨t, rfl⟩ := rx; exact SeqAt.EqAt.str_str a t' b t
    | _ => exact absurd (show false = true from fx) Bool.false_ne_true
  | _ => exact absurd (show false = true from fy) Bool.false_ne_true
/-- the items' answers, read off the values (a value's own answer does not lean on its token) -/
def eqU (x : V) (u : Value) : Bool := match u with
  | .none => eqV .non x
  | .bool b => eqV (.bl b) x
  | .int i _ => eqV (.int i) x
  | .str z _ => eqV (.str z) x
  | _ => false
theorem eqU_of {x y : V} {u : Value} (r : RelV y u) (f : flatV y = true) : eqU x u = eqV y x := by
  cases y with
  | non => cases r; rfl
  | bl b => cases r; rfl
  | int i => obtain ⟨t, rfl⟩ := r; rfl
  | str z => obtain ⟨t, rfl⟩ := r; rfl
  | _ => exact absurd (show false = true from f) Bool.false_ne_true
theorem any_eqU {x : V} : ∀ {xs : List V} {us : List Value}, Vals xs us → xs.all flatV = true → us.any (eqU x) = xs.any fun y => eqV y x
  | _, _, .nil, _ => rfl
  | y :: xs, u :: us, .cons r t, f => by
    rw [List.all_cons, Bool.and_eq_true] at f
    rw [List.any_cons, List.any_cons, eqU_of r f.1, any_eqU t f.2]
theorem mem_eqAt {A : Around} {s : Shared} {x : V} {v : Value} (rx : RelV x v) (fx : flatV x = true) : ∀ {xs : List V} {us : List Value}, Vals xs us → xs.all flatV = true → ∀ u ∈ us, SeqAt.EqAt A s u v (eqU x u)
  | _, _, .nil, _ => fun u hu => by cases hu
  | y :: xs, u :: us, .cons r t, f => fun u' hu => by
    rw [List.all_cons, Bool.and_eq_true] at f
    rcases List.mem_cons.mp hu with rfl | hu
    · rw [eqU_of r f.1]; exact eqAt_V r rx f.1 fx
    · exact mem_eqAt rx fx t f.2 u' hu
def inV (x : V) (xs : List V) : Bool := xs.any fun y => eqV y x
/-- x in a list or tuple of flat items -/
def rIn (K : PySem.W.Frag) (neg : Bool) : R2 := fun x y H Q => ∃ p xs, y = .ref p ∧ (SqL K H p xs ∨ SqT K H p xs) ∧ flatV x = true ∧ xs.all flatV = true ∧ Q (.bl (if neg then !inV x xs else inV x xs)) H
theorem op_in_seq : OpR X (compareOp .In) (rIn X.K false) := by
  intro pins s σ H x y v u Q I rx ry h
  obtain ⟨p, xs, rfl, hq, fx, fs, q⟩ := h
  cases ry
  rcases hq with hq | hq
  · obtain ⟨its, r, pl, hz⟩ := I.list hq
    refine SeqAt.in_listAt (eqU x) pl.isList (fun w hw => mem_eqAt rx fx r fs w (by simpa using hw)) ⟨.bl _, H, I, rfl, ?_⟩
    rw [show its.toArray.any (eqU x) = its.any (eqU x) by simp, any_eqU r fs]
    exact q
  · obtain ⟨its, r, pl, hz⟩ := I.tuple hq
    refine SeqAt.in_tupleAt (eqU x) pl (fun w hw => mem_eqAt rx fx r fs w (by simpa using hw)) ⟨.bl _, H, I, rfl, ?_⟩
    rw [show its.toArray.any (eqU x) = its.any (eqU x) by simp, any_eqU r fs]
    exact q
/-! ### len, list(x), tuple(x) of any list or tuple that is read -/
theorem call_len_seq : CallR X (.builtin "len") (fun xs H Q => ∃ p ys, xs = [.ref p] ∧ (SqL X.K H p ys ∨ SqT X.K H p ys) ∧ Q (.int ys.length) H) := by
  intro pins s σ H xs us Q I r h
  obtain ⟨p, ys, rfl, hq, q⟩ := h
  obtain ⟨u, rfl, rx⟩ := vals1 r
  cases rx
  have hn := line63
  rcases hq with hq | hq
  · obtain ⟨its, r', pl, hz⟩ := I.list hq
    have hlen := r'.length
    exact Calls.call_len_list pl.isList (by simp only [List.size_toArray] <;> omega) ⟨.int ys.length, H, I.tok _, ⟨s.toks + 1, by rw [List.size_toArray, hlen]⟩, q⟩
  · obtain ⟨its, r', pl, hz⟩ := I.tuple hq
    have hlen := r'.length
    exact len_tuple pl (by simp only [List.size_toArray] <;> omega) ⟨.int ys.length, H, I.tok _, ⟨s.toks + 1, by rw [List.size_toArray, hlen]⟩, q⟩
theorem call_tuple_of : CallR X (.type "tuple") (fun xs H Q => ∃ p ys, xs = [.ref p] ∧ ((SqL X.K H p ys ∧ ∀ l, H l = none → Q (.ref l) (upd H l (.tup ys))) ∨ (SqT X.K H p ys ∧ Q (.ref p) H))) := by
  intro pins s σ H xs us Q I r h
  obtain ⟨p, ys, rfl, h⟩ := h
  obtain ⟨u, rfl, rx⟩ := vals1 r
  cases rx
  rcases h with ⟨hq, q⟩ | ⟨hq, q⟩
  · obtain ⟨its, r', pl, hz⟩ := I.list hq
    have hlen := r'.length
    refine call_tuple_list pl.isList (fun h' kp => ?_) (by simp only [List.size_toArray] <;> omega)
    have I1 : Inv X pins σ H { s with heap := h' } := I.kept (t' := s.toks) kp
    have I2 : Inv X pins σ (upd H h'.objs.size (.tup ys)) { s with heap := h'.push { cls := .type "tuple", data := .seq its.toArray } } :=
      I1.laid (t' := s.toks) (fun b o e => Heap.get?_push_of_some _ e) (Nat.le_refl _) (show ObjOk X.prog X.w _ _ _ (.tup ys) from ⟨hz, its, r', IsTup.new _ _⟩)
    exact ⟨.ref h'.objs.size, _, I2, rfl, q _ (I1.hok.fresh (Nat.le_refl _))⟩
  · obtain ⟨its, r', pl, hz⟩ := I.tuple hq
    exact call_tuple_same pl ⟨.ref p, H, I, rfl, q⟩

/-! ### the call of a builtin's method: o.m(..) -/
/-- the value is of that builtin type -/
def tyV (K : PySem.W.Frag) (T : String) (x : V) (H : Hp) : Prop := match x with
  | .str _ => T = "str"
  | .int _ => T = "int"
  | .ref p => (T = "list" ∧ ∃ xs, SqL K H p xs) ∨ (T = "tuple" ∧ ∃ o, K.lookup p = some o ∧ o.cls = .type "tuple" ∧ o.dict = none) ∨
      (T = "dict" ∧ ((∃ kvs, H p = some (.dK kvs)) ∨ ∃ kvs, H p = some (.dT kvs))) ∨ (T = "set" ∧ ∃ S n, H p = some (.set S n))
  | _ => False
theorem tyV_is {pins : List (Addr × Obj)} {σ : St} {H : Hp} {s : Shared} {T : String} {x : V} {v : Value} (I : Inv X pins σ H s) (r : RelV x v) (ty : tyV X.K T x H) :
    s.TypeIs v T ∧ ∀ a, v = .ref a → ∃ ob, s.heap.get? a = some ob ∧ ob.dict = none := by
  cases x with
  | str z =>
    obtain ⟨t, rfl⟩ := r
    cases (show T = "str" from ty)
    exact ⟨typeIs_str s z t, fun _ e => nomatch e⟩
  | int i =>
    obtain ⟨t, rfl⟩ := r
    cases (show T = "int" from ty)
    exact ⟨typeIs_int s i t, fun _ e => nomatch e⟩
  | ref p =>
    cases r
    rcases ty with ⟨rfl, xs, hq⟩ | ⟨rfl, o, hk, hc, hd⟩ | ⟨rfl, hk⟩ | ⟨rfl, S, n, hk⟩
    · obtain ⟨its, _, pl, _⟩ := I.list hq
      refine ⟨pl.isList.typeIs, fun a e => ?_⟩
      cases e
      obtain ⟨o, n, e, c, hd, _⟩ := pl
      exact ⟨o, e, hd⟩
    · refine ⟨⟨o, I.kIn p o hk, hc⟩, fun a e => ?_⟩
      cases e
      exact ⟨o, I.kIn _ o hk, hd⟩
    · have z : ∃ o, s.heap.get? p = some o ∧ o.ExactDict := by
        rcases hk with ⟨kvs, hk⟩ | ⟨kvs, hk⟩
        · obtain ⟨_, _, _, _, o, _, _, e, ex, _⟩ := I.hok p _ hk
          exact ⟨o, e, ex⟩
        · obtain ⟨_, _, _, _, o, _, _, e, ex, _⟩ := I.hok p _ hk
          exact ⟨o, e, ex⟩
      obtain ⟨o, e, ex⟩ := z
      refine ⟨⟨o, e, ex.1⟩, fun a e2 => ?_⟩
      cases e2
      exact ⟨o, e, ex.2.1⟩
    · obtain ⟨o, _, _, _, e, ex, _⟩ := I.hok p _ hk
      refine ⟨⟨o, e, ex.1⟩, fun a e2 => ?_⟩
      cases e2
      exact ⟨o, e, ex.2.1⟩
  | _ => exact False.elim ty
def tBM (K : PySem.W.Frag) (T : String) (r : V → List V → Hp → VK → Prop) (to : TE) (t : TA) : TE := fun σ H Q => to σ H fun x H1 => tyV K T x H1 ∧ t σ H1 fun xs H2 => r x xs H2 Q
variable {o e : Expr} {es : List Expr} {to : TE} {t : TA} {name : Str} {apos cpos : Pos} {T id : String} {r : V → List V → Hp → VK → Prop}
theorem pe_bm (pa : PlainAttrs T) (slot : Slot T name id) (hty : typeOf (.builtin id) = pure (.type "method_descriptor")) (hm : MtR X id r) (ho : PE X o to) (ha : PA X (e :: es) t)
    (hbase : attributeBase o name X.env (eval o X.env) = eval o X.env := by rfl)
    (hfew : ((backTo cpos (starEach (e :: es) X.env)).all (fun x => !x.1) && (backToKw cpos (keywordEach [] X.env)).all (fun x => x.1.isSome)
      && decide ((e :: es).length + ([] : List Keyword).length + (if ([] : List Keyword).isEmpty then 0 else 1) < 30)) = true := by rfl)
    (hline : (apos.endLine == cpos.line) = true := by rfl) (hs : starEach (e :: es) X.env = (false, eval e X.env) :: starEach es X.env := by rfl) (hplain : (backTo cpos (starEach es X.env)).any (·.1) = false := by rfl) :
    PE X (.Call (.Attribute o name apos) (e :: es) [] cpos) (tBM X.K T r to t) := by
  intro pins s σ H Q I h
  refine wpAny_Call_method_late hbase hfew hline rfl (thn (ho pins s σ H _ I h) fun v s1 ⟨x, H1, I1, r1, ty, q1⟩ => ?_)
  obtain ⟨h1, h2⟩ := tyV_is I1 r1 ty
  refine ⟨T, id, pa, slot, hty, h1, h2, ?_⟩
  have hA := ha cpos pins s1 σ H1 _ I1 q1
  rw [hs] at hA ⊢
  refine Calls.callWith_builtin (by show (false || (backTo cpos (starEach es X.env)).any (·.1)) = false; rw [hplain] <;> rfl) (Calls.evalArgs_plain ?_)
  exact thn hA fun us s2 ⟨vs, H2, I2, r2, q2⟩ => hm pins s2 σ H2 x vs v us Q I2 r1 r2 q2
/- xs.append(e), list.index on a module's tuple .. are MtR facts of 06m -/
end
end L2

namespace L2
open PySem PySem.Spec PyProof.Rows

def MtM (X : Cx) (id : String) (r : V → List V → Hp → VK → Prop) : Prop :=
  ∀ (pins : List (Addr × Obj)) (s : Shared) (σ : St) (H : Hp) (x : V) (xs : List V) (v : Value) (us : List Value) (Q : VK), Inv X pins σ H s → RelV x v → Vals xs us → r x xs H Q →
    wpAny (model X.prog X.w) X.A (call (.builtin id) (v :: us)) (EP X pins σ Q) X.xe s

/-! ### lists of values -/
theorem Vals.one : ∀ {x : V} {us : List Value}, Vals [x] us → ∃ u, us = [u] ∧ RelV x u
  | _, _, .cons r .nil => ⟨_, rfl, r⟩
section
variable {X : Cx} {pins : List (Addr × Obj)} {σ : St} {H : Hp} {s : Shared} {l b : Addr} {xs ys zs : List V}

/-! ### the two steps: a tracked list is rewritten, a new list is laid -/
theorem Inv.lset {its its' : List Value} {n : Nat} {f : Array Value → Array Value} {t' : Nat} (I : Inv X pins σ H s) (hH : H l = some (.lst xs))
    (e : s.heap.get? l = some { cls := .type "list", data := .seq its.toArray n }) (hf : f its.toArray = its'.toArray) (hv : Vals ys its') (hz : ys.length ≤ sizeLine) :
    Inv X pins σ (upd H l (.lst ys)) { s with heap := s.heap.update l (Obj.mapSeq f), toks := t' } := by
  have q := PySem.IsL.update e f
  rw [hf] at q
  refine I.write (x := l) (e := l) (by rw [hH]; exact trivial) (.inl rfl) (fun b' u hb hu => (Heap.get?_update_other s.heap (Obj.mapSeq f) (Ne.symm hb)).trans hu) ⟨_, q⟩ ?_
  exact ⟨hz, its', _, hv, q⟩
theorem Inv.fresh (I : Inv X pins σ H s) : H s.heap.objs.size = none := I.hok.fresh (Nat.le_refl _)
theorem Inv.lstM (I : Inv X pins σ H s) (hH : H l = some (.lst xs)) : xs.length ≤ sizeLine ∧ ∃ (its : List Value) (n : Nat), Vals xs its ∧ xs.length = its.length ∧ s.heap.get? l = some { cls := .type "list", data := .seq its.toArray n } := by
  obtain ⟨z, its, n, r, e⟩ := I.hok l _ hH
  exact ⟨z, its, n, r, r.length, e⟩

theorem notLongL {n : Nat} (h : n ≤ sizeLine) : Builtin.List.listTooLong n = false := by
  unfold Builtin.List.listTooLong
  exact decide_eq_false (by omega)
end

section
variable {X : Cx}

/-! ### methods -/
def rAppend : V → List V → Hp → VK → Prop := fun x vs H Q => ∃ l xs y, x = .ref l ∧ vs = [y] ∧ H l = some (.lst xs) ∧ xs.length < sizeLine ∧ Q .non (upd H l (.lst (xs ++ [y])))
theorem mt_append : MtM X "list.append" rAppend := by
  intro pins s σ H x vs v us Q I rx rv h
  obtain ⟨l, xs, y, rfl, rfl, hH, hz, q⟩ := h
  cases rx
  obtain ⟨u, rfl, ru⟩ := rv.one
  obtain ⟨z, its, n, r, hl, e⟩ := I.lstM hH
  refine call_meets F.slot_list_append ⟨_, e, rfl⟩ F.entry_list_append (F.args_list_append_2 _ _) (PySem.list_append l its.toArray n u (by rw [List.size_toArray]; omega)) ⟨e, ?_⟩
  refine ⟨.non, _, I.lset (its' := its ++ [u]) hH e (by simp) (r.append (.cons ru .nil)) ?_, rfl, q⟩
  rw [List.length_append, List.length_singleton]
  omega

def rExtend : V → List V → Hp → VK → Prop := fun x vs H Q => ∃ l b xs zs, x = .ref l ∧ vs = [.ref b] ∧ H l = some (.lst xs) ∧ H b = some (.lst zs) ∧ xs.length + zs.length ≤ sizeLine ∧ Q .non (upd H l (.lst (xs ++ zs)))
theorem mt_extend : MtM X "list.extend" rExtend := by
  intro pins s σ H x vs v us Q I rx rv h
  obtain ⟨l, b, xs, zs, rfl, rfl, hH, hB, hz, q⟩ := h
  cases rx
  obtain ⟨u, rfl, ru⟩ := rv.one
  cases ru
  obtain ⟨z, its, n, r, hl, e⟩ := I.lstM hH
  obtain ⟨z2, its2, n2, r2, hl2, e2⟩ := I.lstM hB
  have hsz : its.toArray.size + its2.toArray.size ≤ sizeLine := by rw [List.size_toArray, List.size_toArray]; omega
  have hlong : ¬ (!its.toArray.isEmpty && Builtin.List.listTooLong (its.toArray.size + its2.toArray.size)) = true := by
    rw [notLongL hsz, Bool.and_false]
    exact Bool.false_ne_true
  refine call_meets F.slot_list_extend ⟨_, e, rfl⟩ F.entry_list_extend (F.args_list_extend_2 _ _)
    (AutoSeq1.list_extend_list_list_0 l its.toArray n b its2.toArray n2 hlong (by rw [List.size_toArray]; omega) (by omega)) ⟨e, e2, ?_⟩
  refine ⟨.non, _, I.lset (its' := its ++ its2) hH e (by simp) (r.append r2) ?_, rfl, q⟩
  rw [List.length_append]
  omega

/-! ### list + list, list += list, list * int -/
/-! ### del xs[i] -/
end

/-! ### xs[a:b] = ys -/
section
variable {prog : Program} {w : World} {A : Around} {E : Value → Shared → Prop} {s : Shared}
end

section
variable {X : Cx}
end
end L2

namespace Att
open PySem PySem.W PySem.Calls PyProof.Rows

/-! ### the script -/
theorem ints_of_wellAll {P : Params} {h : Heap} : ∀ (ns : List Int) (vs : List Value), WellAll P h vs (ns.map WData.int) → IntsAre vs ns := by
  intro ns
  induction ns with
  | nil =>
    intro vs w
    rw [List.map_nil] at w
    cases w
    exact .nil
  | cons n ns ih =>
    intro vs w
    rw [List.map_cons] at w
    cases w with
    | cons a b =>
      cases a
      exact .cons _ _ (ih _ b)

theorem script_of {l : OpenLaw} {n : Nat} (hn : l.most = some n) {P : Params} {h : Heap} {args : List WData} {vals : List Value}
    (hpre : l.row.toRowW.claim.pre args = true) (hwl : WellAll P h vals args) :
    ∃ a vs ns, vals = [Value.ref a] ∧ args = [WData.list (ns.map WData.int)] ∧ h.get? a = some { cls := .type "list", data := .seq vs.toArray } ∧ IntsAre vs ns ∧ ns.length ≤ n := by
  have hsh : WShape.hasAll [] args [.list .int] = true := (pre_splitW hpre).1
  have hc : l.pre.holds [] { args := args } = true := (pre_splitW hpre).2
  obtain ⟨d, r, rfl, h1, h2⟩ := hasAllW_cons hsh
  obtain rfl := hasAllW_nil h2
  obtain ⟨xs, rfl, h3⟩ := hasW_list h1
  obtain ⟨ns, rfl⟩ := items_int h3
  have hlen : ns.length ≤ n := by
    unfold OpenLaw.pre at hc
    have h4 : (WTm.not (.lt (.lit (.int (n : Int))) (.len (.arg 0)))).holds [] { args := [.list (ns.map .int)] } = true := by
      have h4 := (holds_andW hc).1
      rw [hn] at h4
      exact h4
    have h5 := condW_of h4 (w_not (w_lt w_lit (w_len_list (w_arg rfl))))
    rw [List.length_map] at h5
    refine Nat.le_of_not_lt fun q => ?_
    have q' : (n : Int) < ((ns.length : Nat) : Int) := by omega
    first
      | (rw [decide_eq_true q'] at h5; exact absurd h5 (by decide))
      | (simp at h5; omega)
  cases hwl with
  | cons w1 w2 =>
    cases w2
    cases w1 with
    | list ho hall => exact ⟨_, _, ns, rfl, rfl, ho, ints_of_wellAll ns _ hall, hlen⟩

theorem post_true (l : OpenLaw) (args : List WData) : l.row.toRowW.claim.post args (.bool true) args = true :=
  postW_of (r := l.row.toRowW) (X := (true == true))
    (show WShape.has [] (.bool true) .bool = true by first | rfl | decide | simp [WShape.has, WShape.arms, WShape.armsAll])
    (show (WTm.eq .res (.lit (.bool true))).value [] { args := args, res := some (.bool true), after := args } = some (.bool (true == true)) from w_eq_bool (w_res rfl) w_lit) rfl

/-! ### the attachment: holds_open's last premise (the goal 'hc' behind k_head) from a wpAny of the law's body -/
/-- the same from a codeAny of the CALL (for a layer whose function contracts speak of calls) -/
theorem attach_call {l : OpenLaw} {n : Nat} {q : Program} {loose : List Str} {XP : (Str → Option Value) → Heap → Prop} {YP : World → Heap → Prop} {d : DefRec}
    (hn : l.most = some n) (hdf : d.params.defaults = [])
    (call : ∀ (w : World) (s₀ s₁ : Shared) (mg mb : Str → Option Value) (fa : Addr) (o : Obj) (pm cd doc : Value) (a : Addr) (vs : List Value) (ns : List Int),
      Ground q loose [] XP w s₀ mg mb s₁.heap → YP w s₁.heap →
      s₁.heap.get? fa = some o → o.data = .func (docDef d.name d.params d.body d.scope pm cd doc) → s₁.heap.CodeRec cd d.name → mg d.name = some (.ref fa) →
      s₁.heap.get? a = some { cls := .type "list", data := .seq vs.toArray } → IntsAre vs ns → ns.length ≤ n → s₁.gens = #[] →
      codeAny (model l.prog w) callerA (.call (.ref fa) ⟨[.ref a], []⟩) (fun r s' => r = .ok (.ret (.bool true)) ∧ OldK s₁.heap s'.heap ∧ s'.os = s₁.os ∧ AllBare s'.gens) s₁) :
    WalkO q loose XP YP l.row.toRowW d [] (fun f vs => PySem.call f vs) := by
  intro w s₀ s₁ mg mb G Y fa o pm cd doc dV kV ho hd hcd hD hmg hg args vals as hpre hlay hrd hwl hlo
  obtain rfl : dV = .none := Dflts.none hD hdf
  obtain rfl : kV = .none := Dflts.noKw hD
  obtain ⟨a, vs, ns, rfl, rfl, hobj, hints, hlen⟩ := script_of hn hpre hwl
  refine enter_call (codeAny_mono (call w s₀ s₁ mg mb fa o pm cd doc a vs ns G Y ho (fd_plain hd) hcd hmg hobj hints hlen hg) fun r s' hq => ?_)
  obtain ⟨rfl, h2, h3, h4⟩ := hq
  exact ⟨.inl ⟨.bool true, .bool true, [], rfl, fun _ => rfl, .bool true, post_true l _, fun _ => ⟨List.Pairwise.nil, fun _ hm => (nomatch hm)⟩⟩, h2, h3, h4⟩

/-! ### rules over ANY heap (no ledger) from facts about the written part K: the library's own take a ledger (News) for what they write -/
section
variable {prog : Program} {w : World} {A : Around} {E : Value → Shared → Prop} {s : Shared} {K : Frag}

/-! the whole heap as the ledger: makes every rule that writes through a ledger a rule over any heap -/
end
end Att

namespace L2
open PySem PySem.Spec PyProof.Rows

theorem vals_ints : ∀ {vs : List Value} {ns : List Int}, IntsAre vs ns → Vals (ns.map V.int) vs
  | _, _, .nil => .nil
  | _, _, .cons n t h => .cons ⟨t, rfl⟩ (vals_ints h)

/-- nothing is tracked but the script, known to the object (or it is an object of the module) -/
def Only (H : Hp) : Prop := ∀ b, H b = none ∨ ∃ o xs, H b = some (.frz o (.lst xs))

/-- THE HEAD: the law's promise, at the heap behind the top. F, the promise of the law's def, may use that base is part of the heap (so K.In base, base.Ns mainGlobals mg stand in Mod) -/
theorem law_call {P : Program} {w : World} {K : PySem.W.Frag} {mg mb : Str → Option Value} {CX : CXT} {k : Nat} {fa a : Addr} {fd : FuncData} {x : Str} {sp : Sp} {s₁ : Shared} {vs : List Value} {ns : List Int}
    (KX : K.In s₁.heap) (hns : s₁.heap.Ns mainGlobals mg) (hb : s₁.heap.Ns builtinsNs mb) (hbb : ∀ x : Str, x ≠ "__name__" → mb x = bootBuiltins x) (hlim : s₁.heap.NoLimit) (hg : s₁.gens = #[])
    (ha : s₁.heap.get? a = some { cls := .type "list", data := .seq vs.toArray }) (hi : IntsAre vs ns) (hl : ns.length ≤ sizeLine) (hr : Room k callerA)
    (F : ∀ base : Heap, K.In base → base.Ns mainGlobals mg → FnOk P w K mg base CX k fa fd [x] sp) (hbind : ∀ (s : Shared) (u : Value), BindsTo s fd ⟨[u], []⟩ [(x, u)])
    (hsp : ∀ H : Hp, Only H → SqL K H a (ns.map V.int) → sp [.ref a] H (fun v _ => v = .bl true) fun _ _ _ => False)
    (hCX : ∀ H e s', CX [] H s₁ (fun _ _ _ => False) e s' → False) :
    codeAny (model P w) callerA (.call (.ref fa) ⟨[.ref a], []⟩) (fun r s' => r = .ok (.ret (.bool true)) ∧ OldK s₁.heap s'.heap ∧ s'.os = s₁.os ∧ AllBare s'.gens) s₁ := by
  have rv := vals_ints hi
  have lenV := hi.length
  -- from an abstract heap in which nothing but the script may be tracked
  have core : ∀ H : Hp, Only H → SqL K H a (ns.map V.int) → HOk P w H s₁.heap → (∀ b, H b ≠ none → b = a) → (H a ≠ none → K.lookup a = none) →
      codeAny (model P w) callerA (.call (.ref fa) ⟨[.ref a], []⟩) (fun r s' => r = .ok (.ret (.bool true)) ∧ OldK s₁.heap s'.heap ∧ s'.os = s₁.os ∧ AllBare s'.gens) s₁ := by
    intro H hO hS hok hA hK
    have base_of : ∀ {b : Addr} {o : Obj}, s₁.heap.get? b = some o → H b = none → (hidT s₁.heap H).get? b = some o := fun e n => hidT_get e n
    have noA : ∀ {b : Addr} {o : Obj} {es : Array DictEntry} {ep : Nat}, s₁.heap.get? b = some o → o.data = .dict es ep → H b = none := fun {b o es ep} e d => by
      cases q : H b with
      | none => rfl
      | some u =>
        have e' : b = a := hA b (by rw [q]; simp)
        subst e'
        rw [ha] at e; cases e
        have d' : Data.seq vs.toArray _ = Data.dict es ep := d
        cases d'
    have nsK : ∀ {b : Addr} {m : Str → Option Value}, s₁.heap.Ns b m → (hidT s₁.heap H).Ns b m := fun {b m} ⟨o, es, ep, e, d, r⟩ => ⟨o, es, ep, base_of e (noA e d), d, r⟩
    have hKb : K.In (hidT s₁.heap H) := fun b o e => base_of (KX b o e) (by
      cases q : H b with
      | none => rfl
      | some u =>
        have e' : b = a := hA b (by rw [q]; simp)
        subst e'
        rw [hK (by rw [q]; simp)] at e; cases e)
    have hM : Mod K mg (hidT s₁.heap H) := ⟨hKb, nsK hns, ⟨mb, nsK hb, hbb⟩, let ⟨mc, h1, h2⟩ := hlim; ⟨mc, nsK h1, h2⟩⟩
    have e0 : Env0 P w K mg (hidT s₁.heap H) callerA [] s₁ H := ⟨rfl, hM, fun b o e => of_hidT e, Nat.le_of_eq (hidT_size _ _), trivial, fun b hb => absurd (show b ∈ ([] : List Addr) from hb) (by simp), hok, .of_eq hg⟩
    refine codeAny_mono ((F _ hKb (nsK hns)).run callerA [] s₁ H ⟨[.ref a], []⟩ [.ref a] [.ref a] _ _ hr e0 (hbind s₁ (.ref a)) (.cons rfl .nil) (hsp H hO hS)) fun r s' h => ?_
    cases r with
    | error e => exact (hCX H e s' h).elim
    | ok fl =>
      cases fl with
      | next => exact False.elim h
      | brk => exact False.elim h
      | cont => exact False.elim h
      | ret u =>
        obtain ⟨v, H', os, bare, un, hok', r', q⟩ := h
        have q' : v = .bl true := q
        subst q'
        obtain rfl : u = Value.bool true := r'
        refine ⟨rfl, OldK.of_keep fun b o e => ?_, os, bare⟩
        cases q : H b with
        | none => exact un.keep b o e q (by intro z; exact absurd (show b ∈ ([] : List Addr) from z) (by simp)) (by simp)
        | some u =>
          rcases hO b with z | ⟨ob, xs, z⟩
          · rw [q] at z; cases z
          · have z2 := un.frzs b ob _ z
            obtain ⟨e1, _⟩ := hok b _ z
            obtain ⟨e2, _⟩ := hok' b _ z2
            rw [e] at e1; cases e1
            exact e2
  cases hk : K.lookup a with
  | some o =>
    -- the script is one of the module's own objects
    have e := KX a o hk
    rw [ha] at e
    cases e
    refine core (fun _ => none) (fun _ => .inl rfl) (.inr ⟨_, vs.toArray, _, hk, rfl, rfl, rfl, by rw [List.size_toArray, lenV]; exact hl, by simpa using rv⟩) (fun b u z => by have z' : (none : Option HO) = some u := z; cases z') (fun b z => absurd rfl z) fun z => absurd rfl z
  | none =>
    refine core (fun b => if b = a then some (.frz { cls := .type "list", data := .seq vs.toArray } (.lst (ns.map V.int))) else none) (fun b => ?_) (.inl (.inr ⟨{ cls := .type "list", data := .seq vs.toArray }, if_pos rfl⟩)) (fun b u z => ?_) (fun b z => ?_) fun _ => hk
    · by_cases hb : b = a
      · exact .inr ⟨_, _, if_pos hb⟩
      · exact .inl (if_neg hb)
    · by_cases hb : b = a
      · have z' := (if_pos hb).symm.trans z
        cases z'
        subst hb
        exact ⟨ha, by rw [List.length_map]; exact hl, vs, _, rv, ha⟩
      · have z' := (if_neg hb).symm.trans z
        cases z'
    · by_cases hb : b = a
      · exact hb
      · exact absurd (if_neg hb) z
end L2

namespace L2
open PySem PySem.Spec PyProof.Rows

abbrev KOf {K : PySem.W.Frag} {h : Heap} (_ : K.In h) : PySem.W.Frag := K

/-- the goal that k_head leaves (case hc), from the law's promise. F gives the function object fd (K's own) once, then the promise over every base -/
theorem walk_of {l : PySem.W.OpenLaw} {n k : Nat} {q : Program} {loose : List Str} {XP : (Str → Option Value) → Heap → Prop} {YP : World → Heap → Prop} {d : DefRec} {K : Params → PySem.W.Frag} {CX : World → CXT} {sp : World → Sp} {x : Str}
    (hn : l.most = some n) (hn2 : n ≤ sizeLine) (hdf : d.params.defaults = []) (hr : Room k callerA)
    (hY : ∀ (w : World) (h : Heap), YP w h → (K w.params).In h)
    (F : ∀ (w : World) (mg : Str → Option Value) (fa : Addr) (h : Heap), (K w.params).In h → h.Ns mainGlobals mg → mg d.name = some (.ref fa) →
      ∃ fd : FuncData, (∀ (s : Shared) (u : Value), BindsTo s fd ⟨[u], []⟩ [(x, u)]) ∧
        ∀ base : Heap, (K w.params).In base → base.Ns mainGlobals mg → FnOk l.prog w (K w.params) mg base (CX w) k fa fd [x] (sp w))
    (hsp : ∀ (w : World) (H : Hp) (a : Addr) (ns : List Int), ns.length ≤ n → Only H → SqL (K w.params) H a (ns.map V.int) → sp w [.ref a] H (fun v _ => v = .bl true) fun _ _ _ => False)
    (hCX : ∀ (w : World) (H : Hp) (s : Shared) (e : Value) (s' : Shared), CX w [] H s (fun _ _ _ => False) e s' → False) :
    PySem.W.WalkO q loose XP YP l.row.toRowW d [] (fun f vs => PySem.call f vs) := by
  refine Att.attach_call hn hdf fun w s₀ s₁ mg mb fa o pm cd doc a vs ns G Y ho hd hcd hmg hobj hints hlen hg => ?_
  have KX := hY w _ Y
  obtain ⟨fd, hb, hF⟩ := F w mg fa _ KX G.T.g hmg
  exact law_call KX G.T.g G.T.b G.T.builtins G.T.nolimit hg hobj hints (Nat.le_trans hlen hn2) hr hF hb (fun H hO hS => hsp w H a ns hlen hO hS) fun H e s' => hCX w H s₁ e s'
end L2

/- THE LAST THEOREM (shape; LID, My.* are yours):
   My.Adr: a structure of the addresses that your layer names (classes, functions); My.Txt K t: a structure (Prop) of the equations over K;
   My.txt_mk : {K} {implicit addresses ..} (e1 : nsIn K mainGlobals "law" = some (some (.ref f))) (e2 : K.lookup f = some ⟨oc, od, .func (fnOf "law" "law" params body scope dV kV doc pm an cdv ct), sl⟩) (e3 : codeIn K cdv "law" = true) .. : ∃ t, My.Txt K t

set_option maxRecDepth 100000 in
set_option maxHeartbeats 0 in
theorem PySem.Challenge.cw_LID_holds : PySem.Challenge.rw_LID.Holds := by
  w_on; o_law; k_head; (case hw => w_witness2)
  k_fill
  refine L2.walk_of (l := PySem.Challenge.rw_LID) (n := 63) (k := 40) (x := "script") (CX := fun w => ..) (sp := fun _ => My.sp_law) rfl (by decide) rfl ⟨rfl, by decide, by decide⟩ (fun w h Y => PySem.W.kIn_of Y) ?F ?S ?C
  case F =>
    intro w mg fa h KX G hmg
    have T : ∃ t, My.Txt (L2.KOf KX) t := by
      dsimp only [L2.KOf]                          -- K must stand as «<heap const> w.params» for k_is
      refine' My.txt_mk ?e1 ?e2 ?e3 ..
      (case e1 => PySem.W.k_is)                    -- in the order: a name -> its address -> its object -> its parts
      (case e2 => PySem.W.k_is)
      ..
    obtain ⟨t, T⟩ := T
    have e0 := hmg.symm.trans (PySem.W.mg_of KX G T.law)
    cases e0                                       -- fa is the law's own address
    exact ⟨_, fun s u => .of_eq rfl, fun base kb nb => My.law_fn T kb nb⟩     -- if «.of_eq rfl» comes too early: refine' ⟨_, ?b, fun base kb nb => My.law_fn T kb nb⟩; exact fun s u => .of_eq rfl
  case S => exact fun w H a ns hl hO hS => ..
  case C => exact ..
(the tactic k_is has no namespace: write k_is) -/

/-! SHORT WORDS over the layer: a def of the text, its body, what a loop and a test want. -/
namespace L2
open PySem PySem.Spec PyProof.Rows

/-! ### the text by places -/
def defArgs (s : Stmt) : Arguments := match s with
  | .FunctionDef _ a _ _ _ _ _ _ _ _ => a
  | _ => { posonlyargs := [], args := [], vararg := none, kwonlyargs := [], kw_defaults := [], kwarg := none, defaults := [] }
def defBody (s : Stmt) : List Stmt := match s with
  | .FunctionDef _ _ b _ _ _ _ _ _ _ => b
  | _ => []
def defScope (s : Stmt) : Scope := match s with
  | .FunctionDef _ _ _ _ _ _ sc _ _ _ => sc
  | _ => { kind := .function, names := [], isGenerator := false, isCoroutine := false }

/-! ### no exception leaves a def -/
abbrev CX0 : CXT := fun _ _ _ _ _ _ => False
abbrev E0 : XK := fun _ _ _ => False
theorem pass0 {X : Cx} : Passes CX0 X E0 := fun _ _ _ _ _ _ _ h => h.elim

/-! ### a def (or method) of the text as it stands behind the top -/
structure Fun (K : PySem.W.Frag) (x qual : Str) (st : Stmt) (f : Addr) (fd : FuncData) : Prop where
  ex : ∃ (oc : Value) (od : Option Addr) (kV doc pm : Value) (an : Option Addr) (cdv ct : Value) (osl : Array (Option Value)),
    fd = PySem.W.fnOf x qual (defArgs st) (defBody st) (defScope st) .none kV doc pm an cdv ct ∧ K.lookup f = some ⟨oc, od, .func fd, osl⟩ ∧ PySem.W.codeIn K cdv qual = true
  kp : PySem.W.keepIn K (.ref f) = true
section
variable {P : Program} {w : World} {K : PySem.W.Frag} {mg : Str → Option Value} {base : Heap}
/-- THE RULE for a def: its body as a term of rules, and the reading of that term -/
theorem Fun.ok {x qual : Str} {st : Stmt} {f : Addr} {fd : FuncData} {N ps : List Str} {k : Nat} {sp : Sp} (F : Fun K x qual st f fd) (S : FnScope N ps (defScope st)) (len : ∀ vs H Q E, sp vs H Q E → vs.length = ps.length)
    (hbody : ∀ (cdv : Value) (A : Around) (outer : List Env) (s : Shared) (H : Hp) (vs : List V) (Q : VK) (E : XK), Room k (A.deeper (envOfC qual (defScope st) s.heap.objs.size f cdv)) → sp vs H Q E →
      ∃ t, PSs (cxOf CX0 P w K mg base N qual (defScope st) f cdv A outer s H E).nox (defBody st) t ∧ t { nx := fun _ H' => Q .non H', rt := Q } (start N vs) H) : FnOk P w K mg base CX0 (k + 1) f fd ps sp := by
  obtain ⟨oc, od, kV, doc, pm, an, cdv, ct, osl, rfl, lk, hcd⟩ := F.ex
  refine fn_of lk hcd S len fun A outer s H vs Q E hr hsp => ?_
  obtain ⟨t, h, q⟩ := hbody cdv A outer s H vs Q E hr hsp
  exact ⟨t, h.nox, q⟩
/-- how its arguments bind (no defaults): h is «fun _ _ _ _ _ _ us hl => match us, hl with | [_, _], _ => rfl», one _ a parameter -/
theorem Fun.binds {x qual : Str} {st : Stmt} {f : Addr} {fd : FuncData} {ps : List Str} (F : Fun K x qual st f fd)
    (h : ∀ (kV doc pm : Value) (an : Option Addr) (cdv ct : Value) (us : List Value), us.length = ps.length → bindArgs (PySem.W.fnOf x qual (defArgs st) (defBody st) (defScope st) .none kV doc pm an cdv ct) ⟨us, []⟩ = pure (ps.zip us)) : Binds K fd ps [] := by
  obtain ⟨oc, od, kV, doc, pm, an, cdv, ct, osl, rfl, lk, hcd⟩ := F.ex
  exact .all (h kV doc pm an cdv ct)
theorem fun_mk {x qual : Str} {st : Stmt} {f : Addr} {oc : Value} {od an : Option Addr} {osl : Array (Option Value)} {kV doc pm cdv ct : Value} (l : K.lookup f = some ⟨oc, od, .func (PySem.W.fnOf x qual (defArgs st) (defBody st) (defScope st) .none kV doc pm an cdv ct), osl⟩)
    (c : PySem.W.codeIn K cdv qual = true) (k : PySem.W.keepIn K (.ref f) = true) : Fun K x qual st f (PySem.W.fnOf x qual (defArgs st) (defBody st) (defScope st) .none kV doc pm an cdv ct) := ⟨⟨oc, od, kV, doc, pm, an, cdv, ct, osl, rfl, l, c⟩, k⟩
end
/-! ### expressions in short: the name that stands in the i-th slot -/
section
variable {X : Cx}
theorem pv (i : Nat) {x : Str} {pos : Pos} (hN : X.N[i]? = some x := by rfl) (hv : Vis X.env.scope x := by first | exact Or.inl rfl | exact Or.inr (Or.inl rfl) | exact Or.inr (Or.inr rfl)) (hd : (x == ("__debug__" : Str)) = false := by decide)
    (hcd : (x == ("__classdict__" : Str)) = false := by decide) : PE X (.Name x pos) (tVar i) := pe_var hN hv hd hcd
end

/-! ### tests -/
theorem iteF {A B : Prop} (h : B) : if false = true then A else B := by
  rw [if_neg Bool.false_ne_true]
  exact h
theorem iteT {A B : Prop} (h : A) : if true = true then A else B := by
  rw [if_pos rfl]
  exact h
theorem ite2 {c A B : Prop} [Decidable c] (h1 : c → A) (h2 : ¬ c → B) : if c then A else B := by
  by_cases h : c
  · rw [if_pos h]
    exact h1 h
  · rw [if_neg h]
    exact h2 h
theorem iteNS {c A B : Prop} [Decidable c] (hc : c) (h : B) : if (!decide c) = true then A else B := by
  rw [decide_eq_true hc]
  exact iteF h

/-! ### heaps -/
/-- all that was tracked is as it was -/
def Same (H H' : Hp) : Prop := ∀ b o, H b = some o → H' b = some o
theorem Same.refl (H : Hp) : Same H H := fun _ _ h => h
theorem Same.trans {H H1 H2 : Hp} (a : Same H H1) (b : Same H1 H2) : Same H H2 := fun c o h => b c o (a c o h)
theorem Same.free {H H' : Hp} (e : Same H H') {l : Addr} (h : H' l = Option.none) : H l = Option.none := by
  cases q : H l with
  | none => rfl
  | some o =>
    rw [e l o q] at h
    cases h
end L2

set_option maxHeartbeats 4000000
/-! EvExc: refusals of own classes by hand: raise, a callee's refusal that passes, try with one except clause that names, isinstance of a refusal. Over the hand layer (namespace L2), which stands ahead of it. -/
namespace L2
open PySem PySem.Spec PyProof.Rows

section
variable {X : Cx} {pins : List (Addr × Obj)} {σ : St} {H H' : Hp} {s s' : Shared}
theorem Inv.nopins (I : Inv X pins σ H s) : Inv X [] σ H s := I.pins_of fun p hp => nomatch hp
end

section
variable {P : Program} {w : World} {K : PySem.W.Frag} {mg : Str → Option Value} {base : Heap} {N : List Str} {qual : Str} {scope : Scope} {f : Addr} {cd : Value} {A : Around} {outer : List Env} {s : Shared} {H : Hp} {E : XK}
end
/-! ### raise -/
end L2
/-! EvTry: isinstance of a refusal, except clauses, defs called within an except suite. Behind EvExc. -/
namespace PySem.W
open PySem PySem.Calls PyProof.Rows Builtin Builtin.ObjectAttr Builtin.Getset_descriptor
section
variable {prog : Program} {w : World} {A : Around} {E : Value → Shared → Prop} {s : Shared} {K : Frag} {x C D : Addr} {ox : Obj}
end
end PySem.W

namespace L2
open PySem PySem.Spec PyProof.Rows
/-! ### isinstance by values -/
/-- isinstance(x, c), c one class -/
theorem call_isinst {X : Cx} : CallR X (.builtin "isinstance") (fun xs H Q => ∃ x c t b, xs = [x, c] ∧ TyOf X.K H x t ∧ (∀ u, RelV c u → PySem.W.kitOne X.K t u = some b) ∧ Q (.bl b) H) := by
  intro pins s σ H xs us Q I r h
  obtain ⟨x, c, t, b, rfl, ty, k, q⟩ := h
  obtain ⟨u, w', rfl, r1, r2⟩ := vals2 r
  exact isinst_ok I r1 ty (k _ r2) fun tk => ⟨.bl b, H, I.tok tk, rfl, q⟩
/-! ### try, one clause with a name -/
section
variable {X : Cx} {pins : List (Addr × Obj)} {σ : St} {H : Hp} {s : Shared}
/-- an object that was not tracked is -/
theorem Inv.track {a : Addr} {o : HO} (I : Inv X pins σ H s) (hn : H a = none) (h0 : X.s₀.heap.get? a = none) (hL : a ≠ X.env.locals) (hc : ∀ x c, X.env.cells.lookup x = some c → c ≠ a) (hp : ∀ p ∈ X.pn ++ pins, p.1 ≠ a)
    (new : ObjOk X.prog X.w (upd H a o) s.heap a o) : Inv X pins σ (upd H a o) s := by
  have ne : ∀ b u, H b = some u → b ≠ a := fun b u e => ne_of_none e hn
  refine ⟨I.ok, I.os, I.bare, ⟨I.base.keep, I.base.slot, fun b ob e n hx => ?_, I.base.there, fun b xs e => ?_, fun b ob u e => ?_, fun b ps e => ?_⟩, I.loc, I.cell, ?_, fun x c e => ?_, fun p hp' => ?_, fun b u e => ?_, I.len⟩
  · rw [upd_ne (fun z => by rw [z, h0] at e; cases e)]
    exact I.base.free b ob e n hx
  · have q := I.base.tups b xs e
    rw [upd_ne (ne b _ q)]; exact q
  · have q := I.base.frzs b ob u e
    rw [upd_ne (ne b _ q)]; exact q
  · obtain ⟨m, q⟩ := I.base.tbls b ps e
    exact ⟨m, by rw [upd_ne (ne b _ q)]; exact q⟩
  · rw [upd_ne (Ne.symm hL)]; exact I.free
  · rw [upd_ne (hc x c e)]; exact I.freeC x c e
  · obtain ⟨e, n, r⟩ := I.pin p hp'
    exact ⟨e, by rw [upd_ne (hp p hp')]; exact n, r⟩
  · by_cases hb : b = a
    · subst hb; rw [upd_same] at e; cases e; exact new
    · rw [upd_ne hb] at e
      exact (I.hok b u e).stay (fun _ _ _ q => q) (fun c q => by rw [upd_ne (ne c _ q)]; exact q) fun c xs q => by rw [upd_ne (ne c _ q)]; exact q
end
/-! ### a def that is called within an except suite -/
end L2

namespace L2
open PySem PySem.Spec PyProof.Rows
theorem Inv.big {X : Cx} {pins : List (Addr × Obj)} {σ : St} {H : Hp} {s : Shared} (I : Inv X pins σ H s) : sysModules < s.heap.objs.size := by
  have h : mainGlobals < s.heap.objs.size := (I.mod.glob.keeps I.bk).lt
  exact Nat.lt_trans (by decide) h
end L2
/-! EvStr: f-strings with ints, a while whose test need not be monotone. Behind EvTry. -/
namespace L2
open PySem PySem.Spec PyProof.Rows
/-! ### while -/
def WTurn (Pv : St → Hp → Prop) (mu : St → Hp → Nat) (m : Nat) (tb : TS) (D : Ends) (σ : St) (H1 : Hp) : Prop :=
  ∃ N : St → Hp → Prop, (∀ σ' H', N σ' H' → ∃ m', m' < m ∧ m' = mu σ' H' ∧ Pv σ' H') ∧ tb { D with nx := N, ct := N, bk := D.nx } σ H1
theorem WTurn.of {Pv : St → Hp → Prop} {mu : St → Hp → Nat} {m : Nat} {tb : TS} {D : Ends} {σ : St} {H1 : Hp}
    (h : tb { D with nx := fun σ' H' => Pv σ' H' ∧ mu σ' H' < m, ct := fun σ' H' => Pv σ' H' ∧ mu σ' H' < m, bk := D.nx } σ H1) : WTurn Pv mu m tb D σ H1 :=
  ⟨_, fun σ' H' ⟨p, l⟩ => ⟨_, l, rfl, p⟩, h⟩
theorem while_w {c : TT} {tb : TS} {D : Ends} {σ : St} {H : Hp} (Pv : St → Hp → Prop) (mu : St → Hp → Nat) (h0 : Pv σ H)
    (hs : ∀ m σ H, Pv σ H → m = mu σ H → c σ H fun b H1 => if b = true then WTurn Pv mu m tb D σ H1 else D.nx σ H1) : tWhile c tb D σ H := by
  refine ⟨fun m σ H => m = mu σ H ∧ Pv σ H, ⟨_, rfl, h0⟩, ?_⟩
  rintro m σ H ⟨e, p⟩
  exact hs m σ H p e
/-! ### tests that are known -/
theorem ifT {c A B : Prop} [Decidable c] (h : c) (k : A) : if decide c = true then A else B := by
  rw [if_pos (decide_eq_true h)]
  exact k
theorem ifF {c A B : Prop} [Decidable c] (h : ¬ c) (k : B) : if decide c = true then A else B := by
  rw [if_neg (fun z => h (of_decide_eq_true z))]
  exact k
theorem blT {Q : VK} {H : Hp} {c : Prop} [Decidable c] (h : c) (k : Q (.bl true) H) : Q (.bl (decide c)) H := by
  rw [decide_eq_true h]
  exact k
/-! ### f-strings -/
end L2
/-! EvComp: a list comprehension with one for and at most one if, by hand. Behind EvStr. -/
namespace L2
open PySem PySem.Spec PyProof.Rows
/-! ### the closure -/
theorem cellOf_some {env : Env} {x : Str} {c : Addr} (h : env.cells.lookup x = some c) : cellOf env x = pure c := by
  unfold cellOf
  rw [h]
theorem closure_go {env : Env} : ∀ (names : List (Str × NameKind)) (cs : List (Str × Addr)), (∀ x, (x, NameKind.free) ∈ names → ∃ c, env.cells.lookup x = some c) →
    (∀ x c, cs.lookup x = some c → env.cells.lookup x = some c) →
    ∃ cl : List (Str × Addr), (forIn names cs fun (y : Str × NameKind) (r : List (Str × Addr)) => if (y.2 == .free) = true then (do let c ← cellOf env y.1; pure (ForInStep.yield ((y.1, c) :: r)) : Sem _) else pure (ForInStep.yield r)) = pure cl ∧
      (∀ x c, cl.lookup x = some c → env.cells.lookup x = some c) ∧ (∀ x, ((x, NameKind.free) ∈ names ∨ ∃ c, cs.lookup x = some c) → ∃ c, cl.lookup x = some c)
  | [], cs, _, h2 => ⟨cs, rfl, h2, fun x hx => hx.elim (fun z => nomatch z) id⟩
  | (y, k) :: names, cs, h1, h2 => by
    by_cases hk : k = .free
    · subst hk
      obtain ⟨c, hc⟩ := h1 y (List.mem_cons_self ..)
      obtain ⟨cl, e, a, b⟩ := closure_go names ((y, c) :: cs) (fun x hx => h1 x (List.mem_cons_of_mem _ hx)) (fun x c' hx => by
        rw [List.lookup_cons] at hx
        split at hx
        · rename_i hb
          have hb' : x = y := by simpa using hb
          cases hx
          rw [hb']
          exact hc
        · exact h2 x c' hx)
      refine ⟨cl, ?_, a, fun x hx => b x ?_⟩
      · rw [List.forIn_cons]
        simp only [beq_self_eq_true, if_true, cellOf_some hc]
        exact e
      · rcases hx with hx | ⟨c', hx⟩
        · rcases List.mem_cons.mp hx with z | z
          · cases z
            exact .inr ⟨c, by simp⟩
          · exact .inl z
        · by_cases hb : (x == y) = true
          · exact .inr ⟨c, by rw [List.lookup_cons, hb]⟩
          · exact .inr ⟨c', by rw [List.lookup_cons, Bool.not_eq_true _ |>.mp hb]; exact hx⟩
    · obtain ⟨cl, e, a, b⟩ := closure_go names cs (fun x hx => h1 x (List.mem_cons_of_mem _ hx)) h2
      have hb : (k == NameKind.free) = false := by simpa using hk
      refine ⟨cl, ?_, a, fun x hx => b x ?_⟩
      · rw [List.forIn_cons]
        simp only [hb, Bool.false_eq_true, if_false]
        exact e
      · rcases hx with hx | hx
        · rcases List.mem_cons.mp hx with z | z
          · cases z
            exact absurd rfl hk
          · exact .inl z
        · exact .inr hx
theorem closure_of {scope : Scope} {env : Env} (h : ∀ x, (x, NameKind.free) ∈ scope.names → ∃ c, env.cells.lookup x = some c) :
    ∃ cl, closureFor scope env = pure cl ∧ (∀ x c, cl.lookup x = some c → env.cells.lookup x = some c) ∧ ∀ x, (x, NameKind.free) ∈ scope.names → ∃ c, cl.lookup x = some c := by
  obtain ⟨cl, e, a, b⟩ := closure_go scope.names [] h (fun x c hx => nomatch hx)
  refine ⟨cl, ?_, a, fun x hx => b x (.inl hx)⟩
  refine Eq.trans (b := (forIn scope.names [] fun (y : Str × NameKind) (r : List (Str × Addr)) => if (y.2 == .free) = true then (do let c ← cellOf env y.1; pure (ForInStep.yield ((y.1, c) :: r)) : Sem _) else pure (ForInStep.yield r)) >>= fun r => pure r) rfl ?_
  rw [e]
  rfl
/-! ### the loop -/
section
variable {prog : Program} {w : World} {A : Around} {R : Result → Shared → Prop} {s : Shared}
theorem compLoop_any {elt target iter : Expr} {ifs : List Expr} {scope : Scope} {pos : Pos} {it acc : Value} {env : Env} (I : Nat → Shared → Prop)
    (turn : ∀ n s, I n s → wpAny (model prog w) A (pyNext it) (fun r s1 => match r with
      | none => R (.ok .next) s1
      | some v => wpAny (model prog w) A (letOwnedTupleGo target it v) (fun _ s1' => wpAny (model prog w) A (assign target env v) (fun _ s2 =>
          wpAny (model prog w) A (forIn ifs true fun c r => if r = true then do let ok ← isTrue c env (eval c env); pure (ForInStep.yield ok) else pure (ForInStep.yield r)) (fun ok s3 =>
            if ok = true then wpAny (model prog w) A (eval elt env) (fun x s4 =>
              wpAny (model prog w) A (call (.builtin "list.append") [acc, x]) (fun _ s5 => ∃ m, m < n ∧ I m s5) (fun _ _ => False) s4) (fun _ _ => False) s3
            else ∃ m, m < n ∧ I m s3) (fun _ _ => False) s2) (fun _ _ => False) s1') (fun _ _ => False) s1) (fun _ _ => False) s)
    (n : Nat) (h : I n s) : codeAny (model prog w) A (.compLoop (.ListComp elt [⟨target, iter, ifs, 0⟩] scope pos) 0 it acc env) R s := by
  refine codeAny_loop rfl I (fun n s hI => ?_) n h
  show wpAny _ A ((compTurn (.ListComp elt [⟨target, iter, ifs, 0⟩] scope pos) 0 it acc env).onRaise (fun x => do noteFrame x env; theTreesLotGoes x)) _ _ s
  refine wpAny_noted ?_
  rw [compTurn_list]
  refine wpAny_bind (wpAny_standAt (wpAny_bind (wpAny_mono (turn n s hI) (fun r s1 h1 => ?_) fun _ _ h' => h'.elim)))
  cases r with
  | none => exact wpAny_pure h1
  | some v =>
    refine wpAny_bind (wpAny_mono h1 (fun _ s1' h1' => ?_) fun _ _ h' => h'.elim)
    refine wpAny_bind (wpAny_mono h1' (fun _ s2 h2 => wpAny_bind (wpAny_mono h2 (fun ok s3 h3 => ?_) fun _ _ h' => h'.elim)) fun _ _ h' => h'.elim)
    cases ok with
    | false => exact wpAny_pure ⟨rfl, h3⟩
    | true =>
      exact wpAny_bind (wpAny_bind (wpAny_mono h3 (fun x s4 h4 => wpAny_bind (wpAny_mono h4 (fun _ s5 h5 => wpAny_pure (wpAny_pure ⟨rfl, h5⟩)) fun _ _ h' => h'.elim)) fun _ _ h' => h'.elim))
end
/-! ### the block's context -/
def cxC (X : Cx) (s : Shared) (H : Hp) (scope : Scope) (cl : List (Str × Addr)) (C : Addr) (N : List Str) (fp : List Addr) : Cx where
  prog := X.prog
  w := X.w
  K := X.K
  mg := X.mg
  base := X.base
  A := X.A
  N := N
  s₀ := s
  H₀ := H
  env := compEnvC scope cl C X.env
  outer := X.stack
  stack := X.stack
  ex := fp
  fn := fun x => scope.names.lookup x == some NameKind.cell
  calm := X.calm
  pn := []
  xe := fun _ _ => False
/-- slot i of the block is the outer slot, or the block's own -/
def seen (σ : St) (src : List (Option Nat)) : St := src.map fun o => match o with | some j => (σ[j]?).join | none => none
structure CompScope (X : Cx) (scope : Scope) (N : List Str) (src : List (Option Nat)) : Prop where
  kind : scope.kind = .function
  cells : ∀ y ∈ scope.names, y.2 = .cell → scope.names.lookup y.1 = some .cell
  own : ∀ y ∈ scope.names, y.2 = .local → scope.names.lookup y.1 = some .local
  has : ∀ x, (x, NameKind.free) ∈ scope.names → X.env.kindOf x = some .cell ∨ X.env.kindOf x = some .free
  len : src.length = N.length
  src : ∀ (i j : Nat) (x : Str), src[i]? = some (some j) → N[i]? = some x → X.N[j]? = some x ∧ (x, NameKind.free) ∈ scope.names ∧ scope.names.lookup x = some .free
theorem lookup_relabel_free {env : Env} : ∀ {names : List (Str × NameKind)} {x : Str}, names.lookup x = some .free →
    (names.map fun (n, k) => if (k == NameKind.free && env.scope.kind == .function && env.kindOf n == some .cell) then (n, NameKind.cell) else (n, k)).lookup x = some .cell ∨
    (names.map fun (n, k) => if (k == NameKind.free && env.scope.kind == .function && env.kindOf n == some .cell) then (n, NameKind.cell) else (n, k)).lookup x = some .free
  | [], _, h => by simp at h
  | (n, k) :: r, x, h => by
    have ih := @lookup_relabel_free env r x
    show List.lookup x ((if (k == NameKind.free && env.scope.kind == .function && env.kindOf n == some .cell) = true then (n, NameKind.cell) else (n, k)) :: _) = _ ∨ List.lookup x ((if (k == NameKind.free && env.scope.kind == .function && env.kindOf n == some .cell) = true then (n, NameKind.cell) else (n, k)) :: _) = _
    cases hx : x == n with
    | true =>
      simp only [List.lookup_cons, hx] at h
      cases h
      by_cases hc : (NameKind.free == NameKind.free && env.scope.kind == .function && env.kindOf n == some .cell) = true
      · rw [if_pos hc]; left; simp only [List.lookup_cons, hx]
      · rw [if_neg hc]; right; simp only [List.lookup_cons, hx]
    | false =>
      simp only [List.lookup_cons, hx] at h
      by_cases hc : (k == NameKind.free && env.scope.kind == .function && env.kindOf n == some .cell) = true
      · rw [if_pos hc]; simp only [List.lookup_cons, hx]; exact ih h
      · rw [if_neg hc]; simp only [List.lookup_cons, hx]; exact ih h
/-- a cell or a free name of the block was free in it -/
theorem relabel_cell {env : Env} : ∀ {names : List (Str × NameKind)} {x : Str},
    ((names.map fun (n, k) => if (k == NameKind.free && env.scope.kind == .function && env.kindOf n == some .cell) then (n, NameKind.cell) else (n, k)).lookup x = some .cell ∨
    (names.map fun (n, k) => if (k == NameKind.free && env.scope.kind == .function && env.kindOf n == some .cell) then (n, NameKind.cell) else (n, k)).lookup x = some .free) → (x, NameKind.free) ∈ names ∨ (x, NameKind.cell) ∈ names
  | [], _, h => by simp at h
  | (n, k) :: r, x, h => by
    have ih := @relabel_cell env r x
    change List.lookup x ((if (k == NameKind.free && env.scope.kind == .function && env.kindOf n == some .cell) = true then (n, NameKind.cell) else (n, k)) :: _) = _ ∨ List.lookup x ((if (k == NameKind.free && env.scope.kind == .function && env.kindOf n == some .cell) = true then (n, NameKind.cell) else (n, k)) :: _) = _ at h
    cases hx : x == n with
    | true =>
      have e : x = n := by simpa using hx
      by_cases hc : (k == NameKind.free && env.scope.kind == .function && env.kindOf n == some .cell) = true
      · have hk : k = .free := by
          simp only [Bool.and_eq_true, beq_iff_eq] at hc
          exact hc.1.1
        rw [e, hk]; exact .inl (List.mem_cons_self ..)
      · rw [if_neg hc] at h
        simp only [List.lookup_cons, hx, Option.some.injEq] at h
        rcases h with h | h
        · rw [e, h]; exact .inr (List.mem_cons_self ..)
        · rw [e, h]; exact .inl (List.mem_cons_self ..)
    | false =>
      by_cases hc : (k == NameKind.free && env.scope.kind == .function && env.kindOf n == some .cell) = true
      · rw [if_pos hc] at h; simp only [List.lookup_cons, hx] at h; exact (ih h).imp (List.mem_cons_of_mem _) (List.mem_cons_of_mem _)
      · rw [if_neg hc] at h; simp only [List.lookup_cons, hx] at h; exact (ih h).imp (List.mem_cons_of_mem _) (List.mem_cons_of_mem _)
def Weak (σ σ2 : St) : Prop := σ2.length = σ.length ∧ ∀ (i : Nat) (v : V), σ[i]? = some (some v) → σ2[i]? = some (some v)
theorem Weak.refl (σ : St) : Weak σ σ := ⟨rfl, fun _ _ h => h⟩
theorem Weak.set {σ : St} {i : Nat} {o : Option V} (h : ∀ v, σ[i]? ≠ some (some v)) : Weak σ (σ.set i o) := ⟨by simp, fun j v e => by
  have : i ≠ j := fun z => h v (z ▸ e)
  rw [List.getElem?_set_ne this]
  exact e⟩
/-- the tests -/
def PIf (X : Cx) (ifs : List Expr) (t : TT) : Prop := ∀ (pins : List (Addr × Obj)) (s : Shared) (σ : St) (H : Hp) (Q : Bool → Hp → Prop), Inv X pins σ H s → t σ H Q →
  wpAny (model X.prog X.w) X.A (forIn ifs true fun c r => if r = true then do let ok ← isTrue c X.env (eval c X.env); pure (ForInStep.yield ok) else pure (ForInStep.yield r)) (TP X pins σ Q) X.xe s
def tYes : TT := fun _ H Q => Q true H
theorem pif_nil {X : Cx} : PIf X [] tYes := fun _ _ _ H _ I h => wpAny_tests_nil ⟨H, I, h⟩
theorem pif_one {X : Cx} {c : Expr} {t : TT} (h : PT X c t) : PIf X [c] t := fun pins s σ H Q I q => wpAny_tests_one (h pins s σ H Q I q)
def tComp (src : List (Option Nat)) (wi : TI) (g : TG) (tc : TT) (te : TE) : TE := fun σ H Q => wi σ H fun J H1 => ∃ W : Nat → Nat → List V → Hp → Prop, (∃ m, W 0 m [] H1) ∧ ∀ i m ys H2, W i m ys H2 →
  (J.stop i H2 ∧ ys.length ≤ sizeLine ∧ ∀ p, H2 p = none → Q (.ref p) (upd H2 p (.lst ys))) ∨
  (J.go i H2 ∧ ∀ x H3, J.yld i H2 x H3 → g x (seen σ src) H3 fun σ2 H4 => Weak (seen σ src) σ2 ∧ tc σ2 H4 fun b H5 =>
    if b = true then te σ2 H5 fun y H6 => ys.length < sizeLine ∧ ∃ m', m' < m ∧ W (i + 1) m' (ys ++ [y]) H6 else ∃ m', m' < m ∧ W (i + 1) m' ys H5)
theorem cellsFrom_app : ∀ (names : List (Str × NameKind)) (n : Nat) (acc : List (Str × Addr)), cellsFrom n names acc = cellsFrom n names [] ++ acc
  | [], _, acc => rfl
  | (x, k) :: r, n, acc => by
    unfold cellsFrom
    split
    · rw [cellsFrom_app r (n + 1) ((x, n) :: acc), cellsFrom_app r (n + 1) [(x, n)], List.append_assoc]
      rfl
    · exact cellsFrom_app r n acc
theorem cellsFrom_mem : ∀ (names : List (Str × NameKind)) (n : Nat) (acc : List (Str × Addr)) (x : Str) (c : Addr), (x, c) ∈ cellsFrom n names acc → (x, c) ∈ acc ∨ (x, NameKind.cell) ∈ names
  | [], _, _, _, _, h => .inl h
  | (y, k) :: r, n, acc, x, c, h => by
    unfold cellsFrom at h
    split at h
    · rename_i hk
      have hk' : k = .cell := by simpa using hk
      rcases cellsFrom_mem r _ _ x c h with z | z
      · rcases List.mem_cons.mp z with z | z
        · cases z
          exact .inr (hk' ▸ List.mem_cons_self ..)
        · exact .inl z
      · exact .inr (List.mem_cons_of_mem _ z)
    · rcases cellsFrom_mem r _ _ x c h with z | z
      · exact .inl z
      · exact .inr (List.mem_cons_of_mem _ z)
theorem new_around {M : Model} {A : Around} {E : Value → Shared → Prop} {s : Shared} {scope : Scope} {globals : Addr} {cl : List (Str × Addr)} {qual : Str} {env : Env} {Q : Env → Shared → Prop}
    (h : ∀ h', h'.Ns s.heap.objs.size (fun _ => none) → (∀ b o, s.heap.get? b = some o → h'.get? b = some o) → CellsOk h' (s.heap.objs.size + 1) (cellsFrom (s.heap.objs.size + 1) scope.names []) →
      Q { scope, locals := s.heap.objs.size, globals, cells := cellsFrom (s.heap.objs.size + 1) scope.names [] ++ cl, qual, func := none, code := env.code, frame := env.frame, builtins := env.builtins } { s with heap := h' }) :
    wpAny M A (newFunctionEnv scope globals cl [] qual none .none (some env)) Q E s := by
  simp only [newFunctionEnv, Option.isSome_some, if_true]
  refine wpAny_bind (wpAny_alloc ?_)
  refine wpAny_bind (wpAny_layCells _ (fun name kind cells => by cases hkc : kind == NameKind.cell <;> simp [hkc]) _ _ _ _ ?_)
  have ok := cellsFrom_ok scope.names (s.heap.push { cls := .type "dict", data := .dict #[] }) (s.heap.objs.size + 1) [] ⟨fun _ _ hm => (nomatch hm), List.Pairwise.nil⟩ (by rw [Heap.size_push]; exact Nat.le_refl _)
  rw [Heap.size_push] at ok
  rw [show ({ s with heap := s.heap.push { cls := .type "dict", data := .dict #[] } } : Shared).heap.objs.size = s.heap.objs.size + 1 from Heap.size_push .., cellsFrom_app]
  rw [List.forIn_nil]
  exact wpAny_bind (wpAny_pure (wpAny_pure (h _ ((Heap.Ns.new s.heap (.type "dict")).keeps (pushCells_keeps _ _)) (fun b o e => pushCells_keeps _ _ b o (Heap.get?_push_of_some _ e)) ok)))
/-- a comprehension, whatever is done with its list -/
theorem comp_core {X : Cx} {elt tg iter : Expr} {ifs : List Expr} {scope : Scope} {pos pos2 : Pos} {N : List Str} {src : List (Option Nat)} {wi : TI} {g : TG} {tc : TT} {te : TE} {use : Option (Value → Sem Unit)} {Post : Value → Shared → Prop} {pins : List (Addr × Obj)} {s : Shared} {σ : St} {H : Hp} {Q : VK}
    (hc : X.calm = true) (S : CompScope X scope N src) (hi : PI X tg iter wi)
    (hg : ∀ s H cl C fp, PG (cxC X s H scope cl C N fp) tg g) (hf : ∀ s H cl C fp, PIf (cxC X s H scope cl C N fp) ifs tc) (he : ∀ s H cl C fp, PE (cxC X s H scope cl C N fp) elt te)
    (hs : ∀ x, foldedSetIterable iter X.env x = pure x) (I : Inv X pins σ H s) (h : tComp src wi g tc te σ H Q)
    (fin : ∀ (C a : Addr) (H1 : Hp) (s' : Shared), (∀ h', Heap.SameBut C s'.heap h' → Inv X pins σ H1 { s' with heap := h' }) → FpOk X pins H1 C → (∃ m, s'.heap.Ns C m) → Q (.ref a) H1 → compPost (model X.prog X.w) X.A X.xe use Post (.ref a) C (.ok .next) s') :
    wpAny (model X.prog X.w) X.A (comprehension (.ListComp elt [⟨tg, iter, ifs, 0⟩] scope pos) scope X.env pos2 (newList []) false (eval iter X.env) use) Post X.xe s := by
  obtain ⟨cl, hcl, cl1, cl2⟩ := closure_of (scope := scope) (env := X.env) (fun x hx => I.ok.has x (S.has x hx))
  refine wpAny_comprehension_free (use := use) rfl hs hcl S.kind S.own (thn (hi pins s σ H _ I h) fun v s1 h1 => thn h1 fun itv s2 h2 => ?_)
  obtain ⟨it, fp, tn, J, H2, rfl, I2, T, st2, f2, W, ⟨m0, w0⟩, turn⟩ := h2
  refine wpAny_newObj_type (new_around fun h3 hns hsb cok => ?_)
  dsimp only at hns hsb cok ⊢
  generalize hHd : s2.heap.push { cls := .type "list", dict := none, data := .seq ([] : List Value).toArray } = Hd at hns hsb cok ⊢
  have hCs : Hd.objs.size = s2.heap.objs.size + 1 := by rw [← hHd, Heap.size_push]
  have hDC : s2.heap.objs.size ≠ Hd.objs.size := by rw [hCs]; exact Nat.ne_of_lt (Nat.lt_succ_self _)
  have below : ∀ b, b < s2.heap.objs.size → b ≠ Hd.objs.size ∧ b ≠ s2.heap.objs.size := fun b hb => ⟨by rw [hCs]; exact Nat.ne_of_lt (Nat.lt_succ_of_lt hb), Nat.ne_of_lt hb⟩
  have old : ∀ b o, s2.heap.get? b = some o → h3.get? b = some o := fun b o e => hsb b o (hHd ▸ Heap.get?_push_of_some _ e)
  have hacc : h3.get? s2.heap.objs.size = some { cls := .type "list", dict := none, data := .seq ([] : List Value).toArray } := hsb _ _ (hHd ▸ Heap.get?_push_size _ rfl)
  have fpObj := T.obj 0 _ st2
  have fpLt : ∀ b ∈ fp, b < s2.heap.objs.size := fun b hb => by
    obtain ⟨o, e, _⟩ := fpObj b hb
    exact Heap.lt_size e
  generalize hown : cellsFrom (Hd.objs.size + 1) scope.names [] = own at cok ⊢
  have ownC : ∀ x c, (x, c) ∈ own → scope.names.lookup x = some .cell := fun x c hm => by
    rw [← hown] at hm
    rcases cellsFrom_mem _ _ _ _ _ hm with z | z
    · exact nomatch z
    · exact S.cells _ z rfl
  have two : ∀ x c, (own ++ cl).lookup x = some c → (cl.lookup x = some c ∧ c < s2.heap.objs.size) ∨ ((x, c) ∈ own ∧ h3.IsCell c none ∧ Hd.objs.size < c) := fun x c e => by
    rw [List.lookup_append] at e
    cases ho : own.lookup x with
    | none =>
      rw [ho, Option.none_or] at e
      obtain ⟨v, q⟩ := I2.cell x c (cl1 x c e)
      exact .inl ⟨e, q.lt⟩
    | some c' =>
      rw [ho, Option.some_or] at e
      cases e
      have hm := mem_of_lookup ho
      exact .inr ⟨hm, (cok.empty x c hm).1, (cok.empty x c hm).2⟩
  have cellNe : ∀ x c, (own ++ cl).lookup x = some c → c ≠ s2.heap.objs.size ∧ ∀ b ∈ fp, c ≠ b := fun x c e => by
    rcases two x c e with ⟨e, lt⟩ | ⟨_, _, lt⟩
    · exact ⟨Nat.ne_of_lt lt, fun b hb => (f2 b hb).2.2.2.2.1 x c (cl1 x c e)⟩
    · rw [hCs] at lt
      exact ⟨Nat.ne_of_gt (Nat.lt_trans (Nat.lt_succ_self _) lt), fun b hb => Nat.ne_of_gt (Nat.lt_trans (fpLt b hb) (Nat.lt_trans (Nat.lt_succ_self _) lt))⟩
  have fresh : ∀ a, s2.heap.objs.size ≤ a → s2.heap.get? a = none := fun a ha => by
    cases e : s2.heap.get? a with
    | none => rfl
    | some o' => exact absurd (Heap.lt_size e) (Nat.not_lt.mpr ha)
  -- the context
  have okY : (cxC X s2 H2 scope (own ++ cl) Hd.objs.size N fp).Ok := by
    refine ⟨I2.ok.mod, S.kind, I2.ok.glob, I2.ok.blt, ?_, ?_, ?_, ?_, fun hcc => I2.ok.hd hcc, I2.ok.frames, .inl rfl, fun b hb => ⟨(below b (fpLt b hb)).1, fun x c e => (cellNe x c e).2 b hb⟩,
      I2.bs, Nat.le_trans I2.ok.bsz I2.sz, fun b o e hb => ?_, fun b hb z => (List.mem_cons.mp (I2.stkSub b z)).elim (f2 b hb).2.1 (f2 b hb).2.2.1, I2.stack, I2.stkFree⟩
    · show s2.heap.objs.size ≤ Hd.objs.size
      rw [hCs]; exact Nat.le_succ _
    · intro x y c e1 e2
      rcases two x c e1 with ⟨e1, l1⟩ | ⟨m1, _, l1⟩ <;> rcases two y c e2 with ⟨e2, l2⟩ | ⟨m2, _, l2⟩
      · exact I2.ok.inj x y c (cl1 x c e1) (cl1 y c e2)
      · rw [hCs] at l2; exact absurd (Nat.lt_trans l1 (Nat.lt_trans (Nat.lt_succ_self _) l2)) (Nat.lt_irrefl _)
      · rw [hCs] at l1; exact absurd (Nat.lt_trans l2 (Nat.lt_trans (Nat.lt_succ_self _) l1)) (Nat.lt_irrefl _)
      · exact name_of_addr cok.apart m1 m2
    · intro x hx
      show ∃ c, (own ++ cl).lookup x = some c
      rw [List.lookup_append]
      cases ho : own.lookup x with
      | some c => exact ⟨c, rfl⟩
      | none =>
        rw [Option.none_or]
        rcases relabel_cell hx with z | z
        · exact cl2 x z
        · have := PySem.W.cellsFrom_some scope.names (Hd.objs.size + 1) [] (.inl (S.cells _ z rfl))
          rw [hown, ho] at this
          cases this
    · intro x c hf e
      have hf' : scope.names.lookup x = some .cell := by simpa [cxC] using hf
      have := PySem.W.cellsFrom_some scope.names (Hd.objs.size + 1) [] (.inl hf')
      rw [hown] at this
      obtain ⟨c', ho⟩ := Option.isSome_iff_exists.mp this
      have e' : (own ++ cl).lookup x = some c := e
      rw [List.lookup_append, ho, Option.some_or] at e'
      cases e'
      have := (cok.empty x c (mem_of_lookup ho)).2
      show s2.heap.objs.size ≤ c
      rw [hCs] at this
      omega
    · rcases (f2 b hb).2.2.2.1 with z | z
      · exact I2.ok.noex b o e z
      · exact absurd (Nat.lt_of_lt_of_le (Heap.lt_size e) (Nat.le_trans I2.ok.bsz z)) (Nat.lt_irrefl _)
  have IY : Inv (cxC X s2 H2 scope (own ++ cl) Hd.objs.size N fp) [] (seen σ src) H2 { s2 with heap := h3 } := by
    refine ⟨okY, rfl, I2.bare, Un.kept old, ⟨_, hns, fun i x v e1 e2 _ => ?_⟩, fun x c e => ?_, I2.hok.fresh (by show s2.heap.objs.size ≤ Hd.objs.size; rw [hCs]; exact Nat.le_succ _), ?_, fun p hp => (nomatch hp), I2.hok.kept old, ?_⟩
    · unfold seen at e2
      rw [List.getElem?_map] at e2
      cases hsr : src[i]? with
      | none => rw [hsr] at e2; cases e2
      | some oj =>
        rw [hsr] at e2
        cases oj with
        | none => cases e2
        | some j =>
          obtain ⟨hN, hfr, hlk⟩ := S.src i j x hsr e1
          have e3 : σ[j]? = some (some v) := by
            have : (σ[j]?).join = some v := Option.some.inj e2
            cases hj : σ[j]? with
            | none => rw [hj] at this; cases this
            | some o => rw [hj] at this; cases this; rfl
          have hk := S.has x hfr
          have vis : Vis X.env.scope x := by
            rcases hk with z | z
            · exact .inr (.inl z)
            · exact .inr (.inr z)
          obtain ⟨m, hnm, hl⟩ := I2.loc
          obtain ⟨u, r, l⟩ := hl j x v hN e3 vis
          refine ⟨u, r, .inr ⟨lookup_relabel_free hlk, ?_⟩⟩
          rcases l with ⟨l1, _⟩ | ⟨_, c, ec, ic⟩
          · rcases hk with z | z <;> (rw [l1] at z; cases z)
          · obtain ⟨c', ec'⟩ := cl2 x hfr
            have := cl1 x c' ec'
            rw [ec] at this
            cases this
            obtain ⟨o, ho, hd⟩ := ic
            have hno : own.lookup x = none := by
              cases ho : own.lookup x with
              | none => rfl
              | some c2 =>
                have := ownC x c2 (mem_of_lookup ho)
                rw [hlk] at this
                cases this
            exact ⟨c, by show (own ++ cl).lookup x = some c; rw [List.lookup_append, hno, Option.none_or]; exact ec', o, old _ _ ho, hd⟩
    · rcases two x c e with ⟨e, _⟩ | ⟨_, q, _⟩
      · obtain ⟨v, o, ho, hd⟩ := I2.cell x c (cl1 x c e)
        exact ⟨v, o, old _ _ ho, hd⟩
      · exact ⟨none, q⟩
    · intro x c e
      rcases two x c e with ⟨e, _⟩ | ⟨_, _, lt⟩
      · exact I2.freeC x c (cl1 x c e)
      · exact I2.hok.fresh (by rw [hCs] at lt; omega)
    · show (seen σ src).length = N.length
      unfold seen
      rw [List.length_map, S.len]
  have dFs : s2.heap.objs.size ∉ frs X.stack := fun z => by
    obtain ⟨_, o, ho, _⟩ := I2.stack.mem z
    exact absurd (Heap.lt_size ho) (Nat.lt_irrefl _)
  have cFs : Hd.objs.size ∉ frs X.stack := fun z => by
    obtain ⟨_, o, ho, _⟩ := I2.stack.mem z
    have z2 := Heap.lt_size ho
    rw [hCs] at z2
    exact absurd z2 (Nat.not_lt.mpr (Nat.le_succ _))
  have stat : ∀ {H' : Hp} {pn : List (Addr × Obj)}, (∀ b ∈ fp, H' b = none) → (∀ p ∈ pn, p.1 = s2.heap.objs.size) → ∀ b ∈ fp, FpOk (cxC X s2 H2 scope (own ++ cl) Hd.objs.size N fp) pn H' b := fun hn hp b hb =>
    ⟨hn b hb, (below b (fpLt b hb)).1, okY.exfs b hb, .inl hb, fun x c e => (cellNe x c e).2 b hb, fun p q z => (below b (fpLt b hb)).2 (z ▸ hp p q)⟩
  have loop : ∀ sA : Shared, sA = { s2 with heap := h3 } →
      codeAny (model X.prog X.w) X.A (.compLoop (.ListComp elt [⟨tg, iter, ifs, 0⟩] scope pos) 0 (.ref it) (.ref s2.heap.objs.size) (compEnvC scope (own ++ cl) Hd.objs.size X.env))
        (compPost (model X.prog X.w) X.A X.xe use Post (.ref s2.heap.objs.size) Hd.objs.size) sA := by
    rintro sA rfl
    refine compLoop_any (fun n s' => ∃ (i : Nat) (ys : List V) (its : List Value) (k : Nat) (σ3 : St) (H3 : Hp), Inv (cxC X s2 H2 scope (own ++ cl) Hd.objs.size N fp) [] σ3 H3 s' ∧ Weak (seen σ src) σ3 ∧ tn i s'.heap ∧ (∀ b ∈ fp, H3 b = none) ∧ W i n ys H3 ∧
        s'.heap.get? s2.heap.objs.size = some { cls := .type "list", data := .seq its.toArray k } ∧ Vals ys its ∧ H3 s2.heap.objs.size = none) ?_ m0
      ⟨0, [], [], 0, _, H2, IY, Weak.refl _, T.keep 0 _ _ st2 (fun b hb o e => old b o e), fun b hb => (f2 b hb).1, w0, hacc, .nil, I2.fresh⟩
    rintro n s3 ⟨i, ys, its, k, σ3, H3, I3, wk, st3, fr3, w3, hD, rv, nD⟩
    have I4 : Inv (cxC X s2 H2 scope (own ++ cl) Hd.objs.size N fp) [] (seen σ src) H3 s3 := I3.weak wk.1.symm wk.2
    have I5 : Inv (cxC X s2 H2 scope (own ++ cl) Hd.objs.size N fp) [(s2.heap.objs.size, { cls := .type "list", data := .seq its.toArray k })] (seen σ src) H3 s3 := I4.pins_of fun p hp => by
      cases List.mem_singleton.mp hp
      exact ⟨hD, nD, hDC, dFs, fun v z => nomatch z⟩
    have one : ∀ p ∈ [((s2.heap.objs.size, { cls := .type "list", data := .seq its.toArray k }) : Addr × Obj)], p.1 = s2.heap.objs.size := fun p hp => by
      cases List.mem_singleton.mp hp
      rfl
    rcases turn i n ys H3 w3 with ⟨stop, hlen, q⟩ | ⟨go, step⟩
    · refine thn (T.done (cxC X s2 H2 scope (own ++ cl) Hd.objs.size N fp) rfl rfl rfl hc i _ s3 _ H3 _ I5 (stat fr3 one) st3 stop) fun r s4 ⟨hr, I6⟩ => ?_
      subst hr
      have hD4 := (I6.pin _ (List.mem_append_right _ (List.mem_singleton.mpr rfl))).1
      obtain ⟨m, hn4, _⟩ := I6.loc
      refine fin Hd.objs.size s2.heap.objs.size (upd H3 s2.heap.objs.size (.lst ys)) s4 (fun h' hsb' => ?_) (I2.fpOk (by rw [hCs]; exact Nat.le_succ _) (by rw [upd_ne (Ne.symm hDC)]; exact I6.free)) ⟨m, hn4⟩ (q _ nD)
      have kp : ∀ b o, b ≠ Hd.objs.size → s4.heap.get? b = some o → h'.get? b = some o := fun b o hb e => (hsb'.2 b hb).trans e
      have neC : ∀ b o, s2.heap.get? b = some o → b ≠ Hd.objs.size := fun b o e => (below b (Heap.lt_size e)).1
      have un : Un (frs X.stack) fp H2 H3 s2.heap h' := by
        have u0 : Un (frs X.stack) fp H2 H3 s2.heap s4.heap := I6.base
        refine ⟨fun b o e n' hb hx => kp b o (neC b o e) (u0.keep b o e n' hb hx), fun b o e n' hb hx => ?_, u0.free, fun b o e hx => ?_, u0.tups, u0.frzs, u0.tbls⟩
        · obtain ⟨sl, e1⟩ := u0.slot b o e n' hb hx
          exact ⟨sl, kp b _ (neC b o e) e1⟩
        · obtain ⟨o', e1⟩ := u0.there b o e hx
          exact ⟨o', kp b o' (neC b o e) e1⟩
      have nC : H3 Hd.objs.size = none := I6.free
      have hok : HOk X.prog X.w H3 h' := fun a o e => (I6.hok a o e).stay (fun b u hb q' => kp b u (fun z => by
        rcases hb with rfl | hb
        · rw [z, nC] at e; cases e
        · rw [z, nC] at hb; cases hb) q') (fun _ q' => q') fun _ _ q' => q'
      have I7 : Inv X pins σ H3 { s4 with heap := h' } := I2.call' (s' := { s4 with heap := h' }) I6.os un hok I6.bare (fun b hb => ⟨(f2 b hb).2.2.2.1, (f2 b hb).2.1, (f2 b hb).2.2.2.2.1, (f2 b hb).2.2.2.2.2⟩)
      have e0 : X.s₀.heap.get? s2.heap.objs.size = none := by
        cases e : X.s₀.heap.get? s2.heap.objs.size with
        | none => rfl
        | some o => exact absurd (Nat.lt_of_lt_of_le (Heap.lt_size e) I2.sz) (Nat.lt_irrefl _)
      have I8 : Inv X pins σ (upd H3 s2.heap.objs.size (.lst ys)) { s4 with heap := h' } := I7.track nD e0 (fun z => Nat.lt_irrefl _ (z ▸ I2.lt)) (fun x c e z => by
        obtain ⟨v, q'⟩ := I2.cell x c e
        exact Nat.lt_irrefl _ (z ▸ q'.lt)) (fun p hp z => Nat.lt_irrefl _ (z ▸ Heap.lt_size (I2.pin p hp).1)) ⟨hlen, its, k, rv, kp _ _ hDC hD4⟩
      exact I8
    · refine thn (T.item (cxC X s2 H2 scope (own ++ cl) Hd.objs.size N fp) rfl rfl rfl hc i _ s3 _ H3 _ I5 (stat fr3 one) st3 go) fun r s4 ⟨u, hr, h4⟩ => ?_
      subst hr
      refine thn h4 fun _ s5 ⟨x, H5, I6, r5, y5, st5, fr5⟩ => ?_
      have I6' := I6.pinned (stat fr5 one) (T.obj _ _ st5)
      refine thn (hg _ _ _ _ _ _ s5 _ H5 x u _ I6' r5 (step x H5 y5)) fun _ s6 ⟨σ6, H6, I7, wk6, q6⟩ => ?_
      refine thn (hf _ _ _ _ _ _ s6 σ6 H6 _ I7 q6) fun ok s7 ⟨H7, I8, q7⟩ => ?_
      have back : ∀ {σ' : St} {H' : Hp} {s' : Shared}, Inv (cxC X s2 H2 scope (own ++ cl) Hd.objs.size N fp) ([(s2.heap.objs.size, { cls := .type "list", data := .seq its.toArray k })] ++ pinsAt fp s5.heap) σ' H' s' →
          tn (i + 1) s'.heap ∧ (∀ b ∈ fp, H' b = none) ∧ s'.heap.get? s2.heap.objs.size = some { cls := .type "list", data := .seq its.toArray k } ∧ H' s2.heap.objs.size = none := fun {σ' H' s'} J => by
        have jD := J.pin (s2.heap.objs.size, { cls := .type "list", data := .seq its.toArray k }) (by simp)
        refine ⟨T.keep _ _ _ st5 fun b hb o e => (J.pin (b, o) (List.mem_append_right _ (List.mem_append_right _ (mem_pinsAt hb e)))).1, fun b hb => ?_, jD.1, jD.2.1⟩
        obtain ⟨o, e, d⟩ := T.obj _ _ st5 b hb
        exact (J.pin (b, o) (List.mem_append_right _ (List.mem_append_right _ (mem_pinsAt hb e)))).2.1
      cases ok with
      | false =>
        rw [if_neg Bool.false_ne_true] at q7
        rw [if_neg Bool.false_ne_true]
        obtain ⟨m', hm, w'⟩ := q7
        obtain ⟨b1, b2, b3, b4⟩ := back I8
        exact ⟨m', hm, i + 1, ys, its, k, σ6, H7, I8.nopins, wk6, b1, b2, w', b3, rv, b4⟩
      | true =>
        rw [if_pos rfl] at q7
        rw [if_pos rfl]
        refine thn (he _ _ _ _ _ _ s7 σ6 H7 _ I8 q7) fun u2 s8 ⟨y, H8, I9, r9, hlt, m', hm, w'⟩ => ?_
        obtain ⟨b1, b2, b3, b4⟩ := back I9
        have hl := rv.length
        refine call_meets F.slot_list_append ⟨_, b3, rfl⟩ F.entry_list_append (F.args_list_append_2 _ _) (PySem.list_append s2.heap.objs.size its.toArray k u2 (by rw [List.size_toArray]; omega)) ⟨b3, ?_⟩
        have qu := PySem.IsL.update b3 (·.push u2)
        rw [show its.toArray.push u2 = (its ++ [u2]).toArray by simp] at qu
        refine ⟨m', hm, i + 1, ys ++ [y], its ++ [u2], _, σ6, H8, ?_, wk6, ?_, b2, w', qu, rv.append (.cons r9 .nil), b4⟩
        · exact I9.nopins.turned (it := s2.heap.objs.size) (fun b o hb e => (Heap.get?_update_other s8.heap (Obj.mapSeq _) (Ne.symm hb)).trans e) b4 hDC (.inr (Nat.le_refl _)) (fun x c e z => (cellNe x c e).1 z) (fun p hp => nomatch hp)
        · exact T.keep _ _ _ b1 fun b hb o e => (Heap.get?_update_other s8.heap (Obj.mapSeq _) ((below b (fpLt b hb)).2.symm)).trans e
  exact codeAny_compStart_list (loop _ rfl) (T.self _ 0 _ _ _ (T.keep 0 _ _ st2 (fun b hb o e => old b o e)) (loop _ rfl))
theorem pe_comp {X : Cx} {elt tg iter : Expr} {ifs : List Expr} {scope : Scope} {pos : Pos} {N : List Str} {src : List (Option Nat)} {wi : TI} {g : TG} {tc : TT} {te : TE} (hc : X.calm = true) (S : CompScope X scope N src) (hi : PI X tg iter wi)
    (hg : ∀ s H cl C fp, PG (cxC X s H scope cl C N fp) tg g) (hf : ∀ s H cl C fp, PIf (cxC X s H scope cl C N fp) ifs tc) (he : ∀ s H cl C fp, PE (cxC X s H scope cl C N fp) elt te)
    (hs : ∀ x, foldedSetIterable iter X.env x = pure x := by intro _; rfl) : PE X (.ListComp elt [⟨tg, iter, ifs, 0⟩] scope pos) (tComp src wi g tc te) := by
  intro pins s σ H Q I h
  rw [eval_ListComp]
  refine comp_core (use := none) hc S hi hg hf he hs I h fun C a H1 s' key _ ⟨m, hn⟩ q => ⟨m, hn, fun h' sb => ⟨.ref a, H1, key h' sb, rfl, q⟩⟩
/-- x = [.. for ..], x a local name on the same row: stored before the block's names are let go -/
theorem ps_setComp {X : Cx} {elt tg iter : Expr} {ifs : List Expr} {scope : Scope} {pos spos pos' : Pos} {x : Str} {i : Nat} {N : List Str} {src : List (Option Nat)} {wi : TI} {g : TG} {tc : TT} {te : TE} (hc : X.calm = true) (S : CompScope X scope N src) (hi : PI X tg iter wi)
    (hg : ∀ s H cl C fp, PG (cxC X s H scope cl C N fp) tg g) (hf : ∀ s H cl C fp, PIf (cxC X s H scope cl C N fp) ifs tc) (he : ∀ s H cl C fp, PE (cxC X s H scope cl C N fp) elt te) (ht : PG X (.Name x pos') (gName i))
    (hsw : swapsWith (.ListComp elt [⟨tg, iter, ifs, 0⟩] scope pos) (some (.Name x pos')) spos.line X.env = pure true := by rfl)
    (hs : ∀ x, foldedSetIterable iter X.env x = pure x := by intro _; rfl) : PS X (.Assign [.Name x pos'] (.ListComp elt [⟨tg, iter, ifs, 0⟩] scope pos) spos) (tAsg (tComp src wi g tc te) (gName i)) := by
  intro pins s σ H D I h
  rw [exec_Assign_Name_used _ _ _ _ hsw]
  refine wpAny_bind (wpAny_standAt (wpAny_bind ?_))
  rw [arm_evalThenUse_ListComp]
  refine wpAny_bind ?_
  refine comp_core (use := some (assign (.Name x pos') X.env)) hc S hi hg hf he hs I h fun C a H1 s' key fp ⟨m, o, es, ep, ho, hd, hk⟩ q => ?_
  have I1 : Inv X pins σ H1 s' := key s'.heap (Heap.SameBut.refl _ _)
  have I2 := I1.pinned (fp := [C]) (fun b hb => by rw [List.mem_singleton.mp hb]; exact fp) (fun b hb => by rw [List.mem_singleton.mp hb]; exact ⟨o, ho, fun v z => by rw [hd] at z; cases z⟩)
  refine thn (ht _ s' σ H1 (.ref a) (.ref a) _ I2 rfl q) fun _ s5 ⟨σ5, H5, I5, q5⟩ => ?_
  have pC := I5.pin (C, o) (List.mem_append_right _ (List.mem_append_right _ (mem_pinsAt (List.mem_singleton.mpr rfl) ho)))
  obtain ⟨f0, f1, f2, f3, f4, f5⟩ := fp
  refine ⟨m, ⟨o, es, ep, pC.1, hd, hk⟩, fun h' sb => ?_⟩
  exact wpAny_pure (wpAny_pure ⟨σ5, H5, I5.unpinned.turned (it := C) (t' := s5.toks) (fun b o' hb e => (sb.2 b hb).trans e) pC.2.1 f1 f3 f4 f5, q5⟩)
/-! ### a scope that is written -/
def compOkB (osc sc : Scope) (oN N : List Str) (src : List (Option Nat)) : Bool :=
  sc.names.all (fun y => decide (y.2 ≠ .cell) || decide (sc.names.lookup y.1 = some .cell)) && sc.names.all (fun y => decide (y.2 ≠ .local) || decide (sc.names.lookup y.1 = some .local)) &&
  sc.names.all (fun y => decide (y.2 ≠ .free) || decide (osc.names.lookup y.1 = some .cell) || decide (osc.names.lookup y.1 = some .free)) && decide (src.length = N.length) &&
  (List.range src.length).all (fun i => match src[i]?, N[i]? with | some (some j), some x => decide (oN[j]? = some x) && decide ((x, NameKind.free) ∈ sc.names) && decide (sc.names.lookup x = some .free) | _, _ => true)
theorem comp_scope {X : Cx} {scope : Scope} {N : List Str} {src : List (Option Nat)} (osc : Scope) (oN : List Str) (e1 : X.env.scope = osc) (e2 : X.N = oN) (c : compOkB osc scope oN N src = true) (k : scope.kind = .function) : CompScope X scope N src := by
  unfold compOkB at c
  simp only [Bool.and_eq_true, List.all_eq_true, decide_eq_true_eq, Bool.or_eq_true] at c
  obtain ⟨⟨⟨⟨c1, c2⟩, c3⟩, c4⟩, c5⟩ := c
  refine ⟨k, fun y hy e => (c1 y hy).resolve_left fun z => z e, fun y hy e => ?_, fun x hx => ?_, c4, fun i j x h1 h2 => ?_⟩
  · rcases c2 y hy with z | z
    · exact absurd e z
    · exact z
  · show X.env.scope.names.lookup x = _ ∨ X.env.scope.names.lookup x = _
    rw [e1]
    rcases c3 (x, .free) hx with (z | z) | z
    · exact absurd rfl z
    · exact .inl z
    · exact .inr z
  · have hi : i < src.length := (List.getElem?_eq_some_iff.mp h1).1
    have z := c5 i (List.mem_range.mpr hi)
    rw [h1, h2] at z
    simp only [Bool.and_eq_true, decide_eq_true_eq] at z
    rw [e2]
    exact ⟨z.1.1, z.1.2, z.2⟩
end L2
/-! EvMore: data read off the abstract heap and compared, any, all; promises of defs in bundles. Behind EvComp. -/
namespace L2
open PySem PySem.Spec PyProof.Rows
/-! ### data -/
mutual
def IsD (K : PySem.W.Frag) (H : Hp) : PyData → V → Prop
  | .none, v => v = .non
  | .bool b, v => v = .bl b
  | .int i, v => v = .int i
  | .str x, v => v = .str x
  | .list ds, v => ∃ a xs, v = .ref a ∧ SqL K H a xs ∧ IsDs K H ds xs
  | .tuple ds, v => ∃ a xs, v = .ref a ∧ SqT K H a xs ∧ IsDs K H ds xs
  | .dict _, _ => False
def IsDs (K : PySem.W.Frag) (H : Hp) : List PyData → List V → Prop
  | [], xs => xs = []
  | d :: ds, xs => ∃ x r, xs = x :: r ∧ IsD K H d x ∧ IsDs K H ds r
end
theorem isTup_reads {h : Heap} {a : Addr} {its : Array Value} (t : IsTup h a its) : ∃ o n, h.get? a = some o ∧ o.cls = .type "tuple" ∧ o.data = .seq its n := by
  obtain ⟨o, ho, hc, n, hd⟩ := t
  exact ⟨o, n, ho, hc, hd⟩
section
variable {X : Cx} {pins : List (Addr × Obj)} {σ : St} {H : Hp} {s : Shared}
mutual
theorem IsD.reads (I : Inv X pins σ H s) : ∀ (d : PyData) {v : V} {u : Value}, IsD X.K H d v → RelV v u → ∃ as, Reads s.heap u d as
  | .none, v, u, h, r => by
    simp only [IsD] at h; subst h
    cases (show u = .none from r); exact ⟨_, .none⟩
  | .bool b, v, u, h, r => by
    simp only [IsD] at h; subst h
    cases (show u = .bool b from r); exact ⟨_, .bool b⟩
  | .int i, v, u, h, r => by
    simp only [IsD] at h; subst h
    obtain ⟨t, rfl⟩ := r; exact ⟨_, .int i t⟩
  | .str x, v, u, h, r => by
    simp only [IsD] at h; subst h
    obtain ⟨t, rfl⟩ := r; exact ⟨_, .str x t⟩
  | .list ds, v, u, h, r => by
    simp only [IsD] at h
    obtain ⟨a, xs, rfl, hs, hd⟩ := h
    cases (show u = .ref a from r)
    obtain ⟨its, rv, p, _⟩ := I.list hs
    obtain ⟨o, ho, hc, n, hdd⟩ := p.isList
    obtain ⟨as, ra⟩ := IsDs.reads I ds hd rv
    exact ⟨_, .list ho hc hdd (by simpa using ra)⟩
  | .tuple ds, v, u, h, r => by
    simp only [IsD] at h
    obtain ⟨a, xs, rfl, hs, hd⟩ := h
    cases (show u = .ref a from r)
    obtain ⟨its, rv, p, _⟩ := I.tuple hs
    obtain ⟨o, n, ho, hc, hdd⟩ := isTup_reads p
    obtain ⟨as, ra⟩ := IsDs.reads I ds hd rv
    exact ⟨_, .tuple ho hc hdd (by simpa using ra)⟩
  | .dict _, v, u, h, r => by
    simp only [IsD] at h
theorem IsDs.reads (I : Inv X pins σ H s) : ∀ (ds : List PyData) {vs : List V} {us : List Value}, IsDs X.K H ds vs → Vals vs us → ∃ as, ReadsAll s.heap us ds as
  | [], vs, us, h, r => by
    simp only [IsDs] at h; subst h
    cases r; exact ⟨_, .nil⟩
  | d :: ds, vs, us, h, r => by
    simp only [IsDs] at h
    obtain ⟨x, rr, rfl, hx, hr⟩ := h
    cases r with
    | cons r1 r2 =>
      obtain ⟨as, ra⟩ := IsD.reads I d hx r1
      obtain ⟨bs, rb⟩ := IsDs.reads I ds hr r2
      exact ⟨_, .cons ra rb⟩
end
end
mutual
theorem IsD.imp {K : PySem.W.Frag} {H H' : Hp} (sl : ∀ a xs, SqL K H a xs → SqL K H' a xs) (st : ∀ a xs, SqT K H a xs → SqT K H' a xs) : ∀ (d : PyData) {v : V}, IsD K H d v → IsD K H' d v
  | .none, v, h => by simp only [IsD] at h ⊢; exact h
  | .bool b, v, h => by simp only [IsD] at h ⊢; exact h
  | .int i, v, h => by simp only [IsD] at h ⊢; exact h
  | .str x, v, h => by simp only [IsD] at h ⊢; exact h
  | .list ds, v, h => by
    simp only [IsD] at h ⊢
    obtain ⟨a, xs, e, hs, hd⟩ := h
    exact ⟨a, xs, e, sl a xs hs, IsDs.imp sl st ds hd⟩
  | .tuple ds, v, h => by
    simp only [IsD] at h ⊢
    obtain ⟨a, xs, e, hs, hd⟩ := h
    exact ⟨a, xs, e, st a xs hs, IsDs.imp sl st ds hd⟩
  | .dict _, v, h => by simp only [IsD] at h
theorem IsDs.imp {K : PySem.W.Frag} {H H' : Hp} (sl : ∀ a xs, SqL K H a xs → SqL K H' a xs) (st : ∀ a xs, SqT K H a xs → SqT K H' a xs) : ∀ (ds : List PyData) {vs : List V}, IsDs K H ds vs → IsDs K H' ds vs
  | [], vs, h => by simp only [IsDs] at h ⊢; exact h
  | d :: ds, vs, h => by
    simp only [IsDs] at h ⊢
    obtain ⟨x, r, e, hx, hr⟩ := h
    exact ⟨x, r, e, IsD.imp sl st d hx, IsDs.imp sl st ds hr⟩
end
/-! ### == and != of data -/
def rEqD (K : PySem.W.Frag) (neg : Bool) : R2 := fun x y H Q => ∃ da db, IsD K H da x ∧ IsD K H db y ∧ PySem.SeqAt.shaped da = true ∧ PySem.SeqAt.shaped db = true ∧ Q (.bl (if neg then !PyData.eqv da db else PyData.eqv da db)) H
theorem op_eqD {X : Cx} (hu : X.A.units + 64 < cLine) : OpR X (compareOp .Eq) (rEqD X.K false) := by
  intro pins s σ H x y v u Q I rx ry h
  obtain ⟨da, db, ha, hb, sa, sb, q⟩ := h
  obtain ⟨as, ra⟩ := IsD.reads I da ha rx
  obtain ⟨bs, rb⟩ := IsD.reads I db hb ry
  exact PySem.SeqAt.compareEq_shaped ra rb sa sb hu ⟨.bl _, H, I, rfl, q⟩
theorem op_neD {X : Cx} (hu : X.A.units + 64 < cLine) : OpR X (compareOp .NotEq) (rEqD X.K true) := by
  intro pins s σ H x y v u Q I rx ry h
  obtain ⟨da, db, ha, hb, sa, sb, q⟩ := h
  obtain ⟨as, ra⟩ := IsD.reads I da ha rx
  obtain ⟨bs, rb⟩ := IsD.reads I db hb ry
  exact PySem.SeqAt.compareNe_shaped ra rb sa sb hu ⟨.bl _, H, I, rfl, q⟩
/-! ### any, all -/
theorem bools_of : ∀ {bs : List Bool} {us : List Value}, Vals (bs.map V.bl) us → LSm.BoolsAre us bs
  | [], _, .nil => .nil
  | b :: bs, _, .cons h t => by
    cases (show _ = Value.bool b from h)
    exact .cons b (bools_of t)
theorem call_all {X : Cx} (hc : X.calm = true) : CallR X (.builtin "all") (fun xs H Q => ∃ (a : Addr) (bs : List Bool), xs = [.ref a] ∧ SqL X.K H a (bs.map V.bl) ∧ Q (.bl (bs.all id)) H) := by
  intro pins s σ H xs us Q I r h
  obtain ⟨a, bs, rfl, hS, q⟩ := h
  obtain ⟨u, rfl, ru⟩ := r.one
  cases (show u = Value.ref a from ru)
  obtain ⟨its, rv, p, _⟩ := I.list hS
  have hl := p.isList
  have hb := bools_of rv
  have hlt : a < s.heap.objs.size := by obtain ⟨_, e, _⟩ := hl; exact Heap.lt_size e
  refine call_all_walk (wpAny_pyIter_list hl ?_)
  refine ⟨s.heap.objs.size, [s.heap.objs.size, a], [s.heap.objs.size], its.toArray.size, _, _, fun i => (bs[i]?).getD true, rfl, Walks.list (A := X.A.in1) (I.ok.hd hc) _ a (Nat.ne_of_lt hlt) its.toArray,
    ⟨⟨_, Heap.get?_push_size _ rfl, rfl, rfl⟩, hl.push _⟩, fun i v s' Q' E' hP hQ => ?_, fun h' tk hk => ?_⟩
  · obtain ⟨b, e, rfl⟩ := hb.get i v (by simpa using hP)
    simp only [e, Option.getD_some] at hQ
    exact wpAny_truthy_bool hQ
  · have e : ((List.range its.toArray.size).all fun i => (bs[i]?).getD true) = bs.all id := by
      rw [List.size_toArray, hb.length]; exact LSm.range_all bs
    rw [e]
    exact ⟨.bl _, H, I.kept (LSm.kept_iter hk), rfl, q⟩
/-! ### a def with its promise, in one -/
def Pm (P : Program) (w : World) (K : PySem.W.Frag) (mg : Str → Option Value) (base : Heap) (CX : CXT) (k : Nat) (x : Str) (ps : List Str) (sp : Sp) : Prop :=
  ∃ (f : Addr) (fd : FuncData), mg x = some (.ref f) ∧ PySem.W.keepIn K (.ref f) = true ∧ Binds K fd ps [] ∧ FnOk P w K mg base CX k f fd ps sp
theorem pe_callP {X : Cx} {CX : CXT} {k : Nat} {x : Str} {ps : List Str} {sp : Sp} {E : XK} {p pos : Pos} {e : Expr} {es : List Expr} {t : TA} (h : Pm X.prog X.w X.K X.mg X.base CX k x ps sp) (hr : Room k X.A) (hg : Gl X x) (hx : Passes CX X E) (ha : PA X (e :: es) t)
    (hdb : (x == ("__debug__" : Str)) = false := by decide) (he : starEach (e :: es) X.env = (false, eval e X.env) :: starEach es X.env := by rfl) (hpl : (backTo pos (starEach es X.env)).any (·.1) = false := by rfl) :
    PE X (.Call (.Name x p) (e :: es) [] pos) (tCall sp [] E t) := by
  obtain ⟨f, fd, hm, hk, hb, F⟩ := h
  exact pe_call F hr hg hm hk hb .nil hx ha hdb he hpl
end L2
/-! EvQ: made by mkq.py. The rules over structures. -/
namespace L2
open PySem PySem.Spec PyProof.Rows
set_option autoImplicit true
set_option relaxedAutoImplicit true
structure QE (X : Cx) (e : Expr) (t : TE) : Prop where
  h : PE X e t
structure QT (X : Cx) (e : Expr) (t : TT) : Prop where
  h : PT X e t
structure QW (X : Cx) (e : Expr) (t : TT) : Prop where
  h : PW X e t
structure QA (X : Cx) (e : List Expr) (t : TA) : Prop where
  h : PA X e t
structure QS (X : Cx) (e : Stmt) (t : TS) : Prop where
  h : PS X e t
structure QSs (X : Cx) (e : List Stmt) (t : TS) : Prop where
  h : PSs X e t
structure QGs (X : Cx) (e : List Expr) (t : TGs) : Prop where
  h : PGs X e t
structure QG (X : Cx) (e : Expr) (t : TG) : Prop where
  h : PG X e t
structure QIf (X : Cx) (e : List Expr) (t : TT) : Prop where
  h : PIf X e t
structure QO (X : Cx) (e : Option Expr) (t : TO) : Prop where
  h : PO X e t
structure QI (X : Cx) (tg iter : Expr) (t : TI) : Prop where
  h : PI X tg iter t
theorem QW.pt {X : Cx} {e : Expr} {t : TT} (k : QW X e t) : QT X e t := ⟨k.h.pt⟩
theorem qe_int {i j pos} : QE X (.Constant (.int i) j pos) (tC (.int i)) := ⟨pe_int ⟩
theorem qe_bl {b j pos} : QE X (.Constant (.bool b) j pos) (tC (.bl b)) := ⟨pe_bl ⟩
theorem qe_str {x j pos} : QE X (.Constant (.str x) j pos) (tC (.str x)) := ⟨pe_str ⟩
theorem qe_glob {x : Str} {v : V} {u : Value} {pos : Pos} (hg : Gl X x) (hm : X.mg x = some u) (r : RelV v u) (hd : (x == ("__debug__" : Str)) = false := by decide) : QE X (.Name x pos) (tC v) := ⟨pe_glob (hg) (hm) (r) (hd)⟩
theorem qe_bltn {x : Str} {v : V} {u : Value} {pos : Pos} (hg : Gl X x) (hm : X.mg x = none) (hv : bootBuiltins x = some u) (r : RelV v u) (hn : x ≠ "__name__" := by decide) (hd : (x == ("__debug__" : Str)) = false := by decide) : QE X (.Name x pos) (tC v) := ⟨pe_bltn (hg) (hm) (hv) (r) (hn) (hd)⟩
theorem qt_val {e : Expr} {t : TE} (h : QE X e t) (he : ∀ whole, isTrue e X.env whole = (do let v ← whole; standAt e.pos; holding [v] (truthy v)) := by intro _; rfl) : QT X e (tB t) := ⟨pt_val h.h (he)⟩
theorem qw_and1 (ha : QT X a tA) : QW X (.BoolOp .And [a] pos) tA := ⟨pw_and1 ha.h⟩
theorem qw_or1 (ha : QT X a tA) : QW X (.BoolOp .Or [a] pos) tA := ⟨pw_or1 ha.h⟩
theorem qw_and (ha : QT X a tA) (hb : QW X (.BoolOp .And (b :: restq) pos) tB') : QW X (.BoolOp .And (a :: b :: restq) pos) (tAnd tA tB') := ⟨pw_and ha.h hb.h⟩
theorem qw_or (ha : QT X a tA) (hb : QW X (.BoolOp .Or (b :: restq) pos) tB') : QW X (.BoolOp .Or (a :: b :: restq) pos) (tOr tA tB') := ⟨pw_or ha.h hb.h⟩
theorem qt_not (ha : QT X a tA) : QT X (.UnaryOp .Not a pos) (tNot tA) := ⟨pt_not ha.h⟩
theorem qe_one {op} {t : TE} (h : QE X a t) : QE X (.BoolOp op [a] pos) t := ⟨pe_one h.h⟩
theorem qe_and (ha : QE X a ta) (hb : QE X (.BoolOp .And (b :: restq) pos) tb) : QE X (.BoolOp .And (a :: b :: restq) pos) (tAndV ta tb) := ⟨pe_and ha.h hb.h⟩
theorem qe_not (ha : QE X a ta) : QE X (.UnaryOp .Not a pos) (tNotV ta) := ⟨pe_not ha.h⟩
theorem qss_nil  : QSs X [] tNext := ⟨pss_nil ⟩
theorem qss_cons (h1 : QS X stq t) (h2 : QSs X restq u) : QSs X (stq :: restq) (tSeq t u) := ⟨pss_cons h1.h h2.h⟩
theorem qss_one (h1 : QS X stq t) : QSs X [stq] t := ⟨pss_one h1.h⟩
theorem qs_expr (he : QE X e te) (hs : swapsWith e none pos.line X.env = pure false := by rfl) : QS X (.Expr e pos) (tDrop te) := ⟨ps_expr he.h (hs)⟩
theorem qs_ret (he : QE X e te) : QS X (.Return (some e) pos) (tRet te) := ⟨ps_ret he.h⟩
theorem qs_if {c : Expr} {a b : List Stmt} {tc : TT} (hc : QT X c tc) (ha : QSs X a t) (hb : QSs X b u) : QS X (.If c a b pos) (tIfS tc t u) := ⟨ps_if hc.h ha.h hb.h⟩
theorem qg_name {i : Nat} {x : Str} (hN : X.N.Nodup) (hiq : X.N[i]? = some x) (hx : Loc X.env.scope x) (hf : X.fn x = true ∨ X.env.scope.names.lookup x = some .local := by first | exact .inl rfl | exact .inr rfl | assumption) : QG X (.Name x pos) (gName i) := ⟨pg_name (hN) (hiq) (hx) (hf)⟩
theorem qgs_nil  : QGs X [] gNil := ⟨pgs_nil ⟩
theorem qgs_cons {e : Expr} {es : List Expr} {t : TG} {u : TGs} (h1 : QG X e t) (h2 : QGs X es u) (hs : (assignEach (e :: es) X.env).map (·.2) = assign e X.env :: (assignEach es X.env).map (·.2) := by rfl) : QGs X (e :: es) (gCons t u) := ⟨pgs_cons h1.h h2.h (hs)⟩
theorem qg_tup {es : List Expr} {k : Nat} {t : TGs} {n : Nat} (hc : X.calm = true) (h : QGs X es t) (hn : (assignEach es X.env).length = n := by rfl) (hst : (assignEach es X.env).findIdx? (·.1) = none := by rfl) : QG X (.Tuple es k pos) (gTup X.K n t) := ⟨pg_tup (hc) h.h (hn) (hst)⟩
theorem qs_set {i : Nat} {x : Str} {e : Expr} {te : TE} {pos' : Pos} (hN : X.N.Nodup) (hiq : X.N[i]? = some x) (hx : Loc X.env.scope x) (he : QE X e te) (hs : swapsWith e (some (.Name x pos')) pos.line X.env = pure false := by rfl) (hf : X.fn x = true ∨ X.env.scope.names.lookup x = some .local := by first | exact .inl rfl | exact .inr rfl | assumption) : QS X (.Assign [.Name x pos'] e pos) (tAsg te (gName i)) := ⟨ps_set (hN) (hiq) (hx) he.h (hs) (hf)⟩
theorem qs_par {i j : Nat} {x y : Str} {a b : Expr} {ta : TA} {px py pt : Pos} {kt k2 pt2} (hc : X.calm = true) (hN : X.N.Nodup) (hiq : X.N[i]? = some x) (hj : X.N[j]? = some y) (hij : i ≠ j) (hx : X.env.scope.names.lookup x = some .local) (hy : X.env.scope.names.lookup y = some .local) (ha : QA X [a, b] ta) (hw : swappedStores [.Tuple [.Name x px, .Name y py] kt pt] (.Tuple [a, b] k2 pt2) X.env = pure (some [x, y])) (hs : swapsWithSole [.Tuple [.Name x px, .Name y py] kt pt] (.Tuple [a, b] k2 pt2) pos.line X.env = pure false := by rfl) : QS X (.Assign [.Tuple [.Name x px, .Name y py] kt pt] (.Tuple [a, b] k2 pt2) pos) (tPar i j ta) := ⟨ps_par (hc) (hN) (hiq) (hj) (hij) (hx) (hy) ha.h (hw) (hs)⟩
theorem qs_augS {o i e : Expr} {to ti te : TE} {tget : V → V → Hp → VK → Prop} {tip : TIp} {tset : TSet} {op : Operator} {tpos : Pos} (ho : QE X o to) (hiq : QE X i ti) (hg : PGet X tget) (he : QE X e te) (hp : PIp X op tip) (hs : PSet X tset) (ha : ∀ ov iv new, augStore i ov iv new = (do holding [new, ov, iv] (setItem ov iv new); release [new, ov, iv] []; pure .next) := by intros; rfl) : QS X (.AugAssign (.Subscript o i tpos) op e pos) (tAugS to ti te tget tip tset) := ⟨ps_augS ho.h hiq.h (hg) he.h (hp) (hs) (ha)⟩
theorem qs_while {c : Expr} {body : List Stmt} {tc : TT} {tb : TS} (hp : PassesOwn (model X.prog X.w) X.A X.env X.xe) (hc : QT X c tc) (hb : QSs X body tb) : QS X (.While c body [] pos) (tWhile tc tb) := ⟨ps_while (hp) hc.h hb.h⟩
theorem qi_list {l : Expr} {tl : TE} (hl : QE X l tl) : QI X tg l (iList X.K tl) := ⟨pi_list hl.h⟩
theorem qi_tup {l : Expr} {tl : TE} (hl : QE X l tl) : QI X tg l (iTup X.K tl) := ⟨pi_tup hl.h⟩
theorem qi_range1 {a : Expr} {ta : TA} {p pos : Pos} (hg : Gl X "range") (hm : X.mg "range" = none) (ha : QA X [a] ta) (hs : starEach [a] X.env = [(false, eval a X.env)] := by rfl) : QI X tg (.Call (.Name "range" p) [a] [] pos) (iRng1 ta) := ⟨pi_range1 (hg) (hm) ha.h (hs)⟩
theorem qi_range2 {a b : Expr} {ta : TA} {p pos : Pos} (hg : Gl X "range") (hm : X.mg "range" = none) (ha : QA X [a, b] ta) (hs : starEach [a, b] X.env = [(false, eval a X.env), (false, eval b X.env)] := by rfl) (hs2 : starEach [b] X.env = [(false, eval b X.env)] := by rfl) : QI X tg (.Call (.Name "range" p) [a, b] [] pos) (iRng2 ta) := ⟨pi_range2 (hg) (hm) ha.h (hs) (hs2)⟩
theorem qs_for {iter : Expr} {body : List Stmt} {wi : TI} {g : TG} {tb : TS} {pos : Pos} (hp : PassesOwn (model X.prog X.w) X.A X.env X.xe) (hc : X.calm = true) (hiq : QI X tg iter wi) (hg : QG X tg g) (hb : QSs X body tb) (hs : ∀ x, foldedSetIterable iter X.env x = pure x := by intro _; rfl) : QS X (.For tg iter body [] pos) (tFor wi g tb) := ⟨ps_for (hp) (hc) hiq.h hg.h hb.h (hs)⟩
theorem qe_op {op : Operator} {r : R2} (ho : OpR X (binaryOp op) r) (ha : QE X a ta) (hb : QE X b tb) : QE X (.BinOp a op b pos) (tOp r ta tb) := ⟨pe_op (ho) ha.h hb.h⟩
theorem qe_cmpR {op : CmpOp} {r : R2} (ho : OpR X (compareOp op) r) (ha : QE X a ta) (hb : QE X b tb) (hm : behindInMarks op b = false) : QE X (.Compare a [op] [b] pos) (tOp r ta tb) := ⟨pe_cmpR (ho) ha.h hb.h (hm)⟩
theorem qt_cmpR {op : CmpOp} {r : R2} (ho : OpR X (compareOp op) r) (ha : QE X a ta) (hb : QE X b tb) (hm : behindInMarks op b = false) : QT X (.Compare a [op] [b] pos) (tTest (tOp r ta tb)) := ⟨pt_cmpR (ho) ha.h hb.h (hm)⟩
theorem qe_chain {op op' : CmpOp} {r r' : R2} (ho : OpR X (compareOp op) r) (ho' : OpR X (compareOp op') r') (ha : QE X a ta) (hb : QE X b tb) (hc : QE X c tc) (hm : lastMarks [op, op'] [b, c] = false := by with_unfolding_all rfl) : QE X (.Compare a [op, op'] [b, c] pos) (tChain r r' ta tb tc) := ⟨pe_chain (ho) (ho') ha.h hb.h hc.h (hm)⟩
theorem qa_nil  : QA X [] tNil := ⟨pa_nil ⟩
theorem qe_tup {x1} (h : QA X es t) : QE X (.Tuple es x1 pos) (tTup t) := ⟨pe_tup h.h⟩
theorem qe_lst (h : QA X es t) : QE X (.List es pos) (tLst t) := ⟨pe_lst h.h⟩
theorem qe_callB (hc : CallR X (.builtin idq) r) (hg : Gl X x) (hm : X.mg x = none) (hv : bootBuiltins x = some (.builtin idq)) (ha : QA X (e :: es) t) (hn : x ≠ "__name__" := by decide) (hdb : (x == ("__debug__" : Str)) = false := by decide) (he : starEach (e :: es) X.env = (false, eval e X.env) :: starEach es X.env := by rfl) (hpl : (backTo pos (starEach es X.env)).any (·.1) = false := by rfl) : QE X (.Call (.Name x p) (e :: es) [] pos) (tCB r t) := ⟨pe_callB (hc) (hg) (hm) (hv) ha.h (hn) (hdb) (he) (hpl)⟩
theorem qe_callTy (hc : CallR X (.type T) r) (hg : Gl X x) (hm : X.mg x = none) (hv : bootBuiltins x = some (.type T)) (ha : QA X (e :: es) t) (hn : x ≠ "__name__" := by decide) (hdb : (x == ("__debug__" : Str)) = false := by decide) (he : starEach (e :: es) X.env = (false, eval e X.env) :: starEach es X.env := by rfl) (hpl : (backTo pos (starEach es X.env)).any (·.1) = false := by rfl) : QE X (.Call (.Name x p) (e :: es) [] pos) (tCB r t) := ⟨pe_callTy (hc) (hg) (hm) (hv) ha.h (hn) (hdb) (he) (hpl)⟩
theorem qo_none  : QO X none tNoPart := ⟨po_none ⟩
theorem qo_some (h : QE X e te) : QO X (some e) (tPart te) := ⟨po_some h.h⟩
theorem qe_slice {r : V → Option Int → Option Int → Hp → VK → Prop} (hr : SlR X r) (he : QE X e te) (hl : QO X loq tl) (hu : QO X hiq th) : QE X (.Subscript e (.Slice loq hiq none p2) pos) (tSl r te tl th) := ⟨pe_slice (hr) he.h hl.h hu.h⟩
theorem qe_ix {r : R2} (hr : IxR X r) (ha : QE X a ta) (hb : QE X b tb) (hs : PlainIx b) : QE X (.Subscript a b pos) (tOp r ta tb) := ⟨pe_ix (hr) ha.h hb.h (hs)⟩
theorem qe_bm (pa : PlainAttrs T) (slot : Slot T nameq idq) (hty : typeOf (.builtin idq) = pure (.type "method_descriptor")) (hm : MtR X idq r) (ho : QE X o to) (ha : QA X (e :: es) t) (hbase : attributeBase o nameq X.env (eval o X.env) = eval o X.env := by rfl) (hfew : ((backTo cpos (starEach (e :: es) X.env)).all (fun x => !x.1) && (backToKw cpos (keywordEach [] X.env)).all (fun x => x.1.isSome)
      && decide ((e :: es).length + ([] : List Keyword).length + (if ([] : List Keyword).isEmpty then 0 else 1) < 30)) = true := by rfl) (hline : (apos.endLine == cpos.line) = true := by rfl) (hs : starEach (e :: es) X.env = (false, eval e X.env) :: starEach es X.env := by rfl) (hplain : (backTo cpos (starEach es X.env)).any (·.1) = false := by rfl) : QE X (.Call (.Attribute o nameq apos) (e :: es) [] cpos) (tBM X.K T r to t) := ⟨pe_bm (pa) (slot) (hty) (hm) ho.h ha.h (hbase) (hfew) (hline) (hs) (hplain)⟩
theorem qv (i : Nat) {x : Str} {pos : Pos} (hN : X.N[i]? = some x := by rfl) (hv : Vis X.env.scope x := by first | exact Or.inl rfl | exact Or.inr (Or.inl rfl) | exact Or.inr (Or.inr rfl)) (hd : (x == ("__debug__" : Str)) = false := by decide) (hcd : (x == ("__classdict__" : Str)) = false := by decide) : QE X (.Name x pos) (tVar i) := ⟨pv (i) (hN) (hv) (hd) (hcd)⟩
theorem qif_nil {X : Cx} : QIf X [] tYes := ⟨pif_nil ⟩
theorem qif_one {X : Cx} {c : Expr} {t : TT} (h : QT X c t) : QIf X [c] t := ⟨pif_one h.h⟩
theorem qe_callP {X : Cx} {CX : CXT} {k : Nat} {x : Str} {ps : List Str} {sp : Sp} {E : XK} {p pos : Pos} {e : Expr} {es : List Expr} {t : TA} (h : Pm X.prog X.w X.K X.mg X.base CX k x ps sp) (hr : Room k X.A) (hg : Gl X x) (hx : Passes CX X E) (ha : QA X (e :: es) t) (hdb : (x == ("__debug__" : Str)) = false := by decide) (he : starEach (e :: es) X.env = (false, eval e X.env) :: starEach es X.env := by rfl) (hpl : (backTo pos (starEach es X.env)).any (·.1) = false := by rfl) : QE X (.Call (.Name x p) (e :: es) [] pos) (tCall sp [] E t) := ⟨pe_callP (h) (hr) (hg) (hx) ha.h (hdb) (he) (hpl)⟩
/-- an argument, by a test that is small -/
def notStar : Expr → Bool
  | .Starred .. => false
  | _ => true
theorem starEach_cons {e : Expr} {es : List Expr} {env : Env} (h : notStar e = true) : starEach (e :: es) env = (false, eval e env) :: starEach es env := by
  cases e <;> first | rfl | cases h
theorem qac {X : Cx} {e : Expr} {es : List Expr} {te : TE} {t : TA} (ha : QE X e te) (hr : QA X es t) (hs : notStar e = true := by rfl) : QA X (e :: es) (tCons te t) := ⟨pa_cons ha.h hr.h (starEach_cons hs)⟩
theorem qe_comp {X : Cx} {elt tg iter : Expr} {ifs : List Expr} {scope : Scope} {pos : Pos} {N : List Str} {src : List (Option Nat)} {wi : TI} {g : TG} {tc : TT} {te : TE} (hc : X.calm = true) (S : CompScope X scope N src) (hi : QI X tg iter wi)
    (hg : ∀ s H cl C fp, QG (cxC X s H scope cl C N fp) tg g) (hf : ∀ s H cl C fp, QIf (cxC X s H scope cl C N fp) ifs tc) (he : ∀ s H cl C fp, QE (cxC X s H scope cl C N fp) elt te)
    (hs : ∀ x, foldedSetIterable iter X.env x = pure x := by intro _; rfl) : QE X (.ListComp elt [⟨tg, iter, ifs, 0⟩] scope pos) (tComp src wi g tc te) :=
  ⟨pe_comp hc S hi.h (fun s H cl C fp => (hg s H cl C fp).h) (fun s H cl C fp => (hf s H cl C fp).h) (fun s H cl C fp => (he s H cl C fp).h) hs⟩
theorem qs_setComp {X : Cx} {elt tg iter : Expr} {ifs : List Expr} {scope : Scope} {pos spos pos' : Pos} {x : Str} {i : Nat} {N : List Str} {src : List (Option Nat)} {wi : TI} {g : TG} {tc : TT} {te : TE} (hc : X.calm = true) (S : CompScope X scope N src) (hi : QI X tg iter wi)
    (hg : ∀ s H cl C fp, QG (cxC X s H scope cl C N fp) tg g) (hf : ∀ s H cl C fp, QIf (cxC X s H scope cl C N fp) ifs tc) (he : ∀ s H cl C fp, QE (cxC X s H scope cl C N fp) elt te) (ht : QG X (.Name x pos') (gName i))
    (hsw : swapsWith (.ListComp elt [⟨tg, iter, ifs, 0⟩] scope pos) (some (.Name x pos')) spos.line X.env = pure true := by rfl)
    (hs : ∀ x, foldedSetIterable iter X.env x = pure x := by intro _; rfl) : QS X (.Assign [.Name x pos'] (.ListComp elt [⟨tg, iter, ifs, 0⟩] scope pos) spos) (tAsg (tComp src wi g tc te) (gName i)) :=
  ⟨ps_setComp hc S hi.h (fun s H cl C fp => (hg s H cl C fp).h) (fun s H cl C fp => (hf s H cl C fp).h) (fun s H cl C fp => (he s H cl C fp).h) ht.h hsw hs⟩
theorem qss_never {X : Cx} {sts : List Stmt} : QSs X sts tNever := ⟨pss_never⟩
/-! ### defs -/
section
variable {P : Program} {w : World} {K : PySem.W.Frag} {mg : Str → Option Value} {base : Heap} {x qual : Str} {st : Stmt} {f : Addr} {fd : FuncData} {N ps : List Str} {k : Nat} {sp : Sp}
theorem Fun.okQ (F : Fun K x qual st f fd) (S : FnScope N ps (defScope st)) (len : ∀ vs H Q E, sp vs H Q E → vs.length = ps.length)
    (hbody : ∀ (cdv : Value) (A : Around) (outer : List Env) (s : Shared) (H : Hp) (vs : List V) (Q : VK) (E : XK), Room k (A.deeper (envOfC qual (defScope st) s.heap.objs.size f cdv)) → sp vs H Q E →
      ∃ t, QSs (cxOf CX0 P w K mg base N qual (defScope st) f cdv A outer s H E).nox (defBody st) t ∧ t { nx := fun _ H' => Q .non H', rt := Q } (start N vs) H) : FnOk P w K mg base CX0 (k + 1) f fd ps sp :=
  F.ok S len fun cdv A outer s H vs Q E hr h => let ⟨t, a, b⟩ := hbody cdv A outer s H vs Q E hr h; ⟨t, a.h, b⟩
end

end L2
/-! EvRange: range with a step. Behind EvQ. -/
namespace L2
open PySem PySem.Spec PyProof.Rows
section
variable {X : Cx} {tg : Expr}
end
theorem comp_rng {lo : Int} {n : Nat} {g : TG} {tc : TT} {te : TE} {σ' : St} {H : Hp} {G : Addr → Hp → List V → Prop} (Pv : Nat → List V → Hp → Prop) (h0 : Pv 0 [] H)
    (hs : ∀ i ys H (N : List V → Hp → Prop), i < n → Pv i ys H → (∀ ys' H', Pv (i + 1) ys' H' → N ys' H') → g (.int (lo + i)) σ' H fun σ2 H4 => Weak σ' σ2 ∧ tc σ2 H4 fun b H5 => if b = true then te σ2 H5 fun y H6 => ys.length < sizeLine ∧ N (ys ++ [y]) H6 else N ys H5)
    (hd : ∀ ys H, Pv n ys H → ys.length ≤ sizeLine ∧ ∀ p, H p = none → G p H ys) :
    ∃ W : Nat → Nat → List V → Hp → Prop, (∃ m, W 0 m [] H) ∧ ∀ i m ys H2, W i m ys H2 →
      ((Itr lo n).stop i H2 ∧ ys.length ≤ sizeLine ∧ ∀ p, H2 p = none → G p H2 ys) ∨
      ((Itr lo n).go i H2 ∧ ∀ x H3, (Itr lo n).yld i H2 x H3 → g x σ' H3 fun σ2 H4 => Weak σ' σ2 ∧ tc σ2 H4 fun b H5 =>
        if b = true then te σ2 H5 fun y H6 => ys.length < sizeLine ∧ ∃ m', m' < m ∧ W (i + 1) m' (ys ++ [y]) H6 else ∃ m', m' < m ∧ W (i + 1) m' ys H5) := by
  refine ⟨fun i m ys H => m = n - i ∧ i ≤ n ∧ Pv i ys H, ⟨n, rfl, Nat.zero_le _, h0⟩, ?_⟩
  rintro i m ys H2 ⟨rfl, hi, p⟩
  by_cases hlt : i < n
  · refine .inr ⟨hlt, fun x H' y => ?_⟩
    obtain ⟨e, rfl⟩ := y
    subst e
    exact hs i ys _ (fun ys' H'' => ∃ m', m' < n - i ∧ m' = n - (i + 1) ∧ i + 1 ≤ n ∧ Pv (i + 1) ys' H'') hlt p (fun ys' H'' p' => ⟨_, by omega, rfl, hlt, p'⟩)
  · have e : i = n := by omega
    subst e
    exact .inl ⟨Nat.le_refl _, hd ys H2 p⟩
end L2
/-! EvMath: the mathematics of primes, by naturals; core alone. -/
namespace EM
/-! ### lists of primes with how often -/
/-! ### plain parts -/
/-! ### roots -/
end EM
/-! EvEuler: Fermat and Euler for a prime, by naturals and ints; core alone. Behind EvMath. -/
namespace EM
/-! ### lists without repeats -/
/-! ### roots of a sum of powers, the highest one once -/
/-! ### Euler -/
/-! ### rests of squares -/
/-! ### powers by squaring -/
/-! ### small primes by looking -/
/-! ### plain parts are told in one way -/
/-! ### what shuts a form -/
/-! ### the plain part by looking -/
/-! ### odd primes by looking -/
end EM
/-! EvBase: what every row of stage 1 shares; no row is named here. Behind EvTry, EvMath. -/
namespace E1
open PySem L2
/-! ### whole numbers by their kinds -/
inductive WholeIs (K : PySem.W.Frag) (H : Hp) : V → Bool → Prop where
  | int (i : Int) : WholeIs K H (.int i) true
  | bl (x : Bool) : WholeIs K H (.bl x) false
  | odd {v : V} {T : String} (ty : TyOf K H v (.type T)) (k : PySem.W.kitOne K (.type T) (.type "int") = some false) : WholeIs K H v false
section
variable (K : PySem.W.Frag)
theorem kit_int_int : PySem.W.kitOne K (.type "int") (.type "int") = some true := by kernel_rfl
theorem kit_int_bool : PySem.W.kitOne K (.type "int") (.type "bool") = some false := by kernel_rfl
theorem kit_bool_int : PySem.W.kitOne K (.type "bool") (.type "int") = some true := by kernel_rfl
theorem kit_bool_bool : PySem.W.kitOne K (.type "bool") (.type "bool") = some true := by kernel_rfl
end
theorem rel_ty {n : String} {K : PySem.W.Frag} {t : Value} {b : Bool} (h : PySem.W.kitOne K t (.type n) = some b) : ∀ u, RelV (.ty n) u → PySem.W.kitOne K t u = some b := fun u r => by
  cases (show u = Value.type n from r)
  exact h
/-! ### the promises -/
def spWhole (K : PySem.W.Frag) : Sp := fun vs H Q _ => ∃ v b, vs = [v] ∧ WholeIs K H v b ∧ Q (.bl b) H
theorem same_new {q : Addr} {H : Hp} {o : HO} (n : H q = none) : Same H (upd H q o) := fun b u h => by rw [upd_ne (ne_of_none h n)]; exact h
theorem abs_nn (i : Int) : 0 ≤ (if i < 0 then -i else i) := by split <;> omega
theorem cut_ints {ns : List Int} {lo hi : Option Int} : ∀ x ∈ cutV (ns.map V.int) lo hi, ∃ z, x = V.int z := fun x hx => by
  unfold cutV at hx
  obtain ⟨z, _, e⟩ := List.mem_map.mp (List.mem_of_mem_drop (List.mem_of_mem_take hx))
  exact ⟨z, e.symm⟩
/-! ### primes as tuples in a list -/
theorem same_upd {H H' : Hp} {l : Addr} {o : HO} (s : Same H H') (hl : H l = none) : Same H (upd H' l o) := fun b u e => by
  rw [upd_ne (ne_of_none e hl)]
  exact s _ _ e
/-! ### primes as data -/
/-! ### forms -/
/-! ### a law's loop over its cells -/
theorem fn_mk {K : PySem.W.Frag} {x : Str} {st : Stmt} {f : Addr} {oc : Value} {od an : Option Addr} {osl : Array (Option Value)} {kV doc pm cdv ct : Value}
    (a : PySem.W.nsIn K mainGlobals x = some (some (.ref f)))
    (l : K.lookup f = some ⟨oc, od, .func (PySem.W.fnOf x x (defArgs st) (defBody st) (defScope st) .none kV doc pm an cdv ct), osl⟩)
    (c : PySem.W.codeIn K cdv x = true) (k : PySem.W.keepIn K (.ref f) = true) :
    ∃ (f : Addr) (fd : FuncData), PySem.W.nsIn K mainGlobals x = some (some (.ref f)) ∧ Fun K x x st f fd := ⟨f, _, a, fun_mk l c k⟩
def spLaw (K : PySem.W.Frag) : Sp := fun vs H Q _ => ∃ (a : Addr) (ns : List Int), vs = [.ref a] ∧ SqL K H a (ns.map V.int) ∧ ns.length ≤ 63 ∧ ∀ H', Q (.bl true) H'
theorem walk {l : PySem.W.OpenLaw} {q : Program} {loose : List Str} {XP : (Str → Option Value) → Heap → Prop} {YP : World → Heap → Prop} {d : DefRec} {K : Params → PySem.W.Frag} {k : Nat} (hr : Room k PySem.callerA) (hn : l.most = some 63) (hdf : d.params.defaults = [])
    (hY : ∀ (w : World) (h : Heap), YP w h → (K w.params).In h)
    (F : ∀ (w : World) (mg : Str → Option Value) (fa : Addr) (h : Heap), (K w.params).In h → h.Ns mainGlobals mg → mg d.name = some (.ref fa) →
      ∃ fd : FuncData, (∀ (s : Shared) (u : Value), BindsTo s fd ⟨[u], []⟩ [("_law_script", u)]) ∧ ∀ base : Heap, (K w.params).In base → base.Ns mainGlobals mg → FnOk l.prog w (K w.params) mg base CX0 k fa fd ["_law_script"] (spLaw (K w.params))) :
    PySem.W.WalkO q loose XP YP l.row.toRowW d [] (fun f vs => PySem.call f vs) :=
  L2.walk_of (n := 63) (k := k) (x := "_law_script") (CX := fun _ => CX0) (sp := fun w => spLaw (K w.params)) hn (by decide) hdf hr hY F (fun _ _ a ns hl _ hS => ⟨a, ns, rfl, hS, hl, fun _ => rfl⟩) fun _ _ _ _ _ z => z
abbrev At (K : PySem.W.Frag) (x : Str) (st : Stmt) : Prop := ∃ (f : Addr) (fd : FuncData), PySem.W.nsIn K mainGlobals x = some (some (.ref f)) ∧ Fun K x x st f fd

end E1
/-! EvLay: rules for sorted numbers, sets of numbers, lists taken so often, turned about, made of a range. Behind EvRange. -/
namespace L2
open PySem PySem.Spec PyProof.Rows
theorem ints_of_vals {ns : List Int} {us : List Value} (r : Vals (ns.map V.int) us) : IntsAre us ns := intsAre_of r
theorem vals_of_ints : ∀ {ns : List Int} {us : List Value}, IntsAre us ns → Vals (ns.map V.int) us
  | _, _, .nil => .nil
  | _, _, .cons n tk t => .cons ⟨tk, rfl⟩ (vals_of_ints t)
/-- sorted(list of numbers) -/
def rSortI (K : PySem.W.Frag) : List V → Hp → VK → Prop := fun xs H Q => ∃ (a : Addr) (ns : List Int), xs = [.ref a] ∧ SqL K H a (ns.map V.int) ∧ ns.length < 64 ∧ ∀ (l : Addr) (ns' : List Int), H l = none → ns'.Perm ns → ns'.Pairwise (· ≤ ·) → Q (.ref l) (upd H l (.lst (ns'.map V.int)))
theorem call_sortI {X : Cx} : CallR X (.builtin "sorted") (rSortI X.K) := by
  intro pins s σ H xs us Q I r h
  obtain ⟨a, ns, rfl, hq, h64, q⟩ := h
  obtain ⟨u, rfl, rx⟩ := vals1 r
  cases rx
  obtain ⟨its, r', pl, hz⟩ := I.list hq
  have hlen := r'.length
  rw [List.length_map] at hlen
  refine sorted_ints pl.isList (ints_of_vals r') (by omega) fun out ns' a1 a2 a3 => ?_
  obtain ⟨e, he⟩ := sortedAll_at s.heap its out
  have hl2 := a2.length_eq
  refine ⟨.ref (s.heap.objs.size + 1), _, I.laid (t' := s.toks) (o := .lst (ns'.map V.int)) (fun b o => sortedAll_old) (Nat.le_succ _) ?_, rfl, q _ _ (I.hok.fresh (Nat.le_succ _)) a2 a3⟩
  refine ⟨by rw [List.length_map, hl2]; exact Nat.le_trans (Nat.le_of_lt h64) (by decide), out.toList, e, vals_of_ints a1, ?_⟩
  rw [Array.toArray_toList]
  exact he
theorem firstMet_nodup {ns : List Int} (h : ns.Nodup) : ∀ i, i ≤ ns.length → firstMet (fun i => ns.getD i 0) i = ns.take i
  | 0, _ => by rw [firstMet_zero, List.take_zero]
  | i + 1, hi => by
    have hlt : i < ns.length := hi
    have ev : ns.getD i 0 = ns[i] := by simp [hlt]
    rw [firstMet_succ, firstMet_nodup h i (Nat.le_of_lt hlt)]
    show step_dedup (ns.take i) (ns.getD i 0) = _
    rw [ev]
    unfold step_dedup
    rw [if_neg]
    · rw [List.take_add_one, List.getElem?_eq_getElem hlt]
      rfl
    · intro z
      obtain ⟨x, hx, e⟩ := List.any_eq_true.mp z
      have e' : x = ns[i] := by simpa using e
      subst e'
      obtain ⟨j, hj, ej⟩ := List.mem_iff_getElem.mp hx
      rw [List.length_take] at hj
      rw [List.getElem_take] at ej
      have := (List.getElem_inj h).mp ej
      omega
theorem firstMet_len_iff {ns : List Int} : (firstMet (fun i => ns.getD i 0) ns.length).length = ns.length ↔ ns.Nodup := by
  constructor
  · intro h
    have key : ∀ i, i ≤ ns.length → ((firstMet (fun i => ns.getD i 0) i).length = i → (ns.take i).Nodup ∧ firstMet (fun i => ns.getD i 0) i = ns.take i) := by
      intro i
      induction i with
      | zero => intro _ _; exact ⟨by simp, by rw [firstMet_zero, List.take_zero]⟩
      | succ i ih =>
        intro hi hl
        have hlt : i < ns.length := hi
        have ev : ns.getD i 0 = ns[i] := by simp [hlt]
        rw [firstMet_succ] at hl ⊢
        have hle := firstMet_length_le (fun i => ns.getD i 0) i
        unfold step_dedup at hl ⊢
        by_cases z : (firstMet (fun i => ns.getD i 0) i).any (· == (fun i => ns.getD i 0) i) = true
        · rw [if_pos z] at hl
          omega
        · rw [if_neg z] at hl ⊢
          rw [List.length_append, List.length_singleton] at hl
          obtain ⟨h1, h2⟩ := ih (Nat.le_of_lt hlt) (by omega)
          have et : ns.take (i + 1) = ns.take i ++ [ns[i]] := by rw [List.take_add_one, List.getElem?_eq_getElem hlt]; rfl
          rw [et]
          refine ⟨?_, by rw [h2]; show _ ++ [ns.getD i 0] = _; rw [ev]⟩
          rw [List.nodup_append]
          refine ⟨h1, by simp, fun a ha b hb e => z ?_⟩
          rw [List.mem_singleton.mp hb] at e
          rw [List.any_eq_true]
          exact ⟨a, h2 ▸ ha, by show (a == ns.getD i 0) = true; rw [ev, e]; simp⟩
    have := (key ns.length (Nat.le_refl _) h).1
    rwa [List.take_length] at this
  · intro h
    rw [firstMet_nodup h _ (Nat.le_refl _), List.take_length]
/-- set(list of numbers): its size -/
def rSetI (K : PySem.W.Frag) : List V → Hp → VK → Prop := fun xs H Q => ∃ (a : Addr) (ns : List Int), xs = [.ref a] ∧ SqL K H a (ns.map V.int) ∧ ns.length ≤ 1000 ∧ ∀ (l : Addr) (S : Int → Bool) (n : Nat), H l = none → (n = ns.length ↔ ns.Nodup) → Q (.ref l) (upd H l (.set S n))
theorem call_setI {X : Cx} (hc : X.calm = true) : CallR X (.type "set") (rSetI X.K) := by
  intro pins s σ H xs us Q I r h
  obtain ⟨a, ns, rfl, hq, h64, q⟩ := h
  obtain ⟨u, rfl, rx⟩ := vals1 r
  cases rx
  obtain ⟨its, r', pl, hz⟩ := I.list hq
  have hlen := r'.length
  rw [List.length_map] at hlen
  refine call_set_list (ns := ns) (I.ok.hd hc) pl.isList (by simpa using ints_of_vals r') (by rw [List.size_toArray, ← hlen]; exact Nat.lt_of_le_of_lt (Nat.succ_le_succ h64) (by decide)) fun h' tk hS kp => ?_
  refine ⟨.ref s.heap.objs.size, _, I.laid (t' := tk) (fun b o e => kp b o (Heap.lt_size e) e) (Nat.le_refl _) (show ObjOk X.prog X.w _ h' _ (.set _ _) from hS), rfl, q _ _ _ (I.hok.fresh (Nat.le_refl _)) ?_⟩
  rw [List.size_toArray, ← hlen]
  exact firstMet_len_iff
theorem call_len_setI {X : Cx} : CallR X (.builtin "len") (fun xs H Q => ∃ (p : Addr) (S : Int → Bool) (n : Nat), xs = [.ref p] ∧ H p = some (.set S n) ∧ Q (.int n) H) := by
  intro pins s σ H xs us Q I r h
  obtain ⟨p, S, n, rfl, hp, q⟩ := h
  obtain ⟨u, rfl, rx⟩ := vals1 r
  cases rx
  obtain ⟨o, es, ep, t, ho, hex, hd, _, _, hb, hf, rfl⟩ := (show s.heap.SetOf (intKind X.prog X.w) p S n from I.hok p _ hp)
  refine call_len_set ho hex hd hf ?_ ⟨.int es.size, H, I.tok _, ⟨_, rfl⟩, q⟩
  have : es.size < 4096 := hb
  omega
/-- list * number -/
def rMulL (K : PySem.W.Frag) : R2 := fun x y H Q => ∃ (a : Addr) (xs : List V) (n : Int), x = .ref a ∧ y = .int n ∧ SqL K H a xs ∧ n < 2 ^ 63 ∧ 0 ≤ n ∧ xs.length * n.toNat ≤ 65536 ∧ ∀ l, H l = none → Q (.ref l) (upd H l (.lst (List.replicate n.toNat xs).flatten))
theorem vals_flat {xs : List V} {us : List Value} (r : Vals xs us) : ∀ n, Vals (List.replicate n xs).flatten (List.replicate n us).flatten
  | 0 => .nil
  | n + 1 => by
    rw [List.replicate_succ, List.replicate_succ, List.flatten_cons, List.flatten_cons]
    exact r.append (vals_flat r n)
theorem op_mulL {X : Cx} : OpR X (binaryOp .Mult) (rMulL X.K) := by
  intro pins s σ H x y v u Q I rx ry h
  obtain ⟨a, xs, n, rfl, rfl, hx, hn, h0, hsz, q⟩ := h
  cases rx
  obtain ⟨tk, rfl⟩ := ry
  obtain ⟨its, r, pl, hz⟩ := I.list hx
  have hlen := r.length
  obtain ⟨⟨oc, od, odt, osl⟩, k, hl, e1, e2, e3⟩ := pl
  dsimp only at e1 e2 e3
  subst e1 e2 e3
  refine wpAny_binaryOp_repeat_ref (T := "list") (U := "int") (by decide) ⟨_, hl, rfl⟩ (fun s' => typeIs_int s' n tk) noFill_list_mul F.fills_int_mul F.slot_int_rmul repeat_list F.slot_int_index.lookup
    (call_meets F.slot_int_rmul (typeIs_int s n tk) F.entry_int_rmul (F.args_int_rmul_2 _ _) (lm_int_rmul_list_any n tk a its.toArray k _ _)
      ⟨hl, rfl, ⟨_, hl, rfl⟩, call_meets F.slot_list_mul ⟨_, hl, rfl⟩ F.entry_list_mul (F.args_list_mul_2 _ _)
        (lm_list_mul_any a its.toArray k _ _ n tk (by simp [Builtin.List.listFitsIndex]; omega) (by rw [List.size_toArray, ← hlen]; omega) (by rw [List.size_toArray, ← hlen]; simp [Builtin.List.listTooLong, sizeLine]; omega))
        ⟨hl, ?_⟩⟩)
  rw [listMul_foldl_if, List.toList_toArray]
  refine ⟨.ref s.heap.objs.size, _, I.laid (t' := s.toks) (o := .lst (List.replicate n.toNat xs).flatten) (fun b ob q => Heap.get?_push_of_some _ q) (Nat.le_refl _) ?_, rfl, q _ (I.hok.fresh (Nat.le_refl _))⟩
  refine ⟨?_, (List.replicate n.toNat its).flatten, 0, vals_flat r _, Heap.get?_push_size _ rfl⟩
  rw [List.length_flatten, List.map_replicate, List.sum_replicate_nat, Nat.mul_comm]
  exact Nat.le_trans hsz (by decide)
/-- a[::-1] -/
def rRev (K : PySem.W.Frag) : V → Hp → VK → Prop := fun x H Q => ∃ (a : Addr) (xs : List V), x = .ref a ∧ SqL K H a xs ∧ ∀ l, H l = none → Q (.ref l) (upd H l (.lst xs.reverse))
def tRev (K : PySem.W.Frag) (te : TE) : TE := fun σ H Q => te σ H fun x H1 => rRev K x H1 Q
theorem vals_rev : ∀ {xs : List V} {us : List Value}, Vals xs us → Vals xs.reverse us.reverse
  | _, _, .nil => .nil
  | _, _, .cons h t => by
    rw [List.reverse_cons, List.reverse_cons]
    exact (vals_rev t).append (.cons h .nil)
theorem pe_rev {X : Cx} {e : Expr} {te : TE} {j : Nat} {p1 p2 p3 pos : Pos} (he : PE X e te) : PE X (.Subscript e (.Slice none none (some (.UnaryOp .USub (.Constant (.int 1) j p1) p2)) p3) pos) (tRev X.K te) := by
  intro pins s σ H Q I h
  refine Subscript_ (thn (he pins s σ H _ I h) fun v s1 ⟨x, H1, I1, r1, q1⟩ => ?_)
  obtain ⟨a, xs, rfl, hx, q⟩ := q1
  cases r1
  refine wpAny_Slice ?_
  rw [evalPart_none]
  refine wpAny_pure ?_
  refine wpAny_pure ?_
  rw [evalPart_some]
  refine thn (pe_un un_neg pe_int pins s1 σ H1 (fun x H' => x = .int (-1) ∧ H' = H1) I1 ⟨1, rfl, rfl, rfl⟩) fun vk s3 ⟨x3, H3, I3, r3, e3, e4⟩ => ?_
  subst e3 e4
  obtain ⟨tk, rfl⟩ := r3
  have I4 : Inv X pins σ H3 { s3 with heap := s3.heap.push { cls := .type "slice", data := .fields #[.none, .none, .int (-1) tk] } } := I3.kept (t' := s3.toks) fun b ob q => Heap.get?_push_of_some _ q
  obtain ⟨its, r, ht, hz⟩ := I4.list hx
  have hlen := r.length
  show wpAny (model X.prog X.w) X.A (subscriptTail e (.Slice none none (some (.UnaryOp .USub (.Constant (.int 1) j p1) p2)) p3) (.ref a) (.ref s3.heap.objs.size)) (EP X pins σ Q) X.xe { s3 with heap := s3.heap.push { cls := .type "slice", data := .fields #[.none, .none, .int (-1) tk] } }
  refine tail_any (ops := [.ref a, .ref s3.heap.objs.size]) ht.isList.typeIs slot_list_getitem.lookup ?_ (by with_unfolding_all rfl)
  refine wpAny_getItem_list_slice ht.isList (Heap.IsSliceOf.new ..) .none .none (.int (-1) tk) (by simp) ?_ (by rw [List.size_toArray] <;> omega)
  rw [PySem.W.krv_pick, List.toList_toArray]
  exact ⟨.ref _, _, I4.laid (t' := s3.toks) (o := .lst xs.reverse) (fun b ob q => Heap.get?_push_of_some _ q) (Nat.le_refl _) ⟨by rw [List.length_reverse]; exact hz, its.reverse, 0, vals_rev r, Heap.get?_push_size _ rfl⟩, rfl, q _ (I4.hok.fresh (Nat.le_refl _))⟩
theorem qe_rev {X : Cx} {e : Expr} {te : TE} {j : Nat} {p1 p2 p3 pos : Pos} (he : QE X e te) : QE X (.Subscript e (.Slice none none (some (.UnaryOp .USub (.Constant (.int 1) j p1) p2)) p3) pos) (tRev X.K te) := ⟨pe_rev he.h⟩
/-! ### enumerate(list) -/
theorem Inv.turnedL {X : Cx} {pins : List (Addr × Obj)} {σ : St} {H : Hp} {s : Shared} {h' : Heap} {t' : Nat} {wr : List Addr} (I : Inv X pins σ H s) (k : ∀ b o, b ∉ wr → s.heap.get? b = some o → h'.get? b = some o) (hf : ∀ b ∈ wr, FpOk X pins H b) : Inv X pins σ H { s with heap := h', toks := t' } := by
  have nit : ∀ b u, H b = some u → b ∉ wr := fun b u e z => by rw [(hf b z).1] at e; cases e
  refine I.step (g' := s.gens) (d' := s.drawn) (ch := wr) (fun b hb => ?_) (fun b o _ _ hc e _ => k b o hc e) (fun b o _ _ hc e _ => ⟨o.slots, k b o hc e⟩) (fun _ _ _ _ n => n) (fun b o hc e => ⟨o, k b o hc e⟩) (fun _ _ e => e) (fun _ _ _ e => e) (fun b ps e => ⟨#[], by rw [e]; simp⟩) (fun m hm => ?_) (fun b u e => ?_) I.bare
  · obtain ⟨_, f1, _, f3, f4, f5⟩ := hf b hb
    exact ⟨f3, f1, f4, f5⟩
  · obtain ⟨o, es, ep, ho, r⟩ := hm
    exact ⟨o, es, ep, k _ o (fun z => (hf _ z).2.1 rfl) ho, r⟩
  · refine (I.hok b u e).stay (fun c v hc q => k c v ?_ q) (fun _ q => q) fun _ _ q => q
    rcases hc with z | z
    · exact z ▸ nit b u e
    · exact nit c _ z
/-- the pairs (number, item) of a list -/
def Ite (K : PySem.W.Frag) (a : Addr) : It :=
  ⟨fun i H => ∃ xs x, SqL K H a xs ∧ xs[i]? = some x, fun i H v H' => ∃ T x, (∀ xs, SqL K H a xs → xs[i]? = some x) ∧ H T = none ∧ v = .ref T ∧ H' = upd H T (.tup [.int (i : Nat), x]), fun i H => ∃ xs, SqL K H a xs ∧ xs.length ≤ i⟩
theorem Inv.tracked {X : Cx} {pins : List (Addr × Obj)} {σ : St} {H : Hp} {s s' : Shared} {T : Addr} {o : HO} (I0 : Inv X pins σ H s) (I : Inv X pins σ H s') (hT : s.heap.objs.size ≤ T) (new : ObjOk X.prog X.w (upd H T o) s'.heap T o) : Inv X pins σ (upd H T o) s' := by
  obtain ⟨f0, f1, f2, f3, f4, f5⟩ := I0.fpOk (H' := H) hT (I0.hok.fresh hT)
  refine I.track f0 ?_ f1 f4 f5 new
  cases e : X.s₀.heap.get? T with
  | none => rfl
  | some ob => exact absurd (Nat.lt_of_lt_of_le (Heap.lt_size e) (Nat.le_trans I0.sz hT)) (Nat.lt_irrefl _)
theorem turn_enum {P : Program} {w : World} {K : PySem.W.Frag} {elts : List Expr} {k : Nat} {tp : Pos} (l e it : Addr) (hei : e ≠ it) : Turn P w K (.Tuple elts k tp) (Ite K l) [e, it] e (fun i h => (∃ old, IsEnum h e it ((i : Nat) : Int) old) ∧ h.IsListIter it l i) where
  mem := by simp
  obj := fun i h st b hb => by
    obtain ⟨⟨old, he⟩, o, ho, hc, hd⟩ := st
    simp only [List.mem_cons, List.not_mem_nil, or_false] at hb
    rcases hb with rfl | rfl
    · exact ⟨_, he, fun v z => by cases z⟩
    · exact ⟨o, ho, fun v z => by rw [hd] at z; cases z⟩
  keep := fun i h h' st kp => ⟨⟨_, kp e (by simp) _ st.1.choose_spec⟩, st.2.at fun o q => kp it (by simp) o q⟩
  item := by
    intro X hP hw hK hc i pins s σ H E I hf st hg
    subst hP hw hK
    obtain ⟨xs, x, hq, hx⟩ := hg
    obtain ⟨its, rv, p, hz⟩ := I.list hq
    obtain ⟨u, hu, ru⟩ := rv.get hx
    obtain ⟨⟨old, he⟩, hit⟩ := st
    have hlt : ∀ b ∈ [e, it], b ≠ s.heap.objs.size := fun b hb z => by
      simp only [List.mem_cons, List.not_mem_nil, or_false] at hb
      rcases hb with rfl | rfl
      · exact absurd (z ▸ Heap.lt_size he) (Nat.lt_irrefl _)
      · obtain ⟨_, ho, _⟩ := hit
        exact absurd (z ▸ Heap.lt_size ho) (Nat.lt_irrefl _)
    have fr : H s.heap.objs.size = none := I.hok.fresh (Nat.le_refl _)
    refine wpAny_pyNext_enum_item he hit p.isList (x := u) (by simpa using hu) hei fun h' ho hit' hT hsz hk => ?_
    have I1 : Inv X pins σ H { s with heap := h', toks := s.toks + 1 } := I.turnedL (wr := [e, it]) (fun b o hb q => hk b o (fun z => hb (by simp [z])) (fun z => hb (by simp [z])) q) hf
    have I2 : Inv X pins σ (upd H s.heap.objs.size (.tup [.int (i : Nat), x])) { s with heap := h', toks := s.toks + 1 } := I.tracked I1 (Nat.le_refl _) ⟨by show 2 ≤ sizeLine; decide, [.int i s.toks, u], .cons ⟨_, rfl⟩ (.cons ru .nil), ⟨_, hT, rfl, _, rfl⟩⟩
    have hf2 : ∀ b ∈ [e, it], FpOk X pins (upd H s.heap.objs.size (.tup [.int (i : Nat), x])) b := fun b hb => by
      obtain ⟨f0, f1, f2, f3, f4, f5⟩ := hf b hb
      exact ⟨by rw [upd_ne (hlt b hb)]; exact f0, f1, f2, f3, f4, f5⟩
    refine ⟨_, rfl, wpAny_letOwnedTupleGo_enum ho fun h'' he' hs' => ?_⟩
    refine ⟨.ref s.heap.objs.size, _, I2.turnedL (wr := [e]) (t' := s.toks + 1) (fun b o hb q => (hs'.2 b (fun z => hb (by simp [z]))).trans q) (fun b hb => hf2 b (by rw [List.mem_singleton.mp hb]; simp)), rfl, ⟨_, x, fun ys hy => by rw [I.list_inj hy hq]; exact hx, fr, rfl, rfl⟩, ⟨⟨_, by simpa using he'⟩, hit'.at fun o q => (hs'.2 it hei.symm).trans q⟩, fun b hb => (hf2 b hb).1⟩
  done := by
    intro X hP hw hK hc i pins s σ H E I hf st hg
    subst hP hw hK
    obtain ⟨xs, hq, hx⟩ := hg
    obtain ⟨its, rv, p, hz⟩ := I.list hq
    have hl := rv.length
    obtain ⟨⟨old, he⟩, hit⟩ := st
    exact wpAny_pyNext_enum_end (I.ok.hd hc) he hit p.isList (by simp; omega) fun h' eb => ⟨rfl, I.turnedL (wr := [it]) (t' := s.toks) (fun b o hb q => eb b o (fun z => hb (by simp [z])) q) (fun b hb => hf b (by rw [List.mem_singleton.mp hb]; simp))⟩
  self := fun _ _ _ _ _ st h => wpAny_pyIter_enum st.1.choose_spec h
section
variable {X : Cx} {elts : List Expr} {k : Nat} {tp : Pos}
def iEnum (K : PySem.W.Frag) (ta : TA) : TI := fun σ H R => ta σ H fun vs H1 => ∃ a, vs = [.ref a] ∧ (∃ xs, SqL K H1 a xs) ∧ R (Ite K a) H1
theorem pi_enum {a : Expr} {ta : TA} {p pos : Pos} (hg : Gl X "enumerate") (hm : X.mg "enumerate" = none) (ha : PA X [a] ta) (hs : starEach [a] X.env = [(false, eval a X.env)] := by rfl) : PI X (.Tuple elts k tp) (.Call (.Name "enumerate" p) [a] [] pos) (iEnum X.K ta) := by
  intro pins s σ H R I h
  refine Call_ (ld_blt I hg hm (show bootBuiltins "enumerate" = some (.type "enumerate") by decide +kernel) (PyProof.Rows.callWith_type1 (thn (ha pos pins s σ H _ I h) fun us s1 ⟨vs, H1, I1, r1, q1⟩ => ?_) (by rw [hs]; rfl) (by rfl)))
  obtain ⟨a, e, ⟨xs, hq⟩, q⟩ := q1
  subst e
  obtain ⟨u, rfl, rx⟩ := vals1 r1
  cases rx
  obtain ⟨its, rv, pl, hz⟩ := I1.list hq
  refine call_enumerate_list pl.isList fun h' he hit hsz kp => ?_
  have I2 : Inv X pins σ H1 { s1 with heap := h' } := I1.kept (t' := s1.toks) kp
  refine wpAny_pyIter_enum he ?_
  refine ⟨s1.heap.objs.size + 1, [s1.heap.objs.size + 1, s1.heap.objs.size], _, _, H1, rfl, I2, turn_enum a _ _ (Nat.succ_ne_self _), ⟨⟨_, he⟩, hit⟩, fun b hb => ?_, q⟩
  simp only [List.mem_cons, List.not_mem_nil, or_false] at hb
  rcases hb with rfl | rfl
  · exact I1.fpOk (Nat.le_succ _) (I1.hok.fresh (Nat.le_succ _))
  · exact I1.fpOk (Nat.le_refl _) (I1.hok.fresh (Nat.le_refl _))
theorem qi_enum {a : Expr} {ta : TA} {p pos : Pos} (hg : Gl X "enumerate") (hm : X.mg "enumerate" = none) (ha : QA X [a] ta) (hs : starEach [a] X.env = [(false, eval a X.env)] := by rfl) : QI X (.Tuple elts k tp) (.Call (.Name "enumerate" p) [a] [] pos) (iEnum X.K ta) := ⟨pi_enum hg hm ha.h hs⟩
end
theorem for_enum {K : PySem.W.Frag} {a : Addr} {xs : List V} {g : TG} {tb : TS} {D : Ends} {σ : St} {H : Hp} (Pv : Nat → St → Hp → Prop) (h0 : Pv 0 σ H) (hl : ∀ i σ H, i ≤ xs.length → Pv i σ H → SqL K H a xs)
    (hs : ∀ i x T σ H, xs[i]? = some x → Pv i σ H → H T = none → g (.ref T) σ (upd H T (.tup [.int (i : Nat), x])) fun σ2 H2 => tb { D with nx := Pv (i + 1), ct := Pv (i + 1), bk := D.nx } σ2 H2) (hd : ∀ σ H, Pv xs.length σ H → D.nx σ H) :
    ∃ W : Nat → Nat → St → Hp → Prop, (∃ m, W 0 m σ H) ∧ ∀ i m σ H, W i m σ H →
      ((Ite K a).stop i H ∧ D.nx σ H) ∨ ((Ite K a).go i H ∧ ∃ N : St → Hp → Prop, (∀ σ' H', N σ' H' → ∃ m', m' < m ∧ W (i + 1) m' σ' H') ∧ ∀ x H', (Ite K a).yld i H x H' → g x σ H' fun σ2 H2 => tb { D with nx := N, ct := N, bk := D.nx } σ2 H2) := by
  refine ⟨fun i m σ H => m = xs.length - i ∧ i ≤ xs.length ∧ Pv i σ H, ⟨xs.length, by simp, Nat.zero_le _, h0⟩, ?_⟩
  rintro i m σ H ⟨rfl, hi, p⟩
  have q := hl i σ H hi p
  by_cases hlt : i < xs.length
  · refine .inr ⟨⟨xs, xs[i], q, by simp [hlt]⟩, Pv (i + 1), fun σ' H' p' => ⟨xs.length - (i + 1), by omega, rfl, hlt, p'⟩, fun v H' y => ?_⟩
    obtain ⟨T, x, hx, hT, rfl, rfl⟩ := y
    exact hs i x T σ _ (hx xs q) p hT
  · have e : i = xs.length := by omega
    subst e
    exact .inl ⟨⟨xs, q, Nat.le_refl _⟩, hd σ H p⟩
/-- range(n) as a thing -/
theorem call_rng1 {X : Cx} : CallR X (.type "range") (fun xs H Q => ∃ n : Int, xs = [.int n] ∧ ∀ r, H r = none → Q (.ref r) (upd H r (.rng 0 n))) := by
  intro pins s σ H xs us Q I r h
  obtain ⟨n, rfl, q⟩ := h
  obtain ⟨u, rfl, rx⟩ := vals1 r
  obtain ⟨t, rfl⟩ := rx
  exact call_range_1 ⟨.ref s.heap.objs.size, _, I.laid (t' := s.toks + 1 + 1) (o := .rng 0 n) (fun b o e => Heap.get?_push_of_some _ e) (Nat.le_refl _) ⟨_, _, _, Heap.get?_push_size _ rfl⟩, rfl, q _ (I.hok.fresh (Nat.le_refl _))⟩
theorem items_nats {acc : Array Value} {n : Nat} (h : ItemsOf (fun i v => ∃ t, v = .int (0 + (i : Nat) * 1) t) acc n) : Vals ((List.range n).map fun p => V.int ((p : Nat) : Int)) acc.toList := by
  obtain ⟨hs, hv⟩ := h
  have key : ∀ (k : Nat) (l : List Value), (∀ (j : Nat) (v : Value), l[j]? = some v → ∃ t, v = Value.int ((k : Int) + (j : Int)) t) → Vals ((List.range' k l.length).map fun p => V.int ((p : Nat) : Int)) l := by
    intro k l
    induction l generalizing k with
    | nil => intro _; exact .nil
    | cons x l ih =>
      intro h
      rw [List.length_cons, List.range'_succ, List.map_cons]
      refine .cons ?_ (ih (k + 1) fun j v e => ?_)
      · obtain ⟨t, e⟩ := h 0 x rfl
        exact ⟨t, by rw [e]; simp⟩
      · obtain ⟨t, e'⟩ := h (j + 1) v e
        exact ⟨t, by rw [e']; congr 1; omega⟩
  have := key 0 acc.toList fun j v e => by
    obtain ⟨t, e'⟩ := hv j v (by simpa using e)
    exact ⟨t, by rw [e']; congr 1; omega⟩
  rw [Array.length_toList, hs] at this
  rw [List.range_eq_range']
  exact this
/-- list(range(n)) -/
theorem call_list_rng {X : Cx} (hc : X.calm = true) : CallR X (.type "list") (fun xs H Q => ∃ (r : Addr) (n : Nat), xs = [.ref r] ∧ H r = some (.rng 0 (n : Nat)) ∧ n ≤ 100000 ∧ ∀ l, H l = none → Q (.ref l) (upd H l (.lst ((List.range n).map fun p => V.int ((p : Nat) : Int))))) := by
  intro pins s σ H xs us Q I r h
  obtain ⟨a, n, rfl, ha, hn, q⟩ := h
  obtain ⟨u, rfl, rx⟩ := vals1 r
  cases rx
  obtain ⟨t, u, v, ho⟩ := (show ∃ t u v, s.heap.get? a = some { cls := .type "range", data := .fields #[.int 0 t, .int (n : Nat) u, .int 1 v] } from I.hok a _ ha)
  refine call_list_range (n := n) (I.ok.hd hc) ho (small_one (by decide) (by decide) (by omega) (by omega)) (by rw [rangeSize_one]; split <;> omega) (Nat.le_trans hn (by decide)) fun h' tk acc c kp hg hit => ?_
  refine ⟨.ref s.heap.objs.size, _, I.laid (t' := tk) kp (Nat.le_refl _) (show ObjOk X.prog X.w _ h' _ (.lst _) from ⟨by rw [List.length_map, List.length_range]; exact Nat.le_trans hn (by decide), acc.toList, c, items_nats hit, by rw [Array.toArray_toList]; exact hg⟩), rfl, q _ (I.hok.fresh (Nat.le_refl _))⟩
/-- names of builtins that the text does not give -/
structure TxtB (mg : Str → Option Value) : Prop where
  isi : mg "isinstance" = none
  int : mg "int" = none
  bool : mg "bool" = none
  abs : mg "abs" = none
  len : mg "len" = none
  range : mg "range" = none
  tup : mg "tuple" = none
  lst : mg "list" = none
  sor : mg "sorted" = none
  all : mg "all" = none
  set : mg "set" = none
  zip : mg "zip" = none
  enu : mg "enumerate" = none
  any : mg "any" = none
  max : mg "max" = none
  min : mg "min" = none
  str : mg "str" = none
  sum : mg "sum" = none
/-- a block: a list of numbers -/
def nats (L : List Nat) : List V := L.map fun p => V.int ((p : Nat) : Int)
theorem nats_ints (L : List Nat) : nats L = (L.map fun p => ((p : Nat) : Int)).map V.int := by simp [nats]
theorem nats_snoc (L : List Nat) (j : Nat) : nats (L ++ [j]) = nats L ++ [V.int (j : Int)] := by unfold nats; rw [List.map_append]; rfl
theorem nats_len (L : List Nat) : (nats L).length = L.length := by unfold nats; rw [List.length_map]
/-- lists of blocks -/
def BlAt (H : Hp) : List V → List (List Nat) → Prop
  | [], [] => True
  | v :: vs, b :: bs => (∃ a, v = .ref a ∧ H a = some (.lst (nats b))) ∧ BlAt H vs bs
  | _, _ => False
theorem BlAt.len {H : Hp} : ∀ {vs : List V} {bs : List (List Nat)}, BlAt H vs bs → vs.length = bs.length
  | [], [], _ => rfl
  | _ :: _, _ :: _, h => by rw [List.length_cons, List.length_cons, BlAt.len h.2]
theorem BlAt.imp {H H' : Hp} : ∀ {vs : List V} {bs : List (List Nat)}, BlAt H vs bs → (∀ a xs, V.ref a ∈ vs → H a = some (.lst xs) → H' a = some (.lst xs)) → BlAt H' vs bs
  | [], [], _, _ => trivial
  | v :: vs, b :: bs, ⟨⟨a, e, q⟩, r⟩, k => ⟨⟨a, e, k a _ (e ▸ List.mem_cons_self ..) q⟩, r.imp fun a xs h1 h2 => k a xs (List.mem_cons_of_mem _ h1) h2⟩
theorem BlAt.same {H H' : Hp} (s : Same H H') {vs : List V} {bs : List (List Nat)} (h : BlAt H vs bs) : BlAt H' vs bs := h.imp fun a xs _ q => s _ _ q
theorem BlAt.snoc {H : Hp} {a : Addr} {b : List Nat} (e : H a = some (.lst (nats b))) : ∀ {vs : List V} {bs : List (List Nat)}, BlAt H vs bs → BlAt H (vs ++ [.ref a]) (bs ++ [b])
  | [], [], _ => ⟨⟨a, rfl, e⟩, trivial⟩
  | _ :: _, _ :: _, h => ⟨h.1, h.2.snoc e⟩
theorem BlAt.get {H : Hp} : ∀ {vs : List V} {bs : List (List Nat)} {i : Nat} {v : V}, BlAt H vs bs → vs[i]? = some v → ∃ a b, v = .ref a ∧ bs[i]? = some b ∧ H a = some (.lst (nats b))
  | v :: vs, b :: bs, 0, _, h, e => by
    cases e
    obtain ⟨a, e, q⟩ := h.1
    exact ⟨a, b, e, rfl, q⟩
  | _ :: vs, _ :: bs, i + 1, v, h, e => BlAt.get (i := i) h.2 e
/-- tuples of blocks, rising -/
def TpAt (H : Hp) : List V → List (List Nat) → Prop
  | [], [] => True
  | v :: vs, b :: bs => (∃ a, v = .ref a ∧ H a = some (.tup (nats b))) ∧ TpAt H vs bs
  | _, _ => False
theorem TpAt.len {H : Hp} : ∀ {vs : List V} {bs : List (List Nat)}, TpAt H vs bs → vs.length = bs.length
  | [], [], _ => rfl
  | _ :: _, _ :: _, h => by rw [List.length_cons, List.length_cons, TpAt.len h.2]
theorem TpAt.same {H H' : Hp} (s : ∀ a xs, H a = some (.tup xs) → H' a = some (.tup xs)) : ∀ {vs : List V} {bs : List (List Nat)}, TpAt H vs bs → TpAt H' vs bs
  | [], [], _ => trivial
  | v :: vs, b :: bs, ⟨⟨a, e, q⟩, r⟩ => ⟨⟨a, e, s _ _ q⟩, r.same s⟩
theorem TpAt.snoc {H : Hp} {a : Addr} {b : List Nat} (e : H a = some (.tup (nats b))) : ∀ {vs : List V} {bs : List (List Nat)}, TpAt H vs bs → TpAt H (vs ++ [.ref a]) (bs ++ [b])
  | [], [], _ => ⟨⟨a, rfl, e⟩, trivial⟩
  | _ :: _, _ :: _, h => ⟨h.1, h.2.snoc e⟩
theorem TpAt.get {H : Hp} : ∀ {vs : List V} {bs : List (List Nat)} {i : Nat} {v : V}, TpAt H vs bs → vs[i]? = some v → ∃ a b, v = .ref a ∧ bs[i]? = some b ∧ H a = some (.tup (nats b))
  | v :: vs, b :: bs, 0, _, h, e => by
    cases e
    obtain ⟨a, e, q⟩ := h.1
    exact ⟨a, b, e, rfl, q⟩
  | _ :: vs, _ :: bs, i + 1, v, h, e => TpAt.get (i := i) h.2 e
theorem srt_eq {c c' b : List Nat} (h1 : c.Perm b) (h2 : c.Pairwise (· ≤ ·)) (h1' : c'.Perm b) (h2' : c'.Pairwise (· ≤ ·)) : c = c' :=
  (h1.trans h1'.symm).eq_of_pairwise (fun a b _ _ x y => Nat.le_antisymm x y) h2 h2'
/-- a block below p -/
structure Blk (p : Nat) (b : List Nat) : Prop where
  nd : b.Nodup
  lt : ∀ x ∈ b, x < p
theorem nodup_le : ∀ (n : Nat) (b : List Nat), b.Nodup → (∀ x ∈ b, x < n) → b.length ≤ n
  | 0, [], _, _ => Nat.le_refl _
  | 0, x :: b, _, h => absurd (h x (List.mem_cons_self ..)) (Nat.not_lt_zero _)
  | n + 1, b, hn, hl => by
    have h1 := nodup_le n (b.filter (fun x => decide (x ≠ n))) (hn.filter _) (fun x hx => by
      have := List.mem_filter.mp hx
      have h2 := hl x this.1
      have h3 : x ≠ n := of_decide_eq_true this.2
      omega)
    by_cases hm : n ∈ b
    · have e : b.length = (b.filter (fun x => decide (x ≠ n))).length + 1 := by
        clear h1 hl
        induction b with
        | nil => cases hm
        | cons y b ih =>
          rw [List.nodup_cons] at hn
          by_cases hy : y = n
          · subst hy
            rw [List.filter_cons_of_neg (by simp)]
            have : b.filter (fun x => decide (x ≠ y)) = b := List.filter_eq_self.mpr fun x hx => decide_eq_true fun z => hn.1 (z ▸ hx)
            rw [this]; rfl
          · rw [List.filter_cons_of_pos (by simpa using hy)]
            have hm' : n ∈ b := (List.mem_cons.mp hm).resolve_left (fun z => hy z.symm)
            simp only [List.length_cons]
            rw [ih hn.2 hm']
      omega
    · have : b.filter (fun x => decide (x ≠ n)) = b := List.filter_eq_self.mpr fun x hx => decide_eq_true fun z => hm (z ▸ hx)
      rw [this] at h1
      omega
theorem Blk.len {p : Nat} {b : List Nat} (h : Blk p b) : b.length ≤ p := nodup_le p b h.nd h.lt
theorem Blk.perm {p : Nat} {b c : List Nat} (h : Blk p b) (e : c.Perm b) : Blk p c := ⟨e.nodup_iff.mpr h.nd, fun x hx => h.lt x (e.mem_iff.mp hx)⟩
theorem Blk.snoc {i : Nat} {b : List Nat} (hb : Blk i b) : Blk (i + 1) (b ++ [i]) := by
  refine ⟨?_, fun x hx => ?_⟩
  · rw [List.nodup_append]
    exact ⟨hb.nd, by simp, fun x hx y hy e => by
      have := hb.lt x hx
      rw [List.mem_singleton.mp hy] at e
      omega⟩
  · rcases List.mem_append.mp hx with z | z
    · exact Nat.lt_succ_of_lt (hb.lt x z)
    · rw [List.mem_singleton.mp z]
      exact Nat.lt_succ_self i
/-! ### a list or a tuple, gone through -/
def iSeq (K : PySem.W.Frag) (tl : TE) : TI := fun σ H R => tl σ H fun x H1 => ∃ a, x = .ref a ∧ (((∃ xs, SqL K H1 a xs) ∧ R (Itl K a) H1) ∨ ((∃ xs, SqT K H1 a xs) ∧ R (Itt K a) H1))
theorem pi_seq {X : Cx} {tg l : Expr} {tl : TE} (hl : PE X l tl) : PI X tg l (iSeq X.K tl) := by
  intro pins s σ H R I h
  refine thn (hl pins s σ H _ I h) fun v s1 ⟨x, H1, I1, r1, q1⟩ => ?_
  obtain ⟨a, e, q⟩ := q1
  subst e
  cases r1
  have fp : ∀ b ∈ [s1.heap.objs.size], FpOk X pins H1 b := fun b hb => by
    have e : b = s1.heap.objs.size := by simpa using hb
    subst e
    exact I1.fpOk (Nat.le_refl _) (I1.hok.fresh (Nat.le_refl _))
  rcases q with ⟨⟨xs, hq⟩, q⟩ | ⟨⟨xs, hq⟩, q⟩
  · obtain ⟨its, rv, p, hz⟩ := I1.list hq
    exact wpAny_pyIter_list p.isList ⟨s1.heap.objs.size, [s1.heap.objs.size], _, _, H1, rfl, I1.kept (t' := s1.toks) fun b o e => Heap.get?_push_of_some _ e, turn_list a _, ⟨_, Heap.get?_push_size _ rfl, rfl, rfl⟩, fp, q⟩
  · obtain ⟨its, rv, p, hz⟩ := I1.tuple hq
    exact wpAny_pyIter_tuple (show s1.heap.IsTuple a its.toArray from p) ⟨s1.heap.objs.size, [s1.heap.objs.size], _, _, H1, rfl, I1.kept (t' := s1.toks) fun b o e => Heap.get?_push_of_some _ e, turn_tuple a _, ⟨_, Heap.get?_push_size _ rfl, rfl, rfl⟩, fp, q⟩
theorem qi_seq {X : Cx} {tg l : Expr} {tl : TE} (hl : QE X l tl) : QI X tg l (iSeq X.K tl) := ⟨pi_seq hl.h⟩
/-! ### rules that name K, for comprehensions -/
def rLenQ (K : PySem.W.Frag) : List V → Hp → VK → Prop := fun xs H Q => ∃ p ys, xs = [.ref p] ∧ (SqL K H p ys ∨ SqT K H p ys) ∧ Q (.int ys.length) H
theorem call_lenQ {X : Cx} : CallR X (.builtin "len") (rLenQ X.K) := call_len_seq
def rTupQ (K : PySem.W.Frag) : List V → Hp → VK → Prop := fun xs H Q => ∃ p ys, xs = [.ref p] ∧ ((SqL K H p ys ∧ ∀ l, H l = none → Q (.ref l) (upd H l (.tup ys))) ∨ (SqT K H p ys ∧ Q (.ref p) H))
theorem call_tupQ {X : Cx} : CallR X (.type "tuple") (rTupQ X.K) := call_tuple_of
theorem TpAt.sm {H H' : Hp} (s : Same H H') {vs : List V} {bs : List (List Nat)} (h : TpAt H vs bs) : TpAt H' vs bs := h.same fun a xs q => s _ _ q
theorem back_nats {b : List Nat} {ns : List Int} (hp : ns.Perm (b.map fun p => ((p : Nat) : Int))) (hs : ns.Pairwise (· ≤ ·)) : ∃ b' : List Nat, ns.map V.int = nats b' ∧ b'.Perm b ∧ b'.Pairwise (· ≤ ·) := by
  have hnn : ∀ x ∈ ns, 0 ≤ x := fun x hx => by
    obtain ⟨p, _, rfl⟩ := List.mem_map.mp (hp.mem_iff.mp hx)
    omega
  have e : ns = (ns.map Int.toNat).map fun p => ((p : Nat) : Int) := by
    rw [List.map_map]
    conv => lhs; rw [← List.map_id ns]
    exact List.map_congr_left fun x hx => by
      have := hnn x hx
      show x = ((x.toNat : Nat) : Int)
      omega
  refine ⟨ns.map Int.toNat, ?_, ?_, ?_⟩
  · rw [nats_ints, ← e]
  · have := hp.map Int.toNat
    rw [List.map_map] at this
    have e2 : (b.map (Int.toNat ∘ fun p => ((p : Nat) : Int))) = b := by
      conv => rhs; rw [← List.map_id b]
      exact List.map_congr_left fun x _ => by simp
    rwa [e2] at this
  · rw [List.pairwise_map]
    exact hs.imp fun h => by omega
theorem nats_get {b : List Nat} {j : Nat} {x : V} (h : (nats b)[j]? = some x) : ∃ p : Nat, b[j]? = some p ∧ x = V.int ((p : Nat) : Int) := by
  unfold nats at h
  rw [List.getElem?_map] at h
  cases e : b[j]? with
  | none => rw [e] at h; cases h
  | some p => rw [e] at h; cases h; exact ⟨p, rfl, rfl⟩
theorem TpAt.app {H : Hp} : ∀ {vs ws : List V} {bs cs : List (List Nat)}, TpAt H vs bs → TpAt H ws cs → TpAt H (vs ++ ws) (bs ++ cs)
  | [], _, [], _, _, h => h
  | _ :: _, _, _ :: _, _, h, h' => ⟨h.1, h.2.app h'⟩
theorem ints_isD' {K : PySem.W.Frag} {H : Hp} : ∀ L : List Nat, IsDs K H (L.map fun p => PyData.int ((p : Nat) : Int)) (nats L)
  | [] => by simp [nats, IsDs]
  | p :: L => by
    simp only [nats, List.map_cons, IsDs]
    exact ⟨_, _, rfl, by simp [IsD], ints_isD' L⟩
theorem lay_ints' : ∀ L : List Nat, PyData.canLayAll0 (L.map fun p => PyData.int ((p : Nat) : Int)) = true
  | [] => by simp [PyData.canLayAll0]
  | x :: L => by simp [PyData.canLayAll0, PyData.canLay0, lay_ints' L]
theorem depth_ints' : ∀ L : List Nat, PyData.depthAll (L.map fun p => PyData.int ((p : Nat) : Int)) ≤ 1
  | [] => by simp [PyData.depthAll]
  | x :: L => by
    have := depth_ints' L
    simp [PyData.depthAll, PyData.depth]
    omega
def dBlk (L : List Nat) : PyData := .list (L.map fun p => PyData.int ((p : Nat) : Int))
theorem shaped_blk (L : List Nat) : PySem.SeqAt.shaped (dBlk L) = true := by
  unfold PySem.SeqAt.shaped dBlk
  rw [Bool.and_eq_true]
  refine ⟨by simp only [PyData.canLay0]; exact lay_ints' L, decide_eq_true ?_⟩
  have := depth_ints' L
  simp only [PyData.depth]
  omega
theorem cut_from {xs : List V} {k : Nat} (hk : k ≤ xs.length) : cutV xs (some (k : Int)) none = xs.drop k := by
  unfold cutV
  have h1 : HT.sIx xs.length 0 (some (k : Int)) = k := by rw [HT.sIx_nat]; omega
  have h2 : HT.sIx xs.length xs.length none = xs.length := by simp [HT.sIx]
  rw [h1, h2, List.take_of_length_le (by rw [List.length_drop]; exact Nat.le_refl _)]
theorem eqv_ints' : ∀ L : List Nat, PyData.eqvAll (L.map fun p => PyData.int ((p : Nat) : Int)) (L.map fun p => PyData.int ((p : Nat) : Int)) = true
  | [] => by simp [PyData.eqvAll]
  | x :: L => by simp [PyData.eqvAll, PyData.eqv, eqv_ints' L]
def dTup (L : List Nat) : PyData := .tuple (L.map fun p => PyData.int ((p : Nat) : Int))
theorem tps_isD {K : PySem.W.Frag} {H : Hp} : ∀ {vs : List V} {bs : List (List Nat)}, TpAt H vs bs → IsDs K H (bs.map dTup) vs
  | [], [], _ => by simp [IsDs]
  | v :: vs, b :: bs, ⟨⟨a, e, q⟩, r⟩ => by
    simp only [List.map_cons, IsDs]
    refine ⟨v, vs, rfl, ?_, tps_isD r⟩
    simp only [dTup, IsD]
    exact ⟨a, _, e, SqT.of q, ints_isD' b⟩
theorem lay_tps : ∀ bs : List (List Nat), PyData.canLayAll0 (bs.map dTup) = true
  | [] => by simp [PyData.canLayAll0]
  | b :: bs => by
    have h1 := lay_ints' b
    simp only [List.map_cons, PyData.canLayAll0, dTup, PyData.canLay0, h1, lay_tps bs, Bool.and_self, Bool.true_and]
theorem depth_tps : ∀ bs : List (List Nat), PyData.depthAll (bs.map dTup) ≤ 2
  | [] => by simp [PyData.depthAll]
  | b :: bs => by
    have h1 := depth_ints' b
    have h2 := depth_tps bs
    simp only [List.map_cons, PyData.depthAll, dTup, PyData.depth]
    omega
/-! ### a[i] += .. -/
def rGetN (K : PySem.W.Frag) : V → V → Hp → VK → Prop := fun x y H Q => ∃ (p : Addr) (xs : List V) (i : Int) (z : V), x = .ref p ∧ y = .int i ∧ SqL K H p xs ∧ 0 ≤ i ∧ atI xs i = some z ∧ Q z H
theorem get_listN {X : Cx} : PGet X (rGetN X.K) := by
  intro pins s σ H x y v u Q I rx ry h
  obtain ⟨p, xs, i, z, rfl, rfl, hq, h0, he, q⟩ := h
  cases rx
  obtain ⟨t, rfl⟩ := ry
  obtain ⟨its, r, pl, hz⟩ := I.list hq
  obtain ⟨j, h1, h2, h3, h4, h5⟩ := atI_get he
  obtain ⟨w, ew, rw'⟩ := r.get h2
  have hl := r.length
  have hn := line63
  have fin : EP X pins σ Q w s := ⟨z, H, I, rw', q⟩
  have hj : i.toNat = j := by
    rw [seqIndex_of h0 h5] at h1
    exact Option.some.inj h1
  exact wpAny_getItem_list pl.isList h0 (by omega) (by rw [hj]; simpa using ew) fin
end L2
/-! EvSort: sorted of a list of pairs of numbers: the same pairs in some order. Behind EvLay. -/
namespace L2
open PySem PySem.Spec PyProof.Rows PySem.W
/-- all ends of a tree of questions, the questions below n -/
def KAll {α : Type} (n : Nat) (R : α → Prop) : KasT α → Prop
  | .ret a => R a
  | .ask i j k => i < n ∧ j < n ∧ ∀ b, KAll n R (k b)
theorem KAll.bind {α β : Type} {n : Nat} {R : α → Prop} {S : β → Prop} {f : α → KasT β} : ∀ {t : KasT α}, KAll n R t → (∀ a, R a → KAll n S (f a)) → KAll n S (t.bind f)
  | .ret a, h, hf => hf a h
  | .ask i j k, h, hf => ⟨h.1, h.2.1, fun b => KAll.bind (h.2.2 b) hf⟩
/-- an order of the first n numbers -/
def Ord (n : Nat) (p : Array Nat) : Prop := p.toList.Perm (List.range n)
theorem Ord.lt {n : Nat} {p : Array Nat} (h : Ord n p) (hn : 0 < n) (k : Nat) : p.getD k 0 < n := by
  by_cases hk : k < p.size
  · have : p.getD k 0 ∈ p.toList := by
      have e : p.getD k 0 = p[k] := by simp [hk]
      rw [e]
      exact Array.mem_toList_iff.mpr (Array.getElem_mem hk)
    exact List.mem_range.mp (h.mem_iff.mp this)
  · have : p.getD k 0 = 0 := by simp [hk]
    omega
theorem Ord.rev {n : Nat} {p : Array Nat} (h : Ord n p) (i j : Nat) : Ord n (kas_rev p i j) := ((mirror_perm p i j _).toList).trans h
theorem Ord.bub {n : Nat} {p : Array Nat} (h : Ord n p) (k d : Nat) : Ord n (bubble p k d) := ((bubble_perm p k d).toList).trans h
section
variable {n : Nat} (hn : 0 < n)
include hn
theorem all_asc {p : Array Nat} (h : Ord n p) : ∀ f k, KAll n (fun _ => True) (kas_asc p f k)
  | 0, _ => trivial
  | f + 1, k => ⟨h.lt hn _, h.lt hn _, fun b => by
    cases b
    · exact all_asc h f (k + 1)
    · exact trivial⟩
theorem all_desc : ∀ f {p : Array Nat} (k q : Nat), Ord n p → KAll n (fun r => Ord n r.1) (kas_desc f p k q)
  | 0, _, _, _, h => h
  | f + 1, p, k, q, h => ⟨h.lt hn _, h.lt hn _, fun b => by
    cases b
    · exact ⟨h.lt hn _, h.lt hn _, fun c => by
        cases c
        · exact all_desc f _ _ h
        · exact h⟩
    · show KAll n _ (if q > 0 then kas_desc f (kas_rev p (k - (q + 1)) k) (k + 1) 0 else kas_desc f p (k + 1) 0)
      split
      · exact all_desc f _ _ (h.rev _ _)
      · exact all_desc f _ _ h⟩
theorem all_tail3 {p : Array Nat} (h : Ord n p) (k m : Nat) : KAll n (fun r => Ord n r.2) (kas_tail3 k m p) := (all_asc hn (h.rev 0 k) _ _).bind fun _ _ => h.rev 0 k
theorem all_descPart {p : Array Nat} (h : Ord n p) (k m : Nat) : KAll n (fun r => Ord n r.2) (kas_descPart k m p) := (all_desc hn _ _ _ h).bind fun r hr => by
  split
  · exact all_tail3 hn (hr.rev _ _) _ _
  · exact all_tail3 hn hr _ _
theorem all_count {p : Array Nat} (h : Ord n p) (m : Nat) : KAll n (fun r => Ord n r.2) (kas_count m p) := (all_asc hn h _ _).bind fun k _ => by
  split
  · exact h
  · split
    · exact ⟨h.lt hn _, h.lt hn _, fun b => by
        cases b
        · exact all_descPart hn (h.rev _ _) _ _
        · exact h⟩
    · exact all_descPart hn h _ _
theorem all_place {p : Array Nat} (h : Ord n p) (k : Nat) : ∀ f l r, KAll n (fun _ => True) (kas_place p k f l r)
  | 0, _, _ => trivial
  | f + 1, l, r => by
    unfold kas_place
    split
    · trivial
    · exact ⟨h.lt hn _, h.lt hn _, fun b => by
        cases b
        · exact all_place h k f _ _
        · exact all_place h k f _ _⟩
theorem all_bin : ∀ f {p : Array Nat} (k : Nat), Ord n p → KAll n (Ord n) (kas_bin f p k)
  | 0, _, _, h => h
  | f + 1, p, k, h => (all_place hn h k _ _ _).bind fun l _ => all_bin f (k + 1) (h.bub _ _)
theorem all_sort : KAll n (Ord n) (kas_sort n) := (all_count hn (p := List.toArray (List.range n)) (by unfold Ord; simp) n).bind fun r hr => by
  split
  · exact all_bin hn _ _ hr
  · exact hr
end
section
variable {prog : Program} {w : World} {A : Around} {E : Value → Shared → Prop} {s : Shared}
theorem map_getD (vs : List Value) : ((List.range vs.length).map fun i => vs.getD i Value.none) = vs := by
  apply List.ext_getElem
  · simp
  · intro i h1 h2
    simp [List.getElem_map, List.getElem_range, h2]
end
end L2
/-! EvMul: tuple * number. Behind EvLay. -/
namespace PySem
open Sem (wp)
open Builtin
end PySem
namespace L2
open PySem PySem.Spec PyProof.Rows
end L2
namespace HT2
open PySem PySem.Spec PyProof.Rows HT
variable {prog : Program} {w : World} {A : Around} {E : Value → Shared → Prop} {s : Shared}
end HT2
namespace L2
open PySem PySem.Spec PyProof.Rows
end L2
/-! EvTold: loops by steps, zip of two lists, a def that calls itself. Behind EvMul. -/
namespace L2
open PySem PySem.Spec PyProof.Rows
section
variable {X : Cx} {elts : List Expr} {k : Nat} {tp : Pos}
end
end L2
/-! EvZip: zip of a tuple and a list. Behind EvLay. -/
namespace L2
open PySem PySem.Spec PyProof.Rows
section
variable {prog : Program} {w : World} {A : Around} {E : Value → Shared → Prop} {s : Shared}
/-- the next of a tuple's iterator, asked by a builtin -/
theorem nextT_item {it t : Addr} {i : Nat} {its : Array Value} {x : Value} {Q : Value → Shared → Prop} (hi : s.heap.IsTupleIter it t i) (ht : s.heap.IsTuple t its) (hx : its[i]? = some x)
    (hQ : ∀ h', h'.IsTupleIter it t (i + 1) → Heap.SameBut it s.heap h' → Q x { s with heap := h' }) : wpAny (model prog w) A (Builtin.SmallTypes.nextOf (.ref it)) Q E s := by
  obtain ⟨oi, gi, ci, di⟩ := id hi
  obtain ⟨ot, gt, _, nt, dt⟩ := ht
  unfold Builtin.SmallTypes.nextOf
  refine wpAny_bind (wpAny_callSpecial?_slot (name := Str.ofString "__next__") hi.typeIs PySem.F.slot_tuple_iterator_next (wpAny_call_entry PySem.F.slot_tuple_iterator_next hi.typeIs PySem.F.entry_tuple_iterator_next ?_ (PySem.F.args_tuple_iterator_next_1 _)))
  show wpAny _ _ (field (.ref it) 0 >>= _) _ _ s; refine wpAny_bind (wpAny_field gi di (x := .ref t) rfl ?_)
  show wpAny _ _ (if (Value.ref t == Value.none) = true then _ else _) _ _ s; rw [if_neg (show ¬ ((Value.ref t == Value.none) = true) from Bool.false_ne_true)]
  show wpAny _ _ (field (.ref it) 1 >>= _) _ _ s; refine wpAny_bind (wpAny_field gi di (x := .int i 0) rfl ?_)
  show wpAny _ _ (seqItems? (.ref t) >>= _) _ _ s; refine wpAny_bind (wpAny_seqItems gt dt ?_)
  simp only [Int.toNat_natCast, hx]
  have hn : ∀ f, (s.heap.update it (Obj.mapFields f)).get? it = some (Obj.mapFields f oi) := fun f => Heap.get?_update_self _ gi (Obj.isFreed_of_fields (Obj.data_mapFields di _))
  refine wpAny_bind (wpAny_setField gi di (by simp) (wpAny_pure ⟨x, rfl, wpAny_pure (hQ _ ⟨_, hn _, (Obj.cls_mapFields ..).trans ci, ?_⟩ (Heap.SameBut.update ..))⟩))
  rw [Obj.data_mapFields di]; simp [rawInt]
theorem nextT_end {it t : Addr} {i : Nat} {its : Array Value} {Q : Value → Shared → Prop} (hh : A.handled = none) (hi : s.heap.IsTupleIter it t i) (ht : s.heap.IsTuple t its) (hx : its[i]? = none)
    (hE : ∀ h' e, Heap.ExtBut it s.heap h' → (∃ o, h'.get? e = some o ∧ o.cls = .type "StopIteration") → E (.ref e) { s with heap := h' }) : wpAny (model prog w) A (Builtin.SmallTypes.nextOf (.ref it)) Q E s := by
  obtain ⟨oi, gi, ci, di⟩ := id hi
  obtain ⟨ot, gt, _, nt, dt⟩ := ht
  unfold Builtin.SmallTypes.nextOf
  refine wpAny_bind (wpAny_callSpecial?_slot (name := Str.ofString "__next__") hi.typeIs PySem.F.slot_tuple_iterator_next (wpAny_call_entry PySem.F.slot_tuple_iterator_next hi.typeIs PySem.F.entry_tuple_iterator_next ?_ (PySem.F.args_tuple_iterator_next_1 _)))
  show wpAny _ _ (field (.ref it) 0 >>= _) _ _ s; refine wpAny_bind (wpAny_field gi di (x := .ref t) rfl ?_)
  show wpAny _ _ (if (Value.ref t == Value.none) = true then _ else _) _ _ s; rw [if_neg (show ¬ ((Value.ref t == Value.none) = true) from Bool.false_ne_true)]
  show wpAny _ _ (field (.ref it) 1 >>= _) _ _ s; refine wpAny_bind (wpAny_field gi di (x := .int i 0) rfl ?_)
  show wpAny _ _ (seqItems? (.ref t) >>= _) _ _ s; refine wpAny_bind (wpAny_seqItems gt dt ?_)
  simp only [Int.toNat_natCast, hx]
  refine wpAny_bind (wpAny_rule (wpAny_bind (wpAny_setField gi di (by simp) ?_)))
  show wpAny _ _ (newExc (.type "StopIteration") [] >>= _) _ _ _; refine wpAny_bind ?_
  simp only [newExc, newTuple]; refine wpAny_bind (wpAny_newObj_type ?_ (by size_fits))
  refine wpAny_bind (m := firstArgMember _ _) (wpAny_of_eq (a := Value.none) (by first | rfl | (simp only [firstArgMember]; rfl)) (wpAny_newObj_type ?_ (by size_fits)))
  simp only [raiseNew]; refine wpAny_bind (wpAny_handled ?_)
  first | rw [show A.in1.handled = none from hh] | rw [hh]
  exact wpAny_bind (wpAny_pure (wpAny_throw (hE _ _ (((Heap.SameBut.update ..).extBut.push _).push _) ⟨_, Heap.get?_push_size _ rfl, rfl⟩)))
end
section
variable {prog : Program} {w : World} {A : Around} {E : Value → Shared → Prop} {s : Shared}
end
section
variable {X : Cx} {elts : List Expr} {k : Nat} {tp : Pos}
end
end L2
/-! EvEnt: enumerate of a tuple, values of an `or`, a list taken apart. Behind EvTold and EvZip. -/
namespace L2
open PySem PySem.Spec PyProof.Rows
section
variable {prog : Program} {w : World} {A : Around} {E : Value → Shared → Prop} {s : Shared}
theorem tup_ne_it {h : Heap} {t it : Addr} {its : Array Value} {i : Nat} (p : h.IsTuple t its) (q : h.IsTupleIter it t i) : t ≠ it := fun z => by
  obtain ⟨o, ho, hc, _⟩ := q
  obtain ⟨o', ho', hc', _⟩ := p
  rw [z, ho] at ho'
  cases ho'
  rw [hc] at hc'
  exact absurd hc' (by decide)
theorem enum_ne_tup {h : Heap} {e it t : Addr} {its : Array Value} {i : Int} {old : Value} (q : IsEnum h e it i old) (p : h.IsTuple t its) : e ≠ t := fun z => by
  obtain ⟨o', ho', hc', _⟩ := p
  rw [← z, q] at ho'
  cases ho'
  exact absurd (show Value.type "enumerate" = Value.type "tuple" from hc') (by decide)
theorem drawsT (hh : A.handled = none) {it t : Addr} (hne : t ≠ it) (its : Array Value) : Draws prog w A it [it, t] its.size (fun i v => its[i]? = some v) (fun i h => h.IsTupleIter it t i ∧ h.IsTuple t its) where
  live := fun _ _ st => by
    obtain ⟨⟨o, ho, _⟩, _⟩ := st
    exact ⟨o, ho⟩
  frame := fun _ _ _ st hk => ⟨st.1.at fun o e => hk it (by simp) o e, st.2.at fun o e => hk t (by simp) o e⟩
  item := fun i s Q E hi st hQ => nextT_item st.1 st.2 (x := its[i]) (by simp [hi]) fun h' j sb => hQ _ h' s.toks (by simp [hi]) ⟨j, st.2.extBut sb.extBut hne⟩ sb
  done := fun s Q E st hE => nextT_end hh st.1 st.2 (by simp) hE
abbrev et1 (h : Heap) (t : Addr) : Heap := h.push { cls := .type "tuple_iterator", data := .fields #[.ref t, .int 0 0] }
abbrev et2 (h : Heap) (t : Addr) : Heap := (et1 h t).push { cls := .type "enumerate", data := .fields #[.none, .bool false, .ref h.objs.size, rawInt 0, .none, .none] }
theorem enumT_new (t : Addr) (its : Array Value) :
    Meets (Builtin.«enumerate.__new__» ⟨[.type "enumerate", .ref t], []⟩) (fun _ R s => s.heap.IsTuple t its ∧ R (.ok (.ret (.ref (et1 s.heap t).objs.size))) { s with heap := et2 s.heap t }) :=
  .of_wp fun prog w A R s h => by
    obtain ⟨hp, g, d, tk, os⟩ := s; obtain ⟨g1, h⟩ := h
    have hsub := sub_enumerate
    have a1 : Heap.IsTuple (Shared.heap ⟨hp, g, d, tk, os⟩) t its := g1
    obtain ⟨⟨oc, od, odt, osl⟩, hl, hc, n, hd⟩ := id g1
    replace hc : oc = .type "tuple" := hc
    replace hd : odt = .seq its n := hd
    subst hc hd
    wp_walk using AutoSeq1.wpAny_loadPart' hl
    refine wpAny_stack_any fun st => wpAny_pure ?_
    split
    · rename_i c _ _ _ _ _
      cases (c == Value.type "enumerate")
      · wp_walk using AutoSeq1.wpAny_loadPart' hl, wpAny_pyIter_tuple a1
        exact ⟨_, rfl, h⟩
      · wp_walk using AutoSeq1.wpAny_loadPart' hl, wpAny_pyIter_tuple a1
        exact ⟨_, rfl, h⟩
    · wp_walk using AutoSeq1.wpAny_loadPart' hl, wpAny_pyIter_tuple a1
      exact ⟨_, rfl, h⟩
theorem call_enumT {t : Addr} {its : Array Value} {Q : Value → Shared → Prop} (g1 : s.heap.IsTuple t its)
    (h : ∀ h', IsEnum h' (s.heap.objs.size + 1) s.heap.objs.size 0 .none → h'.IsTupleIter s.heap.objs.size t 0 → (∀ c o, s.heap.get? c = some o → h'.get? c = some o) → Q (.ref (s.heap.objs.size + 1)) { s with heap := h' }) :
    wpAny (model prog w) A (call (.type "enumerate") [.ref t]) Q E s := by
  refine callType_new PySem.F.called_enumerate (by decide) (PySem.F.typeCall_enumerate_1 _) (PySem.F.newCall_enumerate_1 _) (fun obj => PySem.F.args_object_init_2 obj _) PySem.F.entry_enumerate_new (enumT_new t its) ⟨g1, ?_⟩
  have n1 : (et1 s.heap t).objs.size = s.heap.objs.size + 1 := Heap.size_push ..
  have q2 : (et2 s.heap t).get? (et1 s.heap t).objs.size = some _ := Heap.get?_push_size _ rfl
  have q1 : (et2 s.heap t).get? s.heap.objs.size = some _ := Heap.get?_push_of_some _ (Heap.get?_push_size _ rfl)
  show _ ∧ _
  rw [n1] at q2
  rw [n1]
  exact ⟨⟨_, q2, rfl⟩, h _ q2 ⟨_, q1, rfl, rfl⟩ fun c o q => Heap.get?_push_of_some _ (Heap.get?_push_of_some _ q)⟩
end
/-- the pairs (number, item) of a tuple -/
def Itet (K : PySem.W.Frag) (a : Addr) : It :=
  ⟨fun i H => ∃ xs x, SqT K H a xs ∧ xs[i]? = some x, fun i H v H' => ∃ T x, (∀ xs, SqT K H a xs → xs[i]? = some x) ∧ H T = none ∧ v = .ref T ∧ H' = upd H T (.tup [.int (i : Nat), x]), fun i H => ∃ xs, SqT K H a xs ∧ xs.length = i⟩
theorem turn_enumT {P : Program} {w : World} {K : PySem.W.Frag} {elts : List Expr} {k : Nat} {tp : Pos} (l e it : Addr) (hei : e ≠ it) : Turn P w K (.Tuple elts k tp) (Itet K l) [e, it] e (fun i h => (∃ old, IsEnum h e it ((i : Nat) : Int) old) ∧ h.IsTupleIter it l i) where
  mem := by simp
  obj := fun i h st b hb => by
    obtain ⟨⟨old, he⟩, o, ho, hc, hd⟩ := st
    simp only [List.mem_cons, List.not_mem_nil, or_false] at hb
    rcases hb with rfl | rfl
    · exact ⟨_, he, fun v z => by cases z⟩
    · exact ⟨o, ho, fun v z => by rw [hd] at z; cases z⟩
  keep := fun i h h' st kp => ⟨⟨_, kp e (by simp) _ st.1.choose_spec⟩, st.2.at fun o q => kp it (by simp) o q⟩
  item := by
    intro X hP hw hK hc i pins s σ H E I hf st hg
    subst hP hw hK
    obtain ⟨xs, x, hq, hx⟩ := hg
    obtain ⟨its, rv, p, hz⟩ := I.tuple hq
    obtain ⟨u, hu, ru⟩ := rv.get hx
    obtain ⟨⟨old, he⟩, hit⟩ := st
    have hlt : ∀ b ∈ [e, it], b ≠ s.heap.objs.size := fun b hb z => by
      simp only [List.mem_cons, List.not_mem_nil, or_false] at hb
      rcases hb with rfl | rfl
      · exact absurd (z ▸ Heap.lt_size he) (Nat.lt_irrefl _)
      · obtain ⟨_, ho, _⟩ := hit
        exact absurd (z ▸ Heap.lt_size ho) (Nat.lt_irrefl _)
    have fr : H s.heap.objs.size = none := I.hok.fresh (Nat.le_refl _)
    have p' : s.heap.IsTuple l its.toArray := p
    have hlen := rv.length
    have hil := (List.getElem?_eq_some_iff.mp hx).1
    refine wpAny_pyNext_enum_itemD (drawsT (show X.A.in1.handled = none from I.ok.hd hc) (tup_ne_it p' hit) its.toArray) he ⟨hit, p'⟩ (by rw [List.size_toArray]; omega) hei (by
      simp only [List.mem_cons, List.not_mem_nil, or_false, not_or]
      exact ⟨hei, enum_ne_tup he p'⟩) fun y h' tk hy ho hit2 hT hsz hk => ?_
    have hit' := hit2.1
    have ey : y = u := by
      rw [List.getElem?_toArray, hu] at hy
      exact (Option.some.inj hy).symm
    subst ey
    have I1 : Inv X pins σ H { s with heap := h', toks := tk + 1 } := I.turnedL (wr := [e, it]) (fun b o hb q => hk b o (fun z => hb (by simp [z])) (fun z => hb (by simp [z])) q) hf
    have I2 : Inv X pins σ (upd H s.heap.objs.size (.tup [.int (i : Nat), x])) { s with heap := h', toks := tk + 1 } := I.tracked I1 (Nat.le_refl _) ⟨by show 2 ≤ sizeLine; decide, [.int i tk, y], .cons ⟨_, rfl⟩ (.cons ru .nil), ⟨_, hT, rfl, _, rfl⟩⟩
    have hf2 : ∀ b ∈ [e, it], FpOk X pins (upd H s.heap.objs.size (.tup [.int (i : Nat), x])) b := fun b hb => by
      obtain ⟨f0, f1, f2, f3, f4, f5⟩ := hf b hb
      exact ⟨by rw [upd_ne (hlt b hb)]; exact f0, f1, f2, f3, f4, f5⟩
    refine ⟨_, rfl, wpAny_letOwnedTupleGo_enum ho fun h'' he' hs' => ?_⟩
    refine ⟨.ref s.heap.objs.size, _, I2.turnedL (wr := [e]) (t' := tk + 1) (fun b o hb q => (hs'.2 b (fun z => hb (by simp [z]))).trans q) (fun b hb => hf2 b (by rw [List.mem_singleton.mp hb]; simp)), rfl, ⟨_, x, fun ys hy => by rw [I.tuple_inj hy hq]; exact hx, fr, rfl, rfl⟩, ⟨⟨_, by simpa using he'⟩, hit'.at fun o q => (hs'.2 it hei.symm).trans q⟩, fun b hb => (hf2 b hb).1⟩
  done := by
    intro X hP hw hK hc i pins s σ H E I hf st hg
    subst hP hw hK
    obtain ⟨xs, hq, hx⟩ := hg
    obtain ⟨its, rv, p, hz⟩ := I.tuple hq
    have hl := rv.length
    obtain ⟨⟨old, he⟩, hit⟩ := st
    have p' : s.heap.IsTuple l its.toArray := p
    have hsz : its.toArray.size = i := by rw [List.size_toArray]; omega
    have D := drawsT (prog := X.prog) (w := X.w) (show X.A.in1.handled = none from I.ok.hd hc) (tup_ne_it p' hit) its.toArray
    rw [hsz] at D
    exact wpAny_pyNext_enum_endD D he ⟨hit, p'⟩ fun h' eb => ⟨rfl, I.turnedL (wr := [it]) (t' := s.toks) (fun b o hb q => eb b o (fun z => hb (by simp [z])) q) (fun b hb => hf b (by rw [List.mem_singleton.mp hb]; simp))⟩
  self := fun _ _ _ _ _ st h => wpAny_pyIter_enum st.1.choose_spec h
section
variable {X : Cx} {elts : List Expr} {k : Nat} {tp : Pos}
def iEnumT (K : PySem.W.Frag) (ta : TA) : TI := fun σ H R => ta σ H fun vs H1 => ∃ a, vs = [.ref a] ∧ (∃ xs, SqT K H1 a xs) ∧ R (Itet K a) H1
theorem pi_enumT {a : Expr} {ta : TA} {p pos : Pos} (hg : Gl X "enumerate") (hm : X.mg "enumerate" = none) (ha : PA X [a] ta) (hs : starEach [a] X.env = [(false, eval a X.env)] := by rfl) : PI X (.Tuple elts k tp) (.Call (.Name "enumerate" p) [a] [] pos) (iEnumT X.K ta) := by
  intro pins s σ H R I h
  refine Call_ (ld_blt I hg hm (show bootBuiltins "enumerate" = some (.type "enumerate") by decide +kernel) (PyProof.Rows.callWith_type1 (thn (ha pos pins s σ H _ I h) fun us s1 ⟨vs, H1, I1, r1, q1⟩ => ?_) (by rw [hs]; rfl) (by rfl)))
  obtain ⟨a, e, ⟨xs, hq⟩, q⟩ := q1
  subst e
  obtain ⟨u, rfl, rx⟩ := vals1 r1
  cases rx
  obtain ⟨its, rv, pl, hz⟩ := I1.tuple hq
  refine call_enumT pl fun h' he hit kp => ?_
  have I2 : Inv X pins σ H1 { s1 with heap := h' } := I1.kept (t' := s1.toks) kp
  refine wpAny_pyIter_enum he ?_
  refine ⟨s1.heap.objs.size + 1, [s1.heap.objs.size + 1, s1.heap.objs.size], _, _, H1, rfl, I2, turn_enumT a _ _ (Nat.succ_ne_self _), ⟨⟨_, he⟩, hit⟩, fun b hb => ?_, q⟩
  simp only [List.mem_cons, List.not_mem_nil, or_false] at hb
  rcases hb with rfl | rfl
  · exact I1.fpOk (Nat.le_succ _) (I1.hok.fresh (Nat.le_succ _))
  · exact I1.fpOk (Nat.le_refl _) (I1.hok.fresh (Nat.le_refl _))
theorem qi_enumT {a : Expr} {ta : TA} {p pos : Pos} (hg : Gl X "enumerate") (hm : X.mg "enumerate" = none) (ha : QA X [a] ta) (hs : starEach [a] X.env = [(false, eval a X.env)] := by rfl) : QI X (.Tuple elts k tp) (.Call (.Name "enumerate" p) [a] [] pos) (iEnumT X.K ta) := ⟨pi_enumT hg hm ha.h hs⟩
end
theorem for_enumT {K : PySem.W.Frag} {a : Addr} {xs : List V} {g : TG} {tb : TS} {D : Ends} {σ : St} {H : Hp} (Pv : Nat → St → Hp → Prop) (h0 : Pv 0 σ H) (hl : ∀ i σ H, i ≤ xs.length → Pv i σ H → SqT K H a xs)
    (hs : ∀ i x T σ H, xs[i]? = some x → Pv i σ H → H T = none → g (.ref T) σ (upd H T (.tup [.int (i : Nat), x])) fun σ2 H2 => tb { D with nx := Pv (i + 1), ct := Pv (i + 1), bk := D.nx } σ2 H2) (hd : ∀ σ H, Pv xs.length σ H → D.nx σ H) :
    ∃ W : Nat → Nat → St → Hp → Prop, (∃ m, W 0 m σ H) ∧ ∀ i m σ H, W i m σ H →
      ((Itet K a).stop i H ∧ D.nx σ H) ∨ ((Itet K a).go i H ∧ ∃ N : St → Hp → Prop, (∀ σ' H', N σ' H' → ∃ m', m' < m ∧ W (i + 1) m' σ' H') ∧ ∀ x H', (Itet K a).yld i H x H' → g x σ H' fun σ2 H2 => tb { D with nx := N, ct := N, bk := D.nx } σ2 H2) := by
  refine ⟨fun i m σ H => m = xs.length - i ∧ i ≤ xs.length ∧ Pv i σ H, ⟨xs.length, by simp, Nat.zero_le _, h0⟩, ?_⟩
  rintro i m σ H ⟨rfl, hi, p⟩
  have q := hl i σ H hi p
  by_cases hlt : i < xs.length
  · refine .inr ⟨⟨xs, xs[i], q, by simp [hlt]⟩, Pv (i + 1), fun σ' H' p' => ⟨xs.length - (i + 1), by omega, rfl, hlt, p'⟩, fun v H' y => ?_⟩
    obtain ⟨T, x, hx, hT, rfl, rfl⟩ := y
    exact hs i x T σ _ (hx xs q) p hT
  · have e : i = xs.length := by omega
    subst e
    exact .inl ⟨⟨xs, q, rfl⟩, hd σ H p⟩
end L2
/-! EvIdx: places in tuples and lists from a start on, tuples whose object is known, lists taken apart, values of an `or`. Behind EvEnt. -/
namespace L2
open PySem PySem.Spec PyProof.Rows
section
variable {prog : Program} {w : World} {A : Around} {E : Value → Shared → Prop} {s : Shared}
end
/-! ### places from a start on -/
end L2
/-! EvKw: enumerate(tuple, start=k), sum of a list of numbers. Behind EvIdx. -/
namespace L2
open PySem PySem.Spec PyProof.Rows
section
variable {prog : Program} {w : World} {A : Around} {E : Value → Shared → Prop} {s : Shared}
end
section
variable {prog : Program} {w : World} {A : Around} {E : Value → Shared → Prop} {s : Shared}
end
section
variable {M : Model} {A : Around} {E : Value → Shared → Prop} {s : Shared} {env : Env}
end
/-- sum(list of numbers) -/
def rSumI (K : PySem.W.Frag) : List V → Hp → VK → Prop := fun xs H Q => ∃ (a : Addr) (ns : List Int), xs = [.ref a] ∧ SqL K H a (ns.map V.int) ∧ Q (.int ns.sum) H
theorem call_sumI {X : Cx} (hc : X.calm = true) : CallR X (.builtin "sum") (rSumI X.K) := by
  intro pins s σ H xs us Q I r h
  obtain ⟨a, ns, rfl, hq, q⟩ := h
  obtain ⟨u, rfl, rx⟩ := vals1 r
  cases rx
  obtain ⟨its, rv, pl, hz⟩ := I.list hq
  have hi := ints_of_vals rv
  obtain ⟨zs, hx⟩ := hi.allInts.items
  have hl : s.heap.IsList a (intItems zs) := hx ▸ pl.isList
  refine sum_intListG (I.ok.hd hc) hl fun h2 tk t2 hk => ⟨.int ns.sum, H, I.kept (t' := tk) hk, ⟨t2, ?_⟩, q⟩
  have e1 : ns = zs.toList.map (·.1) := by
    rw [← nums_intItems, ← hx]
    exact (show numsOf its.toArray.toList = ns from hi.numsOf).symm
  rw [preSum_eq, List.take_of_length_le (by simp), e1]
section
variable {X : Cx} {elts : List Expr} {k : Nat} {tp : Pos}
end
end L2
/-! EvSrt: sorted of pairs of numbers with unlike first numbers: by the first number. Behind EvSort. -/
namespace L2
open PySem PySem.Spec PyProof.Rows PySem.W
/-- a tree of questions, answered -/
def krun {α : Type} (c : Nat → Nat → Bool) : KasT α → α
  | .ret a => a
  | .ask i j k => krun c (k (c i j))
theorem krun_bind {α β : Type} {c : Nat → Nat → Bool} {f : α → KasT β} : ∀ t : KasT α, krun c (t.bind f) = krun c (f (krun c t))
  | .ret a => rfl
  | .ask i j k => krun_bind (k (c i j))
theorem KAll.run {α : Type} {n : Nat} {R : α → Prop} {c : Nat → Nat → Bool} : ∀ {t : KasT α}, KAll n R t → R (krun c t)
  | .ret _, h => h
  | .ask i j k, h => KAll.run (t := k (c i j)) (h.2.2 _)
theorem KAll.wpx {α : Type} {n : Nat} {R : α → Prop} {c : Nat → Nat → Bool} {cmp : Nat → Nat → (Bool → Shared → Prop) → Shared → Prop} {Q : α → Shared → Prop} {s : Shared} (hc : ∀ i j C, i < n → j < n → C (c i j) s → cmp i j C s) : ∀ {t : KasT α}, KAll n R t → Q (krun c t) s → t.kasWp cmp Q s
  | .ret _, _, q => q
  | .ask i j k, h, q => hc i j _ h.1 h.2.1 (KAll.wpx hc (h.2.2 _) q)
section
variable (key : Nat → Int)
def kc (i j : Nat) : Bool := decide (key i < key j)
def Gk (p : Array Nat) (k : Nat) : Int := key (p.getD k 0)
def KSd (p : Array Nat) (m : Nat) : Prop := ∀ i, i + 1 < m → Gk key p i ≤ Gk key p (i + 1)
variable {key}
theorem KSd.le {p : Array Nat} {m : Nat} (h : KSd key p m) {i j : Nat} (hij : i ≤ j) (hj : j < m) : Gk key p i ≤ Gk key p j := by
  induction j with
  | zero =>
    have : i = 0 := by omega
    subst this
    exact Int.le_refl _
  | succ j ih =>
    by_cases e : i = j + 1
    · subst e
      exact Int.le_refl _
    · exact Int.le_trans (ih (by omega) (by omega)) (h j hj)
theorem run_asc {p : Array Nat} : ∀ f m, 1 ≤ m → KSd key p m → KSd key p (krun (kc key) (kas_asc p f m)) ∧ m ≤ krun (kc key) (kas_asc p f m) ∧ krun (kc key) (kas_asc p f m) ≤ m + f ∧ (krun (kc key) (kas_asc p f m) < m + f → Gk key p (krun (kc key) (kas_asc p f m)) < Gk key p (krun (kc key) (kas_asc p f m) - 1))
  | 0, m, h1, hs => ⟨hs, Nat.le_refl _, Nat.le_refl _, fun z => absurd z (Nat.lt_irrefl _)⟩
  | f + 1, m, h1, hs => by
    rw [kas_asc]
    show _ ∧ _
    rw [krun]
    by_cases c : kc key (p.getD m 0) (p.getD (m - 1) 0) = true
    · rw [if_pos c]
      exact ⟨hs, Nat.le_refl _, by show m ≤ m + (f + 1); omega, fun _ => of_decide_eq_true c⟩
    · rw [if_neg c]
      have hle : Gk key p (m - 1) ≤ Gk key p m := by
        have : ¬ key (p.getD m 0) < key (p.getD (m - 1) 0) := fun z => c (decide_eq_true z)
        unfold Gk
        omega
      obtain ⟨q1, q2, q3, q4⟩ := run_asc f (m + 1) (by omega) (fun i hi => by
        by_cases e : i + 1 = m
        · subst e
          rw [Nat.add_sub_cancel] at hle
          exact hle
        · exact hs i (by omega))
      exact ⟨q1, by omega, by omega, fun z => q4 (by omega)⟩
theorem Gk_rev {p : Array Nat} {m : Nat} (hm : m ≤ p.size) (k : Nat) : Gk key (kas_rev p 0 m) k = if k < m then Gk key p (m - 1 - k) else Gk key p k := by
  have e := getElem?_mirror_all (xs := p) (i := 0) hm k
  unfold Gk kas_rev
  rw [Array.getD_eq_getD_getElem?, e]
  by_cases h : k < m
  · rw [if_pos ⟨Nat.zero_le _, h⟩, if_pos h, Array.getD_eq_getD_getElem?, Nat.zero_add]
  · rw [if_neg (fun z => h z.2), if_neg h, Array.getD_eq_getD_getElem?]
theorem run_tail3 {p : Array Nat} {m N : Nat} (h1 : 1 ≤ m) (hm : m ≤ p.size) (hN : m ≤ N) (hs : ∀ i, i + 1 < m → Gk key p (i + 1) ≤ Gk key p i) : KSd key (krun (kc key) (kas_tail3 m N p)).2 (krun (kc key) (kas_tail3 m N p)).1 ∧ 1 ≤ (krun (kc key) (kas_tail3 m N p)).1 ∧ (krun (kc key) (kas_tail3 m N p)).1 ≤ N := by
  unfold kas_tail3
  rw [krun_bind, krun]
  have hr : KSd key (kas_rev p 0 m) m := fun i hi => by
    rw [Gk_rev hm, Gk_rev hm, if_pos (by omega), if_pos hi]
    have := hs (m - 1 - (i + 1)) (by omega)
    rw [show m - 1 - (i + 1) + 1 = m - 1 - i by omega] at this
    exact this
  obtain ⟨q1, q2, q3, _⟩ := run_asc (key := key) (p := kas_rev p 0 m) (N - m) m h1 hr
  exact ⟨q1, by show 1 ≤ krun _ _; omega, by show krun _ _ ≤ N; omega⟩
theorem run_place {p : Array Nat} {k : Nat} (hs : KSd key p k) : ∀ f l r, l ≤ r → r ≤ k → r - l ≤ f → (∀ i, i < l → Gk key p i ≤ Gk key p k) → (∀ i, r ≤ i → i < k → Gk key p k < Gk key p i) → krun (kc key) (kas_place p k f l r) ≤ k ∧ (∀ i, i < krun (kc key) (kas_place p k f l r) → Gk key p i ≤ Gk key p k) ∧ ∀ i, krun (kc key) (kas_place p k f l r) ≤ i → i < k → Gk key p k < Gk key p i
  | 0, l, r, h1, h2, h3, h4, h5 => by
    have : l = r := by omega
    subst this
    exact ⟨h2, h4, h5⟩
  | f + 1, l, r, h1, h2, h3, h4, h5 => by
    rw [kas_place]
    by_cases e : l ≥ r
    · rw [if_pos e, krun]
      have : l = r := by omega
      subst this
      exact ⟨h2, h4, h5⟩
    · rw [if_neg e, krun]
      by_cases c : kc key (p.getD k 0) (p.getD ((l + r) / 2) 0) = true
      · rw [if_pos c]
        have hc : Gk key p k < Gk key p ((l + r) / 2) := of_decide_eq_true c
        exact run_place hs f l ((l + r) / 2) (by omega) (by omega) (by omega) h4 fun i hi hik => Int.lt_of_lt_of_le hc (hs.le hi hik)
      · rw [if_neg c]
        have hc : Gk key p ((l + r) / 2) ≤ Gk key p k := by
          have : ¬ key (p.getD k 0) < key (p.getD ((l + r) / 2) 0) := fun z => c (decide_eq_true z)
          unfold Gk
          omega
        exact run_place hs f ((l + r) / 2 + 1) r (by omega) h2 (by omega) (fun i hi => Int.le_trans (hs.le (show i ≤ (l + r) / 2 by omega) (by omega)) hc) h5
theorem Gk_bub {p : Array Nat} {k t : Nat} (hk : k < p.size) (ht : t ≤ k) (i : Nat) : Gk key (bubble p k (k - t)) i = if i = t then Gk key p k else if t < i ∧ i ≤ k then Gk key p (i - 1) else Gk key p i := by
  have e := getElem?_bubble (xs := p) hk (k - t) (by omega) i
  rw [show k - (k - t) = t by omega] at e
  unfold Gk
  rw [Array.getD_eq_getD_getElem?, e]
  by_cases h : i = t
  · rw [if_pos h, if_pos h, Array.getD_eq_getD_getElem?]
  · rw [if_neg h, if_neg h]
    by_cases h2 : t < i ∧ i ≤ k
    · rw [if_pos h2, if_pos h2, Array.getD_eq_getD_getElem?]
    · rw [if_neg h2, if_neg h2, Array.getD_eq_getD_getElem?]
theorem run_bin : ∀ f {p : Array Nat} (k : Nat), 1 ≤ k → k + f ≤ p.size → KSd key p k → KSd key (krun (kc key) (kas_bin f p k)) (k + f)
  | 0, _, _, _, _, hs => hs
  | f + 1, p, k, h1, h2, hs => by
    rw [kas_bin, krun_bind]
    obtain ⟨q1, q2, q3⟩ := run_place (p := p) (k := k) hs k 0 k (Nat.zero_le _) (Nat.le_refl _) (by omega) (fun i hi => by omega) (fun i z1 z2 => by omega)
    generalize krun (kc key) (kas_place p k k 0 k) = t at q1 q2 q3 ⊢
    have := run_bin f (p := bubble p k (k - t)) (k + 1) (by omega) (by rw [bubble_size]; omega) (fun i hi => by
      rw [Gk_bub (by omega) q1, Gk_bub (by omega) q1]
      by_cases e1 : i = t
      · subst e1
        rw [if_pos rfl, if_neg (by omega), if_pos (by omega), Nat.add_sub_cancel]
        exact Int.le_of_lt (q3 i (Nat.le_refl _) (by omega))
      · rw [if_neg e1]
        by_cases e2 : i + 1 = t
        · rw [if_neg (by omega), if_pos e2]
          exact q2 i (by omega)
        · rw [if_neg e2]
          by_cases e3 : t < i
          · rw [if_pos (by omega), if_pos (by omega), Nat.add_sub_cancel]
            have := hs (i - 1) (by omega)
            rw [show i - 1 + 1 = i by omega] at this
            exact this
          · rw [if_neg (by omega), if_neg (by omega)]
            exact hs i (by omega))
    rw [show k + (f + 1) = k + 1 + f by omega]
    exact this
end
section
variable {prog : Program} {w : World} {A : Around} {E : Value → Shared → Prop} {s : Shared}
end
end L2
/-! EvLex: sorted of tuples of numbers, like ones and empty ones among them: by the order of rows. Behind EvSrt. -/
namespace L2
open PySem PySem.Spec PyProof.Rows PySem.W
/-- rows of numbers, one ahead of the other -/
def lexB : List Int → List Int → Bool
  | _, [] => false
  | [], _ :: _ => true
  | x :: xs, y :: ys => if x = y then lexB xs ys else decide (x < y)
theorem lex_irr : ∀ a : List Int, lexB a a = false
  | [] => rfl
  | x :: a => by
    rw [lexB, if_pos rfl]
    exact lex_irr a
theorem lex_trans : ∀ {a b c : List Int}, lexB a b = true → lexB b c = true → lexB a c = true
  | _, _, [], _, h2 => by cases h2' : (‹List Int› : List Int) <;> simp_all [lexB]
  | [], _, _ :: _, _, _ => rfl
  | _ :: _, [], _ :: _, h1, _ => by simp [lexB] at h1
  | x :: a, y :: b, z :: c, h1, h2 => by
    rw [lexB] at h1 h2 ⊢
    by_cases e1 : x = y
    · rw [if_pos e1] at h1
      subst e1
      by_cases e2 : x = z
      · rw [if_pos e2] at h2 ⊢
        exact lex_trans h1 h2
      · rw [if_neg e2] at h2 ⊢
        exact h2
    · rw [if_neg e1] at h1
      have l1 := of_decide_eq_true h1
      by_cases e2 : y = z
      · subst e2
        rw [if_neg e1]
        exact h1
      · rw [if_neg e2] at h2
        have l2 := of_decide_eq_true h2
        rw [if_neg (by omega)]
        exact decide_eq_true (by omega)
theorem lex_tri : ∀ {a b : List Int}, lexB a b = false → lexB b a = false → a = b
  | [], [], _, _ => rfl
  | [], _ :: _, h, _ => by simp [lexB] at h
  | _ :: _, [], _, h => by simp [lexB] at h
  | x :: a, y :: b, h1, h2 => by
    rw [lexB] at h1 h2
    by_cases e : x = y
    · rw [if_pos e] at h1
      rw [if_pos e.symm] at h2
      rw [e, lex_tri h1 h2]
    · rw [if_neg e] at h1
      rw [if_neg (fun z => e z.symm)] at h2
      have l1 := of_decide_eq_false h1
      have l2 := of_decide_eq_false h2
      omega
theorem countP_lt {α : Type} {p q : α → Bool} : ∀ {l : List α}, (∀ x ∈ l, p x = true → q x = true) → ∀ {a : α}, a ∈ l → q a = true → p a = false → l.countP p < l.countP q
  | [], _, _, h, _, _ => nomatch h
  | x :: l, h, a, ha, hq, hp => by
    have hle := List.countP_mono_left (l := l) (p := p) (q := q) fun y hy => h y (List.mem_cons_of_mem _ hy)
    rw [List.countP_cons, List.countP_cons]
    rcases List.mem_cons.mp ha with e | e
    · subst e
      rw [hq, hp]
      simp
      omega
    · have := countP_lt (l := l) (fun y hy => h y (List.mem_cons_of_mem _ hy)) e hq hp
      have h1 := h x (List.mem_cons_self ..)
      cases hpx : p x
      · simp
        omega
      · rw [h1 hpx]
        simp
        omega
/-- a row's rank among n -/
def rk (L : Nat → List Int) (n i : Nat) : Nat := (List.range n).countP fun j => lexB (L j) (L i)
theorem rk_lt {L : Nat → List Int} {n i j : Nat} (hi : i < n) (h : lexB (L i) (L j) = true) : rk L n i < rk L n j :=
  countP_lt (fun _ _ hx => lex_trans hx h) (a := i) (List.mem_range.mpr hi) h (lex_irr _)
theorem rk_iff {L : Nat → List Int} {n i j : Nat} (hi : i < n) (hj : j < n) : decide (((rk L n i : Nat) : Int) < ((rk L n j : Nat) : Int)) = lexB (L i) (L j) := by
  cases h : lexB (L i) (L j) with
  | true =>
    have := rk_lt hi h
    exact decide_eq_true (by omega)
  | false =>
    refine decide_eq_false fun z => ?_
    cases h2 : lexB (L j) (L i) with
    | true =>
      have := rk_lt hj h2
      omega
    | false =>
      have e := lex_tri h h2
      unfold rk at z
      rw [e] at z
      omega
section
variable {key : Nat → Int}
theorem Gk_revS {p : Array Nat} {i j : Nat} (hj : j ≤ p.size) (k : Nat) : Gk key (kas_rev p i j) k = if i ≤ k ∧ k < j then Gk key p (i + j - 1 - k) else Gk key p k := by
  have e := getElem?_mirror_all (xs := p) (i := i) hj k
  unfold Gk kas_rev
  rw [Array.getD_eq_getD_getElem?, e]
  by_cases h : i ≤ k ∧ k < j
  · rw [if_pos h, if_pos h, Array.getD_eq_getD_getElem?]
  · rw [if_neg h, if_neg h, Array.getD_eq_getD_getElem?]
theorem Gk_revE {p : Array Nat} {i j : Nat} {c : Int} (hj : j ≤ p.size) (h : ∀ k, i ≤ k → k < j → Gk key p k = c) (k : Nat) : Gk key (kas_rev p i j) k = Gk key p k := by
  rw [Gk_revS hj]
  by_cases z : i ≤ k ∧ k < j
  · rw [if_pos z, h k z.1 z.2, h _ (by omega) (by omega)]
  · rw [if_neg z]
theorem revSize {p : Array Nat} (i j : Nat) : (kas_rev p i j).size = p.size := mirror_size _ _ _ _
theorem run_descT : ∀ f {p : Array Nat} (m q : Nat), q + 1 ≤ m → m + f ≤ p.size → (∀ i, i + 1 < m → Gk key p (i + 1) ≤ Gk key p i) → (∀ k, m - 1 - q ≤ k → k < m → Gk key p k = Gk key p (m - 1)) →
    ∃ p' m' q', krun (kc key) (kas_desc f p m q) = (p', m', q') ∧ p'.size = p.size ∧ (∀ k, Gk key p' k = Gk key p k) ∧ m ≤ m' ∧ m' ≤ m + f ∧ (∀ i, i + 1 < m' → Gk key p (i + 1) ≤ Gk key p i) ∧ q' + 1 ≤ m' ∧ ∀ k, m' - 1 - q' ≤ k → k < m' → Gk key p k = Gk key p (m' - 1)
  | 0, p, m, q, h1, _, hs, he => ⟨p, m, q, rfl, rfl, fun _ => rfl, Nat.le_refl _, Nat.le_refl _, hs, h1, he⟩
  | f + 1, p, m, q, h1, hn, hs, he => by
    rw [kas_desc, krun]
    by_cases c : kc key (p.getD m 0) (p.getD (m - 1) 0) = true
    · have hlt : Gk key p m < Gk key p (m - 1) := of_decide_eq_true c
      have hs' : ∀ i, i + 1 < m + 1 → Gk key p (i + 1) ≤ Gk key p i := fun i hi => by
        by_cases e : i + 1 = m
        · rw [e, show i = m - 1 by omega]
          exact Int.le_of_lt hlt
        · exact hs i (by omega)
      rw [if_pos c]
      by_cases hq : q > 0
      · rw [if_pos hq]
        have hg := Gk_revE (key := key) (p := p) (i := m - (q + 1)) (j := m) (c := Gk key p (m - 1)) (by omega) (fun k k1 k2 => he k (by omega) k2)
        obtain ⟨p', m', q', r1, r2, r3, r4, r5, r6, r7, r8⟩ := run_descT f (p := kas_rev p (m - (q + 1)) m) (m + 1) 0 (by omega) (by rw [revSize]; omega) (fun i hi => by rw [hg, hg]; exact hs' i hi) (fun k k1 k2 => by rw [show k = m + 1 - 1 by omega])
        exact ⟨p', m', q', r1, by rw [r2, revSize], fun k => by rw [r3, hg], by omega, by omega, fun i hi => by have := r6 i hi; rwa [hg, hg] at this, r7, fun k k1 k2 => by have := r8 k k1 k2; rwa [hg, hg] at this⟩
      · rw [if_neg hq]
        obtain ⟨p', m', q', r1, r2, r3, r4, r5, r6, r7, r8⟩ := run_descT f (p := p) (m + 1) 0 (by omega) (by omega) hs' (fun k k1 k2 => by rw [show k = m + 1 - 1 by omega])
        exact ⟨p', m', q', r1, r2, r3, by omega, by omega, r6, r7, r8⟩
    · rw [if_neg c, krun]
      by_cases d : kc key (p.getD (m - 1) 0) (p.getD m 0) = true
      · rw [if_pos d]
        exact ⟨p, m, q, rfl, rfl, fun _ => rfl, Nat.le_refl _, by omega, hs, h1, he⟩
      · rw [if_neg d]
        have heq : Gk key p m = Gk key p (m - 1) := by
          have z1 : ¬ key (p.getD m 0) < key (p.getD (m - 1) 0) := fun z => c (decide_eq_true z)
          have z2 : ¬ key (p.getD (m - 1) 0) < key (p.getD m 0) := fun z => d (decide_eq_true z)
          unfold Gk
          omega
        obtain ⟨p', m', q', r1, r2, r3, r4, r5, r6, r7, r8⟩ := run_descT f (p := p) (m + 1) (q + 1) (by omega) (by omega) (fun i hi => by
          by_cases e : i + 1 = m
          · rw [e, show i = m - 1 by omega, heq]
            exact Int.le_refl _
          · exact hs i (by omega)) (fun k k1 k2 => by
          rw [Nat.add_sub_cancel, heq]
          by_cases e : k = m
          · rw [e, heq]
          · exact he k (by omega) (by omega))
        exact ⟨p', m', q', r1, r2, r3, by omega, by omega, r6, r7, r8⟩
theorem run_descPart {n m : Nat} {p : Array Nat} (h1 : 1 ≤ m) (hm : m < n) (hsz : p.size = n) (hs : ∀ i, i + 1 < m + 1 → Gk key p (i + 1) ≤ Gk key p i) : KSd key (krun (kc key) (kas_descPart m n p)).2 (krun (kc key) (kas_descPart m n p)).1 ∧ 1 ≤ (krun (kc key) (kas_descPart m n p)).1 ∧ (krun (kc key) (kas_descPart m n p)).1 ≤ n := by
  unfold kas_descPart
  rw [krun_bind]
  obtain ⟨p', m', q', r1, r2, r3, r4, r5, r6, r7, r8⟩ := run_descT (key := key) (n - (m + 1)) (p := p) (m + 1) 0 (by omega) (by omega) hs (fun k k1 k2 => by rw [show k = m + 1 - 1 by omega])
  rw [r1]
  dsimp only
  by_cases hq : q' > 0
  · rw [if_pos hq]
    have hg := Gk_revE (key := key) (p := p') (i := m' - (q' + 1)) (j := m') (c := Gk key p (m' - 1)) (by omega) (fun k k1 k2 => by rw [r3]; exact r8 k (by omega) k2)
    exact run_tail3 (by omega) (by rw [revSize]; omega) (by omega) fun i hi => by rw [hg, hg, r3, r3]; exact r6 i hi
  · rw [if_neg hq]
    exact run_tail3 (by omega) (by omega) (by omega) fun i hi => by rw [r3, r3]; exact r6 i hi
theorem run_countT {n : Nat} {p : Array Nat} (hn : 1 ≤ n) (hsz : p.size = n) : KSd key (krun (kc key) (kas_count n p)).2 (krun (kc key) (kas_count n p)).1 ∧ 1 ≤ (krun (kc key) (kas_count n p)).1 ∧ (krun (kc key) (kas_count n p)).1 ≤ n := by
  unfold kas_count
  rw [krun_bind]
  obtain ⟨q1, q2, q3, q4⟩ := run_asc (key := key) (p := p) (n - 1) 1 (Nat.le_refl _) (fun i hi => by omega)
  generalize krun (kc key) (kas_asc p (n - 1) 1) = m at q1 q2 q3 q4 ⊢
  by_cases e1 : (m == n) = true
  · rw [if_pos e1, krun]
    exact ⟨q1, q2, by show m ≤ n; omega⟩
  · rw [if_neg e1]
    have hmn : m ≠ n := fun z => e1 (by simp [z])
    have hlt := q4 (by omega)
    by_cases e2 : m > 1
    · rw [if_pos e2, krun]
      by_cases c : kc key (p.getD 0 0) (p.getD (m - 1) 0) = true
      · rw [if_pos c, krun]
        exact ⟨q1, q2, by show m ≤ n; omega⟩
      · rw [if_neg c]
        have hle : Gk key p (m - 1) ≤ Gk key p 0 := by
          have : ¬ key (p.getD 0 0) < key (p.getD (m - 1) 0) := fun z => c (decide_eq_true z)
          unfold Gk
          omega
        have hall : ∀ k, 0 ≤ k → k < m → Gk key p k = Gk key p 0 := fun k _ k2 => by
          have a1 := q1.le (Nat.zero_le k) k2
          have a2 := q1.le (show k ≤ m - 1 by omega) (by omega)
          omega
        have hg := Gk_revE (key := key) (p := p) (i := 0) (j := m) (by omega) hall
        refine run_descPart (by omega) (by omega) (by rw [revSize]; exact hsz) fun i hi => ?_
        rw [hg, hg]
        by_cases e : i + 1 = m
        · rw [e, show i = m - 1 by omega]
          exact Int.le_of_lt hlt
        · have a1 := hall (i + 1) (Nat.zero_le _) (by omega)
          have a2 := hall i (Nat.zero_le _) (by omega)
          omega
    · rw [if_neg e2]
      have em : m = 1 := by omega
      subst em
      refine run_descPart (by omega) (by omega) hsz fun i hi => ?_
      have : i = 0 := by omega
      subst this
      exact Int.le_of_lt hlt
theorem run_sortT {n : Nat} (hn : 1 ≤ n) : KSd key (krun (kc key) (kas_sort n)) n := by
  unfold kas_sort
  rw [krun_bind]
  obtain ⟨q1, q2, q3⟩ := run_countT (key := key) (p := List.toArray (List.range n)) hn (by simp)
  have hO : Ord n (krun (kc key) (kas_count n (List.toArray (List.range n)))).2 := KAll.run (R := fun r : Nat × Array Nat => Ord n r.2) (all_count hn (p := List.toArray (List.range n)) (by unfold Ord; simp) n)
  generalize krun (kc key) (kas_count n (List.toArray (List.range n))) = r at q1 q2 q3 hO ⊢
  by_cases e : r.1 < n
  · rw [if_pos e]
    have hsz : r.2.size = n := by
      have := hO.length_eq
      rw [List.length_range, Array.length_toList] at this
      exact this
    have := run_bin (key := key) (n - max r.1 1) (p := r.2) (max r.1 1) (by omega) (by omega) (by rw [show max r.1 1 = r.1 by omega]; exact q1)
    rw [show max r.1 1 + (n - max r.1 1) = n by omega] at this
    exact this
  · rw [if_neg e, krun]
    rw [show n = r.1 by omega]
    exact q1
end
/-- a tuple of numbers, in the heap -/
def TupI (h : Heap) (v : Value) (xs : List Int) : Prop := ∃ (a : Addr) (o : Obj) (its : Array Value) (k : Nat), v = .ref a ∧ h.get? a = some o ∧ o.cls = .type "tuple" ∧ o.data = .seq its k ∧ PyProof.Rows.IntsAre its.toList xs
section
variable {prog : Program} {w : World} {A : Around} {E : Value → Shared → Prop} {s : Shared}
theorem oneLt_any {x y : Int} {t u : Tok} {Q : Bool → Shared → Prop} (b : Bool) (h : Q (decide (x < y)) s) : wpAny (model prog w) A (oneLt' b (.int x t) (.int y u)) Q E s := by
  cases b with
  | true => exact oneLt_int h
  | false => exact kat_one _ _ (lt_int h)
theorem kat_lexI {Q : Bool → Shared → Prop} : ∀ {ps qs : List Value} {xs ys : List Int} {i : Nat}, PyProof.Rows.IntsAre ps xs → PyProof.Rows.IntsAre qs ys → ∀ {fin : Bool}, fin = decide (ps.length < qs.length) → Q (lexB xs ys) s → KatLex prog w A true fin Q (ps.zip qs) i s
  | _, _, _, _, i, .nil, .nil, _, hf, h => by
    subst hf
    exact kat_nil h
  | _, _, _, _, i, .nil, .cons _ _ _, _, hf, h => by
    subst hf
    exact kat_nil h
  | _, _, _, _, i, .cons _ _ _, .nil, _, hf, h => by
    subst hf
    exact kat_nil h
  | _, _, _, _, i, .cons x t r, .cons y u r', _, hf, h => by
    rw [List.zip_cons_cons]
    refine kat_cons (wpAny_eqBool_int (kat_go (fun e => kat_yes ?_) (fun e => kat_no ?_)))
    · have e' : x = y := by simpa using e
      rw [lexB, if_pos e'] at h
      exact kat_lexI r r' (by rw [hf, List.length_cons, List.length_cons]; congr 1; simp) h
    · have e' : ¬ x = y := by simpa using e
      rw [lexB, if_neg e'] at h
      exact oneLt_any _ h
theorem TupI.typeIs {v : Value} {xs : List Int} (h : TupI s.heap v xs) : s.TypeIs v "tuple" := by
  obtain ⟨a, o, its, k, rfl, ho, hc, _⟩ := h
  exact ⟨o, ho, hc⟩
theorem tuple_lt_tree {x y : List Int} {a b : Addr} {P : Fin → Shared → Prop} (hx : TupI s.heap (.ref a) x) (hy : TupI s.heap (.ref b) y) (h : P (.done (.ret (.bool (lexB x y)))) s) :
    wpAny (model prog w) A (Builtin.«tuple.__lt__» ⟨[.ref a, .ref b], []⟩) P E s := by
  have hTb := hy.typeIs
  obtain ⟨_, oa, xs, na, ea, hoa, _, hda, hia⟩ := hx
  obtain ⟨_, ob, ys, nb, eb, hob, _, hdb, hib⟩ := hy
  cases ea
  cases eb
  show wpAny _ _ (isInstance (.ref b) (.type "tuple") >>= _) _ _ s
  refine wpAny_bind (wpAny_isInstance hTb isSubtype_tuple_tuple ?_)
  simp only [Bool.not_true, Bool.false_eq_true, if_false]
  refine wpAny_bind (wpAny_tupleItemsOf hoa hda ?_)
  refine wpAny_bind (wpAny_tupleItemsOf hob hdb ?_)
  refine wpAny_bind ?_
  refine wpAny_forIn_list _
    (fun rest r s' => r.1 = none ∧ s' = s ∧ ∃ x' y' xs' ys', rest = List.zip xs' ys' ∧ PyProof.Rows.IntsAre xs' x' ∧ PyProof.Rows.IntsAre ys' y' ∧ lexB x' y' = lexB x y ∧ decide (xs'.length < ys'.length) = decide (xs.size < ys.size))
    _ ?_ ?_ _ _ ⟨rfl, rfl, x, y, xs.toList, ys.toList, rfl, hia, hib, rfl, by simp⟩
  · rintro ⟨u, v⟩ rest r s' ⟨hr, rfl, x', y', xs', ys', hz, hx', hy', hdec, hlen⟩
    cases hx' with
    | nil => simp at hz
    | cons k1 t1 hx'' =>
      cases hy' with
      | nil => simp at hz
      | cons k2 t2 hy'' =>
        simp only [List.zip_cons_cons, List.cons.injEq, Prod.mk.injEq] at hz
        obtain ⟨⟨rfl, rfl⟩, rfl⟩ := hz
        refine wpAny_bind (wpAny_eqBool_int ?_)
        rw [lexB] at hdec
        by_cases hk : k1 = k2
        · rw [if_pos hk] at hdec
          rw [show (k1 == k2) = true by simp [hk]]
          simp only [Bool.not_true, Bool.false_eq_true, if_false]
          exact wpAny_pure ⟨rfl, rfl, _, _, _, _, rfl, hx'', hy'', hdec, by rw [← hlen, List.length_cons, List.length_cons]; congr 1; simp⟩
        · rw [if_neg hk] at hdec
          rw [show (k1 == k2) = false by simp [hk]]
          simp only [Bool.not_false, if_true]
          rw [← hdec] at h
          refine wpAny_bind (wpAny_rule ?_)
          refine wpAny_bind ?_
          exact (show wpAny (model prog w) A (compareOp .Lt (.int k1 t1) (.int k2 t2)) _ E s' from lt_int (wpAny_bind (wpAny_pure (wpAny_pure (wpAny_pure h)))))
  · rintro ⟨r1, r2⟩ s' ⟨hr, rfl, x', y', xs', ys', hz, hx', hy', hdec, hlen⟩
    simp only at hr
    subst hr
    refine wpAny_pure ?_
    have hfin : decide (xs.size < ys.size) = lexB x y := by
      rw [← hdec, ← hlen]
      cases hx' with
      | nil =>
        cases hy' with
        | nil => rfl
        | cons _ _ _ => simp [lexB]
      | cons _ _ _ =>
        cases hy' with
        | nil => simp [lexB]
        | cons _ _ _ => simp at hz
    show P (.done (.ret (.bool (decide (xs.size < ys.size))))) s'
    rw [hfin]
    exact h
/-- how such keys may be asked -/
def Kd (κ : SortKind) : Prop := κ = tuples' true ∨ κ = general' ∨ κ = oneType'
theorem call_tuple_lt {x y : List Int} {a b : Addr} {Q : Value → Shared → Prop} (hx : TupI s.heap (.ref a) x) (hy : TupI s.heap (.ref b) y) (h : Q (.bool (lexB x y)) s) : wpAny (model prog w) A (call (.builtin "tuple.__lt__") [.ref a, .ref b]) Q E s :=
  wpAny_call_entry F.slot_tuple_lt hx.typeIs F.entry_tuple_lt (tuple_lt_tree hx hy ⟨_, rfl, h⟩) (F.args_tuple_lt_2 _ _)
theorem tup_lt {κ : SortKind} (hκ : Kd κ) (hu : A.units < cLine) {v v' : Value} {x y : List Int} {C : Bool → Shared → Prop} (hv : TupI s.heap v x) (hv' : TupI s.heap v' y) (hC : C (lexB x y) s) : wpAny (model prog w) A (keyLt' κ v v') C (fun _ _ => False) s := by
  have T1 := hv.typeIs
  have T2 := hv'.typeIs
  have h1 := hv
  have h2 := hv'
  obtain ⟨a, o, its, k, rfl, ho, hc, hd, hi⟩ := hv
  obtain ⟨b, o', its', k', rfl, ho', hc', hd', hi'⟩ := hv'
  rcases hκ with rfl | rfl | rfl
  · exact kat_lt ho hd ho' hd' (kat_lexI hi hi' (by simp) hC)
  · exact kat_one _ _ (show wpAny (model prog w) A (richCompare .Lt (.ref a) (.ref b)) _ _ s from wpAny_richCompare_same_room (op := .Lt) T1 T2 F.slot_tuple_lt (call_tuple_lt h1 h2 ⟨by nofun, hC⟩) hu)
  · rw [keyLt'_oneType, oneLt'_eq]
    simp only [if_true]
    refine wpAny_bind (wpAny_cRoomFor hu ?_)
    refine wpAny_bind (wpAny_callSpecialIfBound?_slot T1 F.slot_tuple_lt (call_tuple_lt h1 h2 ?_))
    exact wpAny_truthy_bool hC
theorem tup_heads {M : Model} : ∀ {vs : List Value}, (∀ v ∈ vs, ∃ xs, TupI s.heap v xs) → ∃ os : List (Option Value), ((∃ v ∈ vs, TupI s.heap v []) → none ∈ os) ∧ ∀ Q : List (Option Value) → Shared → Prop, Q os s → wpAny M A (vs.mapM firstOfTuple') Q E s
  | [], _ => ⟨[], by simp, fun Q h => by rw [List.mapM_nil]; exact wpAny_pure h⟩
  | v :: vs, hv => by
    obtain ⟨os, h1, h2⟩ := tup_heads (vs := vs) fun v' h' => hv v' (List.mem_cons_of_mem _ h')
    obtain ⟨xs, a, o, its, k, rfl, ho, hc, hd, hi⟩ := hv v (List.mem_cons_self ..)
    refine ⟨its[0]? :: os, fun ⟨v', hm, ht⟩ => ?_, fun Q h => ?_⟩
    · rcases List.mem_cons.mp hm with e | e
      · subst e
        obtain ⟨_, o2, its2, k2, e, ho2, _, hd2, hi2⟩ := ht
        cases e
        rw [ho] at ho2
        cases ho2
        rw [hd] at hd2
        injection hd2 with e1 e2
        subst e1
        have : its.toList = [] := by
          generalize its.toList = L at hi2
          cases hi2
          rfl
        have e0 : its[0]? = none := by
          rw [← Array.getElem?_toList, this]
          rfl
        rw [e0]
        exact List.mem_cons_self ..
      · exact List.mem_cons_of_mem _ (h1 ⟨v', e, ht⟩)
    · rw [List.mapM_cons]
      refine wpAny_bind ?_
      rw [kas_first_eq]
      refine wpAny_bind (Looks.here (show Looks M s.heap (typeOf (.ref a)) o.cls from (Looks.ld ho).andThen .now) ?_)
      rw [hc, if_neg (by first | decide | simp)]
      refine wpAny_bind (listItems_at ho hd (wpAny_pure ?_))
      exact wpAny_bind (h2 _ (wpAny_pure h))
theorem tup_tups {h : Heap} : ∀ {vs : List Value}, (∀ v ∈ vs, ∃ xs, TupI h v xs) → (¬ ∃ v ∈ vs, TupI h v []) → ∃ fs : List Value, KatTups h vs fs ∧ fs.length = vs.length ∧ ∀ f ∈ fs, ∃ (a : Int) (t : Tok), f = .int a t
  | [], _, _ => ⟨[], trivial, rfl, by simp⟩
  | v :: vs, hv, hn => by
    obtain ⟨fs, h1, h2, h3⟩ := tup_tups (vs := vs) (fun v' h' => hv v' (List.mem_cons_of_mem _ h')) fun ⟨v', m, t⟩ => hn ⟨v', List.mem_cons_of_mem _ m, t⟩
    obtain ⟨xs, a, o, its, k, e, ho, hc, hd, hi⟩ := hv v (List.mem_cons_self ..)
    cases hL : its.toList with
    | nil =>
      refine absurd ⟨v, List.mem_cons_self .., a, o, its, k, e, ho, hc, hd, ?_⟩ hn
      rw [hL]
      exact .nil
    | cons f r =>
      rw [hL] at hi
      cases hi with
      | cons n t _ =>
        refine ⟨.int n t :: fs, ⟨⟨a, o, its, k, e, ho, hc, hd, ?_⟩, h1⟩, by simp [h2], fun f hf => ?_⟩
        · rw [← Array.getElem?_toList, hL]
          rfl
        · rcases List.mem_cons.mp hf with e | e
          · exact ⟨n, t, e⟩
          · exact h3 f e
theorem tup_kind {vs : List Value} {Q : SortKind → Shared → Prop} (hv : ∀ v ∈ vs, ∃ xs, TupI s.heap v xs) (h0 : 0 < vs.length) (h : ∀ κ, Kd κ → Q κ s) : wpAny (model prog w) A (keyKind' vs.toArray) Q E s := by
  by_cases he : ∃ v ∈ vs, TupI s.heap v []
  · obtain ⟨os, h1, h2⟩ := tup_heads (M := model prog w) (A := A) (E := E) hv
    have hno := h1 he
    rw [kat_kind_eq, List.mapM_toArray, map_eq_pure_bind]
    refine wpAny_bind (wpAny_bind (h2 _ (wpAny_pure ?_)))
    have hall : (os.toArray.all fun x => x.isSome) = false := by
      rw [List.all_toArray]
      exact List.all_eq_false.mpr ⟨none, hno, by simp⟩
    rw [if_neg (by rw [hall]; simp)]
    by_cases hf : ((os.toArray[0]?.bind id).isSome) = true
    · rw [if_pos hf]
      exact wpAny_pure (h _ (.inr (.inl rfl)))
    · rw [if_neg hf, oneTypeOnly'_eq, List.mapM_toArray, map_eq_pure_bind]
      refine wpAny_bind (wpAny_bind (wpAny_bind (kas_mapM (r := Value.type "tuple") _ (fun v hv' Q' hq => ?_) (wpAny_pure ?_))))
      · obtain ⟨xs, a, o, its, k, rfl, ho, hc, hd, hi⟩ := hv v hv'
        exact Looks.here (show Looks (model prog w) s.heap (typeOf (.ref a)) (Value.type "tuple") from hc ▸ (Looks.ld ho).andThen .now) hq
      · have fin : ∀ o : Option Value, wpAny (model prog w) A (pure (if o.isSome = true then oneType' else general')) Q E s := fun o => by
          cases o with
          | none => exact wpAny_pure (h _ (.inr (.inl rfl)))
          | some v => exact wpAny_pure (h _ (.inr (.inr rfl)))
        cases (List.map (fun _ => Value.type "tuple") vs).toArray[0]? with
        | none => exact wpAny_pure (fin _)
        | some t => exact wpAny_pure (fin _)
  · obtain ⟨fs, hT, hfl, hfi⟩ := tup_tups hv he
    refine kat_kind (T := .type "int") hT (by omega) (fun f hf => ?_) rfl (h _ (.inl rfl))
    obtain ⟨p, t, rfl⟩ := hfi f hf
    exact Looks.now
theorem list_sortT {a : Addr} {vs : List Value} {n : Nat} {Z : PySem.Fin → Shared → Prop} (ho : s.heap.get? a = some (seqObj "list" vs.toArray n)) (h64 : vs.length < 64) (hu : A.units < cLine) {L : Nat → List Int} (hk : ∀ i (hi : i < vs.length), TupI s.heap vs[i] (L i))
    (h : ∀ (out : List Value) (idx : List Nat), idx.Perm (List.range vs.length) → (∀ i, i + 1 < vs.length → lexB (L (idx.getD (i + 1) 0)) (L (idx.getD i 0)) = false) → out = idx.map (fun i => vs.getD i Value.none) → out.Perm vs → Z (.done (.ret .none)) { s with heap := sortedHeap s.heap a vs out.toArray }) : wpAny (model prog w) A (Builtin.«list.sort» ⟨[.ref a], []⟩) Z E s := by
  have hlt : a < s.heap.objs.size := Heap.lt_size ho
  obtain ⟨c1, g1⟩ : ∃ c1, (s.heap.update a (Obj.mapSeq fun _ => #[])).get? a = some (seqObj "list" #[] c1) := ⟨_, get?_update_seq ho (fun _ => #[])⟩
  have up : ∀ b o, b ≠ a → s.heap.get? b = some o → (((s.heap.update a (Obj.mapSeq fun _ => #[])).push (seqObj "tuple" vs.toArray 0)).push (seqObj "list" #[] 0)).get? b = some o := fun b o nb q => by
    refine Heap.get?_push_of_some _ (Heap.get?_push_of_some _ ?_)
    rw [Heap.get?_update_ne _ _ _ _ nb]
    exact q
  have g6 : (((s.heap.update a (Obj.mapSeq fun _ => #[])).push (seqObj "tuple" vs.toArray 0)).push (seqObj "list" #[] 0)).get? a = some (seqObj "list" #[] c1) := Heap.get?_push_of_some _ (Heap.get?_push_of_some _ g1)
  have hk' : ∀ i (hi : i < vs.length), TupI (((s.heap.update a (Obj.mapSeq fun _ => #[])).push (seqObj "tuple" vs.toArray 0)).push (seqObj "list" #[] 0)) vs[i] (L i) := fun i hi => by
    obtain ⟨x, o, its, k, e, hx, hc, hd, hi'⟩ := hk i hi
    exact ⟨x, o, its, k, e, up _ _ (fun z => by rw [z, ho] at hx; cases hx; injection (show Value.type "list" = Value.type "tuple" from hc) with e'; exact absurd e' (by decide)) hx, hc, hd, hi'⟩
  rw [list_sort_plain]
  refine wpAny_bind (listItems_at ho rfl (wpAny_bind (listUpdate_at ho rfl ?_ (by rw [List.size_toArray, sizeLine_eq]; omega) (Nat.zero_le _))))
  refine wpAny_bind (seqEpoch_at g1 rfl (wpAny_bind (wpAny_newTuple ?_ (show vs.length ≤ sizeLine by rw [sizeLine_eq]; omega))))
  refine wpAny_bind (wpAny_newList (wpAny_holding ?_) (Nat.zero_le _))
  show wpAny (model prog w) A _ Z E { s with heap := ((s.heap.update a (Obj.mapSeq fun _ => #[])).push (seqObj "tuple" vs.toArray 0)).push (seqObj "list" #[] 0) }
  dsimp only
  by_cases h2 : vs.toArray.size < 2
  · rw [if_pos h2, if_pos h2]
    refine wpAny_bind (wpAny_pure ?_)
    rw [StateT.run_pure]
    refine wpAny_bind (wpAny_pure ?_)
    dsimp only
    refine wpAny_bind (seqEpoch_at g6 rfl (wpAny_bind (listUpdate_at g6 rfl ?_ (Nat.zero_le _) (by rw [Array.size_map]; show (pairsOf vs).size ≤ _; rw [pairsOf_size, sizeLine_eq]; omega))))
    simp only [bne_self_eq_false, Bool.false_eq_true, if_false]
    have e : (arrOf (SortSt.mk' general' (vs.toArray.zip vs.toArray) #[] 7 none)).map (·.2) = vs.toArray := by
      show (vs.toArray.zip vs.toArray).map (·.2) = vs.toArray
      apply Array.toList_inj.mp
      simp [List.map_snd_zip]
    have := h vs (List.range vs.length) (List.Perm.refl _) (fun i hi => by rw [List.size_toArray] at h2; omega) (map_getD vs).symm (List.Perm.refl _)
    refine wpAny_pure ?_
    rw [e]
    exact this
  · rw [if_neg h2, if_neg h2]
    rw [List.size_toArray] at h2
    refine wpAny_bind (tup_kind (fun v hv' => ?_) (by omega) fun κ hκ => ?_)
    · obtain ⟨i, hi, rfl⟩ := List.getElem_of_mem hv'
      exact ⟨_, hk' i hi⟩
    show wpAny (model prog w) A _ Z E _
    have run : (kas_sort vs.length).kasWp (kas_ask prog w A κ vs) (fun p s' => (Ord vs.length p ∧ KSd (fun i => ((rk L vs.length i : Nat) : Int)) p vs.length) ∧ s' = { s with heap := ((s.heap.update a (Obj.mapSeq fun _ => #[])).push (seqObj "tuple" vs.toArray 0)).push (seqObj "list" #[] 0) }) { s with heap := ((s.heap.update a (Obj.mapSeq fun _ => #[])).push (seqObj "tuple" vs.toArray 0)).push (seqObj "list" #[] 0) } :=
      KAll.wpx (n := vs.length) (c := kc fun i => ((rk L vs.length i : Nat) : Int)) (R := Ord vs.length) (fun i j C hi hj hC => by
        have em : ∀ m (hm : m < vs.length), vs.getD m Value.none = vs[m] := fun m hm => by simp [hm]
        have hC' : C (lexB (L i) (L j)) { s with heap := ((s.heap.update a (Obj.mapSeq fun _ => #[])).push (seqObj "tuple" vs.toArray 0)).push (seqObj "list" #[] 0) } := by
          rw [← rk_iff hi hj]
          exact hC
        unfold kas_ask
        rw [em i hi, em j hj]
        exact tup_lt hκ hu (hk' i hi) (hk' j hj) hC') (all_sort (by omega)) ⟨⟨KAll.run (all_sort (by omega)), run_sortT (by omega)⟩, rfl⟩
    refine wpAny_bind (wpAny_mono (kat_run (Q := fun st' s' => ∃ p : Array Nat, arrOf st' = p.map (kas_item (vs.toArray.zip vs.toArray)) ∧ failedOf st' = none ∧ (Ord vs.length p ∧ KSd (fun i => ((rk L vs.length i : Nat) : Int)) p vs.length) ∧ s' = { s with heap := ((s.heap.update a (Obj.mapSeq fun _ => #[])).push (seqObj "tuple" vs.toArray 0)).push (seqObj "list" #[] 0) })
      rfl (by omega) h64 (fun p st' s' _ q2 q3 q4 => ⟨p, q2, q3, q4.1, q4.2⟩) run) ?_ fun _ _ e => e)
    rintro ⟨⟨⟩, st'⟩ s' ⟨p, har, hf, ⟨hp, hsd⟩, rfl⟩
    dsimp only
    have eo := kat_snds rfl har
    have hpm : (p.toList.map fun i => vs.getD i Value.none).Perm vs := by
      have := hp.map fun i => vs.getD i Value.none
      rwa [map_getD] at this
    have eg : ∀ i, p.toList.getD i 0 = p.getD i 0 := fun i => by
      rw [Array.getD_eq_getD_getElem?, List.getD_eq_getElem?_getD, Array.getElem?_toList]
    have fin := h _ p.toList hp (fun i hi => by
      rw [eg, eg]
      have hle := hsd i hi
      have l1 := hp.lt (by omega) i
      have l2 := hp.lt (by omega) (i + 1)
      rw [← rk_iff l2 l1]
      exact decide_eq_false (fun z => by
        have hle' : ((rk L vs.length (p.getD i 0) : Nat) : Int) ≤ ((rk L vs.length (p.getD (i + 1) 0) : Nat) : Int) := hle
        omega)) rfl hpm
    rw [eo]
    refine wpAny_bind (seqEpoch_at g6 rfl (wpAny_bind (listUpdate_at g6 rfl ?_ (Nat.zero_le _) (by rw [List.size_toArray, hpm.length_eq, sizeLine_eq]; omega))))
    rw [hf]
    simp only [bne_self_eq_false, Bool.false_eq_true, if_false]
    exact wpAny_pure fin
theorem collect_tup {l : Addr} {vs : List Value} {Q : List Value → Shared → Prop} (hl : s.heap.IsTuple l vs.toArray)
    (h : Q vs { s with heap := (s.heap.push (seqObj "list" #[] 0)).update s.heap.objs.size (Obj.mapSeq (· ++ vs.toArray)) }) (hsz : vs.length ≤ sizeLine) :
    wpAny (model prog w) A (collect (.ref l)) Q E s := by
  obtain ⟨o, ho, hc, n, hd⟩ := id hl
  unfold collect
  refine wpAny_bind (wpAny_runValue (codeAny_builtin entry_proto_collect' ?_))
  show wpAny _ _ (do again (.builtin "list.__iadd__" ⟨[← newList [], .ref l], []⟩)) _ _ s
  refine wpAny_bind (wpAny_newList (wpAny_pure ⟨Code.quiet_builtin _ (by decide +kernel), codeAny_builtin entry_list_iadd' ?_⟩))
  show wpAny _ _ (Builtin.List.listExtendWith (.ref s.heap.objs.size) (.ref l) (.ref s.heap.objs.size)) _ _ { s with heap := s.heap.push (seqObj "list" #[] 0) }
  unfold Builtin.List.listExtendWith
  have ho' : (s.heap.push (seqObj "list" #[] 0)).get? l = some o := Heap.get?_push_of_some _ ho
  refine wpAny_bind (wpAny_typeOf (T := "tuple") ⟨o, ho', hc⟩ ?_)
  have ht : (Value.type "tuple" == Value.type "tuple") = true := by rfl
  rw [if_pos (by rw [ht]; simp)]
  refine wpAny_bind (listItems_at ho' hd ?_)
  refine wpAny_bind (listItems_at (xs := #[]) (n := 0) (Heap.get?_push_size _ rfl) rfl ?_)
  rw [if_neg (by simp)]
  refine wpAny_bind (listUpdate_at (xs := #[]) (n := 0) (Heap.get?_push_size _ rfl) rfl ?_ (Nat.zero_le _) (by show (#[] ++ vs.toArray).size ≤ sizeLine + 1; simp only [Array.size_append, List.size_toArray, List.length_nil]; omega))
  refine wpAny_pure ?_
  show wpAny (model prog w) A (do
      let o ← load s.heap.objs.size
      match o.data with
      | .seq xs _ => pure xs.toList
      | _ => unsupported "internal:collect") Q E { s with heap := (s.heap.push (seqObj "list" #[] 0)).update s.heap.objs.size (Obj.mapSeq (· ++ vs.toArray)) }
  refine wpAny_bind (wpAny_load (get?_update_seq (Heap.get?_push_size _ rfl) _) ?_)
  show wpAny _ _ (pure ((#[] : Array Value) ++ vs.toArray).toList) Q E _
  rw [show ((#[] : Array Value) ++ vs.toArray).toList = vs by simp]
  exact wpAny_pure h
theorem sorted_tups {l : Addr} {vs : List Value} {Q : Value → Shared → Prop} (hl : s.heap.IsList l vs.toArray ∨ s.heap.IsTuple l vs.toArray) (h64 : vs.length < 64) (hu : A.units + 64 < cLine) {L : Nat → List Int} (hk : ∀ i (hi : i < vs.length), TupI s.heap vs[i] (L i))
    (h : ∀ (out : List Value) (idx : List Nat), idx.Perm (List.range vs.length) → (∀ i, i + 1 < vs.length → lexB (L (idx.getD (i + 1) 0)) (L (idx.getD i 0)) = false) → out = idx.map (fun i => vs.getD i Value.none) → out.Perm vs → Q (.ref (s.heap.objs.size + 1)) { s with heap := sortedAll s.heap vs out.toArray }) : wpAny (model prog w) A (call (.builtin "sorted") [.ref l]) Q E s := by
  refine Calls.call_function_entry kind_sorted plain_sorted entry_sorted (args_sorted1 _) ?_
  unfold Builtin.«sorted»
  have col : ∀ {A' : Around} {E' : Value → Shared → Prop} {Q' : List Value → Shared → Prop}, Q' vs { s with heap := (s.heap.push (seqObj "list" #[] 0)).update s.heap.objs.size (Obj.mapSeq (· ++ vs.toArray)) } → wpAny (model prog w) A' (collect (.ref l)) Q' E' s := fun q => by
    rcases hl with hl | hl
    · exact collect_list hl q (by rw [sizeLine_eq]; omega)
    · exact collect_tup hl q (by rw [sizeLine_eq]; omega)
  refine wpAny_bind (m := checkCount "sorted" 1 1 _) (wpAny_pure (wpAny_bind (col (wpAny_bind (wpAny_newList ?_ (by rw [sizeLine_eq]; omega))))))
  have n1 : ((s.heap.push (seqObj "list" #[] 0)).update s.heap.objs.size (Obj.mapSeq (· ++ vs.toArray))).objs.size = s.heap.objs.size + 1 := by rw [Heap.size_update, size_push']
  have up : ∀ b o, s.heap.get? b = some o → (((s.heap.push (seqObj "list" #[] 0)).update s.heap.objs.size (Obj.mapSeq (· ++ vs.toArray))).push (seqObj "list" vs.toArray 0)).get? b = some o := fun b o q => by
    refine Heap.get?_push_of_some _ ?_
    rw [Heap.get?_update_ne _ _ _ _ (Nat.ne_of_lt (Heap.lt_size q))]
    exact Heap.get?_push_of_some _ q
  have g2 : (((s.heap.push (seqObj "list" #[] 0)).update s.heap.objs.size (Obj.mapSeq (· ++ vs.toArray))).push (seqObj "list" vs.toArray 0)).get? (s.heap.objs.size + 1) = some (seqObj "list" vs.toArray 0) := by
    rw [← n1]; exact Heap.get?_push_size _ rfl
  show wpAny _ _ _ _ _ { s with heap := ((s.heap.push (seqObj "list" #[] 0)).update s.heap.objs.size (Obj.mapSeq (· ++ vs.toArray))).push (seqObj "list" vs.toArray 0) }
  rw [n1]
  refine wpAny_bind (wpAny_holding (wpAny_call_entry slot_list_sort ⟨_, g2, rfl⟩ entry_list_sort (list_sortT (s := { s with heap := ((s.heap.push (seqObj "list" #[] 0)).update s.heap.objs.size (Obj.mapSeq (· ++ vs.toArray))).push (seqObj "list" vs.toArray 0) }) (L := L) g2 h64 ?_ (fun i hi => ?_) fun out idx z1 z2 z3 hp => ⟨_, rfl, wpAny_pure ⟨_, rfl, h out idx z1 z2 z3 hp⟩⟩) (args_list_sort _)))
  · show A.units + 1 + 1 < cLine
    omega
  · obtain ⟨x, o, its, k, e, hx, hc, hd, hi'⟩ := hk i hi
    exact ⟨x, o, its, k, e, up _ _ hx, hc, hd, hi'⟩
end
theorem TpAt.keys {X : Cx} {pins : List (Addr × Obj)} {σ : St} {H : Hp} {s : Shared} (I : Inv X pins σ H s) : ∀ {vs : List V} {bs : List (List Nat)} {us : List Value}, TpAt H vs bs → Vals vs us → (∀ i (hi : i < us.length), TupI s.heap us[i] ((bs.getD i []).map fun p => ((p : Nat) : Int))) ∧ vs = us.map fun u => V.ref (match u with | .ref a => a | _ => 0)
  | [], [], _, _, r => by
    cases r
    exact ⟨fun i hi => absurd hi (Nat.not_lt_zero _), rfl⟩
  | v :: vs, b :: bs, _, ⟨⟨a, e, q⟩, hr⟩, r => by
    cases r with
    | cons h t =>
      subst e
      cases h
      obtain ⟨h1, h2⟩ := TpAt.keys I hr t
      refine ⟨fun i hi => ?_, by rw [List.map_cons, ← h2]⟩
      obtain ⟨its, rv, ⟨o, ho, hc, n, hd⟩, _⟩ := I.tuple (SqT.of q)
      cases i with
      | zero =>
        refine ⟨a, o, its.toArray, n, rfl, ho, hc, hd, ?_⟩
        rw [nats_ints] at rv
        exact ints_of_vals rv
      | succ i => exact h1 i (by simpa using hi)
/-- sorted(list or tuple of tuples of numbers): the same refs, the rows in order -/
def rSortT (K : PySem.W.Frag) : List V → Hp → VK → Prop := fun xs H Q => ∃ (a : Addr) (vs : List V) (bs : List (List Nat)), xs = [.ref a] ∧ (SqL K H a vs ∨ SqT K H a vs) ∧ TpAt H vs bs ∧ vs.length < 64 ∧
  ∀ (l : Addr) (idx : List Nat), H l = none → idx.Perm (List.range bs.length) → (∀ i, i + 1 < bs.length → lexB ((bs.getD (idx.getD (i + 1) 0) []).map fun p => ((p : Nat) : Int)) ((bs.getD (idx.getD i 0) []).map fun p => ((p : Nat) : Int)) = false) → Q (.ref l) (upd H l (.lst (idx.map fun i => vs.getD i .non)))
theorem call_sortT {X : Cx} (hu : X.A.units + 64 < cLine) : CallR X (.builtin "sorted") (rSortT X.K) := by
  intro pins s σ H xs us Q I r h
  obtain ⟨a, vs, bs, rfl, hq, hP, h64, q⟩ := h
  obtain ⟨u, rfl, rx⟩ := vals1 r
  cases rx
  obtain ⟨its, r', pl⟩ : ∃ its : List Value, Vals vs its ∧ (s.heap.IsList a its.toArray ∨ s.heap.IsTuple a its.toArray) := by
    rcases hq with hq | hq
    · obtain ⟨its, r', pl, _⟩ := I.list hq
      exact ⟨its, r', .inl pl.isList⟩
    · obtain ⟨its, r', pl, _⟩ := I.tuple hq
      exact ⟨its, r', .inr pl⟩
  have hlen := r'.length
  have hpl := hP.len
  obtain ⟨hkk, hvs⟩ := TpAt.keys I hP r'
  refine sorted_tups (L := fun i => (bs.getD i []).map fun p => ((p : Nat) : Int)) pl (by omega) hu hkk fun out idx z1 z2 z3 hp => ?_
  obtain ⟨e, he⟩ := sortedAll_at s.heap its out.toArray
  have hl2 := hp.length_eq
  have hmap : (out.map fun u => V.ref (match u with | .ref a => a | _ => 0)) = idx.map fun i => vs.getD i .non := by
    rw [z3, List.map_map]
    apply List.map_congr_left
    intro i hi
    have hil : i < its.length := List.mem_range.mp (z1.mem_iff.mp hi)
    show V.ref (match its.getD i Value.none with | .ref a => a | _ => 0) = vs.getD i .non
    have e1 : its.getD i Value.none = its[i] := by simp [hil]
    have e2 : vs.getD i .non = vs[i]'(by omega) := by simp [show i < vs.length by omega]
    rw [e1, e2]
    have : vs[i]'(by omega) = (its.map fun u => V.ref (match u with | .ref a => a | _ => 0))[i]'(by rw [List.length_map]; exact hil) := by congr 1
    rw [this, List.getElem_map]
  refine ⟨.ref (s.heap.objs.size + 1), _, I.laid (t' := s.toks) (o := .lst (out.map fun u => V.ref (match u with | .ref a => a | _ => 0))) (fun b o => sortedAll_old) (Nat.le_succ _) ?_, rfl, ?_⟩
  · refine ⟨by rw [List.length_map]; exact Nat.le_trans (show out.length ≤ 64 by omega) (by decide), out, e, ?_, he⟩
    have hall : ∀ u ∈ out, ∃ x, u = .ref x := fun u hu => by
      obtain ⟨i, hi, rfl⟩ := List.getElem_of_mem (hp.mem_iff.mp hu)
      obtain ⟨x, _, _, _, e, _⟩ := hkk i hi
      exact ⟨x, e⟩
    clear he hp hl2 hmap z3
    induction out with
    | nil => exact .nil
    | cons u out ih =>
      obtain ⟨x, rfl⟩ := hall u (List.mem_cons_self ..)
      exact .cons rfl (ih fun u hu => hall u (List.mem_cons_of_mem _ hu))
  · rw [hmap]
    rw [show its.length = bs.length by omega] at z1 z2
    exact q _ idx (I.hok.fresh (Nat.le_succ _)) z1 z2
end L2
/-! EvMin: min(a rising list of numbers, default=x): the first of them, or x. Behind EvKw. -/
namespace L2
open PySem PySem.Spec PyProof.Rows
section
variable {prog : Program} {w : World} {A : Around} {R : Result → Shared → Prop} {I : Addr} {fp wr : List Addr} {n : Nat} {P : Nat → Value → Prop} {St : Nat → Heap → Prop} {kw : List (Str × Value)}
theorem minName : (toString "min" ++ toString ".loop" : String) = "min.loop" := by decide
end
section
variable {prog : Program} {w : World} {A : Around} {E : Value → Shared → Prop} {s : Shared}
end
end L2
namespace L2
open PySem PySem.Spec PyProof.Rows
/-! ### lists of pairs as tables -/
section
variable {κ : Type} [DecidableEq κ]
def valV (kvs : List (κ × V)) (k : κ) : Option V := (kvs.find? fun kv => decide (kv.1 = k)).map (·.2)
/-- in its place, or at the end -/
def putK (kvs : List (κ × V)) (k : κ) (v : V) : List (κ × V) :=
  if (kvs.any fun kv => decide (kv.1 = k)) = true then kvs.map (fun kv => if kv.1 = k then (kv.1, v) else kv) else kvs ++ [(k, v)]
theorem valV_pos {p : κ × V} {r : List (κ × V)} {k : κ} (e : p.1 = k) : valV (p :: r) k = some p.2 := by simp [valV, List.find?_cons, e]
theorem valV_neg {p : κ × V} {r : List (κ × V)} {k : κ} (e : ¬ p.1 = k) : valV (p :: r) k = valV r k := by simp [valV, List.find?_cons, e]
theorem valV_any (k : κ) : ∀ kvs : List (κ × V), (kvs.any fun kv => decide (kv.1 = k)) = (valV kvs k).isSome
  | [] => rfl
  | p :: r => by
    rw [List.any_cons]
    by_cases e : p.1 = k
    · simp only [valV_pos e, decide_eq_true e, Bool.true_or, Option.isSome_some]
    · rw [valV_neg e, decide_eq_false e, Bool.false_or]; exact valV_any k r
theorem valV_map (k j : κ) (y : V) : ∀ kvs : List (κ × V), valV (kvs.map fun kv => if kv.1 = k then (kv.1, y) else kv) j = (valV kvs j).map fun x => if j = k then y else x
  | [] => rfl
  | p :: r => by
    have ih := valV_map k j y r
    rw [List.map_cons]
    by_cases h : p.1 = k
    · rw [if_pos h]
      by_cases e : p.1 = j
      · rw [valV_pos (p := (p.1, y)) e, valV_pos e, Option.map_some, if_pos (e.symm.trans h)]
      · rw [valV_neg (p := (p.1, y)) e, valV_neg e, ih]
    · rw [if_neg h]
      by_cases e : p.1 = j
      · rw [valV_pos (p := p) e, valV_pos e, Option.map_some, if_neg (fun z => h (e.trans z))]
      · rw [valV_neg (p := p) e, valV_neg e, ih]
theorem valV_snoc (k j : κ) (y : V) : ∀ kvs : List (κ × V), valV kvs k = none → valV (kvs ++ [(k, y)]) j = if j = k then some y else valV kvs j
  | [], _ => by
    by_cases e : k = j
    · rw [if_pos e.symm]; exact valV_pos (p := (k, y)) e
    · rw [if_neg (fun z => e z.symm)]; exact valV_neg (p := (k, y)) e
  | p :: r, hn => by
    rw [List.cons_append]
    have hk : ¬ p.1 = k := fun z => by rw [valV_pos z] at hn; cases hn
    rw [valV_neg hk] at hn
    have ih := valV_snoc k j y r hn
    by_cases e : p.1 = j
    · rw [valV_pos e, valV_pos e, if_neg (fun z => hk (e.trans z))]
    · rw [valV_neg e, valV_neg e, ih]
theorem valV_put (kvs : List (κ × V)) (k j : κ) (y : V) : valV (putK kvs k y) j = if j = k then some y else valV kvs j := by
  unfold putK
  by_cases a : (kvs.any fun kv => decide (kv.1 = k)) = true
  · rw [if_pos a, valV_map]
    rw [valV_any] at a
    by_cases e : j = k
    · obtain ⟨x, hx⟩ := Option.isSome_iff_exists.mp a
      rw [if_pos e, e, hx, Option.map_some, if_pos rfl]
    · rw [if_neg e]
      cases valV kvs j with
      | none => rfl
      | some x => rw [Option.map_some, if_neg e]
  · rw [if_neg a]
    refine valV_snoc k j y kvs ?_
    rw [valV_any] at a
    cases q : valV kvs k with
    | none => rfl
    | some x => rw [q] at a; exact (a rfl).elim
theorem length_putK (kvs : List (κ × V)) (k : κ) (v : V) : (putK kvs k v).length ≤ kvs.length + 1 := by
  unfold putK
  split
  · rw [List.length_map]; omega
  · rw [List.length_append, List.length_cons, List.length_nil]; omega
theorem RelO.isSome_eq {o : Option V} {u : Option Value} (r : RelO o u) : o.isSome = u.isSome := by
  cases o with
  | none => cases u with
    | none => rfl
    | some _ => exact (show False from r).elim
  | some _ => cases u with
    | none => exact (show False from r).elim
    | some _ => rfl
theorem RelO.getD {o : Option V} {u : Option Value} {d : V} {d' : Value} (r : RelO o u) (rd : RelV d d') : RelV (o.getD d) (u.getD d') := by
  cases o with
  | none => cases u with
    | none => exact rd
    | some _ => exact (show False from r).elim
  | some _ => cases u with
    | none => exact (show False from r).elim
    | some _ => exact r

/-- raw tables of the same keys -/
theorem KV.val {kvs : List (κ × V)} {vs : List (κ × Value)} (r : KV kvs vs) (k : κ) : RelO (valV kvs k) (valueAt vs k) := by
  unfold KV at r
  induction r with
  | nil => exact True.intro
  | @cons p q ps qs h t ih =>
    obtain ⟨h1, h2⟩ := h
    by_cases e : p.1 = k
    · have e' : q.1 = k := h1.symm.trans e
      have b : valueAt (q :: qs) k = some q.2 := by simp [valueAt, List.find?_cons, e']
      rw [valV_pos e, b]; exact h2
    · have e' : ¬ q.1 = k := fun z => e (h1.trans z)
      have b : valueAt (q :: qs) k = valueAt qs k := by simp [valueAt, List.find?_cons, e']
      rw [valV_neg e, b]; exact ih
theorem KV.any {kvs : List (κ × V)} {vs : List (κ × Value)} (r : KV kvs vs) (k : κ) : (kvs.any fun kv => decide (kv.1 = k)) = vs.any fun kv => decide (kv.1 = k) := by
  unfold KV at r
  induction r with
  | nil => rfl
  | cons h t ih => rw [List.any_cons, List.any_cons, ih, h.1]
theorem KV.repl {kvs : List (κ × V)} {vs : List (κ × Value)} (r : KV kvs vs) (k : κ) {y : V} {u : Value} (ry : RelV y u) :
    KV (kvs.map fun kv => if kv.1 = k then (kv.1, y) else kv) (vs.map fun kv => if kv.1 = k then (kv.1, u) else kv) := by
  unfold KV at r ⊢
  induction r with
  | nil => exact .nil
  | @cons p q ps qs h t ih =>
    rw [List.map_cons, List.map_cons]
    refine .cons ?_ ih
    obtain ⟨h1, h2⟩ := h
    by_cases e : p.1 = k
    · rw [if_pos e, if_pos (h1.symm.trans e)]; exact ⟨h1, ry⟩
    · rw [if_neg e, if_neg (fun z => e (h1.trans z))]; exact ⟨h1, h2⟩
theorem KV.put {kvs : List (κ × V)} {vs : List (κ × Value)} (r : KV kvs vs) (k : κ) {y : V} {u : Value} (ry : RelV y u) : KV (putK kvs k y) (stored vs k u) := by
  unfold putK stored
  rw [r.any k]
  by_cases e : (vs.any fun kv => decide (kv.1 = k)) = true
  · rw [if_pos e, if_pos e]; exact r.repl k ry
  · rw [if_neg e, if_neg e]; exact Paired.snoc r ⟨rfl, ry⟩
theorem KV.length {kvs : List (κ × V)} {vs : List (κ × Value)} (r : KV kvs vs) : kvs.length = vs.length := Paired.length r
end


/-! ### a tracked dict, its keys ints and texts or tuples of these -/
theorem kV_is {P : Program} {w : World} {k : Key} {u : Value} (r : RelV (kV k) u) : (mixKind P w).is k u = true := by
  cases k with
  | inl i => obtain ⟨t, e⟩ := (show ∃ t, u = Value.int i t from r); subst e; exact mixKind_int P w i t
  | inr x => obtain ⟨t, e⟩ := (show ∃ t, u = Value.str x t from r); subst e; exact mixKind_str P w x t
theorem items_are {P : Program} {w : World} : ∀ {ks : List Key} {us : List Value}, Vals (ks.map kV) us → ItemsAre (mixKind P w) ks us
  | [], _, r => by rw [List.map_nil] at r; cases r; exact .nil
  | k :: ks, _, r => by
    rw [List.map_cons] at r
    cases r with
    | cons h t => exact .cons (kV_is h) (items_are t)

/-- raw entries of a dict with tuple keys -/
abbrev KT (H : Hp) : List (List Key × V) → List (List Key × Addr × Value) → Prop := Paired fun p q => p.1 = q.1 ∧ H q.2.1 = some (.tup (p.1.map kV)) ∧ RelV p.2 q.2.2
theorem KT.val {H : Hp} {kvs : List (List Key × V)} {xs : List (List Key × Addr × Value)} (r : KT H kvs xs) (k : List Key) : RelO (valV kvs k) ((atKey xs k).map (·.2)) := by
  induction r with
  | nil => exact True.intro
  | @cons p q ps qs h t ih =>
    obtain ⟨h1, _, h2⟩ := h
    by_cases e : p.1 = k
    · have e' : q.1 = k := h1.symm.trans e
      have b : atKey (q :: qs) k = some q.2 := by simp [atKey, List.find?_cons, e']
      rw [valV_pos e, b]; exact h2
    · have e' : ¬ q.1 = k := fun z => e (h1.trans z)
      have b : atKey (q :: qs) k = atKey qs k := by simp [atKey, List.find?_cons, e']
      rw [valV_neg e, b]; exact ih
theorem KT.repl {H : Hp} {kvs : List (List Key × V)} {xs : List (List Key × Addr × Value)} (r : KT H kvs xs) (k : List Key) {y : V} {u : Value} (ry : RelV y u) :
    KT H (kvs.map fun kv => if kv.1 = k then (kv.1, y) else kv) (xs.map (putAt k u)) := by
  induction r with
  | nil => exact .nil
  | @cons p q ps qs h t ih =>
    rw [List.map_cons, List.map_cons]
    refine .cons ?_ ih
    obtain ⟨h1, h2, h3⟩ := h
    unfold putAt
    by_cases e : p.1 = k
    · rw [if_pos e, if_pos (h1.symm.trans e)]; exact ⟨h1, h2, ry⟩
    · rw [if_neg e, if_neg (fun z => e (h1.trans z))]; exact ⟨h1, h2, h3⟩
theorem KT.put {H : Hp} {kvs : List (List Key × V)} {xs : List (List Key × Addr × Value)} (r : KT H kvs xs) (k : List Key) {b : Addr} {y : V} {u : Value} (hb : H b = some (.tup (k.map kV))) (ry : RelV y u) :
    KT H (putK kvs k y) (storedH xs k b u) := by
  have e : (kvs.any fun kv => decide (kv.1 = k)) = (atKey xs k).isSome := by
    rw [valV_any, (r.val k).isSome_eq, Option.isSome_map]
  unfold putK storedH
  rw [e]
  by_cases q : (atKey xs k).isSome = true
  · rw [if_pos q, if_pos q]; exact r.repl k ry
  · rw [if_neg q, if_neg q]; exact Paired.snoc r ⟨rfl, hb, ry⟩
theorem KT.keeps {H H' : Hp} {kvs : List (List Key × V)} {xs : List (List Key × Addr × Value)} (r : KT H kvs xs) (ht : ∀ b ys, H b = some (.tup ys) → H' b = some (.tup ys)) : KT H' kvs xs :=
  Paired.mapP r fun _ _ z => ⟨z.1, ht _ _ z.2.1, z.2.2⟩

section
variable {P : Program} {w : World} {H : Hp} {h : Heap} {a : Addr}
theorem rd_of {u : HO} (ok : HOk P w H h) (e : Rd H a u) : ObjOk P w H h a u := e.ok ok
theorem dk_rd {kvs : List (Key × V)} (ok : HOk P w H h) (e : Rd H a (.dK kvs)) : kvs.length ≤ sizeLine ∧ (a == sysModules) = false ∧ ∃ vs, KV kvs vs ∧ h.DictOf (mixKind P w) a vs :=
  show ObjOk P w H h a (.dK kvs) from rd_of ok e
theorem dk_of {kvs : List (Key × V)} (ok : HOk P w H h) (e : H a = some (.dK kvs)) : kvs.length ≤ sizeLine ∧ (a == sysModules) = false ∧ ∃ vs, KV kvs vs ∧ h.DictOf (mixKind P w) a vs := dk_rd ok (.inl e)
/-- a tracked tuple of ints and texts is a key -/
theorem key_of {ks : List Key} (ok : HOk P w H h) (e : H a = some (.tup (ks.map kV))) : (tupleKind (mixKind P w)).is h ks a := by
  obtain ⟨_, its, r, o, h1, h2, n, h3⟩ := (show ObjOk P w H h a (.tup (ks.map kV)) from ok a _ e)
  exact ⟨o, its.toArray, n, h1, h2, h3, by simpa using items_are r⟩
theorem dt_rd {kvs : List (List Key × V)} (ok : HOk P w H h) (e : Rd H a (.dT kvs)) : kvs.length ≤ sizeLine ∧ (a == sysModules) = false ∧
    ∃ xs, KT H kvs xs ∧ h.DictOfH (tupleKind (mixKind P w)) a xs := by
  obtain ⟨z, y, xs, r, o, es, ep, h1, h2, h3, h4, h5⟩ := (show ObjOk P w H h a (.dT kvs) from rd_of ok e)
  refine ⟨z, y, xs, r, o, es, ep, h1, h2, h3, h4, fun x hx => ?_, h5⟩
  have all : ∀ {l : List (List Key × V)} {m : List (List Key × Addr × Value)}, KT H l m → ∀ x ∈ m, (tupleKind (mixKind P w)).is h x.1 x.2.1 := by
    intro l m q
    induction q with
    | nil => intro x hx; exact nomatch hx
    | @cons p q ps qs hq t ih =>
      intro x hx
      rcases List.mem_cons.mp hx with e | hx
      · subst e
        exact key_of ok (by rw [← hq.1]; exact hq.2.1)
      · exact ih x hx
  exact all r x hx
theorem dt_of {kvs : List (List Key × V)} (ok : HOk P w H h) (e : H a = some (.dT kvs)) : kvs.length ≤ sizeLine ∧ (a == sysModules) = false ∧
    ∃ xs, KT H kvs xs ∧ h.DictOfH (tupleKind (mixKind P w)) a xs := dt_rd ok (.inl e)
end

/-- what the dict at a holds at the key y -/
def DGet (H : Hp) (a : Addr) (y : V) (r : Option V) : Prop :=
  (∃ kvs k, Rd H a (.dK kvs) ∧ y = kV k ∧ r = valV kvs k) ∨ ∃ kvs k b, Rd H a (.dT kvs) ∧ y = .ref b ∧ H b = some (.tup (k.map kV)) ∧ r = valV kvs k
/-- the heap behind a[y] = v -/
def DPut (H : Hp) (a : Addr) (y v : V) (H' : Hp) : Prop :=
  (∃ kvs k, H a = some (.dK kvs) ∧ y = kV k ∧ kvs.length < sizeLine ∧ H' = upd H a (.dK (putK kvs k v))) ∨
  ∃ kvs k b, H a = some (.dT kvs) ∧ y = .ref b ∧ H b = some (.tup (k.map kV)) ∧ kvs.length < sizeLine ∧ H' = upd H a (.dT (putK kvs k v))
theorem DGet.t {H : Hp} {a b : Addr} {kvs : List (List Key × V)} {k : List Key} (e : H a = some (.dT kvs)) (eb : H b = some (.tup (k.map kV))) : DGet H a (.ref b) (valV kvs k) := .inr ⟨kvs, k, b, .inl e, rfl, eb, rfl⟩
theorem DPut.t {H : Hp} {a b : Addr} {kvs : List (List Key × V)} {k : List Key} {v : V} (e : H a = some (.dT kvs)) (eb : H b = some (.tup (k.map kV))) (hl : kvs.length < sizeLine) :
    DPut H a (.ref b) v (upd H a (.dT (putK kvs k v))) := .inr ⟨kvs, k, b, e, rfl, eb, hl, rfl⟩


section
variable {X : Cx} {pins : List (Addr × Obj)} {σ : St} {H : Hp} {s : Shared} {a : Addr} {y v : V} {u r : Value} {o : Option V} {A : Around} {E : Value → Shared → Prop}


/-- d[y], there -/
theorem d_getItem {Q : Value → Shared → Prop} (hu : A.units + 1 < cLine) (I : Inv X pins σ H s) (g : DGet H a y (some v)) (ry : RelV y u) (h : ∀ w' s', Inv X pins σ H s' → RelV v w' → Q w' s') :
    wpAny (model X.prog X.w) A (getItem (.ref a) u) Q E s := by
  rcases g with ⟨kvs, k, e, ey, l⟩ | ⟨kvs, k, b, e, ey, eb, l⟩
  · subst ey
    obtain ⟨z, hd, vs, rel, dd⟩ := dk_rd I.hok e
    obtain ⟨w', hw, rw'⟩ := RelO.some_of (v := v) (o := valueAt vs k) (by rw [l]; exact rel.val k)
    exact wpAny_getItem_of (kV_is ry) dd.mapOf hw (h w' _ (I.tok _) rw')
  · subst ey
    cases (show u = Value.ref b from ry)
    obtain ⟨z, hd, xs, rel, dd⟩ := dt_rd I.hok e
    obtain ⟨w', hw, rw'⟩ := RelO.some_of (v := v) (o := (atKey xs k).map (·.2)) (by rw [l]; exact rel.val k)
    obtain ⟨p, hp, hp2⟩ := Option.map_eq_some_iff.mp hw
    refine wpAny_getItem_heap (tupleKind_room_in1 hu) (key_of I.hok eb) dd hp ?_
    rw [hp2]
    exact h w' _ (I.tok _) rw'
/-- a dict's object is replaced -/
theorem d_write {h' : Heap} {t' : Nat} {ob : HO} (I : Inv X pins σ H s) (mu : Mut (H a)) (hs : Heap.SameBut a s.heap h') (he : ∃ q, h'.get? a = some q) (new : ObjOk X.prog X.w (upd H a ob) h' a ob) :
    Inv X pins σ (upd H a ob) { s with heap := h', toks := t' } :=
  I.write (x := a) (e := a) mu (.inl rfl) (fun b q hb z => (hs.2 b hb).trans z) he new
theorem dk_new {P : Program} {w : World} {H' : Hp} {h' : Heap} {kvs : List (Key × V)} {vs : List (Key × Value)} (z : kvs.length ≤ sizeLine) (hd : (a == sysModules) = false) (rel : KV kvs vs) (dd : h'.DictOf (mixKind P w) a vs) :
    ObjOk P w H' h' a (.dK kvs) := ⟨z, hd, vs, rel, dd⟩
/-- d[y] = v -/
theorem d_setItem {H' : Hp} {Q : Unit → Shared → Prop} (hu : A.units + 1 < cLine) (I : Inv X pins σ H s) (g : DPut H a y v H') (ry : RelV y u) (rv : RelV v r) (h : ∀ s', Inv X pins σ H' s' → Q () s') :
    wpAny (model X.prog X.w) A (setItem (.ref a) u r) Q E s := by
  rcases g with ⟨kvs, k, e, ey, l, eH⟩ | ⟨kvs, k, b, e, ey, eb, l, eH⟩
  · subst ey eH
    obtain ⟨z, hd, vs, rel, dd⟩ := dk_of I.hok e
    have hz : vs.length ≤ sizeLine := by rw [← rel.length]; exact z
    have hl : (putK kvs k v).length ≤ sizeLine := by have := length_putK kvs k v; omega
    refine wpAny_setItem_pairs (hsz := hz) (kV_is ry) dd fun h' dd' hs => h _ ?_
    have he : ∃ q, h'.get? a = some q := let ⟨q, _, _, hq, _⟩ := dd'; ⟨q, hq⟩
    exact d_write I (by rw [e]; exact True.intro) hs he (dk_new hl hd (rel.put k rv) dd')
  · subst ey eH
    cases (show u = Value.ref b from ry)
    obtain ⟨z, hd, xs, rel, dd⟩ := dt_of I.hok e
    have hz : xs.length ≤ sizeLine := by rw [← Paired.length rel]; exact z
    have hl : (putK kvs k v).length ≤ sizeLine := by have := length_putK kvs k v; omega
    refine wpAny_setItem_heap (hsz := hz) (tupleKind_room_in1 hu) (key_of I.hok eb) dd fun h' dd' hs => h _ ?_
    obtain ⟨q, es, ep, hq, h2, h3, h4, _, h5⟩ := dd'
    refine d_write I (by rw [e]; exact True.intro) hs ⟨q, hq⟩ ⟨hl, hd, _, (rel.put k eb rv).keeps fun c ys ec => ?_, q, es, ep, hq, h2, h3, h4, h5⟩
    rw [upd_ne (ne_of ec e (fun z => nomatch z))]
    exact ec
end

section
variable {X : Cx} {pins : List (Addr × Obj)} {σ : St} {H : Hp} {s : Shared} {a : Addr} {kvs : List (Key × V)} {k : Key} {u : Value} {A : Around} {E : Value → Shared → Prop}
end


/-! ### readings and rules -/
/-- the element of a subscription, not a slice -/
def NoSl (i : Expr) : Prop := ∀ ov iv, subscripted i false ov iv = operate [ov, iv] (getItem ov iv)
theorem subD_of {prog : Program} {w : World} {A : Around} {E : Value → Shared → Prop} {s : Shared} {env : Env} {value slice : Expr} {pos : Pos} {T id : String} {Q : Value → Shared → Prop}
    (hl : typeLookup (.type T) "__getitem__" = pure (some (.builtin id))) (hs : NoSl slice)
    (h : wpAny (model prog w) A (eval value env) (fun o s₁ => wpAny (model prog w) A (eval slice env) (fun i s₂ => s₂.TypeIs o T ∧ wpAny (model prog w) A (getItem o i) Q E s₂) E s₁) E s) :
    wpAny (model prog w) A (eval (.Subscript value slice pos) env) Q E s := by
  refine Subscript_ (wpAny_mono h (fun o s₁ h₁ => wpAny_mono h₁ (fun i s₂ h₂ => ?_) fun _ _ x => x) fun _ _ x => x)
  obtain ⟨hT, h₂⟩ := h₂
  unfold subscriptTail
  refine wpAny_bind ?_
  rw [getitemInPython_of_ne hT.not_modules]
  refine wpAny_bind (wpAny_specialOf hT hl ?_)
  have fin : wpAny (model prog w) A (subscripted slice false o i) (fun r s₃ => wpAny (model prog w) A (letTemporaryGo value o r >>= fun _ => pure r) Q E s₃) E s₂ := by
    rw [hs o i]
    exact wpAny_operating (wpAny_mono h₂ (fun r s₃ h₃ => wpAny_bind (wpAny_letTemporaryGo (wpAny_pure h₃))) fun _ _ x => x)
  first
    | exact wpAny_pure (wpAny_bind fin)
    | exact wpAny_bind (wpAny_pure (wpAny_bind fin))
    | exact wpAny_bind fin

theorem dict_typeIs {X : Cx} {pins : List (Addr × Obj)} {σ : St} {H : Hp} {s : Shared} {a : Addr} {y : V} {o : Option V} (I : Inv X pins σ H s) (g : DGet H a y o) : s.TypeIs (.ref a) "dict" := by
  rcases g with ⟨kvs, k, e, _, _⟩ | ⟨kvs, k, b, e, _, _, _⟩
  · obtain ⟨_, _, vs, _, dd⟩ := dk_rd I.hok e
    exact dd.typeIs
  · obtain ⟨_, _, xs, _, dd⟩ := dt_rd I.hok e
    exact dd.typeIs
/-- d[y] -/
def tDGet (td ty : TE) : TE := fun σ H Q => td σ H fun x H1 => ty σ H1 fun y H2 => ∃ a v, x = .ref a ∧ DGet H2 a y (some v) ∧ Q v H2
/-- d[y] = v -/
def sDPut (td ty tv : TE) : TS := fun D σ H => tv σ H fun v H1 => td σ H1 fun x H2 => ty σ H2 fun y H3 => ∃ a H4, x = .ref a ∧ DPut H3 a y v H4 ∧ D.nx σ H4
section
variable {X : Cx} {o i e value : Expr} {pos pos' tpos : Pos} {td ty tv : TE}
theorem pe_dget (hu : X.A.units + 1 < cLine) (ho : PE X o td) (hi : PE X i ty) (hs : NoSl i) : PE X (.Subscript o i pos) (tDGet td ty) := by
  intro pins s σ H Q I h
  refine subD_of PySem.F.slot_dict_getitem.lookup hs (thn (ho pins s σ H _ I h) fun u s1 ⟨x, H1, I1, rx, q1⟩ => thn (hi pins s1 σ H1 _ I1 q1) fun iv s2 ⟨y, H2, I2, ry, a, v, ex, g, q2⟩ => ?_)
  subst ex
  obtain rfl : u = Value.ref a := rx
  exact ⟨dict_typeIs I2 g, d_getItem hu I2 g ry fun w' s3 I3 rw' => ⟨v, H2, I3, rw', q2⟩⟩
theorem ps_dput (hu : X.A.units + 1 < cLine) (ho : PE X o td) (hi : PE X i ty) (hv : PE X value tv) (hs : swapsWith value (some (.Subscript o i pos')) pos.line X.env = pure false) :
    PS X (.Assign [.Subscript o i pos'] value pos) (sDPut td ty tv) := by
  intro pins s σ H D I h
  refine wpAny_Assign_Subscript (thn (hv pins s σ H _ I h) fun r s1 ⟨v, H1, I1, rv, q1⟩ => thn (ho pins s1 σ H1 _ I1 q1) fun u s2 ⟨x, H2, I2, rx, q2⟩ => thn (hi pins s2 σ H2 _ I2 q2) fun iv s3 ⟨y, H3, I3, ry, a, H4, ex, g, q3⟩ => ?_) hs
  subst ex
  obtain rfl : u = Value.ref a := rx
  exact d_setItem hu I3 g ry rv fun s4 I4 => ⟨σ, H4, I4, q3⟩
end
theorem dt_empty {P : Program} {w : World} {H : Hp} (h : Heap) (hb : sysModules < h.objs.size) : ObjOk P w H (h.push { cls := .type "dict", data := .dict #[] }) h.objs.size (.dT []) :=
  ⟨Nat.zero_le _, beq_eq_false_iff_ne.mpr (Ne.symm (Nat.ne_of_lt hb)), [], .nil, _, #[], 0, Heap.get?_push_size _ rfl, ⟨rfl, rfl, rfl⟩, rfl, rfl, List.nodup_nil⟩
def tDNewT : TE := fun _ H Q => ∀ p, H p = none → Q (.ref p) (upd H p (.dT []))
section
variable {X : Cx} {pos : Pos}
theorem pe_dnewT : PE X (.Dict [] [] pos) tDNewT := fun pins s σ H Q I h =>
  wpAny_Dict_empty ⟨.ref s.heap.objs.size, _, I.laid (a := s.heap.objs.size) (o := .dT []) (t' := s.toks) (fun _ _ q => Heap.get?_push_of_some _ q) (Nat.le_refl _) (dt_empty s.heap I.big), rfl, h _ (I.hok.fresh (Nat.le_refl _))⟩
end
end L2
/-! EvDq: dicts with tuples as keys, data in a list and its place. Behind the dict part of the layer (mk.py's dictpart). -/
namespace L2
open PySem PySem.Spec PyProof.Rows
section
variable {X : Cx} {o i value : Expr} {pos pos' : Pos} {td ty tv : TE}
theorem qe_dnewT : QE X (.Dict [] [] pos) tDNewT := ⟨pe_dnewT⟩
theorem qe_dget (hu : X.A.units + 1 < cLine) (ho : QE X o td) (hi : QE X i ty) (hs : NoSl i) : QE X (.Subscript o i pos) (tDGet td ty) := ⟨pe_dget hu ho.h hi.h hs⟩
theorem qs_dput (hu : X.A.units + 1 < cLine) (ho : QE X o td) (hi : QE X i ty) (hv : QE X value tv) (hs : swapsWith value (some (.Subscript o i pos')) pos.line X.env = pure false := by rfl) : QS X (.Assign [.Subscript o i pos'] value pos) (sDPut td ty tv) := ⟨ps_dput hu ho.h hi.h hv.h hs⟩
end
end L2
/-! EvDit: a dict with numbers as keys: made, walked while it is frozen, asked with a default. Behind EvDq. -/
namespace L2
open PySem PySem.Spec PyProof.Rows
section
variable {X : Cx} {o e : Expr} {es : List Expr} {to : TE} {t : TA} {apos cpos : Pos}
end
end L2
/-! EvVal: functions as values, a try whose clause has no name, () + t. Behind EvDit. -/
namespace L2
open PySem PySem.Spec PyProof.Rows
end L2
namespace L2
open PySem PySem.Spec PyProof.Rows
section
variable {prog : Program} {w : World} {A : Around} {E : Value → Shared → Prop} {s : Shared}
/-- entries in another order -/
theorem pick_perm {α : Type} (next : Nat → Nat) (xs : Array α) : (pickOrder next xs).toList.Perm xs.toList := by
  have key : ∀ (fuel k : Nat) (left : List α) (out : Array α), left.length ≤ fuel → (pickOrder.go next fuel k left out).toList.Perm (out.toList ++ left) := by
    intro fuel
    induction fuel with
    | zero =>
      intro k left out h
      have : left = [] := List.length_eq_zero_iff.mp (Nat.le_zero.mp h)
      subst this
      unfold pickOrder.go
      simp
    | succ fuel ih =>
      intro k left out h
      unfold pickOrder.go
      cases hl : left[next k % left.length]? with
      | none =>
        dsimp only
        cases left with
        | nil => simp
        | cons y r =>
          have := Nat.mod_lt (next k) (show 0 < (y :: r).length by simp)
          rw [List.getElem?_eq_getElem this] at hl
          cases hl
      | some x =>
        dsimp only
        obtain ⟨hlt, hx⟩ := List.getElem?_eq_some_iff.mp hl
        refine (ih (k + 1) _ _ (by rw [List.length_eraseIdx_of_lt hlt]; omega)).trans ?_
        rw [Array.toList_push, List.append_assoc]
        refine List.Perm.append_left _ ?_
        rw [List.eraseIdx_eq_take_drop_succ]
        have e : left = left.take (next k % left.length) ++ x :: left.drop (next k % left.length + 1) := by
          conv => lhs; rw [← List.take_append_drop (next k % left.length) left, List.drop_eq_getElem_cons hlt, hx]
        have p := (List.perm_middle (a := x) (l₁ := left.take (next k % left.length)) (l₂ := left.drop (next k % left.length + 1))).symm
        rw [← e] at p
        exact p
  exact (key xs.size 0 xs.toList #[] (by simp)).trans (by simp)
/-- the empty set as it is made -/
abbrev set0 (led : Bool) : Obj := { cls := .type "set", dict := none, data := .set #[] 0 (.fresh 0 0 led) }
end
end L2
/-! EvWlk: tables of sets: what laying keeps (led, no dummies, places that rise). Pure. -/
namespace L2
open PySem
/-- places that rise, none above the mask, no dummies -/
structure Rz (t : SetTable) : Prop where
  up : t.place.toList.Pairwise (· < ·)
  le : ∀ x ∈ t.place.toList, x ≤ t.mask
  no : t.dummies = #[]
theorem fresh_rz (f m : Nat) (l : Bool) : Rz (.fresh f m l) := ⟨by simp [SetTable.fresh], by simp [SetTable.fresh], rfl⟩
/-- where a place belongs -/
theorem below_go {xs : Array Nat} {j : Nat} (hs : xs.toList.Pairwise (· < ·)) : ∀ fuel lo hi, hi - lo ≤ fuel → lo ≤ hi → hi ≤ xs.size → (∀ i (h : i < xs.size), i < lo → xs[i] < j) → (∀ i (h : i < xs.size), hi ≤ i → j ≤ xs[i]) →
    SetTable.below.go xs j fuel lo hi ≤ xs.size ∧ (∀ i (h : i < xs.size), i < SetTable.below.go xs j fuel lo hi → xs[i] < j) ∧ ∀ i (h : i < xs.size), SetTable.below.go xs j fuel lo hi ≤ i → j ≤ xs[i]
  | 0, lo, hi, hf, hlh, hh, h1, h2 => by
    have e : lo = hi := by omega
    subst e
    unfold SetTable.below.go
    exact ⟨hh, h1, h2⟩
  | fuel + 1, lo, hi, hf, hlh, hh, h1, h2 => by
    unfold SetTable.below.go
    by_cases hlt : lo < hi
    · rw [if_pos hlt]
      dsimp only
      have hm : (lo + hi) / 2 < xs.size := by omega
      have mono : ∀ a b (ha : a < xs.size) (hb : b < xs.size), a ≤ b → xs[a] ≤ xs[b] := fun a b ha hb hab => by
        by_cases e : a = b
        · subst e
          exact Nat.le_refl _
        · have := (List.pairwise_iff_getElem.mp hs) a b (by simpa using ha) (by simpa using hb) (by omega)
          simpa using Nat.le_of_lt this
      by_cases hc : xs.getD ((lo + hi) / 2) j < j
      · rw [if_pos hc]
        rw [Array.getD_eq_getD_getElem?, Array.getElem?_eq_getElem hm] at hc
        refine below_go hs fuel _ hi (by omega) (by omega) hh (fun i h hi' => ?_) h2
        exact Nat.lt_of_le_of_lt (mono i _ h hm (by omega)) hc
      · rw [if_neg hc]
        rw [Array.getD_eq_getD_getElem?, Array.getElem?_eq_getElem hm] at hc
        refine below_go hs fuel lo _ (by omega) (by omega) (by omega) h1 (fun i h hi' => ?_)
        exact Nat.le_trans (Nat.le_of_not_lt hc) (mono _ i hm h hi')
    · rw [if_neg hlt]
      have e : lo = hi := by omega
      subst e
      exact ⟨hh, h1, h2⟩
theorem below_ok {xs : Array Nat} (hs : xs.toList.Pairwise (· < ·)) (j : Nat) : SetTable.below xs j ≤ xs.size ∧ (∀ i (h : i < xs.size), i < SetTable.below xs j → xs[i] < j) ∧ ∀ i (h : i < xs.size), SetTable.below xs j ≤ i → j ≤ xs[i] :=
  below_go hs xs.size 0 xs.size (by omega) (by omega) (Nat.le_refl _) (fun i _ h => by omega) fun i h h' => by omega
theorem slot_empty {t : SetTable} (R : Rz t) {j : Nat} (h : t.slot j = .empty) : j ∉ t.place.toList := by
  intro hm
  obtain ⟨k, hk, e⟩ := List.mem_iff_getElem.mp hm
  have hk' : k < t.place.size := by simpa using hk
  obtain ⟨b1, b2, b3⟩ := below_ok R.up j
  have ek : t.place[k] = j := by simpa using e
  have hb : SetTable.below t.place j = k := by
    rcases Nat.lt_trichotomy (SetTable.below t.place j) k with z | z | z
    · have := b3 (SetTable.below t.place j) (by omega) (Nat.le_refl _)
      have h2 := (List.pairwise_iff_getElem.mp R.up) _ k (by simp; omega) hk z
      simp at h2
      omega
    · exact z
    · have := b2 k hk' z
      omega
  unfold SetTable.slot at h
  simp [hb, Array.getElem?_eq_getElem hk', ek] at h
theorem no_dummy {t : SetTable} (R : Rz t) (j : Nat) : t.slot j ≠ .dummy := by
  have hd : SetTable.has t.dummies j = false := by
    rw [R.no]
    simp [SetTable.has]
  unfold SetTable.slot
  dsimp only
  rw [hd]
  intro h
  by_cases c : (t.place[SetTable.below t.place j]? == some j) = true
  · rw [if_pos c] at h
    cases h
  · rw [if_neg c] at h
    simp at h
theorem insert_list {α : Type} (xs : Array α) (p : Nat) (x : α) : (SetTable.insertAt xs p x).toList = xs.toList.take p ++ x :: xs.toList.drop p := by
  unfold SetTable.insertAt
  simp only [Array.toList_append, Array.toList_push, Array.toList_extract, List.append_assoc, List.extract_eq_take_drop, List.drop_zero, Nat.sub_zero, List.cons_append, List.nil_append]
  rw [List.take_of_length_le (l := List.drop p xs.toList) (by rw [List.length_drop]; simp)]
theorem put_rz {t : SetTable} (R : Rz t) {j : Nat} (hj : j ∉ t.place.toList) (hm : j ≤ t.mask) : Rz (t.put j).1 := by
  obtain ⟨b1, b2, b3⟩ := below_ok R.up j
  have hp : ((t.put j).1.place).toList = t.place.toList.take (SetTable.below t.place j) ++ j :: t.place.toList.drop (SetTable.below t.place j) := insert_list _ _ _
  have lo : ∀ x ∈ t.place.toList.take (SetTable.below t.place j), x < j := fun x hx => by
    obtain ⟨i, hi, rfl⟩ := List.mem_iff_getElem.mp hx
    rw [List.length_take] at hi
    rw [List.getElem_take]
    have := b2 i (by simp at hi; omega) (by omega)
    simpa using this
  have hi : ∀ x ∈ t.place.toList.drop (SetTable.below t.place j), j < x := fun x hx => by
    obtain ⟨i, hi, rfl⟩ := List.mem_iff_getElem.mp hx
    rw [List.length_drop] at hi
    rw [List.getElem_drop]
    have h1 := b3 (SetTable.below t.place j + i) (by simp at hi; omega) (by omega)
    have h2 : t.place.toList[SetTable.below t.place j + i]'(by omega) ≠ j := fun z => hj (z ▸ List.getElem_mem _)
    have h3 : t.place.toList[SetTable.below t.place j + i]'(by omega) = t.place[SetTable.below t.place j + i]'(by simp at hi; omega) := by simp
    rw [h3] at h2 ⊢
    omega
  refine ⟨?_, ?_, ?_⟩
  · rw [hp, List.pairwise_append]
    refine ⟨R.up.sublist (List.take_sublist _ _), ?_, ?_⟩
    · rw [List.pairwise_cons]
      exact ⟨hi, R.up.sublist (List.drop_sublist _ _)⟩
    · intro a ha b hb
      rcases List.mem_cons.mp hb with rfl | hb
      · exact lo a ha
      · exact Nat.lt_trans (lo a ha) (hi b hb)
  · rw [hp]
    intro x hx
    rcases List.mem_append.mp hx with z | z
    · exact R.le x (List.mem_of_mem_take z)
    · rcases List.mem_cons.mp z with rfl | z
      · exact hm
      · exact R.le x (List.mem_of_mem_drop z)
  · show (if SetTable.has t.dummies j then SetTable.eraseAt t.dummies (SetTable.below t.dummies j) else t.dummies) = #[]
    rw [R.no]
    simp [SetTable.has]
theorem laid_rz {mask finger moves : Nat} {led plain : Bool} {hs : Array Int} {t : SetTable} {o : Array Nat} (h : SetTable.laid mask finger moves led plain hs = some (t, o)) : Rz t := by
  unfold SetTable.laid at h
  cases e : SetTable.layClean mask hs with
  | none => rw [e] at h; cases h
  | some owner =>
    rw [e] at h
    cases h
    have sub : ((List.range (mask + 1)).filterMap fun j => (owner.getD j none).map (j, ·)).map (·.1) = (List.range (mask + 1)).filter fun j => (owner.getD j none).isSome := by
      generalize List.range (mask + 1) = l
      induction l with
      | nil => rfl
      | cons a r ih =>
        rw [List.filterMap_cons, List.filter_cons]
        cases hc : owner.getD a none with
        | none => exact ih
        | some v => exact congrArg (a :: ·) ih
    refine ⟨?_, ?_, rfl⟩
    · show (((List.range (mask + 1)).filterMap fun j => (owner.getD j none).map (j, ·)).map (·.1)).toArray.toList.Pairwise (· < ·)
      rw [sub]
      exact List.pairwise_lt_range.sublist List.filter_sublist
    · show ∀ x ∈ (((List.range (mask + 1)).filterMap fun j => (owner.getD j none).map (j, ·)).map (·.1)).toArray.toList, x ≤ mask
      rw [sub]
      intro x hx
      have := List.mem_range.mp (List.mem_filter.mp hx).1
      omega
end L2
/-! EvTt: tables of sets: a probe meets every slot, a thing that lies in the table is met. Pure. Behind EvWlk. -/
namespace L2
open PySem
abbrev Pb := SetTable.Probe
/-- a probe's next step -/
def adv (m : Nat) (p : Pb) : Pb :=
  if p.more > 0 then { p with j := p.j + 1, more := p.more - 1 } else { p with j := (SetTable.leap m p.i p.perturb).1, more := SetTable.runEnd m (SetTable.leap m p.i p.perturb).1 - (SetTable.leap m p.i p.perturb).1, i := (SetTable.leap m p.i p.perturb).1, perturb := (SetTable.leap m p.i p.perturb).2 }
theorem adv_eq (t : SetTable) (p : Pb) : t.advance p = adv t.mask p := rfl
def pst (m : Nat) (h : Int) : Pb := { j := SetTable.bits h % (m + 1), more := SetTable.runEnd m (SetTable.bits h % (m + 1)) - SetTable.bits h % (m + 1), i := SetTable.bits h % (m + 1), perturb := SetTable.bits h, dummy := none }
theorem pst_eq (t : SetTable) (h : Int) : t.probeStart h = pst t.mask h := rfl
def stp (m : Nat) : Nat → Pb → Pb
  | 0, p => p
  | n + 1, p => stp m n (adv m p)
theorem stp_add (m : Nat) : ∀ (a b : Nat) (p : Pb), stp m (a + b) p = stp m b (stp m a p)
  | 0, b, p => by rw [Nat.zero_add]; rfl
  | a + 1, b, p => by
    rw [Nat.succ_add]
    exact stp_add m a b (adv m p)
theorem stp_succ (m n : Nat) (p : Pb) : stp m (n + 1) p = adv m (stp m n p) := stp_add m n 1 p
theorem stp_dummy (m : Nat) : ∀ (n : Nat) (p : Pb), (stp m n p).dummy = p.dummy
  | 0, _ => rfl
  | n + 1, p => by
    rw [stp, stp_dummy m n]
    unfold adv
    split <;> rfl
theorem run_le (m i : Nat) : SetTable.runEnd m i - i ≤ 9 := by
  unfold SetTable.runEnd
  split <;> omega
theorem stp_run (m : Nat) : ∀ (r : Nat) (p : Pb), r ≤ p.more → stp m r p = { p with j := p.j + r, more := p.more - r }
  | 0, p, _ => rfl
  | r + 1, p, h => by
    rw [stp]
    have e : adv m p = { p with j := p.j + 1, more := p.more - 1 } := by
      unfold adv
      rw [if_pos (by omega)]
    rw [e, stp_run m r _ (by show r ≤ p.more - 1; omega)]
    simp only [SetTable.Probe.mk.injEq, and_true, true_and]
    omega
/-- leaps -/
def lps (m : Nat) : Nat → Nat × Nat → Nat × Nat
  | 0, x => x
  | n + 1, x => lps m n (SetTable.leap m x.1 x.2)
theorem lps_succ (m : Nat) : ∀ (n : Nat) (x : Nat × Nat), lps m (n + 1) x = SetTable.leap m (lps m n x).1 (lps m n x).2
  | 0, _ => rfl
  | n + 1, x => lps_succ m n _
theorem lps_pert (m : Nat) : ∀ (n : Nat) (x : Nat × Nat), (lps m n x).2 = x.2 / 32 ^ n
  | 0, x => by simp [lps]
  | n + 1, x => by
    rw [lps_succ, Nat.pow_succ, ← Nat.div_div_eq_div_mul, ← lps_pert m n x]
    rfl
/-- a probe at the head of a run -/
def hd (m : Nat) (p : Pb) (x : Nat × Nat) : Pb := { p with j := x.1, more := SetTable.runEnd m x.1 - x.1, i := x.1, perturb := x.2 }
theorem stp_leap (m : Nat) (p : Pb) : stp m (p.more + 1) p = hd m p (SetTable.leap m p.i p.perturb) := by
  rw [stp_succ, stp_run m p.more p (Nat.le_refl _)]
  unfold adv hd
  rw [if_neg (by show ¬ p.more - p.more > 0; omega)]
theorem stp_lps (m : Nat) {p : Pb} (hp : p.more ≤ 9) : ∀ L : Nat, ∃ n, n ≤ 10 * (L + 1) ∧ stp m n p = hd m p (lps m (L + 1) (p.i, p.perturb))
  | 0 => ⟨p.more + 1, by omega, stp_leap m p⟩
  | L + 1 => by
    obtain ⟨n, h1, h2⟩ := stp_lps m hp L
    have hr := run_le m (lps m (L + 1) (p.i, p.perturb)).1
    refine ⟨n + ((hd m p (lps m (L + 1) (p.i, p.perturb))).more + 1), ?_, ?_⟩
    · show n + (SetTable.runEnd m (lps m (L + 1) (p.i, p.perturb)).1 - (lps m (L + 1) (p.i, p.perturb)).1 + 1) ≤ _
      omega
    · rw [stp_add, h2, stp_leap, lps_succ m (L + 1)]
      rfl
/-- the round of leaps without a perturb -/
def orb (m : Nat) : Nat → Nat → Nat
  | 0, i => i
  | n + 1, i => orb m n ((i * 5 + 1) % (m + 1))
theorem orb_add (m : Nat) : ∀ (a b i : Nat), orb m (a + b) i = orb m b (orb m a i)
  | 0, b, i => by rw [Nat.zero_add]; rfl
  | a + 1, b, i => by
    rw [Nat.succ_add]
    exact orb_add m a b _
theorem lps_orb (m : Nat) : ∀ (n i : Nat), lps m n (i, 0) = (orb m n i, 0)
  | 0, _ => rfl
  | n + 1, i => by
    have e : SetTable.leap m i 0 = ((i * 5 + 1) % (m + 1), 0) := by simp [SetTable.leap]
    show lps m n (SetTable.leap m i 0) = _
    rw [e]
    exact lps_orb m n _
def orbL (m : Nat) : Nat → Nat → List Nat
  | 0, _ => []
  | n + 1, i => i :: orbL m n ((i * 5 + 1) % (m + 1))
theorem orbL_mem {m e : Nat} : ∀ {n i : Nat}, e ∈ orbL m n i → ∃ k, k < n ∧ orb m k i = e
  | 0, _, h => nomatch h
  | n + 1, i, h => by
    rcases List.mem_cons.mp h with rfl | h
    · exact ⟨0, Nat.succ_pos _, rfl⟩
    · obtain ⟨k, h1, h2⟩ := orbL_mem h
      exact ⟨k + 1, Nat.succ_lt_succ h1, h2⟩
def Msk (m : Nat) : Prop := m = 7 ∨ m = 31 ∨ m = 127
theorem orb7 : (List.range 8).all (fun e => (orbL 7 8 0).contains e) = true ∧ orb 7 8 0 = 0 := by decide +kernel
theorem orb31 : (List.range 32).all (fun e => (orbL 31 32 0).contains e) = true ∧ orb 31 32 0 = 0 := by decide +kernel
theorem orb127 : (List.range 128).all (fun e => (orbL 127 128 0).contains e) = true ∧ orb 127 128 0 = 0 := by decide +kernel
theorem orb_all {m : Nat} (hm : Msk m) : (List.range (m + 1)).all (fun e => (orbL m (m + 1) 0).contains e) = true ∧ orb m (m + 1) 0 = 0 := by
  rcases hm with rfl | rfl | rfl
  · exact orb7
  · exact orb31
  · exact orb127
theorem orb_cov {m : Nat} (hm : Msk m) {i e : Nat} (hi : i ≤ m) (he : e ≤ m) : ∃ n, n ≤ m ∧ orb m n i = e := by
  obtain ⟨h1, h2⟩ := orb_all hm
  have g : ∀ e, e ≤ m → ∃ k, k < m + 1 ∧ orb m k 0 = e := fun e he => orbL_mem (by
    have := List.all_eq_true.mp h1 e (List.mem_range.mpr (by omega))
    simpa using this)
  obtain ⟨a, ha, rfl⟩ := g i hi
  obtain ⟨b, hb, rfl⟩ := g e he
  by_cases h : a ≤ b
  · exact ⟨b - a, by omega, by rw [← orb_add, show a + (b - a) = b by omega]⟩
  · refine ⟨b + (m + 1) - a, by omega, ?_⟩
    rw [← orb_add, show a + (b + (m + 1) - a) = (m + 1) + b by omega, orb_add, h2]
/-- every slot is met -/
theorem visit {m : Nat} (hm : Msk m) {p : Pb} (hp : p.more ≤ 9) (hpt : p.perturb < 2 ^ 64) {e : Nat} (he : e ≤ m) : ∃ L, L ≤ m ∧ ∃ n, n ≤ 10 * (13 + L) ∧ stp m n p = hd m p (lps m (13 + L) (p.i, p.perturb)) ∧ (stp m n p).j = e := by
  have h13 : (lps m 13 (p.i, p.perturb)).2 = 0 := by
    rw [lps_pert]
    exact Nat.div_eq_of_lt (Nat.lt_trans hpt (by decide))
  have hi13 : (lps m 13 (p.i, p.perturb)).1 ≤ m := by
    rw [lps_succ]
    exact Nat.le_of_lt_succ (Nat.mod_lt _ (Nat.succ_pos _))
  obtain ⟨L, hL, e1⟩ := orb_cov hm hi13 he
  have e2 : ∀ L x, lps m (13 + L) x = lps m L (lps m 13 x) := fun L x => by
    induction L with
    | zero => rfl
    | succ L ih => rw [show 13 + (L + 1) = (13 + L) + 1 by omega, lps_succ m (13 + L), ih, lps_succ m L]
  obtain ⟨n, h1, h2⟩ := stp_lps m hp (12 + L)
  rw [show 12 + L + 1 = 13 + L by omega] at h1 h2
  refine ⟨L, hL, n, h1, h2, ?_⟩
  rw [h2]
  show (lps m (13 + L) (p.i, p.perturb)).1 = e
  rw [e2, show lps m 13 (p.i, p.perturb) = ((lps m 13 (p.i, p.perturb)).1, 0) from Prod.ext rfl h13, lps_orb]
  exact e1
/-- what a probe keeps -/
structure Pz2 (m : Nat) (p : Pb) : Prop where
  jl : p.j + p.more ≤ m
  mo : p.more ≤ 9
  pt : p.perturb < 2 ^ 64
theorem bits_lt (h : Int) : SetTable.bits h < 2 ^ 64 := by
  unfold SetTable.bits
  have h1 := Int.emod_lt_of_pos h (show (0 : Int) < 2 ^ 64 by decide)
  have h2 := Int.emod_nonneg h (show (2 ^ 64 : Int) ≠ 0 by decide)
  omega
theorem run_in (m i : Nat) (h : i ≤ m) : i + (SetTable.runEnd m i - i) ≤ m := by
  unfold SetTable.runEnd
  split <;> omega
theorem pst_pz (m : Nat) (h : Int) : Pz2 m (pst m h) := ⟨run_in m _ (Nat.le_of_lt_succ (Nat.mod_lt _ (Nat.succ_pos _))), run_le m _, bits_lt h⟩
theorem adv_pz2 {m : Nat} {p : Pb} (P : Pz2 m p) : Pz2 m (adv m p) := by
  have := P.jl
  have := P.mo
  have := P.pt
  unfold adv
  split
  · exact ⟨by dsimp only; omega, by dsimp only; omega, by assumption⟩
  · refine ⟨run_in m _ (Nat.le_of_lt_succ (Nat.mod_lt _ (Nat.succ_pos _))), run_le m _, ?_⟩
    show p.perturb / 32 < 2 ^ 64
    exact Nat.lt_of_le_of_lt (Nat.div_le_self _ _) P.pt
theorem stp_pz2 {m : Nat} : ∀ (n : Nat) {p : Pb}, Pz2 m p → Pz2 m (stp m n p)
  | 0, _, P => P
  | n + 1, _, P => stp_pz2 n (adv_pz2 P)
/-! ### slots -/
theorem slot_in {t : SetTable} (R : Rz t) {i : Nat} (hi : i < t.place.size) : t.slot t.place[i] = .live i := by
  obtain ⟨b1, b2, b3⟩ := below_ok R.up t.place[i]
  have hb : SetTable.below t.place t.place[i] = i := by
    rcases Nat.lt_trichotomy (SetTable.below t.place t.place[i]) i with z | z | z
    · have h1 := b3 (SetTable.below t.place t.place[i]) (by omega) (Nat.le_refl _)
      have h2 := (List.pairwise_iff_getElem.mp R.up) _ i (by simp; omega) (by simpa using hi) z
      simp at h2
      omega
    · exact z
    · have := b2 i hi z
      omega
  unfold SetTable.slot
  dsimp only
  rw [hb, Array.getElem?_eq_getElem hi]
  simp
theorem slot_out {t : SetTable} (R : Rz t) {j : Nat} (h : j ∉ t.place.toList) : t.slot j = .empty := by
  have hd := no_dummy R j
  unfold SetTable.slot at hd ⊢
  dsimp only at hd ⊢
  by_cases c : (t.place[SetTable.below t.place j]? == some j) = true
  · have := eq_of_beq c
    exact absurd (by rw [← Array.getElem?_toList] at this; exact List.mem_of_getElem? this) h
  · rw [if_neg c] at hd ⊢
    by_cases c2 : SetTable.has t.dummies j = true
    · rw [if_pos c2] at hd
      exact absurd rfl hd
    · rw [if_neg c2]
theorem live_in {t : SetTable} (R : Rz t) {i j : Nat} (h : t.slot j = .live i) : ∃ hi : i < t.place.size, t.place[i] = j := by
  by_cases hj : j ∈ t.place.toList
  · obtain ⟨k, hk, e⟩ := List.mem_iff_getElem.mp hj
    have hk' : k < t.place.size := by simpa using hk
    have e' : t.place[k] = j := by simpa using e
    have := slot_in R hk'
    rw [e', h] at this
    cases this
    exact ⟨hk', e'⟩
  · rw [slot_out R hj] at h
    cases h
theorem free_ex {t : SetTable} (R : Rz t) (hf : t.place.size ≤ t.mask) : ∃ e, e ≤ t.mask ∧ e ∉ t.place.toList := by
  refine Classical.byContradiction fun hn => ?_
  have hall : ∀ e, e ≤ t.mask → e ∈ t.place.toList := fun e he => Classical.byContradiction fun h => hn ⟨e, he, h⟩
  have nd : t.place.toList.Nodup := R.up.imp fun h => Nat.ne_of_lt h
  have key : ∀ (n : Nat) (L : List Nat), L.Nodup → (∀ e, e < n → e ∈ L) → n ≤ L.length := by
    intro n
    induction n with
    | zero => exact fun L _ _ => Nat.zero_le _
    | succ n ih =>
      intro L hL hh
      have h1 := hh n (Nat.lt_succ_self n)
      have h2 := ih (L.erase n) (hL.erase n) fun e he => (List.mem_erase_of_ne (Nat.ne_of_lt he)).mpr (hh e (Nat.lt_succ_of_lt he))
      rw [List.length_erase_of_mem h1] at h2
      have := List.length_pos_of_mem h1
      omega
  have := key (t.mask + 1) t.place.toList nd fun e he => hall e (Nat.le_of_lt_succ he)
  rw [Array.length_toList] at this
  omega
/-! ### the probe -/
theorem go_ex {t : SetTable} (R : Rz t) {g : Nat → Int} {h : Int} : ∀ (fuel n : Nat) (p : Pb), n < fuel → t.slot (stp t.mask n p).j = .empty → ∃ met, SetTable.probe.go t g h fuel p = some met
  | 0, _, _, hn, _ => absurd hn (Nat.not_lt_zero _)
  | fuel + 1, n, p, hn, he => by
    unfold SetTable.probe.go
    cases hs : t.slot p.j with
    | empty => exact ⟨_, rfl⟩
    | dummy => exact absurd hs (no_dummy R _)
    | live i =>
      dsimp only
      by_cases c : (g i == h) = true
      · rw [if_pos c]
        exact ⟨_, rfl⟩
      · rw [if_neg c]
        cases n with
        | zero =>
          rw [show (stp t.mask 0 p).j = p.j from rfl, hs] at he
          cases he
        | succ n => exact go_ex R fuel n (t.advance p) (by omega) (by rw [adv_eq]; exact he)
/-- what was met -/
def MetIs (t : SetTable) (g : Nat → Int) (h : Int) (p : Pb) (n : Nat) : SetTable.Met → Prop
  | .empty j d => j = (stp t.mask n p).j ∧ t.slot j = .empty ∧ d = p.dummy
  | .candidate j i next => j = (stp t.mask n p).j ∧ t.slot j = .live i ∧ g i = h ∧ next = stp t.mask (n + 1) p
theorem go_is {t : SetTable} (R : Rz t) {g : Nat → Int} {h : Int} : ∀ (fuel : Nat) (p : Pb) (met : SetTable.Met), SetTable.probe.go t g h fuel p = some met → ∃ n, n < fuel ∧ (∀ k, k < n → ∃ i, t.slot (stp t.mask k p).j = .live i ∧ g i ≠ h) ∧ MetIs t g h p n met
  | 0, p, met, e => by
    unfold SetTable.probe.go at e
    cases e
  | fuel + 1, p, met, e => by
    unfold SetTable.probe.go at e
    cases hs : t.slot p.j with
    | empty =>
      rw [hs] at e
      cases e
      exact ⟨0, Nat.succ_pos _, fun k hk => absurd hk (Nat.not_lt_zero _), rfl, hs, rfl⟩
    | dummy => exact absurd hs (no_dummy R _)
    | live i =>
      rw [hs] at e
      dsimp only at e
      by_cases c : (g i == h) = true
      · rw [if_pos c] at e
        cases e
        exact ⟨0, Nat.succ_pos _, fun k hk => absurd hk (Nat.not_lt_zero _), rfl, hs, eq_of_beq c, rfl⟩
      · rw [if_neg c, adv_eq] at e
        obtain ⟨n, hn, h1, h2⟩ := go_is R fuel (adv t.mask p) met e
        refine ⟨n + 1, Nat.succ_lt_succ hn, fun k hk => ?_, ?_⟩
        · cases k with
          | zero => exact ⟨i, hs, fun z => c (by rw [z]; exact beq_self_eq_true h)⟩
          | succ k => exact h1 k (by omega)
        · cases met with
          | empty j d =>
            obtain ⟨e1, e2, e3⟩ := h2
            refine ⟨e1, e2, e3.trans ?_⟩
            have := stp_dummy t.mask 1 p
            exact this
          | candidate j i next => exact h2
/-- a probe of a table with room ends -/
theorem probe_ex {t : SetTable} (R : Rz t) (hm : Msk t.mask) (hf : t.place.size ≤ t.mask) {g : Nat → Int} {h : Int} {p : Pb} (P : Pz2 t.mask p) : ∃ met, t.probe g h p = some met := by
  obtain ⟨e, he, hn⟩ := free_ex R hf
  obtain ⟨L, hL, n, h1, _, h2⟩ := visit hm P.mo P.pt he
  refine go_ex R _ n p ?_ (by rw [h2]; exact slot_out R hn)
  show n < 10 * (t.mask + 15)
  omega
/-! ### what lies in a table is met -/
/-- the slot j is met by the probe of h, all slots ahead of it being taken -/
def Fnd (m : Nat) (pl : List Nat) (h : Int) (j : Nat) : Prop := ∃ n, (stp m n (pst m h)).j = j ∧ ∀ k, k < n → (stp m k (pst m h)).j ∈ pl
theorem Fnd.more {m : Nat} {pl pl' : List Nat} {h : Int} {j : Nat} (f : Fnd m pl h j) (hs : ∀ x ∈ pl, x ∈ pl') : Fnd m pl' h j := by
  obtain ⟨n, h1, h2⟩ := f
  exact ⟨n, h1, fun k hk => hs _ (h2 k hk)⟩
/-- a table of these hashes, in the order of their slots -/
structure TabR (t : SetTable) (hs : List Int) : Prop where
  rz : Rz t
  len : t.place.size = hs.length
  msk : Msk t.mask
  room : hs.length ≤ t.mask
  fnd : ∀ x ∈ hs.zip t.place.toList, Fnd t.mask t.place.toList x.1 x.2
theorem insert_zip {hs : List Int} {pl : List Nat} (hl : hs.length = pl.length) {p : Nat} (hp : p ≤ hs.length) (h : Int) (j : Nat) : (hs.take p ++ h :: hs.drop p).zip (pl.take p ++ j :: pl.drop p) = (hs.zip pl).take p ++ (h, j) :: (hs.zip pl).drop p := by
  rw [List.zip_append (by rw [List.length_take, List.length_take]; omega), List.zip_cons_cons]
  unfold List.zip
  rw [List.take_zipWith, List.drop_zipWith]
theorem TabR.put {t : SetTable} {hs : List Int} (T : TabR t hs) {h : Int} {n : Nat} (he : (stp t.mask n (pst t.mask h)).j ∉ t.place.toList) (hn : ∀ k, k < n → (stp t.mask k (pst t.mask h)).j ∈ t.place.toList) (hr : hs.length + 1 ≤ t.mask) :
    TabR (t.put (stp t.mask n (pst t.mask h)).j).1 (hs.take (SetTable.below t.place (stp t.mask n (pst t.mask h)).j) ++ h :: hs.drop (SetTable.below t.place (stp t.mask n (pst t.mask h)).j)) := by
  have hjm : (stp t.mask n (pst t.mask h)).j ≤ t.mask := by
    have := (stp_pz2 n (pst_pz t.mask h)).jl
    omega
  have hf : Fnd t.mask t.place.toList h (stp t.mask n (pst t.mask h)).j := ⟨n, rfl, hn⟩
  generalize (stp t.mask n (pst t.mask h)).j = j at he hjm hf ⊢
  have hb := (below_ok T.rz.up j).1
  have hl : hs.length = t.place.toList.length := T.len.symm.trans Array.length_toList.symm
  have hbl : SetTable.below t.place j ≤ hs.length := by rw [← T.len]; exact hb
  have hp : ((t.put j).1.place).toList = t.place.toList.take (SetTable.below t.place j) ++ j :: t.place.toList.drop (SetTable.below t.place j) := insert_list _ _ _
  have hsub : ∀ x ∈ t.place.toList, x ∈ ((t.put j).1.place).toList := fun x hx => by
    rw [hp]
    rw [← List.take_append_drop (SetTable.below t.place j) t.place.toList] at hx
    rcases List.mem_append.mp hx with z | z
    · exact List.mem_append_left _ z
    · exact List.mem_append_right _ (List.mem_cons_of_mem _ z)
  have hlen : (hs.take (SetTable.below t.place j) ++ h :: hs.drop (SetTable.below t.place j)).length = hs.length + 1 := by
    rw [List.length_append, List.length_cons, List.length_take, List.length_drop]
    omega
  refine ⟨put_rz T.rz he hjm, ?_, T.msk, ?_, ?_⟩
  · rw [hlen, ← Array.length_toList, hp, List.length_append, List.length_cons, List.length_take, List.length_drop, ← hl]
    omega
  · rw [hlen]
    exact hr
  · intro x hx
    have hm : (t.put j).1.mask = t.mask := rfl
    rw [hm]
    rw [hp, insert_zip hl hbl] at hx
    have old : x ∈ hs.zip t.place.toList → Fnd t.mask ((t.put j).1.place).toList x.1 x.2 := fun z => (T.fnd x z).more hsub
    rcases List.mem_append.mp hx with z | z
    · exact old (List.mem_of_mem_take z)
    · rcases List.mem_cons.mp z with z | z
      · rw [z]
        exact hf.more hsub
      · exact old (List.mem_of_mem_drop z)
/-! ### a table laid anew -/
/-- who owns the slot -/
def ow (o : Array (Option Nat)) (j : Nat) : Option Nat := o.getD j none
theorem ow_set {o : Array (Option Nat)} {j : Nat} (hj : j < o.size) (k i : Nat) : ow (o.setIfInBounds j (some k)) i = if i = j then some k else ow o i := by
  unfold ow
  rw [Array.getD_eq_getD_getElem?, Array.getD_eq_getD_getElem?, Array.getElem?_setIfInBounds]
  by_cases e : j = i
  · subst e
    rw [if_pos rfl, if_pos rfl, if_pos hj]
    rfl
  · rw [if_neg e, if_neg (fun z => e z.symm)]
def owL (o : Array (Option Nat)) (L : List Nat) : List Nat := L.filterMap (ow o)
theorem owL_set {o : Array (Option Nat)} {j k : Nat} (hj : j < o.size) (h0 : ow o j = none) : ∀ {L : List Nat}, L.Nodup → (j ∉ L → owL (o.setIfInBounds j (some k)) L = owL o L) ∧ (j ∈ L → (owL (o.setIfInBounds j (some k)) L).Perm (owL o L ++ [k]))
  | [], _ => ⟨fun _ => rfl, fun h => nomatch h⟩
  | x :: L, hL => by
    obtain ⟨h1, h2⟩ := List.nodup_cons.mp hL
    obtain ⟨i1, i2⟩ := owL_set (k := k) hj h0 h2
    unfold owL at i1 i2 ⊢
    rw [List.filterMap_cons, List.filterMap_cons, ow_set hj]
    refine ⟨fun hn => ?_, fun hm => ?_⟩
    · have hx : x ≠ j := fun z => hn (by rw [z]; exact List.mem_cons_self ..)
      rw [if_neg hx, i1 fun z => hn (List.mem_cons_of_mem _ z)]
    · by_cases hx : x = j
      · subst hx
        rw [if_pos rfl, h0, i1 h1]
        exact (List.perm_append_singleton _ _).symm
      · rw [if_neg hx]
        have := i2 ((List.mem_cons.mp hm).resolve_left (Ne.symm hx))
        cases ow o x with
        | none => exact this
        | some v => exact this.cons v
/-- the slot j is free, and the first free one that the probe meets -/
def FreeAt (m : Nat) (o : Array (Option Nat)) (p : Pb) (j : Nat) : Prop := j < o.size ∧ ow o j = none ∧ ∃ n, (stp m n p).j = j ∧ ∀ k, k < n → ∃ v, ow o (stp m k p).j = some v
theorem none_at {o : Array (Option Nat)} {j : Nat} : (o.getD j (some 0)).isNone = true ↔ j < o.size ∧ ow o j = none := by
  unfold ow
  rw [Array.getD_eq_getD_getElem?, Array.getD_eq_getD_getElem?]
  by_cases h : j < o.size
  · rw [Array.getElem?_eq_getElem h]
    cases o[j] <;> simp [h]
  · rw [Array.getElem?_eq_none (by omega)]
    simp [h]
theorem free_is {m : Nat} {o : Array (Option Nat)} (hsz : o.size = m + 1) : ∀ (fuel : Nat) {p : Pb} {j : Nat}, p.i ≤ m → SetTable.layClean.free m o fuel p.i p.perturb = some j → FreeAt m o (hd m p (p.i, p.perturb)) j
  | 0, p, j, _, e => by
    unfold SetTable.layClean.free at e
    cases e
  | fuel + 1, p, j, hi, e => by
    unfold SetTable.layClean.free at e
    have hrun : ∀ r, r ≤ SetTable.runEnd m p.i - p.i → (stp m r (hd m p (p.i, p.perturb))).j = p.i + r := fun r hr => by
      rw [stp_run m r _ hr]
      rfl
    have hin := run_in m p.i hi
    have hre : p.i ≤ SetTable.runEnd m p.i := by
      unfold SetTable.runEnd
      split <;> omega
    split at e
    · rename_i k hk
      cases e
      have h1 := List.find?_some hk
      have hkm := List.mem_range.mp (List.mem_of_find?_eq_some hk)
      obtain ⟨g1, g2⟩ := none_at.mp h1
      refine ⟨g1, g2, k, hrun k (by omega), fun r hr => ?_⟩
      rw [hrun r (by omega)]
      have hrn := List.find?_range_eq_some.mp hk
      have := hrn.2.2 r hr
      cases hv : ow o (p.i + r) with
      | some v => exact ⟨v, rfl⟩
      | none =>
        have z := none_at.mpr ⟨show p.i + r < o.size by omega, hv⟩
        rw [z] at this
        cases this
    · rename_i hk
      have hall : ∀ r, r ≤ SetTable.runEnd m p.i - p.i → ∃ v, ow o (p.i + r) = some v := fun r hr => by
        have := List.find?_eq_none.mp hk r (List.mem_range.mpr (by omega))
        cases hv : ow o (p.i + r) with
        | some v => exact ⟨v, rfl⟩
        | none => exact absurd (none_at.mpr ⟨show p.i + r < o.size by omega, hv⟩) this
      have hl : (SetTable.leap m p.i p.perturb).1 ≤ m := Nat.le_of_lt_succ (Nat.mod_lt _ (Nat.succ_pos _))
      obtain ⟨f1, f2, n, f3, f4⟩ := free_is hsz fuel (p := hd m p (SetTable.leap m p.i p.perturb)) hl e
      have hst : stp m (SetTable.runEnd m p.i - p.i + 1) (hd m p (p.i, p.perturb)) = hd m p (SetTable.leap m p.i p.perturb) := stp_leap m (hd m p (p.i, p.perturb))
      have hhd : hd m (hd m p (SetTable.leap m p.i p.perturb)) ((hd m p (SetTable.leap m p.i p.perturb)).i, (hd m p (SetTable.leap m p.i p.perturb)).perturb) = hd m p (SetTable.leap m p.i p.perturb) := rfl
      rw [hhd] at f3 f4
      refine ⟨f1, f2, SetTable.runEnd m p.i - p.i + 1 + n, by rw [stp_add, hst]; exact f3, fun k hk => ?_⟩
      by_cases hkr : k ≤ SetTable.runEnd m p.i - p.i
      · rw [hrun k hkr]
        exact hall k hkr
      · have := f4 (k - (SetTable.runEnd m p.i - p.i + 1)) (by omega)
        rw [← hst, ← stp_add, show SetTable.runEnd m p.i - p.i + 1 + (k - (SetTable.runEnd m p.i - p.i + 1)) = k by omega] at this
        exact this
/-- leaps meet a free slot -/
theorem free_ex2 {m : Nat} {o : Array (Option Nat)} : ∀ (fuel L : Nat) (x : Nat × Nat), L < fuel → (lps m L x).1 < o.size → ow o (lps m L x).1 = none → ∃ j, SetTable.layClean.free m o fuel x.1 x.2 = some j
  | 0, _, _, h, _, _ => absurd h (Nat.not_lt_zero _)
  | fuel + 1, L, x, h, h1, h2 => by
    unfold SetTable.layClean.free
    split
    · exact ⟨_, rfl⟩
    · rename_i hk
      cases L with
      | zero =>
        have := List.find?_eq_none.mp hk 0 (List.mem_range.mpr (by
          have : x.1 ≤ SetTable.runEnd m x.1 := by
            unfold SetTable.runEnd
            split <;> omega
          omega))
        exact absurd (none_at.mpr ⟨h1, h2⟩) this
      | succ L => exact free_ex2 fuel L (SetTable.leap m x.1 x.2) (by omega) h1 h2
theorem owL_le {o : Array (Option Nat)} : ∀ (L : List Nat), (∀ j ∈ L, ∃ v, ow o j = some v) → (owL o L).length = L.length
  | [], _ => rfl
  | x :: L, h => by
    obtain ⟨v, hv⟩ := h x (List.mem_cons_self ..)
    unfold owL
    rw [List.filterMap_cons, hv]
    show _ + 1 = _ + 1
    rw [show (List.filterMap (ow o) L).length = L.length from owL_le L fun j hj => h j (List.mem_cons_of_mem _ hj)]
/-- a table that is being laid: k things have their slots -/
structure Lay (m : Nat) (hs : List Int) (o : Array (Option Nat)) (k : Nat) : Prop where
  sz : o.size = m + 1
  pm : (owL o (List.range (m + 1))).Perm (List.range k)
  fn : ∀ j v, ow o j = some v → v < k ∧ ∃ n, (stp m n (pst m (hs.getD v 0))).j = j ∧ ∀ i, i < n → ∃ u, ow o (stp m i (pst m (hs.getD v 0))).j = some u
theorem Lay.zero (m : Nat) (hs : List Int) : Lay m hs (Array.replicate (m + 1) none) 0 := by
  have h0 : ∀ j, ow (Array.replicate (m + 1) (none : Option Nat)) j = none := fun j => by
    unfold ow
    rw [Array.getD_eq_getD_getElem?, Array.getElem?_replicate]
    split <;> rfl
  refine ⟨by simp, ?_, fun j v e => by rw [h0] at e; cases e⟩
  have : owL (Array.replicate (m + 1) (none : Option Nat)) (List.range (m + 1)) = [] := by
    unfold owL
    rw [List.filterMap_eq_nil_iff]
    exact fun j _ => h0 j
  rw [this]
  exact List.Perm.refl _
theorem Lay.step {m : Nat} (hm : Msk m) {hs : List Int} {o : Array (Option Nat)} {k : Nat} (Y : Lay m hs o k) (hk : k ≤ m) {h : Int} (hh : hs.getD k 0 = h) : ∃ j, SetTable.layClean.free m o (SetTable.turns m) (SetTable.bits h % (m + 1)) (SetTable.bits h) = some j ∧ Lay m hs (o.setIfInBounds j (some k)) (k + 1) := by
  obtain ⟨e, he, h0⟩ : ∃ e, e ≤ m ∧ ow o e = none := by
    refine Classical.byContradiction fun hn => ?_
    have h1 := owL_le (o := o) (List.range (m + 1)) fun j hj => by
      have hj := List.mem_range.mp hj
      cases hv : ow o j with
      | some v => exact ⟨v, rfl⟩
      | none => exact absurd ⟨j, by omega, hv⟩ hn
    have h2 := Y.pm.length_eq
    rw [h1, List.length_range, List.length_range] at h2
    omega
  obtain ⟨L, hL, n, _, h2, h3⟩ := visit hm (p := pst m h) (run_le m _) (bits_lt h) he
  rw [h2] at h3
  have h3' : (lps m (13 + L) (SetTable.bits h % (m + 1), SetTable.bits h)).1 = e := h3
  obtain ⟨j, hj⟩ := free_ex2 (m := m) (o := o) (SetTable.turns m) (13 + L) (SetTable.bits h % (m + 1), SetTable.bits h) (by show 13 + L < m + 15; omega) (by rw [h3', Y.sz]; omega) (by rw [h3']; exact h0)
  have hF := free_is Y.sz (SetTable.turns m) (p := pst m h) (Nat.le_of_lt_succ (Nat.mod_lt _ (Nat.succ_pos _))) hj
  obtain ⟨g1, g2, n', g3, g4⟩ := hF
  have hhd : hd m (pst m h) ((pst m h).i, (pst m h).perturb) = pst m h := rfl
  rw [hhd] at g3 g4
  have mono : ∀ i u, ow o i = some u → ∃ u', ow (o.setIfInBounds j (some k)) i = some u' := fun i u hu => by
    rw [ow_set g1]
    split
    · exact ⟨_, rfl⟩
    · exact ⟨u, hu⟩
  refine ⟨j, hj, by rw [Array.size_setIfInBounds]; exact Y.sz, ?_, fun i v hv => ?_⟩
  · have := (owL_set (k := k) g1 g2 (L := List.range (m + 1)) List.nodup_range).2 (List.mem_range.mpr (by rw [Y.sz] at g1; exact g1))
    rw [List.range_succ (n := k)]
    exact this.trans (Y.pm.append_right _)
  · rw [ow_set g1] at hv
    by_cases hij : i = j
    · rw [if_pos hij] at hv
      cases hv
      refine ⟨Nat.lt_succ_self _, n', by rw [hh, hij]; exact g3, fun r hr => ?_⟩
      rw [hh]
      obtain ⟨u, hu⟩ := g4 r hr
      exact mono _ u hu
    · rw [if_neg hij] at hv
      obtain ⟨e1, n2, e2, e3⟩ := Y.fn i v hv
      refine ⟨Nat.lt_succ_of_lt e1, n2, e2, fun r hr => ?_⟩
      obtain ⟨u, hu⟩ := e3 r hr
      exact mono _ u hu
theorem lay_fold {m : Nat} (hm : Msk m) {hs : List Int} (hl : hs.length ≤ m + 1) : ∀ (done rest : List Int) (o : Array (Option Nat)), hs = done ++ rest → Lay m hs o done.length →
    ∃ o', (rest.foldl (fun (acc : Option (Array (Option Nat) × Nat)) h => do
      let (owner, k) ← acc
      let j ← SetTable.layClean.free m owner (SetTable.turns m) (SetTable.bits h % (m + 1)) (SetTable.bits h)
      pure (owner.setIfInBounds j (some k), k + 1)) (some (o, done.length))) = some (o', hs.length) ∧ Lay m hs o' hs.length
  | done, [], o, e, Y => by
    rw [List.append_nil] at e
    subst e
    exact ⟨o, rfl, Y⟩
  | done, h :: rest, o, e, Y => by
    have hk : done.length ≤ m := by
      have := congrArg List.length e
      rw [List.length_append, List.length_cons] at this
      omega
    have hh : hs.getD done.length 0 = h := by
      rw [e, List.getD_eq_getElem?_getD, List.getElem?_append_right (Nat.le_refl _), Nat.sub_self]
      rfl
    obtain ⟨j, hj, Y'⟩ := Y.step hm hk hh
    rw [List.foldl_cons]
    have e2 : (do
      let (owner, k) ← (some (o, done.length) : Option (Array (Option Nat) × Nat))
      let j ← SetTable.layClean.free m owner (SetTable.turns m) (SetTable.bits h % (m + 1)) (SetTable.bits h)
      pure (owner.setIfInBounds j (some k), k + 1)) = some (o.setIfInBounds j (some done.length), done.length + 1) := by
      show (SetTable.layClean.free m o (SetTable.turns m) (SetTable.bits h % (m + 1)) (SetTable.bits h)).bind _ = _
      rw [hj]
      rfl
    rw [e2]
    have := lay_fold hm hl (done ++ [h]) rest (o.setIfInBounds j (some done.length)) (by rw [e, List.append_assoc]; rfl) (by rw [List.length_append]; exact Y')
    rw [List.length_append] at this
    exact this
theorem layClean_ok {m : Nat} (hm : Msk m) {hs : Array Int} (hl : hs.size ≤ m + 1) : ∃ o, SetTable.layClean m hs = some o ∧ Lay m hs.toList o hs.size := by
  obtain ⟨o, h1, h2⟩ := lay_fold hm (hs := hs.toList) (by rw [Array.length_toList]; exact hl) [] hs.toList _ rfl (Lay.zero m hs.toList)
  refine ⟨o, ?_, by rw [Array.length_toList] at h2; exact h2⟩
  unfold SetTable.layClean
  rw [← Array.foldl_toList]
  have h1' := h1
  rw [show ([] : List Int).length = 0 from rfl] at h1'
  rw [h1']
  rfl
theorem live_fst (o : Array (Option Nat)) (L : List Nat) : (L.filterMap fun j => (o.getD j none).map (j, ·)).map (·.2) = owL o L := by
  unfold owL
  rw [List.map_filterMap]
  congr 1
  funext j
  unfold ow
  cases o.getD j none <;> rfl
theorem ow_lt {o : Array (Option Nat)} {j v : Nat} (h : ow o j = some v) : j < o.size := by
  refine Classical.byContradiction fun hn => ?_
  unfold ow at h
  rw [Array.getD_eq_getD_getElem?, Array.getElem?_eq_none (by omega)] at h
  cases h
theorem laid_ok {m f mv : Nat} {led plain : Bool} (hm : Msk m) {hs : Array Int} (hl : hs.size ≤ m) : ∃ t order, SetTable.laid m f mv led plain hs = some (t, order) ∧ order.toList.Perm (List.range hs.size) ∧ TabR t (order.toList.map fun i => hs.toList.getD i 0) ∧ t.led = led ∧ t.plain = plain ∧ t.mask = m := by
  obtain ⟨o, h1, Y⟩ := layClean_ok hm (hs := hs) (by omega)
  have e : SetTable.laid m f mv led plain hs = some ({ mask := m, place := (((List.range (m + 1)).filterMap fun j => (o.getD j none).map (j, ·)).map (·.1)).toArray, dummies := #[], finger := f, led, moves := mv, plain }, (((List.range (m + 1)).filterMap fun j => (o.getD j none).map (j, ·)).map (·.2)).toArray) := by
    unfold SetTable.laid
    rw [h1]
    rfl
  have hR := laid_rz e
  refine ⟨_, _, e, ?_, ?_, rfl, rfl, rfl⟩
  · show (((List.range (m + 1)).filterMap fun j => (o.getD j none).map (j, ·)).map (·.2)).Perm _
    rw [live_fst]
    exact Y.pm
  · have hlv : ∀ x, x ∈ ((List.range (m + 1)).filterMap fun j => (o.getD j none).map (j, ·)) ↔ x.1 < m + 1 ∧ ow o x.1 = some x.2 := fun x => by
      rw [List.mem_filterMap]
      constructor
      · rintro ⟨j, hj, hx⟩
        obtain ⟨v, hv, rfl⟩ := Option.map_eq_some_iff.mp hx
        exact ⟨List.mem_range.mp hj, hv⟩
      · rintro ⟨hj, hx⟩
        exact ⟨x.1, List.mem_range.mpr hj, Option.map_eq_some_iff.mpr ⟨x.2, hx, rfl⟩⟩
    have hlen : ((List.range (m + 1)).filterMap fun j => (o.getD j none).map (j, ·)).length = hs.size := by
      have := Y.pm.length_eq
      rw [← live_fst, List.length_map, List.length_range] at this
      exact this
    generalize (List.range (m + 1)).filterMap (fun j => (o.getD j none).map (j, ·)) = lv at hR hlv hlen ⊢
    refine ⟨hR, ?_, hm, ?_, ?_⟩
    · simp
    · show ((lv.map (·.2)).map _).length ≤ m
      rw [List.length_map, List.length_map, hlen]
      exact hl
    · show ∀ x ∈ ((lv.map (·.2)).map fun i => hs.toList.getD i 0).zip (lv.map (·.1)), Fnd m (lv.map (·.1)) x.1 x.2
      intro x hx
      rw [List.map_map, List.zip_map'] at hx
      obtain ⟨y, hy, rfl⟩ := List.mem_map.mp hx
      obtain ⟨_, hy2⟩ := (hlv y).mp hy
      obtain ⟨_, n, g1, g2⟩ := Y.fn y.1 y.2 hy2
      refine ⟨n, g1, fun k hk => ?_⟩
      obtain ⟨u, hu⟩ := g2 k hk
      have := ow_lt hu
      rw [Y.sz] at this
      exact List.mem_map.mpr ⟨(_, u), (hlv _).mpr ⟨this, hu⟩, rfl⟩
end L2
/-! EvTg: a set of any things walked, by its table: its iterator by text, by drawn places, by rising places; what it leaves in a list. Behind EvWlk. (EvSi's walk, of a set of numbers, with the things left open.) -/
namespace L2
open PySem PySem.Spec PyProof.Rows
/-- a set's table as it is made -/
structure TabG (w : World) (es : Array (Int × Value)) (t : SetTable) : Prop where
  fit : t.fits es.size = true
  rz : Rz t
  led : t.led = !(w.params.followText "set-order")
def AtG (w : World) (h : Heap) (a : Addr) (es : Array (Int × Value)) : Prop := ∃ o ep t, h.get? a = some o ∧ o.ExactSet ∧ o.data = .set es ep t ∧ TabG w es t
theorem AtG.stay {w : World} {h h' : Heap} {a : Addr} {es : Array (Int × Value)} (x : AtG w h a es) (k : ∀ o, h.get? a = some o → h'.get? a = some o) : AtG w h' a es := by
  obtain ⟨o, ep, t, ho, r⟩ := x
  exact ⟨o, ep, t, k o ho, r⟩
section
variable {prog : Program} {w : World} {A : Around} {E : Value → Shared → Prop} {s : Shared}
/-- a new set, and who leads it -/
theorem new_l (x : Value) {Q : Value → Shared → Prop} (h : Q (.ref s.heap.objs.size) { s with heap := s.heap.push (set0 (!(w.params.followText "set-order"))) }) :
    codeAny (model prog w) A (.call (.builtin "set.__new__") ⟨[.type "set", x], []⟩) (wants Q E) s := by
  refine codeAny_of_tree (wpAny_bind (m := checkBuiltinCall "set.__new__" ⟨[.type "set", x], []⟩) (wpAny_of_eq (F.newCall_set_1 x) (wpAny_pure ⟨plainId_quiet F.plain_set_new _, codeAny_builtin F.entry_set_new ?_⟩)))
  rw [Around.under_plainId F.plain_set_new _]
  have f := sub_set_self
  obtain ⟨hp, g, d, tk, os⟩ := s
  unfold Builtin.«set.__new__» Builtin.Frozenset.newClass
  dsimp only
  wp_walk
  refine wpAny_askSetting (wpAny_pure (wpAny_bind (wpAny_alloc (wpAny_pure (wpAny_pure h)))))
/-- set(x), by what its __init__ does -/
theorem set_call_l {x : Value} {Q : Value → Shared → Prop} (h : wpAny (model prog w) A.in1.in1 (Builtin.«set.__init__» ⟨[.ref s.heap.objs.size, x], []⟩) (fun fin s' => fin = .done (.ret .none) ∧ Q (.ref s.heap.objs.size) s') E { s with heap := s.heap.push (set0 (!(w.params.followText "set-order"))) }) :
    wpAny (model prog w) A (call (.type "set") [x]) Q E s := by
  obtain ⟨c, tl, m1⟩ := PySem.F.called_set.mro
  have m2 := PySem.F.called_set.made; have m3 := PySem.F.called_set.sub; have m4 := PySem.F.called_set.notType; have m5 := PySem.F.called_set.canCreate
  have m6 := PySem.F.typeCall_set_1 x
  refine wpAny_call (codeAny_of_tree (show wpAny _ _ (callAny (.type "set") _) _ _ _ from wpAny_pure ⟨Code.quiet_builtin _ (by decide +kernel), codeAny_builtin PySem.F.entry_type_call ?_⟩))
  rw [Around.under_plain (weight_type_call_type "set" [x] []) rfl]
  repeat (any_goals (first | assumption | wp_step))
  refine codeAny_mono (new_l x (E := E) (Q := fun ob s1 => ob = .ref s.heap.objs.size ∧ s1 = { s with heap := s.heap.push (set0 (!(w.params.followText "set-order"))) }) ⟨rfl, rfl⟩) fun r s1 hr => ?_
  match r, hr with
  | .error e, hr => exact hr
  | .ok (.ret ob), hr =>
    obtain ⟨rfl, rfl⟩ := hr
    have hT : Shared.TypeIs { s with heap := s.heap.push (set0 (!(w.params.followText "set-order"))) } (.ref s.heap.objs.size) "set" := ⟨set0 (!(w.params.followText "set-order")), Heap.get?_push_size _ rfl, rfl⟩
    have m7 := PySem.F.called_set.init.lookup; have m8 := PySem.F.called_set.init.bind (.ref s.heap.objs.size)
    repeat (any_goals (first | assumption | wp_step))
    refine codeAny_mono (codeAny_call_builtin (R := wants (fun r s2 => r = .none ∧ Q (.ref s.heap.objs.size) s2) E) PySem.F.called_set.init.plain PySem.F.entry_set_init (check_set_init_1 hT ?_)) fun r2 s2 hr2 => ?_
    · refine wpAny_mono h (fun fin s' hf => ?_) fun _ _ h' => h'
      obtain ⟨rfl, hq⟩ := hf
      exact ⟨rfl, hq⟩
    · match r2, hr2 with
      | .error e, hr2 => exact hr2
      | .ok (.ret v), hr2 =>
        obtain ⟨rfl, hq⟩ := hr2
        repeat (any_goals (first | assumption | wp_step))
      | .ok .next, hr2 => exact hr2.elim
      | .ok .brk, hr2 => exact hr2.elim
      | .ok .cont, hr2 => exact hr2.elim
  | .ok .next, hr => exact hr.elim
  | .ok .brk, hr => exact hr.elim
  | .ok .cont, hr => exact hr.elim
end
theorem slot_si_next : Slot "set_iterator" "__next__" "set_iterator.__next__" :=
  .of (owner := "set_iterator") (n := "__next__") (by rw [typeLookup_type, builtinLookup_eq_fast]; kernel_rfl) (by decide +kernel) (by decide +kernel) (by decide +kernel)
    (by first | exact .inl (by decide +kernel) | exact .inr (by decide +kernel)) (by rw [isSubtype_type]; kernel_rfl)
theorem entry_si_next : entryFor table "set_iterator.__next__" = some Builtin.«set_iterator.__next__» := entryFor_of_tree (by kernel_rfl)
theorem args_si_next (a : Value) : argsOk "set_iterator.__next__" ⟨[a], []⟩ := by unfold argsOk; kernel_rfl
theorem entry_set_iter : entryFor table "set.__iter__" = some Builtin.«frozenset.__iter__» := entryFor_alias (id' := "frozenset.__iter__") (by kernel_rfl) rfl (by decide +kernel) (by kernel_rfl)
section
variable {prog : Program} {w : World} {A : Around} {E : Value → Shared → Prop} {s : Shared} {a I T : Addr}
theorem wpAny_chosen {M : Model} {src : Source} {n : Nat} {Q : Nat → Shared → Prop} (hn : n ≠ 0) (h : ∀ i d, i < n → Q i { s with drawn := d }) : wpAny M A (choose src n) Q E s := fun Γ p _ => by
  unfold choose
  rw [Sem.wp_choose]
  exact ⟨hn, by rw [Sem.wp_pure]; exact h _ _ (Nat.mod_lt _ (Nat.pos_of_ne_zero hn))⟩
theorem draw_perm {M : Model} {α : Type} : ∀ (n : Nat) (xs : List α) (s : Shared) (Q : List α → Shared → Prop), xs.length ≤ n → (∀ ys d, ys.Perm xs → Q ys { s with drawn := d }) → wpAny M A (drawOrder n xs) Q E s
  | 0, xs, s, Q, hl, h => by
    obtain rfl : xs = [] := List.length_eq_zero_iff.mp (Nat.le_zero.mp hl)
    unfold drawOrder
    exact wpAny_pure (h [] s.drawn (List.Perm.refl _))
  | n + 1, [], s, Q, _, h => by
    unfold drawOrder
    exact wpAny_pure (h [] s.drawn (List.Perm.refl _))
  | n + 1, x :: r, s, Q, hl, h => by
    unfold drawOrder
    refine wpAny_bind (wpAny_chosen (by simp) fun i d hi => ?_)
    rw [List.getElem?_eq_getElem hi]
    dsimp only
    refine wpAny_bind (draw_perm n _ _ _ (by rw [List.length_eraseIdx_of_lt hi]; simp at hl ⊢; omega) fun ys d' p => wpAny_pure ?_)
    refine h _ d' ?_
    refine (p.cons _).trans ?_
    rw [List.eraseIdx_eq_take_drop_succ]
    have e : x :: r = (x :: r).take i ++ (x :: r)[i] :: (x :: r).drop (i + 1) := by
      conv => lhs; rw [← List.take_append_drop i (x :: r), List.drop_eq_getElem_cons hi]
    have p2 := (List.perm_middle (a := (x :: r)[i]) (l₁ := (x :: r).take i) (l₂ := (x :: r).drop (i + 1))).symm
    rw [← e] at p2
    exact p2
/-- the iterator -/
abbrev siObj (first : Value) (i : Nat) (a : Addr) (n ep : Nat) : Obj := { cls := .type "set_iterator", data := .fields #[first, .int i 0, .ref a, .int n 0, .int ep 0] }
/-- in which order it goes -/
inductive Mode (w : World) (h : Heap) (a T : Addr) (es : Array (Int × Value)) (ep : Nat) (t : SetTable) (i : Nat) : Value → List Value → Prop
  | text : w.params.followText "set-order" = true → Mode w h a T es ep t i (.int 0 0) ((pickOrder (w.params.setOrder a ep) es).toList.map (·.2))
  | drawn {ps : List Nat} {n' : Nat} : h.get? T = some { cls := .type "tuple", data := .seq (ps.map fun p : Nat => (.int p 0 : Value)).toArray n' } → ps.Perm (List.range es.size) → Mode w h a T es ep t i (.ref T) (ps.map fun p => (es.getD p (0, .none)).2)
  | place {slot : Nat} : w.params.followText "set-order" = false → (t.plain = true ∨ es.size ≤ 1) → SetTable.below t.place slot = i → Mode w h a T es ep t i (.int slot 0) (es.toList.map (·.2))
def SiAt (w : World) (h : Heap) (I a T : Addr) (es : Array (Int × Value)) (ord : List Value) (i : Nat) : Prop :=
  ∃ o ep t first, h.get? a = some o ∧ o.ExactSet ∧ o.data = .set es ep t ∧ TabG w es t ∧ h.get? I = some (siObj first i a es.size ep) ∧ Mode w h a T es ep t i first ord
theorem Mode.perm {h : Heap} {es : Array (Int × Value)} {ep : Nat} {t : SetTable} {i : Nat} {first : Value} {ord : List Value} (m : Mode w h a T es ep t i first ord) : ord.Perm (es.toList.map (·.2)) := by
  cases m with
  | text _ => exact (pick_perm _ es).map _
  | @drawn ps _ _ p =>
    refine (p.map _).trans (List.Perm.of_eq ?_)
    apply List.ext_getElem
    · simp
    · intro j h1 h2
      simp at h1 h2
      simp [h1]
  | place _ _ _ => exact List.Perm.refl _
theorem below_zero {xs : Array Nat} (hs : xs.toList.Pairwise (· < ·)) : SetTable.below xs 0 = 0 := by
  obtain ⟨b1, b2, b3⟩ := below_ok hs 0
  rcases Nat.eq_zero_or_pos (SetTable.below xs 0) with z | z
  · exact z
  · exact absurd (b2 0 (by omega) z) (Nat.not_lt_zero _)
theorem below_next {xs : Array Nat} (hs : xs.toList.Pairwise (· < ·)) {i : Nat} (hi : i < xs.size) : SetTable.below xs (xs[i] + 1) = i + 1 := by
  obtain ⟨b1, b2, b3⟩ := below_ok hs (xs[i] + 1)
  have mono : ∀ j k (hj : j < xs.size) (hk : k < xs.size), j < k → xs[j] < xs[k] := fun j k hj hk hjk => by
    have := (List.pairwise_iff_getElem.mp hs) j k (by simpa using hj) (by simpa using hk) hjk
    simpa using this
  rcases Nat.lt_trichotomy (SetTable.below xs (xs[i] + 1)) (i + 1) with z | z | z
  · have := b3 i hi (by omega)
    omega
  · exact z
  · have h1 : i + 1 < xs.size := by omega
    have := b2 (i + 1) h1 z
    have := mono i (i + 1) hi h1 (Nat.lt_succ_self i)
    omega
theorem iter_l {es : Array (Int × Value)} {Q : Value → Shared → Prop} (hS : AtG w s.heap a es) (hz : es.size ≤ sizeLine)
    (h : ∀ (h' : Heap) (d : Drawn) (I T : Addr) (ord : List Value), SiAt w h' I a T es ord 0 → ord.Perm (es.toList.map (·.2)) → s.heap.objs.size ≤ I → I < h'.objs.size → a ≠ I → T ≠ I → (T = a ∨ s.heap.objs.size ≤ T) → (∀ b o, s.heap.get? b = some o → h'.get? b = some o) → Q (.ref I) { s with heap := h', drawn := d }) :
    wpAny (model prog w) A (pyIter (.ref a)) Q E s := by
  obtain ⟨o, ep, t, ho, hx, hd, TB⟩ := hS
  have hT : s.TypeIs (.ref a) "set" := ⟨o, ho, hx.1⟩
  have alt := Heap.lt_size ho
  refine wpAny_pyIter_slot hT PySem.F.slot_set_iter (wpAny_call_entry PySem.F.slot_set_iter hT entry_set_iter ?_ (PySem.F.args_set_iter_1 _))
  have start : ∀ (h' : Heap) (d : Drawn) (T : Addr) (first : Value) (ord : List Value), (∀ b o, s.heap.get? b = some o → h'.get? b = some o) → s.heap.objs.size ≤ h'.objs.size → T < h'.objs.size → (T = a ∨ s.heap.objs.size ≤ T) → (∀ h'', (∀ b o, h'.get? b = some o → h''.get? b = some o) → Mode w h'' a T es ep t 0 first ord) →
      wpAny (model prog w) A.in1 (do ret (← newFields "set_iterator" [first, rawInt 0, .ref a, rawInt es.size, rawInt (← setEpoch a)])) (fun f s' => ∃ v, f = .done (.ret v) ∧ ∃ T' r, s'.TypeIs v T' ∧ typeLookup (.type T') "__next__" = pure (some r) ∧ Q v s') E { s with heap := h', drawn := d } := fun h' d T first ord kp hsz hTl hTc md => by
    refine wpAny_bind (wpAny_setEpoch_of (s := { s with heap := h', drawn := d }) (kp a o ho) hd TB.fit ?_)
    refine wpAny_bind (wpAny_newObj_type (wpAny_pure ⟨_, rfl, "set_iterator", _, ⟨_, Heap.get?_push_size _ rfl, rfl⟩, slot_si_next.lookup, ?_⟩))
    have kp2 : ∀ b o', h'.get? b = some o' → (h'.push (siObj first 0 a es.size ep)).get? b = some o' := fun b o' e => Heap.get?_push_of_some _ e
    have z2 : (h'.push (siObj first 0 a es.size ep)).objs.size = h'.objs.size + 1 := Heap.size_push ..
    refine h _ d h'.objs.size T ord ⟨o, ep, t, first, kp2 _ _ (kp a o ho), hx, hd, TB, Heap.get?_push_size _ rfl, md _ kp2⟩ (md _ kp2).perm hsz (Nat.lt_of_lt_of_eq (Nat.lt_succ_self _) z2.symm) (Nat.ne_of_lt (Nat.lt_of_lt_of_le alt hsz)) (Nat.ne_of_lt hTl) hTc fun b o' e => kp2 b o' (kp b o' e)
  refine wpAny_bind (m := Builtin.Frozenset.slot0 "__iter__" ⟨[.ref a], []⟩) ?_
  unfold Builtin.Frozenset.slot0 slotArgs
  refine wpAny_bind (wpAny_pure (wpAny_pure ?_))
  refine wpAny_bind (m := Builtin.Frozenset.sizeOf a) (wpAny_bind (wpAny_setEntries_of ho hd TB.fit (wpAny_pure ?_)))
  refine wpAny_bind (m := setDrawn a) ?_
  unfold setDrawn setsByText
  refine wpAny_bind (wpAny_setState_of ho hd TB.fit ?_)
  dsimp only
  refine wpAny_bind (wpAny_bind (wpAny_askSetting (wpAny_pure (wpAny_pure ?_))))
  show wpAny _ _ (if (!(w.params.followText "set-order") && (!t.plain && decide (es.size > 1))) = true then _ else _) _ _ _
  by_cases c : (!(w.params.followText "set-order") && (!t.plain && decide (es.size > 1))) = true
  · rw [if_pos c]
    refine wpAny_bind (draw_perm _ _ _ _ (by simp) fun ps d p => ?_)
    have pl : ps.length ≤ sizeLine := by
      rw [p.length_eq, List.length_range]
      exact hz
    refine wpAny_bind (wpAny_newTuple ?_ (by rw [List.length_map]; exact pl))
    refine start _ d s.heap.objs.size _ _ (fun b o' e => Heap.get?_push_of_some _ e) ?_ ?_ (.inr (Nat.le_refl _)) fun h'' k => .drawn (k _ _ (Heap.get?_push_size _ rfl)) p
    · rw [Heap.size_push]
      exact Nat.le_succ _
    · rw [Heap.size_push]
      exact Nat.lt_succ_self _
  · rw [if_neg c]
    refine wpAny_bind (wpAny_pure ?_)
    by_cases c1 : w.params.followText "set-order" = true
    · exact start s.heap s.drawn a _ _ (fun _ _ e => e) (Nat.le_refl _) alt (.inl rfl) fun h'' _ => .text c1
    · refine start s.heap s.drawn a _ _ (fun _ _ e => e) (Nat.le_refl _) alt (.inl rfl) fun h'' _ => .place (slot := 0) (by simpa using c1) ?_ (below_zero TB.rz.up)
      rw [Bool.not_eq_true] at c1
      rw [c1] at c
      by_cases c2 : t.plain = true
      · exact .inl c2
      · rw [Bool.not_eq_true] at c2
        rw [c2] at c
        simp at c
        exact .inr c
theorem setWalk_text {es : Array (Int × Value)} {o : Obj} {ep : Nat} {t : SetTable} {Q : Array (Int × Value) → Shared → Prop} (ho : s.heap.get? a = some o) (hd : o.data = .set es ep t) (hf : t.fits es.size = true) (c : w.params.followText "set-order" = true) (h : Q (pickOrder (w.params.setOrder a ep) es) s) : wpAny (model prog w) A (setWalk a) Q E s := by
  unfold setWalk setsByText
  refine wpAny_bind (wpAny_setState_of ho hd hf ?_)
  dsimp only
  refine wpAny_bind (wpAny_bind (wpAny_askSetting (wpAny_pure ?_)))
  rw [if_pos (show (model prog w).w.params.followText "set-order" = true from c)]
  exact wpAny_bind (wpAny_askSetting (wpAny_pure h))
/-- by its text -/
theorem setNext_text {es : Array (Int × Value)} {o : Obj} {ep slot i : Nat} {t : SetTable} {Q : Option (Value × Nat) → Shared → Prop} (ho : s.heap.get? a = some o) (hd : o.data = .set es ep t) (hf : t.fits es.size = true) (c : w.params.followText "set-order" = true)
    (h : Q (((pickOrder (w.params.setOrder a ep) es)[i]?).map fun e => (e.2, slot)) s) : wpAny (model prog w) A (setNext a slot i ep) Q E s := by
  unfold setNext setsByText
  refine wpAny_bind (wpAny_setState_of ho hd hf ?_)
  dsimp only
  refine wpAny_bind (wpAny_bind (wpAny_askSetting (wpAny_pure ?_)))
  rw [if_pos (show (model prog w).w.params.followText "set-order" = true from c)]
  rw [if_neg (by simp)]
  exact wpAny_bind (setWalk_text ho hd hf c (wpAny_pure h))
/-- by rising places -/
theorem setNext_place {es : Array (Int × Value)} {o : Obj} {ep slot i : Nat} {t : SetTable} {Q : Option (Value × Nat) → Shared → Prop} (ho : s.heap.get? a = some o) (hd : o.data = .set es ep t) (TB : TabG w es t) (c : w.params.followText "set-order" = false) (cp : t.plain = true ∨ es.size ≤ 1)
    (h : Q (match es[SetTable.below t.place slot]?, t.place[SetTable.below t.place slot]? with | some (_, x), some j => some (x, j + 1) | _, _ => none) s) : wpAny (model prog w) A (setNext a slot i ep) Q E s := by
  unfold setNext setsByText
  refine wpAny_bind (wpAny_setState_of ho hd TB.fit ?_)
  dsimp only
  refine wpAny_bind (wpAny_bind (wpAny_askSetting (wpAny_pure ?_)))
  rw [if_neg (show ¬ (model prog w).w.params.followText "set-order" = true from fun z => by rw [show (model prog w).w.params.followText "set-order" = false from c] at z; cases z)]
  have nd : (!t.plain && decide (es.size > 1)) = false := by
    rcases cp with z | z
    · rw [z]; rfl
    · rw [decide_eq_false (by omega)]; simp
  show wpAny _ _ (if (!t.plain && decide (es.size > 1)) = true then _ else _) _ _ _
  rw [if_neg (show ¬ (!t.plain && decide (es.size > 1)) = true from fun z => by rw [nd] at z; cases z)]
  have ld : (!t.led && !es.isEmpty) = false := by rw [TB.led, c]; rfl
  refine wpAny_bind (m := if (!t.led && !es.isEmpty) = true then unsupported "set:maker-not-led" else pure ()) ?_
  rw [if_neg (by rw [ld]; exact Bool.false_ne_true)]
  exact wpAny_pure (wpAny_pure h)
theorem setNext_drawn {es : Array (Int × Value)} {o : Obj} {ep p : Nat} {t : SetTable} {e : Int × Value} {Q : Value → Shared → Prop} (ho : s.heap.get? a = some o) (hd : o.data = .set es ep t) (hf : t.fits es.size = true) (he : es[p]? = some e) (h : Q e.2 s) : wpAny (model prog w) A (setNextDrawn a p ep) Q E s := by
  unfold setNextDrawn
  refine wpAny_bind (wpAny_setState_of ho hd hf ?_)
  dsimp only
  rw [if_neg (by simp), he]
  exact wpAny_pure h
theorem next_item {es : Array (Int × Value)} {ord : List Value} {i : Nat} {Q : Option Value → Shared → Prop} (X : SiAt w s.heap I a T es ord i) (hi : i < es.size) (na : a ≠ I) (nT : T ≠ I)
    (h : ∀ v h', ord[i]? = some v → SiAt w h' I a T es ord (i + 1) → Heap.SameBut I s.heap h' → Q (some v) { s with heap := h' }) : wpAny (model prog w) A (pyNext (.ref I)) Q E s := by
  obtain ⟨o, ep, t, first, ho, hx, hd, TB, hI, md⟩ := X
  have hT : s.TypeIs (.ref I) "set_iterator" := ⟨_, hI, rfl⟩
  unfold pyNext
  refine wpAny_bind (wpAny_attempt (wpAny_callSpecial?_slot (name := Str.ofString "__next__") hT slot_si_next (wpAny_call_entry slot_si_next hT entry_si_next ?_ (args_si_next _))))
  unfold Builtin.«set_iterator.__next__» slotArgs
  refine wpAny_bind (wpAny_pure ?_)
  refine wpAny_bind (wpAny_fieldsOf hI rfl ?_)
  dsimp only
  refine wpAny_bind (wpAny_setEntries_of ho hd TB.fit ?_)
  rw [if_neg (by simp)]
  have hpl : t.place.size = es.size := by
    have := TB.fit
    simp only [SetTable.fits, Bool.and_eq_true, beq_iff_eq] at this
    exact this.1
  have two : ∀ (f : Value) (next : Nat) (v : Value) (R : Fin → Shared → Prop) (E' : Value → Shared → Prop), ord[i]? = some v → first = f → (∀ h', Heap.SameBut I s.heap h' → Mode w h' a T es ep t (i + 1) (.int next 0) ord) → (∀ h', SiAt w h' I a T es ord (i + 1) → Heap.SameBut I s.heap h' → R (.done (.ret v)) { s with heap := h' }) →
      wpAny (model prog w) A.in1 (do setField (.ref I) 0 (rawInt next); setField (.ref I) 1 (rawInt ((i : Int) + 1)); ret v) R E' s := fun f next v R E' hv hf md' q => by
    have g1 : (s.heap.update I (Obj.mapFields (·.setIfInBounds 0 (rawInt next)))).get? I = some (siObj (.int next 0) i a es.size ep) := Heap.get?_update_self _ hI rfl
    refine wpAny_bind (wpAny_setField hI rfl (by simp) ?_)
    have g2 : ((s.heap.update I (Obj.mapFields (·.setIfInBounds 0 (rawInt next)))).update I (Obj.mapFields (·.setIfInBounds 1 (rawInt ((i : Int) + 1))))).get? I = some (siObj (.int next 0) (i + 1) a es.size ep) := Heap.get?_update_self _ g1 rfl
    refine wpAny_bind (wpAny_setField g1 rfl (by simp) (wpAny_pure ?_))
    have sb := (Heap.SameBut.update s.heap I (Obj.mapFields (·.setIfInBounds 0 (rawInt next)))).trans (Heap.SameBut.update _ I (Obj.mapFields (·.setIfInBounds 1 (rawInt ((i : Int) + 1)))))
    exact q _ ⟨o, ep, t, _, (sb.2 a na).trans ho, hx, hd, TB, g2, md' _ sb⟩ sb
  have fin : ∀ v h', ord[i]? = some v → SiAt w h' I a T es ord (i + 1) → Heap.SameBut I s.heap h' → ∃ v', (Fin.done (.ret v) = .done (.ret v')) ∧ wpAny (model prog w) A (pure (some v')) Q E { s with heap := h' } := fun v h' hv X sb => ⟨v, rfl, wpAny_pure (h v h' hv X sb)⟩
  cases md with
  | text c =>
    have hl : i < (pickOrder (w.params.setOrder a ep) es).size := by
      have := (pick_perm (w.params.setOrder a ep) es).length_eq
      rw [Array.length_toList, Array.length_toList] at this
      omega
    show wpAny _ _ (setNext a (Int.toNat ((0 : Nat) : Int)) (Int.toNat ((i : Nat) : Int)) (Int.toNat ((ep : Nat) : Int)) >>= _) _ _ _
    rw [Int.toNat_natCast, Int.toNat_natCast, Int.toNat_natCast]
    refine wpAny_bind (setNext_text ho hd TB.fit c ?_)
    rw [Array.getElem?_eq_getElem hl]
    have hv : ((pickOrder (w.params.setOrder a ep) es).toList.map (·.2))[i]? = some (pickOrder (w.params.setOrder a ep) es)[i].2 := by
      rw [List.getElem?_map, Array.getElem?_toList, Array.getElem?_eq_getElem hl]
      rfl
    exact two (.int 0 0) 0 _ (fun fin s' => ∃ v', fin = .done (.ret v') ∧ wpAny (model prog w) A (pure (some v')) Q E s') _ hv rfl (fun h' _ => .text c) fun h' X sb => fin _ h' hv X sb
  | @drawn ps n' hTt p =>
    have hl : i < ps.length := by rw [p.length_eq, List.length_range]; exact hi
    have hp : ps[i] < es.size := List.mem_range.mp (p.mem_iff.mp (List.getElem_mem hl))
    have hv : (ps.map fun p => (es.getD p (0, .none)).2)[i]? = some es[ps[i]].2 := by
      rw [List.getElem?_map, List.getElem?_eq_getElem hl]
      simp [hp]
    show wpAny _ _ (seqItems? (.ref T) >>= _) _ _ _
    refine wpAny_bind (wpAny_seqItems hTt rfl ?_)
    have hi' : (ps.map fun p : Nat => (.int p 0 : Value)).toArray[Int.toNat ((i : Nat) : Int)]? = some (.int (ps[i] : Nat) 0) := by
      rw [Int.toNat_natCast]
      simp [hl]
    dsimp only
    rw [hi']
    show wpAny _ _ (setNextDrawn a (Int.toNat ((ps[i] : Nat) : Int)) (Int.toNat ((ep : Nat) : Int)) >>= _) _ _ _
    rw [Int.toNat_natCast, Int.toNat_natCast]
    refine wpAny_bind (setNext_drawn ho hd TB.fit (Array.getElem?_eq_getElem hp) ?_)
    have g2 : (s.heap.update I (Obj.mapFields (·.setIfInBounds 1 (rawInt ((i : Int) + 1))))).get? I = some (siObj (.ref T) (i + 1) a es.size ep) := Heap.get?_update_self _ hI rfl
    refine wpAny_bind (wpAny_setField hI rfl (by simp) (wpAny_pure ?_))
    have sb := Heap.SameBut.update s.heap I (Obj.mapFields (·.setIfInBounds 1 (rawInt ((i : Int) + 1))))
    exact fin _ _ hv ⟨o, ep, t, _, (sb.2 a na).trans ho, hx, hd, TB, g2, .drawn ((sb.2 T nT).trans hTt) p⟩ sb
  | @place slot c cp hb =>
    have hip : i < t.place.size := by omega
    show wpAny _ _ (setNext a (Int.toNat ((slot : Nat) : Int)) (Int.toNat ((i : Nat) : Int)) (Int.toNat ((ep : Nat) : Int)) >>= _) _ _ _
    rw [Int.toNat_natCast, Int.toNat_natCast, Int.toNat_natCast]
    refine wpAny_bind (setNext_place ho hd TB c cp ?_)
    rw [hb, Array.getElem?_eq_getElem hi, Array.getElem?_eq_getElem hip]
    have hv : (es.toList.map (·.2))[i]? = some es[i].2 := by
      rw [List.getElem?_map, Array.getElem?_toList, Array.getElem?_eq_getElem hi]
      rfl
    exact two (.int slot 0) (t.place[i] + 1) _ (fun fin s' => ∃ v', fin = .done (.ret v') ∧ wpAny (model prog w) A (pure (some v')) Q E s') _ hv rfl (fun h' _ => .place c cp (below_next TB.rz.up hip)) fun h' X sb => fin _ h' hv X sb
/-- the end of the walk -/
theorem next_end {es : Array (Int × Value)} {ord : List Value} {Q : Option Value → Shared → Prop} (hh : A.handled = none) (X : SiAt w s.heap I a T es ord es.size)
    (h : ∀ h', Heap.ExtBut I s.heap h' → Q none { s with heap := h' }) : wpAny (model prog w) A (pyNext (.ref I)) Q E s := by
  obtain ⟨o, ep, t, first, ho, hx, hd, TB, hI, md⟩ := X
  have hT : s.TypeIs (.ref I) "set_iterator" := ⟨_, hI, rfl⟩
  unfold pyNext
  refine wpAny_bind (wpAny_attempt (wpAny_callSpecial?_slot (name := Str.ofString "__next__") hT slot_si_next (wpAny_call_entry slot_si_next hT entry_si_next ?_ (args_si_next _))))
  unfold Builtin.«set_iterator.__next__» slotArgs
  refine wpAny_bind (wpAny_pure ?_)
  refine wpAny_bind (wpAny_fieldsOf hI rfl ?_)
  dsimp only
  refine wpAny_bind (wpAny_setEntries_of ho hd TB.fit ?_)
  rw [if_neg (by simp)]
  have hpl : t.place.size = es.size := by
    have := TB.fit
    simp only [SetTable.fits, Bool.and_eq_true, beq_iff_eq] at this
    exact this.1
  /- the iterator lets go of the set and ends -/
  have stop : ∀ (s1 : Shared) (f0 : Value), s1.heap.get? I = some (siObj f0 es.size a es.size ep) → (∀ h', Heap.ExtBut I s1.heap h' → Q none { s1 with heap := h' }) →
      wpAny (model prog w) A.in1 (do setField (.ref I) 2 .none; raiseNew (← newExc (.type "StopIteration") []) : Sem Fin) (fun f s' => ∃ v, f = .done (.ret v) ∧ wpAny (model prog w) A (pure (some v)) Q E s') (fun e s' => wpAny (model prog w) A (do if ← isInstance e (.type "StopIteration") then pure none else throw e) Q E s') s1 := fun s1 f0 g q => by
    refine wpAny_bind (wpAny_setField g rfl (by simp) ?_)
    refine wpAny_bind (m := newExc (.type "StopIteration") []) ?_
    simp only [newExc, newTuple]
    refine wpAny_bind (wpAny_newObj_type ?_ (by size_fits))
    refine wpAny_bind (m := firstArgMember _ _) (wpAny_of_eq (a := Value.none) (by first | rfl | (simp only [firstArgMember]; rfl)) ?_)
    refine wpAny_newObj_type ?_ (by size_fits)
    simp only [raiseNew]
    refine wpAny_bind (wpAny_handled ?_)
    first | rw [show A.in1.handled = none from hh] | rw [hh]
    refine wpAny_bind (wpAny_pure (wpAny_throw ?_))
    refine wpAny_bind (wpAny_isInstance (T := "StopIteration") (b := true) ⟨_, Heap.get?_push_size _ rfl, rfl⟩ isSubtype_stop ?_)
    exact wpAny_pure (q _ (((Heap.SameBut.update ..).extBut.push _).push _))
  cases md with
  | text c =>
    have hl : (pickOrder (w.params.setOrder a ep) es).size = es.size := by
      have := (pick_perm (w.params.setOrder a ep) es).length_eq
      rwa [Array.length_toList, Array.length_toList] at this
    show wpAny _ _ (setNext a (Int.toNat ((0 : Nat) : Int)) (Int.toNat ((es.size : Nat) : Int)) (Int.toNat ((ep : Nat) : Int)) >>= _) _ _ _
    rw [Int.toNat_natCast, Int.toNat_natCast, Int.toNat_natCast]
    refine wpAny_bind (setNext_text ho hd TB.fit c ?_)
    rw [Array.getElem?_eq_none (by omega)]
    exact stop s _ hI h
  | @drawn ps n' hTt p =>
    have hl : ps.length = es.size := by rw [p.length_eq, List.length_range]
    show wpAny _ _ (seqItems? (.ref T) >>= _) _ _ _
    refine wpAny_bind (wpAny_seqItems hTt rfl ?_)
    have hi' : (ps.map fun p : Nat => (.int p 0 : Value)).toArray[Int.toNat ((es.size : Nat) : Int)]? = none := by
      rw [Int.toNat_natCast]
      simp [hl]
    dsimp only
    rw [hi']
    have g1 : (s.heap.update I (Obj.mapFields (·.setIfInBounds 0 (rawInt 0)))).get? I = some (siObj (.int 0 0) es.size a es.size ep) := Heap.get?_update_self _ hI rfl
    refine wpAny_bind (wpAny_setField hI rfl (by simp) ?_)
    exact stop { s with heap := s.heap.update I (Obj.mapFields (·.setIfInBounds 0 (rawInt 0))) } _ g1 fun h' x => h h' fun b o hb e => x b o hb (((Heap.SameBut.update s.heap I _).2 b hb).trans e)
  | @place slot c cp hb =>
    show wpAny _ _ (setNext a (Int.toNat ((slot : Nat) : Int)) (Int.toNat ((es.size : Nat) : Int)) (Int.toNat ((ep : Nat) : Int)) >>= _) _ _ _
    rw [Int.toNat_natCast, Int.toNat_natCast, Int.toNat_natCast]
    refine wpAny_bind (setNext_place ho hd TB c cp ?_)
    rw [hb, Array.getElem?_eq_none (Nat.le_refl _)]
    exact stop s _ hI h
theorem slot_si_iter : Slot "set_iterator" "__iter__" "set_iterator.__iter__" :=
  .of (owner := "set_iterator") (n := "__iter__") (by rw [typeLookup_type, builtinLookup_eq_fast]; kernel_rfl) (by decide +kernel) (by decide +kernel) (by decide +kernel)
    (by first | exact .inl (by decide +kernel) | exact .inr (by decide +kernel)) (by rw [isSubtype_type]; kernel_rfl)
theorem entry_si_iter : entryFor table "set_iterator.__iter__" = some Builtin.«dict_keyiterator.__iter__» := entryFor_alias (id' := "dict_keyiterator.__iter__") (by kernel_rfl) rfl (by decide +kernel) (by kernel_rfl)
theorem args_si_iter (a : Value) : argsOk "set_iterator.__iter__" ⟨[a], []⟩ := by unfold argsOk; kernel_rfl
theorem Mode.stay {h h' : Heap} {es : Array (Int × Value)} {ep : Nat} {t : SetTable} {i : Nat} {first : Value} {ord : List Value} (m : Mode w h a T es ep t i first ord) (k : ∀ o, h.get? T = some o → h'.get? T = some o) : Mode w h' a T es ep t i first ord := by
  cases m with
  | text c => exact .text c
  | drawn e p => exact .drawn (k _ e) p
  | place c cp hb => exact .place c cp hb
theorem walk_l {es : Array (Int × Value)} {ord : List Value} (hh : A.handled = none) (na : a ≠ I) (nT : T ≠ I) : Walks prog w A I [I, a, T] [I] es.size (fun i v => ord[i]? = some v) (fun i h => SiAt w h I a T es ord i) where
  sub := fun b hb => by rw [List.mem_singleton.mp hb]; simp
  frame := fun i h h' X k => by
    obtain ⟨o, ep, t, first, ho, hx, hd, TB, hI, md⟩ := X
    exact ⟨o, ep, t, first, k a (by simp) o ho, hx, hd, TB, k I (by simp) _ hI, md.stay fun o e => k T (by simp) o e⟩
  item := fun i s Q E hi X q => next_item X hi na nT fun v h' hv X' sb => q v h' s.toks hv X' fun b o hb e => (sb.2 b fun z => hb (by simp [z])).trans e
  done := fun s Q E X q => next_end hh X fun h' x => q h' s.toks fun b o hb e => x b o (fun z => hb (by simp [z])) e
  self := fun i s Q E X q => by
    obtain ⟨o, ep, t, first, ho, hx, hd, TB, hI, md⟩ := X
    have hT : s.TypeIs (.ref I) "set_iterator" := ⟨_, hI, rfl⟩
    refine wpAny_pyIter_slot hT slot_si_iter (wpAny_call_entry slot_si_iter hT entry_si_iter ?_ (args_si_iter _))
    show wpAny _ _ (ret (.ref I)) _ _ s
    exact wpAny_pure ⟨_, rfl, "set_iterator", _, hT, slot_si_next.lookup, q⟩
/-- what a set leaves in a list -/
theorem collect_l {es : Array (Int × Value)} {Q : List Value → Shared → Prop} (hh : A.handled = none) (hS : AtG w s.heap a es) (hz : es.size ≤ sizeLine)
    (h : ∀ (h' : Heap) (d : Drawn) (tk : Nat) (vs : List Value), vs.Perm (es.toList.map (·.2)) → s.heap.objs.size < h'.objs.size → (∀ b o, s.heap.get? b = some o → h'.get? b = some o) → Q vs { s with heap := h', drawn := d, toks := tk }) :
    wpAny (model prog w) A (collect (.ref a)) Q E s := by
  have alt : a < s.heap.objs.size := by
    obtain ⟨o, _, _, ho, _⟩ := hS
    exact Heap.lt_size ho
  have hT : ∀ h', (∀ b o, s.heap.get? b = some o → h'.get? b = some o) → ∀ d tk, Shared.TypeIs { s with heap := h', drawn := d, toks := tk } (.ref a) "set" := fun h' k d tk => by
    obtain ⟨o, _, _, ho, hx, _⟩ := hS
    exact ⟨o, k a o ho, hx.1⟩
  unfold collect
  refine wpAny_bind (wpAny_runValue (codeAny_builtin PySem.F.entry_proto_collect ?_))
  rw [Around.under_plainId PySem.F.plain_proto_collect _]
  refine wpAny_bind (m := newList []) (wpAny_newList (wpAny_pure ⟨plainId_quiet PySem.F.plain_list_iadd _, codeAny_builtin entry_list_iadd' ?_⟩))
  rw [Around.under_plainId PySem.F.plain_list_iadd _]
  have k1 : ∀ b o, s.heap.get? b = some o → (s.heap.push { cls := .type "list", data := .seq ([] : List Value).toArray }).get? b = some o := fun b o e => Heap.get?_push_of_some _ e
  have g1 : (s.heap.push { cls := .type "list", data := .seq ([] : List Value).toArray }).get? s.heap.objs.size = some { cls := .type "list", data := .seq ([] : List Value).toArray } := Heap.get?_push_size _ rfl
  have z1 : (s.heap.push { cls := .type "list", data := .seq ([] : List Value).toArray }).objs.size = s.heap.objs.size + 1 := Heap.size_push ..
  show wpAny _ A.in1 (Builtin.List.listExtendWith (.ref s.heap.objs.size) (.ref a) (.ref s.heap.objs.size)) _ _ _
  generalize s.heap.push { cls := .type "list", data := .seq ([] : List Value).toArray } = h1 at k1 g1 z1 ⊢
  unfold Builtin.List.listExtendWith
  refine wpAny_bind (wpAny_typeOf (hT h1 k1 _ _) ?_)
  have nS : s.heap.objs.size ≠ a := Nat.ne_of_gt alt
  have e1 : Builtin.List.listSameRef (.ref s.heap.objs.size) (.ref a) = false := by simp [Builtin.List.listSameRef, nS]
  rw [e1, if_neg (by decide)]
  refine wpAny_bind (iter_l (s := { s with heap := h1 }) (hS.stay (k1 a)) hz fun h2 d I T ord X po lI lI2 na nT lT k2 => ?_)
  have k12 : ∀ b o, s.heap.get? b = some o → h2.get? b = some o := fun b o e => k2 b o (k1 b o e)
  refine wpAny_bind (wpAny_holding ?_)
  unfold Builtin.List.listLengthHint
  refine wpAny_bind (wpAny_specialOf (hT h2 k12 _ _) PySem.F.slot_set_len.lookup ?_)
  have hsp : splitId "set.__len__" = some ("set", "__len__") := by kernel_rfl
  dsimp only
  rw [hsp]
  dsimp only
  refine wpAny_bind (wpAny_isInstance (hT h2 k12 _ _) sub_set_self ?_)
  rw [if_neg (by decide)]
  rw [if_pos (by decide +kernel)]
  refine wpAny_bind (wpAny_typeOf (hT h2 k12 _ _) ?_)
  refine wpAny_pure ?_
  rw [if_pos (by decide +kernel)]
  refine wpAny_bind (wpAny_rule ?_)
  have g2 := k2 _ _ g1
  refine wpAny_bind (m := Builtin.List.listTouch (.ref s.heap.objs.size)) ?_
  show wpAny _ A.in1 (updateSeq s.heap.objs.size (·.push .none) >>= fun _ => updateSeq s.heap.objs.size (·.pop)) _ _ _
  refine wpAny_bind (wpAny_updateSeq g2 rfl ?_)
  have g3 := Heap.get?_update_self (Obj.mapSeq (·.push Value.none)) g2 rfl
  refine wpAny_updateSeq g3 rfl ?_
  have g4 := Heap.get?_update_self (Obj.mapSeq (·.pop)) g3 rfl
  have sb := (Heap.SameBut.update h2 s.heap.objs.size (Obj.mapSeq (·.push Value.none))).trans (Heap.SameBut.update _ s.heap.objs.size (Obj.mapSeq (·.pop)))
  have lS : s.heap.objs.size < I := by
    have lI : h1.objs.size ≤ I := lI
    omega
  have nST : s.heap.objs.size ≠ T := fun z => by
    rcases lT with lT | lT
    · exact nS (z.trans lT)
    · have lT : h1.objs.size ≤ T := lT
      omega
  have X4 := (walk_l (prog := prog) (w := w) (A := A.in1) (a := a) (T := T) (es := es) (ord := ord) hh na nT).frame 0 h2 _ X fun b hb o e => (sb.2 b fun z => by
    subst z
    simp only [List.mem_cons, List.not_mem_nil, or_false] at hb
    rcases hb with hb | hb | hb
    · exact Nat.ne_of_lt lS hb
    · exact nS hb
    · exact nST hb).trans e
  have nf : s.heap.objs.size ∉ [I, a, T] := fun hb => by
    simp only [List.mem_cons, List.not_mem_nil, or_false] at hb
    rcases hb with hb | hb | hb
    · exact Nat.ne_of_lt lS hb
    · exact nS hb
    · exact nST hb
  refine wpAny_pure ⟨plainId_quiet PySem.F.plain_extend_loop _, codeAny_extend_loopS ((walk_l (prog := prog) (w := w) (a := a) (T := T) (es := es) (ord := ord) (by simp [hh]) na nT).toS) hz _ nf _ es.size 0 _ _ _ rfl (Nat.zero_le _) X4 g4 (ItemsOf.nil _) fun s' acc c hm hS' hacc => ?_⟩
  refine wpAny_bind (m := load s.heap.objs.size) (wpAny_load hS' ?_)
  have eo : acc.toList = ord := by
    have lo : ord.length = es.size := by rw [po.length_eq, List.length_map, Array.length_toList]
    obtain ⟨h5, h6⟩ := hacc
    apply List.ext_getElem?
    intro j
    by_cases hj : j < es.size
    · have hj' : j < acc.size := by omega
      rw [Array.getElem?_toList, Array.getElem?_eq_getElem hj']
      exact (h6 j _ (Array.getElem?_eq_getElem hj')).symm
    · rw [Array.getElem?_toList, Array.getElem?_eq_none (by omega), List.getElem?_eq_none (by omega)]
  obtain ⟨h', g', d', tk', os'⟩ := s'
  obtain rfl : g' = s.gens := hm.gens
  obtain rfl : d' = d := hm.drawn
  obtain rfl : os' = s.os := hm.os
  refine wpAny_pure ?_
  rw [eo]
  refine h h' d' tk' ord po (Heap.lt_size hS') fun b o e => hm.heap b o (fun z => ?_) ((sb.2 b fun z => ?_).trans (k12 b o e))
  · have lb := Heap.lt_size e
    rcases List.mem_cons.mp z with z | z
    · exact Nat.ne_of_lt lb z
    · exact Nat.ne_of_lt (Nat.lt_trans lb lS) (List.mem_singleton.mp z)
  · exact Nat.ne_of_lt (Heap.lt_size e) z
end
end L2
/-! EvTs: sets of tuples of numbers: a thing more, set(list), what lies in it, each once; len, sorted. Behind EvTg, EvTt, EvLex, EvDict. -/
namespace L2
open PySem PySem.Spec PyProof.Rows
/-- an entry: a row's hash, and where it is -/
def entT (P : Program) (w : World) (x : List Key × Addr) : Int × Value := (tupleKeyHash (mixKind P w) x.1, .ref x.2)
structure TabT (P : Program) (w : World) (xs : List (List Key × Addr)) (es : Array (Int × Value)) (t : SetTable) : Prop where
  ents : es.toList = xs.map (entT P w)
  tab : TabR t (es.toList.map (·.1))
  led : t.led = !(w.params.followText "set-order")
  nf : xs.length * 5 < t.mask * 3
def SetT (P : Program) (w : World) (h : Heap) (a : Addr) (xs : List (List Key × Addr)) : Prop := ∃ o ep t es, h.get? a = some o ∧ o.ExactSet ∧ o.data = .set es ep t ∧ TabT P w xs es t
def KeysAt (P : Program) (w : World) (h : Heap) (xs : List (List Key × Addr)) : Prop := ∀ x ∈ xs, IsTupleKey (mixKind P w) h x.1 x.2
theorem SetT.stay {P : Program} {w : World} {h h' : Heap} {a : Addr} {xs : List (List Key × Addr)} (x : SetT P w h a xs) (k : ∀ o, h.get? a = some o → h'.get? a = some o) : SetT P w h' a xs := by
  obtain ⟨o, ep, t, es, ho, r⟩ := x
  exact ⟨o, ep, t, es, k o ho, r⟩
theorem TabR.fits {t : SetTable} {hs : List Int} (T : TabR t hs) : t.fits hs.length = true := by
  unfold SetTable.fits SetTable.fill
  rw [T.rz.no, T.len]
  have := T.room
  simp
  exact this
theorem TabT.size {P : Program} {w : World} {xs : List (List Key × Addr)} {es : Array (Int × Value)} {t : SetTable} (T : TabT P w xs es t) : es.size = xs.length := by
  have := congrArg List.length T.ents
  rw [Array.length_toList, List.length_map] at this
  exact this
theorem TabT.fit {P : Program} {w : World} {xs : List (List Key × Addr)} {es : Array (Int × Value)} {t : SetTable} (T : TabT P w xs es t) : t.fits es.size = true := by
  have := T.tab.fits
  rw [List.length_map, Array.length_toList] at this
  exact this
theorem TabT.g {P : Program} {w : World} {xs : List (List Key × Addr)} {es : Array (Int × Value)} {t : SetTable} (T : TabT P w xs es t) : TabG w es t := ⟨T.fit, T.tab.rz, T.led⟩
theorem TabT.at {P : Program} {w : World} {xs : List (List Key × Addr)} {es : Array (Int × Value)} {t : SetTable} (T : TabT P w xs es t) {i : Nat} (hi : i < t.place.size) : ∃ x, xs[i]? = some x ∧ es[i]? = some (entT P w x) := by
  have h1 := T.tab.len
  rw [List.length_map, Array.length_toList, T.size] at h1
  have hi' : i < xs.length := by omega
  refine ⟨xs[i], List.getElem?_eq_getElem hi', ?_⟩
  rw [← Array.getElem?_toList, T.ents, List.getElem?_map, List.getElem?_eq_getElem hi']
  rfl
section
variable {prog : Program} {w : World} {A : Around} {E : Value → Shared → Prop} {s : Shared} {a : Addr}
theorem not_class_stmt {k : List Key} {b : Addr} {n : Nat} {Q : Bool → Shared → Prop} (hk : IsTupleKey (mixKind prog w) s.heap k b) (h : Q false s) : wpAny (model prog w) A (ofAClassStatement (n + 1) (.ref b)) Q E s := by
  have hT := hk.typeIs
  obtain ⟨o, items, m, ho, _, hd, hi⟩ := hk
  unfold ofAClassStatement
  refine wpAny_bind (wpAny_typeOf hT ?_)
  dsimp only
  rw [if_pos (by decide)]
  refine wpAny_bind (wpAny_pure ?_)
  rw [if_neg (by decide)]
  refine wpAny_bind (wpAny_seqItems ho hd ?_)
  dsimp only
  refine wpAny_bind ?_
  rw [← Array.forIn_toList]
  refine wpAny_forIn_list _ (fun rest r s' => r.1 = none ∧ s' = s ∧ ∀ v ∈ rest, carriedByValue v = true) _ ?_ ?_ _ _ ⟨rfl, rfl, hi.byValue⟩
  · rintro v rest r s' ⟨hr, rfl, hall⟩
    have hv := hall v List.mem_cons_self
    have e : ofAClassStatement n v = pure false := by
      cases v with
      | ref x => simp [carriedByValue] at hv
      | _ => first | rfl | (unfold ofAClassStatement; rfl)
    rw [e]
    refine wpAny_bind (wpAny_pure ?_)
    rw [if_neg (by decide)]
    exact wpAny_pure ⟨rfl, rfl, fun u hu' => hall u (List.mem_cons_of_mem _ hu')⟩
  · rintro ⟨r1, r2⟩ s' ⟨hr, rfl, _⟩
    simp only at hr
    subst hr
    exact wpAny_pure h
theorem not_seen {k : List Key} {b : Addr} {vs : List Value} {Q : Bool → Shared → Prop} (hk : IsTupleKey (mixKind prog w) s.heap k b) (hv : ∀ v ∈ vs, ∃ k' b', v = .ref b' ∧ IsTupleKey (mixKind prog w) s.heap k' b') (h : Q false s) : wpAny (model prog w) A (searchCouldBeSeen (.ref b) vs) Q E s := by
  unfold searchCouldBeSeen
  refine wpAny_bind ?_
  refine wpAny_forIn_list _ (fun rest r s' => r.1 = none ∧ s' = s ∧ ∀ v ∈ rest, ∃ k' b', v = .ref b' ∧ IsTupleKey (mixKind prog w) s.heap k' b') _ ?_ ?_ _ _ ⟨rfl, rfl, hv⟩
  · rintro v rest r s' ⟨hr, rfl, hall⟩
    obtain ⟨k', b', rfl, hb⟩ := hall _ List.mem_cons_self
    have hrest := fun u hu' => hall u (List.mem_cons_of_mem _ hu')
    dsimp only
    by_cases c : ((b == b') || (carriedByValue (.ref b) && carriedByValue (.ref b'))) = true
    · rw [if_pos c]
      exact wpAny_pure ⟨rfl, rfl, hrest⟩
    · rw [if_neg c]
      refine wpAny_bind (wpAny_eqIsQuiet_tuple hk ?_)
      rw [if_neg (by decide)]
      refine wpAny_bind (wpAny_eqIsQuiet_tuple hb ?_)
      rw [if_neg (by decide)]
      refine wpAny_bind (not_class_stmt hk ?_)
      rw [if_neg (by decide)]
      refine wpAny_bind (not_class_stmt hb ?_)
      rw [if_neg (by decide)]
      exact wpAny_pure ⟨rfl, rfl, hrest⟩
  · rintro ⟨r1, r2⟩ s' ⟨hr, rfl, _⟩
    simp only at hr
    subst hr
    exact wpAny_pure h
theorem gave_no {m : Nat} (hm : Msk m) : (m % 2 == 0) = false := by
  rcases hm with rfl | rfl | rfl <;> rfl
/-- the search: what it has passed is not the row -/
theorem search_from {k : List Key} {b : Addr} {xs : List (List Key × Addr)} {o : Obj} {ep : Nat} {t : SetTable} {es : Array (Int × Value)} (ho : s.heap.get? a = some o) (hd : o.data = .set es ep t) (T : TabT prog w xs es t) (hK : KeysAt prog w s.heap xs) (hb : IsTupleKey (mixKind prog w) s.heap k b) (hu : A.units < cLine) {N : Nat} (hN : t.slot (stp t.mask N (pst t.mask (tupleKeyHash (mixKind prog w) k))).j = .empty)
    {Q : SetFound → Shared → Prop} (h1 : k ∈ xs.map (·.1) → Q (.there none) s) (h2 : k ∉ xs.map (·.1) → ∀ n, (stp t.mask n (pst t.mask (tupleKeyHash (mixKind prog w) k))).j ∉ t.place.toList → (∀ i, i < n → (stp t.mask i (pst t.mask (tupleKeyHash (mixKind prog w) k))).j ∈ t.place.toList) → Q (.free (stp t.mask n (pst t.mask (tupleKeyHash (mixKind prog w) k))).j false) s) :
    ∀ (fuel n0 : Nat) (stand : Option Pb), N - n0 < fuel → stand.getD (pst t.mask (tupleKeyHash (mixKind prog w) k)) = stp t.mask n0 (pst t.mask (tupleKeyHash (mixKind prog w) k)) → (∀ i, i < n0 → ∃ r x, t.slot (stp t.mask i (pst t.mask (tupleKeyHash (mixKind prog w) k))).j = .live r ∧ xs[r]? = some x ∧ x.1 ≠ k) →
      wpAny (model prog w) A (setSearchFrom a (.ref b) (tupleKeyHash (mixKind prog w) k) true fuel stand) Q E s
  | 0, _, _, hf, _, _ => absurd hf (Nat.not_lt_zero _)
  | fuel + 1, n0, stand, hf, hst, hpast => by
    have hn0 : n0 ≤ N := Nat.le_of_not_lt fun z => by
      obtain ⟨r, x, e, _⟩ := hpast N z
      rw [hN] at e
      cases e
    unfold setSearchFrom
    refine wpAny_bind (wpAny_setState_of ho hd T.fit ?_)
    dsimp only
    have hgw : t.gaveWay = false := gave_no T.tab.msk
    rw [hgw, if_neg (by decide)]
    rw [pst_eq, hst]
    have hroom : t.place.size ≤ t.mask := by rw [T.tab.len]; exact T.tab.room
    generalize hr : SetTable.probe t _ _ _ = r
    obtain ⟨met, hmet⟩ := probe_ex T.tab.rz T.tab.msk hroom (g := fun i => (es[i]?.map (·.1)).getD 0) (h := tupleKeyHash (mixKind prog w) k) (stp_pz2 n0 (pst_pz t.mask (tupleKeyHash (mixKind prog w) k)))
    have hr' : r = some met := hr.symm.trans hmet
    subst hr'
    obtain ⟨n, _, g1, g2⟩ := go_is T.tab.rz _ _ _ hmet
    have hall : ∀ i, i < n0 + n → ∃ r x, t.slot (stp t.mask i (pst t.mask (tupleKeyHash (mixKind prog w) k))).j = .live r ∧ xs[r]? = some x ∧ x.1 ≠ k := fun i hi => by
      by_cases hin : i < n0
      · exact hpast i hin
      · obtain ⟨r, e1, e2⟩ := g1 (i - n0) (by omega)
        rw [← stp_add, show n0 + (i - n0) = i by omega] at e1
        obtain ⟨hrl, _⟩ := live_in T.tab.rz e1
        obtain ⟨x, e3, e4⟩ := T.at hrl
        refine ⟨r, x, e1, e3, fun z => e2 ?_⟩
        rw [e4, ← z]
        rfl
    have hin : ∀ i, i < n0 + n → (stp t.mask i (pst t.mask (tupleKeyHash (mixKind prog w) k))).j ∈ t.place.toList := fun i hi => by
      obtain ⟨r, x, e, _⟩ := hall i hi
      obtain ⟨hrl, e2⟩ := live_in T.tab.rz e
      rw [← e2]
      simp
    cases met with
    | empty j d =>
      obtain ⟨e1, e2, e3⟩ := g2
      rw [← stp_add] at e1
      rw [stp_dummy] at e3
      have e3' : d = none := e3
      subst e3'
      dsimp only
      have hjn : (stp t.mask (n0 + n) (pst t.mask (tupleKeyHash (mixKind prog w) k))).j ∉ t.place.toList := by
        rw [← e1]
        exact slot_empty T.tab.rz e2
      rw [e1]
      refine wpAny_pure (h2 (fun hk => ?_) (n0 + n) hjn hin)
      obtain ⟨x, hx, rfl⟩ := List.mem_map.mp hk
      obtain ⟨i0, hi0, ei0⟩ := List.mem_iff_getElem.mp hx
      have hsz := T.size
      have hpl : i0 < t.place.size := by rw [T.tab.len, List.length_map, Array.length_toList]; omega
      have hmem : (tupleKeyHash (mixKind prog w) x.1, t.place[i0]) ∈ (es.toList.map (·.1)).zip t.place.toList := by
        rw [List.mem_iff_getElem]
        refine ⟨i0, by rw [List.length_zip, List.length_map, Array.length_toList, Array.length_toList]; omega, ?_⟩
        rw [List.getElem_zip]
        have e4 : (es.toList.map (·.1))[i0]'(by rw [List.length_map, Array.length_toList]; omega) = tupleKeyHash (mixKind prog w) x.1 := by
          have : (es.toList.map (·.1))[i0]? = some (tupleKeyHash (mixKind prog w) x.1) := by
            rw [T.ents, List.map_map, List.getElem?_map, List.getElem?_eq_getElem hi0, ei0]
            rfl
          exact (List.getElem?_eq_some_iff.mp this).2
        rw [e4]
        simp
      obtain ⟨n1, f1, f2⟩ := T.tab.fnd _ hmem
      dsimp only at f1 f2
      rcases Nat.lt_trichotomy n1 (n0 + n) with z | z | z
      · obtain ⟨r, y, e5, e6, e7⟩ := hall n1 z
        rw [f1, slot_in T.tab.rz hpl] at e5
        cases e5
        rw [List.getElem?_eq_getElem hi0, ei0] at e6
        cases e6
        exact e7 rfl
      · rw [z] at f1
        exact hjn (by rw [f1]; simp)
      · exact hjn (f2 _ z)
    | candidate j i next =>
      obtain ⟨e1, e2, e3, e4⟩ := g2
      rw [← stp_add] at e1 e4
      obtain ⟨hil, hij⟩ := live_in T.tab.rz e2
      obtain ⟨x, hx1, hx2⟩ := T.at hil
      have hxk := hK x (List.mem_of_getElem? hx1)
      dsimp only
      have body : wpAny (model prog w) A (do
          let some (_, y) := es[i]? | unsupported "internal:set-entry"
          let equal ← holding [y] (eqBool y (.ref b))
          let (es', _, t') ← setState a
          if true && equal then return .there none
          let some same := t'.sameMemory t.moves t.mask | unsupported "set.changed-during-lookup:is-the-new-block-at-the-old-address"
          let still ← match (if same then t'.slot j else .empty) with
            | .live i' => match es'[i']? with
              | some (_, y') => do pure (if ← isSame y' y then some i' else none)
              | none => pure none
            | _ => pure none
          match still with
          | none => rule "set.search.anew"; setSearchFrom a (.ref b) (tupleKeyHash (mixKind prog w) k) true fuel none
          | some i' => if equal then return .there (some i') else setSearchFrom a (.ref b) (tupleKeyHash (mixKind prog w) k) true fuel (some next)) Q E s := by
        rw [hx2]
        dsimp only [entT]
        refine wpAny_bind (wpAny_holding (wpAny_eqBool_tuple hu hxk hb ?_))
        refine wpAny_bind (wpAny_setState_of ho hd T.fit ?_)
        dsimp only
        by_cases hkk : x.1 = k
        · rw [decide_eq_true hkk, if_pos (by decide)]
          exact wpAny_pure (h1 (List.mem_map.mpr ⟨x, List.mem_of_getElem? hx1, hkk⟩))
        · rw [decide_eq_false hkk, if_neg (by decide)]
          have hsm : t.sameMemory t.moves t.mask = some true := by
            unfold SetTable.sameMemory
            rw [if_pos (by simp)]
          rw [hsm]
          dsimp only
          rw [if_pos rfl, e2]
          dsimp only
          rw [hx2]
          dsimp only [entT]
          refine wpAny_bind (wpAny_isSame_ref_self (wpAny_bind (wpAny_pure ?_)))
          rw [if_pos rfl]
          dsimp only
          rw [if_neg (by decide)]
          refine search_from ho hd T hK hb hu hN h1 h2 fuel (n0 + n + 1) (some next) ?_ e4 fun r hr => ?_
          · have : n0 + n < N ∨ N ≤ n0 + n := by omega
            rcases this with z | z
            · omega
            · by_cases zz : N = n0 + n
              · rw [zz, ← e1, e2] at hN
                cases hN
              · obtain ⟨r, x, e, _⟩ := hall N (by omega)
                rw [hN] at e
                cases e
          · by_cases hrn : r < n0 + n
            · exact hall r hrn
            · have : r = n0 + n := by omega
              subst this
              exact ⟨i, x, by rw [← e1]; exact e2, hx1, hkk⟩
      by_cases hl : t.led = true
      · rw [hl, if_neg (by decide)]
        exact wpAny_bind (wpAny_pure body)
      · rw [Bool.not_eq_true] at hl
        rw [hl, if_pos (by decide)]
        refine wpAny_bind (m := searchCouldBeSeen (.ref b) ((es.filter (·.1 == tupleKeyHash (mixKind prog w) k)).toList.map (·.2))) (not_seen hb (fun v hv => ?_) ?_)
        · obtain ⟨e, he, rfl⟩ := List.mem_map.mp hv
          have he2 : e ∈ es.toList := by
            have := (Array.mem_filter.mp (Array.mem_toList_iff.mp he)).1
            exact Array.mem_toList_iff.mpr this
          rw [T.ents] at he2
          obtain ⟨y, hy, rfl⟩ := List.mem_map.mp he2
          exact ⟨y.1, y.2, rfl, hK y hy⟩
        · rw [if_neg (by decide)]
          exact body
theorem hash_by {k : List Key} {b : Addr} {n : Nat} {Q : Bool → Shared → Prop} (hk : IsTupleKey (mixKind prog w) s.heap k b) (h : ∀ c, Q c s) : wpAny (model prog w) A (hashByValue (n + 2) (.ref b)) Q E s := by
  have hT := hk.typeIs
  obtain ⟨o, items, m, ho, _, hd, hi⟩ := hk
  unfold hashByValue
  refine wpAny_bind (wpAny_specialOf hT F.slot_tuple_hash.lookup ?_)
  show wpAny _ _ (seqItems? (.ref b) >>= _) _ _ s
  refine wpAny_bind (wpAny_seqItems ho hd ?_)
  refine wpAny_bind ?_
  show wpAny _ _ (forIn items _ _) _ _ s
  rw [← Array.forIn_toList]
  refine wpAny_forIn_list _ (fun rest r s' => s' = s ∧ ∀ v ∈ rest, carriedByValue v = true) _ ?_ ?_ _ _ ⟨rfl, hi.byValue⟩
  · rintro v rest r s' ⟨rfl, hall⟩
    have hv := hall v List.mem_cons_self
    have hrest := fun u hu' => hall u (List.mem_cons_of_mem _ hu')
    obtain ⟨c, e⟩ : ∃ c, hashByValue (n + 1) v = pure c := by
      cases v with
      | ref x => simp [carriedByValue] at hv
      | float bits x => exact ⟨_, rfl⟩
      | _ => first | exact ⟨true, rfl⟩ | exact ⟨false, rfl⟩
    rw [e]
    refine wpAny_bind (wpAny_pure ?_)
    cases c with
    | true =>
      rw [if_neg (by decide)]
      exact wpAny_pure ⟨rfl, hrest⟩
    | false =>
      rw [if_pos (by decide)]
      exact wpAny_pure (wpAny_pure (h _))
  · rintro ⟨r1, r2⟩ s' ⟨rfl, _⟩
    cases r1 with
    | none => exact wpAny_pure (h _)
    | some c => exact wpAny_pure (h _)
theorem grown_ok {n m : Nat} (hm : Msk m) (h1 : n * 5 < m * 3) (h2 : (n + 1) * 5 ≥ m * 3) (h64 : n + 1 ≤ 64) : ∃ m', SetTable.sizeAbove (SetTable.grown (n + 1)) = m' + 1 ∧ Msk m' ∧ (n + 1) * 5 < m' * 3 := by
  rcases hm with rfl | rfl | rfl
  · have : n = 4 := by omega
    subst this
    exact ⟨31, by decide +kernel, .inr (.inl rfl), by decide⟩
  · have : n = 18 := by omega
    subst this
    exact ⟨127, by decide +kernel, .inr (.inr rfl), by decide⟩
  · omega
theorem put_at {h : Heap} {o : Obj} {xs : List (List Key × Addr)} {es es' : Array (Int × Value)} {ep : Nat} {t t' : SetTable} (ho : h.get? a = some o) (hx : o.ExactSet) (hd : o.data = .set es ep t) (T : TabT prog w xs es' t') :
    (h.update a (Obj.putSet es' t')).get? a = some { o with data := .set es' (ep + 1) t' } ∧ SetT prog w (h.update a (Obj.putSet es' t')) a xs := by
  have e := putSet_of es' t' hd
  have g : (h.update a (Obj.putSet es' t')).get? a = some { o with data := .set es' (ep + 1) t' } := by
    rw [Heap.get?_update_self (Obj.putSet es' t') ho (by rw [e]; rfl), e]
  exact ⟨g, _, _, _, _, g, hx, rfl, T⟩
theorem order_map {α : Type} {es : Array α} {order : Array Nat} (hp : order.toList.Perm (List.range es.size)) (d : α) : (order.filterMap (es[·]?)).toList = order.toList.map fun i => es.toList.getD i d := by
  rw [Array.toList_filterMap]
  have hall : ∀ i ∈ order.toList, i < es.size := fun i hi => List.mem_range.mp (hp.mem_iff.mp hi)
  generalize order.toList = L at hall
  induction L with
  | nil => rfl
  | cons i L ih =>
    have hi := hall i (List.mem_cons_self ..)
    rw [List.filterMap_cons, Array.getElem?_eq_getElem hi, List.map_cons, ih fun j hj => hall j (List.mem_cons_of_mem _ hj)]
    simp [hi]
theorem getD_range {α : Type} (L : List α) (d : α) : (List.range L.length).map (fun i => L.getD i d) = L := by
  apply List.ext_getElem
  · simp
  intro i h1 h2
  simp [h2]
/-- a table laid anew -/
theorem relay_t {xs : List (List Key × Addr)} {o : Obj} {ep : Nat} {t : SetTable} {es : Array (Int × Value)} {m' wanted : Nat} (ho : s.heap.get? a = some o) (hx : o.ExactSet) (hd : o.data = .set es ep t) (hE : es.toList = xs.map (entT prog w)) (hT : TabR t (es.toList.map (·.1))) (hled : t.led = !(w.params.followText "set-order")) (hm : SetTable.sizeAbove wanted = m' + 1) (hk : Msk m') (hnf : xs.length * 5 < m' * 3)
    {Q : Unit → Shared → Prop} (h : ∀ h' xs', Heap.SameBut a s.heap h' → SetT prog w h' a xs' → xs'.Perm xs → Q () { s with heap := h' }) : wpAny (model prog w) A (setRelay a wanted) Q E s := by
  have hsz : es.size = xs.length := by
    have := congrArg List.length hE
    rw [Array.length_toList, List.length_map] at this
    exact this
  have hfit : t.fits es.size = true := by
    have := hT.fits
    rw [List.length_map, Array.length_toList] at this
    exact this
  unfold setRelay
  refine wpAny_bind (wpAny_setState_of ho hd hfit ?_)
  dsimp only
  rw [hm]
  have hsl : ¬ m' + 1 > sizeLine := by
    have : m' ≤ 127 := by rcases hk with rfl | rfl | rfl <;> omega
    have h2 : (128 : Nat) ≤ sizeLine := by decide
    omega
  rw [if_neg hsl]
  have hms : (es.map (·.1)).size ≤ m' := by
    rw [Array.size_map, hsz]
    omega
  obtain ⟨t', order, e1, hp, hR, hl, hpl, hmk⟩ := laid_ok (f := t.finger) (mv := t.movedTo m') (led := t.led) (plain := t.plain) hk hms
  have e2 : t.relaid (es.map (·.1)) wanted = some (t', order) := by
    unfold SetTable.relaid
    rw [hm, Nat.add_sub_cancel]
    exact e1
  rw [e2]
  rw [Array.size_map] at hp
  have hmap := order_map hp (0, Value.none)
  have hsz2 : (order.filterMap (es[·]?)).size = es.size := by
    rw [← Array.length_toList, hmap, List.length_map, hp.length_eq, List.length_range]
  have hc : ((order.filterMap (es[·]?)).size != es.size) = false := by
    rw [hsz2]
    simp
  refine wpAny_bind (wpAny_of_eq (a := (order.filterMap (es[·]?), t')) ?_ ?_)
  · show (if ((order.filterMap (es[·]?)).size != es.size) = true then _ else _) = _
    rw [if_neg (by rw [hc]; decide)]
  dsimp only
  have hperm : (order.toList.map fun i => xs.getD i ([], 0)).Perm xs := by
    have := hp.map fun i => xs.getD i ([], 0)
    rw [hsz, getD_range] at this
    exact this
  have hE2 : (order.filterMap (es[·]?)).toList = (order.toList.map fun i => xs.getD i ([], 0)).map (entT prog w) := by
    rw [hmap, List.map_map]
    refine List.map_congr_left fun i hi => ?_
    have hi' : i < xs.length := by
      have := List.mem_range.mp (hp.mem_iff.mp hi)
      omega
    rw [hE]
    show (xs.map (entT prog w)).getD i (0, Value.none) = entT prog w (xs.getD i ([], 0))
    rw [List.getD_eq_getElem?_getD, List.getElem?_map, List.getElem?_eq_getElem hi', List.getD_eq_getElem?_getD, List.getElem?_eq_getElem hi']
    rfl
  have hR2 : TabR t' ((order.filterMap (es[·]?)).toList.map (·.1)) := by
    rw [hmap, List.map_map]
    have : (order.toList.map fun i => (es.map (·.1)).toList.getD i 0) = order.toList.map ((·.1) ∘ fun i => es.toList.getD i (0, Value.none)) := List.map_congr_left fun i hi => by
      have hi' : i < es.toList.length := by
        have := List.mem_range.mp (hp.mem_iff.mp hi)
        rw [Array.length_toList]
        exact this
      show (es.map (·.1)).toList.getD i 0 = (es.toList.getD i (0, Value.none)).1
      rw [Array.toList_map, List.getD_eq_getElem?_getD, List.getElem?_map, List.getElem?_eq_getElem hi', List.getD_eq_getElem?_getD, List.getElem?_eq_getElem hi']
      rfl
    rw [← this]
    exact hR
  have T' : TabT prog w (order.toList.map fun i => xs.getD i ([], 0)) (order.filterMap (es[·]?)) t' := ⟨hE2, hR2, hl.trans hled, by rw [hperm.length_eq, hmk]; exact hnf⟩
  obtain ⟨_, S'⟩ := put_at ho hx hd T'
  refine wpAny_storeSet_of ho hd (h _ _ (Heap.SameBut.update ..) S' hperm) ?_
  rw [hsz2, hsz]
  have : m' ≤ 127 := by rcases hk with rfl | rfl | rfl <;> omega
  exact Nat.le_trans (show xs.length ≤ 127 by omega) (by decide)
/-- a thing more -/
theorem add_t {xs : List (List Key × Addr)} {k : List Key} {b : Addr} {Q : Bool → Shared → Prop} (hS : SetT prog w s.heap a xs) (hK : KeysAt prog w s.heap xs) (hb : IsTupleKey (mixKind prog w) s.heap k b) (hu : A.units < cLine) (h64 : xs.length + 1 ≤ 64)
    (h : ∀ h' xs', Heap.SameBut a s.heap h' → SetT prog w h' a xs' → (xs'.Perm (xs ++ [(k, b)]) ∧ k ∉ xs.map (·.1) ∨ xs' = xs ∧ k ∈ xs.map (·.1)) → ∀ c, Q c { s with heap := h' }) :
    wpAny (model prog w) A (setAddHashed a (.ref b) (tupleKeyHash (mixKind prog w) k)) Q E s := by
  obtain ⟨o, ep, t, es, ho, hx, hd, T⟩ := id hS
  unfold setAddHashed setAddHashedIn
  refine wpAny_holding (wpAny_bind (wpAny_setState_of ho hd T.fit ?_))
  dsimp only
  have hbs : byScan (.ref b) es = false := rfl
  rw [hbs, if_neg (by decide)]
  have hroom : t.place.size ≤ t.mask := by rw [T.tab.len]; exact T.tab.room
  obtain ⟨e, he, hne⟩ := free_ex T.tab.rz hroom
  obtain ⟨L, hL, N, hN1, _, hN2⟩ := visit T.tab.msk (p := pst t.mask (tupleKeyHash (mixKind prog w) k)) (run_le t.mask _) (bits_lt _) he
  have hmk : t.mask ≤ 127 := by
    have := T.tab.msk
    rcases this with z | z | z <;> omega
  have hmk7 : 7 ≤ t.mask := by
    have := T.tab.msk
    rcases this with z | z | z <;> omega
  refine wpAny_bind (m := setSearch a (.ref b) (tupleKeyHash (mixKind prog w) k) true) (search_from ho hd T hK hb hu (N := N) (by rw [hN2]; exact slot_out T.tab.rz hne) (fun hin => ?_) (fun hout n f1 f2 => ?_) 100000 0 none (by omega) rfl fun i hi => absurd hi (Nat.not_lt_zero _))
  · exact wpAny_pure (h s.heap xs (Heap.SameBut.refl a s.heap) hS (.inr ⟨rfl, hin⟩) _)
  · dsimp only
    refine wpAny_bind (wpAny_setState_of ho hd T.fit ?_)
    dsimp only
    have hT2 := T.tab.put f1 f2 (by rw [List.length_map, Array.length_toList, T.size]; have := T.nf; omega)
    generalize hj : (stp t.mask n (pst t.mask (tupleKeyHash (mixKind prog w) k))).j = j at f1 hT2 ⊢
    have hsz := T.size
    have hbl : SetTable.below t.place j ≤ xs.length := by
      have := (below_ok T.tab.rz.up j).1
      rw [T.tab.len, List.length_map, Array.length_toList] at this
      omega
    have hE2 : (SetTable.insertAt es (SetTable.below t.place j) (tupleKeyHash (mixKind prog w) k, Value.ref b)).toList = (xs.take (SetTable.below t.place j) ++ (k, b) :: xs.drop (SetTable.below t.place j)).map (entT prog w) := by
      rw [insert_list, T.ents, List.map_append, List.map_cons, List.map_take, List.map_drop]
      rfl
    have hperm : (xs.take (SetTable.below t.place j) ++ (k, b) :: xs.drop (SetTable.below t.place j)).Perm (xs ++ [(k, b)]) := by
      refine List.perm_middle.trans ?_
      rw [List.take_append_drop]
      exact (List.perm_append_singleton _ _).symm
    have hT3 : TabR (t.put j).1 ((SetTable.insertAt es (SetTable.below t.place j) (tupleKeyHash (mixKind prog w) k, Value.ref b)).toList.map (·.1)) := by
      rw [insert_list, List.map_append, List.map_cons, List.map_take, List.map_drop]
      exact hT2
    have hlen : (xs.take (SetTable.below t.place j) ++ (k, b) :: xs.drop (SetTable.below t.place j)).length = xs.length + 1 := by
      rw [hperm.length_eq, List.length_append]
      rfl
    have hsz2 : (SetTable.insertAt es (SetTable.below t.place j) (tupleKeyHash (mixKind prog w) k, Value.ref b)).size = xs.length + 1 := by
      rw [← Array.length_toList, hE2, List.length_map, hlen]
    have tail : ∀ t2 : SetTable, TabR t2 ((SetTable.insertAt es (SetTable.below t.place j) (tupleKeyHash (mixKind prog w) k, Value.ref b)).toList.map (·.1)) → t2.led = t.led → t2.mask = t.mask → t2.place.size = xs.length + 1 → t2.dummies = #[] →
        wpAny (model prog w) A (do
          storeSet a (SetTable.insertAt es (SetTable.below t.place j) (tupleKeyHash (mixKind prog w) k, Value.ref b)) t2
          if !false && t2.tooFull then setRelay a (SetTable.grown (es.size + 1))
          return true) Q E s := fun t2 hR2 hl2 hm2 hp2 hd2 => by
      have g1 : (s.heap.update a (Obj.putSet (SetTable.insertAt es (SetTable.below t.place j) (tupleKeyHash (mixKind prog w) k, Value.ref b)) t2)).get? a = some { o with data := .set (SetTable.insertAt es (SetTable.below t.place j) (tupleKeyHash (mixKind prog w) k, Value.ref b)) (ep + 1) t2 } := by
        have e := putSet_of (SetTable.insertAt es (SetTable.below t.place j) (tupleKeyHash (mixKind prog w) k, Value.ref b)) t2 hd
        rw [Heap.get?_update_self (Obj.putSet _ t2) ho (by rw [e]; rfl), e]
      refine wpAny_bind (wpAny_storeSet_of ho hd ?_ (by rw [hsz2]; exact Nat.le_trans h64 (by decide)))
      have b1 := Heap.SameBut.update s.heap a (Obj.putSet (SetTable.insertAt es (SetTable.below t.place j) (tupleKeyHash (mixKind prog w) k, Value.ref b)) t2)
      have htf : t2.tooFull = decide ((xs.length + 1) * 5 ≥ t.mask * 3) := by
        unfold SetTable.tooFull SetTable.fill
        rw [hd2, hp2, hm2]
        rfl
      by_cases c : (xs.length + 1) * 5 ≥ t.mask * 3
      · rw [htf, decide_eq_true c, if_pos (by decide)]
        obtain ⟨m', q1, q2, q3⟩ := grown_ok T.tab.msk T.nf c h64
        refine wpAny_bind (relay_t (s := { s with heap := s.heap.update a (Obj.putSet (SetTable.insertAt es (SetTable.below t.place j) (tupleKeyHash (mixKind prog w) k, Value.ref b)) t2) }) g1 hx rfl hE2 hR2 (hl2.trans T.led) (by rw [hsz]; exact q1) q2 (by rw [hlen]; exact q3) fun h' xs' sb S' p' => ?_)
        exact wpAny_pure (h h' xs' (b1.trans sb) S' (.inl ⟨p'.trans hperm, hout⟩) _)
      · rw [htf, decide_eq_false c, if_neg (by decide)]
        exact wpAny_pure (h _ _ b1 ⟨_, _, _, _, g1, hx, rfl, ⟨hE2, hR2, hl2.trans T.led, by rw [hlen, hm2]; omega⟩⟩ (.inl ⟨hperm, hout⟩) _)
    have hpp : (t.put j).1.place.size = xs.length + 1 := by
      rw [hT3.len, List.length_map, Array.length_toList, hsz2]
    have hdd : (t.put j).1.dummies = #[] := hT3.rz.no
    by_cases hp : (t.put j).1.plain = true
    · rw [if_pos hp]
      refine wpAny_bind (hash_by hb fun c => ?_)
      cases c with
      | true =>
        rw [if_pos rfl]
        exact tail (t.put j).1 hT3 rfl rfl hpp hdd
      | false =>
        rw [if_neg (by decide)]
        exact tail { (t.put j).1 with plain := false } ⟨⟨hT3.rz.up, hT3.rz.le, hT3.rz.no⟩, hT3.len, hT3.msk, hT3.room, hT3.fnd⟩ rfl rfl hpp hdd
    · rw [if_neg hp]
      refine wpAny_bind (wpAny_pure ?_)
      rw [if_pos rfl]
      exact tail (t.put j).1 hT3 rfl rfl hpp hdd
end
section
variable {prog : Program} {w : World} {A : Around} {R : Result → Shared → Prop} {I : Addr} {fp wr : List Addr} {G : Array GenState → Array GenState → Prop} {n : Nat} {P : Nat → Value → Prop} {St : Nat → Shared → Prop}
/-- what has been put in so far -/
structure PutT (prog : Program) (w : World) (h : Heap) (S : Addr) (val : Nat → List Key × Addr) (i : Nat) (L : List (List Key × Addr)) : Prop where
  at_ : SetT prog w h S L
  nd : (L.map (·.1)).Nodup
  le : L.length ≤ i
  of : ∀ x ∈ L, ∃ j, j < i ∧ val j = x
  all : ∀ j, j < i → (val j).1 ∈ L.map (·.1)
theorem PutT.stay {h h' : Heap} {S : Addr} {val : Nat → List Key × Addr} {i : Nat} {L : List (List Key × Addr)} (x : PutT prog w h S val i L) (k : ∀ o, h.get? S = some o → h'.get? S = some o) : PutT prog w h' S val i L := ⟨x.at_.stay k, x.nd, x.le, x.of, x.all⟩
theorem PutT.next {h h' : Heap} {S : Addr} {val : Nat → List Key × Addr} {i : Nat} {L L' : List (List Key × Addr)} (x : PutT prog w h S val i L) (hs : SetT prog w h' S L') (hl : L'.Perm (L ++ [((val i).1, (val i).2)]) ∧ (val i).1 ∉ L.map (·.1) ∨ L' = L ∧ (val i).1 ∈ L.map (·.1)) : PutT prog w h' S val (i + 1) L' := by
  rcases hl with ⟨p, hn⟩ | ⟨rfl, hm⟩
  · have pm := p.map (·.1)
    rw [List.map_append] at pm
    refine ⟨hs, ?_, ?_, fun y hy => ?_, fun j hj => ?_⟩
    · rw [pm.nodup_iff, List.nodup_append]
      refine ⟨x.nd, by simp, fun a ha b hb => ?_⟩
      rw [List.mem_singleton.mp hb]
      exact fun z => hn (by rw [show (val i).1 = a from z.symm]; exact ha)
    · rw [p.length_eq, List.length_append]
      exact Nat.succ_le_succ x.le
    · rcases List.mem_append.mp (p.mem_iff.mp hy) with z | z
      · obtain ⟨j, hj, e⟩ := x.of y z
        exact ⟨j, by omega, e⟩
      · exact ⟨i, by omega, (List.mem_singleton.mp z).symm⟩
    · rw [pm.mem_iff]
      by_cases e : j = i
      · subst e
        exact List.mem_append_right _ (List.mem_singleton.mpr rfl)
      · exact List.mem_append_left _ (x.all j (by omega))
  · refine ⟨hs, x.nd, Nat.le_succ_of_le x.le, fun y hy => ?_, fun j hj => ?_⟩
    · obtain ⟨j, hj, e⟩ := x.of y hy
      exact ⟨j, by omega, e⟩
    · by_cases e : j = i
      · subst e
        exact hm
      · exact x.all j (by omega)
theorem fill_t (W : WalksS prog w A.in1 I fp wr G n P St) {S : Addr} (hS : S ∉ fp) (hu : A.units + 3 < cLine) {val : Nat → List Key × Addr} (hv : ∀ i v, P i v → v = .ref (val i).2) (hb : n ≤ 64) (hnw : ∀ i, i < n → (val i).2 ∉ S :: wr) :
    ∀ (k i : Nat) (s : Shared) (L : List (List Key × Addr)), n - i = k → i ≤ n → St i s → PutT prog w s.heap S val i L → (∀ i, i < n → IsTupleKey (mixKind prog w) s.heap (val i).1 (val i).2) →
      (∀ s' L', Moved (S :: wr) G s s' → PutT prog w s'.heap S val n L' → R (.ok (.ret .none)) s') →
      codeAny (model prog w) A (.builtin "set.update.loop" ⟨[.ref S, .ref I], []⟩) R s := by
  have hw : S ∉ wr := fun z => hS (W.sub _ z)
  have up : ∀ b ∈ wr, b ∈ S :: wr := fun b hb => List.mem_cons_of_mem _ hb
  have keep : ∀ {h h' : Heap} {k : List Key} {b : Addr}, IsTupleKey (mixKind prog w) h k b → (∀ o, h.get? b = some o → h'.get? b = some o) → IsTupleKey (mixKind prog w) h' k b := fun x k => by
    obtain ⟨o, items, m, ho, r⟩ := x
    exact ⟨o, items, m, k o ho, r⟩
  intro k
  induction k with
  | zero =>
    intro i s L hk hi st X _ q
    obtain rfl : i = n := by omega
    refine codeAny_builtin F.entry_set_update_loop ?_
    rw [Around.under_plainId F.plain_set_update_loop _]
    refine wpAny_bind (m := pyNext (.ref I)) (W.done s _ _ st fun s' mv => ?_)
    exact wpAny_pure (q s' L (mv.mono up) (X.stay fun o e => mv.heap S o hw e))
  | succ k ih =>
    intro i s L hk hi st X KK q
    refine codeAny_builtin F.entry_set_update_loop ?_
    rw [Around.under_plainId F.plain_set_update_loop _]
    refine wpAny_bind (m := pyNext (.ref I)) (W.item i s _ _ (by omega) st fun v s1 hP st1 mv => ?_)
    obtain rfl := hv i v hP
    have X1 := X.stay fun o e => mv.heap S o hw e
    have KK1 : ∀ i, i < n → IsTupleKey (mixKind prog w) s1.heap (val i).1 (val i).2 := fun i hi => keep (KK i hi) fun o e => mv.heap _ o (fun z => hnw i hi (List.mem_cons_of_mem _ z)) e
    refine wpAny_bind (m := holding [Value.ref (val i).2] (setAdd S (.ref (val i).2))) (wpAny_holding ?_)
    unfold setAdd
    refine wpAny_holding (wpAny_bind (wpAny_pyHash_tuple (show A.units + 1 < cLine by omega) (KK1 i (by omega)) ?_))
    refine add_t (s := { s1 with toks := s1.toks + ((val i).1.length + 1) }) X1.at_ (fun x hx => ?_) (KK1 i (by omega)) (show A.units + 1 < cLine by omega) (by have := X1.le; omega) fun h' L' sb hs' hl _ => ?_
    · obtain ⟨j, hj, rfl⟩ := X1.of x hx
      exact KK1 j (by omega)
    have X2 := X1.next hs' hl
    refine wpAny_pure ⟨plainId_quiet F.plain_set_update_loop _, ih (i + 1) { s1 with heap := h', toks := s1.toks + ((val i).1.length + 1) } L' (by omega) (by omega) (W.frame _ s1 _ _ st1 (Nat.le_add_right _ _) fun b hb' o e => ?_) X2 (fun j hj => keep (KK1 j hj) fun o e => (sb.2 _ fun z => hnw j hj (by rw [z]; exact List.mem_cons_self ..)).trans e) fun s'' L'' mv2 X3 => ?_⟩
    · rw [sb.2 b fun z => hS (z ▸ hb')]
      exact e
    · refine q s'' L'' (Moved.trans W.gtrans ((mv.mono up).then_heap (Nat.le_add_right _ _) fun b o hb' e => ?_) mv2) X3
      rw [sb.2 b fun z => hb' (z ▸ List.mem_cons_self)]
      exact e
end
section
variable {prog : Program} {w : World} {A : Around} {E : Value → Shared → Prop} {s : Shared}
/-- set(list of tuples) -/
theorem set_list_t {l : Addr} {items : Array Value} {vals : List (List Key × Addr)} {Q : Value → Shared → Prop} (hh : A.handled = none) (hu : A.units + 8 < cLine) (hl : s.heap.IsList l items) (hi : items.toList = vals.map fun x => Value.ref x.2) (hk : ∀ x ∈ vals, IsTupleKey (mixKind prog w) s.heap x.1 x.2) (hb : vals.length ≤ 64)
    (h : ∀ (h' : Heap) (tk : Nat) (L : List (List Key × Addr)), SetT prog w h' s.heap.objs.size L → (L.map (·.1)).Nodup → (∀ x ∈ L, x ∈ vals) → (∀ x ∈ vals, x.1 ∈ L.map (·.1)) → L.length ≤ vals.length → (∀ b o, s.heap.get? b = some o → h'.get? b = some o) → Q (.ref s.heap.objs.size) { s with heap := h', toks := tk }) :
    wpAny (model prog w) A (call (.type "set") [.ref l]) Q E s := by
  refine set_call_l ?_
  generalize hled : (!(w.params.followText "set-order")) = led
  have hlt : l < s.heap.objs.size := by
    obtain ⟨o, ho, _⟩ := hl
    exact Heap.lt_size ho
  have hsz : items.size = vals.length := by
    rw [← Array.length_toList, hi, List.length_map]
  have hl1 : (s.heap.push (set0 led)).IsList l items := hl.push _
  have hS : (s.heap.push (set0 led)).get? s.heap.objs.size = some (set0 led) := Heap.get?_push_size _ rfl
  have hR : SetT prog w (s.heap.push (set0 led)) s.heap.objs.size [] := ⟨set0 led, 0, _, #[], hS, ⟨rfl, rfl, rfl⟩, rfl, ⟨rfl, ⟨fresh_rz 0 0 led, rfl, .inl rfl, Nat.zero_le _, fun x hx => nomatch hx⟩, hled.symm, by show 0 * 5 < 7 * 3; decide⟩⟩
  have f1 := PySem.F.sub_list_set; have f2 := PySem.F.sub_list_frozenset
  have f3 : (Value.type "list" == Value.type "dict") = false := by decide
  obtain ⟨o, ho, hc, nl, hd⟩ := id hl1
  obtain ⟨oc, od, odt, osl⟩ := o
  simp only at hc hd
  subst hc hd
  unfold Builtin.«set.__init__» noKeywords Builtin.Frozenset.updateFrom
  generalize hI : pyIter = I0
  wp_walk
  subst hI
  refine wpAny_pyIter_list hl1 (wpAny_bind (wpAny_runValue ?_))
  have e1 : (s.heap.push (set0 led)).objs.size = s.heap.objs.size + 1 := Heap.size_push ..
  have nf : s.heap.objs.size ∉ [(s.heap.push (set0 led)).objs.size, l] := by
    rw [e1]
    intro z
    rcases List.mem_cons.mp z with z | z
    · exact Nat.ne_of_lt (Nat.lt_succ_self _) z
    · exact Nat.ne_of_gt hlt (List.mem_singleton.mp z)
  have nI : l ≠ (s.heap.push (set0 led)).objs.size := by rw [e1]; exact Nat.ne_of_lt (Nat.lt_succ_of_lt hlt)
  have hval : ∀ (i : Nat) (v : Value), items[i]? = some v → v = .ref ((fun i => vals.getD i ([], 0)) i).2 := fun i v hv => by
    rw [← Array.getElem?_toList, hi, List.getElem?_map] at hv
    obtain ⟨x, hx, rfl⟩ := Option.map_eq_some_iff.mp hv
    show Value.ref x.2 = .ref (vals.getD i ([], 0)).2
    rw [List.getD_eq_getElem?_getD, hx]
    rfl
  have hmem : ∀ i, i < items.size → vals.getD i ([], 0) ∈ vals := fun i hi' => by
    rw [List.getD_eq_getElem?_getD, List.getElem?_eq_getElem (show i < vals.length by omega)]
    exact List.getElem_mem _
  have hkl : ∀ i, i < items.size → (vals.getD i ([], 0)).2 < s.heap.objs.size := fun i hi' => by
    obtain ⟨o, _, _, ho, _⟩ := hk _ (hmem i hi')
    exact Heap.lt_size ho
  refine fill_t ((Walks.list (show A.in1.in1.in1.handled = none by simp [hh]) _ l nI items).toS) nf (show A.units + 2 + 3 < cLine by omega) hval (by omega) (fun i hi' z => ?_) (items.size - 0) 0 _ [] rfl (Nat.zero_le _) ⟨⟨_, Heap.get?_push_size _ rfl, rfl, rfl⟩, hl1.push _⟩ ⟨hR.stay fun o e => Heap.get?_push_of_some _ e, List.nodup_nil, Nat.zero_le _, fun x hx => (nomatch hx), fun j hj => absurd hj (Nat.not_lt_zero _)⟩ (fun i hi' => ?_) ?_
  · have := hkl i hi'
    rw [e1] at z
    rcases List.mem_cons.mp z with z | z
    · exact Nat.ne_of_lt this z
    · exact Nat.ne_of_lt (Nat.lt_succ_of_lt this) (List.mem_singleton.mp z)
  · obtain ⟨o, it, m, ho, r⟩ := hk _ (hmem i hi')
    exact ⟨o, it, m, Heap.get?_push_of_some _ (Heap.get?_push_of_some _ ho), r⟩
  intro s' L' hm X
  obtain ⟨h', g', d', tk', os'⟩ := s'
  obtain rfl : g' = s.gens := hm.gens
  obtain rfl : d' = s.drawn := hm.drawn
  obtain rfl : os' = s.os := hm.os
  refine wpAny_pure (wpAny_pure ⟨rfl, h h' tk' L' X.at_ X.nd (fun x hx => ?_) (fun x hx => ?_) (by have := X.le; omega) fun b o hbo => ?_⟩)
  · obtain ⟨j, hj, rfl⟩ := X.of x hx
    exact hmem j hj
  · obtain ⟨j, hj, rfl⟩ := List.mem_iff_getElem.mp hx
    have := X.all j (by omega)
    rw [List.getD_eq_getElem?_getD, List.getElem?_eq_getElem hj] at this
    exact this
  · have b1 := Heap.lt_size hbo
    refine hm.heap b o (fun z => ?_) (Heap.get?_push_of_some _ (Heap.get?_push_of_some _ hbo))
    rw [e1] at z
    rcases List.mem_cons.mp z with z | z
    · exact Nat.ne_of_lt b1 z
    · exact Nat.ne_of_lt (Nat.lt_succ_of_lt b1) (List.mem_singleton.mp z)
/-- sorted(set of tuples of numbers) -/
theorem sorted_ts {a : Addr} {xs : List (List Key × Addr)} {Q : Value → Shared → Prop} (hh : A.handled = none) (hu : A.units + 64 < cLine) (hS : SetT prog w s.heap a xs) {num : Addr → List Int} (hk : ∀ x ∈ xs, TupI s.heap (.ref x.2) (num x.2)) (h64 : xs.length < 64)
    (h : ∀ (h' : Heap) (d : Drawn) (tk : Nat) (r : Addr) (out : List Addr) (e : Nat), out.Perm (xs.map (·.2)) → (∀ i, i + 1 < out.length → lexB (num (out.getD (i + 1) 0)) (num (out.getD i 0)) = false) → h'.get? r = some (seqObj "list" (out.map Value.ref).toArray e) → s.heap.objs.size ≤ r → (∀ b o, s.heap.get? b = some o → h'.get? b = some o) → Q (.ref r) { s with heap := h', drawn := d, toks := tk }) :
    wpAny (model prog w) A (call (.builtin "sorted") [.ref a]) Q E s := by
  obtain ⟨o, ep, t, es, ho, hx, hd, T⟩ := hS
  have hA : AtG w s.heap a es := ⟨o, ep, t, ho, hx, hd, T.g⟩
  have hsz := T.size
  refine Calls.call_function_entry kind_sorted plain_sorted entry_sorted (args_sorted1 _) ?_
  unfold Builtin.«sorted»
  refine wpAny_bind (m := checkCount "sorted" 1 1 _) (wpAny_pure ?_)
  refine wpAny_bind (collect_l (by simp [hh]) hA (Nat.le_trans (show es.size ≤ 64 by omega) (by decide)) fun h1 d tk vs p l1 k1 => ?_)
  have pe : vs.Perm ((xs.map (·.2)).map Value.ref) := by
    refine p.trans (List.Perm.of_eq ?_)
    rw [T.ents, List.map_map, List.map_map]
    rfl
  have vl : vs.length = xs.length := by
    rw [pe.length_eq, List.length_map, List.length_map]
  have href : ∀ v ∈ vs, ∃ x ∈ xs, v = .ref x.2 := fun v hv => by
    obtain ⟨b, hb, rfl⟩ := List.mem_map.mp (pe.mem_iff.mp hv)
    obtain ⟨x, hx, rfl⟩ := List.mem_map.mp hb
    exact ⟨x, hx, rfl⟩
  have evs : (vs.map fun v => (match v with | .ref b => b | _ => 0)).map Value.ref = vs := by
    rw [List.map_map]
    refine (List.map_congr_left fun v hv => ?_).trans (List.map_id vs)
    obtain ⟨x, _, rfl⟩ := href v hv
    rfl
  refine wpAny_bind (wpAny_newList ?_ (Nat.le_trans (show vs.length ≤ 64 by omega) (by decide)))
  have g : (h1.push (seqObj "list" vs.toArray 0)).get? h1.objs.size = some (seqObj "list" vs.toArray 0) := Heap.get?_push_size _ rfl
  refine wpAny_bind (wpAny_holding (wpAny_call_entry slot_list_sort ⟨_, g, rfl⟩ entry_list_sort (list_sortT (s := { s with heap := h1.push (seqObj "list" vs.toArray 0), drawn := d, toks := tk }) (L := fun i => num (match vs.getD i Value.none with | .ref b => b | _ => 0)) g (by omega) (show A.units + 1 + 1 < cLine by omega) (fun i hi => ?_) fun out idx z1 z2 z3 hp => ⟨_, rfl, ?_⟩) (args_list_sort _)))
  · obtain ⟨x, hx', e⟩ := href vs[i] (List.getElem_mem hi)
    have e2 : vs.getD i Value.none = .ref x.2 := by
      rw [List.getD_eq_getElem?_getD, List.getElem?_eq_getElem hi, e]
      rfl
    rw [e2, e]
    obtain ⟨y, o', its, k, e3, hy, hc, hd', hi'⟩ := hk x hx'
    exact ⟨y, o', its, k, e3, Heap.get?_push_of_some _ (k1 _ _ hy), hc, hd', hi'⟩
  · obtain ⟨e, he⟩ := sortedHeap_at (out := out.toArray) g
    have hol : out.length = vs.length := hp.length_eq
    have eout : (idx.map fun i => (match vs.getD i Value.none with | .ref b => b | _ => 0)).map Value.ref = out := by
      rw [z3, List.map_map]
      refine List.map_congr_left fun i hi => ?_
      have hil := List.mem_range.mp (z1.mem_iff.mp hi)
      obtain ⟨x, _, e⟩ := href vs[i] (List.getElem_mem hil)
      show Value.ref (match vs.getD i Value.none with | .ref b => b | _ => 0) = vs.getD i Value.none
      rw [List.getD_eq_getElem?_getD, List.getElem?_eq_getElem hil, Option.getD_some, e]
    have hidl : idx.length = vs.length := by rw [z1.length_eq, List.length_range]
    refine wpAny_pure ⟨_, rfl, h _ d tk h1.objs.size (idx.map fun i => (match vs.getD i Value.none with | .ref b => b | _ => 0)) e ?_ (fun i hi => ?_) (by rw [eout]; exact he) (Nat.le_of_lt l1) fun b o hb => ?_⟩
    · have q1 := (hp.trans pe).map fun v => (match v with | Value.ref b => b | _ => 0)
      rw [← eout] at q1
      have id1 : ∀ L : List Addr, (L.map Value.ref).map (fun v => (match v with | Value.ref b => b | _ => 0)) = L := fun L => by
        rw [List.map_map]
        exact (List.map_congr_left fun _ _ => rfl).trans (List.map_id L)
      rw [id1, id1] at q1
      exact q1
    · rw [List.length_map] at hi
      have gd : ∀ j, j < idx.length → (idx.map fun i => (match vs.getD i Value.none with | .ref b => b | _ => 0)).getD j 0 = (match vs.getD (idx.getD j 0) Value.none with | .ref b => b | _ => 0) := fun j hj => by
        rw [List.getD_eq_getElem?_getD, List.getElem?_map, List.getElem?_eq_getElem hj, List.getD_eq_getElem?_getD (l := idx), List.getElem?_eq_getElem hj]
        rfl
      rw [gd _ hi, gd _ (by omega)]
      exact z2 i (by omega)
    · have hb1 := k1 b o hb
      have lb := Heap.lt_size hb1
      rw [sortedHeap_old (Nat.ne_of_lt lb) (by rw [size_push']; exact Nat.lt_succ_of_lt lb)]
      exact Heap.get?_push_of_some _ hb1
end
/-! ### the rules -/
def kRw (b : List Nat) : List Key := b.map fun x => .inl ((x : Nat) : Int)
theorem kRw_v (b : List Nat) : (kRw b).map kV = nats b := by
  unfold kRw
  rw [List.map_map]
  rfl
def unRw (k : List Key) : List Nat := k.map fun x => match x with | .inl i => i.toNat | .inr _ => 0
theorem unRw_k (b : List Nat) : unRw (kRw b) = b := by
  unfold unRw kRw
  rw [List.map_map]
  exact (List.map_congr_left fun x _ => Int.toNat_natCast x).trans (List.map_id b)
theorem kRw_inj {a b : List Nat} (h : kRw a = kRw b) : a = b := by rw [← unRw_k a, h, unRw_k]
def adV : V → Addr
  | .ref a => a
  | _ => 0
def tsL : List V → List (List Nat) → List (List Key × Addr)
  | v :: vs, b :: bs => (kRw b, adV v) :: tsL vs bs
  | _, _ => []
/-- a set of these tuples -/
def TsO (P : Program) (w : World) (a : Addr) (ws : List V) (cs : List (List Nat)) : HO := .ext fun h => SetT P w h a (tsL ws cs)
theorem tsL_len {H : Hp} : ∀ {vs : List V} {bs : List (List Nat)}, TpAt H vs bs → (tsL vs bs).length = bs.length
  | [], [], _ => rfl
  | _ :: _, _ :: _, ⟨_, t⟩ => by rw [tsL, List.length_cons, List.length_cons, tsL_len t]
theorem tsL_fst {H : Hp} : ∀ {vs : List V} {bs : List (List Nat)}, TpAt H vs bs → (tsL vs bs).map (·.1) = bs.map kRw
  | [], [], _ => rfl
  | _ :: _, _ :: _, ⟨_, t⟩ => by rw [tsL, List.map_cons, List.map_cons, tsL_fst t]
theorem tsL_mem {H : Hp} : ∀ {vs : List V} {bs : List (List Nat)}, TpAt H vs bs → ∀ x ∈ tsL vs bs, ∃ b ∈ bs, x.1 = kRw b ∧ H x.2 = some (.tup (nats b)) ∧ V.ref x.2 ∈ vs
  | [], [], _, x, hx => nomatch hx
  | _ :: _, b :: _, ⟨⟨a, e, q⟩, t⟩, x, hx => by
    rcases List.mem_cons.mp hx with rfl | hx
    · subst e
      exact ⟨b, List.mem_cons_self .., rfl, q, List.mem_cons_self ..⟩
    · obtain ⟨b', h1, h2, h3, h4⟩ := tsL_mem t x hx
      exact ⟨b', List.mem_cons_of_mem _ h1, h2, h3, List.mem_cons_of_mem _ h4⟩
theorem tp_of {H : Hp} : ∀ {L : List (List Key × Addr)}, (∀ x ∈ L, ∃ b, x.1 = kRw b ∧ H x.2 = some (.tup (nats b))) → TpAt H (L.map fun x => V.ref x.2) (L.map fun x => unRw x.1) ∧ tsL (L.map fun x => V.ref x.2) (L.map fun x => unRw x.1) = L
  | [], _ => ⟨trivial, rfl⟩
  | x :: L, h => by
    obtain ⟨b, e, q⟩ := h x (List.mem_cons_self ..)
    obtain ⟨h1, h2⟩ := tp_of fun y hy => h y (List.mem_cons_of_mem _ hy)
    have eb : unRw x.1 = b := by rw [e, unRw_k]
    refine ⟨⟨⟨x.2, rfl, by show H x.2 = some (.tup (nats (unRw x.1))); rw [eb]; exact q⟩, h1⟩, ?_⟩
    rw [List.map_cons, List.map_cons, tsL, h2, eb, ← e]
    rfl
section
variable {X : Cx} {pins : List (Addr × Obj)} {σ : St} {H : Hp} {s : Shared}
theorem key_ofT (I : Inv X pins σ H s) {b : List Nat} {a : Addr} (q : H a = some (.tup (nats b))) : IsTupleKey (mixKind X.prog X.w) s.heap (kRw b) a := by
  obtain ⟨its, rv, ⟨o, ho, hc, n, hd⟩, _⟩ := I.tuple (SqT.of q)
  rw [← kRw_v] at rv
  exact ⟨o, its.toArray, n, ho, hc, hd, items_are rv⟩
theorem tupI_of (I : Inv X pins σ H s) {b : List Nat} {a : Addr} (q : H a = some (.tup (nats b))) : TupI s.heap (.ref a) (b.map fun p => ((p : Nat) : Int)) := by
  obtain ⟨its, rv, ⟨o, ho, hc, n, hd⟩, _⟩ := I.tuple (SqT.of q)
  rw [nats_ints] at rv
  exact ⟨a, o, its.toArray, n, rfl, ho, hc, hd, by simpa using ints_of_vals rv⟩
end
def rSetTs (P : Program) (w : World) (K : PySem.W.Frag) : List V → Hp → VK → Prop := fun xs H Q => ∃ (a : Addr) (vs : List V) (bs : List (List Nat)), xs = [.ref a] ∧ SqL K H a vs ∧ TpAt H vs bs ∧ bs.length ≤ 64 ∧
  ∀ (l : Addr) (ws : List V) (cs : List (List Nat)), H l = none → TpAt H ws cs → cs.Nodup → (∀ c ∈ cs, c ∈ bs) → (∀ b ∈ bs, b ∈ cs) → cs.length ≤ bs.length → Q (.ref l) (upd H l (TsO P w l ws cs))
theorem call_setTs {X : Cx} (hc : X.calm = true) (hu : X.A.units + 64 < cLine) : CallR X (.type "set") (rSetTs X.prog X.w X.K) := by
  intro pins s σ H xs us Q I r h
  obtain ⟨a, vs, bs, rfl, hq, hP, h64, q⟩ := h
  obtain ⟨u, rfl, rx⟩ := vals1 r
  cases rx
  obtain ⟨its, r', pl, hz⟩ := I.list hq
  have hits : its = (tsL vs bs).map fun x => Value.ref x.2 := by
    clear q hq pl hz
    induction r' generalizing bs with
    | nil =>
      cases bs with
      | nil => rfl
      | cons _ _ => exact hP.elim
    | @cons v u vs us h t ih =>
      cases bs with
      | nil => exact hP.elim
      | cons b bs =>
        obtain ⟨⟨x, e, _⟩, hr⟩ := hP
        subst e
        cases h
        rw [tsL, List.map_cons, ← ih bs hr (by simp at h64; omega)]
        rfl
  have hlen := tsL_len hP
  refine set_list_t (vals := tsL vs bs) (I.ok.hd hc) (by omega) pl.isList (by rw [← hits]) (fun x hx => ?_) (by omega) fun h' tk L hS nd hof hall hle kp => ?_
  · obtain ⟨b, _, e, hb, _⟩ := tsL_mem hP x hx
    rw [e]
    exact key_ofT I hb
  · obtain ⟨t1, t2⟩ := tp_of (H := H) (L := L) fun x hx => by
      obtain ⟨b, _, e, hb, _⟩ := tsL_mem hP x (hof x hx)
      exact ⟨b, e, hb⟩
    have eC : (L.map fun x => unRw x.1).map kRw = L.map (·.1) := by
      rw [List.map_map]
      refine List.map_congr_left fun x hx => ?_
      obtain ⟨b, _, e, _⟩ := tsL_mem hP x (hof x hx)
      show kRw (unRw x.1) = x.1
      rw [e, unRw_k]
    refine ⟨.ref s.heap.objs.size, _, I.laid (t' := tk) (o := TsO X.prog X.w s.heap.objs.size (L.map fun x => V.ref x.2) (L.map fun x => unRw x.1)) (fun b o e => kp b o e) (Nat.le_refl _) ⟨by rw [t2]; exact hS, ?_, fun _ _ p k => p.stay k⟩, rfl, q _ _ _ (I.hok.fresh (Nat.le_refl _)) t1 ?_ (fun c hc' => ?_) (fun b hb => ?_) (by rw [List.length_map]; omega)⟩
    · obtain ⟨o, _, _, _, ho, _⟩ := hS
      exact ⟨o, ho⟩
    · rw [← eC, List.nodup_iff_pairwise_ne, List.pairwise_map] at nd
      exact nd.imp fun h e => h (by rw [e])
    · obtain ⟨x, hx, rfl⟩ := List.mem_map.mp hc'
      obtain ⟨b, hb, e, _⟩ := tsL_mem hP x (hof x hx)
      rw [e, unRw_k]
      exact hb
    · have h1 : kRw b ∈ (tsL vs bs).map (·.1) := by
        rw [tsL_fst hP]
        exact List.mem_map_of_mem hb
      obtain ⟨x, hx, e⟩ := List.mem_map.mp h1
      have h2 := hall x hx
      rw [e, ← eC] at h2
      obtain ⟨c, hc', e2⟩ := List.mem_map.mp h2
      rw [← kRw_inj e2]
      exact hc'
def vNat : V → Nat
  | .int i => i.toNat
  | _ => 0
theorem Inv.drew {X : Cx} {pins : List (Addr × Obj)} {σ : St} {H : Hp} {s : Shared} (I : Inv X pins σ H s) (d : Drawn) : Inv X pins σ H { s with drawn := d } := ⟨I.ok, I.os, I.bare, I.base, I.loc, I.cell, I.free, I.freeC, I.pin, I.hok, I.len⟩
def rSortTs (P : Program) (w : World) : List V → Hp → VK → Prop := fun xs H Q => ∃ (a : Addr) (ws : List V) (cs : List (List Nat)), xs = [.ref a] ∧ H a = some (TsO P w a ws cs) ∧ TpAt H ws cs ∧ cs.length < 64 ∧
  ∀ (l : Addr) (us : List V) (ds : List (List Nat)), H l = none → TpAt H us ds → ds.Perm cs → (∀ i, i + 1 < ds.length → lexB ((ds.getD (i + 1) []).map fun p => ((p : Nat) : Int)) ((ds.getD i []).map fun p => ((p : Nat) : Int)) = false) → Q (.ref l) (upd H l (.lst us))
theorem call_sortTs {X : Cx} (hc : X.calm = true) (hu : X.A.units + 64 < cLine) : CallR X (.builtin "sorted") (rSortTs X.prog X.w) := by
  intro pins s σ H xs us Q I r h
  obtain ⟨a, ws, cs, rfl, ha, hP, h64, q⟩ := h
  obtain ⟨u, rfl, rx⟩ := vals1 r
  cases rx
  have hS : SetT X.prog X.w s.heap a (tsL ws cs) := (I.hok a _ ha).1
  have hlen := tsL_len hP
  have hnum : ∀ x ∈ tsL ws cs, ∃ b ∈ cs, H x.2 = some (.tup (nats b)) := fun x hx => by
    obtain ⟨b, hb, _, hq, _⟩ := tsL_mem hP x hx
    exact ⟨b, hb, hq⟩
  let num : Addr → List Nat := fun x => match H x with | some (.tup zs) => zs.map vNat | _ => []
  have num_is : ∀ {x : Addr} {b : List Nat}, H x = some (.tup (nats b)) → num x = b := fun {x b} e => by
    show (match H x with | some (.tup zs) => zs.map vNat | _ => []) = b
    rw [e]
    show (nats b).map vNat = b
    unfold nats
    rw [List.map_map]
    exact (List.map_congr_left fun x _ => Int.toNat_natCast x).trans (List.map_id b)
  refine sorted_ts (I.ok.hd hc) hu hS (num := fun x => (num x).map fun p => ((p : Nat) : Int)) (fun x hx => ?_) (by omega) fun h' d tk r out e hp hs hr hle kp => ?_
  · obtain ⟨b, _, hq⟩ := hnum x hx
    rw [num_is hq]
    exact tupI_of I hq
  · have hout : ∀ x ∈ out, H x = some (.tup (nats (num x))) := fun x hx => by
      obtain ⟨y, hy, rfl⟩ := List.mem_map.mp (hp.mem_iff.mp hx)
      obtain ⟨b, _, hq⟩ := hnum y hy
      rw [num_is hq]
      exact hq
    have hT : TpAt H (out.map V.ref) (out.map num) := by
      clear hp hs hr
      induction out with
      | nil => exact trivial
      | cons x out ih => exact ⟨⟨x, rfl, hout x (List.mem_cons_self ..)⟩, ih fun y hy => hout y (List.mem_cons_of_mem _ hy)⟩
    have hpm : (out.map num).Perm cs := by
      have h1 := hp.map num
      rw [List.map_map] at h1
      refine h1.trans (List.Perm.of_eq ?_)
      have h2 := tsL_fst hP
      have h3 : (tsL ws cs).map (num ∘ fun x => x.2) = (tsL ws cs).map fun x => unRw x.1 := List.map_congr_left fun x hx => by
        obtain ⟨b, _, e1, hq, _⟩ := tsL_mem hP x hx
        show num x.2 = unRw x.1
        rw [num_is hq, e1, unRw_k]
      rw [h3]
      have h4 := congrArg (List.map unRw) h2
      rw [List.map_map, List.map_map] at h4
      refine h4.trans ?_
      exact (List.map_congr_left fun b _ => unRw_k b).trans (List.map_id cs)
    have hl2 : out.length = cs.length := by rw [← List.length_map (f := num), hpm.length_eq]
    refine ⟨.ref r, _, (I.drew d).laid (t' := tk) (o := .lst (out.map V.ref)) (fun b o e => kp b o e) hle ?_, rfl, q r _ _ (I.hok.fresh hle) hT hpm fun i hi => ?_⟩
    · refine ⟨by rw [List.length_map]; exact Nat.le_trans (show out.length ≤ 64 by omega) (by decide), out.map Value.ref, e, ?_, hr⟩
      clear hp hs hr hT hpm hl2 hout
      induction out with
      | nil => exact .nil
      | cons x out ih => exact .cons rfl ih
    · rw [List.length_map] at hi
      have gd : ∀ j, j < out.length → (out.map num).getD j [] = num (out.getD j 0) := fun j hj => by
        rw [List.getD_eq_getElem?_getD, List.getElem?_map, List.getElem?_eq_getElem hj, List.getD_eq_getElem?_getD, List.getElem?_eq_getElem hj]
        rfl
      rw [gd _ hi, gd _ (by omega)]
      exact hs i hi
end L2
/-! EvMt: min(list of tuples of numbers), min(one tuple, another): the first of the least. Behind EvLex, EvMin. -/
namespace L2
open PySem PySem.Spec PyProof.Rows
section
variable {prog : Program} {w : World} {A : Around} {R : Result → Shared → Prop} {I : Addr} {fp wr : List Addr} {n : Nat} {P : Nat → Value → Prop} {St : Nat → Heap → Prop}
theorem lt_tups {s : Shared} {E : Value → Shared → Prop} (hu : A.units < cLine) {v v' : Value} {x y : List Int} {Q : Value → Shared → Prop} (hv : TupI s.heap v x) (hv' : TupI s.heap v' y) (h : Q (.bool (lexB x y)) s) : wpAny (model prog w) A (richCompare .Lt v v') Q E s := by
  have T1 := hv.typeIs
  have T2 := hv'.typeIs
  have h1 := hv
  have h2 := hv'
  obtain ⟨a, _, _, _, rfl, _⟩ := hv
  obtain ⟨b, _, _, _, rfl, _⟩ := hv'
  exact wpAny_richCompare_same_room (op := .Lt) T1 T2 F.slot_tuple_lt (call_tuple_lt h1 h2 ⟨by nofun, h⟩) hu
/-- the least so far, none of those that were met being less -/
theorem minT_go (W : Walks prog w A.in1 I fp wr n P St) {S : Addr} (hS : S ∉ fp) (hu : A.units + 1 < cLine) {num : Nat → List Int} {KH : Heap → Prop} (keep : ∀ h h', KH h → (∀ b o, b ∉ wr → b ≠ S → h.get? b = some o → h'.get? b = some o) → KH h') (isT : ∀ h j v, KH h → j < n → P j v → TupI h v (num j)) :
    ∀ (k j : Nat) (s : Shared) (c bi : Nat) (vb : Value), n = j + k → bi < j → P bi vb → (∀ i, i < j → lexB (num i) (num bi) = false) → St j s.heap → KH s.heap → s.heap.get? S = some { cls := .type "list", dict := none, data := .seq #[vb, vb] c, slots := #[] } →
      (∀ v bi h' tk, bi < n → P bi v → (∀ i, i < n → lexB (num i) (num bi) = false) → (∀ b o, b ∉ wr → b ≠ S → s.heap.get? b = some o → h'.get? b = some o) → R (.ok (.ret v)) { s with heap := h', toks := tk }) →
      codeAny (model prog w) A (.builtin "min.loop" ⟨[.ref I, .none, .ref S], []⟩) R s
  | 0, j, s, c, bi, vb, hn, hb, hP, hle, hst, hK, hS0, hR => by
    refine codeAny_builtin PySem.F.entry_min_loop ?_
    rw [Around.under_plainId PySem.F.plain_min_loop _]
    show wpAny _ A.in1 (seqItems? (.ref S) >>= _) _ _ s
    refine wpAny_bind (wpAny_seqItems hS0 rfl ?_)
    show wpAny _ A.in1 (tryCatch (pyNext (.ref I)) _ >>= _) _ _ s
    refine wpAny_bind (wpAny_tryCatch (W.done s _ _ (by rw [hn]; exact hst) fun h' tk kp => ?_))
    show wpAny _ A.in1 (updateSeq S (fun _ => #[]) >>= _) _ _ _
    refine wpAny_bind (wpAny_updateSeq (kp S _ (fun z => hS (W.sub _ z)) hS0) rfl (wpAny_bind (wpAny_letGo (wpAny_pure ?_))))
    exact hR vb bi _ tk (by omega) hP (fun i hi => hle i (by omega)) fun b o b1 b2 e => (Heap.get?_update_other _ _ (Ne.symm b2)).trans (kp b o b1 e)
  | k + 1, j, s, c, bi, vb, hn, hb, hP, hle, hst, hK, hS0, hR => by
    refine codeAny_builtin PySem.F.entry_min_loop ?_
    rw [Around.under_plainId PySem.F.plain_min_loop _]
    show wpAny _ A.in1 (seqItems? (.ref S) >>= _) _ _ s
    refine wpAny_bind (wpAny_seqItems hS0 rfl ?_)
    show wpAny _ A.in1 (tryCatch (pyNext (.ref I)) _ >>= _) _ _ s
    refine wpAny_bind (wpAny_tryCatch (W.item j s _ _ (by omega) hst fun v h' tk hv hst' kp => ?_))
    have hS1 := kp S _ (fun z => hS (W.sub _ z)) hS0
    have hK1 : KH h' := keep _ _ hK fun b o b1 _ e => kp b o b1 e
    show wpAny _ A.in1 (tryCatch (holding [v, v] (richCompare .Lt v vb >>= _)) _ >>= _) _ _ _
    refine wpAny_bind (wpAny_tryCatch (wpAny_holding (wpAny_bind (lt_tups (s := { s with heap := h', toks := tk }) (show A.units + 1 < cLine from hu) (isT h' j v hK1 (by omega) hv) (isT h' bi vb hK1 (by omega) hP) (wpAny_bind (wpAny_holding (wpAny_truthy_bool (wpAny_bind (wpAny_letGo (wpAny_pure ?_))))))))))
    cases hc : lexB (num j) (num bi) with
    | true =>
      simp only [if_true]
      refine wpAny_bind (wpAny_updateSeq hS1 rfl (wpAny_bind (wpAny_letGo ?_)))
      rw [minName]
      refine wpAny_pure ⟨plainId_quiet PySem.F.plain_min_loop _, minT_go W hS hu keep isT k (j + 1) _ _ j v (by omega) (Nat.lt_succ_self _) hv (fun i hi => ?_) (W.frame _ _ _ hst' fun b hbf o e => (Heap.get?_update_other _ _ (fun x : S = b => hS (x ▸ hbf))).trans e) (keep _ _ hK1 fun b o _ b2 e => (Heap.get?_update_other _ _ (Ne.symm b2)).trans e) (Heap.get?_update_self _ hS1 rfl) fun v' b' h2 tk2 q1 q2 q3 kp2 => hR v' b' h2 tk2 q1 q2 q3 fun b o b1 b2 e => kp2 b o b1 b2 ((Heap.get?_update_other _ _ (Ne.symm b2)).trans (kp b o b1 e))⟩
      by_cases hij : i = j
      · rw [hij]
        exact lex_irr _
      · cases hz : lexB (num i) (num j) with
        | false => rfl
        | true =>
          have := lex_trans hz hc
          rw [hle i (by omega)] at this
          cases this
    | false =>
      simp only [Bool.false_eq_true, if_false]
      refine wpAny_bind (wpAny_letGo ?_)
      rw [minName]
      refine wpAny_pure ⟨plainId_quiet PySem.F.plain_min_loop _, minT_go W hS hu keep isT k (j + 1) _ c bi vb (by omega) (by omega) hP (fun i hi => ?_) hst' hK1 hS1 fun v' b' h2 tk2 q1 q2 q3 kp2 => hR v' b' h2 tk2 q1 q2 q3 fun b o b1 b2 e => kp2 b o b1 b2 (kp b o b1 e)⟩
      by_cases hij : i = j
      · rw [hij]
        exact hc
      · exact hle i (by omega)
theorem minT_begins (W : Walks prog w A.in1 I fp wr n P St) {S : Addr} (hS : S ∉ fp) (hu : A.units + 1 < cLine) {num : Nat → List Int} {KH : Heap → Prop} (keep : ∀ h h', KH h → (∀ b o, b ∉ wr → b ≠ S → h.get? b = some o → h'.get? b = some o) → KH h') (isT : ∀ h j v, KH h → j < n → P j v → TupI h v (num j)) (hn : 0 < n) {s : Shared} {c : Nat} (hst : St 0 s.heap) (hK : KH s.heap) (hS0 : s.heap.get? S = some { cls := .type "list", dict := none, data := .seq #[] c, slots := #[] })
    (hR : ∀ v bi h' tk, bi < n → P bi v → (∀ i, i < n → lexB (num i) (num bi) = false) → (∀ b o, b ∉ wr → b ≠ S → s.heap.get? b = some o → h'.get? b = some o) → R (.ok (.ret v)) { s with heap := h', toks := tk }) :
    codeAny (model prog w) A (.builtin "min.loop" ⟨[.ref I, .none, .ref S], []⟩) R s := by
  refine codeAny_builtin PySem.F.entry_min_loop ?_
  rw [Around.under_plainId PySem.F.plain_min_loop _]
  show wpAny _ A.in1 (seqItems? (.ref S) >>= _) _ _ s
  refine wpAny_bind (wpAny_seqItems hS0 rfl ?_)
  show wpAny _ A.in1 (tryCatch (pyNext (.ref I)) _ >>= _) _ _ s
  refine wpAny_bind (wpAny_tryCatch (W.item 0 s _ _ hn hst fun v h' tk hv hst' kp => ?_))
  have hS1 := kp S _ (fun z => hS (W.sub _ z)) hS0
  have hK1 : KH h' := keep _ _ hK fun b o b1 _ e => kp b o b1 e
  show wpAny _ A.in1 (updateSeq S (fun _ => #[v, v]) >>= _) _ _ _
  refine wpAny_bind (wpAny_updateSeq hS1 rfl ?_)
  rw [minName]
  refine wpAny_pure ⟨plainId_quiet PySem.F.plain_min_loop _, minT_go W hS hu keep isT (n - 1) 1 _ _ 0 v (by omega) (Nat.lt_succ_self _) hv (fun i hi => ?_) (W.frame _ _ _ hst' fun b hbf o e => (Heap.get?_update_other _ _ (fun x : S = b => hS (x ▸ hbf))).trans e) (keep _ _ hK1 fun b o _ b2 e => (Heap.get?_update_other _ _ (Ne.symm b2)).trans e) (Heap.get?_update_self _ hS1 rfl) fun v' b' h2 tk2 q1 q2 q3 kp2 => hR v' b' h2 tk2 q1 q2 q3 fun b o b1 b2 e => kp2 b o b1 b2 ((Heap.get?_update_other _ _ (Ne.symm b2)).trans (kp b o b1 e))⟩
  rw [show i = 0 by omega]
  exact lex_irr _
end
section
variable {prog : Program} {w : World} {A : Around} {E : Value → Shared → Prop} {s : Shared}
/-- tuples of these numbers, at addresses that stood before -/
theorem tupI_stay {h h' : Heap} {v : Value} {xs : List Int} (x : TupI h v xs) (k : ∀ b o, h.get? b = some o → h'.get? b = some o) : TupI h' v xs := by
  obtain ⟨a, o, its, n, e, ho, r⟩ := x
  exact ⟨a, o, its, n, e, k a o ho, r⟩
def TupsOf (h0 h : Heap) (items : Array Value) (num : Nat → List Int) : Prop := ∀ i v, items[i]? = some v → TupI h v (num i) ∧ ∃ a, v = .ref a ∧ a < h0.objs.size
theorem TupsOf.stay {h0 h h' : Heap} {items : Array Value} {num : Nat → List Int} (x : TupsOf h0 h items num) (k : ∀ b o, b < h0.objs.size → h.get? b = some o → h'.get? b = some o) : TupsOf h0 h' items num := fun i v hv => by
  obtain ⟨⟨a, o, its, n, rfl, ho, r⟩, b, e, hb⟩ := x i v hv
  cases e
  exact ⟨⟨_, o, its, n, rfl, k _ o hb ho, r⟩, _, rfl, hb⟩
theorem min_listT {l : Addr} {items : Array Value} {num : Nat → List Int} {Q : Value → Shared → Prop} (hh : A.handled = none) (hu : A.units + 8 < cLine) (hl : s.heap.IsList l items) (hk : ∀ i v, items[i]? = some v → TupI s.heap v (num i)) (hn : 0 < items.size)
    (h : ∀ v bi h' tk, items[bi]? = some v → (∀ i, i < items.size → lexB (num i) (num bi) = false) → (∀ b o, s.heap.get? b = some o → h'.get? b = some o) → Q v { s with heap := h', toks := tk }) : wpAny (model prog w) A (call (.builtin "min") [.ref l]) Q E s := by
  have hlt : l < s.heap.objs.size := by
    obtain ⟨_, e, _⟩ := hl
    exact Heap.lt_size e
  refine call_function_tree PySem.F.kind_min PySem.F.plain_min PySem.F.entry_min (PySem.F.args_min1 _) ?_
  show wpAny _ A.in1 (Builtin.Builtins.bindParams "min" ["key", "default"] 0 ⟨[], []⟩ >>= _) _ _ s
  refine wpAny_bind (wpAny_of_eq (a := [none, none]) rfl (wpAny_bind (wpAny_pure (wpAny_bind (wpAny_pyIter_list hl ?_)))))
  refine wpAny_bind (wpAny_newObj_type ?_)
  rw [minName]
  have z1 : (s.heap.push { cls := .type "list_iterator", data := .fields #[.ref l, .int 0 0] }).objs.size = s.heap.objs.size + 1 := Heap.size_push ..
  have nf : (s.heap.push { cls := .type "list_iterator", data := .fields #[.ref l, .int 0 0] }).objs.size ∉ [s.heap.objs.size, l] := fun z => by
    rw [z1] at z
    rcases List.mem_cons.mp z with z | z
    · exact Nat.ne_of_gt (Nat.lt_succ_self _) z
    · exact Nat.ne_of_gt (Nat.lt_succ_of_lt hlt) (List.mem_singleton.mp z)
  have W := Walks.list (prog := prog) (w := w) (A := A.in1) hh s.heap.objs.size l (Nat.ne_of_lt hlt) items
  refine wpAny_pure ⟨plainId_quiet PySem.F.plain_min_loop _, minT_begins W nf (by omega) (KH := fun h => TupsOf s.heap h items num) (fun h1 h2 x k => x.stay fun b o hb e => k b o (fun z => Nat.ne_of_lt hb (List.mem_singleton.mp z)) (fun z => by rw [z, z1] at hb; omega) e) (fun h j v x _ hv => (x j v hv).1) hn ⟨⟨_, Heap.get?_push_of_some _ (Heap.get?_push_size _ rfl), rfl, rfl⟩, (hl.push _).push _⟩ (fun i v hv => ?_) (Heap.get?_push_size _ rfl) fun v bi h' tk q1 q2 q3 kp => ?_⟩
  · have := hk i v hv
    refine ⟨tupI_stay this fun b o e => Heap.get?_push_of_some _ (Heap.get?_push_of_some _ e), ?_⟩
    obtain ⟨a, o, _, _, e, ho, _⟩ := this
    exact ⟨a, e, Heap.lt_size ho⟩
  · refine h v bi h' tk q2 q3 fun b o e => kp b o (fun z => Nat.ne_of_lt (Heap.lt_size e) (List.mem_singleton.mp z)) (fun z => Nat.ne_of_lt (Nat.lt_succ_of_lt (Heap.lt_size e)) (z.trans z1)) (Heap.get?_push_of_some _ (Heap.get?_push_of_some _ e))
end
/-! ### the rules -/
def zs (b : List Nat) : List Int := b.map fun p => ((p : Nat) : Int)
theorem tupI_at {X : Cx} {pins : List (Addr × Obj)} {σ : St} {H : Hp} {s : Shared} (I : Inv X pins σ H s) {b : List Nat} {a : Addr} (q : H a = some (.tup (nats b))) : TupI s.heap (.ref a) (zs b) := by
  obtain ⟨its, rv, ⟨o, ho, hc, n, hd⟩, _⟩ := I.tuple (SqT.of q)
  rw [nats_ints] at rv
  exact ⟨a, o, its.toArray, n, rfl, ho, hc, hd, ints_of_vals rv⟩
/-- min(list of tuples of numbers) -/
def rMinT (K : PySem.W.Frag) : List V → Hp → VK → Prop := fun xs H Q => ∃ (a : Addr) (vs : List V) (bs : List (List Nat)), xs = [.ref a] ∧ SqL K H a vs ∧ TpAt H vs bs ∧ 0 < bs.length ∧
  ∀ (t : Addr) (b : List Nat), b ∈ bs → H t = some (.tup (nats b)) → (∀ c ∈ bs, lexB (zs c) (zs b) = false) → Q (.ref t) H
theorem call_minT {X : Cx} (hc : X.calm = true) (hu : X.A.units + 64 < cLine) : CallR X (.builtin "min") (rMinT X.K) := by
  intro pins s σ H xs us Q I r h
  obtain ⟨a, vs, bs, rfl, hq, hP, h0, q⟩ := h
  obtain ⟨u, rfl, rx⟩ := vals1 r
  cases rx
  obtain ⟨its, r', pl, hz⟩ := I.list hq
  have hlen := r'.length
  have hpl := hP.len
  have hat : ∀ i v, its.toArray[i]? = some v → ∃ (t : Addr) (b : List Nat), v = Value.ref t ∧ bs[i]? = some b ∧ H t = some (.tup (nats b)) := fun i v hv => by
    have hi : i < vs.length := by
      have := (Array.getElem?_eq_some_iff.mp hv).1
      rw [List.size_toArray] at this
      omega
    obtain ⟨t, b, e1, e2, e3⟩ := hP.get (List.getElem?_eq_getElem hi)
    refine ⟨t, b, ?_, e2, e3⟩
    have hr := r'.get (i := i) (List.getElem?_eq_getElem hi)
    obtain ⟨u, hu1, hu2⟩ := hr
    rw [e1] at hu2
    rw [List.getElem?_toArray, hu1] at hv
    cases hv
    exact hu2
  refine min_listT (num := fun i => zs (bs.getD i [])) (I.ok.hd hc) (by omega) pl.isList (fun i v hv => ?_) (by rw [List.size_toArray]; omega) fun v bi h' tk q1 q2 kp => ?_
  · obtain ⟨t, b, rfl, hb, ht⟩ := hat i v hv
    rw [List.getD_eq_getElem?_getD, hb]
    exact tupI_at I ht
  · obtain ⟨t, b, rfl, hb, ht⟩ := hat bi v q1
    refine ⟨.ref t, H, I.kept (t' := tk) kp, rfl, q t b (List.mem_of_getElem? hb) ht fun c hc' => ?_⟩
    obtain ⟨i, hi, rfl⟩ := List.mem_iff_getElem.mp hc'
    have := q2 i (by rw [List.size_toArray]; omega)
    rw [List.getD_eq_getElem?_getD, List.getElem?_eq_getElem hi, List.getD_eq_getElem?_getD, hb] at this
    exact this
end L2
/-! EvSdf: d.setdefault(k, v), the keys tuples: what stands there stays, a new key goes to the end. Behind EvDit. -/
namespace PySem
section
variable {prog : Program} {w : World} {K : Type} [DecidableEq K] {knd : HeapKind prog w K} {A : Around} {E : Value → Shared → Prop} {s : Shared}
end
end PySem
namespace L2
open PySem PySem.Spec PyProof.Rows
def tBMDT (r : V → List V → Hp → VK → Prop) (to : TE) (t : TA) : TE := fun σ H Q => to σ H fun x H1 => (∃ d kvs, x = .ref d ∧ H1 d = some (.dT kvs)) ∧ t σ H1 fun xs H2 => r x xs H2 Q
section
variable {X : Cx} {o e : Expr} {es : List Expr} {to : TE} {t : TA} {apos cpos : Pos}
end
end L2
/-! EvGt: d.get(k, x), the keys tuples. Behind EvSdf. -/
namespace L2
open PySem PySem.Spec PyProof.Rows
/-- d.get(k, x) -/
def rGetT : V → List V → Hp → VK → Prop := fun x vs H Q => ∃ (d b : Addr) (kvs : List (List Key × V)) (k : List Key) (z : V), x = .ref d ∧ vs = [.ref b, z] ∧ H d = some (.dT kvs) ∧ H b = some (.tup (k.map kV)) ∧ Q ((valV kvs k).getD z) H
section
variable {X : Cx} {o e : Expr} {es : List Expr} {to : TE} {t : TA} {apos cpos : Pos}
theorem qe_getT (hu : X.A.units + 1 < cLine) (ho : QE X o to) (ha : QA X (e :: es) t)
    (hbase : attributeBase o "get" X.env (eval o X.env) = eval o X.env := by rfl) (hfew : ((backTo cpos (starEach (e :: es) X.env)).all (fun x => !x.1) && (backToKw cpos (keywordEach [] X.env)).all (fun x => x.1.isSome) && decide ((e :: es).length + ([] : List Keyword).length + (if ([] : List Keyword).isEmpty then 0 else 1) < 30)) = true := by rfl)
    (hline : (apos.endLine == cpos.line) = true := by rfl) (hs : starEach (e :: es) X.env = (false, eval e X.env) :: starEach es X.env := by rfl) (hplain : (backTo cpos (starEach es X.env)).any (·.1) = false := by rfl) : QE X (.Call (.Attribute o "get" apos) (e :: es) [] cpos) (tBMDT rGetT to t) := ⟨by
  intro pins s σ H Q I h
  refine wpAny_Call_method_late hbase hfew hline rfl (thn (ho.h pins s σ H _ I h) fun v s1 ⟨x, H1, I1, r1, ty, q1⟩ => ?_)
  obtain ⟨d, kvs, rfl, hq⟩ := ty
  cases r1
  obtain ⟨z, y, xs, rel, dd⟩ := dt_of I1.hok hq
  refine ⟨"dict", "dict.get", PySem.F.plainAttrs_dict, PySem.F.slot_dict_get, PySem.F.type_dict_get, dd.typeIs, fun b eb => ?_, ?_⟩
  · cases eb
    obtain ⟨ob, _, _, h1, h2, _⟩ := dd
    exact ⟨ob, h1, h2.2.1⟩
  have hA := ha.h cpos pins s1 σ H1 _ I1 q1
  rw [hs] at hA ⊢
  refine Calls.callWith_builtin (by show (false || (backTo cpos (starEach es X.env)).any (·.1)) = false; rw [hplain]; rfl) (Calls.evalArgs_plain (thn hA fun us s2 ⟨ws, H2, I2, r2, q2⟩ => ?_))
  obtain ⟨d', b, kvs', k, zz, e1, rfl, hq2, hb2, q3⟩ := q2
  cases e1
  cases r2 with
  | cons ry rr =>
    cases rr with
    | cons rd rr =>
      cases rr
      cases (show _ = Value.ref b from ry)
      obtain ⟨z, hd, xs, rel, dd⟩ := dt_of I2.hok hq2
      exact call_meetsIn PySem.F.slot_dict_get dd.typeIs PySem.F.entry_dict_get (PySem.F.args_dict_get_3 _ _ _) (meetsH_dict_get_default (tupleKind (mixKind X.prog X.w)) d b hd _) ⟨tupleKind_room_in1 hu, k, xs, key_of I2.hok hb2, dd, ⟨_, H2, I2.tok _, (rel.val k).getD rd, q3⟩⟩⟩
end
end L2
/-! EvDk: a dict walked by its keys, whatever they are. Behind EvDit. -/
namespace PySem
section
variable {prog : Program} {w : World} {A : Around} {E : Value → Shared → Prop} {s : Shared}
end
end PySem
/-! EvLd: list(d), d a dict whose keys are tuples. Behind EvDk. -/
namespace PySem
section
variable {prog : Program} {w : World} {A : Around} {E : Value → Shared → Prop} {s : Shared}
end
end PySem
namespace L2
open PySem PySem.Spec PyProof.Rows
end L2
/-! EvSd: sorted(d), d a dict whose keys are tuples of numbers. Behind EvLd, EvTs. -/
namespace L2
open PySem PySem.Spec PyProof.Rows
section
variable {prog : Program} {w : World} {A : Around} {E : Value → Shared → Prop} {s : Shared}
end
end L2
/-! EvRin: a number in a range that is just made. Behind EvLay. -/
namespace L2
open PySem PySem.Spec PyProof.Rows
end L2
/-! EvNil: a list != [], whatever stands in it. Behind EvLay. -/
namespace L2
open PySem PySem.Spec PyProof.Rows
end L2
namespace L2
open PySem PySem.Spec PyProof.Rows
end L2
/-! EvRev: t[::-1] and reversed(t) of a tuple t. Behind EvLay. -/
namespace L2
open PySem PySem.Spec PyProof.Rows
section
variable {prog : Program} {w : World} {A : Around} {E : Value → Shared → Prop} {s : Shared}
end
/-! ### reversed(t) -/
section
variable {prog : Program} {w : World} {A : Around} {E : Value → Shared → Prop} {s : Shared}
end
end L2
/-! EvTr: tuple(range(i, j)). Behind EvLay. -/
namespace L2
open PySem PySem.Spec PyProof.Rows
section
variable {prog : Program} {w : World} {A : Around} {E : Value → Shared → Prop} {s : Shared}
end
end L2
/-! EvLrn: list(range(i, j)); data not in a tuple of data. Behind EvTr. -/
namespace L2
open PySem PySem.Spec PyProof.Rows
end L2
/-! EvExt: list.extend by a tuple. Behind EvLay. -/
namespace L2
open PySem PySem.Spec PyProof.Rows
end L2
namespace E1
open PySem L2
abbrev pw : Program := PySem.Challenge.pw_evenmeet_k40_whole_bases_taken_so_often
def top (i : Nat) : Stmt := pw.main.body.getD i (.Pass ⟨0, 0, 0, 0⟩)
abbrev sWhole : Stmt := top 5
abbrev sIsBelow : Stmt := top 6
abbrev sIsPointsNumber : Stmt := top 10
abbrev sSortedLayout : Stmt := top 11
abbrev sRenamed : Stmt := top 12
abbrev sBlockRenamed : Stmt := top 13
abbrev sInOrder : Stmt := top 14
abbrev sIsRow : Stmt := top 15
abbrev sAreUnlikePoints : Stmt := top 16
abbrev sDeveloped : Stmt := top 18
abbrev sAllTurned : Stmt := top 19
abbrev sTurned : Stmt := top 20
abbrev sMustBeBases : Stmt := top 21
abbrev sDifferences : Stmt := top 22
abbrev sTurnsTold : Stmt := top 23
abbrev sTimesOfEach : Stmt := top 24
abbrev sCell : Stmt := top 26
abbrev sLNumbers : Stmt := top 27
abbrev sLBase : Stmt := top 28
abbrev sLGcd : Stmt := top 29
abbrev sLMoved : Stmt := top 30
abbrev sLDevelopedAgain : Stmt := top 31
abbrev sLPairsRight : Stmt := top 32
abbrev sLAlike : Stmt := top 33
abbrev sLaw : Stmt := top 34
section
variable {P : Program} {w : World} {K : PySem.W.Frag} {mg : Str → Option Value} {base : Heap} {M C : Addr}
/-- a rising block below p -/
structure Bls (p : Nat) (b : List Nat) : Prop where
  so : b.Pairwise (· < ·)
  lt : ∀ x ∈ b, x < p
theorem Bls.nd {p : Nat} {b : List Nat} (h : Bls p b) : b.Nodup := by
  rw [List.nodup_iff_pairwise_ne]
  exact h.so.imp fun z => Nat.ne_of_lt z
theorem Bls.blk {p : Nat} {b : List Nat} (h : Bls p b) : Blk p b := ⟨h.nd, h.lt⟩
theorem Bls.len {p : Nat} {b : List Nat} (h : Bls p b) : b.length ≤ p := h.blk.len
theorem Bls.mono {p q : Nat} {b : List Nat} (h : Bls p b) (l : p ≤ q) : Bls q b := ⟨h.so, fun x hx => Nat.lt_of_lt_of_le (h.lt x hx) l⟩
theorem Bls.up {i : Nat} {b : List Nat} (hb : Bls i b) : Bls (i + 1) b := hb.mono (Nat.le_succ i)
theorem Bls.snoc {i : Nat} {b : List Nat} (hb : Bls i b) : Bls (i + 1) (b ++ [i]) := by
  refine ⟨List.pairwise_append.mpr ⟨hb.so, by simp, fun x hx y hy => ?_⟩, hb.blk.snoc.lt⟩
  rw [List.mem_singleton.mp hy]
  exact hb.lt x hx
theorem blk_sorted {m : Nat} {b : List Nat} (h : Blk m b) (hs : b.Pairwise (· ≤ ·)) : Bls m b := by
  refine ⟨?_, h.lt⟩
  have hn := List.nodup_iff_pairwise_ne.mp h.nd
  exact (hs.and hn).imp fun ⟨z1, z2⟩ => Nat.lt_of_le_of_ne z1 z2
theorem alls_snoc {m : Nat} {bs : List (List Nat)} {b : List Nat} (h : ∀ b ∈ bs, Bls m b) (hb : Bls m b) : ∀ b' ∈ bs ++ [b], Bls m b' := fun b' hb' => by
  rcases List.mem_append.mp hb' with z | z
  · exact h b' z
  · rw [List.mem_singleton.mp z]
    exact hb
theorem scWhole : FnScope ["thing"] ["thing"] (defScope sWhole) := ⟨rfl, rfl, rfl, by decide +kernel, rfl, by decide +kernel, by decide +kernel⟩
theorem ok_whole {f : Addr} {fd : FuncData} (F : Fun K "is_whole" "is_whole" sWhole f fd) (T : TxtB mg) : FnOk P w K mg base CX0 1 f fd ["thing"] (spWhole K) := by
  refine F.okQ scWhole (fun vs H Q E h => ?_) (fun cdv A outer s H vs Q E hr h => ?_)
  · obtain ⟨v, b, rfl, _⟩ := h
    rfl
  · obtain ⟨v, b, rfl, hw, k⟩ := h
    refine ⟨_, qss_one (qs_ret (qe_and (qe_callB call_isinst (by rfl) T.isi PyProof.Rows.boot_isinstance (qac (qv 0) (qac (qe_bltn (v := .ty "int") rfl T.int PyProof.Rows.boot_int rfl) qa_nil)))
      (qe_one (qe_not (qe_callB call_isinst (by rfl) T.isi PyProof.Rows.boot_isinstance (qac (qv 0) (qac (qe_bltn (v := .ty "bool") rfl T.bool PyProof.Rows.boot_bool rfl) qa_nil))))))), ?_⟩
    cases hw with
    | int i =>
      refine ⟨_, rfl, _, _, _, _, rfl, .int i, rel_ty (kit_int_int K), true, rfl, iteT ?_⟩
      exact ⟨_, rfl, _, _, _, _, rfl, .int i, rel_ty (kit_int_bool K), false, rfl, k⟩
    | bl x =>
      refine ⟨_, rfl, _, _, _, _, rfl, .bl x, rel_ty (kit_bool_int K), true, rfl, iteT ?_⟩
      exact ⟨_, rfl, _, _, _, _, rfl, .bl x, rel_ty (kit_bool_bool K), true, rfl, k⟩
    | odd ty kk =>
      exact ⟨_, rfl, _, _, _, _, rfl, ty, rel_ty kk, false, rfl, iteF k⟩
def spBelow : Sp := fun vs H Q _ => ∃ x m : Int, vs = [.int x, .int m] ∧ 0 ≤ x ∧ x < m ∧ Q (.bl true) H
theorem scIsBelow : FnScope ["thing", "many"] ["thing", "many"] (defScope sIsBelow) := ⟨rfl, rfl, rfl, by decide +kernel, rfl, by decide +kernel, by decide +kernel⟩
theorem ok_below {f : Addr} {fd : FuncData} (F : Fun K "is_below" "is_below" sIsBelow f fd) (pWhole : Pm P w K mg base CX0 1 "is_whole" ["thing"] (spWhole K)) : FnOk P w K mg base CX0 2 f fd ["thing", "many"] spBelow := by
  refine F.okQ scIsBelow (fun vs H Q E h => ?_) (fun cdv A outer s H vs Q E hr1 h => ?_)
  · obtain ⟨x, m, rfl, _⟩ := h
    rfl
  · obtain ⟨x, m, rfl, h0, h1, q⟩ := h
    refine ⟨_, (qss_one (qs_ret (qe_and (qe_callP pWhole hr1 rfl pass0 (qac (qv 0) qa_nil)) (qe_one (qe_chain op_le op_lt qe_int (qv 0) (qv 1)))))), ?_⟩
    refine ⟨_, rfl, .int x, true, rfl, .int x, true, rfl, iteT ?_⟩
    refine ⟨_, rfl, _, _, rfl, rfl, _, rfl, ifT h0 ?_⟩
    exact ⟨_, rfl, _, _, rfl, rfl, blT h1 q⟩
def spCell2 (K : PySem.W.Frag) : Sp := fun vs H Q _ => ∃ (a : Addr) (ns : List Int) (k : Nat), vs = [.ref a, .int (k : Int)] ∧ SqL K H a (ns.map V.int) ∧ k ≤ 1000 ∧ ∀ (z : Int) (H' : Hp), Same H H' → Q (.int z) H'
theorem scCell : FnScope ["_law_script", "_law_k", "_law_state", "_law_cell_here"] ["_law_script", "_law_k"] (defScope sCell) := ⟨rfl, rfl, rfl, by decide +kernel, rfl, by decide +kernel, by decide +kernel⟩
theorem ok_cell2 {f : Addr} {fd : FuncData} (F : Fun K "_law_cell" "_law_cell" sCell f fd) (T : TxtB mg) : FnOk P w K mg base CX0 1 f fd ["_law_script", "_law_k"] (spCell2 K) := by
  refine F.okQ scCell (fun vs H Q E h => ?_) (fun cdv A outer s H vs Q E hr h => ?_)
  · obtain ⟨a, ns, k, rfl, _⟩ := h
    rfl
  · obtain ⟨a, ns, k, rfl, hS, hk, q⟩ := h
    refine ⟨_, (qss_cons (qs_if (qt_cmpR op_lt (qv 1) (qe_callB call_len_seq (by rfl) T.len PySem.boot_len (qac (qv 0) qa_nil)) (nomark _)) (qss_one (qs_ret (qe_ix ix_list (qv 0) (qv 1) (fun _ _ => rfl)))) qss_nil)
      (qss_cons (qs_set (i := 2) scCell.nd rfl (Or.inl rfl) (qe_op op_mod (qe_op op_mul qe_int (qe_op op_add (qe_op op_add (qe_op op_mul (qv 1) (qv 1)) (qe_op op_mul qe_int (qv 1))) qe_int)) qe_int))
      (qss_cons (qs_for PassesOwn.never rfl (qi_list (qe_slice sl_list (qv 0) qo_none (qo_some qe_int))) (qg_name (i := 3) scCell.nd rfl (Or.inl rfl))
        (qss_one (qs_set (i := 2) scCell.nd rfl (Or.inl rfl) (qe_op op_mod (qe_op op_add (qe_op op_mul (qv 2) qe_int) (qv 3)) qe_int))))
      (qss_one (qs_ret (qv 2)))))), ?_⟩
    refine ⟨_, rfl, _, rfl, a, _, rfl, .inl hS, _, _, rfl, rfl, _, rfl, ?_⟩
    refine ite2 (fun hc => ?_) (fun hc => ?_)
    · have hlt : k < ns.length := by
        have := of_decide_eq_true hc
        rw [List.length_map] at this
        omega
      refine ⟨_, rfl, _, rfl, a, _, _, V.int ns[k], rfl, rfl, hS, atI_nat (by rw [List.getElem?_map, List.getElem?_eq_getElem hlt]; rfl), q _ _ (Same.refl _)⟩
    · refine ⟨_, rfl, _, rfl, _, _, rfl, rfl, .inr ⟨by omega, by omega⟩, _, rfl, _, _, rfl, rfl, .inl ⟨by decide, by decide⟩, _, _, rfl, rfl, _, _, rfl, rfl, _, _, rfl, rfl, .inl ⟨by decide, by decide⟩, _, _, rfl, rfl, by show (0 : Int) < 2147483647; decide, ?_⟩
      refine ⟨_, rfl, _, rfl, a, _, rfl, hS, fun l hl => ?_⟩
      refine ⟨l, rfl, ⟨_, SqL.of upd_same⟩, for_list (K := K) (a := l) (xs := cutV (ns.map V.int) none (some 3)) (fun i σ H2 => H2 = upd H l (.lst (cutV (ns.map V.int) none (some 3))) ∧ ∃ (z : Int) (x3 : Option V), σ = [some (.ref a), some (.int k), some (.int z), x3]) ⟨rfl, _, _, rfl⟩ (fun i σ H2 _ ⟨e, _⟩ => SqL.of (e ▸ upd_same)) ?_ ?_⟩
      · rintro i v σ H2 hi ⟨rfl, z, x3, rfl⟩
        obtain ⟨c, rfl⟩ := cut_ints v (List.mem_of_getElem? hi)
        exact ⟨_, rfl, _, _, rfl, rfl, .inr ⟨by decide, by decide⟩, _, rfl, _, _, rfl, rfl, _, _, rfl, rfl, by show (0 : Int) < 2147483647; decide, rfl, _, _, rfl⟩
      · rintro σ H2 ⟨rfl, z, x3, rfl⟩
        exact ⟨_, rfl, q _ _ (same_new hl)⟩
theorem pickB {x y : Int} (b : Bool) : atI [V.int x, V.int y] (if b then 1 else 0) = some (V.int (if b then y else x)) := by cases b <;> rfl
def spNums : Sp := fun vs H Q _ => ∃ (c : Int) (m : Nat), vs = [.int c, .int (m : Nat)] ∧ m ≤ 1000 ∧ ∀ (l : Addr) (ns : List Int) (H' : Hp), H l = none → Same H H' → H' l = some (.lst (ns.map V.int)) → ns.length = m → (∀ x ∈ ns, 0 ≤ x ∧ x < 2000000000) → Q (.ref l) H'
theorem scLNumbers : FnScope ["_law_cell_here", "_law_many", "_law_found", "_law_state", "_law_digits", "_law_k"] ["_law_cell_here", "_law_many"] (defScope sLNumbers) := ⟨rfl, rfl, rfl, by decide +kernel, rfl, by decide +kernel, by decide +kernel⟩
theorem ok_numbers {f : Addr} {fd : FuncData} (F : Fun K "_law_numbers" "_law_numbers" sLNumbers f fd) (T : TxtB mg) : FnOk P w K mg base CX0 1 f fd ["_law_cell_here", "_law_many"] spNums := by
  refine F.okQ scLNumbers (fun vs H Q E h => ?_) (fun cdv A outer s H vs Q E hr h => ?_)
  · obtain ⟨c, m, rfl, _⟩ := h
    rfl
  · obtain ⟨c, m, rfl, hm, q⟩ := h
    refine ⟨_, (qss_cons (qs_set (i := 2) scLNumbers.nd rfl (Or.inl rfl) (qe_lst qa_nil))
      (qss_cons (qs_set (i := 3) scLNumbers.nd rfl (Or.inl rfl) (qe_op op_mod (qe_op op_mul (qe_op op_add (qe_op op_mod (qv 0) qe_int) qe_int) qe_int) qe_int))
      (qss_cons (qs_set (i := 4) scLNumbers.nd rfl (Or.inl rfl) qe_int)
      (qss_cons (qs_if (QW.pt (qw_or (qt_cmpR op_lt (qv 0) qe_int (nomark _)) (qw_or1 (qt_cmpR op_ge (qv 0) (qe_op op_pow qe_int qe_int) (nomark _))))) (qss_one (qs_set (i := 4) scLNumbers.nd rfl (Or.inl rfl) (qe_callB call_abs (by rfl) T.abs PyProof.Rows.boot_abs (qac (qv 0) qa_nil)))) qss_nil)
      (qss_cons (qs_for PassesOwn.never rfl (qi_range1 rfl T.range (qac (qv 1) qa_nil)) (qg_name (i := 5) scLNumbers.nd rfl (Or.inl rfl))
        (qss_cons (qs_set (i := 3) scLNumbers.nd rfl (Or.inl rfl) (qe_op op_mod (qe_op op_add (qe_op op_add (qe_op op_mul (qv 3) (qe_op op_add (qe_op op_mod (qv 3) qe_int) qe_int)) (qe_op op_mul qe_int (qv 5))) qe_int) qe_int))
        (qss_cons (qs_expr (qe_bm PySem.F.plainAttrs_list PySem.F.slot_list_append PySem.F.type_list_append mt_append (qv 2) (qac (qe_ix ix_list (qe_lst (qac (qv 3) (qac (qe_op op_mod (qv 4) qe_int) qa_nil))) (qe_callTy call_int1 (by rfl) T.int PyProof.Rows.boot_int (qac (qe_cmpR op_gt (qv 4) qe_int (nomark _)) qa_nil)) (fun _ _ => rfl)) qa_nil)))
        (qss_one (qs_set (i := 4) scLNumbers.nd rfl (Or.inl rfl) (qe_op op_fdiv (qv 4) qe_int))))))
      (qss_one (qs_ret (qv 2)))))))), ?_⟩
    refine ⟨by show 0 ≤ sizeLine; decide, fun l hl => ?_⟩
    have big : (0 : Int) < 1999999973 := by decide
    have c1 := Int.emod_nonneg c (show (1999999973 : Int) ≠ 0 by decide)
    have c2 := Int.emod_lt_of_pos c big
    refine ⟨_, rfl, _, _, rfl, rfl, (by show (0 : Int) < 1999999973; decide), _, _, rfl, rfl, _, _, rfl, rfl, .inr ⟨by decide, by decide⟩, _, _, rfl, rfl, (by show (0 : Int) < 1999999973; decide), ?_⟩
    generalize hst : (c % 1999999973 + 31) * 765432101 % 1999999973 = st0
    have st1 : 0 ≤ st0 ∧ st0 < 1999999973 := by
      rw [← hst]
      exact ⟨Int.emod_nonneg _ (by decide), Int.emod_lt_of_pos _ (by decide)⟩
    refine ⟨_, rfl, _, _, rfl, rfl, _, rfl, ?_⟩
    obtain ⟨dg, hdg, hw⟩ : ∃ dg : Int, 0 ≤ dg ∧ ((c < 0 ∧ dg = (if c < 0 then -c else c)) ∨ (¬ c < 0 ∧ c ≥ 10 ^ (18 : Int).toNat ∧ dg = (if c < 0 then -c else c)) ∨ (¬ c < 0 ∧ ¬ c ≥ 10 ^ (18 : Int).toNat ∧ dg = 0)) := by
      by_cases h1 : c < 0
      · exact ⟨_, abs_nn c, .inl ⟨h1, rfl⟩⟩
      · by_cases h2 : c ≥ 10 ^ (18 : Int).toNat
        · exact ⟨_, abs_nn c, .inr (.inl ⟨h1, h2, rfl⟩)⟩
        · exact ⟨0, Int.le_refl 0, .inr (.inr ⟨h1, h2, rfl⟩)⟩
    rcases hw with ⟨h1, e⟩ | ⟨h1, h2, e⟩ | ⟨h1, h2, e⟩
    all_goals first | refine ifF h1 ⟨_, rfl, _, _, rfl, rfl, ⟨by decide, by decide, by decide⟩, _, _, rfl, rfl, _, rfl, ifT h2 ⟨_, rfl, c, rfl, ?_⟩⟩ | refine ifF h1 ⟨_, rfl, _, _, rfl, rfl, ⟨by decide, by decide, by decide⟩, _, _, rfl, rfl, _, rfl, ifF h2 ?_⟩ | refine ifT h1 ⟨_, rfl, c, rfl, ?_⟩
    all_goals
      refine ⟨_, rfl, ((m : Nat) : Int), rfl, by omega, by omega, for_range (n := m) (fun i σ H2 => Same H H2 ∧ ∃ (ns : List Int) (sd dg : Int) (x : Option V), σ = [some (.int c), some (.int (m : Nat)), some (.ref l), some (.int sd), some (.int dg), x] ∧ H2 l = some (.lst (ns.map V.int)) ∧ ns.length = i ∧ (∀ x ∈ ns, 0 ≤ x ∧ x < 2000000000) ∧ 0 ≤ sd ∧ sd < 1999999973 ∧ 0 ≤ dg)
        ⟨same_new hl, [], st0, dg, none, by rw [e, ← hst]; rfl, upd_same, rfl, by simp, st1.1, st1.2, hdg⟩ ?_ ?_⟩
      · rintro i σ H2 hi ⟨s2, ns, sd, dg, x, rfl, hl2, hlen, hns, h1, h2, h3⟩
        have a1 := Int.emod_nonneg sd (show (65521 : Int) ≠ 0 by decide)
        have a2 := Int.emod_lt_of_pos sd (show (0 : Int) < 65521 by decide)
        refine ⟨_, rfl, _, rfl, _, _, rfl, rfl, (by show (0 : Int) < 65521; decide), _, _, rfl, rfl, _, _, rfl, rfl, .inl ⟨by omega, by omega⟩, _, rfl, _, _, rfl, rfl, .inl ⟨by decide, by decide⟩, _, _, rfl, rfl, _, _, rfl, rfl, _, _, rfl, rfl, (by show (0 : Int) < 1999999973; decide), ?_⟩
        refine ⟨_, rfl, .inl ⟨rfl, _, SqL.of hl2⟩, _, rfl, _, rfl, _, _, rfl, rfl, (by show (0 : Int) < 1000000; decide), by show 2 ≤ sizeLine; decide, fun t ht => ?_⟩
        refine ⟨_, rfl, _, _, rfl, rfl, .inr ⟨_, rfl, t, _, _, _, rfl, rfl, SqL.of upd_same, pickB _, l, _, _, rfl, rfl, (same_new ht) _ _ hl2, ?_, ?_⟩⟩
        · rw [List.length_map, hlen]
          exact Nat.lt_of_lt_of_le hi (Nat.le_trans hm (by decide))
        refine ⟨_, rfl, _, _, rfl, rfl, ⟨by decide, by decide⟩, same_upd (s2.trans (same_new ht)) hl, ns ++ [if decide (0 < dg) = true then dg % 1000000 else (sd * (sd % 65521 + 40487) + 7 * (0 + (i : Int)) + 5) % 1999999973], _, _, _, rfl, ?_, ?_, ?_, ?_, ?_, ?_⟩
        · rw [List.map_append]
          exact upd_same
        · rw [List.length_append, hlen]
          rfl
        · intro y hy
          rcases List.mem_append.mp hy with z | z
          · exact hns y z
          · rw [List.mem_singleton.mp z]
            split
            · exact ⟨Int.emod_nonneg _ (by decide), Int.lt_trans (Int.emod_lt_of_pos _ (by decide)) (by decide)⟩
            · exact ⟨Int.emod_nonneg _ (by decide), Int.lt_trans (Int.emod_lt_of_pos _ (by decide)) (by decide)⟩
        · exact Int.emod_nonneg _ (by decide)
        · exact Int.emod_lt_of_pos _ (by decide)
        · exact Int.ediv_nonneg h3 (by decide)
      · rintro σ H2 ⟨s2, ns, sd, dg, x, rfl, hl2, hlen, hns, _⟩
        exact ⟨_, rfl, q l ns H2 hl s2 hl2 hlen hns⟩
theorem comp_list {K : PySem.W.Frag} {a : Addr} {xs : List V} {g : TG} {tc : TT} {te : TE} {σ' : St} {H : Hp} {G : Addr → Hp → List V → Prop} (Pv : Nat → List V → Hp → Prop) (h0 : Pv 0 [] H) (hl : ∀ i ys H, i ≤ xs.length → Pv i ys H → SqL K H a xs)
    (hs : ∀ i x ys H (N : List V → Hp → Prop), xs[i]? = some x → Pv i ys H → (∀ ys' H', Pv (i + 1) ys' H' → N ys' H') → g x σ' H fun σ2 H4 => Weak σ' σ2 ∧ tc σ2 H4 fun b H5 => if b = true then te σ2 H5 fun y H6 => ys.length < sizeLine ∧ N (ys ++ [y]) H6 else N ys H5)
    (hd : ∀ ys H, Pv xs.length ys H → ys.length ≤ sizeLine ∧ ∀ p, H p = none → G p H ys) :
    ∃ W : Nat → Nat → List V → Hp → Prop, (∃ m, W 0 m [] H) ∧ ∀ i m ys H2, W i m ys H2 →
      ((Itl K a).stop i H2 ∧ ys.length ≤ sizeLine ∧ ∀ p, H2 p = none → G p H2 ys) ∨
      ((Itl K a).go i H2 ∧ ∀ x H3, (Itl K a).yld i H2 x H3 → g x σ' H3 fun σ2 H4 => Weak σ' σ2 ∧ tc σ2 H4 fun b H5 =>
        if b = true then te σ2 H5 fun y H6 => ys.length < sizeLine ∧ ∃ m', m' < m ∧ W (i + 1) m' (ys ++ [y]) H6 else ∃ m', m' < m ∧ W (i + 1) m' ys H5) := by
  refine ⟨fun i m ys H => m = xs.length - i ∧ i ≤ xs.length ∧ Pv i ys H, ⟨xs.length, rfl, Nat.zero_le _, h0⟩, ?_⟩
  rintro i m ys H2 ⟨rfl, hi, p⟩
  have q := hl i ys H2 hi p
  by_cases hlt : i < xs.length
  · refine .inr ⟨⟨xs, xs[i], q, by simp [hlt]⟩, fun x H' y => ?_⟩
    obtain ⟨e, y⟩ := y
    subst e
    exact hs i x ys _ (fun ys' H'' => ∃ m', m' < xs.length - i ∧ m' = xs.length - (i + 1) ∧ i + 1 ≤ xs.length ∧ Pv (i + 1) ys' H'') (y xs q) p (fun ys' H'' p' => ⟨_, by omega, rfl, hlt, p'⟩)
  · have e : i = xs.length := by omega
    subst e
    exact .inl ⟨⟨xs, q, Nat.le_refl _⟩, hd ys H2 p⟩
theorem comp_tup {K : PySem.W.Frag} {a : Addr} {xs : List V} {g : TG} {tc : TT} {te : TE} {σ' : St} {H : Hp} {G : Addr → Hp → List V → Prop} (Pv : Nat → List V → Hp → Prop) (h0 : Pv 0 [] H) (hl : ∀ i ys H, i ≤ xs.length → Pv i ys H → SqT K H a xs)
    (hs : ∀ i x ys H (N : List V → Hp → Prop), xs[i]? = some x → Pv i ys H → (∀ ys' H', Pv (i + 1) ys' H' → N ys' H') → g x σ' H fun σ2 H4 => Weak σ' σ2 ∧ tc σ2 H4 fun b H5 => if b = true then te σ2 H5 fun y H6 => ys.length < sizeLine ∧ N (ys ++ [y]) H6 else N ys H5)
    (hd : ∀ ys H, Pv xs.length ys H → ys.length ≤ sizeLine ∧ ∀ p, H p = none → G p H ys) :
    ∃ W : Nat → Nat → List V → Hp → Prop, (∃ m, W 0 m [] H) ∧ ∀ i m ys H2, W i m ys H2 →
      ((Itt K a).stop i H2 ∧ ys.length ≤ sizeLine ∧ ∀ p, H2 p = none → G p H2 ys) ∨
      ((Itt K a).go i H2 ∧ ∀ x H3, (Itt K a).yld i H2 x H3 → g x σ' H3 fun σ2 H4 => Weak σ' σ2 ∧ tc σ2 H4 fun b H5 =>
        if b = true then te σ2 H5 fun y H6 => ys.length < sizeLine ∧ ∃ m', m' < m ∧ W (i + 1) m' (ys ++ [y]) H6 else ∃ m', m' < m ∧ W (i + 1) m' ys H5) := by
  refine ⟨fun i m ys H => m = xs.length - i ∧ i ≤ xs.length ∧ Pv i ys H, ⟨xs.length, rfl, Nat.zero_le _, h0⟩, ?_⟩
  rintro i m ys H2 ⟨rfl, hi, p⟩
  have q := hl i ys H2 hi p
  by_cases hlt : i < xs.length
  · refine .inr ⟨⟨xs, xs[i], q, by simp [hlt]⟩, fun x H' y => ?_⟩
    obtain ⟨e, y⟩ := y
    subst e
    exact hs i x ys _ (fun ys' H'' => ∃ m', m' < xs.length - i ∧ m' = xs.length - (i + 1) ∧ i + 1 ≤ xs.length ∧ Pv (i + 1) ys' H'') (y xs q) p (fun ys' H'' p' => ⟨_, by omega, rfl, hlt, p'⟩)
  · have e : i = xs.length := by omega
    subst e
    exact .inl ⟨⟨xs, q, Nat.le_refl _⟩, hd ys H2 p⟩
theorem at_ok {ns : List Int} {i : Nat} (h : i < ns.length) : ∃ x : Int, atI (ns.map V.int) (i : Int) = some (.int x) ∧ x ∈ ns := ⟨ns[i], atI_nat (by rw [List.getElem?_map, List.getElem?_eq_getElem h]; rfl), List.getElem_mem h⟩
theorem nats_get {b : List Nat} {i : Nat} {v : V} (h : (nats b)[i]? = some v) : ∃ x, b[i]? = some x ∧ v = .int ((x : Nat) : Int) := by
  unfold nats at h
  rw [List.getElem?_map] at h
  cases hq : b[i]? with
  | none => rw [hq] at h; cases h
  | some p => rw [hq] at h; cases h; exact ⟨p, rfl, rfl⟩
theorem inV_nats (p : Nat) : ∀ b : List Nat, inV (V.int ((p : Nat) : Int)) (nats b) = decide (p ∈ b)
  | [] => rfl
  | x :: b => by
    have ih := inV_nats p b
    unfold inV at ih ⊢
    unfold nats at ih ⊢
    rw [List.map_cons, List.any_cons, ih]
    by_cases h : x = p
    · subst h
      simp [eqV]
    · have : (eqV (V.int ((x : Nat) : Int)) (V.int ((p : Nat) : Int))) = false := by simp [eqV]; omega
      rw [this, Bool.false_or]
      simp [List.mem_cons, Ne.symm h]
theorem flat_nats (b : List Nat) : (nats b).all flatV = true := by simp [nats, flatV]
def LayA (H : Hp) (t : Addr) (m : Nat) (bs : List (List Nat)) : Prop := ∃ (l : Addr) (ws : List V), H t = some (.tup [.int (m : Nat), .ref l]) ∧ H l = some (.tup ws) ∧ TpAt H ws bs ∧ bs.length ≤ 200
theorem LayA.sm {H H' : Hp} (s : Same H H') {t : Addr} {m : Nat} {bs : List (List Nat)} (h : LayA H t m bs) : LayA H' t m bs := by
  obtain ⟨l, ws, h1, h2, h3, h4⟩ := h
  exact ⟨l, ws, s _ _ h1, s _ _ h2, h3.sm s, h4⟩
theorem take_snoc {α : Type} {bs : List α} {i : Nat} {b : α} (h : bs[i]? = some b) : bs.take (i + 1) = bs.take i ++ [b] := by
  rw [List.take_add_one, h, Option.toList_some]
def spUnlike : Sp := fun vs H Q _ => ∃ (a : Addr) (b : List Nat) (p : Nat), vs = [.ref a, .int (p : Nat)] ∧ H a = some (.lst (nats b)) ∧ Blk p b ∧ p ≤ 60 ∧ ∀ H' : Hp, Same H H' → Q (.bl true) H'
theorem scAreUnlikePoints : FnScope ["things", "points"] ["things", "points"] (defScope sAreUnlikePoints) := ⟨rfl, rfl, rfl, by decide +kernel, rfl, by decide +kernel, by decide +kernel⟩
theorem nodup_cast {b : List Nat} (h : b.Nodup) : (b.map fun p => ((p : Nat) : Int)).Nodup := by
  rw [List.nodup_iff_pairwise_ne] at h ⊢
  rw [List.pairwise_map]
  exact h.imp fun hn z => hn (by omega)
theorem ok_unlike {f : Addr} {fd : FuncData} (F : Fun K "are_unlike_points" "are_unlike_points" sAreUnlikePoints f fd) (T : TxtB mg) (pIsBelow : Pm P w K mg base CX0 2 "is_below" ["thing", "many"] spBelow) : FnOk P w K mg base CX0 3 f fd ["things", "points"] spUnlike := by
  refine F.okQ scAreUnlikePoints (fun vs H Q E h => ?_) (fun cdv A outer s H vs Q E hr2 h => ?_)
  · obtain ⟨a, b, p, rfl, _⟩ := h
    rfl
  · obtain ⟨a, b, p, rfl, ha, hb, hp, q⟩ := h
    refine ⟨_, (qss_one (qs_ret (qe_and (qe_callB (call_all rfl) (by rfl) T.all (by decide +kernel) (qac (qe_comp (g := gName 0) (N := ["thing", "points"]) (src := [none, some 1]) rfl (comp_scope (defScope sAreUnlikePoints) ["things", "points"] rfl rfl (by decide +kernel) rfl) (qi_list (qv 0)) (fun _ _ _ _ _ => (qg_name (i := 0) (show (["thing", "points"] : List Str).Nodup by decide +kernel) rfl (Or.inl rfl) (Or.inr rfl))) (fun _ _ _ _ _ => qif_nil) (fun _ _ _ _ _ => (qe_callP pIsBelow hr2 rfl pass0 (qac (qv 0) (qac (qv 1) qa_nil))))) qa_nil)) (qe_one (qe_cmpR op_eq (qe_callB call_len_setI (by rfl) T.len PySem.boot_len (qac (qe_callTy (call_setI rfl) (by rfl) T.set (by decide +kernel) (qac (qv 0) qa_nil)) qa_nil)) (qe_callB call_len_seq (by rfl) T.len PySem.boot_len (qac (qv 0) qa_nil)) (nomark _)))))), ?_⟩
    refine ⟨_, rfl, a, rfl, ⟨_, SqL.of ha⟩, comp_list (K := K) (xs := nats b) (fun i ys H2 => H2 = H ∧ ys = (List.replicate i true).map V.bl) ⟨rfl, rfl⟩ (fun i ys H2 _ ⟨e, _⟩ => SqL.of (e ▸ ha)) ?_ ?_⟩
    · rintro i v ys H2 N hi ⟨rfl, rfl⟩ nx
      obtain ⟨x, hx, rfl⟩ := nats_get hi
      have hxl := hb.lt x (List.mem_of_getElem? hx)
      have hil : i < b.length := (List.getElem?_eq_some_iff.mp hx).1
      refine ⟨Weak.set (by intro v z; cases z), ⟨_, rfl, _, rfl, _, _, rfl, by omega, by omega, ?_, nx _ _ ⟨rfl, by rw [List.replicate_succ', List.map_append]; rfl⟩⟩⟩
      rw [List.length_map, List.length_replicate]
      exact Nat.lt_of_lt_of_le hil (Nat.le_trans hb.len (Nat.le_trans hp (by decide)))
    rintro ys H2 ⟨eH, rfl⟩
    cases eH
    refine ⟨by rw [List.length_map, List.length_replicate, nats_len]; exact Nat.le_trans hb.len (Nat.le_trans hp (by decide)), fun r hr => ?_⟩
    have s1 := same_new (o := .lst ((List.replicate (nats b).length true).map V.bl)) hr
    have ha1 := s1 _ _ ha
    refine ⟨r, List.replicate (nats b).length true, rfl, SqL.of upd_same, true, by simp, iteT ?_⟩
    refine ⟨_, rfl, a, b.map fun p => ((p : Nat) : Int), rfl, SqL.of (by rw [← nats_ints]; exact ha1), by rw [List.length_map]; exact Nat.le_trans hb.len (Nat.le_trans hp (by decide)), fun l S n hl hn => ?_⟩
    have s2 := same_new (o := .set S n) hl
    refine ⟨l, S, n, rfl, upd_same, _, rfl, a, _, rfl, .inl (SqL.of (s2 _ _ ha1)), rfl, blT ?_ (q _ (s1.trans s2))⟩
    rw [hn.mpr (nodup_cast hb.nd), nats_len, List.length_map]
def spOrder : Sp := fun vs H Q _ => ∃ (a : Addr) (b : List Nat), vs = [.ref a] ∧ H a = some (.lst (nats b)) ∧ b.length ≤ 60 ∧ ∀ (t : Addr) (b' : List Nat) (H' : Hp), H t = none → Same H H' → H' t = some (.tup (nats b')) → b'.Perm b → b'.Pairwise (· ≤ ·) → Q (.ref t) H'
theorem scInOrder : FnScope ["block"] ["block"] (defScope sInOrder) := ⟨rfl, rfl, rfl, by decide +kernel, rfl, by decide +kernel, by decide +kernel⟩
theorem ok_order {f : Addr} {fd : FuncData} (F : Fun K "in_order" "in_order" sInOrder f fd) (T : TxtB mg) : FnOk P w K mg base CX0 1 f fd ["block"] spOrder := by
  refine F.okQ scInOrder (fun vs H Q E h => ?_) (fun cdv A outer s H vs Q E hr h => ?_)
  · obtain ⟨a, b, rfl, _⟩ := h
    rfl
  · obtain ⟨a, b, rfl, ha, hb, q⟩ := h
    refine ⟨_, (qss_one (qs_ret (qe_callTy call_tuple_of (by rfl) T.tup (by decide +kernel) (qac (qe_callB call_sortI (by rfl) T.sor (by decide +kernel) (qac (qv 0) qa_nil)) qa_nil)))), ?_⟩
    refine ⟨_, rfl, a, b.map fun p => ((p : Nat) : Int), rfl, SqL.of (by rw [← nats_ints]; exact ha), by rw [List.length_map]; omega, fun l ns hl hp hs => ?_⟩
    obtain ⟨b', e, hp', hs'⟩ := back_nats hp hs
    rw [e]
    have s1 := same_new (o := .lst (nats b')) hl
    exact ⟨l, _, rfl, .inl ⟨SqL.of upd_same, fun t ht => q t b' _ (s1.free ht) (s1.trans (same_new ht)) upd_same hp' hs'⟩⟩
def spPN : Sp := fun vs H Q _ => ∃ x : Int, vs = [.int x] ∧ 1 ≤ x ∧ x ≤ 60 ∧ Q (.bl true) H
theorem scIsPointsNumber : FnScope ["thing"] ["thing"] (defScope sIsPointsNumber) := ⟨rfl, rfl, rfl, by decide +kernel, rfl, by decide +kernel, by decide +kernel⟩
theorem ok_pn {f : Addr} {fd : FuncData} {t60 : Tok} (F : Fun K "is_points_number" "is_points_number" sIsPointsNumber f fd) (m60 : mg "MOST_POINTS" = some (.int 60 t60)) (pWhole : Pm P w K mg base CX0 1 "is_whole" ["thing"] (spWhole K)) : FnOk P w K mg base CX0 2 f fd ["thing"] spPN := by
  refine F.okQ scIsPointsNumber (fun vs H Q E h => ?_) (fun cdv A outer s H vs Q E hr1 h => ?_)
  · obtain ⟨x, rfl, _⟩ := h
    rfl
  · obtain ⟨x, rfl, h0, h1, q⟩ := h
    refine ⟨_, (qss_one (qs_ret (qe_and (qe_callP pWhole hr1 rfl pass0 (qac (qv 0) qa_nil)) (qe_one (qe_chain op_le op_le qe_int (qv 0) (qe_glob (v := .int 60) rfl m60 ⟨_, rfl⟩)))))), ?_⟩
    refine ⟨_, rfl, .int x, true, rfl, .int x, true, rfl, iteT ?_⟩
    refine ⟨_, rfl, _, _, rfl, rfl, _, rfl, ifT h0 ?_⟩
    exact ⟨_, _, rfl, rfl, blT h1 q⟩
/-- numbers, in order -/
def so (l : List Nat) : List Nat := l.mergeSort fun a b => decide (a ≤ b)
theorem so_perm (l : List Nat) : (so l).Perm l := List.mergeSort_perm l _
theorem so_sorted (l : List Nat) : (so l).Pairwise (· ≤ ·) := by
  have := List.pairwise_mergeSort (le := fun a b : Nat => decide (a ≤ b)) (fun a b c h1 h2 => by simp only [decide_eq_true_eq] at *; omega) (fun a b => by simp only [Bool.or_eq_true, decide_eq_true_eq]; omega) l
  exact this.imp fun h => of_decide_eq_true h
theorem so_eq {c l : List Nat} (h1 : c.Perm l) (h2 : c.Pairwise (· ≤ ·)) : c = so l := srt_eq h1 h2 (so_perm l) (so_sorted l)
/-- a block, by a row -/
def rn (r b : List Nat) : List Nat := so (b.map fun x => r.getD x 0)
theorem row_lt {r : List Nat} {m x : Nat} (hr : r.Perm (List.range m)) (hx : x < m) : r.getD x 0 < m := by
  have hl : r.length = m := by rw [hr.length_eq, List.length_range]
  have e : r.getD x 0 = r[x]'(by omega) := by simp [show x < r.length by omega]
  rw [e]
  exact List.mem_range.mp (hr.mem_iff.mp (List.getElem_mem _))
theorem row_inj {r : List Nat} {m x y : Nat} (hr : r.Perm (List.range m)) (hx : x < m) (hy : y < m) (h : r.getD x 0 = r.getD y 0) : x = y := by
  have hl : r.length = m := by rw [hr.length_eq, List.length_range]
  have nd : r.Nodup := hr.nodup_iff.mpr List.nodup_range
  have e1 : r.getD x 0 = r[x]'(by omega) := by simp [show x < r.length by omega]
  have e2 : r.getD y 0 = r[y]'(by omega) := by simp [show y < r.length by omega]
  rw [e1, e2] at h
  exact (List.getElem_inj nd).mp h
theorem rn_blk {r b : List Nat} {m : Nat} (hr : r.Perm (List.range m)) (hb : Blk m b) : Bls m (rn r b) := by
  refine blk_sorted (Blk.perm ⟨?_, fun x hx => ?_⟩ (so_perm _)) (so_sorted _)
  · rw [List.nodup_iff_pairwise_ne, List.pairwise_map]
    have := List.nodup_iff_pairwise_ne.mp hb.nd
    exact List.Pairwise.imp_of_mem (fun ha hb' h e => h (row_inj hr (hb.lt _ ha) (hb.lt _ hb') e)) this
  · obtain ⟨y, hy, rfl⟩ := List.mem_map.mp hx
    exact row_lt hr (hb.lt y hy)
theorem row_blk {r : List Nat} {m : Nat} (hr : r.Perm (List.range m)) : Blk m r := ⟨hr.nodup_iff.mpr List.nodup_range, fun x hx => List.mem_range.mp (hr.mem_iff.mp hx)⟩
theorem kit_list_list (K : PySem.W.Frag) : PySem.W.kitOne K (.type "list") (.type "list") = some true := by kernel_rfl
def spIsRow : Sp := fun vs H Q _ => ∃ (l : Addr) (r : List Nat) (m : Nat), vs = [.ref l, .int (m : Nat)] ∧ H l = some (.lst (nats r)) ∧ r.Perm (List.range m) ∧ m ≤ 60 ∧ ∀ H' : Hp, Same H H' → Q (.bl true) H'
theorem scIsRow : FnScope ["thing", "points"] ["thing", "points"] (defScope sIsRow) := ⟨rfl, rfl, rfl, by decide +kernel, rfl, by decide +kernel, by decide +kernel⟩
theorem ok_isrow {f : Addr} {fd : FuncData} (F : Fun K "is_row" "is_row" sIsRow f fd) (T : TxtB mg) (pAreUnlikePoints : Pm P w K mg base CX0 3 "are_unlike_points" ["things", "points"] spUnlike) : FnOk P w K mg base CX0 4 f fd ["thing", "points"] spIsRow := by
  refine F.okQ scIsRow (fun vs H Q E h => ?_) (fun cdv A outer s H vs Q E hr3 h => ?_)
  · obtain ⟨l, r, m, rfl, _⟩ := h
    rfl
  · obtain ⟨l, r, m, rfl, hl, hr, hm, q⟩ := h
    refine ⟨_, (qss_one (qs_ret (qe_and (qe_callB call_isinst (by rfl) T.isi PyProof.Rows.boot_isinstance (qac (qv 0) (qac (qe_bltn (v := .ty "list") rfl T.lst (by decide +kernel) rfl) qa_nil))) (qe_and (qe_cmpR op_eq (qe_callB call_len_seq (by rfl) T.len PySem.boot_len (qac (qv 0) qa_nil)) (qv 1) (nomark _)) (qe_one (qe_callP pAreUnlikePoints hr3 rfl pass0 (qac (qv 0) (qac (qv 1) qa_nil)))))))), ?_⟩
    have hlen : r.length = m := by rw [hr.length_eq, List.length_range]
    refine ⟨_, rfl, _, _, _, _, rfl, .lst hl, rel_ty (kit_list_list K), true, rfl, iteT ?_⟩
    refine ⟨_, rfl, l, _, rfl, .inl (SqL.of hl), _, rfl, rfl, true, congrArg V.bl (decide_eq_true (congrArg (fun n : Nat => V.int (n : Int)) (by rw [nats_len, hlen]))), iteT ?_⟩
    exact ⟨_, rfl, _, rfl, l, r, m, rfl, hl, row_blk hr, hm, q⟩
def spBR : Sp := fun vs H Q _ => ∃ (a l : Addr) (b r : List Nat), vs = [.ref a, .ref l] ∧ H a = some (.tup (nats b)) ∧ H l = some (.lst (nats r)) ∧ (∀ x ∈ b, x < r.length) ∧ b.length ≤ 60 ∧ ∀ (t : Addr) (H' : Hp), Same H H' → H' t = some (.tup (nats (rn r b))) → Q (.ref t) H'
theorem scBlockRenamed : FnScope ["block", "row"] ["block", "row"] (defScope sBlockRenamed) := ⟨rfl, rfl, rfl, by decide +kernel, rfl, by decide +kernel, by decide +kernel⟩
theorem nat_at {r : List Nat} {x : Nat} (h : x < r.length) : atI (nats r) ((x : Nat) : Int) = some (.int ((r.getD x 0 : Nat) : Int)) := atI_nat (by
  unfold nats
  rw [List.getElem?_map, List.getElem?_eq_getElem h]
  simp [h])
theorem ok_brn {f : Addr} {fd : FuncData} (F : Fun K "block_renamed" "block_renamed" sBlockRenamed f fd) (pInOrder : Pm P w K mg base CX0 1 "in_order" ["block"] spOrder) : FnOk P w K mg base CX0 2 f fd ["block", "row"] spBR := by
  refine F.okQ scBlockRenamed (fun vs H Q E h => ?_) (fun cdv A outer s H vs Q E hr1 h => ?_)
  · obtain ⟨a, l, b, r, rfl, _⟩ := h
    rfl
  · obtain ⟨a, l, b, r, rfl, ha, hl, hb, hn, q⟩ := h
    refine ⟨_, (qss_one (qs_ret (qe_callP pInOrder hr1 rfl pass0 (qac (qe_comp (g := gName 0) (N := ["point", "row"]) (src := [none, some 1]) rfl (comp_scope (defScope sBlockRenamed) ["block", "row"] rfl rfl (by decide +kernel) rfl) (qi_tup (qv 0)) (fun _ _ _ _ _ => (qg_name (i := 0) (show (["point", "row"] : List Str).Nodup by decide +kernel) rfl (Or.inl rfl) (Or.inr rfl))) (fun _ _ _ _ _ => qif_nil) (fun _ _ _ _ _ => (qe_ix (show IxR _ (rIxL K) from ix_list) (qv 1) (qv 0) (fun _ _ => rfl)))) qa_nil)))), ?_⟩
    refine ⟨_, rfl, a, rfl, ⟨_, SqT.of ha⟩, comp_tup (K := K) (xs := nats b) (fun i ys H2 => H2 = H ∧ ys = nats ((b.take i).map fun x => r.getD x 0)) ⟨rfl, rfl⟩ (fun i ys H2 _ ⟨e, _⟩ => SqT.of (e ▸ ha)) ?_ ?_⟩
    · rintro i v ys H2 N hi ⟨rfl, rfl⟩ nx
      obtain ⟨x, hx, rfl⟩ := nats_get hi
      refine ⟨Weak.set (by intro v z; cases z), ⟨_, rfl, _, rfl, l, _, _, _, rfl, rfl, SqL.of hl, nat_at (hb x (List.mem_of_getElem? hx)), ?_, nx _ _ ⟨rfl, ?_⟩⟩⟩
      · rw [nats_len, List.length_map, List.length_take]
        exact Nat.lt_of_le_of_lt (show min i b.length ≤ 60 by omega) (by decide)
      · rw [List.take_add_one, hx, Option.toList_some, List.map_append, List.map_cons, List.map_nil, nats_snoc]
    rintro ys H2 ⟨eH, rfl⟩
    cases eH
    rw [nats_len b, List.take_length]
    refine ⟨by rw [nats_len, List.length_map]; exact Nat.le_trans hn (by decide), fun p hp => ?_⟩
    refine ⟨p, _, rfl, upd_same, by rw [List.length_map]; exact hn, fun t c H' ht s' hc pm sd => ?_⟩
    cases so_eq pm sd
    exact q t H' ((same_new hp).trans s') hc
def spRn : Sp := fun vs H Q _ => ∃ (t l : Addr) (m : Nat) (bs : List (List Nat)) (r : List Nat), vs = [.ref t, .ref l] ∧ LayA H t m bs ∧ H l = some (.lst (nats r)) ∧ r.Perm (List.range m) ∧ m ≤ 60 ∧ (∀ b ∈ bs, Blk m b) ∧ ∀ (u : Addr) (H' : Hp), Same H H' → LayA H' u m (bs.map (rn r)) → Q (.ref u) H'
theorem scRenamed : FnScope ["M", "row"] ["M", "row"] (defScope sRenamed) := ⟨rfl, rfl, rfl, by decide +kernel, rfl, by decide +kernel, by decide +kernel⟩
theorem ok_rn {f : Addr} {fd : FuncData} (F : Fun K "renamed" "renamed" sRenamed f fd) (T : TxtB mg) (pIsRow : Pm P w K mg base CX0 4 "is_row" ["thing", "points"] spIsRow) (pBlockRenamed : Pm P w K mg base CX0 2 "block_renamed" ["block", "row"] spBR) : FnOk P w K mg base CX0 5 f fd ["M", "row"] spRn := by
  refine F.okQ scRenamed (fun vs H Q E h => ?_) (fun cdv A outer s H vs Q E hr4 h => ?_)
  · obtain ⟨t, l, m, bs, r, rfl, _⟩ := h
    rfl
  · obtain ⟨t, l, m, bs, r, rfl, ⟨lb, ws, ht, hlb, hT, hn⟩, hl, hr, hm, hb, q⟩ := h
    have hr2 : Room 2 (A.deeper (PyProof.Rows.envOfC "renamed" (defScope sRenamed) s.heap.objs.size f cdv)) := hr4.mono (by decide)
    refine ⟨_, (qss_cons (qs_if (qt_not (qt_val (qe_callP pIsRow hr4 rfl pass0 (qac (qv 1) (qac (qe_ix ix_tup (qv 0) qe_int (fun _ _ => rfl)) qa_nil))))) qss_never qss_nil)
      (qss_one (qs_ret (qe_tup (qac (qe_ix ix_tup (qv 0) qe_int (fun _ _ => rfl)) (qac (qe_callTy call_tuple_of (by rfl) T.tup (by decide +kernel) (qac (qe_comp (g := gName 0) (N := ["block", "row"]) (src := [none, some 1]) rfl (comp_scope (defScope sRenamed) ["M", "row"] rfl rfl (by decide +kernel) rfl) (qi_tup (qe_ix ix_tup (qv 0) qe_int (fun _ _ => rfl))) (fun _ _ _ _ _ => (qg_name (i := 0) (show (["block", "row"] : List Str).Nodup by decide +kernel) rfl (Or.inl rfl) (Or.inr rfl))) (fun _ _ _ _ _ => qif_nil) (fun _ _ _ _ _ => (qe_callP pBlockRenamed hr2 rfl pass0 (qac (qv 0) (qac (qv 1) qa_nil))))) qa_nil)) qa_nil)))))), ?_⟩
    have hrl : r.length = m := by rw [hr.length_eq, List.length_range]
    refine ⟨_, rfl, _, rfl, t, _, 0, .int (m : Nat), rfl, rfl, SqT.of ht, rfl, l, r, m, rfl, hl, hr, hm, fun H1 s1 => ⟨true, rfl, iteF ?_⟩⟩
    have hlb1 := s1 _ _ hlb
    refine ⟨_, rfl, t, _, 0, .int (m : Nat), rfl, rfl, SqT.of (s1 _ _ ht), rfl, _, rfl, t, _, 1, .ref lb, rfl, rfl, SqT.of (s1 _ _ ht), rfl, lb, rfl, ⟨_, SqT.of hlb1⟩, comp_tup (K := K) (xs := ws) (fun i ys H2 => Same H1 H2 ∧ TpAt H2 ys ((bs.take i).map (rn r))) ⟨Same.refl _, trivial⟩ (fun i ys H2 _ ⟨e, _⟩ => SqT.of (e _ _ hlb1)) ?_ ?_⟩
    · rintro i v ys H2 N hi ⟨s2, hY⟩ nx
      obtain ⟨a, b, rfl, hbi, ha⟩ := (hT.sm (s1.trans s2)).get hi
      have hbb := hb b (List.mem_of_getElem? hbi)
      refine ⟨Weak.set (by intro v z; cases z), ⟨_, rfl, _, rfl, a, l, b, r, rfl, ha, (s1.trans s2) _ _ hl, fun x hx => by rw [hrl]; exact hbb.lt x hx, Nat.le_trans hbb.len hm, fun t' H' s' ht' => ⟨?_, nx _ _ ⟨s2.trans s', ?_⟩⟩⟩⟩
      · have := hY.len
        rw [List.length_map, List.length_take] at this
        exact Nat.lt_of_le_of_lt (show ys.length ≤ 200 by omega) (by decide)
      · rw [List.take_add_one, hbi, Option.toList_some, List.map_append]
        exact (hY.sm s').snoc ht'
    rintro ys H2 ⟨s2, hY⟩
    rw [hT.len, List.take_length] at hY
    have hyl := hY.len
    rw [List.length_map] at hyl
    refine ⟨Nat.le_trans (show ys.length ≤ 200 by omega) (by decide), fun p hp => ⟨p, _, rfl, .inl ⟨SqL.of upd_same, fun u hu => ?_⟩⟩⟩
    have w1 := same_new (o := .lst ys) hp
    have w2 := same_new (o := .tup ys) hu
    refine ⟨by show 2 ≤ sizeLine; decide, fun t' ht' => ?_⟩
    have w3 := same_new (o := .tup [.int (m : Nat), .ref u]) ht'
    exact q t' _ ((s1.trans s2).trans (w1.trans (w2.trans w3))) ⟨u, ys, upd_same, w3 _ _ upd_same, hY.sm (w1.trans (w2.trans w3)), by rw [List.length_map]; exact hn⟩
/-- one row of numbers is not behind the other -/
def LexLe (a b : List Nat) : Prop := lexB (b.map fun p => ((p : Nat) : Int)) (a.map fun p => ((p : Nat) : Int)) = false
theorem map_int_inj {a b : List Nat} (h : (a.map fun p => ((p : Nat) : Int)) = b.map fun p => ((p : Nat) : Int)) : a = b := (List.map_inj_right fun x y (e : ((x : Nat) : Int) = ((y : Nat) : Int)) => by omega).mp h
theorem LexLe.trans {a b c : List Nat} (h1 : LexLe a b) (h2 : LexLe b c) : LexLe a c := by
  unfold LexLe at *
  cases h : lexB (c.map fun p => ((p : Nat) : Int)) (a.map fun p => ((p : Nat) : Int)) with
  | false => rfl
  | true =>
    cases h3 : lexB (a.map fun p => ((p : Nat) : Int)) (b.map fun p => ((p : Nat) : Int)) with
    | true =>
      rw [lex_trans h h3] at h2
      cases h2
    | false =>
      rw [lex_tri h3 h1] at h
      rw [h] at h2
      cases h2
theorem LexLe.anti {a b : List Nat} (h1 : LexLe a b) (h2 : LexLe b a) : a = b := map_int_inj (lex_tri h2 h1)
theorem adj_pair {α : Type} {R : α → α → Prop} (ht : ∀ a b c, R a b → R b c → R a c) : ∀ l : List α, (∀ i (h : i + 1 < l.length), R (l[i]'(by omega)) l[i + 1]) → l.Pairwise R
  | [], _ => .nil
  | [a], _ => by simp
  | a :: b :: l, h => by
    have ih := adj_pair ht (b :: l) fun i hi => h (i + 1) (by simpa using hi)
    have h0 : R a b := h 0 (by simp)
    refine List.pairwise_cons.mpr ⟨fun x hx => ?_, ih⟩
    rcases List.mem_cons.mp hx with e | e
    · rw [e]
      exact h0
    · exact ht _ _ _ h0 ((List.pairwise_cons.mp ih).1 x e)
theorem lex_uniq {cs ds bs : List (List Nat)} (h1 : cs.Perm bs) (h2 : cs.Pairwise LexLe) (h3 : ds.Perm bs) (h4 : ds.Pairwise LexLe) : cs = ds := (h1.trans h3.symm).eq_of_pairwise (fun _ _ _ _ x y => LexLe.anti x y) h2 h4
theorem tp_idx {H : Hp} {vs : List V} {bs : List (List Nat)} (h : TpAt H vs bs) : ∀ {idx : List Nat}, (∀ i ∈ idx, i < bs.length) → TpAt H (idx.map fun i => vs.getD i .non) (idx.map fun i => bs.getD i [])
  | [], _ => trivial
  | i :: idx, hi => by
    have hl := h.len
    have hib := hi i (List.mem_cons_self ..)
    obtain ⟨a, b, e1, e2, e3⟩ := h.get (i := i) (v := vs.getD i .non) (by simp [show i < vs.length by omega])
    have e4 : bs.getD i [] = b := by rw [List.getD_eq_getElem?_getD, e2]; rfl
    exact ⟨⟨a, e1, by show H a = some (.tup (nats (bs.getD i []))); rw [e4]; exact e3⟩, tp_idx h fun j hj => hi j (List.mem_cons_of_mem _ hj)⟩
theorem idx_perm {bs : List (List Nat)} {idx : List Nat} (h : idx.Perm (List.range bs.length)) : (idx.map fun i => bs.getD i []).Perm bs := by
  have := h.map fun i => bs.getD i []
  refine this.trans (List.Perm.of_eq ?_)
  apply List.ext_getElem
  · simp
  · intro i h1 h2
    simp [List.getElem_map, List.getElem_range, h2]
def spSl : Sp := fun vs H Q _ => ∃ (t : Addr) (m : Nat) (bs : List (List Nat)), vs = [.ref t] ∧ LayA H t m bs ∧ bs.length < 64 ∧ ∀ (u : Addr) (cs : List (List Nat)) (H' : Hp), Same H H' → LayA H' u m cs → cs.Perm bs → cs.Pairwise LexLe → Q (.ref u) H'
theorem scSortedLayout : FnScope ["M"] ["M"] (defScope sSortedLayout) := ⟨rfl, rfl, rfl, by decide +kernel, rfl, by decide +kernel, by decide +kernel⟩
theorem ok_sl {f : Addr} {fd : FuncData} (F : Fun K "sorted_layout" "sorted_layout" sSortedLayout f fd) (T : TxtB mg) : FnOk P w K mg base CX0 1 f fd ["M"] spSl := by
  refine F.okQ scSortedLayout (fun vs H Q E h => ?_) (fun cdv A outer s H vs Q E hr0 h => ?_)
  · obtain ⟨t, m, bs, rfl, _⟩ := h
    rfl
  · obtain ⟨t, m, bs, rfl, ⟨lb, ws, ht, hlb, hT, hn⟩, h64, q⟩ := h
    refine ⟨_, (qss_one (qs_ret (qe_tup (qac (qe_ix ix_tup (qv 0) qe_int (fun _ _ => rfl)) (qac (qe_callTy call_tuple_of (by rfl) T.tup (by decide +kernel) (qac (qe_callB (call_sortT hr0.units) (by rfl) T.sor (by decide +kernel) (qac (qe_ix ix_tup (qv 0) qe_int (fun _ _ => rfl)) qa_nil)) qa_nil)) qa_nil))))), ?_⟩
    have hwl := hT.len
    refine ⟨_, rfl, t, _, 0, .int (m : Nat), rfl, rfl, SqT.of ht, rfl, _, rfl, t, _, 1, .ref lb, rfl, rfl, SqT.of ht, rfl, lb, ws, bs, rfl, .inr (SqT.of hlb), hT, by omega, fun l idx hl hp hs => ?_⟩
    have w1 := same_new (o := .lst (idx.map fun i => ws.getD i .non)) hl
    have hil : idx.length = bs.length := by rw [hp.length_eq, List.length_range]
    refine ⟨l, _, rfl, .inl ⟨SqL.of upd_same, fun u hu => ⟨by show 2 ≤ sizeLine; decide, fun t' ht' => ?_⟩⟩⟩
    have w2 := same_new (o := .tup (idx.map fun i => ws.getD i .non)) hu
    have w3 := same_new (o := .tup [.int (m : Nat), .ref u]) ht'
    have sA := w1.trans (w2.trans w3)
    refine q t' (idx.map fun i => bs.getD i []) _ sA ⟨u, _, upd_same, w3 _ _ upd_same, (tp_idx hT fun i hi => List.mem_range.mp (hp.mem_iff.mp hi)).sm sA, by rw [List.length_map]; omega⟩ (idx_perm hp) (adj_pair (R := LexLe) (fun _ _ _ => LexLe.trans) _ fun i hi => ?_)
    rw [List.length_map] at hi
    have := hs i (by omega)
    unfold LexLe
    have e1 : idx.getD (i + 1) 0 = idx[i + 1] := by simp [hi]
    have e2 : idx.getD i 0 = idx[i]'(by omega) := by simp [show i < idx.length by omega]
    rw [e1, e2] at this
    rw [List.getElem_map, List.getElem_map]
    exact this
theorem call_isinstLT {X : Cx} : CallR X (.builtin "isinstance") (fun xs H Q => ∃ a ws p ys b, xs = [.ref a, .ref p] ∧ H a = some (.lst ws) ∧ H p = some (.tup ys) ∧ (∀ us, Vals ys us → PySem.W.kitAny X.K (.type "list") us = some b) ∧ Q (.bl b) H) := by
  intro pins s σ H xs us Q I r h
  obtain ⟨a, ws, p, ys, b, rfl, e, hp, k, q⟩ := h
  obtain ⟨u, w', rfl, r1, r2⟩ := vals2 r
  cases (show u = Value.ref a from r1)
  cases (show w' = Value.ref p from r2)
  obtain ⟨_, its, rv, o, ho, hc, n, hd⟩ := (show ObjOk X.prog X.w H s.heap p (.tup ys) from I.hok p _ hp)
  obtain ⟨oc, od, oda, osl⟩ := o
  dsimp only at hc hd
  subst hc hd
  obtain ⟨_, _, n', _, h1⟩ := (show ObjOk X.prog X.w H s.heap a (.lst ws) from I.hok a _ e)
  exact PySem.W.kia_tup PySem.W.kitx_list I.kIn ⟨_, h1, rfl⟩ ho (k _ rv) (fun z => nomatch z) fun tk => ⟨.bl b, H, I.tok tk, rfl, q⟩
theorem kit_lt (K : PySem.W.Frag) : ∀ us, Vals [V.ty "list", V.ty "tuple"] us → PySem.W.kitAny K (.type "list") us = some true := by
  intro us r
  obtain ⟨u, w', rfl, r1, r2⟩ := vals2 r
  cases (show u = Value.type "list" from r1)
  cases (show w' = Value.type "tuple" from r2)
  kernel_rfl
def spMustB : Sp := fun vs H Q _ => ∃ (l : Addr) (n : Nat) (ws : List V) (bs : List (List Nat)), vs = [.int (n : Nat), .ref l] ∧ H l = some (.lst ws) ∧ BlAt H ws bs ∧ 1 ≤ n ∧ n ≤ 60 ∧ n * bs.length ≤ 200 ∧ (∀ b ∈ bs, Blk n b) ∧ ∀ H', Same H H' → Q .non H'
theorem scMustBeBases : FnScope ["n", "bases", "place", "base"] ["n", "bases"] (defScope sMustBeBases) := ⟨rfl, rfl, rfl, by decide +kernel, rfl, by decide +kernel, by decide +kernel⟩
theorem ok_mustB {f : Addr} {fd : FuncData} {t200 : Tok} (F : Fun K "must_be_bases" "must_be_bases" sMustBeBases f fd) (T : TxtB mg) (m200 : mg "MOST_BLOCKS" = some (.int 200 t200)) (pPN : Pm P w K mg base CX0 2 "is_points_number" ["thing"] spPN)
    (pUn : Pm P w K mg base CX0 3 "are_unlike_points" ["things", "points"] spUnlike) : FnOk P w K mg base CX0 4 f fd ["n", "bases"] spMustB := by
  refine F.okQ scMustBeBases (fun vs H Q E h => ?_) (fun cdv A outer s H vs Q E hr3 h => ?_)
  · obtain ⟨l, n, ws, bs, rfl, _⟩ := h
    rfl
  · obtain ⟨l, n, ws, bs, rfl, hl, hB, hn1, hn2, hlen, hbb, q⟩ := h
    have hr2 := hr3.mono (show 2 ≤ 3 by decide)
    refine ⟨_, (qss_cons (qs_if (QW.pt (qw_or (qt_not (qt_val (qe_callP pPN hr2 rfl pass0 (qac (qv 0) qa_nil)))) (qw_or1 (qt_cmpR op_gt (qe_op op_mul (qv 0) (qe_callB call_len_seq (by rfl) T.len PySem.boot_len (qac (qv 1) qa_nil))) (qe_glob (v := .int 200) rfl m200 ⟨_, rfl⟩) (nomark _))))) qss_never qss_nil)
      (qss_one (qs_for PassesOwn.never rfl (qi_enum rfl T.enu (qac (qv 1) qa_nil)) (qg_tup rfl (qgs_cons (qg_name (i := 2) scMustBeBases.nd rfl (Or.inl rfl)) (qgs_cons (qg_name (i := 3) scMustBeBases.nd rfl (Or.inl rfl)) qgs_nil)))
        (qss_one (qs_if (QW.pt (qw_or (qt_not (qt_val (qe_callB call_isinstLT (by rfl) T.isi PyProof.Rows.boot_isinstance (qac (qv 3) (qac (qe_tup (qac (qe_bltn (v := .ty "list") rfl T.lst (by decide +kernel) rfl) (qac (qe_bltn (v := .ty "tuple") rfl T.tup (by decide +kernel) rfl) qa_nil))) qa_nil))))) (qw_or1 (qt_not (qt_val (qe_callP pUn hr3 rfl pass0 (qac (qv 3) (qac (qv 0) qa_nil)))))))) qss_never qss_nil))))), ?_⟩
    have hwl := hB.len
    refine ⟨_, rfl, _, rfl, by omega, by omega, true, rfl, iteF ?_⟩
    refine ⟨_, rfl, _, rfl, l, _, rfl, .inl (SqL.of hl), _, _, rfl, rfl, .inl ⟨by omega, by omega⟩, _, _, rfl, rfl, _, rfl, ifF ?_ ?_⟩
    · rw [hwl, ← Int.natCast_mul]
      omega
    refine ⟨_, rfl, l, rfl, ⟨_, SqL.of hl⟩, for_enum (K := K) (a := l) (xs := ws) (fun i σ Hx => Same H Hx ∧ ∃ x2 x3 : Option V, σ = [some (.int (n : Nat)), some (.ref l), x2, x3]) ⟨Same.refl _, _, _, rfl⟩ (fun i σ Hx _ ⟨e, _⟩ => SqL.of (e _ _ hl)) ?_ ?_⟩
    · rintro i v U σ Hx hi ⟨sx, x2, x3, rfl⟩ hU
      obtain ⟨a, b, rfl, hb, ha⟩ := (hB.same sx).get hi
      have s1 := same_new (o := .tup [.int (i : Nat), .ref a]) hU
      refine ⟨U, _, rfl, SqT.of upd_same, rfl, _, _, rfl, _, _, rfl, rfl, ?_⟩
      have ha1 := s1 _ _ ha
      have sy := sx.trans s1
      generalize upd Hx U (.tup [.int (i : Nat), .ref a]) = H1 at ha1 sy ⊢
      refine ⟨_, rfl, by show 2 ≤ sizeLine; decide, fun p hp => ?_⟩
      have s2 := same_new (o := .tup [V.ty "list", V.ty "tuple"]) hp
      refine ⟨a, nats b, p, _, true, rfl, s2 _ _ ha1, upd_same, kit_lt K, true, rfl, iteF ?_⟩
      refine ⟨_, rfl, _, rfl, a, b, n, rfl, s2 _ _ ha1, hbb b (List.mem_of_getElem? hb), hn2, fun Hy s3 => ⟨true, rfl, iteF ?_⟩⟩
      exact ⟨sy.trans (s2.trans s3), _, _, rfl⟩
    rintro σ Hx ⟨sx, x2, x3, rfl⟩
    exact q _ sx
theorem isD_blkT {K : PySem.W.Frag} {H : Hp} {a : Addr} {L : List Nat} (h : H a = some (.lst (nats L))) : IsD K H (dBlk L) (.ref a) := by
  simp only [dBlk, IsD]
  exact ⟨a, _, rfl, SqL.of h, ints_isD' L⟩
/-- a walk over a list or a tuple -/
theorem for_seq {K : PySem.W.Frag} {a : Addr} {xs : List V} {g : TG} {tb : TS} {D : Ends} {σ : St} {H H0 : Hp} (ha : H0 a = some (.lst xs) ∨ H0 a = some (.tup xs)) (Pv : Nat → St → Hp → Prop) (h0 : Pv 0 σ H) (hl : ∀ i σ H, Pv i σ H → Same H0 H)
    (hs : ∀ i x σ H, xs[i]? = some x → Pv i σ H → g x σ H fun σ2 H2 => tb { D with nx := Pv (i + 1), ct := Pv (i + 1), bk := D.nx } σ2 H2) (hd : ∀ σ H, Pv xs.length σ H → D.nx σ H) :
    ((∃ ys, SqL K H a ys) ∧ ∃ W : Nat → Nat → St → Hp → Prop, (∃ m, W 0 m σ H) ∧ ∀ i m σ H, W i m σ H →
      ((Itl K a).stop i H ∧ D.nx σ H) ∨ ((Itl K a).go i H ∧ ∃ N : St → Hp → Prop, (∀ σ' H', N σ' H' → ∃ m', m' < m ∧ W (i + 1) m' σ' H') ∧ ∀ x H', (Itl K a).yld i H x H' → g x σ H' fun σ2 H2 => tb { D with nx := N, ct := N, bk := D.nx } σ2 H2)) ∨
    ((∃ ys, SqT K H a ys) ∧ ∃ W : Nat → Nat → St → Hp → Prop, (∃ m, W 0 m σ H) ∧ ∀ i m σ H, W i m σ H →
      ((Itt K a).stop i H ∧ D.nx σ H) ∨ ((Itt K a).go i H ∧ ∃ N : St → Hp → Prop, (∀ σ' H', N σ' H' → ∃ m', m' < m ∧ W (i + 1) m' σ' H') ∧ ∀ x H', (Itt K a).yld i H x H' → g x σ H' fun σ2 H2 => tb { D with nx := N, ct := N, bk := D.nx } σ2 H2)) := by
  rcases ha with ha | ha
  · exact .inl ⟨⟨_, SqL.of (hl 0 σ H h0 _ _ ha)⟩, for_list (K := K) (xs := xs) Pv h0 (fun i σ H _ p => SqL.of (hl i σ H p _ _ ha)) hs hd⟩
  · exact .inr ⟨⟨_, SqT.of (hl 0 σ H h0 _ _ ha)⟩, for_tup (K := K) (xs := xs) Pv h0 (fun i σ H _ p => SqT.of (hl i σ H p _ _ ha)) hs hd⟩
/-- a list made of a list or a tuple -/
theorem comp_seq {K : PySem.W.Frag} {a : Addr} {xs : List V} {g : TG} {tc : TT} {te : TE} {σ' : St} {H H0 : Hp} {G : Addr → Hp → List V → Prop} (ha : H0 a = some (.lst xs) ∨ H0 a = some (.tup xs)) (Pv : Nat → List V → Hp → Prop) (h0 : Pv 0 [] H) (hl : ∀ i ys H, Pv i ys H → Same H0 H)
    (hs : ∀ i x ys H (N : List V → Hp → Prop), xs[i]? = some x → Pv i ys H → (∀ ys' H', Pv (i + 1) ys' H' → N ys' H') → g x σ' H fun σ2 H4 => Weak σ' σ2 ∧ tc σ2 H4 fun b H5 => if b = true then te σ2 H5 fun y H6 => ys.length < sizeLine ∧ N (ys ++ [y]) H6 else N ys H5)
    (hd : ∀ ys H, Pv xs.length ys H → ys.length ≤ sizeLine ∧ ∀ p, H p = none → G p H ys) :
    ((∃ ys, SqL K H a ys) ∧ ∃ W : Nat → Nat → List V → Hp → Prop, (∃ m, W 0 m [] H) ∧ ∀ i m ys H2, W i m ys H2 →
      ((Itl K a).stop i H2 ∧ ys.length ≤ sizeLine ∧ ∀ p, H2 p = none → G p H2 ys) ∨
      ((Itl K a).go i H2 ∧ ∀ x H3, (Itl K a).yld i H2 x H3 → g x σ' H3 fun σ2 H4 => Weak σ' σ2 ∧ tc σ2 H4 fun b H5 =>
        if b = true then te σ2 H5 fun y H6 => ys.length < sizeLine ∧ ∃ m', m' < m ∧ W (i + 1) m' (ys ++ [y]) H6 else ∃ m', m' < m ∧ W (i + 1) m' ys H5)) ∨
    ((∃ ys, SqT K H a ys) ∧ ∃ W : Nat → Nat → List V → Hp → Prop, (∃ m, W 0 m [] H) ∧ ∀ i m ys H2, W i m ys H2 →
      ((Itt K a).stop i H2 ∧ ys.length ≤ sizeLine ∧ ∀ p, H2 p = none → G p H2 ys) ∨
      ((Itt K a).go i H2 ∧ ∀ x H3, (Itt K a).yld i H2 x H3 → g x σ' H3 fun σ2 H4 => Weak σ' σ2 ∧ tc σ2 H4 fun b H5 =>
        if b = true then te σ2 H5 fun y H6 => ys.length < sizeLine ∧ ∃ m', m' < m ∧ W (i + 1) m' (ys ++ [y]) H6 else ∃ m', m' < m ∧ W (i + 1) m' ys H5)) := by
  rcases ha with ha | ha
  · exact .inl ⟨⟨_, SqL.of (hl 0 _ H h0 _ _ ha)⟩, comp_list (K := K) (xs := xs) Pv h0 (fun i ys H _ p => SqL.of (hl i ys H p _ _ ha)) hs hd⟩
  · exact .inr ⟨⟨_, SqT.of (hl 0 _ H h0 _ _ ha)⟩, comp_tup (K := K) (xs := xs) Pv h0 (fun i ys H _ p => SqT.of (hl i ys H p _ _ ha)) hs hd⟩
/-! ### blocks turned -/
/-- a block turned by s, in order -/
def tur (n s : Nat) (b : List Nat) : List Nat := (List.range n).filter fun x => decide (x ∈ b.map fun y => (y + s) % n)
theorem srt_uniq {b c : List Nat} (hb : b.Pairwise (· < ·)) (hc : c.Pairwise (· < ·)) (h : ∀ x, x ∈ b ↔ x ∈ c) : b = c := by
  have nd : ∀ {l : List Nat}, l.Pairwise (· < ·) → l.Nodup := fun hl => List.nodup_iff_pairwise_ne.mpr (hl.imp fun z => Nat.ne_of_lt z)
  exact List.Perm.eq_of_pairwise (le := (· < ·)) (fun _ _ _ _ h1 h2 => absurd h1 (Nat.lt_asymm h2)) hb hc ((List.perm_ext_iff_of_nodup (nd hb) (nd hc)).mpr h)
theorem filt_so (m : Nat) (f : Nat → Bool) : ((List.range m).filter f).Pairwise (· < ·) := List.Pairwise.sublist List.filter_sublist List.pairwise_lt_range
theorem mod_injT {m k x y : Nat} (hx : x < m) (hy : y < m) (h : (x + k) % m = (y + k) % m) : x = y := by
  have h3 := Nat.mod_add_div (x + k) m
  have h4 := Nat.mod_add_div (y + k) m
  rw [h] at h3
  have h6 : (x + k) / m = (y + k) / m ∨ (x + k) / m < (y + k) / m ∨ (y + k) / m < (x + k) / m := by omega
  rcases h6 with h6 | h6 | h6
  · rw [h6] at h3
    omega
  · have := Nat.mul_le_mul_left m (show (x + k) / m + 1 ≤ (y + k) / m from h6)
    rw [Nat.mul_add, Nat.mul_one] at this
    omega
  · have := Nat.mul_le_mul_left m (show (y + k) / m + 1 ≤ (x + k) / m from h6)
    rw [Nat.mul_add, Nat.mul_one] at this
    omega
theorem turn_ndT {m : Nat} {b : List Nat} (hb : Blk m b) (k : Nat) : (b.map fun p => (p + k) % m).Nodup := by
  rw [List.nodup_iff_pairwise_ne, List.pairwise_map]
  exact List.Pairwise.imp_of_mem (fun {x y} hx hy hne e => hne (mod_injT (hb.lt x hx) (hb.lt y hy) e)) hb.nd
theorem tur_mem {n s x : Nat} {b : List Nat} (hn : 0 < n) : x ∈ tur n s b ↔ ∃ y ∈ b, (y + s) % n = x := by
  unfold tur
  rw [List.mem_filter, List.mem_range, decide_eq_true_eq, List.mem_map]
  exact ⟨fun h => h.2, fun ⟨y, hy, e⟩ => ⟨by rw [← e]; exact Nat.mod_lt _ hn, y, hy, e⟩⟩
theorem tur_eq {n s : Nat} {b c : List Nat} (hn : 0 < n) (hb : Blk n b) (hp : c.Perm (b.map fun y => (y + s) % n)) (hs : c.Pairwise (· ≤ ·)) : c = tur n s b := by
  have hn' := List.nodup_iff_pairwise_ne.mp (hp.nodup_iff.mpr (turn_ndT hb s))
  refine srt_uniq ((hs.and hn').imp fun ⟨z1, z2⟩ => Nat.lt_of_le_of_ne z1 z2) (filt_so n _) fun x => ?_
  rw [tur_mem hn, hp.mem_iff, List.mem_map]
theorem tur_bls {n s : Nat} (b : List Nat) : Bls n (tur n s b) := ⟨filt_so n _, fun x hx => List.mem_range.mp (List.mem_filter.mp hx).1⟩
theorem tur_tur {n s r : Nat} (hn : 0 < n) (b : List Nat) : tur n r (tur n s b) = tur n (s + r) b := by
  refine srt_uniq (filt_so n _) (filt_so n _) fun x => ?_
  rw [tur_mem hn, tur_mem hn]
  constructor
  · rintro ⟨y, hy, rfl⟩
    obtain ⟨z, hz, rfl⟩ := (tur_mem hn).mp hy
    exact ⟨z, hz, by rw [Nat.mod_add_mod, Nat.add_assoc]⟩
  · rintro ⟨z, hz, rfl⟩
    exact ⟨(z + s) % n, (tur_mem hn).mpr ⟨z, hz, rfl⟩, by rw [Nat.mod_add_mod, Nat.add_assoc]⟩
theorem tur_zero {n : Nat} {b : List Nat} (hn : 0 < n) (hb : Bls n b) : tur n 0 b = b := by
  refine srt_uniq (filt_so n _) hb.so fun x => ?_
  rw [tur_mem hn]
  constructor
  · rintro ⟨y, hy, rfl⟩
    rw [Nat.add_zero, Nat.mod_eq_of_lt (hb.lt y hy)]
    exact hy
  · exact fun hx => ⟨x, hx, by rw [Nat.add_zero, Nat.mod_eq_of_lt (hb.lt x hx)]⟩
theorem tur_mod {n s : Nat} (b : List Nat) : tur n (s % n) b = tur n s b := by
  unfold tur
  congr 1
  funext x
  congr 2
  refine List.map_congr_left fun y _ => ?_
  rw [Nat.add_mod_mod]
def spTurned : Sp := fun vs H Q _ => ∃ (a : Addr) (n s : Nat) (b : List Nat), vs = [.int ((n : Nat) : Int), .ref a, .int ((s : Nat) : Int)] ∧ (H a = some (.lst (nats b)) ∨ H a = some (.tup (nats b))) ∧ 1 ≤ n ∧ n ≤ 60 ∧ Blk n b ∧ ∀ (t : Addr) (H' : Hp), H t = none → Same H H' → H' t = some (.tup (nats (tur n s b))) → Q (.ref t) H'
theorem scTurned : FnScope ["n", "block", "step"] ["n", "block", "step"] (defScope sTurned) := ⟨rfl, rfl, rfl, by decide +kernel, rfl, by decide +kernel, by decide +kernel⟩
theorem ok_turned {f : Addr} {fd : FuncData} (F : Fun K "turned" "turned" sTurned f fd) (T : TxtB mg) (pInOrder : Pm P w K mg base CX0 1 "in_order" ["block"] spOrder) : FnOk P w K mg base CX0 2 f fd ["n", "block", "step"] spTurned := by
  refine F.okQ scTurned (fun vs H Q E h => ?_) (fun cdv A outer s H vs Q E hr h => ?_)
  · obtain ⟨a, n, s, b, rfl, _⟩ := h
    rfl
  · obtain ⟨a, n, s, b, rfl, ha, hn1, hn2, hb, q⟩ := h
    refine ⟨_, (qss_one (qs_ret (qe_callP pInOrder hr rfl pass0 (qac (qe_comp (g := gName 0) (N := ["point", "n", "step"]) (src := [none, some 0, some 2]) rfl (comp_scope (defScope sTurned) ["n", "block", "step"] rfl rfl (by decide +kernel) rfl) (qi_seq (qv 1)) (fun _ _ _ _ _ => (qg_name (i := 0) (show (["point", "n", "step"] : List Str).Nodup by decide +kernel) rfl (Or.inl rfl) (Or.inr rfl))) (fun _ _ _ _ _ => qif_nil) (fun _ _ _ _ _ => (qe_op op_mod (qe_op op_add (qv 0) (qv 2)) (qv 1)))) qa_nil)))), ?_⟩
    refine ⟨_, rfl, a, rfl, comp_seq (K := K) (xs := nats b) ha (fun j zs H3 => H3 = H ∧ zs = nats ((b.take j).map fun p => (p + s) % n)) ⟨rfl, rfl⟩ (fun j zs H3 ⟨e, _⟩ => e ▸ Same.refl _) ?_ ?_⟩
    · rintro j x zs H3 N3 hj ⟨rfl, rfl⟩ nx3
      obtain ⟨p, hp, rfl⟩ := L2.nats_get hj
      refine ⟨Weak.set (by intro v z; cases z), ⟨_, rfl, _, rfl, _, _, rfl, rfl, _, rfl, _, _, rfl, rfl, by omega, ?_, nx3 _ _ ⟨rfl, ?_⟩⟩⟩
      · rw [nats_len, List.length_map, List.length_take]
        have := hb.len
        exact Nat.lt_of_le_of_lt (show _ ≤ 60 by omega) (by decide)
      · rw [List.take_add_one, hp, Option.toList_some, List.map_append, List.map_cons, List.map_nil, nats_snoc]
        rfl
    · rintro zs H3 ⟨rfl, rfl⟩
      rw [show b.take (nats b).length = b by rw [nats_len, List.take_length]]
      have hl60 : (b.map fun p => (p + s) % n).length ≤ 60 := by
        rw [List.length_map]
        exact Nat.le_trans hb.len hn2
      refine ⟨by rw [nats_len]; exact Nat.le_trans hl60 (by decide), fun r hr' => ?_⟩
      have w1 := same_new (o := .lst (nats (b.map fun p => (p + s) % n))) hr'
      refine ⟨r, _, rfl, upd_same, hl60, fun t c H4 ht s4 ht4 hp hs => ?_⟩
      rw [tur_eq hn1 hb hp hs] at ht4
      exact q t H4 (w1.free ht) (w1.trans s4) ht4
def spAllT : Sp := fun vs H Q _ => ∃ (a : Addr) (n : Nat) (b : List Nat), vs = [.int ((n : Nat) : Int), .ref a] ∧ (H a = some (.lst (nats b)) ∨ H a = some (.tup (nats b))) ∧ 1 ≤ n ∧ n ≤ 60 ∧ Blk n b ∧ ∀ (l : Addr) (ws : List V) (H' : Hp), H l = none → Same H H' → H' l = some (.lst ws) → TpAt H' ws ((List.range n).map fun s => tur n s b) → Q (.ref l) H'
theorem scAllTurned : FnScope ["n", "block"] ["n", "block"] (defScope sAllTurned) := ⟨rfl, rfl, rfl, by decide +kernel, rfl, by decide +kernel, by decide +kernel⟩
theorem same_or {H H' : Hp} (s : Same H H') {a : Addr} {xs : List V} (h : H a = some (.lst xs) ∨ H a = some (.tup xs)) : H' a = some (.lst xs) ∨ H' a = some (.tup xs) := by
  rcases h with h | h
  · exact .inl (s _ _ h)
  · exact .inr (s _ _ h)
theorem ok_allT {f : Addr} {fd : FuncData} (F : Fun K "all_turned" "all_turned" sAllTurned f fd) (T : TxtB mg) (pTurned : Pm P w K mg base CX0 2 "turned" ["n", "block", "step"] spTurned) : FnOk P w K mg base CX0 3 f fd ["n", "block"] spAllT := by
  refine F.okQ scAllTurned (fun vs H Q E h => ?_) (fun cdv A outer s H vs Q E hr h => ?_)
  · obtain ⟨a, n, b, rfl, _⟩ := h
    rfl
  · obtain ⟨a, n, b, rfl, ha, hn1, hn2, hb, q⟩ := h
    refine ⟨_, (qss_one (qs_ret (qe_comp (g := gName 0) (N := ["step", "n", "block"]) (src := [none, some 0, some 1]) rfl (comp_scope (defScope sAllTurned) ["n", "block"] rfl rfl (by decide +kernel) rfl) (qi_range1 rfl T.range (qac (qv 0) qa_nil)) (fun _ _ _ _ _ => (qg_name (i := 0) (show (["step", "n", "block"] : List Str).Nodup by decide +kernel) rfl (Or.inl rfl) (Or.inr rfl))) (fun _ _ _ _ _ => qif_nil) (fun _ _ _ _ _ => (qe_callP pTurned hr rfl pass0 (qac (qv 1) (qac (qv 2) (qac (qv 0) qa_nil)))))))), ?_⟩
    refine ⟨_, rfl, ((n : Nat) : Int), rfl, by omega, by omega, ?_⟩
    rw [Int.toNat_natCast]
    refine comp_rng (lo := 0) (n := n) (fun i zs H2 => Same H H2 ∧ TpAt H2 zs ((List.range i).map fun s => tur n s b)) ⟨Same.refl _, trivial⟩ ?_ ?_
    · rintro i zs H2 N hi ⟨s2, hT⟩ nx
      rw [Int.zero_add]
      refine ⟨Weak.set (by intro v z; cases z), ⟨_, rfl, _, rfl, _, rfl, a, n, i, b, rfl, same_or s2 ha, hn1, hn2, hb, fun t H3 ht s3 ht3 => ⟨?_, nx _ _ ⟨s2.trans s3, ?_⟩⟩⟩⟩
      · rw [hT.len, List.length_map, List.length_range]
        exact Nat.lt_of_lt_of_le hi (Nat.le_trans hn2 (by decide))
      · rw [List.range_succ, List.map_append]
        exact (hT.sm s3).snoc ht3
    · rintro zs H2 ⟨s2, hT⟩
      refine ⟨by rw [hT.len, List.length_map, List.length_range]; exact Nat.le_trans hn2 (by decide), fun r hr' => ?_⟩
      have w1 := same_new (o := .lst zs) hr'
      exact q r zs _ (s2.free hr') (s2.trans w1) upd_same (hT.sm w1)
/-! ### how often each block comes -/
/-- a dict of blocks and how often each comes -/
structure KvT (bs : List (List Nat)) (kvs : List (List Key × V)) : Prop where
  val : ∀ b, valV kvs (kRw b) = if bs.count b = 0 then none else some (.int ((bs.count b : Nat) : Int))
  few : kvs.length ≤ bs.length
theorem KvT.nil : KvT [] [] := ⟨fun b => by simp [valV], Nat.le_refl _⟩
theorem KvT.getD {bs : List (List Nat)} {kvs : List (List Key × V)} (h : KvT bs kvs) (b : List Nat) : (valV kvs (kRw b)).getD (.int 0) = .int ((bs.count b : Nat) : Int) := by
  rw [h.val]
  by_cases c : bs.count b = 0
  · rw [if_pos c, c]
    rfl
  · rw [if_neg c]
    rfl
theorem KvT.snoc {bs : List (List Nat)} {kvs : List (List Key × V)} (h : KvT bs kvs) (b : List Nat) : KvT (bs ++ [b]) (putK kvs (kRw b) (.int ((bs.count b : Nat) + 1 : Int))) := by
  refine ⟨fun c => ?_, ?_⟩
  · rw [valV_put, List.count_append]
    by_cases e : c = b
    · subst e
      rw [if_pos rfl, List.count_singleton_self, if_neg (by omega)]
      rfl
    · rw [if_neg fun z => e (kRw_inj z), List.count_singleton]
      have : (b == c) = false := by simp [Ne.symm e]
      rw [this]
      exact h.val c
  · have := length_putK kvs (kRw b) (.int ((bs.count b : Nat) + 1 : Int))
    have := h.few
    rw [List.length_append, List.length_singleton]
    omega
def spTimes : Sp := fun vs H Q _ => ∃ (l : Addr) (ws : List V) (bs : List (List Nat)), vs = [.ref l] ∧ (H l = some (.lst ws) ∨ H l = some (.tup ws)) ∧ TpAt H ws bs ∧ bs.length ≤ 1000 ∧ ∀ (d : Addr) (kvs : List (List Key × V)) (H' : Hp), H d = none → Same H H' → H' d = some (.dT kvs) → KvT bs kvs → Q (.ref d) H'
theorem scTimesOfEach : FnScope ["blocks", "times", "block"] ["blocks"] (defScope sTimesOfEach) := ⟨rfl, rfl, rfl, by decide +kernel, rfl, by decide +kernel, by decide +kernel⟩
theorem ok_times {f : Addr} {fd : FuncData} (F : Fun K "times_of_each" "times_of_each" sTimesOfEach f fd) (T : TxtB mg) : FnOk P w K mg base CX0 1 f fd ["blocks"] spTimes := by
  refine F.okQ scTimesOfEach (fun vs H Q E h => ?_) (fun cdv A outer s H vs Q E hr h => ?_)
  · obtain ⟨l, ws, bs, rfl, _⟩ := h
    rfl
  · obtain ⟨l, ws, bs, rfl, hl, hT, h1000, q⟩ := h
    have hu1 := Nat.lt_of_le_of_lt (Nat.add_le_add_left (show 1 ≤ 64 by decide) _) hr.units
    refine ⟨_, (qss_cons (qs_set (i := 1) scTimesOfEach.nd rfl (Or.inl rfl) qe_dnewT)
      (qss_cons (qs_for PassesOwn.never rfl (qi_seq (qv 0)) (qg_name (i := 2) scTimesOfEach.nd rfl (Or.inl rfl))
        (qss_one (qs_dput hu1 (qv 1) (qv 2) (qe_op op_add (qe_getT hu1 (qv 1) (qac (qv 2) (qac qe_int qa_nil))) qe_int))))
      (qss_one (qs_ret (qv 1))))), ?_⟩
    intro d hd
    have w1 := same_new (o := .dT []) hd
    refine ⟨_, rfl, l, rfl, for_seq (K := K) (xs := ws) hl (fun i σ H2 => Same H H2 ∧ ∃ (kvs : List (List Key × V)) (x2 : Option V), σ = [some (.ref l), some (.ref d), x2] ∧ H2 d = some (.dT kvs) ∧ KvT (bs.take i) kvs) ⟨w1, [], none, rfl, upd_same, KvT.nil⟩ (fun i σ H2 z => z.1) ?_ ?_⟩
    · rintro i v σ H2 hi ⟨s2, kvs, x2, rfl, hd2, hK⟩
      obtain ⟨a, b, rfl, hb, ha⟩ := (hT.sm s2).get hi
      have ha' : H2 a = some (.tup ((kRw b).map kV)) := by rw [kRw_v]; exact ha
      have hkl : kvs.length < sizeLine := by
        have h1 := hK.few
        rw [List.length_take] at h1
        exact Nat.lt_of_le_of_lt (show kvs.length ≤ 1000 by omega) (by decide)
      refine ⟨_, rfl, ⟨d, kvs, rfl, hd2⟩, _, rfl, d, a, kvs, kRw b, _, rfl, rfl, hd2, ha', ?_⟩
      rw [hK.getD]
      refine ⟨_, _, rfl, rfl, _, rfl, _, rfl, d, _, rfl, DPut.t hd2 ha' hkl, same_upd s2 hd, _, _, rfl, upd_same, ?_⟩
      rw [List.take_succ, hb]
      exact hK.snoc b
    · rintro σ H2 ⟨s2, kvs, x2, rfl, hd2, hK⟩
      rw [hT.len, List.take_length] at hK
      exact ⟨_, rfl, q d kvs H2 hd s2 hd2 hK⟩
/-! ### whether a layout turns -/
def IsMin (n : Nat) (b d : List Nat) : Prop := (∃ s, s < n ∧ d = tur n s b) ∧ ∀ s, s < n → lexB (zs (tur n s b)) (zs d) = false
theorem zs_inj {a b : List Nat} (h : zs a = zs b) : a = b := by
  unfold zs at h
  induction a generalizing b with
  | nil =>
    cases b with
    | nil => rfl
    | cons y b => cases h
  | cons x a ih =>
    cases b with
    | nil => cases h
    | cons y b =>
      rw [List.map_cons, List.map_cons] at h
      injection h with h1 h2
      rw [ih h2, show x = y by omega]
theorem IsMin.uniq {n : Nat} {b d e : List Nat} (h1 : IsMin n b d) (h2 : IsMin n b e) : d = e := by
  obtain ⟨⟨s, hs, rfl⟩, m1⟩ := h1
  obtain ⟨⟨r, hr, rfl⟩, m2⟩ := h2
  exact zs_inj (lex_tri (m2 s hs) (m1 r hr))
/-- rows in order, each once -/
structure Srt2 (ds : List (List Nat)) : Prop where
  nd : ds.Nodup
  up : ∀ i, i + 1 < ds.length → lexB (zs (ds.getD (i + 1) [])) (zs (ds.getD i [])) = false
theorem Srt2.pw : ∀ {ds : List (List Nat)}, Srt2 ds → ds.Pairwise fun a b => lexB (zs a) (zs b) = true
  | [], _ => .nil
  | [a], _ => by simp
  | a :: b :: ds, h => by
    have h2 : Srt2 (b :: ds) := ⟨(List.nodup_cons.mp h.nd).2, fun i hi => by have := h.up (i + 1) (by simp at hi ⊢; omega); simpa using this⟩
    have ih := h2.pw
    have hab : lexB (zs a) (zs b) = true := by
      cases hc : lexB (zs a) (zs b) with
      | true => rfl
      | false =>
        have h0 := h.up 0 (by simp)
        have e := zs_inj (lex_tri hc h0)
        exact absurd (by rw [show a = b from e]; exact List.mem_cons_self ..) (List.nodup_cons.mp h.nd).1
    refine List.pairwise_cons.mpr ⟨fun c hc => ?_, ih⟩
    rcases List.mem_cons.mp hc with rfl | hc
    · exact hab
    · exact lex_trans hab ((List.pairwise_cons.mp ih).1 c hc)
theorem Srt2.uniq {ds es : List (List Nat)} (h1 : Srt2 ds) (h2 : Srt2 es) (h : ∀ d, d ∈ ds ↔ d ∈ es) : ds = es :=
  List.Perm.eq_of_pairwise (le := fun a b => lexB (zs a) (zs b) = true) (fun a b _ _ x y => by
    have := lex_trans x y
    rw [lex_irr] at this
    cases this) h1.pw h2.pw ((List.perm_ext_iff_of_nodup h1.nd h2.nd).mpr h)
/-- pairs of a block and a number -/
def PrA (H : Hp) (cnt : List Nat → Nat) : List V → List (List Nat) → Prop
  | [], [] => True
  | v :: vs, d :: ds => (∃ p t : Addr, v = .ref p ∧ H p = some (.tup [.ref t, .int ((cnt d : Nat) : Int)]) ∧ H t = some (.tup (nats d))) ∧ PrA H cnt vs ds
  | _, _ => False
theorem PrA.len {H : Hp} {cnt : List Nat → Nat} : ∀ {vs : List V} {ds : List (List Nat)}, PrA H cnt vs ds → vs.length = ds.length
  | [], [], _ => rfl
  | _ :: _, _ :: _, ⟨_, t⟩ => by rw [List.length_cons, List.length_cons, t.len]
theorem PrA.sm {H H' : Hp} (s : Same H H') {cnt : List Nat → Nat} : ∀ {vs : List V} {ds : List (List Nat)}, PrA H cnt vs ds → PrA H' cnt vs ds
  | [], [], _ => trivial
  | _ :: _, _ :: _, ⟨⟨p, t, e, h1, h2⟩, r⟩ => ⟨⟨p, t, e, s _ _ h1, s _ _ h2⟩, r.sm s⟩
theorem PrA.snoc {H : Hp} {cnt : List Nat → Nat} {p t : Addr} {d : List Nat} (h1 : H p = some (.tup [.ref t, .int ((cnt d : Nat) : Int)])) (h2 : H t = some (.tup (nats d))) : ∀ {vs : List V} {ds : List (List Nat)}, PrA H cnt vs ds → PrA H cnt (vs ++ [.ref p]) (ds ++ [d])
  | [], [], _ => ⟨⟨p, t, rfl, h1, h2⟩, trivial⟩
  | _ :: _, _ :: _, ⟨h, r⟩ => ⟨h, r.snoc h1 h2⟩
theorem PrA.get {H : Hp} {cnt : List Nat → Nat} : ∀ {vs : List V} {ds : List (List Nat)} {i : Nat} {v : V}, PrA H cnt vs ds → vs[i]? = some v → ∃ (p t : Addr) (d : List Nat), v = .ref p ∧ ds[i]? = some d ∧ H p = some (.tup [.ref t, .int ((cnt d : Nat) : Int)]) ∧ H t = some (.tup (nats d))
  | [], [], i, v, _, h => by simp at h
  | _ :: _, d :: _, 0, v, ⟨⟨p, t, e, h1, h2⟩, _⟩, h => by
    simp at h
    exact ⟨p, t, d, h ▸ e, rfl, h1, h2⟩
  | _ :: _, _ :: _, i + 1, v, ⟨_, r⟩, h => by
    simp at h
    simpa using r.get h
def Stays (n : Nat) (bs : List (List Nat)) (i : Nat) : Prop := ∃ b, bs[i]? = some b ∧ bs.count (tur n 1 b) < bs.count b ∧ ∀ j, j < i → ∀ c, bs[j]? = some c → bs.count c ≤ bs.count (tur n 1 c)
def Turns (n : Nat) (bs : List (List Nat)) : Prop := ∀ b ∈ bs, bs.count b ≤ bs.count (tur n 1 b)
/-- what is told of a layout: it stays, or it turns -/
def TTAt (H : Hp) (t : Addr) (n : Nat) (bs : List (List Nat)) : Prop :=
  (∃ i : Nat, Stays n bs i ∧ H t = some (.tup [.str "stays", .int ((i : Nat) : Int)])) ∨
  (Turns n bs ∧ ∃ (g : Addr) (us : List V) (ds : List (List Nat)), H t = some (.tup [.str "turns", .ref g]) ∧ H g = some (.lst us) ∧ PrA H (fun d => bs.count d) us ds ∧ Srt2 ds ∧ ∀ d, d ∈ ds ↔ ∃ b ∈ bs, IsMin n b d)
def spTT : Sp := fun vs H Q _ => ∃ (m l : Addr) (n : Nat) (ws : List V) (bs : List (List Nat)), vs = [.ref m] ∧ H m = some (.tup [.int ((n : Nat) : Int), .ref l]) ∧ H l = some (.tup ws) ∧ TpAt H ws bs ∧ bs.length < 64 ∧ 1 ≤ n ∧ n ≤ 60 ∧ (∀ b ∈ bs, Bls n b) ∧ ∀ (t : Addr) (H' : Hp), H t = none → Same H H' → TTAt H' t n bs → (∀ g, H' t = some (.tup [.str "turns", .ref g]) → H g = none) → Q (.ref t) H'
theorem turns_le {n : Nat} {bs : List (List Nat)} (hn : 0 < n) (hbb : ∀ b ∈ bs, Bls n b) (h : Turns n bs) {b : List Nat} (hb : b ∈ bs) : ∀ s, bs.count b ≤ bs.count (tur n s b)
  | 0 => by
    rw [tur_zero hn (hbb b hb)]
    exact Nat.le_refl _
  | s + 1 => by
    have z := turns_le hn hbb h hb s
    have := h _ (List.count_pos_iff.mp (Nat.lt_of_lt_of_le (List.count_pos_iff.mpr hb) z))
    rw [tur_tur hn] at this
    exact Nat.le_trans z this
/-- along the turns a block comes as often -/
theorem turns_eq {n : Nat} {bs : List (List Nat)} (hn : 0 < n) (hbb : ∀ b ∈ bs, Bls n b) (h : Turns n bs) {b : List Nat} (hb : b ∈ bs) {s : Nat} (hs : s < n) : bs.count (tur n s b) = bs.count b := by
  have h1 := turns_le hn hbb h hb s
  have hm : tur n s b ∈ bs := List.count_pos_iff.mp (Nat.lt_of_lt_of_le (List.count_pos_iff.mpr hb) h1)
  have h2 := turns_le hn hbb h hm (n - s)
  rw [tur_tur hn, show s + (n - s) = n by omega, ← tur_mod (s := n), Nat.mod_self, tur_zero hn (hbb b hb)] at h2
  omega
theorem turns_in {n : Nat} {bs : List (List Nat)} (hn : 0 < n) (hbb : ∀ b ∈ bs, Bls n b) (h : Turns n bs) {b : List Nat} (hb : b ∈ bs) (s : Nat) : tur n s b ∈ bs := List.count_pos_iff.mp (Nat.lt_of_lt_of_le (List.count_pos_iff.mpr hb) (turns_le hn hbb h hb s))
theorem scTurnsTold : FnScope ["M", "times", "number", "block", "bases"] ["M"] (defScope sTurnsTold) := ⟨rfl, rfl, rfl, by decide +kernel, rfl, by decide +kernel, by decide +kernel⟩
theorem ok_tt {f : Addr} {fd : FuncData} (F : Fun K "turns_told" "turns_told" sTurnsTold f fd) (T : TxtB mg) (pTimesOfEach : Pm P w K mg base CX0 1 "times_of_each" ["blocks"] spTimes) (pTurned : Pm P w K mg base CX0 2 "turned" ["n", "block", "step"] spTurned) (pAllTurned : Pm P w K mg base CX0 3 "all_turned" ["n", "block"] spAllT) : FnOk P w K mg base CX0 4 f fd ["M"] spTT := by
  refine F.okQ scTurnsTold (fun vs H Q E h => ?_) (fun cdv A outer s H vs Q E hr3 h => ?_)
  · obtain ⟨m, l, n, ws, bs, rfl, _⟩ := h
    rfl
  · obtain ⟨m, l, n, ws, bs, rfl, hm, hl, hT, h64, hn1, hn2, hbb, q⟩ := h
    have hr1 := hr3.mono (show 1 ≤ 3 by decide)
    have hr2 := hr3.mono (show 2 ≤ 3 by decide)
    have hu := hr3.units
    have hu1 := Nat.lt_of_le_of_lt (Nat.add_le_add_left (show 1 ≤ 64 by decide) _) hr3.units
    refine ⟨_, (qss_cons (qs_set (i := 1) scTurnsTold.nd rfl (Or.inr rfl) (qe_callP pTimesOfEach hr1 rfl pass0 (qac (qe_ix ix_tup (qv 0) qe_int (fun _ _ => rfl)) qa_nil)))
      (qss_cons (qs_for PassesOwn.never rfl (qi_enumT rfl T.enu (qac (qe_ix ix_tup (qv 0) qe_int (fun _ _ => rfl)) qa_nil)) (qg_tup rfl (qgs_cons (qg_name (i := 2) scTurnsTold.nd rfl (Or.inl rfl)) (qgs_cons (qg_name (i := 3) scTurnsTold.nd rfl (Or.inl rfl)) qgs_nil)))
        (qss_one (qs_if (qt_cmpR op_lt (qe_getT hu1 (qv 1) (qac (qe_callP pTurned hr2 rfl pass0 (qac (qe_ix ix_tup (qv 0) qe_int (fun _ _ => rfl)) (qac (qv 3) (qac qe_int qa_nil)))) (qac qe_int qa_nil))) (qe_dget hu1 (qv 1) (qv 3) (fun _ _ => rfl)) (nomark _)) (qss_one (qs_ret (qe_tup (qac qe_str (qac (qv 2) qa_nil))))) qss_nil)))
      (qss_cons (qs_set (i := 4) scTurnsTold.nd rfl (Or.inl rfl) (qe_callB (show CallR _ _ (rSortTs P w) from call_sortTs rfl hu) (by rfl) T.sor (by decide +kernel) (qac (qe_callTy (show CallR _ _ (rSetTs P w K) from call_setTs rfl hu) (by rfl) T.set (by decide +kernel) (qac (qe_comp (g := gName 0) (N := ["block", "M"]) (src := [none, some 0]) rfl (comp_scope (defScope sTurnsTold) ["M", "times", "number", "block", "bases"] rfl rfl (by decide +kernel) rfl) (qi_tup (qe_ix ix_tup (qv 0) qe_int (fun _ _ => rfl))) (fun _ _ _ _ _ => (qg_name (i := 0) (show (["block", "M"] : List Str).Nodup by decide +kernel) rfl (Or.inl rfl) (Or.inr rfl))) (fun _ _ _ _ _ => qif_nil) (fun _ _ _ _ _ => (qe_callB (show CallR _ _ (rMinT K) from call_minT rfl hu) (by rfl) T.min PyProof.Rows.boot_min (qac (qe_callP pAllTurned hr3 rfl pass0 (qac (qe_ix (show IxR _ (rIxT K) from ix_tup) (qv 1) qe_int (fun _ _ => rfl)) (qac (qv 0) qa_nil))) qa_nil)))) qa_nil)) qa_nil)))
      (qss_one (qs_ret (qe_tup (qac qe_str (qac (qe_comp (g := gName 0) (N := ["base", "times"]) (src := [none, some 1]) rfl (comp_scope (defScope sTurnsTold) ["M", "times", "number", "block", "bases"] rfl rfl (by decide +kernel) rfl) (qi_list (qv 4)) (fun _ _ _ _ _ => (qg_name (i := 0) (show (["base", "times"] : List Str).Nodup by decide +kernel) rfl (Or.inl rfl) (Or.inr rfl))) (fun _ _ _ _ _ => qif_nil) (fun _ _ _ _ _ => (qe_tup (qac (qv 0) (qac (qe_dget hu1 (qv 1) (qv 0) (fun _ _ => rfl)) qa_nil))))) qa_nil)))))))), ?_⟩
    refine ⟨_, rfl, m, _, 1, .ref l, rfl, rfl, SqT.of hm, rfl, l, ws, bs, rfl, .inr hl, hT, by omega, fun d kvs H1 hd0 s1 hd1 hK => ?_⟩
    have hm1 := s1 _ _ hm
    have hl1 := s1 _ _ hl
    have hT1 := hT.sm s1
    have hwl := hT.len
    refine ⟨_, rfl, m, _, 1, .ref l, rfl, rfl, SqT.of hm1, rfl, l, rfl, ⟨_, SqT.of hl1⟩, for_enumT (K := K) (a := l) (xs := ws) (fun i σ H2 => Same H1 H2 ∧ (∃ x2 x3 : Option V, σ = [some (.ref m), some (.ref d), x2, x3, none]) ∧ ∀ j, j < i → ∀ c, bs[j]? = some c → bs.count c ≤ bs.count (tur n 1 c)) ⟨Same.refl _, ⟨_, _, rfl⟩, fun j hj => absurd hj (Nat.not_lt_zero _)⟩ (fun i σ H2 _ ⟨e, _⟩ => SqT.of (e _ _ hl1)) ?_ ?_⟩
    · rintro i v U σ H2 hi ⟨s2, ⟨x2, x3, rfl⟩, hpast⟩ hU
      obtain ⟨a, b, rfl, hb, ha⟩ := (hT1.sm s2).get hi
      have hbm := List.mem_of_getElem? hb
      have v1 := same_new (o := .tup [.int ((i : Nat) : Int), .ref a]) hU
      refine ⟨U, _, rfl, SqT.of upd_same, rfl, _, _, rfl, _, _, rfl, rfl, ?_⟩
      have s3 := s2.trans v1
      have ha3 := v1 _ _ ha
      generalize upd H2 U (.tup [.int ((i : Nat) : Int), .ref a]) = H3 at s3 ha3 ⊢
      refine ⟨_, rfl, ⟨d, kvs, rfl, s3 _ _ hd1⟩, _, rfl, m, _, 0, .int ((n : Nat) : Int), rfl, rfl, SqT.of (s3 _ _ hm1), rfl, _, rfl, a, n, 1, b, rfl, .inr ha3, hn1, hn2, (hbb b hbm).blk, fun t H4 _ s4 ht4 => ?_⟩
      have s14 := s3.trans s4
      have ha4 := s4 _ _ ha3
      refine ⟨d, t, kvs, kRw (tur n 1 b), .int 0, rfl, rfl, s14 _ _ hd1, by rw [kRw_v]; exact ht4, ?_⟩
      rw [hK.getD]
      have hcp : bs.count b ≠ 0 := Nat.pos_iff_ne_zero.mp (List.count_pos_iff.mpr hbm)
      have hval : valV kvs (kRw b) = some (.int ((bs.count b : Nat) : Int)) := by rw [hK.val, if_neg hcp]
      refine ⟨_, rfl, _, rfl, d, .int ((bs.count b : Nat) : Int), rfl, ?_, ?_⟩
      · rw [← hval]
        exact DGet.t (s14 _ _ hd1) (by rw [kRw_v]; exact ha4)
      refine ⟨_, _, rfl, rfl, _, rfl, ?_⟩
      by_cases c : bs.count (tur n 1 b) < bs.count b
      · refine ifT (by omega) ⟨_, rfl, by show 2 ≤ sizeLine; decide, fun t2 ht2 => ?_⟩
        have v5 := same_new (o := .tup [V.str "stays", .int ((i : Nat) : Int)]) ht2
        exact q t2 _ (s1.free (s14.free ht2)) (s1.trans (s14.trans v5)) (.inl ⟨i, ⟨b, hb, c, hpast⟩, upd_same⟩) (fun g e => by
          rw [upd_same] at e
          injection e with e
          injection e with e
          injection e with e _
          injection e with e
          exact absurd e (by decide +kernel))
      · refine ifF (by omega) ⟨s14, ⟨_, _, rfl⟩, fun j hj e he => ?_⟩
        by_cases ej : j = i
        · subst ej
          rw [hb] at he
          cases he
          omega
        · exact hpast j (by omega) e he
    · rintro σ H2 ⟨s2, ⟨x2, x3, rfl⟩, hpast⟩
      have hTu : Turns n bs := fun b hb => by
        obtain ⟨j, hj, rfl⟩ := List.mem_iff_getElem.mp hb
        exact hpast j (by omega) _ (List.getElem?_eq_getElem hj)
      have hm2 := s2 _ _ hm1
      have hl2 := s2 _ _ hl1
      have hT2 := hT1.sm s2
      have hd2 := s2 _ _ hd1
      refine ⟨_, rfl, m, _, 1, .ref l, rfl, rfl, SqT.of hm2, rfl, l, rfl, ⟨_, SqT.of hl2⟩, comp_tup (K := K) (xs := ws) (fun i zs H3 => Same H2 H3 ∧ ∃ es : List (List Nat), TpAt H3 zs es ∧ es.length = i ∧ (∀ d ∈ es, ∃ b ∈ bs, IsMin n b d) ∧ ∀ j, j < i → ∀ b, bs[j]? = some b → ∃ d ∈ es, IsMin n b d) ⟨Same.refl _, [], trivial, rfl, nofun, fun j hj => absurd hj (Nat.not_lt_zero _)⟩ (fun i zs H3 _ ⟨e, _⟩ => SqT.of (e _ _ hl2)) ?_ ?_⟩
      · rintro i v zs H3 N hi ⟨s3, es, hE, hel, hof, hall⟩ nx
        obtain ⟨a, b, rfl, hb, ha⟩ := (hT2.sm s3).get hi
        have hbm := List.mem_of_getElem? hb
        have hil := (List.getElem?_eq_some_iff.mp hb).1
        refine ⟨Weak.set (by intro v z; cases z), ⟨_, rfl, m, _, 0, .int ((n : Nat) : Int), rfl, rfl, SqT.of (s3 _ _ hm2), rfl, _, rfl, a, n, b, rfl, .inr ha, hn1, hn2, (hbb b hbm).blk, fun c us H4 _ s4 hc4 hU => ?_⟩⟩
        refine ⟨c, us, _, rfl, SqL.of hc4, hU, by rw [List.length_map, List.length_range]; omega, fun t e he ht hmin => ⟨?_, nx _ _ ⟨s3.trans s4, es ++ [e], (hE.sm s4).snoc ht, by rw [List.length_append, hel]; rfl, fun d hd => ?_, fun j hj c' hc' => ?_⟩⟩⟩
        · rw [hE.len, hel]
          exact Nat.lt_of_lt_of_le (show i < 64 by omega) (by decide)
        · rcases List.mem_append.mp hd with z | z
          · exact hof d z
          · rw [List.mem_singleton.mp z]
            obtain ⟨r, hr', rfl⟩ := List.mem_map.mp he
            exact ⟨b, hbm, ⟨r, List.mem_range.mp hr', rfl⟩, fun s hs => hmin _ (List.mem_map.mpr ⟨s, List.mem_range.mpr hs, rfl⟩)⟩
        · by_cases ej : j = i
          · subst ej
            rw [hb] at hc'
            cases hc'
            obtain ⟨r, hr', rfl⟩ := List.mem_map.mp he
            exact ⟨_, List.mem_append_right _ (List.mem_singleton.mpr rfl), ⟨r, List.mem_range.mp hr', rfl⟩, fun s hs => hmin _ (List.mem_map.mpr ⟨s, List.mem_range.mpr hs, rfl⟩)⟩
          · obtain ⟨d', h1, h2⟩ := hall j (by omega) c' hc'
            exact ⟨d', List.mem_append_left _ h1, h2⟩
      · rintro zs H3 ⟨s3, es, hE, hel, hof, hall⟩
        have hes : es.length ≤ 64 := by omega
        refine ⟨by rw [hE.len]; exact Nat.le_trans hes (by decide), fun r hr' => ?_⟩
        have v4 := same_new (o := .lst zs) hr'
        refine ⟨r, zs, es, rfl, SqL.of upd_same, hE.sm v4, hes, fun y us cs hy hU hnd hc1 hc2 hcl => ?_⟩
        have v5 := same_new (o := TsO P w y us cs) hy
        have s5 := s3.trans (v4.trans v5)
        have hy5 : (upd (upd H3 r (.lst zs)) y (TsO P w y us cs)) y = some (TsO P w y us cs) := upd_same
        have hU5 := hU.sm v5
        generalize upd (upd H3 r (.lst zs)) y (TsO P w y us cs) = H5 at s5 hy5 hU5 ⊢
        refine ⟨y, us, cs, rfl, hy5, hU5, by omega, fun u vs ds hu0 hV hp hup => ?_⟩
        have v6 := same_new (o := .lst vs) hu0
        have hu6 : (upd H5 u (.lst vs)) u = some (.lst vs) := upd_same
        have s6 := s5.trans v6
        have hV6 := hV.sm v6
        dsimp only [gName]
        generalize upd H5 u (.lst vs) = H6 at s6 hu6 hV6 ⊢
        have hd6 := s6 _ _ hd2
        have hds : ∀ e, e ∈ ds ↔ ∃ b ∈ bs, IsMin n b e := fun e => by
          rw [hp.mem_iff]
          constructor
          · exact fun z => hof e (hc1 e z)
          · rintro ⟨b, hb, hmin⟩
            obtain ⟨j, hj, rfl⟩ := List.mem_iff_getElem.mp hb
            obtain ⟨e', h1, h2⟩ := hall j (by omega) _ (List.getElem?_eq_getElem hj)
            rw [hmin.uniq h2]
            exact hc2 _ h1
        have hdl : ds.length ≤ 64 := by rw [hp.length_eq]; omega
        refine ⟨_, rfl, u, rfl, ⟨_, SqL.of hu6⟩, comp_list (K := K) (xs := vs) (fun i zs H7 => Same H6 H7 ∧ PrA H7 (fun d => bs.count d) zs (ds.take i)) ⟨Same.refl _, trivial⟩ (fun i zs H7 _ ⟨e, _⟩ => SqL.of (e _ _ hu6)) ?_ ?_⟩
        · rintro i v zs H7 N hi ⟨s7, hPr⟩ nx
          obtain ⟨a, e, rfl, he, ha⟩ := (hV6.sm s7).get hi
          have hil := (List.getElem?_eq_some_iff.mp he).1
          obtain ⟨b, hb, ⟨r, hrn, er⟩, _⟩ := (hds e).mp (List.mem_of_getElem? he)
          have hcp : bs.count e ≠ 0 := by
            rw [er]
            exact Nat.pos_iff_ne_zero.mp (List.count_pos_iff.mpr (turns_in hn1 hbb hTu hb r))
          refine ⟨Weak.set (by intro v z; cases z), ⟨_, rfl, _, rfl, _, rfl, d, .int ((bs.count e : Nat) : Int), rfl, ?_, by show 2 ≤ sizeLine; decide, fun t ht => ⟨?_, nx _ _ ⟨s7.trans (same_new ht), ?_⟩⟩⟩⟩
          · have hval : valV kvs (kRw e) = some (.int ((bs.count e : Nat) : Int)) := by rw [hK.val, if_neg hcp]
            rw [← hval]
            exact DGet.t (s7 _ _ hd6) (by rw [kRw_v]; exact ha)
          · rw [hPr.len, List.length_take]
            exact Nat.lt_of_le_of_lt (show _ ≤ 64 by omega) (by decide)
          · rw [List.take_succ, he]
            exact (hPr.sm (same_new ht)).snoc upd_same (same_new ht _ _ ha)
        · rintro zs H7 ⟨s7, hPr⟩
          rw [hV6.len, List.take_length] at hPr
          refine ⟨by rw [hPr.len]; exact Nat.le_trans hdl (by decide), fun g hg => ⟨by show 2 ≤ sizeLine; decide, fun t ht => ?_⟩⟩
          have v8 := same_new (o := .lst zs) hg
          have v9 := same_new (o := .tup [V.str "turns", .ref g]) ht
          have s9 := s6.trans (s7.trans (v8.trans v9))
          refine q t _ (s1.free (s2.free (s6.free (s7.free (v8.free ht))))) (s1.trans (s2.trans s9)) (.inr ⟨hTu, g, zs, ds, upd_same, v9 _ _ upd_same, (hPr.sm v8).sm v9, ⟨hp.nodup_iff.mpr hnd, hup⟩, hds⟩) (fun g' e => by
            rw [upd_same] at e
            injection e with e
            injection e with e
            injection e with _ e
            injection e with e _
            injection e with e
            rw [← e]
            exact s1.free (s2.free (s6.free (s7.free hg))))
/-- the blocks of all bases -/
def dev (n : Nat) (bs : List (List Nat)) : List (List Nat) := bs.flatMap fun b => (List.range n).map fun s => tur n s b
theorem dev_len (n : Nat) : ∀ bs : List (List Nat), (dev n bs).length = n * bs.length
  | [] => by simp [dev]
  | b :: bs => by
    have := dev_len n bs
    unfold dev at this ⊢
    rw [List.flatMap_cons, List.length_append, this, List.length_map, List.length_range, List.length_cons, Nat.mul_add, Nat.mul_one, Nat.add_comm]
theorem dev_snoc {n i : Nat} {bs : List (List Nat)} {b : List Nat} (h : bs[i]? = some b) : dev n (bs.take (i + 1)) = dev n (bs.take i) ++ (List.range n).map fun s => tur n s b := by
  unfold dev
  rw [take_snoc h, List.flatMap_append, List.flatMap_cons, List.flatMap_nil, List.append_nil]
theorem dev_take_le {n : Nat} (bs : List (List Nat)) (i : Nat) : (dev n (bs.take i)).length ≤ n * bs.length := by
  rw [dev_len]
  exact Nat.mul_le_mul_left n (List.length_take_le' ..)
def spDev : Sp := fun vs H Q _ => ∃ (l : Addr) (n : Nat) (ws : List V) (bs : List (List Nat)), vs = [.int ((n : Nat) : Int), .ref l] ∧ H l = some (.lst ws) ∧ BlAt H ws bs ∧ 1 ≤ n ∧ n ≤ 60 ∧ n * bs.length ≤ 200 ∧ (∀ b ∈ bs, Blk n b) ∧ ∀ (t u : Addr) (us : List V) (H' : Hp), Same H H' → H' t = some (.tup [.int ((n : Nat) : Int), .ref u]) → H' u = some (.tup us) → TpAt H' us (dev n bs) → Q (.ref t) H'
theorem scDeveloped : FnScope ["n", "bases", "blocks", "base"] ["n", "bases"] (defScope sDeveloped) := ⟨rfl, rfl, rfl, by decide +kernel, rfl, by decide +kernel, by decide +kernel⟩
theorem ok_dev {f : Addr} {fd : FuncData} (F : Fun K "developed" "developed" sDeveloped f fd) (T : TxtB mg) (pMustBeBases : Pm P w K mg base CX0 4 "must_be_bases" ["n", "bases"] spMustB) (pAllTurned : Pm P w K mg base CX0 3 "all_turned" ["n", "block"] spAllT) : FnOk P w K mg base CX0 5 f fd ["n", "bases"] spDev := by
  refine F.okQ scDeveloped (fun vs H Q E h => ?_) (fun cdv A outer s H vs Q E hr4 h => ?_)
  · obtain ⟨l, n, ws, bs, rfl, _⟩ := h
    rfl
  · obtain ⟨l, n, ws, bs, rfl, hl, hB, hn1, hn2, hlen, hbb, q⟩ := h
    have hr3 := hr4.mono (show 3 ≤ 4 by decide)
    refine ⟨_, (qss_cons (qs_expr (qe_callP pMustBeBases hr4 rfl pass0 (qac (qv 0) (qac (qv 1) qa_nil))))
      (qss_cons (qs_set (i := 2) scDeveloped.nd rfl (Or.inl rfl) (qe_lst qa_nil))
      (qss_cons (qs_for PassesOwn.never rfl (qi_list (qv 1)) (qg_name (i := 3) scDeveloped.nd rfl (Or.inl rfl))
        (qss_one (qs_expr (qe_bm PySem.F.plainAttrs_list PySem.F.slot_list_extend PySem.F.type_list_extend mt_extend (qv 2) (qac (qe_callP pAllTurned hr3 rfl pass0 (qac (qv 0) (qac (qv 3) qa_nil))) qa_nil)))))
      (qss_one (qs_ret (qe_tup (qac (qv 0) (qac (qe_callTy call_tuple_of (by rfl) T.tup (by decide +kernel) (qac (qv 2) qa_nil)) qa_nil)))))))), ?_⟩
    refine ⟨_, rfl, _, rfl, l, n, ws, bs, rfl, hl, hB, hn1, hn2, hlen, hbb, fun H1 s1 => ?_⟩
    refine ⟨by show 0 ≤ sizeLine; decide, fun c hc => ?_⟩
    have w1 := same_new (o := .lst []) hc
    have hc0 : H c = none := s1.free hc
    have hl1 := (s1.trans w1) _ _ hl
    have hcl : c ≠ l := fun z => by
      rw [z, s1 _ _ hl] at hc
      cases hc
    refine ⟨_, rfl, l, rfl, ⟨_, SqL.of hl1⟩, for_list (K := K) (xs := ws) (fun i σ H2 => Same H H2 ∧ ∃ (us : List V) (x3 : Option V), σ = [some (.int ((n : Nat) : Int)), some (.ref l), some (.ref c), x3] ∧ H2 c = some (.lst us) ∧ TpAt H2 us (dev n (bs.take i))) ⟨s1.trans w1, [], none, rfl, upd_same, trivial⟩ (fun i σ H2 _ ⟨s2, _⟩ => SqL.of (s2 _ _ hl)) ?_ ?_⟩
    · rintro i v σ H2 hi ⟨s2, us, x3, rfl, hc2, hT⟩
      obtain ⟨a, b, rfl, hb, ha⟩ := (hB.same s2).get hi
      refine ⟨_, rfl, .inl ⟨rfl, _, SqL.of hc2⟩, _, rfl, _, rfl, a, n, b, rfl, .inl ha, hn1, hn2, hbb b (List.mem_of_getElem? hb), fun g vs H3 hg s3 hg3 hT3 => ?_⟩
      have hlen3 : us.length + vs.length ≤ 200 := by
        have e := dev_take_le (n := n) bs (i + 1)
        rw [dev_snoc hb, List.length_append] at e
        rw [hT.len, hT3.len]
        omega
      refine ⟨c, g, us, vs, rfl, rfl, s3 _ _ hc2, hg3, Nat.le_trans hlen3 (by decide), same_upd (s2.trans s3) hc0, us ++ vs, _, rfl, upd_same, ?_⟩
      rw [dev_snoc hb]
      have hne : ∀ d xs, H3 d = some (.tup xs) → L2.upd H3 c (.lst (us ++ vs)) d = some (.tup xs) := fun d xs hd => by
        rw [upd_ne]
        · exact hd
        · intro z
          rw [z, s3 _ _ hc2] at hd
          cases hd
      exact ((hT.sm s3).same hne).app (hT3.same hne)
    · rintro σ H2 ⟨s2, us, x3, rfl, hc2, hT⟩
      rw [hB.len, List.take_length] at hT
      refine ⟨_, rfl, _, rfl, c, _, rfl, .inl ⟨SqL.of hc2, fun u hu => ?_⟩⟩
      have w2 := same_new (o := .tup us) hu
      refine ⟨by show 2 ≤ sizeLine; decide, fun t ht => ?_⟩
      have w3 := same_new (o := .tup [.int ((n : Nat) : Int), .ref u]) ht
      exact q t u us _ (s2.trans (w2.trans w3)) upd_same (w3 _ _ upd_same) (hT.sm (w2.trans w3))
def dPr (cnt : List Nat → Nat) (d : List Nat) : PyData := .tuple [dTup d, .int ((cnt d : Nat) : Int)]
def dTT (cnt : List Nat → Nat) (ds : List (List Nat)) : PyData := .tuple [.str "turns", .list (ds.map (dPr cnt))]
theorem prs_isD {K : PySem.W.Frag} {H : Hp} {cnt : List Nat → Nat} : ∀ {vs : List V} {ds : List (List Nat)}, PrA H cnt vs ds → IsDs K H (ds.map (dPr cnt)) vs
  | [], [], _ => by simp [IsDs]
  | v :: vs, d :: ds, ⟨⟨p, t, e, h1, h2⟩, r⟩ => by
    simp only [List.map_cons, IsDs]
    refine ⟨v, vs, rfl, ?_, prs_isD r⟩
    simp only [dPr, dTup, IsD, IsDs]
    exact ⟨p, _, e, SqT.of h1, _, _, rfl, ⟨t, _, rfl, SqT.of h2, ints_isD' d⟩, _, _, rfl, rfl, rfl⟩
theorem lay_prs (cnt : List Nat → Nat) : ∀ ds : List (List Nat), PyData.canLayAll0 (ds.map (dPr cnt)) = true
  | [] => by simp [PyData.canLayAll0]
  | d :: ds => by
    have h1 := lay_ints' d
    simp only [List.map_cons, PyData.canLayAll0, dPr, dTup, PyData.canLay0, h1, lay_prs cnt ds, Bool.and_self, Bool.true_and]
theorem depth_prs (cnt : List Nat → Nat) : ∀ ds : List (List Nat), PyData.depthAll (ds.map (dPr cnt)) ≤ 3
  | [] => by simp [PyData.depthAll]
  | d :: ds => by
    have h1 := depth_ints' d
    have h2 := depth_prs cnt ds
    simp only [List.map_cons, PyData.depthAll, dPr, dTup, PyData.depth]
    omega
theorem eqv_prs (cnt : List Nat → Nat) : ∀ ds : List (List Nat), PyData.eqvAll (ds.map (dPr cnt)) (ds.map (dPr cnt)) = true
  | [] => by simp [PyData.eqvAll]
  | d :: ds => by simp [List.map_cons, PyData.eqvAll, dPr, dTup, PyData.eqv, eqv_ints' d, eqv_prs cnt ds]
theorem shaped_tt (cnt : List Nat → Nat) (ds : List (List Nat)) : PySem.SeqAt.shaped (dTT cnt ds) = true := by
  unfold PySem.SeqAt.shaped dTT
  rw [Bool.and_eq_true]
  refine ⟨by simp [PyData.canLay0, PyData.canLayAll0, lay_prs cnt ds]; decide +kernel, decide_eq_true ?_⟩
  have := depth_prs cnt ds
  simp only [PyData.depth, PyData.depthAll]
  omega
theorem eqv_tt (cnt : List Nat → Nat) (ds : List (List Nat)) : PyData.eqv (dTT cnt ds) (dTT cnt ds) = true := by
  simp [dTT, PyData.eqv, PyData.eqvAll, eqv_prs cnt ds]
theorem isD_tt {K : PySem.W.Frag} {H : Hp} {cnt : List Nat → Nat} {t g : Addr} {us : List V} {ds : List (List Nat)} (ht : H t = some (.tup [.str "turns", .ref g])) (hg : H g = some (.lst us)) (hP : PrA H cnt us ds) : IsD K H (dTT cnt ds) (.ref t) := by
  simp only [dTT, IsD, IsDs]
  exact ⟨t, _, rfl, SqT.of ht, _, _, rfl, rfl, _, _, rfl, ⟨g, _, rfl, SqL.of hg, prs_isD hP⟩, rfl⟩
theorem Stays.not {n : Nat} {bs : List (List Nat)} {i : Nat} (h1 : Stays n bs i) (h2 : Turns n bs) : False := by
  obtain ⟨b, e1, c1, _⟩ := h1
  have := h2 b (List.mem_of_getElem? e1)
  omega
theorem TTAt.sm {H H' : Hp} (s : Same H H') {t : Addr} {n : Nat} {bs : List (List Nat)} (h : TTAt H t n bs) : TTAt H' t n bs := by
  rcases h with ⟨i, h1, h2⟩ | ⟨h1, g, us, ds, h2, h3, h4, h5⟩
  · exact .inl ⟨i, h1, s _ _ h2⟩
  · exact .inr ⟨h1, g, us, ds, s _ _ h2, s _ _ h3, h4.sm s, h5⟩
/-! ### what turns: turned, complemented, sorted -/
theorem nodup_dups : ∀ (k : Nat) (l : List (List Nat)), l.length ≤ k → l.eraseDups.Nodup
  | 0, l, h => by
    cases l with
    | nil => simp
    | cons a l => simp at h
  | k + 1, l, h => by
    cases l with
    | nil => simp
    | cons a l =>
      rw [List.eraseDups_cons, List.nodup_cons]
      refine ⟨fun z => ?_, nodup_dups k _ (Nat.le_trans (List.length_filter_le ..) (by simpa using h))⟩
      rw [List.mem_eraseDups, List.mem_filter] at z
      simp at z
/-- the unlike ones among all turned ones -/
def orb (n : Nat) (d : List Nat) : List (List Nat) := ((List.range n).map fun s => tur n s d).eraseDups
theorem orb_nd (n : Nat) (d : List Nat) : (orb n d).Nodup := nodup_dups _ _ (Nat.le_refl _)
theorem orb_mem {n : Nat} {d x : List Nat} : x ∈ orb n d ↔ ∃ s, s < n ∧ x = tur n s d := by
  unfold orb
  rw [List.mem_eraseDups, List.mem_map]
  exact ⟨fun ⟨s, h, e⟩ => ⟨s, List.mem_range.mp h, e.symm⟩, fun ⟨s, h, e⟩ => ⟨s, List.mem_range.mpr h, e.symm⟩⟩
theorem tur_n {n : Nat} {b : List Nat} (hn : 0 < n) (hb : Bls n b) : tur n n b = b := by
  rw [← tur_mod, Nat.mod_self, tur_zero hn hb]
theorem tur_back {n s : Nat} {b : List Nat} (hn : 0 < n) (hb : Bls n b) (hs : s ≤ n) : tur n (n - s) (tur n s b) = b := by
  rw [tur_tur hn, show s + (n - s) = n by omega, tur_n hn hb]
theorem tur_inj {n s : Nat} {b c : List Nat} (hn : 0 < n) (hb : Bls n b) (hc : Bls n c) (hs : s ≤ n) (h : tur n s b = tur n s c) : b = c := by
  rw [← tur_back hn hb hs, h, tur_back hn hc hs]
theorem cnt_mapI {f : List Nat → List Nat} {b : List Nat} : ∀ {bs : List (List Nat)}, (∀ c ∈ bs, f c = f b → c = b) → (bs.map f).count (f b) = bs.count b
  | [], _ => by simp
  | c :: bs, h => by
    have r := cnt_mapI (bs := bs) fun x hx => h x (List.mem_cons_of_mem _ hx)
    rw [List.map_cons, List.count_cons, List.count_cons, r]
    by_cases e : c = b
    · simp [e]
    · have e2 : f c ≠ f b := fun z => e (h c (List.mem_cons_self ..) z)
      simp [e, e2]
theorem cnt_tur {n s : Nat} {bs : List (List Nat)} {b : List Nat} (hn : 0 < n) (hs : s ≤ n) (hbb : ∀ c ∈ bs, Bls n c) (hb : Bls n b) : (bs.map (tur n s)).count (tur n s b) = bs.count b :=
  cnt_mapI fun _ hc e => tur_inj hn (hbb _ hc) hb hs e
theorem tur_in {n : Nat} {bs : List (List Nat)} {x : List Nat} (h : x ∈ bs.map (tur n 1)) : ∃ b ∈ bs, x = tur n 1 b := by
  obtain ⟨b, hb, e⟩ := List.mem_map.mp h
  exact ⟨b, hb, e.symm⟩
theorem turns_perm {n : Nat} {bs : List (List Nat)} (hn : 0 < n) (hbb : ∀ b ∈ bs, Bls n b) : Turns n bs ↔ (bs.map (tur n 1)).Perm bs := by
  constructor
  · intro h
    rw [List.perm_iff_count]
    intro x
    by_cases hx : x ∈ bs.map (tur n 1)
    · obtain ⟨b, hb, rfl⟩ := tur_in hx
      rw [cnt_tur hn hn hbb (hbb b hb)]
      by_cases h1 : 1 < n
      · exact (turns_eq hn hbb h hb h1).symm
      · have e : n = 1 := by omega
        subst e
        rw [tur_n hn (hbb b hb)]
    · rw [List.count_eq_zero.mpr hx, List.count_eq_zero.mpr]
      intro hb
      refine hx (List.mem_map.mpr ⟨tur n (n - 1) x, turns_in hn hbb h hb _, ?_⟩)
      rw [tur_tur hn, show n - 1 + 1 = n by omega, tur_n hn (hbb x hb)]
  · intro h b hb
    have e := List.perm_iff_count.mp h (tur n 1 b)
    rw [cnt_tur hn hn hbb (hbb b hb)] at e
    exact Nat.le_of_eq e
theorem Turns.of_perm {n : Nat} {bs cs : List (List Nat)} (h : Turns n bs) (p : cs.Perm bs) : Turns n cs := fun b hb => by
  rw [List.perm_iff_count.mp p, List.perm_iff_count.mp p]
  exact h b (p.mem_iff.mp hb)
/-! ### put together again -/
theorem min_upto {n : Nat} (b : List Nat) : ∀ k : Nat, ∃ s, s ≤ k ∧ ∀ r, r ≤ k → lexB (zs (tur n r b)) (zs (tur n s b)) = false
  | 0 => ⟨0, Nat.le_refl _, fun r hr => by
    rw [show r = 0 by omega]
    exact lex_irr _⟩
  | k + 1 => by
    obtain ⟨s, hs, h⟩ := min_upto b k
    cases e : lexB (zs (tur n (k + 1) b)) (zs (tur n s b)) with
    | false =>
      refine ⟨s, by omega, fun r hr => ?_⟩
      by_cases hk : r ≤ k
      · exact h r hk
      · rw [show r = k + 1 by omega]
        exact e
    | true =>
      refine ⟨k + 1, Nat.le_refl _, fun r hr => ?_⟩
      by_cases hk : r ≤ k
      · cases e2 : lexB (zs (tur n r b)) (zs (tur n (k + 1) b)) with
        | false => rfl
        | true =>
          have := lex_trans e2 e
          rw [h r hk] at this
          cases this
      · rw [show r = k + 1 by omega]
        exact lex_irr _
theorem min_ex {n : Nat} (hn : 0 < n) (b : List Nat) : ∃ d, IsMin n b d := by
  obtain ⟨s, hs, h⟩ := min_upto (n := n) b (n - 1)
  exact ⟨tur n s b, ⟨s, by omega, rfl⟩, fun r hr => h r (by omega)⟩
theorem IsMin.orbit {n s : Nat} {b d x : List Nat} (hn : 0 < n) (h : IsMin n b d) (hb : Bls n b) (hx : x = tur n s d) : IsMin n x d := by
  obtain ⟨⟨r, hr, rfl⟩, hm⟩ := h
  subst hx
  rw [tur_tur hn]
  constructor
  · refine ⟨(n - s % n) % n, Nat.mod_lt _ hn, ?_⟩
    rw [tur_tur hn]
    have hs := Nat.mod_lt s hn
    have e : (r + s + (n - s % n) % n) % n = r % n := by
      rw [Nat.add_mod_mod]
      have d1 := Nat.div_add_mod s n
      have e1 : r + s + (n - s % n) = r + n * (s / n + 1) := by
        rw [Nat.mul_add, Nat.mul_one]
        omega
      rw [e1, Nat.add_mul_mod_self_left]
    rw [← tur_mod (s := r + s + (n - s % n) % n), e, tur_mod]
  · intro k hk
    rw [tur_tur hn, ← tur_mod]
    exact hm _ (Nat.mod_lt _ hn)
theorem sum_zero {f : List Nat → Nat} : ∀ {ds : List (List Nat)}, (∀ d ∈ ds, f d = 0) → (ds.map f).sum = 0
  | [], _ => rfl
  | d :: ds, h => by
    rw [List.map_cons, List.sum_cons, h d (List.mem_cons_self ..), sum_zero fun x hx => h x (List.mem_cons_of_mem _ hx)]
theorem sum_one {f : List Nat → Nat} {d0 : List Nat} : ∀ {ds : List (List Nat)}, ds.Nodup → d0 ∈ ds → (∀ d ∈ ds, d ≠ d0 → f d = 0) → (ds.map f).sum = f d0
  | [], _, h, _ => by cases h
  | d :: ds, nd, h, hz => by
    rw [List.nodup_cons] at nd
    rw [List.map_cons, List.sum_cons]
    by_cases e : d = d0
    · subst e
      rw [sum_zero fun x hx => hz x (List.mem_cons_of_mem _ hx) (fun z => nd.1 (z ▸ hx)), Nat.add_zero]
    · rw [hz d (List.mem_cons_self ..) e, sum_one nd.2 ((List.mem_cons.mp h).resolve_left fun z => e z.symm) fun x hx => hz x (List.mem_cons_of_mem _ hx), Nat.zero_add]
theorem cnt_rep {x : List Nat} (L : List (List Nat)) : ∀ k : Nat, (List.replicate k L).flatten.count x = k * L.count x
  | 0 => by simp
  | k + 1 => by rw [List.replicate_succ, List.flatten_cons, List.count_append, cnt_rep L k, Nat.succ_mul, Nat.add_comm]
/-- the bases' unlike turned ones, each as often as its base -/
def bld (n : Nat) (cnt : List Nat → Nat) (ds : List (List Nat)) : List (List Nat) := ds.flatMap fun d => (List.replicate (cnt d) (orb n d)).flatten
theorem cnt_bld {n : Nat} {cnt : List Nat → Nat} {ds : List (List Nat)} (x : List Nat) : (bld n cnt ds).count x = (ds.map fun d => cnt d * (orb n d).count x).sum := by
  unfold bld
  rw [List.count_flatMap]
  congr 1
  refine List.map_congr_left fun d _ => ?_
  exact cnt_rep _ _
theorem bld_perm {n : Nat} {bs ds : List (List Nat)} (hn : 0 < n) (hbb : ∀ b ∈ bs, Bls n b) (h : Turns n bs) (nd : ds.Nodup) (hd : ∀ d, d ∈ ds ↔ ∃ b ∈ bs, IsMin n b d) : (bld n (fun d => bs.count d) ds).Perm bs := by
  rw [List.perm_iff_count]
  intro x
  rw [cnt_bld]
  by_cases hx : x ∈ bs
  · obtain ⟨d0, hm⟩ := min_ex hn x
    have hd0 := (hd d0).mpr ⟨x, hx, hm⟩
    have hx0 : x ∈ orb n d0 := by
      obtain ⟨⟨s, hs, rfl⟩, _⟩ := hm
      rw [orb_mem]
      refine ⟨(n - s) % n, Nat.mod_lt _ hn, ?_⟩
      rw [tur_mod, tur_back hn (hbb x hx) (by omega)]
    rw [sum_one nd hd0, (orb_nd n d0).count, if_pos hx0, Nat.mul_one]
    · obtain ⟨⟨s, hs, rfl⟩, _⟩ := hm
      exact turns_eq hn hbb h hx hs
    · intro d hdm hne
      rw [(orb_nd n d).count, if_neg, Nat.mul_zero]
      intro z
      obtain ⟨b, hb, hmb⟩ := (hd d).mp hdm
      obtain ⟨s, _, e⟩ := orb_mem.mp z
      exact hne ((hmb.orbit hn (hbb b hb) e).uniq hm)
  · rw [sum_zero, List.count_eq_zero.mpr hx]
    intro d hdm
    rw [(orb_nd n d).count, if_neg, Nat.mul_zero]
    intro z
    obtain ⟨b, hb, ⟨⟨r, _, rfl⟩, _⟩⟩ := (hd d).mp hdm
    obtain ⟨s, _, rfl⟩ := orb_mem.mp z
    rw [tur_tur hn] at hx
    exact hx (turns_in hn hbb h hb _)
theorem bld_take {n : Nat} {cnt : List Nat → Nat} (ds : List (List Nat)) (i : Nat) : (bld n cnt (ds.take i)).length ≤ (bld n cnt ds).length := by
  conv => rhs; rw [← List.take_append_drop i ds]
  unfold bld
  rw [List.flatMap_append, List.length_append]
  exact Nat.le_add_right _ _
theorem bld_snoc {n i : Nat} {cnt : List Nat → Nat} {ds : List (List Nat)} {d : List Nat} (h : ds[i]? = some d) : bld n cnt (ds.take (i + 1)) = bld n cnt (ds.take i) ++ (List.replicate (cnt d) (orb n d)).flatten := by
  unfold bld
  rw [take_snoc h, List.flatMap_append, List.flatMap_cons, List.flatMap_nil, List.append_nil]
/-! ### developed again -/
theorem rng_tur {n : Nat} (hn : 0 < n) (b : List Nat) : ((List.range n).map fun s => tur n 1 (tur n s b)).Perm ((List.range n).map fun s => tur n s b) := by
  have e : ((List.range n).map fun s => tur n 1 (tur n s b)) = (List.range (n - 1)).map (fun s => tur n (s + 1) b) ++ [tur n 0 b] := by
    conv => lhs; rw [show n = (n - 1) + 1 by omega, List.range_succ, ← show n = (n - 1) + 1 by omega]
    rw [List.map_append]
    congr 1
    · exact List.map_congr_left fun s _ => tur_tur hn b
    · rw [List.map_cons, List.map_nil, tur_tur hn, show n - 1 + 1 = n by omega, ← tur_mod (s := n), Nat.mod_self]
  have e2 : ((List.range n).map fun s => tur n s b) = tur n 0 b :: (List.range (n - 1)).map (fun s => tur n (s + 1) b) := by
    conv => lhs; rw [show n = (n - 1) + 1 by omega, List.range_succ_eq_map, ← show n = (n - 1) + 1 by omega]
    rw [List.map_cons, List.map_map]
    rfl
  rw [e, e2]
  exact List.perm_append_comm
theorem dev_bls {n : Nat} {bs : List (List Nat)} : ∀ b ∈ dev n bs, Bls n b := fun b hb => by
  obtain ⟨c, _, h⟩ := List.mem_flatMap.mp hb
  obtain ⟨s, _, rfl⟩ := List.mem_map.mp h
  exact tur_bls _
theorem dev_perm {n : Nat} (hn : 0 < n) : ∀ bs : List (List Nat), ((dev n bs).map (tur n 1)).Perm (dev n bs)
  | [] => by simp [dev]
  | b :: bs => by
    have r := dev_perm hn bs
    unfold dev at r ⊢
    rw [List.flatMap_cons, List.map_append, List.map_map]
    exact (rng_tur hn b).append r
theorem dev_turns {n : Nat} (hn : 0 < n) (bs : List (List Nat)) : Turns n (dev n bs) := (turns_perm hn dev_bls).mpr (dev_perm hn bs)
/-! ### layouts as data -/
theorem eqv_ints_iff : ∀ (as bs : List Nat), PyData.eqvAll (as.map fun p => PyData.int ((p : Nat) : Int)) (bs.map fun p => PyData.int ((p : Nat) : Int)) = decide (as = bs)
  | [], [] => by simp [PyData.eqvAll]
  | [], _ :: _ => by simp [PyData.eqvAll]
  | _ :: _, [] => by simp [PyData.eqvAll]
  | a :: as, b :: bs => by
    rw [List.map_cons, List.map_cons, PyData.eqvAll, eqv_ints_iff as bs]
    have e : PyData.eqv (.int ((a : Nat) : Int)) (.int ((b : Nat) : Int)) = decide (a = b) := by
      simp only [PyData.eqv]
      by_cases h : a = b
      · simp [h]
      · simp only [h, decide_false, beq_eq_false_iff_ne, ne_eq]
        exact fun z => h (Int.ofNat.inj z)
    rw [e]
    by_cases h1 : a = b <;> by_cases h2 : as = bs <;> simp [h1, h2]
theorem eqv_tup_iff (a b : List Nat) : PyData.eqv (dTup a) (dTup b) = decide (a = b) := by
  simp only [dTup, PyData.eqv]
  exact eqv_ints_iff a b
theorem eqv_tups_iff : ∀ (as bs : List (List Nat)), PyData.eqvAll (as.map dTup) (bs.map dTup) = decide (as = bs)
  | [], [] => by simp [PyData.eqvAll]
  | [], _ :: _ => by simp [PyData.eqvAll]
  | _ :: _, [] => by simp [PyData.eqvAll]
  | a :: as, b :: bs => by
    rw [List.map_cons, List.map_cons, PyData.eqvAll, eqv_tups_iff as bs, eqv_tup_iff]
    by_cases h1 : a = b <;> by_cases h2 : as = bs <;> simp [h1, h2]
def dLay (p : Nat) (cs : List (List Nat)) : PyData := .tuple [.int ((p : Nat) : Int), .tuple (cs.map dTup)]
theorem eqv_lay (p : Nat) (cs ds : List (List Nat)) : PyData.eqv (dLay p cs) (dLay p ds) = decide (cs = ds) := by
  simp [dLay, PyData.eqv, PyData.eqvAll, eqv_tups_iff cs ds]
theorem shaped_lay (p : Nat) (cs : List (List Nat)) : PySem.SeqAt.shaped (dLay p cs) = true := by
  unfold PySem.SeqAt.shaped dLay
  rw [Bool.and_eq_true]
  have h1 := lay_tps cs
  have h2 := depth_tps cs
  refine ⟨by simp [PyData.canLay0, PyData.canLayAll0, h1], decide_eq_true ?_⟩
  simp only [PyData.depth, PyData.depthAll]
  omega
theorem LayA.isD {K : PySem.W.Frag} {H : Hp} {t : Addr} {p : Nat} {cs : List (List Nat)} (h : LayA H t p cs) : IsD K H (dLay p cs) (.ref t) := by
  obtain ⟨u, vs, h1, h2, h3, h4⟩ := h
  simp only [dLay, IsD]
  refine ⟨t, _, rfl, SqT.of h1, ?_⟩
  simp only [IsDs, IsD]
  exact ⟨_, _, rfl, rfl, _, _, rfl, ⟨u, vs, rfl, SqT.of h2, tps_isD h3⟩, rfl⟩
theorem rep_tp {H : Hp} {ws : List V} {bs : List (List Nat)} (h : TpAt H ws bs) : ∀ k : Nat, TpAt H (List.replicate k ws).flatten (List.replicate k bs).flatten
  | 0 => trivial
  | k + 1 => by
    rw [List.replicate_succ, List.replicate_succ, List.flatten_cons, List.flatten_cons]
    exact h.app (rep_tp h k)
theorem rep_len {α : Type} (xs : List α) : ∀ k : Nat, (List.replicate k xs).flatten.length = k * xs.length
  | 0 => by simp
  | k + 1 => by rw [List.replicate_succ, List.flatten_cons, List.length_append, rep_len xs k, Nat.succ_mul, Nat.add_comm]
theorem rep_perm {L M : List (List Nat)} (h : L.Perm M) : ∀ k : Nat, (List.replicate k L).flatten.Perm (List.replicate k M).flatten
  | 0 => .refl _
  | k + 1 => by
    rw [List.replicate_succ, List.replicate_succ, List.flatten_cons, List.flatten_cons]
    exact h.append (rep_perm h k)
theorem orb_perm {n : Nat} {d : List Nat} {cs : List (List Nat)} (nd : cs.Nodup) (h1 : ∀ c ∈ cs, c ∈ (List.range n).map fun s => tur n s d) (h2 : ∀ c ∈ (List.range n).map (fun s => tur n s d), c ∈ cs) : cs.Perm (orb n d) := by
  rw [List.perm_iff_count]
  intro x
  rw [nd.count, (orb_nd n d).count]
  have e : x ∈ cs ↔ x ∈ orb n d := by
    unfold orb
    rw [List.mem_eraseDups]
    exact ⟨h1 x, h2 x⟩
  by_cases hx : x ∈ cs
  · rw [if_pos hx, if_pos (e.mp hx)]
  · rw [if_neg hx, if_neg fun z => hx (e.mpr z)]
/-- the bases that are told of a layout that turns -/
structure Told (H : Hp) (g : Addr) (n : Nat) (bs : List (List Nat)) (us : List V) (ds : List (List Nat)) : Prop where
  lst : H g = some (.lst us)
  pr : PrA H (fun d => bs.count d) us ds
  srt : Srt2 ds
  min : ∀ d, d ∈ ds ↔ ∃ b ∈ bs, IsMin n b d
theorem Told.bls {H : Hp} {g : Addr} {n : Nat} {bs : List (List Nat)} {us : List V} {ds : List (List Nat)} (h : Told H g n bs us ds) : ∀ d ∈ ds, Bls n d := fun d hd => by
  obtain ⟨b, _, ⟨s, _, rfl⟩, _⟩ := (h.min d).mp hd
  exact tur_bls _
theorem TTAt.told {H : Hp} {t : Addr} {n : Nat} {bs : List (List Nat)} (h : TTAt H t n bs) (hT : Turns n bs) : ∃ (g : Addr) (us : List V) (ds : List (List Nat)), H t = some (.tup [.str "turns", .ref g]) ∧ Told H g n bs us ds := by
  rcases h with ⟨i, h1, h2⟩ | ⟨h1, g, us, ds, h2, h3, h4, h5, h6⟩
  · exact (h1.not hT).elim
  · exact ⟨g, us, ds, h2, h3, h4, h5, h6⟩
/-- whether one less the other is d -/
def rD (n d i j : Nat) : Bool := decide ((i + (n - j)) % n = d)
/-- how often d comes among the differences of a base -/
def cD (n : Nat) (b : List Nat) (d : Nat) : Nat := (b.map fun i => b.countP fun j => rD n d i j).sum
def tD (n : Nat) (bs : List (List Nat)) (d : Nat) : Nat := (bs.map fun b => cD n b d).sum
def difL (n : Nat) (bs : List (List Nat)) : List Nat := (List.range (n - 1)).map fun k => tD n bs (1 + k)
/-- a list of counts, one raised -/
theorem cnt_set {n k : Nat} (f : Nat → Nat) : (nats ((List.range n).map f)).set k (V.int (((f k + 1 : Nat)) : Int)) = nats ((List.range n).map fun d => f d + if d = k then 1 else 0) := by
  unfold nats
  apply List.ext_getElem
  · simp
  intro i h1 h2
  rw [List.getElem_set]
  simp only [List.getElem_map, List.getElem_range]
  by_cases h : k = i
  · subst h
    simp
  · have : ¬ i = k := fun z => h z.symm
    simp [h, this]
/-- the counts when so many bases, so many first and so many second numbers are gone through -/
def stD (n : Nat) (bs : List (List Nat)) (b one : List Nat) (i : Nat) (other : List Nat) (d : Nat) : Nat := tD n bs d + (one.map fun i => b.countP fun j => rD n d i j).sum + other.countP fun j => rD n d i j
theorem zeros (n : Nat) : (List.replicate n [V.int 0]).flatten = nats (List.replicate n 0) := by
  induction n with
  | zero => rfl
  | succ n ih =>
    rw [List.replicate_succ, List.flatten_cons, ih, List.replicate_succ]
    rfl
theorem drop_one (f : Nat → Nat) (m : Nat) : (nats ((List.range (m + 1)).map f)).drop 1 = nats ((List.range m).map fun k => f (1 + k)) := by
  unfold nats
  rw [List.range_succ_eq_map]
  simp [List.map_map, Function.comp_def, Nat.add_comm]
def spDiff : Sp := fun vs H Q _ => ∃ (l : Addr) (n : Nat) (ws : List V) (bs : List (List Nat)), vs = [.int ((n : Nat) : Int), .ref l] ∧ H l = some (.lst ws) ∧ BlAt H ws bs ∧ 1 ≤ n ∧ n ≤ 60 ∧ n * bs.length ≤ 200 ∧ (∀ b ∈ bs, Blk n b) ∧ ∀ (g : Addr) (H' : Hp), H g = none → Same H H' → H' g = some (.lst (nats (difL n bs))) → Q (.ref g) H'
theorem scDifferences : FnScope ["n", "bases", "counts", "base", "one", "other"] ["n", "bases"] (defScope sDifferences) := ⟨rfl, rfl, rfl, by decide +kernel, rfl, by decide +kernel, by decide +kernel⟩
theorem sub_mod {n i j : Nat} (hj : j < n) : (((i : Nat) : Int) - ((j : Nat) : Int)) % ((n : Nat) : Int) = (((i + (n - j)) % n : Nat) : Int) := by
  have e : (((i : Nat) : Int) - ((j : Nat) : Int)) = ((i + (n - j) : Nat) : Int) - ((n : Nat) : Int) := by omega
  rw [e, Int.sub_emod_right]
  rfl
theorem ok_diff {f : Addr} {fd : FuncData} (F : Fun K "differences" "differences" sDifferences f fd) (T : TxtB mg) (pMustBeBases : Pm P w K mg base CX0 4 "must_be_bases" ["n", "bases"] spMustB) : FnOk P w K mg base CX0 5 f fd ["n", "bases"] spDiff := by
  refine F.okQ scDifferences (fun vs H Q E h => ?_) (fun cdv A outer s H vs Q E hr4 h => ?_)
  · obtain ⟨l, n, ws, bs, rfl, _⟩ := h
    rfl
  · obtain ⟨l, n, ws, bs, rfl, hl, hB, hn1, hn2, hlen, hbb, q⟩ := h
    refine ⟨_, (qss_cons (qs_expr (qe_callP pMustBeBases hr4 rfl pass0 (qac (qv 0) (qac (qv 1) qa_nil))))
      (qss_cons (qs_set (i := 2) scDifferences.nd rfl (Or.inl rfl) (qe_op op_mulL (qe_lst (qac qe_int qa_nil)) (qv 0)))
      (qss_cons (qs_for PassesOwn.never rfl (qi_list (qv 1)) (qg_name (i := 3) scDifferences.nd rfl (Or.inl rfl))
        (qss_one (qs_for PassesOwn.never rfl (qi_list (qv 3)) (qg_name (i := 4) scDifferences.nd rfl (Or.inl rfl))
          (qss_one (qs_for PassesOwn.never rfl (qi_list (qv 3)) (qg_name (i := 5) scDifferences.nd rfl (Or.inl rfl))
            (qss_one (qs_augS (qv 2) (qe_op op_mod (qe_op op_sub (qv 4) (qv 5)) (qv 0)) get_listN qe_int ip_add set_list)))))))
      (qss_one (qs_ret (qe_slice sl_list (qv 2) (qo_some qe_int) qo_none)))))), ?_⟩
    refine ⟨_, rfl, _, rfl, l, n, ws, bs, rfl, hl, hB, hn1, hn2, hlen, hbb, fun H1 s1 => ?_⟩
    refine ⟨by show 1 ≤ sizeLine; decide, fun d hd => ⟨_, rfl, d, [V.int 0], (n : Int), rfl, rfl, SqL.of upd_same, by omega, by omega, by rw [List.length_singleton, Int.toNat_natCast]; omega, fun c hc => ?_⟩⟩
    have ez : (List.replicate ((n : Nat) : Int).toNat [V.int 0]).flatten = nats ((List.range n).map (stD n [] [] [] 0 [])) := by
      rw [Int.toNat_natCast, zeros]
      congr 1
      symm
      rw [List.eq_replicate_iff]
      exact ⟨by simp, fun b hb => by obtain ⟨p, _, rfl⟩ := List.mem_map.mp hb; simp [stD, tD]⟩
    rw [ez]
    have w1 := same_new (o := .lst [V.int 0]) hd
    have w2 := same_new (o := .lst (nats ((List.range n).map (stD n [] [] [] 0 [])))) hc
    have hc0 : H c = none := s1.free (w1.free hc)
    have s2 := s1.trans (w1.trans w2)
    have hc2 : L2.upd (L2.upd H1 d (.lst [V.int 0])) c (.lst (nats ((List.range n).map (stD n [] [] [] 0 [])))) c = some (.lst (nats ((List.range n).map (stD n [] [] [] 0 [])))) := upd_same
    generalize L2.upd (L2.upd H1 d (.lst [V.int 0])) c (.lst (nats ((List.range n).map (stD n [] [] [] 0 [])))) = H2 at s2 hc2 ⊢
    refine ⟨_, rfl, l, rfl, ⟨_, SqL.of (s2 _ _ hl)⟩, for_list (K := K) (xs := ws) (fun i σ H3 => Same H H3 ∧ ∃ x3 x4 x5, σ = [some (.int ((n : Nat) : Int)), some (.ref l), some (.ref c), x3, x4, x5] ∧ H3 c = some (.lst (nats ((List.range n).map (stD n (bs.take i) [] [] 0 []))))) ⟨s2, none, none, none, rfl, hc2⟩ (fun i σ H3 _ ⟨s3, _⟩ => SqL.of (s3 _ _ hl)) ?_ ?_⟩
    · rintro i v σ H3 hi ⟨s3, x3, x4, x5, rfl, hc3⟩
      obtain ⟨a, b, rfl, hb, ha⟩ := hB.get hi
      have hbk := hbb b (List.mem_of_getElem? hb)
      refine ⟨_, rfl, a, rfl, ⟨_, SqL.of (s3 _ _ ha)⟩, for_list (K := K) (xs := nats b) (fun j σ H4 => Same H H4 ∧ ∃ x4 x5, σ = [some (.int ((n : Nat) : Int)), some (.ref l), some (.ref c), some (.ref a), x4, x5] ∧ H4 c = some (.lst (nats ((List.range n).map (stD n (bs.take i) b (b.take j) 0 []))))) ⟨s3, x4, x5, rfl, ?_⟩ (fun j σ H4 _ ⟨s4, _⟩ => SqL.of (s4 _ _ ha)) ?_ ?_⟩
      · rw [hc3]
        congr 3
      · rintro j v σ H4 hj ⟨s4, x4, x5, rfl, hc4⟩
        obtain ⟨x, hx, rfl⟩ := L2.nats_get hj
        refine ⟨_, rfl, a, rfl, ⟨_, SqL.of (s4 _ _ ha)⟩, for_list (K := K) (xs := nats b) (fun k σ H5 => Same H H5 ∧ ∃ x5, σ = [some (.int ((n : Nat) : Int)), some (.ref l), some (.ref c), some (.ref a), some (.int ((x : Nat) : Int)), x5] ∧ H5 c = some (.lst (nats ((List.range n).map (stD n (bs.take i) b (b.take j) x (b.take k)))))) ⟨s4, x5, rfl, ?_⟩ (fun k σ H5 _ ⟨s5, _⟩ => SqL.of (s5 _ _ ha)) ?_ ?_⟩
        · rw [hc4]
          congr 3
        · rintro k v σ H5 hk ⟨s5, x5, rfl, hc5⟩
          obtain ⟨y, hy, rfl⟩ := L2.nats_get hk
          have hym := hbk.lt y (List.mem_of_getElem? hy)
          have hz : (x + (n - y)) % n < n := Nat.mod_lt _ hn1
          have hat : (nats ((List.range n).map (stD n (bs.take i) b (b.take j) x (b.take k))))[(x + (n - y)) % n]? = some (.int ((stD n (bs.take i) b (b.take j) x (b.take k) ((x + (n - y)) % n) : Nat) : Int)) := by
            unfold nats
            rw [List.getElem?_map, List.getElem?_map, List.getElem?_range hz]
            rfl
          refine ⟨_, rfl, _, rfl, _, rfl, _, _, rfl, rfl, _, rfl, _, _, rfl, rfl, by omega, ?_⟩
          dsimp only
          rw [sub_mod hym]
          refine ⟨c, _, _, _, rfl, rfl, SqL.of hc5, by omega, atI_nat hat, _, _, rfl, rfl, c, _, _, (x + (n - y)) % n, rfl, rfl, hc5, ?_, same_upd s5 hc0, _, rfl, ?_⟩
          · unfold ixN
            rw [if_pos (by omega), if_pos (by rw [nats_len, List.length_map, List.length_range]; omega), Int.toNat_natCast]
          · rw [upd_same]
            have e := cnt_set (n := n) (k := (x + (n - y)) % n) (stD n (bs.take i) b (b.take j) x (b.take k))
            have e2 : (fun d => stD n (bs.take i) b (b.take j) x (b.take k) d + if d = (x + (n - y)) % n then 1 else 0) = stD n (bs.take i) b (b.take j) x (b.take (k + 1)) := by
              funext d
              unfold stD
              rw [take_snoc hy, List.countP_append, List.countP_cons, List.countP_nil]
              unfold rD
              by_cases hd : d = (x + (n - y)) % n
              · subst hd
                simp
                omega
              · have : ¬ (x + (n - y)) % n = d := fun z => hd z.symm
                simp [hd, this]
            rw [e2] at e
            rw [← e]
            rfl
        · rintro σ H5 ⟨s5, x5, rfl, hc5⟩
          refine ⟨s5, _, _, rfl, ?_⟩
          rw [hc5, nats_len, List.take_length]
          congr 4
          funext d
          unfold stD
          rw [take_snoc hx, List.map_append, List.sum_append]
          simp
          omega
      · rintro σ H4 ⟨s4, x4, x5, rfl, hc4⟩
        refine ⟨s4, _, _, _, rfl, ?_⟩
        rw [hc4, nats_len, List.take_length]
        congr 4
        funext d
        unfold stD tD cD
        rw [take_snoc hb, List.map_append, List.sum_append]
        simp
    · rintro σ H3 ⟨s3, x3, x4, x5, rfl, hc3⟩
      rw [hB.len, List.take_length] at hc3
      have e3 : (List.range n).map (stD n bs [] [] 0 []) = (List.range n).map (tD n bs) := List.map_congr_left fun d _ => by simp [stD]
      rw [e3] at hc3
      refine ⟨_, rfl, _, rfl, c, _, rfl, SqL.of hc3, fun g hg => ?_⟩
      have ec : cutV (nats ((List.range n).map (tD n bs))) (some 1) none = nats (difL n bs) := by
        rw [show cutV (nats ((List.range n).map (tD n bs))) (some 1) none = (nats ((List.range n).map (tD n bs))).drop 1 from cut_from (k := 1) (by rw [nats_len, List.length_map, List.length_range]; exact hn1)]
        obtain ⟨m, rfl⟩ : ∃ m, n = m + 1 := ⟨n - 1, by omega⟩
        exact drop_one (tD (m + 1) bs) m
      rw [ec]
      exact q g _ (s3.free hg) (s3.trans (same_new hg)) upd_same
def fD (n : Nat) (b : List Nat) (d : Nat) : Nat := (b.filter fun o => decide ((o + d) % n ∈ b)).length
theorem sum_add {α : Type} (f g : α → Nat) : ∀ c : List α, (c.map fun j => f j + g j).sum = (c.map f).sum + (c.map g).sum
  | [] => rfl
  | x :: c => by
    have := sum_add f g c
    simp only [List.map_cons, List.sum_cons]
    omega
theorem sum_ite {α : Type} (p : α → Bool) : ∀ c : List α, (c.map fun j => if p j = true then 1 else 0).sum = c.countP p
  | [] => rfl
  | x :: c => by
    have := sum_ite p c
    simp only [List.map_cons, List.sum_cons, List.countP_cons]
    omega
theorem sum_swap (r : Nat → Nat → Bool) (c : List Nat) : ∀ b : List Nat, (b.map fun i => c.countP fun j => r i j).sum = (c.map fun j => b.countP fun i => r i j).sum
  | [] => by
    simp only [List.map_nil, List.sum_nil, List.countP_nil]
    induction c with
    | nil => rfl
    | cons x c ih => simpa using ih
  | i :: b => by
    have ih := sum_swap r c b
    have e : (fun j => (i :: b).countP fun i => r i j) = fun j => (b.countP fun i => r i j) + if r i j = true then 1 else 0 := by
      funext j
      rw [List.countP_cons]
    rw [List.map_cons, List.sum_cons, ih, e, sum_add, sum_ite]
    exact Nat.add_comm _ _
theorem count_one {b : List Nat} (h : b.Nodup) (x : Nat) : b.countP (fun i => decide (i = x)) = if x ∈ b then 1 else 0 := by
  induction b with
  | nil => simp
  | cons y b ih =>
    rw [List.nodup_cons] at h
    have := ih h.2
    rw [List.countP_cons, this]
    by_cases e : y = x
    · subst e
      simp [h.1]
    · have : ¬ x = y := fun z => e z.symm
      simp [e, this]
theorem rD_iff {n d i j : Nat} (hi : i < n) (hj : j < n) (hd : d < n) : rD n d i j = decide (i = (j + d) % n) := by
  unfold rD
  have h : (i + (n - j)) % n = d ↔ i = (j + d) % n := by
    constructor
    · intro h
      rw [← h, Nat.add_mod_mod, show j + (i + (n - j)) = i + n by omega, Nat.add_mod_right, Nat.mod_eq_of_lt hi]
    · intro h
      rw [h, Nat.mod_add_mod, show j + d + (n - j) = d + n by omega, Nat.add_mod_right, Nat.mod_eq_of_lt hd]
  by_cases e : i = (j + d) % n
  · rw [decide_eq_true (h.mpr e), decide_eq_true e]
  · rw [decide_eq_false (fun z => e (h.mp z)), decide_eq_false e]
theorem cD_fD {n : Nat} {b : List Nat} (hb : Blk n b) {d : Nat} (hd : d < n) : cD n b d = fD n b d := by
  unfold cD fD
  rw [sum_swap]
  have e : (b.map fun j => b.countP fun i => rD n d i j) = b.map fun j => if (decide ((j + d) % n ∈ b)) = true then 1 else 0 := by
    refine List.map_congr_left fun j hj => ?_
    have : (b.countP fun i => rD n d i j) = b.countP fun i => decide (i = (j + d) % n) := List.countP_congr fun i hi => by
      rw [rD_iff (hb.lt i hi) (hb.lt j hj) hd]
    rw [this, count_one hb.nd]
    simp
  rw [e, sum_ite, List.countP_eq_length_filter]
/-- the bases moved -/
theorem fD_move {n s : Nat} {b : List Nat} (hb : Blk n b) (d : Nat) (hn : 0 < n) : fD n (b.map fun x => (x + s) % n) d = fD n b d := by
  unfold fD
  rw [List.filter_map, List.length_map]
  congr 1
  refine List.filter_congr fun o ho => ?_
  show decide (((o + s) % n + d) % n ∈ b.map fun x => (x + s) % n) = decide ((o + d) % n ∈ b)
  have e : ((o + s) % n + d) % n = ((o + d) % n + s) % n := by
    rw [Nat.mod_add_mod, Nat.mod_add_mod, show o + s + d = o + d + s by omega]
  rw [e]
  have h : ((o + d) % n + s) % n ∈ (b.map fun x => (x + s) % n) ↔ (o + d) % n ∈ b := by
    rw [List.mem_map]
    constructor
    · rintro ⟨y, hy, ey⟩
      rw [← mod_injT (hb.lt y hy) (Nat.mod_lt _ hn) ey]
      exact hy
    · exact fun h => ⟨_, h, rfl⟩
  by_cases z : (o + d) % n ∈ b
  · rw [decide_eq_true z, decide_eq_true (h.mpr z)]
  · rw [decide_eq_false z, decide_eq_false (fun y => z (h.mp y))]
/-- the bases turned about -/
theorem tD_fD {n : Nat} {bs : List (List Nat)} (hbb : ∀ b ∈ bs, Blk n b) {d : Nat} (hd : d < n) : tD n bs d = (bs.map fun b => fD n b d).sum := by
  unfold tD
  congr 1
  exact List.map_congr_left fun b hb => cD_fD (hbb b hb) hd
theorem tD_congr {n : Nat} {bs cs : List (List Nat)} (h : ∀ d, d < n → tD n bs d = tD n cs d) : difL n bs = difL n cs := by
  unfold difL
  exact List.map_congr_left fun k hk => h _ (by have := List.mem_range.mp hk; omega)
/-- each base moved by its own number -/
theorem rev_tD {n d : Nat} (bs : List (List Nat)) : tD n bs.reverse d = tD n bs d := by
  unfold tD
  rw [List.map_reverse, List.sum_reverse]
theorem BlAt.rev {H : Hp} : ∀ {vs : List V} {bs : List (List Nat)}, BlAt H vs bs → BlAt H vs.reverse bs.reverse
  | [], [], _ => trivial
  | v :: vs, b :: bs, ⟨⟨a, e, q⟩, r⟩ => by
    rw [List.reverse_cons, List.reverse_cons, e]
    exact (BlAt.rev r).snoc q
theorem dif_len (n : Nat) (bs : List (List Nat)) : (difL n bs).length = n - 1 := by unfold difL; rw [List.length_map, List.length_range]
theorem sum_ints (L : List Nat) : (L.map fun x => ((x : Nat) : Int)).sum = ((L.sum : Nat) : Int) := by
  induction L with
  | nil => rfl
  | cons x L ih => rw [List.map_cons, List.sum_cons, ih, List.sum_cons, Int.natCast_add]
/-- what is left, perhaps below nought -/
theorem sum_const {c : Nat} : ∀ {L : List Nat}, (∀ x ∈ L, x = c) → L.sum = L.length * c
  | [], _ => by simp
  | x :: L, h => by
    rw [List.sum_cons, sum_const fun y hy => h y (List.mem_cons_of_mem _ hy), h x (List.mem_cons_self ..), List.length_cons, Nat.succ_mul]
    omega
theorem sum_nil0 {L : List Nat} (h : ∀ x ∈ L, x = 0) : L.sum = 0 := by rw [sum_const h, Nat.mul_zero]
theorem one_at (v : Nat) : ∀ m : Nat, ((List.range m).map fun d => if v = 1 + d then 1 else 0).sum = if 1 ≤ v ∧ v ≤ m then 1 else 0
  | 0 => by
    rw [if_neg (by omega)]
    rfl
  | m + 1 => by
    rw [List.range_succ, List.map_append, List.sum_append, one_at v m]
    simp only [List.map_cons, List.map_nil, List.sum_cons, List.sum_nil]
    by_cases h : v = 1 + m
    · simp only [if_pos h, if_neg (show ¬ (1 ≤ v ∧ v ≤ m) by omega), if_pos (show 1 ≤ v ∧ v ≤ m + 1 by omega), Nat.add_zero, Nat.zero_add]
    · rw [if_neg h]
      by_cases h2 : 1 ≤ v ∧ v ≤ m
      · simp only [if_pos h2, if_pos (show 1 ≤ v ∧ v ≤ m + 1 by omega), Nat.add_zero, Nat.zero_add]
      · simp only [if_neg h2, if_neg (show ¬ (1 ≤ v ∧ v ≤ m + 1) by omega), Nat.add_zero, Nat.zero_add]
theorem sum_addF (f g : Nat → Nat) (L : List Nat) : (L.map fun d => f d + g d).sum = (L.map f).sum + (L.map g).sum := by
  induction L with
  | nil => rfl
  | cons x L ih =>
    rw [List.map_cons, List.sum_cons, ih, List.map_cons, List.sum_cons, List.map_cons, List.sum_cons]
    omega
theorem dif_one {n i : Nat} (hi : i < n) : ∀ {b : List Nat}, (∀ j ∈ b, j < n) → ((List.range (n - 1)).map fun d => b.countP fun j => rD n (1 + d) i j).sum = b.countP fun j => decide (j ≠ i)
  | [], _ => by
    rw [List.countP_nil]
    exact sum_nil0 (fun x hx => by obtain ⟨d, _, rfl⟩ := List.mem_map.mp hx; rfl)
  | j :: b, hb => by
    have ih := dif_one hi (b := b) fun j hj => hb j (List.mem_cons_of_mem _ hj)
    have hj := hb j (List.mem_cons_self ..)
    have e : (fun d => (j :: b).countP fun j => rD n (1 + d) i j) = fun d => (b.countP fun j => rD n (1 + d) i j) + if (i + (n - j)) % n = 1 + d then 1 else 0 := by
      funext d
      rw [List.countP_cons]
      unfold rD
      simp only [decide_eq_true_eq]
    rw [e, sum_addF, ih, one_at, List.countP_cons]
    congr 1
    have hv : (i + (n - j)) % n < n := Nat.mod_lt _ (by omega)
    by_cases h : j = i
    · subst h
      rw [show j + (n - j) = n by omega, Nat.mod_self, if_neg (by omega), if_neg (by simp)]
    · have : (i + (n - j)) % n ≠ 0 := fun z => by
        by_cases hij : i < j
        · rw [Nat.mod_eq_of_lt (by omega)] at z
          omega
        · rw [show i + (n - j) = n + (i - j) by omega, Nat.add_mod_left, Nat.mod_eq_of_lt (by omega)] at z
          omega
      rw [if_pos (by omega), if_pos (decide_eq_true h)]
theorem cnt_other {i : Nat} : ∀ {b : List Nat}, b.Nodup → i ∈ b → (b.countP fun j => decide (j ≠ i)) = b.length - 1
  | [], _, h => nomatch h
  | x :: b, hb, hi => by
    obtain ⟨h1, h2⟩ := List.nodup_cons.mp hb
    rw [List.countP_cons, List.length_cons]
    by_cases e : x = i
    · have : (b.countP fun j => decide (j ≠ i)) = b.length := List.countP_eq_length.mpr fun j hj => decide_eq_true fun z => h1 (by rw [e, ← z]; exact hj)
      rw [this, if_neg (by simp [e])]
      rfl
    · have hi2 : i ∈ b := (List.mem_cons.mp hi).resolve_left (Ne.symm e)
      have := List.length_pos_of_mem hi2
      rw [cnt_other h2 hi2, if_pos (decide_eq_true e)]
      omega
theorem sum_rows (f : Nat → Nat → Nat) (L : List Nat) : ∀ b : List Nat, (L.map fun d => (b.map fun i => f d i).sum).sum = (b.map fun i => (L.map fun d => f d i).sum).sum
  | [] => sum_nil0 (fun x hx => by obtain ⟨d, _, rfl⟩ := List.mem_map.mp hx; rfl)
  | i :: b => by
    have e : (fun d => ((i :: b).map fun i => f d i).sum) = fun d => f d i + (b.map fun i => f d i).sum := by
      funext d
      rw [List.map_cons, List.sum_cons]
    rw [e, sum_addF, sum_rows f L b, List.map_cons, List.sum_cons]
theorem dif_sum {n : Nat} {b : List Nat} (hb : Blk n b) : (difL n [b]).sum = b.length * (b.length - 1) := by
  have e : difL n [b] = (List.range (n - 1)).map fun d => (b.map fun i => b.countP fun j => rD n (1 + d) i j).sum := by
    unfold difL tD cD
    refine List.map_congr_left fun d _ => ?_
    rw [List.map_cons, List.map_nil, List.sum_cons, List.sum_nil, Nat.add_zero]
  rw [e, sum_rows (fun d i => b.countP fun j => rD n (1 + d) i j) _ b]
  have e2 : (b.map fun i => ((List.range (n - 1)).map fun d => b.countP fun j => rD n (1 + d) i j).sum) = b.map fun _ => b.length - 1 := List.map_congr_left fun i hi => by
    rw [dif_one (hb.lt i hi) hb.lt, cnt_other hb.nd hi]
  rw [e2, sum_const (c := b.length - 1) (fun x hx => by obtain ⟨_, _, rfl⟩ := List.mem_map.mp hx; rfl), List.length_map]

theorem cint_mk {K : PySem.W.Frag} {x : Str} {n : Int} {t : Tok} (h : PySem.W.nsIn K mainGlobals x = some (some (.int n t))) : ∃ t, PySem.W.nsIn K mainGlobals x = some (some (.int n t)) := ⟨t, h⟩
/-! ### ways of going through the rests -/
theorem inj_perm {n : Nat} {f : Nat → Nat} (h1 : ∀ x, x < n → f x < n) (h2 : ∀ x y, x < n → y < n → f x = f y → x = y) : ((List.range n).map f).Perm (List.range n) := by
  have nd : ((List.range n).map f).Nodup := by
    rw [List.nodup_iff_pairwise_ne, List.pairwise_map]
    exact (List.nodup_iff_pairwise_ne.mp List.nodup_range).imp_of_mem fun ha hb h e => h (h2 _ _ (List.mem_range.mp ha) (List.mem_range.mp hb) e)
  have sub : ∀ x ∈ (List.range n).map f, x ∈ List.range n := fun x hx => by
    obtain ⟨y, hy, rfl⟩ := List.mem_map.mp hx
    exact List.mem_range.mpr (h1 y (List.mem_range.mp hy))
  rw [List.perm_iff_count]
  intro x
  rw [nd.count, List.nodup_range.count]
  have e : x ∈ (List.range n).map f ↔ x ∈ List.range n := by
    refine ⟨sub x, fun hx => Classical.byContradiction fun hn => ?_⟩
    have nd2 : (x :: (List.range n).map f).Nodup := List.nodup_cons.mpr ⟨hn, nd⟩
    have := List.Nodup.length_le_of_subset nd2 (l₂ := List.range n) fun y hy => by
      rcases List.mem_cons.mp hy with rfl | hy
      · exact hx
      · exact sub y hy
    rw [List.length_cons, List.length_map, List.length_range] at this
    omega
  by_cases hx : x ∈ List.range n
  · rw [if_pos hx, if_pos (e.mpr hx)]
  · rw [if_neg hx, if_neg fun z => hx (e.mp z)]
theorem shift_perm {n : Nat} (hn : 0 < n) (k : Nat) : ((List.range n).map fun s => (s + k) % n).Perm (List.range n) := inj_perm (fun _ _ => Nat.mod_lt _ hn) fun _ _ hx hy e => mod_injT hx hy e
theorem back_perm {n : Nat} (hn : 0 < n) (a : Nat) : ((List.range n).map fun s => (a + (n - s)) % n).Perm (List.range n) := by
  refine inj_perm (fun _ _ => Nat.mod_lt _ hn) fun x y hx hy e => ?_
  have e1 : (n - x + a) % n = (n - y + a) % n := by rw [Nat.add_comm, e, Nat.add_comm]
  have e2 : ((n - x) % n + a) % n = ((n - y) % n + a) % n := by rw [Nat.mod_add_mod, Nat.mod_add_mod, e1]
  have e3 := mod_injT (Nat.mod_lt _ hn) (Nat.mod_lt _ hn) e2
  by_cases x0 : x = 0
  · by_cases y0 : y = 0
    · omega
    · rw [x0, Nat.sub_zero, Nat.mod_self, Nat.mod_eq_of_lt (show n - y < n by omega)] at e3
      omega
  · by_cases y0 : y = 0
    · rw [y0, Nat.sub_zero, Nat.mod_self, Nat.mod_eq_of_lt (show n - x < n by omega)] at e3
      omega
    · rw [Nat.mod_eq_of_lt (show n - x < n by omega), Nat.mod_eq_of_lt (show n - y < n by omega)] at e3
      omega
theorem mul_inj {n m x y : Nat} (hc : Nat.gcd m n = 1) (hx : x < n) (hy : y < n) (e : m * x % n = m * y % n) : x = y := by
  have key : ∀ {x y : Nat}, x ≤ y → y < n → m * x % n = m * y % n → x = y := fun {x y} hxy hy e => by
    have d : n ∣ m * (y - x) := by
      rw [Nat.mul_sub]
      exact Nat.dvd_of_mod_eq_zero (Nat.sub_mod_eq_zero_of_mod_eq e.symm)
    have d2 : n ∣ y - x := (Nat.Coprime.symm hc : Nat.Coprime n m).dvd_of_dvd_mul_left d
    have := Nat.eq_zero_of_dvd_of_lt d2 (by omega)
    omega
  by_cases h : x ≤ y
  · exact key h hy e
  · exact (key (by omega) hx e.symm).symm
theorem mul_perm {n m : Nat} (hn : 0 < n) (hc : Nat.gcd m n = 1) : ((List.range n).map fun s => m * s % n).Perm (List.range n) := inj_perm (fun _ _ => Nat.mod_lt _ hn) fun _ _ hx hy e => mul_inj hc hx hy e
/-! ### pairs -/
/-- how many of the numbers below n lie in a base with the one d further -/
def gF (n : Nat) (b : List Nat) (d : Nat) : Nat := (List.range n).countP fun o => decide (o ∈ b) && decide ((o + d) % n ∈ b)
theorem filt_perm {n : Nat} {b : List Nat} (hb : Blk n b) : ((List.range n).filter fun o => decide (o ∈ b)).Perm b := by
  rw [List.perm_iff_count]
  intro x
  rw [(List.nodup_range.sublist List.filter_sublist).count, hb.nd.count]
  have e : x ∈ (List.range n).filter (fun o => decide (o ∈ b)) ↔ x ∈ b := by
    rw [List.mem_filter, List.mem_range, decide_eq_true_eq]
    exact ⟨fun h => h.2, fun h => ⟨hb.lt x h, h⟩⟩
  by_cases hx : x ∈ b
  · rw [if_pos hx, if_pos (e.mpr hx)]
  · rw [if_neg hx, if_neg fun z => hx (e.mp z)]
theorem fD_gF {n : Nat} {b : List Nat} (hb : Blk n b) (d : Nat) : fD n b d = gF n b d := by
  unfold fD gF
  rw [← List.countP_eq_length_filter, ← (filt_perm hb).countP_eq, List.countP_filter]
  exact List.countP_congr fun x _ => by rw [Bool.and_comm]
theorem gF_back {n d : Nat} (hn : 0 < n) (hd : d < n) (b : List Nat) : gF n b (n - d) = gF n b d := by
  unfold gF
  rw [← (shift_perm hn d).countP_eq, List.countP_map]
  refine List.countP_congr fun x hx => ?_
  have hx := List.mem_range.mp hx
  have e : ((x + d) % n + (n - d)) % n = x := by
    rw [Nat.mod_add_mod, show x + d + (n - d) = x + n by omega, Nat.add_mod_right, Nat.mod_eq_of_lt hx]
  show (decide ((x + d) % n ∈ b) && decide (((x + d) % n + (n - d)) % n ∈ b)) = true ↔ _
  rw [e, Bool.and_comm]
theorem tur_at {n s a : Nat} {b : List Nat} (hn : 0 < n) (hs : s < n) (ha : a < n) (hb : Blk n b) : a ∈ tur n s b ↔ (a + (n - s)) % n ∈ b := by
  rw [tur_mem hn]
  constructor
  · rintro ⟨y, hy, rfl⟩
    rw [Nat.mod_add_mod, show y + s + (n - s) = y + n by omega, Nat.add_mod_right, Nat.mod_eq_of_lt (hb.lt y hy)]
    exact hy
  · intro h
    refine ⟨_, h, ?_⟩
    rw [Nat.mod_add_mod, show a + (n - s) + s = a + n by omega, Nat.add_mod_right, Nat.mod_eq_of_lt ha]
/-- both lie in the block -/
def bth (a c : Nat) (b : List Nat) : Bool := decide (a ∈ b) && decide (c ∈ b)
theorem pair_one {n a c : Nat} {b : List Nat} (hn : 0 < n) (hac : a < c) (hc : c < n) (hb : Blk n b) : ((List.range n).map fun s => tur n s b).countP (bth a c) = gF n b (c - a) := by
  unfold gF
  rw [← (back_perm hn a).countP_eq (fun o => decide (o ∈ b) && decide ((o + (c - a)) % n ∈ b)), List.countP_map, List.countP_map]
  refine List.countP_congr fun s hs => ?_
  have hs := List.mem_range.mp hs
  show bth a c (tur n s b) = true ↔ (decide ((a + (n - s)) % n ∈ b) && decide (((a + (n - s)) % n + (c - a)) % n ∈ b)) = true
  unfold bth
  rw [Nat.mod_add_mod, show a + (n - s) + (c - a) = c + (n - s) by omega]
  simp only [Bool.and_eq_true, decide_eq_true_eq]
  rw [tur_at hn hs (by omega) hb, tur_at hn hs hc hb]
theorem pair_all {n a c : Nat} (hn : 0 < n) (hac : a < c) (hc : c < n) : ∀ {bs : List (List Nat)}, (∀ b ∈ bs, Blk n b) → (dev n bs).countP (bth a c) = (bs.map fun b => gF n b (c - a)).sum
  | [], _ => rfl
  | b :: bs, h => by
    have r := pair_all hn hac hc (bs := bs) fun x hx => h x (List.mem_cons_of_mem _ hx)
    unfold dev at r ⊢
    rw [List.flatMap_cons, List.countP_append, r, pair_one hn hac hc (h b (List.mem_cons_self ..)), List.map_cons, List.sum_cons]
theorem tD_gF {n d : Nat} {bs : List (List Nat)} (hd : d < n) (hbb : ∀ b ∈ bs, Blk n b) : tD n bs d = (bs.map fun b => gF n b d).sum := by
  rw [tD_fD hbb hd]
  congr 1
  exact List.map_congr_left fun b hb => fD_gF (hbb b hb) d
theorem pair_dif {n a c : Nat} (hn : 0 < n) (hac : a < c) (hc : c < n) {bs : List (List Nat)} (hbb : ∀ b ∈ bs, Blk n b) : (dev n bs).countP (bth a c) = tD n bs (c - a) ∧ (dev n bs).countP (bth a c) = tD n bs (n - (c - a)) := by
  rw [pair_all hn hac hc hbb, tD_gF (by omega) hbb, tD_gF (by omega) hbb]
  refine ⟨rfl, ?_⟩
  congr 1
  exact List.map_congr_left fun b _ => (gF_back hn (show c - a < n by omega) b).symm
theorem dif_get {n k : Nat} {bs : List (List Nat)} (hk : k < n - 1) : (difL n bs)[k]? = some (tD n bs (1 + k)) := by
  unfold difL
  rw [List.getElem?_map, List.getElem?_range hk]
  rfl
/-! ### sums -/
theorem dif_cons (n : Nat) (b : List Nat) (bs : List (List Nat)) : (difL n (b :: bs)).sum = (difL n [b]).sum + (difL n bs).sum := by
  unfold difL
  rw [← sum_addF]
  congr 1
theorem dif_sums {n : Nat} : ∀ {bs : List (List Nat)}, (∀ b ∈ bs, Blk n b) → (difL n bs).sum = (bs.map fun b => b.length * (b.length - 1)).sum
  | [], _ => by
    refine sum_nil0 fun x hx => ?_
    obtain ⟨k, _, rfl⟩ := List.mem_map.mp hx
    rfl
  | b :: bs, h => by rw [dif_cons, dif_sum (h b (List.mem_cons_self ..)), dif_sums fun x hx => h x (List.mem_cons_of_mem _ hx), List.map_cons, List.sum_cons]
/-! ### moved, turned about, taken times -/
/-- a base, taken m times and moved -/
def mvd (n k m : Nat) (b : List Nat) : List Nat := b.map fun x => (m * x + k) % n
theorem mvd_blk {n k m : Nat} {b : List Nat} (hn : 0 < n) (hc : Nat.gcd m n = 1) (hb : Blk n b) : Blk n (mvd n k m b) := by
  refine ⟨?_, fun x hx => ?_⟩
  · unfold mvd
    rw [List.nodup_iff_pairwise_ne, List.pairwise_map]
    refine (List.nodup_iff_pairwise_ne.mp hb.nd).imp_of_mem fun {x y} hx hy h e => h (mul_inj hc (hb.lt x hx) (hb.lt y hy) ?_)
    have e2 : (m * x % n + k) % n = (m * y % n + k) % n := by rw [Nat.mod_add_mod, Nat.mod_add_mod, e]
    exact mod_injT (Nat.mod_lt _ hn) (Nat.mod_lt _ hn) e2
  · obtain ⟨y, _, rfl⟩ := List.mem_map.mp hx
    exact Nat.mod_lt _ hn
theorem tur_perm {n s : Nat} {b c : List Nat} (h : b.Perm c) : tur n s b = tur n s c := by
  unfold tur
  refine List.filter_congr fun x _ => ?_
  rw [decide_eq_decide, (h.map _).mem_iff]
theorem tur_mvd {n k s : Nat} {b : List Nat} (hn : 0 < n) : tur n s (mvd n k 1 b) = tur n (s + k) b := by
  refine srt_uniq (tur_bls _).1 (tur_bls _).1 fun x => ?_
  rw [tur_mem hn, tur_mem hn]
  constructor
  · rintro ⟨y, hy, rfl⟩
    obtain ⟨z, hz, rfl⟩ := List.mem_map.mp hy
    refine ⟨z, hz, ?_⟩
    rw [Nat.mod_add_mod, Nat.one_mul, Nat.add_assoc, Nat.add_comm k s]
  · rintro ⟨z, hz, rfl⟩
    refine ⟨_, List.mem_map.mpr ⟨z, hz, rfl⟩, ?_⟩
    rw [Nat.mod_add_mod, Nat.one_mul, Nat.add_assoc, Nat.add_comm k s]
theorem dev_one {n k : Nat} {b c : List Nat} (hn : 0 < n) (h : c.Perm (mvd n k 1 b)) : ((List.range n).map fun s => tur n s c).Perm ((List.range n).map fun s => tur n s b) := by
  have e : ((List.range n).map fun s => tur n s c) = ((List.range n).map fun s => (s + k) % n).map fun s => tur n s b := by
    rw [List.map_map]
    refine List.map_congr_left fun s _ => ?_
    show tur n s c = tur n ((s + k) % n) b
    rw [tur_perm h, tur_mvd hn, tur_mod]
  rw [e]
  exact (shift_perm hn k).map _
/-- each base is moved by some number, in any order -/
def Mvd (n : Nat) (bs cs : List (List Nat)) : Prop := ∀ i : Nat, (∃ b c k, bs[i]? = some b ∧ cs[i]? = some c ∧ c.Perm (mvd n k 1 b)) ∨ (bs[i]? = none ∧ cs[i]? = none)
theorem Mvd.tail {n : Nat} {b c : List Nat} {bs cs : List (List Nat)} (h : Mvd n (b :: bs) (c :: cs)) : Mvd n bs cs := fun i => h (i + 1)
theorem mvd_dev {n : Nat} (hn : 0 < n) : ∀ {bs cs : List (List Nat)}, Mvd n bs cs → (dev n cs).Perm (dev n bs)
  | [], [], _ => .refl _
  | [], c :: cs, h => by
    rcases h 0 with ⟨b, c, k, h1, _⟩ | ⟨_, h2⟩
    · simp at h1
    · simp at h2
  | b :: bs, [], h => by
    rcases h 0 with ⟨b, c, k, _, h2, _⟩ | ⟨h1, _⟩
    · simp at h2
    · simp at h1
  | b :: bs, c :: cs, h => by
    have r := mvd_dev hn h.tail
    rcases h 0 with ⟨b', c', k, h1, h2, hp⟩ | ⟨h1, _⟩
    · cases h1
      cases h2
      unfold dev at r ⊢
      rw [List.flatMap_cons, List.flatMap_cons]
      exact (dev_one hn hp).append r
    · simp at h1
theorem fD_perm {n d : Nat} {b c : List Nat} (h : b.Perm c) : fD n b d = fD n c d := by
  unfold fD
  have e : (fun o => decide ((o + d) % n ∈ b)) = fun o => decide ((o + d) % n ∈ c) := funext fun o => by rw [decide_eq_decide, h.mem_iff]
  rw [e]
  exact (h.filter _).length_eq
theorem mvd_tD {n d : Nat} (hn : 0 < n) (hd : d < n) : ∀ {bs cs : List (List Nat)}, Mvd n bs cs → (∀ b ∈ bs, Blk n b) → tD n cs d = tD n bs d
  | [], [], _, _ => rfl
  | [], c :: cs, h, _ => by
    rcases h 0 with ⟨b, c, k, h1, _⟩ | ⟨_, h2⟩
    · simp at h1
    · simp at h2
  | b :: bs, [], h, _ => by
    rcases h 0 with ⟨b, c, k, _, h2, _⟩ | ⟨h1, _⟩
    · simp at h2
    · simp at h1
  | b :: bs, c :: cs, h, hbb => by
    have r := mvd_tD hn hd h.tail fun x hx => hbb x (List.mem_cons_of_mem _ hx)
    rcases h 0 with ⟨b', c', k, h1, h2, hp⟩ | ⟨h1, _⟩
    · cases h1
      cases h2
      have hb := hbb b (List.mem_cons_self ..)
      have hc : Blk n c := (mvd_blk (k := k) (m := 1) hn (Nat.gcd_one_left n) hb).perm hp
      unfold tD at r ⊢
      rw [List.map_cons, List.map_cons, List.sum_cons, List.sum_cons, r, cD_fD hc hd, cD_fD hb hd, fD_perm hp]
      congr 1
      have e : mvd n k 1 b = b.map fun x => (x + k) % n := List.map_congr_left fun x _ => by rw [Nat.one_mul]
      rw [e]
      exact fD_move hb d hn
    · simp at h1
theorem mvd_blks {n : Nat} (hn : 0 < n) {bs cs : List (List Nat)} (h : Mvd n bs cs) (hbb : ∀ b ∈ bs, Blk n b) : ∀ c ∈ cs, Blk n c := fun c hc => by
  obtain ⟨i, hi, e⟩ := List.getElem_of_mem hc
  rcases h i with ⟨b, c', k, h1, h2, hp⟩ | ⟨_, h2⟩
  · rw [List.getElem?_eq_getElem hi, e] at h2
    cases h2
    exact (mvd_blk (k := k) (m := 1) hn (Nat.gcd_one_left n) (hbb b (List.mem_of_getElem? h1))).perm hp
  · rw [List.getElem?_eq_getElem hi] at h2
    cases h2
/-! ### products -/
theorem mul_add_mod' {n m x d : Nat} : (m * x % n + m * d % n) % n = m * ((x + d) % n) % n := by
  rw [← Nat.add_mod, ← Nat.mul_add, Nat.mul_mod m ((x + d) % n), Nat.mod_mod, ← Nat.mul_mod]
theorem mul_mem {n m x : Nat} {b : List Nat} (hc : Nat.gcd m n = 1) (hx : x < n) (hb : Blk n b) : m * x % n ∈ mvd n 0 m b ↔ x ∈ b := by
  constructor
  · intro h
    obtain ⟨y, hy, e⟩ := List.mem_map.mp h
    rw [Nat.add_zero] at e
    rw [← mul_inj hc (hb.lt y hy) hx e]
    exact hy
  · intro h
    exact List.mem_map.mpr ⟨x, h, by rw [Nat.add_zero]⟩
theorem fD_mul {n m d : Nat} {b : List Nat} (hn : 0 < n) (hc : Nat.gcd m n = 1) (hb : Blk n b) : fD n (mvd n 0 m b) (m * d % n) = fD n b d := by
  unfold fD
  show ((b.map fun x => (m * x + 0) % n).filter _).length = _
  rw [List.filter_map, List.length_map]
  congr 1
  refine List.filter_congr fun x hx => ?_
  show decide (((m * x + 0) % n + m * d % n) % n ∈ mvd n 0 m b) = _
  rw [Nat.add_zero, mul_add_mod', decide_eq_decide, mul_mem hc (Nat.mod_lt _ hn) hb]
theorem tD_mul {n m d : Nat} {bs : List (List Nat)} (hn : 0 < n) (hc : Nat.gcd m n = 1) (hd : d < n) (hbb : ∀ b ∈ bs, Blk n b) : tD n (bs.map (mvd n 0 m)) (m * d % n) = tD n bs d := by
  unfold tD
  rw [List.map_map]
  congr 1
  refine List.map_congr_left fun b hb => ?_
  show cD n (mvd n 0 m b) (m * d % n) = cD n b d
  rw [cD_fD (mvd_blk hn hc (hbb b hb)) (Nat.mod_lt _ hn), cD_fD (hbb b hb) hd, fD_mul hn hc (hbb b hb)]
/-- the row of products -/
def rowM (n m : Nat) : List Nat := (List.range n).map fun x => m * x % n
theorem rowM_get {n m x : Nat} (hx : x < n) : (rowM n m).getD x 0 = m * x % n := by
  unfold rowM
  simp [hx]
theorem rn_mul {n m s : Nat} {b : List Nat} (hn : 0 < n) (hc : Nat.gcd m n = 1) (hb : Blk n b) : rn (rowM n m) (tur n s b) = tur n (m * s % n) (mvd n 0 m b) := by
  unfold rn
  have hB := tur_bls (n := n) (s := s) b
  have hp := so_perm ((tur n s b).map fun x => (rowM n m).getD x 0)
  have hB2 := rn_blk (mul_perm hn hc) hB.blk
  refine srt_uniq (Bls.so hB2) (tur_bls _).1 fun x => ?_
  rw [hp.mem_iff, List.mem_map, tur_mem hn]
  constructor
  · rintro ⟨z, hz, rfl⟩
    rw [rowM_get (hB.2 z hz)]
    obtain ⟨y, hy, rfl⟩ := (tur_mem hn).mp hz
    refine ⟨m * y % n, (mul_mem hc (hb.lt y hy) hb).mpr hy, mul_add_mod'⟩
  · rintro ⟨z, hz, rfl⟩
    obtain ⟨y, hy, rfl⟩ := List.mem_map.mp hz
    refine ⟨(y + s) % n, (tur_mem hn).mpr ⟨y, hy, rfl⟩, ?_⟩
    rw [rowM_get (Nat.mod_lt _ hn), Nat.add_zero, mul_add_mod']
theorem dev_mul {n m : Nat} (hn : 0 < n) (hc : Nat.gcd m n = 1) : ∀ {bs : List (List Nat)}, (∀ b ∈ bs, Blk n b) → ((dev n bs).map (rn (rowM n m))).Perm (dev n (bs.map (mvd n 0 m)))
  | [], _ => .refl _
  | b :: bs, h => by
    have r := dev_mul hn hc (bs := bs) fun x hx => h x (List.mem_cons_of_mem _ hx)
    unfold dev at r ⊢
    rw [List.flatMap_cons, List.map_append, List.map_cons, List.flatMap_cons, List.map_map]
    refine List.Perm.append ?_ r
    have e : (List.range n).map (rn (rowM n m) ∘ fun s => tur n s b) = ((List.range n).map fun s => m * s % n).map fun s => tur n s (mvd n 0 m b) := by
      rw [List.map_map]
      exact List.map_congr_left fun s _ => rn_mul hn hc (h b (List.mem_cons_self ..))
    rw [e]
    exact (mul_perm hn hc).map _
/-! ### the law's bases, divisors, moves -/
def spB40 : Sp := fun vs H Q _ => ∃ (n : Nat) (x : Int), vs = [.int ((n : Nat) : Int), .int x] ∧ 1 ≤ n ∧ n ≤ 60 ∧ ∀ (l : Addr) (b : List Nat) (H' : Hp), H l = none → Same H H' → H' l = some (.lst (nats b)) → Bls n b → Q (.ref l) H'
theorem scLBase : FnScope ["_law_n", "_law_x"] ["_law_n", "_law_x"] (defScope sLBase) := ⟨rfl, rfl, rfl, by decide +kernel, rfl, by decide +kernel, by decide +kernel⟩
theorem ok_base40 {f : Addr} {fd : FuncData} (F : Fun K "_law_base" "_law_base" sLBase f fd) (T : TxtB mg) : FnOk P w K mg base CX0 1 f fd ["_law_n", "_law_x"] spB40 := by
  refine F.okQ scLBase (fun vs H Q E h => ?_) (fun cdv A outer s H vs Q E hr h => ?_)
  · obtain ⟨n, x, rfl, _⟩ := h
    rfl
  · obtain ⟨n, x, rfl, hn1, hn2, q⟩ := h
    refine ⟨_, (qss_cons (qs_if (qt_cmpR op_eq (qe_op op_mod (qv 1) qe_int) qe_int (nomark _)) (qss_one (qs_ret (qe_ix ix_list (qe_lst (qac (qe_lst qa_nil) (qac (qe_callTy (call_list_rng rfl) (by rfl) T.lst (by decide +kernel) (qac (qe_callTy call_rng1 (by rfl) T.range PyProof.Rows.boot_range (qac (qv 0) qa_nil)) qa_nil)) qa_nil))) (qe_op op_mod (qe_op op_fdiv (qv 1) qe_int) qe_int) (fun _ _ => rfl)))) qss_nil)
      (qss_one (qs_ret (qe_comp (g := gName 0) (N := ["_law_point", "_law_x"]) (src := [none, some 1]) rfl (comp_scope (defScope sLBase) ["_law_n", "_law_x"] rfl rfl (by decide +kernel) rfl) (qi_range1 rfl T.range (qac (qv 0) qa_nil)) (fun _ _ _ _ _ => (qg_name (i := 0) (show (["_law_point", "_law_x"] : List Str).Nodup by decide +kernel) rfl (Or.inl rfl) (Or.inr rfl))) (fun _ _ _ _ _ => (qif_one (qt_cmpR op_eq (qe_op op_and (qe_op op_shr (qe_op op_fdiv (qv 1) qe_int) (qv 0)) qe_int) qe_int (nomark _)))) (fun _ _ _ _ _ => (qv 0)))))), ?_⟩
    refine ⟨_, rfl, _, _, rfl, rfl, (by decide : (0 : Int) < 8), rfl, _, rfl, ?_⟩
    refine ite2 (fun _ => ?_) (fun _ => ?_)
    · refine ⟨by show 0 ≤ sizeLine; decide, fun c hc => ?_⟩
      have w1 := same_new (o := .lst []) hc
      refine ⟨_, rfl, _, rfl, fun r hr' => ⟨r, n, rfl, upd_same, by omega, fun l hl => ?_⟩⟩
      have w2 := same_new (o := .rng 0 ((n : Nat) : Int)) hr'
      have w3 := same_new (o := .lst ((List.range n).map fun p => V.int ((p : Nat) : Int))) hl
      refine ⟨by show 2 ≤ sizeLine; decide, fun d hd => ?_⟩
      have w4 := same_new (o := .lst [.ref c, .ref l]) hd
      have sA := w1.trans (w2.trans (w3.trans w4))
      have hcA := w4 _ _ (w3 _ _ (w2 _ _ (show L2.upd H c (.lst []) c = some (.lst (nats [])) from upd_same)))
      have hlA := w4 _ _ (show L2.upd (L2.upd (L2.upd H c (.lst [])) r (.rng 0 ((n : Nat) : Int))) l (.lst ((List.range n).map fun p => V.int ((p : Nat) : Int))) l = some (.lst (nats (List.range n))) from upd_same)
      have hl0 : H l = none := w1.free (w2.free hl)
      obtain ⟨k, hk, hk2⟩ : ∃ k : Nat, x / 8 % 2 = ((k : Nat) : Int) ∧ k < 2 := ⟨(x / 8 % 2).toNat, by omega, by omega⟩
      refine ⟨_, rfl, _, _, rfl, rfl, ⟨by decide, by decide⟩, _, _, rfl, rfl, (by decide : (0 : Int) < 2), ?_⟩
      dsimp only
      rw [hk]
      cases k with
      | zero => exact ⟨d, _, _, _, rfl, rfl, SqL.of upd_same, rfl, q c [] _ hc sA hcA ⟨.nil, fun x hx => by cases hx⟩⟩
      | succ k =>
        cases show k = 0 by omega
        exact ⟨d, _, _, _, rfl, rfl, SqL.of upd_same, rfl, q l (List.range n) _ hl0 sA hlA ⟨List.pairwise_lt_range, fun x hx => List.mem_range.mp hx⟩⟩
    · refine ⟨_, rfl, ((n : Nat) : Int), rfl, by omega, by omega, comp_rng (lo := 0) (n := n) (fun i ys H2 => H2 = H ∧ ∃ b, ys = nats b ∧ Bls i b) ⟨rfl, [], rfl, ⟨.nil, fun x hx => by cases hx⟩⟩ ?_ ?_⟩
      · rintro i ys H2 N hi ⟨rfl, b, rfl, hb⟩ nx
        refine ⟨Weak.set (by intro v z; cases z), ?_⟩
        refine ⟨_, rfl, _, _, rfl, rfl, ⟨by decide, by decide⟩, _, rfl, _, _, rfl, rfl, by omega, _, _, rfl, rfl, rfl, _, rfl, ?_⟩
        refine ite2 (fun _ => ⟨_, rfl, ?_, nx _ _ ⟨rfl, b ++ [i], ?_, hb.snoc⟩⟩) (fun _ => nx _ _ ⟨rfl, b, rfl, hb.up⟩)
        · rw [nats_len]
          exact Nat.lt_of_le_of_lt hb.len (Nat.lt_of_lt_of_le hi (Nat.le_trans hn2 (by decide)))
        · rw [nats_snoc, Int.zero_add]
      · rintro ys H2 ⟨rfl, b, rfl, hb⟩
        exact ⟨by rw [nats_len]; exact Nat.le_trans hb.len (Nat.le_trans hn2 (by decide)), fun r hr => q r b _ hr (same_new hr) upd_same hb⟩
def spGcd : Sp := fun vs H Q _ => ∃ (a b : Nat), vs = [.int ((a : Nat) : Int), .int ((b : Nat) : Int)] ∧ a ≤ 1000 ∧ b ≤ 1000 ∧ ∀ H', Same H H' → Q (.int ((Nat.gcd a b : Nat) : Int)) H'
theorem scLGcd : FnScope ["_law_one", "_law_other"] ["_law_one", "_law_other"] (defScope sLGcd) := ⟨rfl, rfl, rfl, by decide +kernel, rfl, by decide +kernel, by decide +kernel⟩
theorem ok_gcd {f : Addr} {fd : FuncData} (F : Fun K "_law_gcd" "_law_gcd" sLGcd f fd) (T : TxtB mg) : FnOk P w K mg base CX0 1 f fd ["_law_one", "_law_other"] spGcd := by
  refine F.okQ scLGcd (fun vs H Q E h => ?_) (fun cdv A outer s H vs Q E hr h => ?_)
  · obtain ⟨a, b, rfl, _⟩ := h
    rfl
  · obtain ⟨a, b, rfl, ha, hb, q⟩ := h
    refine ⟨_, (qss_cons (qs_while PassesOwn.never (qt_cmpR op_gt (qv 1) qe_int (nomark _))
        (qss_one (qs_par (i := 0) (j := 1) rfl scLGcd.nd rfl rfl (by decide) rfl rfl (qac (qv 1) (qac (qe_op op_mod (qv 0) (qv 1)) qa_nil)) rfl)))
      (qss_one (qs_ret (qv 0)))), ?_⟩
    refine while_w (fun σ H2 => Same H H2 ∧ ∃ c d : Nat, σ = [some (.int ((c : Nat) : Int)), some (.int ((d : Nat) : Int))] ∧ Nat.gcd c d = Nat.gcd a b)
      (fun σ _ => match σ with | [_, some (.int m)] => m.toNat | _ => 0) ⟨Same.refl _, a, b, rfl, rfl⟩ ?_
    rintro mm σ H2 ⟨s2, c, d, rfl, hg⟩ hmm
    refine ⟨_, rfl, _, _, rfl, rfl, _, rfl, ?_⟩
    refine ite2 (fun h1 => WTurn.of ?_) (fun h1 => ?_)
    · have hd : 0 < d := by
        have : (0 : Int) < ((d : Nat) : Int) := of_decide_eq_true h1
        omega
      refine ⟨_, rfl, _, rfl, _, rfl, _, _, rfl, rfl, by omega, _, _, rfl, ?_⟩
      show (Same H _ ∧ ∃ c' d' : Nat, [some (V.int ((d : Nat) : Int)), some (V.int (((c : Nat) : Int) % ((d : Nat) : Int)))] = _ ∧ _) ∧ (((c : Nat) : Int) % ((d : Nat) : Int)).toNat < mm
      rw [← Int.natCast_emod]
      refine ⟨⟨s2, d, c % d, rfl, ?_⟩, ?_⟩
      · rw [← hg, Nat.gcd_comm c d, Nat.gcd_rec d c, Nat.gcd_comm]
      · rw [hmm]
        show (((c % d : Nat) : Int)).toNat < ((d : Nat) : Int).toNat
        rw [Int.toNat_natCast, Int.toNat_natCast]
        exact Nat.mod_lt _ hd
    · have hd : d = 0 := by
        have : ¬(0 : Int) < ((d : Nat) : Int) := of_decide_eq_false (by simpa using h1)
        omega
      subst hd
      rw [Nat.gcd_zero_right] at hg
      subst hg
      exact ⟨_, rfl, q _ s2⟩
def spMvd : Sp := fun vs H Q _ => ∃ (a : Addr) (b : List Nat) (n k m : Nat), vs = [.ref a, .int ((n : Nat) : Int), .int ((k : Nat) : Int), .int ((m : Nat) : Int)] ∧ (H a = some (.lst (nats b)) ∨ H a = some (.tup (nats b))) ∧ 1 ≤ n ∧ n ≤ 60 ∧ k ≤ 2000000000 ∧ m ≤ 1000 ∧ Blk n b ∧ ∀ (l : Addr) (H' : Hp), H l = none → Same H H' → H' l = some (.lst (nats (mvd n k m b))) → Q (.ref l) H'
theorem scLMoved : FnScope ["_law_base_here", "_law_n", "_law_by", "_law_times"] ["_law_base_here", "_law_n", "_law_by", "_law_times"] (defScope sLMoved) := ⟨rfl, rfl, rfl, by decide +kernel, rfl, by decide +kernel, by decide +kernel⟩
theorem mvd_int {n k m x : Nat} : (((m : Nat) : Int) * ((x : Nat) : Int) + ((k : Nat) : Int)) % ((n : Nat) : Int) = (((m * x + k) % n : Nat) : Int) := by
  rw [← Int.natCast_mul, ← Int.natCast_add, ← Int.natCast_emod]
theorem ok_mvd {f : Addr} {fd : FuncData} (F : Fun K "_law_moved" "_law_moved" sLMoved f fd) (T : TxtB mg) : FnOk P w K mg base CX0 1 f fd ["_law_base_here", "_law_n", "_law_by", "_law_times"] spMvd := by
  refine F.okQ scLMoved (fun vs H Q E h => ?_) (fun cdv A outer s H vs Q E hr h => ?_)
  · obtain ⟨a, b, n, k, m, rfl, _⟩ := h
    rfl
  · obtain ⟨a, b, n, k, m, rfl, ha, hn1, hn2, hk, hm, hb, q⟩ := h
    refine ⟨_, (qss_one (qs_ret (qe_comp (g := gName 0) (N := ["_law_point", "_law_n", "_law_by", "_law_times"]) (src := [none, some 1, some 2, some 3]) rfl (comp_scope (defScope sLMoved) ["_law_base_here", "_law_n", "_law_by", "_law_times"] rfl rfl (by decide +kernel) rfl) (qi_seq (qv 0)) (fun _ _ _ _ _ => (qg_name (i := 0) (show (["_law_point", "_law_n", "_law_by", "_law_times"] : List Str).Nodup by decide +kernel) rfl (Or.inl rfl) (Or.inr rfl))) (fun _ _ _ _ _ => qif_nil) (fun _ _ _ _ _ => (qe_op op_mod (qe_op op_add (qe_op op_mul (qv 3) (qv 0)) (qv 2)) (qv 1)))))), ?_⟩
    refine ⟨_, rfl, a, rfl, comp_seq (K := K) (xs := nats b) ha (fun i ys H2 => H2 = H ∧ ys = nats (mvd n k m (b.take i))) ⟨rfl, rfl⟩ (fun i ys H2 ⟨e, _⟩ => e ▸ Same.refl _) ?_ ?_⟩
    · rintro i v ys H2 N hi ⟨rfl, rfl⟩ nx
      obtain ⟨x, hx, rfl⟩ := nats_get hi
      have hxn := hb.lt x (List.mem_of_getElem? hx)
      refine ⟨Weak.set (by intro v z; cases z), ⟨_, rfl, _, rfl, _, _, rfl, rfl, .inl ⟨by omega, by omega⟩, _, rfl, _, _, rfl, rfl, _, rfl, _, _, rfl, rfl, by omega, ?_, nx _ _ ⟨rfl, ?_⟩⟩⟩
      · rw [nats_len]
        unfold mvd
        rw [List.length_map, List.length_take]
        have := hb.len
        exact Nat.lt_of_le_of_lt (show min i b.length ≤ 60 by omega) (by decide)
      · dsimp only
        rw [mvd_int, List.take_add_one, hx, Option.toList_some]
        unfold mvd
        rw [List.map_append, List.map_cons, List.map_nil, nats_snoc]
    rintro ys H2 ⟨rfl, rfl⟩
    rw [nats_len b, List.take_length]
    refine ⟨by rw [nats_len]; unfold mvd; rw [List.length_map]; exact Nat.le_trans hb.len (Nat.le_trans hn2 (by decide)), fun p hp => q p _ hp (same_new hp) upd_same⟩
/-! ### developed again -/
def spAgain : Sp := fun vs H Q _ => ∃ (g : Addr) (n : Nat) (us : List V) (bs ds : List (List Nat)), vs = [.int ((n : Nat) : Int), .ref g] ∧ Told H g n bs us ds ∧ Turns n bs ∧ (∀ b ∈ bs, Bls n b) ∧ bs.length < 64 ∧ 1 ≤ n ∧ n ≤ 60 ∧ ∀ (l : Addr) (ws : List V) (cs : List (List Nat)) (H' : Hp), Same H H' → H' l = some (.lst ws) → TpAt H' ws cs → cs.Perm bs → cs.Pairwise LexLe → Q (.ref l) H'
theorem scLDevelopedAgain : FnScope ["_law_n", "_law_told", "_law_found", "_law_base_here", "_law_often", "_law_some"] ["_law_n", "_law_told"] (defScope sLDevelopedAgain) := ⟨rfl, rfl, rfl, by decide +kernel, rfl, by decide +kernel, by decide +kernel⟩
theorem lex_adj {bs : List (List Nat)} {idx : List Nat} (hil : idx.length = bs.length) (hs : ∀ i, i + 1 < bs.length → lexB ((bs.getD (idx.getD (i + 1) 0) []).map fun p => ((p : Nat) : Int)) ((bs.getD (idx.getD i 0) []).map fun p => ((p : Nat) : Int)) = false) : (idx.map fun i => bs.getD i []).Pairwise LexLe := by
  refine adj_pair (R := LexLe) (fun _ _ _ => LexLe.trans) _ fun i hi => ?_
  rw [List.length_map] at hi
  have := hs i (by omega)
  unfold LexLe
  have e1 : idx.getD (i + 1) 0 = idx[i + 1] := by simp [hi]
  have e2 : idx.getD i 0 = idx[i]'(by omega) := by simp [show i < idx.length by omega]
  rw [e1, e2] at this
  rw [List.getElem_map, List.getElem_map]
  exact this
theorem ok_again {f : Addr} {fd : FuncData} (F : Fun K "_law_developed_again" "_law_developed_again" sLDevelopedAgain f fd) (T : TxtB mg) (pLMoved : Pm P w K mg base CX0 1 "_law_moved" ["_law_base_here", "_law_n", "_law_by", "_law_times"] spMvd) : FnOk P w K mg base CX0 2 f fd ["_law_n", "_law_told"] spAgain := by
  refine F.okQ scLDevelopedAgain (fun vs H Q E h => ?_) (fun cdv A outer s H vs Q E hr1 h => ?_)
  · obtain ⟨g, n, us, bs, ds, rfl, _⟩ := h
    rfl
  · obtain ⟨g, n, us, bs, ds, rfl, hG, hTu, hbb, h64, hn1, hn2, q⟩ := h
    have hu : (A.deeper (PyProof.Rows.envOfC "_law_developed_again" (defScope sLDevelopedAgain) s.heap.objs.size f cdv)).units + 64 < cLine := hr1.units
    refine ⟨_, (qss_cons (qs_set (i := 2) scLDevelopedAgain.nd rfl (Or.inl rfl) (qe_lst qa_nil))
      (qss_cons (qs_for PassesOwn.never rfl (qi_list (qv 1)) (qg_tup rfl (qgs_cons (qg_name (i := 3) scLDevelopedAgain.nd rfl (Or.inr rfl)) (qgs_cons (qg_name (i := 4) scLDevelopedAgain.nd rfl (Or.inl rfl)) qgs_nil)))
        (qss_cons (qs_set (i := 5) scLDevelopedAgain.nd rfl (Or.inl rfl) (qe_callB (show CallR _ _ (rSortTs P w) from call_sortTs rfl hu) (by rfl) T.sor (by decide +kernel) (qac (qe_callTy (show CallR _ _ (rSetTs P w K) from call_setTs rfl hu) (by rfl) T.set (by decide +kernel) (qac (qe_comp (g := gName 0) (N := ["_law_by", "_law_n", "_law_base_here"]) (src := [none, some 0, some 3]) rfl (comp_scope (defScope sLDevelopedAgain) ["_law_n", "_law_told", "_law_found", "_law_base_here", "_law_often", "_law_some"] rfl rfl (by decide +kernel) rfl) (qi_range1 rfl T.range (qac (qv 0) qa_nil)) (fun _ _ _ _ _ => (qg_name (i := 0) (show (["_law_by", "_law_n", "_law_base_here"] : List Str).Nodup by decide +kernel) rfl (Or.inl rfl) (Or.inr rfl))) (fun _ _ _ _ _ => qif_nil) (fun _ _ _ _ _ => (qe_callTy (show CallR _ _ (rTupQ K) from call_tupQ) (by rfl) T.tup (by decide +kernel) (qac (qe_callB (show CallR _ _ (rSortI K) from call_sortI) (by rfl) T.sor (by decide +kernel) (qac (qe_callP pLMoved hr1 rfl pass0 (qac (qv 2) (qac (qv 1) (qac (qv 0) (qac qe_int qa_nil))))) qa_nil)) qa_nil)))) qa_nil)) qa_nil)))
        (qss_one (qs_expr (qe_bm PySem.F.plainAttrs_list PySem.F.slot_list_extend PySem.F.type_list_extend mt_extend (qv 2) (qac (qe_op op_mulL (qv 5) (qv 4)) qa_nil))))))
      (qss_one (qs_ret (qe_callB (call_sortT hr1.units) (by rfl) T.sor (by decide +kernel) (qac (qv 2) qa_nil)))))), ?_⟩
    have hP := bld_perm hn1 hbb hTu hG.srt.nd hG.min
    have hPl := hP.length_eq
    refine ⟨by show 0 ≤ sizeLine; decide, fun c hc => ?_⟩
    have w1 := same_new (o := .lst []) hc
    have hg1 := w1 _ _ hG.lst
    refine ⟨_, rfl, g, rfl, ⟨_, SqL.of hg1⟩, for_list (K := K) (xs := us) (fun i σ H2 => Same H H2 ∧ ∃ (ws : List V) (L : List (List Nat)) (x3 x4 x5 : Option V), σ = [some (.int ((n : Nat) : Int)), some (.ref g), some (.ref c), x3, x4, x5] ∧ H2 c = some (.lst ws) ∧ TpAt H2 ws L ∧ L.Perm (bld n (fun d => bs.count d) (ds.take i))) ⟨w1, [], [], none, none, none, rfl, upd_same, trivial, .refl _⟩ (fun i σ H2 _ ⟨s2, _⟩ => SqL.of (s2 _ _ hG.lst)) ?_ ?_⟩
    · rintro i v σ H2 hi ⟨s2, ws, L, x3, x4, x5, rfl, hc2, hT, hL⟩
      obtain ⟨p, t, d, rfl, hd, hp, ht⟩ := (hG.pr.sm s2).get hi
      have hdm := List.mem_of_getElem? hd
      have hdb := (hG.bls d hdm).blk
      have hdl := hdb.len
      have hLen : L.length + bs.count d * (orb n d).length < 64 := by
        have e := bld_take (n := n) (cnt := fun d => bs.count d) ds (i + 1)
        rw [bld_snoc hd, List.length_append, rep_len, ← hL.length_eq] at e
        omega
      refine ⟨p, _, rfl, SqT.of hp, rfl, _, _, rfl, _, _, rfl, rfl, ?_⟩
      refine ⟨_, rfl, ((n : Nat) : Int), rfl, by omega, by omega, ?_⟩
      rw [Int.toNat_natCast]
      refine comp_rng (lo := 0) (n := n) (fun i ys H3 => Same H2 H3 ∧ TpAt H3 ys ((List.range i).map fun s => tur n s d)) ⟨Same.refl _, trivial⟩ ?_ ?_
      · rintro j ys H3 N hj ⟨s3, hT3⟩ nx
        rw [Int.zero_add]
        have hlz : ys.length < sizeLine := by
          rw [hT3.len, List.length_map, List.length_range]
          exact Nat.lt_of_lt_of_le hj (Nat.le_trans hn2 (by decide))
        refine ⟨Weak.set (by intro v z; cases z), ⟨_, rfl, _, rfl, _, rfl, t, d, n, j, 1, rfl, .inr (s3 _ _ ht), hn1, hn2, by omega, by decide, hdb, fun l4 H4 hl4 s4 hl4' => ?_⟩⟩
        have em : mvd n j 1 d = d.map fun y => (y + j) % n := List.map_congr_left fun x _ => by rw [Nat.one_mul]
        rw [em] at hl4'
        refine ⟨l4, (d.map fun p => (p + j) % n).map fun p => ((p : Nat) : Int), rfl, SqL.of (by rw [← nats_ints]; exact hl4'), by rw [List.length_map, List.length_map]; omega, fun l ns hl' hp hs => ?_⟩
        obtain ⟨e, ee, hp', hs'⟩ := back_nats hp hs
        rw [ee]
        have y2 := same_new (o := .lst (nats e)) hl'
        refine ⟨l, _, rfl, .inl ⟨SqL.of upd_same, fun t' ht' => ⟨hlz, nx _ _ ⟨s3.trans (s4.trans (y2.trans (same_new ht'))), ?_⟩⟩⟩⟩
        rw [List.range_succ, List.map_append]
        refine (((hT3.sm s4).sm y2).sm (same_new ht')).snoc ?_
        rw [upd_same, tur_eq hn1 hdb hp' hs']
      · rintro ys H3 ⟨s3, hT1⟩
        refine ⟨by rw [hT1.len, List.length_map, List.length_range]; exact Nat.le_trans hn2 (by decide), fun l1 hl1 => ?_⟩
        have y1 := same_new (o := .lst ys) hl1
        refine ⟨l1, ys, _, rfl, SqL.of upd_same, hT1.sm y1, by rw [List.length_map, List.length_range]; omega, fun l2 ws2 cs hl2 hT2 nd h1 h2 hle => ?_⟩
        have hO := orb_perm nd h1 h2
        have v1 := same_new (o := TsO P w l2 ws2 cs) hl2
        rw [List.length_map, List.length_range] at hle
        refine ⟨l2, ws2, cs, rfl, upd_same, hT2.sm v1, by omega, fun l3 us3 ds3 hl3 hT3 hp3 _ => ?_⟩
        have v2 := same_new (o := .lst us3) hl3
        have hO3 := hp3.trans hO
        have s4 := s3.trans (y1.trans (v1.trans v2))
        have hc4 := s4 _ _ hc2
        have hl34 : L2.upd (L2.upd (L2.upd H3 l1 (.lst ys)) l2 (TsO P w l2 ws2 cs)) l3 (.lst us3) l3 = some (.lst us3) := upd_same
        have hT4 := hT3.sm v2
        generalize L2.upd (L2.upd (L2.upd H3 l1 (.lst ys)) l2 (TsO P w l2 ws2 cs)) l3 (.lst us3) = H4 at s4 hc4 hl34 hT4 ⊢
        have hu3 : us3.length = (orb n d).length := by rw [hT4.len, hO3.length_eq]
        have hbl : bs.count d ≤ bs.length := List.count_le_length
        refine ⟨_, rfl, .inl ⟨rfl, _, SqL.of hc4⟩, _, rfl, _, rfl, l3, us3, _, rfl, rfl, SqL.of hl34, by omega, by omega, ?_, fun l5 hl5 => ?_⟩
        · rw [hu3, Int.toNat_natCast, Nat.mul_comm]
          omega
        rw [Int.toNat_natCast]
        have v5 := same_new (o := .lst (List.replicate (bs.count d) us3).flatten) hl5
        have hc5 := v5 _ _ hc4
        have hf : (List.replicate (bs.count d) us3).flatten.length = bs.count d * (orb n d).length := by rw [rep_len, hu3]
        refine ⟨c, l5, ws, _, rfl, rfl, hc5, upd_same, by rw [hf, hT.len]; exact Nat.le_trans (Nat.le_of_lt hLen) (by decide), ?_⟩
        refine ⟨same_upd ((s2.trans s4).trans v5) hc, ws ++ (List.replicate (bs.count d) us3).flatten, L ++ (List.replicate (bs.count d) ds3).flatten, _, _, _, rfl, upd_same, ?_, ?_⟩
        · have hT5 := (hT.sm (s4.trans v5)).app ((rep_tp hT4 (bs.count d)).sm v5)
          exact hT5.same fun e xs he => by
            rw [upd_ne]
            · exact he
            · intro z
              rw [z, hc5] at he
              cases he
        · rw [bld_snoc hd]
          exact hL.append (rep_perm hO3 _)
    · rintro σ H2 ⟨s2, ws, L, x3, x4, x5, rfl, hc2, hT, hL⟩
      rw [hG.pr.len, List.take_length] at hL
      have hLb := hL.trans hP
      have hLl := hLb.length_eq
      have hwl := hT.len
      refine ⟨_, rfl, c, ws, L, rfl, .inl (SqL.of hc2), hT, by omega, fun l idx hl hp hs => ?_⟩
      have v1 := same_new (o := .lst (idx.map fun i => ws.getD i .non)) hl
      have hil : idx.length = L.length := by rw [hp.length_eq, List.length_range]
      exact q l _ (idx.map fun i => L.getD i []) _ (s2.trans v1) upd_same ((tp_idx hT fun i hi => List.mem_range.mp (hp.mem_iff.mp hi)).sm v1) ((idx_perm hp).trans hLb) (lex_adj hil hs)
/-! ### pairs of points -/
def spPR : Sp := fun vs H Q _ => ∃ (l c : Addr) (n : Nat) (ws : List V) (bs : List (List Nat)) (L : List Nat), vs = [.int ((n : Nat) : Int), .ref l, .ref c] ∧ H l = some (.tup ws) ∧ TpAt H ws bs ∧ H c = some (.lst (nats L)) ∧ 1 ≤ n ∧ n ≤ 60 ∧ bs.length ≤ 200 ∧
  (∀ a b, a < b → b < n → L[b - a - 1]? = some (bs.countP (bth a b)) ∧ L[n - (b - a) - 1]? = some (bs.countP (bth a b))) ∧ ∀ H', Same H H' → Q (.bl true) H'
theorem scLPairsRight : FnScope ["_law_n", "_law_blocks", "_law_counts", "_law_a", "_law_b", "_law_many"] ["_law_n", "_law_blocks", "_law_counts"] (defScope sLPairsRight) := ⟨rfl, rfl, rfl, by decide +kernel, rfl, by decide +kernel, by decide +kernel⟩
theorem ok_pr {f : Addr} {fd : FuncData} (F : Fun K "_law_pairs_right" "_law_pairs_right" sLPairsRight f fd) (T : TxtB mg) : FnOk P w K mg base CX0 1 f fd ["_law_n", "_law_blocks", "_law_counts"] spPR := by
  refine F.okQ scLPairsRight (fun vs H Q E h => ?_) (fun cdv A outer s H vs Q E hr1 h => ?_)
  · obtain ⟨l, c, n, ws, bs, L, rfl, _⟩ := h
    rfl
  · obtain ⟨l, c, n, ws, bs, L, rfl, hl, hT, hc, hn1, hn2, hbl, hX, q⟩ := h
    refine ⟨_, (qss_cons (qs_for PassesOwn.never rfl (qi_range1 rfl T.range (qac (qv 0) qa_nil)) (qg_name (i := 3) scLPairsRight.nd rfl (Or.inr rfl))
        (qss_one (qs_for PassesOwn.never rfl (qi_range2 rfl T.range (qac (qe_op op_add (qv 3) qe_int) (qac (qv 0) qa_nil))) (qg_name (i := 4) scLPairsRight.nd rfl (Or.inr rfl))
          (qss_cons (qs_set (i := 5) scLPairsRight.nd rfl (Or.inl rfl) (qe_callB call_len_seq (by rfl) T.len PySem.boot_len (qac (qe_comp (g := gName 0) (N := ["_law_block", "_law_a", "_law_b"]) (src := [none, some 3, some 4]) rfl (comp_scope (defScope sLPairsRight) ["_law_n", "_law_blocks", "_law_counts", "_law_a", "_law_b", "_law_many"] rfl rfl (by decide +kernel) rfl) (qi_tup (qv 1)) (fun _ _ _ _ _ => (qg_name (i := 0) (show (["_law_block", "_law_a", "_law_b"] : List Str).Nodup by decide +kernel) rfl (Or.inl rfl) (Or.inr rfl))) (fun _ _ _ _ _ => (qif_one (QW.pt (qw_and (qt_cmpR (show OpR _ _ (rIn K false) from op_in_seq) (qv 1) (qv 0) rfl) (qw_and1 (qt_cmpR (show OpR _ _ (rIn K false) from op_in_seq) (qv 2) (qv 0) rfl)))))) (fun _ _ _ _ _ => (qv 0))) qa_nil)))
          (qss_one (qs_if (QW.pt (qw_or (qt_cmpR op_ne (qv 5) (qe_ix ix_list (qv 2) (qe_op op_sub (qe_op op_sub (qv 4) (qv 3)) qe_int) (fun _ _ => rfl)) (nomark _)) (qw_or1 (qt_cmpR op_ne (qv 5) (qe_ix ix_list (qv 2) (qe_op op_sub (qe_op op_add (qe_op op_sub (qv 0) (qv 4)) (qv 3)) qe_int) (fun _ _ => rfl)) (nomark _))))) (qss_one (qs_ret qe_bl)) qss_nil))))))
      (qss_one (qs_ret qe_bl))), ?_⟩
    have hwl := hT.len
    refine ⟨_, rfl, ((n : Nat) : Int), rfl, by omega, by omega, ?_⟩
    rw [Int.toNat_natCast]
    refine for_range (lo := 0) (n := n) (fun i σ H2 => Same H H2 ∧ ∃ x3 x4 x5 : Option V, σ = [some (.int ((n : Nat) : Int)), some (.ref l), some (.ref c), x3, x4, x5]) ⟨Same.refl _, none, none, none, rfl⟩ ?_ ?_
    · rintro a σ H2 ha ⟨s2, x3, x4, x5, rfl⟩
      refine ⟨_, rfl, _, _, rfl, rfl, _, rfl, _, _, rfl, ⟨by omega, by omega, by omega, by omega⟩, ?_⟩
      rw [show (((n : Nat) : Int) - (0 + ((a : Nat) : Int) + 1)).toNat = n - (a + 1) by omega]
      refine for_range (lo := 0 + ((a : Nat) : Int) + 1) (n := n - (a + 1)) (fun i σ H3 => Same H H3 ∧ ∃ x4 x5 : Option V, σ = [some (.int ((n : Nat) : Int)), some (.ref l), some (.ref c), some (.int ((a : Nat) : Int)), x4, x5]) ⟨s2, x4, x5, by rw [Int.zero_add]; rfl⟩ ?_ ?_
      · rintro i σ H3 hi ⟨s3, x4, x5, rfl⟩
        have eb : (0 + ((a : Nat) : Int) + 1) + ((i : Nat) : Int) = ((a + 1 + i : Nat) : Int) := by omega
        rw [eb]
        generalize hb' : a + 1 + i = b at eb ⊢
        have hab : a < b := by omega
        have hbn : b < n := by omega
        obtain ⟨h1, h2⟩ := hX a b hab hbn
        refine ⟨_, rfl, l, rfl, ⟨_, SqT.of (s3 _ _ hl)⟩, comp_tup (K := K) (xs := ws) (fun j ys H4 => H4 = H3 ∧ ys.length = (bs.take j).countP (bth a b)) ⟨rfl, rfl⟩ (fun j ys H4 _ ⟨e, _⟩ => SqT.of (e ▸ s3 _ _ hl)) ?_ ?_⟩
        · rintro j v ys H4 N hj ⟨rfl, hy⟩ nx
          obtain ⟨t, blk, rfl, hbs, ht⟩ := (hT.sm s3).get hj
          have hjl := (List.getElem?_eq_some_iff.mp hbs).1
          have hyl : ys.length < sizeLine := by
            rw [hy]
            refine Nat.lt_of_le_of_lt (List.countP_le_length) (Nat.lt_of_le_of_lt (show _ ≤ 200 by rw [List.length_take]; omega) (by decide))
          have eT : (bs.take (j + 1)).countP (bth a b) = (bs.take j).countP (bth a b) + if bth a b blk = true then 1 else 0 := by
            rw [take_snoc hbs, List.countP_append, List.countP_singleton]
          refine ⟨Weak.set (by intro v z; cases z), ?_⟩
          refine ⟨_, rfl, _, rfl, t, _, rfl, .inr (SqT.of ht), rfl, flat_nats blk, _, rfl, ?_⟩
          rw [if_neg (by decide), inV_nats]
          by_cases c1 : a ∈ blk
          · rw [decide_eq_true c1]
            refine iteT ⟨_, rfl, _, rfl, t, _, rfl, .inr (SqT.of ht), rfl, flat_nats blk, _, rfl, ?_⟩
            rw [if_neg (by decide), inV_nats]
            by_cases c2 : b ∈ blk
            · rw [decide_eq_true c2]
              refine iteT ⟨_, rfl, hyl, nx _ _ ⟨rfl, ?_⟩⟩
              rw [eT, List.length_append, hy, if_pos (by unfold bth; simp [c1, c2])]
              rfl
            · rw [decide_eq_false c2]
              refine iteF (nx _ _ ⟨rfl, ?_⟩)
              rw [eT, hy, if_neg (by unfold bth; simp [c2]), Nat.add_zero]
          · rw [decide_eq_false c1]
            refine iteF (nx _ _ ⟨rfl, ?_⟩)
            rw [eT, hy, if_neg (by unfold bth; simp [c1]), Nat.add_zero]
        · rintro ys H4 ⟨rfl, hy⟩
          rw [hwl, List.take_length] at hy
          refine ⟨by rw [hy]; exact Nat.le_trans List.countP_le_length (Nat.le_trans hbl (by decide)), fun r hr' => ?_⟩
          have w1 := same_new (o := .lst ys) hr'
          have hc5 := w1 _ _ (s3 _ _ hc)
          refine ⟨r, _, rfl, .inl (SqL.of upd_same), ?_⟩
          dsimp only [gName]
          rw [hy]
          generalize L2.upd H4 r (.lst ys) = H5 at w1 hc5 ⊢
          have e1 : ((b : Nat) : Int) - ((a : Nat) : Int) - 1 = ((b - a - 1 : Nat) : Int) := by omega
          have e2 : ((n : Nat) : Int) - ((b : Nat) : Int) + ((a : Nat) : Int) - 1 = ((n - (b - a) - 1 : Nat) : Int) := by omega
          have g1 : (nats L)[b - a - 1]? = some (.int ((bs.countP (bth a b) : Nat) : Int)) := by
            unfold nats
            rw [List.getElem?_map, h1]
            rfl
          have g2 : (nats L)[n - (b - a) - 1]? = some (.int ((bs.countP (bth a b) : Nat) : Int)) := by
            unfold nats
            rw [List.getElem?_map, h2]
            rfl
          refine ⟨_, rfl, _, rfl, _, rfl, _, rfl, _, _, rfl, rfl, _, _, rfl, rfl, c, _, _, .int ((bs.countP (bth a b) : Nat) : Int), rfl, rfl, SqL.of hc5, by rw [e1]; exact atI_nat g1, rfl, _, rfl, iteNS rfl ?_⟩
          refine ⟨_, rfl, _, rfl, _, rfl, _, rfl, _, _, rfl, rfl, _, rfl, _, _, rfl, rfl, _, _, rfl, rfl, c, _, _, .int ((bs.countP (bth a b) : Nat) : Int), rfl, rfl, SqL.of hc5, by rw [e2]; exact atI_nat g2, rfl, _, rfl, iteNS rfl ?_⟩
          exact ⟨s3.trans w1, _, _, rfl⟩
      · rintro σ H3 ⟨s3, x4, x5, rfl⟩
        exact ⟨s3, _, _, _, rfl⟩
    · rintro σ H2 ⟨s2, x3, x4, x5, rfl⟩
      exact q _ s2
theorem eqv_blkD (L : List Nat) : PyData.eqv (dBlk L) (dBlk L) = true := by
  simp only [dBlk, PyData.eqv]
  exact eqv_ints' L
/-- what is told of blocks in another order -/
theorem told_perm {K : PySem.W.Frag} {H : Hp} {t u : Addr} {n : Nat} {bs cs : List (List Nat)} (ht : TTAt H t n bs) (hu : TTAt H u n cs) (hp : cs.Perm bs) (hT : Turns n bs) : ∃ ds : List (List Nat), IsD K H (dTT (fun d => bs.count d) ds) (.ref t) ∧ IsD K H (dTT (fun d => bs.count d) ds) (.ref u) := by
  obtain ⟨g, us, ds, h1, hG⟩ := ht.told hT
  obtain ⟨g2, us2, ds2, h2, hG2⟩ := hu.told (hT.of_perm hp)
  have hds : ds = ds2 := hG.srt.uniq hG2.srt fun d => by
    rw [hG.min, hG2.min]
    constructor
    · rintro ⟨b, hb, h⟩
      exact ⟨b, hp.mem_iff.mpr hb, h⟩
    · rintro ⟨b, hb, h⟩
      exact ⟨b, hp.mem_iff.mp hb, h⟩
  subst hds
  have hcn : (fun d => cs.count d) = fun d => bs.count d := funext fun d => List.perm_iff_count.mp hp d
  have hpr2 := hG2.pr
  rw [hcn] at hpr2
  exact ⟨ds, isD_tt h1 hG.lst hG.pr, isD_tt h2 hG2.lst hpr2⟩
def spAlike : Sp := fun vs H Q _ => ∃ (l l2 : Addr) (n : Nat) (ws ws2 : List V) (bs cs : List (List Nat)), vs = [.int ((n : Nat) : Int), .ref l, .ref l2] ∧ H l = some (.lst ws) ∧ BlAt H ws bs ∧ H l2 = some (.lst ws2) ∧ BlAt H ws2 cs ∧ 1 ≤ n ∧ n ≤ 60 ∧ n * bs.length < 64 ∧ n * cs.length < 64 ∧ (∀ b ∈ bs, Blk n b) ∧ (∀ b ∈ cs, Blk n b) ∧ difL n cs = difL n bs ∧ (dev n cs).Perm (dev n bs) ∧ ∀ H', Same H H' → Q (.bl true) H'
theorem scLAlike : FnScope ["_law_n", "_law_bases", "_law_other", "_law_one", "_law_two"] ["_law_n", "_law_bases", "_law_other"] (defScope sLAlike) := ⟨rfl, rfl, rfl, by decide +kernel, rfl, by decide +kernel, by decide +kernel⟩
theorem ok_alike {f : Addr} {fd : FuncData} (F : Fun K "_law_alike" "_law_alike" sLAlike f fd) (T : TxtB mg) (pDifferences : Pm P w K mg base CX0 5 "differences" ["n", "bases"] spDiff) (pDeveloped : Pm P w K mg base CX0 5 "developed" ["n", "bases"] spDev) (pSortedLayout : Pm P w K mg base CX0 1 "sorted_layout" ["M"] spSl) (pTurnsTold : Pm P w K mg base CX0 4 "turns_told" ["M"] spTT) : FnOk P w K mg base CX0 6 f fd ["_law_n", "_law_bases", "_law_other"] spAlike := by
  refine F.okQ scLAlike (fun vs H Q E h => ?_) (fun cdv A outer s H vs Q E hr5 h => ?_)
  · obtain ⟨l, l2, n, ws, ws2, bs, cs, rfl, _⟩ := h
    rfl
  · obtain ⟨l, l2, n, ws, ws2, bs, cs, rfl, hl, hB, hl2, hC, hn1, hn2, hbl, hcl, hbb, hcb, hd, hp, q⟩ := h
    have hr4 := hr5.mono (show 4 ≤ 5 by decide)
    have hr1 := hr5.mono (show 1 ≤ 5 by decide)
    have hu : (A.deeper (PyProof.Rows.envOfC "_law_alike" (defScope sLAlike) s.heap.objs.size f cdv)).units + 64 < cLine := hr5.units
    refine ⟨_, (qss_cons (qs_if (qt_cmpR (op_neD hu) (qe_callP pDifferences hr5 rfl pass0 (qac (qv 0) (qac (qv 2) qa_nil))) (qe_callP pDifferences hr5 rfl pass0 (qac (qv 0) (qac (qv 1) qa_nil))) (nomark _)) (qss_one (qs_ret qe_bl)) qss_nil)
      (qss_cons (qs_set (i := 3) scLAlike.nd rfl (Or.inl rfl) (qe_callP pDeveloped hr5 rfl pass0 (qac (qv 0) (qac (qv 1) qa_nil))))
      (qss_cons (qs_set (i := 4) scLAlike.nd rfl (Or.inl rfl) (qe_callP pDeveloped hr5 rfl pass0 (qac (qv 0) (qac (qv 2) qa_nil))))
      (qss_one (qs_ret (qe_and (qe_cmpR (op_eqD hu) (qe_callP pSortedLayout hr1 rfl pass0 (qac (qv 3) qa_nil)) (qe_callP pSortedLayout hr1 rfl pass0 (qac (qv 4) qa_nil)) (nomark _)) (qe_one (qe_cmpR (op_eqD hu) (qe_callP pTurnsTold hr4 rfl pass0 (qac (qv 3) qa_nil)) (qe_callP pTurnsTold hr4 rfl pass0 (qac (qv 4) qa_nil)) (nomark _))))))))), ?_⟩
    refine ⟨_, rfl, _, rfl, l2, n, ws2, cs, rfl, hl2, hC, hn1, hn2, by omega, hcb, fun g1 H1 _ s1 hg1 => ?_⟩
    refine ⟨_, rfl, _, rfl, l, n, ws, bs, rfl, s1 _ _ hl, hB.same s1, hn1, hn2, by omega, hbb, fun g2 H2 _ s2 hg2 => ?_⟩
    refine ⟨dBlk (difL n cs), dBlk (difL n bs), isD_blkT (s2 _ _ hg1), isD_blkT hg2, shaped_blk _, shaped_blk _, _, rfl, ?_⟩
    show if (!PyData.eqv (dBlk (difL n cs)) (dBlk (difL n bs))) = true then _ else _
    rw [hd, eqv_blkD]
    refine iteF ?_
    have s12 := s1.trans s2
    refine ⟨_, rfl, _, rfl, l, n, ws, bs, rfl, s12 _ _ hl, hB.same s12, hn1, hn2, by omega, hbb, fun t3 u3 us3 H3 s3 ht3 hu3 hT3 => ?_⟩
    have s13 := s12.trans s3
    refine ⟨_, rfl, _, rfl, l2, n, ws2, cs, rfl, s13 _ _ hl2, hC.same s13, hn1, hn2, by omega, hcb, fun t4 u4 us4 H4 s4 ht4 hu4 hT4 => ?_⟩
    have hdl : (dev n bs).length < 64 := by rw [dev_len]; exact hbl
    have hcl' : (dev n cs).length < 64 := by rw [dev_len]; exact hcl
    have L3 : LayA H4 t3 n (dev n bs) := ⟨u3, us3, s4 _ _ ht3, s4 _ _ hu3, hT3.sm s4, by omega⟩
    have L4 : LayA H4 t4 n (dev n cs) := ⟨u4, us4, ht4, hu4, hT4, by omega⟩
    refine ⟨_, rfl, t3, n, _, rfl, L3, hdl, fun u5 c5 H5 s5 hL5 hp5 hs5 => ?_⟩
    refine ⟨_, rfl, t4, n, _, rfl, L4.sm s5, hcl', fun u6 c6 H6 s6 hL6 hp6 hs6 => ?_⟩
    refine ⟨dLay n c5, dLay n c6, (hL5.sm s6).isD, hL6.isD, shaped_lay _ _, shaped_lay _ _, ?_⟩
    cases lex_uniq hp5 hs5 (hp6.trans hp) hs6
    refine ⟨true, congrArg V.bl (by rw [if_neg (by decide), eqv_lay, decide_eq_true rfl]), iteT ?_⟩
    have s46 := s5.trans s6
    obtain ⟨v3, vs3, a3, b3, c3, _⟩ := L3.sm s46
    refine ⟨_, rfl, t3, v3, n, vs3, _, rfl, a3, b3, c3, hdl, hn1, hn2, dev_bls, fun t7 H7 _ s7 hT7 _ => ?_⟩
    obtain ⟨v4, vs4, a4, b4, c4, _⟩ := L4.sm (s46.trans s7)
    refine ⟨_, rfl, t4, v4, n, vs4, _, rfl, a4, b4, c4, hcl', hn1, hn2, dev_bls, fun t8 H8 _ s8 hT8 _ => ?_⟩
    obtain ⟨ds, d1, d2⟩ := told_perm (K := K) (hT7.sm s8) hT8 hp (dev_turns hn1 bs)
    refine ⟨_, _, d1, d2, shaped_tt _ _, shaped_tt _ _, ?_⟩
    show Q (.bl (PyData.eqv (dTT (fun d => (dev n bs).count d) ds) (dTT (fun d => (dev n bs).count d) ds))) H8
    rw [eqv_tt]
    exact q _ (s13.trans (s4.trans (s46.trans (s7.trans s8))))
/-! ### the law -/
def dTl (cs : List (List Nat)) : PyData := .list (cs.map dTup)
theorem isD_tl {K : PySem.W.Frag} {H : Hp} {l : Addr} {ws : List V} {cs : List (List Nat)} (h : H l = some (.lst ws)) (hT : TpAt H ws cs) : IsD K H (dTl cs) (.ref l) := by
  simp only [dTl, IsD]
  exact ⟨l, ws, rfl, SqL.of h, tps_isD hT⟩
theorem shaped_tl (cs : List (List Nat)) : PySem.SeqAt.shaped (dTl cs) = true := by
  unfold PySem.SeqAt.shaped dTl
  rw [Bool.and_eq_true]
  have h1 := lay_tps cs
  have h2 := depth_tps cs
  refine ⟨by simp [PyData.canLay0, h1], decide_eq_true ?_⟩
  simp only [PyData.depth]
  omega
theorem eqv_tl (cs : List (List Nat)) : PyData.eqv (dTl cs) (dTl cs) = true := by
  simp only [dTl, PyData.eqv]
  rw [eqv_tups_iff, decide_eq_true rfl]
theorem scLaw : FnScope ["_law_script", "_law_xs", "_law_n", "_law_bases", "_law_layout", "_law_told", "_law_counts", "_law_others", "_law_some", "_law_m", "_law_products", "_law_there", "_law_row"] ["_law_script"] (defScope sLaw) := ⟨rfl, rfl, rfl, by decide +kernel, rfl, by decide +kernel, by decide +kernel⟩
theorem sq_int (x : Nat) : ((x : Nat) : Int) * (((x : Nat) : Int) - 1) = ((x * (x - 1) : Nat) : Int) := by
  cases x with
  | zero => rfl
  | succ x =>
    rw [Int.natCast_mul]
    congr 1
    omega
theorem ok_law {f : Addr} {fd : FuncData} (F : Fun K "law" "law" sLaw f fd) (T : TxtB mg) (pCell : Pm P w K mg base CX0 1 "_law_cell" ["_law_script", "_law_k"] (spCell2 K)) (pLNumbers : Pm P w K mg base CX0 1 "_law_numbers" ["_law_cell_here", "_law_many"] spNums) (pLBase : Pm P w K mg base CX0 1 "_law_base" ["_law_n", "_law_x"] spB40) (pDeveloped : Pm P w K mg base CX0 5 "developed" ["n", "bases"] spDev) (pTurnsTold : Pm P w K mg base CX0 4 "turns_told" ["M"] spTT)
    (pLDevelopedAgain : Pm P w K mg base CX0 2 "_law_developed_again" ["_law_n", "_law_told"] spAgain) (pDifferences : Pm P w K mg base CX0 5 "differences" ["n", "bases"] spDiff) (pLPairsRight : Pm P w K mg base CX0 1 "_law_pairs_right" ["_law_n", "_law_blocks", "_law_counts"] spPR) (pLMoved : Pm P w K mg base CX0 1 "_law_moved" ["_law_base_here", "_law_n", "_law_by", "_law_times"] spMvd)
    (pLAlike : Pm P w K mg base CX0 6 "_law_alike" ["_law_n", "_law_bases", "_law_other"] spAlike) (pLGcd : Pm P w K mg base CX0 1 "_law_gcd" ["_law_one", "_law_other"] spGcd) (pRenamed : Pm P w K mg base CX0 5 "renamed" ["M", "row"] spRn) (pSortedLayout : Pm P w K mg base CX0 1 "sorted_layout" ["M"] spSl) : FnOk P w K mg base CX0 20 f fd ["_law_script"] (spLaw K) := by
  refine F.okQ scLaw (fun vs H Q E h => ?_) (fun cdv A outer s H vs Q E hr h => ?_)
  · obtain ⟨a, ns, rfl, _⟩ := h
    rfl
  · obtain ⟨a, sn, rfl, hS, hlen, fin⟩ := h
    have hr1 := hr.mono (show 1 ≤ 19 by decide)
    have hr2 := hr.mono (show 2 ≤ 19 by decide)
    have hr4 := hr.mono (show 4 ≤ 19 by decide)
    have hr5 := hr.mono (show 5 ≤ 19 by decide)
    have hr6 := hr.mono (show 6 ≤ 19 by decide)
    have hu : (A.deeper (PyProof.Rows.envOfC "law" (defScope sLaw) s.heap.objs.size f cdv)).units + 64 < cLine := hr.units
    refine ⟨_, (qss_cons (qs_set (i := 1) scLaw.nd rfl (Or.inr rfl) (qe_callP pLNumbers hr1 rfl pass0 (qac (qe_callP pCell hr1 rfl pass0 (qac (qv 0) (qac qe_int qa_nil))) (qac qe_int qa_nil))))
      (qss_cons (qs_set (i := 2) scLaw.nd rfl (Or.inr rfl) (qe_op op_add qe_int (qe_op op_mod (qe_ix ix_list (qv 1) qe_int (fun _ _ => rfl)) qe_int)))
      (qss_cons (qs_set (i := 3) scLaw.nd rfl (Or.inr rfl) (qe_comp (g := gName 0) (N := ["_law_k", "_law_xs", "_law_n"]) (src := [none, some 1, some 2]) rfl (comp_scope (defScope sLaw) ["_law_script", "_law_xs", "_law_n", "_law_bases", "_law_layout", "_law_told", "_law_counts", "_law_others", "_law_some", "_law_m", "_law_products", "_law_there", "_law_row"] rfl rfl (by decide +kernel) rfl) (qi_range1 rfl T.range (qac (qe_op op_add qe_int (qe_op op_mod (qe_ix ix_list (qv 1) qe_int (fun _ _ => rfl)) qe_int)) qa_nil)) (fun _ _ _ _ _ => (qg_name (i := 0) (show (["_law_k", "_law_xs", "_law_n"] : List Str).Nodup by decide +kernel) rfl (Or.inl rfl) (Or.inr rfl))) (fun _ _ _ _ _ => qif_nil) (fun _ _ _ _ _ => (qe_callP pLBase hr1 rfl pass0 (qac (qv 2) (qac (qe_ix (show IxR _ (rIxL K) from ix_list) (qv 1) (qe_op op_add qe_int (qv 0)) (fun _ _ => rfl)) qa_nil))))))
      (qss_cons (qs_set (i := 4) scLaw.nd rfl (Or.inl rfl) (qe_callP pDeveloped hr5 rfl pass0 (qac (qv 2) (qac (qv 3) qa_nil))))
      (qss_cons (qs_set (i := 5) scLaw.nd rfl (Or.inl rfl) (qe_callP pTurnsTold hr4 rfl pass0 (qac (qv 4) qa_nil)))
      (qss_cons (qs_if (QW.pt (qw_or (qt_cmpR op_ne (qe_ix ix_tup (qv 5) qe_int (fun _ _ => rfl)) qe_str (nomark _)) (qw_or1 (qt_cmpR (op_neD hu) (qe_callP pLDevelopedAgain hr2 rfl pass0 (qac (qv 2) (qac (qe_ix ix_tup (qv 5) qe_int (fun _ _ => rfl)) qa_nil))) (qe_callB (call_sortT hu) (by rfl) T.sor (by decide +kernel) (qac (qe_ix ix_tup (qv 4) qe_int (fun _ _ => rfl)) qa_nil)) (nomark _))))) (qss_one (qs_ret qe_bl)) qss_nil)
      (qss_cons (qs_set (i := 6) scLaw.nd rfl (Or.inr rfl) (qe_callP pDifferences hr5 rfl pass0 (qac (qv 2) (qac (qv 3) qa_nil))))
      (qss_cons (qs_if (qt_cmpR op_ne (qe_callB call_len_seq (by rfl) T.len PySem.boot_len (qac (qv 6) qa_nil)) (qe_op op_sub (qv 2) qe_int) (nomark _)) (qss_one (qs_ret qe_bl)) qss_nil)
      (qss_cons (qs_if (qt_cmpR op_ne (qe_callB (call_sumI rfl) (by rfl) T.sum (by decide +kernel) (qac (qv 6) qa_nil)) (qe_callB (call_sumI rfl) (by rfl) T.sum (by decide +kernel) (qac (qe_comp (g := gName 0) (N := ["_law_base_here"]) (src := [none]) rfl (comp_scope (defScope sLaw) ["_law_script", "_law_xs", "_law_n", "_law_bases", "_law_layout", "_law_told", "_law_counts", "_law_others", "_law_some", "_law_m", "_law_products", "_law_there", "_law_row"] rfl rfl (by decide +kernel) rfl) (qi_list (qv 3)) (fun _ _ _ _ _ => (qg_name (i := 0) (show (["_law_base_here"] : List Str).Nodup by decide +kernel) rfl (Or.inl rfl) (Or.inr rfl))) (fun _ _ _ _ _ => qif_nil) (fun _ _ _ _ _ => (qe_op op_mul (qe_callB (show CallR _ _ (rLenQ K) from call_lenQ) (by rfl) T.len PySem.boot_len (qac (qv 0) qa_nil)) (qe_op op_sub (qe_callB (show CallR _ _ (rLenQ K) from call_lenQ) (by rfl) T.len PySem.boot_len (qac (qv 0) qa_nil)) qe_int)))) qa_nil)) (nomark _)) (qss_one (qs_ret qe_bl)) qss_nil)
      (qss_cons (qs_if (qt_not (qt_val (qe_callP pLPairsRight hr1 rfl pass0 (qac (qv 2) (qac (qe_ix ix_tup (qv 4) qe_int (fun _ _ => rfl)) (qac (qv 6) qa_nil)))))) (qss_one (qs_ret qe_bl)) qss_nil)
      (qss_cons (qs_setComp (i := 7) (g := gName 0) (N := ["_law_k", "_law_xs", "_law_n", "_law_bases"]) (src := [none, some 1, some 2, some 3]) rfl (comp_scope (defScope sLaw) ["_law_script", "_law_xs", "_law_n", "_law_bases", "_law_layout", "_law_told", "_law_counts", "_law_others", "_law_some", "_law_m", "_law_products", "_law_there", "_law_row"] rfl rfl (by decide +kernel) rfl) (qi_range1 rfl T.range (qac (qe_callB call_len_seq (by rfl) T.len PySem.boot_len (qac (qv 3) qa_nil)) qa_nil)) (fun _ _ _ _ _ => (qg_name (i := 0) (show (["_law_k", "_law_xs", "_law_n", "_law_bases"] : List Str).Nodup by decide +kernel) rfl (Or.inl rfl) (Or.inr rfl))) (fun _ _ _ _ _ => qif_nil) (fun _ _ _ _ _ => (show QE _ _ (tRev K _) from qe_rev (qe_callP pLMoved hr1 rfl pass0 (qac (qe_ix (show IxR _ (rIxL K) from ix_list) (qv 3) (qv 0) (fun _ _ => rfl)) (qac (qv 2) (qac (qe_op op_fdiv (qe_ix (show IxR _ (rIxL K) from ix_list) (qv 1) (qe_op op_add qe_int (qe_op op_mod (qv 0) qe_int)) (fun _ _ => rfl)) (qe_op op_add qe_int (qv 0))) (qac qe_int qa_nil))))))) (qg_name (i := 7) scLaw.nd rfl (Or.inl rfl)))
      (qss_cons (qs_if (QW.pt (qw_or (qt_not (qt_val (qe_callP pLAlike hr6 rfl pass0 (qac (qv 2) (qac (qv 3) (qac (qv 7) qa_nil)))))) (qw_or1 (qt_not (qt_val (qe_callP pLAlike hr6 rfl pass0 (qac (qv 2) (qac (qv 3) (qac (qe_rev (qv 3)) qa_nil))))))))) (qss_one (qs_ret qe_bl)) qss_nil)
      (qss_cons (qs_setComp (i := 8) (g := gName 0) (N := ["_law_m", "_law_n"]) (src := [none, some 2]) rfl (comp_scope (defScope sLaw) ["_law_script", "_law_xs", "_law_n", "_law_bases", "_law_layout", "_law_told", "_law_counts", "_law_others", "_law_some", "_law_m", "_law_products", "_law_there", "_law_row"] rfl rfl (by decide +kernel) rfl) (qi_range2 rfl T.range (qac qe_int (qac (qe_op op_add (qv 2) qe_int) qa_nil))) (fun _ _ _ _ _ => (qg_name (i := 0) (show (["_law_m", "_law_n"] : List Str).Nodup by decide +kernel) rfl (Or.inl rfl) (Or.inr rfl))) (fun _ _ _ _ _ => (qif_one (qt_cmpR op_eq (qe_callP pLGcd hr1 rfl pass0 (qac (qv 0) (qac (qv 1) qa_nil))) qe_int (nomark _)))) (fun _ _ _ _ _ => (qv 0)) (qg_name (i := 8) scLaw.nd rfl (Or.inl rfl)))
      (qss_cons (qs_set (i := 9) scLaw.nd rfl (Or.inr rfl) (qe_ix ix_list (qv 8) (qe_op op_mod (qe_ix ix_list (qv 1) qe_int (fun _ _ => rfl)) (qe_callB call_len_seq (by rfl) T.len PySem.boot_len (qac (qv 8) qa_nil))) (fun _ _ => rfl)))
      (qss_cons (qs_setComp (i := 10) (g := gName 0) (N := ["_law_base_here", "_law_n", "_law_m"]) (src := [none, some 2, some 9]) rfl (comp_scope (defScope sLaw) ["_law_script", "_law_xs", "_law_n", "_law_bases", "_law_layout", "_law_told", "_law_counts", "_law_others", "_law_some", "_law_m", "_law_products", "_law_there", "_law_row"] rfl rfl (by decide +kernel) rfl) (qi_list (qv 3)) (fun _ _ _ _ _ => (qg_name (i := 0) (show (["_law_base_here", "_law_n", "_law_m"] : List Str).Nodup by decide +kernel) rfl (Or.inl rfl) (Or.inr rfl))) (fun _ _ _ _ _ => qif_nil) (fun _ _ _ _ _ => (qe_callP pLMoved hr1 rfl pass0 (qac (qv 0) (qac (qv 1) (qac qe_int (qac (qv 2) qa_nil)))))) (qg_name (i := 10) scLaw.nd rfl (Or.inl rfl)))
      (qss_cons (qs_set (i := 11) scLaw.nd rfl (Or.inr rfl) (qe_callP pDifferences hr5 rfl pass0 (qac (qv 2) (qac (qv 10) qa_nil))))
      (qss_cons (qs_if (qt_not (qt_val (qe_callB (call_all rfl) (by rfl) T.all (by decide +kernel) (qac (qe_comp (g := gName 0) (N := ["_law_d", "_law_n", "_law_counts", "_law_m", "_law_there"]) (src := [none, some 2, some 6, some 9, some 11]) rfl (comp_scope (defScope sLaw) ["_law_script", "_law_xs", "_law_n", "_law_bases", "_law_layout", "_law_told", "_law_counts", "_law_others", "_law_some", "_law_m", "_law_products", "_law_there", "_law_row"] rfl rfl (by decide +kernel) rfl) (qi_range2 rfl T.range (qac qe_int (qac (qv 2) qa_nil))) (fun _ _ _ _ _ => (qg_name (i := 0) (show (["_law_d", "_law_n", "_law_counts", "_law_m", "_law_there"] : List Str).Nodup by decide +kernel) rfl (Or.inl rfl) (Or.inr rfl))) (fun _ _ _ _ _ => qif_nil) (fun _ _ _ _ _ => (qe_cmpR op_eq (qe_ix (show IxR _ (rIxL K) from ix_list) (qv 4) (qe_op op_sub (qe_op op_mod (qe_op op_mul (qv 3) (qv 0)) (qv 1)) qe_int) (fun _ _ => rfl)) (qe_ix (show IxR _ (rIxL K) from ix_list) (qv 2) (qe_op op_sub (qv 0) qe_int) (fun _ _ => rfl)) (nomark _)))) qa_nil)))) (qss_one (qs_ret qe_bl)) qss_nil)
      (qss_cons (qs_setComp (i := 12) (g := gName 0) (N := ["_law_point", "_law_n", "_law_m"]) (src := [none, some 2, some 9]) rfl (comp_scope (defScope sLaw) ["_law_script", "_law_xs", "_law_n", "_law_bases", "_law_layout", "_law_told", "_law_counts", "_law_others", "_law_some", "_law_m", "_law_products", "_law_there", "_law_row"] rfl rfl (by decide +kernel) rfl) (qi_range1 rfl T.range (qac (qv 2) qa_nil)) (fun _ _ _ _ _ => (qg_name (i := 0) (show (["_law_point", "_law_n", "_law_m"] : List Str).Nodup by decide +kernel) rfl (Or.inl rfl) (Or.inr rfl))) (fun _ _ _ _ _ => qif_nil) (fun _ _ _ _ _ => (qe_op op_mod (qe_op op_mul (qv 2) (qv 0)) (qv 1))) (qg_name (i := 12) scLaw.nd rfl (Or.inl rfl)))
      (qss_one (qs_ret (qe_cmpR (op_eqD hu) (qe_callP pSortedLayout hr1 rfl pass0 (qac (qe_callP pDeveloped hr5 rfl pass0 (qac (qv 2) (qac (qv 10) qa_nil))) qa_nil)) (qe_callP pSortedLayout hr1 rfl pass0 (qac (qe_callP pRenamed hr5 rfl pass0 (qac (qv 4) (qac (qv 12) qa_nil))) qa_nil)) (nomark _)))))))))))))))))))))), ?_⟩
    refine ⟨_, rfl, a, sn, 0, rfl, hS, by decide, fun c1 H1 s1 => ⟨c1, 10, rfl, by decide, fun lx ns H2 hlx s2 hx2 hn hns => ?_⟩⟩
    have g : ∀ j : Nat, j < 10 → ∃ x : Int, atI (ns.map V.int) (j : Int) = some (.int x) ∧ 0 ≤ x ∧ x < 2000000000 := fun j hj => by
      obtain ⟨x, e, m⟩ := at_ok (ns := ns) (i := j) (by omega)
      exact ⟨x, e, hns x m⟩
    have m0 : ∀ (u : Int) (n : Int), 0 < n → 0 ≤ u % n ∧ u % n < n := fun u n h => ⟨Int.emod_nonneg _ (by omega), Int.emod_lt_of_pos _ h⟩
    obtain ⟨y0, e0, p0, _⟩ := g 0 (by decide)
    obtain ⟨y1, e1, p1, _⟩ := g 1 (by decide)
    obtain ⟨y7, e7, p7, _⟩ := g 7 (by decide)
    obtain ⟨n, hme, hn1, hn13⟩ : ∃ m : Nat, 1 + y0 % 13 = (m : Int) ∧ 1 ≤ m ∧ m ≤ 13 := by
      have := m0 y0 13 (by decide)
      exact ⟨(1 + y0 % 13).toNat, by omega, by omega, by omega⟩
    obtain ⟨j, hje, hj1, hj3⟩ : ∃ m : Nat, 1 + y1 % 3 = (m : Int) ∧ 1 ≤ m ∧ m ≤ 3 := by
      have := m0 y1 3 (by decide)
      exact ⟨(1 + y1 % 3).toNat, by omega, by omega, by omega⟩
    refine ⟨_, rfl, lx, _, 0, .int y0, rfl, rfl, SqL.of hx2, e0, _, _, rfl, rfl, (by decide : (0 : Int) < 13), _, _, rfl, rfl, ?_⟩
    dsimp only
    rw [hme]
    refine ⟨_, rfl, lx, _, 1, .int y1, rfl, rfl, SqL.of hx2, e1, _, _, rfl, rfl, (by decide : (0 : Int) < 3), _, _, rfl, rfl, _, rfl, ?_⟩
    dsimp only
    rw [hje]
    refine ⟨by omega, by omega, ?_⟩
    rw [Int.toNat_natCast]
    refine comp_rng (lo := 0) (n := j) (fun i ys H3 => Same H2 H3 ∧ ∃ bs : List (List Nat), BlAt H3 ys bs ∧ bs.length = i ∧ ∀ b ∈ bs, Bls n b) ⟨Same.refl _, [], trivial, rfl, nofun⟩ ?_ ?_
    · rintro i ys H3 N hi ⟨s3, bs, hB, hbl, hbb⟩ nx
      rw [Int.zero_add]
      obtain ⟨yi, ei, pi, _⟩ := g (2 + i) (by omega)
      refine ⟨Weak.set (by intro v z; cases z), ⟨_, rfl, _, rfl, _, rfl, _, _, rfl, rfl, lx, _, _, .int yi, rfl, rfl, SqL.of (s3 _ _ hx2), ei, n, yi, rfl, hn1, by omega, fun l b H4 hl s4 hl4 hb => ⟨?_, nx _ _ ⟨s3.trans s4, bs ++ [b], (hB.same s4).snoc hl4, by rw [List.length_append, hbl]; rfl, alls_snoc hbb hb⟩⟩⟩⟩
      rw [hB.len, hbl]
      exact Nat.lt_of_lt_of_le (show i < 3 by omega) (by decide)
    rintro vs H3 ⟨s3, bs, hB, hbl, hbb⟩
    refine ⟨by rw [hB.len]; exact Nat.le_trans (show bs.length ≤ 3 by omega) (by decide), fun c hc => ?_⟩
    have w1 := same_new (o := .lst vs) hc
    have hcA : L2.upd H3 c (.lst vs) c = some (.lst vs) := upd_same
    have hBA := hB.same w1
    have sA := s3.trans w1
    have sB : Same H (L2.upd H3 c (.lst vs)) := s1.trans (s2.trans sA)
    have hxA := sA _ _ hx2
    generalize L2.upd H3 c (.lst vs) = HA at hcA hBA sA sB hxA ⊢
    have hml : n * bs.length ≤ 39 := Nat.le_trans (Nat.mul_le_mul hn13 (show bs.length ≤ 3 by omega)) (by decide)
    have hbk : ∀ b ∈ bs, Blk n b := fun b hb => (hbb b hb).blk
    have hdl : (dev n bs).length < 64 := by rw [dev_len]; omega
    clear hlx hx2 s3 hB w1 hc
    refine ⟨_, rfl, _, rfl, c, n, vs, bs, rfl, hcA, hBA, hn1, by omega, by omega, hbk, fun t4 u4 us4 H4 s4 ht4 hu4 hT4 => ?_⟩
    refine ⟨_, rfl, t4, u4, n, us4, _, rfl, ht4, hu4, hT4, hdl, hn1, by omega, dev_bls, fun t5 H5 _ s5 hT5 _ => ?_⟩
    have hTu := dev_turns hn1 bs
    obtain ⟨g5, us5, ds5, ht5, hG5⟩ := hT5.told hTu
    refine ⟨_, rfl, t5, _, 0, .str "turns", rfl, rfl, SqT.of ht5, rfl, rfl, _, rfl, iteNS rfl ?_⟩
    refine ⟨_, rfl, _, rfl, t5, _, 1, .ref g5, rfl, rfl, SqT.of ht5, rfl, g5, n, us5, _, ds5, rfl, hG5, hTu, dev_bls, hdl, hn1, by omega, fun l6 ws6 cs6 H6 s6 hl6 hT6 hp6 hs6 => ?_⟩
    have s56 := s5.trans s6
    have hT46 := hT4.sm s56
    refine ⟨_, rfl, t4, _, 1, .ref u4, rfl, rfl, SqT.of (s56 _ _ ht4), rfl, u4, us4, _, rfl, .inr (SqT.of (s56 _ _ hu4)), hT46, by rw [hT46.len]; exact hdl, fun l7 idx hl7 hp7 hs7 => ?_⟩
    have w7 := same_new (o := .lst (idx.map fun i => us4.getD i .non)) hl7
    have hil : idx.length = (dev n bs).length := by rw [hp7.length_eq, List.length_range]
    have e67 : cs6 = idx.map fun i => (dev n bs).getD i [] := lex_uniq hp6 hs6 (idx_perm hp7) (lex_adj hil hs7)
    refine ⟨dTl cs6, dTl cs6, isD_tl (w7 _ _ hl6) (hT6.sm w7), isD_tl upd_same (e67 ▸ (tp_idx hT46 fun i hi => List.mem_range.mp (hp7.mem_iff.mp hi)).sm w7), shaped_tl _, shaped_tl _, _, rfl, ?_⟩
    show if (!PyData.eqv (dTl cs6) (dTl cs6)) = true then _ else _
    rw [eqv_tl]
    refine iteF ?_
    have sC := s56.trans w7
    have sD := s4.trans sC
    generalize L2.upd H6 l7 (.lst (idx.map fun i => us4.getD i .non)) = H7 at sC sD ⊢
    have ht4C := sC _ _ ht4
    have hu4C := sC _ _ hu4
    have hT4C := hT4.sm sC
    have hcC := sD _ _ hcA
    have hBC := hBA.same sD
    have hxC := sD _ _ hxA
    have sF := sB.trans sD
    clear w7 hl6 hT6 hp6 hs6 hT46 hG5 ht5 hT5 s6 s56 s5 s4 hT4 hu4 ht4 sC sD sA hcA hBA hxA sB hl7 e67 hp7 hs7 hil
    refine ⟨_, rfl, _, rfl, c, n, vs, bs, rfl, hcC, hBC, hn1, by omega, by omega, hbk, fun q8 H8 hq0 s8 hq8 => ?_⟩
    refine ⟨_, rfl, q8, _, rfl, .inl (SqL.of hq8), _, rfl, _, _, rfl, rfl, rfl, _, rfl, iteNS ?_ ?_⟩
    · rw [nats_len, dif_len]
      congr 1
      omega
    refine ⟨_, rfl, q8, (difL n bs).map fun x => ((x : Nat) : Int), rfl, SqL.of (by rw [← nats_ints]; exact hq8), ?_⟩
    refine ⟨_, rfl, c, rfl, ⟨_, SqL.of (s8 _ _ hcC)⟩, comp_list (K := K) (xs := vs) (fun i zs H9 => H9 = H8 ∧ zs = (((bs.take i).map fun b => b.length * (b.length - 1)).map fun x => ((x : Nat) : Int)).map V.int) ⟨rfl, rfl⟩ (fun i zs H9 _ ⟨e, _⟩ => SqL.of (e ▸ s8 _ _ hcC)) ?_ ?_⟩
    · rintro i v zs H9 N hi ⟨rfl, rfl⟩ nx
      obtain ⟨ab, b, rfl, hb, hab⟩ := (hBC.same s8).get hi
      have hb13 := (hbk b (List.mem_of_getElem? hb)).len
      refine ⟨Weak.set (by intro v z; cases z), ⟨_, rfl, ab, _, rfl, .inl (SqL.of hab), _, rfl, ab, _, rfl, .inl (SqL.of hab), _, _, rfl, rfl, _, _, rfl, rfl, .inl ⟨by rw [nats_len]; omega, by rw [nats_len]; omega⟩, ?_, nx _ _ ⟨rfl, ?_⟩⟩⟩
      · rw [List.length_map, List.length_map, List.length_map, List.length_take]
        exact Nat.lt_of_le_of_lt (show min i bs.length ≤ 3 by omega) (by decide)
      · rw [nats_len, take_snoc hb, List.map_append, List.map_append, List.map_append]
        dsimp only
        rw [sq_int]
        rfl
    rintro zs H9 ⟨rfl, rfl⟩
    rw [hBC.len, List.take_length]
    refine ⟨by rw [List.length_map, List.length_map, List.length_map]; exact Nat.le_trans (show bs.length ≤ 3 by omega) (by decide), fun r hr' => ⟨r, _, rfl, SqL.of upd_same, rfl, _, rfl, iteNS ?_ ?_⟩⟩
    · rw [sum_ints, sum_ints, dif_sums hbk]
    have w9 := same_new (o := .lst ((((bs.map fun b => b.length * (b.length - 1)).map fun x => ((x : Nat) : Int))).map V.int)) hr'
    have sE := s8.trans w9
    have hqE := w9 _ _ hq8
    generalize L2.upd H9 r (.lst ((((bs.map fun b => b.length * (b.length - 1)).map fun x => ((x : Nat) : Int))).map V.int)) = HE at sE hqE ⊢
    have ht4E := sE _ _ ht4C
    have hu4E := sE _ _ hu4C
    have hT4E := hT4C.sm sE
    have hcE := sE _ _ hcC
    have hBE := hBC.same sE
    have hxE := sE _ _ hxC
    clear w9 hr' s8 hq8 ht4C hu4C hT4C hcC hBC hxC
    refine ⟨_, rfl, _, rfl, t4, _, 1, .ref u4, rfl, rfl, SqT.of ht4E, rfl, _, rfl, u4, q8, n, us4, _, difL n bs, rfl, hu4E, hT4E, hqE, hn1, by omega, by omega, fun a' b' hab hbn => ?_, fun HF sF2 => ⟨true, rfl, iteF ?_⟩⟩
    · obtain ⟨h1, h2⟩ := pair_dif hn1 hab hbn hbk
      refine ⟨?_, ?_⟩
      · rw [dif_get (by omega), show 1 + (b' - a' - 1) = b' - a' by omega, h1]
      · rw [dif_get (by omega), show 1 + (n - (b' - a') - 1) = n - (b' - a') by omega, ← h2]
    have ht4F := sF2 _ _ ht4E
    have hu4F := sF2 _ _ hu4E
    have hT4F := hT4E.sm sF2
    have hcF := sF2 _ _ hcE
    have hBF := hBE.same sF2
    have hxF := sF2 _ _ hxE
    have hqF := sF2 _ _ hqE
    clear ht4E hu4E hT4E hcE hBE hxE hqE
    refine ⟨_, rfl, c, _, rfl, .inl (SqL.of hcF), _, rfl, ?_⟩
    rw [hBF.len]
    refine ⟨by omega, by omega, ?_⟩
    rw [Int.toNat_natCast]
    refine comp_rng (lo := 0) (n := bs.length) (fun i ys H3 => Same HF H3 ∧ ∃ es : List (List Nat), BlAt H3 ys es ∧ es.length = i ∧ ∀ k, k < i → ∃ b e y, bs[k]? = some b ∧ es[k]? = some e ∧ e.Perm (mvd n y 1 b)) ⟨Same.refl _, [], trivial, rfl, nofun⟩ ?_ ?_
    · rintro i ys H3 N hi ⟨s3, es, hE, hel, hes⟩ nx
      rw [Int.zero_add]
      have gb : vs[i]? = some (vs[i]'(by rw [hBF.len]; exact hi)) := List.getElem?_eq_getElem _
      obtain ⟨ab, b, eab, hb, hab⟩ := (hBF.same s3).get gb
      have hbb' := hbk b (List.mem_of_getElem? hb)
      obtain ⟨yi, ei, pi, pi2⟩ := g (5 + i % 2) (by omega)
      obtain ⟨yk, hyk, hyk2⟩ : ∃ yk : Nat, yi / (1 + ((i : Nat) : Int)) = ((yk : Nat) : Int) ∧ yk ≤ 2000000000 := by
        have h1 : 0 ≤ yi / (1 + ((i : Nat) : Int)) := Int.ediv_nonneg pi (by omega)
        have h2 : yi / (1 + ((i : Nat) : Int)) ≤ yi := Int.ediv_le_self _ pi
        exact ⟨(yi / (1 + ((i : Nat) : Int))).toNat, by omega, by omega⟩
      refine ⟨Weak.set (by intro v z; cases z), ⟨_, rfl, _, rfl, c, _, _, _, rfl, rfl, SqL.of (s3 _ _ hcF), atI_nat gb, _, rfl, _, rfl, _, rfl, _, _, rfl, rfl, (by decide : (0 : Int) < 2), _, _, rfl, rfl, lx, _, _, .int yi, rfl, rfl, SqL.of (s3 _ _ hxF), ei, _, rfl, _, _, rfl, rfl, _, _, rfl, rfl, ⟨by omega, by omega⟩, ?_⟩⟩
      refine ⟨ab, b, n, yk, 1, ?_, .inl hab, hn1, by omega, hyk2, by decide, hbb', fun l4 H4 hl4 s4 hl4' => ?_⟩
      · show [vs[i]'_, _, V.int (yi / (1 + ((i : Nat) : Int))), _] = _
        rw [eab, hyk]
        rfl
      refine ⟨l4, _, rfl, SqL.of hl4', fun l5 hl5 => ⟨?_, nx _ _ ⟨s3.trans (s4.trans (same_new hl5)), es ++ [(mvd n yk 1 b).reverse], ((hE.same s4).same (same_new hl5)).snoc ?_, by rw [List.length_append, hel]; rfl, fun k hk => ?_⟩⟩⟩
      · rw [hE.len, hel]
        exact Nat.lt_of_lt_of_le (show i < 4 by omega) (by decide)
      · rw [upd_same]
        unfold nats
        rw [List.map_reverse]
      · by_cases hki : k < i
        · obtain ⟨b1, e1, y1, h1, h2, h3⟩ := hes k hki
          exact ⟨b1, e1, y1, h1, by rw [List.getElem?_append_left (by omega)]; exact h2, h3⟩
        · have : k = i := by omega
          subst this
          exact ⟨b, _, yk, hb, by rw [List.getElem?_append_right (by omega), hel]; simp, List.reverse_perm _⟩
    rintro os H3 ⟨s3, es, hE, hel, hes⟩
    have hM : Mvd n bs es := fun k => by
      by_cases hk : k < bs.length
      · obtain ⟨b, e, y, h1, h2, h3⟩ := hes k hk
        exact .inl ⟨b, e, y, h1, h2, h3⟩
      · exact .inr ⟨List.getElem?_eq_none (by omega), List.getElem?_eq_none (by omega)⟩
    refine ⟨by rw [hE.len]; exact Nat.le_trans (show es.length ≤ 3 by omega) (by decide), fun o ho => ?_⟩
    have w1 := same_new (o := .lst os) ho
    have hoG : L2.upd H3 o (.lst os) o = some (.lst os) := upd_same
    have hEG := hE.same w1
    have sG := s3.trans w1
    dsimp only [gName]
    generalize L2.upd H3 o (.lst os) = HG at hoG hEG sG ⊢
    have ht4G := sG _ _ ht4F
    have hu4G := sG _ _ hu4F
    have hT4G := hT4F.sm sG
    have hcG := sG _ _ hcF
    have hBG := hBF.same sG
    have hxG := sG _ _ hxF
    have hqG := sG _ _ hqF
    clear ht4F hu4F hT4F hcF hBF hxF hqF w1 ho hE
    refine ⟨_, rfl, _, rfl, _, rfl, c, o, n, vs, os, bs, es, rfl, hcG, hBG, hoG, hEG, hn1, by omega, by omega, by rw [hel]; omega, hbk, mvd_blks hn1 hM hbk, tD_congr fun d hd => mvd_tD hn1 hd hM hbk, mvd_dev hn1 hM, fun HI sI => ⟨true, rfl, iteF ?_⟩⟩
    refine ⟨_, rfl, _, rfl, _, rfl, c, vs, rfl, SqL.of (sI _ _ hcG), fun rv hrv => ?_⟩
    have wI := same_new (o := .lst vs.reverse) hrv
    refine ⟨c, rv, n, vs, vs.reverse, bs, bs.reverse, rfl, wI _ _ (sI _ _ hcG), (hBG.same sI).same wI, upd_same, E1.BlAt.rev ((hBG.same sI).same wI), hn1, by omega, by omega, by rw [List.length_reverse]; omega, hbk, fun b hb => hbk b (List.mem_reverse.mp hb), tD_congr fun d _ => rev_tD bs, ?_, fun HJ sJ => ⟨true, rfl, iteF ?_⟩⟩
    · unfold dev
      exact List.Perm.flatMap_right _ (List.reverse_perm bs)
    have sK := sI.trans (wI.trans sJ)
    have ht4K := sK _ _ ht4G
    have hu4K := sK _ _ hu4G
    have hT4K := hT4G.sm sK
    have hcK := sK _ _ hcG
    have hBK := hBG.same sK
    have hxK := sK _ _ hxG
    have hqK := sK _ _ hqG
    clear ht4G hu4G hT4G hcG hBG hxG hqG wI hrv hEG hoG
    refine ⟨_, rfl, _, _, rfl, rfl, _, _, rfl, ⟨by decide, by decide, by omega, by omega⟩, ?_⟩
    rw [show (((n : Nat) : Int) + 1 - 1).toNat = n by omega]
    refine comp_rng (lo := 1) (n := n) (fun i ys H3 => Same HJ H3 ∧ ∃ L : List Nat, ys = nats L ∧ L.length ≤ i ∧ (∀ x ∈ L, 1 ≤ x ∧ x ≤ n ∧ Nat.gcd x n = 1) ∧ (0 < i → 0 < L.length)) ⟨Same.refl _, [], rfl, Nat.le_refl _, nofun, fun h => absurd h (Nat.lt_irrefl 0)⟩ ?_ ?_
    · rintro i ys H3 N hi ⟨s3, L, rfl, hLl, hL, hL0⟩ nx
      have ei : (1 : Int) + ((i : Nat) : Int) = ((1 + i : Nat) : Int) := by omega
      rw [ei]
      refine ⟨Weak.set (by intro v z; cases z), ⟨_, rfl, _, rfl, 1 + i, n, rfl, by omega, by omega, fun H4 s4 => ?_⟩⟩
      refine ⟨rfl, _, rfl, ?_⟩
      by_cases hg : Nat.gcd (1 + i) n = 1
      · refine ifT (congrArg (fun x : Nat => V.int (x : Int)) hg) ⟨_, rfl, ?_, nx _ _ ⟨s3.trans s4, L ++ [1 + i], by rw [nats_snoc], by rw [List.length_append]; exact Nat.succ_le_succ hLl, fun x hx => ?_, fun _ => by rw [List.length_append]; exact Nat.succ_pos _⟩⟩
        · rw [nats_len]
          exact Nat.lt_of_le_of_lt hLl (Nat.lt_of_lt_of_le (show i < 14 by omega) (by decide))
        · rcases List.mem_append.mp hx with hx | hx
          · exact hL x hx
          · rw [List.mem_singleton] at hx
            subst hx
            exact ⟨by omega, by omega, hg⟩
      · refine ifF (fun z => hg (by injection z with z; exact Int.ofNat.inj z)) (nx _ _ ⟨s3.trans s4, L, rfl, by omega, hL, fun _ => ?_⟩)
        by_cases h0 : i = 0
        · subst h0
          exact absurd (Nat.gcd_one_left n) hg
        · exact hL0 (by omega)
    rintro ys H3 ⟨s3, L, rfl, hLl, hL, hL0⟩
    have hL0 := hL0 hn1
    refine ⟨by rw [nats_len]; exact Nat.le_trans hLl (Nat.le_trans hn13 (by decide)), fun e he => ?_⟩
    have w1 := same_new (o := .lst (nats L)) he
    have heM : L2.upd H3 e (.lst (nats L)) e = some (.lst (nats L)) := upd_same
    have sM := s3.trans w1
    dsimp only [gName]
    generalize L2.upd H3 e (.lst (nats L)) = HM at heM sM ⊢
    have ht4M := sM _ _ ht4K
    have hu4M := sM _ _ hu4K
    have hT4M := hT4K.sm sM
    have hcM := sM _ _ hcK
    have hBM := hBK.same sM
    have hxM := sM _ _ hxK
    have hqM := sM _ _ hqK
    clear ht4K hu4K hT4K hcK hBK hxK hqK w1 he
    refine ⟨_, rfl, _, rfl, lx, _, 7, .int y7, rfl, rfl, SqL.of hxM, e7, _, rfl, e, _, rfl, .inl (SqL.of heM), _, _, rfl, rfl, by rw [nats_len]; omega, ?_⟩
    obtain ⟨k, hk, hkl⟩ : ∃ k : Nat, y7 % (((nats L).length : Nat) : Int) = ((k : Nat) : Int) ∧ k < L.length := by
      rw [nats_len]
      have := m0 y7 ((L.length : Nat) : Int) (by omega)
      exact ⟨(y7 % ((L.length : Nat) : Int)).toNat, by omega, by omega⟩
    dsimp only
    rw [hk]
    obtain ⟨hm1, hmn, hgc⟩ := hL L[k] (List.getElem_mem hkl)
    have gk : (nats L)[k]? = some (.int ((L[k] : Nat) : Int)) := by
      unfold nats
      rw [List.getElem?_map, List.getElem?_eq_getElem hkl]
      rfl
    refine ⟨e, _, _, _, rfl, rfl, SqL.of heM, atI_nat gk, ?_⟩
    generalize L[k] = m at hm1 hmn hgc gk ⊢
    clear gk hkl hk heM
    refine ⟨_, rfl, c, rfl, ⟨_, SqL.of hcM⟩, comp_list (K := K) (xs := vs) (fun i zs H9 => Same HM H9 ∧ BlAt H9 zs ((bs.take i).map (mvd n 0 m))) ⟨Same.refl _, trivial⟩ (fun i zs H9 _ ⟨s9, _⟩ => SqL.of (s9 _ _ hcM)) ?_ ?_⟩
    · rintro i v zs H9 N hi ⟨s9, hZ⟩ nx
      obtain ⟨ab, b, rfl, hb, hab⟩ := (hBM.same s9).get hi
      refine ⟨Weak.set (by intro v z; cases z), ⟨_, rfl, _, rfl, _, rfl, ab, b, n, 0, m, rfl, .inl hab, hn1, by omega, by omega, by omega, hbk b (List.mem_of_getElem? hb), fun l4 H4 hl4 s4 hl4' => ⟨?_, nx _ _ ⟨s9.trans s4, ?_⟩⟩⟩⟩
      · rw [hZ.len, List.length_map, List.length_take]
        exact Nat.lt_of_le_of_lt (show min i bs.length ≤ 3 by omega) (by decide)
      · rw [take_snoc hb, List.map_append]
        exact (hZ.same s4).snoc hl4'
    rintro ps H9 ⟨s9, hZ⟩
    rw [hBM.len, List.take_length] at hZ
    refine ⟨by rw [hZ.len, List.length_map]; exact Nat.le_trans (show bs.length ≤ 3 by omega) (by decide), fun pp hpp => ?_⟩
    have w1 := same_new (o := .lst ps) hpp
    have hpO : L2.upd H9 pp (.lst ps) pp = some (.lst ps) := upd_same
    have hZO := hZ.same w1
    have sO := s9.trans w1
    dsimp only [gName]
    generalize L2.upd H9 pp (.lst ps) = HO at hpO hZO sO ⊢
    have ht4O := sO _ _ ht4M
    have hu4O := sO _ _ hu4M
    have hT4O := hT4M.sm sO
    have hqO := sO _ _ hqM
    clear ht4M hu4M hT4M hcM hBM hxM hqM w1 hpp hZ
    have hpk : ∀ b ∈ bs.map (mvd n 0 m), Blk n b := fun b hb => by
      obtain ⟨b', hb', rfl⟩ := List.mem_map.mp hb
      exact mvd_blk hn1 hgc (hbk b' hb')
    refine ⟨_, rfl, _, rfl, pp, n, ps, _, rfl, hpO, hZO, hn1, by omega, by rw [List.length_map]; omega, hpk, fun th HP hth0 sP hth => ?_⟩
    have ht4P := sP _ _ ht4O
    have hu4P := sP _ _ hu4O
    have hT4P := hT4O.sm sP
    have hqP := sP _ _ hqO
    have hpP := sP _ _ hpO
    have hZP := hZO.same sP
    clear ht4O hu4O hT4O hqO hpO hZO
    refine ⟨_, rfl, _, _, rfl, ⟨by decide, by decide, by omega, by omega⟩, ?_⟩
    rw [show (((n : Nat) : Int) - 1).toNat = n - 1 by omega]
    refine comp_rng (lo := 1) (n := n - 1) (fun i ys H3 => H3 = HP ∧ ys = (List.replicate i true).map V.bl) ⟨rfl, rfl⟩ ?_ ?_
    · rintro i ys H3 N hi ⟨rfl, rfl⟩ nx
      have ei : (1 : Int) + ((i : Nat) : Int) = ((1 + i : Nat) : Int) := by omega
      rw [ei]
      have hmd : 1 ≤ m * (1 + i) % n := by
        rcases Nat.eq_zero_or_pos (m * (1 + i) % n) with z | z
        · exfalso
          have := mul_inj (x := 1 + i) (y := 0) hgc (by omega) (by omega) (by rw [z, Nat.mul_zero, Nat.zero_mod])
          omega
        · exact z
      have hmn2 : m * (1 + i) % n < n := Nat.mod_lt _ hn1
      have e1 : ((m : Nat) : Int) * ((1 + i : Nat) : Int) % ((n : Nat) : Int) - 1 = ((m * (1 + i) % n - 1 : Nat) : Int) := by
        rw [← Int.natCast_mul, ← Int.natCast_emod]
        omega
      have g1 : (nats (difL n (bs.map (mvd n 0 m))))[m * (1 + i) % n - 1]? = some (.int ((tD n bs (1 + i) : Nat) : Int)) := by
        unfold nats
        rw [List.getElem?_map, dif_get (by omega), show 1 + (m * (1 + i) % n - 1) = m * (1 + i) % n by omega, tD_mul hn1 hgc (by omega) hbk]
        rfl
      have g2 : (nats (difL n bs))[i]? = some (.int ((tD n bs (1 + i) : Nat) : Int)) := by
        unfold nats
        rw [List.getElem?_map, dif_get (by omega)]
        rfl
      have e2 : ((1 + i : Nat) : Int) - 1 = ((i : Nat) : Int) := by omega
      refine ⟨Weak.set (by intro v z; cases z), ⟨_, rfl, _, rfl, _, rfl, _, _, rfl, rfl, .inl ⟨by omega, by omega⟩, _, rfl, _, _, rfl, rfl, by omega, _, _, rfl, rfl, th, _, _, .int ((tD n bs (1 + i) : Nat) : Int), rfl, rfl, SqL.of hth, by rw [e1]; exact atI_nat g1, _, rfl, _, rfl, _, _, rfl, rfl, q8, _, _, .int ((tD n bs (1 + i) : Nat) : Int), rfl, rfl, SqL.of hqP, by rw [e2]; exact atI_nat g2, rfl, ?_, nx _ _ ⟨rfl, ?_⟩⟩⟩
      · rw [List.length_map, List.length_replicate]
        exact Nat.lt_of_lt_of_le (show i < 14 by omega) (by decide)
      · rw [decide_eq_true rfl, List.replicate_succ', List.map_append]
        rfl
    rintro ys H3 ⟨rfl, rfl⟩
    refine ⟨by rw [List.length_map, List.length_replicate]; exact Nat.le_trans (show n - 1 ≤ 14 by omega) (by decide), fun r hr' => ⟨r, _, rfl, SqL.of upd_same, ?_⟩⟩
    rw [show (List.replicate (n - 1) true).all id = true by simp]
    refine ⟨true, rfl, iteF ?_⟩
    have wR := same_new (o := .lst ((List.replicate (n - 1) true).map V.bl)) hr'
    generalize L2.upd H3 r (.lst ((List.replicate (n - 1) true).map V.bl)) = HR at wR ⊢
    refine ⟨_, rfl, ((n : Nat) : Int), rfl, by omega, by omega, ?_⟩
    rw [Int.toNat_natCast]
    refine comp_rng (lo := 0) (n := n) (fun i ys H4 => H4 = HR ∧ ys = nats ((List.range i).map fun x => m * x % n)) ⟨rfl, rfl⟩ ?_ ?_
    · rintro i ys H4 N hi ⟨rfl, rfl⟩ nx
      rw [Int.zero_add]
      refine ⟨Weak.set (by intro v z; cases z), ⟨_, rfl, _, rfl, _, _, rfl, rfl, .inl ⟨by omega, by omega⟩, _, rfl, _, _, rfl, rfl, by omega, ?_, nx _ _ ⟨rfl, ?_⟩⟩⟩
      · rw [nats_len, List.length_map, List.length_range]
        exact Nat.lt_of_lt_of_le (show i < 14 by omega) (by decide)
      · dsimp only
        rw [← Int.natCast_mul, ← Int.natCast_emod, List.range_succ, List.map_append, List.map_cons, List.map_nil, nats_snoc]
    rintro ys H4 ⟨rfl, rfl⟩
    refine ⟨by rw [nats_len, List.length_map, List.length_range]; exact Nat.le_trans (show n ≤ 14 by omega) (by decide), fun rw' hrw => ?_⟩
    have w1 := same_new (o := .lst (nats ((List.range n).map fun x => m * x % n))) hrw
    have hrS : L2.upd H4 rw' (.lst (nats ((List.range n).map fun x => m * x % n))) rw' = some (.lst (nats (rowM n m))) := upd_same
    have sS := wR.trans w1
    dsimp only [gName]
    generalize L2.upd H4 rw' (.lst (nats ((List.range n).map fun x => m * x % n))) = HS at hrS sS ⊢
    refine ⟨_, rfl, _, rfl, pp, n, ps, _, rfl, sS _ _ hpP, hZP.same sS, hn1, by omega, by rw [List.length_map]; omega, hpk, fun tX uX usX HX sX htX huX hTX => ?_⟩
    have hdl2 : (dev n (bs.map (mvd n 0 m))).length < 64 := by rw [dev_len, List.length_map]; omega
    refine ⟨tX, n, _, rfl, ⟨uX, usX, htX, huX, hTX, by omega⟩, hdl2, fun uY cY HY sY hLY hpY hsY => ?_⟩
    have sT := sS.trans (sX.trans sY)
    refine ⟨_, rfl, _, rfl, t4, rw', n, _, rowM n m, rfl, ⟨u4, us4, sT _ _ ht4P, sT _ _ hu4P, hT4P.sm sT, by omega⟩, (sX.trans sY) _ _ hrS, mul_perm hn1 hgc, by omega, fun b hb => (dev_bls b hb).blk, fun uZ HZ sZ hLZ => ?_⟩
    refine ⟨uZ, n, _, rfl, hLZ, by rw [List.length_map]; exact hdl, fun uW cW HW sW hLW hpW hsW => ?_⟩
    refine ⟨dLay n cY, dLay n cW, (hLY.sm (sZ.trans sW)).isD, hLW.isD, shaped_lay _ _, shaped_lay _ _, ?_⟩
    cases lex_uniq hpY hsY (hpW.trans (dev_mul hn1 hgc hbk)) hsW
    show Q (.bl (PyData.eqv (dLay n cY) (dLay n cY))) HW
    rw [eqv_lay, decide_eq_true rfl]
    exact fin _
end
end E1
namespace E1
open PySem L2
theorem all_mk {l : PySem.W.OpenLaw} {w : World} {K : PySem.W.Frag} {h : Heap} {mg : Str → Option Value} {fa : Addr} (X : K.In h) (G : h.Ns mainGlobals mg) (hfa : mg "law" = some (.ref fa))
    (N : PySem.W.nsIn K mainGlobals "isinstance" = some none ∧ PySem.W.nsIn K mainGlobals "int" = some none ∧ PySem.W.nsIn K mainGlobals "bool" = some none ∧ PySem.W.nsIn K mainGlobals "abs" = some none ∧ PySem.W.nsIn K mainGlobals "len" = some none ∧ PySem.W.nsIn K mainGlobals "range" = some none ∧ PySem.W.nsIn K mainGlobals "tuple" = some none ∧ PySem.W.nsIn K mainGlobals "list" = some none ∧ PySem.W.nsIn K mainGlobals "sorted" = some none ∧ PySem.W.nsIn K mainGlobals "all" = some none ∧ PySem.W.nsIn K mainGlobals "set" = some none ∧ PySem.W.nsIn K mainGlobals "zip" = some none ∧ PySem.W.nsIn K mainGlobals "enumerate" = some none ∧ PySem.W.nsIn K mainGlobals "any" = some none ∧ PySem.W.nsIn K mainGlobals "max" = some none ∧ PySem.W.nsIn K mainGlobals "min" = some none ∧ PySem.W.nsIn K mainGlobals "str" = some none ∧ PySem.W.nsIn K mainGlobals "sum" = some none)
    (CMostPoints : ∃ t, PySem.W.nsIn K mainGlobals "MOST_POINTS" = some (some (.int 60 t)))
    (CMostBlocks : ∃ t, PySem.W.nsIn K mainGlobals "MOST_BLOCKS" = some (some (.int 200 t)))
    (AWhole : At K "is_whole" sWhole) (AIsBelow : At K "is_below" sIsBelow) (AIsPointsNumber : At K "is_points_number" sIsPointsNumber) (ASortedLayout : At K "sorted_layout" sSortedLayout) (ARenamed : At K "renamed" sRenamed) (ABlockRenamed : At K "block_renamed" sBlockRenamed) (AInOrder : At K "in_order" sInOrder) (AIsRow : At K "is_row" sIsRow) (AAreUnlikePoints : At K "are_unlike_points" sAreUnlikePoints) (ADeveloped : At K "developed" sDeveloped) (AAllTurned : At K "all_turned" sAllTurned) (ATurned : At K "turned" sTurned) (AMustBeBases : At K "must_be_bases" sMustBeBases) (ADifferences : At K "differences" sDifferences) (ATurnsTold : At K "turns_told" sTurnsTold) (ATimesOfEach : At K "times_of_each" sTimesOfEach) (ACell : At K "_law_cell" sCell) (ALNumbers : At K "_law_numbers" sLNumbers) (ALBase : At K "_law_base" sLBase) (ALGcd : At K "_law_gcd" sLGcd) (ALMoved : At K "_law_moved" sLMoved) (ALDevelopedAgain : At K "_law_developed_again" sLDevelopedAgain) (ALPairsRight : At K "_law_pairs_right" sLPairsRight) (ALAlike : At K "_law_alike" sLAlike) (ALaw : At K "law" sLaw) :
    ∃ fd : FuncData, (∀ (s : Shared) (v : Value), BindsTo s fd ⟨[v], []⟩ [("_law_script", v)]) ∧ ∀ base : Heap, K.In base → base.Ns mainGlobals mg → FnOk l.prog w K mg base CX0 20 fa fd ["_law_script"] (spLaw K) := by
  obtain ⟨n0, n1, n2, n3, n4, n5, n6, n7, n8, n9, n10, n11, n12, n13, n14, n15, n16, n17⟩ := N
  have T : TxtB mg := ⟨PySem.W.mg_none_of X G n0, PySem.W.mg_none_of X G n1, PySem.W.mg_none_of X G n2, PySem.W.mg_none_of X G n3, PySem.W.mg_none_of X G n4, PySem.W.mg_none_of X G n5, PySem.W.mg_none_of X G n6, PySem.W.mg_none_of X G n7, PySem.W.mg_none_of X G n8, PySem.W.mg_none_of X G n9, PySem.W.mg_none_of X G n10, PySem.W.mg_none_of X G n11, PySem.W.mg_none_of X G n12, PySem.W.mg_none_of X G n13, PySem.W.mg_none_of X G n14, PySem.W.mg_none_of X G n15, PySem.W.mg_none_of X G n16, PySem.W.mg_none_of X G n17⟩
  obtain ⟨tMostPoints, cMostPoints⟩ := CMostPoints
  have mMostPoints := PySem.W.mg_of X G cMostPoints
  obtain ⟨tMostBlocks, cMostBlocks⟩ := CMostBlocks
  have mMostBlocks := PySem.W.mg_of X G cMostBlocks
  obtain ⟨fWhole, fdWhole, aWhole, FWhole⟩ := AWhole
  obtain ⟨fIsBelow, fdIsBelow, aIsBelow, FIsBelow⟩ := AIsBelow
  obtain ⟨fIsPointsNumber, fdIsPointsNumber, aIsPointsNumber, FIsPointsNumber⟩ := AIsPointsNumber
  obtain ⟨fSortedLayout, fdSortedLayout, aSortedLayout, FSortedLayout⟩ := ASortedLayout
  obtain ⟨fRenamed, fdRenamed, aRenamed, FRenamed⟩ := ARenamed
  obtain ⟨fBlockRenamed, fdBlockRenamed, aBlockRenamed, FBlockRenamed⟩ := ABlockRenamed
  obtain ⟨fInOrder, fdInOrder, aInOrder, FInOrder⟩ := AInOrder
  obtain ⟨fIsRow, fdIsRow, aIsRow, FIsRow⟩ := AIsRow
  obtain ⟨fAreUnlikePoints, fdAreUnlikePoints, aAreUnlikePoints, FAreUnlikePoints⟩ := AAreUnlikePoints
  obtain ⟨fDeveloped, fdDeveloped, aDeveloped, FDeveloped⟩ := ADeveloped
  obtain ⟨fAllTurned, fdAllTurned, aAllTurned, FAllTurned⟩ := AAllTurned
  obtain ⟨fTurned, fdTurned, aTurned, FTurned⟩ := ATurned
  obtain ⟨fMustBeBases, fdMustBeBases, aMustBeBases, FMustBeBases⟩ := AMustBeBases
  obtain ⟨fDifferences, fdDifferences, aDifferences, FDifferences⟩ := ADifferences
  obtain ⟨fTurnsTold, fdTurnsTold, aTurnsTold, FTurnsTold⟩ := ATurnsTold
  obtain ⟨fTimesOfEach, fdTimesOfEach, aTimesOfEach, FTimesOfEach⟩ := ATimesOfEach
  obtain ⟨fCell, fdCell, aCell, FCell⟩ := ACell
  obtain ⟨fLNumbers, fdLNumbers, aLNumbers, FLNumbers⟩ := ALNumbers
  obtain ⟨fLBase, fdLBase, aLBase, FLBase⟩ := ALBase
  obtain ⟨fLGcd, fdLGcd, aLGcd, FLGcd⟩ := ALGcd
  obtain ⟨fLMoved, fdLMoved, aLMoved, FLMoved⟩ := ALMoved
  obtain ⟨fLDevelopedAgain, fdLDevelopedAgain, aLDevelopedAgain, FLDevelopedAgain⟩ := ALDevelopedAgain
  obtain ⟨fLPairsRight, fdLPairsRight, aLPairsRight, FLPairsRight⟩ := ALPairsRight
  obtain ⟨fLAlike, fdLAlike, aLAlike, FLAlike⟩ := ALAlike
  obtain ⟨fLaw, fdLaw, aLaw, FLaw⟩ := ALaw
  have e := hfa.symm.trans (PySem.W.mg_of X G aLaw)
  cases e
  have bWhole := FWhole.binds (ps := ["thing"]) fun _ _ _ _ _ _ us hl => match us, hl with | [_], _ => rfl
  have mWhole := PySem.W.mg_of X G aWhole
  have bIsBelow := FIsBelow.binds (ps := ["thing", "many"]) fun _ _ _ _ _ _ us hl => match us, hl with | [_, _], _ => rfl
  have mIsBelow := PySem.W.mg_of X G aIsBelow
  have bIsPointsNumber := FIsPointsNumber.binds (ps := ["thing"]) fun _ _ _ _ _ _ us hl => match us, hl with | [_], _ => rfl
  have mIsPointsNumber := PySem.W.mg_of X G aIsPointsNumber
  have bSortedLayout := FSortedLayout.binds (ps := ["M"]) fun _ _ _ _ _ _ us hl => match us, hl with | [_], _ => rfl
  have mSortedLayout := PySem.W.mg_of X G aSortedLayout
  have bRenamed := FRenamed.binds (ps := ["M", "row"]) fun _ _ _ _ _ _ us hl => match us, hl with | [_, _], _ => rfl
  have mRenamed := PySem.W.mg_of X G aRenamed
  have bBlockRenamed := FBlockRenamed.binds (ps := ["block", "row"]) fun _ _ _ _ _ _ us hl => match us, hl with | [_, _], _ => rfl
  have mBlockRenamed := PySem.W.mg_of X G aBlockRenamed
  have bInOrder := FInOrder.binds (ps := ["block"]) fun _ _ _ _ _ _ us hl => match us, hl with | [_], _ => rfl
  have mInOrder := PySem.W.mg_of X G aInOrder
  have bIsRow := FIsRow.binds (ps := ["thing", "points"]) fun _ _ _ _ _ _ us hl => match us, hl with | [_, _], _ => rfl
  have mIsRow := PySem.W.mg_of X G aIsRow
  have bAreUnlikePoints := FAreUnlikePoints.binds (ps := ["things", "points"]) fun _ _ _ _ _ _ us hl => match us, hl with | [_, _], _ => rfl
  have mAreUnlikePoints := PySem.W.mg_of X G aAreUnlikePoints
  have bDeveloped := FDeveloped.binds (ps := ["n", "bases"]) fun _ _ _ _ _ _ us hl => match us, hl with | [_, _], _ => rfl
  have mDeveloped := PySem.W.mg_of X G aDeveloped
  have bAllTurned := FAllTurned.binds (ps := ["n", "block"]) fun _ _ _ _ _ _ us hl => match us, hl with | [_, _], _ => rfl
  have mAllTurned := PySem.W.mg_of X G aAllTurned
  have bTurned := FTurned.binds (ps := ["n", "block", "step"]) fun _ _ _ _ _ _ us hl => match us, hl with | [_, _, _], _ => rfl
  have mTurned := PySem.W.mg_of X G aTurned
  have bMustBeBases := FMustBeBases.binds (ps := ["n", "bases"]) fun _ _ _ _ _ _ us hl => match us, hl with | [_, _], _ => rfl
  have mMustBeBases := PySem.W.mg_of X G aMustBeBases
  have bDifferences := FDifferences.binds (ps := ["n", "bases"]) fun _ _ _ _ _ _ us hl => match us, hl with | [_, _], _ => rfl
  have mDifferences := PySem.W.mg_of X G aDifferences
  have bTurnsTold := FTurnsTold.binds (ps := ["M"]) fun _ _ _ _ _ _ us hl => match us, hl with | [_], _ => rfl
  have mTurnsTold := PySem.W.mg_of X G aTurnsTold
  have bTimesOfEach := FTimesOfEach.binds (ps := ["blocks"]) fun _ _ _ _ _ _ us hl => match us, hl with | [_], _ => rfl
  have mTimesOfEach := PySem.W.mg_of X G aTimesOfEach
  have bCell := FCell.binds (ps := ["_law_script", "_law_k"]) fun _ _ _ _ _ _ us hl => match us, hl with | [_, _], _ => rfl
  have mCell := PySem.W.mg_of X G aCell
  have bLNumbers := FLNumbers.binds (ps := ["_law_cell_here", "_law_many"]) fun _ _ _ _ _ _ us hl => match us, hl with | [_, _], _ => rfl
  have mLNumbers := PySem.W.mg_of X G aLNumbers
  have bLBase := FLBase.binds (ps := ["_law_n", "_law_x"]) fun _ _ _ _ _ _ us hl => match us, hl with | [_, _], _ => rfl
  have mLBase := PySem.W.mg_of X G aLBase
  have bLGcd := FLGcd.binds (ps := ["_law_one", "_law_other"]) fun _ _ _ _ _ _ us hl => match us, hl with | [_, _], _ => rfl
  have mLGcd := PySem.W.mg_of X G aLGcd
  have bLMoved := FLMoved.binds (ps := ["_law_base_here", "_law_n", "_law_by", "_law_times"]) fun _ _ _ _ _ _ us hl => match us, hl with | [_, _, _, _], _ => rfl
  have mLMoved := PySem.W.mg_of X G aLMoved
  have bLDevelopedAgain := FLDevelopedAgain.binds (ps := ["_law_n", "_law_told"]) fun _ _ _ _ _ _ us hl => match us, hl with | [_, _], _ => rfl
  have mLDevelopedAgain := PySem.W.mg_of X G aLDevelopedAgain
  have bLPairsRight := FLPairsRight.binds (ps := ["_law_n", "_law_blocks", "_law_counts"]) fun _ _ _ _ _ _ us hl => match us, hl with | [_, _, _], _ => rfl
  have mLPairsRight := PySem.W.mg_of X G aLPairsRight
  have bLAlike := FLAlike.binds (ps := ["_law_n", "_law_bases", "_law_other"]) fun _ _ _ _ _ _ us hl => match us, hl with | [_, _, _], _ => rfl
  have mLAlike := PySem.W.mg_of X G aLAlike
  refine ⟨fdLaw, ?_, fun base _ _ => ?_⟩
  · obtain ⟨oc, od, kV, doc, pm, an, cdv, ct, osl, rfl, lk, hcd⟩ := FLaw.ex
    exact fun s v => .of_eq rfl
  · have pN : Pm l.prog w K mg base CX0 1 "_law_numbers" ["_law_cell_here", "_law_many"] spNums := ⟨fLNumbers, fdLNumbers, mLNumbers, FLNumbers.kp, bLNumbers, ok_numbers FLNumbers T⟩
    have pC : Pm l.prog w K mg base CX0 1 "_law_cell" ["_law_script", "_law_k"] (spCell2 K) := ⟨fCell, fdCell, mCell, FCell.kp, bCell, ok_cell2 FCell T⟩
    have pO : Pm l.prog w K mg base CX0 1 "in_order" ["block"] spOrder := ⟨fInOrder, fdInOrder, mInOrder, FInOrder.kp, bInOrder, ok_order FInOrder T⟩
    have pTu : Pm l.prog w K mg base CX0 2 "turned" ["n", "block", "step"] spTurned := ⟨fTurned, fdTurned, mTurned, FTurned.kp, bTurned, ok_turned FTurned T pO⟩
    have pAT : Pm l.prog w K mg base CX0 3 "all_turned" ["n", "block"] spAllT := ⟨fAllTurned, fdAllTurned, mAllTurned, FAllTurned.kp, bAllTurned, ok_allT FAllTurned T pTu⟩
    have pTi : Pm l.prog w K mg base CX0 1 "times_of_each" ["blocks"] spTimes := ⟨fTimesOfEach, fdTimesOfEach, mTimesOfEach, FTimesOfEach.kp, bTimesOfEach, ok_times FTimesOfEach T⟩
    have pTT : Pm l.prog w K mg base CX0 4 "turns_told" ["M"] spTT := ⟨fTurnsTold, fdTurnsTold, mTurnsTold, FTurnsTold.kp, bTurnsTold, ok_tt FTurnsTold T pTi pTu pAT⟩
    have pW : Pm l.prog w K mg base CX0 1 "is_whole" ["thing"] (spWhole K) := ⟨fWhole, fdWhole, mWhole, FWhole.kp, bWhole, ok_whole FWhole T⟩
    have pBl : Pm l.prog w K mg base CX0 2 "is_below" ["thing", "many"] spBelow := ⟨fIsBelow, fdIsBelow, mIsBelow, FIsBelow.kp, bIsBelow, ok_below FIsBelow pW⟩
    have pPN : Pm l.prog w K mg base CX0 2 "is_points_number" ["thing"] spPN := ⟨fIsPointsNumber, fdIsPointsNumber, mIsPointsNumber, FIsPointsNumber.kp, bIsPointsNumber, ok_pn FIsPointsNumber mMostPoints pW⟩
    have pU : Pm l.prog w K mg base CX0 3 "are_unlike_points" ["things", "points"] spUnlike := ⟨fAreUnlikePoints, fdAreUnlikePoints, mAreUnlikePoints, FAreUnlikePoints.kp, bAreUnlikePoints, ok_unlike FAreUnlikePoints T pBl⟩
    have pMb : Pm l.prog w K mg base CX0 4 "must_be_bases" ["n", "bases"] spMustB := ⟨fMustBeBases, fdMustBeBases, mMustBeBases, FMustBeBases.kp, bMustBeBases, ok_mustB FMustBeBases T mMostBlocks pPN pU⟩
    have pD : Pm l.prog w K mg base CX0 5 "developed" ["n", "bases"] spDev := ⟨fDeveloped, fdDeveloped, mDeveloped, FDeveloped.kp, bDeveloped, ok_dev FDeveloped T pMb pAT⟩
    have pDf : Pm l.prog w K mg base CX0 5 "differences" ["n", "bases"] spDiff := ⟨fDifferences, fdDifferences, mDifferences, FDifferences.kp, bDifferences, ok_diff FDifferences T pMb⟩
    have pIR : Pm l.prog w K mg base CX0 4 "is_row" ["thing", "points"] spIsRow := ⟨fIsRow, fdIsRow, mIsRow, FIsRow.kp, bIsRow, ok_isrow FIsRow T pU⟩
    have pBn : Pm l.prog w K mg base CX0 2 "block_renamed" ["block", "row"] spBR := ⟨fBlockRenamed, fdBlockRenamed, mBlockRenamed, FBlockRenamed.kp, bBlockRenamed, ok_brn FBlockRenamed pO⟩
    have pRn : Pm l.prog w K mg base CX0 5 "renamed" ["M", "row"] spRn := ⟨fRenamed, fdRenamed, mRenamed, FRenamed.kp, bRenamed, ok_rn FRenamed T pIR pBn⟩
    have pSl : Pm l.prog w K mg base CX0 1 "sorted_layout" ["M"] spSl := ⟨fSortedLayout, fdSortedLayout, mSortedLayout, FSortedLayout.kp, bSortedLayout, ok_sl FSortedLayout T⟩
    have pB : Pm l.prog w K mg base CX0 1 "_law_base" ["_law_n", "_law_x"] spB40 := ⟨fLBase, fdLBase, mLBase, FLBase.kp, bLBase, ok_base40 FLBase T⟩
    have pG : Pm l.prog w K mg base CX0 1 "_law_gcd" ["_law_one", "_law_other"] spGcd := ⟨fLGcd, fdLGcd, mLGcd, FLGcd.kp, bLGcd, ok_gcd FLGcd T⟩
    have pMv : Pm l.prog w K mg base CX0 1 "_law_moved" ["_law_base_here", "_law_n", "_law_by", "_law_times"] spMvd := ⟨fLMoved, fdLMoved, mLMoved, FLMoved.kp, bLMoved, ok_mvd FLMoved T⟩
    have pAg : Pm l.prog w K mg base CX0 2 "_law_developed_again" ["_law_n", "_law_told"] spAgain := ⟨fLDevelopedAgain, fdLDevelopedAgain, mLDevelopedAgain, FLDevelopedAgain.kp, bLDevelopedAgain, ok_again FLDevelopedAgain T pMv⟩
    have pPr : Pm l.prog w K mg base CX0 1 "_law_pairs_right" ["_law_n", "_law_blocks", "_law_counts"] spPR := ⟨fLPairsRight, fdLPairsRight, mLPairsRight, FLPairsRight.kp, bLPairsRight, ok_pr FLPairsRight T⟩
    have pAl : Pm l.prog w K mg base CX0 6 "_law_alike" ["_law_n", "_law_bases", "_law_other"] spAlike := ⟨fLAlike, fdLAlike, mLAlike, FLAlike.kp, bLAlike, ok_alike FLAlike T pDf pD pSl pTT⟩
    exact ok_law FLaw T pC pN pB pD pTT pAg pDf pPr pMv pAl pG pRn pSl
end E1
def PySem.W.Fast.tw11764591927545094052 : Nat := 0
def PySem.W.Fast.tw12685836196094006238 : Nat := 0
def PySem.W.Fast.tw1278811010091908585 : Nat := 0
def PySem.W.Fast.tw13428301593512052081 : Nat := 0
def PySem.W.Fast.tw15256918959732895014 : Nat := 0
def PySem.W.Fast.tw15396870172064135969 : Nat := 0
def PySem.W.Fast.tw16802721565157353276 : Nat := 0
def PySem.W.Fast.tw17704524476332468791 : Nat := 0
def PySem.W.Fast.tw2561078531761221137 : Nat := 0
def PySem.W.Fast.tw264322610373483996 : Nat := 0
def PySem.W.Fast.tw6182530614016024423 : Nat := 0
def PySem.W.Fast.tw8370727335302320540 : Nat := 0
def PySem.W.Fast.tw9803040105254007192 : Nat := 0
open PySem PySem.W PyProof.Rows
set_option maxRecDepth 100000 in
set_option maxHeartbeats 0 in
theorem PySem.Challenge.cw_evenmeet_k40_whole_bases_taken_so_often_holds : PySem.Challenge.rw_evenmeet_k40_whole_bases_taken_so_often.Holds := by
  w_on; o_law; k_head; (case hw => w_witness2)
  k_fill
  refine E1.walk (l := PySem.Challenge.rw_evenmeet_k40_whole_bases_taken_so_often) (k := 20) ⟨rfl, by decide, by decide, rfl⟩ rfl rfl (fun w h Y => PySem.W.kIn_of Y) ?F
  case F =>
    intro w mg fa h KX G hmg
    have N : PySem.W.nsIn (L2.KOf KX) mainGlobals "isinstance" = some none ∧ PySem.W.nsIn (L2.KOf KX) mainGlobals "int" = some none ∧ PySem.W.nsIn (L2.KOf KX) mainGlobals "bool" = some none ∧ PySem.W.nsIn (L2.KOf KX) mainGlobals "abs" = some none ∧ PySem.W.nsIn (L2.KOf KX) mainGlobals "len" = some none ∧ PySem.W.nsIn (L2.KOf KX) mainGlobals "range" = some none ∧ PySem.W.nsIn (L2.KOf KX) mainGlobals "tuple" = some none ∧ PySem.W.nsIn (L2.KOf KX) mainGlobals "list" = some none ∧ PySem.W.nsIn (L2.KOf KX) mainGlobals "sorted" = some none ∧ PySem.W.nsIn (L2.KOf KX) mainGlobals "all" = some none ∧ PySem.W.nsIn (L2.KOf KX) mainGlobals "set" = some none ∧ PySem.W.nsIn (L2.KOf KX) mainGlobals "zip" = some none ∧ PySem.W.nsIn (L2.KOf KX) mainGlobals "enumerate" = some none ∧ PySem.W.nsIn (L2.KOf KX) mainGlobals "any" = some none ∧ PySem.W.nsIn (L2.KOf KX) mainGlobals "max" = some none ∧ PySem.W.nsIn (L2.KOf KX) mainGlobals "min" = some none ∧ PySem.W.nsIn (L2.KOf KX) mainGlobals "str" = some none ∧ PySem.W.nsIn (L2.KOf KX) mainGlobals "sum" = some none := by
      dsimp only [L2.KOf]
      refine' ⟨?z0, ?z1, ?z2, ?z3, ?z4, ?z5, ?z6, ?z7, ?z8, ?z9, ?z10, ?z11, ?z12, ?z13, ?z14, ?z15, ?z16, ?z17⟩
      (case z0 => k_is)
      (case z1 => k_is)
      (case z2 => k_is)
      (case z3 => k_is)
      (case z4 => k_is)
      (case z5 => k_is)
      (case z6 => k_is)
      (case z7 => k_is)
      (case z8 => k_is)
      (case z9 => k_is)
      (case z10 => k_is)
      (case z11 => k_is)
      (case z12 => k_is)
      (case z13 => k_is)
      (case z14 => k_is)
      (case z15 => k_is)
      (case z16 => k_is)
      (case z17 => k_is)
    have CMostPoints : ∃ t, PySem.W.nsIn (L2.KOf KX) mainGlobals "MOST_POINTS" = some (some (.int 60 t)) := by
      dsimp only [L2.KOf]
      refine' E1.cint_mk ?a
      (case a => k_is)
    have CMostBlocks : ∃ t, PySem.W.nsIn (L2.KOf KX) mainGlobals "MOST_BLOCKS" = some (some (.int 200 t)) := by
      dsimp only [L2.KOf]
      refine' E1.cint_mk ?a
      (case a => k_is)
    have AWhole : E1.At (L2.KOf KX) "is_whole" E1.sWhole := by
      dsimp only [L2.KOf]
      refine' E1.fn_mk ?a ?l ?c ?k
      (case a => k_is); (case l => k_is); (case c => k_is); (case k => k_is)
    have AIsBelow : E1.At (L2.KOf KX) "is_below" E1.sIsBelow := by
      dsimp only [L2.KOf]
      refine' E1.fn_mk ?a ?l ?c ?k
      (case a => k_is); (case l => k_is); (case c => k_is); (case k => k_is)
    have AIsPointsNumber : E1.At (L2.KOf KX) "is_points_number" E1.sIsPointsNumber := by
      dsimp only [L2.KOf]
      refine' E1.fn_mk ?a ?l ?c ?k
      (case a => k_is); (case l => k_is); (case c => k_is); (case k => k_is)
    have ASortedLayout : E1.At (L2.KOf KX) "sorted_layout" E1.sSortedLayout := by
      dsimp only [L2.KOf]
      refine' E1.fn_mk ?a ?l ?c ?k
      (case a => k_is); (case l => k_is); (case c => k_is); (case k => k_is)
    have ARenamed : E1.At (L2.KOf KX) "renamed" E1.sRenamed := by
      dsimp only [L2.KOf]
      refine' E1.fn_mk ?a ?l ?c ?k
      (case a => k_is); (case l => k_is); (case c => k_is); (case k => k_is)
    have ABlockRenamed : E1.At (L2.KOf KX) "block_renamed" E1.sBlockRenamed := by
      dsimp only [L2.KOf]
      refine' E1.fn_mk ?a ?l ?c ?k
      (case a => k_is); (case l => k_is); (case c => k_is); (case k => k_is)
    have AInOrder : E1.At (L2.KOf KX) "in_order" E1.sInOrder := by
      dsimp only [L2.KOf]
      refine' E1.fn_mk ?a ?l ?c ?k
      (case a => k_is); (case l => k_is); (case c => k_is); (case k => k_is)
    have AIsRow : E1.At (L2.KOf KX) "is_row" E1.sIsRow := by
      dsimp only [L2.KOf]
      refine' E1.fn_mk ?a ?l ?c ?k
      (case a => k_is); (case l => k_is); (case c => k_is); (case k => k_is)
    have AAreUnlikePoints : E1.At (L2.KOf KX) "are_unlike_points" E1.sAreUnlikePoints := by
      dsimp only [L2.KOf]
      refine' E1.fn_mk ?a ?l ?c ?k
      (case a => k_is); (case l => k_is); (case c => k_is); (case k => k_is)
    have ADeveloped : E1.At (L2.KOf KX) "developed" E1.sDeveloped := by
      dsimp only [L2.KOf]
      refine' E1.fn_mk ?a ?l ?c ?k
      (case a => k_is); (case l => k_is); (case c => k_is); (case k => k_is)
    have AAllTurned : E1.At (L2.KOf KX) "all_turned" E1.sAllTurned := by
      dsimp only [L2.KOf]
      refine' E1.fn_mk ?a ?l ?c ?k
      (case a => k_is); (case l => k_is); (case c => k_is); (case k => k_is)
    have ATurned : E1.At (L2.KOf KX) "turned" E1.sTurned := by
      dsimp only [L2.KOf]
      refine' E1.fn_mk ?a ?l ?c ?k
      (case a => k_is); (case l => k_is); (case c => k_is); (case k => k_is)
    have AMustBeBases : E1.At (L2.KOf KX) "must_be_bases" E1.sMustBeBases := by
      dsimp only [L2.KOf]
      refine' E1.fn_mk ?a ?l ?c ?k
      (case a => k_is); (case l => k_is); (case c => k_is); (case k => k_is)
    have ADifferences : E1.At (L2.KOf KX) "differences" E1.sDifferences := by
      dsimp only [L2.KOf]
      refine' E1.fn_mk ?a ?l ?c ?k
      (case a => k_is); (case l => k_is); (case c => k_is); (case k => k_is)
    have ATurnsTold : E1.At (L2.KOf KX) "turns_told" E1.sTurnsTold := by
      dsimp only [L2.KOf]
      refine' E1.fn_mk ?a ?l ?c ?k
      (case a => k_is); (case l => k_is); (case c => k_is); (case k => k_is)
    have ATimesOfEach : E1.At (L2.KOf KX) "times_of_each" E1.sTimesOfEach := by
      dsimp only [L2.KOf]
      refine' E1.fn_mk ?a ?l ?c ?k
      (case a => k_is); (case l => k_is); (case c => k_is); (case k => k_is)
    have ACell : E1.At (L2.KOf KX) "_law_cell" E1.sCell := by
      dsimp only [L2.KOf]
      refine' E1.fn_mk ?a ?l ?c ?k
      (case a => k_is); (case l => k_is); (case c => k_is); (case k => k_is)
    have ALNumbers : E1.At (L2.KOf KX) "_law_numbers" E1.sLNumbers := by
      dsimp only [L2.KOf]
      refine' E1.fn_mk ?a ?l ?c ?k
      (case a => k_is); (case l => k_is); (case c => k_is); (case k => k_is)
    have ALBase : E1.At (L2.KOf KX) "_law_base" E1.sLBase := by
      dsimp only [L2.KOf]
      refine' E1.fn_mk ?a ?l ?c ?k
      (case a => k_is); (case l => k_is); (case c => k_is); (case k => k_is)
    have ALGcd : E1.At (L2.KOf KX) "_law_gcd" E1.sLGcd := by
      dsimp only [L2.KOf]
      refine' E1.fn_mk ?a ?l ?c ?k
      (case a => k_is); (case l => k_is); (case c => k_is); (case k => k_is)
    have ALMoved : E1.At (L2.KOf KX) "_law_moved" E1.sLMoved := by
      dsimp only [L2.KOf]
      refine' E1.fn_mk ?a ?l ?c ?k
      (case a => k_is); (case l => k_is); (case c => k_is); (case k => k_is)
    have ALDevelopedAgain : E1.At (L2.KOf KX) "_law_developed_again" E1.sLDevelopedAgain := by
      dsimp only [L2.KOf]
      refine' E1.fn_mk ?a ?l ?c ?k
      (case a => k_is); (case l => k_is); (case c => k_is); (case k => k_is)
    have ALPairsRight : E1.At (L2.KOf KX) "_law_pairs_right" E1.sLPairsRight := by
      dsimp only [L2.KOf]
      refine' E1.fn_mk ?a ?l ?c ?k
      (case a => k_is); (case l => k_is); (case c => k_is); (case k => k_is)
    have ALAlike : E1.At (L2.KOf KX) "_law_alike" E1.sLAlike := by
      dsimp only [L2.KOf]
      refine' E1.fn_mk ?a ?l ?c ?k
      (case a => k_is); (case l => k_is); (case c => k_is); (case k => k_is)
    have ALaw : E1.At (L2.KOf KX) "law" E1.sLaw := by
      dsimp only [L2.KOf]
      refine' E1.fn_mk ?a ?l ?c ?k
      (case a => k_is); (case l => k_is); (case c => k_is); (case k => k_is)
    exact E1.all_mk KX G hmg N CMostPoints CMostBlocks AWhole AIsBelow AIsPointsNumber ASortedLayout ARenamed ABlockRenamed AInOrder AIsRow AAreUnlikePoints ADeveloped AAllTurned ATurned AMustBeBases ADifferences ATurnsTold ATimesOfEach ACell ALNumbers ALBase ALGcd ALMoved ALDevelopedAgain ALPairsRight ALAlike ALaw


