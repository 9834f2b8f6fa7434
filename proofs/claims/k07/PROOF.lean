import PyProof.Rows.All
import Wide.All
import OpenK.AllK
import Wide.FinOn
import Lean
import PyProof.EqAt
import PyProof.EqKinds
import PyProof.TupleCall
import PySem.Challenge.RW_evenmeet_k07_primes_that_shut
set_option Elab.async false
set_option linter.all false
set_option maxRecDepth 100000
/-! THE HAND LAYER, for ints, bools, texts, own classes, LISTS and tuples (index, slices, in, append, pop ..), calls, loops. Paste it whole ahead of your own text; what your proof does not reach may be deleted. -/
namespace L2
open PySem PySem.Spec PyProof.Rows

/-- a key: an int or a str -/
abbrev Key := Sum Int Str
def keyIs : Key → Value → Bool
  | .inl k, v => Value.isInt k v
  | .inr x, v => Value.isStrOf x v
def keyH (w : World) : Key → Int
  | .inl k => hashInt k
  | .inr x => hashStr w x
theorem keyIs_shape : ∀ {k : Key} {v : Value}, keyIs k v = true → (∃ i t, k = Sum.inl i ∧ v = Value.int i t) ∨ (∃ x t, k = Sum.inr x ∧ v = Value.str x t)
  | .inl i, v, h => by
    obtain ⟨t, e⟩ := Value.isInt_shape (k := i) (v := v) h
    exact .inl ⟨i, t, rfl, e⟩
  | .inr x, v, h => by
    obtain ⟨t, e⟩ := Value.isStrOf_shape (x := x) (v := v) h
    exact .inr ⟨x, t, rfl, e⟩
theorem key_ll (a b : Int) : decide ((Sum.inl a : Key) = Sum.inl b) = (a == b) := by
  by_cases e : a = b
  · subst e; simp
  · have h : ¬ (Sum.inl a : Key) = Sum.inl b := fun q => e (Sum.inl.inj q)
    rw [decide_eq_false h]
    exact (beq_eq_false_iff_ne.mpr e).symm
theorem key_rr (a b : Str) : decide ((Sum.inr a : Key) = Sum.inr b) = decide (a = b) := by
  by_cases e : a = b
  · subst e; simp
  · have h : ¬ (Sum.inr a : Key) = Sum.inr b := fun q => e (Sum.inr.inj q)
    rw [decide_eq_false h, decide_eq_false e]
theorem key_lr (a : Int) (b : Str) : decide ((Sum.inl a : Key) = Sum.inr b) = false := decide_eq_false (fun q => nomatch q)
theorem key_rl (a : Str) (b : Int) : decide ((Sum.inr a : Key) = Sum.inl b) = false := decide_eq_false (fun q => nomatch q)

def mixKind (prog : Program) (w : World) : PySem.KeyKind prog w Key where
  is := keyIs
  hash := keyH w
  inj := fun v a b ha hb => by
    rcases keyIs_shape ha with ⟨i, t, rfl, rfl⟩ | ⟨x, t, rfl, rfl⟩
    · rcases keyIs_shape hb with ⟨j, u, rfl, e⟩ | ⟨y, u, rfl, e⟩
      · injection e with e1 _; rw [e1]
      · exact nomatch e
    · rcases keyIs_shape hb with ⟨j, u, rfl, e⟩ | ⟨y, u, rfl, e⟩
      · exact nomatch e
      · injection e with e1 _; rw [e1]
  byValue := fun k v h => by
    rcases keyIs_shape h with ⟨i, t, rfl, rfl⟩ | ⟨x, t, rfl, rfl⟩ <;> rfl
  pyHash := fun hv h => by
    rcases keyIs_shape hv with ⟨i, t, rfl, rfl⟩ | ⟨x, t, rfl, rfl⟩
    · exact wpAny_pyHash_int h
    · exact wpAny_pyHash_str h
  eqBool := fun hu hv h => by
    rcases keyIs_shape hu with ⟨i, t, rfl, rfl⟩ | ⟨x, t, rfl, rfl⟩
    · rcases keyIs_shape hv with ⟨j, u, rfl, rfl⟩ | ⟨y, u, rfl, rfl⟩
      · rw [key_ll] at h; exact wpAny_eqBool_int h
      · rw [key_lr] at h; exact SeqAt.EqAt.int_str i t y u _ _ _ _ h
    · rcases keyIs_shape hv with ⟨j, u, rfl, rfl⟩ | ⟨y, u, rfl, rfl⟩
      · rw [key_rl] at h; exact SeqAt.EqAt.str_int x t j u _ _ _ _ h
      · rw [key_rr] at h; exact wpAny_eqBool_str h
  «strs» := fun k x t v h => by
    rcases keyIs_shape h with ⟨i, u, rfl, e⟩ | ⟨y, u, rfl, e⟩
    · exact nomatch e
    · injection e with e1 _
      subst e1
      cases v <;> rfl

end L2

namespace L2
open PySem PySem.Spec PyProof.Rows

/-- a value, without the heap -/
inductive V where
  | non | bl (b : Bool) | int (i : Int) | str (x : Str) | byt (b : Array UInt8) | flt (b : UInt64) | ref (a : Addr) | ty (n : String)
  deriving DecidableEq

def RelV : V → Value → Prop
  | .non, u => u = Value.none
  | .bl b, u => u = Value.bool b
  | .int i, u => ∃ t, u = Value.int i t
  | .str x, u => ∃ t, u = Value.str x t
  | .byt b, u => ∃ t, u = Value.bytes b t
  | .flt b, u => ∃ t, u = Value.float b t
  | .ref a, u => u = Value.ref a
  | .ty n, u => u = Value.type n

abbrev Vals : List V → List Value → Prop := Paired RelV
theorem Vals.length {xs : List V} {us : List Value} (r : Vals xs us) : xs.length = us.length := Paired.length r
theorem Vals.get : ∀ {xs : List V} {us : List Value} {i : Nat} {x : V}, Vals xs us → xs[i]? = some x → ∃ u, us[i]? = some u ∧ RelV x u
  | _, _, _, _, .nil, e => by simp at e
  | _, _, 0, _, .cons r _, e => by simp at e; subst e; exact ⟨_, rfl, r⟩
  | _, _, i + 1, x, .cons _ t, e => by
    obtain ⟨u, h1, h2⟩ := Vals.get (i := i) (x := x) t (by simpa using e)
    exact ⟨u, by simpa using h1, h2⟩
theorem Vals.set {x : V} {u : Value} (r : RelV x u) : ∀ {xs : List V} {us : List Value} (i : Nat), Vals xs us → Vals (xs.set i x) (us.set i u)
  | _, _, _, .nil => .nil
  | _, _, 0, .cons _ t => .cons r t
  | _, _, i + 1, .cons q t => .cons q (Vals.set r i t)
theorem Vals.append : ∀ {xs ys : List V} {us ws : List Value}, Vals xs us → Vals ys ws → Vals (xs ++ ys) (us ++ ws)
  | _, _, _, _, .nil, s => s
  | _, _, _, _, .cons r t, s => .cons r (Vals.append t s)
theorem Vals.take : ∀ {xs : List V} {us : List Value} (n : Nat), Vals xs us → Vals (xs.take n) (us.take n)
  | _, _, 0, _ => .nil
  | _, _, _ + 1, .nil => .nil
  | _, _, n + 1, .cons r t => .cons r (Vals.take n t)
theorem Vals.drop : ∀ {xs : List V} {us : List Value} (n : Nat), Vals xs us → Vals (xs.drop n) (us.drop n)
  | _, _, 0, r => r
  | _, _, _ + 1, .nil => .nil
  | _, _, n + 1, .cons _ t => Vals.drop n t
def RelO : Option V → Option Value → Prop
  | some v, some u => RelV v u
  | none, none => True
  | _, _ => False
def KV {κ : Type} : List (κ × V) → List (κ × Value) → Prop := Paired fun (p : κ × V) (q : κ × Value) => p.1 = q.1 ∧ RelV p.2 q.2

/-- a key of a dict (00_mix): an int or a text -/
def kV : Key → V
  | .inl i => .int i
  | .inr x => .str x

/-- what stands at a tracked address -/
inductive HO where
  /-- a list -/
  | lst (xs : List V)
  /-- a tuple (never changes) -/
  | tup (xs : List V)
  /-- a dict whose keys are ints and texts; one whose keys are tuples of ints and texts (the empty one is both) -/
  | dK (kvs : List (Key × V)) | dT (kvs : List (List Key × V))
  /-- a set of ints: its members, its size -/
  | set (S : Int → Bool) (n : Nat)
  /-- an instance of the class at C, its dict at dx, its attributes -/
  | ins (C dx : Addr) (fs : List (Str × V))
  /-- the dict of the instance at x -/
  | own (x : Addr)
  /-- the dict of an exception -/
  | xd (fs : List (Str × V))
  /-- a bound method, f of x -/
  | met (f x : Addr)
  /-- a range object lo, lo + 1, .. below hi -/
  | rng (lo hi : Int)
  /-- a thing that is known to the object (the script; a dict while a loop walks it): read, never written while it is so -/
  | frz (o : Obj) (u : HO)
  /-- a code object's table -/
  | tbl (ps : Array Value)
  /-- any other thing, by what is true of its one object (a def of one's own: SetO a S n := HO.ext fun h => ..) -/
  | ext (φ : Heap → Prop)

abbrev Hp := Addr → Option HO
def upd (H : Hp) (a : Addr) (o : HO) : Hp := fun b => if b = a then some o else H b
theorem upd_same {H : Hp} {a : Addr} {o : HO} : upd H a o a = some o := by unfold upd; rw [if_pos rfl]
theorem upd_ne {H : Hp} {a b : Addr} {o : HO} (h : b ≠ a) : upd H a o b = H b := by unfold upd; rw [if_neg h]
/-- two objects of different content stand apart -/
theorem ne_of {H : Hp} {a b : Addr} {o u : HO} (h : H a = some o) (h' : H b = some u) (d : o ≠ u) : a ≠ b := by
  intro e; subst e; rw [h] at h'; exact d (Option.some.inj h')
theorem ne_of_none {H : Hp} {a b : Addr} {o : HO} (h : H a = some o) (h' : H b = none) : a ≠ b := by
  intro e; subst e; rw [h] at h'; cases h'

section
variable (P : Program) (w : World)
def ObjOk (H : Hp) (h : Heap) (a : Addr) : HO → Prop
  | .lst xs => xs.length ≤ sizeLine ∧ ∃ (its : List Value) (n : Nat), Vals xs its ∧ h.get? a = some { cls := .type "list", data := .seq its.toArray n }
  | .tup xs => xs.length ≤ sizeLine ∧ ∃ its : List Value, Vals xs its ∧ IsTup h a its.toArray
  | .dK kvs => kvs.length ≤ sizeLine ∧ (a == sysModules) = false ∧ ∃ vs, KV kvs vs ∧ h.DictOf (mixKind P w) a vs
  | .dT kvs => kvs.length ≤ sizeLine ∧ (a == sysModules) = false ∧ ∃ xs : List (List Key × Addr × Value),
      Paired (fun (p : List Key × V) (q : List Key × Addr × Value) => p.1 = q.1 ∧ H q.2.1 = some (.tup (p.1.map kV)) ∧ RelV p.2 q.2.2) kvs xs ∧
      ∃ o es ep, h.get? a = some o ∧ o.ExactDict ∧ o.data = .dict es ep ∧ es.toList = xs.map (entryOfKey (tupleKind (mixKind P w))) ∧ (xs.map (·.1)).Nodup
  | .set S n => h.SetOf (intKind P w) a S n
  | .ins C dx fs => H dx = some (.own a) ∧ fs.length ≤ 1000 ∧ dx ≠ a ∧ h.get? a = some (PySem.W.instObj C dx) ∧
      ∃ mA, h.Ns1 dx mA ∧ (∀ f, RelO (fs.lookup f) (mA f)) ∧ PySem.Within mA (fs.map (·.1))
  | .own _ => ∃ o, h.get? a = some o
  | .xd fs => ∃ mA, h.Ns1 a mA ∧ ∀ f, RelO (fs.lookup f) (mA f)
  | .rng lo hi => ∃ t u v, h.get? a = some { cls := .type "range", data := .fields #[.int lo t, .int hi u, .int 1 v] }
  | .frz o u => h.get? a = some o ∧ ObjOk H h a u
  | .tbl ps => h.get? a = some { cls := .none, data := .fields ps }
  | .met f x => h.get? a = some (PySem.W.methodObj (.ref f) (.ref x))
  | .ext φ => φ h ∧ (∃ o, h.get? a = some o) ∧ ∀ h1 h2 : Heap, φ h1 → (∀ o, h1.get? a = some o → h2.get? a = some o) → φ h2
/-- the abstract heap is held -/
def HOk (H : Hp) (h : Heap) : Prop := ∀ a o, H a = some o → ObjOk P w H h a o
end

section
variable {P : Program} {w : World} {H H' : Hp} {h h' : Heap} {a : Addr} {o : HO}
theorem ObjOk.lt (x : ObjOk P w H h a o) : a < h.objs.size := by
  cases o with
  | lst xs => obtain ⟨_, _, _, _, e⟩ := x; exact Heap.lt_size e
  | tup xs => obtain ⟨_, _, _, p⟩ := x; exact p.lt
  | dK kvs => obtain ⟨_, _, _, _, o, _, _, e, _⟩ := x; exact Heap.lt_size e
  | dT kvs => obtain ⟨_, _, _, _, o, _, _, e, _⟩ := x; exact Heap.lt_size e
  | set S n => obtain ⟨o, _, _, _, e, _⟩ := x; exact Heap.lt_size e
  | ins C dx fs => obtain ⟨_, _, _, e, _⟩ := x; exact Heap.lt_size e
  | own y => obtain ⟨_, e⟩ := x; exact Heap.lt_size e
  | xd fs => obtain ⟨_, ⟨_, _, _, e, _⟩, _⟩ := x; exact Heap.lt_size e
  | rng lo hi => obtain ⟨_, _, _, e⟩ := x; exact Heap.lt_size e
  | frz ob u => obtain ⟨e, _⟩ := x; exact Heap.lt_size e
  | tbl ps => exact Heap.lt_size (show h.get? a = some _ from x)
  | met f y => exact Heap.lt_size (show h.get? a = some _ from x)
  | ext φ => obtain ⟨_, ⟨_, e⟩, _⟩ := x; exact Heap.lt_size e
theorem Paired.mapP {α β : Type} {F G : α → β → Prop} : ∀ {l₁ : List α} {l₂ : List β}, Paired F l₁ l₂ → (∀ a b, F a b → G a b) → Paired G l₁ l₂
  | _, _, .nil, _ => .nil
  | _, _, .cons r t, f => .cons (f _ _ r) (Paired.mapP t f)
/-- what an object's description leans on: its own object, its own dict, the tuples -/
theorem ObjOk.stay (x : ObjOk P w H h a o) (k : ∀ b u, (b = a ∨ H b = some (.own a)) → h.get? b = some u → h'.get? b = some u)
    (ho : ∀ b, H b = some (.own a) → H' b = some (.own a)) (ht : ∀ b xs, H b = some (.tup xs) → H' b = some (.tup xs)) : ObjOk P w H' h' a o := by
  induction o with
  | lst xs => obtain ⟨z, its, n, r, e⟩ := x; exact ⟨z, its, n, r, k _ _ (.inl rfl) e⟩
  | tup xs => obtain ⟨z, its, r, ob, e, c⟩ := x; exact ⟨z, its, r, ob, k _ _ (.inl rfl) e, c⟩
  | dK kvs => obtain ⟨z, y, vs, r, ob, es, ep, e, c⟩ := x; exact ⟨z, y, vs, r, ob, es, ep, k _ _ (.inl rfl) e, c⟩
  | dT kvs =>
    obtain ⟨z, y, xs, r, ob, es, ep, e, c⟩ := x
    exact ⟨z, y, xs, Paired.mapP r fun p q z => ⟨z.1, ht _ _ z.2.1, z.2.2⟩, ob, es, ep, k _ _ (.inl rfl) e, c⟩
  | set S n => obtain ⟨ob, es, ep, t, e, c⟩ := x; exact ⟨ob, es, ep, t, k _ _ (.inl rfl) e, c⟩
  | ins C dx fs =>
    obtain ⟨d, z, ne, e, mA, ⟨od, es, ep, e2, c⟩, r⟩ := x
    exact ⟨ho _ d, z, ne, k _ _ (.inl rfl) e, mA, ⟨od, es, ep, k _ _ (.inr d) e2, c⟩, r⟩
  | own y => obtain ⟨ob, e⟩ := x; exact ⟨ob, k _ _ (.inl rfl) e⟩
  | xd fs => obtain ⟨mA, ⟨od, es, ep, e, c⟩, r⟩ := x; exact ⟨mA, ⟨od, es, ep, k _ _ (.inl rfl) e, c⟩, r⟩
  | rng lo hi => obtain ⟨t, u, v, e⟩ := x; exact ⟨t, u, v, k _ _ (.inl rfl) e⟩
  | frz ob u ih => obtain ⟨e, q⟩ := x; exact ⟨k _ _ (.inl rfl) e, ih q⟩
  | tbl ps =>
    have e : h.get? a = some { cls := .none, data := .fields ps } := x
    show h'.get? a = some { cls := .none, data := .fields ps }
    exact k a _ (.inl rfl) e
  | met f y =>
    have e : h.get? a = some (PySem.W.methodObj (.ref f) (.ref y)) := x
    show h'.get? a = some (PySem.W.methodObj (.ref f) (.ref y))
    exact k a _ (.inl rfl) e
  | ext φ => obtain ⟨p, ⟨o, e⟩, st⟩ := x; exact ⟨st _ _ p fun o q => k _ _ (.inl rfl) q, ⟨o, k _ _ (.inl rfl) e⟩, st⟩
theorem HOk.lt (x : HOk P w H h) (e : H a = some o) : a < h.objs.size := (x a o e).lt
theorem HOk.fresh (x : HOk P w H h) (e : h.objs.size ≤ a) : H a = none := by
  cases q : H a with
  | none => rfl
  | some u => exact absurd (Nat.lt_of_lt_of_le (x.lt q) e) (Nat.lt_irrefl _)
/-- every object of the heap is kept -/
theorem HOk.kept (x : HOk P w H h) (k : ∀ b u, h.get? b = some u → h'.get? b = some u) : HOk P w H h' := fun a o e =>
  (x a o e).stay (fun b u _ q => k b u q) (fun _ q => q) fun _ _ q => q
/-- a new object is laid and tracked -/
theorem HOk.laid (x : HOk P w H h) (k : ∀ b u, h.get? b = some u → h'.get? b = some u) (hp : h.objs.size ≤ a) (new : ObjOk P w (upd H a o) h' a o) : HOk P w (upd H a o) h' := fun b u e => by
  have hn := x.fresh hp
  by_cases hb : b = a
  · subst hb; rw [upd_same] at e; cases e; exact new
  · rw [upd_ne hb] at e
    exact (x b u e).stay (fun c v _ q => k c v q) (fun c q => by rw [upd_ne (ne_of_none q hn)]; exact q) fun c xs q => by rw [upd_ne (ne_of_none q hn)]; exact q
end

/-- what may be read as u: it is u, or a known u -/
def Rd (H : Hp) (a : Addr) (u : HO) : Prop := H a = some u ∨ ∃ o, H a = some (.frz o u)
theorem Rd.ok {P : Program} {w : World} {H : Hp} {h : Heap} {a : Addr} {u : HO} (r : Rd H a u) (x : HOk P w H h) : ObjOk P w H h a u := by
  rcases r with r | ⟨o, r⟩
  · exact x a u r
  · obtain ⟨_, q⟩ := x a _ r
    exact q
/-- what may be written -/
def Mut : Option HO → Prop
  | some (.lst _) => True
  | some (.dK _) => True
  | some (.dT _) => True
  | some (.set _ _) => True
  | some (.ins _ _ _) => True
  | some (.ext _) => True
  | _ => False
section
variable {P : Program} {w : World} {H : Hp} {h h' : Heap} {x e : Addr} {o' : HO}
/-- the object at e is changed: x itself, or the dict of the instance x -/
theorem HOk.write (ok : HOk P w H h) (mu : Mut (H x)) (he : e = x ∨ H e = some (.own x)) (k : ∀ b u, b ≠ e → h.get? b = some u → h'.get? b = some u) (heo : ∃ u, h'.get? e = some u)
    (new : ObjOk P w (upd H x o') h' x o') : HOk P w (upd H x o') h' := fun b u q => by
  have nown : ∀ c y, H c = some (.own y) → c ≠ x := fun c y r z => by subst z; rw [r] at mu; exact mu
  have ntup : ∀ c xs, H c = some (.tup xs) → c ≠ x := fun c xs r z => by subst z; rw [r] at mu; exact mu
  by_cases hb : b = x
  · subst hb; rw [upd_same] at q; cases q; exact new
  · rw [upd_ne hb] at q
    by_cases hbe : b = e
    · have q' : H b = some (.own x) := by
        rcases he with z | z
        · exact absurd (hbe.trans z) hb
        · rw [hbe]; exact z
      rw [q] at q'; cases q'
      obtain ⟨v, hv⟩ := heo
      exact ⟨v, by rw [hbe]; exact hv⟩
    · refine (ok b u q).stay (fun c v hc r => k c v ?_ r) (fun c r => by rw [upd_ne (nown c b r)]; exact r) fun c xs r => by rw [upd_ne (ntup c xs r)]; exact r
      rcases hc with rfl | hc
      · exact hbe
      · rintro rfl
        rcases he with z | z
        · exact nown c b hc z
        · rw [hc] at z; cases z; exact hb rfl
end

/-! ### kept unless tracked; of the frames at fs (the callers') the slots may change (an exception that passes writes there); of the records at ex (iterators) nothing is said -/
structure Un (fs ex : List Addr) (H H' : Hp) (h h' : Heap) : Prop where
  keep : ∀ b o, h.get? b = some o → H b = none → b ∉ fs → b ∉ ex → h'.get? b = some o
  slot : ∀ b o, h.get? b = some o → H b = none → b ∈ fs → b ∉ ex → ∃ sl, h'.get? b = some { o with slots := sl }
  free : ∀ b o, h.get? b = some o → H b = none → b ∉ ex → H' b = none
  there : ∀ b o, h.get? b = some o → b ∉ ex → ∃ o', h'.get? b = some o'
  tups : ∀ b xs, H b = some (.tup xs) → H' b = some (.tup xs)
  frzs : ∀ b o u, H b = some (.frz o u) → H' b = some (.frz o u)
  tbls : ∀ b ps, H b = some (.tbl ps) → ∃ more, H' b = some (.tbl (ps ++ more))
section
variable {fs fs' ex ex' : List Addr} {H H1 H2 : Hp} {h h1 h2 h' : Heap} {a x e : Addr} {o : HO}
theorem Un.any (u : Un fs ex H H1 h h1) {b : Addr} {ob : Obj} (q : h.get? b = some ob) (n : H b = none) (hx : b ∉ ex) : ∃ sl, h1.get? b = some { ob with slots := sl } := by
  by_cases hb : b ∈ fs
  · exact u.slot b ob q n hb hx
  · exact ⟨ob.slots, u.keep b ob q n hb hx⟩
theorem Un.kept (k : ∀ b u, h.get? b = some u → h'.get? b = some u) : Un fs ex H H h h' :=
  ⟨fun b ob q _ _ _ => k b ob q, fun b ob q _ _ _ => ⟨ob.slots, k b ob q⟩, fun _ _ _ n _ => n, fun b ob q _ => ⟨ob, k b ob q⟩, fun _ _ q => q, fun _ _ _ q => q, fun _ ps q => ⟨#[], by rw [q]; simp⟩⟩
theorem Un.refl : Un fs ex H H h h := Un.kept fun _ _ q => q
theorem Un.laid (k : ∀ b u, h.get? b = some u → h'.get? b = some u) (hp : h.objs.size ≤ a) (hn : H a = none) : Un fs ex H (upd H a o) h h' where
  keep := fun b u q _ _ _ => k b u q
  slot := fun b u q _ _ _ => ⟨u.slots, k b u q⟩
  free := fun b u q n _ => by rw [upd_ne (Nat.ne_of_lt (Nat.lt_of_lt_of_le (Heap.lt_size q) hp))]; exact n
  there := fun b u q _ => ⟨u, k b u q⟩
  tups := fun b xs q => by rw [upd_ne (ne_of_none q hn)]; exact q
  frzs := fun b u xs q => by rw [upd_ne (ne_of_none q hn)]; exact q
  tbls := fun b ps q => ⟨#[], by rw [upd_ne (ne_of_none q hn), q]; simp⟩
theorem Un.write (mu : Mut (H x)) (he : e = x ∨ H e = some (.own x)) (k : ∀ b u, b ≠ e → h.get? b = some u → h'.get? b = some u) (heo : ∃ u, h'.get? e = some u) : Un fs ex H (upd H x o) h h' := by
  have hx : ∀ b, H b = none → b ≠ x := fun b n z => by subst z; rw [n] at mu; exact mu
  have hb : ∀ b, H b = none → b ≠ e := fun b n z => by
    subst z
    rcases he with r | r
    · exact hx b n r
    · rw [n] at r; cases r
  have hm : ∀ b u, H b = some u → ¬ Mut (some u) → b ≠ x := fun b u q nm z => by subst z; rw [q] at mu; exact nm mu
  refine ⟨fun b u q n _ _ => k b u (hb b n) q, fun b u q n _ _ => ⟨u.slots, k b u (hb b n) q⟩, fun b u q n _ => by rw [upd_ne (hx b n)]; exact n, fun b u q _ => ?_,
    fun b xs q => by rw [upd_ne (hm b _ q fun z => z)]; exact q, fun b u xs q => by rw [upd_ne (hm b _ q fun z => z)]; exact q, fun b ps q => ⟨#[], by rw [upd_ne (hm b _ q fun z => z), q]; simp⟩⟩
  by_cases hbe : b = e
  · subst hbe; exact heo
  · exact ⟨u, k b u hbe q⟩
end

/-! ### the heap without what is tracked -/
def trk (h : Heap) (H : Hp) : List Addr := (List.range h.objs.size).filter fun a => (H a).isSome
def hidT (h : Heap) (H : Hp) : Heap := PySem.W.hideAll h (trk h H)
theorem hidT_size (h : Heap) (H : Hp) : (hidT h H).objs.size = h.objs.size := PySem.W.hideAll_size _ _
theorem hidT_get {h : Heap} {H : Hp} {b : Addr} {o : Obj} (e : h.get? b = some o) (n : H b = none) : (hidT h H).get? b = some o :=
  PySem.W.hideAll_get _ e fun hm => by
    have q : (H b).isSome = true := (List.mem_filter.mp hm).2
    rw [n] at q; simp at q
theorem of_hidT {h : Heap} {H : Hp} {b : Addr} {o : Obj} (e : (hidT h H).get? b = some o) : h.get? b = some o ∧ H b = none := by
  have e' : h.get? b = some o := PySem.W.of_hideAll (trk h H) e
  refine ⟨e', ?_⟩
  cases q : H b with
  | none => rfl
  | some x =>
    have hm : b ∈ trk h H := List.mem_filter.mpr ⟨List.mem_range.mpr (Heap.lt_size e'), by simp [q]⟩
    have z : (hidT h H).get? b = none := PySem.W.hideAll_none (trk h H) hm
    rw [z] at e; cases e

/-! ### OpenK's ledger, filled with every new object but one -/
end L2

namespace L2
open PySem PySem.Spec PyProof.Rows

/-- the module's facts, over the base: the heap at the law's entry without what is tracked there -/
structure Mod (K : PySem.W.Frag) (mg : Str → Option Value) (base : Heap) : Prop where
  kin : K.In base
  glob : base.Ns mainGlobals mg
  blt : ∃ mb, base.Ns builtinsNs mb ∧ ∀ x : Str, x ≠ "__name__" → mb x = bootBuiltins x
  nolimit : base.NoLimit

/-- the context: a def's body (or a comprehension's block) running. base: fixed through the whole law; s₀, H₀: the entry; outer: the frames whose slots others may change (a def's callers); stack: all frames that run;
   ex: iterators that were made ahead of the entry and are walked here (a comprehension's); fn: the names whose cells were made at the entry (a def: all; a comprehension's block: its own); calm: not within an except suite; pn: pins that every state bears; xe: what is wanted of an exception that leaves the code -/
structure Cx where
  prog : Program
  w : World
  K : PySem.W.Frag
  mg : Str → Option Value
  base : Heap
  A : Around
  N : List Str
  s₀ : Shared
  H₀ : Hp
  env : Env
  outer : List Env
  stack : List Env
  ex : List Addr
  fn : Str → Bool
  calm : Bool
  pn : List (Addr × Obj)
  xe : Value → Shared → Prop
/-- the callers' frames -/
def frs (l : List Env) : List Addr := l.filterMap (·.frame)
abbrev Cx.fs (X : Cx) : List Addr := frs X.outer

def Vis (sc : Scope) (x : Str) : Prop := sc.names.lookup x = some .local ∨ sc.names.lookup x = some .cell ∨ sc.names.lookup x = some .free
def Loc (sc : Scope) (x : Str) : Prop := sc.names.lookup x = some .local ∨ sc.names.lookup x = some .cell
def Look (env : Env) (h : Heap) (m : Str → Option Value) (x : Str) (u : Value) : Prop :=
  (env.kindOf x = some .local ∧ m x = some u) ∨ ((env.kindOf x = some .cell ∨ env.kindOf x = some .free) ∧ ∃ c, env.cells.lookup x = some c ∧ h.IsCell c (some u))

structure Cx.Ok (X : Cx) : Prop where
  mod : Mod X.K X.mg X.base
  kind : X.env.scope.kind = .function
  glob : X.env.globals = mainGlobals
  blt : X.env.builtins = builtinsNs
  above : X.s₀.heap.objs.size ≤ X.env.locals
  inj : ∀ x y c, X.env.cells.lookup x = some c → X.env.cells.lookup y = some c → x = y
  has : ∀ x, (X.env.kindOf x = some .cell ∨ X.env.kindOf x = some .free) → ∃ c, X.env.cells.lookup x = some c
  cab : ∀ x c, X.fn x = true → X.env.cells.lookup x = some c → X.s₀.heap.objs.size ≤ c
  hd : X.calm = true → X.A.handled = none
  frames : X.A.frames = some X.stack
  stk : X.stack = X.outer ∨ (X.stack = X.env :: X.outer ∧ X.env.frame = some X.env.locals)
  exf : ∀ b ∈ X.ex, b ≠ X.env.locals ∧ ∀ x c, X.env.cells.lookup x = some c → c ≠ b
  bs : ∀ b o, X.base.get? b = some o → X.s₀.heap.get? b = some o ∧ X.H₀ b = none
  bsz : X.base.objs.size ≤ X.s₀.heap.objs.size
  noex : ∀ b o, X.base.get? b = some o → b ∉ X.ex
  exfs : ∀ b ∈ X.ex, b ∉ X.fs
  funs : X.s₀.heap.FunFrames X.base X.outer
  frf : ∀ b ∈ X.fs, X.H₀ b = none

structure Inv (X : Cx) (pins : List (Addr × Obj)) (σ : List (Option V)) (H : Hp) (s : Shared) : Prop where
  ok : X.Ok
  os : s.os = X.s₀.os
  bare : AllBare s.gens
  base : Un X.fs X.ex X.H₀ H X.s₀.heap s.heap
  loc : ∃ m, s.heap.Ns X.env.locals m ∧ ∀ (i : Nat) (x : Str) (v : V), X.N[i]? = some x → σ[i]? = some (some v) → Vis X.env.scope x → ∃ u, RelV v u ∧ Look X.env s.heap m x u
  cell : ∀ x c, X.env.cells.lookup x = some c → ∃ v, s.heap.IsCell c v
  free : H X.env.locals = none
  freeC : ∀ x c, X.env.cells.lookup x = some c → H c = none
  pin : ∀ p ∈ X.pn ++ pins, s.heap.get? p.1 = some p.2 ∧ H p.1 = none ∧ p.1 ≠ X.env.locals ∧ p.1 ∉ X.fs ∧ ∀ v, p.2.data ≠ .cell v
  hok : HOk X.prog X.w H s.heap
  len : σ.length = X.N.length

section
variable {X : Cx} {pins : List (Addr × Obj)} {σ : List (Option V)} {H H' : Hp} {s : Shared} {h' : Heap}

theorem Cx.Ok.nofr (ok : X.Ok) {b : Addr} {o : Obj} (e : X.base.get? b = some o) : b ∉ X.fs := fun hb => by
  have := (ok.funs.mem hb).1
  rw [e] at this; cases this
theorem Inv.bs (I : Inv X pins σ H s) : ∀ b o, X.base.get? b = some o → s.heap.get? b = some o ∧ H b = none := fun b o e =>
  ⟨I.base.keep b o (I.ok.bs b o e).1 (I.ok.bs b o e).2 (I.ok.nofr e) (I.ok.noex b o e), I.base.free b o (I.ok.bs b o e).1 (I.ok.bs b o e).2 (I.ok.noex b o e)⟩
theorem Inv.bk (I : Inv X pins σ H s) : ∀ b o, X.base.get? b = some o → s.heap.get? b = some o := fun b o e => (I.bs b o e).1
theorem Inv.mod (I : Inv X pins σ H s) : Mod X.K X.mg X.base := I.ok.mod
theorem Inv.kIn (I : Inv X pins σ H s) : X.K.In s.heap := I.ok.mod.kin.keeps I.bk
theorem Inv.lt (I : Inv X pins σ H s) : X.env.locals < s.heap.objs.size := let ⟨_, hn, _⟩ := I.loc; hn.lt
theorem Inv.sz (I : Inv X pins σ H s) : X.s₀.heap.objs.size ≤ s.heap.objs.size := Nat.le_trans I.ok.above (Nat.le_of_lt I.lt)
theorem Inv.nofs (I : Inv X pins σ H s) {a : Addr} (h : s.heap.objs.size ≤ a) : a ∉ X.fs := fun hb => by
  obtain ⟨_, o, ho, _⟩ := I.ok.funs.mem hb
  exact absurd (Nat.lt_of_lt_of_le (Heap.lt_size ho) (Nat.le_trans I.sz h)) (Nat.lt_irrefl _)
theorem Inv.cne (I : Inv X pins σ H s) : ∀ x c, X.env.cells.lookup x = some c → c ≠ X.env.locals := fun x c e z => by
  obtain ⟨v, o, ho, hd⟩ := I.cell x c e
  obtain ⟨m, ⟨o', es, ep, ho', hd', _⟩, _⟩ := I.loc
  rw [z, ho'] at ho; cases ho; rw [hd'] at hd; cases hd
theorem Inv.funs (I : Inv X pins σ H s) : s.heap.FunFrames X.base X.outer := by
  have all : ∀ (l : List Env), (∀ b ∈ frs l, b ∈ X.fs) → X.s₀.heap.FunFrames X.base l → s.heap.FunFrames X.base l := by
    intro l
    induction l with
    | nil => intro _ _; trivial
    | cons env r ih =>
      intro hs hl
      obtain ⟨hk, ⟨L, o, hf, hn, ho, hd⟩, hr⟩ := hl
      have hL : L ∈ X.fs := hs L (by unfold frs; rw [List.filterMap_cons, hf]; exact List.mem_cons_self)
      obtain ⟨sl, e⟩ := I.base.slot L o ho (I.ok.frf L hL) hL fun z => I.ok.exfs L z hL
      exact ⟨hk, ⟨L, _, hf, hn, e, hd⟩, ih (fun b hb => hs b (by unfold frs; rw [List.filterMap_cons, hf]; exact List.mem_cons_of_mem _ hb)) hr⟩
  exact all X.outer (fun _ hb => hb) I.ok.funs

/-- the frames that run, for a call -/
theorem Inv.stack (I : Inv X pins σ H s) : s.heap.FunFrames X.base X.stack := by
  rcases I.ok.stk with e | ⟨e, hf⟩
  · rw [e]; exact I.funs
  · rw [e]
    obtain ⟨m, hn, _⟩ := I.loc
    refine .cons (by rw [I.ok.kind]; decide) hf hn ?_ I.funs
    exact Heap.get?_none_of_le (Nat.le_trans I.ok.bsz I.ok.above)
theorem Inv.stkSub (I : Inv X pins σ H s) : ∀ b ∈ frs X.stack, b ∈ X.env.locals :: X.fs := fun b hb => by
  rcases I.ok.stk with e | ⟨e, hf⟩
  · rw [e] at hb; exact List.mem_cons_of_mem _ hb
  · rw [e] at hb
    unfold frs at hb
    rw [List.filterMap_cons, hf] at hb
    exact hb
theorem Inv.stkFree (I : Inv X pins σ H s) : ∀ b ∈ frs X.stack, H b = none := fun b hb => by
  rcases List.mem_cons.mp (I.stkSub b hb) with e | hb
  · rw [e]; exact I.free
  · obtain ⟨_, o, ho, _⟩ := I.ok.funs.mem hb
    exact I.base.free b o ho (I.ok.frf b hb) fun z => I.ok.exfs b z hb

/-- THE STEP: the untracked objects but the frame and the records at ch are kept (the callers' frames up to slots), the frame's map is kept, the new abstract heap is held -/
theorem Inv.step {g' : Array GenState} {t' : Nat} {d' : Drawn} {ch : List Addr} (I : Inv X pins σ H s)
    (hch : ∀ b ∈ ch, (b ∈ X.ex ∨ X.s₀.heap.objs.size ≤ b) ∧ b ≠ X.env.locals ∧ (∀ x c, X.env.cells.lookup x = some c → c ≠ b) ∧ ∀ p ∈ X.pn ++ pins, p.1 ≠ b)
    (keep : ∀ b o, b ≠ X.env.locals → b ∉ X.fs → b ∉ ch → s.heap.get? b = some o → H b = none → h'.get? b = some o)
    (slot : ∀ b o, b ≠ X.env.locals → b ∈ X.fs → b ∉ ch → s.heap.get? b = some o → H b = none → ∃ sl, h'.get? b = some { o with slots := sl }) (free : ∀ b o, b ∉ ch → s.heap.get? b = some o → H b = none → H' b = none)
    (there : ∀ b o, b ∉ ch → s.heap.get? b = some o → ∃ o', h'.get? b = some o')
    (tups : ∀ b xs, H b = some (.tup xs) → H' b = some (.tup xs)) (frzs : ∀ b o u, H b = some (.frz o u) → H' b = some (.frz o u)) (tbls : ∀ b ps, H b = some (.tbl ps) → ∃ more, H' b = some (.tbl (ps ++ more)))
    (ns : ∀ m, s.heap.Ns X.env.locals m → h'.Ns X.env.locals m) (hok : HOk X.prog X.w H' h') (hg : AllBare g') :
    Inv X pins σ H' { s with heap := h', gens := g', drawn := d', toks := t' } := by
  have neL : ∀ b o, X.s₀.heap.get? b = some o → b ≠ X.env.locals := fun b o e => Nat.ne_of_lt (Nat.lt_of_lt_of_le (Heap.lt_size e) I.ok.above)
  have neC : ∀ b o, X.s₀.heap.get? b = some o → b ∉ X.ex → b ∉ ch := fun b o e hx hb => by
    rcases (hch b hb).1 with z | z
    · exact hx z
    · exact absurd (Nat.lt_of_lt_of_le (Heap.lt_size e) z) (Nat.lt_irrefl _)
  have cellK : ∀ x c, X.env.cells.lookup x = some c → ∀ v, s.heap.IsCell c v → h'.IsCell c v := fun x c e v ⟨o, ho, hd⟩ => by
    have nch : c ∉ ch := fun z => (hch c z).2.2.1 x c e rfl
    by_cases hc : c ∈ X.fs
    · obtain ⟨sl, q⟩ := slot c o (I.cne x c e) hc nch ho (I.freeC x c e)
      exact ⟨_, q, hd⟩
    · exact ⟨o, keep c o (I.cne x c e) hc nch ho (I.freeC x c e), hd⟩
  refine ⟨I.ok, I.os, hg, ⟨fun b o e n hb hx => ?_, fun b o e n hb hx => ?_, fun b o e n hx => ?_, fun b o e hx => ?_, fun b xs e => tups b xs (I.base.tups b xs e), fun b o xs e => frzs b o xs (I.base.frzs b o xs e), fun b ps e => ?_⟩, ?_, fun x c e => ?_, ?_, fun x c e => ?_, fun p hp => ?_, hok, I.len⟩
  · exact keep b o (neL b o e) hb (neC b o e hx) (I.base.keep b o e n hb hx) (I.base.free b o e n hx)
  · obtain ⟨sl, e1⟩ := I.base.slot b o e n hb hx
    obtain ⟨sl', e2⟩ := slot b _ (neL b o e) hb (neC b o e hx) e1 (I.base.free b o e n hx)
    exact ⟨sl', e2⟩
  · obtain ⟨o', e1⟩ := I.base.there b o e hx
    exact free b o' (neC b o e hx) e1 (I.base.free b o e n hx)
  · obtain ⟨o', e1⟩ := I.base.there b o e hx
    exact there b o' (neC b o e hx) e1
  · obtain ⟨m1, e1⟩ := I.base.tbls b ps e
    obtain ⟨m2, e2⟩ := tbls b _ e1
    exact ⟨m1 ++ m2, by rw [e2, Array.append_assoc]⟩
  · obtain ⟨m, hn, hl⟩ := I.loc
    refine ⟨m, ns m hn, fun i x v e1 e2 e3 => ?_⟩
    obtain ⟨u, r, l⟩ := hl i x v e1 e2 e3
    refine ⟨u, r, ?_⟩
    rcases l with l | ⟨k, c, e, z⟩
    · exact .inl l
    · exact .inr ⟨k, c, e, cellK x c e _ z⟩
  · obtain ⟨v, z⟩ := I.cell x c e
    exact ⟨v, cellK x c e v z⟩
  · obtain ⟨m, ⟨o, _, _, ho, _⟩, _⟩ := I.loc
    exact free _ o (fun z => (hch _ z).2.1 rfl) ho I.free
  · obtain ⟨v, o, ho, hd⟩ := I.cell x c e
    exact free c o (fun z => (hch c z).2.2.1 x c e rfl) ho (I.freeC x c e)
  · obtain ⟨e, n, ne, nf, d⟩ := I.pin p hp
    have nch : p.1 ∉ ch := fun z => (hch p.1 z).2.2.2 p hp rfl
    exact ⟨keep p.1 p.2 ne nf nch e n, free p.1 p.2 nch e n, ne, nf, d⟩
/-- .. where the frame's own object is kept too -/
theorem Inv.un {t' : Nat} (I : Inv X pins σ H s) (u : Un X.fs [] H H' s.heap h') (hok : HOk X.prog X.w H' h') : Inv X pins σ H' { s with heap := h', toks := t' } := by
  obtain ⟨m, ⟨o, es, ep, ho, r⟩, _⟩ := id I.loc
  obtain ⟨sl, hL⟩ := u.any ho I.free (by simp)
  exact I.step (g' := s.gens) (d' := s.drawn) (ch := []) (fun _ z => nomatch z) (fun b o _ hb _ e n => u.keep b o e n hb (by simp)) (fun b o _ hb _ e n => u.slot b o e n hb (by simp)) (fun b o _ e n => u.free b o e n (by simp)) (fun b o _ e => u.there b o e (by simp)) u.tups u.frzs u.tbls (fun m' hm => by
    obtain ⟨o', es', ep', ho', r'⟩ := hm
    rw [ho] at ho'; cases ho'
    exact ⟨_, es', ep', hL, r'⟩) hok I.bare
/-- behind a call (or a comprehension's block): the slots of this frame may have changed too, the records at ch may have turned -/
theorem Inv.call {g' : Array GenState} {t' : Nat} {d' : Drawn} {ch : List Addr} (I : Inv X pins σ H s) (u : Un (frs X.stack) ch H H' s.heap h') (hok : HOk X.prog X.w H' h') (hg : AllBare g')
    (hch : ∀ b ∈ ch, (b ∈ X.ex ∨ X.s₀.heap.objs.size ≤ b) ∧ b ≠ X.env.locals ∧ (∀ x c, X.env.cells.lookup x = some c → c ≠ b) ∧ ∀ p ∈ X.pn ++ pins, p.1 ≠ b) :
    Inv X pins σ H' { s with heap := h', gens := g', drawn := d', toks := t' } := by
  obtain ⟨m, ⟨o, es, ep, ho, r⟩, _⟩ := id I.loc
  obtain ⟨sl, hL⟩ := u.any ho I.free fun z => (hch _ z).2.1 rfl
  exact I.step (ch := ch) hch (fun b o hL hb hc e n => u.keep b o e n (fun z => (List.mem_cons.mp (I.stkSub b z)).elim hL hb) hc) (fun b o _ _ hc e n => u.any e n hc) (fun b o hc e n => u.free b o e n hc) (fun b o hc e => u.there b o e hc) u.tups u.frzs u.tbls (fun m' hm => by
    obtain ⟨o', es', ep', ho', r'⟩ := hm
    rw [ho] at ho'; cases ho'
    exact ⟨_, es', ep', hL, r'⟩) hok hg
/-- an untracked record of ours (an iterator) has turned -/
theorem Inv.turned {t' : Nat} {it : Addr} (I : Inv X pins σ H s) (k : ∀ b o, b ≠ it → s.heap.get? b = some o → h'.get? b = some o) (hn : H it = none) (hL : it ≠ X.env.locals)
    (h1 : it ∈ X.ex ∨ X.s₀.heap.objs.size ≤ it) (h2 : ∀ x c, X.env.cells.lookup x = some c → c ≠ it) (h3 : ∀ p ∈ X.pn ++ pins, p.1 ≠ it) : Inv X pins σ H { s with heap := h', toks := t' } := by
  have nit : ∀ b u, H b = some u → b ≠ it := fun b u e z => by rw [z, hn] at e; cases e
  refine I.step (g' := s.gens) (d' := s.drawn) (ch := [it]) (fun b hb => ?_) (fun b o _ _ hc e _ => k b o (fun z => hc (by simp [z])) e) (fun b o _ _ hc e _ => ⟨o.slots, k b o (fun z => hc (by simp [z])) e⟩) (fun _ _ _ _ n => n)
    (fun b o hc e => ⟨o, k b o (fun z => hc (by simp [z])) e⟩) (fun _ _ e => e) (fun _ _ _ e => e) (fun b ps e => ⟨#[], by rw [e]; simp⟩) (fun m hm => ?_) (fun b u e => ?_) I.bare
  · have e : b = it := by simpa using hb
    subst e
    exact ⟨h1, hL, h2, h3⟩
  · obtain ⟨o, es, ep, ho, r⟩ := hm
    exact ⟨o, es, ep, k _ o (Ne.symm hL) ho, r⟩
  · refine (I.hok b u e).stay (fun c v hc q => k c v ?_ q) (fun _ q => q) fun _ _ q => q
    rcases hc with z | z
    · rw [z]; exact nit b u e
    · exact nit c _ z
theorem Inv.tok (I : Inv X pins σ H s) (t : Nat) : Inv X pins σ H { s with toks := t } := I.un (h' := s.heap) (t' := t) Un.refl I.hok
/-- all objects kept -/
theorem Inv.kept {t' : Nat} (I : Inv X pins σ H s) (k : ∀ b u, s.heap.get? b = some u → h'.get? b = some u) : Inv X pins σ H { s with heap := h', toks := t' } := I.un (Un.kept k) (I.hok.kept k)
/-- a new object laid and tracked -/
theorem Inv.laid {a : Addr} {o : HO} {t' : Nat} (I : Inv X pins σ H s) (k : ∀ b u, s.heap.get? b = some u → h'.get? b = some u) (hp : s.heap.objs.size ≤ a) (new : ObjOk X.prog X.w (upd H a o) h' a o) :
    Inv X pins σ (upd H a o) { s with heap := h', toks := t' } := I.un (Un.laid k hp (I.hok.fresh hp)) (I.hok.laid k hp new)
/-- an object written -/
theorem Inv.write {x e : Addr} {o : HO} {t' : Nat} (I : Inv X pins σ H s) (mu : Mut (H x)) (he : e = x ∨ H e = some (.own x)) (k : ∀ b u, b ≠ e → s.heap.get? b = some u → h'.get? b = some u) (heo : ∃ u, h'.get? e = some u)
    (new : ObjOk X.prog X.w (upd H x o) h' x o) : Inv X pins σ (upd H x o) { s with heap := h', toks := t' } := I.un (Un.write mu he k heo) (I.hok.write mu he k heo new)
/-- forgetting slots, pins -/
theorem Inv.weak {σ' : List (Option V)} (I : Inv X pins σ H s) (hl : σ'.length = σ.length) (w : ∀ (i : Nat) v, σ'[i]? = some (some v) → σ[i]? = some (some v)) : Inv X pins σ' H s :=
  ⟨I.ok, I.os, I.bare, I.base, let ⟨m, hn, hl'⟩ := I.loc; ⟨m, hn, fun i x v e1 e2 e3 => hl' i x v e1 (w i v e2) e3⟩, I.cell, I.free, I.freeC, I.pin, I.hok, hl.trans I.len⟩
theorem Inv.pins_of {pins' : List (Addr × Obj)} (I : Inv X pins σ H s) (h : ∀ p ∈ pins', s.heap.get? p.1 = some p.2 ∧ H p.1 = none ∧ p.1 ≠ X.env.locals ∧ p.1 ∉ X.fs ∧ ∀ v, p.2.data ≠ .cell v) : Inv X pins' σ H s :=
  ⟨I.ok, I.os, I.bare, I.base, I.loc, I.cell, I.free, I.freeC, fun p hp => (List.mem_append.mp hp).elim (fun z => I.pin p (List.mem_append_left _ z)) (h p), I.hok, I.len⟩

theorem nodup_ix {N : List Str} (hN : N.Nodup) {i j : Nat} {x : Str} (a : N[i]? = some x) (b : N[j]? = some x) : i = j := by
  obtain ⟨h1, e1⟩ := List.getElem?_eq_some_iff.mp a
  obtain ⟨h2, e2⟩ := List.getElem?_eq_some_iff.mp b
  exact (List.getElem_inj hN).mp (e1.trans e2.symm)

/-- a name is stored; what changed -/
theorem store_ok2 {M : Model} {A : Around} {E : Value → Shared → Prop} {i : Nat} {x : Str} {v : V} {u : Value} {Q : Unit → Shared → Prop} (I : Inv X pins σ H s) (hN : X.N.Nodup) (hi : X.N[i]? = some x) (hx : Loc X.env.scope x) (r : RelV v u)
    (h : ∀ s', Inv X pins (σ.set i (some v)) H s' → (∃ a, Heap.SameBut a s.heap s'.heap ∧ (a = X.env.locals ∨ X.env.cells.lookup x = some a)) → Q () s') (hf : X.fn x = true ∨ X.env.scope.names.lookup x = some .local := by first | exact .inl rfl | exact .inr rfl | assumption) : wpAny M A (storeName X.env x u) Q E s := by
  obtain ⟨m, hn, hl⟩ := id I.loc
  have hcls : (X.env.scope.kind == .class || (X.env.scope.kind == .module && X.env.locals != X.env.globals)) = false := by rw [I.ok.kind]; rfl
  have hiσ : i < σ.length := by rw [I.len]; exact (List.getElem?_eq_some_iff.mp hi).1
  have cne := I.cne
  have tracked : ∀ {a : Addr} {h' : Heap}, (∃ o, s.heap.get? a = some o ∧ H a = none) → Heap.SameBut a s.heap h' → HOk X.prog X.w H h' := fun {a h'} ha hs b ob e => by
    obtain ⟨_, _, hfree⟩ := ha
    refine (I.hok b ob e).stay (fun c w' hc q => (hs.2 c ?_).trans q) (fun _ q => q) fun _ _ q => q
    rintro rfl
    rcases hc with rfl | hc
    · rw [hfree] at e; cases e
    · rw [hfree] at hc; cases hc
  rcases hx with hk | hk
  · refine wpAny_storeName_local hk hn (fun h' hn' hs => ?_) hcls
    obtain ⟨oL, _, _, hoL, _⟩ := id hn
    refine h _ ⟨I.ok, I.os, I.bare, ⟨fun b o e n hb hx => ?_, fun b o e n hb hx => ?_, I.base.free, fun b o e hx => ?_, I.base.tups, I.base.frzs, I.base.tbls⟩, ⟨_, hn', fun j y v' e1 e2 e3 => ?_⟩, fun y c e => ?_, I.free, I.freeC, fun p hp => ?_, tracked ⟨oL, hoL, I.free⟩ hs, by simpa using I.len⟩ ⟨_, hs, .inl rfl⟩
    · exact (hs.2 b (Nat.ne_of_lt (Nat.lt_of_lt_of_le (Heap.lt_size e) I.ok.above))).trans (I.base.keep b o e n hb hx)
    · obtain ⟨sl, e1⟩ := I.base.slot b o e n hb hx
      exact ⟨sl, (hs.2 b (Nat.ne_of_lt (Nat.lt_of_lt_of_le (Heap.lt_size e) I.ok.above))).trans e1⟩
    · obtain ⟨o', e1⟩ := I.base.there b o e hx
      exact ⟨o', (hs.2 b (Nat.ne_of_lt (Nat.lt_of_lt_of_le (Heap.lt_size e) I.ok.above))).trans e1⟩
    · by_cases hj : j = i
      · subst hj
        rw [hi] at e1; cases e1
        rw [List.getElem?_set_self hiσ] at e2
        cases e2
        exact ⟨u, r, .inl ⟨hk, by simp⟩⟩
      · rw [List.getElem?_set_ne (Ne.symm hj)] at e2
        obtain ⟨u', r', q⟩ := hl j y v' e1 e2 e3
        refine ⟨u', r', ?_⟩
        rcases q with ⟨k, e⟩ | ⟨k, c, e, z⟩
        · refine .inl ⟨k, ?_⟩
          have : y ≠ x := fun e => hj (nodup_ix hN e1 (e ▸ hi))
          simp [this, e]
        · exact .inr ⟨k, c, e, z.sameBut hs (cne y c e)⟩
    · obtain ⟨w', z⟩ := I.cell y c e
      exact ⟨w', z.sameBut hs (cne y c e)⟩
    · obtain ⟨e, n, ne, nf, d⟩ := I.pin p hp
      exact ⟨(hs.2 p.1 ne).trans e, n, ne, nf, d⟩
  · have hfn : X.fn x = true := by
      rcases hf with z | z
      · exact z
      · rw [z] at hk; cases hk
    obtain ⟨c, hc⟩ := I.ok.has x (.inl hk)
    obtain ⟨w', z⟩ := I.cell x c hc
    refine wpAny_storeName_cell I.ok.kind hk hc z (fun h' hc' hs => ?_)
    obtain ⟨oc, hoc, hocd⟩ := id z
    refine h { s with heap := h' } ⟨I.ok, I.os, I.bare, ⟨fun b o e n hb hx => ?_, fun b o e n hb hx => ?_, I.base.free, fun b o e hx => ?_, I.base.tups, I.base.frzs, I.base.tbls⟩, ⟨m, hn.sameBut hs (Ne.symm (cne x c hc)), fun j y v' e1 e2 e3 => ?_⟩, fun y c' e => ?_, I.free, I.freeC, fun p hp => ?_, tracked ⟨oc, hoc, I.freeC x c hc⟩ hs, by simpa using I.len⟩ ⟨c, hs, .inr hc⟩
    · exact (hs.2 b (Nat.ne_of_lt (Nat.lt_of_lt_of_le (Heap.lt_size e) (I.ok.cab x c hfn hc)))).trans (I.base.keep b o e n hb hx)
    · obtain ⟨sl, e1⟩ := I.base.slot b o e n hb hx
      exact ⟨sl, (hs.2 b (Nat.ne_of_lt (Nat.lt_of_lt_of_le (Heap.lt_size e) (I.ok.cab x c hfn hc)))).trans e1⟩
    · obtain ⟨o', e1⟩ := I.base.there b o e hx
      exact ⟨o', (hs.2 b (Nat.ne_of_lt (Nat.lt_of_lt_of_le (Heap.lt_size e) (I.ok.cab x c hfn hc)))).trans e1⟩
    · by_cases hj : j = i
      · subst hj
        rw [hi] at e1; cases e1
        rw [List.getElem?_set_self hiσ] at e2
        cases e2
        exact ⟨u, r, .inr ⟨.inl hk, c, hc, hc'⟩⟩
      · rw [List.getElem?_set_ne (Ne.symm hj)] at e2
        obtain ⟨u', r', q⟩ := hl j y v' e1 e2 e3
        refine ⟨u', r', ?_⟩
        rcases q with q | ⟨k, c', e, z'⟩
        · exact .inl q
        · refine .inr ⟨k, c', e, z'.sameBut hs ?_⟩
          rintro rfl
          exact hj (nodup_ix hN e1 (I.ok.inj _ _ _ e hc ▸ hi))
    · by_cases hcc : c' = c
      · subst hcc; exact ⟨_, hc'⟩
      · obtain ⟨w2, z2⟩ := I.cell y c' e
        exact ⟨w2, z2.sameBut hs hcc⟩
    · obtain ⟨e, n, ne, nf, d⟩ := I.pin p hp
      refine ⟨(hs.2 p.1 ?_).trans e, n, ne, nf, d⟩
      intro q
      rw [q, hoc] at e
      have q' : oc = p.2 := Option.some.inj e
      exact d w' (by rw [← q']; exact hocd)
theorem store_ok {M : Model} {A : Around} {E : Value → Shared → Prop} {i : Nat} {x : Str} {v : V} {u : Value} {Q : Unit → Shared → Prop} (I : Inv X pins σ H s) (hN : X.N.Nodup) (hi : X.N[i]? = some x) (hx : Loc X.env.scope x) (r : RelV v u)
    (h : ∀ s', Inv X pins (σ.set i (some v)) H s' → Q () s') (hf : X.fn x = true ∨ X.env.scope.names.lookup x = some .local := by first | exact .inl rfl | exact .inr rfl | assumption) : wpAny M A (storeName X.env x u) Q E s :=
  store_ok2 I hN hi hx r (fun s' I' _ => h s' I') hf
/-- behind a call or a block, the state as it is -/
theorem Inv.call' {s' : Shared} {ch : List Addr} (I : Inv X pins σ H s) (ho : s'.os = s.os) (u : Un (frs X.stack) ch H H' s.heap s'.heap) (hok : HOk X.prog X.w H' s'.heap) (hg : AllBare s'.gens)
    (hch : ∀ b ∈ ch, (b ∈ X.ex ∨ X.s₀.heap.objs.size ≤ b) ∧ b ≠ X.env.locals ∧ (∀ x c, X.env.cells.lookup x = some c → c ≠ b) ∧ ∀ p ∈ X.pn ++ pins, p.1 ≠ b) : Inv X pins σ H' s' := by
  obtain ⟨h', g', d', t', o'⟩ := s'
  have e : o' = s.os := ho
  subst e
  exact I.call (g' := g') (t' := t') (d' := d') u hok hg hch
end

/-! ### the judgements -/
/-- an exception: its class, its own dict's address (where it has one), the abstract heap behind it -/
abbrev XK := Value → Option Addr → Hp → Prop
abbrev St := List (Option V)
abbrev VK := V → Hp → Prop
/-- an expression's reading; a test's; an argument list's -/
abbrev TE := St → Hp → VK → Prop
abbrev TT := St → Hp → (Bool → Hp → Prop) → Prop
abbrev TA := St → Hp → (List V → Hp → Prop) → Prop
/-- what is wanted behind a statement -/
structure Ends where
  nx : St → Hp → Prop
  rt : VK
  bk : St → Hp → Prop := fun _ _ => False
  ct : St → Hp → Prop := fun _ _ => False
abbrev TS := Ends → St → Hp → Prop

def EP (X : Cx) (pins : List (Addr × Obj)) (σ : St) (Q : VK) (u : Value) (s' : Shared) : Prop := ∃ v H', Inv X pins σ H' s' ∧ RelV v u ∧ Q v H'
def TP (X : Cx) (pins : List (Addr × Obj)) (σ : St) (Q : Bool → Hp → Prop) (b : Bool) (s' : Shared) : Prop := ∃ H', Inv X pins σ H' s' ∧ Q b H'
def AP (X : Cx) (pins : List (Addr × Obj)) (σ : St) (Q : List V → Hp → Prop) (us : List Value) (s' : Shared) : Prop := ∃ vs H', Inv X pins σ H' s' ∧ Vals vs us ∧ Q vs H'
def SP (X : Cx) (pins : List (Addr × Obj)) (D : Ends) (f : Flow) (s' : Shared) : Prop :=
  match f with
  | .next => ∃ σ' H', Inv X pins σ' H' s' ∧ D.nx σ' H'
  | .brk => ∃ σ' H', Inv X pins σ' H' s' ∧ D.bk σ' H'
  | .cont => ∃ σ' H', Inv X pins σ' H' s' ∧ D.ct σ' H'
  | .ret u => ∃ v σ' H', Inv X pins σ' H' s' ∧ RelV v u ∧ D.rt v H'

def PE (X : Cx) (e : Expr) (t : TE) : Prop :=
  ∀ (pins : List (Addr × Obj)) (s : Shared) (σ : St) (H : Hp) (Q : VK), Inv X pins σ H s → t σ H Q → wpAny (model X.prog X.w) X.A (eval e X.env) (EP X pins σ Q) X.xe s
def PT (X : Cx) (e : Expr) (t : TT) : Prop :=
  ∀ (pins : List (Addr × Obj)) (s : Shared) (σ : St) (H : Hp) (Q : Bool → Hp → Prop), Inv X pins σ H s → t σ H Q → wpAny (model X.prog X.w) X.A (isTrue e X.env (eval e X.env)) (TP X pins σ Q) X.xe s
/-- a test whatever its 'whole' is (and, or) -/
def PW (X : Cx) (e : Expr) (t : TT) : Prop :=
  ∀ (whole : Sem Value) (pins : List (Addr × Obj)) (s : Shared) (σ : St) (H : Hp) (Q : Bool → Hp → Prop), Inv X pins σ H s → t σ H Q → wpAny (model X.prog X.w) X.A (isTrue e X.env whole) (TP X pins σ Q) X.xe s
theorem PW.pt {X : Cx} {e : Expr} {t : TT} (h : PW X e t) : PT X e t := h _
/-- an argument list (no star), from the left -/
def PA (X : Cx) (es : List Expr) (t : TA) : Prop :=
  ∀ (pos : Pos) (pins : List (Addr × Obj)) (s : Shared) (σ : St) (H : Hp) (Q : List V → Hp → Prop), Inv X pins σ H s → t σ H Q → wpAny (model X.prog X.w) X.A (spliced (backTo pos (starEach es X.env))) (AP X pins σ Q) X.xe s
def PS (X : Cx) (st : Stmt) (t : TS) : Prop :=
  ∀ (pins : List (Addr × Obj)) (s : Shared) (σ : St) (H : Hp) (D : Ends), Inv X pins σ H s → t D σ H → wpAny (model X.prog X.w) X.A (exec st X.env) (SP X pins D) X.xe s
def PSs (X : Cx) (st : List Stmt) (t : TS) : Prop :=
  ∀ (pins : List (Addr × Obj)) (s : Shared) (σ : St) (H : Hp) (D : Ends), Inv X pins σ H s → t D σ H → wpAny (model X.prog X.w) X.A (execs st X.env) (SP X pins D) X.xe s
/-- weaken the end -/
theorem thn {α : Type} {t : Sem α} {Q Q' : α → Shared → Prop} {M : Model} {A : Around} {E : Value → Shared → Prop} {s : Shared} (h : wpAny M A t Q E s) (hQ : ∀ a s, Q a s → Q' a s) : wpAny M A t Q' E s := wpAny_mono h hQ fun _ _ x => x
end L2

namespace L2
open PySem PySem.Spec PyProof.Rows
section
variable {X : Cx}

/-! ### names and constants -/
def tVar (i : Nat) : TE := fun σ H Q => ∃ v, σ[i]? = some (some v) ∧ Q v H
def tC (v : V) : TE := fun _ H Q => Q v H
theorem pe_var {i : Nat} {x : Str} {pos : Pos} (hN : X.N[i]? = some x) (hv : Vis X.env.scope x) (hd : (x == ("__debug__" : Str)) = false := by decide) (hcd : (x == ("__classdict__" : Str)) = false := by decide) : PE X (.Name x pos) (tVar i) := by
  intro pins s σ H Q I h
  obtain ⟨v, e, h⟩ := h
  obtain ⟨m, hn, hl⟩ := I.loc
  obtain ⟨u, r, l⟩ := hl i x v hN e hv
  have fin : EP X pins σ Q u s := ⟨v, H, I, r, h⟩
  rcases l with ⟨hk, hm⟩ | ⟨hk, c, hc, hcell⟩
  · exact wpAny_Name (wpAny_loadName_local I.ok.kind hk hn hm fin) hd
  · rcases hk with hk | hk
    · exact wpAny_Name (wpAny_loadName_cell I.ok.kind hk hc hcell fin) hd
    · exact wpAny_Name (wpAny_loadName_free I.ok.kind hk hc hcell fin hcd) hd
theorem pe_int {i j pos} : PE X (.Constant (.int i) j pos) (tC (.int i)) := fun _ _ _ H _ I h => wpAny_Constant_int ⟨.int i, H, I.tok _, ⟨_, rfl⟩, h⟩
theorem pe_bl {b j pos} : PE X (.Constant (.bool b) j pos) (tC (.bl b)) := fun _ _ _ H _ I h => Constant_bool ⟨.bl b, H, I, rfl, h⟩
theorem pe_non {j pos} : PE X (.Constant .none j pos) (tC .non) := fun _ _ _ H _ I h => Constant_none ⟨.non, H, I, rfl, h⟩
theorem pe_str {x j pos} : PE X (.Constant (.str x) j pos) (tC (.str x)) := fun _ _ _ H _ I h => Calls.Constant_str ⟨.str x, H, I.tok _, ⟨_, rfl⟩, h⟩

/-- a global name of the def -/
def Gl (X : Cx) (x : Str) : Prop := X.env.kindOf x = some .globalImplicit
theorem ld_glob {E : Value → Shared → Prop} {pins : List (Addr × Obj)} {s : Shared} {σ : St} {H : Hp} {x : Str} {u : Value} {pos : Pos} {Q : Value → Shared → Prop} (I : Inv X pins σ H s) (hg : Gl X x) (hm : X.mg x = some u) (h : Q u s)
    (hd : (x == ("__debug__" : Str)) = false := by decide) : wpAny (model X.prog X.w) X.A (eval (.Name x pos) X.env) Q E s :=
  Calls.Name_function_global I.ok.kind hg (Calls.loadGlobal_global (by rw [I.ok.glob]; exact I.mod.glob.keeps I.bk) hm h) hd
theorem ld_blt {E : Value → Shared → Prop} {pins : List (Addr × Obj)} {s : Shared} {σ : St} {H : Hp} {x : Str} {u : Value} {pos : Pos} {Q : Value → Shared → Prop} (I : Inv X pins σ H s) (hg : Gl X x) (hm : X.mg x = none) (hv : bootBuiltins x = some u) (h : Q u s)
    (hn : x ≠ "__name__" := by decide) (hd : (x == ("__debug__" : Str)) = false := by decide) : wpAny (model X.prog X.w) X.A (eval (.Name x pos) X.env) Q E s := by
  obtain ⟨mb, h1, h2⟩ := I.mod.blt
  exact Calls.Name_function_global I.ok.kind hg (Calls.loadGlobal_builtin (by rw [I.ok.glob]; exact I.mod.glob.keeps I.bk) hm (by rw [I.ok.blt]; exact h1.keeps I.bk) ((h2 x hn).trans hv) h) hd
/-- a module's constant, a class, a function, as a value -/
theorem pe_glob {x : Str} {v : V} {u : Value} {pos : Pos} (hg : Gl X x) (hm : X.mg x = some u) (r : RelV v u) (hd : (x == ("__debug__" : Str)) = false := by decide) : PE X (.Name x pos) (tC v) :=
  fun _ _ _ H _ I h => ld_glob I hg hm ⟨v, H, I, r, h⟩ hd
theorem pe_bltn {x : Str} {v : V} {u : Value} {pos : Pos} (hg : Gl X x) (hm : X.mg x = none) (hv : bootBuiltins x = some u) (r : RelV v u) (hn : x ≠ "__name__" := by decide) (hd : (x == ("__debug__" : Str)) = false := by decide) : PE X (.Name x pos) (tC v) :=
  fun _ _ _ H _ I h => ld_blt I hg hm hv ⟨v, H, I, r, h⟩ hn hd

/-! ### arithmetic -/
variable {a b : Expr} {ta tb : TE} {pos : Pos}
/-! ### comparisons -/
/-- a comparison as a value, as a test -/
def tB (t : TE) : TT := fun σ H Q => t σ H fun x H1 => ∃ c, x = .bl c ∧ Q c H1
/-- an expression whose value is a bool, as a test -/
theorem pt_val {e : Expr} {t : TE} (h : PE X e t) (he : ∀ whole, isTrue e X.env whole = (do let v ← whole; standAt e.pos; holding [v] (truthy v)) := by intro _; rfl) : PT X e (tB t) := by
  intro pins s σ H Q I hw
  refine isTrue_plain (thn (h pins s σ H _ I hw) fun v s1 ⟨x, H1, I1, r1, q1⟩ => ?_) (he _)
  obtain ⟨d, rfl, q⟩ := q1
  cases r1
  exact wpAny_truthy_bool ⟨H1, I1, q⟩

/-! ### and, or, not -/
variable {tA tB' : TT} {rest : List Expr}
def tAnd (t u : TT) : TT := fun σ H Q => t σ H fun c H1 => if c = true then u σ H1 Q else Q false H1
def tOr (t u : TT) : TT := fun σ H Q => t σ H fun c H1 => if c = true then Q true H1 else u σ H1 Q
def tNot (t : TT) : TT := fun σ H Q => t σ H fun c H1 => Q (!c) H1
theorem pw_and1 (ha : PT X a tA) : PW X (.BoolOp .And [a] pos) tA := by
  intro wh pins s σ H Q I h
  refine isTrue_and (thn (ha pins s σ H Q I h) fun c s1 e => ?_)
  cases c with
  | true => exact isTrue_and_nil e
  | false => exact e
theorem pw_or1 (ha : PT X a tA) : PW X (.BoolOp .Or [a] pos) tA := by
  intro wh pins s σ H Q I h
  refine isTrue_or (thn (ha pins s σ H Q I h) fun c s1 e => ?_)
  cases c with
  | false => exact isTrue_or_nil e
  | true => exact e
theorem pw_and (ha : PT X a tA) (hb : PW X (.BoolOp .And (b :: rest) pos) tB') : PW X (.BoolOp .And (a :: b :: rest) pos) (tAnd tA tB') := by
  intro wh pins s σ H Q I h
  refine isTrue_and (thn (ha pins s σ H _ I h) fun c s1 ⟨H1, I1, q1⟩ => ?_)
  cases c with
  | true => exact hb wh pins s1 σ H1 Q I1 q1
  | false => exact ⟨H1, I1, q1⟩
theorem pw_or (ha : PT X a tA) (hb : PW X (.BoolOp .Or (b :: rest) pos) tB') : PW X (.BoolOp .Or (a :: b :: rest) pos) (tOr tA tB') := by
  intro wh pins s σ H Q I h
  refine isTrue_or (thn (ha pins s σ H _ I h) fun c s1 ⟨H1, I1, q1⟩ => ?_)
  cases c with
  | true => exact ⟨H1, I1, q1⟩
  | false => exact hb wh pins s1 σ H1 Q I1 q1
theorem pt_not (ha : PT X a tA) : PT X (.UnaryOp .Not a pos) (tNot tA) := by
  intro pins s σ H Q I h
  exact isTrue_not (ha pins s σ H (fun c H1 => Q (!c) H1) I h)
/-- .. as values (bools) -/
def tAndV (ta tb : TE) : TE := fun σ H Q => ta σ H fun x H1 => ∃ c, x = .bl c ∧ if c = true then tb σ H1 Q else Q (.bl false) H1
def tOrV (ta tb : TE) : TE := fun σ H Q => ta σ H fun x H1 => ∃ c, x = .bl c ∧ if c = true then Q (.bl true) H1 else tb σ H1 Q
def tNotV (ta : TE) : TE := fun σ H Q => ta σ H fun x H1 => ∃ c, x = .bl c ∧ Q (.bl (!c)) H1
theorem pe_one {op} {t : TE} (h : PE X a t) : PE X (.BoolOp op [a] pos) t := fun pins s σ H Q I hw => BoolOp_one (h pins s σ H Q I hw)
theorem pe_and (ha : PE X a ta) (hb : PE X (.BoolOp .And (b :: rest) pos) tb) : PE X (.BoolOp .And (a :: b :: rest) pos) (tAndV ta tb) := by
  intro pins s σ H Q I h
  refine BoolOp_and (thn (ha pins s σ H _ I h) fun v s1 ⟨x, H1, I1, r1, q1⟩ => ?_)
  obtain ⟨c, rfl, q1⟩ := q1
  cases r1
  refine wpAny_truthy_bool ?_
  cases c with
  | true => exact hb pins s1 σ H1 Q I1 q1
  | false => exact ⟨.bl false, H1, I1, rfl, q1⟩
theorem pe_or (ha : PE X a ta) (hb : PE X (.BoolOp .Or (b :: rest) pos) tb) : PE X (.BoolOp .Or (a :: b :: rest) pos) (tOrV ta tb) := by
  intro pins s σ H Q I h
  refine BoolOp_or (thn (ha pins s σ H _ I h) fun v s1 ⟨x, H1, I1, r1, q1⟩ => ?_)
  obtain ⟨c, rfl, q1⟩ := q1
  cases r1
  refine wpAny_truthy_bool ?_
  cases c with
  | false => exact hb pins s1 σ H1 Q I1 q1
  | true => exact ⟨.bl true, H1, I1, rfl, q1⟩
theorem pe_not (ha : PE X a ta) : PE X (.UnaryOp .Not a pos) (tNotV ta) := by
  intro pins s σ H Q I h
  refine UnaryOp_ (thn (ha pins s σ H _ I h) fun v s1 ⟨x, H1, I1, r1, q1⟩ => ?_)
  obtain ⟨c, rfl, q1⟩ := q1
  cases r1
  exact not_of (wpAny_truthy_bool ⟨.bl (!c), H1, I1, rfl, q1⟩)
end
end L2

namespace L2
open PySem PySem.Spec PyProof.Rows

/-! ### a list, a tuple that is read: tracked, frozen, or an object of the module -/
def SqL (K : PySem.W.Frag) (H : Hp) (a : Addr) (xs : List V) : Prop :=
  Rd H a (.lst xs) ∨
    ∃ (o : Obj) (its : Array Value) (n : Nat), K.lookup a = some o ∧ o.cls = .type "list" ∧ o.dict = none ∧ o.data = .seq its n ∧ its.size ≤ sizeLine ∧ Vals xs its.toList
def SqT (K : PySem.W.Frag) (H : Hp) (a : Addr) (xs : List V) : Prop :=
  Rd H a (.tup xs) ∨
    ∃ (o : Obj) (its : Array Value) (n : Nat), K.lookup a = some o ∧ o.cls = .type "tuple" ∧ o.data = .seq its n ∧ its.size ≤ sizeLine ∧ Vals xs its.toList
def absV : Value → Option V
  | .none => some .non
  | .bool b => some (.bl b)
  | .int i _ => some (.int i)
  | .str x _ => some (.str x)
  | .bytes b _ => some (.byt b)
  | .float b _ => some (.flt b)
  | .ref a => some (.ref a)
  | .type n => some (.ty n)
  | _ => none
theorem RelV.abs {x : V} {u : Value} (r : RelV x u) : absV u = some x := by
  cases x with
  | non => cases r; rfl
  | bl _ => cases r; rfl
  | int _ => obtain ⟨t, rfl⟩ := r; rfl
  | str _ => obtain ⟨t, rfl⟩ := r; rfl
  | byt _ => obtain ⟨t, rfl⟩ := r; rfl
  | flt _ => obtain ⟨t, rfl⟩ := r; rfl
  | ref _ => cases r; rfl
  | ty _ => cases r; rfl
theorem RelV.inj {x y : V} {u : Value} (r : RelV x u) (q : RelV y u) : x = y := Option.some.inj (r.abs.symm.trans q.abs)
theorem Vals.inj : ∀ {xs ys : List V} {us : List Value}, Vals xs us → Vals ys us → xs = ys
  | _, _, _, .nil, .nil => rfl
  | _, _, _, .cons r t, .cons r' t' => by rw [r.inj r', Vals.inj t t']
section
variable {X : Cx} {pins : List (Addr × Obj)} {σ : St} {H : Hp} {s : Shared} {a : Addr} {xs ys : List V}
theorem SqL.of {K : PySem.W.Frag} (h : H a = some (.lst xs)) : SqL K H a xs := .inl (.inl h)
theorem SqT.of {K : PySem.W.Frag} (h : H a = some (.tup xs)) : SqT K H a xs := .inl (.inl h)
theorem Inv.list (I : Inv X pins σ H s) (h : SqL X.K H a xs) : ∃ its : List Value, Vals xs its ∧ PlainL s.heap a its.toArray ∧ xs.length ≤ sizeLine := by
  rcases h with h | ⟨o, its, n, hk, hc, hd, hs, hz, r⟩
  · obtain ⟨z, its, n, r, e⟩ := h.ok I.hok
    exact ⟨its, r, ⟨_, n, e, rfl, rfl, rfl⟩, z⟩
  · refine ⟨its.toList, r, ⟨o, n, I.kIn a o hk, hc, hd, by simpa using hs⟩, ?_⟩
    have e := r.length
    simp only [Array.length_toList] at e
    omega
theorem Inv.tuple (I : Inv X pins σ H s) (h : SqT X.K H a xs) : ∃ its : List Value, Vals xs its ∧ IsTup s.heap a its.toArray ∧ xs.length ≤ sizeLine := by
  rcases h with h | ⟨o, its, n, hk, hc, hs, hz, r⟩
  · obtain ⟨z, its, r, p⟩ := h.ok I.hok
    exact ⟨its, r, p, z⟩
  · refine ⟨its.toList, r, ⟨o, I.kIn a o hk, hc, n, by simpa using hs⟩, ?_⟩
    have e := r.length
    simp only [Array.length_toList] at e
    omega
theorem Inv.list_inj (I : Inv X pins σ H s) (h : SqL X.K H a xs) (h' : SqL X.K H a ys) : xs = ys := by
  obtain ⟨its, r, ⟨o, n, e, _, _, d⟩, _⟩ := I.list h
  obtain ⟨its', r', ⟨o', n', e', _, _, d'⟩, _⟩ := I.list h'
  rw [e] at e'; cases e'
  rw [d] at d'
  injection d' with d1 _
  have : its = its' := by simpa using congrArg Array.toList d1
  subst this
  exact r.inj r'
end

/-! ### another wish about exceptions -/
abbrev Cx.wish (X : Cx) (E : Value → Shared → Prop) : Cx := { X with xe := E }
/-- no exception leaves -/
abbrev Cx.nox (X : Cx) : Cx := X.wish fun _ _ => False
theorem Cx.Ok.wish {X : Cx} (ok : X.Ok) (E : Value → Shared → Prop) : (X.wish E).Ok :=
  ⟨ok.mod, ok.kind, ok.glob, ok.blt, ok.above, ok.inj, ok.has, ok.cab, ok.hd, ok.frames, ok.stk, ok.exf, ok.bs, ok.bsz, ok.noex, ok.exfs, ok.funs, ok.frf⟩
theorem Cx.Ok.unwish {X : Cx} {E : Value → Shared → Prop} (ok : (X.wish E).Ok) : X.Ok :=
  ⟨ok.mod, ok.kind, ok.glob, ok.blt, ok.above, ok.inj, ok.has, ok.cab, ok.hd, ok.frames, ok.stk, ok.exf, ok.bs, ok.bsz, ok.noex, ok.exfs, ok.funs, ok.frf⟩
section
variable {X : Cx} {pins : List (Addr × Obj)} {σ : St} {H : Hp} {s : Shared} {E : Value → Shared → Prop}
theorem Inv.wish (I : Inv X pins σ H s) (E : Value → Shared → Prop) : Inv (X.wish E) pins σ H s := ⟨I.ok.wish E, I.os, I.bare, I.base, I.loc, I.cell, I.free, I.freeC, I.pin, I.hok, I.len⟩
theorem Inv.unwish (I : Inv (X.wish E) pins σ H s) : Inv X pins σ H s := ⟨I.ok.unwish, I.os, I.bare, I.base, I.loc, I.cell, I.free, I.freeC, I.pin, I.hok, I.len⟩
theorem SP.unwish {D : Ends} {f : Flow} {s' : Shared} (h : SP (X.wish E) pins D f s') : SP X pins D f s' := by
  cases f with
  | next => obtain ⟨σ', H', I, q⟩ := h; exact ⟨σ', H', I.unwish, q⟩
  | brk => obtain ⟨σ', H', I, q⟩ := h; exact ⟨σ', H', I.unwish, q⟩
  | cont => obtain ⟨σ', H', I, q⟩ := h; exact ⟨σ', H', I.unwish, q⟩
  | ret u => obtain ⟨v, σ', H', I, r, q⟩ := h; exact ⟨v, σ', H', I.unwish, r, q⟩
theorem PSs.nox {st : List Stmt} {t : TS} (h : PSs X.nox st t) : PSs X st t := fun pins s σ H D I hw =>
  wpAny_mono (h pins s σ H D (I.wish _) hw) (fun _ _ q => q.unwish) fun _ _ z => False.elim z
end

/-! ### blocks and small statements -/
section
variable {X : Cx} {st : Stmt} {rest : List Stmt} {t u : TS} {e : Expr} {te : TE} {pos : Pos}
def tNext : TS := fun D σ H => D.nx σ H
def tSeq (t u : TS) : TS := fun D σ H => t { D with nx := u D } σ H
theorem pss_nil : PSs X [] tNext := fun _ _ σ H _ I h => wpAny_execs_nil ⟨σ, H, I, h⟩
theorem pss_cons (h1 : PS X st t) (h2 : PSs X rest u) : PSs X (st :: rest) (tSeq t u) := by
  intro pins s σ H D I h
  refine wpAny_execs_cons (thn (h1 pins s σ H { D with nx := u D } I h) fun f s1 q => ?_)
  cases f with
  | next =>
    obtain ⟨σ', H', I', q⟩ := q
    exact h2 pins s1 σ' H' D I' q
  | ret v => exact q
  | brk => exact q
  | cont => exact q
theorem pss_one (h1 : PS X st t) : PSs X [st] t := by
  intro pins s σ H D I h
  refine wpAny_execs_cons (thn (h1 pins s σ H D I h) fun f s1 q => ?_)
  cases f with
  | next => exact wpAny_execs_nil q
  | ret v => exact q
  | brk => exact q
  | cont => exact q
/-- in a def's body nothing is shown -/
theorem Inv.quiet {pins : List (Addr × Obj)} {σ : St} {H : Hp} {s : Shared} (I : Inv X pins σ H s) : interactive X.env = false := by simp [interactive, I.ok.kind]
/-- an expression whose value is dropped -/
def tDrop (te : TE) : TS := fun D σ H => te σ H fun _ H1 => D.nx σ H1
theorem ps_expr (he : PE X e te) (hs : swapsWith e none pos.line X.env = pure false := by rfl) : PS X (.Expr e pos) (tDrop te) := by
  intro pins s σ H D I h
  exact wpAny_Expr_any (thn (he pins s σ H _ I h) fun v s1 ⟨x, H1, I1, r1, q1⟩ => ⟨σ, H1, I1, q1⟩) I.quiet hs
def tRet (te : TE) : TS := fun D σ H => te σ H D.rt
theorem ps_ret (he : PE X e te) : PS X (.Return (some e) pos) (tRet te) := by
  intro pins s σ H D I h
  exact wpAny_Return_some (thn (he pins s σ H _ I h) fun v s1 ⟨x, H1, I1, r1, q1⟩ => ⟨x, σ, H1, I1, r1, q1⟩)
def tIfS (c : TT) (t u : TS) : TS := fun D σ H => c σ H fun b H1 => if b = true then t D σ H1 else u D σ H1
theorem ps_if {c : Expr} {a b : List Stmt} {tc : TT} (hc : PT X c tc) (ha : PSs X a t) (hb : PSs X b u) : PS X (.If c a b pos) (tIfS tc t u) := by
  intro pins s σ H D I h
  refine wpAny_If (thn (hc pins s σ H _ I h) fun d s1 ⟨H1, I1, q1⟩ => ?_)
  cases d with
  | true => exact ha pins s1 σ H1 D I1 q1
  | false => exact hb pins s1 σ H1 D I1 q1
/-- code that the proof never comes to -/
def tNever : TS := fun _ _ _ => False
theorem pss_never {sts : List Stmt} : PSs X sts tNever := fun _ _ _ _ _ _ h => h.elim
end

/-! ### targets -/
abbrev TG := V → St → Hp → (St → Hp → Prop) → Prop
abbrev TGs := List V → St → Hp → (St → Hp → Prop) → Prop
def PG (X : Cx) (target : Expr) (t : TG) : Prop :=
  ∀ (pins : List (Addr × Obj)) (s : Shared) (σ : St) (H : Hp) (v : V) (u : Value) (Q : St → Hp → Prop), Inv X pins σ H s → RelV v u → t v σ H Q →
    wpAny (model X.prog X.w) X.A (assign target X.env u) (fun _ s' => ∃ σ' H', Inv X pins σ' H' s' ∧ Q σ' H') X.xe s
/-- several targets, one after another -/
def PGs (X : Cx) (ts : List Expr) (t : TGs) : Prop :=
  ∀ (pins : List (Addr × Obj)) (s : Shared) (σ : St) (H : Hp) (vs : List V) (us : List Value) (Q : St → Hp → Prop), Inv X pins σ H s → Vals vs us → t vs σ H Q →
    wpAny (model X.prog X.w) X.A (assignInOrder ((assignEach ts X.env).map (·.2)) us) (fun _ s' => ∃ σ' H', Inv X pins σ' H' s' ∧ Q σ' H') X.xe s
/-- o[i] = v, by values -/
abbrev TSet := V → V → V → Hp → (Hp → Prop) → Prop
def PSet (X : Cx) (t : TSet) : Prop :=
  ∀ (pins : List (Addr × Obj)) (s : Shared) (σ : St) (H : Hp) (o i v : V) (ov iv u : Value) (Q : Hp → Prop), Inv X pins σ H s → RelV o ov → RelV i iv → RelV v u → t o i v H Q →
    wpAny (model X.prog X.w) X.A (setItem ov iv u) (fun _ s' => ∃ H', Inv X pins σ H' s' ∧ Q H') X.xe s
/-- a op= b, by values -/
abbrev TIp := V → V → Hp → VK → Prop
def PIp (X : Cx) (op : Operator) (t : TIp) : Prop :=
  ∀ (pins : List (Addr × Obj)) (s : Shared) (σ : St) (H : Hp) (x y : V) (v u : Value) (Q : VK), Inv X pins σ H s → RelV x v → RelV y u → t x y H Q →
    wpAny (model X.prog X.w) X.A (inplaceOp op v u) (EP X pins σ Q) X.xe s
section
variable {X : Cx} {pos : Pos}
def gName (i : Nat) : TG := fun v σ H Q => Q (σ.set i (some v)) H
theorem pg_name {i : Nat} {x : Str} (hN : X.N.Nodup) (hi : X.N[i]? = some x) (hx : Loc X.env.scope x) (hf : X.fn x = true ∨ X.env.scope.names.lookup x = some .local := by first | exact .inl rfl | exact .inr rfl | assumption) : PG X (.Name x pos) (gName i) := by
  intro pins s σ H v u Q I r h
  exact wpAny_assign_Name (store_ok I hN hi hx r (fun s' I' => ⟨_, H, I', h⟩) hf)
def gNil : TGs := fun vs σ H Q => vs = [] ∧ Q σ H
def gCons (t : TG) (u : TGs) : TGs := fun vs σ H Q => ∃ v r, vs = v :: r ∧ t v σ H fun σ' H' => u r σ' H' Q
theorem pgs_nil : PGs X [] gNil := by
  intro pins s σ H vs us Q I r h
  obtain ⟨e, h⟩ := h
  subst e
  cases r
  exact assignInOrder_nil ⟨σ, H, I, h⟩
theorem pgs_cons {e : Expr} {es : List Expr} {t : TG} {u : TGs} (h1 : PG X e t) (h2 : PGs X es u)
    (hs : (assignEach (e :: es) X.env).map (·.2) = assign e X.env :: (assignEach es X.env).map (·.2) := by rfl) : PGs X (e :: es) (gCons t u) := by
  intro pins s σ H vs us Q I r h
  obtain ⟨v, vr, e1, h⟩ := h
  subst e1
  cases r with
  | cons r rr =>
    rw [hs]
    refine assignInOrder_cons (thn (h1 pins s σ H _ _ _ I r h) fun _ s1 ⟨σ1, H1, I1, q1⟩ => ?_)
    exact h2 pins s1 σ1 H1 _ _ Q I1 rr q1
/-- (a, b, ..) = a tuple of that length -/
def gTup (K : PySem.W.Frag) (n : Nat) (t : TGs) : TG := fun v σ H Q => ∃ a xs, v = .ref a ∧ SqT K H a xs ∧ xs.length = n ∧ t xs σ H Q
theorem pg_tup {es : List Expr} {k : Nat} {t : TGs} {n : Nat} (hc : X.calm = true) (h : PGs X es t)
    (hn : (assignEach es X.env).length = n := by rfl) (hst : (assignEach es X.env).findIdx? (·.1) = none := by rfl) : PG X (.Tuple es k pos) (gTup X.K n t) := by
  intro pins s σ H v u Q I r hw
  obtain ⟨a, xs, e1, hq, hl, hw⟩ := hw
  subst e1
  cases r
  obtain ⟨its, rv, ht, hz⟩ := I.tuple hq
  refine assign_Tuple_tuple (I.ok.hd hc) ht (by simp [hn, ← hl, rv.length]) hst fun h' hx => ?_
  have I1 : Inv X pins σ H { s with heap := h' } := I.kept (t' := s.toks) fun b o e => hx b o (Nat.ne_of_lt (Heap.lt_size e)) e
  exact h pins _ σ H xs _ Q I1 (by simpa using rv) hw
/-- o[i] = .. -/
def gSub (to ti : TE) (t : TSet) : TG := fun v σ H Q => to σ H fun o H1 => ti σ H1 fun i H2 => t o i v H2 fun H3 => Q σ H3
theorem pg_sub {o i : Expr} {to ti : TE} {t : TSet} (ho : PE X o to) (hi : PE X i ti) (hs : PSet X t)
    (ha : ∀ v, assign (.Subscript o i pos) X.env v = (do
      let ov ← holding [v] (eval o X.env)
      let iv ← holding [v, ov] (eval i X.env)
      standAt pos
      holding [v, ov, iv] (setItem ov iv v)
      release [v, ov, iv] []) := by intro _; rfl) : PG X (.Subscript o i pos) (gSub to ti t) := by
  intro pins s σ H v u Q I r h
  rw [ha]
  refine wpAny_bind (wpAny_holding (thn (ho pins s σ H _ I h) fun ov s1 ⟨x, H1, I1, r1, q1⟩ => ?_))
  refine wpAny_bind (wpAny_holding (thn (hi pins s1 σ H1 _ I1 q1) fun iv s2 ⟨y, H2, I2, r2, q2⟩ => ?_))
  refine wpAny_bind (wpAny_standAt (wpAny_bind (wpAny_holding (thn (hs pins s2 σ H2 x y v ov iv u _ I2 r1 r2 r q2) fun _ s3 ⟨H3, I3, q3⟩ => ?_))))
  exact wpAny_release ⟨σ, H3, I3, q3⟩
/-- target = value -/
def tAsg (te : TE) (g : TG) : TS := fun D σ H => te σ H fun x H1 => g x σ H1 D.nx
theorem ps_asg {tg e : Expr} {te : TE} {g : TG} (he : PE X e te) (hg : PG X tg g) (hs : swapsWithSole [tg] e pos.line X.env = pure false := by rfl) (hw : swappedStores [tg] e X.env = pure none := by rfl)
    (h1 : (assignEach [tg] X.env).map (·.2) = [assign tg X.env] := by rfl) : PS X (.Assign [tg] e pos) (tAsg te g) := by
  intro pins s σ H D I h
  refine wpAny_Assign_stores (thn (he pins s σ H _ I h) fun v s1 ⟨x, H1, I1, r1, q1⟩ => ?_) hs hw
  rw [h1]
  exact thn (hg pins s1 σ H1 x v _ I1 r1 q1) fun _ s2 q => q
/-- name = value -/
theorem ps_set {i : Nat} {x : Str} {e : Expr} {te : TE} {pos' : Pos} (hN : X.N.Nodup) (hi : X.N[i]? = some x) (hx : Loc X.env.scope x) (he : PE X e te) (hs : swapsWith e (some (.Name x pos')) pos.line X.env = pure false := by rfl) (hf : X.fn x = true ∨ X.env.scope.names.lookup x = some .local := by first | exact .inl rfl | exact .inr rfl | assumption) :
    PS X (.Assign [.Name x pos'] e pos) (tAsg te (gName i)) := by
  intro pins s σ H D I h
  refine wpAny_Assign_Name (thn (he pins s σ H _ I h) fun v s1 ⟨y, H1, I1, r1, q1⟩ => ?_) hs
  exact store_ok I1 hN hi hx r1 (fun s2 I2 => ⟨_, H1, I2, q1⟩) hf
/-- name op= e -/
def tAug (i : Nat) (te : TE) (ti : TIp) : TS := fun D σ H => ∃ x, σ[i]? = some (some x) ∧ te σ H fun y H1 => ti x y H1 fun z H2 => D.nx (σ.set i (some z)) H2
theorem ps_aug {i : Nat} {x : Str} {e : Expr} {te : TE} {op : Operator} {ti : TIp} {pos' : Pos} (hN : X.N.Nodup) (hi : X.N[i]? = some x) (hx : Loc X.env.scope x) (he : PE X e te) (ho : PIp X op ti) (hf : X.fn x = true ∨ X.env.scope.names.lookup x = some .local := by first | exact .inl rfl | exact .inr rfl | assumption) :
    PS X (.AugAssign (.Name x pos') op e pos) (tAug i te ti) := by
  intro pins s σ H D I h
  obtain ⟨v, e1, h⟩ := h
  obtain ⟨m, hn, hl⟩ := I.loc
  have vis : Vis X.env.scope x := by rcases hx with k | k; exact .inl k; exact .inr (.inl k)
  obtain ⟨u, r, l⟩ := hl i x v hi e1 vis
  refine wpAny_AugAssign_Name ?_
  have go : wpAny (model X.prog X.w) X.A (eval e X.env) (fun w s₂ => wpAny (model X.prog X.w) X.A (inplaceOp op u w) (fun r s₃ => wpAny (model X.prog X.w) X.A (storeName X.env x r) (fun _ => SP X pins D .next) X.xe s₃) X.xe s₂) X.xe s := by
    refine thn (he pins s σ H _ I h) fun w s1 ⟨y, H1, I1, r1, q1⟩ => ?_
    refine thn (ho pins s1 σ H1 v y u w _ I1 r r1 q1) fun z s2 ⟨zv, H2, I2, r2, q2⟩ => ?_
    exact store_ok I2 hN hi hx r2 (fun s3 I3 => ⟨_, H2, I3, q2⟩) hf
  rcases l with ⟨hk, hm⟩ | ⟨hk, c, hc, hcell⟩
  · exact wpAny_loadName_local I.ok.kind hk hn hm go
  · rcases hk with hk | hk
    · exact wpAny_loadName_cell I.ok.kind hk hc hcell go
    · rcases hx with k | k
      · have : X.env.scope.names.lookup x = some .free := hk
        rw [k] at this; cases this
      · have : X.env.scope.names.lookup x = some .free := hk
        rw [k] at this; cases this
/-- ints -/
def ipI (f : Int → Int → Int) : TIp := fun x y H Q => ∃ i j, x = .int i ∧ y = .int j ∧ Q (.int (f i j)) H
theorem ip_add : PIp X .Add (ipI fun i j => i + j) := by
  intro pins s σ H x y v u Q I r1 r2 h
  obtain ⟨i, j, e1, e2, q⟩ := h
  subst e1; subst e2
  obtain ⟨t, rfl⟩ := r1
  obtain ⟨t', rfl⟩ := r2
  exact iadd_int ⟨.int _, H, I.tok _, ⟨_, rfl⟩, q⟩
end

/-! ### while -/
section
variable {X : Cx} {pos : Pos}
/-- the invariant W with its measure -/
def tWhile (c : TT) (tb : TS) : TS := fun D σ H => ∃ W : Nat → St → Hp → Prop, (∃ m, W m σ H) ∧ ∀ m σ H, W m σ H →
  c σ H fun b H1 => if b = true then ∃ N : St → Hp → Prop, (∀ σ' H', N σ' H' → ∃ m', m' < m ∧ W m' σ' H') ∧ tb { D with nx := N, ct := N, bk := D.nx } σ H1 else D.nx σ H1
theorem ps_while {c : Expr} {body : List Stmt} {tc : TT} {tb : TS} (hp : PassesOwn (model X.prog X.w) X.A X.env X.xe) (hc : PT X c tc) (hb : PSs X body tb) : PS X (.While c body [] pos) (tWhile tc tb) := by
  intro pins s σ H D I h
  obtain ⟨W, ⟨m0, w0⟩, turn⟩ := h
  refine wpAny_While (codeAny_whileLoop (fun n s' => ∃ σ' H', Inv X pins σ' H' s' ∧ W n σ' H') ?_ m0 ⟨σ, H, I, w0⟩)
  rintro n s1 ⟨σ1, H1, I1, w1⟩
  refine wpAny_passesOwn hp (thn (hc pins s1 σ1 H1 _ I1 (turn n σ1 H1 w1)) fun b s2 ⟨H2, I2, q2⟩ => ?_)
  cases b with
  | true =>
    obtain ⟨N, hN, q2⟩ := q2
    rw [if_pos rfl]
    refine wpAny_passesOwn hp (thn (hb pins s2 σ1 H2 _ I2 q2) fun f s3 q3 => ?_)
    cases f with
    | next =>
      obtain ⟨σ3, H3, I3, n3⟩ := q3
      obtain ⟨m', hm, w3⟩ := hN σ3 H3 n3
      exact ⟨m', hm, σ3, H3, I3, w3⟩
    | cont =>
      obtain ⟨σ3, H3, I3, n3⟩ := q3
      obtain ⟨m', hm, w3⟩ := hN σ3 H3 n3
      exact ⟨m', hm, σ3, H3, I3, w3⟩
    | brk => exact q3
    | ret v => exact q3
  | false =>
    rw [if_neg Bool.false_ne_true]
    exact wpAny_execs_nil ⟨σ1, H2, I2, q2⟩
end

/-! ### what a loop or a comprehension walks -/
/-- at turn i: it yields x (the heap may grow), or it stops -/
structure It where
  go : Nat → Hp → Prop
  yld : Nat → Hp → V → Hp → Prop
  stop : Nat → Hp → Prop
/-- the iterator's own objects may turn: they are not the frame's, not pinned, younger than the entry (or a comprehension's own) -/
def FpOk (X : Cx) (pins : List (Addr × Obj)) (H : Hp) (b : Addr) : Prop :=
  H b = none ∧ b ≠ X.env.locals ∧ b ∉ X.fs ∧ (b ∈ X.ex ∨ X.s₀.heap.objs.size ≤ b) ∧ (∀ x c, X.env.cells.lookup x = some c → c ≠ b) ∧ ∀ p ∈ X.pn ++ pins, p.1 ≠ b
theorem Inv.fpOk {X : Cx} {pins : List (Addr × Obj)} {σ : St} {H H' : Hp} {s : Shared} {b : Addr} (I : Inv X pins σ H s) (hb : s.heap.objs.size ≤ b) (hn : H' b = none) : FpOk X pins H' b := by
  refine ⟨hn, Nat.ne_of_gt (Nat.lt_of_lt_of_le I.lt hb), I.nofs hb, .inr (Nat.le_trans I.sz hb), fun x c e z => ?_, fun p hp z => ?_⟩
  · obtain ⟨v, q⟩ := I.cell x c e
    exact absurd (Nat.lt_of_lt_of_le q.lt (by rw [z]; exact hb)) (Nat.lt_irrefl _)
  · exact absurd (Nat.lt_of_lt_of_le (Heap.lt_size (I.pin p hp).1) (by rw [z]; exact hb)) (Nat.lt_irrefl _)
structure Turn (P : Program) (w : World) (K : PySem.W.Frag) (tg : Expr) (J : It) (fp : List Addr) (it : Addr) (tn : Nat → Heap → Prop) : Prop where
  mem : it ∈ fp
  obj : ∀ i h, tn i h → ∀ b ∈ fp, ∃ o, h.get? b = some o ∧ ∀ v, o.data ≠ .cell v
  keep : ∀ i h h', tn i h → (∀ b ∈ fp, ∀ o, h.get? b = some o → h'.get? b = some o) → tn i h'
  item : ∀ (X : Cx), X.prog = P → X.w = w → X.K = K → X.calm = true → ∀ (i : Nat) (pins : List (Addr × Obj)) (s : Shared) (σ : St) (H : Hp) (E : Value → Shared → Prop), Inv X pins σ H s → (∀ b ∈ fp, FpOk X pins H b) → tn i s.heap → J.go i H →
    wpAny (model P w) X.A (pyNext (.ref it)) (fun r s1 => ∃ u, r = some u ∧
      wpAny (model P w) X.A (letOwnedTupleGo tg (.ref it) u) (fun _ s2 => ∃ x H', Inv X pins σ H' s2 ∧ RelV x u ∧ J.yld i H x H' ∧ tn (i + 1) s2.heap ∧ ∀ b ∈ fp, H' b = none) E s1) E s
  done : ∀ (X : Cx), X.prog = P → X.w = w → X.K = K → X.calm = true → ∀ (i : Nat) (pins : List (Addr × Obj)) (s : Shared) (σ : St) (H : Hp) (E : Value → Shared → Prop), Inv X pins σ H s → (∀ b ∈ fp, FpOk X pins H b) → tn i s.heap → J.stop i H →
    wpAny (model P w) X.A (pyNext (.ref it)) (fun r s1 => r = none ∧ Inv X pins σ H s1) E s
  self : ∀ (A : Around) (i : Nat) (s : Shared) (Q : Value → Shared → Prop) (E : Value → Shared → Prop), tn i s.heap → Q (.ref it) s → wpAny (model P w) A (pyIter (.ref it)) Q E s
abbrev TI := St → Hp → (It → Hp → Prop) → Prop
/-- an iterator has come -/
def PIE (X : Cx) (pins : List (Addr × Obj)) (σ : St) (tg : Expr) (R : It → Hp → Prop) (itv : Value) (s2 : Shared) : Prop :=
  ∃ (it : Addr) (fp : List Addr) (tn : Nat → Heap → Prop) (J : It) (H' : Hp), itv = .ref it ∧ Inv X pins σ H' s2 ∧ Turn X.prog X.w X.K tg J fp it tn ∧ tn 0 s2.heap ∧ (∀ b ∈ fp, FpOk X pins H' b) ∧ R J H'
def PI (X : Cx) (tg iter : Expr) (wi : TI) : Prop :=
  ∀ (pins : List (Addr × Obj)) (s : Shared) (σ : St) (H : Hp) (R : It → Hp → Prop), Inv X pins σ H s → wi σ H R →
    wpAny (model X.prog X.w) X.A (eval iter X.env) (fun v s1 => wpAny (model X.prog X.w) X.A (pyIter v) (PIE X pins σ tg R) X.xe s1) X.xe s

/-- the step ahead of the store is nothing for an iterator that keeps no tuple -/
theorem go_of {M : Model} {A : Around} {E : Value → Shared → Prop} {s : Shared} {tg : Expr} {it : Addr} {u : Value} {o : Obj} {n : String} {vs : Array Value} {Q : Unit → Shared → Prop} (ho : s.heap.get? it = some o) (hc : o.cls = .type n) (hd : o.data = .fields vs)
    (hn : ["enumerate", "zip", "dict_itemiterator", "dict_reverseitemiterator", "odict_iterator", "itertools.zip_longest", "itertools.pairwise"].contains n = false) (hQ : Q () s) : wpAny M A (letOwnedTupleGo tg (.ref it) u) Q E s := by
  unfold letOwnedTupleGo
  cases tg <;> first
    | exact wpAny_pure hQ
    | (cases u <;> first
        | exact wpAny_pure hQ
        | (refine wpAny_bind (wpAny_load ho ?_)
           rw [hc, hd]
           show wpAny M A (if (["enumerate", "zip", "dict_itemiterator", "dict_reverseitemiterator", "odict_iterator", "itertools.zip_longest", "itertools.pairwise"].contains n && vs[0]? == some (rawInt _)) = true then _ else _) Q E s
           rw [if_neg (by intro h; rw [hn, Bool.false_and] at h; cases h)]
           exact wpAny_pure hQ))

/-- the list at a, as it stands at each turn (a loop may append to it) -/
def Itl (K : PySem.W.Frag) (a : Addr) : It :=
  ⟨fun i H => ∃ xs x, SqL K H a xs ∧ xs[i]? = some x, fun i H x H' => H' = H ∧ ∀ xs, SqL K H a xs → xs[i]? = some x, fun i H => ∃ xs, SqL K H a xs ∧ xs.length ≤ i⟩
/-- lo, lo + 1, .. (n of them) -/
def Itr (lo : Int) (n : Nat) : It := ⟨fun i _ => i < n, fun i H x H' => H' = H ∧ x = .int (lo + i), fun i _ => n ≤ i⟩
theorem turn_list {P : Program} {w : World} {K : PySem.W.Frag} {tg : Expr} (a it : Addr) : Turn P w K tg (Itl K a) [it] it (fun i h => h.IsListIter it a i) where
  mem := by simp
  obj := fun i h st b hb => by
    have e : b = it := by simpa using hb
    subst e
    obtain ⟨o, e, c, d⟩ := st
    exact ⟨o, e, fun v z => by rw [d] at z; cases z⟩
  keep := fun i h h' st k => st.at fun o e => k it (by simp) o e
  item := by
    intro X hP hw hK hc i pins s σ H E I hf st hg
    subst hP hw hK
    obtain ⟨xs, x, hq, hx⟩ := hg
    obtain ⟨its, rv, p, hz⟩ := I.list hq
    obtain ⟨u, hu, ru⟩ := rv.get hx
    obtain ⟨f0, f1, f2, f3, f4, f5⟩ := hf it (by simp)
    refine wpAny_pyNext_list_item st p.isList (x := u) (by simpa using hu) fun h' st' sb => ?_
    have I1 : Inv X pins σ H { s with heap := h' } := I.turned (t' := s.toks) (fun b o hb e => (sb.2 b hb).trans e) f0 f1 f3 f4 f5
    obtain ⟨o, e, c, d⟩ := id st'
    exact ⟨u, rfl, go_of (s := { s with heap := h' }) e c d (by decide) ⟨x, H, I1, ru, ⟨rfl, fun ys hy => by rw [I.list_inj hy hq]; exact hx⟩, st', fun b hb => (hf b hb).1⟩⟩
  done := by
    intro X hP hw hK hc i pins s σ H E I hf st hg
    subst hP hw hK
    obtain ⟨xs, hq, hx⟩ := hg
    obtain ⟨its, rv, p, hz⟩ := I.list hq
    obtain ⟨f0, f1, f2, f3, f4, f5⟩ := hf it (by simp)
    have hl := rv.length
    exact wpAny_pyNext_list_end (I.ok.hd hc) st p.isList (by simp; omega) fun h' eb => ⟨rfl, I.turned (t' := s.toks) (fun b o hb e => eb b o hb e) f0 f1 f3 f4 f5⟩
  self := fun _ _ _ _ _ st h => wpAny_pyIter_listiter st h
theorem turn_range {P : Program} {w : World} {K : PySem.W.Frag} {tg : Expr} (it : Addr) (lo : Int) (n : Nat) : Turn P w K tg (Itr lo n) [it] it (fun i h => IsRangeIter h it (lo + (i : Nat) * 1) ((n : Int) - (i : Nat)) 1) where
  mem := by simp
  obj := fun i h st b hb => by
    have e : b = it := by simpa using hb
    subst e
    exact ⟨_, st, fun v z => by
      have z' : Data.fields _ = Data.cell v := z
      cases z'⟩
  keep := fun i h h' st k => k it (by simp) _ st
  item := by
    intro X hP hw hK hc i pins s σ H E I hf st hg
    subst hP hw hK
    obtain ⟨f0, f1, f2, f3, f4, f5⟩ := hf it (by simp)
    have W := Walks.range (prog := X.prog) (w := X.w) (I.ok.hd hc) it lo 1 n
    refine W.item i s _ _ hg st fun v h' tk hv st' kk => ?_
    obtain ⟨t, rfl⟩ := hv
    have I1 : Inv X pins σ H { s with heap := h', toks := tk } := I.turned (fun b o hb e => kk b o (by simpa using hb) e) f0 f1 f3 f4 f5
    refine ⟨_, rfl, go_of (s := { s with heap := h', toks := tk }) (n := "range_iterator") st' rfl rfl (by decide) ⟨.int (lo + i), H, I1, ⟨t, ?_⟩, ⟨rfl, rfl⟩, st', fun b hb => (hf b hb).1⟩⟩
    rw [Int.mul_one]
  done := by
    intro X hP hw hK hc i pins s σ H E I hf st hg
    subst hP hw hK
    obtain ⟨f0, f1, f2, f3, f4, f5⟩ := hf it (by simp)
    exact wpAny_pyNext_range_end (I.ok.hd hc) st (by have : n ≤ i := hg; omega) fun h' eb => ⟨rfl, I.turned (t' := s.toks) (fun b o hb e => eb b o hb e) f0 f1 f3 f4 f5⟩
  self := fun _ _ _ _ _ st h => wpAny_pyIter_rangeiter st h
end L2

namespace L2
open PySem PySem.Spec PyProof.Rows
section
variable {X : Cx} {tg : Expr}
def iList (K : PySem.W.Frag) (tl : TE) : TI := fun σ H R => tl σ H fun x H1 => ∃ a, x = .ref a ∧ (∃ xs, SqL K H1 a xs) ∧ R (Itl K a) H1
theorem pi_list {l : Expr} {tl : TE} (hl : PE X l tl) : PI X tg l (iList X.K tl) := by
  intro pins s σ H R I h
  refine thn (hl pins s σ H _ I h) fun v s1 ⟨x, H1, I1, r1, q1⟩ => ?_
  obtain ⟨a, e, ⟨xs, hq⟩, q⟩ := q1
  subst e
  cases r1
  obtain ⟨its, rv, p, hz⟩ := I1.list hq
  refine wpAny_pyIter_list p.isList ?_
  refine ⟨s1.heap.objs.size, [s1.heap.objs.size], _, _, H1, rfl, I1.kept (t' := s1.toks) fun b o e => Heap.get?_push_of_some _ e, turn_list a _, ⟨_, Heap.get?_push_size _ rfl, rfl, rfl⟩, fun b hb => ?_, q⟩
  have e : b = s1.heap.objs.size := by simpa using hb
  subst e
  exact I1.fpOk (Nat.le_refl _) (I1.hok.fresh (Nat.le_refl _))
/-- a range object just made, walked -/
theorem range_it {pins : List (Addr × Obj)} {σ : St} {H : Hp} {s : Shared} {R : It → Hp → Prop} {E : Value → Shared → Prop} {lo hi : Int} {t u v : Tok} {tk : Nat} (I : Inv X pins σ H s) (h1 : -(2 ^ 62) ≤ lo) (h2 : lo < 2 ^ 62) (h3 : -(2 ^ 62) ≤ hi) (h4 : hi < 2 ^ 62)
    (q : R (Itr lo (hi - lo).toNat) H) : wpAny (model X.prog X.w) X.A (pyIter (.ref s.heap.objs.size)) (PIE X pins σ tg R) E { s with heap := s.heap.push { cls := .type "range", data := .fields #[.int lo t, .int hi u, .int 1 v] }, toks := tk } := by
  refine wpAny_pyIter_range (IsRange.new ..) (small_one h1 h2 h3 h4) ?_
  have I1 : Inv X pins σ H { s with heap := s.heap.push { cls := .type "range", data := .fields #[.int lo t, .int hi u, .int 1 v] }, toks := tk } := I.kept fun b o e => Heap.get?_push_of_some _ e
  refine ⟨(s.heap.push { cls := .type "range", data := .fields #[.int lo t, .int hi u, .int 1 v] }).objs.size, [(s.heap.push { cls := .type "range", data := .fields #[.int lo t, .int hi u, .int 1 v] }).objs.size], _, _, H, rfl,
    I1.kept (t' := tk) fun b o e => Heap.get?_push_of_some _ e, turn_range _ lo (hi - lo).toNat, ?_, fun b hb => ?_, q⟩
  · have e1 : lo + ((0 : Nat) : Int) * 1 = lo := by simp
    have e2 : (((hi - lo).toNat : Nat) : Int) - ((0 : Nat) : Int) = Builtin.Range.rangeSize lo hi 1 := by rw [rangeSize_one]; split <;> omega
    show IsRangeIter _ _ (lo + ((0 : Nat) : Int) * 1) ((((hi - lo).toNat : Nat) : Int) - ((0 : Nat) : Int)) 1
    rw [e1, e2]
    exact Heap.get?_push_size _ rfl
  · have e : b = (s.heap.push { cls := .type "range", data := .fields #[.int lo t, .int hi u, .int 1 v] }).objs.size := by simpa using hb
    subst e
    exact I1.fpOk (Nat.le_refl _) (I1.hok.fresh (Nat.le_refl _))
def iRng1 (ta : TA) : TI := fun σ H R => ta σ H fun vs H1 => ∃ j : Int, vs = [.int j] ∧ -(2 ^ 62) ≤ j ∧ j < 2 ^ 62 ∧ R (Itr 0 j.toNat) H1
theorem pi_range1 {a : Expr} {ta : TA} {p pos : Pos} (hg : Gl X "range") (hm : X.mg "range" = none) (ha : PA X [a] ta) (hs : starEach [a] X.env = [(false, eval a X.env)] := by rfl) : PI X tg (.Call (.Name "range" p) [a] [] pos) (iRng1 ta) := by
  intro pins s σ H R I h
  refine Call_ (ld_blt I hg hm boot_range (PyProof.Rows.callWith_type1 (thn (ha pos pins s σ H _ I h) fun us s1 ⟨vs, H1, I1, r1, q1⟩ => ?_) hs rfl))
  obtain ⟨j, e, q1, q2, q⟩ := q1
  subst e
  cases r1 with
  | cons r rr =>
    cases rr
    obtain ⟨t, rfl⟩ := r
    exact call_range_1 (range_it I1 (by omega) (by omega) q1 q2 (by simpa using q))
/-! ### for -/
/-- W: the invariant by the turn and a measure; N: what the body is to reach -/
def tFor (wi : TI) (g : TG) (tb : TS) : TS := fun D σ H => wi σ H fun J H1 => ∃ W : Nat → Nat → St → Hp → Prop, (∃ m, W 0 m σ H1) ∧ ∀ i m σ H, W i m σ H →
  (J.stop i H ∧ D.nx σ H) ∨ (J.go i H ∧ ∃ N : St → Hp → Prop, (∀ σ' H', N σ' H' → ∃ m', m' < m ∧ W (i + 1) m' σ' H') ∧ ∀ x H', J.yld i H x H' → g x σ H' fun σ2 H2 => tb { D with nx := N, ct := N, bk := D.nx } σ2 H2)
/-- the records at fp as they stand -/
def pinsAt (fp : List Addr) (h : Heap) : List (Addr × Obj) := fp.filterMap fun b => (h.get? b).map fun o => (b, o)
theorem mem_pinsAt {fp : List Addr} {h : Heap} {b : Addr} {o : Obj} (hb : b ∈ fp) (e : h.get? b = some o) : (b, o) ∈ pinsAt fp h := List.mem_filterMap.mpr ⟨b, hb, by rw [e]; rfl⟩
theorem of_pinsAt {fp : List Addr} {h : Heap} {p : Addr × Obj} (hp : p ∈ pinsAt fp h) : p.1 ∈ fp ∧ h.get? p.1 = some p.2 := by
  obtain ⟨b, hb, e⟩ := List.mem_filterMap.mp hp
  cases q : h.get? b with
  | none => rw [q] at e; cases e
  | some o =>
    rw [q] at e
    have e' : (b, o) = p := Option.some.inj e
    subst e'
    exact ⟨hb, q⟩
theorem Inv.pinned {pins : List (Addr × Obj)} {σ : St} {H : Hp} {s : Shared} {fp : List Addr} (I : Inv X pins σ H s) (hf : ∀ b ∈ fp, FpOk X pins H b) (ho : ∀ b ∈ fp, ∃ o, s.heap.get? b = some o ∧ ∀ v, o.data ≠ .cell v) : Inv X (pins ++ pinsAt fp s.heap) σ H s :=
  I.pins_of fun p hp => (List.mem_append.mp hp).elim (fun z => I.pin p (List.mem_append_right _ z)) fun z => by
    obtain ⟨hb, e⟩ := of_pinsAt z
    obtain ⟨f0, f1, f2, _⟩ := hf p.1 hb
    obtain ⟨o, e', d⟩ := ho p.1 hb
    rw [e] at e'; cases e'
    exact ⟨e, f0, f1, f2, d⟩
theorem Inv.unpinned {pins pl : List (Addr × Obj)} {σ : St} {H : Hp} {s : Shared} (I : Inv X (pins ++ pl) σ H s) : Inv X pins σ H s := I.pins_of fun p hp => I.pin p (List.mem_append_right _ (List.mem_append_left _ hp))
theorem ps_for {iter : Expr} {body : List Stmt} {wi : TI} {g : TG} {tb : TS} {pos : Pos} (hp : PassesOwn (model X.prog X.w) X.A X.env X.xe) (hc : X.calm = true) (hi : PI X tg iter wi) (hg : PG X tg g) (hb : PSs X body tb)
    (hs : ∀ x, foldedSetIterable iter X.env x = pure x := by intro _; rfl) : PS X (.For tg iter body [] pos) (tFor wi g tb) := by
  intro pins s σ H D I h
  refine wpAny_For (thn (hi pins s σ H _ I h) fun v s1 h1 => thn h1 fun itv s2 h2 => ?_) hs
  obtain ⟨it, fp, tn, J, H2, e, I2, T, st2, f2, W, ⟨m0, w0⟩, turn⟩ := h2
  subst e
  -- what stays true of the iterator's objects through the loop
  have stat : ∀ {H' : Hp}, (∀ b ∈ fp, H' b = none) → ∀ b ∈ fp, FpOk X pins H' b := fun hn b hb => ⟨hn b hb, (f2 b hb).2⟩
  refine codeAny_forLoop_any (fun n s' => ∃ i σ' H', Inv X pins σ' H' s' ∧ tn i s'.heap ∧ (∀ b ∈ fp, H' b = none) ∧ W i n σ' H') ?_ m0 ⟨0, σ, H2, I2, st2, fun b hb => (f2 b hb).1, w0⟩
  rintro n s3 ⟨i, σ3, H3, I3, st3, fr3, w3⟩
  rcases turn i n σ3 H3 w3 with ⟨stop, qn⟩ | ⟨go, N, hN, step⟩
  · refine wpAny_passesOwn hp (thn (T.done X rfl rfl rfl hc i pins s3 σ3 H3 X.xe I3 (stat fr3) st3 stop) fun r s4 ⟨hr, I4⟩ => ?_)
    subst hr
    exact wpAny_execs_nil ⟨σ3, H3, I4, qn⟩
  · refine wpAny_passesOwn hp (thn (T.item X rfl rfl rfl hc i pins s3 σ3 H3 X.xe I3 (stat fr3) st3 go) fun r s4 ⟨u, hr, h4⟩ => ?_)
    subst hr
    refine wpAny_passesOwn hp (thn h4 fun _ s5 ⟨x, H5, I5, r5, y5, st5, fr5⟩ => ?_)
    have I5' := I5.pinned (stat fr5) (T.obj _ _ st5)
    refine wpAny_passesOwn hp (thn (hg _ s5 σ3 H5 x u _ I5' r5 (step x H5 y5)) fun _ s6 ⟨σ6, H6, I6, q6⟩ => ?_)
    refine wpAny_passesOwn hp (thn (hb _ s6 σ6 H6 _ I6 q6) fun f s7 q7 => ?_)
    have again : ∀ {σ7 : St} {H7 : Hp}, Inv X (pins ++ pinsAt fp s5.heap) σ7 H7 s7 → N σ7 H7 → ∃ m, m < n ∧ ∃ i σ' H', Inv X pins σ' H' s7 ∧ tn i s7.heap ∧ (∀ b ∈ fp, H' b = none) ∧ W i m σ' H' := fun {σ7 H7} I7 n7 => by
      obtain ⟨m', hm, w7⟩ := hN σ7 H7 n7
      refine ⟨m', hm, i + 1, σ7, H7, I7.unpinned, T.keep _ _ _ st5 fun b hb o e => (I7.pin (b, o) (List.mem_append_right _ (List.mem_append_right _ (mem_pinsAt hb e)))).1, fun b hb => ?_, w7⟩
      obtain ⟨o, e, d⟩ := T.obj _ _ st5 b hb
      exact (I7.pin (b, o) (List.mem_append_right _ (List.mem_append_right _ (mem_pinsAt hb e)))).2.1
    cases f with
    | next => obtain ⟨σ7, H7, I7, n7⟩ := q7; exact again I7 n7
    | cont => obtain ⟨σ7, H7, I7, n7⟩ := q7; exact again I7 n7
    | brk => obtain ⟨σ7, H7, I7, q7⟩ := q7; exact ⟨σ7, H7, I7.unpinned, q7⟩
    | ret v => obtain ⟨x7, σ7, H7, I7, r7, q7⟩ := q7; exact ⟨x7, σ7, H7, I7.unpinned, r7, q7⟩
end

/-! ### the forms one uses -/
/-- over a list that the body leaves as it is -/
theorem for_list {K : PySem.W.Frag} {a : Addr} {xs : List V} {g : TG} {tb : TS} {D : Ends} {σ : St} {H : Hp} (Pv : Nat → St → Hp → Prop) (h0 : Pv 0 σ H) (hl : ∀ i σ H, i ≤ xs.length → Pv i σ H → SqL K H a xs)
    (hs : ∀ i x σ H, xs[i]? = some x → Pv i σ H → g x σ H fun σ2 H2 => tb { D with nx := Pv (i + 1), ct := Pv (i + 1), bk := D.nx } σ2 H2) (hd : ∀ σ H, Pv xs.length σ H → D.nx σ H) :
    ∃ W : Nat → Nat → St → Hp → Prop, (∃ m, W 0 m σ H) ∧ ∀ i m σ H, W i m σ H →
      ((Itl K a).stop i H ∧ D.nx σ H) ∨ ((Itl K a).go i H ∧ ∃ N : St → Hp → Prop, (∀ σ' H', N σ' H' → ∃ m', m' < m ∧ W (i + 1) m' σ' H') ∧ ∀ x H', (Itl K a).yld i H x H' → g x σ H' fun σ2 H2 => tb { D with nx := N, ct := N, bk := D.nx } σ2 H2) := by
  refine ⟨fun i m σ H => m = xs.length - i ∧ i ≤ xs.length ∧ Pv i σ H, ⟨xs.length, by simp, Nat.zero_le _, h0⟩, ?_⟩
  rintro i m σ H ⟨rfl, hi, p⟩
  have q := hl i σ H hi p
  by_cases hlt : i < xs.length
  · refine .inr ⟨⟨xs, xs[i], q, by simp [hlt]⟩, Pv (i + 1), fun σ' H' p' => ⟨xs.length - (i + 1), by omega, rfl, hlt, p'⟩, fun x H' y => ?_⟩
    obtain ⟨e, y⟩ := y
    subst e
    exact hs i x σ _ (y xs q) p
  · have e : i = xs.length := by omega
    subst e
    exact .inl ⟨⟨xs, q, Nat.le_refl _⟩, hd σ H p⟩
theorem for_range {lo : Int} {n : Nat} {g : TG} {tb : TS} {D : Ends} {σ : St} {H : Hp} (Pv : Nat → St → Hp → Prop) (h0 : Pv 0 σ H)
    (hs : ∀ i σ H, i < n → Pv i σ H → g (.int (lo + i)) σ H fun σ2 H2 => tb { D with nx := Pv (i + 1), ct := Pv (i + 1), bk := D.nx } σ2 H2) (hd : ∀ σ H, Pv n σ H → D.nx σ H) :
    ∃ W : Nat → Nat → St → Hp → Prop, (∃ m, W 0 m σ H) ∧ ∀ i m σ H, W i m σ H →
      ((Itr lo n).stop i H ∧ D.nx σ H) ∨ ((Itr lo n).go i H ∧ ∃ N : St → Hp → Prop, (∀ σ' H', N σ' H' → ∃ m', m' < m ∧ W (i + 1) m' σ' H') ∧ ∀ x H', (Itr lo n).yld i H x H' → g x σ H' fun σ2 H2 => tb { D with nx := N, ct := N, bk := D.nx } σ2 H2) := by
  refine ⟨fun i m σ H => m = n - i ∧ i ≤ n ∧ Pv i σ H, ⟨n, by simp, Nat.zero_le _, h0⟩, ?_⟩
  rintro i m σ H ⟨rfl, hi, p⟩
  by_cases hlt : i < n
  · refine .inr ⟨hlt, Pv (i + 1), fun σ' H' p' => ⟨n - (i + 1), by omega, rfl, hlt, p'⟩, fun x H' y => ?_⟩
    obtain ⟨e, y⟩ := y
    subst e y
    exact hs i σ _ hlt p
  · have e : i = n := by omega
    subst e
    exact .inl ⟨Nat.le_refl _, hd σ H p⟩
end L2

namespace L2
open PySem PySem.Spec PyProof.Rows

abbrev R2 := V → V → Hp → VK → Prop
/-- a two-place operation on values: f is binaryOp op, inplaceOp op or compareOp op -/
def OpR (X : Cx) (f : Value → Value → Sem Value) (r : R2) : Prop :=
  ∀ (pins : List (Addr × Obj)) (s : Shared) (σ : St) (H : Hp) (x y : V) (v u : Value) (Q : VK), Inv X pins σ H s → RelV x v → RelV y u → r x y H Q →
    wpAny (model X.prog X.w) X.A (f v u) (EP X pins σ Q) X.xe s
/-- a one-place operation -/
def UnR (X : Cx) (f : Value → Sem Value) (r : V → Hp → VK → Prop) : Prop :=
  ∀ (pins : List (Addr × Obj)) (s : Shared) (σ : St) (H : Hp) (x : V) (v : Value) (Q : VK), Inv X pins σ H s → RelV x v → r x H Q →
    wpAny (model X.prog X.w) X.A (f v) (EP X pins σ Q) X.xe s
/-- a call of a value that is known (a builtin, a type) with values -/
def CallR (X : Cx) (f : Value) (r : List V → Hp → VK → Prop) : Prop :=
  ∀ (pins : List (Addr × Obj)) (s : Shared) (σ : St) (H : Hp) (xs : List V) (us : List Value) (Q : VK), Inv X pins σ H s → Vals xs us → r xs H Q →
    wpAny (model X.prog X.w) X.A (call f us) (EP X pins σ Q) X.xe s
def tOp (r : R2) (ta tb : TE) : TE := fun σ H Q => ta σ H fun x H1 => tb σ H1 fun y H2 => r x y H2 Q
def tUn (r : V → Hp → VK → Prop) (ta : TE) : TE := fun σ H Q => ta σ H fun x H1 => r x H1 Q
/-- ints in, under C, and a value out -/
def rI (C : Int → Int → Prop) (g : Int → Int → V) : R2 := fun x y H Q => ∃ i j, x = .int i ∧ y = .int j ∧ C i j ∧ Q (g i j) H
def rI0 (g : Int → Int → V) : R2 := fun x y H Q => ∃ i j, x = .int i ∧ y = .int j ∧ Q (g i j) H
def rU (g : Int → V) : V → Hp → VK → Prop := fun x H Q => ∃ i, x = .int i ∧ Q (g i) H

section
variable {X : Cx} {a b c : Expr} {ta tb tc : TE} {pos : Pos}

theorem binT (ha : PE X a ta) (hb : PE X b tb) {pins : List (Addr × Obj)} {s : Shared} {σ : St} {H : Hp} {R : V → V → Hp → Prop} (I : Inv X pins σ H s)
    (h : ta σ H fun x H1 => tb σ H1 fun y H2 => R x y H2) {Q : Value → Shared → Prop} {f : Value → Value → Sem Value}
    (hf : ∀ v u s2 x y H2, Inv X pins σ H2 s2 → RelV x v → RelV y u → R x y H2 → wpAny (model X.prog X.w) X.A (f v u) Q X.xe s2) :
    wpAny (model X.prog X.w) X.A (eval a X.env) (fun v s₁ => wpAny (model X.prog X.w) X.A (eval b X.env) (fun u s₂ => wpAny (model X.prog X.w) X.A (f v u) Q X.xe s₂) X.xe s₁) X.xe s := by
  refine thn (ha pins s σ H _ I h) fun v s1 ⟨x, H1, I1, r1, q1⟩ => ?_
  refine thn (hb pins s1 σ H1 _ I1 q1) fun u s2 ⟨y, H2, I2, r2, q2⟩ => ?_
  exact hf v u s2 x y H2 I2 r1 r2 q2

theorem pe_op {op : Operator} {r : R2} (ho : OpR X (binaryOp op) r) (ha : PE X a ta) (hb : PE X b tb) : PE X (.BinOp a op b pos) (tOp r ta tb) := by
  intro pins s σ H Q I h
  exact wpAny_BinOp (binT ha hb I h fun v u s2 x y H2 I2 rx ry q => ho pins s2 σ H2 x y v u Q I2 rx ry q)
theorem pe_un {op : UnaryOp} {r : V → Hp → VK → Prop} (ho : UnR X (unaryOp op) r) (ha : PE X a ta) : PE X (.UnaryOp op a pos) (tUn r ta) := by
  intro pins s σ H Q I h
  exact UnaryOp_ (thn (ha pins s σ H _ I h) fun v s1 ⟨x, H1, I1, r1, q1⟩ => ho pins s1 σ H1 x v Q I1 r1 q1)
/-! ### ints -/
theorem opI {f : Value → Value → Sem Value} {C : Int → Int → Prop} {g : Int → Int → Int}
    (rule : ∀ (i j : Int) (t u : Tok) (s : Shared) (Q : Value → Shared → Prop) (E : Value → Shared → Prop), C i j → Q (.int (g i j) s.toks) { s with toks := s.toks + 1 } → wpAny (model X.prog X.w) X.A (f (.int i t) (.int j u)) Q E s) :
    OpR X f (rI C fun i j => .int (g i j)) := by
  intro pins s σ H x y v u Q I rx ry h
  obtain ⟨i, j, rfl, rfl, hc, q⟩ := h
  obtain ⟨t, rfl⟩ := rx
  obtain ⟨t', rfl⟩ := ry
  exact rule i j t t' s _ _ hc ⟨.int (g i j), H, I.tok _, ⟨_, rfl⟩, q⟩
theorem opI0 {f : Value → Value → Sem Value} {g : Int → Int → Int}
    (rule : ∀ (i j : Int) (t u : Tok) (s : Shared) (Q : Value → Shared → Prop) (E : Value → Shared → Prop), Q (.int (g i j) s.toks) { s with toks := s.toks + 1 } → wpAny (model X.prog X.w) X.A (f (.int i t) (.int j u)) Q E s) :
    OpR X f (rI0 fun i j => .int (g i j)) := by
  intro pins s σ H x y v u Q I rx ry h
  obtain ⟨i, j, rfl, rfl, q⟩ := h
  obtain ⟨t, rfl⟩ := rx
  obtain ⟨t', rfl⟩ := ry
  exact rule i j t t' s _ _ ⟨.int (g i j), H, I.tok _, ⟨_, rfl⟩, q⟩
theorem opB0 {f : Value → Value → Sem Value} {g : Int → Int → Bool}
    (rule : ∀ (i j : Int) (t u : Tok) (s : Shared) (Q : Value → Shared → Prop) (E : Value → Shared → Prop), Q (.bool (g i j)) s → wpAny (model X.prog X.w) X.A (f (.int i t) (.int j u)) Q E s) :
    OpR X f (rI0 fun i j => .bl (g i j)) := by
  intro pins s σ H x y v u Q I rx ry h
  obtain ⟨i, j, rfl, rfl, q⟩ := h
  obtain ⟨t, rfl⟩ := rx
  obtain ⟨t', rfl⟩ := ry
  exact rule i j t t' s _ _ ⟨.bl (g i j), H, I, rfl, q⟩

def CDiv (i j : Int) : Prop := 0 < j ∧ j < 1073741824
def CPow (i j : Int) : Prop := 0 ≤ j ∧ j ≤ 1000000 ∧ i.natAbs < 2 ^ 64
def CMul (i j : Int) : Prop := (-(2 ^ 64) < i ∧ i < 2 ^ 64) ∨ (-(2 ^ 64) < j ∧ j < 2 ^ 64)
theorem CMul.ok {i j : Int} (h : CMul i j) : IntMulOk i j := by
  rcases h with ⟨h1, h2⟩ | ⟨h1, h2⟩
  · exact .of_left (intBits_le_64 h1 h2)
  · exact .of_right (intBits_le_64 h1 h2)
theorem op_add : OpR X (binaryOp .Add) (rI0 fun i j => .int (i + j)) := opI0 fun _ _ _ _ _ _ _ q => add_int q
theorem op_sub : OpR X (binaryOp .Sub) (rI0 fun i j => .int (i - j)) := opI0 fun _ _ _ _ _ _ _ q => sub_int q
theorem op_mul : OpR X (binaryOp .Mult) (rI CMul fun i j => .int (i * j)) := opI fun _ _ _ _ _ _ _ hc q => mul_int q hc.ok
/-- // by a positive divisor -/
theorem op_fdiv : OpR X (binaryOp .FloorDiv) (rI CDiv fun i j => .int (i / j)) := opI fun i j _ _ _ _ _ hc q => by
  have h1 : (0 : Int) < j := hc.1
  have h2 : j < 1073741824 := hc.2
  exact floordiv_int (by omega) (by rw [Int.fdiv_eq_ediv_of_nonneg i (by omega)]; exact q) (.inl (PyProof.noPylong_small (by omega)))
/-- % by a positive divisor of any size -/
theorem op_mod : OpR X (binaryOp .Mod) (rI (fun _ j => 0 < j) fun i j => .int (i % j)) := opI fun i j _ _ _ _ _ hc q => by
  have h1 : (0 : Int) < j := hc
  exact mod_int' (by omega) (by rw [Int.fmod_eq_emod_of_nonneg i (by omega)]; exact q)
theorem op_pow : OpR X (binaryOp .Pow) (rI CPow fun i j => .int (i ^ j.toNat)) := opI fun _ _ _ _ _ _ _ hc q => pow_int_small hc.1 hc.2.1 hc.2.2 q
theorem unI {f : Value → Sem Value} {g : Int → Int}
    (rule : ∀ (i : Int) (t : Tok) (s : Shared) (Q : Value → Shared → Prop) (E : Value → Shared → Prop), Q (.int (g i) s.toks) { s with toks := s.toks + 1 } → wpAny (model X.prog X.w) X.A (f (.int i t)) Q E s) :
    UnR X f (rU fun i => .int (g i)) := by
  intro pins s σ H x v Q I rx h
  obtain ⟨i, rfl, q⟩ := h
  obtain ⟨t, rfl⟩ := rx
  exact rule i t s _ _ ⟨.int (g i), H, I.tok _, ⟨_, rfl⟩, q⟩
theorem un_neg : UnR X (unaryOp .USub) (rU fun i => .int (-i)) := unI fun _ _ _ _ _ q => neg_int q
/-! ### bools among ints: n += (a < b) -/
end

/-! ### comparisons -/
/-- the scalars that == tells apart as data does -/
def scal : V → V → Bool
  | .non, .non => true | .non, .int _ => true | .int _, .non => true | .non, .bl _ => true | .bl _, .non => true | .non, .str _ => true | .str _, .non => true
  | .int _, .int _ => true | .bl _, .bl _ => true | .str _, .str _ => true | .byt _, .byt _ => true
  | .int _, .str _ => true | .str _, .int _ => true | .bl _, .str _ => true | .str _, .bl _ => true
  | _, _ => false
def rEq : R2 := fun x y H Q => scal x y = true ∧ Q (.bl (decide (x = y))) H
def rNe : R2 := fun x y H Q => scal x y = true ∧ Q (.bl (!decide (x = y))) H

theorem dec_int {i j : Int} : decide (V.int i = V.int j) = (i == j) := by
  rw [Bool.eq_iff_iff]
  simp
theorem dec_bl {i j : Bool} : decide (V.bl i = V.bl j) = (i == j) := by
  rw [Bool.eq_iff_iff]
  simp
theorem dec_str {i j : Str} : decide (V.str i = V.str j) = (i == j) := by
  rw [Bool.eq_iff_iff]
  simp
theorem dec_byt {i j : Array UInt8} : decide (V.byt i = V.byt j) = (i.toList == j.toList) := by
  rw [Bool.eq_iff_iff]
  cases i
  cases j
  simp

section
variable {X : Cx} {a b c : Expr} {ta tb tc : TE} {pos : Pos}
theorem fin_bl {pins : List (Addr × Obj)} {σ : St} {H : Hp} {s : Shared} {Q : VK} {k k' : Bool} (I : Inv X pins σ H s) (q : Q (.bl k) H) (e : k = k') : EP X pins σ Q (.bool k') s := by
  subst e
  exact ⟨.bl k, H, I, rfl, q⟩
theorem op_eq : OpR X (compareOp .Eq) rEq := by
  intro pins s σ H x y v u Q I rx ry h
  obtain ⟨hs, q⟩ := h
  cases x with
  | non =>
    cases rx
    cases y with
    | non => cases ry; exact PySem.EqNone.eq_none_none (fin_bl I q (by simp))
    | bl j => cases ry; exact PySem.EqNone.eq_none_bool (fin_bl I q (by simp))
    | int j => obtain ⟨t', rfl⟩ := ry; exact PySem.EqNone.eq_none_int (fin_bl I q (by simp))
    | str j => obtain ⟨t', rfl⟩ := ry; exact PySem.EqNone.eq_none_str (fin_bl I q (by simp))
    | _ => exact absurd (show false = true from hs) Bool.false_ne_true
  | bl i =>
    cases rx
    cases y with
    | non => cases ry; exact PySem.EqNone.eq_bool_none (fin_bl I q (by simp))
    | bl j => cases ry; exact eq_bool (fin_bl I q dec_bl)
    | str j => obtain ⟨t', rfl⟩ := ry; exact PySem.EqMixed.eq_bool_str (fin_bl I q (by simp))
    | _ => exact absurd (show false = true from hs) Bool.false_ne_true
  | int i =>
    obtain ⟨t, rfl⟩ := rx
    cases y with
    | non => cases ry; exact PySem.EqNone.eq_int_none (fin_bl I q (by simp))
    | int j => obtain ⟨t', rfl⟩ := ry; exact eq_int (fin_bl I q dec_int)
    | str j => obtain ⟨t', rfl⟩ := ry; exact PySem.EqMixed.eq_int_str (fin_bl I q (by simp))
    | _ => exact absurd (show false = true from hs) Bool.false_ne_true
  | str i =>
    obtain ⟨t, rfl⟩ := rx
    cases y with
    | non => cases ry; exact PySem.EqNone.eq_str_none (fin_bl I q (by simp))
    | bl j => cases ry; exact PySem.EqMixed.eq_str_bool (fin_bl I q (by simp))
    | int j => obtain ⟨t', rfl⟩ := ry; exact PySem.EqMixed.eq_str_int (fin_bl I q (by simp))
    | str j => obtain ⟨t', rfl⟩ := ry; exact eq_str (fin_bl I q dec_str)
    | _ => exact absurd (show false = true from hs) Bool.false_ne_true
  | byt i =>
    obtain ⟨t, rfl⟩ := rx
    cases y with
    | byt j => obtain ⟨t', rfl⟩ := ry; exact PySem.W.eq_bytes (fin_bl I q dec_byt)
    | _ => exact absurd (show false = true from hs) Bool.false_ne_true
  | _ => cases y <;> exact absurd (show false = true from hs) Bool.false_ne_true
theorem op_ne : OpR X (compareOp .NotEq) rNe := by
  intro pins s σ H x y v u Q I rx ry h
  obtain ⟨hs, q⟩ := h
  cases x with
  | non =>
    cases rx
    cases y with
    | non => cases ry; exact PySem.EqNone.ne_none_none (fin_bl I q (by simp))
    | bl j => cases ry; exact PySem.EqNone.ne_none_bool (fin_bl I q (by simp))
    | int j => obtain ⟨t', rfl⟩ := ry; exact PySem.EqNone.ne_none_int (fin_bl I q (by simp))
    | str j => obtain ⟨t', rfl⟩ := ry; exact PySem.EqNone.ne_none_str (fin_bl I q (by simp))
    | _ => exact absurd (show false = true from hs) Bool.false_ne_true
  | bl i =>
    cases rx
    cases y with
    | non => cases ry; exact PySem.EqNone.ne_bool_none (fin_bl I q (by simp))
    | bl j => cases ry; exact ne_bool (fin_bl I q (congrArg not dec_bl))
    | str j => obtain ⟨t', rfl⟩ := ry; exact PySem.EqMixed.ne_bool_str (fin_bl I q (by simp))
    | _ => exact absurd (show false = true from hs) Bool.false_ne_true
  | int i =>
    obtain ⟨t, rfl⟩ := rx
    cases y with
    | non => cases ry; exact PySem.EqNone.ne_int_none (fin_bl I q (by simp))
    | int j => obtain ⟨t', rfl⟩ := ry; exact ne_int (fin_bl I q (congrArg not dec_int))
    | str j => obtain ⟨t', rfl⟩ := ry; exact PySem.EqMixed.ne_int_str (fin_bl I q (by simp))
    | _ => exact absurd (show false = true from hs) Bool.false_ne_true
  | str i =>
    obtain ⟨t, rfl⟩ := rx
    cases y with
    | non => cases ry; exact PySem.EqNone.ne_str_none (fin_bl I q (by simp))
    | bl j => cases ry; exact PySem.EqMixed.ne_str_bool (fin_bl I q (by simp))
    | int j => obtain ⟨t', rfl⟩ := ry; exact PySem.EqMixed.ne_str_int (fin_bl I q (by simp))
    | str j => obtain ⟨t', rfl⟩ := ry; exact ne_str (fin_bl I q (congrArg not dec_str))
    | _ => exact absurd (show false = true from hs) Bool.false_ne_true
  | byt i =>
    obtain ⟨t, rfl⟩ := rx
    cases y with
    | byt j => obtain ⟨t', rfl⟩ := ry; exact PySem.W.ne_bytes (fin_bl I q (congrArg not dec_byt))
    | _ => exact absurd (show false = true from hs) Bool.false_ne_true
  | _ => cases y <;> exact absurd (show false = true from hs) Bool.false_ne_true

theorem op_lt : OpR X (compareOp .Lt) (rI0 fun i j => .bl (decide (i < j))) := opB0 fun _ _ _ _ _ _ _ q => lt_int q
theorem op_le : OpR X (compareOp .LtE) (rI0 fun i j => .bl (decide (i ≤ j))) := opB0 fun _ _ _ _ _ _ _ q => le_int q
theorem op_gt : OpR X (compareOp .Gt) (rI0 fun i j => .bl (decide (j < i))) := opB0 fun _ _ _ _ _ _ _ q => gt_int q
theorem nomark (b : Expr) {op : CmpOp} (h : op ≠ .In := by decide) (h2 : op ≠ .NotIn := by decide) : behindInMarks op b = false := by
  have e1 : (op == CmpOp.In) = false := by cases op <;> first | rfl | exact absurd rfl h
  have e2 : (op == CmpOp.NotIn) = false := by cases op <;> first | rfl | exact absurd rfl h2
  cases b <;> simp [behindInMarks, e1, e2]
/-- a comparison as a value; hm: nomark b, or (for in, not in) by with_unfolding_all rfl -/
theorem pe_cmpR {op : CmpOp} {r : R2} (ho : OpR X (compareOp op) r) (ha : PE X a ta) (hb : PE X b tb) (hm : behindInMarks op b = false) : PE X (.Compare a [op] [b] pos) (tOp r ta tb) := by
  intro pins s σ H Q I h
  exact wpAny_Compare1 (binT ha hb I h fun v u s2 x y H2 I2 rx ry q => ho pins s2 σ H2 x y v u Q I2 rx ry q) hm
/-- a reading of a value as a test -/
def tTest (t : TE) : TT := fun σ H Q => t σ H fun x H' => ∃ k, x = .bl k ∧ Q k H'
theorem pt_cmpR {op : CmpOp} {r : R2} (ho : OpR X (compareOp op) r) (ha : PE X a ta) (hb : PE X b tb) (hm : behindInMarks op b = false) : PT X (.Compare a [op] [b] pos) (tTest (tOp r ta tb)) := by
  intro pins s σ H Q I h
  refine wpAny_isTrue_Compare1 (thn (ha pins s σ H _ I h) fun v s1 ⟨x, H1, I1, r1, q1⟩ => thn (hb pins s1 σ H1 _ I1 q1) fun u s2 ⟨y, H2, I2, r2, q2⟩ =>
    thn (ho pins s2 σ H2 x y v u _ I2 r1 r2 q2) fun c s3 ⟨z, H3, I3, r3, k, e, q3⟩ => ?_) hm
  subst e
  cases r3
  exact wpAny_truthy_bool ⟨H3, I3, q3⟩
/-- a op1 b op2 c -/
def tChain (r r' : R2) (ta tb tc : TE) : TE := fun σ H Q => ta σ H fun x H1 => tb σ H1 fun y H2 => r x y H2 fun z H3 => ∃ k, z = .bl k ∧
  (if k = true then tc σ H3 fun w' H4 => r' y w' H4 Q else Q (.bl false) H3)
theorem pt_chain {op op' : CmpOp} {r r' : R2} (ho : OpR X (compareOp op) r) (ho' : OpR X (compareOp op') r') (ha : PE X a ta) (hb : PE X b tb) (hc : PE X c tc)
    (hm : lastMarks [op, op'] [b, c] = false := by with_unfolding_all rfl) : PT X (.Compare a [op, op'] [b, c] pos) (tTest (tChain r r' ta tb tc)) := by
  intro pins s σ H Q I h
  refine isTrue_chain (thn (ha pins s σ H _ I h) fun v s1 ⟨x, H1, I1, r1, q1⟩ => test_link (thn (hb pins s1 σ H1 _ I1 q1) fun u s2 ⟨y, H2, I2, r2, q2⟩ =>
    thn (ho pins s2 σ H2 x y v u _ I2 r1 r2 q2) fun d s3 ⟨z, H3, I3, r3, k, e, q3⟩ => ?_)) hm
  subst e
  cases r3
  refine wpAny_truthy_bool ?_
  cases k with
  | false =>
    obtain ⟨k', e', q'⟩ := q3
    cases e'
    exact ite_ff ⟨H3, I3, q'⟩
  | true =>
    refine ite_tt (test_last (thn (hc pins s3 σ H3 _ I3 q3) fun w' s4 ⟨z', H4, I4, r4, q4⟩ => thn (ho' pins s4 σ H4 y z' u w' _ I4 r2 r4 q4) fun d' s5 ⟨z2, H5, I5, r5, k2, e2, q5⟩ => ?_))
    subst e2
    cases r5
    exact wpAny_truthy_bool ⟨H5, I5, q5⟩

/-! ### truth -/
theorem line63 : (sizeLine : Nat) < 2 ^ 63 := by rw [sizeLine_eq]; decide
/-! ### strs and bytes -/
/-! ### scalar builtins, by CallR -/
theorem vals1 {x : V} {us : List Value} (r : Vals [x] us) : ∃ u, us = [u] ∧ RelV x u := by
  cases r with
  | cons r1 r2 => cases r2; exact ⟨_, rfl, r1⟩
theorem vals2 {x y : V} {us : List Value} (r : Vals [x, y] us) : ∃ u w', us = [u, w'] ∧ RelV x u ∧ RelV y w' := by
  cases r with
  | cons r1 r2 =>
    cases r2 with
    | cons r3 r4 => cases r4; exact ⟨_, _, rfl, r1, r3⟩
theorem call_abs : CallR X (.builtin "abs") (fun xs H Q => ∃ i, xs = [.int i] ∧ Q (.int (if i < 0 then -i else i)) H) := by
  intro pins s σ H xs us Q I r h
  obtain ⟨i, rfl, q⟩ := h
  obtain ⟨u, rfl, t, rfl⟩ := vals1 r
  exact call_abs_int fun u tk => ⟨.int (if i < 0 then -i else i), H, I.tok _, ⟨_, rfl⟩, q⟩
end
end L2

namespace L2
open PySem PySem.Spec PyProof.Rows

/-! ### an instance, its attributes a map -/
structure ObjM (h : Heap) (x dx C : Addr) (mA : Str → Option Value) : Prop where
  obj : h.get? x = some (PySem.W.instObj C dx)
  ns : h.Ns1 dx mA
  ne : dx ≠ x

theorem lookIn_ns {h : Heap} {dx : Addr} {mA : Str → Option Value} (n : h.Ns1 dx mA) : ∃ od, h.get? dx = some od ∧ ∀ name, PySem.W.lookIn name od = some (mA name) := by
  obtain ⟨o, es, ep, ho, hd, hk, _, hm⟩ := n
  refine ⟨o, ho, fun name => ?_⟩
  have e := hm name
  unfold nsFind findBy at e
  rw [← Array.find?_toList] at e
  unfold PySem.W.lookIn
  rw [hd]
  dsimp only
  split
  · rename_i y q
    rw [q] at e
    exact congrArg some e
  · rename_i q
    rw [q] at e
    have a : es.toList.any (·.refKey) = false := by
      rw [List.any_eq_false]
      intro y hy
      obtain ⟨z, t, hkey⟩ := hk y (Array.mem_toList_iff.mp hy)
      simp [DictEntry.refKey, hkey]
    have a' : ¬ es.toList.any (·.refKey) = true := by rw [a]; exact Bool.false_ne_true
    rw [if_neg a']
    exact congrArg some e

theorem ObjM.look {h : Heap} {x dx C : Addr} {mA : Str → Option Value} (I : ObjM h x dx C mA) : ∃ od, PySem.W.InstAt h x (PySem.W.instObj C dx) C (some od) ∧ ∀ name, PySem.W.lookIn name od = some (mA name) :=
  let ⟨od, ho, hl⟩ := lookIn_ns I.ns
  ⟨od, ⟨I.obj, rfl, rfl, ho⟩, hl⟩

section
variable {prog : Program} {w : World} {A : Around} {E : Value → Shared → Prop} {s : Shared} {K : PySem.W.Frag} {x dx C f : Addr} {mA : Str → Option Value} {name : Str} {v : Value}

end

/-! ### the attributes as a list of pairs -/
section
variable {P : Program} {w : World} {H H' : Hp} {h h' : Heap} {a C dx : Addr} {fs fs' : List (Str × V)}
theorem ins_get (hok : HOk P w H h) (e : H a = some (.ins C dx fs)) : ∃ mA, ObjM h a dx C mA ∧ (∀ f, RelO (fs.lookup f) (mA f)) ∧ PySem.Within mA (fs.map (·.1)) ∧ fs.length ≤ 1000 ∧ H dx = some (.own a) := by
  obtain ⟨d, z, ne, ob, mA, n, r, q⟩ := (show ObjOk P w H h a (.ins C dx fs) from hok a _ e)
  exact ⟨mA, ⟨ob, n, ne⟩, r, q, z, d⟩
end

/-! ### what of the text a class must have -/
structure Cls (K : PySem.W.Frag) (C : Addr) : Prop where
  pg : PySem.W.plainGet K C Str.empty = true
  hd : PySem.W.hasDictIn K C = true
  po : PySem.W.plainOver K C = true
  sa : PySem.W.findIn K (.ref C) "__setattr__" = some (some (.builtin "object.__setattr__"))
theorem Cls.get {K : PySem.W.Frag} {C : Addr} (c : Cls K C) (f : Str) : PySem.W.plainGet K C f = true := c.pg
section
variable {X : Cx} {pins : List (Addr × Obj)} {σ : St} {H : Hp} {s : Shared} {a C dx : Addr} {fs : List (Str × V)} {f : Str} {v : V} {A : Around} {E : Value → Shared → Prop}

end

/-! ### readings and rules -/
section
variable {X : Cx} {o e value : Expr} {f : Str} {pos pos' tpos : Pos} {ta tv : TE}
end

/-! ### isinstance -/
section
variable {X : Cx} {pins : List (Addr × Obj)} {σ : St} {H : Hp} {s : Shared} {A : Around} {E : Value → Shared → Prop} {Q : Value → Shared → Prop} {c : Value} {b : Bool}
/-- the type of a value, as the fragment's deciders take it; for an instance its class -/
inductive TyOf (K : PySem.W.Frag) (H : Hp) : V → Value → Prop where
  | non : TyOf K H .non (.type "NoneType")
  | bl (x : Bool) : TyOf K H (.bl x) (.type "bool")
  | int (i : Int) : TyOf K H (.int i) (.type "int")
  | str (x : Str) : TyOf K H (.str x) (.type "str")
  | flt (x : UInt64) : TyOf K H (.flt x) (.type "float")
  | lst {a : Addr} {xs : List V} (e : H a = some (.lst xs)) : TyOf K H (.ref a) (.type "list")
  | frz {a : Addr} {o : Obj} {xs : List V} (e : H a = some (.frz o (.lst xs))) : TyOf K H (.ref a) (.type "list")
  | tup {a : Addr} {xs : List V} (e : H a = some (.tup xs)) : TyOf K H (.ref a) (.type "tuple")
  | dK {a : Addr} {kvs : List (Key × V)} (e : H a = some (.dK kvs)) : TyOf K H (.ref a) (.type "dict")
  | dT {a : Addr} {kvs : List (List Key × V)} (e : H a = some (.dT kvs)) : TyOf K H (.ref a) (.type "dict")
  | ins {a C dx : Addr} {fs : List (Str × V)} (e : H a = some (.ins C dx fs)) (cl : Cls K C) (ha : PySem.W.findIn K (.ref C) "__class__" = some (some (.builtin "object.__class__")))
      (hn : PySem.W.specialIn K (.builtin "object.__class__") "__get__" = some (some (.builtin "getset_descriptor.__get__"))) (htk : PySem.W.takesIn K (.builtin "object.__class__") = some true)
      (hm : PySem.W.mroIn K C (.type "object") = some true) : TyOf K H (.ref a) (.ref C)
/-- isinstance(x, c) for one class c, a built-in or an own one: kitOne's answer -/
theorem isinst_ok {x : V} {u t : Value} (I : Inv X pins σ H s) (rx : RelV x u) (ty : TyOf X.K H x t) (e : PySem.W.kitOne X.K t c = some b) (h : ∀ tk, Q (.bool b) { s with toks := tk }) :
    wpAny (model X.prog X.w) A (call (.builtin "isinstance") [u, c]) Q E s := by
  cases ty with
  | non => cases (show u = Value.none from rx); exact PySem.W.kia_one PySem.W.kitx_none I.kIn True.intro e (fun z => nomatch z) h
  | bl y => cases (show u = Value.bool y from rx); exact PySem.W.kia_one PySem.W.kitx_bool I.kIn True.intro e (fun z => nomatch z) h
  | int i => obtain ⟨t, q⟩ := (show ∃ t, u = Value.int i t from rx); cases q; exact PySem.W.kia_one PySem.W.kitx_int I.kIn True.intro e (fun z => nomatch z) h
  | str y => obtain ⟨t, q⟩ := (show ∃ t, u = Value.str y t from rx); cases q; exact PySem.W.kia_one PySem.W.kitx_str I.kIn True.intro e (fun z => nomatch z) h
  | flt y => obtain ⟨t, q⟩ := (show ∃ t, u = Value.float y t from rx); cases q; exact PySem.W.kia_one PySem.W.kitx_float I.kIn True.intro e (fun z => nomatch z) h
  | @lst a xs ea =>
    cases (show u = Value.ref a from rx)
    obtain ⟨_, _, n, _, h1⟩ := (show ObjOk X.prog X.w H s.heap a (.lst xs) from I.hok a _ ea)
    exact PySem.W.kia_one PySem.W.kitx_list I.kIn ⟨_, h1, rfl⟩ e (fun z => nomatch z) h
  | @frz a ob xs ea =>
    cases (show u = Value.ref a from rx)
    obtain ⟨_, _, _, n, _, h1⟩ := (show ObjOk X.prog X.w H s.heap a (.frz ob (.lst xs)) from I.hok a _ ea)
    exact PySem.W.kia_one PySem.W.kitx_list I.kIn ⟨_, h1, rfl⟩ e (fun z => nomatch z) h
  | @tup a xs ea =>
    cases (show u = Value.ref a from rx)
    obtain ⟨_, _, _, p⟩ := (show ObjOk X.prog X.w H s.heap a (.tup xs) from I.hok a _ ea)
    obtain ⟨o, h1, h2, _⟩ := p
    exact PySem.W.kia_one PySem.W.kitx_tuple I.kIn ⟨o, h1, h2⟩ e (fun z => nomatch z) h
  | @dK a kvs ea =>
    cases (show u = Value.ref a from rx)
    obtain ⟨_, _, vs, _, p⟩ := (show ObjOk X.prog X.w H s.heap a (.dK kvs) from I.hok a _ ea)
    obtain ⟨o, es, ep, h1, h2, _⟩ := p
    exact PySem.W.kia_one PySem.W.kitx_dict I.kIn ⟨o, h1, h2.1⟩ e (fun z => nomatch z) h
  | @dT a kvs ea =>
    cases (show u = Value.ref a from rx)
    obtain ⟨_, _, xs, _, o, es, ep, h1, h2, _⟩ := (show ObjOk X.prog X.w H s.heap a (.dT kvs) from I.hok a _ ea)
    exact PySem.W.kia_one PySem.W.kitx_dict I.kIn ⟨o, h1, h2.1⟩ e (fun z => nomatch z) h
  | @ins a C dx fs ea cl ha hn htk hm =>
    cases (show u = Value.ref a from rx)
    obtain ⟨mA, O, _⟩ := ins_get I.hok ea
    obtain ⟨od, J, _⟩ := O.look
    exact PySem.W.kia_one (PySem.W.kitx_own (cl.get _) cl.hd ha hn htk hm) I.kIn J e (fun z => nomatch z) h
end
end L2

namespace L2
open PySem PySem.Spec PyProof.Rows

/-! ### room -/
structure Room (k : Nat) (A : Around) : Prop where
  hd : A.handled = none
  dp : A.depth + 3 * k + 5 < recursionLimit
  un : A.units + 16 * k + 200 < cLine
theorem Room.mono {j k : Nat} {A : Around} (r : Room k A) (h : j ≤ k) : Room j A := ⟨r.hd, by have := r.dp; omega, by have := r.un; omega⟩
theorem Room.deeper {k : Nat} {A : Around} (r : Room (k + 1) A) (env : Env) : Room k (A.deeper env) :=
  ⟨r.hd, by have := r.dp; show A.depth + 1 + 3 * k + 5 < _; omega, by have := r.un; show A.units + 3 + 16 * k + 200 < _; omega⟩
theorem Room.depth {k : Nat} {A : Around} (r : Room k A) : A.depth < recursionLimit := by have := r.dp; omega
theorem Room.units {k : Nat} {A : Around} (r : Room k A) : A.units + 64 < cLine := by have := r.un; omega
/-! ### argument lists and displays -/
def tNil : TA := fun _ H Q => Q [] H
def tCons (ta : TE) (tr : TA) : TA := fun σ H Q => ta σ H fun x H1 => tr σ H1 fun xs H2 => Q (x :: xs) H2
section
variable {X : Cx} {e : Expr} {es : List Expr} {te : TE} {t : TA} {pos : Pos}
theorem pa_nil : PA X [] tNil := fun _ _ _ _ H Q I h => Calls.spliced_nil ⟨[], H, I, .nil, h⟩
theorem pa_cons (ha : PE X e te) (hr : PA X es t) (hs : starEach (e :: es) X.env = (false, eval e X.env) :: starEach es X.env := by rfl) : PA X (e :: es) (tCons te t) := by
  intro pos pins s σ H Q I h
  rw [hs]
  show wpAny _ _ (spliced ((false, eval e X.env) :: backTo pos (starEach es X.env))) _ _ s
  refine Calls.spliced_cons (thn (ha pins s σ H _ I h) fun u s1 ⟨x, H1, I1, r1, q1⟩ => ?_)
  exact thn (hr pos pins s1 σ H1 _ I1 q1) fun us s2 ⟨xs, H2, I2, r2, q2⟩ => ⟨x :: xs, H2, I2, .cons r1 r2, q2⟩

/-- a tuple, a list of written items -/
def tTup (t : TA) : TE := fun σ H Q => t σ H fun xs H1 => xs.length ≤ sizeLine ∧ ∀ p, H1 p = none → Q (.ref p) (upd H1 p (.tup xs))
def tLst (t : TA) : TE := fun σ H Q => t σ H fun xs H1 => xs.length ≤ sizeLine ∧ ∀ p, H1 p = none → Q (.ref p) (upd H1 p (.lst xs))
theorem pe_tup {x1} (h : PA X es t) : PE X (.Tuple es x1 pos) (tTup t) := by
  intro pins s σ H Q I hq
  refine wpAny_Tuple_spliced (thn (h pos pins s σ H _ I hq) fun us s1 ⟨xs, H1, I1, r, z, q⟩ => ⟨by rw [← r.length]; exact z, ?_⟩)
  have hf : H1 s1.heap.objs.size = none := I1.hok.fresh (Nat.le_refl _)
  refine ⟨.ref s1.heap.objs.size, upd H1 s1.heap.objs.size (.tup xs), I1.laid (t' := s1.toks) (fun b u e => Heap.get?_push_of_some _ e) (Nat.le_refl _) ?_, rfl, q _ hf⟩
  exact ⟨z, us, r, ⟨_, Heap.get?_push_size _ rfl, rfl, _, rfl⟩⟩
theorem pe_lst (h : PA X es t) : PE X (.List es pos) (tLst t) := by
  intro pins s σ H Q I hq
  refine wpAny_List_spliced (thn (h pos pins s σ H _ I hq) fun us s1 ⟨xs, H1, I1, r, z, q⟩ => ⟨by rw [← r.length]; exact z, ?_⟩)
  have hf : H1 s1.heap.objs.size = none := I1.hok.fresh (Nat.le_refl _)
  refine ⟨.ref s1.heap.objs.size, upd H1 s1.heap.objs.size (.lst xs), I1.laid (t' := s1.toks) (fun b u e => Heap.get?_push_of_some _ e) (Nat.le_refl _) ?_, rfl, q _ hf⟩
  exact ⟨z, us, 0, r, Heap.get?_push_size _ rfl⟩
end

/-! ### what a def promises -/
/-- a def's promise: the bound arguments in the parameters' order, the heap, the wanted end, the wanted exception -/
abbrev Sp := List V → Hp → VK → XK → Prop
/-- how an exception lies behind a call (file 08 gives it): the callers' frames, abstract heap and state ahead of the call, the wish, the exception, the state -/
abbrev CXT := List Env → Hp → Shared → XK → Value → Shared → Prop

/-- the state at a call -/
structure Env0 (P : Program) (w : World) (K : PySem.W.Frag) (mg : Str → Option Value) (base : Heap) (A : Around) (outer : List Env) (s : Shared) (H : Hp) : Prop where
  frames : A.frames = some outer
  mod : Mod K mg base
  bs : ∀ b o, base.get? b = some o → s.heap.get? b = some o ∧ H b = none
  bsz : base.objs.size ≤ s.heap.objs.size
  funs : s.heap.FunFrames base outer
  frf : ∀ b ∈ frs outer, H b = none
  hok : HOk P w H s.heap
  bare : AllBare s.gens
/-- a call's end -/
def CE (outer : List Env) (P : Program) (w : World) (H : Hp) (s : Shared) (Q : VK) (u : Value) (s' : Shared) : Prop :=
  ∃ v H', s'.os = s.os ∧ AllBare s'.gens ∧ Un (frs outer) [] H H' s.heap s'.heap ∧ HOk P w H' s'.heap ∧ RelV v u ∧ Q v H'
def CR (CX : CXT) (outer : List Env) (P : Program) (w : World) (H : Hp) (s : Shared) (Q : VK) (E : XK) (r : Result) (s' : Shared) : Prop :=
  match r with
  | .ok (.ret u) => CE outer P w H s Q u s'
  | .ok _ => False
  | .error e => CX outer H s E e s'
structure FnOk (P : Program) (w : World) (K : PySem.W.Frag) (mg : Str → Option Value) (base : Heap) (CX : CXT) (k : Nat) (f : Addr) (fd : FuncData) (ps : List Str) (sp : Sp) : Prop where
  len : ∀ vs H Q E, sp vs H Q E → vs.length = ps.length
  run : ∀ (A : Around) (outer : List Env) (s : Shared) (H : Hp) (args : Args) (us : List Value) (vs : List V) (Q : VK) (E : XK), Room k A → Env0 P w K mg base A outer s H → BindsTo s fd args (ps.zip us) → Vals vs us → sp vs H Q E →
    codeAny (model P w) A (.call (.ref f) args) (CR CX outer P w H s Q E) s
section
variable {X : Cx} {pins : List (Addr × Obj)} {σ : St} {H : Hp} {s s' : Shared}
/-- from a body: what a callee wants -/
theorem Inv.env0 (I : Inv X pins σ H s) : Env0 X.prog X.w X.K X.mg X.base X.A X.stack s H :=
  ⟨I.ok.frames, I.ok.mod, I.bs, Nat.le_trans I.ok.bsz I.sz, I.stack, I.stkFree, I.hok, I.bare⟩
/-- behind a call -/
theorem Inv.after {Q : VK} {u : Value} (I : Inv X pins σ H s) (h : CE X.stack X.prog X.w H s Q u s') : EP X pins σ Q u s' := by
  obtain ⟨v, H', os, bare, un, hok, r, q⟩ := h
  obtain ⟨hh, g, d, t, os'⟩ := s'
  obtain rfl : os' = s.os := os
  exact ⟨v, H', I.call (h' := hh) (g' := g) (d' := d) (t' := t) (ch := []) un hok bare (fun b z => absurd z (by simp)), r, q⟩
end

/-! ### calls -/
/-- f(..): the written arguments, then the defaults dvs; E: what is wanted of an exception -/
def tCall (sp : Sp) (dvs : List V) (E : XK) (t : TA) : TE := fun σ H Q => t σ H fun vs H1 => sp (vs ++ dvs) H1 Q E
/-- how the parameters are bound: us the positional arguments, kw the keywords' values by name, ds the defaults that fill up -/
def Binds (K : PySem.W.Frag) (fd : FuncData) (ps : List Str) (ds : List Value) : Prop :=
  ∀ (s : Shared) (us : List Value), K.In s.heap → (us ++ ds).length = ps.length → BindsTo s fd ⟨us, []⟩ (ps.zip (us ++ ds))
/-- every parameter is given -/
theorem Binds.all {K : PySem.W.Frag} {fd : FuncData} {ps : List Str} (h : ∀ us : List Value, us.length = ps.length → bindArgs fd ⟨us, []⟩ = pure (ps.zip us)) : Binds K fd ps [] := fun s us _ hl => by
  rw [List.append_nil] at hl ⊢
  exact .of_eq (h us hl)

/-- an exception of a callee reaches what this body wants of exceptions -/
def Passes (CX : CXT) (X : Cx) (E : XK) : Prop := ∀ (pins : List (Addr × Obj)) (σ : St) (H : Hp) (s : Shared) (e : Value) (s' : Shared), Inv X pins σ H s → CX X.stack H s E e s' → X.xe e s'

section
variable {X : Cx} {CX : CXT} {k : Nat} {f C : Addr} {fd : FuncData} {ps : List Str} {sp : Sp} {dvs : List V} {ds : List Value} {E : XK} {x m : Str} {p pos apos : Pos} {e o : Expr} {es : List Expr} {ta : TE} {t : TA}

/-- the callee runs -/
theorem run_fn {pins : List (Addr × Obj)} {σ : St} {H : Hp} {s : Shared} {Q : VK} {us : List Value} {vs : List V} (F : FnOk X.prog X.w X.K X.mg X.base CX k f fd ps sp) (hr : Room k X.A) (hb : Binds X.K fd ps ds) (hd : Vals dvs ds) (hx : Passes CX X E)
    (I : Inv X pins σ H s) (r : Vals vs us) (h : sp (vs ++ dvs) H Q E) : wpAny (model X.prog X.w) X.A (call (.ref f) us) (EP X pins σ Q) X.xe s := by
  have r2 : Vals (vs ++ dvs) (us ++ ds) := r.append hd
  have hl : (us ++ ds).length = ps.length := by rw [← r2.length]; exact F.len _ _ _ _ h
  refine wpAny_call (codeAny_mono (F.run X.A X.stack s H ⟨us, []⟩ (us ++ ds) (vs ++ dvs) Q E hr I.env0 (hb s us I.kIn hl) r2 h) fun r s' hq => ?_)
  cases r with
  | error e => exact hx pins σ H s e s' I hq
  | ok fl =>
    cases fl with
    | ret u => exact I.after hq
    | next => exact False.elim hq
    | brk => exact False.elim hq
    | cont => exact False.elim hq

theorem pe_call (F : FnOk X.prog X.w X.K X.mg X.base CX k f fd ps sp) (hr : Room k X.A) (hg : Gl X x) (hm : X.mg x = some (.ref f)) (hk : PySem.W.keepIn X.K (.ref f) = true) (hb : Binds X.K fd ps ds) (hd : Vals dvs ds) (hx : Passes CX X E)
    (ha : PA X (e :: es) t) (hdb : (x == ("__debug__" : Str)) = false := by decide) (he : starEach (e :: es) X.env = (false, eval e X.env) :: starEach es X.env := by rfl) (hpl : (backTo pos (starEach es X.env)).any (·.1) = false := by rfl) :
    PE X (.Call (.Name x p) (e :: es) [] pos) (tCall sp dvs E t) := by
  intro pins s σ H Q I h
  refine wpAny_Call_Name_kw (ld_glob I hg hm ?_ hdb)
  refine PySem.W.callWith_K (h₀ := X.base) I.ok.mod.kin hk (thn (ha pos pins s σ H _ I h) fun us s1 ⟨vs, H1, I1, r, q⟩ => ⟨I1.kIn, ?_⟩) he hpl
  exact run_fn F hr hb hd hx I1 r q
end

/-! ### keywords -/
section
variable {X : Cx} {CX : CXT} {k : Nat} {f C : Addr} {fd : FuncData} {ps ks : List Str} {sp : Sp} {E : XK} {x m : Str} {p pos apos kpos : Pos} {e o : Expr} {es : List Expr} {kws : List Keyword} {te ta : TE} {t tk : TA} {nm : Option Str}
variable {g : List Value → List Value → List Value} {gV : List V → List V → List V}
end

/-! ### a def's body keeps its promise -/
/-- names: the parameters first -/
structure FnScope (N P : List Str) (sc : Scope) : Prop where
  kind : sc.kind = .function
  co : sc.isCoroutine = false
  gen : sc.isGenerator = false
  nd : N.Nodup
  pre : N.take P.length = P
  par : ∀ x ∈ P, sc.names.lookup x = some .local ∨ sc.names.lookup x = some .cell
  nofree : ∀ y ∈ sc.names, y.2 ≠ .free

theorem bindL_out {kindOf : Str → Option NameKind} {x : Str} : ∀ {binds : List (Str × Value)} {m : Str → Option Value}, (∀ v, (x, v) ∉ binds) → bindL kindOf binds m x = m x
  | [], _, _ => rfl
  | (n, v) :: r, m, h => by
    unfold bindL
    rw [bindL_out fun w hw => h w (List.mem_cons_of_mem _ hw)]
    split
    · have : x ≠ n := by rintro rfl; exact h v List.mem_cons_self
      simp [this]
    · rfl
theorem bindC_out {kindOf : Str → Option NameKind} {x : Str} : ∀ {binds : List (Str × Value)} {m : Str → Option Value}, (∀ v, (x, v) ∉ binds) → bindC kindOf binds m x = m x
  | [], _, _ => rfl
  | (n, v) :: r, m, h => by
    unfold bindC
    rw [bindC_out fun w hw => h w (List.mem_cons_of_mem _ hw)]
    split
    · rfl
    · have : x ≠ n := by rintro rfl; exact h v List.mem_cons_self
      simp [this]
theorem bindL_get {kindOf : Str → Option NameKind} {x : Str} {v : Value} : ∀ {P : List Str} {vs : List Value} {i : Nat} {m : Str → Option Value}, P.Nodup → P[i]? = some x → vs[i]? = some v → kindOf x = some .local →
    bindL kindOf (P.zip vs) m x = some v
  | [], _, _, _, _, h, _, _ => by simp at h
  | _ :: _, [], _, _, _, _, h, _ => by simp at h
  | p :: P, w :: vs, 0, m, nd, h1, h2, hk => by
    simp at h1 h2; subst h1; subst h2
    show bindL kindOf ((p, w) :: P.zip vs) m p = _
    unfold bindL
    rw [bindL_out fun v hv => (List.nodup_cons.mp nd).1 (List.of_mem_zip hv).1, if_pos hk]
    simp
  | p :: P, w :: vs, i + 1, m, nd, h1, h2, hk => by
    show bindL kindOf ((p, w) :: P.zip vs) m x = _
    unfold bindL
    exact bindL_get (i := i) (List.nodup_cons.mp nd).2 (by simpa using h1) (by simpa using h2) hk
theorem bindC_get {kindOf : Str → Option NameKind} {x : Str} {v : Value} : ∀ {P : List Str} {vs : List Value} {i : Nat} {m : Str → Option Value}, P.Nodup → P[i]? = some x → vs[i]? = some v → kindOf x ≠ some .local →
    bindC kindOf (P.zip vs) m x = some v
  | [], _, _, _, _, h, _, _ => by simp at h
  | _ :: _, [], _, _, _, _, h, _ => by simp at h
  | p :: P, w :: vs, 0, m, nd, h1, h2, hk => by
    simp at h1 h2; subst h1; subst h2
    show bindC kindOf ((p, w) :: P.zip vs) m p = _
    unfold bindC
    rw [bindC_out fun v hv => (List.nodup_cons.mp nd).1 (List.of_mem_zip hv).1, if_neg hk]
    simp
  | p :: P, w :: vs, i + 1, m, nd, h1, h2, hk => by
    show bindC kindOf ((p, w) :: P.zip vs) m x = _
    unfold bindC
    exact bindC_get (i := i) (List.nodup_cons.mp nd).2 (by simpa using h1) (by simpa using h2) hk

/-- the names' values at the entry -/
def start (N : List Str) (vs : List V) : St := vs.map some ++ List.replicate (N.length - vs.length) none

/-- the context of a def's body, at its entry; an exception leaves the frame, then lies as CX says -/
def cxOf (CX : CXT) (P : Program) (w : World) (K : PySem.W.Frag) (mg : Str → Option Value) (base : Heap) (N : List Str) (qual : Str) (scope : Scope) (f : Addr) (cd : Value) (A : Around) (outer : List Env) (s : Shared) (H : Hp) (E : XK) : Cx where
  prog := P
  w := w
  K := K
  mg := mg
  base := base
  A := A.deeper (envOfC qual scope s.heap.objs.size f cd)
  N := N
  s₀ := s
  H₀ := H
  env := envOfC qual scope s.heap.objs.size f cd
  outer := outer
  stack := envOfC qual scope s.heap.objs.size f cd :: outer
  ex := []
  calm := true
  fn := fun _ => true
  pn := []
  xe := fun e s' => wpAny (model P w) (A.deeper (envOfC qual scope s.heap.objs.size f cd)) (leaving (envOfC qual scope s.heap.objs.size f cd) e) (fun _ s'' => CX outer H s E e s'') (fun e' s'' => CX outer H s E e' s'') s'

theorem cell_has {sc : Scope} {n : Nat} {x : Str} (h : sc.names.lookup x = some .cell) : ∃ c, (cellsFrom n sc.names []).lookup x = some c := by
  have q := PySem.W.cellsFrom_some sc.names n [] (.inl h)
  exact Option.isSome_iff_exists.mp q

theorem inv_start {CX : CXT} {P : Program} {w : World} {K : PySem.W.Frag} {mg : Str → Option Value} {base : Heap} {N ps : List Str} {qual : Str} {scope : Scope} {f : Addr} {cd : Value} {A : Around} {outer : List Env} {s s1 : Shared} {H : Hp} {E : XK} {us : List Value} {vs : List V}
    (S : FnScope N ps scope) (hd : A.handled = none) (e0 : Env0 P w K mg base A outer s H) (hl : vs.length = ps.length) (r : Vals vs us)
    (x : InCallC s s.heap.objs.size (bindL (envOfC qual scope s.heap.objs.size f cd).kindOf (ps.zip us) fun _ => none) (cellsFrom (s.heap.objs.size + 1) scope.names []) (bindC (envOfC qual scope s.heap.objs.size f cd).kindOf (ps.zip us) fun _ => none) s1) :
    Inv (cxOf CX P w K mg base N qual scope f cd A outer s H E) [] (start N vs) H s1 := by
  have hpl : ps.length ≤ N.length := by have := congrArg List.length S.pre; rw [List.length_take] at this; omega
  obtain ⟨h1, tk, rfl, hk⟩ := x.done
  have noA : ∀ b : Addr, b ∉ (cxOf CX P w K mg base N qual scope f cd A outer s H E).ex := fun b z => absurd (show b ∈ ([] : List Addr) from z) (by simp)
  refine ⟨⟨e0.mod, S.kind, rfl, rfl, Nat.le_refl _, fun y z c h1 h2 => ?_, fun y hy => ?_, fun y c _ h => ?_, fun _ => hd, Around.frames_deeper e0.frames, .inr ⟨rfl, rfl⟩, fun b z => absurd z (noA b), e0.bs, e0.bsz, fun b _ _ => noA b, fun b z => absurd z (noA b), e0.funs, e0.frf⟩,
    rfl, e0.bare, Un.kept hk, ⟨_, x.toInCall.ns, fun i y v h1 h2 h3 => ?_⟩, fun y c h => ⟨_, x.cell y c h⟩, e0.hok.fresh (Nat.le_refl _), fun y c h => ?_, fun p hp => absurd (show p ∈ ([] : List (Addr × Obj)) from hp) (by simp), e0.hok.kept hk, ?_⟩
  · exact name_of_addr x.apart (PySem.mem_of_lookup h1) (PySem.mem_of_lookup h2)
  · have hy : scope.names.lookup y = some .cell ∨ scope.names.lookup y = some .free := hy
    rcases hy with hy | hy
    · exact cell_has hy
    · exact absurd rfl (S.nofree _ (PySem.mem_of_lookup hy))
  · exact Nat.le_of_lt (x.above y c (PySem.mem_of_lookup h))
  · have hi : i < vs.length := by
      unfold start at h2
      by_cases hi : i < vs.length
      · exact hi
      · rw [List.getElem?_append_right (by simpa using hi)] at h2
        rw [List.getElem?_replicate] at h2
        split at h2 <;> cases h2
    have ha : vs[i]? = some v := by
      unfold start at h2
      rw [List.getElem?_append_left (by simpa using hi), List.getElem?_map] at h2
      cases e : vs[i]? with
      | none => rw [e] at h2; cases h2
      | some a => rw [e] at h2; cases h2; rfl
    obtain ⟨u, hu, rv⟩ := r.get ha
    have hp : ps[i]? = some y := by
      rw [← S.pre, List.getElem?_take_of_lt (by omega)]; exact h1
    have ndP : ps.Nodup := by rw [← S.pre]; exact S.nd.sublist (List.take_sublist _ _)
    refine ⟨u, rv, ?_⟩
    rcases S.par y (List.mem_of_getElem? hp) with k | k
    · exact .inl ⟨k, bindL_get ndP hp hu k⟩
    · obtain ⟨c, e⟩ := cell_has (n := s.heap.objs.size + 1) k
      refine .inr ⟨.inl k, c, e, ?_⟩
      have q := x.cell y c e
      rw [bindC_get ndP hp hu (by show scope.names.lookup y ≠ _; rw [k]; decide)] at q
      exact q
  · exact e0.hok.fresh (Nat.le_of_lt (x.above y c (PySem.mem_of_lookup h)))
  · unfold start
    show _ = N.length
    rw [List.length_append, List.length_map, List.length_replicate]
    omega

/-- THE RULE: a def (or a method) of the text, by its body. The body's reading t is chosen for each entry; it is run at the parameters' values -/
theorem fn_of {CX : CXT} {P : Program} {w : World} {K : PySem.W.Frag} {mg : Str → Option Value} {base : Heap} {k : Nat} {f : Addr} {name qual : Str} {params : Arguments} {body : List Stmt} {scope : Scope} {dV kV doc pm cdv ct oc : Value} {an od : Option Addr}
    {osl : Array (Option Value)} {N ps : List Str} {sp : Sp} (lk : K.lookup f = some ⟨oc, od, .func (PySem.W.fnOf name qual params body scope dV kV doc pm an cdv ct), osl⟩) (hcd : PySem.W.codeIn K cdv qual = true) (S : FnScope N ps scope)
    (len : ∀ vs H Q E, sp vs H Q E → vs.length = ps.length)
    (hbody : ∀ (A : Around) (outer : List Env) (s : Shared) (H : Hp) (vs : List V) (Q : VK) (E : XK), Room k (A.deeper (envOfC qual scope s.heap.objs.size f cdv)) → sp vs H Q E →
      ∃ t, PSs (cxOf CX P w K mg base N qual scope f cdv A outer s H E) body t ∧ t { nx := fun _ H' => Q .non H', rt := Q } (start N vs) H) :
    FnOk P w K mg base CX (k + 1) f (PySem.W.fnOf name qual params body scope dV kV doc pm an cdv ct) ps sp := by
  refine ⟨len, fun A outer s H args us vs Q E hr e0 hb r hsp => ?_⟩
  have hl := len _ _ _ _ hsp
  have KX : K.In s.heap := e0.mod.kin.keeps fun b o e => (e0.bs b o e).1
  have lim : s.heap.NoLimit := e0.mod.nolimit.keeps fun b o e => (e0.bs b o e).1
  have hkind : ∀ y ∈ ps.zip us, scope.names.lookup y.1 = some .local ∨ (scope.names.lookup y.1 = some .cell ∧ ((cellsFrom (s.heap.objs.size + 1) scope.names []).lookup y.1).isSome = true) := fun ⟨n, v⟩ hy => by
    rcases S.par n (List.of_mem_zip hy).1 with q | q
    · exact .inl q
    · exact .inr ⟨q, PySem.W.cellsFrom_some _ _ _ (.inl q)⟩
  refine codeAny_call_function hr.depth (KX _ _ lk) rfl S.co S.gen rfl (PySem.W.codeRec_of KX hcd) (hb _ _ _ _ ?_)
  refine wpAny_newFunctionEnv_cells S.kind hkind fun env he s1 x => ?_
  subst he
  refine ⟨lim.keeps x.toInCall.keep, codeAny_func ?_⟩
  obtain ⟨t, ht, hq⟩ := hbody A outer s H vs Q E (hr.deeper _) hsp
  have I : Inv (cxOf CX P w K mg base N qual scope f cdv A outer s H E) [] (start N vs) H s1 := inv_start S hr.hd e0 hl r x
  refine wpAny_mono (ht [] s1 (start N vs) H _ I hq) (fun fl s' hs => ?_) fun e s' hs => hs
  have fin : ∀ {σ' : St} {H' : Hp} {v : V} {u : Value}, Inv (cxOf CX P w K mg base N qual scope f cdv A outer s H E) [] σ' H' s' → RelV v u → Q v H' → CE outer P w H s Q u s' :=
    fun {σ' H' v u} J rv q => ⟨v, H', J.os, J.bare, J.base, J.hok, rv, q⟩
  cases fl with
  | ret u =>
    obtain ⟨v, σ', H', J, rv, q⟩ := hs
    exact fin J rv q
  | next =>
    obtain ⟨σ', H', J, q⟩ := hs
    exact fin (v := V.non) (u := Value.none) J rfl q
  | brk =>
    obtain ⟨_, _, _, q⟩ := hs
    exact False.elim q
  | cont =>
    obtain ⟨_, _, _, q⟩ := hs
    exact False.elim q
end L2

namespace L2
open PySem PySem.Spec PyProof.Rows
section
variable {X : Cx} {x : Str} {p pos : Pos} {e : Expr} {es : List Expr} {t : TA} {id T : String} {r : List V → Hp → VK → Prop}

def tCB (r : List V → Hp → VK → Prop) (t : TA) : TE := fun σ H Q => t σ H fun vs H1 => r vs H1 Q
/-- f(e, ..), f a built-in function -/
theorem pe_callB (hc : CallR X (.builtin id) r) (hg : Gl X x) (hm : X.mg x = none) (hv : bootBuiltins x = some (.builtin id)) (ha : PA X (e :: es) t) (hn : x ≠ "__name__" := by decide) (hdb : (x == ("__debug__" : Str)) = false := by decide)
    (he : starEach (e :: es) X.env = (false, eval e X.env) :: starEach es X.env := by rfl) (hpl : (backTo pos (starEach es X.env)).any (·.1) = false := by rfl) : PE X (.Call (.Name x p) (e :: es) [] pos) (tCB r t) := by
  intro pins s σ H Q I h
  refine wpAny_Call_Name_kw (ld_blt I hg hm hv ?_ hn hdb)
  exact PyProof.Rows.callWith_builtin1 (thn (ha pos pins s σ H _ I h) fun us s1 ⟨vs, H1, I1, r1, q1⟩ => hc pins s1 σ H1 vs us Q I1 r1 q1) he hpl
end
end L2

namespace HT
open PySem PyProof.Rows

section
open PySem.SeqAt
open PySem.AutoSeq1 (wpAny_loadPart')
open PySem.MeetsSeq PySem.MeetsSeq2 PySem.MeetsSeq3

end

section
variable {prog : Program} {w : World} {A : Around} {E : Value → Shared → Prop} {s : Shared}

/-! ### t[a:b], not the whole -/
/-- a slice's bound as a place among n (d where it is left out) -/
def sIx (n d : Nat) : Option Int → Nat
  | none => d
  | some v => if v < 0 then (v + (n : Int)).toNat else min v.toNat n
end
end HT

namespace L2
open PySem PySem.Spec PyProof.Rows

/-! ### the parts of a slice -/
abbrev TO := St → Hp → (Option Int → Hp → Prop) → Prop
/-- a slice's part (left out, or an int) -/
def PO (X : Cx) (e : Option Expr) (t : TO) : Prop :=
  ∀ (pins : List (Addr × Obj)) (s : Shared) (σ : St) (H : Hp) (Q : Option Int → Hp → Prop), Inv X pins σ H s → t σ H Q →
    wpAny (model X.prog X.w) X.A (evalPart e X.env) (fun u s' => ∃ o H', Inv X pins σ H' s' ∧ IsPart u o ∧ Q o H') X.xe s
def tPart (t : TE) : TO := fun σ H Q => t σ H fun x H1 => ∃ i, x = .int i ∧ Q (some i) H1

section
variable {X : Cx} {e : Expr} {te : TE} {lo hi : Option Expr} {tl th : TO} {pos p2 : Pos}

theorem po_some (h : PE X e te) : PO X (some e) (tPart te) := by
  intro pins s σ H Q I hw
  rw [evalPart_some]
  refine thn (h pins s σ H _ I hw) fun u s1 ⟨x, H1, I1, r1, q1⟩ => ?_
  obtain ⟨i, rfl, q⟩ := q1
  obtain ⟨t, rfl⟩ := r1
  exact ⟨some i, H1, I1, .int i t, q⟩

/-- what a slice of a value is, by values: the slice object stands at sl -/
def SlR (X : Cx) (r : V → Option Int → Option Int → Hp → VK → Prop) : Prop :=
  ∀ (pins : List (Addr × Obj)) (s : Shared) (σ : St) (H : Hp) (x : V) (v vl vu : Value) (lo hi : Option Int) (sl : Addr) (Q : VK), Inv X pins σ H s → RelV x v → s.heap.IsSliceOf sl vl vu .none → IsPart vl lo → IsPart vu hi → r x lo hi H Q →
    ∃ T id, typeLookup (.type T) "__getitem__" = pure (some (.builtin id)) ∧ s.TypeIs v T ∧ wpAny (model X.prog X.w) X.A (getItem v (.ref sl)) (EP X pins σ Q) X.xe s
def tSl (r : V → Option Int → Option Int → Hp → VK → Prop) (te : TE) (tl th : TO) : TE := fun σ H Q => te σ H fun x H1 => tl σ H1 fun l H2 => th σ H2 fun u H3 => r x l u H3 Q
/-- a[lo:hi], any a -/
theorem pe_slice {r : V → Option Int → Option Int → Hp → VK → Prop} (hr : SlR X r) (he : PE X e te) (hl : PO X lo tl) (hu : PO X hi th) : PE X (.Subscript e (.Slice lo hi none p2) pos) (tSl r te tl th) := by
  intro pins s σ H Q I h
  refine Subscript_ (thn (he pins s σ H _ I h) fun v s1 ⟨x, H1, I1, r1, q1⟩ => ?_)
  refine wpAny_Slice (thn (hl pins s1 σ H1 _ I1 q1) fun vl s2 ⟨l, H2, I2, pl, q2⟩ => thn (hu pins s2 σ H2 _ I2 q2) fun vu s3 ⟨u, H3, I3, pu, q3⟩ => ?_)
  rw [evalPart_none]
  refine wpAny_pure ?_
  have I4 : Inv X pins σ H3 { s3 with heap := s3.heap.push { cls := .type "slice", data := .fields #[vl, vu, .none] } } := I3.kept (t' := s3.toks) fun b ob q => Heap.get?_push_of_some _ q
  obtain ⟨T, id, hT, ht, hg⟩ := hr pins { s3 with heap := s3.heap.push { cls := .type "slice", data := .fields #[vl, vu, .none] } } σ H3 x v vl vu l u s3.heap.objs.size Q I4 r1 (Heap.IsSliceOf.new ..) pl pu q3
  show wpAny (model X.prog X.w) X.A (subscriptTail e (.Slice lo hi none p2) v (.ref s3.heap.objs.size)) (EP X pins σ Q) X.xe { s3 with heap := s3.heap.push { cls := .type "slice", data := .fields #[vl, vu, .none] } }
  exact tail_any (ops := [.ref s3.heap.objs.size, v]) ht hT hg (by with_unfolding_all rfl)

/-- the items of xs[lo:hi] -/
def cutV (xs : List V) (lo hi : Option Int) : List V := (xs.drop (HT.sIx xs.length 0 lo)).take (HT.sIx xs.length xs.length hi - HT.sIx xs.length 0 lo)
theorem cutV_length (xs : List V) (lo hi : Option Int) : (cutV xs lo hi).length ≤ xs.length := by
  unfold cutV
  rw [List.length_take, List.length_drop]
  omega
/-! ### t < u, t + u -/
end
end L2

namespace L2
open PySem PySem.Spec PyProof.Rows

/-! ### places -/
/-- the place that an index of any sign means -/
def ixN (n : Nat) (i : Int) : Option Nat := if 0 ≤ i then (if i < n then some i.toNat else none) else if -(n : Int) ≤ i then some (i + n).toNat else none
def atI {α : Type} (xs : List α) (i : Int) : Option α := (ixN xs.length i).bind fun j => xs[j]?
theorem ixN_seq {n : Nat} {i : Int} {j : Nat} (h : ixN n i = some j) : seqIndex? i n = some j ∧ j < n ∧ -(n : Int) ≤ i ∧ i < n := by
  unfold ixN at h
  by_cases h0 : 0 ≤ i
  · rw [if_pos h0] at h
    by_cases h1 : i < n
    · rw [if_pos h1] at h
      have e : i.toNat = j := Option.some.inj h
      exact ⟨by rw [seqIndex_of h0 h1, e], by omega, by omega, h1⟩
    · rw [if_neg h1] at h; cases h
  · rw [if_neg h0] at h
    by_cases h1 : -(n : Int) ≤ i
    · rw [if_pos h1] at h
      have e : (i + n).toNat = j := Option.some.inj h
      exact ⟨by rw [seqIndex_neg (by omega) h1, e], by omega, h1, by omega⟩
    · rw [if_neg h1] at h; cases h
theorem atI_get {α : Type} {xs : List α} {i : Int} {v : α} (h : atI xs i = some v) : ∃ j, seqIndex? i xs.length = some j ∧ xs[j]? = some v ∧ j < xs.length ∧ -(xs.length : Int) ≤ i ∧ i < xs.length := by
  unfold atI at h
  cases e : ixN xs.length i with
  | none => rw [e] at h; cases h
  | some j =>
    rw [e] at h
    obtain ⟨h1, h2, h3, h4⟩ := ixN_seq e
    exact ⟨j, h1, h, h2, h3, h4⟩
theorem atI_nat {α : Type} {xs : List α} {j : Nat} {v : α} (h : xs[j]? = some v) : atI xs (j : Int) = some v := by
  have hj : j < xs.length := (List.getElem?_eq_some_iff.mp h).1
  have e : ixN xs.length (j : Int) = some j := by
    unfold ixN
    rw [if_pos (by omega), if_pos (by omega)]; simp
  unfold atI; rw [e]; exact h
/-! ### what may be subscripted -/
/-- what stands as an index of a plain subscript -/
def PlainIx (b : Expr) : Prop := ∀ o i, subscripted b false o i = operate [o, i] (getItem o i)
/-- a subscript by values -/
def IxR (X : Cx) (r : R2) : Prop :=
  ∀ (value slice : Expr) (pins : List (Addr × Obj)) (s : Shared) (σ : St) (H : Hp) (x y : V) (v u : Value) (Q : VK), Inv X pins σ H s → RelV x v → RelV y u → r x y H Q →
    subscripted slice false v u = operate [v, u] (getItem v u) → wpAny (model X.prog X.w) X.A (subscriptTail value slice v u) (EP X pins σ Q) X.xe s
/-- a call of a builtin's method by values: the receiver, the arguments -/
def MtR (X : Cx) (id : String) (r : V → List V → Hp → VK → Prop) : Prop :=
  ∀ (pins : List (Addr × Obj)) (s : Shared) (σ : St) (H : Hp) (x : V) (xs : List V) (v : Value) (us : List Value) (Q : VK), Inv X pins σ H s → RelV x v → Vals xs us → r x xs H Q →
    wpAny (model X.prog X.w) X.A (call (.builtin id) (v :: us)) (EP X pins σ Q) X.xe s
section
variable {X : Cx} {a b : Expr} {ta tb : TE} {pos : Pos}
/-- a[b] -/
theorem pe_ix {r : R2} (hr : IxR X r) (ha : PE X a ta) (hb : PE X b tb) (hs : PlainIx b) : PE X (.Subscript a b pos) (tOp r ta tb) := by
  intro pins s σ H Q I h
  exact Subscript_ (binT ha hb I h fun v u s2 x y H2 I2 rx ry q => hr a b pins s2 σ H2 x y v u Q I2 rx ry q (hs _ _))

def rIxL (K : PySem.W.Frag) : R2 := fun x y H Q => ∃ p xs i v, x = .ref p ∧ y = .int i ∧ SqL K H p xs ∧ atI xs i = some v ∧ Q v H
def rIxT (K : PySem.W.Frag) : R2 := fun x y H Q => ∃ p xs i v, x = .ref p ∧ y = .int i ∧ SqT K H p xs ∧ atI xs i = some v ∧ Q v H
theorem ix_list : IxR X (rIxL X.K) := by
  intro value slice pins s σ H x y v u Q I rx ry h hs
  obtain ⟨p, xs, i, z, rfl, rfl, hq, he, q⟩ := h
  cases rx
  obtain ⟨t, rfl⟩ := ry
  obtain ⟨its, r, pl, hz⟩ := I.list hq
  obtain ⟨j, h1, h2, h3, h4, h5⟩ := atI_get he
  obtain ⟨w, ew, rw'⟩ := r.get h2
  have hl := r.length
  have hn := line63
  have fin : EP X pins σ Q w s := ⟨z, H, I, rw', q⟩
  by_cases h0 : 0 ≤ i
  · have hj : i.toNat = j := by
      rw [seqIndex_of h0 h5] at h1
      exact Option.some.inj h1
    exact item_listR pl.isList h0 (by omega) (by rw [hj]; simpa using ew) fin hs
  · have hj : (i + (its.toArray.size : Int)).toNat = j := by
      rw [seqIndex_neg (by omega) h4] at h1
      rw [List.size_toArray, ← hl]
      exact Option.some.inj h1
    exact subscriptTail_builtinR (x := w) pl.isList.typeIs slot_list_getitem.lookup
      (wpAny_getItem_list_neg (Q := fun r s' => r = w ∧ EP X pins σ Q r s') pl.isList (by omega) (by rw [List.size_toArray] <;> omega) (by omega) (by rw [hj]; simpa using ew) ⟨rfl, fin⟩) hs
theorem ix_tup : IxR X (rIxT X.K) := by
  intro value slice pins s σ H x y v u Q I rx ry h hs
  obtain ⟨p, xs, i, z, rfl, rfl, hq, he, q⟩ := h
  cases rx
  obtain ⟨t, rfl⟩ := ry
  obtain ⟨its, r, pl, hz⟩ := I.tuple hq
  obtain ⟨j, h1, h2, h3, h4, h5⟩ := atI_get he
  obtain ⟨w, ew, rw'⟩ := r.get h2
  have hl := r.length
  have hn := line63
  have fin : EP X pins σ Q w s := ⟨z, H, I, rw', q⟩
  exact subscriptTail_builtinR (x := w) pl.typeIs slot_tuple_getitem.lookup
    (getItem_tuple (j := j) (Q := fun r s' => r = w ∧ EP X pins σ Q r s') pl (by omega) (by omega) (by rw [List.size_toArray, ← hl]; exact h1) (by simpa using ew) ⟨rfl, fin⟩) hs
/-! ### xs[i] = v, any sign -/
/-- the list's object behind a store -/
theorem mapSeq_set (its : List Value) (n j : Nat) (u : Value) : Obj.mapSeq (·.setIfInBounds j u) { cls := .type "list", data := .seq its.toArray n } = { cls := .type "list", data := .seq (its.set j u).toArray n } := by
  simp [Obj.mapSeq]
theorem Inv.lst {pins : List (Addr × Obj)} {σ : St} {H : Hp} {s : Shared} {p : Addr} {xs : List V} (I : Inv X pins σ H s) (h : H p = some (.lst xs)) :
    ∃ (its : List Value) (n : Nat), Vals xs its ∧ s.heap.get? p = some { cls := .type "list", data := .seq its.toArray n } ∧ xs.length ≤ sizeLine := by
  obtain ⟨z, its, n, r, e⟩ := I.hok p _ h
  exact ⟨its, n, r, e, z⟩
/-- the list at p is written by an update of its object -/
theorem Inv.lstUpd {pins : List (Addr × Obj)} {σ : St} {H : Hp} {s : Shared} {p : Addr} {xs ys : List V} {its its' : List Value} {n n' : Nat} {f : Obj → Obj} (I : Inv X pins σ H s) (h : H p = some (.lst xs))
    (ho : s.heap.get? p = some { cls := .type "list", data := .seq its.toArray n }) (hf : f { cls := .type "list", data := .seq its.toArray n } = { cls := .type "list", data := .seq its'.toArray n' }) (r : Vals ys its') (hz : ys.length ≤ sizeLine) (t : Nat) :
    Inv X pins σ (upd H p (.lst ys)) { s with heap := s.heap.update p f, toks := t } := by
  have e : (s.heap.update p f).get? p = some { cls := .type "list", data := .seq its'.toArray n' } := by
    rw [Heap.get?_update_self f ho (by rw [hf] <;> rfl), hf]
  refine I.write (x := p) (e := p) (by rw [h]; trivial) (.inl rfl) (fun b u hb q => (Heap.get?_update_other _ _ (Ne.symm hb)).trans q) ⟨_, e⟩ ?_
  exact ⟨hz, its', n', r, e⟩
def rSetL : V → V → V → Hp → (Hp → Prop) → Prop := fun o i v H Q => ∃ p xs k j, o = .ref p ∧ i = .int k ∧ H p = some (.lst xs) ∧ ixN xs.length k = some j ∧ Q (upd H p (.lst (xs.set j v)))
theorem set_list : PSet X rSetL := by
  intro pins s σ H o i v ov iv u Q I ro ri rv h
  obtain ⟨p, xs, k, j, rfl, rfl, hp, hj, q⟩ := h
  cases ro
  obtain ⟨t, rfl⟩ := ri
  obtain ⟨its, n, r, ho, hz⟩ := I.lst hp
  obtain ⟨h1, h2, h3, h4⟩ := ixN_seq hj
  have hl := r.length
  have hn := line63
  have I' : Inv X pins σ (upd H p (.lst (xs.set j v))) { s with heap := s.heap.update p (Obj.mapSeq (·.setIfInBounds j u)) } :=
    I.lstUpd hp ho (mapSeq_set its n j u) (r.set rv j) (by rw [List.length_set]; exact hz) s.toks
  by_cases h0 : 0 ≤ k
  · have hk : k.toNat = j := by
      rw [seqIndex_of h0 h4] at h1
      exact Option.some.inj h1
    exact PySem.W.ki_setAt ho h0 (by omega) (by rw [List.size_toArray, ← hl]; exact h4) (by rw [hk]; exact ⟨_, I', q⟩)
  · have hk : (k + (its.toArray.size : Int)).toNat = j := by
      rw [seqIndex_neg (by omega) h3] at h1
      rw [List.size_toArray, ← hl]
      exact Option.some.inj h1
    exact PySem.W.ki_setBack ho (by omega) (by rw [List.size_toArray, ← hl]; exact h3) (by omega) (by rw [hk]; exact ⟨_, I', q⟩)

/-! ### slices -/
theorem slice_bounds (lo hi : Option Int) (n : Nat) : (sliceBounds lo hi none n).1 = ((HT.sIx n 0 lo : Nat) : Int) ∧ (sliceBounds lo hi none n).2.1 = ((HT.sIx n n hi : Nat) : Int) ∧ (sliceBounds lo hi none n).2.2 = 1 := by
  refine ⟨?_, ?_, rfl⟩
  · cases lo with
    | none => simp [sliceBounds, HT.sIx]
    | some i =>
      simp only [sliceBounds, HT.sIx, Option.getD_none, show (1 : Int) > 0 by decide, if_true]
      by_cases h : i < 0
      · simp only [h, if_true] <;> omega
      · simp only [h, if_false] <;> omega
  · cases hi with
    | none => simp [sliceBounds, HT.sIx]
    | some i =>
      simp only [sliceBounds, HT.sIx, Option.getD_none, show (1 : Int) > 0 by decide, if_true]
      by_cases h : i < 0
      · simp only [h, if_true] <;> omega
      · simp only [h, if_false] <;> omega
theorem slicePick_cut (its : List Value) (lo hi : Option Int) : slicePick its.toArray lo hi none = ((its.drop (HT.sIx its.length 0 lo)).take (HT.sIx its.length its.length hi - HT.sIx its.length 0 lo)).toArray := by
  obtain ⟨h1, h2, h3⟩ := slice_bounds lo hi its.toArray.size
  unfold slicePick
  rw [h1, h2, h3]
  simp only [sliceRange_one, pick_run, List.size_toArray] <;> rfl
/-- xs[lo:hi] of a list: a new list -/
def rSlL (K : PySem.W.Frag) : V → Option Int → Option Int → Hp → VK → Prop := fun x lo hi H Q => ∃ a xs, x = .ref a ∧ SqL K H a xs ∧ ∀ p, H p = none → Q (.ref p) (upd H p (.lst (cutV xs lo hi)))
theorem sl_list : SlR X (rSlL X.K) := by
  intro pins s σ H x v vl vu lo hi sl Q I rx hs pl pu h
  obtain ⟨a, xs, rfl, hx, q⟩ := h
  cases rx
  obtain ⟨its, r, ht, hz⟩ := I.list hx
  have hlen := r.length
  refine ⟨"list", _, slot_list_getitem.lookup, ht.isList.typeIs, ?_⟩
  refine wpAny_getItem_list_slice ht.isList hs pl pu .none (by simp) ?_ (by rw [List.size_toArray] <;> omega)
  rw [slicePick_cut, ← hlen]
  refine ⟨.ref s.heap.objs.size, _, I.laid (t' := s.toks) (o := .lst (cutV xs lo hi)) (fun b ob q => Heap.get?_push_of_some _ q) (Nat.le_refl _) ?_, rfl, q _ (I.hok.fresh (Nat.le_refl _))⟩
  exact ⟨Nat.le_trans (cutV_length xs lo hi) hz, _, 0, (r.drop (HT.sIx xs.length 0 lo)).take (HT.sIx xs.length xs.length hi - HT.sIx xs.length 0 lo), Heap.get?_push_size _ rfl⟩

/-! ### in, not in: flat items -/
def flatV : V → Bool
  | .non => true
  | .bl _ => true
  | .int _ => true
  | .str _ => true
  | _ => false
/-- == of flat values -/
def eqV : V → V → Bool
  | .non, .non => true
  | .bl a, .bl b => a == b
  | .bl a, .int b => (if a then 1 else 0) == b
  | .int a, .bl b => a == (if b then 1 else 0)
  | .int a, .int b => a == b
  | .str a, .str b => a == b
  | _, _ => false
theorem eqAt_V {A : Around} {s : Shared} {y x : V} {u v : Value} (ry : RelV y u) (rx : RelV x v) (fy : flatV y = true) (fx : flatV x = true) : SeqAt.EqAt A s u v (eqV y x) := by
  cases y with
  | non =>
    cases ry
    cases x with
    | non => cases rx; exact SeqAt.EqAt.same _
    | bl b => cases rx; exact SeqAt.EqAt.none_bool b
    | int b => obtain ⟨t, rfl⟩ := rx; exact SeqAt.EqAt.none_int b t
    | str b => obtain ⟨t, rfl⟩ := rx; exact SeqAt.EqAt.none_str b t
    | _ => exact absurd (show false = true from fx) Bool.false_ne_true
  | bl a =>
    cases ry
    cases x with
    | non => cases rx; exact SeqAt.EqAt.bool_none a
    | bl b => cases rx; exact SeqAt.EqAt.bool_bool a b
    | int b => obtain ⟨t, rfl⟩ := rx; exact SeqAt.EqAt.bool_int a b t
    | str b => obtain ⟨t, rfl⟩ := rx; exact SeqAt.EqAt.bool_str a b t
    | _ => exact absurd (show false = true from fx) Bool.false_ne_true
  | int a =>
    obtain ⟨t', rfl⟩ := ry
    cases x with
    | non => cases rx; exact SeqAt.EqAt.int_none a t'
    | bl b => cases rx; exact SeqAt.EqAt.int_bool a t' b
    | int b => obtain ⟨t, rfl⟩ := rx; exact SeqAt.EqAt.int_int a t' b t
    | str b => obtain ⟨t, rfl⟩ := rx; exact SeqAt.EqAt.int_str a t' b t
    | _ => exact absurd (show false = true from fx) Bool.false_ne_true
  | str a =>
    obtain ⟨t', rfl⟩ := ry
    cases x with
    | non => cases rx; exact SeqAt.EqAt.str_none a t'
    | bl b => cases rx; exact SeqAt.EqAt.str_bool a t' b
    | int b => obtain ⟨t, rfl⟩ := rx; exact SeqAt.EqAt.str_int a t' b t
    | str b => obtain ⟨t, rfl⟩ := rx; exact SeqAt.EqAt.str_str a t' b t
    | _ => exact absurd (show false = true from fx) Bool.false_ne_true
  | _ => exact absurd (show false = true from fy) Bool.false_ne_true
/-- the items' answers, read off the values (a value's own answer does not lean on its token) -/
def eqU (x : V) (u : Value) : Bool := match u with
  | .none => eqV .non x
  | .bool b => eqV (.bl b) x
  | .int i _ => eqV (.int i) x
  | .str z _ => eqV (.str z) x
  | _ => false
theorem eqU_of {x y : V} {u : Value} (r : RelV y u) (f : flatV y = true) : eqU x u = eqV y x := by
  cases y with
  | non => cases r; rfl
  | bl b => cases r; rfl
  | int i => obtain ⟨t, rfl⟩ := r; rfl
  | str z => obtain ⟨t, rfl⟩ := r; rfl
  | _ => exact absurd (show false = true from f) Bool.false_ne_true
theorem any_eqU {x : V} : ∀ {xs : List V} {us : List Value}, Vals xs us → xs.all flatV = true → us.any (eqU x) = xs.any fun y => eqV y x
  | _, _, .nil, _ => rfl
  | y :: xs, u :: us, .cons r t, f => by
    rw [List.all_cons, Bool.and_eq_true] at f
    rw [List.any_cons, List.any_cons, eqU_of r f.1, any_eqU t f.2]
theorem mem_eqAt {A : Around} {s : Shared} {x : V} {v : Value} (rx : RelV x v) (fx : flatV x = true) : ∀ {xs : List V} {us : List Value}, Vals xs us → xs.all flatV = true → ∀ u ∈ us, SeqAt.EqAt A s u v (eqU x u)
  | _, _, .nil, _ => fun u hu => by cases hu
  | y :: xs, u :: us, .cons r t, f => fun u' hu => by
    rw [List.all_cons, Bool.and_eq_true] at f
    rcases List.mem_cons.mp hu with rfl | hu
    · rw [eqU_of r f.1]; exact eqAt_V r rx f.1 fx
    · exact mem_eqAt rx fx t f.2 u' hu
def inV (x : V) (xs : List V) : Bool := xs.any fun y => eqV y x
/-- x in a list or tuple of flat items -/
def rIn (K : PySem.W.Frag) (neg : Bool) : R2 := fun x y H Q => ∃ p xs, y = .ref p ∧ (SqL K H p xs ∨ SqT K H p xs) ∧ flatV x = true ∧ xs.all flatV = true ∧ Q (.bl (if neg then !inV x xs else inV x xs)) H
theorem op_in_seq : OpR X (compareOp .In) (rIn X.K false) := by
  intro pins s σ H x y v u Q I rx ry h
  obtain ⟨p, xs, rfl, hq, fx, fs, q⟩ := h
  cases ry
  rcases hq with hq | hq
  · obtain ⟨its, r, pl, hz⟩ := I.list hq
    refine SeqAt.in_listAt (eqU x) pl.isList (fun w hw => mem_eqAt rx fx r fs w (by simpa using hw)) ⟨.bl _, H, I, rfl, ?_⟩
    rw [show its.toArray.any (eqU x) = its.any (eqU x) by simp, any_eqU r fs]
    exact q
  · obtain ⟨its, r, pl, hz⟩ := I.tuple hq
    refine SeqAt.in_tupleAt (eqU x) pl (fun w hw => mem_eqAt rx fx r fs w (by simpa using hw)) ⟨.bl _, H, I, rfl, ?_⟩
    rw [show its.toArray.any (eqU x) = its.any (eqU x) by simp, any_eqU r fs]
    exact q
/-! ### len, list(x), tuple(x) of any list or tuple that is read -/
theorem call_len_seq : CallR X (.builtin "len") (fun xs H Q => ∃ p ys, xs = [.ref p] ∧ (SqL X.K H p ys ∨ SqT X.K H p ys) ∧ Q (.int ys.length) H) := by
  intro pins s σ H xs us Q I r h
  obtain ⟨p, ys, rfl, hq, q⟩ := h
  obtain ⟨u, rfl, rx⟩ := vals1 r
  cases rx
  have hn := line63
  rcases hq with hq | hq
  · obtain ⟨its, r', pl, hz⟩ := I.list hq
    have hlen := r'.length
    exact Calls.call_len_list pl.isList (by simp only [List.size_toArray] <;> omega) ⟨.int ys.length, H, I.tok _, ⟨s.toks + 1, by rw [List.size_toArray, hlen]⟩, q⟩
  · obtain ⟨its, r', pl, hz⟩ := I.tuple hq
    have hlen := r'.length
    exact len_tuple pl (by simp only [List.size_toArray] <;> omega) ⟨.int ys.length, H, I.tok _, ⟨s.toks + 1, by rw [List.size_toArray, hlen]⟩, q⟩
/-! ### the call of a builtin's method: o.m(..) -/
/-- the value is of that builtin type -/
def tyV (K : PySem.W.Frag) (T : String) (x : V) (H : Hp) : Prop := match x with
  | .str _ => T = "str"
  | .int _ => T = "int"
  | .ref p => (T = "list" ∧ ∃ xs, SqL K H p xs) ∨ (T = "tuple" ∧ ∃ o, K.lookup p = some o ∧ o.cls = .type "tuple" ∧ o.dict = none) ∨
      (T = "dict" ∧ ((∃ kvs, H p = some (.dK kvs)) ∨ ∃ kvs, H p = some (.dT kvs))) ∨ (T = "set" ∧ ∃ S n, H p = some (.set S n))
  | _ => False
theorem tyV_is {pins : List (Addr × Obj)} {σ : St} {H : Hp} {s : Shared} {T : String} {x : V} {v : Value} (I : Inv X pins σ H s) (r : RelV x v) (ty : tyV X.K T x H) :
    s.TypeIs v T ∧ ∀ a, v = .ref a → ∃ ob, s.heap.get? a = some ob ∧ ob.dict = none := by
  cases x with
  | str z =>
    obtain ⟨t, rfl⟩ := r
    cases (show T = "str" from ty)
    exact ⟨typeIs_str s z t, fun _ e => nomatch e⟩
  | int i =>
    obtain ⟨t, rfl⟩ := r
    cases (show T = "int" from ty)
    exact ⟨typeIs_int s i t, fun _ e => nomatch e⟩
  | ref p =>
    cases r
    rcases ty with ⟨rfl, xs, hq⟩ | ⟨rfl, o, hk, hc, hd⟩ | ⟨rfl, hk⟩ | ⟨rfl, S, n, hk⟩
    · obtain ⟨its, _, pl, _⟩ := I.list hq
      refine ⟨pl.isList.typeIs, fun a e => ?_⟩
      cases e
      obtain ⟨o, n, e, c, hd, _⟩ := pl
      exact ⟨o, e, hd⟩
    · refine ⟨⟨o, I.kIn p o hk, hc⟩, fun a e => ?_⟩
      cases e
      exact ⟨o, I.kIn _ o hk, hd⟩
    · have z : ∃ o, s.heap.get? p = some o ∧ o.ExactDict := by
        rcases hk with ⟨kvs, hk⟩ | ⟨kvs, hk⟩
        · obtain ⟨_, _, _, _, o, _, _, e, ex, _⟩ := I.hok p _ hk
          exact ⟨o, e, ex⟩
        · obtain ⟨_, _, _, _, o, _, _, e, ex, _⟩ := I.hok p _ hk
          exact ⟨o, e, ex⟩
      obtain ⟨o, e, ex⟩ := z
      refine ⟨⟨o, e, ex.1⟩, fun a e2 => ?_⟩
      cases e2
      exact ⟨o, e, ex.2.1⟩
    · obtain ⟨o, _, _, _, e, ex, _⟩ := I.hok p _ hk
      refine ⟨⟨o, e, ex.1⟩, fun a e2 => ?_⟩
      cases e2
      exact ⟨o, e, ex.2.1⟩
  | _ => exact False.elim ty
def tBM (K : PySem.W.Frag) (T : String) (r : V → List V → Hp → VK → Prop) (to : TE) (t : TA) : TE := fun σ H Q => to σ H fun x H1 => tyV K T x H1 ∧ t σ H1 fun xs H2 => r x xs H2 Q
variable {o e : Expr} {es : List Expr} {to : TE} {t : TA} {name : Str} {apos cpos : Pos} {T id : String} {r : V → List V → Hp → VK → Prop}
theorem pe_bm (pa : PlainAttrs T) (slot : Slot T name id) (hty : typeOf (.builtin id) = pure (.type "method_descriptor")) (hm : MtR X id r) (ho : PE X o to) (ha : PA X (e :: es) t)
    (hbase : attributeBase o name X.env (eval o X.env) = eval o X.env := by rfl)
    (hfew : ((backTo cpos (starEach (e :: es) X.env)).all (fun x => !x.1) && (backToKw cpos (keywordEach [] X.env)).all (fun x => x.1.isSome)
      && decide ((e :: es).length + ([] : List Keyword).length + (if ([] : List Keyword).isEmpty then 0 else 1) < 30)) = true := by rfl)
    (hline : (apos.endLine == cpos.line) = true := by rfl) (hs : starEach (e :: es) X.env = (false, eval e X.env) :: starEach es X.env := by rfl) (hplain : (backTo cpos (starEach es X.env)).any (·.1) = false := by rfl) :
    PE X (.Call (.Attribute o name apos) (e :: es) [] cpos) (tBM X.K T r to t) := by
  intro pins s σ H Q I h
  refine wpAny_Call_method_late hbase hfew hline rfl (thn (ho pins s σ H _ I h) fun v s1 ⟨x, H1, I1, r1, ty, q1⟩ => ?_)
  obtain ⟨h1, h2⟩ := tyV_is I1 r1 ty
  refine ⟨T, id, pa, slot, hty, h1, h2, ?_⟩
  have hA := ha cpos pins s1 σ H1 _ I1 q1
  rw [hs] at hA ⊢
  refine Calls.callWith_builtin (by show (false || (backTo cpos (starEach es X.env)).any (·.1)) = false; rw [hplain] <;> rfl) (Calls.evalArgs_plain ?_)
  exact thn hA fun us s2 ⟨vs, H2, I2, r2, q2⟩ => hm pins s2 σ H2 x vs v us Q I2 r1 r2 q2
/- xs.append(e), list.index on a module's tuple .. are MtR facts of 06m -/
end
end L2

namespace L2
open PySem PySem.Spec PyProof.Rows

def MtM (X : Cx) (id : String) (r : V → List V → Hp → VK → Prop) : Prop :=
  ∀ (pins : List (Addr × Obj)) (s : Shared) (σ : St) (H : Hp) (x : V) (xs : List V) (v : Value) (us : List Value) (Q : VK), Inv X pins σ H s → RelV x v → Vals xs us → r x xs H Q →
    wpAny (model X.prog X.w) X.A (call (.builtin id) (v :: us)) (EP X pins σ Q) X.xe s

/-! ### lists of values -/
theorem Vals.one : ∀ {x : V} {us : List Value}, Vals [x] us → ∃ u, us = [u] ∧ RelV x u
  | _, _, .cons r .nil => ⟨_, rfl, r⟩
section
variable {X : Cx} {pins : List (Addr × Obj)} {σ : St} {H : Hp} {s : Shared} {l b : Addr} {xs ys zs : List V}

/-! ### the two steps: a tracked list is rewritten, a new list is laid -/
theorem Inv.lset {its its' : List Value} {n : Nat} {f : Array Value → Array Value} {t' : Nat} (I : Inv X pins σ H s) (hH : H l = some (.lst xs))
    (e : s.heap.get? l = some { cls := .type "list", data := .seq its.toArray n }) (hf : f its.toArray = its'.toArray) (hv : Vals ys its') (hz : ys.length ≤ sizeLine) :
    Inv X pins σ (upd H l (.lst ys)) { s with heap := s.heap.update l (Obj.mapSeq f), toks := t' } := by
  have q := PySem.IsL.update e f
  rw [hf] at q
  refine I.write (x := l) (e := l) (by rw [hH]; exact trivial) (.inl rfl) (fun b' u hb hu => (Heap.get?_update_other s.heap (Obj.mapSeq f) (Ne.symm hb)).trans hu) ⟨_, q⟩ ?_
  exact ⟨hz, its', _, hv, q⟩
theorem Inv.lnew {its : List Value} {t' : Nat} (I : Inv X pins σ H s) (hv : Vals ys its) (hz : ys.length ≤ sizeLine) :
    Inv X pins σ (upd H s.heap.objs.size (.lst ys)) { s with heap := s.heap.push { cls := .type "list", data := .seq its.toArray }, toks := t' } :=
  I.laid (fun _ _ q => Heap.get?_push_of_some _ q) (Nat.le_refl _) ⟨hz, its, 0, hv, Heap.get?_push_size _ rfl⟩
theorem Inv.fresh (I : Inv X pins σ H s) : H s.heap.objs.size = none := I.hok.fresh (Nat.le_refl _)
theorem Inv.lstM (I : Inv X pins σ H s) (hH : H l = some (.lst xs)) : xs.length ≤ sizeLine ∧ ∃ (its : List Value) (n : Nat), Vals xs its ∧ xs.length = its.length ∧ s.heap.get? l = some { cls := .type "list", data := .seq its.toArray n } := by
  obtain ⟨z, its, n, r, e⟩ := I.hok l _ hH
  exact ⟨z, its, n, r, r.length, e⟩

theorem notLongL {n : Nat} (h : n ≤ sizeLine) : Builtin.List.listTooLong n = false := by
  unfold Builtin.List.listTooLong
  exact decide_eq_false (by omega)
end

section
variable {X : Cx}

/-! ### methods -/
def rAppend : V → List V → Hp → VK → Prop := fun x vs H Q => ∃ l xs y, x = .ref l ∧ vs = [y] ∧ H l = some (.lst xs) ∧ xs.length < sizeLine ∧ Q .non (upd H l (.lst (xs ++ [y])))
theorem mt_append : MtM X "list.append" rAppend := by
  intro pins s σ H x vs v us Q I rx rv h
  obtain ⟨l, xs, y, rfl, rfl, hH, hz, q⟩ := h
  cases rx
  obtain ⟨u, rfl, ru⟩ := rv.one
  obtain ⟨z, its, n, r, hl, e⟩ := I.lstM hH
  refine call_meets F.slot_list_append ⟨_, e, rfl⟩ F.entry_list_append (F.args_list_append_2 _ _) (PySem.list_append l its.toArray n u (by rw [List.size_toArray]; omega)) ⟨e, ?_⟩
  refine ⟨.non, _, I.lset (its' := its ++ [u]) hH e (by simp) (r.append (.cons ru .nil)) ?_, rfl, q⟩
  rw [List.length_append, List.length_singleton]
  omega

/-! ### list + list, list += list, list * int -/
def rCat : R2 := fun x y H Q => ∃ l b xs zs, x = .ref l ∧ y = .ref b ∧ H l = some (.lst xs) ∧ H b = some (.lst zs) ∧ xs.length + zs.length ≤ sizeLine ∧ ∀ p, H p = none → Q (.ref p) (upd H p (.lst (xs ++ zs)))
theorem op_cat : OpR X (binaryOp .Add) rCat := by
  intro pins s σ H x y v u Q I rx ry h
  obtain ⟨l, b, xs, zs, rfl, rfl, hH, hB, hz, q⟩ := h
  cases rx
  cases ry
  obtain ⟨z, its, n, r, hl, e⟩ := I.lstM hH
  obtain ⟨z2, its2, n2, r2, hl2, e2⟩ := I.lstM hB
  refine PySem.P.add_list e e2 ?_ (by rw [List.size_toArray, List.size_toArray]; omega)
  have ea : its.toArray ++ its2.toArray = (its ++ its2).toArray := by simp
  rw [ea]
  exact ⟨.ref _, _, I.lnew (t' := s.toks) (r.append r2) (by rw [List.length_append]; omega), rfl, q _ I.fresh⟩
/-! ### del xs[i] -/
end

/-! ### xs[a:b] = ys -/
section
variable {prog : Program} {w : World} {A : Around} {E : Value → Shared → Prop} {s : Shared}
end

section
variable {X : Cx}
end
end L2

namespace Att
open PySem PySem.W PySem.Calls PyProof.Rows

/-! ### the script -/
theorem ints_of_wellAll {P : Params} {h : Heap} : ∀ (ns : List Int) (vs : List Value), WellAll P h vs (ns.map WData.int) → IntsAre vs ns := by
  intro ns
  induction ns with
  | nil =>
    intro vs w
    rw [List.map_nil] at w
    cases w
    exact .nil
  | cons n ns ih =>
    intro vs w
    rw [List.map_cons] at w
    cases w with
    | cons a b =>
      cases a
      exact .cons _ _ (ih _ b)

theorem script_of {l : OpenLaw} {n : Nat} (hn : l.most = some n) {P : Params} {h : Heap} {args : List WData} {vals : List Value}
    (hpre : l.row.toRowW.claim.pre args = true) (hwl : WellAll P h vals args) :
    ∃ a vs ns, vals = [Value.ref a] ∧ args = [WData.list (ns.map WData.int)] ∧ h.get? a = some { cls := .type "list", data := .seq vs.toArray } ∧ IntsAre vs ns ∧ ns.length ≤ n := by
  have hsh : WShape.hasAll [] args [.list .int] = true := (pre_splitW hpre).1
  have hc : l.pre.holds [] { args := args } = true := (pre_splitW hpre).2
  obtain ⟨d, r, rfl, h1, h2⟩ := hasAllW_cons hsh
  obtain rfl := hasAllW_nil h2
  obtain ⟨xs, rfl, h3⟩ := hasW_list h1
  obtain ⟨ns, rfl⟩ := items_int h3
  have hlen : ns.length ≤ n := by
    unfold OpenLaw.pre at hc
    have h4 : (WTm.not (.lt (.lit (.int (n : Int))) (.len (.arg 0)))).holds [] { args := [.list (ns.map .int)] } = true := by
      have h4 := (holds_andW hc).1
      rw [hn] at h4
      exact h4
    have h5 := condW_of h4 (w_not (w_lt w_lit (w_len_list (w_arg rfl))))
    rw [List.length_map] at h5
    refine Nat.le_of_not_lt fun q => ?_
    have q' : (n : Int) < ((ns.length : Nat) : Int) := by omega
    first
      | (rw [decide_eq_true q'] at h5; exact absurd h5 (by decide))
      | (simp at h5; omega)
  cases hwl with
  | cons w1 w2 =>
    cases w2
    cases w1 with
    | list ho hall => exact ⟨_, _, ns, rfl, rfl, ho, ints_of_wellAll ns _ hall, hlen⟩

theorem post_true (l : OpenLaw) (args : List WData) : l.row.toRowW.claim.post args (.bool true) args = true :=
  postW_of (r := l.row.toRowW) (X := (true == true))
    (show WShape.has [] (.bool true) .bool = true by first | rfl | decide | simp [WShape.has, WShape.arms, WShape.armsAll])
    (show (WTm.eq .res (.lit (.bool true))).value [] { args := args, res := some (.bool true), after := args } = some (.bool (true == true)) from w_eq_bool (w_res rfl) w_lit) rfl

/-! ### the attachment: holds_open's last premise (the goal 'hc' behind k_head) from a wpAny of the law's body -/
/-- the same from a codeAny of the CALL (for a layer whose function contracts speak of calls) -/
theorem attach_call {l : OpenLaw} {n : Nat} {q : Program} {loose : List Str} {XP : (Str → Option Value) → Heap → Prop} {YP : World → Heap → Prop} {d : DefRec}
    (hn : l.most = some n) (hdf : d.params.defaults = [])
    (call : ∀ (w : World) (s₀ s₁ : Shared) (mg mb : Str → Option Value) (fa : Addr) (o : Obj) (pm cd doc : Value) (a : Addr) (vs : List Value) (ns : List Int),
      Ground q loose [] XP w s₀ mg mb s₁.heap → YP w s₁.heap →
      s₁.heap.get? fa = some o → o.data = .func (docDef d.name d.params d.body d.scope pm cd doc) → s₁.heap.CodeRec cd d.name → mg d.name = some (.ref fa) →
      s₁.heap.get? a = some { cls := .type "list", data := .seq vs.toArray } → IntsAre vs ns → ns.length ≤ n → s₁.gens = #[] →
      codeAny (model l.prog w) callerA (.call (.ref fa) ⟨[.ref a], []⟩) (fun r s' => r = .ok (.ret (.bool true)) ∧ OldK s₁.heap s'.heap ∧ s'.os = s₁.os ∧ AllBare s'.gens) s₁) :
    WalkO q loose XP YP l.row.toRowW d [] (fun f vs => PySem.call f vs) := by
  intro w s₀ s₁ mg mb G Y fa o pm cd doc dV kV ho hd hcd hD hmg hg args vals as hpre hlay hrd hwl hlo
  obtain rfl : dV = .none := Dflts.none hD hdf
  obtain rfl : kV = .none := Dflts.noKw hD
  obtain ⟨a, vs, ns, rfl, rfl, hobj, hints, hlen⟩ := script_of hn hpre hwl
  refine enter_call (codeAny_mono (call w s₀ s₁ mg mb fa o pm cd doc a vs ns G Y ho (fd_plain hd) hcd hmg hobj hints hlen hg) fun r s' hq => ?_)
  obtain ⟨rfl, h2, h3, h4⟩ := hq
  exact ⟨.inl ⟨.bool true, .bool true, [], rfl, fun _ => rfl, .bool true, post_true l _, fun _ => ⟨List.Pairwise.nil, fun _ hm => (nomatch hm)⟩⟩, h2, h3, h4⟩

/-! ### rules over ANY heap (no ledger) from facts about the written part K: the library's own take a ledger (News) for what they write -/
section
variable {prog : Program} {w : World} {A : Around} {E : Value → Shared → Prop} {s : Shared} {K : Frag}

/-! the whole heap as the ledger: makes every rule that writes through a ledger a rule over any heap -/
end
end Att

namespace L2
open PySem PySem.Spec PyProof.Rows

theorem vals_ints : ∀ {vs : List Value} {ns : List Int}, IntsAre vs ns → Vals (ns.map V.int) vs
  | _, _, .nil => .nil
  | _, _, .cons n t h => .cons ⟨t, rfl⟩ (vals_ints h)

/-- nothing is tracked but the script, known to the object (or it is an object of the module) -/
def Only (H : Hp) : Prop := ∀ b, H b = none ∨ ∃ o xs, H b = some (.frz o (.lst xs))

/-- THE HEAD: the law's promise, at the heap behind the top. F, the promise of the law's def, may use that base is part of the heap (so K.In base, base.Ns mainGlobals mg stand in Mod) -/
theorem law_call {P : Program} {w : World} {K : PySem.W.Frag} {mg mb : Str → Option Value} {CX : CXT} {k : Nat} {fa a : Addr} {fd : FuncData} {x : Str} {sp : Sp} {s₁ : Shared} {vs : List Value} {ns : List Int}
    (KX : K.In s₁.heap) (hns : s₁.heap.Ns mainGlobals mg) (hb : s₁.heap.Ns builtinsNs mb) (hbb : ∀ x : Str, x ≠ "__name__" → mb x = bootBuiltins x) (hlim : s₁.heap.NoLimit) (hg : s₁.gens = #[])
    (ha : s₁.heap.get? a = some { cls := .type "list", data := .seq vs.toArray }) (hi : IntsAre vs ns) (hl : ns.length ≤ sizeLine) (hr : Room k callerA)
    (F : ∀ base : Heap, K.In base → base.Ns mainGlobals mg → FnOk P w K mg base CX k fa fd [x] sp) (hbind : ∀ (s : Shared) (u : Value), BindsTo s fd ⟨[u], []⟩ [(x, u)])
    (hsp : ∀ H : Hp, Only H → SqL K H a (ns.map V.int) → sp [.ref a] H (fun v _ => v = .bl true) fun _ _ _ => False)
    (hCX : ∀ H e s', CX [] H s₁ (fun _ _ _ => False) e s' → False) :
    codeAny (model P w) callerA (.call (.ref fa) ⟨[.ref a], []⟩) (fun r s' => r = .ok (.ret (.bool true)) ∧ OldK s₁.heap s'.heap ∧ s'.os = s₁.os ∧ AllBare s'.gens) s₁ := by
  have rv := vals_ints hi
  have lenV := hi.length
  -- from an abstract heap in which nothing but the script may be tracked
  have core : ∀ H : Hp, Only H → SqL K H a (ns.map V.int) → HOk P w H s₁.heap → (∀ b, H b ≠ none → b = a) → (H a ≠ none → K.lookup a = none) →
      codeAny (model P w) callerA (.call (.ref fa) ⟨[.ref a], []⟩) (fun r s' => r = .ok (.ret (.bool true)) ∧ OldK s₁.heap s'.heap ∧ s'.os = s₁.os ∧ AllBare s'.gens) s₁ := by
    intro H hO hS hok hA hK
    have base_of : ∀ {b : Addr} {o : Obj}, s₁.heap.get? b = some o → H b = none → (hidT s₁.heap H).get? b = some o := fun e n => hidT_get e n
    have noA : ∀ {b : Addr} {o : Obj} {es : Array DictEntry} {ep : Nat}, s₁.heap.get? b = some o → o.data = .dict es ep → H b = none := fun {b o es ep} e d => by
      cases q : H b with
      | none => rfl
      | some u =>
        have e' : b = a := hA b (by rw [q]; simp)
        subst e'
        rw [ha] at e; cases e
        have d' : Data.seq vs.toArray _ = Data.dict es ep := d
        cases d'
    have nsK : ∀ {b : Addr} {m : Str → Option Value}, s₁.heap.Ns b m → (hidT s₁.heap H).Ns b m := fun {b m} ⟨o, es, ep, e, d, r⟩ => ⟨o, es, ep, base_of e (noA e d), d, r⟩
    have hKb : K.In (hidT s₁.heap H) := fun b o e => base_of (KX b o e) (by
      cases q : H b with
      | none => rfl
      | some u =>
        have e' : b = a := hA b (by rw [q]; simp)
        subst e'
        rw [hK (by rw [q]; simp)] at e; cases e)
    have hM : Mod K mg (hidT s₁.heap H) := ⟨hKb, nsK hns, ⟨mb, nsK hb, hbb⟩, let ⟨mc, h1, h2⟩ := hlim; ⟨mc, nsK h1, h2⟩⟩
    have e0 : Env0 P w K mg (hidT s₁.heap H) callerA [] s₁ H := ⟨rfl, hM, fun b o e => of_hidT e, Nat.le_of_eq (hidT_size _ _), trivial, fun b hb => absurd (show b ∈ ([] : List Addr) from hb) (by simp), hok, .of_eq hg⟩
    refine codeAny_mono ((F _ hKb (nsK hns)).run callerA [] s₁ H ⟨[.ref a], []⟩ [.ref a] [.ref a] _ _ hr e0 (hbind s₁ (.ref a)) (.cons rfl .nil) (hsp H hO hS)) fun r s' h => ?_
    cases r with
    | error e => exact (hCX H e s' h).elim
    | ok fl =>
      cases fl with
      | next => exact False.elim h
      | brk => exact False.elim h
      | cont => exact False.elim h
      | ret u =>
        obtain ⟨v, H', os, bare, un, hok', r', q⟩ := h
        have q' : v = .bl true := q
        subst q'
        obtain rfl : u = Value.bool true := r'
        refine ⟨rfl, OldK.of_keep fun b o e => ?_, os, bare⟩
        cases q : H b with
        | none => exact un.keep b o e q (by intro z; exact absurd (show b ∈ ([] : List Addr) from z) (by simp)) (by simp)
        | some u =>
          rcases hO b with z | ⟨ob, xs, z⟩
          · rw [q] at z; cases z
          · have z2 := un.frzs b ob _ z
            obtain ⟨e1, _⟩ := hok b _ z
            obtain ⟨e2, _⟩ := hok' b _ z2
            rw [e] at e1; cases e1
            exact e2
  cases hk : K.lookup a with
  | some o =>
    -- the script is one of the module's own objects
    have e := KX a o hk
    rw [ha] at e
    cases e
    refine core (fun _ => none) (fun _ => .inl rfl) (.inr ⟨_, vs.toArray, _, hk, rfl, rfl, rfl, by rw [List.size_toArray, lenV]; exact hl, by simpa using rv⟩) (fun b u z => by have z' : (none : Option HO) = some u := z; cases z') (fun b z => absurd rfl z) fun z => absurd rfl z
  | none =>
    refine core (fun b => if b = a then some (.frz { cls := .type "list", data := .seq vs.toArray } (.lst (ns.map V.int))) else none) (fun b => ?_) (.inl (.inr ⟨{ cls := .type "list", data := .seq vs.toArray }, if_pos rfl⟩)) (fun b u z => ?_) (fun b z => ?_) fun _ => hk
    · by_cases hb : b = a
      · exact .inr ⟨_, _, if_pos hb⟩
      · exact .inl (if_neg hb)
    · by_cases hb : b = a
      · have z' := (if_pos hb).symm.trans z
        cases z'
        subst hb
        exact ⟨ha, by rw [List.length_map]; exact hl, vs, _, rv, ha⟩
      · have z' := (if_neg hb).symm.trans z
        cases z'
    · by_cases hb : b = a
      · exact hb
      · exact absurd (if_neg hb) z
end L2

namespace L2
open PySem PySem.Spec PyProof.Rows

abbrev KOf {K : PySem.W.Frag} {h : Heap} (_ : K.In h) : PySem.W.Frag := K

/-- the goal that k_head leaves (case hc), from the law's promise. F gives the function object fd (K's own) once, then the promise over every base -/
theorem walk_of {l : PySem.W.OpenLaw} {n k : Nat} {q : Program} {loose : List Str} {XP : (Str → Option Value) → Heap → Prop} {YP : World → Heap → Prop} {d : DefRec} {K : Params → PySem.W.Frag} {CX : World → CXT} {sp : World → Sp} {x : Str}
    (hn : l.most = some n) (hn2 : n ≤ sizeLine) (hdf : d.params.defaults = []) (hr : Room k callerA)
    (hY : ∀ (w : World) (h : Heap), YP w h → (K w.params).In h)
    (F : ∀ (w : World) (mg : Str → Option Value) (fa : Addr) (h : Heap), (K w.params).In h → h.Ns mainGlobals mg → mg d.name = some (.ref fa) →
      ∃ fd : FuncData, (∀ (s : Shared) (u : Value), BindsTo s fd ⟨[u], []⟩ [(x, u)]) ∧
        ∀ base : Heap, (K w.params).In base → base.Ns mainGlobals mg → FnOk l.prog w (K w.params) mg base (CX w) k fa fd [x] (sp w))
    (hsp : ∀ (w : World) (H : Hp) (a : Addr) (ns : List Int), ns.length ≤ n → Only H → SqL (K w.params) H a (ns.map V.int) → sp w [.ref a] H (fun v _ => v = .bl true) fun _ _ _ => False)
    (hCX : ∀ (w : World) (H : Hp) (s : Shared) (e : Value) (s' : Shared), CX w [] H s (fun _ _ _ => False) e s' → False) :
    PySem.W.WalkO q loose XP YP l.row.toRowW d [] (fun f vs => PySem.call f vs) := by
  refine Att.attach_call hn hdf fun w s₀ s₁ mg mb fa o pm cd doc a vs ns G Y ho hd hcd hmg hobj hints hlen hg => ?_
  have KX := hY w _ Y
  obtain ⟨fd, hb, hF⟩ := F w mg fa _ KX G.T.g hmg
  exact law_call KX G.T.g G.T.b G.T.builtins G.T.nolimit hg hobj hints (Nat.le_trans hlen hn2) hr hF hb (fun H hO hS => hsp w H a ns hlen hO hS) fun H e s' => hCX w H s₁ e s'
end L2

/- THE LAST THEOREM (shape; LID, My.* are yours):
   My.Adr: a structure of the addresses that your layer names (classes, functions); My.Txt K t: a structure (Prop) of the equations over K;
   My.txt_mk : {K} {implicit addresses ..} (e1 : nsIn K mainGlobals "law" = some (some (.ref f))) (e2 : K.lookup f = some ⟨oc, od, .func (fnOf "law" "law" params body scope dV kV doc pm an cdv ct), sl⟩) (e3 : codeIn K cdv "law" = true) .. : ∃ t, My.Txt K t

set_option maxRecDepth 100000 in
set_option maxHeartbeats 0 in
theorem PySem.Challenge.cw_LID_holds : PySem.Challenge.rw_LID.Holds := by
  w_on; o_law; k_head; (case hw => w_witness2)
  k_fill
  refine L2.walk_of (l := PySem.Challenge.rw_LID) (n := 63) (k := 40) (x := "script") (CX := fun w => ..) (sp := fun _ => My.sp_law) rfl (by decide) rfl ⟨rfl, by decide, by decide⟩ (fun w h Y => PySem.W.kIn_of Y) ?F ?S ?C
  case F =>
    intro w mg fa h KX G hmg
    have T : ∃ t, My.Txt (L2.KOf KX) t := by
      dsimp only [L2.KOf]                          -- K must stand as «<heap const> w.params» for k_is
      refine' My.txt_mk ?e1 ?e2 ?e3 ..
      (case e1 => PySem.W.k_is)                    -- in the order: a name -> its address -> its object -> its parts
      (case e2 => PySem.W.k_is)
      ..
    obtain ⟨t, T⟩ := T
    have e0 := hmg.symm.trans (PySem.W.mg_of KX G T.law)
    cases e0                                       -- fa is the law's own address
    exact ⟨_, fun s u => .of_eq rfl, fun base kb nb => My.law_fn T kb nb⟩     -- if «.of_eq rfl» comes too early: refine' ⟨_, ?b, fun base kb nb => My.law_fn T kb nb⟩; exact fun s u => .of_eq rfl
  case S => exact fun w H a ns hl hO hS => ..
  case C => exact ..
(the tactic k_is has no namespace: write k_is) -/

/-! SHORT WORDS over the layer: a def of the text, its body, what a loop and a test want. -/
namespace L2
open PySem PySem.Spec PyProof.Rows

/-! ### the text by places -/
def defArgs (s : Stmt) : Arguments := match s with
  | .FunctionDef _ a _ _ _ _ _ _ _ _ => a
  | _ => { posonlyargs := [], args := [], vararg := none, kwonlyargs := [], kw_defaults := [], kwarg := none, defaults := [] }
def defBody (s : Stmt) : List Stmt := match s with
  | .FunctionDef _ _ b _ _ _ _ _ _ _ => b
  | _ => []
def defScope (s : Stmt) : Scope := match s with
  | .FunctionDef _ _ _ _ _ _ sc _ _ _ => sc
  | _ => { kind := .function, names := [], isGenerator := false, isCoroutine := false }

/-! ### no exception leaves a def -/
abbrev CX0 : CXT := fun _ _ _ _ _ _ => False
abbrev E0 : XK := fun _ _ _ => False
theorem pass0 {X : Cx} : Passes CX0 X E0 := fun _ _ _ _ _ _ _ h => h.elim

/-! ### a def (or method) of the text as it stands behind the top -/
structure Fun (K : PySem.W.Frag) (x qual : Str) (st : Stmt) (f : Addr) (fd : FuncData) : Prop where
  ex : ∃ (oc : Value) (od : Option Addr) (kV doc pm : Value) (an : Option Addr) (cdv ct : Value) (osl : Array (Option Value)),
    fd = PySem.W.fnOf x qual (defArgs st) (defBody st) (defScope st) .none kV doc pm an cdv ct ∧ K.lookup f = some ⟨oc, od, .func fd, osl⟩ ∧ PySem.W.codeIn K cdv qual = true
  kp : PySem.W.keepIn K (.ref f) = true
section
variable {P : Program} {w : World} {K : PySem.W.Frag} {mg : Str → Option Value} {base : Heap}
/-- THE RULE for a def: its body as a term of rules, and the reading of that term -/
theorem Fun.ok {x qual : Str} {st : Stmt} {f : Addr} {fd : FuncData} {N ps : List Str} {k : Nat} {sp : Sp} (F : Fun K x qual st f fd) (S : FnScope N ps (defScope st)) (len : ∀ vs H Q E, sp vs H Q E → vs.length = ps.length)
    (hbody : ∀ (cdv : Value) (A : Around) (outer : List Env) (s : Shared) (H : Hp) (vs : List V) (Q : VK) (E : XK), Room k (A.deeper (envOfC qual (defScope st) s.heap.objs.size f cdv)) → sp vs H Q E →
      ∃ t, PSs (cxOf CX0 P w K mg base N qual (defScope st) f cdv A outer s H E).nox (defBody st) t ∧ t { nx := fun _ H' => Q .non H', rt := Q } (start N vs) H) : FnOk P w K mg base CX0 (k + 1) f fd ps sp := by
  obtain ⟨oc, od, kV, doc, pm, an, cdv, ct, osl, rfl, lk, hcd⟩ := F.ex
  refine fn_of lk hcd S len fun A outer s H vs Q E hr hsp => ?_
  obtain ⟨t, h, q⟩ := hbody cdv A outer s H vs Q E hr hsp
  exact ⟨t, h.nox, q⟩
/-- how its arguments bind (no defaults): h is «fun _ _ _ _ _ _ us hl => match us, hl with | [_, _], _ => rfl», one _ a parameter -/
theorem Fun.binds {x qual : Str} {st : Stmt} {f : Addr} {fd : FuncData} {ps : List Str} (F : Fun K x qual st f fd)
    (h : ∀ (kV doc pm : Value) (an : Option Addr) (cdv ct : Value) (us : List Value), us.length = ps.length → bindArgs (PySem.W.fnOf x qual (defArgs st) (defBody st) (defScope st) .none kV doc pm an cdv ct) ⟨us, []⟩ = pure (ps.zip us)) : Binds K fd ps [] := by
  obtain ⟨oc, od, kV, doc, pm, an, cdv, ct, osl, rfl, lk, hcd⟩ := F.ex
  exact .all (h kV doc pm an cdv ct)
theorem fun_mk {x qual : Str} {st : Stmt} {f : Addr} {oc : Value} {od an : Option Addr} {osl : Array (Option Value)} {kV doc pm cdv ct : Value} (l : K.lookup f = some ⟨oc, od, .func (PySem.W.fnOf x qual (defArgs st) (defBody st) (defScope st) .none kV doc pm an cdv ct), osl⟩)
    (c : PySem.W.codeIn K cdv qual = true) (k : PySem.W.keepIn K (.ref f) = true) : Fun K x qual st f (PySem.W.fnOf x qual (defArgs st) (defBody st) (defScope st) .none kV doc pm an cdv ct) := ⟨⟨oc, od, kV, doc, pm, an, cdv, ct, osl, rfl, l, c⟩, k⟩
end
/-! ### expressions in short: the name that stands in the i-th slot -/
section
variable {X : Cx}
theorem pv (i : Nat) {x : Str} {pos : Pos} (hN : X.N[i]? = some x := by rfl) (hv : Vis X.env.scope x := by first | exact Or.inl rfl | exact Or.inr (Or.inl rfl) | exact Or.inr (Or.inr rfl)) (hd : (x == ("__debug__" : Str)) = false := by decide)
    (hcd : (x == ("__classdict__" : Str)) = false := by decide) : PE X (.Name x pos) (tVar i) := pe_var hN hv hd hcd
end

/-! ### tests -/
theorem iteF {A B : Prop} (h : B) : if false = true then A else B := by
  rw [if_neg Bool.false_ne_true]
  exact h
theorem iteT {A B : Prop} (h : A) : if true = true then A else B := by
  rw [if_pos rfl]
  exact h
theorem ite2 {c A B : Prop} [Decidable c] (h1 : c → A) (h2 : ¬ c → B) : if c then A else B := by
  by_cases h : c
  · rw [if_pos h]
    exact h1 h
  · rw [if_neg h]
    exact h2 h
theorem iteNS {c A B : Prop} [Decidable c] (hc : c) (h : B) : if (!decide c) = true then A else B := by
  rw [decide_eq_true hc]
  exact iteF h

/-! ### heaps -/
/-- all that was tracked is as it was -/
def Same (H H' : Hp) : Prop := ∀ b o, H b = some o → H' b = some o
theorem Same.refl (H : Hp) : Same H H := fun _ _ h => h
theorem Same.trans {H H1 H2 : Hp} (a : Same H H1) (b : Same H1 H2) : Same H H2 := fun c o h => b c o (a c o h)
theorem Same.seq {K : PySem.W.Frag} {H H' : Hp} {a : Addr} {xs : List V} (e : Same H H') (h : SqL K H a xs) : SqL K H' a xs := by
  rcases h with (h | ⟨o, h⟩) | h
  · exact .inl (.inl (e _ _ h))
  · exact .inl (.inr ⟨o, e _ _ h⟩)
  · exact .inr h

end L2

set_option maxHeartbeats 4000000
/-! EvExc: refusals of own classes by hand: raise, a callee's refusal that passes, try with one except clause that names, isinstance of a refusal. Over the hand layer (namespace L2), which stands ahead of it. -/
namespace L2
open PySem PySem.Spec PyProof.Rows

theorem ObjOk.there {P : Program} {w : World} {H : Hp} {h : Heap} {a : Addr} {o : HO} (x : ObjOk P w H h a o) : ∃ ob, h.get? a = some ob := by
  cases o with
  | lst xs => obtain ⟨_, _, _, _, e⟩ := x; exact ⟨_, e⟩
  | tup xs => obtain ⟨_, _, _, ob, e, _⟩ := x; exact ⟨ob, e⟩
  | dK kvs => obtain ⟨_, _, _, _, ob, _, _, e, _⟩ := x; exact ⟨_, e⟩
  | dT kvs => obtain ⟨_, _, _, _, ob, _, _, e, _⟩ := x; exact ⟨_, e⟩
  | set S n => obtain ⟨ob, _, _, _, e, _⟩ := x; exact ⟨_, e⟩
  | ins C dx fs => obtain ⟨_, _, _, e, _⟩ := x; exact ⟨_, e⟩
  | own y => exact x
  | xd fs => obtain ⟨_, ⟨_, _, _, e, _⟩, _⟩ := x; exact ⟨_, e⟩
  | rng lo hi => obtain ⟨_, _, _, e⟩ := x; exact ⟨_, e⟩
  | frz ob u => obtain ⟨e, _⟩ := x; exact ⟨_, e⟩
  | tbl ps => exact ⟨_, (show h.get? a = some _ from x)⟩
  | met f y => exact ⟨_, (show h.get? a = some _ from x)⟩
  | ext φ => obtain ⟨_, e, _⟩ := x; exact e

/-- a refusal of the class C at a that has left a frame: its trace stands at T -/
structure FlyT (h0 : Heap) (H : Hp) (a T : Addr) (C : Value) (h : Heap) : Prop where
  na : h0.get? a = none
  fa : H a = none
  nT : h0.get? T = none
  fT : H T = none
  ob : ∃ oe vs a0 oT ts, h.get? a = some oe ∧ oe.cls = C ∧ oe.data = .fields vs ∧ vs[0]? = some a0 ∧ vs[1]? = some (.ref T) ∧ T ≠ a ∧ h.get? T = some oT ∧ oT.data = .fields ts ∧ ts[3]? = some .none
/-- one that was made just now -/
structure Fly0 (h0 : Heap) (H : Hp) (a : Addr) (C : Value) (h : Heap) : Prop where
  na : h0.get? a = none
  fa : H a = none
  ob : ∃ oe vs a0, h.get? a = some oe ∧ oe.cls = C ∧ oe.data = .fields vs ∧ vs[0]? = some a0 ∧ vs[1]? = some .none

/-- how a refusal lies behind a call -/
def CX1 (P : Program) (w : World) : CXT := fun outer H s E e s' => ∃ (a T : Addr) (C : Value) (H' : Hp), e = .ref a ∧ s'.os = s.os ∧ AllBare s'.gens ∧ Un (frs outer) [] H H' s.heap s'.heap ∧ HOk P w H' s'.heap ∧
  FlyT s.heap H' a T C s'.heap ∧ E C none H'
/-- how it lies within a body that lets it pass -/
def XE (X : Cx) (E : XK) : Value → Shared → Prop := fun e s' => ∃ (a : Addr) (C : Value) (H' : Hp) (σ : St), e = .ref a ∧ Inv X [] σ H' s' ∧ (Fly0 X.s₀.heap H' a C s'.heap ∨ ∃ T, FlyT X.s₀.heap H' a T C s'.heap) ∧ E C none H'
/-- how it lies within a try's body (it comes out of a callee) -/
def XT (X : Cx) (E : XK) : Value → Shared → Prop := fun e s' => ∃ (a T : Addr) (C : Value) (H' : Hp) (σ : St), e = .ref a ∧ Inv X [] σ H' s' ∧ FlyT X.s₀.heap H' a T C s'.heap ∧ (∀ p ∈ X.pn, p.1 ≠ a ∧ p.1 ≠ T) ∧ E C none H'

section
variable {X : Cx} {pins : List (Addr × Obj)} {σ : St} {H H' : Hp} {s s' : Shared}
theorem Inv.nopins (I : Inv X pins σ H s) : Inv X [] σ H s := I.pins_of fun p hp => nomatch hp
/-- what was not there at the call was not there at the entry -/
theorem Inv.new0 (I : Inv X pins σ H s) (hex : X.ex = []) {b : Addr} (n : s.heap.get? b = none) : X.s₀.heap.get? b = none := by
  cases q : X.s₀.heap.get? b with
  | none => rfl
  | some o =>
    obtain ⟨o', e⟩ := I.base.there b o q (by rw [hex]; simp)
    rw [n] at e; cases e
theorem Inv.newH (I : Inv X pins σ H s) {b : Addr} (n : s.heap.get? b = none) : H b = none := by
  cases q : H b with
  | none => rfl
  | some o =>
    obtain ⟨ob, e⟩ := (I.hok b o q).there
    rw [n] at e; cases e
/-- a callee's refusal passes -/
theorem passE {E : XK} (hex : X.ex = []) : Passes (CX1 X.prog X.w) (X.wish (XE X E)) E := fun pins σ H s e s' I q => by
  obtain ⟨a, T, C, H', rfl, os, bare, un, hok, fl, qE⟩ := q
  have I0 : Inv X pins σ H s := I.unwish
  refine ⟨a, C, H', σ, rfl, (I0.call' os un hok bare (fun b z => absurd z (by simp))).nopins, .inr ⟨T, ?_⟩, qE⟩
  exact ⟨I0.new0 hex fl.na, fl.fa, I0.new0 hex fl.nT, fl.fT, fl.ob⟩
theorem passT {E : XK} (hex : X.ex = []) : Passes (CX1 X.prog X.w) (X.wish (XT X E)) E := fun pins σ H s e s' I q => by
  obtain ⟨a, T, C, H', rfl, os, bare, un, hok, fl, qE⟩ := q
  have I0 : Inv X pins σ H s := I.unwish
  refine ⟨a, T, C, H', σ, rfl, (I0.call' os un hok bare (fun b z => absurd z (by simp))).nopins, ⟨I0.new0 hex fl.na, fl.fa, I0.new0 hex fl.nT, fl.fT, fl.ob⟩, fun p hp => ?_, qE⟩
  have e := (I0.pin p (List.mem_append_left _ hp)).1
  exact ⟨fun z => (by rw [z, fl.na] at e; cases e), fun z => (by rw [z, fl.nT] at e; cases e)⟩

/-- the frames' slots and the records at ts may change -/
structure Shift (X : Cx) (ts : List Addr) (h h' : Heap) : Prop where
  stays : (PySem.W.hideAll h (ts ++ frs X.stack)).StaysIn h'
  up : h.UpToSlots h'

theorem Shift.frame {ts : List Addr} {h' : Heap} (S : Shift X ts s.heap h') (I : Inv X pins σ H s) {b : Addr} (hb : b ∈ frs X.stack) {o : Obj} (e : s.heap.get? b = some o) : ∃ sl, h'.get? b = some { o with slots := sl } := by
  obtain ⟨_, o', e', nf⟩ := I.stack.mem hb
  rw [e] at e'; cases e'
  exact S.up b o e nf
theorem Shift.get {ts : List Addr} {h' : Heap} (S : Shift X ts s.heap h') {b : Addr} {o : Obj} (e : s.heap.get? b = some o) (h1 : b ∉ ts) (h2 : b ∉ frs X.stack) : h'.get? b = some o :=
  S.stays b o (PySem.W.hideAll_get _ e fun z => (List.mem_append.mp z).elim h1 h2)
theorem Shift.hok {ts : List Addr} {h' : Heap} (S : Shift X ts s.heap h') (I : Inv X pins σ H s) (hts : ∀ b ∈ ts, H b = none) : HOk X.prog X.w H h' := fun a o e => by
  refine (I.hok a o e).stay (fun b u hb q => S.get q (fun z => ?_) fun z => ?_) (fun _ q => q) fun _ _ q => q
  · have n := hts b z
    rcases hb with rfl | hb
    · rw [e] at n; cases n
    · rw [hb] at n; cases n
  · have n := I.stkFree b z
    rcases hb with rfl | hb
    · rw [e] at n; cases n
    · rw [hb] at n; cases n
/-- what stood at the entry is as a callee may leave it -/
theorem Shift.un {ts : List Addr} {h' : Heap} (S : Shift X ts s.heap h') (I : Inv X pins σ H s) (hts : ∀ b ∈ ts, X.s₀.heap.get? b = none) : Un X.fs X.ex X.H₀ H X.s₀.heap h' := by
  have nts : ∀ b o, X.s₀.heap.get? b = some o → b ∉ ts := fun b o e z => by rw [hts b z] at e; cases e
  have nL : ∀ b o, X.s₀.heap.get? b = some o → b ≠ X.env.locals := fun b o e => Nat.ne_of_lt (Nat.lt_of_lt_of_le (Heap.lt_size e) I.ok.above)
  have nst : ∀ b o, X.s₀.heap.get? b = some o → b ∉ X.fs → b ∉ frs X.stack := fun b o e hb z => (List.mem_cons.mp (I.stkSub b z)).elim (nL b o e) hb
  refine ⟨fun b o e n hb hx => S.get (I.base.keep b o e n hb hx) (nts b o e) (nst b o e hb), fun b o e n hb hx => ?_, fun b o e n hx => I.base.free b o e n hx, fun b o e hx => ?_, I.base.tups, I.base.frzs, I.base.tbls⟩
  · obtain ⟨sl, e1⟩ := I.base.slot b o e n hb hx
    obtain ⟨_, o', e', nf⟩ := I.funs.mem hb
    rw [e1] at e'; cases e'
    obtain ⟨sl2, e2⟩ := S.up b _ e1 nf
    exact ⟨sl2, e2⟩
  · obtain ⟨o', e1⟩ := I.base.there b o e hx
    by_cases z : b ∈ frs X.stack
    · obtain ⟨sl, e2⟩ := S.frame I z e1
      exact ⟨_, e2⟩
    · exact ⟨o', S.get e1 (nts b o e) z⟩
/-- the invariant goes over -/
theorem Shift.inv {ts : List Addr} {h' : Heap} {tk : Nat} (S : Shift X ts s.heap h') (I : Inv X pins σ H s) (hts : ∀ b ∈ ts, X.s₀.heap.get? b = none ∧ H b = none ∧ ∀ p ∈ X.pn ++ pins, p.1 ≠ b) : Inv X pins σ H { s with heap := h', toks := tk } := by
  have cellK : ∀ c v, s.heap.IsCell c v → h'.IsCell c v := fun c v ⟨o, ho, hd⟩ => by
    obtain ⟨sl, e⟩ := S.up c o ho (fun vs q => by rw [hd] at q; cases q)
    exact ⟨_, e, hd⟩
  refine ⟨I.ok, I.os, I.bare, S.un I fun b z => (hts b z).1, ?_, fun x c e => ?_, I.free, I.freeC, fun p hp => ?_, S.hok I fun b z => (hts b z).2.1, I.len⟩
  · obtain ⟨m, hn, hl⟩ := I.loc
    refine ⟨m, S.up.ns hn, fun i x v e1 e2 e3 => ?_⟩
    obtain ⟨u, r, l⟩ := hl i x v e1 e2 e3
    refine ⟨u, r, ?_⟩
    rcases l with l | ⟨k, c, e, z⟩
    · exact .inl l
    · exact .inr ⟨k, c, e, cellK c _ z⟩
  · obtain ⟨v, z⟩ := I.cell x c e
    exact ⟨v, cellK c v z⟩
  · obtain ⟨e, n, ne, nf, d⟩ := I.pin p hp
    exact ⟨S.get e (fun z => (hts p.1 z).2.2 p hp rfl) fun z => (List.mem_cons.mp (I.stkSub p.1 z)).elim ne nf, n, ne, nf, d⟩
/-- the trace that was laid -/
theorem Shift.fly {ts : List Addr} {h' : Heap} {a : Addr} {C a0 : Value} (I : Inv X pins σ H s) (hex : X.ex = []) (hts : ∀ b ∈ ts, X.s₀.heap.get? b = none ∧ H b = none) (ha : a ∈ ts)
    (hf : h'.FunFrames (PySem.W.hideAll s.heap (ts ++ frs X.stack)) X.stack) (tr : h'.TracedW (PySem.W.hideAll s.heap (ts ++ frs X.stack)) a C a0) :
    ∃ T, FlyT X.s₀.heap H a T C h' ∧ ∀ p : Addr × Obj, s.heap.get? p.1 = some p.2 → p.1 ∉ ts → p.1 ∉ frs X.stack → p.1 ≠ T := by
  obtain ⟨oe, vs, T, oT, tv, he, ⟨hc, h0⟩, hd, h1, hnT, hTe, hT, hdT, h3⟩ := tr
  have key : X.s₀.heap.get? T = none ∧ H T = none := by
    by_cases z : T ∈ ts
    · exact hts T z
    · have nf : T ∉ frs X.stack := fun q => by
        obtain ⟨_, o, ho, nf⟩ := hf.mem q
        rw [hT] at ho; cases ho
        exact nf _ hdT
      have nn : s.heap.get? T = none := by
        cases q : s.heap.get? T with
        | none => rfl
        | some o =>
          rw [PySem.W.hideAll_get _ q fun y => (List.mem_append.mp y).elim z nf] at hnT
          cases hnT
      exact ⟨I.new0 hex nn, I.newH nn⟩
  refine ⟨T, ⟨(hts a ha).1, (hts a ha).2, key.1, key.2, oe, vs, a0, oT, tv, he, hc, hd, h0, h1, hTe, hT, hdT, h3⟩, fun p e n1 n2 z => ?_⟩
  rw [z] at e n1 n2
  rw [PySem.W.hideAll_get _ e fun y => (List.mem_append.mp y).elim n1 n2] at hnT
  cases hnT
theorem fun_hide (I : Inv X pins σ H s) (ts : List Addr) : s.heap.FunFrames (PySem.W.hideAll s.heap (ts ++ frs X.stack)) X.stack :=
  PySem.W.funFrames_hide I.stack fun env he b hb => List.mem_append_right _ (List.mem_filterMap.mpr ⟨env, he, hb⟩)
theorem hide_stays (h : Heap) (l : List Addr) : (PySem.W.hideAll h l).StaysIn h := fun _ _ e => PySem.W.of_hideAll l e
end

section
variable {P : Program} {w : World} {K : PySem.W.Frag} {mg : Str → Option Value} {base : Heap} {N : List Str} {qual : Str} {scope : Scope} {f : Addr} {cd : Value} {A : Around} {outer : List Env} {s : Shared} {H : Hp} {E : XK}
/-- a refusal leaves the frame -/
theorem xe_of {e : Value} {s' : Shared} (h : XE (cxOf (CX1 P w) P w K mg base N qual scope f cd A outer s H E) E e s') : (cxOf (CX1 P w) P w K mg base N qual scope f cd A outer s H E).xe e s' := by
  obtain ⟨a, C, H', σ, rfl, I, fl, q⟩ := h
  have fin : ∀ (ts : List Addr) (a0 : Value) (h' : Heap), (∀ b ∈ ts, s.heap.get? b = none ∧ H' b = none) → a ∈ ts →
      Heap.LeftW (PySem.W.hideAll s'.heap (ts ++ frs (envOfC qual scope s.heap.objs.size f cd :: outer))) (envOfC qual scope s.heap.objs.size f cd :: outer) a C a0 s'.heap h' →
      CX1 P w outer H s E (.ref a) { s' with heap := h' } := fun ts a0 h' hts ha ⟨k1, k2, k3, k4⟩ => by
    have S : Shift (cxOf (CX1 P w) P w K mg base N qual scope f cd A outer s H E) ts s'.heap h' := ⟨k1, k4⟩
    obtain ⟨T, fT, _⟩ := Shift.fly I rfl hts ha k2 k3
    exact ⟨a, T, C, H', rfl, I.os, I.bare, S.un I fun b z => (hts b z).1, S.hok I fun b z => (hts b z).2, fT, q⟩
  have hfr : (A.deeper (envOfC qual scope s.heap.objs.size f cd)).frames = some (envOfC qual scope s.heap.objs.size f cd :: outer) := I.ok.frames
  rcases fl with fl | ⟨T, fl⟩
  · obtain ⟨oe, vs, a0, he, rfl, hd, h0, h1⟩ := fl.ob
    refine wpAny_leaving_firstW (base := PySem.W.hideAll s'.heap ([a] ++ frs (envOfC qual scope s.heap.objs.size f cd :: outer))) hfr (fun_hide I [a]) rfl he (hide_stays _ _) (PySem.W.hideAll_none _ (List.mem_append_left _ (by simp))) hd h1 h0 fun h' L => ?_
    exact fin [a] a0 h' (fun b hb => by cases (List.mem_singleton.mp hb); exact ⟨fl.na, fl.fa⟩) (by simp) L
  · obtain ⟨oe, vs, a0, oT, tv, he, hc, hd, h0, h1, hTe, hT, hdT, h3⟩ := fl.ob
    refine wpAny_leaving_nextW (base := PySem.W.hideAll s'.heap ([a, T] ++ frs (envOfC qual scope s.heap.objs.size f cd :: outer))) hfr (fun_hide I [a, T]) rfl
      ⟨oe, vs, T, oT, tv, he, ⟨hc, h0⟩, hd, h1, PySem.W.hideAll_none _ (List.mem_append_left _ (by simp)), hTe, hT, hdT, h3⟩ (hide_stays _ _) (PySem.W.hideAll_none _ (List.mem_append_left _ (by simp))) fun h' L => ?_
    refine fin [a, T] a0 h' (fun b hb => ?_) (by simp) L
    rcases List.mem_cons.mp hb with z | z
    · subst z; exact ⟨fl.na, fl.fa⟩
    · cases (List.mem_singleton.mp z); exact ⟨fl.nT, fl.fT⟩
end
/-- THE RULE for a def that may refuse: its body with the wish XE -/
theorem Fun.okX {P : Program} {w : World} {K : PySem.W.Frag} {mg : Str → Option Value} {base : Heap} {x qual : Str} {st : Stmt} {f : Addr} {fd : FuncData} {N ps : List Str} {k : Nat} {sp : Sp} (F : Fun K x qual st f fd) (S : FnScope N ps (defScope st))
    (len : ∀ vs H Q E, sp vs H Q E → vs.length = ps.length)
    (hbody : ∀ (cdv : Value) (A : Around) (outer : List Env) (s : Shared) (H : Hp) (vs : List V) (Q : VK) (E : XK), Room k (A.deeper (envOfC qual (defScope st) s.heap.objs.size f cdv)) → sp vs H Q E →
      ∃ t, PSs ((cxOf (CX1 P w) P w K mg base N qual (defScope st) f cdv A outer s H E).wish (XE (cxOf (CX1 P w) P w K mg base N qual (defScope st) f cdv A outer s H E) E)) (defBody st) t ∧ t { nx := fun _ H' => Q .non H', rt := Q } (start N vs) H) :
    FnOk P w K mg base (CX1 P w) (k + 1) f fd ps sp := by
  obtain ⟨oc, od, kV, doc, pm, an, cdv, ct, osl, rfl, lk, hcd⟩ := F.ex
  refine fn_of lk hcd S len fun A outer s H vs Q E hr hsp => ?_
  obtain ⟨t, h, q⟩ := hbody cdv A outer s H vs Q E hr hsp
  refine ⟨t, fun pins s1 σ H1 D I hw => ?_, q⟩
  exact wpAny_mono (h pins s1 σ H1 D (I.wish _) hw) (fun _ _ z => z.unwish) fun e s2 z => xe_of z
/-! ### raise -/
theorem exc_cls_of {K : PySem.W.Frag} {h : Heap} {C : Addr} {bmB : List Value} {newId : String} (X : K.In h) (q : PySem.W.excIn K C bmB newId = true) :
    ∃ bm N nm q bs hdct sn sub ab col dd k0 k1 k2 k3 k5 mN, h.get? C = some (excClassObj nm q C N bs bm hdct sn sub ab col dd k0 k1 k2 k3 k5 newId) ∧ h.Ns N mN ∧ mN "__init__" = none ∧ OwnTail h bmB bm := by
  unfold PySem.W.excIn at q
  split at q
  · rename_i dd cd sl ho
    split at q
    · rename_i C' bm k0 k1 k2 k3 n k5 hm hs
      simp only [Bool.and_eq_true, beq_iff_eq, Bool.not_eq_true'] at q
      obtain ⟨⟨⟨⟨⟨rfl, rfl⟩, hdel⟩, ht⟩, hok⟩, hni⟩ := q
      obtain ⟨nm, bs, mro, ns, qn, hd, sn, sub, ab, col, del⟩ := cd
      dsimp only at hm hdel hok hni
      subst hm hdel
      have hsl : sl = #[k0, k1, k2, k3, some (.builtin n), k5] := by
        obtain ⟨l⟩ := sl
        simp only at hs
        rw [hs]
      subst hsl
      exact ⟨bm, ns, nm, qn, bs, hd, sn, sub, ab, col, dd, k0, k1, k2, k3, k5, _, X _ _ ho, .of_isNs (PySem.W.isNs_of_in X hok), PySem.W.nsMap_none_of_in X hok hni, PySem.W.tail_of_in X ht⟩
    · cases q
  · cases q
abbrev bmVE : List Value := [.type "ValueError", .type "Exception", .type "BaseException", .type "object"]
abbrev newVE : String := "ValueError.__new__"
def tRaise (C : Addr) (E : XK) (t : TA) : TS := fun _ σ H => t σ H fun vs H1 => vs.length ≤ sizeLine ∧ E (.ref C) none H1
theorem ps_raise {X : Cx} {E : XK} {x : Str} {C : Addr} {np cpos pos : Pos} {e : Expr} {es : List Expr} {t : TA} (hx : PySem.W.excIn X.K C bmVE newVE = true) (hg : Gl X x) (hm : X.mg x = some (.ref C)) (hc : X.calm = true) (hex : X.ex = [])
    (ha : PA (X.wish (XE X E)) (e :: es) t) (hdb : (x == ("__debug__" : Str)) = false := by decide) (he : starEach (e :: es) X.env = (false, eval e X.env) :: starEach es X.env := by rfl) (hpl : (backTo cpos (starEach es X.env)).any (·.1) = false := by rfl) :
    PS (X.wish (XE X E)) (.Raise (some (.Call (.Name x np) (e :: es) [] cpos)) none pos) (tRaise C E t) := by
  intro pins s σ H D I h
  have FB := PySem.F.excBase_ValueError
  obtain ⟨tl, N, nm, q, bs, hdct, sn, sub, ab, col, dd, k0, k1, k2, k3, k5, mN, hC, hN, hni, T⟩ := exc_cls_of I.mod.kin hx
  have he' : starEach (e :: es) (X.wish (XE X E)).env = (false, eval e (X.wish (XE X E)).env) :: starEach es (X.wish (XE X E)).env := he
  refine wpAny_Raise_call_subT (C := C) (nm := nm) (q := q) (N := N) (bs := bs) (bm := tl) (hdct := hdct) (sn := sn) (sub := sub) (ab := ab) (col := col) (dd := dd) (k0 := k0) (k1 := k1) (k2 := k2) (k3 := k3) (k5 := k5)
    FB (mN := mN) (T.hasType FB.hasBase) (I.ok.hd hc) (by rw [he']; show (false || (backTo cpos (starEach es X.env)).any (·.1)) = false; rw [hpl]; rfl) hni (ld_glob I hg hm ⟨rfl, ?_⟩ hdb)
  have hA := ha cpos pins s σ H _ I h
  rw [he'] at hA ⊢
  refine Calls.evalArgs_plain (wpAny_mono hA (fun us s2 h2 => ?_) fun _ _ y => y)
  obtain ⟨vs, H1, I1, r, hz, qE⟩ := h2
  refine ⟨rfl, by show us.length ≤ sizeLine; rw [← r.length]; exact hz, I1.bk _ _ hC, hN.keeps I1.bk, T.keeps I1.bk, fun h' a hm' => ?_⟩
  obtain ⟨t0, hta, _, _⟩ := hm'.there
  have I0 : Inv X pins σ H1 s2 := I1.unwish
  exact ⟨a, .ref C, H1, σ, rfl, (I0.kept (t' := s2.toks) hm'.keeps).nopins, .inl ⟨I0.new0 hex hm'.new, I0.newH hm'.new, _, _, .ref t0, hta, rfl, rfl, rfl, rfl⟩, qE⟩
end L2
/-! EvTry: isinstance of a refusal, except clauses, defs called within an except suite. Behind EvExc. -/
namespace PySem.W
open PySem PySem.Calls PyProof.Rows Builtin Builtin.ObjectAttr Builtin.Getset_descriptor
/-- what is asked of an own class of refusals as the text has made it -/
structure ExcK (K : Frag) (C : Addr) : Prop where
  ex : excIn K C [.type "ValueError", .type "Exception", .type "BaseException", .type "object"] "ValueError.__new__" = true
  ga : findIn K (.ref C) "__getattribute__" = some (some (.builtin "BaseException.__getattribute__"))
  no : findIn K (.ref C) "__getattr__" = some none
  cl : findIn K (.ref C) "__class__" = some (some (.builtin "object.__class__"))
  ob : mroIn K C (.type "object") = some true
  be : mroIn K C (.type "BaseException") = some true
structure ClsK (K : Frag) : Prop where
  gt : specialIn K (.builtin "object.__class__") "__get__" = some (some (.builtin "getset_descriptor.__get__"))
  tk : takesIn K (.builtin "object.__class__") = some true
section
variable {prog : Program} {w : World} {A : Around} {E : Value → Shared → Prop} {s : Shared} {K : Frag} {x C D : Addr} {ox : Obj}
theorem exc_class_get {tp : Value} {R : Result → Shared → Prop} (X : K.In s.heap) (hx : s.heap.get? x = some ox) (hc : ox.cls = .ref C) (hm : mroIn K C (.type "object") = some true)
    (h : R (.ok (.ret (.ref C))) s) : codeAny (model prog w) A (.call (.builtin "getset_descriptor.__get__") ⟨[.builtin "object.__class__", .ref x, tp], []⟩) R s := by
  obtain ⟨hh, g, dr, t, os⟩ := s
  have Q0 : Looks (model prog w) hh (typeOf (.ref x)) (.ref C) := hc ▸ (Looks.ld hx).andThen .now
  have Q1 := looks_mroIn (M := model prog w) X hm
  refine codeAny_call_builtin KF.slot_gs.plain KF.entry_gs (KF.slot_gs.check _ _ _ _ _ _ _ _ KF.type_class (KF.args_gs _ _ _) ?_)
  unfold Builtin.«getset_descriptor.__get__» descrGet
  rw [dga_obj]
  refine wpAny_bind (wpAny_pure ?_)
  unfold descrGetter descrCheckInstance descrNameAndClass isInstance
  simp only [KF.owner_class]
  repeat lk
  refine ⟨Code.quiet_builtin _ (by decide +kernel), codeAny_builtin KF.entry_class ?_⟩
  unfold Builtin.«object.__class__» shownTypeOf
  repeat lk
  exact h
theorem wp_if_neg {α : Type} {M : Model} {A : Around} {c : Prop} [Decidable c] {a b : Sem α} {Q : α → Shared → Prop} {E : Value → Shared → Prop} {s : Shared} (h : ¬ c) (k : wpAny M A b Q E s) : wpAny M A (if c then a else b) Q E s := by
  rw [if_neg h]
  exact k
theorem ga_slot (x n : Value) : slotArgs "__getattribute__" 1 ⟨[x, n], []⟩ = pure (x, [n]) := by kernel_rfl
theorem ga_name (n : Str) (t : Tok) : attrName (.str n t) = pure n := by kernel_rfl
theorem exc_ga_check {M : Model} {nameV : Value} {Q : Unit → Shared → Prop} (hi : Looks M s.heap (isInstance (.ref x) (.type "BaseException")) true) (h : Q () s) : wpAny M A (checkBuiltinCall "BaseException.__getattribute__" ⟨[.ref x, nameV], []⟩) Q E s := by
  have hk : builtinKind "BaseException.__getattribute__" = some .slot := by decide +kernel
  have hsplit : splitId "BaseException.__getattribute__" = some ("BaseException", "__getattribute__") := by decide +kernel
  have ha := PySem.F.args_bexc_ga (.ref x) nameV
  obtain ⟨hh, g, d, t, os⟩ := s
  simp only [checkBuiltinCall, hk, hsplit]
  refine wpAny_bind (hi.at ?_)
  repeat (any_goals (first | assumption | wp_step))
theorem exc_ga_call {nameV : Value} {R : Result → Shared → Prop} (hi : Looks (model prog w) s.heap (isInstance (.ref x) (.type "BaseException")) true)
    (h : wpAny (model prog w) A.in1 (Builtin.«object.__getattribute__» ⟨[.ref x, nameV], []⟩) (fun fin s' => match fin with | .done (.ret v) => R (.ok (.ret v)) s' | _ => False) (fun e s' => R (.error e) s') s) :
    codeAny (model prog w) A (.call (.builtin "BaseException.__getattribute__") ⟨[.ref x, nameV], []⟩) R s :=
  codeAny_call_builtin PySem.F.attr_ValueError.ga.plain PySem.F.entry_bexc_ga (exc_ga_check hi (wpAny_mono h (fun fin s' z => by rcases fin with (_ | _ | _ | _) | _ <;> first | exact z | exact z.elim) fun _ _ z => z))
set_option maxHeartbeats 400000 in
theorem exc_ca {Q : Option Value → Shared → Prop} (T : ExcK K C) (G : ClsK K) (X : K.In s.heap) (hx : s.heap.get? x = some ox) (hc : ox.cls = .ref C) (h : Q (some (.ref C)) { s with toks := s.toks + 1 }) :
    wpAny (model prog w) A (getAttr? (.ref x) "__class__") Q E s := by
  obtain ⟨hh, g, d, t, os⟩ := s
  have Q0 : Looks (model prog w) hh (typeOf (.ref x)) (.ref C) := hc ▸ (Looks.ld hx).andThen .now
  have Q1 := looks_findIn (M := model prog w) X T.ga
  have Q2 := looks_findIn (M := model prog w) X T.no
  have Q3 := looks_findIn (M := model prog w) X T.cl
  have Q4 := looks_takesIn (M := model prog w) X G.tk
  have Q5 : Looks (model prog w) hh (getOf (some (.builtin "object.__class__"))) (some (.builtin "getset_descriptor.__get__")) := looks_specialIn (M := model prog w) X G.gt
  have Q6 : Looks (model prog w) hh (find (.ref x) (.ref C) "__class__") (.bind (.builtin "getset_descriptor.__get__") (.builtin "object.__class__")) :=
    Q3.andThen (Q5.andThen ((show Looks (model prog w) hh (dataDescriptor? (some (.builtin "object.__class__")) (some (.builtin "getset_descriptor.__get__"))) (some (.builtin "getset_descriptor.__get__", .builtin "object.__class__")) from Q4.andThen .now).andThen (Looks.tag .now)))
  have Q7 : Looks (model prog w) hh (isInstance (.ref x) (.type "BaseException")) true := Q0.andThen (looks_mroIn X T.be)
  have hx2 : (Value.builtin "BaseException.__getattribute__" == Value.builtin "object.__getattribute__") = false := by decide +kernel
  have hx1 : ¬ ((onTheHeap (Value.ref C) && Value.builtin "BaseException.__getattribute__" == Value.builtin "object.__getattribute__") = true) := by rw [hx2, Bool.and_false]; exact Bool.false_ne_true
  unfold getAttr? getAttrBy? getAttrBy
  refine wpAny_bind (wpAny_mkText (wpAny_bind (wpAny_attempt (wpAny_holding (wpAny_bind (Q0.at (wpAny_bind (Q1.at ?_))))))))
  refine wp_if_neg hx1 ?_
  unfold getAttrByItsOwn
  refine wpAny_bind ?_
  show wpAny _ _ (typeLookup (.ref C) "__getattr__") _ _ _
  refine Q2.at ?_
  refine wpAny_bind (wpAny_attempt (wpAny_holding ?_))
  show wpAny _ _ (boundAndCalled (.builtin "BaseException.__getattribute__") (.ref x) _) _ _ _
  unfold boundAndCalled
  refine wpAny_bind (wpAny_of_eq (PySem.F.attr_ValueError.ga.bind _) ?_)
  refine wpAny_call (exc_ga_call Q7 ?_)
  unfold Builtin.«object.__getattribute__»
  refine wpAny_bind (wpAny_of_eq (ga_slot _ _) ?_)
  refine wpAny_bind (wpAny_of_eq (ga_name _ _) ?_)
  refine wpAny_bind (Q0.at (wpAny_bind (Q6.at ?_)))
  show wpAny _ _ (bindTo (.builtin "getset_descriptor.__get__") (.builtin "object.__class__") (.ref x) (.ref C)) _ _ _
  unfold bindTo
  refine wpAny_bind (wpAny_holding (wpAny_call (exc_class_get X hx hc T.ob ?_)))
  refine wpAny_pure ?_
  exact handed_on rfl (wpAny_pure h)
theorem kitx_exc (T : ExcK K C) (G : ClsK K) : KitX K (.ref x) (.ref C) (fun h => ∃ o, h.get? x = some o ∧ o.cls = .ref C) where
  ty := fun _ _ _ ⟨_, hx, hc⟩ => hc ▸ (Looks.ld hx).andThen .now
  it := fun _ _ X _ => by
    obtain ⟨tl, N, nm, q, bs, hdct, sn, sub, ab, col, dd, k0, k1, k2, k3, k5, mN, hC, _⟩ := L2.exc_cls_of X T.ex
    intro A' Q' E' s' k q
    unfold isType loadHead
    exact wpAny_bind (wpAny_loadPart (k _ _ hC) (wpAny_pure q))
  ne := fun h tp dd its n sl X htp => by
    obtain ⟨tl, N, nm, q, bs, hdct, sn, sub, ab, col, dd, k0, k1, k2, k3, k5, mN, hC, _⟩ := L2.exc_cls_of X T.ex
    refine Bool.eq_false_iff.mpr fun q => ?_
    have e : C = tp := Value.ref.inj (beq_iff_eq.mp q)
    subst e
    exact absurd (Value.type.inj (congrArg Obj.cls (Option.some.inj (hC.symm.trans htp)))) (by decide)
  ca := fun X ⟨_, hx, hc⟩ k => exc_ca T G X hx hc k
theorem exc_matches {M : Model} {Q : Bool → Shared → Prop} (X : K.In s.heap) (hx : s.heap.get? x = some ox) (hc : ox.cls = .ref C) (T : ExcK K D) (m : mroIn K C (.ref D) = some true) (h : Q true s) :
    wpAny M A (excMatches (.ref x) (.ref D)) Q E s := by
  obtain ⟨hh, g, d, tk, os⟩ := s
  obtain ⟨tl, N, nm, q', bs, hdct, sn, sub, ab, col, dd, k0, k1, k2, k3, k5, mN, hD, _⟩ := L2.exc_cls_of X T.ex
  have Q1 := looks_mroIn (M := M) X m
  have Q2 := looks_mroIn (M := M) X T.be
  have f := tc_notTuple
  unfold excMatches
  repeat (first | (with_reducible refine wpAny_loadPart_at hx ?_; rw [hc]) | with_reducible refine wpAny_loadPart_at hD ?_ | with_reducible refine Q1.at ?_ | with_reducible refine Q2.at ?_ | wp_step)
  exact h
end
end PySem.W

namespace L2
open PySem PySem.Spec PyProof.Rows
/-! ### isinstance by values -/
/-- isinstance(x, c), c one class -/
theorem call_isinst {X : Cx} : CallR X (.builtin "isinstance") (fun xs H Q => ∃ x c t b, xs = [x, c] ∧ TyOf X.K H x t ∧ (∀ u, RelV c u → PySem.W.kitOne X.K t u = some b) ∧ Q (.bl b) H) := by
  intro pins s σ H xs us Q I r h
  obtain ⟨x, c, t, b, rfl, ty, k, q⟩ := h
  obtain ⟨u, w', rfl, r1, r2⟩ := vals2 r
  exact isinst_ok I r1 ty (k _ r2) fun tk => ⟨.bl b, H, I.tok tk, rfl, q⟩
/-- a refusal that is known by its class -/
def XO (a C : Addr) : HO := .ext fun h => ∃ o, h.get? a = some o ∧ o.cls = .ref C
theorem XO.at {P : Program} {w : World} {H : Hp} {h : Heap} {a C : Addr} (ok : HOk P w H h) (e : H a = some (XO a C)) : ∃ o, h.get? a = some o ∧ o.cls = .ref C := (ok a _ e).1
theorem call_isinstX {X : Cx} (G : PySem.W.ClsK X.K) : CallR X (.builtin "isinstance") (fun xs H Q => ∃ a C c b, xs = [.ref a, c] ∧ H a = some (XO a C) ∧ PySem.W.ExcK X.K C ∧ (∀ u, RelV c u → PySem.W.kitOne X.K (.ref C) u = some b) ∧ Q (.bl b) H) := by
  intro pins s σ H xs us Q I r h
  obtain ⟨a, C, c, b, rfl, e, T, k, q⟩ := h
  obtain ⟨u, w', rfl, r1, r2⟩ := vals2 r
  cases (show u = Value.ref a from r1)
  exact PySem.W.kia_one (PySem.W.kitx_exc T G) I.kIn (XO.at I.hok e) (k _ r2) (fun z => nomatch z) fun tk => ⟨.bl b, H, I.tok tk, rfl, q⟩
/-- .. c a tuple of classes -/
theorem call_isinstXT {X : Cx} (G : PySem.W.ClsK X.K) : CallR X (.builtin "isinstance") (fun xs H Q => ∃ a C p ys b, xs = [.ref a, .ref p] ∧ H a = some (XO a C) ∧ PySem.W.ExcK X.K C ∧ H p = some (.tup ys) ∧ (∀ us, Vals ys us → PySem.W.kitAny X.K (.ref C) us = some b) ∧ Q (.bl b) H) := by
  intro pins s σ H xs us Q I r h
  obtain ⟨a, C, p, ys, b, rfl, e, T, hp, k, q⟩ := h
  obtain ⟨u, w', rfl, r1, r2⟩ := vals2 r
  cases (show u = Value.ref a from r1)
  cases (show w' = Value.ref p from r2)
  obtain ⟨_, its, rv, o, ho, hc, n, hd⟩ := (show ObjOk X.prog X.w H s.heap p (.tup ys) from I.hok p _ hp)
  obtain ⟨oc, od, oda, osl⟩ := o
  dsimp only at hc hd
  subst hc hd
  exact PySem.W.kia_tup (PySem.W.kitx_exc T G) I.kIn (XO.at I.hok e) ho (k _ rv) (fun z => nomatch z) fun tk => ⟨.bl b, H, I.tok tk, rfl, q⟩

/-! ### try, one clause with a name -/
abbrev Cx.inH (X : Cx) (a : Addr) : Cx := { X with A := X.A.mark (some (.ref a)), calm := false, xe := fun _ _ => False }
abbrev Cx.pinned (X : Cx) (pn : List (Addr × Obj)) : Cx := { X with pn := pn }
section
variable {X : Cx} {pins : List (Addr × Obj)} {σ : St} {H : Hp} {s : Shared}
theorem Inv.inH (I : Inv X pins σ H s) (a : Addr) : Inv (X.inH a) pins σ H s :=
  ⟨⟨I.ok.mod, I.ok.kind, I.ok.glob, I.ok.blt, I.ok.above, I.ok.inj, I.ok.has, I.ok.cab, (fun h => nomatch h), I.ok.frames, I.ok.stk, I.ok.exf, I.ok.bs, I.ok.bsz, I.ok.noex, I.ok.exfs, I.ok.funs, I.ok.frf⟩, I.os, I.bare, I.base, I.loc, I.cell, I.free, I.freeC, I.pin, I.hok, I.len⟩
theorem Inv.ofH {a : Addr} (ok : X.Ok) (I : Inv (X.inH a) pins σ H s) : Inv X pins σ H s := ⟨ok, I.os, I.bare, I.base, I.loc, I.cell, I.free, I.freeC, I.pin, I.hok, I.len⟩
theorem Inv.toPn (I : Inv X pins σ H s) : Inv (X.pinned (X.pn ++ pins)) [] σ H s :=
  ⟨⟨I.ok.mod, I.ok.kind, I.ok.glob, I.ok.blt, I.ok.above, I.ok.inj, I.ok.has, I.ok.cab, I.ok.hd, I.ok.frames, I.ok.stk, I.ok.exf, I.ok.bs, I.ok.bsz, I.ok.noex, I.ok.exfs, I.ok.funs, I.ok.frf⟩, I.os, I.bare, I.base, I.loc, I.cell, I.free, I.freeC, fun p hp => I.pin p (by simpa using hp), I.hok, I.len⟩
theorem Inv.ofPn (ok : X.Ok) (I : Inv (X.pinned (X.pn ++ pins)) [] σ H s) : Inv X pins σ H s :=
  ⟨ok, I.os, I.bare, I.base, I.loc, I.cell, I.free, I.freeC, fun p hp => I.pin p (by simpa using hp), I.hok, I.len⟩
/-- an object that was not tracked is -/
theorem Inv.track {a : Addr} {o : HO} (I : Inv X pins σ H s) (hn : H a = none) (h0 : X.s₀.heap.get? a = none) (hL : a ≠ X.env.locals) (hc : ∀ x c, X.env.cells.lookup x = some c → c ≠ a) (hp : ∀ p ∈ X.pn ++ pins, p.1 ≠ a)
    (new : ObjOk X.prog X.w (upd H a o) s.heap a o) : Inv X pins σ (upd H a o) s := by
  have ne : ∀ b u, H b = some u → b ≠ a := fun b u e => ne_of_none e hn
  refine ⟨I.ok, I.os, I.bare, ⟨I.base.keep, I.base.slot, fun b ob e n hx => ?_, I.base.there, fun b xs e => ?_, fun b ob u e => ?_, fun b ps e => ?_⟩, I.loc, I.cell, ?_, fun x c e => ?_, fun p hp' => ?_, fun b u e => ?_, I.len⟩
  · rw [upd_ne (fun z => by rw [z, h0] at e; cases e)]
    exact I.base.free b ob e n hx
  · have q := I.base.tups b xs e
    rw [upd_ne (ne b _ q)]; exact q
  · have q := I.base.frzs b ob u e
    rw [upd_ne (ne b _ q)]; exact q
  · obtain ⟨m, q⟩ := I.base.tbls b ps e
    exact ⟨m, by rw [upd_ne (ne b _ q)]; exact q⟩
  · rw [upd_ne (Ne.symm hL)]; exact I.free
  · rw [upd_ne (hc x c e)]; exact I.freeC x c e
  · obtain ⟨e, n, r⟩ := I.pin p hp'
    exact ⟨e, by rw [upd_ne (hp p hp')]; exact n, r⟩
  · by_cases hb : b = a
    · subst hb; rw [upd_same] at e; cases e; exact new
    · rw [upd_ne hb] at e
      exact (I.hok b u e).stay (fun _ _ _ q => q) (fun c q => by rw [upd_ne (ne c _ q)]; exact q) fun c xs q => by rw [upd_ne (ne c _ q)]; exact q
theorem Inv.forget (I : Inv X pins σ H s) : Inv X pins (List.replicate X.N.length none) H s := I.weak (by rw [List.length_replicate]; exact I.len.symm) fun i v e => by
  rw [List.getElem?_replicate] at e
  split at e <;> cases e
/-- the clause's name goes -/
theorem name_gone {n : Str} {pos : Pos} {Q : Unit → Shared → Prop} {E : Value → Shared → Prop} (I : Inv X pins σ H s) (hl : X.env.scope.names.lookup n = some .local) (h : ∀ s', Inv X pins (List.replicate X.N.length none) H s' → Q () s') :
    wpAny (model X.prog X.w) X.A (do bindName X.env n .none; unbindBehindTheSuite X.env n pos) Q E s := by
  obtain ⟨m, hn, _⟩ := I.loc
  refine wpAny_nameGoes hl hn (by rw [I.ok.kind]; rfl) fun h' m' hn' hs => h _ ?_
  have k : ∀ b o, b ≠ X.env.locals → s.heap.get? b = some o → h'.get? b = some o := fun b o hb e => (hs.2 b hb).trans e
  have cellK : ∀ c v, c ≠ X.env.locals → s.heap.IsCell c v → h'.IsCell c v := fun c v hc z => z.sameBut hs hc
  have nL : ∀ b o, X.s₀.heap.get? b = some o → b ≠ X.env.locals := fun b o e => Nat.ne_of_lt (Nat.lt_of_lt_of_le (Heap.lt_size e) I.ok.above)
  refine ⟨I.ok, I.os, I.bare, ⟨fun b o e n' hb hx => k b o (nL b o e) (I.base.keep b o e n' hb hx), fun b o e n' hb hx => ?_, I.base.free, fun b o e hx => ?_, I.base.tups, I.base.frzs, I.base.tbls⟩, ⟨m', hn', fun i x v e1 e2 => ?_⟩, fun x c e => ?_, I.free, I.freeC, fun p hp => ?_, fun a o e => ?_, by simp⟩
  · obtain ⟨sl, e1⟩ := I.base.slot b o e n' hb hx
    exact ⟨sl, k b _ (nL b o e) e1⟩
  · obtain ⟨o', e1⟩ := I.base.there b o e hx
    exact ⟨o', k b o' (nL b o e) e1⟩
  · rw [List.getElem?_replicate] at e2
    split at e2 <;> cases e2
  · obtain ⟨v, z⟩ := I.cell x c e
    exact ⟨v, cellK c v (I.cne x c e) z⟩
  · obtain ⟨e, n', ne, r⟩ := I.pin p hp
    exact ⟨k _ _ ne e, n', ne, r⟩
  · refine (I.hok a o e).stay (fun b u hb q => k b u (fun z => ?_) q) (fun _ q => q) fun _ _ q => q
    have n' := I.free
    rcases hb with rfl | hb
    · rw [z, n'] at e; cases e
    · rw [z, n'] at hb; cases hb
end
/-- what stands behind the clause: no name is known there -/
def Ends.blank (D : Ends) (n : Nat) : Ends := { nx := fun _ H => D.nx (List.replicate n none) H, rt := D.rt, bk := fun _ H => D.bk (List.replicate n none) H, ct := fun _ H => D.ct (List.replicate n none) H }
/-- what the clause asks of a refusal of the class C; M the clause's class, i its name's slot -/
def EH (K : PySem.W.Frag) (M : Addr) (n i : Nat) (th : TS) (D : Ends) : XK := fun C _ H => ∃ c, C = .ref c ∧ PySem.W.mroIn K c (.ref M) = some true ∧ ∀ a, H a = none → th (D.blank n) ((List.replicate n none).set i (some (.ref a))) (upd H a (XO a c))
def tTry (K : PySem.W.Frag) (M : Addr) (n i : Nat) (tb : XK → TS) (th : TS) : TS := fun D σ H => tb (EH K M n i th D) D σ H
theorem ps_try {X : Cx} {body : List Stmt} {tb : XK → TS} {th : TS} {x n : Str} {M : Addr} {i : Nat} {b0 : Stmt} {suite : List Stmt} {np hpos pos : Pos} (hex : X.ex = []) (hst : X.stack = X.env :: X.outer) (hfr : X.env.frame = some X.env.locals)
    (hb : ∀ (pn : List (Addr × Obj)) (E : XK), PSs ((X.pinned pn).wish (XT (X.pinned pn) E)) body (tb E)) (hg : Gl X x) (hm : X.mg x = some (.ref M)) (TM : PySem.W.ExcK X.K M) (hN : X.N.Nodup) (hi : X.N[i]? = some n) (hl : X.env.scope.names.lookup n = some .local)
    (hh : ∀ a, PSs (X.inH a) (b0 :: suite) th) (hdb : (x == ("__debug__" : Str)) = false := by decide) :
    PS X (.Try body [.ExceptHandler (some (.Name x np)) (some n) (b0 :: suite) hpos] [] [] pos) (tTry X.K M X.N.length i tb th) := by
  intro pins s σ H D I h
  have okX := I.ok
  refine wpAny_Try_except (wpAny_mono (hb (X.pn ++ pins) (EH X.K M X.N.length i th D) [] s σ H D (I.toPn.wish _) h) (fun f s1 q => ?_) fun e s1 q => ?_)
  · have back : ∀ {σ' : St} {H' : Hp}, Inv ((X.pinned (X.pn ++ pins)).wish (XT (X.pinned (X.pn ++ pins)) (EH X.K M X.N.length i th D))) [] σ' H' s1 → Inv X pins σ' H' s1 := fun J => Inv.ofPn okX J.unwish
    cases f with
    | next =>
      obtain ⟨σ', H', J, z⟩ := q
      exact wpAny_execs_nil ⟨σ', H', back J, z⟩
    | brk =>
      obtain ⟨σ', H', J, z⟩ := q
      exact ⟨σ', H', back J, z⟩
    | cont =>
      obtain ⟨σ', H', J, z⟩ := q
      exact ⟨σ', H', back J, z⟩
    | ret u =>
      obtain ⟨v, σ', H', J, r, z⟩ := q
      exact ⟨v, σ', H', back J, r, z⟩
  · obtain ⟨a, T, C, H1, σ1, rfl, J0, fl, hpn, c, rfl, hmro, hth⟩ := q
    have J : Inv X pins σ1 H1 s1 := Inv.ofPn okX J0
    have hpn' : ∀ p ∈ X.pn ++ pins, p.1 ≠ a ∧ p.1 ≠ T := hpn
    have hfrs : X.A.frames = some (X.env :: X.outer) := by rw [okX.frames, hst]
    have ne1 : ∀ p ∈ X.pn ++ pins, p.1 ∉ frs X.stack := fun p hp z => by
      obtain ⟨_, _, ne, nf, _⟩ := J.pin p hp
      exact (List.mem_cons.mp (J.stkSub p.1 z)).elim ne nf
    obtain ⟨oe, vs, a0, oT, tv, he, hc, hd, h0, h1, hTe, hT, hdT, h3⟩ := fl.ob
    have hts : ∀ b ∈ [a, T], X.s₀.heap.get? b = none ∧ H1 b = none ∧ ∀ p ∈ X.pn ++ pins, p.1 ≠ b := fun b hb => by
      rcases List.mem_cons.mp hb with z | z
      · subst z; exact ⟨fl.na, fl.fa, fun p hp => (hpn' p hp).1⟩
      · cases (List.mem_singleton.mp z); exact ⟨fl.nT, fl.fT, fun p hp => (hpn' p hp).2⟩
    have fly0 : Heap.FlyingW (PySem.W.hideAll s1.heap ([a, T] ++ frs X.stack)) (X.env :: X.outer) a (.ref c) a0 s1.heap :=
      ⟨hide_stays _ _, PySem.W.hideAll_none _ (List.mem_append_left _ (by simp)), by rw [← hst]; exact fun_hide J [a, T],
        oe, vs, T, oT, tv, he, ⟨hc, h0⟩, hd, h1, PySem.W.hideAll_none _ (List.mem_append_left _ (by simp)), hTe, hT, hdT, h3⟩
    refine wpAny_looks_onW hfrs hfr fly0 fun h4 held4 up4 => ?_
    refine wpAny_landsW held4 fun h5 fly5 up5 => ?_
    have S5 : Shift X [a, T] s1.heap h5 := ⟨fly5.1, up4.trans up5⟩
    have J5 : Inv X pins σ1 H1 { s1 with heap := h5 } := S5.inv (tk := s1.toks) J hts
    obtain ⟨o5, g5, c5⟩ := fly5.there
    refine wpAny_handleBy_cons (codeAny_handlers_test (ld_glob (X := X.inH a) (J5.inH a) hg hm ?_ hdb)) (by intro z; cases z)
    refine PySem.W.exc_matches J5.kIn g5 c5 TM hmro (codeAny_handlers_suite_as ?_)
    refine lands_againW fly5 fun h6 fly6 up6 => ?_
    have S6 : Shift X [a, T] s1.heap h6 := ⟨fly6.1, (up4.trans up5).trans up6⟩
    have J6 : Inv X pins σ1 H1 { s1 with heap := h6 } := S6.inv (tk := s1.toks) J hts
    obtain ⟨o6, v6, g6, c6, d6, _⟩ := fly6.first
    have nL : a ≠ X.env.locals := fun z => by
      obtain ⟨m, ⟨oL, es, ep, eL, dL, _⟩, _⟩ := J6.loc
      rw [← z, g6] at eL; cases eL
      rw [d6] at dL; cases dL
    have nC : ∀ x c, X.env.cells.lookup x = some c → c ≠ a := fun x c' e z => by
      obtain ⟨v, oc, ec, dc⟩ := J6.cell x c' e
      rw [z, g6] at ec; cases ec
      rw [d6] at dc; cases dc
    have J7 : Inv X pins (List.replicate X.N.length none) (upd H1 a (XO a c)) { s1 with heap := h6 } := (J6.track (o := XO a c) fl.fa fl.na nL nC (fun p hp => (hpn' p hp).1)
      (show ObjOk X.prog X.w (upd H1 a (XO a c)) h6 a (.ext fun h => ∃ o, h.get? a = some o ∧ o.cls = .ref c) from ⟨⟨o6, g6, c6⟩, ⟨o6, g6⟩, fun g1 g2 ⟨o, z1, z2⟩ st => ⟨o, st o z1, z2⟩⟩)).forget
    refine store_ok (X := X.inH a) (J7.inH a) hN hi (.inl hl) (v := .ref a) rfl (fun s8 J8 => ?_) (.inr hl)
    refine wpAny_mono (hh a pins s8 _ _ (D.blank X.N.length) J8 (hth a fl.fa)) (fun f s9 z => ?_) fun _ _ z => z.elim
    have back : ∀ {σ' : St} {H' : Hp}, Inv (X.inH a) pins σ' H' s9 → Inv X pins σ' H' s9 := fun J => Inv.ofH okX J
    cases f with
    | next =>
      obtain ⟨σ', H', J9, z⟩ := z
      exact name_gone (back J9) hl fun s' J' => ⟨_, H', J', z⟩
    | brk =>
      obtain ⟨σ', H', J9, z⟩ := z
      exact name_gone (back J9) hl fun s' J' => ⟨_, H', J', z⟩
    | cont =>
      obtain ⟨σ', H', J9, z⟩ := z
      exact name_gone (back J9) hl fun s' J' => ⟨_, H', J', z⟩
    | ret u =>
      obtain ⟨v, σ', H', J9, r, z⟩ := z
      exact name_gone (back J9) hl fun s' J' => ⟨v, _, H', J', r, z⟩

/-! ### a def that is called within an except suite -/
structure RoomH (k : Nat) (A : Around) : Prop where
  dp : A.depth + 3 * k + 5 < recursionLimit
  un : A.units + 16 * k + 200 < cLine
theorem Room.hm {k : Nat} {A : Around} (r : Room k A) (v : Option Value) : RoomH k (A.mark v) := ⟨r.dp, r.un⟩
structure FnH (P : Program) (w : World) (K : PySem.W.Frag) (mg : Str → Option Value) (base : Heap) (k : Nat) (f : Addr) (fd : FuncData) (ps : List Str) (sp : Sp) : Prop where
  len : ∀ vs H Q E, sp vs H Q E → vs.length = ps.length
  run : ∀ (A : Around) (outer : List Env) (s : Shared) (H : Hp) (args : Args) (us : List Value) (vs : List V) (Q : VK), RoomH k A → Env0 P w K mg base A outer s H → BindsTo s fd args (ps.zip us) → Vals vs us → sp vs H Q E0 →
    codeAny (model P w) A (.call (.ref f) args) (CR CX0 outer P w H s Q E0) s
/-- the body's context: nothing refuses, something may be handled -/
def cxH (P : Program) (w : World) (K : PySem.W.Frag) (mg : Str → Option Value) (base : Heap) (N : List Str) (qual : Str) (scope : Scope) (f : Addr) (cd : Value) (A : Around) (outer : List Env) (s : Shared) (H : Hp) : Cx :=
  { cxOf CX0 P w K mg base N qual scope f cd A outer s H E0 with calm := false, xe := fun _ _ => False }
theorem Fun.okH {P : Program} {w : World} {K : PySem.W.Frag} {mg : Str → Option Value} {base : Heap} {x qual : Str} {st : Stmt} {f : Addr} {fd : FuncData} {N ps : List Str} {k : Nat} {sp : Sp} (F : Fun K x qual st f fd) (S : FnScope N ps (defScope st))
    (len : ∀ vs H Q E, sp vs H Q E → vs.length = ps.length)
    (hbody : ∀ (cdv : Value) (A : Around) (outer : List Env) (s : Shared) (H : Hp) (vs : List V) (Q : VK), RoomH k (A.deeper (envOfC qual (defScope st) s.heap.objs.size f cdv)) → sp vs H Q E0 →
      ∃ t, PSs (cxH P w K mg base N qual (defScope st) f cdv A outer s H) (defBody st) t ∧ t { nx := fun _ H' => Q .non H', rt := Q } (start N vs) H) : FnH P w K mg base (k + 1) f fd ps sp := by
  obtain ⟨oc, od, kV, doc, pm, an, cdv, ct, osl, rfl, lk, hcd⟩ := F.ex
  refine ⟨len, fun A outer s H args us vs Q hr e0 hb r hsp => ?_⟩
  have hl := len _ _ _ _ hsp
  have KX : K.In s.heap := e0.mod.kin.keeps fun b o e => (e0.bs b o e).1
  have lim : s.heap.NoLimit := e0.mod.nolimit.keeps fun b o e => (e0.bs b o e).1
  have hkind : ∀ y ∈ ps.zip us, (defScope st).names.lookup y.1 = some .local ∨ ((defScope st).names.lookup y.1 = some .cell ∧ ((cellsFrom (s.heap.objs.size + 1) (defScope st).names []).lookup y.1).isSome = true) := fun ⟨n, v⟩ hy => by
    rcases S.par n (List.of_mem_zip hy).1 with q | q
    · exact .inl q
    · exact .inr ⟨q, PySem.W.cellsFrom_some _ _ _ (.inl q)⟩
  refine codeAny_call_function (by have := hr.dp; omega) (KX _ _ lk) rfl S.co S.gen rfl (PySem.W.codeRec_of KX hcd) (hb _ _ _ _ ?_)
  refine wpAny_newFunctionEnv_cells S.kind hkind fun env he s1 x => ?_
  subst he
  refine ⟨lim.keeps x.toInCall.keep, codeAny_func ?_⟩
  obtain ⟨t, ht, hq⟩ := hbody cdv A outer s H vs Q ⟨by have := hr.dp; show A.depth + 1 + 3 * k + 5 < _; omega, by have := hr.un; show A.units + 3 + 16 * k + 200 < _; omega⟩ hsp
  -- the invariant does not lean on what is handled: it is made at an A where nothing is
  have e1 : Env0 P w K mg base { A with handled := none } outer s H := ⟨e0.frames, e0.mod, e0.bs, e0.bsz, e0.funs, e0.frf, e0.hok, e0.bare⟩
  have I0 : Inv (cxOf CX0 P w K mg base N qual (defScope st) f cdv { A with handled := none } outer s H E0) [] (start N vs) H s1 := inv_start S rfl e1 hl r x
  have I : Inv (cxH P w K mg base N qual (defScope st) f cdv A outer s H) [] (start N vs) H s1 :=
    ⟨⟨I0.ok.mod, I0.ok.kind, I0.ok.glob, I0.ok.blt, I0.ok.above, I0.ok.inj, I0.ok.has, I0.ok.cab, (fun h => nomatch h), I0.ok.frames, I0.ok.stk, I0.ok.exf, I0.ok.bs, I0.ok.bsz, I0.ok.noex, I0.ok.exfs, I0.ok.funs, I0.ok.frf⟩, I0.os, I0.bare, I0.base, I0.loc, I0.cell, I0.free, I0.freeC, I0.pin, I0.hok, I0.len⟩
  refine wpAny_mono (ht [] s1 (start N vs) H _ I hq) (fun fl s' hs => ?_) fun e s' hs => hs.elim
  have fin : ∀ {σ' : St} {H' : Hp} {v : V} {u : Value}, Inv (cxH P w K mg base N qual (defScope st) f cdv A outer s H) [] σ' H' s' → RelV v u → Q v H' → CE outer P w H s Q u s' :=
    fun {σ' H' v u} J rv q => ⟨v, H', J.os, J.bare, J.base, J.hok, rv, q⟩
  cases fl with
  | ret u =>
    obtain ⟨v, σ', H', J, rv, q⟩ := hs
    exact fin J rv q
  | next =>
    obtain ⟨σ', H', J, q⟩ := hs
    exact fin (v := V.non) (u := Value.none) J rfl q
  | brk =>
    obtain ⟨_, _, _, q⟩ := hs
    exact False.elim q
  | cont =>
    obtain ⟨_, _, _, q⟩ := hs
    exact False.elim q
theorem pe_callH {X : Cx} {k : Nat} {f : Addr} {fd : FuncData} {ps : List Str} {sp : Sp} {x : Str} {p pos : Pos} {e : Expr} {es : List Expr} {t : TA} (F : FnH X.prog X.w X.K X.mg X.base k f fd ps sp) (hr : RoomH k X.A) (hg : Gl X x) (hm : X.mg x = some (.ref f))
    (hk : PySem.W.keepIn X.K (.ref f) = true) (hb : Binds X.K fd ps []) (ha : PA X (e :: es) t) (hdb : (x == ("__debug__" : Str)) = false := by decide) (he : starEach (e :: es) X.env = (false, eval e X.env) :: starEach es X.env := by rfl)
    (hpl : (backTo pos (starEach es X.env)).any (·.1) = false := by rfl) : PE X (.Call (.Name x p) (e :: es) [] pos) (fun σ H Q => t σ H fun vs H1 => sp vs H1 Q E0) := by
  intro pins s σ H Q I h
  refine wpAny_Call_Name_kw (ld_glob I hg hm ?_ hdb)
  refine PySem.W.callWith_K (h₀ := X.base) I.ok.mod.kin hk (thn (ha pos pins s σ H _ I h) fun us s1 ⟨vs, H1, I1, r, q⟩ => ⟨I1.kIn, ?_⟩) he hpl
  have hl : (us ++ ([] : List Value)).length = ps.length := by rw [List.append_nil, ← r.length]; exact F.len _ _ _ _ q
  have hbt := hb s1 us I1.kIn hl
  rw [List.append_nil] at hbt
  refine wpAny_call (codeAny_mono (F.run X.A X.stack s1 H1 ⟨us, []⟩ us vs Q hr I1.env0 hbt r q) fun rs s' hq => ?_)
  cases rs with
  | error e => exact False.elim hq
  | ok fl =>
    cases fl with
    | ret u => exact I1.after hq
    | next => exact False.elim hq
    | brk => exact False.elim hq
    | cont => exact False.elim hq
end L2

namespace L2
open PySem PySem.Spec PyProof.Rows
theorem Inv.big {X : Cx} {pins : List (Addr × Obj)} {σ : St} {H : Hp} {s : Shared} (I : Inv X pins σ H s) : sysModules < s.heap.objs.size := by
  have h : mainGlobals < s.heap.objs.size := (I.mod.glob.keeps I.bk).lt
  exact Nat.lt_trans (by decide) h
theorem dk_empty {P : Program} {w : World} {H : Hp} (h : Heap) (hb : sysModules < h.objs.size) : ObjOk P w H (h.push { cls := .type "dict", data := .dict #[] }) h.objs.size (.dK []) :=
  ⟨Nat.zero_le _, beq_eq_false_iff_ne.mpr (Ne.symm (Nat.ne_of_lt hb)), [], .nil, Heap.DictOf.new h⟩
/-- {}, to be a dict of the kind that is wanted -/
def tDNewK : TE := fun _ H Q => ∀ p, H p = none → Q (.ref p) (upd H p (.dK []))
theorem pe_dnewK {X : Cx} {pos : Pos} : PE X (.Dict [] [] pos) tDNewK := fun pins s σ H Q I h =>
  wpAny_Dict_empty ⟨.ref s.heap.objs.size, _, I.laid (a := s.heap.objs.size) (o := .dK []) (t' := s.toks) (fun _ _ q => Heap.get?_push_of_some _ q) (Nat.le_refl _) (dk_empty s.heap I.big), rfl, h _ (I.hok.fresh (Nat.le_refl _))⟩
end L2
/-! EvStr: f-strings with ints, a while whose test need not be monotone. Behind EvTry. -/
namespace L2
open PySem PySem.Spec PyProof.Rows
/-! ### while -/
def WTurn (Pv : St → Hp → Prop) (mu : St → Hp → Nat) (m : Nat) (tb : TS) (D : Ends) (σ : St) (H1 : Hp) : Prop :=
  ∃ N : St → Hp → Prop, (∀ σ' H', N σ' H' → ∃ m', m' < m ∧ m' = mu σ' H' ∧ Pv σ' H') ∧ tb { D with nx := N, ct := N, bk := D.nx } σ H1
theorem WTurn.of {Pv : St → Hp → Prop} {mu : St → Hp → Nat} {m : Nat} {tb : TS} {D : Ends} {σ : St} {H1 : Hp}
    (h : tb { D with nx := fun σ' H' => Pv σ' H' ∧ mu σ' H' < m, ct := fun σ' H' => Pv σ' H' ∧ mu σ' H' < m, bk := D.nx } σ H1) : WTurn Pv mu m tb D σ H1 :=
  ⟨_, fun σ' H' ⟨p, l⟩ => ⟨_, l, rfl, p⟩, h⟩
theorem while_w {c : TT} {tb : TS} {D : Ends} {σ : St} {H : Hp} (Pv : St → Hp → Prop) (mu : St → Hp → Nat) (h0 : Pv σ H)
    (hs : ∀ m σ H, Pv σ H → m = mu σ H → c σ H fun b H1 => if b = true then WTurn Pv mu m tb D σ H1 else D.nx σ H1) : tWhile c tb D σ H := by
  refine ⟨fun m σ H => m = mu σ H ∧ Pv σ H, ⟨_, rfl, h0⟩, ?_⟩
  rintro m σ H ⟨e, p⟩
  exact hs m σ H p e
/-! ### tests that are known -/
theorem ifT {c A B : Prop} [Decidable c] (h : c) (k : A) : if decide c = true then A else B := by
  rw [if_pos (decide_eq_true h)]
  exact k
theorem ifF {c A B : Prop} [Decidable c] (h : ¬ c) (k : B) : if decide c = true then A else B := by
  rw [if_neg (fun z => h (of_decide_eq_true z))]
  exact k
/-! ### f-strings -/
abbrev TF := Str → St → Hp → (Str → Hp → Prop) → Prop
def PF (X : Cx) (es : List Expr) (t : TF) : Prop := ∀ (pins : List (Addr × Obj)) (s : Shared) (σ : St) (H : Hp) (out : Str) (Q : VK), Inv X pins σ H s → t out σ H (fun z H1 => z.length ≤ sizeLine ∧ Q (.str z) H1) →
  wpAny (model X.prog X.w) X.A (joinParts out (evalEach es X.env)) (EP X pins σ Q) X.xe s
theorem pf_nil {X : Cx} : PF X [] (fun out _ H Q => Q out H) := fun pins s σ H out Q I h =>
  joinParts_nil (show EP X pins σ Q _ _ from ⟨.str out, H, I.tok _, ⟨_, rfl⟩, h.2⟩) h.1
theorem pf_cons {X : Cx} {e : Expr} {es : List Expr} {te : TE} {tr : TF} (he : PE X e te) (hr : PF X es tr) :
    PF X (e :: es) (fun out σ H Q => te σ H fun v H1 => ∃ y, v = .str y ∧ (out ++ y).length ≤ sizeLine ∧ tr (out ++ y) σ H1 Q) := fun pins s σ H out Q I h => by
  show wpAny _ _ (joinParts out (eval e X.env :: evalEach es X.env)) _ _ _
  refine joinParts_cons (wpAny_mono (he pins s σ H _ I h) (fun u s1 q => ?_) fun _ _ z => z)
  obtain ⟨v, H1, I1, r, y, rfl, hz, q⟩ := q
  obtain ⟨t, rfl⟩ := r
  exact ⟨hz, hr pins s1 σ H1 _ Q I1 q⟩
theorem pe_fstr {X : Cx} {e1 e2 : Expr} {es : List Expr} {pos : Pos} {t : TF} (h : PF X (e1 :: e2 :: es) t) : PE X (.JoinedStr (e1 :: e2 :: es) pos) (fun σ H Q => t Str.empty σ H fun z H1 => z.length ≤ sizeLine ∧ Q (.str z) H1) :=
  fun pins s σ H Q I hw => JoinedStr_many (h pins s σ H Str.empty Q I hw)
theorem pe_fint {X : Cx} {e : Expr} {te : TE} {pos : Pos} (he : PE X e te) : PE X (.FormattedValue e (-1) none pos) (fun σ H Q => te σ H fun v H1 => ∃ i, v = .int i ∧ i.natAbs.log2 < 1920 ∧ Q (.str (toString i)) H1) := fun pins s σ H Q I hw => by
  refine FormattedValue_plain (wpAny_mono (he pins s σ H _ I hw) (fun u s1 q => ?_) fun _ _ z => z)
  obtain ⟨v, H1, I1, r, i, rfl, hi, q⟩ := q
  obtain ⟨t, rfl⟩ := r
  exact formatField_int_small hi ⟨.str (toString i), H1, I1.tok _, ⟨_, rfl⟩, q⟩
end L2
/-! EvComp: a list comprehension with one for and at most one if, by hand. Behind EvStr. -/
namespace L2
open PySem PySem.Spec PyProof.Rows
/-! ### the closure -/
theorem cellOf_some {env : Env} {x : Str} {c : Addr} (h : env.cells.lookup x = some c) : cellOf env x = pure c := by
  unfold cellOf
  rw [h]
theorem closure_go {env : Env} : ∀ (names : List (Str × NameKind)) (cs : List (Str × Addr)), (∀ x, (x, NameKind.free) ∈ names → ∃ c, env.cells.lookup x = some c) →
    (∀ x c, cs.lookup x = some c → env.cells.lookup x = some c) →
    ∃ cl : List (Str × Addr), (forIn names cs fun (y : Str × NameKind) (r : List (Str × Addr)) => if (y.2 == .free) = true then (do let c ← cellOf env y.1; pure (ForInStep.yield ((y.1, c) :: r)) : Sem _) else pure (ForInStep.yield r)) = pure cl ∧
      (∀ x c, cl.lookup x = some c → env.cells.lookup x = some c) ∧ (∀ x, ((x, NameKind.free) ∈ names ∨ ∃ c, cs.lookup x = some c) → ∃ c, cl.lookup x = some c)
  | [], cs, _, h2 => ⟨cs, rfl, h2, fun x hx => hx.elim (fun z => nomatch z) id⟩
  | (y, k) :: names, cs, h1, h2 => by
    by_cases hk : k = .free
    · subst hk
      obtain ⟨c, hc⟩ := h1 y (List.mem_cons_self ..)
      obtain ⟨cl, e, a, b⟩ := closure_go names ((y, c) :: cs) (fun x hx => h1 x (List.mem_cons_of_mem _ hx)) (fun x c' hx => by
        rw [List.lookup_cons] at hx
        split at hx
        · rename_i hb
          have hb' : x = y := by simpa using hb
          cases hx
          rw [hb']
          exact hc
        · exact h2 x c' hx)
      refine ⟨cl, ?_, a, fun x hx => b x ?_⟩
      · rw [List.forIn_cons]
        simp only [beq_self_eq_true, if_true, cellOf_some hc]
        exact e
      · rcases hx with hx | ⟨c', hx⟩
        · rcases List.mem_cons.mp hx with z | z
          · cases z
            exact .inr ⟨c, by simp⟩
          · exact .inl z
        · by_cases hb : (x == y) = true
          · exact .inr ⟨c, by rw [List.lookup_cons, hb]⟩
          · exact .inr ⟨c', by rw [List.lookup_cons, Bool.not_eq_true _ |>.mp hb]; exact hx⟩
    · obtain ⟨cl, e, a, b⟩ := closure_go names cs (fun x hx => h1 x (List.mem_cons_of_mem _ hx)) h2
      have hb : (k == NameKind.free) = false := by simpa using hk
      refine ⟨cl, ?_, a, fun x hx => b x ?_⟩
      · rw [List.forIn_cons]
        simp only [hb, Bool.false_eq_true, if_false]
        exact e
      · rcases hx with hx | hx
        · rcases List.mem_cons.mp hx with z | z
          · cases z
            exact absurd rfl hk
          · exact .inl z
        · exact .inr hx
theorem closure_of {scope : Scope} {env : Env} (h : ∀ x, (x, NameKind.free) ∈ scope.names → ∃ c, env.cells.lookup x = some c) :
    ∃ cl, closureFor scope env = pure cl ∧ (∀ x c, cl.lookup x = some c → env.cells.lookup x = some c) ∧ ∀ x, (x, NameKind.free) ∈ scope.names → ∃ c, cl.lookup x = some c := by
  obtain ⟨cl, e, a, b⟩ := closure_go scope.names [] h (fun x c hx => nomatch hx)
  refine ⟨cl, ?_, a, fun x hx => b x (.inl hx)⟩
  refine Eq.trans (b := (forIn scope.names [] fun (y : Str × NameKind) (r : List (Str × Addr)) => if (y.2 == .free) = true then (do let c ← cellOf env y.1; pure (ForInStep.yield ((y.1, c) :: r)) : Sem _) else pure (ForInStep.yield r)) >>= fun r => pure r) rfl ?_
  rw [e]
  rfl
/-! ### the loop -/
section
variable {prog : Program} {w : World} {A : Around} {R : Result → Shared → Prop} {s : Shared}
theorem compLoop_any {elt target iter : Expr} {ifs : List Expr} {scope : Scope} {pos : Pos} {it acc : Value} {env : Env} (I : Nat → Shared → Prop)
    (turn : ∀ n s, I n s → wpAny (model prog w) A (pyNext it) (fun r s1 => match r with
      | none => R (.ok .next) s1
      | some v => wpAny (model prog w) A (letOwnedTupleGo target it v) (fun _ s1' => wpAny (model prog w) A (assign target env v) (fun _ s2 =>
          wpAny (model prog w) A (forIn ifs true fun c r => if r = true then do let ok ← isTrue c env (eval c env); pure (ForInStep.yield ok) else pure (ForInStep.yield r)) (fun ok s3 =>
            if ok = true then wpAny (model prog w) A (eval elt env) (fun x s4 =>
              wpAny (model prog w) A (call (.builtin "list.append") [acc, x]) (fun _ s5 => ∃ m, m < n ∧ I m s5) (fun _ _ => False) s4) (fun _ _ => False) s3
            else ∃ m, m < n ∧ I m s3) (fun _ _ => False) s2) (fun _ _ => False) s1') (fun _ _ => False) s1) (fun _ _ => False) s)
    (n : Nat) (h : I n s) : codeAny (model prog w) A (.compLoop (.ListComp elt [⟨target, iter, ifs, 0⟩] scope pos) 0 it acc env) R s := by
  refine codeAny_loop rfl I (fun n s hI => ?_) n h
  show wpAny _ A ((compTurn (.ListComp elt [⟨target, iter, ifs, 0⟩] scope pos) 0 it acc env).onRaise (fun x => do noteFrame x env; theTreesLotGoes x)) _ _ s
  refine wpAny_noted ?_
  rw [compTurn_list]
  refine wpAny_bind (wpAny_standAt (wpAny_bind (wpAny_mono (turn n s hI) (fun r s1 h1 => ?_) fun _ _ h' => h'.elim)))
  cases r with
  | none => exact wpAny_pure h1
  | some v =>
    refine wpAny_bind (wpAny_mono h1 (fun _ s1' h1' => ?_) fun _ _ h' => h'.elim)
    refine wpAny_bind (wpAny_mono h1' (fun _ s2 h2 => wpAny_bind (wpAny_mono h2 (fun ok s3 h3 => ?_) fun _ _ h' => h'.elim)) fun _ _ h' => h'.elim)
    cases ok with
    | false => exact wpAny_pure ⟨rfl, h3⟩
    | true =>
      exact wpAny_bind (wpAny_bind (wpAny_mono h3 (fun x s4 h4 => wpAny_bind (wpAny_mono h4 (fun _ s5 h5 => wpAny_pure (wpAny_pure ⟨rfl, h5⟩)) fun _ _ h' => h'.elim)) fun _ _ h' => h'.elim))
end
/-! ### the block's context -/
def cxC (X : Cx) (s : Shared) (H : Hp) (scope : Scope) (cl : List (Str × Addr)) (C : Addr) (N : List Str) (fp : List Addr) : Cx where
  prog := X.prog
  w := X.w
  K := X.K
  mg := X.mg
  base := X.base
  A := X.A
  N := N
  s₀ := s
  H₀ := H
  env := compEnvC scope cl C X.env
  outer := X.stack
  stack := X.stack
  ex := fp
  fn := fun x => scope.names.lookup x == some NameKind.cell
  calm := X.calm
  pn := []
  xe := fun _ _ => False
/-- slot i of the block is the outer slot, or the block's own -/
def seen (σ : St) (src : List (Option Nat)) : St := src.map fun o => match o with | some j => (σ[j]?).join | none => none
structure CompScope (X : Cx) (scope : Scope) (N : List Str) (src : List (Option Nat)) : Prop where
  kind : scope.kind = .function
  cells : ∀ y ∈ scope.names, y.2 = .cell → scope.names.lookup y.1 = some .cell
  own : ∀ y ∈ scope.names, y.2 = .local → scope.names.lookup y.1 = some .local
  has : ∀ x, (x, NameKind.free) ∈ scope.names → X.env.kindOf x = some .cell ∨ X.env.kindOf x = some .free
  len : src.length = N.length
  src : ∀ (i j : Nat) (x : Str), src[i]? = some (some j) → N[i]? = some x → X.N[j]? = some x ∧ (x, NameKind.free) ∈ scope.names ∧ scope.names.lookup x = some .free
theorem lookup_relabel_free {env : Env} : ∀ {names : List (Str × NameKind)} {x : Str}, names.lookup x = some .free →
    (names.map fun (n, k) => if (k == NameKind.free && env.scope.kind == .function && env.kindOf n == some .cell) then (n, NameKind.cell) else (n, k)).lookup x = some .cell ∨
    (names.map fun (n, k) => if (k == NameKind.free && env.scope.kind == .function && env.kindOf n == some .cell) then (n, NameKind.cell) else (n, k)).lookup x = some .free
  | [], _, h => by simp at h
  | (n, k) :: r, x, h => by
    have ih := @lookup_relabel_free env r x
    show List.lookup x ((if (k == NameKind.free && env.scope.kind == .function && env.kindOf n == some .cell) = true then (n, NameKind.cell) else (n, k)) :: _) = _ ∨ List.lookup x ((if (k == NameKind.free && env.scope.kind == .function && env.kindOf n == some .cell) = true then (n, NameKind.cell) else (n, k)) :: _) = _
    cases hx : x == n with
    | true =>
      simp only [List.lookup_cons, hx] at h
      cases h
      by_cases hc : (NameKind.free == NameKind.free && env.scope.kind == .function && env.kindOf n == some .cell) = true
      · rw [if_pos hc]; left; simp only [List.lookup_cons, hx]
      · rw [if_neg hc]; right; simp only [List.lookup_cons, hx]
    | false =>
      simp only [List.lookup_cons, hx] at h
      by_cases hc : (k == NameKind.free && env.scope.kind == .function && env.kindOf n == some .cell) = true
      · rw [if_pos hc]; simp only [List.lookup_cons, hx]; exact ih h
      · rw [if_neg hc]; simp only [List.lookup_cons, hx]; exact ih h
/-- a cell or a free name of the block was free in it -/
theorem relabel_cell {env : Env} : ∀ {names : List (Str × NameKind)} {x : Str},
    ((names.map fun (n, k) => if (k == NameKind.free && env.scope.kind == .function && env.kindOf n == some .cell) then (n, NameKind.cell) else (n, k)).lookup x = some .cell ∨
    (names.map fun (n, k) => if (k == NameKind.free && env.scope.kind == .function && env.kindOf n == some .cell) then (n, NameKind.cell) else (n, k)).lookup x = some .free) → (x, NameKind.free) ∈ names ∨ (x, NameKind.cell) ∈ names
  | [], _, h => by simp at h
  | (n, k) :: r, x, h => by
    have ih := @relabel_cell env r x
    change List.lookup x ((if (k == NameKind.free && env.scope.kind == .function && env.kindOf n == some .cell) = true then (n, NameKind.cell) else (n, k)) :: _) = _ ∨ List.lookup x ((if (k == NameKind.free && env.scope.kind == .function && env.kindOf n == some .cell) = true then (n, NameKind.cell) else (n, k)) :: _) = _ at h
    cases hx : x == n with
    | true =>
      have e : x = n := by simpa using hx
      by_cases hc : (k == NameKind.free && env.scope.kind == .function && env.kindOf n == some .cell) = true
      · have hk : k = .free := by
          simp only [Bool.and_eq_true, beq_iff_eq] at hc
          exact hc.1.1
        rw [e, hk]; exact .inl (List.mem_cons_self ..)
      · rw [if_neg hc] at h
        simp only [List.lookup_cons, hx, Option.some.injEq] at h
        rcases h with h | h
        · rw [e, h]; exact .inr (List.mem_cons_self ..)
        · rw [e, h]; exact .inl (List.mem_cons_self ..)
    | false =>
      by_cases hc : (k == NameKind.free && env.scope.kind == .function && env.kindOf n == some .cell) = true
      · rw [if_pos hc] at h; simp only [List.lookup_cons, hx] at h; exact (ih h).imp (List.mem_cons_of_mem _) (List.mem_cons_of_mem _)
      · rw [if_neg hc] at h; simp only [List.lookup_cons, hx] at h; exact (ih h).imp (List.mem_cons_of_mem _) (List.mem_cons_of_mem _)
def Weak (σ σ2 : St) : Prop := σ2.length = σ.length ∧ ∀ (i : Nat) (v : V), σ[i]? = some (some v) → σ2[i]? = some (some v)
theorem Weak.refl (σ : St) : Weak σ σ := ⟨rfl, fun _ _ h => h⟩
theorem Weak.set {σ : St} {i : Nat} {o : Option V} (h : ∀ v, σ[i]? ≠ some (some v)) : Weak σ (σ.set i o) := ⟨by simp, fun j v e => by
  have : i ≠ j := fun z => h v (z ▸ e)
  rw [List.getElem?_set_ne this]
  exact e⟩
/-- the tests -/
def PIf (X : Cx) (ifs : List Expr) (t : TT) : Prop := ∀ (pins : List (Addr × Obj)) (s : Shared) (σ : St) (H : Hp) (Q : Bool → Hp → Prop), Inv X pins σ H s → t σ H Q →
  wpAny (model X.prog X.w) X.A (forIn ifs true fun c r => if r = true then do let ok ← isTrue c X.env (eval c X.env); pure (ForInStep.yield ok) else pure (ForInStep.yield r)) (TP X pins σ Q) X.xe s
def tYes : TT := fun _ H Q => Q true H
theorem pif_nil {X : Cx} : PIf X [] tYes := fun _ _ _ H _ I h => wpAny_tests_nil ⟨H, I, h⟩
def tComp (src : List (Option Nat)) (wi : TI) (g : TG) (tc : TT) (te : TE) : TE := fun σ H Q => wi σ H fun J H1 => ∃ W : Nat → Nat → List V → Hp → Prop, (∃ m, W 0 m [] H1) ∧ ∀ i m ys H2, W i m ys H2 →
  (J.stop i H2 ∧ ys.length ≤ sizeLine ∧ ∀ p, H2 p = none → Q (.ref p) (upd H2 p (.lst ys))) ∨
  (J.go i H2 ∧ ∀ x H3, J.yld i H2 x H3 → g x (seen σ src) H3 fun σ2 H4 => Weak (seen σ src) σ2 ∧ tc σ2 H4 fun b H5 =>
    if b = true then te σ2 H5 fun y H6 => ys.length < sizeLine ∧ ∃ m', m' < m ∧ W (i + 1) m' (ys ++ [y]) H6 else ∃ m', m' < m ∧ W (i + 1) m' ys H5)
theorem cellsFrom_app : ∀ (names : List (Str × NameKind)) (n : Nat) (acc : List (Str × Addr)), cellsFrom n names acc = cellsFrom n names [] ++ acc
  | [], _, acc => rfl
  | (x, k) :: r, n, acc => by
    unfold cellsFrom
    split
    · rw [cellsFrom_app r (n + 1) ((x, n) :: acc), cellsFrom_app r (n + 1) [(x, n)], List.append_assoc]
      rfl
    · exact cellsFrom_app r n acc
theorem cellsFrom_mem : ∀ (names : List (Str × NameKind)) (n : Nat) (acc : List (Str × Addr)) (x : Str) (c : Addr), (x, c) ∈ cellsFrom n names acc → (x, c) ∈ acc ∨ (x, NameKind.cell) ∈ names
  | [], _, _, _, _, h => .inl h
  | (y, k) :: r, n, acc, x, c, h => by
    unfold cellsFrom at h
    split at h
    · rename_i hk
      have hk' : k = .cell := by simpa using hk
      rcases cellsFrom_mem r _ _ x c h with z | z
      · rcases List.mem_cons.mp z with z | z
        · cases z
          exact .inr (hk' ▸ List.mem_cons_self ..)
        · exact .inl z
      · exact .inr (List.mem_cons_of_mem _ z)
    · rcases cellsFrom_mem r _ _ x c h with z | z
      · exact .inl z
      · exact .inr (List.mem_cons_of_mem _ z)
theorem new_around {M : Model} {A : Around} {E : Value → Shared → Prop} {s : Shared} {scope : Scope} {globals : Addr} {cl : List (Str × Addr)} {qual : Str} {env : Env} {Q : Env → Shared → Prop}
    (h : ∀ h', h'.Ns s.heap.objs.size (fun _ => none) → (∀ b o, s.heap.get? b = some o → h'.get? b = some o) → CellsOk h' (s.heap.objs.size + 1) (cellsFrom (s.heap.objs.size + 1) scope.names []) →
      Q { scope, locals := s.heap.objs.size, globals, cells := cellsFrom (s.heap.objs.size + 1) scope.names [] ++ cl, qual, func := none, code := env.code, frame := env.frame, builtins := env.builtins } { s with heap := h' }) :
    wpAny M A (newFunctionEnv scope globals cl [] qual none .none (some env)) Q E s := by
  simp only [newFunctionEnv, Option.isSome_some, if_true]
  refine wpAny_bind (wpAny_alloc ?_)
  refine wpAny_bind (wpAny_layCells _ (fun name kind cells => by cases hkc : kind == NameKind.cell <;> simp [hkc]) _ _ _ _ ?_)
  have ok := cellsFrom_ok scope.names (s.heap.push { cls := .type "dict", data := .dict #[] }) (s.heap.objs.size + 1) [] ⟨fun _ _ hm => (nomatch hm), List.Pairwise.nil⟩ (by rw [Heap.size_push]; exact Nat.le_refl _)
  rw [Heap.size_push] at ok
  rw [show ({ s with heap := s.heap.push { cls := .type "dict", data := .dict #[] } } : Shared).heap.objs.size = s.heap.objs.size + 1 from Heap.size_push .., cellsFrom_app]
  rw [List.forIn_nil]
  exact wpAny_bind (wpAny_pure (wpAny_pure (h _ ((Heap.Ns.new s.heap (.type "dict")).keeps (pushCells_keeps _ _)) (fun b o e => pushCells_keeps _ _ b o (Heap.get?_push_of_some _ e)) ok)))
/-- a comprehension, whatever is done with its list -/
theorem comp_core {X : Cx} {elt tg iter : Expr} {ifs : List Expr} {scope : Scope} {pos pos2 : Pos} {N : List Str} {src : List (Option Nat)} {wi : TI} {g : TG} {tc : TT} {te : TE} {use : Option (Value → Sem Unit)} {Post : Value → Shared → Prop} {pins : List (Addr × Obj)} {s : Shared} {σ : St} {H : Hp} {Q : VK}
    (hc : X.calm = true) (S : CompScope X scope N src) (hi : PI X tg iter wi)
    (hg : ∀ s H cl C fp, PG (cxC X s H scope cl C N fp) tg g) (hf : ∀ s H cl C fp, PIf (cxC X s H scope cl C N fp) ifs tc) (he : ∀ s H cl C fp, PE (cxC X s H scope cl C N fp) elt te)
    (hs : ∀ x, foldedSetIterable iter X.env x = pure x) (I : Inv X pins σ H s) (h : tComp src wi g tc te σ H Q)
    (fin : ∀ (C a : Addr) (H1 : Hp) (s' : Shared), (∀ h', Heap.SameBut C s'.heap h' → Inv X pins σ H1 { s' with heap := h' }) → FpOk X pins H1 C → (∃ m, s'.heap.Ns C m) → Q (.ref a) H1 → compPost (model X.prog X.w) X.A X.xe use Post (.ref a) C (.ok .next) s') :
    wpAny (model X.prog X.w) X.A (comprehension (.ListComp elt [⟨tg, iter, ifs, 0⟩] scope pos) scope X.env pos2 (newList []) false (eval iter X.env) use) Post X.xe s := by
  obtain ⟨cl, hcl, cl1, cl2⟩ := closure_of (scope := scope) (env := X.env) (fun x hx => I.ok.has x (S.has x hx))
  refine wpAny_comprehension_free (use := use) rfl hs hcl S.kind S.own (thn (hi pins s σ H _ I h) fun v s1 h1 => thn h1 fun itv s2 h2 => ?_)
  obtain ⟨it, fp, tn, J, H2, rfl, I2, T, st2, f2, W, ⟨m0, w0⟩, turn⟩ := h2
  refine wpAny_newObj_type (new_around fun h3 hns hsb cok => ?_)
  dsimp only at hns hsb cok ⊢
  generalize hHd : s2.heap.push { cls := .type "list", dict := none, data := .seq ([] : List Value).toArray } = Hd at hns hsb cok ⊢
  have hCs : Hd.objs.size = s2.heap.objs.size + 1 := by rw [← hHd, Heap.size_push]
  have hDC : s2.heap.objs.size ≠ Hd.objs.size := by rw [hCs]; exact Nat.ne_of_lt (Nat.lt_succ_self _)
  have below : ∀ b, b < s2.heap.objs.size → b ≠ Hd.objs.size ∧ b ≠ s2.heap.objs.size := fun b hb => ⟨by rw [hCs]; exact Nat.ne_of_lt (Nat.lt_succ_of_lt hb), Nat.ne_of_lt hb⟩
  have old : ∀ b o, s2.heap.get? b = some o → h3.get? b = some o := fun b o e => hsb b o (hHd ▸ Heap.get?_push_of_some _ e)
  have hacc : h3.get? s2.heap.objs.size = some { cls := .type "list", dict := none, data := .seq ([] : List Value).toArray } := hsb _ _ (hHd ▸ Heap.get?_push_size _ rfl)
  have fpObj := T.obj 0 _ st2
  have fpLt : ∀ b ∈ fp, b < s2.heap.objs.size := fun b hb => by
    obtain ⟨o, e, _⟩ := fpObj b hb
    exact Heap.lt_size e
  generalize hown : cellsFrom (Hd.objs.size + 1) scope.names [] = own at cok ⊢
  have ownC : ∀ x c, (x, c) ∈ own → scope.names.lookup x = some .cell := fun x c hm => by
    rw [← hown] at hm
    rcases cellsFrom_mem _ _ _ _ _ hm with z | z
    · exact nomatch z
    · exact S.cells _ z rfl
  have two : ∀ x c, (own ++ cl).lookup x = some c → (cl.lookup x = some c ∧ c < s2.heap.objs.size) ∨ ((x, c) ∈ own ∧ h3.IsCell c none ∧ Hd.objs.size < c) := fun x c e => by
    rw [List.lookup_append] at e
    cases ho : own.lookup x with
    | none =>
      rw [ho, Option.none_or] at e
      obtain ⟨v, q⟩ := I2.cell x c (cl1 x c e)
      exact .inl ⟨e, q.lt⟩
    | some c' =>
      rw [ho, Option.some_or] at e
      cases e
      have hm := mem_of_lookup ho
      exact .inr ⟨hm, (cok.empty x c hm).1, (cok.empty x c hm).2⟩
  have cellNe : ∀ x c, (own ++ cl).lookup x = some c → c ≠ s2.heap.objs.size ∧ ∀ b ∈ fp, c ≠ b := fun x c e => by
    rcases two x c e with ⟨e, lt⟩ | ⟨_, _, lt⟩
    · exact ⟨Nat.ne_of_lt lt, fun b hb => (f2 b hb).2.2.2.2.1 x c (cl1 x c e)⟩
    · rw [hCs] at lt
      exact ⟨Nat.ne_of_gt (Nat.lt_trans (Nat.lt_succ_self _) lt), fun b hb => Nat.ne_of_gt (Nat.lt_trans (fpLt b hb) (Nat.lt_trans (Nat.lt_succ_self _) lt))⟩
  have fresh : ∀ a, s2.heap.objs.size ≤ a → s2.heap.get? a = none := fun a ha => by
    cases e : s2.heap.get? a with
    | none => rfl
    | some o' => exact absurd (Heap.lt_size e) (Nat.not_lt.mpr ha)
  -- the context
  have okY : (cxC X s2 H2 scope (own ++ cl) Hd.objs.size N fp).Ok := by
    refine ⟨I2.ok.mod, S.kind, I2.ok.glob, I2.ok.blt, ?_, ?_, ?_, ?_, fun hcc => I2.ok.hd hcc, I2.ok.frames, .inl rfl, fun b hb => ⟨(below b (fpLt b hb)).1, fun x c e => (cellNe x c e).2 b hb⟩,
      I2.bs, Nat.le_trans I2.ok.bsz I2.sz, fun b o e hb => ?_, fun b hb z => (List.mem_cons.mp (I2.stkSub b z)).elim (f2 b hb).2.1 (f2 b hb).2.2.1, I2.stack, I2.stkFree⟩
    · show s2.heap.objs.size ≤ Hd.objs.size
      rw [hCs]; exact Nat.le_succ _
    · intro x y c e1 e2
      rcases two x c e1 with ⟨e1, l1⟩ | ⟨m1, _, l1⟩ <;> rcases two y c e2 with ⟨e2, l2⟩ | ⟨m2, _, l2⟩
      · exact I2.ok.inj x y c (cl1 x c e1) (cl1 y c e2)
      · rw [hCs] at l2; exact absurd (Nat.lt_trans l1 (Nat.lt_trans (Nat.lt_succ_self _) l2)) (Nat.lt_irrefl _)
      · rw [hCs] at l1; exact absurd (Nat.lt_trans l2 (Nat.lt_trans (Nat.lt_succ_self _) l1)) (Nat.lt_irrefl _)
      · exact name_of_addr cok.apart m1 m2
    · intro x hx
      show ∃ c, (own ++ cl).lookup x = some c
      rw [List.lookup_append]
      cases ho : own.lookup x with
      | some c => exact ⟨c, rfl⟩
      | none =>
        rw [Option.none_or]
        rcases relabel_cell hx with z | z
        · exact cl2 x z
        · have := PySem.W.cellsFrom_some scope.names (Hd.objs.size + 1) [] (.inl (S.cells _ z rfl))
          rw [hown, ho] at this
          cases this
    · intro x c hf e
      have hf' : scope.names.lookup x = some .cell := by simpa [cxC] using hf
      have := PySem.W.cellsFrom_some scope.names (Hd.objs.size + 1) [] (.inl hf')
      rw [hown] at this
      obtain ⟨c', ho⟩ := Option.isSome_iff_exists.mp this
      have e' : (own ++ cl).lookup x = some c := e
      rw [List.lookup_append, ho, Option.some_or] at e'
      cases e'
      have := (cok.empty x c (mem_of_lookup ho)).2
      show s2.heap.objs.size ≤ c
      rw [hCs] at this
      omega
    · rcases (f2 b hb).2.2.2.1 with z | z
      · exact I2.ok.noex b o e z
      · exact absurd (Nat.lt_of_lt_of_le (Heap.lt_size e) (Nat.le_trans I2.ok.bsz z)) (Nat.lt_irrefl _)
  have IY : Inv (cxC X s2 H2 scope (own ++ cl) Hd.objs.size N fp) [] (seen σ src) H2 { s2 with heap := h3 } := by
    refine ⟨okY, rfl, I2.bare, Un.kept old, ⟨_, hns, fun i x v e1 e2 _ => ?_⟩, fun x c e => ?_, I2.hok.fresh (by show s2.heap.objs.size ≤ Hd.objs.size; rw [hCs]; exact Nat.le_succ _), ?_, fun p hp => (nomatch hp), I2.hok.kept old, ?_⟩
    · unfold seen at e2
      rw [List.getElem?_map] at e2
      cases hsr : src[i]? with
      | none => rw [hsr] at e2; cases e2
      | some oj =>
        rw [hsr] at e2
        cases oj with
        | none => cases e2
        | some j =>
          obtain ⟨hN, hfr, hlk⟩ := S.src i j x hsr e1
          have e3 : σ[j]? = some (some v) := by
            have : (σ[j]?).join = some v := Option.some.inj e2
            cases hj : σ[j]? with
            | none => rw [hj] at this; cases this
            | some o => rw [hj] at this; cases this; rfl
          have hk := S.has x hfr
          have vis : Vis X.env.scope x := by
            rcases hk with z | z
            · exact .inr (.inl z)
            · exact .inr (.inr z)
          obtain ⟨m, hnm, hl⟩ := I2.loc
          obtain ⟨u, r, l⟩ := hl j x v hN e3 vis
          refine ⟨u, r, .inr ⟨lookup_relabel_free hlk, ?_⟩⟩
          rcases l with ⟨l1, _⟩ | ⟨_, c, ec, ic⟩
          · rcases hk with z | z <;> (rw [l1] at z; cases z)
          · obtain ⟨c', ec'⟩ := cl2 x hfr
            have := cl1 x c' ec'
            rw [ec] at this
            cases this
            obtain ⟨o, ho, hd⟩ := ic
            have hno : own.lookup x = none := by
              cases ho : own.lookup x with
              | none => rfl
              | some c2 =>
                have := ownC x c2 (mem_of_lookup ho)
                rw [hlk] at this
                cases this
            exact ⟨c, by show (own ++ cl).lookup x = some c; rw [List.lookup_append, hno, Option.none_or]; exact ec', o, old _ _ ho, hd⟩
    · rcases two x c e with ⟨e, _⟩ | ⟨_, q, _⟩
      · obtain ⟨v, o, ho, hd⟩ := I2.cell x c (cl1 x c e)
        exact ⟨v, o, old _ _ ho, hd⟩
      · exact ⟨none, q⟩
    · intro x c e
      rcases two x c e with ⟨e, _⟩ | ⟨_, _, lt⟩
      · exact I2.freeC x c (cl1 x c e)
      · exact I2.hok.fresh (by rw [hCs] at lt; omega)
    · show (seen σ src).length = N.length
      unfold seen
      rw [List.length_map, S.len]
  have dFs : s2.heap.objs.size ∉ frs X.stack := fun z => by
    obtain ⟨_, o, ho, _⟩ := I2.stack.mem z
    exact absurd (Heap.lt_size ho) (Nat.lt_irrefl _)
  have cFs : Hd.objs.size ∉ frs X.stack := fun z => by
    obtain ⟨_, o, ho, _⟩ := I2.stack.mem z
    have z2 := Heap.lt_size ho
    rw [hCs] at z2
    exact absurd z2 (Nat.not_lt.mpr (Nat.le_succ _))
  have stat : ∀ {H' : Hp} {pn : List (Addr × Obj)}, (∀ b ∈ fp, H' b = none) → (∀ p ∈ pn, p.1 = s2.heap.objs.size) → ∀ b ∈ fp, FpOk (cxC X s2 H2 scope (own ++ cl) Hd.objs.size N fp) pn H' b := fun hn hp b hb =>
    ⟨hn b hb, (below b (fpLt b hb)).1, okY.exfs b hb, .inl hb, fun x c e => (cellNe x c e).2 b hb, fun p q z => (below b (fpLt b hb)).2 (z ▸ hp p q)⟩
  have loop : ∀ sA : Shared, sA = { s2 with heap := h3 } →
      codeAny (model X.prog X.w) X.A (.compLoop (.ListComp elt [⟨tg, iter, ifs, 0⟩] scope pos) 0 (.ref it) (.ref s2.heap.objs.size) (compEnvC scope (own ++ cl) Hd.objs.size X.env))
        (compPost (model X.prog X.w) X.A X.xe use Post (.ref s2.heap.objs.size) Hd.objs.size) sA := by
    rintro sA rfl
    refine compLoop_any (fun n s' => ∃ (i : Nat) (ys : List V) (its : List Value) (k : Nat) (σ3 : St) (H3 : Hp), Inv (cxC X s2 H2 scope (own ++ cl) Hd.objs.size N fp) [] σ3 H3 s' ∧ Weak (seen σ src) σ3 ∧ tn i s'.heap ∧ (∀ b ∈ fp, H3 b = none) ∧ W i n ys H3 ∧
        s'.heap.get? s2.heap.objs.size = some { cls := .type "list", data := .seq its.toArray k } ∧ Vals ys its ∧ H3 s2.heap.objs.size = none) ?_ m0
      ⟨0, [], [], 0, _, H2, IY, Weak.refl _, T.keep 0 _ _ st2 (fun b hb o e => old b o e), fun b hb => (f2 b hb).1, w0, hacc, .nil, I2.fresh⟩
    rintro n s3 ⟨i, ys, its, k, σ3, H3, I3, wk, st3, fr3, w3, hD, rv, nD⟩
    have I4 : Inv (cxC X s2 H2 scope (own ++ cl) Hd.objs.size N fp) [] (seen σ src) H3 s3 := I3.weak wk.1.symm wk.2
    have I5 : Inv (cxC X s2 H2 scope (own ++ cl) Hd.objs.size N fp) [(s2.heap.objs.size, { cls := .type "list", data := .seq its.toArray k })] (seen σ src) H3 s3 := I4.pins_of fun p hp => by
      cases List.mem_singleton.mp hp
      exact ⟨hD, nD, hDC, dFs, fun v z => nomatch z⟩
    have one : ∀ p ∈ [((s2.heap.objs.size, { cls := .type "list", data := .seq its.toArray k }) : Addr × Obj)], p.1 = s2.heap.objs.size := fun p hp => by
      cases List.mem_singleton.mp hp
      rfl
    rcases turn i n ys H3 w3 with ⟨stop, hlen, q⟩ | ⟨go, step⟩
    · refine thn (T.done (cxC X s2 H2 scope (own ++ cl) Hd.objs.size N fp) rfl rfl rfl hc i _ s3 _ H3 _ I5 (stat fr3 one) st3 stop) fun r s4 ⟨hr, I6⟩ => ?_
      subst hr
      have hD4 := (I6.pin _ (List.mem_append_right _ (List.mem_singleton.mpr rfl))).1
      obtain ⟨m, hn4, _⟩ := I6.loc
      refine fin Hd.objs.size s2.heap.objs.size (upd H3 s2.heap.objs.size (.lst ys)) s4 (fun h' hsb' => ?_) (I2.fpOk (by rw [hCs]; exact Nat.le_succ _) (by rw [upd_ne (Ne.symm hDC)]; exact I6.free)) ⟨m, hn4⟩ (q _ nD)
      have kp : ∀ b o, b ≠ Hd.objs.size → s4.heap.get? b = some o → h'.get? b = some o := fun b o hb e => (hsb'.2 b hb).trans e
      have neC : ∀ b o, s2.heap.get? b = some o → b ≠ Hd.objs.size := fun b o e => (below b (Heap.lt_size e)).1
      have un : Un (frs X.stack) fp H2 H3 s2.heap h' := by
        have u0 : Un (frs X.stack) fp H2 H3 s2.heap s4.heap := I6.base
        refine ⟨fun b o e n' hb hx => kp b o (neC b o e) (u0.keep b o e n' hb hx), fun b o e n' hb hx => ?_, u0.free, fun b o e hx => ?_, u0.tups, u0.frzs, u0.tbls⟩
        · obtain ⟨sl, e1⟩ := u0.slot b o e n' hb hx
          exact ⟨sl, kp b _ (neC b o e) e1⟩
        · obtain ⟨o', e1⟩ := u0.there b o e hx
          exact ⟨o', kp b o' (neC b o e) e1⟩
      have nC : H3 Hd.objs.size = none := I6.free
      have hok : HOk X.prog X.w H3 h' := fun a o e => (I6.hok a o e).stay (fun b u hb q' => kp b u (fun z => by
        rcases hb with rfl | hb
        · rw [z, nC] at e; cases e
        · rw [z, nC] at hb; cases hb) q') (fun _ q' => q') fun _ _ q' => q'
      have I7 : Inv X pins σ H3 { s4 with heap := h' } := I2.call' (s' := { s4 with heap := h' }) I6.os un hok I6.bare (fun b hb => ⟨(f2 b hb).2.2.2.1, (f2 b hb).2.1, (f2 b hb).2.2.2.2.1, (f2 b hb).2.2.2.2.2⟩)
      have e0 : X.s₀.heap.get? s2.heap.objs.size = none := by
        cases e : X.s₀.heap.get? s2.heap.objs.size with
        | none => rfl
        | some o => exact absurd (Nat.lt_of_lt_of_le (Heap.lt_size e) I2.sz) (Nat.lt_irrefl _)
      have I8 : Inv X pins σ (upd H3 s2.heap.objs.size (.lst ys)) { s4 with heap := h' } := I7.track nD e0 (fun z => Nat.lt_irrefl _ (z ▸ I2.lt)) (fun x c e z => by
        obtain ⟨v, q'⟩ := I2.cell x c e
        exact Nat.lt_irrefl _ (z ▸ q'.lt)) (fun p hp z => Nat.lt_irrefl _ (z ▸ Heap.lt_size (I2.pin p hp).1)) ⟨hlen, its, k, rv, kp _ _ hDC hD4⟩
      exact I8
    · refine thn (T.item (cxC X s2 H2 scope (own ++ cl) Hd.objs.size N fp) rfl rfl rfl hc i _ s3 _ H3 _ I5 (stat fr3 one) st3 go) fun r s4 ⟨u, hr, h4⟩ => ?_
      subst hr
      refine thn h4 fun _ s5 ⟨x, H5, I6, r5, y5, st5, fr5⟩ => ?_
      have I6' := I6.pinned (stat fr5 one) (T.obj _ _ st5)
      refine thn (hg _ _ _ _ _ _ s5 _ H5 x u _ I6' r5 (step x H5 y5)) fun _ s6 ⟨σ6, H6, I7, wk6, q6⟩ => ?_
      refine thn (hf _ _ _ _ _ _ s6 σ6 H6 _ I7 q6) fun ok s7 ⟨H7, I8, q7⟩ => ?_
      have back : ∀ {σ' : St} {H' : Hp} {s' : Shared}, Inv (cxC X s2 H2 scope (own ++ cl) Hd.objs.size N fp) ([(s2.heap.objs.size, { cls := .type "list", data := .seq its.toArray k })] ++ pinsAt fp s5.heap) σ' H' s' →
          tn (i + 1) s'.heap ∧ (∀ b ∈ fp, H' b = none) ∧ s'.heap.get? s2.heap.objs.size = some { cls := .type "list", data := .seq its.toArray k } ∧ H' s2.heap.objs.size = none := fun {σ' H' s'} J => by
        have jD := J.pin (s2.heap.objs.size, { cls := .type "list", data := .seq its.toArray k }) (by simp)
        refine ⟨T.keep _ _ _ st5 fun b hb o e => (J.pin (b, o) (List.mem_append_right _ (List.mem_append_right _ (mem_pinsAt hb e)))).1, fun b hb => ?_, jD.1, jD.2.1⟩
        obtain ⟨o, e, d⟩ := T.obj _ _ st5 b hb
        exact (J.pin (b, o) (List.mem_append_right _ (List.mem_append_right _ (mem_pinsAt hb e)))).2.1
      cases ok with
      | false =>
        rw [if_neg Bool.false_ne_true] at q7
        rw [if_neg Bool.false_ne_true]
        obtain ⟨m', hm, w'⟩ := q7
        obtain ⟨b1, b2, b3, b4⟩ := back I8
        exact ⟨m', hm, i + 1, ys, its, k, σ6, H7, I8.nopins, wk6, b1, b2, w', b3, rv, b4⟩
      | true =>
        rw [if_pos rfl] at q7
        rw [if_pos rfl]
        refine thn (he _ _ _ _ _ _ s7 σ6 H7 _ I8 q7) fun u2 s8 ⟨y, H8, I9, r9, hlt, m', hm, w'⟩ => ?_
        obtain ⟨b1, b2, b3, b4⟩ := back I9
        have hl := rv.length
        refine call_meets F.slot_list_append ⟨_, b3, rfl⟩ F.entry_list_append (F.args_list_append_2 _ _) (PySem.list_append s2.heap.objs.size its.toArray k u2 (by rw [List.size_toArray]; omega)) ⟨b3, ?_⟩
        have qu := PySem.IsL.update b3 (·.push u2)
        rw [show its.toArray.push u2 = (its ++ [u2]).toArray by simp] at qu
        refine ⟨m', hm, i + 1, ys ++ [y], its ++ [u2], _, σ6, H8, ?_, wk6, ?_, b2, w', qu, rv.append (.cons r9 .nil), b4⟩
        · exact I9.nopins.turned (it := s2.heap.objs.size) (fun b o hb e => (Heap.get?_update_other s8.heap (Obj.mapSeq _) (Ne.symm hb)).trans e) b4 hDC (.inr (Nat.le_refl _)) (fun x c e z => (cellNe x c e).1 z) (fun p hp => nomatch hp)
        · exact T.keep _ _ _ b1 fun b hb o e => (Heap.get?_update_other s8.heap (Obj.mapSeq _) ((below b (fpLt b hb)).2.symm)).trans e
  exact codeAny_compStart_list (loop _ rfl) (T.self _ 0 _ _ _ (T.keep 0 _ _ st2 (fun b hb o e => old b o e)) (loop _ rfl))
theorem pe_comp {X : Cx} {elt tg iter : Expr} {ifs : List Expr} {scope : Scope} {pos : Pos} {N : List Str} {src : List (Option Nat)} {wi : TI} {g : TG} {tc : TT} {te : TE} (hc : X.calm = true) (S : CompScope X scope N src) (hi : PI X tg iter wi)
    (hg : ∀ s H cl C fp, PG (cxC X s H scope cl C N fp) tg g) (hf : ∀ s H cl C fp, PIf (cxC X s H scope cl C N fp) ifs tc) (he : ∀ s H cl C fp, PE (cxC X s H scope cl C N fp) elt te)
    (hs : ∀ x, foldedSetIterable iter X.env x = pure x := by intro _; rfl) : PE X (.ListComp elt [⟨tg, iter, ifs, 0⟩] scope pos) (tComp src wi g tc te) := by
  intro pins s σ H Q I h
  rw [eval_ListComp]
  refine comp_core (use := none) hc S hi hg hf he hs I h fun C a H1 s' key _ ⟨m, hn⟩ q => ⟨m, hn, fun h' sb => ⟨.ref a, H1, key h' sb, rfl, q⟩⟩
/-! ### a scope that is written -/
def compOkB (osc sc : Scope) (oN N : List Str) (src : List (Option Nat)) : Bool :=
  sc.names.all (fun y => decide (y.2 ≠ .cell) || decide (sc.names.lookup y.1 = some .cell)) && sc.names.all (fun y => decide (y.2 ≠ .local) || decide (sc.names.lookup y.1 = some .local)) &&
  sc.names.all (fun y => decide (y.2 ≠ .free) || decide (osc.names.lookup y.1 = some .cell) || decide (osc.names.lookup y.1 = some .free)) && decide (src.length = N.length) &&
  (List.range src.length).all (fun i => match src[i]?, N[i]? with | some (some j), some x => decide (oN[j]? = some x) && decide ((x, NameKind.free) ∈ sc.names) && decide (sc.names.lookup x = some .free) | _, _ => true)
theorem comp_scope {X : Cx} {scope : Scope} {N : List Str} {src : List (Option Nat)} (osc : Scope) (oN : List Str) (e1 : X.env.scope = osc) (e2 : X.N = oN) (c : compOkB osc scope oN N src = true) (k : scope.kind = .function) : CompScope X scope N src := by
  unfold compOkB at c
  simp only [Bool.and_eq_true, List.all_eq_true, decide_eq_true_eq, Bool.or_eq_true] at c
  obtain ⟨⟨⟨⟨c1, c2⟩, c3⟩, c4⟩, c5⟩ := c
  refine ⟨k, fun y hy e => (c1 y hy).resolve_left fun z => z e, fun y hy e => ?_, fun x hx => ?_, c4, fun i j x h1 h2 => ?_⟩
  · rcases c2 y hy with z | z
    · exact absurd e z
    · exact z
  · show X.env.scope.names.lookup x = _ ∨ X.env.scope.names.lookup x = _
    rw [e1]
    rcases c3 (x, .free) hx with (z | z) | z
    · exact absurd rfl z
    · exact .inl z
    · exact .inr z
  · have hi : i < src.length := (List.getElem?_eq_some_iff.mp h1).1
    have z := c5 i (List.mem_range.mpr hi)
    rw [h1, h2] at z
    simp only [Bool.and_eq_true, decide_eq_true_eq] at z
    rw [e2]
    exact ⟨z.1.1, z.1.2, z.2⟩
theorem yes_if {σ : St} {H : Hp} {A B : Hp → Prop} (h : A H) : tYes σ H (fun b H5 => if b = true then A H5 else B H5) := by
  show if true = true then A H else B H
  rw [if_pos rfl]
  exact h
end L2
/-! EvMore: data read off the abstract heap and compared, any, all; promises of defs in bundles. Behind EvComp. -/
namespace L2
open PySem PySem.Spec PyProof.Rows
/-! ### data -/
mutual
def IsD (K : PySem.W.Frag) (H : Hp) : PyData → V → Prop
  | .none, v => v = .non
  | .bool b, v => v = .bl b
  | .int i, v => v = .int i
  | .str x, v => v = .str x
  | .list ds, v => ∃ a xs, v = .ref a ∧ SqL K H a xs ∧ IsDs K H ds xs
  | .tuple ds, v => ∃ a xs, v = .ref a ∧ SqT K H a xs ∧ IsDs K H ds xs
  | .dict _, _ => False
def IsDs (K : PySem.W.Frag) (H : Hp) : List PyData → List V → Prop
  | [], xs => xs = []
  | d :: ds, xs => ∃ x r, xs = x :: r ∧ IsD K H d x ∧ IsDs K H ds r
end
theorem isTup_reads {h : Heap} {a : Addr} {its : Array Value} (t : IsTup h a its) : ∃ o n, h.get? a = some o ∧ o.cls = .type "tuple" ∧ o.data = .seq its n := by
  obtain ⟨o, ho, hc, n, hd⟩ := t
  exact ⟨o, n, ho, hc, hd⟩
section
variable {X : Cx} {pins : List (Addr × Obj)} {σ : St} {H : Hp} {s : Shared}
mutual
theorem IsD.reads (I : Inv X pins σ H s) : ∀ (d : PyData) {v : V} {u : Value}, IsD X.K H d v → RelV v u → ∃ as, Reads s.heap u d as
  | .none, v, u, h, r => by
    simp only [IsD] at h; subst h
    cases (show u = .none from r); exact ⟨_, .none⟩
  | .bool b, v, u, h, r => by
    simp only [IsD] at h; subst h
    cases (show u = .bool b from r); exact ⟨_, .bool b⟩
  | .int i, v, u, h, r => by
    simp only [IsD] at h; subst h
    obtain ⟨t, rfl⟩ := r; exact ⟨_, .int i t⟩
  | .str x, v, u, h, r => by
    simp only [IsD] at h; subst h
    obtain ⟨t, rfl⟩ := r; exact ⟨_, .str x t⟩
  | .list ds, v, u, h, r => by
    simp only [IsD] at h
    obtain ⟨a, xs, rfl, hs, hd⟩ := h
    cases (show u = .ref a from r)
    obtain ⟨its, rv, p, _⟩ := I.list hs
    obtain ⟨o, ho, hc, n, hdd⟩ := p.isList
    obtain ⟨as, ra⟩ := IsDs.reads I ds hd rv
    exact ⟨_, .list ho hc hdd (by simpa using ra)⟩
  | .tuple ds, v, u, h, r => by
    simp only [IsD] at h
    obtain ⟨a, xs, rfl, hs, hd⟩ := h
    cases (show u = .ref a from r)
    obtain ⟨its, rv, p, _⟩ := I.tuple hs
    obtain ⟨o, n, ho, hc, hdd⟩ := isTup_reads p
    obtain ⟨as, ra⟩ := IsDs.reads I ds hd rv
    exact ⟨_, .tuple ho hc hdd (by simpa using ra)⟩
  | .dict _, v, u, h, r => by
    simp only [IsD] at h
theorem IsDs.reads (I : Inv X pins σ H s) : ∀ (ds : List PyData) {vs : List V} {us : List Value}, IsDs X.K H ds vs → Vals vs us → ∃ as, ReadsAll s.heap us ds as
  | [], vs, us, h, r => by
    simp only [IsDs] at h; subst h
    cases r; exact ⟨_, .nil⟩
  | d :: ds, vs, us, h, r => by
    simp only [IsDs] at h
    obtain ⟨x, rr, rfl, hx, hr⟩ := h
    cases r with
    | cons r1 r2 =>
      obtain ⟨as, ra⟩ := IsD.reads I d hx r1
      obtain ⟨bs, rb⟩ := IsDs.reads I ds hr r2
      exact ⟨_, .cons ra rb⟩
end
end
mutual
theorem IsD.imp {K : PySem.W.Frag} {H H' : Hp} (sl : ∀ a xs, SqL K H a xs → SqL K H' a xs) (st : ∀ a xs, SqT K H a xs → SqT K H' a xs) : ∀ (d : PyData) {v : V}, IsD K H d v → IsD K H' d v
  | .none, v, h => by simp only [IsD] at h ⊢; exact h
  | .bool b, v, h => by simp only [IsD] at h ⊢; exact h
  | .int i, v, h => by simp only [IsD] at h ⊢; exact h
  | .str x, v, h => by simp only [IsD] at h ⊢; exact h
  | .list ds, v, h => by
    simp only [IsD] at h ⊢
    obtain ⟨a, xs, e, hs, hd⟩ := h
    exact ⟨a, xs, e, sl a xs hs, IsDs.imp sl st ds hd⟩
  | .tuple ds, v, h => by
    simp only [IsD] at h ⊢
    obtain ⟨a, xs, e, hs, hd⟩ := h
    exact ⟨a, xs, e, st a xs hs, IsDs.imp sl st ds hd⟩
  | .dict _, v, h => by simp only [IsD] at h
theorem IsDs.imp {K : PySem.W.Frag} {H H' : Hp} (sl : ∀ a xs, SqL K H a xs → SqL K H' a xs) (st : ∀ a xs, SqT K H a xs → SqT K H' a xs) : ∀ (ds : List PyData) {vs : List V}, IsDs K H ds vs → IsDs K H' ds vs
  | [], vs, h => by simp only [IsDs] at h ⊢; exact h
  | d :: ds, vs, h => by
    simp only [IsDs] at h ⊢
    obtain ⟨x, r, e, hx, hr⟩ := h
    exact ⟨x, r, e, IsD.imp sl st d hx, IsDs.imp sl st ds hr⟩
end
/-! ### == and != of data -/
def rEqD (K : PySem.W.Frag) (neg : Bool) : R2 := fun x y H Q => ∃ da db, IsD K H da x ∧ IsD K H db y ∧ PySem.SeqAt.shaped da = true ∧ PySem.SeqAt.shaped db = true ∧ Q (.bl (if neg then !PyData.eqv da db else PyData.eqv da db)) H
theorem op_eqD {X : Cx} (hu : X.A.units + 64 < cLine) : OpR X (compareOp .Eq) (rEqD X.K false) := by
  intro pins s σ H x y v u Q I rx ry h
  obtain ⟨da, db, ha, hb, sa, sb, q⟩ := h
  obtain ⟨as, ra⟩ := IsD.reads I da ha rx
  obtain ⟨bs, rb⟩ := IsD.reads I db hb ry
  exact PySem.SeqAt.compareEq_shaped ra rb sa sb hu ⟨.bl _, H, I, rfl, q⟩
/-! ### any, all -/
theorem bools_of : ∀ {bs : List Bool} {us : List Value}, Vals (bs.map V.bl) us → LSm.BoolsAre us bs
  | [], _, .nil => .nil
  | b :: bs, _, .cons h t => by
    cases (show _ = Value.bool b from h)
    exact .cons b (bools_of t)
theorem call_any {X : Cx} (hc : X.calm = true) : CallR X (.builtin "any") (fun xs H Q => ∃ (a : Addr) (bs : List Bool), xs = [.ref a] ∧ SqL X.K H a (bs.map V.bl) ∧ Q (.bl (bs.any id)) H) := by
  intro pins s σ H xs us Q I r h
  obtain ⟨a, bs, rfl, hS, q⟩ := h
  obtain ⟨u, rfl, ru⟩ := r.one
  cases (show u = Value.ref a from ru)
  obtain ⟨its, rv, p, _⟩ := I.list hS
  have hl := p.isList
  have hb := bools_of rv
  have hlt : a < s.heap.objs.size := by obtain ⟨_, e, _⟩ := hl; exact Heap.lt_size e
  refine call_any_walk (wpAny_pyIter_list hl ?_)
  refine ⟨s.heap.objs.size, [s.heap.objs.size, a], [s.heap.objs.size], its.toArray.size, _, _, fun i => (bs[i]?).getD false, rfl, Walks.list (A := X.A.in1) (I.ok.hd hc) _ a (Nat.ne_of_lt hlt) its.toArray,
    ⟨⟨_, Heap.get?_push_size _ rfl, rfl, rfl⟩, hl.push _⟩, fun i v s' Q' E' hP hQ => ?_, fun h' tk hk => ?_⟩
  · obtain ⟨b, e, rfl⟩ := hb.get i v (by simpa using hP)
    simp only [e, Option.getD_some] at hQ
    exact wpAny_truthy_bool hQ
  · have e : ((List.range its.toArray.size).any fun i => (bs[i]?).getD false) = bs.any id := by
      rw [List.size_toArray, hb.length]; exact LSm.range_any bs
    rw [e]
    exact ⟨.bl _, H, I.kept (LSm.kept_iter hk), rfl, q⟩
/-! ### a def with its promise, in one -/
def Pm (P : Program) (w : World) (K : PySem.W.Frag) (mg : Str → Option Value) (base : Heap) (CX : CXT) (k : Nat) (x : Str) (ps : List Str) (sp : Sp) : Prop :=
  ∃ (f : Addr) (fd : FuncData), mg x = some (.ref f) ∧ PySem.W.keepIn K (.ref f) = true ∧ Binds K fd ps [] ∧ FnOk P w K mg base CX k f fd ps sp
theorem pe_callP {X : Cx} {CX : CXT} {k : Nat} {x : Str} {ps : List Str} {sp : Sp} {E : XK} {p pos : Pos} {e : Expr} {es : List Expr} {t : TA} (h : Pm X.prog X.w X.K X.mg X.base CX k x ps sp) (hr : Room k X.A) (hg : Gl X x) (hx : Passes CX X E) (ha : PA X (e :: es) t)
    (hdb : (x == ("__debug__" : Str)) = false := by decide) (he : starEach (e :: es) X.env = (false, eval e X.env) :: starEach es X.env := by rfl) (hpl : (backTo pos (starEach es X.env)).any (·.1) = false := by rfl) :
    PE X (.Call (.Name x p) (e :: es) [] pos) (tCall sp [] E t) := by
  obtain ⟨f, fd, hm, hk, hb, F⟩ := h
  exact pe_call F hr hg hm hk hb .nil hx ha hdb he hpl
end L2
/-! EvQ: made by mkq.py. The rules over structures. -/
namespace L2
open PySem PySem.Spec PyProof.Rows
set_option autoImplicit true
set_option relaxedAutoImplicit true
structure QE (X : Cx) (e : Expr) (t : TE) : Prop where
  h : PE X e t
structure QT (X : Cx) (e : Expr) (t : TT) : Prop where
  h : PT X e t
structure QW (X : Cx) (e : Expr) (t : TT) : Prop where
  h : PW X e t
structure QA (X : Cx) (e : List Expr) (t : TA) : Prop where
  h : PA X e t
structure QS (X : Cx) (e : Stmt) (t : TS) : Prop where
  h : PS X e t
structure QSs (X : Cx) (e : List Stmt) (t : TS) : Prop where
  h : PSs X e t
structure QGs (X : Cx) (e : List Expr) (t : TGs) : Prop where
  h : PGs X e t
structure QG (X : Cx) (e : Expr) (t : TG) : Prop where
  h : PG X e t
structure QF (X : Cx) (e : List Expr) (t : TF) : Prop where
  h : PF X e t
structure QIf (X : Cx) (e : List Expr) (t : TT) : Prop where
  h : PIf X e t
structure QO (X : Cx) (e : Option Expr) (t : TO) : Prop where
  h : PO X e t
structure QI (X : Cx) (tg iter : Expr) (t : TI) : Prop where
  h : PI X tg iter t
theorem QW.pt {X : Cx} {e : Expr} {t : TT} (k : QW X e t) : QT X e t := ⟨k.h.pt⟩
theorem QSs.nox {X : Cx} {e : List Stmt} {t : TS} (k : QSs X.nox e t) : QSs X e t := ⟨k.h.nox⟩
theorem qe_int {i j pos} : QE X (.Constant (.int i) j pos) (tC (.int i)) := ⟨pe_int ⟩
theorem qe_bl {b j pos} : QE X (.Constant (.bool b) j pos) (tC (.bl b)) := ⟨pe_bl ⟩
theorem qe_non {j pos} : QE X (.Constant .none j pos) (tC .non) := ⟨pe_non ⟩
theorem qe_str {x j pos} : QE X (.Constant (.str x) j pos) (tC (.str x)) := ⟨pe_str ⟩
theorem qe_glob {x : Str} {v : V} {u : Value} {pos : Pos} (hg : Gl X x) (hm : X.mg x = some u) (r : RelV v u) (hd : (x == ("__debug__" : Str)) = false := by decide) : QE X (.Name x pos) (tC v) := ⟨pe_glob (hg) (hm) (r) (hd)⟩
theorem qe_bltn {x : Str} {v : V} {u : Value} {pos : Pos} (hg : Gl X x) (hm : X.mg x = none) (hv : bootBuiltins x = some u) (r : RelV v u) (hn : x ≠ "__name__" := by decide) (hd : (x == ("__debug__" : Str)) = false := by decide) : QE X (.Name x pos) (tC v) := ⟨pe_bltn (hg) (hm) (hv) (r) (hn) (hd)⟩
theorem qt_val {e : Expr} {t : TE} (h : QE X e t) (he : ∀ whole, isTrue e X.env whole = (do let v ← whole; standAt e.pos; holding [v] (truthy v)) := by intro _; rfl) : QT X e (tB t) := ⟨pt_val h.h (he)⟩
theorem qw_and1 (ha : QT X a tA) : QW X (.BoolOp .And [a] pos) tA := ⟨pw_and1 ha.h⟩
theorem qw_or1 (ha : QT X a tA) : QW X (.BoolOp .Or [a] pos) tA := ⟨pw_or1 ha.h⟩
theorem qw_and (ha : QT X a tA) (hb : QW X (.BoolOp .And (b :: restq) pos) tB') : QW X (.BoolOp .And (a :: b :: restq) pos) (tAnd tA tB') := ⟨pw_and ha.h hb.h⟩
theorem qw_or (ha : QT X a tA) (hb : QW X (.BoolOp .Or (b :: restq) pos) tB') : QW X (.BoolOp .Or (a :: b :: restq) pos) (tOr tA tB') := ⟨pw_or ha.h hb.h⟩
theorem qt_not (ha : QT X a tA) : QT X (.UnaryOp .Not a pos) (tNot tA) := ⟨pt_not ha.h⟩
theorem qe_one {op} {t : TE} (h : QE X a t) : QE X (.BoolOp op [a] pos) t := ⟨pe_one h.h⟩
theorem qe_and (ha : QE X a ta) (hb : QE X (.BoolOp .And (b :: restq) pos) tb) : QE X (.BoolOp .And (a :: b :: restq) pos) (tAndV ta tb) := ⟨pe_and ha.h hb.h⟩
theorem qe_or (ha : QE X a ta) (hb : QE X (.BoolOp .Or (b :: restq) pos) tb) : QE X (.BoolOp .Or (a :: b :: restq) pos) (tOrV ta tb) := ⟨pe_or ha.h hb.h⟩
theorem qe_not (ha : QE X a ta) : QE X (.UnaryOp .Not a pos) (tNotV ta) := ⟨pe_not ha.h⟩
theorem qss_nil  : QSs X [] tNext := ⟨pss_nil ⟩
theorem qss_cons (h1 : QS X stq t) (h2 : QSs X restq u) : QSs X (stq :: restq) (tSeq t u) := ⟨pss_cons h1.h h2.h⟩
theorem qss_one (h1 : QS X stq t) : QSs X [stq] t := ⟨pss_one h1.h⟩
theorem qs_expr (he : QE X e te) (hs : swapsWith e none pos.line X.env = pure false := by rfl) : QS X (.Expr e pos) (tDrop te) := ⟨ps_expr he.h (hs)⟩
theorem qs_ret (he : QE X e te) : QS X (.Return (some e) pos) (tRet te) := ⟨ps_ret he.h⟩
theorem qs_if {c : Expr} {a b : List Stmt} {tc : TT} (hc : QT X c tc) (ha : QSs X a t) (hb : QSs X b u) : QS X (.If c a b pos) (tIfS tc t u) := ⟨ps_if hc.h ha.h hb.h⟩
theorem qg_name {i : Nat} {x : Str} (hN : X.N.Nodup) (hiq : X.N[i]? = some x) (hx : Loc X.env.scope x) (hf : X.fn x = true ∨ X.env.scope.names.lookup x = some .local := by first | exact .inl rfl | exact .inr rfl | assumption) : QG X (.Name x pos) (gName i) := ⟨pg_name (hN) (hiq) (hx) (hf)⟩
theorem qgs_nil  : QGs X [] gNil := ⟨pgs_nil ⟩
theorem qgs_cons {e : Expr} {es : List Expr} {t : TG} {u : TGs} (h1 : QG X e t) (h2 : QGs X es u) (hs : (assignEach (e :: es) X.env).map (·.2) = assign e X.env :: (assignEach es X.env).map (·.2) := by rfl) : QGs X (e :: es) (gCons t u) := ⟨pgs_cons h1.h h2.h (hs)⟩
theorem qg_tup {es : List Expr} {k : Nat} {t : TGs} {n : Nat} (hc : X.calm = true) (h : QGs X es t) (hn : (assignEach es X.env).length = n := by rfl) (hst : (assignEach es X.env).findIdx? (·.1) = none := by rfl) : QG X (.Tuple es k pos) (gTup X.K n t) := ⟨pg_tup (hc) h.h (hn) (hst)⟩
theorem qg_sub {o i : Expr} {to ti : TE} {t : TSet} (ho : QE X o to) (hiq : QE X i ti) (hs : PSet X t) (ha : ∀ v, assign (.Subscript o i pos) X.env v = (do
      let ov ← holding [v] (eval o X.env)
      let iv ← holding [v, ov] (eval i X.env)
      standAt pos
      holding [v, ov, iv] (setItem ov iv v)
      release [v, ov, iv] []) := by intro _; rfl) : QG X (.Subscript o i pos) (gSub to ti t) := ⟨pg_sub ho.h hiq.h (hs) (ha)⟩
theorem qs_asg {tg e : Expr} {te : TE} {g : TG} (he : QE X e te) (hg : QG X tg g) (hs : swapsWithSole [tg] e pos.line X.env = pure false := by rfl) (hw : swappedStores [tg] e X.env = pure none := by rfl) (h1 : (assignEach [tg] X.env).map (·.2) = [assign tg X.env] := by rfl) : QS X (.Assign [tg] e pos) (tAsg te g) := ⟨ps_asg he.h hg.h (hs) (hw) (h1)⟩
theorem qs_set {i : Nat} {x : Str} {e : Expr} {te : TE} {pos' : Pos} (hN : X.N.Nodup) (hiq : X.N[i]? = some x) (hx : Loc X.env.scope x) (he : QE X e te) (hs : swapsWith e (some (.Name x pos')) pos.line X.env = pure false := by rfl) (hf : X.fn x = true ∨ X.env.scope.names.lookup x = some .local := by first | exact .inl rfl | exact .inr rfl | assumption) : QS X (.Assign [.Name x pos'] e pos) (tAsg te (gName i)) := ⟨ps_set (hN) (hiq) (hx) he.h (hs) (hf)⟩
theorem qs_aug {i : Nat} {x : Str} {e : Expr} {te : TE} {op : Operator} {ti : TIp} {pos' : Pos} (hN : X.N.Nodup) (hiq : X.N[i]? = some x) (hx : Loc X.env.scope x) (he : QE X e te) (ho : PIp X op ti) (hf : X.fn x = true ∨ X.env.scope.names.lookup x = some .local := by first | exact .inl rfl | exact .inr rfl | assumption) : QS X (.AugAssign (.Name x pos') op e pos) (tAug i te ti) := ⟨ps_aug (hN) (hiq) (hx) he.h (ho) (hf)⟩
theorem qs_while {c : Expr} {body : List Stmt} {tc : TT} {tb : TS} (hp : PassesOwn (model X.prog X.w) X.A X.env X.xe) (hc : QT X c tc) (hb : QSs X body tb) : QS X (.While c body [] pos) (tWhile tc tb) := ⟨ps_while (hp) hc.h hb.h⟩
theorem qi_list {l : Expr} {tl : TE} (hl : QE X l tl) : QI X tg l (iList X.K tl) := ⟨pi_list hl.h⟩
theorem qi_range1 {a : Expr} {ta : TA} {p pos : Pos} (hg : Gl X "range") (hm : X.mg "range" = none) (ha : QA X [a] ta) (hs : starEach [a] X.env = [(false, eval a X.env)] := by rfl) : QI X tg (.Call (.Name "range" p) [a] [] pos) (iRng1 ta) := ⟨pi_range1 (hg) (hm) ha.h (hs)⟩
theorem qs_for {iter : Expr} {body : List Stmt} {wi : TI} {g : TG} {tb : TS} {pos : Pos} (hp : PassesOwn (model X.prog X.w) X.A X.env X.xe) (hc : X.calm = true) (hiq : QI X tg iter wi) (hg : QG X tg g) (hb : QSs X body tb) (hs : ∀ x, foldedSetIterable iter X.env x = pure x := by intro _; rfl) : QS X (.For tg iter body [] pos) (tFor wi g tb) := ⟨ps_for (hp) (hc) hiq.h hg.h hb.h (hs)⟩
theorem qe_op {op : Operator} {r : R2} (ho : OpR X (binaryOp op) r) (ha : QE X a ta) (hb : QE X b tb) : QE X (.BinOp a op b pos) (tOp r ta tb) := ⟨pe_op (ho) ha.h hb.h⟩
theorem qe_un {op : UnaryOp} {r : V → Hp → VK → Prop} (ho : UnR X (unaryOp op) r) (ha : QE X a ta) : QE X (.UnaryOp op a pos) (tUn r ta) := ⟨pe_un (ho) ha.h⟩
theorem qe_cmpR {op : CmpOp} {r : R2} (ho : OpR X (compareOp op) r) (ha : QE X a ta) (hb : QE X b tb) (hm : behindInMarks op b = false) : QE X (.Compare a [op] [b] pos) (tOp r ta tb) := ⟨pe_cmpR (ho) ha.h hb.h (hm)⟩
theorem qt_cmpR {op : CmpOp} {r : R2} (ho : OpR X (compareOp op) r) (ha : QE X a ta) (hb : QE X b tb) (hm : behindInMarks op b = false) : QT X (.Compare a [op] [b] pos) (tTest (tOp r ta tb)) := ⟨pt_cmpR (ho) ha.h hb.h (hm)⟩
theorem qt_chain {op op' : CmpOp} {r r' : R2} (ho : OpR X (compareOp op) r) (ho' : OpR X (compareOp op') r') (ha : QE X a ta) (hb : QE X b tb) (hc : QE X c tc) (hm : lastMarks [op, op'] [b, c] = false := by with_unfolding_all rfl) : QT X (.Compare a [op, op'] [b, c] pos) (tTest (tChain r r' ta tb tc)) := ⟨pt_chain (ho) (ho') ha.h hb.h hc.h (hm)⟩
theorem qa_nil  : QA X [] tNil := ⟨pa_nil ⟩
theorem qe_tup {x1} (h : QA X es t) : QE X (.Tuple es x1 pos) (tTup t) := ⟨pe_tup h.h⟩
theorem qe_lst (h : QA X es t) : QE X (.List es pos) (tLst t) := ⟨pe_lst h.h⟩
theorem qe_call (F : FnOk X.prog X.w X.K X.mg X.base CX k f fd ps sp) (hr : Room k X.A) (hg : Gl X x) (hm : X.mg x = some (.ref f)) (hk : PySem.W.keepIn X.K (.ref f) = true) (hb : Binds X.K fd ps ds) (hd : Vals dvs ds) (hx : Passes CX X E) (ha : QA X (e :: es) t) (hdb : (x == ("__debug__" : Str)) = false := by decide) (he : starEach (e :: es) X.env = (false, eval e X.env) :: starEach es X.env := by rfl) (hpl : (backTo pos (starEach es X.env)).any (·.1) = false := by rfl) : QE X (.Call (.Name x p) (e :: es) [] pos) (tCall sp dvs E t) := ⟨pe_call (F) (hr) (hg) (hm) (hk) (hb) (hd) (hx) ha.h (hdb) (he) (hpl)⟩
theorem qe_callB (hc : CallR X (.builtin idq) r) (hg : Gl X x) (hm : X.mg x = none) (hv : bootBuiltins x = some (.builtin idq)) (ha : QA X (e :: es) t) (hn : x ≠ "__name__" := by decide) (hdb : (x == ("__debug__" : Str)) = false := by decide) (he : starEach (e :: es) X.env = (false, eval e X.env) :: starEach es X.env := by rfl) (hpl : (backTo pos (starEach es X.env)).any (·.1) = false := by rfl) : QE X (.Call (.Name x p) (e :: es) [] pos) (tCB r t) := ⟨pe_callB (hc) (hg) (hm) (hv) ha.h (hn) (hdb) (he) (hpl)⟩
theorem qo_some (h : QE X e te) : QO X (some e) (tPart te) := ⟨po_some h.h⟩
theorem qe_slice {r : V → Option Int → Option Int → Hp → VK → Prop} (hr : SlR X r) (he : QE X e te) (hl : QO X loq tl) (hu : QO X hiq th) : QE X (.Subscript e (.Slice loq hiq none p2) pos) (tSl r te tl th) := ⟨pe_slice (hr) he.h hl.h hu.h⟩
theorem qe_ix {r : R2} (hr : IxR X r) (ha : QE X a ta) (hb : QE X b tb) (hs : PlainIx b) : QE X (.Subscript a b pos) (tOp r ta tb) := ⟨pe_ix (hr) ha.h hb.h (hs)⟩
theorem qe_bm (pa : PlainAttrs T) (slot : Slot T nameq idq) (hty : typeOf (.builtin idq) = pure (.type "method_descriptor")) (hm : MtR X idq r) (ho : QE X o to) (ha : QA X (e :: es) t) (hbase : attributeBase o nameq X.env (eval o X.env) = eval o X.env := by rfl) (hfew : ((backTo cpos (starEach (e :: es) X.env)).all (fun x => !x.1) && (backToKw cpos (keywordEach [] X.env)).all (fun x => x.1.isSome)
      && decide ((e :: es).length + ([] : List Keyword).length + (if ([] : List Keyword).isEmpty then 0 else 1) < 30)) = true := by rfl) (hline : (apos.endLine == cpos.line) = true := by rfl) (hs : starEach (e :: es) X.env = (false, eval e X.env) :: starEach es X.env := by rfl) (hplain : (backTo cpos (starEach es X.env)).any (·.1) = false := by rfl) : QE X (.Call (.Attribute o nameq apos) (e :: es) [] cpos) (tBM X.K T r to t) := ⟨pe_bm (pa) (slot) (hty) (hm) ho.h ha.h (hbase) (hfew) (hline) (hs) (hplain)⟩
theorem qv (i : Nat) {x : Str} {pos : Pos} (hN : X.N[i]? = some x := by rfl) (hv : Vis X.env.scope x := by first | exact Or.inl rfl | exact Or.inr (Or.inl rfl) | exact Or.inr (Or.inr rfl)) (hd : (x == ("__debug__" : Str)) = false := by decide) (hcd : (x == ("__classdict__" : Str)) = false := by decide) : QE X (.Name x pos) (tVar i) := ⟨pv (i) (hN) (hv) (hd) (hcd)⟩
theorem qs_raise {X : Cx} {E : XK} {x : Str} {C : Addr} {np cpos pos : Pos} {e : Expr} {es : List Expr} {t : TA} (hx : PySem.W.excIn X.K C bmVE newVE = true) (hg : Gl X x) (hm : X.mg x = some (.ref C)) (hc : X.calm = true) (hex : X.ex = []) (ha : QA (X.wish (XE X E)) (e :: es) t) (hdb : (x == ("__debug__" : Str)) = false := by decide) (he : starEach (e :: es) X.env = (false, eval e X.env) :: starEach es X.env := by rfl) (hpl : (backTo cpos (starEach es X.env)).any (·.1) = false := by rfl) : QS (X.wish (XE X E)) (.Raise (some (.Call (.Name x np) (e :: es) [] cpos)) none pos) (tRaise C E t) := ⟨ps_raise (hx) (hg) (hm) (hc) (hex) ha.h (hdb) (he) (hpl)⟩
theorem qe_callH {X : Cx} {k : Nat} {f : Addr} {fd : FuncData} {ps : List Str} {sp : Sp} {x : Str} {p pos : Pos} {e : Expr} {es : List Expr} {t : TA} (F : FnH X.prog X.w X.K X.mg X.base k f fd ps sp) (hr : RoomH k X.A) (hg : Gl X x) (hm : X.mg x = some (.ref f)) (hk : PySem.W.keepIn X.K (.ref f) = true) (hb : Binds X.K fd ps []) (ha : QA X (e :: es) t) (hdb : (x == ("__debug__" : Str)) = false := by decide) (he : starEach (e :: es) X.env = (false, eval e X.env) :: starEach es X.env := by rfl) (hpl : (backTo pos (starEach es X.env)).any (·.1) = false := by rfl) : QE X (.Call (.Name x p) (e :: es) [] pos) (fun σ H Q => t σ H fun vs H1 => sp vs H1 Q E0) := ⟨pe_callH (F) (hr) (hg) (hm) (hk) (hb) ha.h (hdb) (he) (hpl)⟩
theorem qe_dnewK {X : Cx} {pos : Pos} : QE X (.Dict [] [] pos) tDNewK := ⟨pe_dnewK ⟩
theorem qf_nil {X : Cx} : QF X [] (fun out _ H Q => Q out H) := ⟨pf_nil ⟩
theorem qf_cons {X : Cx} {e : Expr} {es : List Expr} {te : TE} {tr : TF} (he : QE X e te) (hr : QF X es tr) : QF X (e :: es) (fun out σ H Q => te σ H fun v H1 => ∃ y, v = .str y ∧ (out ++ y).length ≤ sizeLine ∧ tr (out ++ y) σ H1 Q) := ⟨pf_cons he.h hr.h⟩
theorem qe_fstr {X : Cx} {e1 e2 : Expr} {es : List Expr} {pos : Pos} {t : TF} (h : QF X (e1 :: e2 :: es) t) : QE X (.JoinedStr (e1 :: e2 :: es) pos) (fun σ H Q => t Str.empty σ H fun z H1 => z.length ≤ sizeLine ∧ Q (.str z) H1) := ⟨pe_fstr h.h⟩
theorem qe_fint {X : Cx} {e : Expr} {te : TE} {pos : Pos} (he : QE X e te) : QE X (.FormattedValue e (-1) none pos) (fun σ H Q => te σ H fun v H1 => ∃ i, v = .int i ∧ i.natAbs.log2 < 1920 ∧ Q (.str (toString i)) H1) := ⟨pe_fint he.h⟩
theorem qif_nil {X : Cx} : QIf X [] tYes := ⟨pif_nil ⟩
theorem qe_callP {X : Cx} {CX : CXT} {k : Nat} {x : Str} {ps : List Str} {sp : Sp} {E : XK} {p pos : Pos} {e : Expr} {es : List Expr} {t : TA} (h : Pm X.prog X.w X.K X.mg X.base CX k x ps sp) (hr : Room k X.A) (hg : Gl X x) (hx : Passes CX X E) (ha : QA X (e :: es) t) (hdb : (x == ("__debug__" : Str)) = false := by decide) (he : starEach (e :: es) X.env = (false, eval e X.env) :: starEach es X.env := by rfl) (hpl : (backTo pos (starEach es X.env)).any (·.1) = false := by rfl) : QE X (.Call (.Name x p) (e :: es) [] pos) (tCall sp [] E t) := ⟨pe_callP (h) (hr) (hg) (hx) ha.h (hdb) (he) (hpl)⟩
/-- an argument, by a test that is small -/
def notStar : Expr → Bool
  | .Starred .. => false
  | _ => true
theorem starEach_cons {e : Expr} {es : List Expr} {env : Env} (h : notStar e = true) : starEach (e :: es) env = (false, eval e env) :: starEach es env := by
  cases e <;> first | rfl | cases h
theorem qac {X : Cx} {e : Expr} {es : List Expr} {te : TE} {t : TA} (ha : QE X e te) (hr : QA X es t) (hs : notStar e = true := by rfl) : QA X (e :: es) (tCons te t) := ⟨pa_cons ha.h hr.h (starEach_cons hs)⟩
theorem qs_try {X : Cx} {body : List Stmt} {tb : XK → TS} {th : TS} {x n : Str} {M : Addr} {i : Nat} {b0 : Stmt} {suite : List Stmt} {np hpos pos : Pos} (hex : X.ex = []) (hst : X.stack = X.env :: X.outer) (hfr : X.env.frame = some X.env.locals)
    (hb : ∀ (pn : List (Addr × Obj)) (E : XK), QSs ((X.pinned pn).wish (XT (X.pinned pn) E)) body (tb E)) (hg : Gl X x) (hm : X.mg x = some (.ref M)) (TM : PySem.W.ExcK X.K M) (hN : X.N.Nodup) (hi : X.N[i]? = some n) (hl : X.env.scope.names.lookup n = some .local)
    (hh : ∀ a, QSs (X.inH a) (b0 :: suite) th) (hdb : (x == ("__debug__" : Str)) = false := by decide) :
    QS X (.Try body [.ExceptHandler (some (.Name x np)) (some n) (b0 :: suite) hpos] [] [] pos) (tTry X.K M X.N.length i tb th) := ⟨ps_try hex hst hfr (fun pn E => (hb pn E).h) hg hm TM hN hi hl (fun a => (hh a).h) hdb⟩
theorem qe_comp {X : Cx} {elt tg iter : Expr} {ifs : List Expr} {scope : Scope} {pos : Pos} {N : List Str} {src : List (Option Nat)} {wi : TI} {g : TG} {tc : TT} {te : TE} (hc : X.calm = true) (S : CompScope X scope N src) (hi : QI X tg iter wi)
    (hg : ∀ s H cl C fp, QG (cxC X s H scope cl C N fp) tg g) (hf : ∀ s H cl C fp, QIf (cxC X s H scope cl C N fp) ifs tc) (he : ∀ s H cl C fp, QE (cxC X s H scope cl C N fp) elt te)
    (hs : ∀ x, foldedSetIterable iter X.env x = pure x := by intro _; rfl) : QE X (.ListComp elt [⟨tg, iter, ifs, 0⟩] scope pos) (tComp src wi g tc te) :=
  ⟨pe_comp hc S hi.h (fun s H cl C fp => (hg s H cl C fp).h) (fun s H cl C fp => (hf s H cl C fp).h) (fun s H cl C fp => (he s H cl C fp).h) hs⟩
theorem qss_never {X : Cx} {sts : List Stmt} : QSs X sts tNever := ⟨pss_never⟩
/-! ### defs -/
section
variable {P : Program} {w : World} {K : PySem.W.Frag} {mg : Str → Option Value} {base : Heap} {x qual : Str} {st : Stmt} {f : Addr} {fd : FuncData} {N ps : List Str} {k : Nat} {sp : Sp}
theorem Fun.okQ (F : Fun K x qual st f fd) (S : FnScope N ps (defScope st)) (len : ∀ vs H Q E, sp vs H Q E → vs.length = ps.length)
    (hbody : ∀ (cdv : Value) (A : Around) (outer : List Env) (s : Shared) (H : Hp) (vs : List V) (Q : VK) (E : XK), Room k (A.deeper (envOfC qual (defScope st) s.heap.objs.size f cdv)) → sp vs H Q E →
      ∃ t, QSs (cxOf CX0 P w K mg base N qual (defScope st) f cdv A outer s H E).nox (defBody st) t ∧ t { nx := fun _ H' => Q .non H', rt := Q } (start N vs) H) : FnOk P w K mg base CX0 (k + 1) f fd ps sp :=
  F.ok S len fun cdv A outer s H vs Q E hr h => let ⟨t, a, b⟩ := hbody cdv A outer s H vs Q E hr h; ⟨t, a.h, b⟩
theorem Fun.okXQ (F : Fun K x qual st f fd) (S : FnScope N ps (defScope st)) (len : ∀ vs H Q E, sp vs H Q E → vs.length = ps.length)
    (hbody : ∀ (cdv : Value) (A : Around) (outer : List Env) (s : Shared) (H : Hp) (vs : List V) (Q : VK) (E : XK), Room k (A.deeper (envOfC qual (defScope st) s.heap.objs.size f cdv)) → sp vs H Q E →
      ∃ t, QSs ((cxOf (CX1 P w) P w K mg base N qual (defScope st) f cdv A outer s H E).wish (XE (cxOf (CX1 P w) P w K mg base N qual (defScope st) f cdv A outer s H E) E)) (defBody st) t ∧ t { nx := fun _ H' => Q .non H', rt := Q } (start N vs) H) :
    FnOk P w K mg base (CX1 P w) (k + 1) f fd ps sp :=
  F.okX S len fun cdv A outer s H vs Q E hr h => let ⟨t, a, b⟩ := hbody cdv A outer s H vs Q E hr h; ⟨t, a.h, b⟩
theorem Fun.okHQ (F : Fun K x qual st f fd) (S : FnScope N ps (defScope st)) (len : ∀ vs H Q E, sp vs H Q E → vs.length = ps.length)
    (hbody : ∀ (cdv : Value) (A : Around) (outer : List Env) (s : Shared) (H : Hp) (vs : List V) (Q : VK), RoomH k (A.deeper (envOfC qual (defScope st) s.heap.objs.size f cdv)) → sp vs H Q E0 →
      ∃ t, QSs (cxH P w K mg base N qual (defScope st) f cdv A outer s H) (defBody st) t ∧ t { nx := fun _ H' => Q .non H', rt := Q } (start N vs) H) : FnH P w K mg base (k + 1) f fd ps sp :=
  F.okH S len fun cdv A outer s H vs Q hr h => let ⟨t, a, b⟩ := hbody cdv A outer s H vs Q hr h; ⟨t, a.h, b⟩
end

end L2
/-! EvRange: range with a step. Behind EvQ. -/
namespace L2
open PySem PySem.Spec PyProof.Rows
section
variable {X : Cx} {tg : Expr}
end
end L2
/-! EvMath: the mathematics of primes, by naturals; core alone. -/
namespace EM
def IsPr (p : Nat) : Prop := 2 ≤ p ∧ ∀ d, d ∣ p → d = 1 ∨ d = p
/-- Euclid -/
theorem IsPr.euclid {p a b : Nat} (hp : IsPr p) (h : p ∣ a * b) : p ∣ a ∨ p ∣ b := by
  rcases hp.2 (Nat.gcd p a) (Nat.gcd_dvd_left p a) with g | g
  · exact .inr (Nat.Coprime.dvd_of_dvd_mul_left (show Nat.Coprime p a from g) h)
  · exact .inl (g ▸ Nat.gcd_dvd_right p a)
theorem IsPr.pow {p a : Nat} (hp : IsPr p) : ∀ {e : Nat}, p ∣ a ^ e → p ∣ a
  | 0, h => by
    rw [Nat.pow_zero] at h
    have h1 := Nat.le_of_dvd (by decide) h
    have h2 := hp.1
    omega
  | e + 1, h => by
    rw [Nat.pow_succ] at h
    rcases hp.euclid h with h | h
    · exact hp.pow h
    · exact h
theorem IsPr.dvd_pr {p q : Nat} (hp : IsPr p) (hq : IsPr q) (h : p ∣ q) : p = q := by
  rcases hq.2 p h with h | h
  · have := hp.1; omega
  · exact h
/-- the least divisor is a prime -/
theorem pr_of_least {p n : Nat} (h2 : 2 ≤ p) (hd : p ∣ n) (hl : ∀ d, 2 ≤ d → d < p → ¬ d ∣ n) (_ : 1 ≤ n) : IsPr p := by
  refine ⟨h2, fun d hdp => ?_⟩
  have hle := Nat.le_of_dvd (by omega) hdp
  rcases Nat.lt_or_ge d 2 with h | h
  · have : d ≠ 0 := fun z => by
      subst z
      have := Nat.eq_zero_of_zero_dvd hdp
      omega
    exact .inl (by omega)
  · rcases Nat.lt_or_ge d p with h' | h'
    · exact absurd (Nat.dvd_trans hdp hd) (hl d h h')
    · exact .inr (by omega)
theorem pr_of_end {p n : Nat} (hn : 2 ≤ n) (hl : ∀ d, 2 ≤ d → d < p → ¬ d ∣ n) (hp : n < p * p) : IsPr n := by
  refine ⟨hn, fun d hd => ?_⟩
  have hle := Nat.le_of_dvd (by omega) hd
  obtain ⟨c, rfl⟩ := hd
  have d0 : d ≠ 0 := fun z => by subst z; simp at hn
  have c0 : c ≠ 0 := fun z => by subst z; simp at hn
  by_cases hd1 : d = 1
  · exact .inl hd1
  by_cases hc1 : c = 1
  · exact .inr (by rw [hc1, Nat.mul_one])
  exfalso
  have h1 : p ≤ d := Nat.le_of_not_lt fun z => hl d (by omega) z ⟨c, rfl⟩
  have h2 : p ≤ c := Nat.le_of_not_lt fun z => hl c (by omega) z ⟨d, Nat.mul_comm d c⟩
  have := Nat.mul_le_mul h1 h2
  omega
/-- every number above 1 has a prime divisor -/
theorem exists_pr : ∀ (n : Nat), 2 ≤ n → ∃ p, IsPr p ∧ p ∣ n := fun n hn => by
  have key : ∀ k, ∀ d, 2 ≤ d → d ≤ n → n - d ≤ k → (∀ e, 2 ≤ e → e < d → ¬ e ∣ n) → ∃ p, IsPr p ∧ p ∣ n := by
    intro k
    induction k with
    | zero =>
      intro d h2 hle hk hl
      have : d = n := by omega
      subst this
      exact ⟨d, pr_of_least h2 (Nat.dvd_refl d) hl (by omega), Nat.dvd_refl d⟩
    | succ k ih =>
      intro d h2 hle hk hl
      by_cases hd : d ∣ n
      · exact ⟨d, pr_of_least h2 hd hl (by omega), hd⟩
      · have : d ≠ n := fun z => hd (z ▸ Nat.dvd_refl d)
        refine ih (d + 1) (by omega) (by omega) (by omega) fun e he hlt => ?_
        rcases Nat.lt_or_ge e d with h | h
        · exact hl e he h
        · have : e = d := by omega
          subst this; exact hd
  exact key n 2 (Nat.le_refl 2) hn (by omega) fun e he hlt => by omega

/-! ### lists of primes with how often -/
def prodL : List (Nat × Nat) → Nat
  | [] => 1
  | x :: r => x.1 ^ x.2 * prodL r
theorem prodL_append : ∀ (a b : List (Nat × Nat)), prodL (a ++ b) = prodL a * prodL b
  | [], b => by simp [prodL]
  | x :: r, b => by simp only [List.cons_append, prodL, prodL_append r b, Nat.mul_assoc]
structure Fac (n : Nat) (L : List (Nat × Nat)) : Prop where
  pr : ∀ x ∈ L, IsPr x.1 ∧ 1 ≤ x.2
  asc : L.Pairwise fun x y => x.1 < y.1
  prod : prodL L = n
/-- between two turns of the loop -/
structure FacTo (n p left : Nat) (L : List (Nat × Nat)) : Prop where
  pr : ∀ x ∈ L, IsPr x.1 ∧ 1 ≤ x.2 ∧ x.1 < p
  asc : L.Pairwise fun x y => x.1 < y.1
  prod : prodL L * left = n
  two : 2 ≤ p
  pos : 1 ≤ left
  no : ∀ d, 2 ≤ d → d < p → ¬ d ∣ left
theorem FacTo.start {n : Nat} (h : 1 ≤ n) : FacTo n 2 n [] := ⟨nofun, .nil, by simp [prodL], by omega, h, fun d h1 h2 => by omega⟩
theorem asc_snoc {L : List (Nat × Nat)} {x : Nat × Nat} (h : L.Pairwise fun x y => x.1 < y.1) (hx : ∀ y ∈ L, y.1 < x.1) : (L ++ [x]).Pairwise fun x y => x.1 < y.1 :=
  List.pairwise_append.mpr ⟨h, List.pairwise_singleton _ _, fun a ha b hb => by rw [List.mem_singleton.mp hb]; exact hx a ha⟩
/-- the inner loop: left0 = left * p ^ often, and p divides left no more -/
theorem FacTo.some {n p left left0 often : Nat} {L : List (Nat × Nat)} (F : FacTo n p left0 L) (e : left0 = left * p ^ often) (ho : 1 ≤ often) (hnd : ¬ p ∣ left) : FacTo n (p + 1) left (L ++ [(p, often)]) := by
  have hpos : 1 ≤ left := by
    rcases Nat.eq_zero_or_pos left with h | h
    · subst h; have := F.pos; simp at e; omega
    · exact h
  have hpd : p ∣ left0 := by
    rw [e]
    obtain ⟨k, rfl⟩ : ∃ k, often = k + 1 := ⟨often - 1, by omega⟩
    rw [Nat.pow_succ, ← Nat.mul_assoc]
    exact Nat.dvd_mul_left _ _
  refine ⟨fun x hx => ?_, asc_snoc F.asc fun y hy => (F.pr y hy).2.2, ?_, by have := F.two; omega, hpos, fun d h2 hlt hd => ?_⟩
  · rcases List.mem_append.mp hx with h | h
    · obtain ⟨a, b, c⟩ := F.pr x h
      exact ⟨a, b, by omega⟩
    · rw [List.mem_singleton.mp h]
      exact ⟨pr_of_least F.two hpd F.no F.pos, ho, by show p < p + 1; omega⟩
  · rw [prodL_append, ← F.prod, e]
    show prodL L * (p ^ often * 1) * left = _
    rw [Nat.mul_one, Nat.mul_assoc, Nat.mul_comm (p ^ often) left]
  · rcases Nat.lt_or_ge d p with h | h
    · exact F.no d h2 h (e ▸ Nat.dvd_trans hd (Nat.dvd_mul_right _ _))
    · have : d = p := by omega
      subst this; exact hnd hd
theorem FacTo.none {n p left : Nat} {L : List (Nat × Nat)} (F : FacTo n p left L) (hnd : ¬ p ∣ left) : FacTo n (p + 1) left L :=
  ⟨fun x hx => let ⟨a, b, c⟩ := F.pr x hx; ⟨a, b, by omega⟩, F.asc, F.prod, by have := F.two; omega, F.pos, fun d h2 hlt hd => by
    rcases Nat.lt_or_ge d p with h | h
    · exact F.no d h2 h hd
    · have : d = p := by omega
      subst this; exact hnd hd⟩
theorem FacTo.last {n p left : Nat} {L : List (Nat × Nat)} (F : FacTo n p left L) (hp : left < p * p) (h1 : 1 < left) : Fac n (L ++ [(left, 1)]) := by
  have hpl : p ≤ left := Nat.le_of_not_lt fun z => F.no left h1 z (Nat.dvd_refl _)
  refine ⟨fun x hx => ?_, asc_snoc F.asc fun y hy => Nat.lt_of_lt_of_le (F.pr y hy).2.2 hpl, ?_⟩
  · rcases List.mem_append.mp hx with h | h
    · obtain ⟨a, b, _⟩ := F.pr x h
      exact ⟨a, b⟩
    · rw [List.mem_singleton.mp h]
      exact ⟨pr_of_end h1 F.no hp, Nat.le_refl 1⟩
  · rw [prodL_append, ← F.prod]
    show prodL L * (left ^ 1 * 1) = _
    rw [Nat.pow_one, Nat.mul_one]
theorem FacTo.done {n p left : Nat} {L : List (Nat × Nat)} (F : FacTo n p left L) (h1 : ¬ 1 < left) : Fac n L := by
  refine ⟨fun x hx => let ⟨a, b, _⟩ := F.pr x hx; ⟨a, b⟩, F.asc, ?_⟩
  have := F.pos
  have e : left = 1 := by omega
  rw [← F.prod, e, Nat.mul_one]
theorem prodL_pos : ∀ {L : List (Nat × Nat)}, (∀ x ∈ L, IsPr x.1 ∧ 1 ≤ x.2) → 1 ≤ prodL L
  | [], _ => Nat.le_refl 1
  | x :: r, h => by
    have h1 := (h x (List.mem_cons_self ..)).1.1
    have h2 := prodL_pos fun y hy => h y (List.mem_cons_of_mem _ hy)
    exact Nat.mul_pos (Nat.pow_pos (by omega)) h2
theorem mem_dvd : ∀ {L : List (Nat × Nat)} {x : Nat × Nat}, x ∈ L → x.1 ^ x.2 ∣ prodL L
  | y :: r, x, h => by
    rcases List.mem_cons.mp h with h | h
    · subst h; exact Nat.dvd_mul_right _ _
    · exact Nat.dvd_trans (mem_dvd h) (Nat.dvd_mul_left _ _)
/-- how often is small -/
theorem Fac.few {n : Nat} {L : List (Nat × Nat)} (F : Fac n L) (h0 : 1 ≤ n) (hn : n < 2 ^ 30) : ∀ x ∈ L, x.2 < 30 ∧ x.1 ≤ n := fun x hx => by
  have h1 := (F.pr x hx).1.1
  have h3 := (F.pr x hx).2
  have h2 := Nat.le_of_dvd (by omega) (F.prod ▸ mem_dvd hx)
  constructor
  · refine Nat.lt_of_not_le fun z => ?_
    have a := Nat.pow_le_pow_right (n := 2) (by decide) z
    have b := Nat.pow_le_pow_left h1 x.2
    omega
  · have := Nat.le_self_pow (n := x.2) (by omega) x.1
    omega

theorem len_le : ∀ {L : List (Nat × Nat)}, (∀ x ∈ L, IsPr x.1 ∧ 1 ≤ x.2) → 2 ^ L.length ≤ prodL L
  | [], _ => Nat.le_refl 1
  | x :: r, h => by
    have h1 := (h x (List.mem_cons_self ..)).1.1
    have h3 := (h x (List.mem_cons_self ..)).2
    have h2 := len_le fun y hy => h y (List.mem_cons_of_mem _ hy)
    have h4 := Nat.le_self_pow (n := x.2) (by omega) x.1
    rw [List.length_cons, Nat.pow_succ, Nat.mul_comm]
    exact Nat.mul_le_mul (Nat.le_trans h1 h4) h2
theorem FacTo.short {n p left : Nat} {L : List (Nat × Nat)} (F : FacTo n p left L) (hn : n < 2 ^ 60) : L.length < 60 := by
  have h1 := len_le fun x hx => let ⟨a, b, _⟩ := F.pr x hx; ⟨a, b⟩
  have h2 : prodL L ≤ n := F.prod ▸ Nat.le_mul_of_pos_right _ F.pos
  refine Nat.lt_of_not_le fun z => ?_
  have := Nat.pow_le_pow_right (n := 2) (by decide) z
  omega
theorem FacTo.le {n p left : Nat} {L : List (Nat × Nat)} (F : FacTo n p left L) : left ≤ n := by
  have h2 := prodL_pos fun x hx => let ⟨a, b, _⟩ := F.pr x hx; ⟨a, b⟩
  exact F.prod ▸ Nat.le_mul_of_pos_left _ h2
theorem root_lt {p n : Nat} (h : p * p ≤ n) (hn : n < 2 ^ 60) : p < 2 ^ 30 := by
  refine Nat.lt_of_not_le fun z => ?_
  have := Nat.mul_le_mul z z
  omega
theorem two_le_self {p n : Nat} (h2 : 2 ≤ p) (h : p * p ≤ n) : 2 * p ≤ n := Nat.le_trans (Nat.mul_le_mul_right p h2) h
/-! ### plain parts -/
/-- the taken part, and what is left -/
def halfL : List (Nat × Nat) → Nat
  | [] => 1
  | x :: r => x.1 ^ (x.2 / 2) * halfL r
def oddL : List (Nat × Nat) → Nat
  | [] => 1
  | x :: r => x.1 ^ (x.2 % 2) * oddL r
theorem halfL_append : ∀ (a b : List (Nat × Nat)), halfL (a ++ b) = halfL a * halfL b
  | [], b => by simp [halfL]
  | x :: r, b => by simp only [List.cons_append, halfL, halfL_append r b, Nat.mul_assoc]
theorem split_sq (p e : Nat) : p ^ e = p ^ (e % 2) * (p ^ (e / 2) * p ^ (e / 2)) := by
  rw [← Nat.pow_add, ← Nat.pow_add]
  congr 1
  omega
theorem odd_half : ∀ L : List (Nat × Nat), prodL L = oddL L * (halfL L * halfL L)
  | [] => rfl
  | x :: r => by
    simp only [prodL, oddL, halfL, odd_half r]
    rw [split_sq x.1 x.2]
    ac_rfl
theorem halfL_pos : ∀ {L : List (Nat × Nat)}, (∀ x ∈ L, IsPr x.1 ∧ 1 ≤ x.2) → 1 ≤ halfL L
  | [], _ => Nat.le_refl 1
  | x :: r, h => by
    have h1 := (h x (List.mem_cons_self ..)).1.1
    exact Nat.mul_pos (Nat.pow_pos (by omega)) (halfL_pos fun y hy => h y (List.mem_cons_of_mem _ hy))
theorem oddL_pos : ∀ {L : List (Nat × Nat)}, (∀ x ∈ L, IsPr x.1 ∧ 1 ≤ x.2) → 1 ≤ oddL L
  | [], _ => Nat.le_refl 1
  | x :: r, h => by
    have h1 := (h x (List.mem_cons_self ..)).1.1
    exact Nat.mul_pos (Nat.pow_pos (by omega)) (oddL_pos fun y hy => h y (List.mem_cons_of_mem _ hy))
/-- a prime that divides what is left is one of the list -/
theorem dvd_oddL : ∀ {L : List (Nat × Nat)} {q : Nat}, IsPr q → (∀ x ∈ L, IsPr x.1 ∧ 1 ≤ x.2) → q ∣ oddL L → ∃ x ∈ L, x.1 = q
  | [], q, hq, _, h => by
    have h1 := Nat.le_of_dvd (by decide) (show q ∣ 1 from h)
    have h2 := hq.1
    omega
  | x :: r, q, hq, hL, h => by
    rcases hq.euclid h with h | h
    · exact ⟨x, List.mem_cons_self .., (hq.dvd_pr (hL x (List.mem_cons_self ..)).1 (hq.pow h)).symm⟩
    · obtain ⟨y, hy, e⟩ := dvd_oddL hq (fun y hy => hL y (List.mem_cons_of_mem _ hy)) h
      exact ⟨y, List.mem_cons_of_mem _ hy, e⟩
theorem oddL_sqfree : ∀ {L : List (Nat × Nat)}, (∀ x ∈ L, IsPr x.1 ∧ 1 ≤ x.2) → (L.Pairwise fun x y => x.1 < y.1) → ∀ q, IsPr q → ¬ q * q ∣ oddL L
  | [], _, _, q, hq, h => by
    have h1 := Nat.le_of_dvd (by decide) (show q * q ∣ 1 from h)
    have h2 := hq.1
    have := Nat.mul_le_mul h2 h2
    omega
  | x :: r, hL, hA, q, hq, h => by
    obtain ⟨hx, hr⟩ := List.pairwise_cons.mp hA
    have hLr : ∀ y ∈ r, IsPr y.1 ∧ 1 ≤ y.2 := fun y hy => hL y (List.mem_cons_of_mem _ hy)
    have px := (hL x (List.mem_cons_self ..)).1
    have ih := oddL_sqfree hLr hr q hq
    have hm : x.2 % 2 = 0 ∨ x.2 % 2 = 1 := by omega
    rcases hm with hm | hm
    · simp only [oddL, hm, Nat.pow_zero, Nat.one_mul] at h
      exact ih h
    · simp only [oddL, hm, Nat.pow_one] at h
      by_cases e : q = x.1
      · subst e
        have h' : x.1 ∣ oddL r := Nat.dvd_of_mul_dvd_mul_left (by have := px.1; omega) h
        obtain ⟨y, hy, e⟩ := dvd_oddL px hLr h'
        have := hx y hy
        omega
      · have nd : ¬ q ∣ x.1 := fun z => e (hq.dvd_pr px z)
        have cop : Nat.Coprime q x.1 := by
          rcases hq.2 (Nat.gcd q x.1) (Nat.gcd_dvd_left q x.1) with g | g
          · exact g
          · exact absurd (g ▸ Nat.gcd_dvd_right q x.1) nd
        have cop2 : Nat.Coprime (q * q) x.1 := Nat.Coprime.mul_left cop cop
        exact ih (Nat.Coprime.dvd_of_dvd_mul_left cop2 h)
theorem sqfree_of_pr {s : Nat} (h : ∀ q, IsPr q → ¬ q * q ∣ s) : ∀ k, 2 ≤ k → ¬ k * k ∣ s := fun k hk hd => by
  obtain ⟨q, hq, c, rfl⟩ := exists_pr k hk
  refine h q hq (Nat.dvd_trans ⟨c * c, ?_⟩ hd)
  ac_rfl
theorem Fac.plain {n : Nat} {L : List (Nat × Nat)} (F : Fac n L) : n = oddL L * (halfL L * halfL L) ∧ 1 ≤ halfL L ∧ 1 ≤ oddL L ∧ ∀ k, 2 ≤ k → ¬ k * k ∣ oddL L :=
  ⟨F.prod ▸ odd_half L, halfL_pos F.pr, oddL_pos F.pr, sqfree_of_pr (oddL_sqfree F.pr F.asc)⟩

/-! ### roots -/
theorem halfL_take {L : List (Nat × Nat)} {i : Nat} {x : Nat × Nat} (h : L[i]? = some x) : halfL (L.take (i + 1)) = halfL (L.take i) * x.1 ^ (x.2 / 2) := by
  rw [List.take_add_one, h, Option.toList, halfL_append]
  show _ * (x.1 ^ (x.2 / 2) * 1) = _
  rw [Nat.mul_one]
/-- a number and its plain part, by its sign -/
theorem plain_int {n : Int} {m h : Nat} (hh : 1 ≤ h) (e : n.natAbs = m * (h * h)) : ∃ s : Int, n / ((h : Int) * (h : Int)) = s ∧ n = s * ((h : Int) * (h : Int)) ∧ s.natAbs = m := by
  have h0 : ((h : Int) * (h : Int)) ≠ 0 := by
    intro z
    rcases Int.mul_eq_zero.mp z with z | z <;> omega
  rcases Int.natAbs_eq n with q | q
  · have e2 : n = (m : Int) * ((h : Int) * (h : Int)) := by rw [q, e]; simp [Int.natCast_mul]
    refine ⟨m, ?_, e2, by simp⟩
    rw [e2, Int.mul_ediv_cancel _ h0]
  · have e2 : n = (-(m : Int)) * ((h : Int) * (h : Int)) := by rw [q, e]; simp [Int.natCast_mul, Int.neg_mul]
    refine ⟨-(m : Int), ?_, e2, by simp⟩
    rw [e2, Int.mul_ediv_cancel _ h0]
theorem Fac.of_pr {p : Nat} {L : List (Nat × Nat)} (F : Fac p L) (hp : IsPr p) : L = [(p, 1)] := by
  have h2 := hp.1
  match L, F with
  | [], F =>
    have e := F.prod
    simp only [prodL] at e
    omega
  | x :: r, F =>
    obtain ⟨q1, q2⟩ := F.pr x (List.mem_cons_self ..)
    have hd := mem_dvd (List.mem_cons_self (a := x) (l := r))
    rw [F.prod] at hd
    have hx : x.1 ∣ p := by
      obtain ⟨k, hk⟩ : ∃ k, x.2 = k + 1 := ⟨x.2 - 1, by omega⟩
      rw [hk, Nat.pow_succ] at hd
      exact Nat.dvd_trans (Nat.dvd_mul_left _ _) hd
    have hxp : x.1 = p := q1.dvd_pr hp hx
    have hrp := prodL_pos fun y hy => F.pr y (List.mem_cons_of_mem _ hy)
    have e := F.prod
    simp only [prodL, hxp] at e
    have h1 : p ^ x.2 ≤ p := by
      have := Nat.le_mul_of_pos_right (p ^ x.2) hrp
      omega
    have hx2 : x.2 = 1 := by
      rcases Nat.lt_or_ge x.2 2 with z | z
      · omega
      · have h3 := Nat.pow_le_pow_right (n := p) (by omega) z
        have h4 := Nat.mul_le_mul_right p h2
        rw [Nat.pow_two] at h3
        omega
    rw [hx2, Nat.pow_one] at e
    have hr1 : prodL r = 1 := by
      have h5 : p * prodL r = p * 1 := by omega
      exact Nat.eq_of_mul_eq_mul_left (by omega) h5
    have hr : r = [] := by
      match r, F, hr1 with
      | [], _, _ => rfl
      | y :: r', F, hr1 =>
        have h6 := len_le fun z hz => F.pr z (List.mem_cons_of_mem _ hz)
        rw [hr1, List.length_cons, Nat.pow_succ] at h6
        have := Nat.pow_pos (n := r'.length) (show 0 < 2 by decide)
        omega
    rw [hr]
    have : x = (p, 1) := by
      rw [← hxp, ← hx2]
    rw [this]
theorem Fac.pr_of {p : Nat} (F : Fac p [(p, 1)]) : IsPr p := (F.pr _ (List.mem_cons_self ..)).1
end EM
/-! EvEuler: Fermat and Euler for a prime, by naturals and ints; core alone. Behind EvMath. -/
namespace EM
/-! ### lists without repeats -/
theorem perm_of_sub : ∀ {l l' : List Nat}, l.Nodup → (∀ x ∈ l, x ∈ l') → l'.length ≤ l.length → l'.Perm l
  | [], l', _, _, h => by
    have : l' = [] := List.length_eq_zero_iff.mp (by simpa using h)
    rw [this]
  | x :: l, l', hn, hs, h => by
    obtain ⟨hx, hn'⟩ := List.nodup_cons.mp hn
    have hm : x ∈ l' := hs x (List.mem_cons_self ..)
    have p1 := List.perm_cons_erase hm
    have hl : (l'.erase x).length ≤ l.length := by
      rw [List.length_erase_of_mem hm]
      simp only [List.length_cons] at h
      omega
    have p2 := perm_of_sub hn' (l' := l'.erase x) (fun y hy => by
      have hyx : y ≠ x := fun z => hx (z ▸ hy)
      exact (List.mem_erase_of_ne hyx).mpr (hs y (List.mem_cons_of_mem _ hy))) hl
    exact p1.trans (p2.cons x)
def prodN : List Nat → Nat
  | [] => 1
  | x :: r => x * prodN r
theorem prodN_perm {l l' : List Nat} (h : l.Perm l') : prodN l = prodN l' := by
  induction h with
  | nil => rfl
  | cons x _ ih => simp only [prodN, ih]
  | swap x y l => simp only [prodN]; rw [← Nat.mul_assoc, ← Nat.mul_assoc, Nat.mul_comm y x]
  | trans _ _ a b => exact a.trans b
theorem prodN_map_mod (p a : Nat) : ∀ l : List Nat, prodN (l.map fun x => a * x % p) % p = a ^ l.length * prodN l % p
  | [] => by simp [prodN]
  | x :: l => by
    simp only [List.map_cons, prodN, List.length_cons]
    rw [Nat.mul_mod, Nat.mod_mod, prodN_map_mod p a l, ← Nat.mul_mod, Nat.pow_succ]
    congr 1
    ac_rfl
theorem prodN_cop {p : Nat} (hp : IsPr p) : ∀ {l : List Nat}, (∀ x ∈ l, ¬ p ∣ x) → ¬ p ∣ prodN l
  | [], _, h => by
    have := Nat.le_of_dvd (by decide) (show p ∣ 1 from h)
    have := hp.1
    omega
  | x :: l, hx, h => by
    rcases hp.euclid h with z | z
    · exact hx x (List.mem_cons_self ..) z
    · exact prodN_cop hp (fun y hy => hx y (List.mem_cons_of_mem _ hy)) z
theorem mod_cancel {p a b c : Nat} (hp : IsPr p) (ha : ¬ p ∣ a) (hb : b < p) (hc : c < p) (h : a * b % p = a * c % p) : b = c := by
  rcases Nat.le_total b c with z | z
  · obtain ⟨d, rfl⟩ := Nat.exists_eq_add_of_le z
    have h2 : p ∣ a * d := by
      have h3 : (a * b + a * d) % p = (a * b) % p := by rw [← Nat.mul_add]; exact h.symm
      have h4 := Nat.sub_mod_eq_zero_of_mod_eq h3
      rw [Nat.add_sub_cancel_left] at h4
      exact Nat.dvd_of_mod_eq_zero h4
    rcases hp.euclid h2 with q | q
    · exact absurd q ha
    · rcases Nat.eq_zero_or_pos d with r | r
      · omega
      · have := Nat.le_of_dvd r q
        omega
  · obtain ⟨d, rfl⟩ := Nat.exists_eq_add_of_le z
    have h2 : p ∣ a * d := by
      have h3 : (a * c + a * d) % p = (a * c) % p := by rw [← Nat.mul_add]; exact h
      have h4 := Nat.sub_mod_eq_zero_of_mod_eq h3
      rw [Nat.add_sub_cancel_left] at h4
      exact Nat.dvd_of_mod_eq_zero h4
    rcases hp.euclid h2 with q | q
    · exact absurd q ha
    · rcases Nat.eq_zero_or_pos d with r | r
      · omega
      · have := Nat.le_of_dvd r q
        omega
/-- Fermat -/
theorem fermat {p a : Nat} (hp : IsPr p) (ha : ¬ p ∣ a) : a ^ (p - 1) % p = 1 := by
  have h2 := hp.1
  let l := (List.range (p - 1)).map (· + 1)
  have ml : ∀ x, x ∈ l ↔ 1 ≤ x ∧ x < p := fun x => by
    simp only [l, List.mem_map, List.mem_range]
    constructor
    · rintro ⟨y, hy, rfl⟩; omega
    · rintro ⟨h1, h2⟩; exact ⟨x - 1, by omega, by omega⟩
  have nl : l.Nodup := by
    simp only [l]
    refine List.Pairwise.map _ (fun a b (h : a ≠ b) => ?_) List.nodup_range
    intro z; exact h (by omega)
  have ll : l.length = p - 1 := by simp [l]
  let m := l.map fun x => a * x % p
  have ndx : ∀ x ∈ l, ¬ p ∣ x := fun x hx z => by
    have h3 := (ml x).mp hx
    have := Nat.le_of_dvd (by omega) z
    omega
  have nm : m.Nodup := by
    simp only [m]
    rw [List.nodup_iff_pairwise_ne] at nl ⊢
    rw [List.pairwise_map]
    refine nl.imp_of_mem fun {b c} hb hc hne z => hne ?_
    exact mod_cancel hp ha ((ml b).mp hb).2 ((ml c).mp hc).2 z
  have sm : ∀ x ∈ m, x ∈ l := fun x hx => by
    obtain ⟨y, hy, rfl⟩ := List.mem_map.mp hx
    refine (ml _).mpr ⟨?_, Nat.mod_lt _ (by omega)⟩
    rcases Nat.eq_zero_or_pos (a * y % p) with z | z
    · rcases hp.euclid (Nat.dvd_of_mod_eq_zero z) with q | q
      · exact absurd q ha
      · exact absurd q (ndx y hy)
    · exact z
  have pm : l.Perm m := perm_of_sub nm sm (by simp [m])
  have e := prodN_map_mod p a l
  rw [← prodN_perm pm, ll] at e
  have hd : ¬ p ∣ prodN l := prodN_cop hp ndx
  have e2 : prodN l * (1 % p) % p = prodN l * (a ^ (p - 1) % p) % p := by
    rw [Nat.mul_mod, Nat.mod_mod, ← Nat.mul_mod, Nat.mul_one, e, Nat.mul_mod (prodN l), Nat.mod_mod, ← Nat.mul_mod, Nat.mul_comm]
  have := mod_cancel hp hd (Nat.mod_lt _ (by omega)) (Nat.mod_lt _ (by omega)) e2
  rw [← this]
  exact Nat.mod_eq_of_lt (by omega)

/-! ### roots of a sum of powers, the highest one once -/
def evM : List Int → Int → Int
  | [], _ => 1
  | c :: cs, x => c + x * evM cs x
def comb : List Int → Int → List Int → List Int
  | [], _, _ => []
  | c :: cs, r, [] => (c + r) :: cs
  | c :: cs, r, d :: ds => (c + r * d) :: comb cs r ds
def quoM : List Int → Int → List Int
  | [], _ => []
  | _ :: cs, r => comb cs r (quoM cs r)
theorem comb_len : ∀ (cs : List Int) (r : Int) (ds : List Int), (comb cs r ds).length = cs.length
  | [], _, _ => rfl
  | _ :: _, _, [] => rfl
  | c :: cs, r, d :: ds => by simp only [comb, List.length_cons, comb_len cs r ds]
theorem quoM_len (c : Int) (cs : List Int) (r : Int) : (quoM (c :: cs) r).length = cs.length := comb_len _ _ _
theorem ev_comb : ∀ (cs : List Int) (r x : Int) (ds : List Int), cs.length = ds.length + 1 → evM (comb cs r ds) x = evM cs x + r * evM ds x
  | [], _, _, _, h => by simp at h
  | [c], r, x, [], _ => by
    simp only [comb, evM, Int.mul_one]
    omega
  | c :: c2 :: cs, r, x, [], h => by simp at h
  | c :: cs, r, x, d :: ds, h => by
    simp only [comb, evM]
    rw [ev_comb cs r x ds (by simpa using h)]
    simp only [Int.mul_add]
    have e : x * (r * evM ds x) = r * (x * evM ds x) := Int.mul_left_comm x r _
    omega
theorem ev_quo : ∀ (cs : List Int) (c r x : Int), evM (c :: cs) x - evM (c :: cs) r = (x - r) * evM (quoM (c :: cs) r) x
  | [], c, r, x => by
    simp only [quoM, comb, evM, Int.mul_one]
    omega
  | d :: ds, c, r, x => by
    have ih := ev_quo ds d r x
    have hl : (d :: ds).length = (quoM (d :: ds) r).length + 1 := by rw [quoM_len, List.length_cons]
    rw [show quoM (c :: d :: ds) r = comb (d :: ds) r (quoM (d :: ds) r) from rfl, ev_comb _ _ _ _ hl]
    rw [show evM (c :: d :: ds) x = c + x * evM (d :: ds) x from rfl, show evM (c :: d :: ds) r = c + r * evM (d :: ds) r from rfl]
    generalize evM (d :: ds) x = Ex at ih ⊢
    generalize evM (d :: ds) r = Er at ih ⊢
    generalize evM (quoM (d :: ds) r) x = Eq at ih ⊢
    have e1 : (x - r) * (Ex + r * Eq) = (x - r) * Ex + r * ((x - r) * Eq) := by
      rw [Int.mul_add, Int.mul_left_comm (x - r) r Eq]
    rw [e1, ← ih, Int.sub_mul, Int.mul_sub]
    omega
theorem IsPr.euclidZ {p : Nat} {a b : Int} (hp : IsPr p) (h : (p : Int) ∣ a * b) : (p : Int) ∣ a ∨ (p : Int) ∣ b := by
  have h1 : p ∣ a.natAbs * b.natAbs := by
    rw [← Int.natAbs_mul]
    exact Int.ofNat_dvd_left.mp h
  rcases hp.euclid h1 with z | z
  · exact .inl (Int.ofNat_dvd_left.mpr z)
  · exact .inr (Int.ofNat_dvd_left.mpr z)
theorem roots_le {p : Nat} (hp : IsPr p) : ∀ (n : Nat) (f : List Int) (rs : List Int), f.length = n → (rs.Pairwise fun a b => ¬ (p : Int) ∣ b - a) → (∀ r ∈ rs, (p : Int) ∣ evM f r) → rs.length ≤ n
  | _, [], [], _, _, _ => Nat.zero_le _
  | _, [], r :: rs, _, _, h => by
    have h1 : (p : Int) ∣ 1 := h r (List.mem_cons_self ..)
    have h2 := Nat.le_of_dvd (by decide) (Int.ofNat_dvd_left.mp h1)
    have h3 := hp.1
    simp at h2
    omega
  | _, c :: cs, [], _, _, _ => Nat.zero_le _
  | 0, c :: cs, r :: rs, e, _, _ => by simp at e
  | n + 1, c :: cs, r :: rs, e, hpw, h => by
    obtain ⟨h1, h2⟩ := List.pairwise_cons.mp hpw
    have hr := h r (List.mem_cons_self ..)
    have := roots_le hp n (quoM (c :: cs) r) rs (by rw [quoM_len]; simpa using e) h2 (fun s hs => by
      have hs' := h s (List.mem_cons_of_mem _ hs)
      have d := Int.dvd_sub hs' hr
      rw [ev_quo] at d
      rcases hp.euclidZ d with z | z
      · exact absurd z (h1 s hs)
      · exact z)
    simpa using this
theorem ev_zeros (x : Int) : ∀ k : Nat, evM (List.replicate k 0) x = x ^ k
  | 0 => by rw [Int.pow_zero]; rfl
  | k + 1 => by
    rw [List.replicate_succ]
    show 0 + x * evM (List.replicate k 0) x = _
    rw [ev_zeros x k, Int.zero_add, Int.pow_succ, Int.mul_comm]
/-- a power less one -/
theorem ev_pow (x : Int) {h : Nat} (h1 : 1 ≤ h) : evM (-1 :: List.replicate (h - 1) 0) x = x ^ h - 1 := by
  show -1 + x * evM (List.replicate (h - 1) 0) x = _
  rw [ev_zeros]
  obtain ⟨k, rfl⟩ : ∃ k, h = k + 1 := ⟨h - 1, by omega⟩
  rw [Nat.add_sub_cancel, Int.pow_succ, Int.mul_comm]
  omega
/-! ### Euler -/
theorem dvd_pow_sub_one {p a e : Nat} (h2 : 2 ≤ p) (h : a ^ e % p = 1) : (p : Int) ∣ (a : Int) ^ e - 1 := by
  have h1 : ((a ^ e : Nat) : Int) % (p : Int) = 1 := by
    have : ((a ^ e : Nat) : Int) % (p : Int) = ((a ^ e % p : Nat) : Int) := rfl
    rw [this, h]; rfl
  have e1 : ((a ^ e : Nat) : Int) = (a : Int) ^ e := by simp
  rw [e1] at h1
  refine Int.dvd_of_emod_eq_zero (Int.emod_eq_emod_iff_emod_sub_eq_zero.mp (h1.trans ?_))
  exact (Int.emod_eq_of_lt (by decide) (by omega)).symm
/-- a power that is one by p is a square's -/
theorem euler_sq {p a : Nat} (hp : IsPr p) (ho : p ≠ 2) (h : a ^ ((p - 1) / 2) % p = 1) : ∃ i : Nat, i < p ∧ i * i % p = a % p := by
  have h2 := hp.1
  have hodd : p % 2 = 1 := by
    rcases Nat.mod_two_eq_zero_or_one p with z | z
    · rcases hp.2 2 (Nat.dvd_of_mod_eq_zero z) with q | q <;> omega
    · exact z
  have hh : 2 * ((p - 1) / 2) = p - 1 := by omega
  have hh1 : 1 ≤ (p - 1) / 2 := by omega
  generalize hhd : (p - 1) / 2 = m at h hh hh1
  apply Classical.byContradiction
  intro hno
  let sq : List Int := (List.range m).map fun i => ((i + 1 : Nat) : Int) * ((i + 1 : Nat) : Int)
  have key := roots_le hp m (-1 :: List.replicate (m - 1) 0) ((a : Int) :: sq) (by simp; omega) ?_ ?_
  · simp [sq] at key
    omega
  · refine List.pairwise_cons.mpr ⟨fun b hb hd => ?_, ?_⟩
    · obtain ⟨i, hi, rfl⟩ := List.mem_map.mp hb
      rw [List.mem_range] at hi
      refine hno ⟨i + 1, by omega, ?_⟩
      have e := Int.emod_eq_emod_iff_emod_sub_eq_zero.mpr (Int.emod_eq_zero_of_dvd hd)
      have e2 : (((i + 1) * (i + 1) % p : Nat) : Int) = ((a % p : Nat) : Int) := by
        rw [Int.natCast_emod, Int.natCast_mul, Int.natCast_emod]
        exact e
      omega
    · show (List.map _ _).Pairwise _
      rw [List.pairwise_map]
      refine List.pairwise_lt_range.imp_of_mem fun {i j} hi hj hij hd => ?_
      rw [List.mem_range] at hi hj
      have e : ((j + 1 : Nat) : Int) * ((j + 1 : Nat) : Int) - ((i + 1 : Nat) : Int) * ((i + 1 : Nat) : Int) = ((j - i : Nat) : Int) * ((i + j + 2 : Nat) : Int) := by
        obtain ⟨d, rfl⟩ := Nat.exists_eq_add_of_le (Nat.le_of_lt hij)
        rw [show i + d - i = d by omega]
        have q : (i + d + 1) * (i + d + 1) = (i + 1) * (i + 1) + d * (i + (i + d) + 2) := by
          simp only [Nat.mul_add, Nat.add_mul]
          have := Nat.mul_comm i d
          omega
        have q2 : ((i + d + 1 : Nat) : Int) * ((i + d + 1 : Nat) : Int) = ((i + 1 : Nat) : Int) * ((i + 1 : Nat) : Int) + (d : Int) * ((i + (i + d) + 2 : Nat) : Int) := by
          rw [← Int.natCast_mul, ← Int.natCast_mul, ← Int.natCast_mul, ← Int.natCast_add, q]
        omega
      rw [e] at hd
      rcases hp.euclidZ hd with z | z
      · have := Nat.le_of_dvd (by omega) (Int.natCast_dvd_natCast.mp z)
        omega
      · have := Nat.le_of_dvd (by omega) (Int.natCast_dvd_natCast.mp z)
        omega
  · intro r hr
    rw [ev_pow _ hh1]
    rcases List.mem_cons.mp hr with z | z
    · subst z
      exact dvd_pow_sub_one h2 h
    · obtain ⟨i, hi, rfl⟩ := List.mem_map.mp z
      rw [List.mem_range] at hi
      have nd : ¬ p ∣ i + 1 := fun z => by
        have := Nat.le_of_dvd (by omega) z
        omega
      have f := dvd_pow_sub_one h2 (fermat hp nd)
      have e : (((i + 1 : Nat) : Int) * ((i + 1 : Nat) : Int)) ^ m = ((i + 1 : Nat) : Int) ^ (p - 1) := by
        rw [← hh, Int.mul_pow, ← Int.pow_add]
        congr 1
        omega
      rw [e]
      exact f

/-! ### rests of squares -/
def Rest (p : Nat) (n : Int) : Prop := ∃ s : Int, (p : Int) ∣ s * s - n
def am (n : Int) (p : Nat) : Nat := (n % (p : Int)).toNat
theorem am_cast {p : Nat} (h2 : 1 ≤ p) (n : Int) : ((am n p : Nat) : Int) = n % (p : Int) := by
  unfold am
  have := Int.emod_nonneg n (show (p : Int) ≠ 0 by omega)
  omega
theorem am_lt {p : Nat} (h2 : 1 ≤ p) (n : Int) : am n p < p := by
  have h1 := am_cast h2 n
  have h3 := Int.emod_lt_of_pos n (show (0 : Int) < p by omega)
  omega
theorem am_dvd {p : Nat} (h2 : 1 ≤ p) (n : Int) : (p : Int) ∣ n - am n p := by
  rw [am_cast h2]
  exact Int.dvd_self_sub_emod
theorem rest_iff {p : Nat} (h2 : 1 ≤ p) (n : Int) : Rest p n ↔ ∃ i : Nat, i < p ∧ i * i % p = am n p := by
  constructor
  · rintro ⟨s, h⟩
    refine ⟨am s p, am_lt h2 s, ?_⟩
    have d1 := am_dvd h2 s
    have d2 := am_dvd h2 n
    have e : (p : Int) ∣ ((am s p : Nat) : Int) * ((am s p : Nat) : Int) - ((am n p : Nat) : Int) := by
      have e1 : ((am s p : Nat) : Int) * ((am s p : Nat) : Int) - ((am n p : Nat) : Int) = (s * s - n) + (n - (am n p : Nat)) - (s - (am s p : Nat)) * (s + (am s p : Nat)) := by
        rw [Int.sub_mul, Int.mul_add, Int.mul_add, Int.mul_comm ((am s p : Nat) : Int) s]
        omega
      rw [e1]
      exact Int.dvd_sub (Int.dvd_add h d2) (Int.dvd_mul_of_dvd_left d1)
    have e2 := Int.emod_eq_emod_iff_emod_sub_eq_zero.mpr (Int.emod_eq_zero_of_dvd e)
    have e3 : ((am s p * am s p % p : Nat) : Int) = ((am n p % p : Nat) : Int) := by
      rw [Int.natCast_emod, Int.natCast_mul, Int.natCast_emod]
      exact e2
    have e4 : am s p * am s p % p = am n p % p := by omega
    rw [e4, Nat.mod_eq_of_lt (am_lt h2 n)]
  · rintro ⟨i, hi, e⟩
    refine ⟨i, ?_⟩
    have d2 := am_dvd h2 n
    have e3 : ((i * i % p : Nat) : Int) = ((am n p : Nat) : Int) := by rw [e]
    rw [Int.natCast_emod, Int.natCast_mul] at e3
    have d3 : (p : Int) ∣ (i : Int) * (i : Int) - ((i : Int) * (i : Int)) % (p : Int) := Int.dvd_self_sub_emod
    rw [e3] at d3
    have e4 : (i : Int) * (i : Int) - n = ((i : Int) * (i : Int) - (am n p : Nat)) - (n - (am n p : Nat)) := by omega
    rw [e4]
    exact Int.dvd_sub d3 d2
theorem rest_brute {p : Nat} (h2 : 1 ≤ p) (n : Int) : Rest p n ↔ ∃ i : Nat, i < p ∧ ((i : Int) * (i : Int) - n) % (p : Int) = 0 := by
  rw [rest_iff h2]
  constructor
  · rintro ⟨i, hi, e⟩
    refine ⟨i, hi, ?_⟩
    have h : Rest p n := (rest_iff h2 n).mpr ⟨i, hi, e⟩
    have d2 := am_dvd h2 n
    have e3 : ((i * i % p : Nat) : Int) = ((am n p : Nat) : Int) := by rw [e]
    rw [Int.natCast_emod, Int.natCast_mul] at e3
    have d3 : (p : Int) ∣ (i : Int) * (i : Int) - ((i : Int) * (i : Int)) % (p : Int) := Int.dvd_self_sub_emod
    rw [e3] at d3
    have e4 : (i : Int) * (i : Int) - n = ((i : Int) * (i : Int) - (am n p : Nat)) - (n - (am n p : Nat)) := by omega
    rw [e4]
    exact Int.emod_eq_zero_of_dvd (Int.dvd_sub d3 d2)
  · rintro ⟨i, hi, e⟩
    exact (rest_iff h2 n).mp ⟨i, Int.dvd_of_emod_eq_zero e⟩
theorem odd_pr {p : Nat} (hp : IsPr p) (ho : p ≠ 2) : p % 2 = 1 := by
  have h2 := hp.1
  rcases Nat.mod_two_eq_zero_or_one p with z | z
  · rcases hp.2 2 (Nat.dvd_of_mod_eq_zero z) with q | q <;> omega
  · exact z
/-- Euler's word: the power is 0 or 1 just for the rests of squares -/
theorem euler_rest {p : Nat} (hp : IsPr p) (ho : p ≠ 2) (n : Int) : (am n p ^ ((p - 1) / 2) % p = 0 ∨ am n p ^ ((p - 1) / 2) % p = 1) ↔ Rest p n := by
  have h2 := hp.1
  have hodd := odd_pr hp ho
  have hh : 2 * ((p - 1) / 2) = p - 1 := by omega
  have hh1 : 1 ≤ (p - 1) / 2 := by omega
  rw [rest_iff (by omega)]
  generalize hhd : (p - 1) / 2 = m at hh hh1 ⊢
  have hal := am_lt (p := p) (by omega) n
  constructor
  · rintro (h | h)
    · have hd := hp.pow (Nat.dvd_of_mod_eq_zero h)
      have : am n p = 0 := by
        rcases Nat.eq_zero_or_pos (am n p) with z | z
        · exact z
        · have := Nat.le_of_dvd z hd
          omega
      exact ⟨0, by omega, by rw [this]; simp⟩
    · rw [← hhd] at h
      obtain ⟨i, hi, e⟩ := euler_sq hp ho h
      exact ⟨i, hi, by rw [e, Nat.mod_eq_of_lt hal]⟩
  · rintro ⟨i, hi, e⟩
    rw [← e, ← Nat.pow_mod]
    by_cases hd : p ∣ i
    · left
      have : p ∣ (i * i) ^ m := Nat.dvd_trans (Nat.dvd_trans hd (Nat.dvd_mul_right i i)) (by
        obtain ⟨k, rfl⟩ : ∃ k, m = k + 1 := ⟨m - 1, by omega⟩
        rw [Nat.pow_succ]
        exact Nat.dvd_mul_left _ _)
      exact Nat.mod_eq_zero_of_dvd this
    · right
      have e2 : (i * i) ^ m = i ^ (p - 1) := by
        rw [← hh, Nat.mul_pow, ← Nat.pow_add]
        congr 1
        omega
      rw [e2]
      exact fermat hp hd
theorem rest_two (n : Int) : Rest 2 n := by
  refine ⟨n, ?_⟩
  have e : n * n - n = n * (n - 1) := by rw [Int.mul_sub, Int.mul_one]
  rw [e]
  rcases (show n % 2 = 0 ∨ n % 2 = 1 by omega) with z | z
  · exact Int.dvd_mul_of_dvd_left (Int.dvd_of_emod_eq_zero z)
  · exact Int.dvd_mul_of_dvd_right (Int.dvd_of_emod_eq_zero (by omega))
/-! ### powers by squaring -/
theorem pow_step (p power square left : Nat) (ho : left % 2 = 1) : (power * square % p) * (square * square % p) ^ (left / 2) % p = power * square ^ left % p := by
  rw [Nat.mul_mod, Nat.mod_mod, ← Nat.pow_mod, ← Nat.mul_mod]
  congr 1
  have e : square ^ left = square * (square * square) ^ (left / 2) := by
    have : left = 1 + 2 * (left / 2) := by omega
    conv => lhs; rw [this]
    rw [Nat.pow_add, Nat.pow_one, Nat.mul_pow, Nat.two_mul, Nat.pow_add]
  rw [e, Nat.mul_assoc]
theorem pow_even (p power square left : Nat) (he : left % 2 = 0) : power * (square * square % p) ^ (left / 2) % p = power * square ^ left % p := by
  rw [Nat.mul_mod, ← Nat.pow_mod, ← Nat.mul_mod]
  congr 1
  have e : square ^ left = (square * square) ^ (left / 2) := by
    have : left = 2 * (left / 2) := by omega
    conv => lhs; rw [this]
    rw [Nat.mul_pow, Nat.two_mul, Nat.pow_add]
  rw [e]
/-! ### small primes by looking -/
/-! ### plain parts are told in one way -/
structure PlainOf (n s : Int) (f : Nat) : Prop where
  eq : n = s * ((f : Int) * (f : Int))
  pos : 1 ≤ f
  sq : ∀ k : Nat, 2 ≤ k → ¬ k * k ∣ s.natAbs
theorem sq_dvd {f g m : Nat} (hf : 1 ≤ f) (hsq : ∀ k : Nat, 2 ≤ k → ¬ k * k ∣ m) (h : f * f ∣ m * (g * g)) : f ∣ g := by
  have hd : 0 < Nat.gcd f g := Nat.gcd_pos_of_pos_left _ hf
  obtain ⟨a, ha⟩ := Nat.gcd_dvd_left f g
  obtain ⟨b, hb⟩ := Nat.gcd_dvd_right f g
  have cop : Nat.Coprime a b := by
    have h1 := Nat.coprime_div_gcd_div_gcd (m := f) (n := g) hd
    have e1 : f / Nat.gcd f g = a := Nat.div_eq_of_eq_mul_right hd ha
    have e2 : g / Nat.gcd f g = b := Nat.div_eq_of_eq_mul_right hd hb
    rw [e1, e2] at h1
    exact h1
  generalize Nat.gcd f g = d at ha hb hd
  have h2 : a * a ∣ m * (b * b) := by
    have e1 : f * f = (d * d) * (a * a) := by rw [ha]; ac_rfl
    have e2 : m * (g * g) = (d * d) * (m * (b * b)) := by rw [hb]; ac_rfl
    rw [e1, e2] at h
    exact Nat.dvd_of_mul_dvd_mul_left (Nat.mul_pos hd hd) h
  have c2 : Nat.Coprime (a * a) (b * b) := Nat.Coprime.mul_left (Nat.Coprime.mul_right cop cop) (Nat.Coprime.mul_right cop cop)
  have h3 : a * a ∣ m := Nat.Coprime.dvd_of_dvd_mul_right c2 h2
  have ha1 : a = 1 := by
    rcases Nat.lt_or_ge a 2 with z | z
    · have : a ≠ 0 := fun e => by subst e; simp at ha; omega
      omega
    · exact absurd h3 (hsq a z)
  subst ha1
  rw [Nat.mul_one] at ha
  rw [ha]
  exact ⟨b, hb⟩
theorem PlainOf.uniq {n s s' : Int} {f f' : Nat} (h : PlainOf n s f) (h' : PlainOf n s' f') : s = s' ∧ f = f' := by
  have e : s.natAbs * (f * f) = s'.natAbs * (f' * f') := by
    have e1 : n.natAbs = s.natAbs * (f * f) := by rw [h.eq, Int.natAbs_mul, Int.natAbs_mul]; rfl
    have e2 : n.natAbs = s'.natAbs * (f' * f') := by rw [h'.eq, Int.natAbs_mul, Int.natAbs_mul]; rfl
    rw [← e1, ← e2]
  have d1 : f ∣ f' := sq_dvd h.pos h'.sq (e ▸ Nat.dvd_mul_left _ _)
  have d2 : f' ∣ f := sq_dvd h'.pos h.sq (e ▸ Nat.dvd_mul_left _ _)
  have ef := Nat.dvd_antisymm d1 d2
  subst ef
  refine ⟨?_, rfl⟩
  have e3 := h.eq.symm.trans h'.eq
  have h0 : ((f : Int) * (f : Int)) ≠ 0 := by
    intro z
    have := h.pos
    rcases Int.mul_eq_zero.mp z with z | z <;> omega
  exact Int.eq_of_mul_eq_mul_right h0 e3
/-! ### what shuts a form -/
def ShutP (s t : Int) (p : Nat) : Prop :=
  ((p : Int) ∣ s ∧ (p : Int) ∣ t ∧ ¬ Rest p (-(s / p) * (t / p))) ∨ ((p : Int) ∣ s ∧ ¬ (p : Int) ∣ t ∧ ¬ Rest p t) ∨ (¬ (p : Int) ∣ s ∧ (p : Int) ∣ t ∧ ¬ Rest p s)
/-- of two numbers, by their plain parts -/
def Shuts (a b : Int) (p : Nat) : Prop := ∃ (s t : Int) (f g : Nat), PlainOf a s f ∧ PlainOf b t g ∧ ShutP s t p
theorem Shuts.iff {a b s t : Int} {f g : Nat} (ha : PlainOf a s f) (hb : PlainOf b t g) (p : Nat) : Shuts a b p ↔ ShutP s t p := by
  constructor
  · rintro ⟨s', t', f', g', h1, h2, h⟩
    obtain ⟨rfl, _⟩ := ha.uniq h1
    obtain ⟨rfl, _⟩ := hb.uniq h2
    exact h
  · exact fun h => ⟨s, t, f, g, ha, hb, h⟩
theorem PlainOf.dvd {n s : Int} {f : Nat} (h : PlainOf n s f) {p : Int} (hp : p ∣ s) : p ∣ n := by
  rw [h.eq]
  exact Int.dvd_mul_of_dvd_left hp
theorem ShutP.dvd {s t : Int} {p : Nat} (h : ShutP s t p) : (p : Int) ∣ s ∨ (p : Int) ∣ t := by
  rcases h with h | h | h
  · exact .inl h.1
  · exact .inl h.1
  · exact .inr h.2.1
theorem Shuts.dvd {a b : Int} {p : Nat} (h : Shuts a b p) : (p : Int) ∣ a * b := by
  obtain ⟨s, t, f, g, h1, h2, h⟩ := h
  rcases h.dvd with z | z
  · exact Int.dvd_mul_of_dvd_left (h1.dvd z)
  · exact Int.dvd_mul_of_dvd_right (h2.dvd z)
/-! ### the plain part by looking -/
structure PlainTo (n s : Int) (f k : Nat) : Prop where
  eq : n = s * ((f : Int) * (f : Int))
  pos : 1 ≤ f
  nz : s ≠ 0
  sq : ∀ j : Nat, 2 ≤ j → j < k → ¬ j * j ∣ s.natAbs
theorem PlainTo.start {n : Int} (h : n ≠ 0) : PlainTo n n 1 2 := ⟨by simp, Nat.le_refl 1, h, fun j h1 h2 => by omega⟩
theorem PlainTo.take {n s : Int} {f k : Nat} (h : PlainTo n s f k) (hk : 2 ≤ k) (hd : ((k : Int) * (k : Int)) ∣ s) : PlainTo n (s / ((k : Int) * (k : Int))) (f * k) k ∧ (s / ((k : Int) * (k : Int))).natAbs < s.natAbs := by
  obtain ⟨c, rfl⟩ := hd
  have kk : ((k : Int) * (k : Int)) ≠ 0 := by
    intro z
    rcases Int.mul_eq_zero.mp z with z | z <;> omega
  rw [Int.mul_ediv_cancel_left _ kk]
  have c0 : c ≠ 0 := fun z => h.nz (by rw [z, Int.mul_zero])
  refine ⟨⟨?_, Nat.mul_pos h.pos (by omega), c0, fun j h1 h2 hd => h.sq j h1 h2 (Nat.dvd_trans hd ?_)⟩, ?_⟩
  · rw [h.eq, Int.natCast_mul]
    ac_rfl
  · rw [Int.natAbs_mul]
    exact Nat.dvd_mul_left _ _
  · rw [Int.natAbs_mul, Int.natAbs_mul]
    have h1 : 1 ≤ c.natAbs := by omega
    have h2 : 4 ≤ (k : Int).natAbs * (k : Int).natAbs := Nat.mul_le_mul (show 2 ≤ (k : Int).natAbs by omega) (show 2 ≤ (k : Int).natAbs by omega)
    have h3 := Nat.mul_le_mul_right c.natAbs h2
    omega
theorem PlainTo.next {n s : Int} {f k : Nat} (h : PlainTo n s f k) (hd : ¬ ((k : Int) * (k : Int)) ∣ s) : PlainTo n s f (k + 1) := by
  refine ⟨h.eq, h.pos, h.nz, fun j h1 h2 hj => ?_⟩
  rcases Nat.lt_or_ge j k with z | z
  · exact h.sq j h1 z hj
  · have : j = k := by omega
    subst this
    exact hd (by rw [← Int.natCast_mul]; exact Int.ofNat_dvd_left.mpr hj)
theorem PlainTo.done {n s : Int} {f k : Nat} (h : PlainTo n s f k) (hk : s.natAbs < k * k) : PlainOf n s f :=
  ⟨h.eq, h.pos, fun j h1 hj => by
    rcases Nat.lt_or_ge j k with z | z
    · exact h.sq j h1 z hj
    · have h2 := Nat.le_of_dvd (by have := h.nz; omega) hj
      have h3 := Nat.mul_le_mul z z
      omega⟩
/-! ### odd primes by looking -/
structure OddTo (n left k : Nat) (L : List Nat) : Prop where
  two : 2 ≤ k
  pos : 1 ≤ left
  dvd : left ∣ n
  no : ∀ d, 2 ≤ d → d < k → ¬ d ∣ left
  inL : ∀ p ∈ L, IsPr p ∧ p ≠ 2 ∧ p ∣ n
  all : ∀ p, IsPr p → p ≠ 2 → p ∣ n → p ∈ L ∨ p ∣ left
theorem OddTo.start {n : Nat} (h : 1 ≤ n) : OddTo n n 2 [] := ⟨by omega, h, Nat.dvd_refl n, fun d h1 h2 => by omega, nofun, fun p _ _ hd => .inr hd⟩
theorem OddTo.k_le {n left k : Nat} {L : List Nat} (O : OddTo n left k L) (h : 1 < left) : k ≤ left := Nat.le_of_not_lt fun z => O.no left h z (Nat.dvd_refl _)
theorem OddTo.up {n left k : Nat} {L : List Nat} (O : OddTo n left k L) (h1 : 1 < left) (h : left < k * k) : OddTo n left left L :=
  ⟨h1, O.pos, O.dvd, fun d h2 h3 hd => by
    rcases (pr_of_end h1 O.no h).2 d hd with e | e <;> omega, O.inL, O.all⟩
theorem OddTo.next {n left k : Nat} {L : List Nat} (O : OddTo n left k L) (h : ¬ k ∣ left) : OddTo n left (k + 1) L :=
  ⟨by have := O.two; omega, O.pos, O.dvd, fun d h2 h3 hd => by
    rcases Nat.lt_or_ge d k with z | z
    · exact O.no d h2 z hd
    · have : d = k := by omega
      subst this; exact h hd, O.inL, O.all⟩
theorem OddTo.found {n left k lf e : Nat} {L : List Nat} (O : OddTo n left k L) (he : 1 ≤ e) (h : left = lf * k ^ e) (hnd : ¬ k ∣ lf) : OddTo n lf (k + 1) (if 2 < k then L ++ [k] else L) := by
  have hkd : k ∣ left := by
    rw [h]
    obtain ⟨j, rfl⟩ : ∃ j, e = j + 1 := ⟨e - 1, by omega⟩
    rw [Nat.pow_succ, ← Nat.mul_assoc]
    exact Nat.dvd_mul_left _ _
  have hk : IsPr k := pr_of_least O.two hkd O.no O.pos
  have hlf : lf ∣ left := h ▸ Nat.dvd_mul_right _ _
  have hpos : 1 ≤ lf := by
    rcases Nat.eq_zero_or_pos lf with z | z
    · have := O.pos
      rw [h, z, Nat.zero_mul] at this
      omega
    · exact z
  refine ⟨by have := O.two; omega, hpos, Nat.dvd_trans hlf O.dvd, fun d h2 h3 hd => ?_, fun p hp => ?_, fun p hp h2 hd => ?_⟩
  · rcases Nat.lt_or_ge d k with z | z
    · exact O.no d h2 z (Nat.dvd_trans hd hlf)
    · have : d = k := by omega
      subst this; exact hnd hd
  · by_cases z : 2 < k
    · rw [if_pos z] at hp
      rcases List.mem_append.mp hp with q | q
      · exact O.inL p q
      · rw [List.mem_singleton.mp q]
        exact ⟨hk, by omega, Nat.dvd_trans hkd O.dvd⟩
    · rw [if_neg z] at hp
      exact O.inL p hp
  · have old : p ∈ L → p ∈ (if 2 < k then L ++ [k] else L) := fun q => by
      split
      · exact List.mem_append_left _ q
      · exact q
    rcases O.all p hp h2 hd with q | q
    · exact .inl (old q)
    · rw [h] at q
      rcases hp.euclid q with z | z
      · exact .inr z
      · have e := hp.dvd_pr hk (hp.pow z)
        subst e
        have : 2 < p := by have := hp.1; omega
        rw [if_pos this]
        exact .inl (List.mem_append_right _ (List.mem_singleton.mpr rfl))
theorem OddTo.done {n left k : Nat} {L : List Nat} (O : OddTo n left k L) (h : ¬ 1 < left) : ∀ p, p ∈ L ↔ IsPr p ∧ p ≠ 2 ∧ p ∣ n := fun p => by
  constructor
  · exact O.inL p
  · rintro ⟨h1, h2, h3⟩
    rcases O.all p h1 h2 h3 with z | z
    · exact z
    · have e : left = 1 := by have := O.pos; omega
      rw [e] at z
      have := Nat.le_of_dvd (by decide) z
      have := h1.1
      omega
end EM
/-! EvBase: what every row of stage 1 shares; no row is named here. Behind EvTry, EvMath. -/
namespace E1
open PySem L2
/-! ### whole numbers by their kinds -/
inductive WholeIs (K : PySem.W.Frag) (H : Hp) : V → Bool → Prop where
  | int (i : Int) : WholeIs K H (.int i) true
  | bl (x : Bool) : WholeIs K H (.bl x) false
  | odd {v : V} {T : String} (ty : TyOf K H v (.type T)) (k : PySem.W.kitOne K (.type T) (.type "int") = some false) : WholeIs K H v false
theorem ty_same {K : PySem.W.Frag} {H H' : Hp} {v : V} {T : String} (s : Same H H') (ty : TyOf K H v (.type T)) : TyOf K H' v (.type T) := by
  cases ty with
  | non => exact .non
  | bl x => exact .bl x
  | int i => exact .int i
  | str x => exact .str x
  | flt x => exact .flt x
  | lst e => exact .lst (s _ _ e)
  | frz e => exact .frz (s _ _ e)
  | tup e => exact .tup (s _ _ e)
  | dK e => exact .dK (s _ _ e)
  | dT e => exact .dT (s _ _ e)
theorem WholeIs.same {K : PySem.W.Frag} {H H' : Hp} {v : V} {b : Bool} (s : Same H H') (h : WholeIs K H v b) : WholeIs K H' v b := by
  cases h with
  | int i => exact .int i
  | bl x => exact .bl x
  | odd ty k => exact .odd (ty_same s ty) k
section
variable (K : PySem.W.Frag)
theorem kit_int_int : PySem.W.kitOne K (.type "int") (.type "int") = some true := by kernel_rfl
theorem kit_int_bool : PySem.W.kitOne K (.type "int") (.type "bool") = some false := by kernel_rfl
theorem kit_bool_int : PySem.W.kitOne K (.type "bool") (.type "int") = some true := by kernel_rfl
theorem kit_bool_bool : PySem.W.kitOne K (.type "bool") (.type "bool") = some true := by kernel_rfl
theorem kit_none_int : PySem.W.kitOne K (.type "NoneType") (.type "int") = some false := by kernel_rfl
theorem kit_str_int : PySem.W.kitOne K (.type "str") (.type "int") = some false := by kernel_rfl
theorem kit_tup_int : PySem.W.kitOne K (.type "tuple") (.type "int") = some false := by kernel_rfl
theorem kit_lst_int : PySem.W.kitOne K (.type "list") (.type "int") = some false := by kernel_rfl
theorem kit_dct_int : PySem.W.kitOne K (.type "dict") (.type "int") = some false := by kernel_rfl
end
theorem rel_ty {n : String} {K : PySem.W.Frag} {t : Value} {b : Bool} (h : PySem.W.kitOne K t (.type n) = some b) : ∀ u, RelV (.ty n) u → PySem.W.kitOne K t u = some b := fun u r => by
  cases (show u = Value.type n from r)
  exact h
theorem rel_ref {c : Addr} {K : PySem.W.Frag} {t : Value} {b : Bool} (h : PySem.W.kitOne K t (.ref c) = some b) : ∀ u, RelV (.ref c) u → PySem.W.kitOne K t u = some b := fun u r => by
  cases (show u = Value.ref c from r)
  exact h
/-- what the walk asks of the names that stand at the top -/
structure Txt (K : PySem.W.Frag) (mg : Str → Option Value) (M C : Addr) : Prop where
  isi : mg "isinstance" = none
  int : mg "int" = none
  bool : mg "bool" = none
  abs : mg "abs" = none
  max : mg "max" = none
  min : mg "min" = none
  len : mg "len" = none
  range : mg "range" = none
  ve : mg "ValueError" = none
  tup : mg "tuple" = none
  lst : mg "list" = none
  str : mg "str" = none
  dct : mg "dict" = none
  any : mg "any" = none
  sor : mg "sorted" = none
  sum : mg "sum" = none
  all : mg "all" = none
  set : mg "set" = none
  zip : mg "zip" = none
  enu : mg "enumerate" = none
  mgM : mg "MeetError" = some (.ref M)
  mgC : mg "NoNumber" = some (.ref C)
  eM : PySem.W.ExcK K M
  eC : PySem.W.ExcK K C
  cl : PySem.W.ClsK K
  sub : PySem.W.mroIn K C (.ref M) = some true
  kC : PySem.W.kitOne K (.ref C) (.ref C) = some true
  kV : PySem.W.kitOne K (.ref C) (.type "ValueError") = some true
/-- the other refusals -/
structure Others (K : PySem.W.Frag) (mg : Str → Option Value) (C : Addr) (o1 o2 o3 o4 o5 o6 o7 o8 o9 o10 o11 o12 o13 : Addr) : Prop where
  m1 : mg "NoArc" = some (.ref o1)
  m2 : mg "NoBases" = some (.ref o2)
  m3 : mg "NoDeskRow" = some (.ref o3)
  m4 : mg "NoDual" = some (.ref o4)
  m5 : mg "NoField" = some (.ref o5)
  m6 : mg "NoLayout" = some (.ref o6)
  m7 : mg "NoMeeting" = some (.ref o7)
  m8 : mg "NoName" = some (.ref o8)
  m9 : mg "NoNet" = some (.ref o9)
  m10 : mg "NoPart" = some (.ref o10)
  m11 : mg "NoRow" = some (.ref o11)
  m12 : mg "NoText" = some (.ref o12)
  m13 : mg "NoWish" = some (.ref o13)
  k1 : PySem.W.kitAny K (.ref C) [.ref o1, .ref o2, .ref o3, .ref o4, .ref o5, .ref o6, .ref o7, .ref o8, .ref o9, .ref o10, .ref o11] = some false
  k2 : PySem.W.kitAny K (.ref C) [.ref o12, .ref o13] = some false
/-! ### the promises -/
def spWhole (K : PySem.W.Frag) : Sp := fun vs H Q _ => ∃ v b, vs = [v] ∧ WholeIs K H v b ∧ Q (.bl b) H
def spMust (K : PySem.W.Frag) (C : Addr) : Sp := fun vs H Q E => ∃ v b, vs = [v] ∧ WholeIs K H v b ∧ (b = true → Q .non H) ∧ (b = false → E (.ref C) none H)
def spCell (K : PySem.W.Frag) : Sp := fun vs H Q _ => ∃ (a : Addr) (ns : List Int) (k : Nat), vs = [.ref a, .int (k : Int)] ∧ SqL K H a (ns.map V.int) ∧ k ≤ 1000 ∧ ∀ z : Int, Q (.int z) H
def spPool : Sp := fun vs H Q _ => ∃ c : Int, vs = [.int c] ∧ ∀ p f, H p = none → 0 ≤ f → Q (.ref p) (upd H p (.lst [.int f]))
def spTake : Sp := fun vs H Q _ => ∃ (p : Addr) (f m : Int), vs = [.ref p, .int m] ∧ H p = some (.lst [.int f]) ∧ 0 ≤ f ∧ 0 < m ∧ m < 1073741824 ∧ ∀ g r : Int, 0 ≤ g → 0 ≤ r → r < m → Q (.int r) (upd H p (.lst [.int g]))
/-- all but what stands at p is as it was; there a pool stands again -/
structure Drawn1 (p : Addr) (H H' : Hp) : Prop where
  pool : ∃ g : Int, 0 ≤ g ∧ H' p = some (.lst [.int g])
  kept : ∀ b o, H b = some o → b ≠ p → H' b = some o
theorem Drawn1.trans {p : Addr} {H H1 H2 : Hp} (a : Drawn1 p H H1) (b : Drawn1 p H1 H2) : Drawn1 p H H2 := ⟨b.pool, fun c o h n => b.kept c o (a.kept c o h n) n⟩
theorem Drawn1.put {p : Addr} {H : Hp} {g : Int} (h0 : 0 ≤ g) : Drawn1 p H (upd H p (.lst [.int g])) := ⟨⟨g, h0, upd_same⟩, fun _ _ h n => by rw [upd_ne n]; exact h⟩
theorem Drawn1.new {p q : Addr} {H : Hp} {o : HO} {f : Int} (h0 : 0 ≤ f) (e : H p = some (.lst [.int f])) (n : H q = none) : Drawn1 p H (upd H q o) :=
  ⟨⟨f, h0, by rw [upd_ne (ne_of_none e n)]; exact e⟩, fun b u h _ => by rw [upd_ne (ne_of_none h n)]; exact h⟩
theorem same_new {q : Addr} {H : Hp} {o : HO} (n : H q = none) : Same H (upd H q o) := fun b u h => by rw [upd_ne (ne_of_none h n)]; exact h
def spRef (C : Addr) : Sp := fun vs H Q _ => ∃ a, vs = [.ref a] ∧ H a = some (XO a C) ∧ ∀ H', Same H H' → Q (.bl true) H'
theorem abs_nat (i : Int) : (if i < 0 then -i else i) = ((i.natAbs : Nat) : Int) := by
  split <;> omega
theorem abs_nn (i : Int) : 0 ≤ (if i < 0 then -i else i) := by split <;> omega
theorem vals_refs : ∀ (l : List Addr) (us : List Value), Vals (l.map V.ref) us → us = l.map Value.ref
  | [], us, r => by cases r; rfl
  | a :: l, us, r => by
    cases r with
    | cons h t =>
      rw [vals_refs l _ t, show _ = Value.ref a from h]
      rfl
theorem passN {X : Cx} {P : Program} {w : World} : Passes (CX1 P w) X E0 := fun _ _ _ _ _ _ _ q => by
  obtain ⟨_, _, _, _, _, _, _, _, _, _, z⟩ := q
  exact z.elim
theorem cut_ints {ns : List Int} {lo hi : Option Int} : ∀ x ∈ cutV (ns.map V.int) lo hi, ∃ z, x = V.int z := fun x hx => by
  unfold cutV at hx
  obtain ⟨z, _, e⟩ := List.mem_map.mp (List.mem_of_mem_drop (List.mem_of_mem_take hx))
  exact ⟨z, e.symm⟩
theorem Drawn1.same {p : Addr} {H H' : Hp} {o : HO} (D : Drawn1 p (upd H p o) H') (n : H p = none) : Same H H' := fun b u h =>
  D.kept b u (by rw [upd_ne (ne_of_none h n)]; exact h) (ne_of_none h n)
/-! ### primes as tuples in a list -/
def spFrom (K : PySem.W.Frag) (C : Addr) : Sp := fun vs H Q E => ∃ (m : Int) (v : V), vs = [.int m, v] ∧ (m = 0 ∨ m = 1) ∧ ((∃ i, v = .int i ∧ m ≤ i ∧ Q .non H) ∨ (∃ i, v = .int i ∧ i < m ∧ E (.ref C) none H) ∨ (WholeIs K H v false ∧ E (.ref C) none H))
def TupsAt (H : Hp) : List V → List (Nat × Nat) → Prop
  | [], [] => True
  | v :: vs, x :: xs => (∃ t, v = .ref t ∧ H t = some (.tup [.int (x.1 : Nat), .int (x.2 : Nat)])) ∧ TupsAt H vs xs
  | _, _ => False
theorem TupsAt.imp {H H' : Hp} (h : ∀ t xs, H t = some (.tup xs) → H' t = some (.tup xs)) : ∀ {ws : List V} {L : List (Nat × Nat)}, TupsAt H ws L → TupsAt H' ws L
  | [], [], _ => trivial
  | v :: vs, x :: xs, ⟨⟨t, e, q⟩, r⟩ => ⟨⟨t, e, h _ _ q⟩, r.imp h⟩
theorem TupsAt.same {H H' : Hp} (s : Same H H') {ws : List V} {L : List (Nat × Nat)} (h : TupsAt H ws L) : TupsAt H' ws L := h.imp fun t xs q => s _ _ q
theorem TupsAt.upd {H : Hp} {l : Addr} {o : HO} {ys : List V} (hl : H l = some (.lst ys)) {ws : List V} {L : List (Nat × Nat)} (h : TupsAt H ws L) : TupsAt (upd H l o) ws L :=
  h.imp fun t xs q => by rw [upd_ne (ne_of q hl (by intro z; cases z))]; exact q
theorem TupsAt.snoc {H : Hp} {t : Addr} {x : Nat × Nat} (e : H t = some (.tup [.int (x.1 : Nat), .int (x.2 : Nat)])) : ∀ {ws : List V} {L : List (Nat × Nat)}, TupsAt H ws L → TupsAt H (ws ++ [.ref t]) (L ++ [x])
  | [], [], _ => ⟨⟨t, rfl, e⟩, trivial⟩
  | v :: vs, y :: ys, ⟨a, r⟩ => ⟨a, r.snoc e⟩
theorem TupsAt.len {H : Hp} : ∀ {ws : List V} {L : List (Nat × Nat)}, TupsAt H ws L → ws.length = L.length
  | [], [], _ => rfl
  | v :: vs, y :: ys, ⟨_, r⟩ => by rw [List.length_cons, List.length_cons, r.len]
theorem TupsAt.get {H : Hp} : ∀ {ws : List V} {L : List (Nat × Nat)} {i : Nat} {v : V}, TupsAt H ws L → ws[i]? = some v → ∃ t x, v = .ref t ∧ L[i]? = some x ∧ H t = some (.tup [.int (x.1 : Nat), .int (x.2 : Nat)])
  | v :: vs, y :: ys, 0, u, ⟨⟨t, e, q⟩, _⟩, h => by
    cases h
    exact ⟨t, y, e, rfl, q⟩
  | v :: vs, y :: ys, i + 1, u, ⟨_, r⟩, h => r.get (i := i) h
def spPrimes (K : PySem.W.Frag) (C : Addr) : Sp := fun vs H Q E =>
  (∃ n : Nat, vs = [.int (n : Nat)] ∧ 1 ≤ n ∧ n < 2 ^ 60 ∧ ∀ l ws L H', H l = none → Same H H' → H' l = some (.lst ws) → TupsAt H' ws L → EM.Fac n L → Q (.ref l) H') ∨
  (∃ v, vs = [v] ∧ (WholeIs K H v false ∨ ∃ i, v = .int i ∧ i < 1) ∧ E (.ref C) none H)
def spPlain (K : PySem.W.Frag) (C : Addr) : Sp := fun vs H Q E =>
  (∃ n : Int, vs = [.int n] ∧ n ≠ 0 ∧ n.natAbs < 2 ^ 30 ∧ ∀ (t : Addr) (s : Int) (f : Nat) (H' : Hp), Same H H' → H' t = some (.tup [.int s, .int (f : Nat)]) → n = s * ((f : Int) * (f : Int)) → 1 ≤ f → (∀ k : Nat, 2 ≤ k → ¬ k * k ∣ s.natAbs) → Q (.ref t) H') ∨
  (∃ v, vs = [v] ∧ (WholeIs K H v false ∨ v = .int 0) ∧ E (.ref C) none H)
theorem same_upd {H H' : Hp} {l : Addr} {o : HO} (s : Same H H') (hl : H l = none) : Same H (upd H' l o) := fun b u e => by
  rw [upd_ne (ne_of_none e hl)]
  exact s _ _ e
theorem Drawn1.ext {p : Addr} {H0 H H' : Hp} (D : Drawn1 p H0 H) (s : Same H H') : Drawn1 p H0 H' := by
  obtain ⟨g, h0, e⟩ := D.pool
  exact ⟨⟨g, h0, s _ _ e⟩, fun b o h n => s _ _ (D.kept b o h n)⟩

/-! ### primes as data -/
def ptup (x : Nat × Nat) : PyData := .tuple [.int (x.1 : Nat), .int (x.2 : Nat)]
theorem tups_isD {K : PySem.W.Frag} {H : Hp} : ∀ {ws : List V} {L : List (Nat × Nat)}, TupsAt H ws L → IsDs K H (L.map ptup) ws
  | [], [], _ => by simp only [List.map_nil, IsDs]
  | v :: vs, x :: xs, ⟨⟨t, e, q⟩, r⟩ => by
    simp only [List.map_cons, IsDs]
    refine ⟨v, vs, rfl, ?_, tups_isD r⟩
    simp only [ptup, IsD]
    exact ⟨t, _, e, SqT.of q, by simp [IsDs, IsD]⟩
theorem eqv_ptups : ∀ (L M : List (Nat × Nat)), PyData.eqvAll (L.map ptup) (M.map ptup) = decide (L = M)
  | [], [] => by simp [PyData.eqvAll]
  | [], m :: M => by simp [PyData.eqvAll]
  | x :: L, [] => by simp [PyData.eqvAll]
  | (a, b) :: L, (c, d) :: M => by
    have h1 : ((a : Int) == (c : Int)) = decide (a = c) := by
      rw [Bool.eq_iff_iff]; simp; omega
    have h2 : ((b : Int) == (d : Int)) = decide (b = d) := by
      rw [Bool.eq_iff_iff]; simp; omega
    simp only [List.map_cons, PyData.eqvAll, ptup, PyData.eqv, eqv_ptups L M, h1, h2, Bool.and_true]
    rw [Bool.eq_iff_iff]
    simp [and_assoc]
theorem lay_ptups : ∀ L : List (Nat × Nat), PyData.canLayAll0 (L.map ptup) = true
  | [] => by simp [PyData.canLayAll0]
  | x :: L => by simp [PyData.canLayAll0, ptup, PyData.canLay0, lay_ptups L]
theorem depth_ptups : ∀ L : List (Nat × Nat), PyData.depthAll (L.map ptup) ≤ 1
  | [] => by simp [PyData.depthAll]
  | x :: L => by
    have := depth_ptups L
    simp [PyData.depthAll, ptup, PyData.depth]
    omega
theorem shaped_ptups (L : List (Nat × Nat)) : PySem.SeqAt.shaped (.list (L.map ptup)) = true := by
  unfold PySem.SeqAt.shaped
  rw [Bool.and_eq_true]
  refine ⟨by simp only [PyData.canLay0]; exact lay_ptups L, decide_eq_true ?_⟩
  have := depth_ptups L
  simp only [PyData.depth]
  omega
def spIsPrime : Sp := fun vs H Q _ => ∃ i : Int, vs = [.int i] ∧ i < 2 ^ 60 ∧ ∀ (b : Bool) (H' : Hp), Same H H' → (b = true ↔ ∃ p : Nat, i = (p : Int) ∧ EM.IsPr p) → Q (.bl b) H'
def spPower : Sp := fun vs H Q _ => ∃ (n : Int) (e p : Nat), vs = [.int n, .int (e : Nat), .int (p : Nat)] ∧ 2 ≤ p ∧ p < 2 ^ 30 ∧ Q (.int ((EM.am n p ^ e % p : Nat) : Int)) H
def spIsRest (K : PySem.W.Frag) (C : Addr) : Sp := fun vs H Q E =>
  (∃ (n : Int) (p : Nat), vs = [.int n, .int (p : Nat)] ∧ EM.IsPr p ∧ p < 2 ^ 30 ∧ ∀ (b : Bool) (H' : Hp), Same H H' → (b = true ↔ EM.Rest p n) → Q (.bl b) H') ∨
  (∃ v u : V, vs = [v, u] ∧ (WholeIs K H v false ∨ (∃ n : Int, v = .int n) ∧ (WholeIs K H u false ∨ ∃ i : Int, u = .int i ∧ i < 2 ^ 60 ∧ ¬ ∃ p : Nat, i = (p : Int) ∧ EM.IsPr p)) ∧ ∀ H', Same H H' → E (.ref C) none H')
/-! ### forms -/
def spPShut : Sp := fun vs H Q _ => ∃ (s t : Int) (p : Nat), vs = [.int s, .int t, .int (p : Nat)] ∧ s.natAbs < 2 ^ 40 ∧ t.natAbs < 2 ^ 40 ∧ EM.IsPr p ∧ p < 2 ^ 30 ∧ ∀ (b : Bool) (H' : Hp), Same H H' → (b = true ↔ EM.ShutP s t p) → Q (.bl b) H'
def BadNum (K : PySem.W.Frag) (H : Hp) (v : V) : Prop := WholeIs K H v false ∨ v = .int 0
theorem BadNum.same {K : PySem.W.Frag} {H H' : Hp} {v : V} (h : BadNum K H v) (s : Same H H') : BadNum K H' v := h.imp (fun z => z.same s) id
def GoodNum (v : V) : Prop := ∃ n : Int, v = .int n ∧ n ≠ 0 ∧ n.natAbs < 2 ^ 30
def spShuts (K : PySem.W.Frag) (C : Addr) : Sp := fun vs H Q E =>
  (∃ a b i : Int, vs = [.int a, .int b, .int i] ∧ a ≠ 0 ∧ b ≠ 0 ∧ a.natAbs < 2 ^ 30 ∧ b.natAbs < 2 ^ 30 ∧ i < 2 ^ 30 ∧ ∀ (c : Bool) (H' : Hp), Same H H' → (c = true ↔ ∃ p : Nat, i = (p : Int) ∧ EM.IsPr p ∧ p ≠ 2 ∧ EM.Shuts a b p) → Q (.bl c) H') ∨
  (∃ v u x : V, vs = [v, u, x] ∧ (BadNum K H v ∨ GoodNum v ∧ BadNum K H u) ∧ ∀ H', Same H H' → E (.ref C) none H')
def spFormNo (K : PySem.W.Frag) (C : Addr) : Sp := fun vs H _ E => ∃ v u : V, vs = [v, u] ∧ (BadNum K H v ∨ GoodNum v ∧ BadNum K H u) ∧ ∀ H', Same H H' → E (.ref C) none H'
def spLPlain : Sp := fun vs H Q _ => ∃ n : Int, vs = [.int n] ∧ n ≠ 0 ∧ n.natAbs < 2 ^ 30 ∧ ∀ (t : Addr) (s : Int) (f : Nat) (H' : Hp), Same H H' → H' t = some (.tup [.int s, .int (f : Nat)]) → EM.PlainOf n s f → Q (.ref t) H'
def intsN (L : List Nat) : List V := L.map fun p => V.int ((p : Nat) : Int)
def spLOdd : Sp := fun vs H Q _ => ∃ n : Int, vs = [.int n] ∧ n ≠ 0 ∧ n.natAbs < 2 ^ 30 ∧ ∀ (l : Addr) (L : List Nat) (H' : Hp), H l = none → Same H H' → H' l = some (.lst (intsN L)) → L.length ≤ 1000 → (∀ p, p ∈ L ↔ EM.IsPr p ∧ p ≠ 2 ∧ p ∣ n.natAbs) → Q (.ref l) H'
def spLIsRest : Sp := fun vs H Q _ => ∃ (n : Int) (p : Nat), vs = [.int n, .int (p : Nat)] ∧ 1 ≤ p ∧ p ≤ 1000000 ∧ ∀ (b : Bool) (H' : Hp), Same H H' → (b = true ↔ EM.Rest p n) → Q (.bl b) H'
def spLShuts : Sp := fun vs H Q _ => ∃ (a b : Int) (p : Nat), vs = [.int a, .int b, .int (p : Nat)] ∧ a ≠ 0 ∧ b ≠ 0 ∧ a.natAbs < 2 ^ 30 ∧ b.natAbs < 2 ^ 30 ∧ EM.IsPr p ∧ p ≤ 1000000 ∧ ∀ (c : Bool) (H' : Hp), Same H H' → (c = true ↔ EM.Shuts a b p) → Q (.bl c) H'
def spLFactor : Sp := fun vs H Q _ => ∃ (p : Addr) (f : Int), vs = [.ref p] ∧ H p = some (.lst [.int f]) ∧ 0 ≤ f ∧ ∀ (z : Int) (H' : Hp), 1 ≤ z → z ≤ 25 → Drawn1 p H H' → Q (.int z) H'
def spLPart : Sp := fun vs H Q _ => ∃ (p : Addr) (f : Int), vs = [.ref p] ∧ H p = some (.lst [.int f]) ∧ 0 ≤ f ∧ ∀ (z : Int) (H' : Hp), z ≠ 0 → z.natAbs ≤ 15625 → Drawn1 p H H' → Q (.int z) H'
def spLPair : Sp := fun vs H Q _ => ∃ (p : Addr) (f : Int), vs = [.ref p] ∧ H p = some (.lst [.int f]) ∧ 0 ≤ f ∧ ∀ (t : Addr) (a b : Int) (H' : Hp), a ≠ 0 → b ≠ 0 → a.natAbs < 20000 → b.natAbs < 20000 → H' t = some (.tup [.int a, .int b]) → Drawn1 p H H' → Q (.ref t) H'
theorem natAbs_dvd {p : Nat} {n : Int} : (p : Int) ∣ n ↔ p ∣ n.natAbs := Int.ofNat_dvd_left
theorem emod_dvd {s : Int} {p : Nat} : V.int (s % (p : Int)) = V.int 0 ↔ (p : Int) ∣ s := ⟨fun h => Int.dvd_of_emod_eq_zero (V.int.inj h), fun h => congrArg V.int (Int.emod_eq_zero_of_dvd h)⟩
theorem not_rest {b : Bool} {c : Prop} (h : b = true ↔ c) : (!b) = true ↔ ¬ c := by
  cases b with
  | true => simp at h ⊢; exact h
  | false => simp at h ⊢; exact h
/-! ### a law's loop over its cells -/
theorem cells_for {K : PySem.W.Frag} {a : Addr} {ns : List Int} {H : Hp} {σ : St} {tb : TS} {D : Ends} {hi : Int} {g : TG} (h0 : σ[0]? = some (some (.ref a))) (hS : SqL K H a (ns.map V.int)) (hlen : ns.length ≤ 63) (Sg : St → Prop) (hs0 : Sg σ)
    (turn : ∀ (Hq : Hp), Same H Hq → ∀ (c : Int) (σ' : St) (H2 : Hp), Sg σ' → Same Hq H2 → g (.int c) σ' H2 fun σ2 H3 => tb { D with nx := fun σ4 H4 => Same Hq H4 ∧ Sg σ4, ct := fun σ4 H4 => Same Hq H4 ∧ Sg σ4, bk := D.nx } σ2 H3)
    (done : ∀ σ' H', Sg σ' → D.nx σ' H') :
    tFor (iList K (tOp rCat (tLst (tCons (tCall (spCell K) [] E0 (tCons (tVar 0) (tCons (tC (.int 0)) tNil))) tNil)) (tSl (rSlL K) (tVar 0) (tPart (tC (.int 1))) (tPart (tC (.int hi)))))) g tb D σ H := by
  refine ⟨_, h0, a, ns, 0, rfl, hS, by decide, fun z0 => ⟨by show 1 ≤ sizeLine; decide, fun l hl => ?_⟩⟩
  have s1 := same_new (o := .lst [.int z0]) hl
  refine ⟨_, h0, _, rfl, _, rfl, a, _, rfl, s1.seq hS, fun b hb => ?_⟩
  have s2 := s1.trans (same_new (o := .lst (cutV (ns.map V.int) (some 1) (some hi))) hb)
  have hlb : (upd (upd H l (.lst [.int z0])) b (.lst (cutV (ns.map V.int) (some 1) (some hi)))) l = some (.lst [.int z0]) := by
    rw [upd_ne (ne_of_none upd_same hb)]
    exact upd_same
  have hcl : (cutV (ns.map V.int) (some 1) (some hi)).length ≤ 63 := Nat.le_trans (cutV_length _ _ _) (by rw [List.length_map]; exact hlen)
  refine ⟨l, b, _, _, rfl, rfl, hlb, upd_same, Nat.le_trans (show 1 + _ ≤ 64 from by omega) (by decide), fun q hq => ?_⟩
  have s3 := s2.trans (same_new (o := .lst ([.int z0] ++ cutV (ns.map V.int) (some 1) (some hi))) hq)
  refine ⟨q, rfl, ⟨_, SqL.of upd_same⟩, for_list (K := K) (a := q) (xs := [.int z0] ++ cutV (ns.map V.int) (some 1) (some hi))
    (fun i σ' H2 => Same (upd (upd (upd H l (.lst [.int z0])) b (.lst (cutV (ns.map V.int) (some 1) (some hi)))) q (.lst ([.int z0] ++ cutV (ns.map V.int) (some 1) (some hi)))) H2 ∧ Sg σ')
    ⟨Same.refl _, hs0⟩ (fun i σ' H2 _ ⟨s4, _⟩ => SqL.of (s4 _ _ upd_same)) ?_ ?_⟩
  · rintro i y σ' H2 hi' ⟨s4, hsg⟩
    obtain ⟨c, rfl⟩ : ∃ c, y = V.int c := by
      rcases List.mem_append.mp (List.mem_of_getElem? hi') with z | z
      · exact ⟨z0, List.mem_singleton.mp z⟩
      · exact cut_ints y z
    exact turn _ s3 c σ' H2 hsg s4
  · rintro σ' H2 ⟨_, hsg⟩
    exact done σ' H2 hsg
theorem fn_mk {K : PySem.W.Frag} {x : Str} {st : Stmt} {f : Addr} {oc : Value} {od an : Option Addr} {osl : Array (Option Value)} {kV doc pm cdv ct : Value}
    (a : PySem.W.nsIn K mainGlobals x = some (some (.ref f)))
    (l : K.lookup f = some ⟨oc, od, .func (PySem.W.fnOf x x (defArgs st) (defBody st) (defScope st) .none kV doc pm an cdv ct), osl⟩)
    (c : PySem.W.codeIn K cdv x = true) (k : PySem.W.keepIn K (.ref f) = true) :
    ∃ (f : Addr) (fd : FuncData), PySem.W.nsIn K mainGlobals x = some (some (.ref f)) ∧ Fun K x x st f fd := ⟨f, _, a, fun_mk l c k⟩
/-- the refusals as the top has made them -/
structure Refs (K : PySem.W.Frag) (M C o1 o2 o3 o4 o5 o6 o7 o8 o9 o10 o11 o12 o13 : Addr) : Prop where
  nM : PySem.W.nsIn K mainGlobals "MeetError" = some (some (.ref M))
  nC : PySem.W.nsIn K mainGlobals "NoNumber" = some (some (.ref C))
  n1 : PySem.W.nsIn K mainGlobals "NoArc" = some (some (.ref o1))
  n2 : PySem.W.nsIn K mainGlobals "NoBases" = some (some (.ref o2))
  n3 : PySem.W.nsIn K mainGlobals "NoDeskRow" = some (some (.ref o3))
  n4 : PySem.W.nsIn K mainGlobals "NoDual" = some (some (.ref o4))
  n5 : PySem.W.nsIn K mainGlobals "NoField" = some (some (.ref o5))
  n6 : PySem.W.nsIn K mainGlobals "NoLayout" = some (some (.ref o6))
  n7 : PySem.W.nsIn K mainGlobals "NoMeeting" = some (some (.ref o7))
  n8 : PySem.W.nsIn K mainGlobals "NoName" = some (some (.ref o8))
  n9 : PySem.W.nsIn K mainGlobals "NoNet" = some (some (.ref o9))
  n10 : PySem.W.nsIn K mainGlobals "NoPart" = some (some (.ref o10))
  n11 : PySem.W.nsIn K mainGlobals "NoRow" = some (some (.ref o11))
  n12 : PySem.W.nsIn K mainGlobals "NoText" = some (some (.ref o12))
  n13 : PySem.W.nsIn K mainGlobals "NoWish" = some (some (.ref o13))
  eM : PySem.W.ExcK K M
  eC : PySem.W.ExcK K C
  cl : PySem.W.ClsK K
  sub : PySem.W.mroIn K C (.ref M) = some true
  kC : PySem.W.kitOne K (.ref C) (.ref C) = some true
  kV : PySem.W.kitOne K (.ref C) (.type "ValueError") = some true
  k1 : PySem.W.kitAny K (.ref C) [.ref o1, .ref o2, .ref o3, .ref o4, .ref o5, .ref o6, .ref o7, .ref o8, .ref o9, .ref o10, .ref o11] = some false
  k2 : PySem.W.kitAny K (.ref C) [.ref o12, .ref o13] = some false
theorem refs_mk {K : PySem.W.Frag} {M C o1 o2 o3 o4 o5 o6 o7 o8 o9 o10 o11 o12 o13 : Addr}
    (nM : PySem.W.nsIn K mainGlobals "MeetError" = some (some (.ref M)))
    (nC : PySem.W.nsIn K mainGlobals "NoNumber" = some (some (.ref C)))
    (n1 : PySem.W.nsIn K mainGlobals "NoArc" = some (some (.ref o1)))
    (n2 : PySem.W.nsIn K mainGlobals "NoBases" = some (some (.ref o2)))
    (n3 : PySem.W.nsIn K mainGlobals "NoDeskRow" = some (some (.ref o3)))
    (n4 : PySem.W.nsIn K mainGlobals "NoDual" = some (some (.ref o4)))
    (n5 : PySem.W.nsIn K mainGlobals "NoField" = some (some (.ref o5)))
    (n6 : PySem.W.nsIn K mainGlobals "NoLayout" = some (some (.ref o6)))
    (n7 : PySem.W.nsIn K mainGlobals "NoMeeting" = some (some (.ref o7)))
    (n8 : PySem.W.nsIn K mainGlobals "NoName" = some (some (.ref o8)))
    (n9 : PySem.W.nsIn K mainGlobals "NoNet" = some (some (.ref o9)))
    (n10 : PySem.W.nsIn K mainGlobals "NoPart" = some (some (.ref o10)))
    (n11 : PySem.W.nsIn K mainGlobals "NoRow" = some (some (.ref o11)))
    (n12 : PySem.W.nsIn K mainGlobals "NoText" = some (some (.ref o12)))
    (n13 : PySem.W.nsIn K mainGlobals "NoWish" = some (some (.ref o13)))
    (exM : PySem.W.excIn K M [.type "ValueError", .type "Exception", .type "BaseException", .type "object"] "ValueError.__new__" = true)
    (gaM : PySem.W.findIn K (.ref M) "__getattribute__" = some (some (.builtin "BaseException.__getattribute__")))
    (noM : PySem.W.findIn K (.ref M) "__getattr__" = some none)
    (clM : PySem.W.findIn K (.ref M) "__class__" = some (some (.builtin "object.__class__")))
    (obM : PySem.W.mroIn K M (.type "object") = some true)
    (beM : PySem.W.mroIn K M (.type "BaseException") = some true)
    (exC : PySem.W.excIn K C [.type "ValueError", .type "Exception", .type "BaseException", .type "object"] "ValueError.__new__" = true)
    (gaC : PySem.W.findIn K (.ref C) "__getattribute__" = some (some (.builtin "BaseException.__getattribute__")))
    (noC : PySem.W.findIn K (.ref C) "__getattr__" = some none)
    (clC : PySem.W.findIn K (.ref C) "__class__" = some (some (.builtin "object.__class__")))
    (obC : PySem.W.mroIn K C (.type "object") = some true)
    (beC : PySem.W.mroIn K C (.type "BaseException") = some true)
    (gt : PySem.W.specialIn K (.builtin "object.__class__") "__get__" = some (some (.builtin "getset_descriptor.__get__")))
    (tk : PySem.W.takesIn K (.builtin "object.__class__") = some true)
    (sub : PySem.W.mroIn K C (.ref M) = some true)
    (kC : PySem.W.kitOne K (.ref C) (.ref C) = some true)
    (kV : PySem.W.kitOne K (.ref C) (.type "ValueError") = some true)
    (k1 : PySem.W.kitAny K (.ref C) [.ref o1, .ref o2, .ref o3, .ref o4, .ref o5, .ref o6, .ref o7, .ref o8, .ref o9, .ref o10, .ref o11] = some false)
    (k2 : PySem.W.kitAny K (.ref C) [.ref o12, .ref o13] = some false) :
    ∃ M C o1 o2 o3 o4 o5 o6 o7 o8 o9 o10 o11 o12 o13 : Addr, Refs K M C o1 o2 o3 o4 o5 o6 o7 o8 o9 o10 o11 o12 o13 :=
  ⟨M, C, o1, o2, o3, o4, o5, o6, o7, o8, o9, o10, o11, o12, o13, nM, nC, n1, n2, n3, n4, n5, n6, n7, n8, n9, n10, n11, n12, n13, ⟨exM, gaM, noM, clM, obM, beM⟩, ⟨exC, gaC, noC, clC, obC, beC⟩, ⟨gt, tk⟩, sub, kC, kV, k1, k2⟩
/-- names that the text does not give -/
structure Free (K : PySem.W.Frag) : Prop where
  isi : PySem.W.nsIn K mainGlobals "isinstance" = some none
  int : PySem.W.nsIn K mainGlobals "int" = some none
  bool : PySem.W.nsIn K mainGlobals "bool" = some none
  abs : PySem.W.nsIn K mainGlobals "abs" = some none
  max : PySem.W.nsIn K mainGlobals "max" = some none
  min : PySem.W.nsIn K mainGlobals "min" = some none
  len : PySem.W.nsIn K mainGlobals "len" = some none
  range : PySem.W.nsIn K mainGlobals "range" = some none
  ve : PySem.W.nsIn K mainGlobals "ValueError" = some none
  tup : PySem.W.nsIn K mainGlobals "tuple" = some none
  lst : PySem.W.nsIn K mainGlobals "list" = some none
  str : PySem.W.nsIn K mainGlobals "str" = some none
  dct : PySem.W.nsIn K mainGlobals "dict" = some none
  any : PySem.W.nsIn K mainGlobals "any" = some none
  sor : PySem.W.nsIn K mainGlobals "sorted" = some none
  sum : PySem.W.nsIn K mainGlobals "sum" = some none
  all : PySem.W.nsIn K mainGlobals "all" = some none
  set : PySem.W.nsIn K mainGlobals "set" = some none
  zip : PySem.W.nsIn K mainGlobals "zip" = some none
  enu : PySem.W.nsIn K mainGlobals "enumerate" = some none
theorem txt_of {K : PySem.W.Frag} {h : Heap} {mg : Str → Option Value} {M C o1 o2 o3 o4 o5 o6 o7 o8 o9 o10 o11 o12 o13 : Addr} (X : K.In h) (G : h.Ns mainGlobals mg) (R : Refs K M C o1 o2 o3 o4 o5 o6 o7 o8 o9 o10 o11 o12 o13) (N : Free K) : Txt K mg M C :=
  ⟨PySem.W.mg_none_of X G N.isi, PySem.W.mg_none_of X G N.int, PySem.W.mg_none_of X G N.bool, PySem.W.mg_none_of X G N.abs, PySem.W.mg_none_of X G N.max, PySem.W.mg_none_of X G N.min, PySem.W.mg_none_of X G N.len, PySem.W.mg_none_of X G N.range, PySem.W.mg_none_of X G N.ve, PySem.W.mg_none_of X G N.tup, PySem.W.mg_none_of X G N.lst, PySem.W.mg_none_of X G N.str, PySem.W.mg_none_of X G N.dct, PySem.W.mg_none_of X G N.any, PySem.W.mg_none_of X G N.sor, PySem.W.mg_none_of X G N.sum, PySem.W.mg_none_of X G N.all, PySem.W.mg_none_of X G N.set, PySem.W.mg_none_of X G N.zip, PySem.W.mg_none_of X G N.enu,
    PySem.W.mg_of X G R.nM, PySem.W.mg_of X G R.nC, R.eM, R.eC, R.cl, R.sub, R.kC, R.kV⟩
theorem others_of {K : PySem.W.Frag} {h : Heap} {mg : Str → Option Value} {M C o1 o2 o3 o4 o5 o6 o7 o8 o9 o10 o11 o12 o13 : Addr} (X : K.In h) (G : h.Ns mainGlobals mg) (R : Refs K M C o1 o2 o3 o4 o5 o6 o7 o8 o9 o10 o11 o12 o13) : Others K mg C o1 o2 o3 o4 o5 o6 o7 o8 o9 o10 o11 o12 o13 :=
  ⟨PySem.W.mg_of X G R.n1, PySem.W.mg_of X G R.n2, PySem.W.mg_of X G R.n3, PySem.W.mg_of X G R.n4, PySem.W.mg_of X G R.n5, PySem.W.mg_of X G R.n6, PySem.W.mg_of X G R.n7, PySem.W.mg_of X G R.n8, PySem.W.mg_of X G R.n9, PySem.W.mg_of X G R.n10, PySem.W.mg_of X G R.n11, PySem.W.mg_of X G R.n12, PySem.W.mg_of X G R.n13, R.k1, R.k2⟩
def spLaw (K : PySem.W.Frag) : Sp := fun vs H Q _ => ∃ (a : Addr) (ns : List Int), vs = [.ref a] ∧ SqL K H a (ns.map V.int) ∧ ns.length ≤ 63 ∧ ∀ H', Q (.bl true) H'
theorem walk {l : PySem.W.OpenLaw} {q : Program} {loose : List Str} {XP : (Str → Option Value) → Heap → Prop} {YP : World → Heap → Prop} {d : DefRec} {K : Params → PySem.W.Frag} {k : Nat} (hr : Room k PySem.callerA) (hn : l.most = some 63) (hdf : d.params.defaults = [])
    (hY : ∀ (w : World) (h : Heap), YP w h → (K w.params).In h)
    (F : ∀ (w : World) (mg : Str → Option Value) (fa : Addr) (h : Heap), (K w.params).In h → h.Ns mainGlobals mg → mg d.name = some (.ref fa) →
      ∃ fd : FuncData, (∀ (s : Shared) (u : Value), BindsTo s fd ⟨[u], []⟩ [("_law_script", u)]) ∧ ∀ base : Heap, (K w.params).In base → base.Ns mainGlobals mg → FnOk l.prog w (K w.params) mg base CX0 k fa fd ["_law_script"] (spLaw (K w.params))) :
    PySem.W.WalkO q loose XP YP l.row.toRowW d [] (fun f vs => PySem.call f vs) :=
  L2.walk_of (n := 63) (k := k) (x := "_law_script") (CX := fun _ => CX0) (sp := fun w => spLaw (K w.params)) hn (by decide) hdf hr hY F (fun _ _ a ns hl _ hS => ⟨a, ns, rfl, hS, hl, fun _ => rfl⟩) fun _ _ _ _ _ z => z
abbrev At (K : PySem.W.Frag) (x : Str) (st : Stmt) : Prop := ∃ (f : Addr) (fd : FuncData), PySem.W.nsIn K mainGlobals x = some (some (.ref f)) ∧ Fun K x x st f fd

end E1
namespace E1
open PySem L2
abbrev pw : Program := PySem.Challenge.pw_evenmeet_k07_primes_that_shut
def top (i : Nat) : Stmt := pw.main.body.getD i (.Pass ⟨0, 0, 0, 0⟩)
abbrev sWhole : Stmt := top 17
abbrev sMust : Stmt := top 18
abbrev sFrom : Stmt := top 19
abbrev sPrimes : Stmt := top 21
abbrev sIsPrime : Stmt := top 22
abbrev sPlain : Stmt := top 23
abbrev sIsRest : Stmt := top 24
abbrev sPower : Stmt := top 25
abbrev sForm : Stmt := top 30
abbrev sShuts : Stmt := top 31
abbrev sPShut : Stmt := top 33
abbrev sCell : Stmt := top 38
abbrev sPool : Stmt := top 39
abbrev sTake : Stmt := top 40
abbrev sRef : Stmt := top 41
abbrev sLPlain : Stmt := top 42
abbrev sLOddPrimes : Stmt := top 43
abbrev sLIsRest : Stmt := top 44
abbrev sLShuts : Stmt := top 45
abbrev sLFactor : Stmt := top 46
abbrev sLPart : Stmt := top 47
abbrev sLPair : Stmt := top 48
abbrev sSeen : Stmt := top 49
abbrev sLaw : Stmt := top 50
section
variable {P : Program} {w : World} {K : PySem.W.Frag} {mg : Str → Option Value} {base : Heap} {M C : Addr}
theorem scWhole : FnScope ["thing"] ["thing"] (defScope sWhole) := ⟨rfl, rfl, rfl, by decide +kernel, rfl, by decide +kernel, by decide +kernel⟩
theorem ok_whole {f : Addr} {fd : FuncData} (F : Fun K "is_whole" "is_whole" sWhole f fd) (T : Txt K mg M C) : FnOk P w K mg base CX0 1 f fd ["thing"] (spWhole K) := by
  refine F.okQ scWhole (fun vs H Q E h => ?_) (fun cdv A outer s H vs Q E hr h => ?_)
  · obtain ⟨v, b, rfl, _⟩ := h
    rfl
  · obtain ⟨v, b, rfl, hw, k⟩ := h
    refine ⟨_, qss_one (qs_ret (qe_and (qe_callB call_isinst (by rfl) T.isi PyProof.Rows.boot_isinstance (qac (qv 0) (qac (qe_bltn (v := .ty "int") rfl T.int PyProof.Rows.boot_int rfl) qa_nil)))
      (qe_one (qe_not (qe_callB call_isinst (by rfl) T.isi PyProof.Rows.boot_isinstance (qac (qv 0) (qac (qe_bltn (v := .ty "bool") rfl T.bool PyProof.Rows.boot_bool rfl) qa_nil))))))), ?_⟩
    cases hw with
    | int i =>
      refine ⟨_, rfl, _, _, _, _, rfl, .int i, rel_ty (kit_int_int K), true, rfl, iteT ?_⟩
      exact ⟨_, rfl, _, _, _, _, rfl, .int i, rel_ty (kit_int_bool K), false, rfl, k⟩
    | bl x =>
      refine ⟨_, rfl, _, _, _, _, rfl, .bl x, rel_ty (kit_bool_int K), true, rfl, iteT ?_⟩
      exact ⟨_, rfl, _, _, _, _, rfl, .bl x, rel_ty (kit_bool_bool K), true, rfl, k⟩
    | odd ty kk =>
      exact ⟨_, rfl, _, _, _, _, rfl, ty, rel_ty kk, false, rfl, iteF k⟩
theorem scMust : FnScope ["thing"] ["thing"] (defScope sMust) := ⟨rfl, rfl, rfl, by decide +kernel, rfl, by decide +kernel, by decide +kernel⟩
theorem ok_must {f fW : Addr} {fd fdW : FuncData} (F : Fun K "must_be_whole" "must_be_whole" sMust f fd) (T : Txt K mg M C) (FW : Fun K "is_whole" "is_whole" sWhole fW fdW) (bW : Binds K fdW ["thing"] []) (mW : mg "is_whole" = some (.ref fW)) :
    FnOk P w K mg base (CX1 P w) 2 f fd ["thing"] (spMust K C) := by
  have GW : FnOk P w K mg base CX0 1 fW fdW ["thing"] (spWhole K) := ok_whole FW T
  refine F.okXQ scMust (fun vs H Q E h => ?_) (fun cdv A outer s H vs Q E hr h => ?_)
  · obtain ⟨v, b, rfl, _⟩ := h
    rfl
  · obtain ⟨v, b, rfl, hw, k1, k2⟩ := h
    refine ⟨_, qss_one (qs_if (qt_not (qt_val (qe_call GW hr rfl mW FW.kp bW .nil pass0 (qac (qv 0) qa_nil))))
      (qss_one (qs_raise T.eC.ex rfl T.mgC rfl rfl (qac qe_str qa_nil))) qss_nil), ?_⟩
    refine ⟨_, rfl, v, b, rfl, hw, b, rfl, ?_⟩
    cases b with
    | true => exact iteF (k1 rfl)
    | false => exact iteT ⟨by show 1 ≤ sizeLine; decide, k2 rfl⟩

theorem scFrom : FnScope ["least", "thing"] ["least", "thing"] (defScope sFrom) := ⟨rfl, rfl, rfl, by decide +kernel, rfl, by decide +kernel, by decide +kernel⟩
theorem ok_from {f fM : Addr} {fd fdM : FuncData} (F : Fun K "must_be_from" "must_be_from" sFrom f fd) (T : Txt K mg M C) (FM : Fun K "must_be_whole" "must_be_whole" sMust fM fdM) (bM : Binds K fdM ["thing"] []) (mM : mg "must_be_whole" = some (.ref fM))
    (GM : FnOk P w K mg base (CX1 P w) 2 fM fdM ["thing"] (spMust K C)) : FnOk P w K mg base (CX1 P w) 3 f fd ["least", "thing"] (spFrom K C) := by
  refine F.okXQ scFrom (fun vs H Q E h => ?_) (fun cdv A outer s H vs Q E hr h => ?_)
  · obtain ⟨m, v, rfl, _⟩ := h
    rfl
  · obtain ⟨m, v, rfl, hm, h⟩ := h
    refine ⟨_, qss_cons (qs_expr (qe_call GM hr rfl mM FM.kp bM .nil (passE rfl) (qac (qv 1) qa_nil)))
      (qss_one (qs_if (qt_cmpR op_lt (qv 1) (qv 0) (nomark _)) (qss_one (qs_raise T.eC.ex rfl T.mgC rfl rfl (qac (qe_fstr (qf_cons qe_str (qf_cons (qe_fint (qv 0)) (qf_cons qe_str qf_nil)))) qa_nil))) qss_nil)), ?_⟩
    rcases h with ⟨i, rfl, hi, k⟩ | ⟨i, rfl, hi, k⟩ | ⟨hv, k⟩
    · refine ⟨_, rfl, _, true, rfl, .int i, fun _ => ?_, fun z => (nomatch z)⟩
      refine ⟨_, rfl, _, rfl, _, _, rfl, rfl, _, rfl, ?_⟩
      rw [decide_eq_false (by omega)]
      exact iteF k
    · refine ⟨_, rfl, _, true, rfl, .int i, fun _ => ?_, fun z => (nomatch z)⟩
      refine ⟨_, rfl, _, rfl, _, _, rfl, rfl, _, rfl, ?_⟩
      rw [decide_eq_true hi]
      refine iteT ?_
      rcases hm with rfl | rfl
      · exact ⟨_, rfl, by decide +kernel, _, rfl, _, rfl, by decide, _, rfl, by decide +kernel, _, rfl, by decide +kernel, by decide +kernel, by show 1 ≤ sizeLine; decide, k⟩
      · exact ⟨_, rfl, by decide +kernel, _, rfl, _, rfl, by decide, _, rfl, by decide +kernel, _, rfl, by decide +kernel, by decide +kernel, by show 1 ≤ sizeLine; decide, k⟩
    · exact ⟨_, rfl, _, false, rfl, hv, fun z => (nomatch z), fun _ => k⟩
theorem scPrimes : FnScope ["n", "found", "left", "p", "often"] ["n"] (defScope sPrimes) := ⟨rfl, rfl, rfl, by decide +kernel, rfl, by decide +kernel, by decide +kernel⟩
theorem ok_primes {f fF : Addr} {fd fdF : FuncData} (F : Fun K "primes_of" "primes_of" sPrimes f fd) (FF : Fun K "must_be_from" "must_be_from" sFrom fF fdF) (bF : Binds K fdF ["least", "thing"] []) (mF : mg "must_be_from" = some (.ref fF))
    (GF : FnOk P w K mg base (CX1 P w) 3 fF fdF ["least", "thing"] (spFrom K C)) : FnOk P w K mg base (CX1 P w) 4 f fd ["n"] (spPrimes K C) := by
  refine F.okXQ scPrimes (fun vs H Q E h => ?_) (fun cdv A outer s H vs Q E hr h => ?_)
  · rcases h with ⟨n, rfl, _⟩ | ⟨v, rfl, _⟩ <;> rfl
  · refine ⟨_, qss_cons (qs_expr (qe_call GF hr rfl mF FF.kp bF .nil (passE rfl) (qac qe_int (qac (qv 0) qa_nil))))
      (QSs.nox (qss_cons (qs_set (i := 1) scPrimes.nd rfl (Or.inl rfl) (qe_lst qa_nil))
      (qss_cons (qs_set (i := 2) scPrimes.nd rfl (Or.inl rfl) (qv 0))
      (qss_cons (qs_set (i := 3) scPrimes.nd rfl (Or.inl rfl) qe_int)
      (qss_cons (qs_while PassesOwn.never (qt_cmpR op_le (qe_op op_mul (qv 3) (qv 3)) (qv 2) (nomark _))
        (qss_cons (qs_set (i := 4) scPrimes.nd rfl (Or.inl rfl) qe_int)
        (qss_cons (qs_while PassesOwn.never (qt_cmpR op_eq (qe_op op_mod (qv 2) (qv 3)) qe_int (nomark _))
          (qss_cons (qs_set (i := 2) scPrimes.nd rfl (Or.inl rfl) (qe_op op_fdiv (qv 2) (qv 3)))
          (qss_one (qs_aug (i := 4) scPrimes.nd rfl (Or.inl rfl) qe_int ip_add))))
        (qss_cons (qs_if (qt_cmpR op_gt (qv 4) qe_int (nomark _)) (qss_one (qs_expr (qe_bm PySem.F.plainAttrs_list PySem.F.slot_list_append PySem.F.type_list_append mt_append (qv 1) (qac (qe_tup (qac (qv 3) (qac (qv 4) qa_nil))) qa_nil)))) qss_nil)
        (qss_one (qs_aug (i := 3) scPrimes.nd rfl (Or.inl rfl) qe_int ip_add))))))
      (qss_cons (qs_if (qt_cmpR op_gt (qv 2) qe_int (nomark _)) (qss_one (qs_expr (qe_bm PySem.F.plainAttrs_list PySem.F.slot_list_append PySem.F.type_list_append mt_append (qv 1) (qac (qe_tup (qac (qv 2) (qac qe_int qa_nil))) qa_nil)))) qss_nil)
      (qss_one (qs_ret (qv 1))))))))), ?_⟩
    rcases h with ⟨n, rfl, h1, hn, k⟩ | ⟨v, rfl, hv, k⟩
    · refine ⟨_, rfl, 1, _, rfl, .inr rfl, .inl ⟨_, rfl, by omega, ?_⟩⟩
      refine ⟨by show 0 ≤ sizeLine; decide, fun l hl => ?_⟩
      refine ⟨_, rfl, ?_⟩
      refine while_w (fun σ H2 => ∃ (p left : Nat) (ws : List V) (L : List (Nat × Nat)) (x : Option V), σ = [some (.int (n : Nat)), some (.ref l), some (.int (left : Nat)), some (.int (p : Nat)), x] ∧
          EM.FacTo n p left L ∧ Same H H2 ∧ H2 l = some (.lst ws) ∧ TupsAt H2 ws L ∧ p ≤ 2 ^ 31)
        (fun σ _ => match σ with | [_, _, some (.int left), some (.int p), _] => (left - p).toNat | _ => 0)
        ⟨2, n, [], [], none, rfl, EM.FacTo.start h1, same_new hl, upd_same, trivial, by decide⟩ ?_
      rintro m σ H2 ⟨p, left, ws, L, x, rfl, F2, s2, hl2, t2, hp31⟩ hm
      refine ⟨_, rfl, _, rfl, _, _, rfl, rfl, .inl ⟨by omega, by omega⟩, _, rfl, _, _, rfl, rfl, _, rfl, ?_⟩
      refine ite2 (fun hc => WTurn.of ?_) (fun hc => ?_)
      · have hc' : p * p ≤ left := by
          have := of_decide_eq_true hc
          exact Int.ofNat_le.mp (by rw [Int.natCast_mul]; exact this)
        have hp30 := EM.root_lt hc' (Nat.lt_of_le_of_lt F2.le hn)
        have h2p := EM.two_le_self F2.two hc'
        have htwo := F2.two
        -- the inner loop
        refine while_w (fun σ H3 => H3 = H2 ∧ ∃ (lf of : Nat), σ = [some (.int (n : Nat)), some (.ref l), some (.int (lf : Nat)), some (.int (p : Nat)), some (.int (of : Nat))] ∧ left = lf * p ^ of)
          (fun σ _ => match σ with | [_, _, some (.int lf), _, _] => lf.toNat | _ => 0)
          ⟨rfl, left, 0, rfl, by rw [Nat.pow_zero, Nat.mul_one]⟩ ?_
        rintro m' σ H3 ⟨rfl, lf, of, rfl, hlf⟩ hm'
        have hlf0 : 1 ≤ lf := by
          rcases Nat.eq_zero_or_pos lf with z | z
          · have := F2.pos
            rw [hlf, z, Nat.zero_mul] at this
            omega
          · exact z
        refine ⟨_, rfl, _, rfl, _, _, rfl, rfl, by omega, rfl, _, rfl, ?_⟩
        refine ite2 (fun hd => WTurn.of ?_) (fun hd => ?_)
        · have hd' : lf % p = 0 := by
            have := V.int.inj (of_decide_eq_true hd)
            omega
          have hdv : p ∣ lf := Nat.dvd_of_mod_eq_zero hd'
          refine ⟨_, rfl, _, rfl, _, _, rfl, rfl, ⟨by omega, by omega⟩, _, rfl, _, _, rfl, rfl, ⟨rfl, lf / p, of + 1, ?_, ?_⟩, ?_⟩
          · rfl
          · rw [Nat.pow_succ, Nat.mul_comm (p ^ of) p, ← Nat.mul_assoc, Nat.div_mul_cancel hdv]
            exact hlf
          · rw [hm']
            show ((lf : Int) / (p : Int)).toNat < (lf : Int).toNat
            have e : (lf : Int) / (p : Int) = ((lf / p : Nat) : Int) := rfl
            rw [e]
            have := Nat.div_lt_self hlf0 (show 1 < p by omega)
            omega
        · have hnd : ¬ p ∣ lf := fun z => hd (by
            have := Nat.mod_eq_zero_of_dvd z
            refine decide_eq_true (congrArg V.int ?_)
            omega)
          refine ⟨_, rfl, _, _, rfl, rfl, _, rfl, ?_⟩
          refine ite2 (fun ho => ?_) (fun ho => ?_)
          · have ho' : 1 ≤ of := by
              have := of_decide_eq_true ho
              omega
            have F3 := F2.some hlf ho' hnd
            refine ⟨_, rfl, .inl ⟨rfl, _, SqL.of hl2⟩, _, rfl, _, rfl, by show 2 ≤ sizeLine; decide, fun t ht => ?_⟩
            have nlt : l ≠ t := ne_of_none hl2 ht
            refine ⟨l, ws, _, rfl, rfl, by rw [upd_ne nlt]; exact hl2, ?_, ?_⟩
            · rw [t2.len]
              exact Nat.lt_trans (F2.short hn) (by decide)
            refine ⟨_, rfl, _, _, rfl, rfl, ⟨p + 1, lf, ws ++ [.ref t], L ++ [(p, of)], some (.int (of : Nat)), ?_, F3, ?_, upd_same, ?_, by omega⟩, ?_⟩
            · rfl
            · exact same_upd (s2.trans (same_new ht)) hl
            · refine TupsAt.upd (ys := ws) (by rw [upd_ne nlt]; exact hl2) (TupsAt.snoc (x := (p, of)) upd_same (t2.same (same_new ht)))
            · rw [hm]
              show ((lf : Int) - ((p : Int) + 1)).toNat < ((left : Int) - (p : Int)).toNat
              have : lf ≤ left := hlf ▸ Nat.le_mul_of_pos_right _ (Nat.pow_pos (by omega))
              omega
          · have ho' : of = 0 := by
              have : ¬ (0 < (of : Int)) := fun z => ho (decide_eq_true z)
              omega
            subst ho'
            rw [Nat.pow_zero, Nat.mul_one] at hlf
            subst hlf
            refine ⟨_, rfl, _, _, rfl, rfl, ⟨p + 1, left, ws, L, _, rfl, F2.none hnd, s2, hl2, t2, by omega⟩, ?_⟩
            rw [hm]
            show ((left : Int) - ((p : Int) + 1)).toNat < ((left : Int) - (p : Int)).toNat
            omega
      · have hc' : left < p * p := by
          have h3 : ¬ ((p : Int) * (p : Int) ≤ (left : Int)) := fun z => hc (decide_eq_true z)
          refine Nat.lt_of_not_le fun z => h3 ?_
          rw [← Int.natCast_mul]
          exact Int.ofNat_le.mpr z
        refine ⟨_, rfl, _, _, rfl, rfl, _, rfl, ?_⟩
        refine ite2 (fun ho => ?_) (fun ho => ?_)
        · have ho' : 1 < left := by
            have := of_decide_eq_true ho
            omega
          have F3 := F2.last hc' ho'
          refine ⟨_, rfl, .inl ⟨rfl, _, SqL.of hl2⟩, _, rfl, by show 2 ≤ sizeLine; decide, fun t ht => ?_⟩
          have nlt : l ≠ t := ne_of_none hl2 ht
          refine ⟨l, ws, _, rfl, rfl, by rw [upd_ne nlt]; exact hl2, ?_, ?_⟩
          · rw [t2.len]
            exact Nat.lt_trans (F2.short hn) (by decide)
          refine ⟨_, rfl, k l (ws ++ [.ref t]) (L ++ [(left, 1)]) _ hl (same_upd (s2.trans (same_new ht)) hl) upd_same ?_ F3⟩
          exact TupsAt.upd (ys := ws) (by rw [upd_ne nlt]; exact hl2) (TupsAt.snoc (x := (left, 1)) upd_same (t2.same (same_new ht)))
        · have ho' : ¬ 1 < left := fun z => ho (decide_eq_true (by omega))
          exact ⟨_, rfl, k l ws L H2 hl s2 hl2 t2 (F2.done ho')⟩
    · refine ⟨_, rfl, 1, _, rfl, .inr rfl, .inr ?_⟩
      rcases hv with hv | ⟨i, rfl, hi⟩
      · exact .inr ⟨hv, k⟩
      · exact .inl ⟨i, rfl, hi, k⟩
theorem scIsPrime : FnScope ["p"] ["p"] (defScope sIsPrime) := ⟨rfl, rfl, rfl, by decide +kernel, rfl, by decide +kernel, by decide +kernel⟩
theorem ok_isprime {f : Addr} {fd : FuncData} (F : Fun K "is_prime" "is_prime" sIsPrime f fd) (pPrimes : Pm P w K mg base (CX1 P w) 4 "primes_of" ["n"] (spPrimes K C)) : FnOk P w K mg base CX0 5 f fd ["p"] spIsPrime := by
  refine F.okQ scIsPrime (fun vs H Q E h => ?_) (fun cdv A outer s H vs Q E hr h => ?_)
  · obtain ⟨i, rfl, _⟩ := h
    rfl
  · obtain ⟨i, rfl, hi, k⟩ := h
    refine ⟨_, (qss_one (qs_ret (qe_and (qe_cmpR op_gt (qv 0) qe_int (nomark _)) (qe_one (qe_cmpR (op_eqD hr.units) (qe_callP pPrimes hr rfl passN (qac (qv 0) qa_nil)) (qe_lst (qac (qe_tup (qac (qv 0) (qac qe_int qa_nil))) qa_nil)) (nomark _)))))), ?_⟩
    refine ⟨_, rfl, _, _, rfl, rfl, _, rfl, ?_⟩
    by_cases h1 : (1 : Int) < i
    · refine ifT h1 ?_
      obtain ⟨n, rfl⟩ : ∃ n : Nat, i = n := ⟨i.toNat, by omega⟩
      refine ⟨_, rfl, .inl ⟨n, rfl, by omega, by omega, fun l ws L H1 hl s1 hl1 t1 F1 => ?_⟩⟩
      refine ⟨_, rfl, by show 2 ≤ sizeLine; decide, fun t ht => ⟨by show 1 ≤ sizeLine; decide, fun m hm => ?_⟩⟩
      have s2 := same_new (o := .tup [.int (n : Nat), .int 1]) ht
      have s3 := same_new (o := .lst [.ref t]) hm
      have s4 := s2.trans s3
      refine ⟨.list (L.map ptup), .list ([(n, 1)].map ptup), ?_, ?_, shaped_ptups _, shaped_ptups _, ?_⟩
      · simp only [IsD]
        exact ⟨l, ws, rfl, SqL.of (s4 _ _ hl1), tups_isD (t1.same s4)⟩
      · simp only [IsD]
        exact ⟨m, [.ref t], rfl, SqL.of upd_same, tups_isD (ws := [.ref t]) (L := [(n, 1)]) ⟨⟨t, rfl, s3 _ _ upd_same⟩, trivial⟩⟩
      · refine k _ _ (s1.trans s4) ?_
        show PyData.eqv _ _ = true ↔ _
        simp only [PyData.eqv, eqv_ptups, decide_eq_true_eq]
        constructor
        · rintro rfl
          exact ⟨n, rfl, F1.pr_of⟩
        · rintro ⟨p, e, hp⟩
          have : p = n := by omega
          subst this
          exact F1.of_pr hp
    · refine ifF h1 ?_
      refine k false H (Same.refl H) ⟨fun z => (nomatch z), fun ⟨p, e, hp⟩ => ?_⟩
      have := hp.1
      omega
theorem scPlain : FnScope ["n", "factor", "p", "often", "turn"] ["n"] (defScope sPlain) := ⟨rfl, rfl, rfl, by decide +kernel, rfl, by decide +kernel, by decide +kernel⟩
theorem ok_plain {f fM fP : Addr} {fd fdM fdP : FuncData} (F : Fun K "plain_part" "plain_part" sPlain f fd) (T : Txt K mg M C) (FM : Fun K "must_be_whole" "must_be_whole" sMust fM fdM) (bM : Binds K fdM ["thing"] []) (mM : mg "must_be_whole" = some (.ref fM))
    (GM : FnOk P w K mg base (CX1 P w) 2 fM fdM ["thing"] (spMust K C)) (FP : Fun K "primes_of" "primes_of" sPrimes fP fdP) (bP : Binds K fdP ["n"] []) (mP : mg "primes_of" = some (.ref fP)) (GP : FnOk P w K mg base (CX1 P w) 4 fP fdP ["n"] (spPrimes K C)) :
    FnOk P w K mg base (CX1 P w) 5 f fd ["n"] (spPlain K C) := by
  refine F.okXQ scPlain (fun vs H Q E h => ?_) (fun cdv A outer s H vs Q E hr h => ?_)
  · rcases h with ⟨n, rfl, _⟩ | ⟨v, rfl, _⟩ <;> rfl
  · have hr2 : Room 2 (A.deeper (PyProof.Rows.envOfC "plain_part" (defScope sPlain) s.heap.objs.size f cdv)) := hr.mono (by decide)
    refine ⟨_, qss_cons (qs_expr (qe_call GM hr2 rfl mM FM.kp bM .nil (passE rfl) (qac (qv 0) qa_nil)))
      (qss_cons (qs_if (qt_cmpR op_eq (qv 0) qe_int (nomark _)) (qss_one (qs_raise T.eC.ex rfl T.mgC rfl rfl (qac qe_str qa_nil))) qss_nil)
      (QSs.nox (qss_cons (qs_set (i := 1) scPlain.nd rfl (Or.inl rfl) qe_int)
      (qss_cons (qs_for PassesOwn.never rfl (qi_list (qe_call GP hr rfl mP FP.kp bP .nil passN (qac (qe_callB call_abs (by rfl) T.abs PyProof.Rows.boot_abs (qac (qv 0) qa_nil)) qa_nil)))
        (qg_tup rfl (qgs_cons (qg_name (i := 2) scPlain.nd rfl (Or.inl rfl)) (qgs_cons (qg_name (i := 3) scPlain.nd rfl (Or.inl rfl)) qgs_nil)))
        (qss_one (qs_for PassesOwn.never rfl (qi_range1 rfl T.range (qac (qe_op op_fdiv (qv 3) qe_int) qa_nil)) (qg_name (i := 4) scPlain.nd rfl (Or.inl rfl))
          (qss_one (qs_set (i := 1) scPlain.nd rfl (Or.inl rfl) (qe_op op_mul (qv 1) (qv 2)))))))
      (qss_one (qs_ret (qe_tup (qac (qe_op op_fdiv (qv 0) (qe_op op_mul (qv 1) (qv 1))) (qac (qv 1) qa_nil))))))))), ?_⟩
    rcases h with ⟨n, rfl, h0, hn, k⟩ | ⟨v, rfl, hv, k⟩
    · refine ⟨_, rfl, _, true, rfl, .int n, fun _ => ?_, fun z => (nomatch z)⟩
      refine ⟨_, rfl, rfl, _, rfl, ?_⟩
      rw [decide_eq_false (fun z => h0 (V.int.inj z))]
      refine iteF ?_
      refine ⟨_, rfl, n, rfl, .inl ⟨n.natAbs, by rw [abs_nat]; rfl, by omega, Nat.lt_trans hn (by decide), fun l ws L H1 hl s1 hl1 t1 F1 => ?_⟩⟩
      obtain ⟨pe, p1, p2, p3⟩ := F1.plain
      refine ⟨l, rfl, ⟨_, SqL.of hl1⟩, for_list (K := K) (a := l) (xs := ws)
        (fun i σ H2 => H2 = H1 ∧ ∃ (x2 x3 x4 : Option V), σ = [some (.int n), some (.int (EM.halfL (L.take i) : Nat)), x2, x3, x4])
        ⟨rfl, _, _, _, rfl⟩ (fun i σ H2 _ ⟨e, _⟩ => SqL.of (e ▸ hl1)) ?_ ?_⟩
      · rintro i v σ H2 hi ⟨rfl, x2, x3, x4, rfl⟩
        obtain ⟨t, x, rfl, hx, htx⟩ := t1.get hi
        have hxm : x ∈ L := List.mem_of_getElem? hx
        obtain ⟨h30, hxn⟩ := F1.few (by omega) hn x hxm
        refine ⟨t, _, rfl, SqT.of htx, rfl, _, _, rfl, _, _, rfl, rfl, ?_⟩
        refine ⟨_, rfl, _, _, rfl, rfl, ⟨by decide, by decide⟩, _, rfl, by omega, by omega, for_range (n := ((x.2 : Int) / 2).toNat)
          (fun j σ H3 => H3 = H2 ∧ ∃ (y4 : Option V), σ = [some (.int n), some (.int ((EM.halfL (L.take i) * x.1 ^ j : Nat) : Int)), some (.int (x.1 : Nat)), some (.int (x.2 : Nat)), y4])
          ⟨rfl, _, by rw [Nat.pow_zero, Nat.mul_one]; rfl⟩ ?_ ?_⟩
        · rintro j σ H3 hj ⟨rfl, y4, rfl⟩
          refine ⟨_, rfl, _, rfl, _, _, rfl, rfl, .inr ⟨by omega, by omega⟩, rfl, some (.int (0 + (j : Int))), ?_⟩
          rw [Nat.pow_succ, ← Nat.mul_assoc, Int.natCast_mul]
          rfl
        · rintro σ H3 ⟨rfl, y4, rfl⟩
          refine ⟨rfl, some (.int (x.1 : Nat)), some (.int (x.2 : Nat)), y4, ?_⟩
          have e : ((x.2 : Int) / 2).toNat = x.2 / 2 := by omega
          rw [EM.halfL_take hx, e]
      · rintro σ H2 ⟨rfl, x2, x3, x4, rfl⟩
        rw [t1.len, List.take_length]
        obtain ⟨sg, e1, e2, e3⟩ := EM.plain_int p1 pe
        have hle : EM.halfL L * EM.halfL L ≤ n.natAbs := by
          rw [pe]
          exact Nat.le_mul_of_pos_left _ p2
        have hle2 : EM.halfL L ≤ EM.halfL L * EM.halfL L := Nat.le_mul_of_pos_left _ p1
        have hq : ((EM.halfL L : Nat) : Int) * ((EM.halfL L : Nat) : Int) = ((EM.halfL L * EM.halfL L : Nat) : Int) := (Int.natCast_mul _ _).symm
        have hq0 : 1 ≤ EM.halfL L * EM.halfL L := Nat.mul_pos p1 p1
        refine ⟨_, rfl, _, rfl, _, rfl, _, _, rfl, rfl, .inl ⟨by omega, by omega⟩, _, _, rfl, rfl, ⟨by rw [hq]; omega, by rw [hq]; omega⟩, _, rfl, by show 2 ≤ sizeLine; decide, fun t ht => ?_⟩
        refine k t sg (EM.halfL L) _ (s1.trans (same_new ht)) ?_ e2 p1 ?_
        · rw [← e1]
          exact upd_same
        · rw [e3]
          exact p3
    · rcases hv with hv | rfl
      · exact ⟨_, rfl, _, false, rfl, hv, fun z => (nomatch z), fun _ => k⟩
      · refine ⟨_, rfl, _, true, rfl, .int 0, fun _ => ?_, fun z => (nomatch z)⟩
        refine ⟨_, rfl, rfl, _, rfl, ?_⟩
        rw [decide_eq_true rfl]
        exact iteT ⟨by show 1 ≤ sizeLine; decide, k⟩
theorem scPower : FnScope ["n", "exponent", "p", "power", "square", "left"] ["n", "exponent", "p"] (defScope sPower) := ⟨rfl, rfl, rfl, by decide +kernel, rfl, by decide +kernel, by decide +kernel⟩
theorem ok_power {f : Addr} {fd : FuncData} (F : Fun K "power_by" "power_by" sPower f fd) : FnOk P w K mg base CX0 1 f fd ["n", "exponent", "p"] spPower := by
  refine F.okQ scPower (fun vs H Q E h => ?_) (fun cdv A outer s H vs Q E hr h => ?_)
  · obtain ⟨n, e, p, rfl, _⟩ := h
    rfl
  · obtain ⟨n, e, p, rfl, h2, hp30, k⟩ := h
    refine ⟨_, (qss_cons (qs_set (i := 3) scPower.nd rfl (Or.inl rfl) qe_int)
      (qss_cons (qs_set (i := 4) scPower.nd rfl (Or.inl rfl) (qe_op op_mod (qv 0) (qv 2)))
      (qss_cons (qs_set (i := 5) scPower.nd rfl (Or.inl rfl) (qv 1))
      (qss_cons (qs_while PassesOwn.never (qt_cmpR op_gt (qv 5) qe_int (nomark _))
        (qss_cons (qs_if (qt_cmpR op_eq (qe_op op_mod (qv 5) qe_int) qe_int (nomark _)) (qss_one (qs_set (i := 3) scPower.nd rfl (Or.inl rfl) (qe_op op_mod (qe_op op_mul (qv 3) (qv 4)) (qv 2)))) qss_nil)
        (qss_cons (qs_set (i := 4) scPower.nd rfl (Or.inl rfl) (qe_op op_mod (qe_op op_mul (qv 4) (qv 4)) (qv 2)))
        (qss_one (qs_set (i := 5) scPower.nd rfl (Or.inl rfl) (qe_op op_fdiv (qv 5) qe_int))))))
      (qss_one (qs_ret (qv 3))))))), ?_⟩
    refine ⟨_, rfl, _, rfl, _, _, rfl, rfl, by omega, _, rfl, ?_⟩
    refine while_w (fun σ H2 => H2 = H ∧ ∃ (pw sq lf : Nat), σ = [some (.int n), some (.int (e : Nat)), some (.int (p : Nat)), some (.int (pw : Nat)), some (.int (sq : Nat)), some (.int (lf : Nat))] ∧ pw < p ∧ sq < p ∧ pw * sq ^ lf % p = EM.am n p ^ e % p)
      (fun σ _ => match σ with | [_, _, _, _, _, some (.int lf)] => lf.toNat | _ => 0)
      ⟨rfl, 1, EM.am n p, e, by rw [EM.am_cast (by omega)]; rfl, by omega, EM.am_lt (by omega) n, by rw [Nat.one_mul]⟩ ?_
    rintro m σ H2 ⟨rfl, pw, sq, lf, rfl, hpw, hsq, inv⟩ hm
    refine ⟨_, rfl, _, _, rfl, rfl, _, rfl, ?_⟩
    refine ite2 (fun hc => WTurn.of ?_) (fun hc => ?_)
    · have hlf : 0 < lf := by
        have := of_decide_eq_true hc
        omega
      have less : lf / 2 < lf := Nat.div_lt_self hlf (by decide)
      have fin : ∀ x : Nat, (((lf : Int) / 2).toNat < (lf : Int).toNat) := fun _ => by omega
      refine ⟨_, rfl, _, _, rfl, rfl, (by show (0 : Int) < 2; decide), rfl, _, rfl, ?_⟩
      by_cases ho : lf % 2 = 1
      · refine ifT (congrArg V.int (show (lf : Int) % 2 = 1 by omega)) ?_
        refine ⟨_, rfl, _, rfl, _, _, rfl, rfl, .inl ⟨by omega, by omega⟩, _, rfl, _, _, rfl, rfl, by omega, ?_⟩
        refine ⟨_, rfl, _, rfl, _, _, rfl, rfl, .inl ⟨by omega, by omega⟩, _, rfl, _, _, rfl, rfl, by omega, ?_⟩
        refine ⟨_, rfl, _, _, rfl, rfl, ⟨by decide, by decide⟩, ⟨rfl, pw * sq % p, sq * sq % p, lf / 2, rfl, Nat.mod_lt _ (by omega), Nat.mod_lt _ (by omega), ?_⟩, ?_⟩
        · rw [EM.pow_step p pw sq lf ho]
          exact inv
        · rw [hm]
          exact fin 0
      · refine ifF (fun z => ho (by have := V.int.inj z; omega)) ?_
        refine ⟨_, rfl, _, rfl, _, _, rfl, rfl, .inl ⟨by omega, by omega⟩, _, rfl, _, _, rfl, rfl, by omega, ?_⟩
        refine ⟨_, rfl, _, _, rfl, rfl, ⟨by decide, by decide⟩, ⟨rfl, pw, sq * sq % p, lf / 2, rfl, hpw, Nat.mod_lt _ (by omega), ?_⟩, ?_⟩
        · rw [EM.pow_even p pw sq lf (by omega)]
          exact inv
        · rw [hm]
          exact fin 0
    · have hlf : lf = 0 := by
        have : ¬ (0 < (lf : Int)) := fun z => hc (decide_eq_true z)
        omega
      subst hlf
      rw [Nat.pow_zero, Nat.mul_one, Nat.mod_eq_of_lt hpw] at inv
      rw [← inv] at k
      exact ⟨_, rfl, k⟩
theorem scIsRest : FnScope ["n", "p"] ["n", "p"] (defScope sIsRest) := ⟨rfl, rfl, rfl, by decide +kernel, rfl, by decide +kernel, by decide +kernel⟩
theorem ok_isrest {f : Addr} {fd : FuncData} (F : Fun K "is_rest" "is_rest" sIsRest f fd) (T : Txt K mg M C) (pMust : Pm P w K mg base (CX1 P w) 2 "must_be_whole" ["thing"] (spMust K C)) (pIsPrime : Pm P w K mg base CX0 5 "is_prime" ["p"] spIsPrime)
    (pPower : Pm P w K mg base CX0 1 "power_by" ["n", "exponent", "p"] spPower) : FnOk P w K mg base (CX1 P w) 6 f fd ["n", "p"] (spIsRest K C) := by
  refine F.okXQ scIsRest (fun vs H Q E h => ?_) (fun cdv A outer s H vs Q E hr h => ?_)
  · rcases h with ⟨n, p, rfl, _⟩ | ⟨v, u, rfl, _⟩ <;> rfl
  · have hr1 : Room 1 (A.deeper (PyProof.Rows.envOfC "is_rest" (defScope sIsRest) s.heap.objs.size f cdv)) := hr.mono (by decide)
    have hr2 : Room 2 (A.deeper (PyProof.Rows.envOfC "is_rest" (defScope sIsRest) s.heap.objs.size f cdv)) := hr.mono (by decide)
    refine ⟨_, (qss_cons (qs_expr (qe_callP pMust hr2 rfl (passE rfl) (qac (qv 0) qa_nil)))
      (qss_cons (qs_expr (qe_callP pMust hr2 rfl (passE rfl) (qac (qv 1) qa_nil)))
      (qss_cons (qs_if (qt_not (qt_val (qe_callP pIsPrime hr rfl pass0 (qac (qv 1) qa_nil)))) (qss_one (qs_raise T.eC.ex rfl T.mgC rfl rfl (qac qe_str qa_nil))) qss_nil)
      (qss_one (qs_ret (qe_or (qe_cmpR op_eq (qv 1) qe_int (nomark _)) (qe_one (qe_cmpR op_in_seq (qe_callP pPower hr1 rfl pass0 (qac (qv 0) (qac (qe_op op_fdiv (qe_op op_sub (qv 1) qe_int) qe_int) (qac (qv 1) qa_nil)))) (qe_tup (qac qe_int (qac qe_int qa_nil))) rfl)))))))), ?_⟩
    rcases h with ⟨n, p, rfl, hp, hp30, k⟩ | ⟨v, u, rfl, hv, k⟩
    · have h2 := hp.1
      refine ⟨_, rfl, _, true, rfl, .int n, fun _ => ?_, fun z => (nomatch z)⟩
      refine ⟨_, rfl, _, true, rfl, .int _, fun _ => ?_, fun z => (nomatch z)⟩
      refine ⟨_, rfl, _, rfl, by omega, fun b H1 s1 hb => ⟨b, rfl, ?_⟩⟩
      have hbt : b = true := hb.mpr ⟨p, rfl, hp⟩
      subst hbt
      refine iteF ?_
      refine ⟨_, rfl, rfl, _, rfl, ?_⟩
      by_cases h22 : p = 2
      · subst h22
        refine ifT rfl ?_
        exact k true H1 s1 ⟨fun _ => EM.rest_two n, fun _ => rfl⟩
      · refine ifF (fun z => h22 (by have := V.int.inj z; omega)) ?_
        refine ⟨_, rfl, _, rfl, _, _, rfl, rfl, _, _, rfl, rfl, ⟨by decide, by decide⟩, _, rfl, n, (p - 1) / 2, p, ?_, h2, hp30, ?_⟩
        · have e : ((p : Int) - 1) / 2 = (((p - 1) / 2 : Nat) : Int) := by omega
          show [V.int n, V.int (((p : Int) - 1) / 2), V.int (p : Nat)] = _
          rw [e]
        · refine ⟨by show 2 ≤ sizeLine; decide, fun t ht => ?_⟩
          refine ⟨t, _, rfl, .inr (SqT.of upd_same), rfl, rfl, ?_⟩
          refine k _ _ (s1.trans (same_new ht)) ?_
          rw [← EM.euler_rest hp h22 n]
          generalize EM.am n p ^ ((p - 1) / 2) % p = z
          show (inV (V.int ((z : Nat) : Int)) [V.int 0, V.int 1] = true) ↔ _
          unfold inV
          simp only [List.any_cons, List.any_nil, Bool.or_false, eqV, Bool.or_eq_true, beq_iff_eq]
          omega
    · rcases hv with hv | ⟨⟨n, rfl⟩, hu⟩
      · exact ⟨_, rfl, _, false, rfl, hv, fun z => (nomatch z), fun _ => k H (Same.refl H)⟩
      · refine ⟨_, rfl, _, true, rfl, .int n, fun _ => ?_, fun z => (nomatch z)⟩
        rcases hu with hu | ⟨i, rfl, hi, hno⟩
        · exact ⟨_, rfl, _, false, rfl, hu, fun z => (nomatch z), fun _ => k H (Same.refl H)⟩
        · refine ⟨_, rfl, _, true, rfl, .int i, fun _ => ?_, fun z => (nomatch z)⟩
          refine ⟨_, rfl, _, rfl, hi, fun b H1 s1 hb => ⟨b, rfl, ?_⟩⟩
          have hbf : b = false := by
            cases b with
            | false => rfl
            | true => exact absurd (hb.mp rfl) hno
          subst hbf
          exact iteT ⟨by show 1 ≤ sizeLine; decide, k H1 s1⟩
theorem scPShut : FnScope ["s", "t", "p"] ["s", "t", "p"] (defScope sPShut) := ⟨rfl, rfl, rfl, by decide +kernel, rfl, by decide +kernel, by decide +kernel⟩
theorem ok_pshut {f : Addr} {fd : FuncData} (F : Fun K "prime_shuts_plain" "prime_shuts_plain" sPShut f fd) (pIsRest : Pm P w K mg base (CX1 P w) 6 "is_rest" ["n", "p"] (spIsRest K C)) : FnOk P w K mg base CX0 7 f fd ["s", "t", "p"] spPShut := by
  refine F.okQ scPShut (fun vs H Q E h => ?_) (fun cdv A outer s H vs Q E hr h => ?_)
  · obtain ⟨s, t, p, rfl, _⟩ := h
    rfl
  · obtain ⟨sg, tg, p, rfl, hs40, ht40, hp, hp30, k⟩ := h
    have h2 := hp.1
    refine ⟨_, (qss_cons (qs_if (QW.pt (qw_and (qt_cmpR op_eq (qe_op op_mod (qv 0) (qv 2)) qe_int (nomark _)) (qw_and1 (qt_cmpR op_eq (qe_op op_mod (qv 1) (qv 2)) qe_int (nomark _))))) (qss_one (qs_ret (qe_not (qe_callP pIsRest hr rfl passN (qac (qe_op op_mul (qe_un un_neg (qe_op op_fdiv (qv 0) (qv 2))) (qe_op op_fdiv (qv 1) (qv 2))) (qac (qv 2) qa_nil)))))) qss_nil)
      (qss_cons (qs_if (qt_cmpR op_eq (qe_op op_mod (qv 0) (qv 2)) qe_int (nomark _)) (qss_one (qs_ret (qe_not (qe_callP pIsRest hr rfl passN (qac (qv 1) (qac (qv 2) qa_nil)))))) qss_nil)
      (qss_cons (qs_if (qt_cmpR op_eq (qe_op op_mod (qv 1) (qv 2)) qe_int (nomark _)) (qss_one (qs_ret (qe_not (qe_callP pIsRest hr rfl passN (qac (qv 0) (qac (qv 2) qa_nil)))))) qss_nil)
      (qss_one (qs_ret qe_bl))))), ?_⟩
    refine ⟨_, rfl, _, rfl, _, _, rfl, rfl, by omega, rfl, _, rfl, ?_⟩
    have hdb : ∀ (x : Int), x.natAbs < 2 ^ 40 → -(2 ^ 64) < -(x / (p : Int)) ∧ -(x / (p : Int)) < 2 ^ 64 := fun x hx => by
      have h1 := Int.ediv_nonneg_iff_of_pos (a := x) (b := (p : Int)) (by omega)
      have h3 : (x / (p : Int)).natAbs ≤ x.natAbs := Int.natAbs_ediv_le_natAbs x p
      omega
    by_cases ds : (p : Int) ∣ sg
    · refine ifT (emod_dvd.mpr ds) ?_
      refine ⟨_, rfl, _, rfl, _, _, rfl, rfl, by omega, rfl, _, rfl, ?_⟩
      by_cases dt : (p : Int) ∣ tg
      · refine ifT (emod_dvd.mpr dt) ?_
        refine ⟨_, rfl, _, rfl, _, _, rfl, rfl, ⟨by omega, by omega⟩, _, rfl, _, rfl, _, rfl, _, _, rfl, rfl, ⟨by omega, by omega⟩, _, _, rfl, rfl, .inl (hdb sg hs40), _, rfl, .inl ⟨_, p, rfl, hp, hp30, fun b H1 s1 hb => ⟨b, rfl, k _ _ s1 ?_⟩⟩⟩
        rw [not_rest hb]
        constructor
        · exact fun z => .inl ⟨ds, dt, z⟩
        · rintro (z | z | z)
          · exact z.2.2
          · exact absurd dt z.2.1
          · exact absurd ds z.1
      · refine ifF (fun z => dt (emod_dvd.mp z)) ?_
        refine ⟨_, rfl, _, rfl, _, _, rfl, rfl, by omega, rfl, _, rfl, ifT (emod_dvd.mpr ds) ?_⟩
        refine ⟨_, rfl, _, rfl, .inl ⟨_, p, rfl, hp, hp30, fun b H1 s1 hb => ⟨b, rfl, k _ _ s1 ?_⟩⟩⟩
        rw [not_rest hb]
        constructor
        · exact fun z => .inr (.inl ⟨ds, dt, z⟩)
        · rintro (z | z | z)
          · exact absurd z.2.1 dt
          · exact z.2.2
          · exact absurd ds z.1
    · refine ifF (fun z => ds (emod_dvd.mp z)) ?_
      refine ⟨_, rfl, _, rfl, _, _, rfl, rfl, by omega, rfl, _, rfl, ifF (fun z => ds (emod_dvd.mp z)) ?_⟩
      refine ⟨_, rfl, _, rfl, _, _, rfl, rfl, by omega, rfl, _, rfl, ?_⟩
      by_cases dt : (p : Int) ∣ tg
      · refine ifT (emod_dvd.mpr dt) ?_
        refine ⟨_, rfl, _, rfl, .inl ⟨_, p, rfl, hp, hp30, fun b H1 s1 hb => ⟨b, rfl, k _ _ s1 ?_⟩⟩⟩
        rw [not_rest hb]
        constructor
        · exact fun z => .inr (.inr ⟨ds, dt, z⟩)
        · rintro (z | z | z)
          · exact absurd z.1 ds
          · exact absurd z.1 ds
          · exact z.2.2
      · refine ifF (fun z => dt (emod_dvd.mp z)) ?_
        refine k false H (Same.refl H) ⟨fun z => (nomatch z), fun z => ?_⟩
        rcases z.dvd with q | q
        · exact absurd q ds
        · exact absurd q dt
theorem scShuts : FnScope ["a", "b", "p", "s", "t"] ["a", "b", "p"] (defScope sShuts) := ⟨rfl, rfl, rfl, by decide +kernel, rfl, by decide +kernel, by decide +kernel⟩
theorem ok_shuts {f : Addr} {fd : FuncData} (F : Fun K "shuts" "shuts" sShuts f fd) (pPlain : Pm P w K mg base (CX1 P w) 5 "plain_part" ["n"] (spPlain K C)) (pMust : Pm P w K mg base (CX1 P w) 2 "must_be_whole" ["thing"] (spMust K C))
    (pIsPrime : Pm P w K mg base CX0 5 "is_prime" ["p"] spIsPrime) (pPShut : Pm P w K mg base CX0 7 "prime_shuts_plain" ["s", "t", "p"] spPShut) : FnOk P w K mg base (CX1 P w) 8 f fd ["a", "b", "p"] (spShuts K C) := by
  refine F.okXQ scShuts (fun vs H Q E h => ?_) (fun cdv A outer s H vs Q E hr h => ?_)
  · rcases h with ⟨a, b, i, rfl, _⟩ | ⟨v, u, x, rfl, _⟩ <;> rfl
  · have hr2 : Room 2 (A.deeper (PyProof.Rows.envOfC "shuts" (defScope sShuts) s.heap.objs.size f cdv)) := hr.mono (by decide)
    have hr5 : Room 5 (A.deeper (PyProof.Rows.envOfC "shuts" (defScope sShuts) s.heap.objs.size f cdv)) := hr.mono (by decide)
    refine ⟨_, (qss_cons (qs_set (i := 3) scShuts.nd rfl (Or.inl rfl) (qe_ix ix_tup (qe_callP pPlain hr5 rfl (passE rfl) (qac (qv 0) qa_nil)) qe_int (fun _ _ => rfl)))
      (qss_cons (qs_set (i := 4) scShuts.nd rfl (Or.inl rfl) (qe_ix ix_tup (qe_callP pPlain hr5 rfl (passE rfl) (qac (qv 1) qa_nil)) qe_int (fun _ _ => rfl)))
      (qss_cons (qs_expr (qe_callP pMust hr2 rfl (passE rfl) (qac (qv 2) qa_nil)))
      (qss_one (qs_ret (qe_and (qe_cmpR op_ne (qv 2) qe_int (nomark _)) (qe_and (qe_callP pIsPrime hr5 rfl pass0 (qac (qv 2) qa_nil)) (qe_one (qe_callP pPShut hr rfl pass0 (qac (qv 3) (qac (qv 4) (qac (qv 2) qa_nil)))))))))))), ?_⟩
    have bad : ∀ {v : V} {H1 : Hp}, BadNum K H1 v → (∀ H', Same H H' → E (.ref C) none H') → Same H H1 → spPlain K C [v] H1 (fun _ _ => True) E := fun {v H1} hv k s1 => .inr ⟨v, rfl, hv, k H1 s1⟩
    rcases h with ⟨a, b, i, rfl, ha0, hb0, ha, hb, hi, k⟩ | ⟨v, u, x, rfl, hv, k⟩
    · refine ⟨_, rfl, .inl ⟨a, rfl, ha0, ha, fun ta sa fa H1 s1 ht1 ea pa qa => ?_⟩⟩
      refine ⟨ta, _, 0, .int sa, rfl, rfl, SqT.of ht1, rfl, ?_⟩
      refine ⟨_, rfl, .inl ⟨b, rfl, hb0, hb, fun tb sb fb H2 s2 ht2 eb pb qb => ?_⟩⟩
      refine ⟨tb, _, 0, .int sb, rfl, rfl, SqT.of ht2, rfl, ?_⟩
      have PA : EM.PlainOf a sa fa := ⟨ea, pa, qa⟩
      have PB : EM.PlainOf b sb fb := ⟨eb, pb, qb⟩
      have le : ∀ {n s : Int} {f : Nat}, EM.PlainOf n s f → s.natAbs ≤ n.natAbs := fun {n s f} h => by
        have e : n.natAbs = s.natAbs * (f * f) := by rw [h.eq, Int.natAbs_mul, Int.natAbs_mul]; rfl
        rw [e]
        exact Nat.le_mul_of_pos_right _ (Nat.mul_pos h.pos h.pos)
      have la := le PA
      have lb := le PB
      refine ⟨_, rfl, _, true, rfl, .int i, fun _ => ?_, fun z => (nomatch z)⟩
      refine ⟨_, rfl, rfl, _, rfl, ?_⟩
      by_cases i2 : i = 2
      · subst i2
        have e : (!decide (V.int 2 = V.int 2)) = false := rfl
        refine iteF ?_
        refine k false _ (s1.trans s2) ⟨fun z => (nomatch z), fun ⟨p, e, _, ne, _⟩ => absurd (show p = 2 by omega) ne⟩
      · have e : (!decide (V.int i = V.int 2)) = true := by rw [decide_eq_false (fun z => i2 (V.int.inj z))]; rfl
        rw [show (!decide (V.int i = V.int 2)) = true from e]
        refine iteT ?_
        refine ⟨_, rfl, i, rfl, by omega, fun c H3 s3 hc => ⟨c, rfl, ?_⟩⟩
        cases c with
        | false =>
          refine iteF (k false _ ((s1.trans s2).trans s3) ⟨fun z => (nomatch z), fun ⟨p, e, hp, _, _⟩ => ?_⟩)
          exact absurd (hc.mpr ⟨p, e, hp⟩) (fun z => nomatch z)
        | true =>
          obtain ⟨p, rfl, hp⟩ := hc.mp rfl
          refine iteT ?_
          refine ⟨_, rfl, _, rfl, _, rfl, sa, sb, p, rfl, by omega, by omega, hp, by omega, fun c2 H4 s4 hc2 => ?_⟩
          refine k c2 _ (((s1.trans s2).trans s3).trans s4) (hc2.trans ?_)
          rw [← EM.Shuts.iff PA PB p]
          constructor
          · exact fun z => ⟨p, rfl, hp, by omega, z⟩
          · rintro ⟨p', e', _, _, z⟩
            have : p' = p := by omega
            exact this ▸ z
    · rcases hv with hv | ⟨⟨n, rfl, n0, nb⟩, hu⟩
      · exact ⟨_, rfl, .inr ⟨v, rfl, hv, k H (Same.refl H)⟩⟩
      · refine ⟨_, rfl, .inl ⟨n, rfl, n0, nb, fun ta sa fa H1 s1 ht1 ea pa qa => ?_⟩⟩
        refine ⟨ta, _, 0, .int sa, rfl, rfl, SqT.of ht1, rfl, ?_⟩
        exact ⟨_, rfl, .inr ⟨u, rfl, hu.same s1, k H1 s1⟩⟩
theorem scCell : FnScope ["_law_script", "_law_k"] ["_law_script", "_law_k"] (defScope sCell) := ⟨rfl, rfl, rfl, by decide +kernel, rfl, by decide +kernel, by decide +kernel⟩
theorem ok_cell {f : Addr} {fd : FuncData} (F : Fun K "_law_cell" "_law_cell" sCell f fd) (T : Txt K mg M C) : FnOk P w K mg base CX0 1 f fd ["_law_script", "_law_k"] (spCell K) := by
  refine F.okQ scCell (fun vs H Q E h => ?_) (fun cdv A outer s H vs Q E hr h => ?_)
  · obtain ⟨a, ns, k, rfl, _⟩ := h
    rfl
  · obtain ⟨a, ns, k, rfl, hS, hk, q⟩ := h
    refine ⟨_, qss_cons (qs_if (qt_cmpR op_lt (qv 1) (qe_callB call_len_seq (by rfl) T.len PySem.boot_len (qac (qv 0) qa_nil)) (nomark _)) (qss_one (qs_ret (qe_ix ix_list (qv 0) (qv 1) (fun _ _ => rfl)))) qss_nil)
      (qss_one (qs_ret (qe_op op_add (qe_op op_add (qe_op op_mul (qe_op op_mul qe_int (qv 1)) (qv 1)) (qe_op op_mul qe_int (qv 1))) qe_int))), ?_⟩
    refine ⟨_, rfl, _, rfl, a, _, rfl, .inl hS, _, _, rfl, rfl, _, rfl, ?_⟩
    refine ite2 (fun hc => ?_) (fun hc => ?_)
    · have hlt : k < ns.length := by
        have := of_decide_eq_true hc
        rw [List.length_map] at this
        omega
      refine ⟨_, rfl, _, rfl, a, _, _, V.int ns[k], rfl, rfl, hS, atI_nat (by rw [List.getElem?_map, List.getElem?_eq_getElem hlt]; rfl), q _⟩
    · refine ⟨_, rfl, _, _, rfl, rfl, .inl ⟨by decide, by decide⟩, _, rfl, _, _, rfl, rfl, .inr ⟨by omega, by omega⟩, _, rfl, _, _, rfl, rfl, .inl ⟨by decide, by decide⟩, _, _, rfl, rfl, _, _, rfl, rfl, q _⟩
theorem scPool : FnScope ["_law_cell_here", "_law_fill", "_law_seed", "_law_k"] ["_law_cell_here"] (defScope sPool) := ⟨rfl, rfl, rfl, by decide +kernel, rfl, by decide +kernel, by decide +kernel⟩
theorem ok_pool {f : Addr} {fd : FuncData} (F : Fun K "_law_pool" "_law_pool" sPool f fd) (T : Txt K mg M C) : FnOk P w K mg base CX0 1 f fd ["_law_cell_here"] spPool := by
  refine F.okQ scPool (fun vs H Q E h => ?_) (fun cdv A outer s H vs Q E hr h => ?_)
  · obtain ⟨c, rfl, _⟩ := h
    rfl
  · obtain ⟨c, rfl, q⟩ := h
    refine ⟨_, qss_cons (qs_set (i := 1) scPool.nd rfl (Or.inl rfl) (qe_callB call_abs (by rfl) T.abs PyProof.Rows.boot_abs (qac (qv 0) qa_nil)))
      (qss_cons (qs_if (qt_chain op_le op_lt qe_int (qv 0) (qe_op op_pow qe_int qe_int))
        (qss_cons (qs_set (i := 2) scPool.nd rfl (Or.inl rfl) (qe_op op_add (qe_op op_mod (qv 0) qe_int) qe_int))
        (qss_cons (qs_set (i := 1) scPool.nd rfl (Or.inl rfl) qe_int)
        (qss_one (qs_for PassesOwn.never rfl (qi_range1 rfl T.range (qac qe_int qa_nil)) (qg_name (i := 3) scPool.nd rfl (Or.inl rfl))
          (qss_cons (qs_set (i := 2) scPool.nd rfl (Or.inl rfl) (qe_op op_mod (qe_op op_add (qe_op op_add (qe_op op_mul (qv 2) (qe_op op_add (qe_op op_mod (qv 2) qe_int) qe_int)) (qe_op op_mul qe_int (qv 3))) qe_int) qe_int))
          (qss_one (qs_set (i := 1) scPool.nd rfl (Or.inl rfl) (qe_op op_add (qe_op op_mul (qv 1) qe_int) (qe_op op_mod (qv 2) qe_int)))))))))
        qss_nil)
      (qss_one (qs_ret (qe_lst (qac (qv 1) qa_nil))))), ?_⟩
    refine ⟨_, rfl, c, rfl, ?_⟩
    refine ⟨_, rfl, _, _, rfl, rfl, _, rfl, ?_⟩
    refine ite2 (fun _ => ?_) (fun _ => ?_)
    · refine ⟨_, _, rfl, rfl, ⟨by decide, by decide, by decide⟩, _, _, rfl, rfl, _, rfl, ?_⟩
      refine ite2 (fun _ => ?_) (fun _ => ?_)
      · refine ⟨_, rfl, _, _, rfl, rfl, (by show (0 : Int) < 1000000007; decide), _, _, rfl, rfl, ?_⟩
        refine ⟨30, rfl, by decide, by decide, for_range (n := 30) (fun i σ H2 => H2 = H ∧ ∃ (sd fl : Int) (x : Option V), σ = [some (.int c), some (.int fl), some (.int sd), x] ∧ 0 ≤ fl ∧ 0 ≤ sd ∧ sd < 2000000000)
          ⟨rfl, _, _, _, rfl, Int.le_refl 0, ?_, ?_⟩ ?_ ?_⟩
        · have := Int.emod_nonneg c (show (1000000007 : Int) ≠ 0 by decide)
          show 0 ≤ c % 1000000007 + 271
          omega
        · have := Int.emod_lt_of_pos c (show (0 : Int) < 1000000007 by decide)
          show c % 1000000007 + 271 < 2000000000
          omega
        · rintro i σ H2 hi ⟨rfl, sd, fl, x, rfl, h1, h2, h3⟩
          have a1 := Int.emod_nonneg sd (show (40093 : Int) ≠ 0 by decide)
          have a2 := Int.emod_lt_of_pos sd (show (0 : Int) < 40093 by decide)
          refine ⟨_, rfl, _, rfl, _, _, rfl, rfl, (by show (0 : Int) < 40093; decide), _, _, rfl, rfl, _, _, rfl, rfl, .inl ⟨by omega, by omega⟩, _, rfl, _, _, rfl, rfl, .inl ⟨by decide, by decide⟩, _, _, rfl, rfl, _, _, rfl, rfl, _, _, rfl, rfl, (by show (0 : Int) < 1000000007; decide), ?_⟩
          refine ⟨_, rfl, _, _, rfl, rfl, .inr ⟨by decide, by decide⟩, _, rfl, _, _, rfl, rfl, (by show (0 : Int) < 100003; decide), _, _, rfl, rfl, rfl, _, _, _, rfl, ?_, ?_, ?_⟩
          · refine Int.add_nonneg (Int.mul_nonneg h1 (by decide)) (Int.emod_nonneg _ (by decide))
          · exact Int.emod_nonneg _ (by decide)
          · exact Int.lt_trans (Int.emod_lt_of_pos _ (by decide)) (by decide)
        · rintro σ H2 ⟨rfl, sd, fl, x, rfl, h1, _, _⟩
          exact ⟨_, rfl, by show 1 ≤ sizeLine; decide, fun p hp => q p fl hp h1⟩
      · exact ⟨_, rfl, by show 1 ≤ sizeLine; decide, fun p hp => q p _ hp (abs_nn c)⟩
    · refine ⟨_, rfl, iteF ?_⟩
      exact ⟨_, rfl, by show 1 ≤ sizeLine; decide, fun p hp => q p _ hp (abs_nn c)⟩
theorem scTake : FnScope ["_law_pool_here", "_law_many", "_law_here"] ["_law_pool_here", "_law_many"] (defScope sTake) := ⟨rfl, rfl, rfl, by decide +kernel, rfl, by decide +kernel, by decide +kernel⟩
theorem ok_take {f : Addr} {fd : FuncData} (F : Fun K "_law_take" "_law_take" sTake f fd) : FnOk P w K mg base CX0 1 f fd ["_law_pool_here", "_law_many"] spTake := by
  refine F.okQ scTake (fun vs H Q E h => ?_) (fun cdv A outer s H vs Q E hr h => ?_)
  · obtain ⟨p, f, m, rfl, _⟩ := h
    rfl
  · obtain ⟨p, f, m, rfl, hp, h0, h1, h2, q⟩ := h
    refine ⟨_, qss_cons (qs_set (i := 2) scTake.nd rfl (Or.inl rfl) (qe_ix ix_list (qv 0) qe_int (fun _ _ => rfl)))
      (qss_cons (qs_asg (qe_op op_fdiv (qv 2) (qv 1)) (qg_sub (qv 0) qe_int set_list))
      (qss_one (qs_ret (qe_op op_mod (qv 2) (qv 1))))), ?_⟩
    refine ⟨_, rfl, p, [.int f], 0, .int f, rfl, rfl, SqL.of hp, rfl, ?_⟩
    refine ⟨_, rfl, _, rfl, _, _, rfl, rfl, ⟨h1, h2⟩, _, rfl, p, [.int f], 0, 0, rfl, rfl, hp, rfl, ?_⟩
    exact ⟨_, rfl, _, rfl, _, _, rfl, rfl, h1, q _ _ (Int.ediv_nonneg h0 (by omega)) (Int.emod_nonneg _ (by omega)) (Int.emod_lt_of_pos _ h1)⟩
theorem scRef : FnScope ["_law_e"] ["_law_e"] (defScope sRef) := ⟨rfl, rfl, rfl, by decide +kernel, rfl, by decide +kernel, by decide +kernel⟩
theorem ok_ref {f : Addr} {fd : FuncData} {o1 o2 o3 o4 o5 o6 o7 o8 o9 o10 o11 o12 o13 : Addr} (F : Fun K "_law_refused" "_law_refused" sRef f fd) (T : Txt K mg M C) (O : Others K mg C o1 o2 o3 o4 o5 o6 o7 o8 o9 o10 o11 o12 o13) :
    FnH P w K mg base 1 f fd ["_law_e"] (spRef C) := by
  refine F.okHQ scRef (fun vs H Q E h => ?_) (fun cdv A outer s H vs Q hr h => ?_)
  · obtain ⟨a, rfl, _⟩ := h
    rfl
  · obtain ⟨a, rfl, ha, q⟩ := h
    refine ⟨_, qss_cons (qs_if (qt_val (qe_callB (call_isinstXT T.cl) (by rfl) T.isi PyProof.Rows.boot_isinstance (qac (qv 0) (qac (qe_tup
        (qac (qe_glob (v := .ref o1) rfl O.m1 rfl) (qac (qe_glob (v := .ref o2) rfl O.m2 rfl) (qac (qe_glob (v := .ref o3) rfl O.m3 rfl) (qac (qe_glob (v := .ref o4) rfl O.m4 rfl) (qac (qe_glob (v := .ref o5) rfl O.m5 rfl) (qac (qe_glob (v := .ref o6) rfl O.m6 rfl)
        (qac (qe_glob (v := .ref o7) rfl O.m7 rfl) (qac (qe_glob (v := .ref o8) rfl O.m8 rfl) (qac (qe_glob (v := .ref o9) rfl O.m9 rfl) (qac (qe_glob (v := .ref o10) rfl O.m10 rfl) (qac (qe_glob (v := .ref o11) rfl O.m11 rfl) qa_nil)))))))))))) qa_nil))))
        (qss_one (qs_ret qe_bl)) qss_nil)
      (qss_one (qs_ret (qe_and (qe_callB (call_isinstX T.cl) (by rfl) T.isi PyProof.Rows.boot_isinstance (qac (qv 0) (qac (qe_glob (v := .ref C) rfl T.mgC rfl) qa_nil)))
        (qe_and (qe_callB (call_isinstX T.cl) (by rfl) T.isi PyProof.Rows.boot_isinstance (qac (qv 0) (qac (qe_bltn (v := .ty "ValueError") rfl T.ve (by decide +kernel) rfl) qa_nil)))
        (qe_one (qe_not (qe_callB (call_isinstXT T.cl) (by rfl) T.isi PyProof.Rows.boot_isinstance (qac (qv 0) (qac (qe_tup (qac (qe_glob (v := .ref o12) rfl O.m12 rfl) (qac (qe_glob (v := .ref o13) rfl O.m13 rfl) qa_nil))) qa_nil))))))))), ?_⟩
    refine ⟨_, rfl, by show 11 ≤ sizeLine; decide, fun p hp => ?_⟩
    have s1 := same_new (o := .tup [.ref o1, .ref o2, .ref o3, .ref o4, .ref o5, .ref o6, .ref o7, .ref o8, .ref o9, .ref o10, .ref o11]) hp
    refine ⟨a, C, p, _, false, rfl, s1 _ _ ha, T.eC, upd_same, fun us r => ?_, false, rfl, iteF ?_⟩
    · rw [vals_refs [o1, o2, o3, o4, o5, o6, o7, o8, o9, o10, o11] us r]
      exact O.k1
    refine ⟨_, rfl, a, C, _, true, rfl, s1 _ _ ha, T.eC, rel_ref T.kC, true, rfl, iteT ?_⟩
    refine ⟨_, rfl, a, C, _, true, rfl, s1 _ _ ha, T.eC, rel_ty T.kV, true, rfl, iteT ?_⟩
    refine ⟨_, rfl, by show 2 ≤ sizeLine; decide, fun p2 hp2 => ?_⟩
    have s2 := s1.trans (same_new (o := .tup [.ref o12, .ref o13]) hp2)
    refine ⟨a, C, p2, _, false, rfl, s2 _ _ ha, T.eC, upd_same, fun us r => ?_, false, rfl, q _ s2⟩
    rw [vals_refs [o12, o13] us r]
    exact O.k2
theorem scLPlain : FnScope ["_law_whole", "_law_plain_here", "_law_square", "_law_k"] ["_law_whole"] (defScope sLPlain) := ⟨rfl, rfl, rfl, by decide +kernel, rfl, by decide +kernel, by decide +kernel⟩
theorem ok_lplain {f : Addr} {fd : FuncData} (F : Fun K "_law_plain" "_law_plain" sLPlain f fd) (T : Txt K mg M C) : FnOk P w K mg base CX0 1 f fd ["_law_whole"] spLPlain := by
  refine F.okQ scLPlain (fun vs H Q E h => ?_) (fun cdv A outer s H vs Q E hr h => ?_)
  · obtain ⟨n, rfl, _⟩ := h
    rfl
  · obtain ⟨n, rfl, n0, nb, k⟩ := h
    refine ⟨_, (qss_cons (qs_set (i := 1) scLPlain.nd rfl (Or.inl rfl) (qv 0))
      (qss_cons (qs_set (i := 2) scLPlain.nd rfl (Or.inl rfl) qe_int)
      (qss_cons (qs_set (i := 3) scLPlain.nd rfl (Or.inl rfl) qe_int)
      (qss_cons (qs_while PassesOwn.never (qt_cmpR op_le (qe_op op_mul (qv 3) (qv 3)) (qe_callB call_abs (by rfl) T.abs PyProof.Rows.boot_abs (qac (qv 1) qa_nil)) (nomark _))
        (qss_cons (qs_while PassesOwn.never (qt_cmpR op_eq (qe_op op_mod (qv 1) (qe_op op_mul (qv 3) (qv 3))) qe_int (nomark _))
          (qss_cons (qs_set (i := 1) scLPlain.nd rfl (Or.inl rfl) (qe_op op_fdiv (qv 1) (qe_op op_mul (qv 3) (qv 3))))
          (qss_one (qs_set (i := 2) scLPlain.nd rfl (Or.inl rfl) (qe_op op_mul (qv 2) (qv 3))))))
        (qss_one (qs_set (i := 3) scLPlain.nd rfl (Or.inl rfl) (qe_op op_add (qv 3) qe_int)))))
      (qss_one (qs_ret (qe_tup (qac (qv 1) (qac (qv 2) qa_nil))))))))), ?_⟩
    refine ⟨_, rfl, ?_⟩
    have sle : ∀ {s : Int} {f j : Nat}, EM.PlainTo n s f j → s.natAbs ≤ n.natAbs ∧ f ≤ n.natAbs := fun {s f j} h => by
      have e : n.natAbs = s.natAbs * (f * f) := by rw [h.eq, Int.natAbs_mul, Int.natAbs_mul]; rfl
      have h1 : 1 ≤ s.natAbs := by have := h.nz; omega
      constructor
      · rw [e]
        exact Nat.le_mul_of_pos_right _ (Nat.mul_pos h.pos h.pos)
      · rw [e]
        exact Nat.le_trans (Nat.le_mul_of_pos_left f h.pos) (Nat.le_mul_of_pos_left _ h1)
    refine while_w (fun σ H2 => H2 = H ∧ ∃ (s : Int) (f j : Nat), σ = [some (.int n), some (.int s), some (.int (f : Nat)), some (.int (j : Nat))] ∧ EM.PlainTo n s f j ∧ 2 ≤ j ∧ j ≤ 2 ^ 20)
      (fun σ _ => match σ with | [_, some (.int s), _, some (.int j)] => s.natAbs + 1 - j.toNat | _ => 0) ⟨rfl, n, 1, 2, rfl, EM.PlainTo.start n0, by decide, by decide⟩ ?_
    rintro m σ H2 ⟨rfl, s, f, j, rfl, PT, j2, j20⟩ hm
    refine ⟨_, rfl, _, rfl, _, _, rfl, rfl, .inl ⟨by omega, by omega⟩, _, rfl, s, rfl, _, _, rfl, rfl, _, rfl, ?_⟩
    have jj : (j : Int) * (j : Int) = ((j * j : Nat) : Int) := (Int.natCast_mul _ _).symm
    refine ite2 (fun hc => WTurn.of ?_) (fun hc => ?_)
    · have hc' : j * j ≤ s.natAbs := by
        have := of_decide_eq_true hc
        rw [abs_nat, jj] at this
        omega
      have hsl := (sle PT).1
      have hj15 : j < 2 ^ 15 := by
        refine Nat.lt_of_not_le fun z => ?_
        have := Nat.mul_le_mul z z
        omega
      have h2j := EM.two_le_self j2 hc'
      have jj0 : 1 ≤ j * j := Nat.mul_pos (by omega) (by omega)
      refine while_w (fun σ H3 => H3 = H2 ∧ ∃ (s' : Int) (f' : Nat), σ = [some (.int n), some (.int s'), some (.int (f' : Nat)), some (.int (j : Nat))] ∧ EM.PlainTo n s' f' j ∧ s'.natAbs ≤ s.natAbs)
        (fun σ _ => match σ with | [_, some (.int s'), _, _] => s'.natAbs | _ => 0) ⟨rfl, s, f, rfl, PT, Nat.le_refl _⟩ ?_
      rintro m' σ H3 ⟨rfl, s', f', rfl, PT', hle⟩ hm'
      refine ⟨_, rfl, _, rfl, _, rfl, _, _, rfl, rfl, .inl ⟨by omega, by omega⟩, _, _, rfl, rfl, by rw [jj]; omega, rfl, _, rfl, ?_⟩
      by_cases hd : ((j : Int) * (j : Int)) ∣ s'
      · refine ifT (congrArg V.int (Int.emod_eq_zero_of_dvd hd)) (WTurn.of ?_)
        obtain ⟨P2, less⟩ := PT'.take j2 hd
        have hf := (sle PT').2
        refine ⟨_, rfl, _, rfl, _, rfl, _, _, rfl, rfl, .inl ⟨by omega, by omega⟩, _, _, rfl, rfl, ⟨by rw [jj]; omega, by rw [jj]; omega⟩, _, rfl, _, rfl, _, _, rfl, rfl, .inr ⟨by omega, by omega⟩, ⟨rfl, _, f' * j, ?_, P2, by omega⟩, ?_⟩
        · rw [Int.natCast_mul]
          rfl
        · rw [hm']
          exact less
      · refine ifF (fun z => hd (Int.dvd_of_emod_eq_zero (V.int.inj z))) ?_
        refine ⟨_, rfl, _, _, rfl, rfl, ⟨rfl, s', f', j + 1, rfl, PT'.next hd, by omega, by omega⟩, ?_⟩
        rw [hm]
        show s'.natAbs + 1 - ((j : Int) + 1).toNat < s.natAbs + 1 - ((j : Int)).toNat
        omega
    · have hc' : s.natAbs < j * j := by
        have h3 : ¬ ((j : Int) * (j : Int) ≤ (if s < 0 then -s else s)) := fun z => hc (decide_eq_true z)
        rw [abs_nat, jj] at h3
        omega
      refine ⟨_, rfl, _, rfl, by show 2 ≤ sizeLine; decide, fun t ht => ?_⟩
      exact k t s f _ (same_new ht) upd_same (PT.done hc')
theorem iteVia {c : Bool} {t1 t2 : TS} {D : Ends} {σ : St} {H : Hp} (J : St → Hp → Prop) (hJ : ∀ σ' H', J σ' H' → D.nx σ' H') (h1 : c = true → (∀ σ' H', J σ' H' → D.nx σ' H') → t1 D σ H) (h2 : ¬ c = true → (∀ σ' H', J σ' H' → D.nx σ' H') → t2 D σ H) : if c = true then t1 D σ H else t2 D σ H := ite2 (fun h => h1 h hJ) (fun h => h2 h hJ)
theorem intsN_snoc (L : List Nat) (j : Nat) : intsN (L ++ [j]) = intsN L ++ [V.int (j : Int)] := by unfold intsN; rw [List.map_append]; rfl
theorem intsN_len (L : List Nat) : (intsN L).length = L.length := by unfold intsN; rw [List.length_map]
theorem scLOddPrimes : FnScope ["_law_whole", "_law_found", "_law_left", "_law_k"] ["_law_whole"] (defScope sLOddPrimes) := ⟨rfl, rfl, rfl, by decide +kernel, rfl, by decide +kernel, by decide +kernel⟩
theorem ok_lodd {f : Addr} {fd : FuncData} (F : Fun K "_law_odd_primes" "_law_odd_primes" sLOddPrimes f fd) (T : Txt K mg M C) : FnOk P w K mg base CX0 1 f fd ["_law_whole"] spLOdd := by
  refine F.okQ scLOddPrimes (fun vs H Q E h => ?_) (fun cdv A outer s H vs Q E hr h => ?_)
  · obtain ⟨n, rfl, _⟩ := h
    rfl
  · obtain ⟨n, rfl, n0, nb, k⟩ := h
    refine ⟨_, (qss_cons (qs_set (i := 1) scLOddPrimes.nd rfl (Or.inl rfl) (qe_lst qa_nil))
      (qss_cons (qs_set (i := 2) scLOddPrimes.nd rfl (Or.inl rfl) (qe_callB call_abs (by rfl) T.abs PyProof.Rows.boot_abs (qac (qv 0) qa_nil)))
      (qss_cons (qs_set (i := 3) scLOddPrimes.nd rfl (Or.inl rfl) qe_int)
      (qss_cons (qs_while PassesOwn.never (qt_cmpR op_gt (qv 2) qe_int (nomark _))
        (qss_cons (qs_if (qt_cmpR op_gt (qe_op op_mul (qv 3) (qv 3)) (qv 2) (nomark _)) (qss_one (qs_set (i := 3) scLOddPrimes.nd rfl (Or.inl rfl) (qv 2))) qss_nil)
        (qss_cons (qs_if (qt_cmpR op_eq (qe_op op_mod (qv 2) (qv 3)) qe_int (nomark _)) (qss_cons (qs_if (qt_cmpR op_gt (qv 3) qe_int (nomark _)) (qss_one (qs_expr (qe_bm PySem.F.plainAttrs_list PySem.F.slot_list_append PySem.F.type_list_append mt_append (qv 1) (qac (qv 3) qa_nil)))) qss_nil)
          (qss_one (qs_while PassesOwn.never (qt_cmpR op_eq (qe_op op_mod (qv 2) (qv 3)) qe_int (nomark _))
            (qss_one (qs_set (i := 2) scLOddPrimes.nd rfl (Or.inl rfl) (qe_op op_fdiv (qv 2) (qv 3))))))) qss_nil)
        (qss_one (qs_set (i := 3) scLOddPrimes.nd rfl (Or.inl rfl) (qe_op op_add (qv 3) qe_int))))))
      (qss_one (qs_ret (qv 1))))))), ?_⟩
    refine ⟨by show 0 ≤ sizeLine; decide, fun l hl => ?_⟩
    refine ⟨_, rfl, n, rfl, ?_⟩
    refine while_w (fun σ H2 => ∃ (left j : Nat) (L : List Nat), σ = [some (.int n), some (.ref l), some (.int (left : Nat)), some (.int (j : Nat))] ∧ EM.OddTo n.natAbs left j L ∧ Same H H2 ∧ H2 l = some (.lst (intsN L)) ∧ 3 ^ L.length * left ≤ n.natAbs)
      (fun σ _ => match σ with | [_, _, some (.int left), some (.int j)] => (left + 1 - j).toNat | _ => 0)
      ⟨n.natAbs, 2, [], by rw [← abs_nat]; rfl, EM.OddTo.start (by omega), same_new hl, upd_same, by show 1 * n.natAbs ≤ _; omega⟩ ?_
    rintro m σ H2 ⟨left, j, L, rfl, O, s2, hl2, hb⟩ hm
    have hlen : L.length ≤ 1000 := by
      have p1 : 2 ^ L.length ≤ 3 ^ L.length := Nat.pow_le_pow_left (by decide) _
      have p2 : 3 ^ L.length ≤ 3 ^ L.length * left := Nat.le_mul_of_pos_right _ O.pos
      have p3 : 2 ^ L.length < 2 ^ 30 := by omega
      have := (Nat.pow_lt_pow_iff_right (show 1 < 2 by decide)).mp p3
      omega
    refine ⟨_, rfl, _, _, rfl, rfl, _, rfl, ?_⟩
    refine ite2 (fun hc => WTurn.of ?_) (fun hc => ?_)
    · have hc' : 1 < left := by
        have := of_decide_eq_true hc
        omega
      have hjl := O.k_le hc'
      have hln : left ≤ n.natAbs := Nat.le_of_dvd (by omega) O.dvd
      refine ⟨_, rfl, _, rfl, _, _, rfl, rfl, .inl ⟨by omega, by omega⟩, _, rfl, _, _, rfl, rfl, _, rfl, ?_⟩
      refine iteVia (fun σ' H' => H' = H2 ∧ ∃ j' : Nat, σ' = [some (.int n), some (.ref l), some (.int (left : Nat)), some (.int (j' : Nat))] ∧ EM.OddTo n.natAbs left j' L ∧ j ≤ j' ∧ j' ≤ left) ?_ (fun hk go => ?_) (fun hk go => ?_)
      rotate_left
      · refine ⟨_, rfl, go _ _ ⟨rfl, left, rfl, O.up hc' ?_, hjl, Nat.le_refl _⟩⟩
        have := of_decide_eq_true hk
        exact Int.ofNat_lt.mp (by rw [Int.natCast_mul]; exact this)
      · exact go _ _ ⟨rfl, j, rfl, O, Nat.le_refl _, hjl⟩
      rintro σ' H' ⟨rfl, j', rfl, O', hj1, hj2⟩
      have two := O'.two
      refine ⟨_, rfl, _, rfl, _, _, rfl, rfl, by omega, rfl, _, rfl, ?_⟩
      by_cases hd : j' ∣ left
      · refine ifT (emod_dvd.mpr (Int.ofNat_dvd.mpr hd)) ?_
        refine ⟨_, rfl, _, _, rfl, rfl, _, rfl, ?_⟩
        refine iteVia (fun σ' H' => σ' = [some (.int n), some (.ref l), some (.int (left : Nat)), some (.int (j' : Nat))] ∧ Same H H' ∧ H' l = some (.lst (intsN (if 2 < j' then L ++ [j'] else L)))) ?_ (fun hk go => ?_) (fun hk go => ?_)
        rotate_left
        · have hk' : 2 < j' := by
            have := of_decide_eq_true hk
            omega
          refine ⟨_, rfl, .inl ⟨rfl, _, SqL.of hl2⟩, _, rfl, l, _, _, rfl, rfl, hl2, ?_, ?_⟩
          · rw [intsN_len]
            exact Nat.lt_of_le_of_lt hlen (by decide)
          · refine go _ _ ⟨rfl, same_upd s2 hl, ?_⟩
            rw [if_pos hk', intsN_snoc]
            exact upd_same
        · have hk' : ¬ 2 < j' := fun z => hk (decide_eq_true (by omega))
          refine go _ _ ⟨rfl, s2, ?_⟩
          rw [if_neg hk']
          exact hl2
        rintro σ' H' ⟨rfl, s3, hl3⟩
        refine while_w (fun σ H3 => H3 = H' ∧ ∃ (lf e : Nat), σ = [some (.int n), some (.ref l), some (.int (lf : Nat)), some (.int (j' : Nat))] ∧ left = lf * j' ^ e ∧ 1 ≤ lf)
          (fun σ _ => match σ with | [_, _, some (.int lf), _] => lf.toNat | _ => 0)
          ⟨rfl, left, 0, rfl, by rw [Nat.pow_zero, Nat.mul_one], by omega⟩ ?_
        rintro m' σ H3 ⟨rfl, lf, e, rfl, hlf, hlf0⟩ hm'
        have hle : lf ≤ left := hlf ▸ Nat.le_mul_of_pos_right _ (Nat.pow_pos (by omega))
        refine ⟨_, rfl, _, rfl, _, _, rfl, rfl, by omega, rfl, _, rfl, ?_⟩
        by_cases hd2 : j' ∣ lf
        · refine ifT (emod_dvd.mpr (Int.ofNat_dvd.mpr hd2)) (WTurn.of ?_)
          refine ⟨_, rfl, _, rfl, _, _, rfl, rfl, ⟨by omega, by omega⟩, ⟨rfl, lf / j', e + 1, ?_, ?_, ?_⟩, ?_⟩
          · rfl
          · rw [Nat.pow_succ, Nat.mul_comm (j' ^ e) j', ← Nat.mul_assoc, Nat.div_mul_cancel hd2]
            exact hlf
          · exact Nat.div_pos (Nat.le_of_dvd hlf0 hd2) (by omega)
          · rw [hm']
            show ((lf : Int) / (j' : Int)).toNat < (lf : Int).toNat
            have e : (lf : Int) / (j' : Int) = ((lf / j' : Nat) : Int) := rfl
            rw [e]
            have := Nat.div_lt_self hlf0 (show 1 < j' by omega)
            omega
        · refine ifF (fun z => hd2 (Int.ofNat_dvd.mp (emod_dvd.mp z))) ?_
          have he : 1 ≤ e := by
            rcases Nat.eq_zero_or_pos e with z | z
            · subst z
              rw [Nat.pow_zero, Nat.mul_one] at hlf
              exact absurd (hlf ▸ hd) hd2
            · exact z
          refine ⟨_, rfl, _, _, rfl, rfl, ⟨lf, j' + 1, _, rfl, O'.found he hlf hd2, s3, hl3, ?_⟩, ?_⟩
          · have hpw : j' ≤ j' ^ e := by
              have := Nat.pow_le_pow_right (show 0 < j' by omega) he
              rwa [Nat.pow_one] at this
            by_cases z : 2 < j'
            · rw [if_pos z, List.length_append, List.length_singleton, Nat.pow_succ, Nat.mul_assoc]
              refine Nat.le_trans (Nat.mul_le_mul_left _ ?_) hb
              rw [hlf, Nat.mul_comm 3]
              exact Nat.mul_le_mul_left _ (by omega)
            · rw [if_neg z]
              exact Nat.le_trans (Nat.mul_le_mul_left _ hle) hb
          · rw [hm]
            show ((lf : Int) + 1 - ((j' : Int) + 1)).toNat < ((left : Int) + 1 - (j : Int)).toNat
            omega
      · refine ifF (fun z => hd (Int.ofNat_dvd.mp (emod_dvd.mp z))) ?_
        refine ⟨_, rfl, _, _, rfl, rfl, ⟨left, j' + 1, L, rfl, O'.next hd, s2, hl2, hb⟩, ?_⟩
        rw [hm]
        show ((left : Int) + 1 - ((j' : Int) + 1)).toNat < ((left : Int) + 1 - (j : Int)).toNat
        omega
    · have hc' : ¬ 1 < left := fun z => hc (decide_eq_true (by omega))
      exact ⟨_, rfl, k l L H2 hl s2 hl2 hlen (O.done hc')⟩
theorem scLIsRest : FnScope ["_law_whole", "_law_prime"] ["_law_whole", "_law_prime"] (defScope sLIsRest) := ⟨rfl, rfl, rfl, by decide +kernel, rfl, by decide +kernel, by decide +kernel⟩
theorem ok_lisrest {f : Addr} {fd : FuncData} (F : Fun K "_law_is_rest" "_law_is_rest" sLIsRest f fd) (T : Txt K mg M C) : FnOk P w K mg base CX0 1 f fd ["_law_whole", "_law_prime"] spLIsRest := by
  refine F.okQ scLIsRest (fun vs H Q E h => ?_) (fun cdv A outer s H vs Q E hr h => ?_)
  · obtain ⟨n, p, rfl, _⟩ := h
    rfl
  · obtain ⟨n, p, rfl, h1, hp, k⟩ := h
    refine ⟨_, (qss_one (qs_ret (qe_callB (call_any rfl) (by rfl) T.any (by decide +kernel) (qac (qe_comp (N := ["_law_side", "_law_whole", "_law_prime"]) (src := [none, some 0, some 1]) rfl (comp_scope (defScope sLIsRest) ["_law_whole", "_law_prime"] rfl rfl (by decide +kernel) rfl) (qi_range1 rfl T.range (qac (qv 1) qa_nil)) (fun _ _ _ _ _ => (qg_name (i := 0) (show (["_law_side", "_law_whole", "_law_prime"] : List Str).Nodup by decide +kernel) rfl (Or.inl rfl))) (fun _ _ _ _ _ => qif_nil) (fun _ _ _ _ _ => (qe_cmpR op_eq (qe_op op_mod (qe_op op_sub (qe_op op_mul (qv 0) (qv 0)) (qv 1)) (qv 2)) qe_int (nomark _)))) qa_nil)))), ?_⟩
    refine ⟨_, rfl, (p : Int), rfl, by omega, by omega, ?_⟩
    refine ⟨fun i m ys H2 => H2 = H ∧ m = p - i ∧ i ≤ p ∧ ys = ((List.range i).map fun j => decide ((((j : Nat) : Int) * (j : Int) - n) % (p : Int) = 0)).map V.bl, ⟨p, rfl, rfl, Nat.zero_le _, rfl⟩, ?_⟩
    rintro i m ys H2 ⟨rfl, rfl, hi, rfl⟩
    have ep : ((p : Nat) : Int).toNat = p := by omega
    rw [ep]
    rcases Nat.lt_or_ge i p with hlt | hge
    · refine .inr ⟨hlt, ?_⟩
      rintro x H3 ⟨rfl, rfl⟩
      refine ⟨Weak.set (by intro v z; cases z), yes_if ?_⟩
      refine ⟨_, rfl, _, rfl, _, _, rfl, rfl, .inl ⟨by omega, by omega⟩, _, rfl, _, _, rfl, rfl, _, rfl, _, _, rfl, rfl, by omega, rfl, ?_, p - (i + 1), by omega, rfl, rfl, by omega, ?_⟩
      · simp only [List.length_map, List.length_range]
        exact Nat.lt_of_lt_of_le hlt (Nat.le_trans hp (by decide))
      · rw [List.range_succ, List.map_append, List.map_append]
        congr 2
        show V.bl (decide (V.int _ = V.int 0)) = _
        rw [show (0 : Int) + (i : Int) = (i : Int) by omega]
        congr 1
        rw [Bool.eq_iff_iff]
        simp
    · have e : i = p := by omega
      subst e
      refine .inl ⟨Nat.le_refl _, ?_, fun q hq => ?_⟩
      · simp only [List.length_map, List.length_range]
        exact Nat.le_trans hp (by decide)
      refine ⟨q, _, rfl, SqL.of upd_same, k _ _ (same_new hq) ?_⟩
      rw [EM.rest_brute h1 n]
      simp only [List.any_map, List.any_eq_true, List.mem_range, Function.comp, id, decide_eq_true_eq]
theorem scLShuts : FnScope ["_law_a", "_law_b", "_law_prime", "_law_s", "_law_t"] ["_law_a", "_law_b", "_law_prime"] (defScope sLShuts) := ⟨rfl, rfl, rfl, by decide +kernel, rfl, by decide +kernel, by decide +kernel⟩
theorem ok_lshuts {f : Addr} {fd : FuncData} (F : Fun K "_law_shuts" "_law_shuts" sLShuts f fd) (pLPlain : Pm P w K mg base CX0 1 "_law_plain" ["_law_whole"] spLPlain) (pLIsRest : Pm P w K mg base CX0 1 "_law_is_rest" ["_law_whole", "_law_prime"] spLIsRest) : FnOk P w K mg base CX0 2 f fd ["_law_a", "_law_b", "_law_prime"] spLShuts := by
  refine F.okQ scLShuts (fun vs H Q E h => ?_) (fun cdv A outer s H vs Q E hr1 h => ?_)
  · obtain ⟨a, b, p, rfl, _⟩ := h
    rfl
  · obtain ⟨a, b, p, rfl, ha0, hb0, ha, hb, hp, hp6, k⟩ := h
    have h2 := hp.1
    refine ⟨_, (qss_cons (qs_set (i := 3) scLShuts.nd rfl (Or.inl rfl) (qe_ix ix_tup (qe_callP pLPlain hr1 rfl pass0 (qac (qv 0) qa_nil)) qe_int (fun _ _ => rfl)))
      (qss_cons (qs_set (i := 4) scLShuts.nd rfl (Or.inl rfl) (qe_ix ix_tup (qe_callP pLPlain hr1 rfl pass0 (qac (qv 1) qa_nil)) qe_int (fun _ _ => rfl)))
      (qss_cons (qs_if (QW.pt (qw_and (qt_cmpR op_eq (qe_op op_mod (qv 3) (qv 2)) qe_int (nomark _)) (qw_and1 (qt_cmpR op_eq (qe_op op_mod (qv 4) (qv 2)) qe_int (nomark _))))) (qss_one (qs_ret (qe_not (qe_callP pLIsRest hr1 rfl pass0 (qac (qe_op op_sub qe_int (qe_op op_mul (qe_op op_fdiv (qv 3) (qv 2)) (qe_op op_fdiv (qv 4) (qv 2)))) (qac (qv 2) qa_nil)))))) qss_nil)
      (qss_cons (qs_if (qt_cmpR op_eq (qe_op op_mod (qv 3) (qv 2)) qe_int (nomark _)) (qss_one (qs_ret (qe_not (qe_callP pLIsRest hr1 rfl pass0 (qac (qv 4) (qac (qv 2) qa_nil)))))) qss_nil)
      (qss_one (qs_ret (qe_and (qe_cmpR op_eq (qe_op op_mod (qv 4) (qv 2)) qe_int (nomark _)) (qe_one (qe_not (qe_callP pLIsRest hr1 rfl pass0 (qac (qv 3) (qac (qv 2) qa_nil)))))))))))), ?_⟩
    refine ⟨_, rfl, a, rfl, ha0, ha, fun ta sg fa H1 s1 ht1 PA => ?_⟩
    refine ⟨ta, _, 0, .int sg, rfl, rfl, SqT.of ht1, rfl, ?_⟩
    refine ⟨_, rfl, b, rfl, hb0, hb, fun tb tg fb H2 s2 ht2 PB => ?_⟩
    refine ⟨tb, _, 0, .int tg, rfl, rfl, SqT.of ht2, rfl, ?_⟩
    have le : ∀ {n s : Int} {f : Nat}, EM.PlainOf n s f → s.natAbs ≤ n.natAbs := fun {n s f} h => by
      have e : n.natAbs = s.natAbs * (f * f) := by rw [h.eq, Int.natAbs_mul, Int.natAbs_mul]; rfl
      rw [e]
      exact Nat.le_mul_of_pos_right _ (Nat.mul_pos h.pos h.pos)
    have la := le PA
    have lb := le PB
    have hdb : ∀ (x : Int), x.natAbs < 2 ^ 40 → -(2 ^ 64) < x / (p : Int) ∧ x / (p : Int) < 2 ^ 64 := fun x hx => by
      have h3 : (x / (p : Int)).natAbs ≤ x.natAbs := Int.natAbs_ediv_le_natAbs x p
      omega
    have s12 := s1.trans s2
    have fin : ∀ (c : Bool) (H' : Hp), Same H H' → (c = true ↔ EM.ShutP sg tg p) → Q (.bl c) H' := fun c H' s' hc => k c H' s' (hc.trans (EM.Shuts.iff PA PB p).symm)
    refine ⟨_, rfl, _, rfl, _, _, rfl, rfl, by omega, rfl, _, rfl, ?_⟩
    by_cases ds : (p : Int) ∣ sg
    · refine ifT (emod_dvd.mpr ds) ?_
      refine ⟨_, rfl, _, rfl, _, _, rfl, rfl, by omega, rfl, _, rfl, ?_⟩
      by_cases dt : (p : Int) ∣ tg
      · refine ifT (emod_dvd.mpr dt) ?_
        refine ⟨_, rfl, _, rfl, _, _, rfl, rfl, ⟨by omega, by omega⟩, _, rfl, _, rfl, _, _, rfl, rfl, ⟨by omega, by omega⟩, _, _, rfl, rfl, .inl (hdb sg (by omega)), _, _, rfl, rfl, _, rfl, _, p, rfl, by omega, hp6, fun c H3 s3 hc => ⟨c, rfl, fin _ _ (s12.trans s3) ?_⟩⟩
        have e0 : 0 - sg / (p : Int) * (tg / (p : Int)) = -(sg / (p : Int)) * (tg / (p : Int)) := by rw [Int.zero_sub, Int.neg_mul]
        rw [not_rest hc, e0]
        constructor
        · exact fun z => .inl ⟨ds, dt, z⟩
        · rintro (z | z | z)
          · exact z.2.2
          · exact absurd dt z.2.1
          · exact absurd ds z.1
      · refine ifF (fun z => dt (emod_dvd.mp z)) ?_
        refine ⟨_, rfl, _, rfl, _, _, rfl, rfl, by omega, rfl, _, rfl, ifT (emod_dvd.mpr ds) ?_⟩
        refine ⟨_, rfl, _, rfl, _, p, rfl, by omega, hp6, fun c H3 s3 hc => ⟨c, rfl, fin _ _ (s12.trans s3) ?_⟩⟩
        rw [not_rest hc]
        constructor
        · exact fun z => .inr (.inl ⟨ds, dt, z⟩)
        · rintro (z | z | z)
          · exact absurd z.2.1 dt
          · exact z.2.2
          · exact absurd ds z.1
    · refine ifF (fun z => ds (emod_dvd.mp z)) ?_
      refine ⟨_, rfl, _, rfl, _, _, rfl, rfl, by omega, rfl, _, rfl, ifF (fun z => ds (emod_dvd.mp z)) ?_⟩
      refine ⟨_, rfl, _, rfl, _, _, rfl, rfl, by omega, rfl, _, rfl, ?_⟩
      by_cases dt : (p : Int) ∣ tg
      · refine ifT (emod_dvd.mpr dt) ?_
        refine ⟨_, rfl, _, rfl, _, p, rfl, by omega, hp6, fun c H3 s3 hc => ⟨c, rfl, fin _ _ (s12.trans s3) ?_⟩⟩
        rw [not_rest hc]
        constructor
        · exact fun z => .inr (.inr ⟨ds, dt, z⟩)
        · rintro (z | z | z)
          · exact absurd z.1 ds
          · exact absurd z.1 ds
          · exact z.2.2
      · refine ifF (fun z => dt (emod_dvd.mp z)) ?_
        refine fin false _ s12 ⟨fun z => (nomatch z), fun z => ?_⟩
        rcases z.dvd with q | q
        · exact absurd q ds
        · exact absurd q dt
theorem pick16 {r : Int} (h0 : 0 ≤ r) (h1 : r < 16) : ∃ z : Int, atI [V.int 1, V.int 1, V.int 2, V.int 2, V.int 3, V.int 5, V.int 7, V.int 11, V.int 13, V.int 17, V.int 19, V.int 23, V.int 4, V.int 9, V.int 6, V.int 25] r = some (.int z) ∧ 1 ≤ z ∧ z ≤ 25 := by
  have h : r = 0 ∨ r = 1 ∨ r = 2 ∨ r = 3 ∨ r = 4 ∨ r = 5 ∨ r = 6 ∨ r = 7 ∨ r = 8 ∨ r = 9 ∨ r = 10 ∨ r = 11 ∨ r = 12 ∨ r = 13 ∨ r = 14 ∨ r = 15 := by omega
  rcases h with rfl | rfl | rfl | rfl | rfl | rfl | rfl | rfl | rfl | rfl | rfl | rfl | rfl | rfl | rfl | rfl <;> exact ⟨_, rfl, by decide, by decide⟩
theorem scLFactor : FnScope ["_law_pool_here"] ["_law_pool_here"] (defScope sLFactor) := ⟨rfl, rfl, rfl, by decide +kernel, rfl, by decide +kernel, by decide +kernel⟩
theorem ok_lfactor {f : Addr} {fd : FuncData} (F : Fun K "_law_factor" "_law_factor" sLFactor f fd) (pTake : Pm P w K mg base CX0 1 "_law_take" ["_law_pool_here", "_law_many"] spTake) : FnOk P w K mg base CX0 2 f fd ["_law_pool_here"] spLFactor := by
  refine F.okQ scLFactor (fun vs H Q E h => ?_) (fun cdv A outer s H vs Q E hr h => ?_)
  · obtain ⟨p, f, rfl, _⟩ := h
    rfl
  · obtain ⟨p, f0, rfl, hp, h0, k⟩ := h
    refine ⟨_, (qss_one (qs_ret (qe_ix ix_list (qe_lst (qac qe_int (qac qe_int (qac qe_int (qac qe_int (qac qe_int (qac qe_int (qac qe_int (qac qe_int (qac qe_int (qac qe_int (qac qe_int (qac qe_int (qac qe_int (qac qe_int (qac qe_int (qac qe_int qa_nil))))))))))))))))) (qe_callP pTake hr rfl pass0 (qac (qv 0) (qac qe_int qa_nil))) (fun _ _ => rfl)))), ?_⟩
    refine ⟨by show 16 ≤ sizeLine; decide, fun l hl => ?_⟩
    have npl : p ≠ l := ne_of_none hp hl
    refine ⟨_, rfl, p, f0, 16, rfl, by rw [upd_ne npl]; exact hp, h0, by decide, by decide, fun g r hg hr1 hr2 => ?_⟩
    obtain ⟨z, e, z1, z2⟩ := pick16 hr1 hr2
    refine ⟨l, _, r, .int z, rfl, rfl, SqL.of (by rw [upd_ne npl.symm]; exact upd_same), e, ?_⟩
    exact k z _ z1 z2 ((Drawn1.new h0 hp hl).trans (Drawn1.put hg))
theorem scLPart : FnScope ["_law_pool_here", "_law_sign", "_law_kind", "_law_whole", "_law_k"] ["_law_pool_here"] (defScope sLPart) := ⟨rfl, rfl, rfl, by decide +kernel, rfl, by decide +kernel, by decide +kernel⟩
theorem ok_lpart {f : Addr} {fd : FuncData} (F : Fun K "_law_part" "_law_part" sLPart f fd) (T : Txt K mg M C) (pTake : Pm P w K mg base CX0 1 "_law_take" ["_law_pool_here", "_law_many"] spTake) (pLFactor : Pm P w K mg base CX0 2 "_law_factor" ["_law_pool_here"] spLFactor) :
    FnOk P w K mg base CX0 3 f fd ["_law_pool_here"] spLPart := by
  refine F.okQ scLPart (fun vs H Q E h => ?_) (fun cdv A outer s H vs Q E hr h => ?_)
  · obtain ⟨p, f, rfl, _⟩ := h
    rfl
  · obtain ⟨p, f0, rfl, hp, h0, k⟩ := h
    have hr1 : Room 1 (A.deeper (PyProof.Rows.envOfC "_law_part" (defScope sLPart) s.heap.objs.size f cdv)) := hr.mono (by decide)
    refine ⟨_, (qss_cons (qs_set (i := 1) scLPart.nd rfl (Or.inl rfl) (qe_op op_sub qe_int (qe_op op_mul qe_int (qe_callP pTake hr1 rfl pass0 (qac (qv 0) (qac qe_int qa_nil))))))
      (qss_cons (qs_set (i := 2) scLPart.nd rfl (Or.inl rfl) (qe_callP pTake hr1 rfl pass0 (qac (qv 0) (qac qe_int qa_nil))))
      (qss_cons (qs_if (qt_cmpR op_eq (qv 2) qe_int (nomark _)) (qss_one (qs_ret (qe_op op_mul (qv 1) (qe_op op_add qe_int (qe_callP pTake hr1 rfl pass0 (qac (qv 0) (qac qe_int qa_nil))))))) qss_nil)
      (qss_cons (qs_if (qt_cmpR op_eq (qv 2) qe_int (nomark _)) (qss_one (qs_ret (qe_op op_mul (qv 1) (qe_op op_add qe_int (qe_callP pTake hr1 rfl pass0 (qac (qv 0) (qac qe_int qa_nil))))))) qss_nil)
      (qss_cons (qs_set (i := 3) scLPart.nd rfl (Or.inl rfl) qe_int)
      (qss_cons (qs_for PassesOwn.never rfl (qi_range1 rfl T.range (qac (qe_op op_add qe_int (qe_callP pTake hr1 rfl pass0 (qac (qv 0) (qac qe_int qa_nil)))) qa_nil)) (qg_name (i := 4) scLPart.nd rfl (Or.inl rfl))
        (qss_one (qs_set (i := 3) scLPart.nd rfl (Or.inl rfl) (qe_op op_mul (qv 3) (qe_callP pLFactor hr rfl pass0 (qac (qv 0) qa_nil))))))
      (qss_one (qs_ret (qe_op op_mul (qv 1) (qv 3)))))))))), ?_⟩
    refine ⟨_, rfl, p, f0, 2, rfl, hp, h0, by decide, by decide, fun g1 r1 hg1 hr1 hr1' => ?_⟩
    refine ⟨_, _, rfl, rfl, .inl ⟨by decide, by decide⟩, _, _, rfl, rfl, ?_⟩
    refine ⟨_, rfl, p, g1, 4, rfl, upd_same, hg1, by decide, by decide, fun g2 r2 hg2 hr2 hr2' => ?_⟩
    have D2 : Drawn1 p H (upd (upd H p (.lst [.int g1])) p (.lst [.int g2])) := (Drawn1.put hg1).trans (Drawn1.put hg2)
    have sg : 1 - 2 * r1 = 1 ∨ 1 - 2 * r1 = -1 := by omega
    have fin : ∀ z : Int, 1 ≤ z → z ≤ 15625 → (1 - 2 * r1) * z ≠ 0 ∧ ((1 - 2 * r1) * z).natAbs ≤ 15625 := fun z h1 h2 => by
      rcases sg with e | e <;> rw [e]
      · rw [Int.one_mul]; omega
      · rw [Int.neg_mul, Int.one_mul]; omega
    refine ⟨_, rfl, rfl, _, rfl, ?_⟩
    refine ite2 (fun _ => ?_) (fun _ => ?_)
    · refine ⟨_, rfl, _, rfl, p, g2, 40, rfl, upd_same, hg2, by decide, by decide, fun g3 r3 hg3 hr3 hr3' => ?_⟩
      obtain ⟨e1, e2⟩ := fin (1 + r3) (by omega) (by omega)
      exact ⟨_, _, rfl, rfl, _, _, rfl, rfl, .inl ⟨by omega, by omega⟩, k _ _ e1 e2 (D2.trans (Drawn1.put hg3))⟩
    refine ⟨_, rfl, rfl, _, rfl, ?_⟩
    refine ite2 (fun _ => ?_) (fun _ => ?_)
    · refine ⟨_, rfl, _, rfl, p, g2, 1000, rfl, upd_same, hg2, by decide, by decide, fun g3 r3 hg3 hr3 hr3' => ?_⟩
      obtain ⟨e1, e2⟩ := fin (1 + r3) (by omega) (by omega)
      exact ⟨_, _, rfl, rfl, _, _, rfl, rfl, .inl ⟨by omega, by omega⟩, k _ _ e1 e2 (D2.trans (Drawn1.put hg3))⟩
    refine ⟨_, rfl, p, g2, 3, rfl, upd_same, hg2, by decide, by decide, fun g3 r3 hg3 hr3 hr3' => ?_⟩
    refine ⟨_, _, rfl, rfl, _, rfl, by omega, by omega, for_range (n := (1 + r3).toNat) (fun i σ H2 => Drawn1 p H H2 ∧ i ≤ 3 ∧ ∃ (wh : Int) (x : Option V), σ = [some (.ref p), some (.int (1 - 2 * r1)), some (.int r2), some (.int wh), x] ∧ 1 ≤ wh ∧ wh ≤ 25 ^ i)
      ⟨D2.trans (Drawn1.put hg3), by decide, 1, _, rfl, by decide, by decide⟩ ?_ ?_⟩
    · rintro i σ H2 hi ⟨D, hi3, wh, x, rfl, w1, w2⟩
      obtain ⟨g, hg, hpg⟩ := D.pool
      have hi2 : i < 3 := by omega
      have w3 : (25 : Int) ^ i ≤ 625 := by
        have : i = 0 ∨ i = 1 ∨ i = 2 := by omega
        rcases this with rfl | rfl | rfl <;> decide
      refine ⟨_, rfl, _, rfl, p, g, rfl, hpg, hg, fun z H3 z1 z2 D3 => ?_⟩
      refine ⟨_, _, rfl, rfl, .inr ⟨by omega, by omega⟩, D.trans D3, by omega, _, _, rfl, ?_, ?_⟩
      · exact Int.le_trans w1 (by have := Int.mul_le_mul_of_nonneg_left z1 (show 0 ≤ wh by omega); omega)
      · rw [Int.pow_succ]
        exact Int.mul_le_mul w2 z2 (by omega) (by have := Int.le_trans w1 w2; omega)
    · rintro σ H2 ⟨D, hi3, wh, x, rfl, w1, w2⟩
      have w3 : (25 : Int) ^ (1 + r3).toNat ≤ 15625 := by
        have : (1 + r3).toNat = 1 ∨ (1 + r3).toNat = 2 ∨ (1 + r3).toNat = 3 := by omega
        rcases this with e | e | e <;> rw [e] <;> decide
      obtain ⟨e1, e2⟩ := fin wh w1 (by omega)
      exact ⟨_, rfl, _, rfl, _, _, rfl, rfl, .inl ⟨by omega, by omega⟩, k _ _ e1 e2 D⟩
theorem pick3 {b a : Int} (hb : b ≠ 0) (hbb : b.natAbs ≤ 15625) (ha : a ≠ 0) (hab : a.natAbs ≤ 15625) {r : Int} (h0 : 0 ≤ r) (h1 : r < 3) : ∃ z : Int, atI [V.int b, V.int (0 - a), V.int a] r = some (.int z) ∧ z ≠ 0 ∧ z.natAbs ≤ 15625 := by
  have h : r = 0 ∨ r = 1 ∨ r = 2 := by omega
  rcases h with rfl | rfl | rfl
  · exact ⟨_, rfl, hb, hbb⟩
  · exact ⟨_, rfl, by omega, by omega⟩
  · exact ⟨_, rfl, ha, hab⟩
theorem scLPair : FnScope ["_law_pool_here", "_law_a", "_law_way", "_law_b", "_law_common", "_law_x", "_law_z"] ["_law_pool_here"] (defScope sLPair) := ⟨rfl, rfl, rfl, by decide +kernel, rfl, by decide +kernel, by decide +kernel⟩
theorem ok_lpair {f : Addr} {fd : FuncData} (F : Fun K "_law_pair" "_law_pair" sLPair f fd) (T : Txt K mg M C) (pTake : Pm P w K mg base CX0 1 "_law_take" ["_law_pool_here", "_law_many"] spTake) (pLFactor : Pm P w K mg base CX0 2 "_law_factor" ["_law_pool_here"] spLFactor) (pLPart : Pm P w K mg base CX0 3 "_law_part" ["_law_pool_here"] spLPart) :
    FnOk P w K mg base CX0 4 f fd ["_law_pool_here"] spLPair := by
  refine F.okQ scLPair (fun vs H Q E h => ?_) (fun cdv A outer s H vs Q E hr3 h => ?_)
  · obtain ⟨p, f, rfl, _⟩ := h
    rfl
  · obtain ⟨p, f0, rfl, hp, h0, k⟩ := h
    have hr1 : Room 1 (A.deeper (PyProof.Rows.envOfC "_law_pair" (defScope sLPair) s.heap.objs.size f cdv)) := hr3.mono (by decide)
    have hr2 : Room 2 (A.deeper (PyProof.Rows.envOfC "_law_pair" (defScope sLPair) s.heap.objs.size f cdv)) := hr3.mono (by decide)
    refine ⟨_, (qss_cons (qs_set (i := 1) scLPair.nd rfl (Or.inl rfl) (qe_callP pLPart hr3 rfl pass0 (qac (qv 0) qa_nil)))
      (qss_cons (qs_set (i := 2) scLPair.nd rfl (Or.inl rfl) (qe_callP pTake hr1 rfl pass0 (qac (qv 0) (qac qe_int qa_nil))))
      (qss_cons (qs_set (i := 3) scLPair.nd rfl (Or.inl rfl) (qe_callP pLPart hr3 rfl pass0 (qac (qv 0) qa_nil)))
      (qss_cons (qs_if (qt_cmpR op_eq (qv 2) qe_int (nomark _)) (qss_cons (qs_set (i := 4) scLPair.nd rfl (Or.inl rfl) (qe_callP pLFactor hr2 rfl pass0 (qac (qv 0) qa_nil)))
        (qss_cons (qs_set (i := 3) scLPair.nd rfl (Or.inl rfl) (qe_ix ix_list (qe_lst (qac (qv 3) (qac (qe_op op_sub qe_int (qv 1)) (qac (qv 1) qa_nil)))) (qe_callP pTake hr1 rfl pass0 (qac (qv 0) (qac qe_int qa_nil))) (fun _ _ => rfl)))
        (qss_one (qs_if (QW.pt (qw_and (qt_cmpR op_lt (qe_callB call_abs (by rfl) T.abs PyProof.Rows.boot_abs (qac (qe_op op_mul (qv 1) (qv 4)) qa_nil)) qe_int (nomark _)) (qw_and1 (qt_cmpR op_lt (qe_callB call_abs (by rfl) T.abs PyProof.Rows.boot_abs (qac (qe_op op_mul (qv 3) (qv 4)) qa_nil)) qe_int (nomark _))))) (qss_one (qs_ret (qe_tup (qac (qe_op op_mul (qv 1) (qv 4)) (qac (qe_op op_mul (qv 3) (qv 4)) qa_nil))))) qss_nil)))) qss_nil)
      (qss_cons (qs_if (qt_cmpR op_eq (qv 2) qe_int (nomark _)) (qss_cons (qs_set (i := 5) scLPair.nd rfl (Or.inl rfl) (qe_op op_add qe_int (qe_callP pTake hr1 rfl pass0 (qac (qv 0) (qac qe_int qa_nil)))))
        (qss_cons (qs_set (i := 6) scLPair.nd rfl (Or.inl rfl) (qe_callP pTake hr1 rfl pass0 (qac (qv 0) (qac qe_int qa_nil))))
        (qss_one (qs_if (qt_chain op_lt op_lt qe_int (qe_callB call_abs (by rfl) T.abs PyProof.Rows.boot_abs (qac (qe_op op_sub (qe_op op_mul (qv 6) (qv 6)) (qe_op op_mul (qe_op op_mul (qv 1) (qv 5)) (qv 5))) qa_nil)) qe_int) (qss_one (qs_ret (qe_tup (qac (qv 1) (qac (qe_op op_sub (qe_op op_mul (qv 6) (qv 6)) (qe_op op_mul (qe_op op_mul (qv 1) (qv 5)) (qv 5))) qa_nil))))) qss_nil)))) qss_nil)
      (qss_one (qs_ret (qe_tup (qac (qv 1) (qac (qv 3) qa_nil)))))))))), ?_⟩
    refine ⟨_, rfl, p, f0, rfl, hp, h0, fun a H1 a0 ab D1 => ?_⟩
    obtain ⟨g1, hg1, hp1⟩ := D1.pool
    refine ⟨_, rfl, p, g1, 5, rfl, hp1, hg1, by decide, by decide, fun g2 way hg2 w0 w5 => ?_⟩
    have D2 := D1.trans (Drawn1.put (g := g2) hg2)
    refine ⟨_, rfl, p, g2, rfl, upd_same, hg2, fun b H3 b0 bb D3' => ?_⟩
    have D3 := D2.trans D3'
    obtain ⟨g3, hg3, hp3⟩ := D3.pool
    have nz : ∀ (x c : Int), x ≠ 0 → 1 ≤ c → x * c ≠ 0 := fun x c h1 h2 => Int.mul_ne_zero h1 (by omega)
    refine ⟨_, rfl, rfl, _, rfl, ?_⟩
    refine iteVia (fun σ' H' => Drawn1 p H H' ∧ ∃ (b' : Int) (x4 x5 x6 : Option V), σ' = [some (.ref p), some (.int a), some (.int way), some (.int b'), x4, x5, x6] ∧ b' ≠ 0 ∧ b'.natAbs ≤ 15625) ?_ (fun hk go => ?_) (fun hk go => ?_)
    rotate_left
    · refine ⟨_, rfl, p, g3, rfl, hp3, hg3, fun c H4 c1 c25 D4' => ?_⟩
      have D4 := D3.trans D4'
      obtain ⟨g4, hg4, hp4⟩ := D4.pool
      refine ⟨_, rfl, _, rfl, _, _, rfl, rfl, _, rfl, by show 3 ≤ sizeLine; decide, fun l hl => ?_⟩
      have npl : p ≠ l := ne_of_none hp4 hl
      refine ⟨_, rfl, p, g4, 3, rfl, by rw [upd_ne npl]; exact hp4, hg4, by decide, by decide, fun g5 r hg5 r0 r3 => ?_⟩
      obtain ⟨b', eb, hb0, hbb⟩ := pick3 b0 bb a0 ab r0 r3
      refine ⟨l, _, r, .int b', rfl, rfl, SqL.of (by rw [upd_ne npl.symm]; exact upd_same), eb, ?_⟩
      have D5 : Drawn1 p H (upd (upd H4 l (.lst [.int b, .int (0 - a), .int a])) p (.lst [.int g5])) := (D4.trans (Drawn1.new hg4 hp4 hl)).trans (Drawn1.put (g := g5) hg5)
      refine ⟨_, rfl, _, rfl, _, _, rfl, rfl, .inl ⟨by omega, by omega⟩, _, rfl, _, _, rfl, rfl, _, rfl, ?_⟩
      refine ite2 (fun h1 => ?_) (fun h1 => go _ _ ⟨D5, b', _, _, _, rfl, hb0, hbb⟩)
      refine ⟨_, rfl, _, rfl, _, _, rfl, rfl, .inl ⟨by omega, by omega⟩, _, rfl, _, _, rfl, rfl, _, rfl, ?_⟩
      refine ite2 (fun h2 => ?_) (fun h2 => go _ _ ⟨D5, b', _, _, _, rfl, hb0, hbb⟩)
      refine ⟨_, rfl, _, rfl, _, _, rfl, rfl, .inl ⟨by omega, by omega⟩, _, rfl, _, rfl, _, _, rfl, rfl, .inl ⟨by omega, by omega⟩, by show 2 ≤ sizeLine; decide, fun t ht => ?_⟩
      have q1 := of_decide_eq_true h1
      have q2 := of_decide_eq_true h2
      rw [abs_nat] at q1 q2
      obtain ⟨g6, hg6, hp6⟩ := D5.pool
      exact k t _ _ _ (nz a c a0 c1) (nz b' c hb0 c1) (by omega) (by omega) upd_same (D5.trans (Drawn1.new hg6 hp6 ht))
    · exact go _ _ ⟨D3, b, _, _, _, rfl, b0, bb⟩
    rintro σ' H' ⟨D5, b', x4, x5, x6, rfl, hb0, hbb⟩
    obtain ⟨g5, hg5, hp5⟩ := D5.pool
    refine ⟨_, rfl, rfl, _, rfl, ?_⟩
    refine iteVia (fun σ' H' => Drawn1 p H H' ∧ ∃ (x4 x5 x6 : Option V), σ' = [some (.ref p), some (.int a), some (.int way), some (.int b'), x4, x5, x6]) ?_ (fun hk go => ?_) (fun hk go => ?_)
    rotate_left
    · refine ⟨_, rfl, p, g5, 5, rfl, hp5, hg5, by decide, by decide, fun g6 r6 hg6 r60 r65 => ?_⟩
      refine ⟨_, _, rfl, rfl, ?_⟩
      refine ⟨_, rfl, p, g6, 30, rfl, upd_same, hg6, by decide, by decide, fun g7 z hg7 z0 z30 => ?_⟩
      have D7 := (D5.trans (Drawn1.put (g := g6) hg6)).trans (Drawn1.put (g := g7) hg7)
      refine ⟨_, rfl, _, rfl, _, _, rfl, rfl, .inl ⟨by omega, by omega⟩, _, rfl, _, rfl, _, _, rfl, rfl, .inl ⟨by omega, by omega⟩, _, rfl, _, _, rfl, rfl, .inr ⟨by omega, by omega⟩, _, _, rfl, rfl, _, rfl, _, _, rfl, rfl, _, rfl, ?_⟩
      by_cases q1 : (0 : Int) < (if z * z - a * (1 + r6) * (1 + r6) < 0 then -(z * z - a * (1 + r6) * (1 + r6)) else z * z - a * (1 + r6) * (1 + r6))
      · refine ifT q1 ?_
        refine ⟨_, _, rfl, rfl, _, rfl, ?_⟩
        refine ite2 (fun h2 => ?_) (fun h2 => go _ _ ⟨D7, _, _, _, rfl⟩)
        have q2 := of_decide_eq_true h2
        rw [abs_nat] at q1 q2
        refine ⟨_, rfl, _, rfl, _, rfl, _, _, rfl, rfl, .inl ⟨by omega, by omega⟩, _, rfl, _, rfl, _, _, rfl, rfl, .inl ⟨by omega, by omega⟩, _, rfl, _, _, rfl, rfl, .inr ⟨by omega, by omega⟩, _, _, rfl, rfl, by show 2 ≤ sizeLine; decide, fun t ht => ?_⟩
        obtain ⟨g8, hg8, hp8⟩ := D7.pool
        exact k t _ _ _ a0 (by omega) (by omega) (by omega) upd_same (D7.trans (Drawn1.new hg8 hp8 ht))
      · refine ifF q1 ?_
        exact ⟨_, rfl, iteF (go _ _ ⟨D7, _, _, _, rfl⟩)⟩
    · exact go _ _ ⟨D5, _, _, _, rfl⟩
    rintro σ' H' ⟨D6, y4, y5, y6, rfl⟩
    refine ⟨_, rfl, _, rfl, by show 2 ≤ sizeLine; decide, fun t ht => ?_⟩
    obtain ⟨g8, hg8, hp8⟩ := D6.pool
    exact k t _ _ _ a0 hb0 (by omega) (by omega) upd_same (D6.trans (Drawn1.new hg8 hp8 ht))
theorem scForm : FnScope ["a", "b", "plain_a", "plain_b", "s", "t", "p", "point", "x", "y", "z"] ["a", "b"] (defScope sForm) := ⟨rfl, rfl, rfl, by decide +kernel, rfl, by decide +kernel, by decide +kernel⟩
theorem ok_form_no {f : Addr} {fd : FuncData} (F : Fun K "form_told" "form_told" sForm f fd) (pPlain : Pm P w K mg base (CX1 P w) 5 "plain_part" ["n"] (spPlain K C)) : FnOk P w K mg base (CX1 P w) 6 f fd ["a", "b"] (spFormNo K C) := by
  refine F.okXQ scForm (fun vs H Q E h => ?_) (fun cdv A outer s H vs Q E hr h => ?_)
  · obtain ⟨v, u, rfl, _⟩ := h
    rfl
  · obtain ⟨v, u, rfl, hv, k⟩ := h
    refine ⟨_, (qss_cons (qs_set (i := 2) scForm.nd rfl (Or.inl rfl) (qe_callP pPlain hr rfl (passE rfl) (qac (qv 0) qa_nil)))
      (qss_cons (qs_set (i := 3) scForm.nd rfl (Or.inl rfl) (qe_callP pPlain hr rfl (passE rfl) (qac (qv 1) qa_nil))) qss_never)), ?_⟩
    rcases hv with hv | ⟨⟨n, rfl, n0, nb⟩, hu⟩
    · exact ⟨_, rfl, .inr ⟨v, rfl, hv, k H (Same.refl H)⟩⟩
    · refine ⟨_, rfl, .inl ⟨n, rfl, n0, nb, fun ta sa fa H1 s1 ht1 ea pa qa => ?_⟩⟩
      exact ⟨_, rfl, .inr ⟨u, rfl, hu.same s1, k H1 s1⟩⟩
def spSeen (K : PySem.W.Frag) : Sp := fun vs H Q _ => ∃ (v u : V) (i : Int), vs = [v, u, .int i] ∧ (BadNum K H v ∨ GoodNum v ∧ BadNum K H u) ∧ ∀ H', Same H H' → Q (.bl true) H'
theorem scSeen : FnScope ["_law_one", "_law_other", "_law_way", "_law_e"] ["_law_one", "_law_other", "_law_way"] (defScope sSeen) := ⟨rfl, rfl, rfl, by decide +kernel, rfl, by decide +kernel, by decide +kernel⟩
theorem ok_seen {f fR : Addr} {fd fdR : FuncData} (F : Fun K "_law_seen" "_law_seen" sSeen f fd) (T : Txt K mg M C) (pForm : Pm P w K mg base (CX1 P w) 6 "form_told" ["a", "b"] (spFormNo K C)) (pShuts : Pm P w K mg base (CX1 P w) 8 "shuts" ["a", "b", "p"] (spShuts K C))
    (FR : Fun K "_law_refused" "_law_refused" sRef fR fdR) (bR : Binds K fdR ["_law_e"] []) (mR : mg "_law_refused" = some (.ref fR)) (GR : FnH P w K mg base 1 fR fdR ["_law_e"] (spRef C)) : FnOk P w K mg base CX0 9 f fd ["_law_one", "_law_other", "_law_way"] (spSeen K) := by
  refine F.okQ scSeen (fun vs H Q E h => ?_) (fun cdv A outer s H vs Q E hr h => ?_)
  · obtain ⟨v, u, i, rfl, _⟩ := h
    rfl
  · obtain ⟨v, u, i, rfl, hv, q⟩ := h
    have hr1 : Room 1 (A.deeper (PyProof.Rows.envOfC "_law_seen" (defScope sSeen) s.heap.objs.size f cdv)) := hr.mono (by decide)
    have hr6 : Room 6 (A.deeper (PyProof.Rows.envOfC "_law_seen" (defScope sSeen) s.heap.objs.size f cdv)) := hr.mono (by decide)
    refine ⟨_, qss_cons (qs_try rfl rfl rfl (fun pn E => qss_one (qs_if (qt_cmpR op_eq (qv 2) qe_int (nomark _)) (qss_one (qs_expr (qe_callP pForm hr6 rfl (passT rfl) (qac (qv 0) (qac (qv 1) qa_nil))))) (qss_one (qs_expr (qe_callP pShuts hr rfl (passT rfl) (qac (qv 0) (qac (qv 1) (qac qe_int qa_nil)))))))) rfl T.mgM T.eM scSeen.nd (i := 3) rfl rfl
      (fun a => qss_one (qs_ret (qe_callH GR (hr1.hm _) rfl mR FR.kp bR (qac (qv 3) qa_nil))))) (qss_one (qs_ret qe_bl)), ?_⟩
    refine ⟨_, rfl, rfl, _, rfl, ?_⟩
    refine ite2 (fun _ => ?_) (fun _ => ?_)
    · refine ⟨_, rfl, _, rfl, v, u, rfl, hv, fun H1 s1 => ⟨C, rfl, T.sub, fun a ha => ?_⟩⟩
      exact ⟨_, rfl, a, rfl, upd_same, fun H' s' => q H' ((s1.trans (same_new ha)).trans s')⟩
    · refine ⟨_, rfl, _, rfl, .inr ⟨v, u, _, rfl, hv, fun H1 s1 => ⟨C, rfl, T.sub, fun a ha => ?_⟩⟩⟩
      exact ⟨_, rfl, a, rfl, upd_same, fun H' s' => q H' ((s1.trans (same_new ha)).trans s')⟩
theorem pickO {K : PySem.W.Frag} {H : Hp} {t l d : Addr} {xt xl : List V} (ht : H t = some (.tup xt)) (hl : H l = some (.lst xl)) (hd : H d = some (.dK [])) {r : Int} (h0 : 0 ≤ r) (h1 : r < 8) :
    ∃ v, atI [V.int 0, V.non, .bl true, .bl false, .str "3", .ref t, .ref l, .ref d] r = some v ∧ BadNum K H v := by
  have h : r = 0 ∨ r = 1 ∨ r = 2 ∨ r = 3 ∨ r = 4 ∨ r = 5 ∨ r = 6 ∨ r = 7 := by omega
  rcases h with rfl | rfl | rfl | rfl | rfl | rfl | rfl | rfl
  · exact ⟨_, rfl, .inr rfl⟩
  · exact ⟨_, rfl, .inl (.odd .non (kit_none_int K))⟩
  · exact ⟨_, rfl, .inl (.bl true)⟩
  · exact ⟨_, rfl, .inl (.bl false)⟩
  · exact ⟨_, rfl, .inl (.odd (.str _) (kit_str_int K))⟩
  · exact ⟨_, rfl, .inl (.odd (.tup ht) (kit_tup_int K))⟩
  · exact ⟨_, rfl, .inl (.odd (.lst hl) (kit_lst_int K))⟩
  · exact ⟨_, rfl, .inl (.odd (.dK hd) (kit_dct_int K))⟩
theorem flat_intsN (L : List Nat) : (intsN L).all flatV = true := List.all_eq_true.mpr fun x hx => by
  obtain ⟨p, _, rfl⟩ := List.mem_map.mp hx
  rfl
theorem inV_intsN (L : List Nat) (i : Int) : inV (.int i) (intsN L) = true ↔ ∃ p : Nat, p ∈ L ∧ i = (p : Int) := by
  unfold inV
  rw [List.any_eq_true]
  constructor
  · rintro ⟨x, hx, e⟩
    obtain ⟨p, hp, rfl⟩ := List.mem_map.mp hx
    exact ⟨p, hp, (eq_of_beq (show ((p : Int) == i) = true from e)).symm⟩
  · rintro ⟨p, hp, rfl⟩
    exact ⟨_, List.mem_map.mpr ⟨p, hp, rfl⟩, show ((p : Int) == (p : Int)) = true from beq_self_eq_true _⟩
theorem bool_same {a b : Bool} {c : Prop} (h1 : a = true ↔ c) (h2 : b = true ↔ c) : a = b := by
  rw [Bool.eq_iff_iff, h1, h2]
abbrev more13 : List V := [V.int 0, V.int 1, V.int 2, V.int 4, V.int 9, V.int 15, V.int (-1), V.int (-3), V.int (-7), V.int 21, V.int 3, V.int 5, V.int 101]
theorem scLaw : FnScope ["_law_script", "_law_cell_here", "_law_pool_here", "_law_a", "_law_b", "_law_primes", "_law_p", "_law_found", "_law_due", "_law_odd", "_law_way"] ["_law_script"] (defScope sLaw) := ⟨rfl, rfl, rfl, by decide +kernel, rfl, by decide +kernel, by decide +kernel⟩
theorem ok_law {f : Addr} {fd : FuncData} (F : Fun K "law" "law" sLaw f fd) (T : Txt K mg M C)
    (pCell : Pm P w K mg base CX0 1 "_law_cell" ["_law_script", "_law_k"] (spCell K)) (pPool : Pm P w K mg base CX0 1 "_law_pool" ["_law_cell_here"] spPool) (pTake : Pm P w K mg base CX0 1 "_law_take" ["_law_pool_here", "_law_many"] spTake)
    (pLPair : Pm P w K mg base CX0 4 "_law_pair" ["_law_pool_here"] spLPair) (pLOddPrimes : Pm P w K mg base CX0 1 "_law_odd_primes" ["_law_whole"] spLOdd) (pShuts : Pm P w K mg base (CX1 P w) 8 "shuts" ["a", "b", "p"] (spShuts K C))
    (pLShuts : Pm P w K mg base CX0 2 "_law_shuts" ["_law_a", "_law_b", "_law_prime"] spLShuts) (pSeen : Pm P w K mg base CX0 9 "_law_seen" ["_law_one", "_law_other", "_law_way"] (spSeen K)) : FnOk P w K mg base CX0 10 f fd ["_law_script"] (spLaw K) := by
  refine F.okQ scLaw (fun vs H Q E h => ?_) (fun cdv A outer s H vs Q E hr h => ?_)
  · obtain ⟨a, ns, rfl, _⟩ := h
    rfl
  · obtain ⟨a, ns, rfl, hS, hlen, k⟩ := h
    have hr1 : Room 1 _ := hr.mono (by decide)
    have hr2 : Room 2 _ := hr.mono (by decide)
    have hr4 : Room 4 _ := hr.mono (by decide)
    have hr8 : Room 8 _ := hr.mono (by decide)
    refine ⟨_, (qss_cons (qs_for PassesOwn.never rfl (qi_list (qe_op op_cat (qe_lst (qac (qe_callP pCell hr1 rfl pass0 (qac (qv 0) (qac qe_int qa_nil))) qa_nil)) (qe_slice sl_list (qv 0) (qo_some qe_int) (qo_some qe_int)))) (qg_name (i := 1) scLaw.nd rfl (Or.inl rfl))
        (qss_cons (qs_set (i := 2) scLaw.nd rfl (Or.inl rfl) (qe_callP pPool hr1 rfl pass0 (qac (qv 1) qa_nil)))
        (qss_cons (qs_asg (qe_callP pLPair hr4 rfl pass0 (qac (qv 2) qa_nil)) (qg_tup rfl (qgs_cons (qg_name (i := 3) scLaw.nd rfl (Or.inl rfl)) (qgs_cons (qg_name (i := 4) scLaw.nd rfl (Or.inl rfl)) qgs_nil))))
        (qss_cons (qs_set (i := 5) scLaw.nd rfl (Or.inl rfl) (qe_callP pLOddPrimes hr1 rfl pass0 (qac (qe_op op_mul (qv 3) (qv 4)) qa_nil)))
        (qss_cons (qs_for PassesOwn.never rfl (qi_list (qe_op op_cat (qv 5) (qe_lst (qac qe_int (qac qe_int (qac qe_int (qac qe_int (qac qe_int (qac qe_int (qac (qe_un un_neg qe_int) (qac (qe_un un_neg qe_int) (qac (qe_un un_neg qe_int) (qac qe_int (qac qe_int (qac qe_int (qac qe_int qa_nil)))))))))))))))) (qg_name (i := 6) scLaw.nd rfl (Or.inl rfl))
          (qss_cons (qs_set (i := 7) scLaw.nd rfl (Or.inl rfl) (qe_callP pShuts hr8 rfl passN (qac (qv 3) (qac (qv 4) (qac (qv 6) qa_nil)))))
          (qss_cons (qs_set (i := 8) scLaw.nd rfl (Or.inl rfl) (qe_and (qe_cmpR op_in_seq (qv 6) (qv 5) rfl) (qe_one (qe_callP pLShuts hr2 rfl pass0 (qac (qv 3) (qac (qv 4) (qac (qv 6) qa_nil)))))))
          (qss_one (qs_if (QW.pt (qw_or (qt_not (qt_val (qe_callB call_isinst (by rfl) T.isi PyProof.Rows.boot_isinstance (qac (qv 7) (qac (qe_bltn (v := .ty "bool") rfl T.bool (by decide +kernel) rfl) qa_nil))))) (qw_or1 (qt_cmpR op_ne (qv 7) (qv 8) (nomark _))))) (qss_one (qs_ret qe_bl)) qss_nil)))))
        (qss_cons (qs_set (i := 9) scLaw.nd rfl (Or.inl rfl) (qe_ix ix_list (qe_lst (qac qe_int (qac qe_non (qac qe_bl (qac qe_bl (qac qe_str (qac (qe_tup (qac qe_int qa_nil)) (qac (qe_lst (qac qe_int qa_nil)) (qac qe_dnewK qa_nil))))))))) (qe_callP pTake hr1 rfl pass0 (qac (qv 2) (qac qe_int qa_nil))) (fun _ _ => rfl)))
        (qss_one (qs_for PassesOwn.never rfl (qi_range1 rfl T.range (qac qe_int qa_nil)) (qg_name (i := 10) scLaw.nd rfl (Or.inl rfl))
          (qss_one (qs_if (QW.pt (qw_or (qt_not (qt_val (qe_callP pSeen hr rfl pass0 (qac (qv 9) (qac (qv 4) (qac (qv 10) qa_nil)))))) (qw_or (qt_not (qt_val (qe_callP pSeen hr rfl pass0 (qac (qv 3) (qac (qv 9) (qac (qv 10) qa_nil)))))) (qw_or1 (qt_not (qt_val (qe_callP pSeen hr rfl pass0 (qac (qv 9) (qac (qv 9) (qac (qv 10) qa_nil)))))))))) (qss_one (qs_ret qe_bl)) qss_nil))))))))))
      (qss_one (qs_ret qe_bl))), ?_⟩
    refine cells_for rfl hS hlen (fun σ => ∃ (x1 x2 x3 x4 x5 x6 x7 x8 x9 x10 : Option V), σ = [some (.ref a), x1, x2, x3, x4, x5, x6, x7, x8, x9, x10]) ⟨_, _, _, _, _, _, _, _, _, _, rfl⟩ ?_ (fun σ' H' _ => k H')
    rintro Hq sq c σ H2 ⟨x1, x2, x3, x4, x5, x6, x7, x8, x9, x10, rfl⟩ s2
    refine ⟨_, rfl, c, rfl, fun p f0 hp h0 => ?_⟩
    refine ⟨_, rfl, p, f0, rfl, upd_same, h0, fun t za zb H3 a0 b0 ha hb ht D3 => ?_⟩
    refine ⟨t, _, rfl, SqT.of ht, rfl, _, _, rfl, _, _, rfl, rfl, ?_⟩
    have hab : (za * zb).natAbs < 400000000 := by
      rw [Int.natAbs_mul]
      have := Nat.mul_le_mul (show za.natAbs ≤ 19999 by omega) (show zb.natAbs ≤ 19999 by omega)
      omega
    have ab0 : za * zb ≠ 0 := Int.mul_ne_zero a0 b0
    refine ⟨_, rfl, _, rfl, _, _, rfl, rfl, .inl ⟨by omega, by omega⟩, _, rfl, ab0, by omega, fun l L H4 hl s4 hl4 hL1000 hL => ?_⟩
    have D4 := D3.ext s4
    have hLb : ∀ q ∈ L, q < 20000 := fun q hq => by
      obtain ⟨q1, _, q3⟩ := (hL q).mp hq
      rw [Int.natAbs_mul] at q3
      rcases q1.euclid q3 with z | z
      · have := Nat.le_of_dvd (by omega) z
        omega
      · have := Nat.le_of_dvd (by omega) z
        omega
    -- the primes and some more
    refine ⟨_, rfl, _, rfl, _, rfl, _, rfl, by show 13 ≤ sizeLine; decide, fun m hm => ?_⟩
    have s8 := same_new (o := .lst more13) hm
    refine ⟨l, m, _, _, rfl, rfl, s8 _ _ hl4, upd_same, ?_, fun q hq => ?_⟩
    · rw [intsN_len]
      exact Nat.le_trans (show L.length + 13 ≤ 1013 by omega) (by decide)
    have s9 := s8.trans (same_new (o := .lst (intsN L ++ more13)) hq)
    refine ⟨q, rfl, ⟨_, SqL.of upd_same⟩, for_list (K := K) (a := q) (xs := intsN L ++ more13)
      (fun i σ Hx => Same H4 Hx ∧ Hx q = some (.lst (intsN L ++ more13)) ∧ ∃ (y6 y7 y8 : Option V), σ = [some (.ref a), some (.int c), some (.ref p), some (.int za), some (.int zb), some (.ref l), y6, y7, y8, x9, x10])
      ⟨s9, upd_same, _, _, _, rfl⟩ (fun i σ Hx _ ⟨_, e, _⟩ => SqL.of e) ?_ ?_⟩
    · rintro i y σ Hx hi ⟨sx, hqx, y6, y7, y8, rfl⟩
      obtain ⟨wz, rfl, hwz⟩ : ∃ wz : Int, y = V.int wz ∧ wz < 20000 := by
        rcases List.mem_append.mp (List.mem_of_getElem? hi) with z | z
        · obtain ⟨q, hq, rfl⟩ := List.mem_map.mp z
          exact ⟨_, rfl, by have := hLb q hq; omega⟩
        · simp only [List.mem_cons, List.not_mem_nil, or_false] at z
          rcases z with e | e | e | e | e | e | e | e | e | e | e | e | e <;> exact ⟨_, e, by decide⟩
      refine ⟨_, rfl, _, rfl, _, rfl, .inl ⟨za, zb, wz, rfl, a0, b0, by omega, by omega, by omega, fun b Ha sa hb => ?_⟩⟩
      have hla := sa _ _ (sx _ _ hl4)
      refine ⟨_, rfl, _, rfl, l, _, rfl, .inl (SqL.of hla), rfl, flat_intsN L, _, rfl, ?_⟩
      refine ite2 (fun hin => ?_) (fun hin => ?_)
      · obtain ⟨q', hq', rfl⟩ := (inV_intsN L wz).mp hin
        obtain ⟨pq, nq2, _⟩ := (hL q').mp hq'
        refine ⟨_, rfl, _, rfl, _, rfl, za, zb, q', rfl, a0, b0, by omega, by omega, pq, by have := hLb q' hq'; omega, fun b' Hb sb hb' => ?_⟩
        refine ⟨_, rfl, _, _, _, _, rfl, .bl b, rel_ty (kit_bool_bool K), true, rfl, iteF ?_⟩
        have hb2 : b = true ↔ EM.Shuts za zb q' := hb.trans ⟨fun ⟨q2, e, _, _, z⟩ => by
          have : q2 = q' := by omega
          exact this ▸ z, fun z => ⟨q', rfl, pq, nq2, z⟩⟩
        refine ⟨_, rfl, _, rfl, rfl, _, rfl, iteNS (congrArg V.bl (bool_same hb2 hb')) ?_⟩
        exact ⟨(sx.trans sa).trans sb, (sa.trans sb) _ _ hqx, _, _, _, rfl⟩
      · have hbf : b = false := by
          cases b with
          | false => rfl
          | true =>
            obtain ⟨q2, rfl, pq, nq2, z⟩ := hb.mp rfl
            exact absurd ((inV_intsN L q2).mpr ⟨q2, (hL q2).mpr ⟨pq, nq2, natAbs_dvd.mp z.dvd⟩, rfl⟩) hin
        subst hbf
        refine ⟨_, rfl, _, _, _, _, rfl, .bl false, rel_ty (kit_bool_bool K), true, rfl, iteF ?_⟩
        refine ⟨_, rfl, _, rfl, rfl, _, rfl, iteNS rfl ?_⟩
        exact ⟨sx.trans sa, sa _ _ hqx, _, _, _, rfl⟩
    · rintro σ Hx ⟨sx, _, y6, y7, y8, rfl⟩
      have D8 := D4.ext sx
      obtain ⟨g8, hg8, hp8⟩ := D8.pool
      refine ⟨by show 1 ≤ sizeLine; decide, fun t2 ht2 => ⟨by show 1 ≤ sizeLine; decide, fun l3 hl3 => fun d hd => ⟨by show 8 ≤ sizeLine; decide, fun m2 hm2 => ?_⟩⟩⟩
      have a1 := same_new (o := .tup [.int 3]) ht2
      have a2 := same_new (o := .lst [.int 3]) hl3
      have a3 := same_new (o := .dK []) hd
      have a6 := same_new (o := .lst [V.int 0, V.non, .bl true, .bl false, .str "3", .ref t2, .ref l3, .ref d]) hm2
      have b3 := a3.trans a6
      have b2 := a2.trans b3
      have b1 := a1.trans b2
      have pt : p ≠ t2 := ne_of_none hp8 ht2
      have pl : p ≠ l3 := ne_of_none (a1 _ _ hp8) hl3
      have pd : p ≠ d := ne_of_none ((a1.trans a2) _ _ hp8) hd
      have pm : p ≠ m2 := ne_of_none (((a1.trans a2).trans a3) _ _ hp8) hm2
      refine ⟨_, rfl, p, g8, 8, rfl, b1 _ _ hp8, hg8, by decide, by decide, fun g9 r9 hg9 hr9 hr9' => ?_⟩
      obtain ⟨w9, hw9, od⟩ := pickO (K := K) (H := (upd (upd (upd (upd (upd Hx t2 (.tup [.int 3])) l3 (.lst [.int 3])) d (.dK [])) m2 (.lst [V.int 0, V.non, .bl true, .bl false, .str "3", .ref t2, .ref l3, .ref d])) p (.lst [.int g9])))
        (t := t2) (l := l3) (d := d) (by rw [upd_ne pt.symm]; exact b2 _ _ upd_same) (by rw [upd_ne pl.symm]; exact b3 _ _ upd_same) (by rw [upd_ne pd.symm]; exact a6 _ _ upd_same) hr9 hr9'
      refine ⟨m2, _, r9, w9, rfl, rfl, SqL.of (by rw [upd_ne pm.symm]; exact upd_same), hw9, ?_⟩
      have D9 := ((D8.ext b1).trans (Drawn1.put (p := p) (H := (upd (upd (upd (upd Hx t2 (.tup [.int 3])) l3 (.lst [.int 3])) d (.dK [])) m2 (.lst [V.int 0, V.non, .bl true, .bl false, .str "3", .ref t2, .ref l3, .ref d]))) hg9)).same hp
      revert D9 od
      generalize (upd (upd (upd (upd (upd Hx t2 (.tup [.int 3])) l3 (.lst [.int 3])) d (.dK [])) m2 (.lst [V.int 0, V.non, .bl true, .bl false, .str "3", .ref t2, .ref l3, .ref d])) p (.lst [.int g9])) = H9
      intro od D9
      refine ⟨_, rfl, by decide, by decide, for_range (n := 2) (fun i σ Hy => Same H9 Hy ∧ ∃ y10 : Option V, σ = [some (.ref a), some (.int c), some (.ref p), some (.int za), some (.int zb), some (.ref l), y6, y7, y8, some w9, y10]) ⟨Same.refl _, _, rfl⟩ ?_ ?_⟩
      · rintro i σ Hy hi ⟨sy, y10, rfl⟩
        have od1 := od.same sy
        have gd : GoodNum (.int za) := ⟨za, rfl, a0, by omega⟩
        refine ⟨_, rfl, _, rfl, _, rfl, w9, _, _, rfl, .inl od1, fun Ha sa => ⟨true, rfl, iteF ?_⟩⟩
        refine ⟨_, rfl, _, rfl, _, rfl, _, w9, _, rfl, .inr ⟨gd, od1.same sa⟩, fun Hb sb => ⟨true, rfl, iteF ?_⟩⟩
        refine ⟨_, rfl, _, rfl, _, rfl, w9, w9, _, rfl, .inl (od1.same (sa.trans sb)), fun Hc sc => ⟨true, rfl, iteF ?_⟩⟩
        exact ⟨((sy.trans sa).trans sb).trans sc, _, rfl⟩
      · rintro σ Hy ⟨sy, y10, rfl⟩
        exact ⟨(s2.trans D9).trans sy, _, _, _, _, _, _, _, _, _, _, rfl⟩
end
end E1
namespace E1
open PySem L2
theorem all_mk {l : PySem.W.OpenLaw} {w : World} {K : PySem.W.Frag} {h : Heap} {mg : Str → Option Value} {fa : Addr} (X : K.In h) (G : h.Ns mainGlobals mg) (hfa : mg "law" = some (.ref fa))
    (R : ∃ M C o1 o2 o3 o4 o5 o6 o7 o8 o9 o10 o11 o12 o13 : Addr, Refs K M C o1 o2 o3 o4 o5 o6 o7 o8 o9 o10 o11 o12 o13) (N : Free K)
    (AWhole : At K "is_whole" sWhole) (AMust : At K "must_be_whole" sMust) (AFrom : At K "must_be_from" sFrom) (APrimes : At K "primes_of" sPrimes) (AIsPrime : At K "is_prime" sIsPrime) (APlain : At K "plain_part" sPlain) (AIsRest : At K "is_rest" sIsRest) (APower : At K "power_by" sPower) (AForm : At K "form_told" sForm) (AShuts : At K "shuts" sShuts) (APShut : At K "prime_shuts_plain" sPShut) (ACell : At K "_law_cell" sCell) (APool : At K "_law_pool" sPool) (ATake : At K "_law_take" sTake) (ARef : At K "_law_refused" sRef) (ALPlain : At K "_law_plain" sLPlain) (ALOddPrimes : At K "_law_odd_primes" sLOddPrimes) (ALIsRest : At K "_law_is_rest" sLIsRest) (ALShuts : At K "_law_shuts" sLShuts) (ALFactor : At K "_law_factor" sLFactor) (ALPart : At K "_law_part" sLPart) (ALPair : At K "_law_pair" sLPair) (ASeen : At K "_law_seen" sSeen) (ALaw : At K "law" sLaw) :
    ∃ fd : FuncData, (∀ (s : Shared) (v : Value), BindsTo s fd ⟨[v], []⟩ [("_law_script", v)]) ∧ ∀ base : Heap, K.In base → base.Ns mainGlobals mg → FnOk l.prog w K mg base CX0 10 fa fd ["_law_script"] (spLaw K) := by
  obtain ⟨M, C, o1, o2, o3, o4, o5, o6, o7, o8, o9, o10, o11, o12, o13, R⟩ := R
  have T := txt_of X G R N
  have O := others_of X G R
  obtain ⟨fWhole, fdWhole, aWhole, FWhole⟩ := AWhole
  obtain ⟨fMust, fdMust, aMust, FMust⟩ := AMust
  obtain ⟨fFrom, fdFrom, aFrom, FFrom⟩ := AFrom
  obtain ⟨fPrimes, fdPrimes, aPrimes, FPrimes⟩ := APrimes
  obtain ⟨fIsPrime, fdIsPrime, aIsPrime, FIsPrime⟩ := AIsPrime
  obtain ⟨fPlain, fdPlain, aPlain, FPlain⟩ := APlain
  obtain ⟨fIsRest, fdIsRest, aIsRest, FIsRest⟩ := AIsRest
  obtain ⟨fPower, fdPower, aPower, FPower⟩ := APower
  obtain ⟨fForm, fdForm, aForm, FForm⟩ := AForm
  obtain ⟨fShuts, fdShuts, aShuts, FShuts⟩ := AShuts
  obtain ⟨fPShut, fdPShut, aPShut, FPShut⟩ := APShut
  obtain ⟨fCell, fdCell, aCell, FCell⟩ := ACell
  obtain ⟨fPool, fdPool, aPool, FPool⟩ := APool
  obtain ⟨fTake, fdTake, aTake, FTake⟩ := ATake
  obtain ⟨fRef, fdRef, aRef, FRef⟩ := ARef
  obtain ⟨fLPlain, fdLPlain, aLPlain, FLPlain⟩ := ALPlain
  obtain ⟨fLOddPrimes, fdLOddPrimes, aLOddPrimes, FLOddPrimes⟩ := ALOddPrimes
  obtain ⟨fLIsRest, fdLIsRest, aLIsRest, FLIsRest⟩ := ALIsRest
  obtain ⟨fLShuts, fdLShuts, aLShuts, FLShuts⟩ := ALShuts
  obtain ⟨fLFactor, fdLFactor, aLFactor, FLFactor⟩ := ALFactor
  obtain ⟨fLPart, fdLPart, aLPart, FLPart⟩ := ALPart
  obtain ⟨fLPair, fdLPair, aLPair, FLPair⟩ := ALPair
  obtain ⟨fSeen, fdSeen, aSeen, FSeen⟩ := ASeen
  obtain ⟨fLaw, fdLaw, aLaw, FLaw⟩ := ALaw
  have e := hfa.symm.trans (PySem.W.mg_of X G aLaw)
  cases e
  have bWhole := FWhole.binds (ps := ["thing"]) fun _ _ _ _ _ _ us hl => match us, hl with | [_], _ => rfl
  have mWhole := PySem.W.mg_of X G aWhole
  have bMust := FMust.binds (ps := ["thing"]) fun _ _ _ _ _ _ us hl => match us, hl with | [_], _ => rfl
  have mMust := PySem.W.mg_of X G aMust
  have bFrom := FFrom.binds (ps := ["least", "thing"]) fun _ _ _ _ _ _ us hl => match us, hl with | [_, _], _ => rfl
  have mFrom := PySem.W.mg_of X G aFrom
  have bPrimes := FPrimes.binds (ps := ["n"]) fun _ _ _ _ _ _ us hl => match us, hl with | [_], _ => rfl
  have mPrimes := PySem.W.mg_of X G aPrimes
  have bIsPrime := FIsPrime.binds (ps := ["p"]) fun _ _ _ _ _ _ us hl => match us, hl with | [_], _ => rfl
  have mIsPrime := PySem.W.mg_of X G aIsPrime
  have bPlain := FPlain.binds (ps := ["n"]) fun _ _ _ _ _ _ us hl => match us, hl with | [_], _ => rfl
  have mPlain := PySem.W.mg_of X G aPlain
  have bIsRest := FIsRest.binds (ps := ["n", "p"]) fun _ _ _ _ _ _ us hl => match us, hl with | [_, _], _ => rfl
  have mIsRest := PySem.W.mg_of X G aIsRest
  have bPower := FPower.binds (ps := ["n", "exponent", "p"]) fun _ _ _ _ _ _ us hl => match us, hl with | [_, _, _], _ => rfl
  have mPower := PySem.W.mg_of X G aPower
  have bForm := FForm.binds (ps := ["a", "b"]) fun _ _ _ _ _ _ us hl => match us, hl with | [_, _], _ => rfl
  have mForm := PySem.W.mg_of X G aForm
  have bShuts := FShuts.binds (ps := ["a", "b", "p"]) fun _ _ _ _ _ _ us hl => match us, hl with | [_, _, _], _ => rfl
  have mShuts := PySem.W.mg_of X G aShuts
  have bPShut := FPShut.binds (ps := ["s", "t", "p"]) fun _ _ _ _ _ _ us hl => match us, hl with | [_, _, _], _ => rfl
  have mPShut := PySem.W.mg_of X G aPShut
  have bCell := FCell.binds (ps := ["_law_script", "_law_k"]) fun _ _ _ _ _ _ us hl => match us, hl with | [_, _], _ => rfl
  have mCell := PySem.W.mg_of X G aCell
  have bPool := FPool.binds (ps := ["_law_cell_here"]) fun _ _ _ _ _ _ us hl => match us, hl with | [_], _ => rfl
  have mPool := PySem.W.mg_of X G aPool
  have bTake := FTake.binds (ps := ["_law_pool_here", "_law_many"]) fun _ _ _ _ _ _ us hl => match us, hl with | [_, _], _ => rfl
  have mTake := PySem.W.mg_of X G aTake
  have bRef := FRef.binds (ps := ["_law_e"]) fun _ _ _ _ _ _ us hl => match us, hl with | [_], _ => rfl
  have mRef := PySem.W.mg_of X G aRef
  have bLPlain := FLPlain.binds (ps := ["_law_whole"]) fun _ _ _ _ _ _ us hl => match us, hl with | [_], _ => rfl
  have mLPlain := PySem.W.mg_of X G aLPlain
  have bLOddPrimes := FLOddPrimes.binds (ps := ["_law_whole"]) fun _ _ _ _ _ _ us hl => match us, hl with | [_], _ => rfl
  have mLOddPrimes := PySem.W.mg_of X G aLOddPrimes
  have bLIsRest := FLIsRest.binds (ps := ["_law_whole", "_law_prime"]) fun _ _ _ _ _ _ us hl => match us, hl with | [_, _], _ => rfl
  have mLIsRest := PySem.W.mg_of X G aLIsRest
  have bLShuts := FLShuts.binds (ps := ["_law_a", "_law_b", "_law_prime"]) fun _ _ _ _ _ _ us hl => match us, hl with | [_, _, _], _ => rfl
  have mLShuts := PySem.W.mg_of X G aLShuts
  have bLFactor := FLFactor.binds (ps := ["_law_pool_here"]) fun _ _ _ _ _ _ us hl => match us, hl with | [_], _ => rfl
  have mLFactor := PySem.W.mg_of X G aLFactor
  have bLPart := FLPart.binds (ps := ["_law_pool_here"]) fun _ _ _ _ _ _ us hl => match us, hl with | [_], _ => rfl
  have mLPart := PySem.W.mg_of X G aLPart
  have bLPair := FLPair.binds (ps := ["_law_pool_here"]) fun _ _ _ _ _ _ us hl => match us, hl with | [_], _ => rfl
  have mLPair := PySem.W.mg_of X G aLPair
  have bSeen := FSeen.binds (ps := ["_law_one", "_law_other", "_law_way"]) fun _ _ _ _ _ _ us hl => match us, hl with | [_, _, _], _ => rfl
  have mSeen := PySem.W.mg_of X G aSeen
  refine ⟨fdLaw, ?_, fun base _ _ => ?_⟩
  · obtain ⟨oc, od, kV, doc, pm, an, cdv, ct, osl, rfl, lk, hcd⟩ := FLaw.ex
    exact fun s v => .of_eq rfl
  · have GM : FnOk l.prog w K mg base (CX1 l.prog w) 2 fMust fdMust ["thing"] (spMust K C) := ok_must FMust T FWhole bWhole mWhole
    have GF : FnOk l.prog w K mg base (CX1 l.prog w) 3 fFrom fdFrom ["least", "thing"] (spFrom K C) := ok_from FFrom T FMust bMust mMust GM
    have GP : FnOk l.prog w K mg base (CX1 l.prog w) 4 fPrimes fdPrimes ["n"] (spPrimes K C) := ok_primes FPrimes FFrom bFrom mFrom GF
    have GI : FnOk l.prog w K mg base CX0 5 fIsPrime fdIsPrime ["p"] spIsPrime := ok_isprime FIsPrime ⟨fPrimes, fdPrimes, mPrimes, FPrimes.kp, bPrimes, GP⟩
    have GPl : FnOk l.prog w K mg base (CX1 l.prog w) 5 fPlain fdPlain ["n"] (spPlain K C) := ok_plain FPlain T FMust bMust mMust GM FPrimes bPrimes mPrimes GP
    have pPl : Pm l.prog w K mg base (CX1 l.prog w) 5 "plain_part" ["n"] (spPlain K C) := ⟨fPlain, fdPlain, mPlain, FPlain.kp, bPlain, GPl⟩
    have GW : FnOk l.prog w K mg base CX0 1 fPower fdPower ["n", "exponent", "p"] spPower := ok_power FPower
    have pM : Pm l.prog w K mg base (CX1 l.prog w) 2 "must_be_whole" ["thing"] (spMust K C) := ⟨fMust, fdMust, mMust, FMust.kp, bMust, GM⟩
    have pI : Pm l.prog w K mg base CX0 5 "is_prime" ["p"] spIsPrime := ⟨fIsPrime, fdIsPrime, mIsPrime, FIsPrime.kp, bIsPrime, GI⟩
    have GQ : FnOk l.prog w K mg base (CX1 l.prog w) 6 fIsRest fdIsRest ["n", "p"] (spIsRest K C) := ok_isrest FIsRest T pM pI ⟨fPower, fdPower, mPower, FPower.kp, bPower, GW⟩
    have GS : FnOk l.prog w K mg base CX0 7 fPShut fdPShut ["s", "t", "p"] spPShut := ok_pshut FPShut ⟨fIsRest, fdIsRest, mIsRest, FIsRest.kp, bIsRest, GQ⟩
    have GSh : FnOk l.prog w K mg base (CX1 l.prog w) 8 fShuts fdShuts ["a", "b", "p"] (spShuts K C) := ok_shuts FShuts pPl pM pI ⟨fPShut, fdPShut, mPShut, FPShut.kp, bPShut, GS⟩
    have pSh : Pm l.prog w K mg base (CX1 l.prog w) 8 "shuts" ["a", "b", "p"] (spShuts K C) := ⟨fShuts, fdShuts, mShuts, FShuts.kp, bShuts, GSh⟩
    have GR : FnH l.prog w K mg base 1 fRef fdRef ["_law_e"] (spRef C) := ok_ref FRef T O
    have GE : FnOk l.prog w K mg base CX0 9 fSeen fdSeen ["_law_one", "_law_other", "_law_way"] (spSeen K) := ok_seen FSeen T ⟨fForm, fdForm, mForm, FForm.kp, bForm, ok_form_no FForm pPl⟩ pSh FRef bRef mRef GR
    have pT : Pm l.prog w K mg base CX0 1 "_law_take" ["_law_pool_here", "_law_many"] spTake := ⟨fTake, fdTake, mTake, FTake.kp, bTake, ok_take FTake⟩
    have pF : Pm l.prog w K mg base CX0 2 "_law_factor" ["_law_pool_here"] spLFactor := ⟨fLFactor, fdLFactor, mLFactor, FLFactor.kp, bLFactor, ok_lfactor FLFactor pT⟩
    have pP : Pm l.prog w K mg base CX0 3 "_law_part" ["_law_pool_here"] spLPart := ⟨fLPart, fdLPart, mLPart, FLPart.kp, bLPart, ok_lpart FLPart T pT pF⟩
    have pLS : Pm l.prog w K mg base CX0 2 "_law_shuts" ["_law_a", "_law_b", "_law_prime"] spLShuts := ⟨fLShuts, fdLShuts, mLShuts, FLShuts.kp, bLShuts, ok_lshuts FLShuts ⟨fLPlain, fdLPlain, mLPlain, FLPlain.kp, bLPlain, ok_lplain FLPlain T⟩ ⟨fLIsRest, fdLIsRest, mLIsRest, FLIsRest.kp, bLIsRest, ok_lisrest FLIsRest T⟩⟩
    exact ok_law FLaw T ⟨fCell, fdCell, mCell, FCell.kp, bCell, ok_cell FCell T⟩ ⟨fPool, fdPool, mPool, FPool.kp, bPool, ok_pool FPool T⟩ pT ⟨fLPair, fdLPair, mLPair, FLPair.kp, bLPair, ok_lpair FLPair T pT pF pP⟩ ⟨fLOddPrimes, fdLOddPrimes, mLOddPrimes, FLOddPrimes.kp, bLOddPrimes, ok_lodd FLOddPrimes T⟩ pSh pLS ⟨fSeen, fdSeen, mSeen, FSeen.kp, bSeen, GE⟩
end E1
def PySem.W.Fast.tw3722352635139388929 : Nat := 0
def PySem.W.Fast.tw5483404044754300402 : Nat := 0
def PySem.W.Fast.tw18250318394306986338 : Nat := 0
def PySem.W.Fast.tw7467978610559745718 : Nat := 0
def PySem.W.Fast.tw10729866268264426902 : Nat := 0
def PySem.W.Fast.tw4836031168050804432 : Nat := 0
def PySem.W.Fast.tw4890091792394475189 : Nat := 0
def PySem.W.Fast.tw11102473256689420913 : Nat := 0
def PySem.W.Fast.tw9726833933872277728 : Nat := 0
def PySem.W.Fast.tw10749799903909546076 : Nat := 0
def PySem.W.Fast.tw253465358899524018 : Nat := 0
def PySem.W.Fast.tw10213125676906856043 : Nat := 0
def PySem.W.Fast.tw8821103594069477157 : Nat := 0
def PySem.W.Fast.tw13088806534264337256 : Nat := 0
def PySem.W.Fast.tw13789948540512987389 : Nat := 0
def PySem.W.Fast.tw1450570415185542006 : Nat := 0
open PySem PySem.W PyProof.Rows
set_option maxRecDepth 100000 in
set_option maxHeartbeats 0 in
theorem PySem.Challenge.cw_evenmeet_k07_primes_that_shut_holds : PySem.Challenge.rw_evenmeet_k07_primes_that_shut.Holds := by
  w_on; o_law; k_head; (case hw => w_witness2)
  k_fill
  refine E1.walk (l := PySem.Challenge.rw_evenmeet_k07_primes_that_shut) (k := 10) ⟨rfl, by decide, by decide⟩ rfl rfl (fun w h Y => PySem.W.kIn_of Y) ?F
  case F =>
    intro w mg fa h KX G hmg
    have R : ∃ M C o1 o2 o3 o4 o5 o6 o7 o8 o9 o10 o11 o12 o13 : Addr, E1.Refs (L2.KOf KX) M C o1 o2 o3 o4 o5 o6 o7 o8 o9 o10 o11 o12 o13 := by
      dsimp only [L2.KOf]
      refine' E1.refs_mk ?nM ?nC ?n1 ?n2 ?n3 ?n4 ?n5 ?n6 ?n7 ?n8 ?n9 ?n10 ?n11 ?n12 ?n13 ?exM ?gaM ?noM ?clM ?obM ?beM ?exC ?gaC ?noC ?clC ?obC ?beC ?gt ?tk ?sub ?kC ?kV ?k1 ?k2
      (case nM => k_is)
      (case nC => k_is)
      (case n1 => k_is)
      (case n2 => k_is)
      (case n3 => k_is)
      (case n4 => k_is)
      (case n5 => k_is)
      (case n6 => k_is)
      (case n7 => k_is)
      (case n8 => k_is)
      (case n9 => k_is)
      (case n10 => k_is)
      (case n11 => k_is)
      (case n12 => k_is)
      (case n13 => k_is)
      (case exM => k_exc)
      (case gaM => k_is)
      (case noM => k_is)
      (case clM => k_is)
      (case obM => k_is)
      (case beM => k_is)
      (case exC => k_exc)
      (case gaC => k_is)
      (case noC => k_is)
      (case clC => k_is)
      (case obC => k_is)
      (case beC => k_is)
      (case gt => k_is)
      (case tk => k_is)
      (case sub => k_is)
      (case kC => kit_is)
      (case kV => kit_is)
      (case k1 => kit_is)
      (case k2 => kit_is)
    have N : E1.Free (L2.KOf KX) := by
      dsimp only [L2.KOf]
      refine' ⟨?z0, ?z1, ?z2, ?z3, ?z4, ?z5, ?z6, ?z7, ?z8, ?z9, ?z10, ?z11, ?z12, ?z13, ?z14, ?z15, ?z16, ?z17, ?z18, ?z19⟩
      (case z0 => k_is)
      (case z1 => k_is)
      (case z2 => k_is)
      (case z3 => k_is)
      (case z4 => k_is)
      (case z5 => k_is)
      (case z6 => k_is)
      (case z7 => k_is)
      (case z8 => k_is)
      (case z9 => k_is)
      (case z10 => k_is)
      (case z11 => k_is)
      (case z12 => k_is)
      (case z13 => k_is)
      (case z14 => k_is)
      (case z15 => k_is)
      (case z16 => k_is)
      (case z17 => k_is)
      (case z18 => k_is)
      (case z19 => k_is)
    have AWhole : E1.At (L2.KOf KX) "is_whole" E1.sWhole := by
      dsimp only [L2.KOf]
      refine' E1.fn_mk ?a ?l ?c ?k
      (case a => k_is); (case l => k_is); (case c => k_is); (case k => k_is)
    have AMust : E1.At (L2.KOf KX) "must_be_whole" E1.sMust := by
      dsimp only [L2.KOf]
      refine' E1.fn_mk ?a ?l ?c ?k
      (case a => k_is); (case l => k_is); (case c => k_is); (case k => k_is)
    have AFrom : E1.At (L2.KOf KX) "must_be_from" E1.sFrom := by
      dsimp only [L2.KOf]
      refine' E1.fn_mk ?a ?l ?c ?k
      (case a => k_is); (case l => k_is); (case c => k_is); (case k => k_is)
    have APrimes : E1.At (L2.KOf KX) "primes_of" E1.sPrimes := by
      dsimp only [L2.KOf]
      refine' E1.fn_mk ?a ?l ?c ?k
      (case a => k_is); (case l => k_is); (case c => k_is); (case k => k_is)
    have AIsPrime : E1.At (L2.KOf KX) "is_prime" E1.sIsPrime := by
      dsimp only [L2.KOf]
      refine' E1.fn_mk ?a ?l ?c ?k
      (case a => k_is); (case l => k_is); (case c => k_is); (case k => k_is)
    have APlain : E1.At (L2.KOf KX) "plain_part" E1.sPlain := by
      dsimp only [L2.KOf]
      refine' E1.fn_mk ?a ?l ?c ?k
      (case a => k_is); (case l => k_is); (case c => k_is); (case k => k_is)
    have AIsRest : E1.At (L2.KOf KX) "is_rest" E1.sIsRest := by
      dsimp only [L2.KOf]
      refine' E1.fn_mk ?a ?l ?c ?k
      (case a => k_is); (case l => k_is); (case c => k_is); (case k => k_is)
    have APower : E1.At (L2.KOf KX) "power_by" E1.sPower := by
      dsimp only [L2.KOf]
      refine' E1.fn_mk ?a ?l ?c ?k
      (case a => k_is); (case l => k_is); (case c => k_is); (case k => k_is)
    have AForm : E1.At (L2.KOf KX) "form_told" E1.sForm := by
      dsimp only [L2.KOf]
      refine' E1.fn_mk ?a ?l ?c ?k
      (case a => k_is); (case l => k_is); (case c => k_is); (case k => k_is)
    have AShuts : E1.At (L2.KOf KX) "shuts" E1.sShuts := by
      dsimp only [L2.KOf]
      refine' E1.fn_mk ?a ?l ?c ?k
      (case a => k_is); (case l => k_is); (case c => k_is); (case k => k_is)
    have APShut : E1.At (L2.KOf KX) "prime_shuts_plain" E1.sPShut := by
      dsimp only [L2.KOf]
      refine' E1.fn_mk ?a ?l ?c ?k
      (case a => k_is); (case l => k_is); (case c => k_is); (case k => k_is)
    have ACell : E1.At (L2.KOf KX) "_law_cell" E1.sCell := by
      dsimp only [L2.KOf]
      refine' E1.fn_mk ?a ?l ?c ?k
      (case a => k_is); (case l => k_is); (case c => k_is); (case k => k_is)
    have APool : E1.At (L2.KOf KX) "_law_pool" E1.sPool := by
      dsimp only [L2.KOf]
      refine' E1.fn_mk ?a ?l ?c ?k
      (case a => k_is); (case l => k_is); (case c => k_is); (case k => k_is)
    have ATake : E1.At (L2.KOf KX) "_law_take" E1.sTake := by
      dsimp only [L2.KOf]
      refine' E1.fn_mk ?a ?l ?c ?k
      (case a => k_is); (case l => k_is); (case c => k_is); (case k => k_is)
    have ARef : E1.At (L2.KOf KX) "_law_refused" E1.sRef := by
      dsimp only [L2.KOf]
      refine' E1.fn_mk ?a ?l ?c ?k
      (case a => k_is); (case l => k_is); (case c => k_is); (case k => k_is)
    have ALPlain : E1.At (L2.KOf KX) "_law_plain" E1.sLPlain := by
      dsimp only [L2.KOf]
      refine' E1.fn_mk ?a ?l ?c ?k
      (case a => k_is); (case l => k_is); (case c => k_is); (case k => k_is)
    have ALOddPrimes : E1.At (L2.KOf KX) "_law_odd_primes" E1.sLOddPrimes := by
      dsimp only [L2.KOf]
      refine' E1.fn_mk ?a ?l ?c ?k
      (case a => k_is); (case l => k_is); (case c => k_is); (case k => k_is)
    have ALIsRest : E1.At (L2.KOf KX) "_law_is_rest" E1.sLIsRest := by
      dsimp only [L2.KOf]
      refine' E1.fn_mk ?a ?l ?c ?k
      (case a => k_is); (case l => k_is); (case c => k_is); (case k => k_is)
    have ALShuts : E1.At (L2.KOf KX) "_law_shuts" E1.sLShuts := by
      dsimp only [L2.KOf]
      refine' E1.fn_mk ?a ?l ?c ?k
      (case a => k_is); (case l => k_is); (case c => k_is); (case k => k_is)
    have ALFactor : E1.At (L2.KOf KX) "_law_factor" E1.sLFactor := by
      dsimp only [L2.KOf]
      refine' E1.fn_mk ?a ?l ?c ?k
      (case a => k_is); (case l => k_is); (case c => k_is); (case k => k_is)
    have ALPart : E1.At (L2.KOf KX) "_law_part" E1.sLPart := by
      dsimp only [L2.KOf]
      refine' E1.fn_mk ?a ?l ?c ?k
      (case a => k_is); (case l => k_is); (case c => k_is); (case k => k_is)
    have ALPair : E1.At (L2.KOf KX) "_law_pair" E1.sLPair := by
      dsimp only [L2.KOf]
      refine' E1.fn_mk ?a ?l ?c ?k
      (case a => k_is); (case l => k_is); (case c => k_is); (case k => k_is)
    have ASeen : E1.At (L2.KOf KX) "_law_seen" E1.sSeen := by
      dsimp only [L2.KOf]
      refine' E1.fn_mk ?a ?l ?c ?k
      (case a => k_is); (case l => k_is); (case c => k_is); (case k => k_is)
    have ALaw : E1.At (L2.KOf KX) "law" E1.sLaw := by
      dsimp only [L2.KOf]
      refine' E1.fn_mk ?a ?l ?c ?k
      (case a => k_is); (case l => k_is); (case c => k_is); (case k => k_is)
    exact E1.all_mk KX G hmg R N AWhole AMust AFrom APrimes AIsPrime APlain AIsRest APower AForm AShuts APShut ACell APool ATake ARef ALPlain ALOddPrimes ALIsRest ALShuts ALFactor ALPart ALPair ASeen ALaw


