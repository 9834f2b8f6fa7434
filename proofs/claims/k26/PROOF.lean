import PyProof.Rows.All
import Wide.All
import OpenK.AllK
import Wide.FinOn
import Lean
import PyProof.EqAt
import PyProof.EqKinds
import PyProof.TupleCall
import PySem.Challenge.RW_evenmeet_k26_whole_field_rules
set_option Elab.async false
set_option linter.all false
set_option maxRecDepth 100000
/-! THE HAND LAYER, for ints, bools, texts, own classes, LISTS and tuples (index, slices, in, append, pop ..), calls, loops. Paste it whole ahead of your own text; what your proof does not reach may be deleted. -/
namespace L2
open PySem PySem.Spec PyProof.Rows

/-- a key: an int or a str -/
abbrev Key := Sum Int Str
def keyIs : Key → Value → Bool
  | .inl k, v => Value.isInt k v
  | .inr x, v => Value.isStrOf x v
def keyH (w : World) : Key → Int
  | .inl k => hashInt k
  | .inr x => hashStr w x
theorem keyIs_shape : ∀ {k : Key} {v : Value}, keyIs k v = true → (∃ i t, k = Sum.inl i ∧ v = Value.int i t) ∨ (∃ x t, k = Sum.inr x ∧ v = Value.str x t)
  | .inl i, v, h => by
    obtain ⟨t, e⟩ := Value.isInt_shape (k := i) (v := v) h
    exact .inl ⟨i, t, rfl, e⟩
  | .inr x, v, h => by
    obtain ⟨t, e⟩ := Value.isStrOf_shape (x := x) (v := v) h
    exact .inr ⟨x, t, rfl, e⟩
theorem key_ll (a b : Int) : decide ((Sum.inl a : Key) = Sum.inl b) = (a == b) := by
  by_cases e : a = b
  · subst e; simp
  · have h : ¬ (Sum.inl a : Key) = Sum.inl b := fun q => e (Sum.inl.inj q)
    rw [decide_eq_false h]
    exact (beq_eq_false_iff_ne.mpr e).symm
theorem key_rr (a b : Str) : decide ((Sum.inr a : Key) = Sum.inr b) = decide (a = b) := by
  by_cases e : a = b
  · subst e; simp
  · have h : ¬ (Sum.inr a : Key) = Sum.inr b := fun q => e (Sum.inr.inj q)
    rw [decide_eq_false h, decide_eq_false e]
theorem key_lr (a : Int) (b : Str) : decide ((Sum.inl a : Key) = Sum.inr b) = false := decide_eq_false (fun q => nomatch q)
theorem key_rl (a : Str) (b : Int) : decide ((Sum.inr a : Key) = Sum.inl b) = false := decide_eq_false (fun q => nomatch q)

def mixKind (prog : Program) (w : World) : PySem.KeyKind prog w Key where
  is := keyIs
  hash := keyH w
  inj := fun v a b ha hb => by
    rcases keyIs_shape ha with ⟨i, t, rfl, rfl⟩ | ⟨x, t, rfl, rfl⟩
    · rcases keyIs_shape hb with ⟨j, u, rfl, e⟩ | ⟨y, u, rfl, e⟩
      · injection e with e1 _; rw [e1]
      · exact nomatch e
    · rcases keyIs_shape hb with ⟨j, u, rfl, e⟩ | ⟨y, u, rfl, e⟩
      · exact nomatch e
      · injection e with e1 _; rw [e1]
  byValue := fun k v h => by
    rcases keyIs_shape h with ⟨i, t, rfl, rfl⟩ | ⟨x, t, rfl, rfl⟩ <;> rfl
  pyHash := fun hv h => by
    rcases keyIs_shape hv with ⟨i, t, rfl, rfl⟩ | ⟨x, t, rfl, rfl⟩
    · exact wpAny_pyHash_int h
    · exact wpAny_pyHash_str h
  eqBool := fun hu hv h => by
    rcases keyIs_shape hu with ⟨i, t, rfl, rfl⟩ | ⟨x, t, rfl, rfl⟩
    · rcases keyIs_shape hv with ⟨j, u, rfl, rfl⟩ | ⟨y, u, rfl, rfl⟩
      · rw [key_ll] at h; exact wpAny_eqBool_int h
      · rw [key_lr] at h; exact SeqAt.EqAt.int_str i t y u _ _ _ _ h
    · rcases keyIs_shape hv with ⟨j, u, rfl, rfl⟩ | ⟨y, u, rfl, rfl⟩
      · rw [key_rl] at h; exact SeqAt.EqAt.str_int x t j u _ _ _ _ h
      · rw [key_rr] at h; exact wpAny_eqBool_str h
  «strs» := fun k x t v h => by
    rcases keyIs_shape h with ⟨i, u, rfl, e⟩ | ⟨y, u, rfl, e⟩
    · exact nomatch e
    · injection e with e1 _
      subst e1
      cases v <;> rfl

end L2

namespace L2
open PySem PySem.Spec PyProof.Rows

/-- a value, without the heap -/
inductive V where
  | non | bl (b : Bool) | int (i : Int) | str (x : Str) | byt (b : Array UInt8) | flt (b : UInt64) | ref (a : Addr) | ty (n : String)
  deriving DecidableEq

def RelV : V → Value → Prop
  | .non, u => u = Value.none
  | .bl b, u => u = Value.bool b
  | .int i, u => ∃ t, u = Value.int i t
  | .str x, u => ∃ t, u = Value.str x t
  | .byt b, u => ∃ t, u = Value.bytes b t
  | .flt b, u => ∃ t, u = Value.float b t
  | .ref a, u => u = Value.ref a
  | .ty n, u => u = Value.type n

abbrev Vals : List V → List Value → Prop := Paired RelV
theorem Vals.length {xs : List V} {us : List Value} (r : Vals xs us) : xs.length = us.length := Paired.length r
theorem Vals.get : ∀ {xs : List V} {us : List Value} {i : Nat} {x : V}, Vals xs us → xs[i]? = some x → ∃ u, us[i]? = some u ∧ RelV x u
  | _, _, _, _, .nil, e => by simp at e
  | _, _, 0, _, .cons r _, e => by simp at e; subst e; exact ⟨_, rfl, r⟩
  | _, _, i + 1, x, .cons _ t, e => by
    obtain ⟨u, h1, h2⟩ := Vals.get (i := i) (x := x) t (by simpa using e)
    exact ⟨u, by simpa using h1, h2⟩
theorem Vals.set {x : V} {u : Value} (r : RelV x u) : ∀ {xs : List V} {us : List Value} (i : Nat), Vals xs us → Vals (xs.set i x) (us.set i u)
  | _, _, _, .nil => .nil
  | _, _, 0, .cons _ t => .cons r t
  | _, _, i + 1, .cons q t => .cons q (Vals.set r i t)
theorem Vals.append : ∀ {xs ys : List V} {us ws : List Value}, Vals xs us → Vals ys ws → Vals (xs ++ ys) (us ++ ws)
  | _, _, _, _, .nil, s => s
  | _, _, _, _, .cons r t, s => .cons r (Vals.append t s)
theorem Vals.take : ∀ {xs : List V} {us : List Value} (n : Nat), Vals xs us → Vals (xs.take n) (us.take n)
  | _, _, 0, _ => .nil
  | _, _, _ + 1, .nil => .nil
  | _, _, n + 1, .cons r t => .cons r (Vals.take n t)
theorem Vals.drop : ∀ {xs : List V} {us : List Value} (n : Nat), Vals xs us → Vals (xs.drop n) (us.drop n)
  | _, _, 0, r => r
  | _, _, _ + 1, .nil => .nil
  | _, _, n + 1, .cons _ t => Vals.drop n t
def RelO : Option V → Option Value → Prop
  | some v, some u => RelV v u
  | none, none => True
  | _, _ => False
def KV {κ : Type} : List (κ × V) → List (κ × Value) → Prop := Paired fun (p : κ × V) (q : κ × Value) => p.1 = q.1 ∧ RelV p.2 q.2

/-- a key of a dict (00_mix): an int or a text -/
def kV : Key → V
  | .inl i => .int i
  | .inr x => .str x

/-- what stands at a tracked address -/
inductive HO where
  /-- a list -/
  | lst (xs : List V)
  /-- a tuple (never changes) -/
  | tup (xs : List V)
  /-- a dict whose keys are ints and texts; one whose keys are tuples of ints and texts (the empty one is both) -/
  | dK (kvs : List (Key × V)) | dT (kvs : List (List Key × V))
  /-- a set of ints: its members, its size -/
  | set (S : Int → Bool) (n : Nat)
  /-- an instance of the class at C, its dict at dx, its attributes -/
  | ins (C dx : Addr) (fs : List (Str × V))
  /-- the dict of the instance at x -/
  | own (x : Addr)
  /-- the dict of an exception -/
  | xd (fs : List (Str × V))
  /-- a bound method, f of x -/
  | met (f x : Addr)
  /-- a range object lo, lo + 1, .. below hi -/
  | rng (lo hi : Int)
  /-- a thing that is known to the object (the script; a dict while a loop walks it): read, never written while it is so -/
  | frz (o : Obj) (u : HO)
  /-- a code object's table -/
  | tbl (ps : Array Value)
  /-- any other thing, by what is true of its one object (a def of one's own: SetO a S n := HO.ext fun h => ..) -/
  | ext (φ : Heap → Prop)

abbrev Hp := Addr → Option HO
def upd (H : Hp) (a : Addr) (o : HO) : Hp := fun b => if b = a then some o else H b
theorem upd_same {H : Hp} {a : Addr} {o : HO} : upd H a o a = some o := by unfold upd; rw [if_pos rfl]
theorem upd_ne {H : Hp} {a b : Addr} {o : HO} (h : b ≠ a) : upd H a o b = H b := by unfold upd; rw [if_neg h]
/-- two objects of different content stand apart -/
theorem ne_of {H : Hp} {a b : Addr} {o u : HO} (h : H a = some o) (h' : H b = some u) (d : o ≠ u) : a ≠ b := by
  intro e; subst e; rw [h] at h'; exact d (Option.some.inj h')
theorem ne_of_none {H : Hp} {a b : Addr} {o : HO} (h : H a = some o) (h' : H b = none) : a ≠ b := by
  intro e; subst e; rw [h] at h'; cases h'

section
variable (P : Program) (w : World)
def ObjOk (H : Hp) (h : Heap) (a : Addr) : HO → Prop
  | .lst xs => xs.length ≤ sizeLine ∧ ∃ (its : List Value) (n : Nat), Vals xs its ∧ h.get? a = some { cls := .type "list", data := .seq its.toArray n }
  | .tup xs => xs.length ≤ sizeLine ∧ ∃ its : List Value, Vals xs its ∧ IsTup h a its.toArray
  | .dK kvs => kvs.length ≤ sizeLine ∧ (a == sysModules) = false ∧ ∃ vs, KV kvs vs ∧ h.DictOf (mixKind P w) a vs
  | .dT kvs => kvs.length ≤ sizeLine ∧ (a == sysModules) = false ∧ ∃ xs : List (List Key × Addr × Value),
      Paired (fun (p : List Key × V) (q : List Key × Addr × Value) => p.1 = q.1 ∧ H q.2.1 = some (.tup (p.1.map kV)) ∧ RelV p.2 q.2.2) kvs xs ∧
      ∃ o es ep, h.get? a = some o ∧ o.ExactDict ∧ o.data = .dict es ep ∧ es.toList = xs.map (entryOfKey (tupleKind (mixKind P w))) ∧ (xs.map (·.1)).Nodup
  | .set S n => h.SetOf (intKind P w) a S n
  | .ins C dx fs => H dx = some (.own a) ∧ fs.length ≤ 1000 ∧ dx ≠ a ∧ h.get? a = some (PySem.W.instObj C dx) ∧
      ∃ mA, h.Ns1 dx mA ∧ (∀ f, RelO (fs.lookup f) (mA f)) ∧ PySem.Within mA (fs.map (·.1))
  | .own _ => ∃ o, h.get? a = some o
  | .xd fs => ∃ mA, h.Ns1 a mA ∧ ∀ f, RelO (fs.lookup f) (mA f)
  | .rng lo hi => ∃ t u v, h.get? a = some { cls := .type "range", data := .fields #[.int lo t, .int hi u, .int 1 v] }
  | .frz o u => h.get? a = some o ∧ ObjOk H h a u
  | .tbl ps => h.get? a = some { cls := .none, data := .fields ps }
  | .met f x => h.get? a = some (PySem.W.methodObj (.ref f) (.ref x))
  | .ext φ => φ h ∧ (∃ o, h.get? a = some o) ∧ ∀ h1 h2 : Heap, φ h1 → (∀ o, h1.get? a = some o → h2.get? a = some o) → φ h2
/-- the abstract heap is held -/
def HOk (H : Hp) (h : Heap) : Prop := ∀ a o, H a = some o → ObjOk P w H h a o
end

section
variable {P : Program} {w : World} {H H' : Hp} {h h' : Heap} {a : Addr} {o : HO}
theorem ObjOk.lt (x : ObjOk P w H h a o) : a < h.objs.size := by
  cases o with
  | lst xs => obtain ⟨_, _, _, _, e⟩ := x; exact Heap.lt_size e
  | tup xs => obtain ⟨_, _, _, p⟩ := x; exact p.lt
  | dK kvs => obtain ⟨_, _, _, _, o, _, _, e, _⟩ := x; exact Heap.lt_size e
  | dT kvs => obtain ⟨_, _, _, _, o, _, _, e, _⟩ := x; exact Heap.lt_size e
  | set S n => obtain ⟨o, _, _, _, e, _⟩ := x; exact Heap.lt_size e
  | ins C dx fs => obtain ⟨_, _, _, e, _⟩ := x; exact Heap.lt_size e
  | own y => obtain ⟨_, e⟩ := x; exact Heap.lt_size e
  | xd fs => obtain ⟨_, ⟨_, _, _, e, _⟩, _⟩ := x; exact Heap.lt_size e
  | rng lo hi => obtain ⟨_, _, _, e⟩ := x; exact Heap.lt_size e
  | frz ob u => obtain ⟨e, _⟩ := x; exact Heap.lt_size e
  | tbl ps => exact Heap.lt_size (show h.get? a = some _ from x)
  | met f y => exact Heap.lt_size (show h.get? a = some _ from x)
  | ext φ => obtain ⟨_, ⟨_, e⟩, _⟩ := x; exact Heap.lt_size e
theorem Paired.mapP {α β : Type} {F G : α → β → Prop} : ∀ {l₁ : List α} {l₂ : List β}, Paired F l₁ l₂ → (∀ a b, F a b → G a b) → Paired G l₁ l₂
  | _, _, .nil, _ => .nil
  | _, _, .cons r t, f => .cons (f _ _ r) (Paired.mapP t f)
/-- what an object's description leans on: its own object, its own dict, the tuples -/
theorem ObjOk.stay (x : ObjOk P w H h a o) (k : ∀ b u, (b = a ∨ H b = some (.own a)) → h.get? b = some u → h'.get? b = some u)
    (ho : ∀ b, H b = some (.own a) → H' b = some (.own a)) (ht : ∀ b xs, H b = some (.tup xs) → H' b = some (.tup xs)) : ObjOk P w H' h' a o := by
  induction o with
  | lst xs => obtain ⟨z, its, n, r, e⟩ := x; exact ⟨z, its, n, r, k _ _ (.inl rfl) e⟩
  | tup xs => obtain ⟨z, its, r, ob, e, c⟩ := x; exact ⟨z, its, r, ob, k _ _ (.inl rfl) e, c⟩
  | dK kvs => obtain ⟨z, y, vs, r, ob, es, ep, e, c⟩ := x; exact ⟨z, y, vs, r, ob, es, ep, k _ _ (.inl rfl) e, c⟩
  | dT kvs =>
    obtain ⟨z, y, xs, r, ob, es, ep, e, c⟩ := x
    exact ⟨z, y, xs, Paired.mapP r fun p q z => ⟨z.1, ht _ _ z.2.1, z.2.2⟩, ob, es, ep, k _ _ (.inl rfl) e, c⟩
  | set S n => obtain ⟨ob, es, ep, t, e, c⟩ := x; exact ⟨ob, es, ep, t, k _ _ (.inl rfl) e, c⟩
  | ins C dx fs =>
    obtain ⟨d, z, ne, e, mA, ⟨od, es, ep, e2, c⟩, r⟩ := x
    exact ⟨ho _ d, z, ne, k _ _ (.inl rfl) e, mA, ⟨od, es, ep, k _ _ (.inr d) e2, c⟩, r⟩
  | own y => obtain ⟨ob, e⟩ := x; exact ⟨ob, k _ _ (.inl rfl) e⟩
  | xd fs => obtain ⟨mA, ⟨od, es, ep, e, c⟩, r⟩ := x; exact ⟨mA, ⟨od, es, ep, k _ _ (.inl rfl) e, c⟩, r⟩
  | rng lo hi => obtain ⟨t, u, v, e⟩ := x; exact ⟨t, u, v, k _ _ (.inl rfl) e⟩
  | frz ob u ih => obtain ⟨e, q⟩ := x; exact ⟨k _ _ (.inl rfl) e, ih q⟩
  | tbl ps =>
    have e : h.get? a = some { cls := .none, data := .fields ps } := x
    show h'.get? a = some { cls := .none, data := .fields ps }
    exact k a _ (.inl rfl) e
  | met f y =>
    have e : h.get? a = some (PySem.W.methodObj (.ref f) (.ref y)) := x
    show h'.get? a = some (PySem.W.methodObj (.ref f) (.ref y))
    exact k a _ (.inl rfl) e
  | ext φ => obtain ⟨p, ⟨o, e⟩, st⟩ := x; exact ⟨st _ _ p fun o q => k _ _ (.inl rfl) q, ⟨o, k _ _ (.inl rfl) e⟩, st⟩
theorem HOk.lt (x : HOk P w H h) (e : H a = some o) : a < h.objs.size := (x a o e).lt
theorem HOk.fresh (x : HOk P w H h) (e : h.objs.size ≤ a) : H a = none := by
  cases q : H a with
  | none => rfl
  | some u => exact absurd (Nat.lt_of_lt_of_le (x.lt q) e) (Nat.lt_irrefl _)
/-- every object of the heap is kept -/
theorem HOk.kept (x : HOk P w H h) (k : ∀ b u, h.get? b = some u → h'.get? b = some u) : HOk P w H h' := fun a o e =>
  (x a o e).stay (fun b u _ q => k b u q) (fun _ q => q) fun _ _ q => q
/-- a new object is laid and tracked -/
theorem HOk.laid (x : HOk P w H h) (k : ∀ b u, h.get? b = some u → h'.get? b = some u) (hp : h.objs.size ≤ a) (new : ObjOk P w (upd H a o) h' a o) : HOk P w (upd H a o) h' := fun b u e => by
  have hn := x.fresh hp
  by_cases hb : b = a
  · subst hb; rw [upd_same] at e; cases e; exact new
  · rw [upd_ne hb] at e
    exact (x b u e).stay (fun c v _ q => k c v q) (fun c q => by rw [upd_ne (ne_of_none q hn)]; exact q) fun c xs q => by rw [upd_ne (ne_of_none q hn)]; exact q
end

/-- what may be read as u: it is u, or a known u -/
def Rd (H : Hp) (a : Addr) (u : HO) : Prop := H a = some u ∨ ∃ o, H a = some (.frz o u)
theorem Rd.ok {P : Program} {w : World} {H : Hp} {h : Heap} {a : Addr} {u : HO} (r : Rd H a u) (x : HOk P w H h) : ObjOk P w H h a u := by
  rcases r with r | ⟨o, r⟩
  · exact x a u r
  · obtain ⟨_, q⟩ := x a _ r
    exact q
/-- what may be written -/
def Mut : Option HO → Prop
  | some (.lst _) => True
  | some (.dK _) => True
  | some (.dT _) => True
  | some (.set _ _) => True
  | some (.ins _ _ _) => True
  | some (.ext _) => True
  | _ => False
section
variable {P : Program} {w : World} {H : Hp} {h h' : Heap} {x e : Addr} {o' : HO}
/-- the object at e is changed: x itself, or the dict of the instance x -/
theorem HOk.write (ok : HOk P w H h) (mu : Mut (H x)) (he : e = x ∨ H e = some (.own x)) (k : ∀ b u, b ≠ e → h.get? b = some u → h'.get? b = some u) (heo : ∃ u, h'.get? e = some u)
    (new : ObjOk P w (upd H x o') h' x o') : HOk P w (upd H x o') h' := fun b u q => by
  have nown : ∀ c y, H c = some (.own y) → c ≠ x := fun c y r z => by subst z; rw [r] at mu; exact mu
  have ntup : ∀ c xs, H c = some (.tup xs) → c ≠ x := fun c xs r z => by subst z; rw [r] at mu; exact mu
  by_cases hb : b = x
  · subst hb; rw [upd_same] at q; cases q; exact new
  · rw [upd_ne hb] at q
    by_cases hbe : b = e
    · have q' : H b = some (.own x) := by
        rcases he with z | z
        · exact absurd (hbe.trans z) hb
        · rw [hbe]; exact z
      rw [q] at q'; cases q'
      obtain ⟨v, hv⟩ := heo
      exact ⟨v, by rw [hbe]; exact hv⟩
    · refine (ok b u q).stay (fun c v hc r => k c v ?_ r) (fun c r => by rw [upd_ne (nown c b r)]; exact r) fun c xs r => by rw [upd_ne (ntup c xs r)]; exact r
      rcases hc with rfl | hc
      · exact hbe
      · rintro rfl
        rcases he with z | z
        · exact nown c b hc z
        · rw [hc] at z; cases z; exact hb rfl
end

/-! ### kept unless tracked; of the frames at fs (the callers') the slots may change (an exception that passes writes there); of the records at ex (iterators) nothing is said -/
structure Un (fs ex : List Addr) (H H' : Hp) (h h' : Heap) : Prop where
  keep : ∀ b o, h.get? b = some o → H b = none → b ∉ fs → b ∉ ex → h'.get? b = some o
  slot : ∀ b o, h.get? b = some o → H b = none → b ∈ fs → b ∉ ex → ∃ sl, h'.get? b = some { o with slots := sl }
  free : ∀ b o, h.get? b = some o → H b = none → b ∉ ex → H' b = none
  there : ∀ b o, h.get? b = some o → b ∉ ex → ∃ o', h'.get? b = some o'
  tups : ∀ b xs, H b = some (.tup xs) → H' b = some (.tup xs)
  frzs : ∀ b o u, H b = some (.frz o u) → H' b = some (.frz o u)
  tbls : ∀ b ps, H b = some (.tbl ps) → ∃ more, H' b = some (.tbl (ps ++ more))
section
variable {fs fs' ex ex' : List Addr} {H H1 H2 : Hp} {h h1 h2 h' : Heap} {a x e : Addr} {o : HO}
theorem Un.any (u : Un fs ex H H1 h h1) {b : Addr} {ob : Obj} (q : h.get? b = some ob) (n : H b = none) (hx : b ∉ ex) : ∃ sl, h1.get? b = some { ob with slots := sl } := by
  by_cases hb : b ∈ fs
  · exact u.slot b ob q n hb hx
  · exact ⟨ob.slots, u.keep b ob q n hb hx⟩
theorem Un.kept (k : ∀ b u, h.get? b = some u → h'.get? b = some u) : Un fs ex H H h h' :=
  ⟨fun b ob q _ _ _ => k b ob q, fun b ob q _ _ _ => ⟨ob.slots, k b ob q⟩, fun _ _ _ n _ => n, fun b ob q _ => ⟨ob, k b ob q⟩, fun _ _ q => q, fun _ _ _ q => q, fun _ ps q => ⟨#[], by rw [q]; simp⟩⟩
theorem Un.refl : Un fs ex H H h h := Un.kept fun _ _ q => q
theorem Un.laid (k : ∀ b u, h.get? b = some u → h'.get? b = some u) (hp : h.objs.size ≤ a) (hn : H a = none) : Un fs ex H (upd H a o) h h' where
  keep := fun b u q _ _ _ => k b u q
  slot := fun b u q _ _ _ => ⟨u.slots, k b u q⟩
  free := fun b u q n _ => by rw [upd_ne (Nat.ne_of_lt (Nat.lt_of_lt_of_le (Heap.lt_size q) hp))]; exact n
  there := fun b u q _ => ⟨u, k b u q⟩
  tups := fun b xs q => by rw [upd_ne (ne_of_none q hn)]; exact q
  frzs := fun b u xs q => by rw [upd_ne (ne_of_none q hn)]; exact q
  tbls := fun b ps q => ⟨#[], by rw [upd_ne (ne_of_none q hn), q]; simp⟩
theorem Un.write (mu : Mut (H x)) (he : e = x ∨ H e = some (.own x)) (k : ∀ b u, b ≠ e → h.get? b = some u → h'.get? b = some u) (heo : ∃ u, h'.get? e = some u) : Un fs ex H (upd H x o) h h' := by
  have hx : ∀ b, H b = none → b ≠ x := fun b n z => by subst z; rw [n] at mu; exact mu
  have hb : ∀ b, H b = none → b ≠ e := fun b n z => by
    subst z
    rcases he with r | r
    · exact hx b n r
    · rw [n] at r; cases r
  have hm : ∀ b u, H b = some u → ¬ Mut (some u) → b ≠ x := fun b u q nm z => by subst z; rw [q] at mu; exact nm mu
  refine ⟨fun b u q n _ _ => k b u (hb b n) q, fun b u q n _ _ => ⟨u.slots, k b u (hb b n) q⟩, fun b u q n _ => by rw [upd_ne (hx b n)]; exact n, fun b u q _ => ?_,
    fun b xs q => by rw [upd_ne (hm b _ q fun z => z)]; exact q, fun b u xs q => by rw [upd_ne (hm b _ q fun z => z)]; exact q, fun b ps q => ⟨#[], by rw [upd_ne (hm b _ q fun z => z), q]; simp⟩⟩
  by_cases hbe : b = e
  · subst hbe; exact heo
  · exact ⟨u, k b u hbe q⟩
end

/-! ### the heap without what is tracked -/
def trk (h : Heap) (H : Hp) : List Addr := (List.range h.objs.size).filter fun a => (H a).isSome
def hidT (h : Heap) (H : Hp) : Heap := PySem.W.hideAll h (trk h H)
theorem hidT_size (h : Heap) (H : Hp) : (hidT h H).objs.size = h.objs.size := PySem.W.hideAll_size _ _
theorem hidT_get {h : Heap} {H : Hp} {b : Addr} {o : Obj} (e : h.get? b = some o) (n : H b = none) : (hidT h H).get? b = some o :=
  PySem.W.hideAll_get _ e fun hm => by
    have q : (H b).isSome = true := (List.mem_filter.mp hm).2
    rw [n] at q; simp at q
theorem of_hidT {h : Heap} {H : Hp} {b : Addr} {o : Obj} (e : (hidT h H).get? b = some o) : h.get? b = some o ∧ H b = none := by
  have e' : h.get? b = some o := PySem.W.of_hideAll (trk h H) e
  refine ⟨e', ?_⟩
  cases q : H b with
  | none => rfl
  | some x =>
    have hm : b ∈ trk h H := List.mem_filter.mpr ⟨List.mem_range.mpr (Heap.lt_size e'), by simp [q]⟩
    have z : (hidT h H).get? b = none := PySem.W.hideAll_none (trk h H) hm
    rw [z] at e; cases e

/-! ### OpenK's ledger, filled with every new object but one -/
end L2

namespace L2
open PySem PySem.Spec PyProof.Rows

/-- the module's facts, over the base: the heap at the law's entry without what is tracked there -/
structure Mod (K : PySem.W.Frag) (mg : Str → Option Value) (base : Heap) : Prop where
  kin : K.In base
  glob : base.Ns mainGlobals mg
  blt : ∃ mb, base.Ns builtinsNs mb ∧ ∀ x : Str, x ≠ "__name__" → mb x = bootBuiltins x
  nolimit : base.NoLimit

/-- the context: a def's body (or a comprehension's block) running. base: fixed through the whole law; s₀, H₀: the entry; outer: the frames whose slots others may change (a def's callers); stack: all frames that run;
   ex: iterators that were made ahead of the entry and are walked here (a comprehension's); fn: the names whose cells were made at the entry (a def: all; a comprehension's block: its own); calm: not within an except suite; pn: pins that every state bears; xe: what is wanted of an exception that leaves the code -/
structure Cx where
  prog : Program
  w : World
  K : PySem.W.Frag
  mg : Str → Option Value
  base : Heap
  A : Around
  N : List Str
  s₀ : Shared
  H₀ : Hp
  env : Env
  outer : List Env
  stack : List Env
  ex : List Addr
  fn : Str → Bool
  calm : Bool
  pn : List (Addr × Obj)
  xe : Value → Shared → Prop
/-- the callers' frames -/
def frs (l : List Env) : List Addr := l.filterMap (·.frame)
abbrev Cx.fs (X : Cx) : List Addr := frs X.outer

def Vis (sc : Scope) (x : Str) : Prop := sc.names.lookup x = some .local ∨ sc.names.lookup x = some .cell ∨ sc.names.lookup x = some .free
def Loc (sc : Scope) (x : Str) : Prop := sc.names.lookup x = some .local ∨ sc.names.lookup x = some .cell
def Look (env : Env) (h : Heap) (m : Str → Option Value) (x : Str) (u : Value) : Prop :=
  (env.kindOf x = some .local ∧ m x = some u) ∨ ((env.kindOf x = some .cell ∨ env.kindOf x = some .free) ∧ ∃ c, env.cells.lookup x = some c ∧ h.IsCell c (some u))

structure Cx.Ok (X : Cx) : Prop where
  mod : Mod X.K X.mg X.base
  kind : X.env.scope.kind = .function
  glob : X.env.globals = mainGlobals
  blt : X.env.builtins = builtinsNs
  above : X.s₀.heap.objs.size ≤ X.env.locals
  inj : ∀ x y c, X.env.cells.lookup x = some c → X.env.cells.lookup y = some c → x = y
  has : ∀ x, (X.env.kindOf x = some .cell ∨ X.env.kindOf x = some .free) → ∃ c, X.env.cells.lookup x = some c
  cab : ∀ x c, X.fn x = true → X.env.cells.lookup x = some c → X.s₀.heap.objs.size ≤ c
  hd : X.calm = true → X.A.handled = none
  frames : X.A.frames = some X.stack
  stk : X.stack = X.outer ∨ (X.stack = X.env :: X.outer ∧ X.env.frame = some X.env.locals)
  exf : ∀ b ∈ X.ex, b ≠ X.env.locals ∧ ∀ x c, X.env.cells.lookup x = some c → c ≠ b
  bs : ∀ b o, X.base.get? b = some o → X.s₀.heap.get? b = some o ∧ X.H₀ b = none
  bsz : X.base.objs.size ≤ X.s₀.heap.objs.size
  noex : ∀ b o, X.base.get? b = some o → b ∉ X.ex
  exfs : ∀ b ∈ X.ex, b ∉ X.fs
  funs : X.s₀.heap.FunFrames X.base X.outer
  frf : ∀ b ∈ X.fs, X.H₀ b = none

structure Inv (X : Cx) (pins : List (Addr × Obj)) (σ : List (Option V)) (H : Hp) (s : Shared) : Prop where
  ok : X.Ok
  os : s.os = X.s₀.os
  bare : AllBare s.gens
  base : Un X.fs X.ex X.H₀ H X.s₀.heap s.heap
  loc : ∃ m, s.heap.Ns X.env.locals m ∧ ∀ (i : Nat) (x : Str) (v : V), X.N[i]? = some x → σ[i]? = some (some v) → Vis X.env.scope x → ∃ u, RelV v u ∧ Look X.env s.heap m x u
  cell : ∀ x c, X.env.cells.lookup x = some c → ∃ v, s.heap.IsCell c v
  free : H X.env.locals = none
  freeC : ∀ x c, X.env.cells.lookup x = some c → H c = none
  pin : ∀ p ∈ X.pn ++ pins, s.heap.get? p.1 = some p.2 ∧ H p.1 = none ∧ p.1 ≠ X.env.locals ∧ p.1 ∉ X.fs ∧ ∀ v, p.2.data ≠ .cell v
  hok : HOk X.prog X.w H s.heap
  len : σ.length = X.N.length

section
variable {X : Cx} {pins : List (Addr × Obj)} {σ : List (Option V)} {H H' : Hp} {s : Shared} {h' : Heap}

theorem Cx.Ok.nofr (ok : X.Ok) {b : Addr} {o : Obj} (e : X.base.get? b = some o) : b ∉ X.fs := fun hb => by
  have := (ok.funs.mem hb).1
  rw [e] at this; cases this
theorem Inv.bs (I : Inv X pins σ H s) : ∀ b o, X.base.get? b = some o → s.heap.get? b = some o ∧ H b = none := fun b o e =>
  ⟨I.base.keep b o (I.ok.bs b o e).1 (I.ok.bs b o e).2 (I.ok.nofr e) (I.ok.noex b o e), I.base.free b o (I.ok.bs b o e).1 (I.ok.bs b o e).2 (I.ok.noex b o e)⟩
theorem Inv.bk (I : Inv X pins σ H s) : ∀ b o, X.base.get? b = some o → s.heap.get? b = some o := fun b o e => (I.bs b o e).1
theorem Inv.mod (I : Inv X pins σ H s) : Mod X.K X.mg X.base := I.ok.mod
theorem Inv.kIn (I : Inv X pins σ H s) : X.K.In s.heap := I.ok.mod.kin.keeps I.bk
theorem Inv.lt (I : Inv X pins σ H s) : X.env.locals < s.heap.objs.size := let ⟨_, hn, _⟩ := I.loc; hn.lt
theorem Inv.sz (I : Inv X pins σ H s) : X.s₀.heap.objs.size ≤ s.heap.objs.size := Nat.le_trans I.ok.above (Nat.le_of_lt I.lt)
theorem Inv.nofs (I : Inv X pins σ H s) {a : Addr} (h : s.heap.objs.size ≤ a) : a ∉ X.fs := fun hb => by
  obtain ⟨_, o, ho, _⟩ := I.ok.funs.mem hb
  exact absurd (Nat.lt_of_lt_of_le (Heap.lt_size ho) (Nat.le_trans I.sz h)) (Nat.lt_irrefl _)
theorem Inv.cne (I : Inv X pins σ H s) : ∀ x c, X.env.cells.lookup x = some c → c ≠ X.env.locals := fun x c e z => by
  obtain ⟨v, o, ho, hd⟩ := I.cell x c e
  obtain ⟨m, ⟨o', es, ep, ho', hd', _⟩, _⟩ := I.loc
  rw [z, ho'] at ho; cases ho; rw [hd'] at hd; cases hd
theorem Inv.funs (I : Inv X pins σ H s) : s.heap.FunFrames X.base X.outer := by
  have all : ∀ (l : List Env), (∀ b ∈ frs l, b ∈ X.fs) → X.s₀.heap.FunFrames X.base l → s.heap.FunFrames X.base l := by
    intro l
    induction l with
    | nil => intro _ _; trivial
    | cons env r ih =>
      intro hs hl
      obtain ⟨hk, ⟨L, o, hf, hn, ho, hd⟩, hr⟩ := hl
      have hL : L ∈ X.fs := hs L (by unfold frs; rw [List.filterMap_cons, hf]; exact List.mem_cons_self)
      obtain ⟨sl, e⟩ := I.base.slot L o ho (I.ok.frf L hL) hL fun z => I.ok.exfs L z hL
      exact ⟨hk, ⟨L, _, hf, hn, e, hd⟩, ih (fun b hb => hs b (by unfold frs; rw [List.filterMap_cons, hf]; exact List.mem_cons_of_mem _ hb)) hr⟩
  exact all X.outer (fun _ hb => hb) I.ok.funs

/-- the frames that run, for a call -/
theorem Inv.stack (I : Inv X pins σ H s) : s.heap.FunFrames X.base X.stack := by
  rcases I.ok.stk with e | ⟨e, hf⟩
  · rw [e]; exact I.funs
  · rw [e]
    obtain ⟨m, hn, _⟩ := I.loc
    refine .cons (by rw [I.ok.kind]; decide) hf hn ?_ I.funs
    exact Heap.get?_none_of_le (Nat.le_trans I.ok.bsz I.ok.above)
theorem Inv.stkSub (I : Inv X pins σ H s) : ∀ b ∈ frs X.stack, b ∈ X.env.locals :: X.fs := fun b hb => by
  rcases I.ok.stk with e | ⟨e, hf⟩
  · rw [e] at hb; exact List.mem_cons_of_mem _ hb
  · rw [e] at hb
    unfold frs at hb
    rw [List.filterMap_cons, hf] at hb
    exact hb
theorem Inv.stkFree (I : Inv X pins σ H s) : ∀ b ∈ frs X.stack, H b = none := fun b hb => by
  rcases List.mem_cons.mp (I.stkSub b hb) with e | hb
  · rw [e]; exact I.free
  · obtain ⟨_, o, ho, _⟩ := I.ok.funs.mem hb
    exact I.base.free b o ho (I.ok.frf b hb) fun z => I.ok.exfs b z hb

/-- THE STEP: the untracked objects but the frame and the records at ch are kept (the callers' frames up to slots), the frame's map is kept, the new abstract heap is held -/
theorem Inv.step {g' : Array GenState} {t' : Nat} {d' : Drawn} {ch : List Addr} (I : Inv X pins σ H s)
    (hch : ∀ b ∈ ch, (b ∈ X.ex ∨ X.s₀.heap.objs.size ≤ b) ∧ b ≠ X.env.locals ∧ (∀ x c, X.env.cells.lookup x = some c → c ≠ b) ∧ ∀ p ∈ X.pn ++ pins, p.1 ≠ b)
    (keep : ∀ b o, b ≠ X.env.locals → b ∉ X.fs → b ∉ ch → s.heap.get? b = some o → H b = none → h'.get? b = some o)
    (slot : ∀ b o, b ≠ X.env.locals → b ∈ X.fs → b ∉ ch → s.heap.get? b = some o → H b = none → ∃ sl, h'.get? b = some { o with slots := sl }) (free : ∀ b o, b ∉ ch → s.heap.get? b = some o → H b = none → H' b = none)
    (there : ∀ b o, b ∉ ch → s.heap.get? b = some o → ∃ o', h'.get? b = some o')
    (tups : ∀ b xs, H b = some (.tup xs) → H' b = some (.tup xs)) (frzs : ∀ b o u, H b = some (.frz o u) → H' b = some (.frz o u)) (tbls : ∀ b ps, H b = some (.tbl ps) → ∃ more, H' b = some (.tbl (ps ++ more)))
    (ns : ∀ m, s.heap.Ns X.env.locals m → h'.Ns X.env.locals m) (hok : HOk X.prog X.w H' h') (hg : AllBare g') :
    Inv X pins σ H' { s with heap := h', gens := g', drawn := d', toks := t' } := by
  have neL : ∀ b o, X.s₀.heap.get? b = some o → b ≠ X.env.locals := fun b o e => Nat.ne_of_lt (Nat.lt_of_lt_of_le (Heap.lt_size e) I.ok.above)
  have neC : ∀ b o, X.s₀.heap.get? b = some o → b ∉ X.ex → b ∉ ch := fun b o e hx hb => by
    rcases (hch b hb).1 with z | z
    · exact hx z
    · exact absurd (Nat.lt_of_lt_of_le (Heap.lt_size e) z) (Nat.lt_irrefl _)
  have cellK : ∀ x c, X.env.cells.lookup x = some c → ∀ v, s.heap.IsCell c v → h'.IsCell c v := fun x c e v ⟨o, ho, hd⟩ => by
    have nch : c ∉ ch := fun z => (hch c z).2.2.1 x c e rfl
    by_cases hc : c ∈ X.fs
    · obtain ⟨sl, q⟩ := slot c o (I.cne x c e) hc nch ho (I.freeC x c e)
      exact ⟨_, q, hd⟩
    · exact ⟨o, keep c o (I.cne x c e) hc nch ho (I.freeC x c e), hd⟩
  refine ⟨I.ok, I.os, hg, ⟨fun b o e n hb hx => ?_, fun b o e n hb hx => ?_, fun b o e n hx => ?_, fun b o e hx => ?_, fun b xs e => tups b xs (I.base.tups b xs e), fun b o xs e => frzs b o xs (I.base.frzs b o xs e), fun b ps e => ?_⟩, ?_, fun x c e => ?_, ?_, fun x c e => ?_, fun p hp => ?_, hok, I.len⟩
  · exact keep b o (neL b o e) hb (neC b o e hx) (I.base.keep b o e n hb hx) (I.base.free b o e n hx)
  · obtain ⟨sl, e1⟩ := I.base.slot b o e n hb hx
    obtain ⟨sl', e2⟩ := slot b _ (neL b o e) hb (neC b o e hx) e1 (I.base.free b o e n hx)
    exact ⟨sl', e2⟩
  · obtain ⟨o', e1⟩ := I.base.there b o e hx
    exact free b o' (neC b o e hx) e1 (I.base.free b o e n hx)
  · obtain ⟨o', e1⟩ := I.base.there b o e hx
    exact there b o' (neC b o e hx) e1
  · obtain ⟨m1, e1⟩ := I.base.tbls b ps e
    obtain ⟨m2, e2⟩ := tbls b _ e1
    exact ⟨m1 ++ m2, by rw [e2, Array.append_assoc]⟩
  · obtain ⟨m, hn, hl⟩ := I.loc
    refine ⟨m, ns m hn, fun i x v e1 e2 e3 => ?_⟩
    obtain ⟨u, r, l⟩ := hl i x v e1 e2 e3
    refine ⟨u, r, ?_⟩
    rcases l with l | ⟨k, c, e, z⟩
    · exact .inl l
    · exact .inr ⟨k, c, e, cellK x c e _ z⟩
  · obtain ⟨v, z⟩ := I.cell x c e
    exact ⟨v, cellK x c e v z⟩
  · obtain ⟨m, ⟨o, _, _, ho, _⟩, _⟩ := I.loc
    exact free _ o (fun z => (hch _ z).2.1 rfl) ho I.free
  · obtain ⟨v, o, ho, hd⟩ := I.cell x c e
    exact free c o (fun z => (hch c z).2.2.1 x c e rfl) ho (I.freeC x c e)
  · obtain ⟨e, n, ne, nf, d⟩ := I.pin p hp
    have nch : p.1 ∉ ch := fun z => (hch p.1 z).2.2.2 p hp rfl
    exact ⟨keep p.1 p.2 ne nf nch e n, free p.1 p.2 nch e n, ne, nf, d⟩
/-- .. where the frame's own object is kept too -/
theorem Inv.un {t' : Nat} (I : Inv X pins σ H s) (u : Un X.fs [] H H' s.heap h') (hok : HOk X.prog X.w H' h') : Inv X pins σ H' { s with heap := h', toks := t' } := by
  obtain ⟨m, ⟨o, es, ep, ho, r⟩, _⟩ := id I.loc
  obtain ⟨sl, hL⟩ := u.any ho I.free (by simp)
  exact I.step (g' := s.gens) (d' := s.drawn) (ch := []) (fun _ z => nomatch z) (fun b o _ hb _ e n => u.keep b o e n hb (by simp)) (fun b o _ hb _ e n => u.slot b o e n hb (by simp)) (fun b o _ e n => u.free b o e n (by simp)) (fun b o _ e => u.there b o e (by simp)) u.tups u.frzs u.tbls (fun m' hm => by
    obtain ⟨o', es', ep', ho', r'⟩ := hm
    rw [ho] at ho'; cases ho'
    exact ⟨_, es', ep', hL, r'⟩) hok I.bare
/-- behind a call (or a comprehension's block): the slots of this frame may have changed too, the records at ch may have turned -/
theorem Inv.call {g' : Array GenState} {t' : Nat} {d' : Drawn} {ch : List Addr} (I : Inv X pins σ H s) (u : Un (frs X.stack) ch H H' s.heap h') (hok : HOk X.prog X.w H' h') (hg : AllBare g')
    (hch : ∀ b ∈ ch, (b ∈ X.ex ∨ X.s₀.heap.objs.size ≤ b) ∧ b ≠ X.env.locals ∧ (∀ x c, X.env.cells.lookup x = some c → c ≠ b) ∧ ∀ p ∈ X.pn ++ pins, p.1 ≠ b) :
    Inv X pins σ H' { s with heap := h', gens := g', drawn := d', toks := t' } := by
  obtain ⟨m, ⟨o, es, ep, ho, r⟩, _⟩ := id I.loc
  obtain ⟨sl, hL⟩ := u.any ho I.free fun z => (hch _ z).2.1 rfl
  exact I.step (ch := ch) hch (fun b o hL hb hc e n => u.keep b o e n (fun z => (List.mem_cons.mp (I.stkSub b z)).elim hL hb) hc) (fun b o _ _ hc e n => u.any e n hc) (fun b o hc e n => u.free b o e n hc) (fun b o hc e => u.there b o e hc) u.tups u.frzs u.tbls (fun m' hm => by
    obtain ⟨o', es', ep', ho', r'⟩ := hm
    rw [ho] at ho'; cases ho'
    exact ⟨_, es', ep', hL, r'⟩) hok hg
/-- an untracked record of ours (an iterator) has turned -/
theorem Inv.turned {t' : Nat} {it : Addr} (I : Inv X pins σ H s) (k : ∀ b o, b ≠ it → s.heap.get? b = some o → h'.get? b = some o) (hn : H it = none) (hL : it ≠ X.env.locals)
    (h1 : it ∈ X.ex ∨ X.s₀.heap.objs.size ≤ it) (h2 : ∀ x c, X.env.cells.lookup x = some c → c ≠ it) (h3 : ∀ p ∈ X.pn ++ pins, p.1 ≠ it) : Inv X pins σ H { s with heap := h', toks := t' } := by
  have nit : ∀ b u, H b = some u → b ≠ it := fun b u e z => by rw [z, hn] at e; cases e
  refine I.step (g' := s.gens) (d' := s.drawn) (ch := [it]) (fun b hb => ?_) (fun b o _ _ hc e _ => k b o (fun z => hc (by simp [z])) e) (fun b o _ _ hc e _ => ⟨o.slots, k b o (fun z => hc (by simp [z])) e⟩) (fun _ _ _ _ n => n)
    (fun b o hc e => ⟨o, k b o (fun z => hc (by simp [z])) e⟩) (fun _ _ e => e) (fun _ _ _ e => e) (fun b ps e => ⟨#[], by rw [e]; simp⟩) (fun m hm => ?_) (fun b u e => ?_) I.bare
  · have e : b = it := by simpa using hb
    subst e
    exact ⟨h1, hL, h2, h3⟩
  · obtain ⟨o, es, ep, ho, r⟩ := hm
    exact ⟨o, es, ep, k _ o (Ne.symm hL) ho, r⟩
  · refine (I.hok b u e).stay (fun c v hc q => k c v ?_ q) (fun _ q => q) fun _ _ q => q
    rcases hc with z | z
    · rw [z]; exact nit b u e
    · exact nit c _ z
theorem Inv.tok (I : Inv X pins σ H s) (t : Nat) : Inv X pins σ H { s with toks := t } := I.un (h' := s.heap) (t' := t) Un.refl I.hok
/-- all objects kept -/
theorem Inv.kept {t' : Nat} (I : Inv X pins σ H s) (k : ∀ b u, s.heap.get? b = some u → h'.get? b = some u) : Inv X pins σ H { s with heap := h', toks := t' } := I.un (Un.kept k) (I.hok.kept k)
/-- a new object laid and tracked -/
theorem Inv.laid {a : Addr} {o : HO} {t' : Nat} (I : Inv X pins σ H s) (k : ∀ b u, s.heap.get? b = some u → h'.get? b = some u) (hp : s.heap.objs.size ≤ a) (new : ObjOk X.prog X.w (upd H a o) h' a o) :
    Inv X pins σ (upd H a o) { s with heap := h', toks := t' } := I.un (Un.laid k hp (I.hok.fresh hp)) (I.hok.laid k hp new)
/-- an object written -/
theorem Inv.write {x e : Addr} {o : HO} {t' : Nat} (I : Inv X pins σ H s) (mu : Mut (H x)) (he : e = x ∨ H e = some (.own x)) (k : ∀ b u, b ≠ e → s.heap.get? b = some u → h'.get? b = some u) (heo : ∃ u, h'.get? e = some u)
    (new : ObjOk X.prog X.w (upd H x o) h' x o) : Inv X pins σ (upd H x o) { s with heap := h', toks := t' } := I.un (Un.write mu he k heo) (I.hok.write mu he k heo new)
/-- forgetting slots, pins -/
theorem Inv.weak {σ' : List (Option V)} (I : Inv X pins σ H s) (hl : σ'.length = σ.length) (w : ∀ (i : Nat) v, σ'[i]? = some (some v) → σ[i]? = some (some v)) : Inv X pins σ' H s :=
  ⟨I.ok, I.os, I.bare, I.base, let ⟨m, hn, hl'⟩ := I.loc; ⟨m, hn, fun i x v e1 e2 e3 => hl' i x v e1 (w i v e2) e3⟩, I.cell, I.free, I.freeC, I.pin, I.hok, hl.trans I.len⟩
theorem Inv.pins_of {pins' : List (Addr × Obj)} (I : Inv X pins σ H s) (h : ∀ p ∈ pins', s.heap.get? p.1 = some p.2 ∧ H p.1 = none ∧ p.1 ≠ X.env.locals ∧ p.1 ∉ X.fs ∧ ∀ v, p.2.data ≠ .cell v) : Inv X pins' σ H s :=
  ⟨I.ok, I.os, I.bare, I.base, I.loc, I.cell, I.free, I.freeC, fun p hp => (List.mem_append.mp hp).elim (fun z => I.pin p (List.mem_append_left _ z)) (h p), I.hok, I.len⟩

theorem nodup_ix {N : List Str} (hN : N.Nodup) {i j : Nat} {x : Str} (a : N[i]? = some x) (b : N[j]? = some x) : i = j := by
  obtain ⟨h1, e1⟩ := List.getElem?_eq_some_iff.mp a
  obtain ⟨h2, e2⟩ := List.getElem?_eq_some_iff.mp b
  exact (List.getElem_inj hN).mp (e1.trans e2.symm)

/-- a name is stored; what changed -/
theorem store_ok2 {M : Model} {A : Around} {E : Value → Shared → Prop} {i : Nat} {x : Str} {v : V} {u : Value} {Q : Unit → Shared → Prop} (I : Inv X pins σ H s) (hN : X.N.Nodup) (hi : X.N[i]? = some x) (hx : Loc X.env.scope x) (r : RelV v u)
    (h : ∀ s', Inv X pins (σ.set i (some v)) H s' → (∃ a, Heap.SameBut a s.heap s'.heap ∧ (a = X.env.locals ∨ X.env.cells.lookup x = some a)) → Q () s') (hf : X.fn x = true ∨ X.env.scope.names.lookup x = some .local := by first | exact .inl rfl | exact .inr rfl | assumption) : wpAny M A (storeName X.env x u) Q E s := by
  obtain ⟨m, hn, hl⟩ := id I.loc
  have hcls : (X.env.scope.kind == .class || (X.env.scope.kind == .module && X.env.locals != X.env.globals)) = false := by rw [I.ok.kind]; rfl
  have hiσ : i < σ.length := by rw [I.len]; exact (List.getElem?_eq_some_iff.mp hi).1
  have cne := I.cne
  have tracked : ∀ {a : Addr} {h' : Heap}, (∃ o, s.heap.get? a = some o ∧ H a = none) → Heap.SameBut a s.heap h' → HOk X.prog X.w H h' := fun {a h'} ha hs b ob e => by
    obtain ⟨_, _, hfree⟩ := ha
    refine (I.hok b ob e).stay (fun c w' hc q => (hs.2 c ?_).trans q) (fun _ q => q) fun _ _ q => q
    rintro rfl
    rcases hc with rfl | hc
    · rw [hfree] at e; cases e
    · rw [hfree] at hc; cases hc
  rcases hx with hk | hk
  · refine wpAny_storeName_local hk hn (fun h' hn' hs => ?_) hcls
    obtain ⟨oL, _, _, hoL, _⟩ := id hn
    refine h _ ⟨I.ok, I.os, I.bare, ⟨fun b o e n hb hx => ?_, fun b o e n hb hx => ?_, I.base.free, fun b o e hx => ?_, I.base.tups, I.base.frzs, I.base.tbls⟩, ⟨_, hn', fun j y v' e1 e2 e3 => ?_⟩, fun y c e => ?_, I.free, I.freeC, fun p hp => ?_, tracked ⟨oL, hoL, I.free⟩ hs, by simpa using I.len⟩ ⟨_, hs, .inl rfl⟩
    · exact (hs.2 b (Nat.ne_of_lt (Nat.lt_of_lt_of_le (Heap.lt_size e) I.ok.above))).trans (I.base.keep b o e n hb hx)
    · obtain ⟨sl, e1⟩ := I.base.slot b o e n hb hx
      exact ⟨sl, (hs.2 b (Nat.ne_of_lt (Nat.lt_of_lt_of_le (Heap.lt_size e) I.ok.above))).trans e1⟩
    · obtain ⟨o', e1⟩ := I.base.there b o e hx
      exact ⟨o', (hs.2 b (Nat.ne_of_lt (Nat.lt_of_lt_of_le (Heap.lt_size e) I.ok.above))).trans e1⟩
    · by_cases hj : j = i
      · subst hj
        rw [hi] at e1; cases e1
        rw [List.getElem?_set_self hiσ] at e2
        cases e2
        exact ⟨u, r, .inl ⟨hk, by simp⟩⟩
      · rw [List.getElem?_set_ne (Ne.symm hj)] at e2
        obtain ⟨u', r', q⟩ := hl j y v' e1 e2 e3
        refine ⟨u', r', ?_⟩
        rcases q with ⟨k, e⟩ | ⟨k, c, e, z⟩
        · refine .inl ⟨k, ?_⟩
          have : y ≠ x := fun e => hj (nodup_ix hN e1 (e ▸ hi))
          simp [this, e]
        · exact .inr ⟨k, c, e, z.sameBut hs (cne y c e)⟩
    · obtain ⟨w', z⟩ := I.cell y c e
      exact ⟨w', z.sameBut hs (cne y c e)⟩
    · obtain ⟨e, n, ne, nf, d⟩ := I.pin p hp
      exact ⟨(hs.2 p.1 ne).trans e, n, ne, nf, d⟩
  · have hfn : X.fn x = true := by
      rcases hf with z | z
      · exact z
      · rw [z] at hk; cases hk
    obtain ⟨c, hc⟩ := I.ok.has x (.inl hk)
    obtain ⟨w', z⟩ := I.cell x c hc
    refine wpAny_storeName_cell I.ok.kind hk hc z (fun h' hc' hs => ?_)
    obtain ⟨oc, hoc, hocd⟩ := id z
    refine h { s with heap := h' } ⟨I.ok, I.os, I.bare, ⟨fun b o e n hb hx => ?_, fun b o e n hb hx => ?_, I.base.free, fun b o e hx => ?_, I.base.tups, I.base.frzs, I.base.tbls⟩, ⟨m, hn.sameBut hs (Ne.symm (cne x c hc)), fun j y v' e1 e2 e3 => ?_⟩, fun y c' e => ?_, I.free, I.freeC, fun p hp => ?_, tracked ⟨oc, hoc, I.freeC x c hc⟩ hs, by simpa using I.len⟩ ⟨c, hs, .inr hc⟩
    · exact (hs.2 b (Nat.ne_of_lt (Nat.lt_of_lt_of_le (Heap.lt_size e) (I.ok.cab x c hfn hc)))).trans (I.base.keep b o e n hb hx)
    · obtain ⟨sl, e1⟩ := I.base.slot b o e n hb hx
      exact ⟨sl, (hs.2 b (Nat.ne_of_lt (Nat.lt_of_lt_of_le (Heap.lt_size e) (I.ok.cab x c hfn hc)))).trans e1⟩
    · obtain ⟨o', e1⟩ := I.base.there b o e hx
      exact ⟨o', (hs.2 b (Nat.ne_of_lt (Nat.lt_of_lt_of_le (Heap.lt_size e) (I.ok.cab x c hfn hc)))).trans e1⟩
    · by_cases hj : j = i
      · subst hj
        rw [hi] at e1; cases e1
        rw [List.getElem?_set_self hiσ] at e2
        cases e2
        exact ⟨u, r, .inr ⟨.inl hk, c, hc, hc'⟩⟩
      · rw [List.getElem?_set_ne (Ne.symm hj)] at e2
        obtain ⟨u', r', q⟩ := hl j y v' e1 e2 e3
        refine ⟨u', r', ?_⟩
        rcases q with q | ⟨k, c', e, z'⟩
        · exact .inl q
        · refine .inr ⟨k, c', e, z'.sameBut hs ?_⟩
          rintro rfl
          exact hj (nodup_ix hN e1 (I.ok.inj _ _ _ e hc ▸ hi))
    · by_cases hcc : c' = c
      · subst hcc; exact ⟨_, hc'⟩
      · obtain ⟨w2, z2⟩ := I.cell y c' e
        exact ⟨w2, z2.sameBut hs hcc⟩
    · obtain ⟨e, n, ne, nf, d⟩ := I.pin p hp
      refine ⟨(hs.2 p.1 ?_).trans e, n, ne, nf, d⟩
      intro q
      rw [q, hoc] at e
      have q' : oc = p.2 := Option.some.inj e
      exact d w' (by rw [← q']; exact hocd)
theorem store_ok {M : Model} {A : Around} {E : Value → Shared → Prop} {i : Nat} {x : Str} {v : V} {u : Value} {Q : Unit → Shared → Prop} (I : Inv X pins σ H s) (hN : X.N.Nodup) (hi : X.N[i]? = some x) (hx : Loc X.env.scope x) (r : RelV v u)
    (h : ∀ s', Inv X pins (σ.set i (some v)) H s' → Q () s') (hf : X.fn x = true ∨ X.env.scope.names.lookup x = some .local := by first | exact .inl rfl | exact .inr rfl | assumption) : wpAny M A (storeName X.env x u) Q E s :=
  store_ok2 I hN hi hx r (fun s' I' _ => h s' I') hf
/-- behind a call or a block, the state as it is -/
theorem Inv.call' {s' : Shared} {ch : List Addr} (I : Inv X pins σ H s) (ho : s'.os = s.os) (u : Un (frs X.stack) ch H H' s.heap s'.heap) (hok : HOk X.prog X.w H' s'.heap) (hg : AllBare s'.gens)
    (hch : ∀ b ∈ ch, (b ∈ X.ex ∨ X.s₀.heap.objs.size ≤ b) ∧ b ≠ X.env.locals ∧ (∀ x c, X.env.cells.lookup x = some c → c ≠ b) ∧ ∀ p ∈ X.pn ++ pins, p.1 ≠ b) : Inv X pins σ H' s' := by
  obtain ⟨h', g', d', t', o'⟩ := s'
  have e : o' = s.os := ho
  subst e
  exact I.call (g' := g') (t' := t') (d' := d') u hok hg hch
end

/-! ### the judgements -/
/-- an exception: its class, its own dict's address (where it has one), the abstract heap behind it -/
abbrev XK := Value → Option Addr → Hp → Prop
abbrev St := List (Option V)
abbrev VK := V → Hp → Prop
/-- an expression's reading; a test's; an argument list's -/
abbrev TE := St → Hp → VK → Prop
abbrev TT := St → Hp → (Bool → Hp → Prop) → Prop
abbrev TA := St → Hp → (List V → Hp → Prop) → Prop
/-- what is wanted behind a statement -/
structure Ends where
  nx : St → Hp → Prop
  rt : VK
  bk : St → Hp → Prop := fun _ _ => False
  ct : St → Hp → Prop := fun _ _ => False
abbrev TS := Ends → St → Hp → Prop

def EP (X : Cx) (pins : List (Addr × Obj)) (σ : St) (Q : VK) (u : Value) (s' : Shared) : Prop := ∃ v H', Inv X pins σ H' s' ∧ RelV v u ∧ Q v H'
def TP (X : Cx) (pins : List (Addr × Obj)) (σ : St) (Q : Bool → Hp → Prop) (b : Bool) (s' : Shared) : Prop := ∃ H', Inv X pins σ H' s' ∧ Q b H'
def AP (X : Cx) (pins : List (Addr × Obj)) (σ : St) (Q : List V → Hp → Prop) (us : List Value) (s' : Shared) : Prop := ∃ vs H', Inv X pins σ H' s' ∧ Vals vs us ∧ Q vs H'
def SP (X : Cx) (pins : List (Addr × Obj)) (D : Ends) (f : Flow) (s' : Shared) : Prop :=
  match f with
  | .next => ∃ σ' H', Inv X pins σ' H' s' ∧ D.nx σ' H'
  | .brk => ∃ σ' H', Inv X pins σ' H' s' ∧ D.bk σ' H'
  | .cont => ∃ σ' H', Inv X pins σ' H' s' ∧ D.ct σ' H'
  | .ret u => ∃ v σ' H', Inv X pins σ' H' s' ∧ RelV v u ∧ D.rt v H'

def PE (X : Cx) (e : Expr) (t : TE) : Prop :=
  ∀ (pins : List (Addr × Obj)) (s : Shared) (σ : St) (H : Hp) (Q : VK), Inv X pins σ H s → t σ H Q → wpAny (model X.prog X.w) X.A (eval e X.env) (EP X pins σ Q) X.xe s
def PT (X : Cx) (e : Expr) (t : TT) : Prop :=
  ∀ (pins : List (Addr × Obj)) (s : Shared) (σ : St) (H : Hp) (Q : Bool → Hp → Prop), Inv X pins σ H s → t σ H Q → wpAny (model X.prog X.w) X.A (isTrue e X.env (eval e X.env)) (TP X pins σ Q) X.xe s
/-- a test whatever its 'whole' is (and, or) -/
def PW (X : Cx) (e : Expr) (t : TT) : Prop :=
  ∀ (whole : Sem Value) (pins : List (Addr × Obj)) (s : Shared) (σ : St) (H : Hp) (Q : Bool → Hp → Prop), Inv X pins σ H s → t σ H Q → wpAny (model X.prog X.w) X.A (isTrue e X.env whole) (TP X pins σ Q) X.xe s
theorem PW.pt {X : Cx} {e : Expr} {t : TT} (h : PW X e t) : PT X e t := h _
/-- an argument list (no star), from the left -/
def PA (X : Cx) (es : List Expr) (t : TA) : Prop :=
  ∀ (pos : Pos) (pins : List (Addr × Obj)) (s : Shared) (σ : St) (H : Hp) (Q : List V → Hp → Prop), Inv X pins σ H s → t σ H Q → wpAny (model X.prog X.w) X.A (spliced (backTo pos (starEach es X.env))) (AP X pins σ Q) X.xe s
def PS (X : Cx) (st : Stmt) (t : TS) : Prop :=
  ∀ (pins : List (Addr × Obj)) (s : Shared) (σ : St) (H : Hp) (D : Ends), Inv X pins σ H s → t D σ H → wpAny (model X.prog X.w) X.A (exec st X.env) (SP X pins D) X.xe s
def PSs (X : Cx) (st : List Stmt) (t : TS) : Prop :=
  ∀ (pins : List (Addr × Obj)) (s : Shared) (σ : St) (H : Hp) (D : Ends), Inv X pins σ H s → t D σ H → wpAny (model X.prog X.w) X.A (execs st X.env) (SP X pins D) X.xe s
/-- weaken the end -/
theorem thn {α : Type} {t : Sem α} {Q Q' : α → Shared → Prop} {M : Model} {A : Around} {E : Value → Shared → Prop} {s : Shared} (h : wpAny M A t Q E s) (hQ : ∀ a s, Q a s → Q' a s) : wpAny M A t Q' E s := wpAny_mono h hQ fun _ _ x => x
end L2

namespace L2
open PySem PySem.Spec PyProof.Rows
section
variable {X : Cx}

/-! ### names and constants -/
def tVar (i : Nat) : TE := fun σ H Q => ∃ v, σ[i]? = some (some v) ∧ Q v H
def tC (v : V) : TE := fun _ H Q => Q v H
theorem pe_var {i : Nat} {x : Str} {pos : Pos} (hN : X.N[i]? = some x) (hv : Vis X.env.scope x) (hd : (x == ("__debug__" : Str)) = false := by decide) (hcd : (x == ("__classdict__" : Str)) = false := by decide) : PE X (.Name x pos) (tVar i) := by
  intro pins s σ H Q I h
  obtain ⟨v, e, h⟩ := h
  obtain ⟨m, hn, hl⟩ := I.loc
  obtain ⟨u, r, l⟩ := hl i x v hN e hv
  have fin : EP X pins σ Q u s := ⟨v, H, I, r, h⟩
  rcases l with ⟨hk, hm⟩ | ⟨hk, c, hc, hcell⟩
  · exact wpAny_Name (wpAny_loadName_local I.ok.kind hk hn hm fin) hd
  · rcases hk with hk | hk
    · exact wpAny_Name (wpAny_loadName_cell I.ok.kind hk hc hcell fin) hd
    · exact wpAny_Name (wpAny_loadName_free I.ok.kind hk hc hcell fin hcd) hd
theorem pe_int {i j pos} : PE X (.Constant (.int i) j pos) (tC (.int i)) := fun _ _ _ H _ I h => wpAny_Constant_int ⟨.int i, H, I.tok _, ⟨_, rfl⟩, h⟩
theorem pe_bl {b j pos} : PE X (.Constant (.bool b) j pos) (tC (.bl b)) := fun _ _ _ H _ I h => Constant_bool ⟨.bl b, H, I, rfl, h⟩
theorem pe_non {j pos} : PE X (.Constant .none j pos) (tC .non) := fun _ _ _ H _ I h => Constant_none ⟨.non, H, I, rfl, h⟩
theorem pe_str {x j pos} : PE X (.Constant (.str x) j pos) (tC (.str x)) := fun _ _ _ H _ I h => Calls.Constant_str ⟨.str x, H, I.tok _, ⟨_, rfl⟩, h⟩

/-- a global name of the def -/
def Gl (X : Cx) (x : Str) : Prop := X.env.kindOf x = some .globalImplicit
theorem ld_glob {E : Value → Shared → Prop} {pins : List (Addr × Obj)} {s : Shared} {σ : St} {H : Hp} {x : Str} {u : Value} {pos : Pos} {Q : Value → Shared → Prop} (I : Inv X pins σ H s) (hg : Gl X x) (hm : X.mg x = some u) (h : Q u s)
    (hd : (x == ("__debug__" : Str)) = false := by decide) : wpAny (model X.prog X.w) X.A (eval (.Name x pos) X.env) Q E s :=
  Calls.Name_function_global I.ok.kind hg (Calls.loadGlobal_global (by rw [I.ok.glob]; exact I.mod.glob.keeps I.bk) hm h) hd
theorem ld_blt {E : Value → Shared → Prop} {pins : List (Addr × Obj)} {s : Shared} {σ : St} {H : Hp} {x : Str} {u : Value} {pos : Pos} {Q : Value → Shared → Prop} (I : Inv X pins σ H s) (hg : Gl X x) (hm : X.mg x = none) (hv : bootBuiltins x = some u) (h : Q u s)
    (hn : x ≠ "__name__" := by decide) (hd : (x == ("__debug__" : Str)) = false := by decide) : wpAny (model X.prog X.w) X.A (eval (.Name x pos) X.env) Q E s := by
  obtain ⟨mb, h1, h2⟩ := I.mod.blt
  exact Calls.Name_function_global I.ok.kind hg (Calls.loadGlobal_builtin (by rw [I.ok.glob]; exact I.mod.glob.keeps I.bk) hm (by rw [I.ok.blt]; exact h1.keeps I.bk) ((h2 x hn).trans hv) h) hd
/-- a module's constant, a class, a function, as a value -/
theorem pe_glob {x : Str} {v : V} {u : Value} {pos : Pos} (hg : Gl X x) (hm : X.mg x = some u) (r : RelV v u) (hd : (x == ("__debug__" : Str)) = false := by decide) : PE X (.Name x pos) (tC v) :=
  fun _ _ _ H _ I h => ld_glob I hg hm ⟨v, H, I, r, h⟩ hd
theorem pe_bltn {x : Str} {v : V} {u : Value} {pos : Pos} (hg : Gl X x) (hm : X.mg x = none) (hv : bootBuiltins x = some u) (r : RelV v u) (hn : x ≠ "__name__" := by decide) (hd : (x == ("__debug__" : Str)) = false := by decide) : PE X (.Name x pos) (tC v) :=
  fun _ _ _ H _ I h => ld_blt I hg hm hv ⟨v, H, I, r, h⟩ hn hd

/-! ### arithmetic -/
variable {a b : Expr} {ta tb : TE} {pos : Pos}
/-! ### comparisons -/
/-- a comparison as a value, as a test -/
def tB (t : TE) : TT := fun σ H Q => t σ H fun x H1 => ∃ c, x = .bl c ∧ Q c H1
/-- an expression whose value is a bool, as a test -/
theorem pt_val {e : Expr} {t : TE} (h : PE X e t) (he : ∀ whole, isTrue e X.env whole = (do let v ← whole; standAt e.pos; holding [v] (truthy v)) := by intro _; rfl) : PT X e (tB t) := by
  intro pins s σ H Q I hw
  refine isTrue_plain (thn (h pins s σ H _ I hw) fun v s1 ⟨x, H1, I1, r1, q1⟩ => ?_) (he _)
  obtain ⟨d, rfl, q⟩ := q1
  cases r1
  exact wpAny_truthy_bool ⟨H1, I1, q⟩

/-! ### and, or, not -/
variable {tA tB' : TT} {rest : List Expr}
def tAnd (t u : TT) : TT := fun σ H Q => t σ H fun c H1 => if c = true then u σ H1 Q else Q false H1
def tOr (t u : TT) : TT := fun σ H Q => t σ H fun c H1 => if c = true then Q true H1 else u σ H1 Q
def tNot (t : TT) : TT := fun σ H Q => t σ H fun c H1 => Q (!c) H1
theorem pw_and1 (ha : PT X a tA) : PW X (.BoolOp .And [a] pos) tA := by
  intro wh pins s σ H Q I h
  refine isTrue_and (thn (ha pins s σ H Q I h) fun c s1 e => ?_)
  cases c with
  | true => exact isTrue_and_nil e
  | false => exact e
theorem pw_or1 (ha : PT X a tA) : PW X (.BoolOp .Or [a] pos) tA := by
  intro wh pins s σ H Q I h
  refine isTrue_or (thn (ha pins s σ H Q I h) fun c s1 e => ?_)
  cases c with
  | false => exact isTrue_or_nil e
  | true => exact e
theorem pw_and (ha : PT X a tA) (hb : PW X (.BoolOp .And (b :: rest) pos) tB') : PW X (.BoolOp .And (a :: b :: rest) pos) (tAnd tA tB') := by
  intro wh pins s σ H Q I h
  refine isTrue_and (thn (ha pins s σ H _ I h) fun c s1 ⟨H1, I1, q1⟩ => ?_)
  cases c with
  | true => exact hb wh pins s1 σ H1 Q I1 q1
  | false => exact ⟨H1, I1, q1⟩
theorem pw_or (ha : PT X a tA) (hb : PW X (.BoolOp .Or (b :: rest) pos) tB') : PW X (.BoolOp .Or (a :: b :: rest) pos) (tOr tA tB') := by
  intro wh pins s σ H Q I h
  refine isTrue_or (thn (ha pins s σ H _ I h) fun c s1 ⟨H1, I1, q1⟩ => ?_)
  cases c with
  | true => exact ⟨H1, I1, q1⟩
  | false => exact hb wh pins s1 σ H1 Q I1 q1
theorem pt_not (ha : PT X a tA) : PT X (.UnaryOp .Not a pos) (tNot tA) := by
  intro pins s σ H Q I h
  exact isTrue_not (ha pins s σ H (fun c H1 => Q (!c) H1) I h)
/-- .. as values (bools) -/
def tAndV (ta tb : TE) : TE := fun σ H Q => ta σ H fun x H1 => ∃ c, x = .bl c ∧ if c = true then tb σ H1 Q else Q (.bl false) H1
def tOrV (ta tb : TE) : TE := fun σ H Q => ta σ H fun x H1 => ∃ c, x = .bl c ∧ if c = true then Q (.bl true) H1 else tb σ H1 Q
def tNotV (ta : TE) : TE := fun σ H Q => ta σ H fun x H1 => ∃ c, x = .bl c ∧ Q (.bl (!c)) H1
theorem pe_one {op} {t : TE} (h : PE X a t) : PE X (.BoolOp op [a] pos) t := fun pins s σ H Q I hw => BoolOp_one (h pins s σ H Q I hw)
theorem pe_and (ha : PE X a ta) (hb : PE X (.BoolOp .And (b :: rest) pos) tb) : PE X (.BoolOp .And (a :: b :: rest) pos) (tAndV ta tb) := by
  intro pins s σ H Q I h
  refine BoolOp_and (thn (ha pins s σ H _ I h) fun v s1 ⟨x, H1, I1, r1, q1⟩ => ?_)
  obtain ⟨c, rfl, q1⟩ := q1
  cases r1
  refine wpAny_truthy_bool ?_
  cases c with
  | true => exact hb pins s1 σ H1 Q I1 q1
  | false => exact ⟨.bl false, H1, I1, rfl, q1⟩
theorem pe_or (ha : PE X a ta) (hb : PE X (.BoolOp .Or (b :: rest) pos) tb) : PE X (.BoolOp .Or (a :: b :: rest) pos) (tOrV ta tb) := by
  intro pins s σ H Q I h
  refine BoolOp_or (thn (ha pins s σ H _ I h) fun v s1 ⟨x, H1, I1, r1, q1⟩ => ?_)
  obtain ⟨c, rfl, q1⟩ := q1
  cases r1
  refine wpAny_truthy_bool ?_
  cases c with
  | false => exact hb pins s1 σ H1 Q I1 q1
  | true => exact ⟨.bl true, H1, I1, rfl, q1⟩
theorem pe_not (ha : PE X a ta) : PE X (.UnaryOp .Not a pos) (tNotV ta) := by
  intro pins s σ H Q I h
  refine UnaryOp_ (thn (ha pins s σ H _ I h) fun v s1 ⟨x, H1, I1, r1, q1⟩ => ?_)
  obtain ⟨c, rfl, q1⟩ := q1
  cases r1
  exact not_of (wpAny_truthy_bool ⟨.bl (!c), H1, I1, rfl, q1⟩)
end
end L2

namespace L2
open PySem PySem.Spec PyProof.Rows

/-! ### a list, a tuple that is read: tracked, frozen, or an object of the module -/
def SqL (K : PySem.W.Frag) (H : Hp) (a : Addr) (xs : List V) : Prop :=
  Rd H a (.lst xs) ∨
    ∃ (o : Obj) (its : Array Value) (n : Nat), K.lookup a = some o ∧ o.cls = .type "list" ∧ o.dict = none ∧ o.data = .seq its n ∧ its.size ≤ sizeLine ∧ Vals xs its.toList
def SqT (K : PySem.W.Frag) (H : Hp) (a : Addr) (xs : List V) : Prop :=
  Rd H a (.tup xs) ∨
    ∃ (o : Obj) (its : Array Value) (n : Nat), K.lookup a = some o ∧ o.cls = .type "tuple" ∧ o.data = .seq its n ∧ its.size ≤ sizeLine ∧ Vals xs its.toList
def absV : Value → Option V
  | .none => some .non
  | .bool b => some (.bl b)
  | .int i _ => some (.int i)
  | .str x _ => some (.str x)
  | .bytes b _ => some (.byt b)
  | .float b _ => some (.flt b)
  | .ref a => some (.ref a)
  | .type n => some (.ty n)
  | _ => none
theorem RelV.abs {x : V} {u : Value} (r : RelV x u) : absV u = some x := by
  cases x with
  | non => cases r; rfl
  | bl _ => cases r; rfl
  | int _ => obtain ⟨t, rfl⟩ := r; rfl
  | str _ => obtain ⟨t, rfl⟩ := r; rfl
  | byt _ => obtain ⟨t, rfl⟩ := r; rfl
  | flt _ => obtain ⟨t, rfl⟩ := r; rfl
  | ref _ => cases r; rfl
  | ty _ => cases r; rfl
theorem RelV.inj {x y : V} {u : Value} (r : RelV x u) (q : RelV y u) : x = y := Option.some.inj (r.abs.symm.trans q.abs)
theorem Vals.inj : ∀ {xs ys : List V} {us : List Value}, Vals xs us → Vals ys us → xs = ys
  | _, _, _, .nil, .nil => rfl
  | _, _, _, .cons r t, .cons r' t' => by rw [r.inj r', Vals.inj t t']
section
variable {X : Cx} {pins : List (Addr × Obj)} {σ : St} {H : Hp} {s : Shared} {a : Addr} {xs ys : List V}
theorem SqL.of {K : PySem.W.Frag} (h : H a = some (.lst xs)) : SqL K H a xs := .inl (.inl h)
theorem SqT.of {K : PySem.W.Frag} (h : H a = some (.tup xs)) : SqT K H a xs := .inl (.inl h)
theorem Inv.list (I : Inv X pins σ H s) (h : SqL X.K H a xs) : ∃ its : List Value, Vals xs its ∧ PlainL s.heap a its.toArray ∧ xs.length ≤ sizeLine := by
  rcases h with h | ⟨o, its, n, hk, hc, hd, hs, hz, r⟩
  · obtain ⟨z, its, n, r, e⟩ := h.ok I.hok
    exact ⟨its, r, ⟨_, n, e, rfl, rfl, rfl⟩, z⟩
  · refine ⟨its.toList, r, ⟨o, n, I.kIn a o hk, hc, hd, by simpa using hs⟩, ?_⟩
    have e := r.length
    simp only [Array.length_toList] at e
    omega
theorem Inv.tuple (I : Inv X pins σ H s) (h : SqT X.K H a xs) : ∃ its : List Value, Vals xs its ∧ IsTup s.heap a its.toArray ∧ xs.length ≤ sizeLine := by
  rcases h with h | ⟨o, its, n, hk, hc, hs, hz, r⟩
  · obtain ⟨z, its, r, p⟩ := h.ok I.hok
    exact ⟨its, r, p, z⟩
  · refine ⟨its.toList, r, ⟨o, I.kIn a o hk, hc, n, by simpa using hs⟩, ?_⟩
    have e := r.length
    simp only [Array.length_toList] at e
    omega
theorem Inv.list_inj (I : Inv X pins σ H s) (h : SqL X.K H a xs) (h' : SqL X.K H a ys) : xs = ys := by
  obtain ⟨its, r, ⟨o, n, e, _, _, d⟩, _⟩ := I.list h
  obtain ⟨its', r', ⟨o', n', e', _, _, d'⟩, _⟩ := I.list h'
  rw [e] at e'; cases e'
  rw [d] at d'
  injection d' with d1 _
  have : its = its' := by simpa using congrArg Array.toList d1
  subst this
  exact r.inj r'
theorem Inv.tuple_inj (I : Inv X pins σ H s) (h : SqT X.K H a xs) (h' : SqT X.K H a ys) : xs = ys := by
  obtain ⟨its, r, ⟨o, e, _, n, d⟩, _⟩ := I.tuple h
  obtain ⟨its', r', ⟨o', e', _, n', d'⟩, _⟩ := I.tuple h'
  rw [e] at e'; cases e'
  rw [d] at d'
  injection d' with d1 _
  have : its = its' := by simpa using congrArg Array.toList d1
  subst this
  exact r.inj r'
end

/-! ### another wish about exceptions -/
abbrev Cx.wish (X : Cx) (E : Value → Shared → Prop) : Cx := { X with xe := E }
/-- no exception leaves -/
abbrev Cx.nox (X : Cx) : Cx := X.wish fun _ _ => False
theorem Cx.Ok.wish {X : Cx} (ok : X.Ok) (E : Value → Shared → Prop) : (X.wish E).Ok :=
  ⟨ok.mod, ok.kind, ok.glob, ok.blt, ok.above, ok.inj, ok.has, ok.cab, ok.hd, ok.frames, ok.stk, ok.exf, ok.bs, ok.bsz, ok.noex, ok.exfs, ok.funs, ok.frf⟩
theorem Cx.Ok.unwish {X : Cx} {E : Value → Shared → Prop} (ok : (X.wish E).Ok) : X.Ok :=
  ⟨ok.mod, ok.kind, ok.glob, ok.blt, ok.above, ok.inj, ok.has, ok.cab, ok.hd, ok.frames, ok.stk, ok.exf, ok.bs, ok.bsz, ok.noex, ok.exfs, ok.funs, ok.frf⟩
section
variable {X : Cx} {pins : List (Addr × Obj)} {σ : St} {H : Hp} {s : Shared} {E : Value → Shared → Prop}
theorem Inv.wish (I : Inv X pins σ H s) (E : Value → Shared → Prop) : Inv (X.wish E) pins σ H s := ⟨I.ok.wish E, I.os, I.bare, I.base, I.loc, I.cell, I.free, I.freeC, I.pin, I.hok, I.len⟩
theorem Inv.unwish (I : Inv (X.wish E) pins σ H s) : Inv X pins σ H s := ⟨I.ok.unwish, I.os, I.bare, I.base, I.loc, I.cell, I.free, I.freeC, I.pin, I.hok, I.len⟩
theorem SP.unwish {D : Ends} {f : Flow} {s' : Shared} (h : SP (X.wish E) pins D f s') : SP X pins D f s' := by
  cases f with
  | next => obtain ⟨σ', H', I, q⟩ := h; exact ⟨σ', H', I.unwish, q⟩
  | brk => obtain ⟨σ', H', I, q⟩ := h; exact ⟨σ', H', I.unwish, q⟩
  | cont => obtain ⟨σ', H', I, q⟩ := h; exact ⟨σ', H', I.unwish, q⟩
  | ret u => obtain ⟨v, σ', H', I, r, q⟩ := h; exact ⟨v, σ', H', I.unwish, r, q⟩
theorem PE.nox {e : Expr} {t : TE} (h : PE X.nox e t) : PE X e t := fun pins s σ H Q I hw =>
  wpAny_mono (h pins s σ H Q (I.wish _) hw) (fun _ _ ⟨v, H', I', r, q⟩ => ⟨v, H', I'.unwish, r, q⟩) fun _ _ z => False.elim z
theorem PSs.nox {st : List Stmt} {t : TS} (h : PSs X.nox st t) : PSs X st t := fun pins s σ H D I hw =>
  wpAny_mono (h pins s σ H D (I.wish _) hw) (fun _ _ q => q.unwish) fun _ _ z => False.elim z
end

/-! ### blocks and small statements -/
section
variable {X : Cx} {st : Stmt} {rest : List Stmt} {t u : TS} {e : Expr} {te : TE} {pos : Pos}
def tNext : TS := fun D σ H => D.nx σ H
def tSeq (t u : TS) : TS := fun D σ H => t { D with nx := u D } σ H
theorem pss_nil : PSs X [] tNext := fun _ _ σ H _ I h => wpAny_execs_nil ⟨σ, H, I, h⟩
theorem pss_cons (h1 : PS X st t) (h2 : PSs X rest u) : PSs X (st :: rest) (tSeq t u) := by
  intro pins s σ H D I h
  refine wpAny_execs_cons (thn (h1 pins s σ H { D with nx := u D } I h) fun f s1 q => ?_)
  cases f with
  | next =>
    obtain ⟨σ', H', I', q⟩ := q
    exact h2 pins s1 σ' H' D I' q
  | ret v => exact q
  | brk => exact q
  | cont => exact q
theorem pss_one (h1 : PS X st t) : PSs X [st] t := by
  intro pins s σ H D I h
  refine wpAny_execs_cons (thn (h1 pins s σ H D I h) fun f s1 q => ?_)
  cases f with
  | next => exact wpAny_execs_nil q
  | ret v => exact q
  | brk => exact q
  | cont => exact q
/-- in a def's body nothing is shown -/
theorem Inv.quiet {pins : List (Addr × Obj)} {σ : St} {H : Hp} {s : Shared} (I : Inv X pins σ H s) : interactive X.env = false := by simp [interactive, I.ok.kind]
/-- an expression whose value is dropped -/
def tDrop (te : TE) : TS := fun D σ H => te σ H fun _ H1 => D.nx σ H1
theorem ps_expr (he : PE X e te) (hs : swapsWith e none pos.line X.env = pure false := by rfl) : PS X (.Expr e pos) (tDrop te) := by
  intro pins s σ H D I h
  exact wpAny_Expr_any (thn (he pins s σ H _ I h) fun v s1 ⟨x, H1, I1, r1, q1⟩ => ⟨σ, H1, I1, q1⟩) I.quiet hs
def tRet (te : TE) : TS := fun D σ H => te σ H D.rt
theorem ps_ret (he : PE X e te) : PS X (.Return (some e) pos) (tRet te) := by
  intro pins s σ H D I h
  exact wpAny_Return_some (thn (he pins s σ H _ I h) fun v s1 ⟨x, H1, I1, r1, q1⟩ => ⟨x, σ, H1, I1, r1, q1⟩)
def tIfS (c : TT) (t u : TS) : TS := fun D σ H => c σ H fun b H1 => if b = true then t D σ H1 else u D σ H1
theorem ps_if {c : Expr} {a b : List Stmt} {tc : TT} (hc : PT X c tc) (ha : PSs X a t) (hb : PSs X b u) : PS X (.If c a b pos) (tIfS tc t u) := by
  intro pins s σ H D I h
  refine wpAny_If (thn (hc pins s σ H _ I h) fun d s1 ⟨H1, I1, q1⟩ => ?_)
  cases d with
  | true => exact ha pins s1 σ H1 D I1 q1
  | false => exact hb pins s1 σ H1 D I1 q1
/-- code that the proof never comes to -/
def tNever : TS := fun _ _ _ => False
theorem pss_never {sts : List Stmt} : PSs X sts tNever := fun _ _ _ _ _ _ h => h.elim
end

/-! ### targets -/
abbrev TG := V → St → Hp → (St → Hp → Prop) → Prop
abbrev TGs := List V → St → Hp → (St → Hp → Prop) → Prop
def PG (X : Cx) (target : Expr) (t : TG) : Prop :=
  ∀ (pins : List (Addr × Obj)) (s : Shared) (σ : St) (H : Hp) (v : V) (u : Value) (Q : St → Hp → Prop), Inv X pins σ H s → RelV v u → t v σ H Q →
    wpAny (model X.prog X.w) X.A (assign target X.env u) (fun _ s' => ∃ σ' H', Inv X pins σ' H' s' ∧ Q σ' H') X.xe s
/-- several targets, one after another -/
def PGs (X : Cx) (ts : List Expr) (t : TGs) : Prop :=
  ∀ (pins : List (Addr × Obj)) (s : Shared) (σ : St) (H : Hp) (vs : List V) (us : List Value) (Q : St → Hp → Prop), Inv X pins σ H s → Vals vs us → t vs σ H Q →
    wpAny (model X.prog X.w) X.A (assignInOrder ((assignEach ts X.env).map (·.2)) us) (fun _ s' => ∃ σ' H', Inv X pins σ' H' s' ∧ Q σ' H') X.xe s
/-- o[i] = v, by values -/
abbrev TSet := V → V → V → Hp → (Hp → Prop) → Prop
def PSet (X : Cx) (t : TSet) : Prop :=
  ∀ (pins : List (Addr × Obj)) (s : Shared) (σ : St) (H : Hp) (o i v : V) (ov iv u : Value) (Q : Hp → Prop), Inv X pins σ H s → RelV o ov → RelV i iv → RelV v u → t o i v H Q →
    wpAny (model X.prog X.w) X.A (setItem ov iv u) (fun _ s' => ∃ H', Inv X pins σ H' s' ∧ Q H') X.xe s
/-- a op= b, by values -/
abbrev TIp := V → V → Hp → VK → Prop
def PIp (X : Cx) (op : Operator) (t : TIp) : Prop :=
  ∀ (pins : List (Addr × Obj)) (s : Shared) (σ : St) (H : Hp) (x y : V) (v u : Value) (Q : VK), Inv X pins σ H s → RelV x v → RelV y u → t x y H Q →
    wpAny (model X.prog X.w) X.A (inplaceOp op v u) (EP X pins σ Q) X.xe s
section
variable {X : Cx} {pos : Pos}
def gName (i : Nat) : TG := fun v σ H Q => Q (σ.set i (some v)) H
theorem pg_name {i : Nat} {x : Str} (hN : X.N.Nodup) (hi : X.N[i]? = some x) (hx : Loc X.env.scope x) (hf : X.fn x = true ∨ X.env.scope.names.lookup x = some .local := by first | exact .inl rfl | exact .inr rfl | assumption) : PG X (.Name x pos) (gName i) := by
  intro pins s σ H v u Q I r h
  exact wpAny_assign_Name (store_ok I hN hi hx r (fun s' I' => ⟨_, H, I', h⟩) hf)
def gNil : TGs := fun vs σ H Q => vs = [] ∧ Q σ H
def gCons (t : TG) (u : TGs) : TGs := fun vs σ H Q => ∃ v r, vs = v :: r ∧ t v σ H fun σ' H' => u r σ' H' Q
theorem pgs_nil : PGs X [] gNil := by
  intro pins s σ H vs us Q I r h
  obtain ⟨e, h⟩ := h
  subst e
  cases r
  exact assignInOrder_nil ⟨σ, H, I, h⟩
theorem pgs_cons {e : Expr} {es : List Expr} {t : TG} {u : TGs} (h1 : PG X e t) (h2 : PGs X es u)
    (hs : (assignEach (e :: es) X.env).map (·.2) = assign e X.env :: (assignEach es X.env).map (·.2) := by rfl) : PGs X (e :: es) (gCons t u) := by
  intro pins s σ H vs us Q I r h
  obtain ⟨v, vr, e1, h⟩ := h
  subst e1
  cases r with
  | cons r rr =>
    rw [hs]
    refine assignInOrder_cons (thn (h1 pins s σ H _ _ _ I r h) fun _ s1 ⟨σ1, H1, I1, q1⟩ => ?_)
    exact h2 pins s1 σ1 H1 _ _ Q I1 rr q1
/-- (a, b, ..) = a tuple of that length -/
def gTup (K : PySem.W.Frag) (n : Nat) (t : TGs) : TG := fun v σ H Q => ∃ a xs, v = .ref a ∧ SqT K H a xs ∧ xs.length = n ∧ t xs σ H Q
theorem pg_tup {es : List Expr} {k : Nat} {t : TGs} {n : Nat} (hc : X.calm = true) (h : PGs X es t)
    (hn : (assignEach es X.env).length = n := by rfl) (hst : (assignEach es X.env).findIdx? (·.1) = none := by rfl) : PG X (.Tuple es k pos) (gTup X.K n t) := by
  intro pins s σ H v u Q I r hw
  obtain ⟨a, xs, e1, hq, hl, hw⟩ := hw
  subst e1
  cases r
  obtain ⟨its, rv, ht, hz⟩ := I.tuple hq
  refine assign_Tuple_tuple (I.ok.hd hc) ht (by simp [hn, ← hl, rv.length]) hst fun h' hx => ?_
  have I1 : Inv X pins σ H { s with heap := h' } := I.kept (t' := s.toks) fun b o e => hx b o (Nat.ne_of_lt (Heap.lt_size e)) e
  exact h pins _ σ H xs _ Q I1 (by simpa using rv) hw
/-- o[i] = .. -/
def gSub (to ti : TE) (t : TSet) : TG := fun v σ H Q => to σ H fun o H1 => ti σ H1 fun i H2 => t o i v H2 fun H3 => Q σ H3
theorem pg_sub {o i : Expr} {to ti : TE} {t : TSet} (ho : PE X o to) (hi : PE X i ti) (hs : PSet X t)
    (ha : ∀ v, assign (.Subscript o i pos) X.env v = (do
      let ov ← holding [v] (eval o X.env)
      let iv ← holding [v, ov] (eval i X.env)
      standAt pos
      holding [v, ov, iv] (setItem ov iv v)
      release [v, ov, iv] []) := by intro _; rfl) : PG X (.Subscript o i pos) (gSub to ti t) := by
  intro pins s σ H v u Q I r h
  rw [ha]
  refine wpAny_bind (wpAny_holding (thn (ho pins s σ H _ I h) fun ov s1 ⟨x, H1, I1, r1, q1⟩ => ?_))
  refine wpAny_bind (wpAny_holding (thn (hi pins s1 σ H1 _ I1 q1) fun iv s2 ⟨y, H2, I2, r2, q2⟩ => ?_))
  refine wpAny_bind (wpAny_standAt (wpAny_bind (wpAny_holding (thn (hs pins s2 σ H2 x y v ov iv u _ I2 r1 r2 r q2) fun _ s3 ⟨H3, I3, q3⟩ => ?_))))
  exact wpAny_release ⟨σ, H3, I3, q3⟩
/-- target = value -/
def tAsg (te : TE) (g : TG) : TS := fun D σ H => te σ H fun x H1 => g x σ H1 D.nx
theorem ps_asg {tg e : Expr} {te : TE} {g : TG} (he : PE X e te) (hg : PG X tg g) (hs : swapsWithSole [tg] e pos.line X.env = pure false := by rfl) (hw : swappedStores [tg] e X.env = pure none := by rfl)
    (h1 : (assignEach [tg] X.env).map (·.2) = [assign tg X.env] := by rfl) : PS X (.Assign [tg] e pos) (tAsg te g) := by
  intro pins s σ H D I h
  refine wpAny_Assign_stores (thn (he pins s σ H _ I h) fun v s1 ⟨x, H1, I1, r1, q1⟩ => ?_) hs hw
  rw [h1]
  exact thn (hg pins s1 σ H1 x v _ I1 r1 q1) fun _ s2 q => q
/-- name = value -/
theorem ps_set {i : Nat} {x : Str} {e : Expr} {te : TE} {pos' : Pos} (hN : X.N.Nodup) (hi : X.N[i]? = some x) (hx : Loc X.env.scope x) (he : PE X e te) (hs : swapsWith e (some (.Name x pos')) pos.line X.env = pure false := by rfl) (hf : X.fn x = true ∨ X.env.scope.names.lookup x = some .local := by first | exact .inl rfl | exact .inr rfl | assumption) :
    PS X (.Assign [.Name x pos'] e pos) (tAsg te (gName i)) := by
  intro pins s σ H D I h
  refine wpAny_Assign_Name (thn (he pins s σ H _ I h) fun v s1 ⟨y, H1, I1, r1, q1⟩ => ?_) hs
  exact store_ok I1 hN hi hx r1 (fun s2 I2 => ⟨_, H1, I2, q1⟩) hf
/-- name op= e -/
def tAug (i : Nat) (te : TE) (ti : TIp) : TS := fun D σ H => ∃ x, σ[i]? = some (some x) ∧ te σ H fun y H1 => ti x y H1 fun z H2 => D.nx (σ.set i (some z)) H2
theorem ps_aug {i : Nat} {x : Str} {e : Expr} {te : TE} {op : Operator} {ti : TIp} {pos' : Pos} (hN : X.N.Nodup) (hi : X.N[i]? = some x) (hx : Loc X.env.scope x) (he : PE X e te) (ho : PIp X op ti) (hf : X.fn x = true ∨ X.env.scope.names.lookup x = some .local := by first | exact .inl rfl | exact .inr rfl | assumption) :
    PS X (.AugAssign (.Name x pos') op e pos) (tAug i te ti) := by
  intro pins s σ H D I h
  obtain ⟨v, e1, h⟩ := h
  obtain ⟨m, hn, hl⟩ := I.loc
  have vis : Vis X.env.scope x := by rcases hx with k | k; exact .inl k; exact .inr (.inl k)
  obtain ⟨u, r, l⟩ := hl i x v hi e1 vis
  refine wpAny_AugAssign_Name ?_
  have go : wpAny (model X.prog X.w) X.A (eval e X.env) (fun w s₂ => wpAny (model X.prog X.w) X.A (inplaceOp op u w) (fun r s₃ => wpAny (model X.prog X.w) X.A (storeName X.env x r) (fun _ => SP X pins D .next) X.xe s₃) X.xe s₂) X.xe s := by
    refine thn (he pins s σ H _ I h) fun w s1 ⟨y, H1, I1, r1, q1⟩ => ?_
    refine thn (ho pins s1 σ H1 v y u w _ I1 r r1 q1) fun z s2 ⟨zv, H2, I2, r2, q2⟩ => ?_
    exact store_ok I2 hN hi hx r2 (fun s3 I3 => ⟨_, H2, I3, q2⟩) hf
  rcases l with ⟨hk, hm⟩ | ⟨hk, c, hc, hcell⟩
  · exact wpAny_loadName_local I.ok.kind hk hn hm go
  · rcases hk with hk | hk
    · exact wpAny_loadName_cell I.ok.kind hk hc hcell go
    · rcases hx with k | k
      · have : X.env.scope.names.lookup x = some .free := hk
        rw [k] at this; cases this
      · have : X.env.scope.names.lookup x = some .free := hk
        rw [k] at this; cases this
/-- o[i] op= e -/
def tAugS (to ti te : TE) (tget : V → V → Hp → VK → Prop) (tip : TIp) (tset : TSet) : TS := fun D σ H => to σ H fun o H1 => ti σ H1 fun i H2 => tget o i H2 fun x H3 => te σ H3 fun y H4 => tip x y H4 fun z H5 => tset o i z H5 fun H6 => D.nx σ H6
/-- o[i], by values -/
def PGet (X : Cx) (t : V → V → Hp → VK → Prop) : Prop :=
  ∀ (pins : List (Addr × Obj)) (s : Shared) (σ : St) (H : Hp) (o i : V) (ov iv : Value) (Q : VK), Inv X pins σ H s → RelV o ov → RelV i iv → t o i H Q →
    wpAny (model X.prog X.w) X.A (getItem ov iv) (EP X pins σ Q) X.xe s
theorem ps_augS {o i e : Expr} {to ti te : TE} {tget : V → V → Hp → VK → Prop} {tip : TIp} {tset : TSet} {op : Operator} {tpos : Pos} (ho : PE X o to) (hi : PE X i ti) (hg : PGet X tget) (he : PE X e te) (hp : PIp X op tip) (hs : PSet X tset)
    (ha : ∀ ov iv new, augStore i ov iv new = (do holding [new, ov, iv] (setItem ov iv new); release [new, ov, iv] []; pure .next) := by intros; rfl) : PS X (.AugAssign (.Subscript o i tpos) op e pos) (tAugS to ti te tget tip tset) := by
  intro pins s σ H D I h
  refine wpAny_AugAssign_SubscriptAny (thn (ho pins s σ H _ I h) fun ov s1 ⟨x1, H1, I1, r1, q1⟩ => ?_) ha
  refine thn (hi pins s1 σ H1 _ I1 q1) fun iv s2 ⟨x2, H2, I2, r2, q2⟩ => ?_
  refine thn (hg pins s2 σ H2 x1 x2 ov iv _ I2 r1 r2 q2) fun old s3 ⟨x3, H3, I3, r3, q3⟩ => ?_
  refine thn (he pins s3 σ H3 _ I3 q3) fun v s4 ⟨x4, H4, I4, r4, q4⟩ => ?_
  refine thn (hp pins s4 σ H4 x3 x4 old v _ I4 r3 r4 q4) fun new s5 ⟨x5, H5, I5, r5, q5⟩ => ?_
  exact thn (hs pins s5 σ H5 x1 x2 x5 ov iv new _ I5 r1 r2 r5 q5) fun _ s6 ⟨H6, I6, q6⟩ => ⟨σ, H6, I6, q6⟩
/-- ints -/
def ipI (f : Int → Int → Int) : TIp := fun x y H Q => ∃ i j, x = .int i ∧ y = .int j ∧ Q (.int (f i j)) H
theorem ip_add : PIp X .Add (ipI fun i j => i + j) := by
  intro pins s σ H x y v u Q I r1 r2 h
  obtain ⟨i, j, e1, e2, q⟩ := h
  subst e1; subst e2
  obtain ⟨t, rfl⟩ := r1
  obtain ⟨t', rfl⟩ := r2
  exact iadd_int ⟨.int _, H, I.tok _, ⟨_, rfl⟩, q⟩
theorem ip_sub : PIp X .Sub (ipI fun i j => i - j) := by
  intro pins s σ H x y v u Q I r1 r2 h
  obtain ⟨i, j, e1, e2, q⟩ := h
  subst e1; subst e2
  obtain ⟨t, rfl⟩ := r1
  obtain ⟨t', rfl⟩ := r2
  exact isub_int ⟨.int _, H, I.tok _, ⟨_, rfl⟩, q⟩
end

/-! ### while -/
section
variable {X : Cx} {pos : Pos}
/-- the invariant W with its measure -/
def tWhile (c : TT) (tb : TS) : TS := fun D σ H => ∃ W : Nat → St → Hp → Prop, (∃ m, W m σ H) ∧ ∀ m σ H, W m σ H →
  c σ H fun b H1 => if b = true then ∃ N : St → Hp → Prop, (∀ σ' H', N σ' H' → ∃ m', m' < m ∧ W m' σ' H') ∧ tb { D with nx := N, ct := N, bk := D.nx } σ H1 else D.nx σ H1
theorem ps_while {c : Expr} {body : List Stmt} {tc : TT} {tb : TS} (hp : PassesOwn (model X.prog X.w) X.A X.env X.xe) (hc : PT X c tc) (hb : PSs X body tb) : PS X (.While c body [] pos) (tWhile tc tb) := by
  intro pins s σ H D I h
  obtain ⟨W, ⟨m0, w0⟩, turn⟩ := h
  refine wpAny_While (codeAny_whileLoop (fun n s' => ∃ σ' H', Inv X pins σ' H' s' ∧ W n σ' H') ?_ m0 ⟨σ, H, I, w0⟩)
  rintro n s1 ⟨σ1, H1, I1, w1⟩
  refine wpAny_passesOwn hp (thn (hc pins s1 σ1 H1 _ I1 (turn n σ1 H1 w1)) fun b s2 ⟨H2, I2, q2⟩ => ?_)
  cases b with
  | true =>
    obtain ⟨N, hN, q2⟩ := q2
    rw [if_pos rfl]
    refine wpAny_passesOwn hp (thn (hb pins s2 σ1 H2 _ I2 q2) fun f s3 q3 => ?_)
    cases f with
    | next =>
      obtain ⟨σ3, H3, I3, n3⟩ := q3
      obtain ⟨m', hm, w3⟩ := hN σ3 H3 n3
      exact ⟨m', hm, σ3, H3, I3, w3⟩
    | cont =>
      obtain ⟨σ3, H3, I3, n3⟩ := q3
      obtain ⟨m', hm, w3⟩ := hN σ3 H3 n3
      exact ⟨m', hm, σ3, H3, I3, w3⟩
    | brk => exact q3
    | ret v => exact q3
  | false =>
    rw [if_neg Bool.false_ne_true]
    exact wpAny_execs_nil ⟨σ1, H2, I2, q2⟩
end

/-! ### what a loop or a comprehension walks -/
/-- at turn i: it yields x (the heap may grow), or it stops -/
structure It where
  go : Nat → Hp → Prop
  yld : Nat → Hp → V → Hp → Prop
  stop : Nat → Hp → Prop
/-- the iterator's own objects may turn: they are not the frame's, not pinned, younger than the entry (or a comprehension's own) -/
def FpOk (X : Cx) (pins : List (Addr × Obj)) (H : Hp) (b : Addr) : Prop :=
  H b = none ∧ b ≠ X.env.locals ∧ b ∉ X.fs ∧ (b ∈ X.ex ∨ X.s₀.heap.objs.size ≤ b) ∧ (∀ x c, X.env.cells.lookup x = some c → c ≠ b) ∧ ∀ p ∈ X.pn ++ pins, p.1 ≠ b
theorem Inv.fpOk {X : Cx} {pins : List (Addr × Obj)} {σ : St} {H H' : Hp} {s : Shared} {b : Addr} (I : Inv X pins σ H s) (hb : s.heap.objs.size ≤ b) (hn : H' b = none) : FpOk X pins H' b := by
  refine ⟨hn, Nat.ne_of_gt (Nat.lt_of_lt_of_le I.lt hb), I.nofs hb, .inr (Nat.le_trans I.sz hb), fun x c e z => ?_, fun p hp z => ?_⟩
  · obtain ⟨v, q⟩ := I.cell x c e
    exact absurd (Nat.lt_of_lt_of_le q.lt (by rw [z]; exact hb)) (Nat.lt_irrefl _)
  · exact absurd (Nat.lt_of_lt_of_le (Heap.lt_size (I.pin p hp).1) (by rw [z]; exact hb)) (Nat.lt_irrefl _)
structure Turn (P : Program) (w : World) (K : PySem.W.Frag) (tg : Expr) (J : It) (fp : List Addr) (it : Addr) (tn : Nat → Heap → Prop) : Prop where
  mem : it ∈ fp
  obj : ∀ i h, tn i h → ∀ b ∈ fp, ∃ o, h.get? b = some o ∧ ∀ v, o.data ≠ .cell v
  keep : ∀ i h h', tn i h → (∀ b ∈ fp, ∀ o, h.get? b = some o → h'.get? b = some o) → tn i h'
  item : ∀ (X : Cx), X.prog = P → X.w = w → X.K = K → X.calm = true → ∀ (i : Nat) (pins : List (Addr × Obj)) (s : Shared) (σ : St) (H : Hp) (E : Value → Shared → Prop), Inv X pins σ H s → (∀ b ∈ fp, FpOk X pins H b) → tn i s.heap → J.go i H →
    wpAny (model P w) X.A (pyNext (.ref it)) (fun r s1 => ∃ u, r = some u ∧
      wpAny (model P w) X.A (letOwnedTupleGo tg (.ref it) u) (fun _ s2 => ∃ x H', Inv X pins σ H' s2 ∧ RelV x u ∧ J.yld i H x H' ∧ tn (i + 1) s2.heap ∧ ∀ b ∈ fp, H' b = none) E s1) E s
  done : ∀ (X : Cx), X.prog = P → X.w = w → X.K = K → X.calm = true → ∀ (i : Nat) (pins : List (Addr × Obj)) (s : Shared) (σ : St) (H : Hp) (E : Value → Shared → Prop), Inv X pins σ H s → (∀ b ∈ fp, FpOk X pins H b) → tn i s.heap → J.stop i H →
    wpAny (model P w) X.A (pyNext (.ref it)) (fun r s1 => r = none ∧ Inv X pins σ H s1) E s
  self : ∀ (A : Around) (i : Nat) (s : Shared) (Q : Value → Shared → Prop) (E : Value → Shared → Prop), tn i s.heap → Q (.ref it) s → wpAny (model P w) A (pyIter (.ref it)) Q E s
abbrev TI := St → Hp → (It → Hp → Prop) → Prop
/-- an iterator has come -/
def PIE (X : Cx) (pins : List (Addr × Obj)) (σ : St) (tg : Expr) (R : It → Hp → Prop) (itv : Value) (s2 : Shared) : Prop :=
  ∃ (it : Addr) (fp : List Addr) (tn : Nat → Heap → Prop) (J : It) (H' : Hp), itv = .ref it ∧ Inv X pins σ H' s2 ∧ Turn X.prog X.w X.K tg J fp it tn ∧ tn 0 s2.heap ∧ (∀ b ∈ fp, FpOk X pins H' b) ∧ R J H'
def PI (X : Cx) (tg iter : Expr) (wi : TI) : Prop :=
  ∀ (pins : List (Addr × Obj)) (s : Shared) (σ : St) (H : Hp) (R : It → Hp → Prop), Inv X pins σ H s → wi σ H R →
    wpAny (model X.prog X.w) X.A (eval iter X.env) (fun v s1 => wpAny (model X.prog X.w) X.A (pyIter v) (PIE X pins σ tg R) X.xe s1) X.xe s

/-- the step ahead of the store is nothing for an iterator that keeps no tuple -/
theorem go_of {M : Model} {A : Around} {E : Value → Shared → Prop} {s : Shared} {tg : Expr} {it : Addr} {u : Value} {o : Obj} {n : String} {vs : Array Value} {Q : Unit → Shared → Prop} (ho : s.heap.get? it = some o) (hc : o.cls = .type n) (hd : o.data = .fields vs)
    (hn : ["enumerate", "zip", "dict_itemiterator", "dict_reverseitemiterator", "odict_iterator", "itertools.zip_longest", "itertools.pairwise"].contains n = false) (hQ : Q () s) : wpAny M A (letOwnedTupleGo tg (.ref it) u) Q E s := by
  unfold letOwnedTupleGo
  cases tg <;> first
    | exact wpAny_pure hQ
    | (cases u <;> first
        | exact wpAny_pure hQ
        | (refine wpAny_bind (wpAny_load ho ?_)
           rw [hc, hd]
           show wpAny M A (if (["enumerate", "zip", "dict_itemiterator", "dict_reverseitemiterator", "odict_iterator", "itertools.zip_longest", "itertools.pairwise"].contains n && vs[0]? == some (rawInt _)) = true then _ else _) Q E s
           rw [if_neg (by intro h; rw [hn, Bool.false_and] at h; cases h)]
           exact wpAny_pure hQ))

/-- the list at a, as it stands at each turn (a loop may append to it) -/
def Itl (K : PySem.W.Frag) (a : Addr) : It :=
  ⟨fun i H => ∃ xs x, SqL K H a xs ∧ xs[i]? = some x, fun i H x H' => H' = H ∧ ∀ xs, SqL K H a xs → xs[i]? = some x, fun i H => ∃ xs, SqL K H a xs ∧ xs.length ≤ i⟩
def Itt (K : PySem.W.Frag) (a : Addr) : It :=
  ⟨fun i H => ∃ xs x, SqT K H a xs ∧ xs[i]? = some x, fun i H x H' => H' = H ∧ ∀ xs, SqT K H a xs → xs[i]? = some x, fun i H => ∃ xs, SqT K H a xs ∧ xs.length ≤ i⟩
/-- lo, lo + 1, .. (n of them) -/
def Itr (lo : Int) (n : Nat) : It := ⟨fun i _ => i < n, fun i H x H' => H' = H ∧ x = .int (lo + i), fun i _ => n ≤ i⟩
theorem turn_list {P : Program} {w : World} {K : PySem.W.Frag} {tg : Expr} (a it : Addr) : Turn P w K tg (Itl K a) [it] it (fun i h => h.IsListIter it a i) where
  mem := by simp
  obj := fun i h st b hb => by
    have e : b = it := by simpa using hb
    subst e
    obtain ⟨o, e, c, d⟩ := st
    exact ⟨o, e, fun v z => by rw [d] at z; cases z⟩
  keep := fun i h h' st k => st.at fun o e => k it (by simp) o e
  item := by
    intro X hP hw hK hc i pins s σ H E I hf st hg
    subst hP hw hK
    obtain ⟨xs, x, hq, hx⟩ := hg
    obtain ⟨its, rv, p, hz⟩ := I.list hq
    obtain ⟨u, hu, ru⟩ := rv.get hx
    obtain ⟨f0, f1, f2, f3, f4, f5⟩ := hf it (by simp)
    refine wpAny_pyNext_list_item st p.isList (x := u) (by simpa using hu) fun h' st' sb => ?_
    have I1 : Inv X pins σ H { s with heap := h' } := I.turned (t' := s.toks) (fun b o hb e => (sb.2 b hb).trans e) f0 f1 f3 f4 f5
    obtain ⟨o, e, c, d⟩ := id st'
    exact ⟨u, rfl, go_of (s := { s with heap := h' }) e c d (by decide) ⟨x, H, I1, ru, ⟨rfl, fun ys hy => by rw [I.list_inj hy hq]; exact hx⟩, st', fun b hb => (hf b hb).1⟩⟩
  done := by
    intro X hP hw hK hc i pins s σ H E I hf st hg
    subst hP hw hK
    obtain ⟨xs, hq, hx⟩ := hg
    obtain ⟨its, rv, p, hz⟩ := I.list hq
    obtain ⟨f0, f1, f2, f3, f4, f5⟩ := hf it (by simp)
    have hl := rv.length
    exact wpAny_pyNext_list_end (I.ok.hd hc) st p.isList (by simp; omega) fun h' eb => ⟨rfl, I.turned (t' := s.toks) (fun b o hb e => eb b o hb e) f0 f1 f3 f4 f5⟩
  self := fun _ _ _ _ _ st h => wpAny_pyIter_listiter st h
theorem turn_tuple {P : Program} {w : World} {K : PySem.W.Frag} {tg : Expr} (a it : Addr) : Turn P w K tg (Itt K a) [it] it (fun i h => h.IsTupleIter it a i) where
  mem := by simp
  obj := fun i h st b hb => by
    have e : b = it := by simpa using hb
    subst e
    obtain ⟨o, e, c, d⟩ := st
    exact ⟨o, e, fun v z => by rw [d] at z; cases z⟩
  keep := fun i h h' st k => st.at fun o e => k it (by simp) o e
  item := by
    intro X hP hw hK hc i pins s σ H E I hf st hg
    subst hP hw hK
    obtain ⟨xs, x, hq, hx⟩ := hg
    obtain ⟨its, rv, p, hz⟩ := I.tuple hq
    obtain ⟨u, hu, ru⟩ := rv.get hx
    obtain ⟨f0, f1, f2, f3, f4, f5⟩ := hf it (by simp)
    refine wpAny_pyNext_tuple_item st (show s.heap.IsTuple a its.toArray from p) (x := u) (by simpa using hu) fun h' st' sb => ?_
    have I1 : Inv X pins σ H { s with heap := h' } := I.turned (t' := s.toks) (fun b o hb e => (sb.2 b hb).trans e) f0 f1 f3 f4 f5
    obtain ⟨o, e, c, d⟩ := id st'
    exact ⟨u, rfl, go_of (s := { s with heap := h' }) e c d (by decide) ⟨x, H, I1, ru, ⟨rfl, fun ys hy => by rw [I.tuple_inj hy hq]; exact hx⟩, st', fun b hb => (hf b hb).1⟩⟩
  done := by
    intro X hP hw hK hc i pins s σ H E I hf st hg
    subst hP hw hK
    obtain ⟨xs, hq, hx⟩ := hg
    obtain ⟨its, rv, p, hz⟩ := I.tuple hq
    obtain ⟨f0, f1, f2, f3, f4, f5⟩ := hf it (by simp)
    have hl := rv.length
    exact wpAny_pyNext_tuple_end (I.ok.hd hc) st (show s.heap.IsTuple a its.toArray from p) (by simp; omega) fun h' eb => ⟨rfl, I.turned (t' := s.toks) (fun b o hb e => eb b o hb e) f0 f1 f3 f4 f5⟩
  self := fun _ _ _ _ _ st h => wpAny_pyIter_tupleiter st h
theorem turn_range {P : Program} {w : World} {K : PySem.W.Frag} {tg : Expr} (it : Addr) (lo : Int) (n : Nat) : Turn P w K tg (Itr lo n) [it] it (fun i h => IsRangeIter h it (lo + (i : Nat) * 1) ((n : Int) - (i : Nat)) 1) where
  mem := by simp
  obj := fun i h st b hb => by
    have e : b = it := by simpa using hb
    subst e
    exact ⟨_, st, fun v z => by
      have z' : Data.fields _ = Data.cell v := z
      cases z'⟩
  keep := fun i h h' st k => k it (by simp) _ st
  item := by
    intro X hP hw hK hc i pins s σ H E I hf st hg
    subst hP hw hK
    obtain ⟨f0, f1, f2, f3, f4, f5⟩ := hf it (by simp)
    have W := Walks.range (prog := X.prog) (w := X.w) (I.ok.hd hc) it lo 1 n
    refine W.item i s _ _ hg st fun v h' tk hv st' kk => ?_
    obtain ⟨t, rfl⟩ := hv
    have I1 : Inv X pins σ H { s with heap := h', toks := tk } := I.turned (fun b o hb e => kk b o (by simpa using hb) e) f0 f1 f3 f4 f5
    refine ⟨_, rfl, go_of (s := { s with heap := h', toks := tk }) (n := "range_iterator") st' rfl rfl (by decide) ⟨.int (lo + i), H, I1, ⟨t, ?_⟩, ⟨rfl, rfl⟩, st', fun b hb => (hf b hb).1⟩⟩
    rw [Int.mul_one]
  done := by
    intro X hP hw hK hc i pins s σ H E I hf st hg
    subst hP hw hK
    obtain ⟨f0, f1, f2, f3, f4, f5⟩ := hf it (by simp)
    exact wpAny_pyNext_range_end (I.ok.hd hc) st (by have : n ≤ i := hg; omega) fun h' eb => ⟨rfl, I.turned (t' := s.toks) (fun b o hb e => eb b o hb e) f0 f1 f3 f4 f5⟩
  self := fun _ _ _ _ _ st h => wpAny_pyIter_rangeiter st h
end L2

namespace L2
open PySem PySem.Spec PyProof.Rows
section
variable {X : Cx} {tg : Expr}
def iList (K : PySem.W.Frag) (tl : TE) : TI := fun σ H R => tl σ H fun x H1 => ∃ a, x = .ref a ∧ (∃ xs, SqL K H1 a xs) ∧ R (Itl K a) H1
def iTup (K : PySem.W.Frag) (tl : TE) : TI := fun σ H R => tl σ H fun x H1 => ∃ a, x = .ref a ∧ (∃ xs, SqT K H1 a xs) ∧ R (Itt K a) H1
theorem pi_list {l : Expr} {tl : TE} (hl : PE X l tl) : PI X tg l (iList X.K tl) := by
  intro pins s σ H R I h
  refine thn (hl pins s σ H _ I h) fun v s1 ⟨x, H1, I1, r1, q1⟩ => ?_
  obtain ⟨a, e, ⟨xs, hq⟩, q⟩ := q1
  subst e
  cases r1
  obtain ⟨its, rv, p, hz⟩ := I1.list hq
  refine wpAny_pyIter_list p.isList ?_
  refine ⟨s1.heap.objs.size, [s1.heap.objs.size], _, _, H1, rfl, I1.kept (t' := s1.toks) fun b o e => Heap.get?_push_of_some _ e, turn_list a _, ⟨_, Heap.get?_push_size _ rfl, rfl, rfl⟩, fun b hb => ?_, q⟩
  have e : b = s1.heap.objs.size := by simpa using hb
  subst e
  exact I1.fpOk (Nat.le_refl _) (I1.hok.fresh (Nat.le_refl _))
theorem pi_tup {l : Expr} {tl : TE} (hl : PE X l tl) : PI X tg l (iTup X.K tl) := by
  intro pins s σ H R I h
  refine thn (hl pins s σ H _ I h) fun v s1 ⟨x, H1, I1, r1, q1⟩ => ?_
  obtain ⟨a, e, ⟨xs, hq⟩, q⟩ := q1
  subst e
  cases r1
  obtain ⟨its, rv, p, hz⟩ := I1.tuple hq
  refine wpAny_pyIter_tuple (show s1.heap.IsTuple a its.toArray from p) ?_
  refine ⟨s1.heap.objs.size, [s1.heap.objs.size], _, _, H1, rfl, I1.kept (t' := s1.toks) fun b o e => Heap.get?_push_of_some _ e, turn_tuple a _, ⟨_, Heap.get?_push_size _ rfl, rfl, rfl⟩, fun b hb => ?_, q⟩
  have e : b = s1.heap.objs.size := by simpa using hb
  subst e
  exact I1.fpOk (Nat.le_refl _) (I1.hok.fresh (Nat.le_refl _))
/-- a range object just made, walked -/
theorem range_it {pins : List (Addr × Obj)} {σ : St} {H : Hp} {s : Shared} {R : It → Hp → Prop} {E : Value → Shared → Prop} {lo hi : Int} {t u v : Tok} {tk : Nat} (I : Inv X pins σ H s) (h1 : -(2 ^ 62) ≤ lo) (h2 : lo < 2 ^ 62) (h3 : -(2 ^ 62) ≤ hi) (h4 : hi < 2 ^ 62)
    (q : R (Itr lo (hi - lo).toNat) H) : wpAny (model X.prog X.w) X.A (pyIter (.ref s.heap.objs.size)) (PIE X pins σ tg R) E { s with heap := s.heap.push { cls := .type "range", data := .fields #[.int lo t, .int hi u, .int 1 v] }, toks := tk } := by
  refine wpAny_pyIter_range (IsRange.new ..) (small_one h1 h2 h3 h4) ?_
  have I1 : Inv X pins σ H { s with heap := s.heap.push { cls := .type "range", data := .fields #[.int lo t, .int hi u, .int 1 v] }, toks := tk } := I.kept fun b o e => Heap.get?_push_of_some _ e
  refine ⟨(s.heap.push { cls := .type "range", data := .fields #[.int lo t, .int hi u, .int 1 v] }).objs.size, [(s.heap.push { cls := .type "range", data := .fields #[.int lo t, .int hi u, .int 1 v] }).objs.size], _, _, H, rfl,
    I1.kept (t' := tk) fun b o e => Heap.get?_push_of_some _ e, turn_range _ lo (hi - lo).toNat, ?_, fun b hb => ?_, q⟩
  · have e1 : lo + ((0 : Nat) : Int) * 1 = lo := by simp
    have e2 : (((hi - lo).toNat : Nat) : Int) - ((0 : Nat) : Int) = Builtin.Range.rangeSize lo hi 1 := by rw [rangeSize_one]; split <;> omega
    show IsRangeIter _ _ (lo + ((0 : Nat) : Int) * 1) ((((hi - lo).toNat : Nat) : Int) - ((0 : Nat) : Int)) 1
    rw [e1, e2]
    exact Heap.get?_push_size _ rfl
  · have e : b = (s.heap.push { cls := .type "range", data := .fields #[.int lo t, .int hi u, .int 1 v] }).objs.size := by simpa using hb
    subst e
    exact I1.fpOk (Nat.le_refl _) (I1.hok.fresh (Nat.le_refl _))
def iRng1 (ta : TA) : TI := fun σ H R => ta σ H fun vs H1 => ∃ j : Int, vs = [.int j] ∧ -(2 ^ 62) ≤ j ∧ j < 2 ^ 62 ∧ R (Itr 0 j.toNat) H1
def iRng2 (ta : TA) : TI := fun σ H R => ta σ H fun vs H1 => ∃ i j : Int, vs = [.int i, .int j] ∧ (-(2 ^ 62) ≤ i ∧ i < 2 ^ 62 ∧ -(2 ^ 62) ≤ j ∧ j < 2 ^ 62) ∧ R (Itr i (j - i).toNat) H1
theorem pi_range1 {a : Expr} {ta : TA} {p pos : Pos} (hg : Gl X "range") (hm : X.mg "range" = none) (ha : PA X [a] ta) (hs : starEach [a] X.env = [(false, eval a X.env)] := by rfl) : PI X tg (.Call (.Name "range" p) [a] [] pos) (iRng1 ta) := by
  intro pins s σ H R I h
  refine Call_ (ld_blt I hg hm boot_range (PyProof.Rows.callWith_type1 (thn (ha pos pins s σ H _ I h) fun us s1 ⟨vs, H1, I1, r1, q1⟩ => ?_) hs rfl))
  obtain ⟨j, e, q1, q2, q⟩ := q1
  subst e
  cases r1 with
  | cons r rr =>
    cases rr
    obtain ⟨t, rfl⟩ := r
    exact call_range_1 (range_it I1 (by omega) (by omega) q1 q2 (by simpa using q))
theorem pi_range2 {a b : Expr} {ta : TA} {p pos : Pos} (hg : Gl X "range") (hm : X.mg "range" = none) (ha : PA X [a, b] ta) (hs : starEach [a, b] X.env = [(false, eval a X.env), (false, eval b X.env)] := by rfl) (hs2 : starEach [b] X.env = [(false, eval b X.env)] := by rfl) :
    PI X tg (.Call (.Name "range" p) [a, b] [] pos) (iRng2 ta) := by
  intro pins s σ H R I h
  refine Call_ (ld_blt I hg hm boot_range (PyProof.Rows.callWith_type1 (thn (ha pos pins s σ H _ I h) fun us s1 ⟨vs, H1, I1, r1, q1⟩ => ?_) (by rw [hs, hs2]) (by rw [hs2]; rfl)))
  obtain ⟨i, j, e, ⟨q1, q2, q3, q4⟩, q⟩ := q1
  subst e
  cases r1 with
  | cons r rr =>
    cases rr with
    | cons r' rr =>
      cases rr
      obtain ⟨t, rfl⟩ := r
      obtain ⟨t', rfl⟩ := r'
      exact call_range_2 (range_it I1 q1 q2 q3 q4 q)

/-! ### for -/
/-- W: the invariant by the turn and a measure; N: what the body is to reach -/
def tFor (wi : TI) (g : TG) (tb : TS) : TS := fun D σ H => wi σ H fun J H1 => ∃ W : Nat → Nat → St → Hp → Prop, (∃ m, W 0 m σ H1) ∧ ∀ i m σ H, W i m σ H →
  (J.stop i H ∧ D.nx σ H) ∨ (J.go i H ∧ ∃ N : St → Hp → Prop, (∀ σ' H', N σ' H' → ∃ m', m' < m ∧ W (i + 1) m' σ' H') ∧ ∀ x H', J.yld i H x H' → g x σ H' fun σ2 H2 => tb { D with nx := N, ct := N, bk := D.nx } σ2 H2)
/-- the records at fp as they stand -/
def pinsAt (fp : List Addr) (h : Heap) : List (Addr × Obj) := fp.filterMap fun b => (h.get? b).map fun o => (b, o)
theorem mem_pinsAt {fp : List Addr} {h : Heap} {b : Addr} {o : Obj} (hb : b ∈ fp) (e : h.get? b = some o) : (b, o) ∈ pinsAt fp h := List.mem_filterMap.mpr ⟨b, hb, by rw [e]; rfl⟩
theorem of_pinsAt {fp : List Addr} {h : Heap} {p : Addr × Obj} (hp : p ∈ pinsAt fp h) : p.1 ∈ fp ∧ h.get? p.1 = some p.2 := by
  obtain ⟨b, hb, e⟩ := List.mem_filterMap.mp hp
  cases q : h.get? b with
  | none => rw [q] at e; cases e
  | some o =>
    rw [q] at e
    have e' : (b, o) = p := Option.some.inj e
    subst e'
    exact ⟨hb, q⟩
theorem Inv.pinned {pins : List (Addr × Obj)} {σ : St} {H : Hp} {s : Shared} {fp : List Addr} (I : Inv X pins σ H s) (hf : ∀ b ∈ fp, FpOk X pins H b) (ho : ∀ b ∈ fp, ∃ o, s.heap.get? b = some o ∧ ∀ v, o.data ≠ .cell v) : Inv X (pins ++ pinsAt fp s.heap) σ H s :=
  I.pins_of fun p hp => (List.mem_append.mp hp).elim (fun z => I.pin p (List.mem_append_right _ z)) fun z => by
    obtain ⟨hb, e⟩ := of_pinsAt z
    obtain ⟨f0, f1, f2, _⟩ := hf p.1 hb
    obtain ⟨o, e', d⟩ := ho p.1 hb
    rw [e] at e'; cases e'
    exact ⟨e, f0, f1, f2, d⟩
theorem Inv.unpinned {pins pl : List (Addr × Obj)} {σ : St} {H : Hp} {s : Shared} (I : Inv X (pins ++ pl) σ H s) : Inv X pins σ H s := I.pins_of fun p hp => I.pin p (List.mem_append_right _ (List.mem_append_left _ hp))
theorem ps_for {iter : Expr} {body : List Stmt} {wi : TI} {g : TG} {tb : TS} {pos : Pos} (hp : PassesOwn (model X.prog X.w) X.A X.env X.xe) (hc : X.calm = true) (hi : PI X tg iter wi) (hg : PG X tg g) (hb : PSs X body tb)
    (hs : ∀ x, foldedSetIterable iter X.env x = pure x := by intro _; rfl) : PS X (.For tg iter body [] pos) (tFor wi g tb) := by
  intro pins s σ H D I h
  refine wpAny_For (thn (hi pins s σ H _ I h) fun v s1 h1 => thn h1 fun itv s2 h2 => ?_) hs
  obtain ⟨it, fp, tn, J, H2, e, I2, T, st2, f2, W, ⟨m0, w0⟩, turn⟩ := h2
  subst e
  -- what stays true of the iterator's objects through the loop
  have stat : ∀ {H' : Hp}, (∀ b ∈ fp, H' b = none) → ∀ b ∈ fp, FpOk X pins H' b := fun hn b hb => ⟨hn b hb, (f2 b hb).2⟩
  refine codeAny_forLoop_any (fun n s' => ∃ i σ' H', Inv X pins σ' H' s' ∧ tn i s'.heap ∧ (∀ b ∈ fp, H' b = none) ∧ W i n σ' H') ?_ m0 ⟨0, σ, H2, I2, st2, fun b hb => (f2 b hb).1, w0⟩
  rintro n s3 ⟨i, σ3, H3, I3, st3, fr3, w3⟩
  rcases turn i n σ3 H3 w3 with ⟨stop, qn⟩ | ⟨go, N, hN, step⟩
  · refine wpAny_passesOwn hp (thn (T.done X rfl rfl rfl hc i pins s3 σ3 H3 X.xe I3 (stat fr3) st3 stop) fun r s4 ⟨hr, I4⟩ => ?_)
    subst hr
    exact wpAny_execs_nil ⟨σ3, H3, I4, qn⟩
  · refine wpAny_passesOwn hp (thn (T.item X rfl rfl rfl hc i pins s3 σ3 H3 X.xe I3 (stat fr3) st3 go) fun r s4 ⟨u, hr, h4⟩ => ?_)
    subst hr
    refine wpAny_passesOwn hp (thn h4 fun _ s5 ⟨x, H5, I5, r5, y5, st5, fr5⟩ => ?_)
    have I5' := I5.pinned (stat fr5) (T.obj _ _ st5)
    refine wpAny_passesOwn hp (thn (hg _ s5 σ3 H5 x u _ I5' r5 (step x H5 y5)) fun _ s6 ⟨σ6, H6, I6, q6⟩ => ?_)
    refine wpAny_passesOwn hp (thn (hb _ s6 σ6 H6 _ I6 q6) fun f s7 q7 => ?_)
    have again : ∀ {σ7 : St} {H7 : Hp}, Inv X (pins ++ pinsAt fp s5.heap) σ7 H7 s7 → N σ7 H7 → ∃ m, m < n ∧ ∃ i σ' H', Inv X pins σ' H' s7 ∧ tn i s7.heap ∧ (∀ b ∈ fp, H' b = none) ∧ W i m σ' H' := fun {σ7 H7} I7 n7 => by
      obtain ⟨m', hm, w7⟩ := hN σ7 H7 n7
      refine ⟨m', hm, i + 1, σ7, H7, I7.unpinned, T.keep _ _ _ st5 fun b hb o e => (I7.pin (b, o) (List.mem_append_right _ (List.mem_append_right _ (mem_pinsAt hb e)))).1, fun b hb => ?_, w7⟩
      obtain ⟨o, e, d⟩ := T.obj _ _ st5 b hb
      exact (I7.pin (b, o) (List.mem_append_right _ (List.mem_append_right _ (mem_pinsAt hb e)))).2.1
    cases f with
    | next => obtain ⟨σ7, H7, I7, n7⟩ := q7; exact again I7 n7
    | cont => obtain ⟨σ7, H7, I7, n7⟩ := q7; exact again I7 n7
    | brk => obtain ⟨σ7, H7, I7, q7⟩ := q7; exact ⟨σ7, H7, I7.unpinned, q7⟩
    | ret v => obtain ⟨x7, σ7, H7, I7, r7, q7⟩ := q7; exact ⟨x7, σ7, H7, I7.unpinned, r7, q7⟩
end

/-! ### the forms one uses -/
/-- over a list that the body leaves as it is -/
theorem for_list {K : PySem.W.Frag} {a : Addr} {xs : List V} {g : TG} {tb : TS} {D : Ends} {σ : St} {H : Hp} (Pv : Nat → St → Hp → Prop) (h0 : Pv 0 σ H) (hl : ∀ i σ H, i ≤ xs.length → Pv i σ H → SqL K H a xs)
    (hs : ∀ i x σ H, xs[i]? = some x → Pv i σ H → g x σ H fun σ2 H2 => tb { D with nx := Pv (i + 1), ct := Pv (i + 1), bk := D.nx } σ2 H2) (hd : ∀ σ H, Pv xs.length σ H → D.nx σ H) :
    ∃ W : Nat → Nat → St → Hp → Prop, (∃ m, W 0 m σ H) ∧ ∀ i m σ H, W i m σ H →
      ((Itl K a).stop i H ∧ D.nx σ H) ∨ ((Itl K a).go i H ∧ ∃ N : St → Hp → Prop, (∀ σ' H', N σ' H' → ∃ m', m' < m ∧ W (i + 1) m' σ' H') ∧ ∀ x H', (Itl K a).yld i H x H' → g x σ H' fun σ2 H2 => tb { D with nx := N, ct := N, bk := D.nx } σ2 H2) := by
  refine ⟨fun i m σ H => m = xs.length - i ∧ i ≤ xs.length ∧ Pv i σ H, ⟨xs.length, by simp, Nat.zero_le _, h0⟩, ?_⟩
  rintro i m σ H ⟨rfl, hi, p⟩
  have q := hl i σ H hi p
  by_cases hlt : i < xs.length
  · refine .inr ⟨⟨xs, xs[i], q, by simp [hlt]⟩, Pv (i + 1), fun σ' H' p' => ⟨xs.length - (i + 1), by omega, rfl, hlt, p'⟩, fun x H' y => ?_⟩
    obtain ⟨e, y⟩ := y
    subst e
    exact hs i x σ _ (y xs q) p
  · have e : i = xs.length := by omega
    subst e
    exact .inl ⟨⟨xs, q, Nat.le_refl _⟩, hd σ H p⟩
theorem for_tup {K : PySem.W.Frag} {a : Addr} {xs : List V} {g : TG} {tb : TS} {D : Ends} {σ : St} {H : Hp} (Pv : Nat → St → Hp → Prop) (h0 : Pv 0 σ H) (hl : ∀ i σ H, i ≤ xs.length → Pv i σ H → SqT K H a xs)
    (hs : ∀ i x σ H, xs[i]? = some x → Pv i σ H → g x σ H fun σ2 H2 => tb { D with nx := Pv (i + 1), ct := Pv (i + 1), bk := D.nx } σ2 H2) (hd : ∀ σ H, Pv xs.length σ H → D.nx σ H) :
    ∃ W : Nat → Nat → St → Hp → Prop, (∃ m, W 0 m σ H) ∧ ∀ i m σ H, W i m σ H →
      ((Itt K a).stop i H ∧ D.nx σ H) ∨ ((Itt K a).go i H ∧ ∃ N : St → Hp → Prop, (∀ σ' H', N σ' H' → ∃ m', m' < m ∧ W (i + 1) m' σ' H') ∧ ∀ x H', (Itt K a).yld i H x H' → g x σ H' fun σ2 H2 => tb { D with nx := N, ct := N, bk := D.nx } σ2 H2) := by
  refine ⟨fun i m σ H => m = xs.length - i ∧ i ≤ xs.length ∧ Pv i σ H, ⟨xs.length, by simp, Nat.zero_le _, h0⟩, ?_⟩
  rintro i m σ H ⟨rfl, hi, p⟩
  have q := hl i σ H hi p
  by_cases hlt : i < xs.length
  · refine .inr ⟨⟨xs, xs[i], q, by simp [hlt]⟩, Pv (i + 1), fun σ' H' p' => ⟨xs.length - (i + 1), by omega, rfl, hlt, p'⟩, fun x H' y => ?_⟩
    obtain ⟨e, y⟩ := y
    subst e
    exact hs i x σ _ (y xs q) p
  · have e : i = xs.length := by omega
    subst e
    exact .inl ⟨⟨xs, q, Nat.le_refl _⟩, hd σ H p⟩
theorem for_range {lo : Int} {n : Nat} {g : TG} {tb : TS} {D : Ends} {σ : St} {H : Hp} (Pv : Nat → St → Hp → Prop) (h0 : Pv 0 σ H)
    (hs : ∀ i σ H, i < n → Pv i σ H → g (.int (lo + i)) σ H fun σ2 H2 => tb { D with nx := Pv (i + 1), ct := Pv (i + 1), bk := D.nx } σ2 H2) (hd : ∀ σ H, Pv n σ H → D.nx σ H) :
    ∃ W : Nat → Nat → St → Hp → Prop, (∃ m, W 0 m σ H) ∧ ∀ i m σ H, W i m σ H →
      ((Itr lo n).stop i H ∧ D.nx σ H) ∨ ((Itr lo n).go i H ∧ ∃ N : St → Hp → Prop, (∀ σ' H', N σ' H' → ∃ m', m' < m ∧ W (i + 1) m' σ' H') ∧ ∀ x H', (Itr lo n).yld i H x H' → g x σ H' fun σ2 H2 => tb { D with nx := N, ct := N, bk := D.nx } σ2 H2) := by
  refine ⟨fun i m σ H => m = n - i ∧ i ≤ n ∧ Pv i σ H, ⟨n, by simp, Nat.zero_le _, h0⟩, ?_⟩
  rintro i m σ H ⟨rfl, hi, p⟩
  by_cases hlt : i < n
  · refine .inr ⟨hlt, Pv (i + 1), fun σ' H' p' => ⟨n - (i + 1), by omega, rfl, hlt, p'⟩, fun x H' y => ?_⟩
    obtain ⟨e, y⟩ := y
    subst e y
    exact hs i σ _ hlt p
  · have e : i = n := by omega
    subst e
    exact .inl ⟨Nat.le_refl _, hd σ H p⟩
end L2

namespace L2
open PySem PySem.Spec PyProof.Rows

abbrev R2 := V → V → Hp → VK → Prop
/-- a two-place operation on values: f is binaryOp op, inplaceOp op or compareOp op -/
def OpR (X : Cx) (f : Value → Value → Sem Value) (r : R2) : Prop :=
  ∀ (pins : List (Addr × Obj)) (s : Shared) (σ : St) (H : Hp) (x y : V) (v u : Value) (Q : VK), Inv X pins σ H s → RelV x v → RelV y u → r x y H Q →
    wpAny (model X.prog X.w) X.A (f v u) (EP X pins σ Q) X.xe s
/-- a one-place operation -/
def UnR (X : Cx) (f : Value → Sem Value) (r : V → Hp → VK → Prop) : Prop :=
  ∀ (pins : List (Addr × Obj)) (s : Shared) (σ : St) (H : Hp) (x : V) (v : Value) (Q : VK), Inv X pins σ H s → RelV x v → r x H Q →
    wpAny (model X.prog X.w) X.A (f v) (EP X pins σ Q) X.xe s
/-- a call of a value that is known (a builtin, a type) with values -/
def CallR (X : Cx) (f : Value) (r : List V → Hp → VK → Prop) : Prop :=
  ∀ (pins : List (Addr × Obj)) (s : Shared) (σ : St) (H : Hp) (xs : List V) (us : List Value) (Q : VK), Inv X pins σ H s → Vals xs us → r xs H Q →
    wpAny (model X.prog X.w) X.A (call f us) (EP X pins σ Q) X.xe s
def tOp (r : R2) (ta tb : TE) : TE := fun σ H Q => ta σ H fun x H1 => tb σ H1 fun y H2 => r x y H2 Q
def tUn (r : V → Hp → VK → Prop) (ta : TE) : TE := fun σ H Q => ta σ H fun x H1 => r x H1 Q
/-- ints in, under C, and a value out -/
def rI (C : Int → Int → Prop) (g : Int → Int → V) : R2 := fun x y H Q => ∃ i j, x = .int i ∧ y = .int j ∧ C i j ∧ Q (g i j) H
def rI0 (g : Int → Int → V) : R2 := fun x y H Q => ∃ i j, x = .int i ∧ y = .int j ∧ Q (g i j) H
def rU (g : Int → V) : V → Hp → VK → Prop := fun x H Q => ∃ i, x = .int i ∧ Q (g i) H

section
variable {X : Cx} {a b c : Expr} {ta tb tc : TE} {pos : Pos}

theorem binT (ha : PE X a ta) (hb : PE X b tb) {pins : List (Addr × Obj)} {s : Shared} {σ : St} {H : Hp} {R : V → V → Hp → Prop} (I : Inv X pins σ H s)
    (h : ta σ H fun x H1 => tb σ H1 fun y H2 => R x y H2) {Q : Value → Shared → Prop} {f : Value → Value → Sem Value}
    (hf : ∀ v u s2 x y H2, Inv X pins σ H2 s2 → RelV x v → RelV y u → R x y H2 → wpAny (model X.prog X.w) X.A (f v u) Q X.xe s2) :
    wpAny (model X.prog X.w) X.A (eval a X.env) (fun v s₁ => wpAny (model X.prog X.w) X.A (eval b X.env) (fun u s₂ => wpAny (model X.prog X.w) X.A (f v u) Q X.xe s₂) X.xe s₁) X.xe s := by
  refine thn (ha pins s σ H _ I h) fun v s1 ⟨x, H1, I1, r1, q1⟩ => ?_
  refine thn (hb pins s1 σ H1 _ I1 q1) fun u s2 ⟨y, H2, I2, r2, q2⟩ => ?_
  exact hf v u s2 x y H2 I2 r1 r2 q2

theorem pe_op {op : Operator} {r : R2} (ho : OpR X (binaryOp op) r) (ha : PE X a ta) (hb : PE X b tb) : PE X (.BinOp a op b pos) (tOp r ta tb) := by
  intro pins s σ H Q I h
  exact wpAny_BinOp (binT ha hb I h fun v u s2 x y H2 I2 rx ry q => ho pins s2 σ H2 x y v u Q I2 rx ry q)
theorem pe_un {op : UnaryOp} {r : V → Hp → VK → Prop} (ho : UnR X (unaryOp op) r) (ha : PE X a ta) : PE X (.UnaryOp op a pos) (tUn r ta) := by
  intro pins s σ H Q I h
  exact UnaryOp_ (thn (ha pins s σ H _ I h) fun v s1 ⟨x, H1, I1, r1, q1⟩ => ho pins s1 σ H1 x v Q I1 r1 q1)
/-! ### ints -/
theorem opI {f : Value → Value → Sem Value} {C : Int → Int → Prop} {g : Int → Int → Int}
    (rule : ∀ (i j : Int) (t u : Tok) (s : Shared) (Q : Value → Shared → Prop) (E : Value → Shared → Prop), C i j → Q (.int (g i j) s.toks) { s with toks := s.toks + 1 } → wpAny (model X.prog X.w) X.A (f (.int i t) (.int j u)) Q E s) :
    OpR X f (rI C fun i j => .int (g i j)) := by
  intro pins s σ H x y v u Q I rx ry h
  obtain ⟨i, j, rfl, rfl, hc, q⟩ := h
  obtain ⟨t, rfl⟩ := rx
  obtain ⟨t', rfl⟩ := ry
  exact rule i j t t' s _ _ hc ⟨.int (g i j), H, I.tok _, ⟨_, rfl⟩, q⟩
theorem opI0 {f : Value → Value → Sem Value} {g : Int → Int → Int}
    (rule : ∀ (i j : Int) (t u : Tok) (s : Shared) (Q : Value → Shared → Prop) (E : Value → Shared → Prop), Q (.int (g i j) s.toks) { s with toks := s.toks + 1 } → wpAny (model X.prog X.w) X.A (f (.int i t) (.int j u)) Q E s) :
    OpR X f (rI0 fun i j => .int (g i j)) := by
  intro pins s σ H x y v u Q I rx ry h
  obtain ⟨i, j, rfl, rfl, q⟩ := h
  obtain ⟨t, rfl⟩ := rx
  obtain ⟨t', rfl⟩ := ry
  exact rule i j t t' s _ _ ⟨.int (g i j), H, I.tok _, ⟨_, rfl⟩, q⟩
theorem opB0 {f : Value → Value → Sem Value} {g : Int → Int → Bool}
    (rule : ∀ (i j : Int) (t u : Tok) (s : Shared) (Q : Value → Shared → Prop) (E : Value → Shared → Prop), Q (.bool (g i j)) s → wpAny (model X.prog X.w) X.A (f (.int i t) (.int j u)) Q E s) :
    OpR X f (rI0 fun i j => .bl (g i j)) := by
  intro pins s σ H x y v u Q I rx ry h
  obtain ⟨i, j, rfl, rfl, q⟩ := h
  obtain ⟨t, rfl⟩ := rx
  obtain ⟨t', rfl⟩ := ry
  exact rule i j t t' s _ _ ⟨.bl (g i j), H, I, rfl, q⟩

def CDiv (i j : Int) : Prop := 0 < j ∧ j < 1073741824
def CPow (i j : Int) : Prop := 0 ≤ j ∧ j ≤ 1000000 ∧ i.natAbs < 2 ^ 64
def CMul (i j : Int) : Prop := (-(2 ^ 64) < i ∧ i < 2 ^ 64) ∨ (-(2 ^ 64) < j ∧ j < 2 ^ 64)
theorem CMul.ok {i j : Int} (h : CMul i j) : IntMulOk i j := by
  rcases h with ⟨h1, h2⟩ | ⟨h1, h2⟩
  · exact .of_left (intBits_le_64 h1 h2)
  · exact .of_right (intBits_le_64 h1 h2)
theorem op_add : OpR X (binaryOp .Add) (rI0 fun i j => .int (i + j)) := opI0 fun _ _ _ _ _ _ _ q => add_int q
theorem op_sub : OpR X (binaryOp .Sub) (rI0 fun i j => .int (i - j)) := opI0 fun _ _ _ _ _ _ _ q => sub_int q
theorem op_mul : OpR X (binaryOp .Mult) (rI CMul fun i j => .int (i * j)) := opI fun _ _ _ _ _ _ _ hc q => mul_int q hc.ok
/-- // by a positive divisor -/
theorem op_fdiv : OpR X (binaryOp .FloorDiv) (rI CDiv fun i j => .int (i / j)) := opI fun i j _ _ _ _ _ hc q => by
  have h1 : (0 : Int) < j := hc.1
  have h2 : j < 1073741824 := hc.2
  exact floordiv_int (by omega) (by rw [Int.fdiv_eq_ediv_of_nonneg i (by omega)]; exact q) (.inl (PyProof.noPylong_small (by omega)))
/-- % by a positive divisor of any size -/
theorem op_mod : OpR X (binaryOp .Mod) (rI (fun _ j => 0 < j) fun i j => .int (i % j)) := opI fun i j _ _ _ _ _ hc q => by
  have h1 : (0 : Int) < j := hc
  exact mod_int' (by omega) (by rw [Int.fmod_eq_emod_of_nonneg i (by omega)]; exact q)
theorem op_pow : OpR X (binaryOp .Pow) (rI CPow fun i j => .int (i ^ j.toNat)) := opI fun _ _ _ _ _ _ _ hc q => pow_int_small hc.1 hc.2.1 hc.2.2 q
theorem unI {f : Value → Sem Value} {g : Int → Int}
    (rule : ∀ (i : Int) (t : Tok) (s : Shared) (Q : Value → Shared → Prop) (E : Value → Shared → Prop), Q (.int (g i) s.toks) { s with toks := s.toks + 1 } → wpAny (model X.prog X.w) X.A (f (.int i t)) Q E s) :
    UnR X f (rU fun i => .int (g i)) := by
  intro pins s σ H x v Q I rx h
  obtain ⟨i, rfl, q⟩ := h
  obtain ⟨t, rfl⟩ := rx
  exact rule i t s _ _ ⟨.int (g i), H, I.tok _, ⟨_, rfl⟩, q⟩
theorem un_neg : UnR X (unaryOp .USub) (rU fun i => .int (-i)) := unI fun _ _ _ _ _ q => neg_int q
/-! ### bools among ints: n += (a < b) -/
end

/-! ### comparisons -/
/-- the scalars that == tells apart as data does -/
def scal : V → V → Bool
  | .non, .non => true | .non, .int _ => true | .int _, .non => true | .non, .bl _ => true | .bl _, .non => true | .non, .str _ => true | .str _, .non => true
  | .int _, .int _ => true | .bl _, .bl _ => true | .str _, .str _ => true | .byt _, .byt _ => true
  | .int _, .str _ => true | .str _, .int _ => true | .bl _, .str _ => true | .str _, .bl _ => true
  | _, _ => false
def rEq : R2 := fun x y H Q => scal x y = true ∧ Q (.bl (decide (x = y))) H
def rNe : R2 := fun x y H Q => scal x y = true ∧ Q (.bl (!decide (x = y))) H

theorem dec_int {i j : Int} : decide (V.int i = V.int j) = (i == j) := by
  rw [Bool.eq_iff_iff]
  simp
theorem dec_bl {i j : Bool} : decide (V.bl i = V.bl j) = (i == j) := by
  rw [Bool.eq_iff_iff]
  simp
theorem dec_str {i j : Str} : decide (V.str i = V.str j) = (i == j) := by
  rw [Bool.eq_iff_iff]
  simp
theorem dec_byt {i j : Array UInt8} : decide (V.byt i = V.byt j) = (i.toList == j.toList) := by
  rw [Bool.eq_iff_iff]
  cases i
  cases j
  simp

section
variable {X : Cx} {a b c : Expr} {ta tb tc : TE} {pos : Pos}
theorem fin_bl {pins : List (Addr × Obj)} {σ : St} {H : Hp} {s : Shared} {Q : VK} {k k' : Bool} (I : Inv X pins σ H s) (q : Q (.bl k) H) (e : k = k') : EP X pins σ Q (.bool k') s := by
  subst e
  exact ⟨.bl k, H, I, rfl, q⟩
theorem op_eq : OpR X (compareOp .Eq) rEq := by
  intro pins s σ H x y v u Q I rx ry h
  obtain ⟨hs, q⟩ := h
  cases x with
  | non =>
    cases rx
    cases y with
    | non => cases ry; exact PySem.EqNone.eq_none_none (fin_bl I q (by simp))
    | bl j => cases ry; exact PySem.EqNone.eq_none_bool (fin_bl I q (by simp))
    | int j => obtain ⟨t', rfl⟩ := ry; exact PySem.EqNone.eq_none_int (fin_bl I q (by simp))
    | str j => obtain ⟨t', rfl⟩ := ry; exact PySem.EqNone.eq_none_str (fin_bl I q (by simp))
    | _ => exact absurd (show false = true from hs) Bool.false_ne_true
  | bl i =>
    cases rx
    cases y with
    | non => cases ry; exact PySem.EqNone.eq_bool_none (fin_bl I q (by simp))
    | bl j => cases ry; exact eq_bool (fin_bl I q dec_bl)
    | str j => obtain ⟨t', rfl⟩ := ry; exact PySem.EqMixed.eq_bool_str (fin_bl I q (by simp))
    | _ => exact absurd (show false = true from hs) Bool.false_ne_true
  | int i =>
    obtain ⟨t, rfl⟩ := rx
    cases y with
    | non => cases ry; exact PySem.EqNone.eq_int_none (fin_bl I q (by simp))
    | int j => obtain ⟨t', rfl⟩ := ry; exact eq_int (fin_bl I q dec_int)
    | str j => obtain ⟨t', rfl⟩ := ry; exact PySem.EqMixed.eq_int_str (fin_bl I q (by simp))
    | _ => exact absurd (show false = true from hs) Bool.false_ne_true
  | str i =>
    obtain ⟨t, rfl⟩ := rx
    cases y with
    | non => cases ry; exact PySem.EqNone.eq_str_none (fin_bl I q (by simp))
    | bl j => cases ry; exact PySem.EqMixed.eq_str_bool (fin_bl I q (by simp))
    | int j => obtain ⟨t', rfl⟩ := ry; exact PySem.EqMixed.eq_str_int (fin_bl I q (by simp))
    | str j => obtain ⟨t', rfl⟩ := ry; exact eq_str (fin_bl I q dec_str)
    | _ => exact absurd (show false = true from hs) Bool.false_ne_true
  | byt i =>
    obtain ⟨t, rfl⟩ := rx
    cases y with
    | byt j => obtain ⟨t', rfl⟩ := ry; exact PySem.W.eq_bytes (fin_bl I q dec_byt)
    | _ => exact absurd (show false = true from hs) Bool.false_ne_true
  | _ => cases y <;> exact absurd (show false = true from hs) Bool.false_ne_true
theorem op_ne : OpR X (compareOp .NotEq) rNe := by
  intro pins s σ H x y v u Q I rx ry h
  obtain ⟨hs, q⟩ := h
  cases x with
  | non =>
    cases rx
    cases y with
    | non => cases ry; exact PySem.EqNone.ne_none_none (fin_bl I q (by simp))
    | bl j => cases ry; exact PySem.EqNone.ne_none_bool (fin_bl I q (by simp))
    | int j => obtain ⟨t', rfl⟩ := ry; exact PySem.EqNone.ne_none_int (fin_bl I q (by simp))
    | str j => obtain ⟨t', rfl⟩ := ry; exact PySem.EqNone.ne_none_str (fin_bl I q (by simp))
    | _ => exact absurd (show false = true from hs) Bool.false_ne_true
  | bl i =>
    cases rx
    cases y with
    | non => cases ry; exact PySem.EqNone.ne_bool_none (fin_bl I q (by simp))
    | bl j => cases ry; exact ne_bool (fin_bl I q (congrArg not dec_bl))
    | str j => obtain ⟨t', rfl⟩ := ry; exact PySem.EqMixed.ne_bool_str (fin_bl I q (by simp))
    | _ => exact absurd (show false = true from hs) Bool.false_ne_true
  | int i =>
    obtain ⟨t, rfl⟩ := rx
    cases y with
    | non => cases ry; exact PySem.EqNone.ne_int_none (fin_bl I q (by simp))
    | int j => obtain ⟨t', rfl⟩ := ry; exact ne_int (fin_bl I q (congrArg not dec_int))
    | str j => obtain ⟨t', rfl⟩ := ry; exact PySem.EqMixed.ne_int_str (fin_bl I q (by simp))
    | _ => exact absurd (show false = true from hs) Bool.false_ne_true
  | str i =>
    obtain ⟨t, rfl⟩ := rx
    cases y with
    | non => cases ry; exact PySem.EqNone.ne_str_none (fin_bl I q (by simp))
    | bl j => cases ry; exact PySem.EqMixed.ne_str_bool (fin_bl I q (by simp))
    | int j => obtain ⟨t', rfl⟩ := ry; exact PySem.EqMixed.ne_str_int (fin_bl I q (by simp))
    | str j => obtain ⟨t', rfl⟩ := ry; exact ne_str (fin_bl I q (congrArg not dec_str))
    | _ => exact absurd (show false = true from hs) Bool.false_ne_true
  | byt i =>
    obtain ⟨t, rfl⟩ := rx
    cases y with
    | byt j => obtain ⟨t', rfl⟩ := ry; exact PySem.W.ne_bytes (fin_bl I q (congrArg not dec_byt))
    | _ => exact absurd (show false = true from hs) Bool.false_ne_true
  | _ => cases y <;> exact absurd (show false = true from hs) Bool.false_ne_true

theorem op_lt : OpR X (compareOp .Lt) (rI0 fun i j => .bl (decide (i < j))) := opB0 fun _ _ _ _ _ _ _ q => lt_int q
theorem op_le : OpR X (compareOp .LtE) (rI0 fun i j => .bl (decide (i ≤ j))) := opB0 fun _ _ _ _ _ _ _ q => le_int q
theorem op_gt : OpR X (compareOp .Gt) (rI0 fun i j => .bl (decide (j < i))) := opB0 fun _ _ _ _ _ _ _ q => gt_int q
theorem op_ge : OpR X (compareOp .GtE) (rI0 fun i j => .bl (decide (j ≤ i))) := opB0 fun _ _ _ _ _ _ _ q => ge_int q
theorem op_notN : OpR X (compareOp .IsNot) (fun x y H Q => y = .non ∧ Q (.bl (!decide (x = .non))) H) := by
  intro pins s σ H x y v u Q I rx ry h
  obtain ⟨rfl, q⟩ := h
  cases ry
  refine isnot_none_gen (fin_bl I q ?_)
  cases x <;> first
    | (cases rx; rfl)
    | (obtain ⟨t, rfl⟩ := rx; rfl)

theorem nomark (b : Expr) {op : CmpOp} (h : op ≠ .In := by decide) (h2 : op ≠ .NotIn := by decide) : behindInMarks op b = false := by
  have e1 : (op == CmpOp.In) = false := by cases op <;> first | rfl | exact absurd rfl h
  have e2 : (op == CmpOp.NotIn) = false := by cases op <;> first | rfl | exact absurd rfl h2
  cases b <;> simp [behindInMarks, e1, e2]
/-- a comparison as a value; hm: nomark b, or (for in, not in) by with_unfolding_all rfl -/
theorem pe_cmpR {op : CmpOp} {r : R2} (ho : OpR X (compareOp op) r) (ha : PE X a ta) (hb : PE X b tb) (hm : behindInMarks op b = false) : PE X (.Compare a [op] [b] pos) (tOp r ta tb) := by
  intro pins s σ H Q I h
  exact wpAny_Compare1 (binT ha hb I h fun v u s2 x y H2 I2 rx ry q => ho pins s2 σ H2 x y v u Q I2 rx ry q) hm
/-- a reading of a value as a test -/
def tTest (t : TE) : TT := fun σ H Q => t σ H fun x H' => ∃ k, x = .bl k ∧ Q k H'
theorem pt_cmpR {op : CmpOp} {r : R2} (ho : OpR X (compareOp op) r) (ha : PE X a ta) (hb : PE X b tb) (hm : behindInMarks op b = false) : PT X (.Compare a [op] [b] pos) (tTest (tOp r ta tb)) := by
  intro pins s σ H Q I h
  refine wpAny_isTrue_Compare1 (thn (ha pins s σ H _ I h) fun v s1 ⟨x, H1, I1, r1, q1⟩ => thn (hb pins s1 σ H1 _ I1 q1) fun u s2 ⟨y, H2, I2, r2, q2⟩ =>
    thn (ho pins s2 σ H2 x y v u _ I2 r1 r2 q2) fun c s3 ⟨z, H3, I3, r3, k, e, q3⟩ => ?_) hm
  subst e
  cases r3
  exact wpAny_truthy_bool ⟨H3, I3, q3⟩
/-- a op1 b op2 c -/
def tChain (r r' : R2) (ta tb tc : TE) : TE := fun σ H Q => ta σ H fun x H1 => tb σ H1 fun y H2 => r x y H2 fun z H3 => ∃ k, z = .bl k ∧
  (if k = true then tc σ H3 fun w' H4 => r' y w' H4 Q else Q (.bl false) H3)
theorem pe_chain {op op' : CmpOp} {r r' : R2} (ho : OpR X (compareOp op) r) (ho' : OpR X (compareOp op') r') (ha : PE X a ta) (hb : PE X b tb) (hc : PE X c tc)
    (hm : lastMarks [op, op'] [b, c] = false := by with_unfolding_all rfl) : PE X (.Compare a [op, op'] [b, c] pos) (tChain r r' ta tb tc) := by
  intro pins s σ H Q I h
  refine Compare_chain (thn (ha pins s σ H _ I h) fun v s1 ⟨x, H1, I1, r1, q1⟩ => chain_link (thn (hb pins s1 σ H1 _ I1 q1) fun u s2 ⟨y, H2, I2, r2, q2⟩ =>
    thn (ho pins s2 σ H2 x y v u _ I2 r1 r2 q2) fun d s3 ⟨z, H3, I3, r3, k, e, q3⟩ => ?_)) hm
  subst e
  cases r3
  refine wpAny_truthy_bool ?_
  cases k with
  | false => exact ite_ff ⟨.bl false, H3, I3, rfl, q3⟩
  | true => exact ite_tt (chain_last (thn (hc pins s3 σ H3 _ I3 q3) fun w' s4 ⟨z', H4, I4, r4, q4⟩ => ho' pins s4 σ H4 y z' u w' Q I4 r2 r4 q4))
/-! ### truth -/
theorem line63 : (sizeLine : Nat) < 2 ^ 63 := by rw [sizeLine_eq]; decide
/-! ### strs and bytes -/
/-! ### scalar builtins, by CallR -/
theorem vals1 {x : V} {us : List Value} (r : Vals [x] us) : ∃ u, us = [u] ∧ RelV x u := by
  cases r with
  | cons r1 r2 => cases r2; exact ⟨_, rfl, r1⟩
theorem vals2 {x y : V} {us : List Value} (r : Vals [x, y] us) : ∃ u w', us = [u, w'] ∧ RelV x u ∧ RelV y w' := by
  cases r with
  | cons r1 r2 =>
    cases r2 with
    | cons r3 r4 => cases r4; exact ⟨_, _, rfl, r1, r3⟩
theorem call_abs : CallR X (.builtin "abs") (fun xs H Q => ∃ i, xs = [.int i] ∧ Q (.int (if i < 0 then -i else i)) H) := by
  intro pins s σ H xs us Q I r h
  obtain ⟨i, rfl, q⟩ := h
  obtain ⟨u, rfl, t, rfl⟩ := vals1 r
  exact call_abs_int fun u tk => ⟨.int (if i < 0 then -i else i), H, I.tok _, ⟨_, rfl⟩, q⟩
theorem call_int1 : CallR X (.type "int") (fun xs H Q => (∃ i, xs = [.int i] ∧ Q (.int i) H) ∨ ∃ k, xs = [.bl k] ∧ Q (.int (if k then 1 else 0)) H) := by
  intro pins s σ H xs us Q I r h
  rcases h with ⟨i, rfl, q⟩ | ⟨k, rfl, q⟩
  · obtain ⟨u, rfl, t, rfl⟩ := vals1 r
    exact call_int_int ⟨.int i, H, I, ⟨_, rfl⟩, q⟩
  · obtain ⟨u, rfl, r1⟩ := vals1 r
    cases r1
    exact call_int_bool ⟨.int (if k then 1 else 0), H, I.tok _, ⟨_, rfl⟩, q⟩
end
end L2

namespace L2
open PySem PySem.Spec PyProof.Rows

/-! ### an instance, its attributes a map -/
structure ObjM (h : Heap) (x dx C : Addr) (mA : Str → Option Value) : Prop where
  obj : h.get? x = some (PySem.W.instObj C dx)
  ns : h.Ns1 dx mA
  ne : dx ≠ x

theorem lookIn_ns {h : Heap} {dx : Addr} {mA : Str → Option Value} (n : h.Ns1 dx mA) : ∃ od, h.get? dx = some od ∧ ∀ name, PySem.W.lookIn name od = some (mA name) := by
  obtain ⟨o, es, ep, ho, hd, hk, _, hm⟩ := n
  refine ⟨o, ho, fun name => ?_⟩
  have e := hm name
  unfold nsFind findBy at e
  rw [← Array.find?_toList] at e
  unfold PySem.W.lookIn
  rw [hd]
  dsimp only
  split
  · rename_i y q
    rw [q] at e
    exact congrArg some e
  · rename_i q
    rw [q] at e
    have a : es.toList.any (·.refKey) = false := by
      rw [List.any_eq_false]
      intro y hy
      obtain ⟨z, t, hkey⟩ := hk y (Array.mem_toList_iff.mp hy)
      simp [DictEntry.refKey, hkey]
    have a' : ¬ es.toList.any (·.refKey) = true := by rw [a]; exact Bool.false_ne_true
    rw [if_neg a']
    exact congrArg some e

theorem ObjM.look {h : Heap} {x dx C : Addr} {mA : Str → Option Value} (I : ObjM h x dx C mA) : ∃ od, PySem.W.InstAt h x (PySem.W.instObj C dx) C (some od) ∧ ∀ name, PySem.W.lookIn name od = some (mA name) :=
  let ⟨od, ho, hl⟩ := lookIn_ns I.ns
  ⟨od, ⟨I.obj, rfl, rfl, ho⟩, hl⟩

section
variable {prog : Program} {w : World} {A : Around} {E : Value → Shared → Prop} {s : Shared} {K : PySem.W.Frag} {x dx C f : Addr} {mA : Str → Option Value} {name : Str} {v : Value}

theorem get_map {expr : Bool} {Q : Value → Shared → Prop} (X : K.In s.heap) (I : ObjM s.heap x dx C mA) (hg : PySem.W.plainGet K C name = true) (hh : PySem.W.hasDictIn K C = true)
    (ha : PySem.W.findIn K (.ref C) name = some none) (hv : mA name = some v) (hv' : PySem.W.handedIn v = true) (h : Q v { s with toks := s.toks + 1 }) :
    wpAny (model prog w) A (getAttr (.ref x) name expr) Q E s := by
  obtain ⟨od, J, hl⟩ := I.look
  exact PySem.W.get_value X J (PySem.W.plainGet_of hg).1 (PySem.W.findObj_own hh ha rfl (by rw [hl, hv])) hv' h

theorem get_meth {pl : Sem Bool} {Q : Value × List Value → Shared → Prop} (X : K.In s.heap) (I : ObjM s.heap x dx C mA) (hg : PySem.W.plainGet K C name = true)
    (hf : PySem.W.findIn K (.ref C) name = some (some (.ref f))) (ht : PySem.W.isFn K (.ref f) = true) (hv : mA name = none) (h : Q (.ref f, [.ref x]) s) :
    wpAny (model prog w) A (getMethod (.ref x) name pl) Q E s := by
  obtain ⟨od, J, hl⟩ := I.look
  exact PySem.W.method_fn X J (PySem.W.plainGet_of hg).1 (PySem.W.plainGet_of hg).2 hf (beq_iff_eq.mp ht) (by show (PySem.W.lookIn name od).map (·.isSome) = some false; rw [hl, hv]; rfl) h

theorem set_map {ns : List Str} {Q : Unit → Shared → Prop} (X : K.In s.heap) (I : ObjM s.heap x dx C mA)
    (hs : PySem.W.findIn K (.ref C) "__setattr__" = some (some (.builtin "object.__setattr__"))) (hp : PySem.W.plainOver K C = true) (ht : PySem.W.takerIn K C name = some none) (hh : PySem.W.hasDictIn K C = true)
    (hw : PySem.Within mA ns) (hsz : ns.length ≤ sizeLine)
    (h : ∀ h', ObjM h' x dx C (fun y => if y = name then some v else mA y) → Heap.SameBut dx s.heap h' → Q () { s with heap := h', toks := s.toks + 2 }) :
    wpAny (model prog w) A (setAttr (.ref x) name v) Q E s := by
  obtain ⟨od, J, hl⟩ := I.look
  refine PySem.W.set_plain X J hs (PySem.W.osa_open (s := { s with toks := s.toks + 1 }) (r := none) X J hp ht fun b => ?_)
  obtain ⟨cd, hc, hd'⟩ := PySem.W.any_some hh
  have hx : s.heap.get? x = some ⟨.ref C, some dx, .plain, #[]⟩ := I.obj
  refine wpAny_bind (wpAny_pure (wpAny_bind (wpAny_bind (wpAny_loadPart hx (wpAny_bind (PySem.W.Looks.here (s := { s with toks := s.toks + 1 }) (PySem.W.looks_clsIn X hc) ?_))))))
  rw [hd']
  refine wpAny_pure (a := some dx) (wpAny_bind (wpAny_pure (wpAny_bind ?_)))
  refine wpAny_nsSet1 (s := { s with toks := s.toks + 1 }) I.ns fun h' hn2 hs2 => ?_
  obtain ⟨oD, esD, epD, hoD, hdD, hcD⟩ := hn2.count (PySem.Within.cons name v hw)
  refine wpAny_bind (wpAny_lookBehind hoD (by rw [hdD]; exact pastItsLine_dict (Nat.le_trans hcD (by rw [List.length_cons]; omega))) ?_)
  exact wpAny_pure (h _ ⟨(hs2.2 _ (Ne.symm I.ne)).trans I.obj, hn2, I.ne⟩ hs2)

/-- C(..): the dict at the heap's end, the instance behind it; then its __init__ -/
theorem make_map {R : Result → Shared → Prop} {vs : List Value} {kw : List (Str × Value)} (X : K.In s.heap) (hm : PySem.W.makesIn K C = true)
    (hi : PySem.W.findIn K (.ref C) "__init__" = some (some (.ref f))) (hf : PySem.W.typeIn K (.ref f) = some (.type "function"))
    (h : codeAny (model prog w) (A.under (.builtin "type.__call__" ⟨.ref C :: vs, kw⟩)) (.call (.ref f) ⟨.ref (s.heap.objs.size + 1) :: vs, kw⟩) (PySem.W.InitBack (s.heap.objs.size + 1) R)
      { s with heap := (s.heap.push PySem.W.emptyDict).push (PySem.W.instObj C s.heap.objs.size) }) :
    codeAny (model prog w) A (.call (.ref C) ⟨vs, kw⟩) R s := by
  obtain ⟨hh, g, d, t, os⟩ := s
  exact PySem.W.make_core (PySem.W.makes_of X hm) (PySem.W.looks_findIn X hi) (fun self => PySem.W.bind_fn X self hf) (.inl rfl) h
end

/-! ### the attributes as a list of pairs -/
def putF (f : Str) (v : V) : List (Str × V) → List (Str × V)
  | [] => [(f, v)]
  | (g, x) :: r => if g = f then (g, v) :: r else (g, x) :: putF f v r
theorem lookup_putF (f g : Str) (v : V) : ∀ fs : List (Str × V), (putF f v fs).lookup g = if g = f then some v else fs.lookup g
  | [] => by
    show List.lookup g [(f, v)] = _
    by_cases h : g = f
    · have hb : (g == f) = true := beq_iff_eq.mpr h
      simp only [List.lookup, hb, if_pos h]
    · have hb : (g == f) = false := beq_eq_false_iff_ne.mpr h
      simp only [List.lookup, hb, if_neg h]
  | (k, x) :: r => by
    have ih := lookup_putF f g v r
    rw [show putF f v ((k, x) :: r) = (if k = f then (k, v) :: r else (k, x) :: putF f v r) from rfl]
    by_cases hk : k = f
    · rw [if_pos hk]
      by_cases h : g = k
      · have hb : (g == k) = true := beq_iff_eq.mpr h
        simp only [List.lookup, hb, if_pos (h.trans hk)]
      · have hb : (g == k) = false := beq_eq_false_iff_ne.mpr h
        simp only [List.lookup, hb, if_neg (fun e : g = f => h (e.trans hk.symm))]
    · rw [if_neg hk]
      by_cases h : g = k
      · have hb : (g == k) = true := beq_iff_eq.mpr h
        simp only [List.lookup, hb, if_neg (fun e : g = f => hk (h.symm.trans e))]
      · have hb : (g == k) = false := beq_eq_false_iff_ne.mpr h
        simp only [List.lookup, hb]
        exact ih
theorem keys_putF (f : Str) (v : V) : ∀ fs : List (Str × V), f ∈ (putF f v fs).map (·.1) ∧ ∀ g, g ∈ fs.map (·.1) → g ∈ (putF f v fs).map (·.1)
  | [] => ⟨by simp [putF], fun g h => by simp at h⟩
  | (k, x) :: r => by
    obtain ⟨i1, i2⟩ := keys_putF f v r
    rw [show putF f v ((k, x) :: r) = (if k = f then (k, v) :: r else (k, x) :: putF f v r) from rfl]
    by_cases hk : k = f
    · rw [if_pos hk]
      subst hk
      exact ⟨by simp, fun g h => by simpa using h⟩
    · rw [if_neg hk]
      refine ⟨?_, fun g h => ?_⟩
      · rw [List.map_cons]
        exact List.mem_cons_of_mem _ i1
      · rw [List.map_cons] at h ⊢
        rcases List.mem_cons.mp h with e | e
        · exact List.mem_cons.mpr (.inl e)
        · exact List.mem_cons_of_mem _ (i2 g e)
theorem length_putF (f : Str) (v : V) : ∀ fs : List (Str × V), (putF f v fs).length ≤ fs.length + 1
  | [] => by simp [putF]
  | (k, x) :: r => by
    have ih := length_putF f v r
    rw [show putF f v ((k, x) :: r) = (if k = f then (k, v) :: r else (k, x) :: putF f v r) from rfl]
    by_cases hk : k = f
    · rw [if_pos hk, List.length_cons, List.length_cons]; omega
    · rw [if_neg hk, List.length_cons, List.length_cons]; omega

theorem RelO.some_of {v : V} {o : Option Value} (r : RelO (some v) o) : ∃ u, o = some u ∧ RelV v u := by
  cases o with
  | none => exact (show False from r).elim
  | some u => exact ⟨u, rfl, r⟩
theorem RelO.none_of {o : Option Value} (r : RelO none o) : o = none := by
  cases o with
  | none => rfl
  | some u => exact (show False from r).elim
theorem handed_of {v : V} {u : Value} (r : RelV v u) : PySem.W.handedIn u = true := by
  cases v with
  | non => cases (show u = Value.none from r); rfl
  | bl b => cases (show u = Value.bool b from r); rfl
  | int i => obtain ⟨t, e⟩ := (show ∃ t, u = Value.int i t from r); cases e; rfl
  | str x => obtain ⟨t, e⟩ := (show ∃ t, u = Value.str x t from r); cases e; rfl
  | byt b => obtain ⟨t, e⟩ := (show ∃ t, u = Value.bytes b t from r); cases e; rfl
  | flt b => obtain ⟨t, e⟩ := (show ∃ t, u = Value.float b t from r); cases e; rfl
  | ref a => cases (show u = Value.ref a from r); rfl
  | ty n => cases (show u = Value.type n from r); rfl

section
variable {P : Program} {w : World} {H H' : Hp} {h h' : Heap} {a C dx : Addr} {fs fs' : List (Str × V)}
theorem ins_get (hok : HOk P w H h) (e : H a = some (.ins C dx fs)) : ∃ mA, ObjM h a dx C mA ∧ (∀ f, RelO (fs.lookup f) (mA f)) ∧ PySem.Within mA (fs.map (·.1)) ∧ fs.length ≤ 1000 ∧ H dx = some (.own a) := by
  obtain ⟨d, z, ne, ob, mA, n, r, q⟩ := (show ObjOk P w H h a (.ins C dx fs) from hok a _ e)
  exact ⟨mA, ⟨ob, n, ne⟩, r, q, z, d⟩
end

/-! ### what of the text a class must have -/
structure Cls (K : PySem.W.Frag) (C : Addr) : Prop where
  pg : PySem.W.plainGet K C Str.empty = true
  hd : PySem.W.hasDictIn K C = true
  po : PySem.W.plainOver K C = true
  sa : PySem.W.findIn K (.ref C) "__setattr__" = some (some (.builtin "object.__setattr__"))
theorem Cls.get {K : PySem.W.Frag} {C : Addr} (c : Cls K C) (f : Str) : PySem.W.plainGet K C f = true := c.pg
/-- no class of it has the name -/
def NoAttr (K : PySem.W.Frag) (C : Addr) (f : Str) : Prop := PySem.W.findIn K (.ref C) f = some none
theorem NoAttr.taker {K : PySem.W.Frag} {C : Addr} {f : Str} (n : NoAttr K C f) : PySem.W.takerIn K C f = some none := by
  unfold PySem.W.takerIn
  rw [show PySem.W.findIn K (.ref C) f = some none from n]
  rfl
/-- a method: a plain def of the class or of one above it -/
structure Meth (K : PySem.W.Frag) (C : Addr) (m : Str) (f : Addr) : Prop where
  at_ : PySem.W.findIn K (.ref C) m = some (some (.ref f))
  fn : PySem.W.isFn K (.ref f) = true
  kp : PySem.W.keepIn K (.ref f) = true

section
variable {X : Cx} {pins : List (Addr × Obj)} {σ : St} {H : Hp} {s : Shared} {a C dx : Addr} {fs : List (Str × V)} {f : Str} {v : V} {A : Around} {E : Value → Shared → Prop}

theorem getattr_ok {b : Bool} {Q : Value → Shared → Prop} (I : Inv X pins σ H s) (e : H a = some (.ins C dx fs)) (c : Cls X.K C) (n : NoAttr X.K C f) (l : fs.lookup f = some v)
    (h : ∀ u s', Inv X pins σ H s' → RelV v u → Q u s') : wpAny (model X.prog X.w) A (getAttr (.ref a) f b) Q E s := by
  obtain ⟨mA, O, r, _, _, _⟩ := ins_get I.hok e
  obtain ⟨u, hu, ru⟩ := RelO.some_of (v := v) (o := mA f) (by rw [← l]; exact r f)
  exact get_map I.kIn O (c.get f) c.hd n hu (handed_of ru) (h u _ (I.tok _) ru)

theorem getmeth_ok {m : Str} {g : Addr} {pl : Sem Bool} {Q : Value × List Value → Shared → Prop} (I : Inv X pins σ H s) (e : H a = some (.ins C dx fs)) (c : Cls X.K C) (k : Meth X.K C m g) (l : fs.lookup m = none)
    (h : Q (.ref g, [.ref a]) s) : wpAny (model X.prog X.w) A (getMethod (.ref a) m pl) Q E s := by
  obtain ⟨mA, O, r, _, _, _⟩ := ins_get I.hok e
  have hn : mA m = none := RelO.none_of (by rw [← l]; exact r m)
  exact get_meth I.kIn O (c.get m) k.at_ k.fn hn h

theorem setattr_ok {y : V} {u : Value} {Q : Unit → Shared → Prop} (I : Inv X pins σ H s) (e : H a = some (.ins C dx fs)) (c : Cls X.K C) (n : NoAttr X.K C f) (hl : fs.length < 1000) (ry : RelV y u)
    (h : ∀ s', Inv X pins σ (upd H a (.ins C dx (putF f y fs))) s' → Q () s') : wpAny (model X.prog X.w) A (setAttr (.ref a) f u) Q E s := by
  obtain ⟨mA, O, r, wi, _, ho⟩ := ins_get I.hok e
  have hz : (fs.map (·.1)).length ≤ sizeLine := by rw [List.length_map, sizeLine_eq]; omega
  refine set_map I.kIn O c.sa c.po n.taker c.hd wi hz fun h' O' sb => h _ ?_
  have hd : ∃ o, h'.get? dx = some o := let ⟨o, _, _, e', _⟩ := O'.ns; ⟨o, e'⟩
  refine I.write (x := a) (e := dx) (by rw [e]; exact True.intro) (.inr ho) (fun b q hb z => (sb.2 b hb).trans z) hd ?_
  refine ⟨by rw [upd_ne O.ne]; exact ho, ?_, O.ne, O'.obj, _, O'.ns, fun g => ?_, fun g hg => ?_⟩
  · have := length_putF f y fs; omega
  · show RelO ((putF f y fs).lookup g) (if g = f then some u else mA g)
    rw [lookup_putF]
    by_cases q : g = f
    · rw [if_pos q, if_pos q]; exact ry
    · rw [if_neg q, if_neg q]; exact r g
  · by_cases q : g = f
    · rw [q]; exact (keys_putF f y fs).1
    · refine (keys_putF f y fs).2 g (wi g fun z => hg ?_)
      show (if g = f then some u else mA g) = none
      rw [if_neg q]; exact z

/-- a new instance, tracked, without attributes -/
theorem Inv.made (I : Inv X pins σ H s) : Inv X pins σ (upd (upd H s.heap.objs.size (.own (s.heap.objs.size + 1))) (s.heap.objs.size + 1) (.ins C s.heap.objs.size []))
    { s with heap := (s.heap.push PySem.W.emptyDict).push (PySem.W.instObj C s.heap.objs.size) } := by
  have e1 : (s.heap.push PySem.W.emptyDict).get? s.heap.objs.size = some PySem.W.emptyDict := Heap.get?_push_size s.heap rfl
  have e2 : ((s.heap.push PySem.W.emptyDict).push (PySem.W.instObj C s.heap.objs.size)).get? (s.heap.objs.size + 1) = some (PySem.W.instObj C s.heap.objs.size) := by
    have := Heap.get?_push_size (s.heap.push PySem.W.emptyDict) (o := PySem.W.instObj C s.heap.objs.size) rfl
    rwa [Heap.size_push] at this
  have e3 : (s.heap.push PySem.W.emptyDict).Ns s.heap.objs.size (fun _ => none) := ⟨PySem.W.emptyDict, #[], _, e1, rfl, (fun e he => absurd he (by simp)), fun _ => rfl⟩
  have I1 := I.laid (a := s.heap.objs.size) (o := .own (s.heap.objs.size + 1)) (h' := s.heap.push PySem.W.emptyDict) (t' := s.toks) (fun b u q => Heap.get?_push_of_some _ q) (Nat.le_refl _) ⟨_, e1⟩
  refine I1.laid (a := s.heap.objs.size + 1) (o := .ins C s.heap.objs.size []) (t' := s.toks) (fun b u q => Heap.get?_push_of_some _ q) (Nat.le_of_eq (Heap.size_push _ _)) ?_
  have ne : s.heap.objs.size ≠ s.heap.objs.size + 1 := Nat.ne_of_lt (Nat.lt_succ_self _)
  refine ⟨by rw [upd_ne ne, upd_same], Nat.zero_le _, ne, e2, fun _ => none, (Heap.Ns1.of_empty e3).at fun o q => Heap.get?_push_of_some _ q, fun _ => True.intro, fun y hy => absurd rfl hy⟩

/-- e.f where nothing but the object is asked: through attributeBase (super) and the last hold -/
theorem attr_of {prog : Program} {w : World} {env : Env} {e : Expr} {f : Str} {pos : Pos} {s : Shared} {Q : Value → Shared → Prop} (hb : attributeBase e f env (eval e env) = eval e env)
    (h : wpAny (model prog w) A (eval e env) (fun o s₁ => wpAny (model prog w) A (getAttr o f true) Q E s₁) E s) : wpAny (model prog w) A (eval (.Attribute e f pos) env) Q E s :=
  Attribute_any_ h (by rw [arm_eval_Attribute, hb])
end

/-! ### readings and rules -/
/-- e.f, an attribute of the instance -/
def tFld (K : PySem.W.Frag) (ta : TE) (f : Str) : TE := fun σ H Q => ta σ H fun x H1 => ∃ a C dx fs v, x = .ref a ∧ H1 a = some (.ins C dx fs) ∧ Cls K C ∧ NoAttr K C f ∧ fs.lookup f = some v ∧ Q v H1
/-- e.f = value -/
def sFld (K : PySem.W.Frag) (ta tv : TE) (f : Str) : TS := fun D σ H => tv σ H fun y H1 => ta σ H1 fun x H2 => ∃ a C dx fs, x = .ref a ∧ H2 a = some (.ins C dx fs) ∧ Cls K C ∧ NoAttr K C f ∧ fs.length < 1000 ∧
  D.nx σ (upd H2 a (.ins C dx (putF f y fs)))
section
variable {X : Cx} {o e value : Expr} {f : Str} {pos pos' tpos : Pos} {ta tv : TE}
theorem pe_fld (he : PE X e ta) (hb : attributeBase e f X.env (eval e X.env) = eval e X.env) : PE X (.Attribute e f pos) (tFld X.K ta f) := by
  intro pins s σ H Q I h
  refine attr_of hb (thn (he pins s σ H _ I h) fun u s1 ⟨x, H1, I1, rx, a, C, dx, fs, v, ex, ea, c, n, l, q⟩ => ?_)
  subst ex
  obtain rfl : u = Value.ref a := rx
  exact getattr_ok I1 ea c n l fun u' s2 I2 ru => ⟨v, H1, I2, ru, q⟩
theorem ps_fld (ha : PE X o ta) (hv : PE X value tv) (hs : swapsWith value (some (.Attribute o f pos')) pos.line X.env = pure false) : PS X (.Assign [.Attribute o f pos'] value pos) (sFld X.K ta tv f) := by
  intro pins s σ H D I h
  refine plainObj_wpAny_Assign_Attribute (thn (hv pins s σ H _ I h) fun u s1 ⟨y, H1, I1, ry, q⟩ => thn (ha pins s1 σ H1 _ I1 q) fun ov s2 ⟨x, H2, I2, rx, a, C, dx, fs, ex, ea, c, n, l, q2⟩ => ?_) hs
  subst ex
  obtain rfl : ov = Value.ref a := rx
  exact setattr_ok I2 ea c n l ry fun s3 I3 => ⟨σ, _, I3, q2⟩
end

/-! ### isinstance -/
section
variable {X : Cx} {pins : List (Addr × Obj)} {σ : St} {H : Hp} {s : Shared} {A : Around} {E : Value → Shared → Prop} {Q : Value → Shared → Prop} {c : Value} {b : Bool}
/-- the type of a value, as the fragment's deciders take it; for an instance its class -/
inductive TyOf (K : PySem.W.Frag) (H : Hp) : V → Value → Prop where
  | non : TyOf K H .non (.type "NoneType")
  | bl (x : Bool) : TyOf K H (.bl x) (.type "bool")
  | int (i : Int) : TyOf K H (.int i) (.type "int")
  | str (x : Str) : TyOf K H (.str x) (.type "str")
  | flt (x : UInt64) : TyOf K H (.flt x) (.type "float")
  | lst {a : Addr} {xs : List V} (e : H a = some (.lst xs)) : TyOf K H (.ref a) (.type "list")
  | frz {a : Addr} {o : Obj} {xs : List V} (e : H a = some (.frz o (.lst xs))) : TyOf K H (.ref a) (.type "list")
  | tup {a : Addr} {xs : List V} (e : H a = some (.tup xs)) : TyOf K H (.ref a) (.type "tuple")
  | dK {a : Addr} {kvs : List (Key × V)} (e : H a = some (.dK kvs)) : TyOf K H (.ref a) (.type "dict")
  | dT {a : Addr} {kvs : List (List Key × V)} (e : H a = some (.dT kvs)) : TyOf K H (.ref a) (.type "dict")
  | ins {a C dx : Addr} {fs : List (Str × V)} (e : H a = some (.ins C dx fs)) (cl : Cls K C) (ha : PySem.W.findIn K (.ref C) "__class__" = some (some (.builtin "object.__class__")))
      (hn : PySem.W.specialIn K (.builtin "object.__class__") "__get__" = some (some (.builtin "getset_descriptor.__get__"))) (htk : PySem.W.takesIn K (.builtin "object.__class__") = some true)
      (hm : PySem.W.mroIn K C (.type "object") = some true) : TyOf K H (.ref a) (.ref C)
/-- isinstance(x, c) for one class c, a built-in or an own one: kitOne's answer -/
theorem isinst_ok {x : V} {u t : Value} (I : Inv X pins σ H s) (rx : RelV x u) (ty : TyOf X.K H x t) (e : PySem.W.kitOne X.K t c = some b) (h : ∀ tk, Q (.bool b) { s with toks := tk }) :
    wpAny (model X.prog X.w) A (call (.builtin "isinstance") [u, c]) Q E s := by
  cases ty with
  | non => cases (show u = Value.none from rx); exact PySem.W.kia_one PySem.W.kitx_none I.kIn True.intro e (fun z => nomatch z) h
  | bl y => cases (show u = Value.bool y from rx); exact PySem.W.kia_one PySem.W.kitx_bool I.kIn True.intro e (fun z => nomatch z) h
  | int i => obtain ⟨t, q⟩ := (show ∃ t, u = Value.int i t from rx); cases q; exact PySem.W.kia_one PySem.W.kitx_int I.kIn True.intro e (fun z => nomatch z) h
  | str y => obtain ⟨t, q⟩ := (show ∃ t, u = Value.str y t from rx); cases q; exact PySem.W.kia_one PySem.W.kitx_str I.kIn True.intro e (fun z => nomatch z) h
  | flt y => obtain ⟨t, q⟩ := (show ∃ t, u = Value.float y t from rx); cases q; exact PySem.W.kia_one PySem.W.kitx_float I.kIn True.intro e (fun z => nomatch z) h
  | @lst a xs ea =>
    cases (show u = Value.ref a from rx)
    obtain ⟨_, _, n, _, h1⟩ := (show ObjOk X.prog X.w H s.heap a (.lst xs) from I.hok a _ ea)
    exact PySem.W.kia_one PySem.W.kitx_list I.kIn ⟨_, h1, rfl⟩ e (fun z => nomatch z) h
  | @frz a ob xs ea =>
    cases (show u = Value.ref a from rx)
    obtain ⟨_, _, _, n, _, h1⟩ := (show ObjOk X.prog X.w H s.heap a (.frz ob (.lst xs)) from I.hok a _ ea)
    exact PySem.W.kia_one PySem.W.kitx_list I.kIn ⟨_, h1, rfl⟩ e (fun z => nomatch z) h
  | @tup a xs ea =>
    cases (show u = Value.ref a from rx)
    obtain ⟨_, _, _, p⟩ := (show ObjOk X.prog X.w H s.heap a (.tup xs) from I.hok a _ ea)
    obtain ⟨o, h1, h2, _⟩ := p
    exact PySem.W.kia_one PySem.W.kitx_tuple I.kIn ⟨o, h1, h2⟩ e (fun z => nomatch z) h
  | @dK a kvs ea =>
    cases (show u = Value.ref a from rx)
    obtain ⟨_, _, vs, _, p⟩ := (show ObjOk X.prog X.w H s.heap a (.dK kvs) from I.hok a _ ea)
    obtain ⟨o, es, ep, h1, h2, _⟩ := p
    exact PySem.W.kia_one PySem.W.kitx_dict I.kIn ⟨o, h1, h2.1⟩ e (fun z => nomatch z) h
  | @dT a kvs ea =>
    cases (show u = Value.ref a from rx)
    obtain ⟨_, _, xs, _, o, es, ep, h1, h2, _⟩ := (show ObjOk X.prog X.w H s.heap a (.dT kvs) from I.hok a _ ea)
    exact PySem.W.kia_one PySem.W.kitx_dict I.kIn ⟨o, h1, h2.1⟩ e (fun z => nomatch z) h
  | @ins a C dx fs ea cl ha hn htk hm =>
    cases (show u = Value.ref a from rx)
    obtain ⟨mA, O, _⟩ := ins_get I.hok ea
    obtain ⟨od, J, _⟩ := O.look
    exact PySem.W.kia_one (PySem.W.kitx_own (cl.get _) cl.hd ha hn htk hm) I.kIn J e (fun z => nomatch z) h
end
end L2

namespace L2
open PySem PySem.Spec PyProof.Rows

/-! ### room -/
structure Room (k : Nat) (A : Around) : Prop where
  hd : A.handled = none
  dp : A.depth + 3 * k + 5 < recursionLimit
  un : A.units + 16 * k + 200 < cLine
  gd : A.guards = some []
theorem Room.mono {j k : Nat} {A : Around} (r : Room k A) (h : j ≤ k) : Room j A := ⟨r.hd, by have := r.dp; omega, by have := r.un; omega, r.gd⟩
theorem Room.deeper {k : Nat} {A : Around} (r : Room (k + 1) A) (env : Env) : Room k (A.deeper env) :=
  ⟨r.hd, by have := r.dp; show A.depth + 1 + 3 * k + 5 < _; omega, by have := r.un; show A.units + 3 + 16 * k + 200 < _; omega, r.gd⟩
theorem make_depth {A : Around} {C : Addr} {us : List Value} {kw : List (Str × Value)} : (A.under (.builtin "type.__call__" ⟨.ref C :: us, kw⟩)).depth = A.depth + 1 := by
  first | rfl | simp [Around.under, Code.weight, Code.isCreation, Code.isGuard, Code.isCaller, Code.frames, Code.isFrame, guardIds]
theorem make_units {A : Around} {C : Addr} {us : List Value} {kw : List (Str × Value)} : (A.under (.builtin "type.__call__" ⟨.ref C :: us, kw⟩)).units = A.units + 1 := by
  first | rfl | simp [Around.under, Code.cUnits, Code.frames, Code.isFrame]
theorem Room.make {k : Nat} {A : Around} (r : Room (k + 1) A) (C : Addr) (us : List Value) (kw : List (Str × Value)) : Room k (A.under (.builtin "type.__call__" ⟨.ref C :: us, kw⟩)) :=
  ⟨r.hd, by have := r.dp; rw [make_depth]; omega, by have := r.un; rw [make_units]; omega, by simp [Around.under, r.gd, pushGuards, Code.guards, Code.isGuard, guardIds]⟩
theorem Room.depth {k : Nat} {A : Around} (r : Room k A) : A.depth < recursionLimit := by have := r.dp; omega
theorem Room.units {k : Nat} {A : Around} (r : Room k A) : A.units + 64 < cLine := by have := r.un; omega
/-! ### argument lists and displays -/
def tNil : TA := fun _ H Q => Q [] H
def tCons (ta : TE) (tr : TA) : TA := fun σ H Q => ta σ H fun x H1 => tr σ H1 fun xs H2 => Q (x :: xs) H2
section
variable {X : Cx} {e : Expr} {es : List Expr} {te : TE} {t : TA} {pos : Pos}
theorem pa_nil : PA X [] tNil := fun _ _ _ _ H Q I h => Calls.spliced_nil ⟨[], H, I, .nil, h⟩
theorem pa_cons (ha : PE X e te) (hr : PA X es t) (hs : starEach (e :: es) X.env = (false, eval e X.env) :: starEach es X.env := by rfl) : PA X (e :: es) (tCons te t) := by
  intro pos pins s σ H Q I h
  rw [hs]
  show wpAny _ _ (spliced ((false, eval e X.env) :: backTo pos (starEach es X.env))) _ _ s
  refine Calls.spliced_cons (thn (ha pins s σ H _ I h) fun u s1 ⟨x, H1, I1, r1, q1⟩ => ?_)
  exact thn (hr pos pins s1 σ H1 _ I1 q1) fun us s2 ⟨xs, H2, I2, r2, q2⟩ => ⟨x :: xs, H2, I2, .cons r1 r2, q2⟩

/-- a tuple, a list of written items -/
def tTup (t : TA) : TE := fun σ H Q => t σ H fun xs H1 => xs.length ≤ sizeLine ∧ ∀ p, H1 p = none → Q (.ref p) (upd H1 p (.tup xs))
def tLst (t : TA) : TE := fun σ H Q => t σ H fun xs H1 => xs.length ≤ sizeLine ∧ ∀ p, H1 p = none → Q (.ref p) (upd H1 p (.lst xs))
theorem pe_tup {x1} (h : PA X es t) : PE X (.Tuple es x1 pos) (tTup t) := by
  intro pins s σ H Q I hq
  refine wpAny_Tuple_spliced (thn (h pos pins s σ H _ I hq) fun us s1 ⟨xs, H1, I1, r, z, q⟩ => ⟨by rw [← r.length]; exact z, ?_⟩)
  have hf : H1 s1.heap.objs.size = none := I1.hok.fresh (Nat.le_refl _)
  refine ⟨.ref s1.heap.objs.size, upd H1 s1.heap.objs.size (.tup xs), I1.laid (t' := s1.toks) (fun b u e => Heap.get?_push_of_some _ e) (Nat.le_refl _) ?_, rfl, q _ hf⟩
  exact ⟨z, us, r, ⟨_, Heap.get?_push_size _ rfl, rfl, _, rfl⟩⟩
theorem pe_lst (h : PA X es t) : PE X (.List es pos) (tLst t) := by
  intro pins s σ H Q I hq
  refine wpAny_List_spliced (thn (h pos pins s σ H _ I hq) fun us s1 ⟨xs, H1, I1, r, z, q⟩ => ⟨by rw [← r.length]; exact z, ?_⟩)
  have hf : H1 s1.heap.objs.size = none := I1.hok.fresh (Nat.le_refl _)
  refine ⟨.ref s1.heap.objs.size, upd H1 s1.heap.objs.size (.lst xs), I1.laid (t' := s1.toks) (fun b u e => Heap.get?_push_of_some _ e) (Nat.le_refl _) ?_, rfl, q _ hf⟩
  exact ⟨z, us, 0, r, Heap.get?_push_size _ rfl⟩
end

/-! ### what a def promises -/
/-- a def's promise: the bound arguments in the parameters' order, the heap, the wanted end, the wanted exception -/
abbrev Sp := List V → Hp → VK → XK → Prop
/-- how an exception lies behind a call (file 08 gives it): the callers' frames, abstract heap and state ahead of the call, the wish, the exception, the state -/
abbrev CXT := List Env → Hp → Shared → XK → Value → Shared → Prop

/-- the state at a call -/
structure Env0 (P : Program) (w : World) (K : PySem.W.Frag) (mg : Str → Option Value) (base : Heap) (A : Around) (outer : List Env) (s : Shared) (H : Hp) : Prop where
  frames : A.frames = some outer
  mod : Mod K mg base
  bs : ∀ b o, base.get? b = some o → s.heap.get? b = some o ∧ H b = none
  bsz : base.objs.size ≤ s.heap.objs.size
  funs : s.heap.FunFrames base outer
  frf : ∀ b ∈ frs outer, H b = none
  hok : HOk P w H s.heap
  bare : AllBare s.gens
/-- a call's end -/
def CE (outer : List Env) (P : Program) (w : World) (H : Hp) (s : Shared) (Q : VK) (u : Value) (s' : Shared) : Prop :=
  ∃ v H', s'.os = s.os ∧ AllBare s'.gens ∧ Un (frs outer) [] H H' s.heap s'.heap ∧ HOk P w H' s'.heap ∧ RelV v u ∧ Q v H'
def CR (CX : CXT) (outer : List Env) (P : Program) (w : World) (H : Hp) (s : Shared) (Q : VK) (E : XK) (r : Result) (s' : Shared) : Prop :=
  match r with
  | .ok (.ret u) => CE outer P w H s Q u s'
  | .ok _ => False
  | .error e => CX outer H s E e s'
structure FnOk (P : Program) (w : World) (K : PySem.W.Frag) (mg : Str → Option Value) (base : Heap) (CX : CXT) (k : Nat) (f : Addr) (fd : FuncData) (ps : List Str) (sp : Sp) : Prop where
  len : ∀ vs H Q E, sp vs H Q E → vs.length = ps.length
  run : ∀ (A : Around) (outer : List Env) (s : Shared) (H : Hp) (args : Args) (us : List Value) (vs : List V) (Q : VK) (E : XK), Room k A → Env0 P w K mg base A outer s H → BindsTo s fd args (ps.zip us) → Vals vs us → sp vs H Q E →
    codeAny (model P w) A (.call (.ref f) args) (CR CX outer P w H s Q E) s
theorem Env0.make {P : Program} {w : World} {K : PySem.W.Frag} {mg : Str → Option Value} {base : Heap} {A : Around} {outer : List Env} {s : Shared} {H : Hp} (e : Env0 P w K mg base A outer s H) (C : Addr) (us : List Value) (kw : List (Str × Value)) :
    Env0 P w K mg base (A.under (.builtin "type.__call__" ⟨.ref C :: us, kw⟩)) outer s H := ⟨by first | exact e.frames | (simpa [Around.under, Code.envs, Code.isFrame, pushEnvs] using e.frames), e.mod, e.bs, e.bsz, e.funs, e.frf, e.hok, e.bare⟩
section
variable {X : Cx} {pins : List (Addr × Obj)} {σ : St} {H : Hp} {s s' : Shared}
/-- from a body: what a callee wants -/
theorem Inv.env0 (I : Inv X pins σ H s) : Env0 X.prog X.w X.K X.mg X.base X.A X.stack s H :=
  ⟨I.ok.frames, I.ok.mod, I.bs, Nat.le_trans I.ok.bsz I.sz, I.stack, I.stkFree, I.hok, I.bare⟩
/-- behind a call -/
theorem Inv.after {Q : VK} {u : Value} (I : Inv X pins σ H s) (h : CE X.stack X.prog X.w H s Q u s') : EP X pins σ Q u s' := by
  obtain ⟨v, H', os, bare, un, hok, r, q⟩ := h
  obtain ⟨hh, g, d, t, os'⟩ := s'
  obtain rfl : os' = s.os := os
  exact ⟨v, H', I.call (h' := hh) (g' := g) (d' := d) (t' := t) (ch := []) un hok bare (fun b z => absurd z (by simp)), r, q⟩
end

/-! ### calls -/
/-- f(..): the written arguments, then the defaults dvs; E: what is wanted of an exception -/
def tCall (sp : Sp) (dvs : List V) (E : XK) (t : TA) : TE := fun σ H Q => t σ H fun vs H1 => sp (vs ++ dvs) H1 Q E
/-- o.m(..) of an instance of the class at C -/
def tMeth (C : Addr) (m : Str) (sp : Sp) (dvs : List V) (E : XK) (ta : TE) (t : TA) : TE := fun σ H Q => ta σ H fun x H1 => ∃ a dx fs, x = .ref a ∧ H1 a = some (.ins C dx fs) ∧ fs.lookup m = none ∧
  t σ H1 fun vs H2 => sp (x :: (vs ++ dvs)) H2 Q E
/-- C(..): a new instance and its dict, then __init__ -/
def tMake (C : Addr) (sp : Sp) (dvs : List V) (E : XK) (t : TA) : TE := fun σ H Q => t σ H fun vs H1 => ∀ x dx, H1 x = none → H1 dx = none → dx ≠ x →
  sp (.ref x :: (vs ++ dvs)) (upd (upd H1 dx (.own x)) x (.ins C dx [])) (fun v H2 => v = .non ∧ Q (.ref x) H2) E

/-- how the parameters are bound: us the positional arguments, kw the keywords' values by name, ds the defaults that fill up -/
def Binds (K : PySem.W.Frag) (fd : FuncData) (ps : List Str) (ds : List Value) : Prop :=
  ∀ (s : Shared) (us : List Value), K.In s.heap → (us ++ ds).length = ps.length → BindsTo s fd ⟨us, []⟩ (ps.zip (us ++ ds))
/-- every parameter is given -/
theorem Binds.all {K : PySem.W.Frag} {fd : FuncData} {ps : List Str} (h : ∀ us : List Value, us.length = ps.length → bindArgs fd ⟨us, []⟩ = pure (ps.zip us)) : Binds K fd ps [] := fun s us _ hl => by
  rw [List.append_nil] at hl ⊢
  exact .of_eq (h us hl)

/-- an exception of a callee reaches what this body wants of exceptions -/
def Passes (CX : CXT) (X : Cx) (E : XK) : Prop := ∀ (pins : List (Addr × Obj)) (σ : St) (H : Hp) (s : Shared) (e : Value) (s' : Shared), Inv X pins σ H s → CX X.stack H s E e s' → X.xe e s'

section
variable {X : Cx} {CX : CXT} {k : Nat} {f C : Addr} {fd : FuncData} {ps : List Str} {sp : Sp} {dvs : List V} {ds : List Value} {E : XK} {x m : Str} {p pos apos : Pos} {e o : Expr} {es : List Expr} {ta : TE} {t : TA}

/-- the callee runs -/
theorem run_fn {pins : List (Addr × Obj)} {σ : St} {H : Hp} {s : Shared} {Q : VK} {us : List Value} {vs : List V} (F : FnOk X.prog X.w X.K X.mg X.base CX k f fd ps sp) (hr : Room k X.A) (hb : Binds X.K fd ps ds) (hd : Vals dvs ds) (hx : Passes CX X E)
    (I : Inv X pins σ H s) (r : Vals vs us) (h : sp (vs ++ dvs) H Q E) : wpAny (model X.prog X.w) X.A (call (.ref f) us) (EP X pins σ Q) X.xe s := by
  have r2 : Vals (vs ++ dvs) (us ++ ds) := r.append hd
  have hl : (us ++ ds).length = ps.length := by rw [← r2.length]; exact F.len _ _ _ _ h
  refine wpAny_call (codeAny_mono (F.run X.A X.stack s H ⟨us, []⟩ (us ++ ds) (vs ++ dvs) Q E hr I.env0 (hb s us I.kIn hl) r2 h) fun r s' hq => ?_)
  cases r with
  | error e => exact hx pins σ H s e s' I hq
  | ok fl =>
    cases fl with
    | ret u => exact I.after hq
    | next => exact False.elim hq
    | brk => exact False.elim hq
    | cont => exact False.elim hq

theorem pe_call (F : FnOk X.prog X.w X.K X.mg X.base CX k f fd ps sp) (hr : Room k X.A) (hg : Gl X x) (hm : X.mg x = some (.ref f)) (hk : PySem.W.keepIn X.K (.ref f) = true) (hb : Binds X.K fd ps ds) (hd : Vals dvs ds) (hx : Passes CX X E)
    (ha : PA X (e :: es) t) (hdb : (x == ("__debug__" : Str)) = false := by decide) (he : starEach (e :: es) X.env = (false, eval e X.env) :: starEach es X.env := by rfl) (hpl : (backTo pos (starEach es X.env)).any (·.1) = false := by rfl) :
    PE X (.Call (.Name x p) (e :: es) [] pos) (tCall sp dvs E t) := by
  intro pins s σ H Q I h
  refine wpAny_Call_Name_kw (ld_glob I hg hm ?_ hdb)
  refine PySem.W.callWith_K (h₀ := X.base) I.ok.mod.kin hk (thn (ha pos pins s σ H _ I h) fun us s1 ⟨vs, H1, I1, r, q⟩ => ⟨I1.kIn, ?_⟩) he hpl
  exact run_fn F hr hb hd hx I1 r q
/-- o.m(e, ..) -/
theorem pe_meth {pl : Sem Bool} (he : PE X o ta) (c : Cls X.K C) (hm : Meth X.K C m f) (F : FnOk X.prog X.w X.K X.mg X.base CX k f fd ps sp) (hr : Room k X.A) (hb : Binds X.K fd ps ds) (hd : Vals dvs ds) (hx : Passes CX X E) (ha : PA X (e :: es) t)
    (hst : starEach (e :: es) X.env = (false, eval e X.env) :: starEach es X.env := by rfl) (hpl : (backTo pos (starEach es X.env)).any (·.1) = false := by rfl)
    (ht : eval (.Call (.Attribute o m apos) (e :: es) [] pos) X.env = (do
      let ov ← eval o X.env
      standAt apos.atName
      let (f, first) ← holding [ov] (getMethod ov m pl)
      callWith pos f first (backTo pos (starEach (e :: es) X.env)) (backToKw pos (keywordEach [] X.env))) := by rfl) :
    PE X (.Call (.Attribute o m apos) (e :: es) [] pos) (tMeth C m sp dvs E ta t) := by
  intro pins s σ H Q I h
  refine PySem.W.methodCall_KW (pl := pl) (thn (he pins s σ H _ I h) fun u s1 ⟨x, H1, I1, rx, a, dx, fs, ex, ea, l, q⟩ => ?_) ht
  subst ex
  obtain rfl : u = Value.ref a := rx
  refine getmeth_ok I1 ea c hm l ?_
  refine PySem.W.callWith_K (first := [.ref a]) (h₀ := X.base) I.ok.mod.kin hm.kp (thn (ha pos pins s1 σ H1 _ I1 q) fun us s2 ⟨vs, H2, I2, r, q2⟩ => ⟨I2.kIn, ?_⟩) hst hpl
  exact run_fn (us := .ref a :: us) (vs := .ref a :: vs) F hr hb hd hx I2 (.cons rfl r) q2
/-- o.m() -/
theorem pe_meth0 {pl : Sem Bool} (he : PE X o ta) (c : Cls X.K C) (hm : Meth X.K C m f) (F : FnOk X.prog X.w X.K X.mg X.base CX k f fd ps sp) (hr : Room k X.A) (hb : Binds X.K fd ps ds) (hd : Vals dvs ds) (hx : Passes CX X E)
    (ht : eval (.Call (.Attribute o m apos) [] [] pos) X.env = (do
      let ov ← eval o X.env
      standAt apos.atName
      let (f, first) ← holding [ov] (getMethod ov m pl)
      callWith pos f first (backTo pos (starEach [] X.env)) (backToKw pos (keywordEach [] X.env))) := by rfl) :
    PE X (.Call (.Attribute o m apos) [] [] pos) (tMeth C m sp dvs E ta tNil) := by
  intro pins s σ H Q I h
  refine PySem.W.methodCall_KW (pl := pl) (thn (he pins s σ H _ I h) fun u s1 ⟨x, H1, I1, rx, a, dx, fs, ex, ea, l, q⟩ => ?_) ht
  subst ex
  obtain rfl : u = Value.ref a := rx
  refine getmeth_ok I1 ea c hm l ?_
  exact PySem.W.callWith_K0 (first := [.ref a]) I1.kIn hm.kp (run_fn (us := [.ref a]) (vs := [.ref a]) F hr hb hd hx I1 (.cons rfl .nil) q)

/-- what a class must have to be made -/
structure Mk (K : PySem.W.Frag) (C f : Addr) : Prop where
  makes : PySem.W.makesIn K C = true
  init : PySem.W.findIn K (.ref C) "__init__" = some (some (.ref f))
  fn : PySem.W.isFn K (.ref f) = true
  kp : PySem.W.keepIn K (.ref C) = true

theorem run_make {pins : List (Addr × Obj)} {σ : St} {H : Hp} {s : Shared} {Q : VK} {us : List Value} {vs : List V} (M : Mk X.K C f) (F : FnOk X.prog X.w X.K X.mg X.base CX k f fd ps sp) (hr : Room (k + 1) X.A) (hb : Binds X.K fd ps ds) (hd : Vals dvs ds)
    (hx : Passes CX X E) (I : Inv X pins σ H s) (r : Vals vs us)
    (h : ∀ x dx, H x = none → H dx = none → dx ≠ x → sp (.ref x :: (vs ++ dvs)) (upd (upd H dx (.own x)) x (.ins C dx [])) (fun v H2 => v = .non ∧ Q (.ref x) H2) E) :
    wpAny (model X.prog X.w) X.A (call (.ref C) us) (EP X pins σ Q) X.xe s := by
  have hq := h (s.heap.objs.size + 1) s.heap.objs.size (I.hok.fresh (Nat.le_succ _)) (I.hok.fresh (Nat.le_refl _)) (Nat.ne_of_lt (Nat.lt_succ_self _))
  have I2 := Inv.made (C := C) I
  have r2 : Vals (V.ref (s.heap.objs.size + 1) :: (vs ++ dvs)) (Value.ref (s.heap.objs.size + 1) :: (us ++ ds)) := .cons rfl (r.append hd)
  have hl : (Value.ref (s.heap.objs.size + 1) :: us ++ ds).length = ps.length := by
    have e := r2.length
    rw [F.len _ _ _ _ hq] at e
    exact e.symm
  refine wpAny_call (make_map (f := f) I.kIn M.makes M.init (beq_iff_eq.mp M.fn) (codeAny_mono (F.run _ X.stack _ _ ⟨Value.ref (s.heap.objs.size + 1) :: us, []⟩ (Value.ref (s.heap.objs.size + 1) :: (us ++ ds)) _ _ E (hr.make C us [])
    (I2.env0.make C us []) (hb _ (Value.ref (s.heap.objs.size + 1) :: us) I2.kIn hl) r2 hq) fun r s' hq' => ?_))
  cases r with
  | error e => exact hx pins σ _ _ e s' I2 hq'
  | ok fl =>
    cases fl with
    | ret u =>
      obtain ⟨v, H', I3, rv, ev, q3⟩ := I2.after hq'
      subst ev
      exact ⟨rv, ⟨V.ref (s.heap.objs.size + 1), H', I3, rfl, q3⟩⟩
    | next => exact False.elim hq'
    | brk => exact False.elim hq'
    | cont => exact False.elim hq'
theorem pe_make (M : Mk X.K C f) (F : FnOk X.prog X.w X.K X.mg X.base CX k f fd ps sp) (hr : Room (k + 1) X.A) (hg : Gl X x) (hm : X.mg x = some (.ref C)) (hb : Binds X.K fd ps ds) (hd : Vals dvs ds) (hx : Passes CX X E)
    (ha : PA X (e :: es) t) (hdb : (x == ("__debug__" : Str)) = false := by decide) (he : starEach (e :: es) X.env = (false, eval e X.env) :: starEach es X.env := by rfl) (hpl : (backTo pos (starEach es X.env)).any (·.1) = false := by rfl) :
    PE X (.Call (.Name x p) (e :: es) [] pos) (tMake C sp dvs E t) := by
  intro pins s σ H Q I h
  refine wpAny_Call_Name_kw (ld_glob I hg hm ?_ hdb)
  refine PySem.W.callWith_K (h₀ := X.base) I.ok.mod.kin M.kp (thn (ha pos pins s σ H _ I h) fun us s1 ⟨vs, H1, I1, r, q⟩ => ⟨I1.kIn, ?_⟩) he hpl
  exact run_make M F hr hb hd hx I1 r q
end

/-! ### keywords -/
/-- the values of the keywords, from the left -/
def PK (X : Cx) (kws : List Keyword) (t : TA) : Prop :=
  ∀ (pos : Pos) (pins : List (Addr × Obj)) (s : Shared) (σ : St) (H : Hp) (Q : List V → Hp → Prop), Inv X pins σ H s → t σ H Q → wpAny (model X.prog X.w) X.A (evalAll ((backToKw pos (keywordEach kws X.env)).map (·.2))) (AP X pins σ Q) X.xe s
section
variable {X : Cx} {CX : CXT} {k : Nat} {f C : Addr} {fd : FuncData} {ps ks : List Str} {sp : Sp} {E : XK} {x m : Str} {p pos apos kpos : Pos} {e o : Expr} {es : List Expr} {kws : List Keyword} {te ta : TE} {t tk : TA} {nm : Option Str}
theorem pk_nil : PK X [] tNil := fun _ _ _ _ H Q I h => wpAny_evalAll_nil ⟨[], H, I, .nil, h⟩
theorem pk_cons (ha : PE X e te) (hr : PK X kws t) : PK X (⟨nm, e, kpos⟩ :: kws) (tCons te t) := by
  intro pos pins s σ H Q I h
  show wpAny _ _ (evalAll ((do let v ← eval e X.env; standAt pos; pure v) :: (backToKw pos (keywordEach kws X.env)).map (·.2))) _ _ s
  refine wpAny_evalAll_cons (wpAny_bind (thn (ha pins s σ H _ I h) fun u s1 ⟨x, H1, I1, r1, q1⟩ => wpAny_bind (wpAny_standAt (wpAny_pure ?_))))
  exact thn (hr pos pins s1 σ H1 _ I1 q1) fun us s2 ⟨xs, H2, I2, r2, q2⟩ => ⟨x :: xs, H2, I2, .cons r1 r2, q2⟩

variable {g : List Value → List Value → List Value} {gV : List V → List V → List V}
end

/-! ### a def's body keeps its promise -/
/-- names: the parameters first -/
structure FnScope (N P : List Str) (sc : Scope) : Prop where
  kind : sc.kind = .function
  co : sc.isCoroutine = false
  gen : sc.isGenerator = false
  nd : N.Nodup
  pre : N.take P.length = P
  par : ∀ x ∈ P, sc.names.lookup x = some .local ∨ sc.names.lookup x = some .cell
  nofree : ∀ y ∈ sc.names, y.2 ≠ .free

theorem bindL_out {kindOf : Str → Option NameKind} {x : Str} : ∀ {binds : List (Str × Value)} {m : Str → Option Value}, (∀ v, (x, v) ∉ binds) → bindL kindOf binds m x = m x
  | [], _, _ => rfl
  | (n, v) :: r, m, h => by
    unfold bindL
    rw [bindL_out fun w hw => h w (List.mem_cons_of_mem _ hw)]
    split
    · have : x ≠ n := by rintro rfl; exact h v List.mem_cons_self
      simp [this]
    · rfl
theorem bindC_out {kindOf : Str → Option NameKind} {x : Str} : ∀ {binds : List (Str × Value)} {m : Str → Option Value}, (∀ v, (x, v) ∉ binds) → bindC kindOf binds m x = m x
  | [], _, _ => rfl
  | (n, v) :: r, m, h => by
    unfold bindC
    rw [bindC_out fun w hw => h w (List.mem_cons_of_mem _ hw)]
    split
    · rfl
    · have : x ≠ n := by rintro rfl; exact h v List.mem_cons_self
      simp [this]
theorem bindL_get {kindOf : Str → Option NameKind} {x : Str} {v : Value} : ∀ {P : List Str} {vs : List Value} {i : Nat} {m : Str → Option Value}, P.Nodup → P[i]? = some x → vs[i]? = some v → kindOf x = some .local →
    bindL kindOf (P.zip vs) m x = some v
  | [], _, _, _, _, h, _, _ => by simp at h
  | _ :: _, [], _, _, _, _, h, _ => by simp at h
  | p :: P, w :: vs, 0, m, nd, h1, h2, hk => by
    simp at h1 h2; subst h1; subst h2
    show bindL kindOf ((p, w) :: P.zip vs) m p = _
    unfold bindL
    rw [bindL_out fun v hv => (List.nodup_cons.mp nd).1 (List.of_mem_zip hv).1, if_pos hk]
    simp
  | p :: P, w :: vs, i + 1, m, nd, h1, h2, hk => by
    show bindL kindOf ((p, w) :: P.zip vs) m x = _
    unfold bindL
    exact bindL_get (i := i) (List.nodup_cons.mp nd).2 (by simpa using h1) (by simpa using h2) hk
theorem bindC_get {kindOf : Str → Option NameKind} {x : Str} {v : Value} : ∀ {P : List Str} {vs : List Value} {i : Nat} {m : Str → Option Value}, P.Nodup → P[i]? = some x → vs[i]? = some v → kindOf x ≠ some .local →
    bindC kindOf (P.zip vs) m x = some v
  | [], _, _, _, _, h, _, _ => by simp at h
  | _ :: _, [], _, _, _, _, h, _ => by simp at h
  | p :: P, w :: vs, 0, m, nd, h1, h2, hk => by
    simp at h1 h2; subst h1; subst h2
    show bindC kindOf ((p, w) :: P.zip vs) m p = _
    unfold bindC
    rw [bindC_out fun v hv => (List.nodup_cons.mp nd).1 (List.of_mem_zip hv).1, if_neg hk]
    simp
  | p :: P, w :: vs, i + 1, m, nd, h1, h2, hk => by
    show bindC kindOf ((p, w) :: P.zip vs) m x = _
    unfold bindC
    exact bindC_get (i := i) (List.nodup_cons.mp nd).2 (by simpa using h1) (by simpa using h2) hk

/-- the names' values at the entry -/
def start (N : List Str) (vs : List V) : St := vs.map some ++ List.replicate (N.length - vs.length) none

/-- the context of a def's body, at its entry; an exception leaves the frame, then lies as CX says -/
def cxOf (CX : CXT) (P : Program) (w : World) (K : PySem.W.Frag) (mg : Str → Option Value) (base : Heap) (N : List Str) (qual : Str) (scope : Scope) (f : Addr) (cd : Value) (A : Around) (outer : List Env) (s : Shared) (H : Hp) (E : XK) : Cx where
  prog := P
  w := w
  K := K
  mg := mg
  base := base
  A := A.deeper (envOfC qual scope s.heap.objs.size f cd)
  N := N
  s₀ := s
  H₀ := H
  env := envOfC qual scope s.heap.objs.size f cd
  outer := outer
  stack := envOfC qual scope s.heap.objs.size f cd :: outer
  ex := []
  calm := true
  fn := fun _ => true
  pn := []
  xe := fun e s' => wpAny (model P w) (A.deeper (envOfC qual scope s.heap.objs.size f cd)) (leaving (envOfC qual scope s.heap.objs.size f cd) e) (fun _ s'' => CX outer H s E e s'') (fun e' s'' => CX outer H s E e' s'') s'

theorem cell_has {sc : Scope} {n : Nat} {x : Str} (h : sc.names.lookup x = some .cell) : ∃ c, (cellsFrom n sc.names []).lookup x = some c := by
  have q := PySem.W.cellsFrom_some sc.names n [] (.inl h)
  exact Option.isSome_iff_exists.mp q

theorem inv_start {CX : CXT} {P : Program} {w : World} {K : PySem.W.Frag} {mg : Str → Option Value} {base : Heap} {N ps : List Str} {qual : Str} {scope : Scope} {f : Addr} {cd : Value} {A : Around} {outer : List Env} {s s1 : Shared} {H : Hp} {E : XK} {us : List Value} {vs : List V}
    (S : FnScope N ps scope) (hd : A.handled = none) (e0 : Env0 P w K mg base A outer s H) (hl : vs.length = ps.length) (r : Vals vs us)
    (x : InCallC s s.heap.objs.size (bindL (envOfC qual scope s.heap.objs.size f cd).kindOf (ps.zip us) fun _ => none) (cellsFrom (s.heap.objs.size + 1) scope.names []) (bindC (envOfC qual scope s.heap.objs.size f cd).kindOf (ps.zip us) fun _ => none) s1) :
    Inv (cxOf CX P w K mg base N qual scope f cd A outer s H E) [] (start N vs) H s1 := by
  have hpl : ps.length ≤ N.length := by have := congrArg List.length S.pre; rw [List.length_take] at this; omega
  obtain ⟨h1, tk, rfl, hk⟩ := x.done
  have noA : ∀ b : Addr, b ∉ (cxOf CX P w K mg base N qual scope f cd A outer s H E).ex := fun b z => absurd (show b ∈ ([] : List Addr) from z) (by simp)
  refine ⟨⟨e0.mod, S.kind, rfl, rfl, Nat.le_refl _, fun y z c h1 h2 => ?_, fun y hy => ?_, fun y c _ h => ?_, fun _ => hd, Around.frames_deeper e0.frames, .inr ⟨rfl, rfl⟩, fun b z => absurd z (noA b), e0.bs, e0.bsz, fun b _ _ => noA b, fun b z => absurd z (noA b), e0.funs, e0.frf⟩,
    rfl, e0.bare, Un.kept hk, ⟨_, x.toInCall.ns, fun i y v h1 h2 h3 => ?_⟩, fun y c h => ⟨_, x.cell y c h⟩, e0.hok.fresh (Nat.le_refl _), fun y c h => ?_, fun p hp => absurd (show p ∈ ([] : List (Addr × Obj)) from hp) (by simp), e0.hok.kept hk, ?_⟩
  · exact name_of_addr x.apart (PySem.mem_of_lookup h1) (PySem.mem_of_lookup h2)
  · have hy : scope.names.lookup y = some .cell ∨ scope.names.lookup y = some .free := hy
    rcases hy with hy | hy
    · exact cell_has hy
    · exact absurd rfl (S.nofree _ (PySem.mem_of_lookup hy))
  · exact Nat.le_of_lt (x.above y c (PySem.mem_of_lookup h))
  · have hi : i < vs.length := by
      unfold start at h2
      by_cases hi : i < vs.length
      · exact hi
      · rw [List.getElem?_append_right (by simpa using hi)] at h2
        rw [List.getElem?_replicate] at h2
        split at h2 <;> cases h2
    have ha : vs[i]? = some v := by
      unfold start at h2
      rw [List.getElem?_append_left (by simpa using hi), List.getElem?_map] at h2
      cases e : vs[i]? with
      | none => rw [e] at h2; cases h2
      | some a => rw [e] at h2; cases h2; rfl
    obtain ⟨u, hu, rv⟩ := r.get ha
    have hp : ps[i]? = some y := by
      rw [← S.pre, List.getElem?_take_of_lt (by omega)]; exact h1
    have ndP : ps.Nodup := by rw [← S.pre]; exact S.nd.sublist (List.take_sublist _ _)
    refine ⟨u, rv, ?_⟩
    rcases S.par y (List.mem_of_getElem? hp) with k | k
    · exact .inl ⟨k, bindL_get ndP hp hu k⟩
    · obtain ⟨c, e⟩ := cell_has (n := s.heap.objs.size + 1) k
      refine .inr ⟨.inl k, c, e, ?_⟩
      have q := x.cell y c e
      rw [bindC_get ndP hp hu (by show scope.names.lookup y ≠ _; rw [k]; decide)] at q
      exact q
  · exact e0.hok.fresh (Nat.le_of_lt (x.above y c (PySem.mem_of_lookup h)))
  · unfold start
    show _ = N.length
    rw [List.length_append, List.length_map, List.length_replicate]
    omega

/-- THE RULE: a def (or a method) of the text, by its body. The body's reading t is chosen for each entry; it is run at the parameters' values -/
theorem fn_of {CX : CXT} {P : Program} {w : World} {K : PySem.W.Frag} {mg : Str → Option Value} {base : Heap} {k : Nat} {f : Addr} {name qual : Str} {params : Arguments} {body : List Stmt} {scope : Scope} {dV kV doc pm cdv ct oc : Value} {an od : Option Addr}
    {osl : Array (Option Value)} {N ps : List Str} {sp : Sp} (lk : K.lookup f = some ⟨oc, od, .func (PySem.W.fnOf name qual params body scope dV kV doc pm an cdv ct), osl⟩) (hcd : PySem.W.codeIn K cdv qual = true) (S : FnScope N ps scope)
    (len : ∀ vs H Q E, sp vs H Q E → vs.length = ps.length)
    (hbody : ∀ (A : Around) (outer : List Env) (s : Shared) (H : Hp) (vs : List V) (Q : VK) (E : XK), Room k (A.deeper (envOfC qual scope s.heap.objs.size f cdv)) → sp vs H Q E →
      ∃ t, PSs (cxOf CX P w K mg base N qual scope f cdv A outer s H E) body t ∧ t { nx := fun _ H' => Q .non H', rt := Q } (start N vs) H) :
    FnOk P w K mg base CX (k + 1) f (PySem.W.fnOf name qual params body scope dV kV doc pm an cdv ct) ps sp := by
  refine ⟨len, fun A outer s H args us vs Q E hr e0 hb r hsp => ?_⟩
  have hl := len _ _ _ _ hsp
  have KX : K.In s.heap := e0.mod.kin.keeps fun b o e => (e0.bs b o e).1
  have lim : s.heap.NoLimit := e0.mod.nolimit.keeps fun b o e => (e0.bs b o e).1
  have hkind : ∀ y ∈ ps.zip us, scope.names.lookup y.1 = some .local ∨ (scope.names.lookup y.1 = some .cell ∧ ((cellsFrom (s.heap.objs.size + 1) scope.names []).lookup y.1).isSome = true) := fun ⟨n, v⟩ hy => by
    rcases S.par n (List.of_mem_zip hy).1 with q | q
    · exact .inl q
    · exact .inr ⟨q, PySem.W.cellsFrom_some _ _ _ (.inl q)⟩
  refine codeAny_call_function hr.depth (KX _ _ lk) rfl S.co S.gen rfl (PySem.W.codeRec_of KX hcd) (hb _ _ _ _ ?_)
  refine wpAny_newFunctionEnv_cells S.kind hkind fun env he s1 x => ?_
  subst he
  refine ⟨lim.keeps x.toInCall.keep, codeAny_func ?_⟩
  obtain ⟨t, ht, hq⟩ := hbody A outer s H vs Q E (hr.deeper _) hsp
  have I : Inv (cxOf CX P w K mg base N qual scope f cdv A outer s H E) [] (start N vs) H s1 := inv_start S hr.hd e0 hl r x
  refine wpAny_mono (ht [] s1 (start N vs) H _ I hq) (fun fl s' hs => ?_) fun e s' hs => hs
  have fin : ∀ {σ' : St} {H' : Hp} {v : V} {u : Value}, Inv (cxOf CX P w K mg base N qual scope f cdv A outer s H E) [] σ' H' s' → RelV v u → Q v H' → CE outer P w H s Q u s' :=
    fun {σ' H' v u} J rv q => ⟨v, H', J.os, J.bare, J.base, J.hok, rv, q⟩
  cases fl with
  | ret u =>
    obtain ⟨v, σ', H', J, rv, q⟩ := hs
    exact fin J rv q
  | next =>
    obtain ⟨σ', H', J, q⟩ := hs
    exact fin (v := V.non) (u := Value.none) J rfl q
  | brk =>
    obtain ⟨_, _, _, q⟩ := hs
    exact False.elim q
  | cont =>
    obtain ⟨_, _, _, q⟩ := hs
    exact False.elim q
end L2

namespace L2
open PySem PySem.Spec PyProof.Rows
section
variable {X : Cx} {x : Str} {p pos : Pos} {e : Expr} {es : List Expr} {t : TA} {id T : String} {r : List V → Hp → VK → Prop}

def tCB (r : List V → Hp → VK → Prop) (t : TA) : TE := fun σ H Q => t σ H fun vs H1 => r vs H1 Q
/-- f(e, ..), f a built-in function -/
theorem pe_callB (hc : CallR X (.builtin id) r) (hg : Gl X x) (hm : X.mg x = none) (hv : bootBuiltins x = some (.builtin id)) (ha : PA X (e :: es) t) (hn : x ≠ "__name__" := by decide) (hdb : (x == ("__debug__" : Str)) = false := by decide)
    (he : starEach (e :: es) X.env = (false, eval e X.env) :: starEach es X.env := by rfl) (hpl : (backTo pos (starEach es X.env)).any (·.1) = false := by rfl) : PE X (.Call (.Name x p) (e :: es) [] pos) (tCB r t) := by
  intro pins s σ H Q I h
  refine wpAny_Call_Name_kw (ld_blt I hg hm hv ?_ hn hdb)
  exact PyProof.Rows.callWith_builtin1 (thn (ha pos pins s σ H _ I h) fun us s1 ⟨vs, H1, I1, r1, q1⟩ => hc pins s1 σ H1 vs us Q I1 r1 q1) he hpl
/-- T(e, ..), T a built-in type -/
theorem pe_callTy (hc : CallR X (.type T) r) (hg : Gl X x) (hm : X.mg x = none) (hv : bootBuiltins x = some (.type T)) (ha : PA X (e :: es) t) (hn : x ≠ "__name__" := by decide) (hdb : (x == ("__debug__" : Str)) = false := by decide)
    (he : starEach (e :: es) X.env = (false, eval e X.env) :: starEach es X.env := by rfl) (hpl : (backTo pos (starEach es X.env)).any (·.1) = false := by rfl) : PE X (.Call (.Name x p) (e :: es) [] pos) (tCB r t) := by
  intro pins s σ H Q I h
  refine wpAny_Call_Name_kw (ld_blt I hg hm hv ?_ hn hdb)
  exact PyProof.Rows.callWith_type1 (thn (ha pos pins s σ H _ I h) fun us s1 ⟨vs, H1, I1, r1, q1⟩ => hc pins s1 σ H1 vs us Q I1 r1 q1) he hpl
end
end L2

namespace HT
open PySem PyProof.Rows

section
open PySem.SeqAt
open PySem.AutoSeq1 (wpAny_loadPart')
open PySem.MeetsSeq PySem.MeetsSeq2 PySem.MeetsSeq3

end

section
variable {prog : Program} {w : World} {A : Around} {E : Value → Shared → Prop} {s : Shared}

/-- t + u, t not empty -/
theorem cat_tup {t b : Addr} {vs ws : List Value} {Q : Value → Shared → Prop} (ht : IsTup s.heap t vs.toArray) (hb : IsTup s.heap b ws.toArray) (hv : vs ≠ [])
    (h1 : ws = [] → Q (.ref t) s) (h2 : ws ≠ [] → Q (.ref s.heap.objs.size) { s with heap := s.heap.push { cls := .type "tuple", data := .seq (vs ++ ws).toArray } })
    (hsz : vs.length + ws.length ≤ sizeLine) : wpAny (model prog w) A (binaryOp .Add (.ref t) (.ref b)) Q E s := by
  obtain ⟨⟨cls, dd, data, sl⟩, ho, hc, n, hd⟩ := id ht
  obtain ⟨⟨cls2, dd2, data2, sl2⟩, ho2, hc2, n2, hd2⟩ := id hb
  simp only at hc hd hc2 hd2
  subst hc hd hc2 hd2
  have e : vs.toArray ++ ws.toArray = (vs ++ ws).toArray := by simp
  by_cases hw : ws = []
  · exact concat_meets ⟨_, ho, rfl⟩ ⟨_, ho2, rfl⟩ noFill_tuple_add seq_tuple_add PySem.F.slot_tuple_add PySem.F.entry_tuple_add (PySem.F.args_tuple_add_2 _ _)
      (tuple_addW1 t b vs.toArray ws.toArray n n2 dd dd2 sl sl2 (by simpa using hv) (by simp [hw])) ⟨ho, ho2, h1 hw⟩
  · refine concat_meets ⟨_, ho, rfl⟩ ⟨_, ho2, rfl⟩ noFill_tuple_add seq_tuple_add PySem.F.slot_tuple_add PySem.F.entry_tuple_add (PySem.F.args_tuple_add_2 _ _)
      (tuple_addW2 t b vs.toArray ws.toArray n n2 dd dd2 sl sl2 (by simpa using hv) (by simpa using hw) (by rw [List.size_toArray, List.size_toArray]; exact hsz)) ⟨ho, ho2, ?_⟩
    rw [e]
    exact h2 hw

/-! ### t[a:b], not the whole -/
/-- a slice's bound as a place among n (d where it is left out) -/
def sIx (n d : Nat) : Option Int → Nat
  | none => d
  | some v => if v < 0 then (v + (n : Int)).toNat else min v.toNat n
theorem sIx_nat (n d k : Nat) : sIx n d (some (k : Int)) = min k n := by
  show (if (k : Int) < 0 then ((k : Int) + (n : Int)).toNat else min (k : Int).toNat n) = min k n
  rw [if_neg (by omega), Int.toNat_natCast]
theorem sIx_le (n d : Nat) (hd : d ≤ n) (o : Option Int) : sIx n d o ≤ n := by
  cases o with
  | none => exact hd
  | some v =>
    show (if v < 0 then (v + (n : Int)).toNat else min v.toNat n) ≤ n
    by_cases hv : v < 0
    · rw [if_pos hv]; omega
    · rw [if_neg hv]; exact Nat.min_le_right _ _
theorem clip_eq (v : Int) (n d : Nat) : (if v < 0 then max (v + (n : Int)) 0 else min v (n : Int)) = ((sIx n d (some v) : Nat) : Int) := by
  show (if v < 0 then max (v + (n : Int)) 0 else min v (n : Int)) = (((if v < 0 then (v + (n : Int)).toNat else min v.toNat n) : Nat) : Int)
  by_cases hv : v < 0
  · simp only [if_pos hv]; omega
  · simp only [if_neg hv]; omega
theorem adjust_gen (lo hi : Option Int) (n : Nat) : Builtin.Slice.sliceAdjust lo hi 1 (n : Int) = (((sIx n 0 lo : Nat) : Int), ((sIx n n hi : Nat) : Int)) := by
  have h1 : ¬ ((1 : Int) < 0) := by omega
  unfold Builtin.Slice.sliceAdjust
  simp only [h1, if_false]
  refine Prod.ext ?_ ?_
  · cases lo with
    | none => rfl
    | some v => exact clip_eq v n 0
  · cases hi with
    | none => rfl
    | some v => exact clip_eq v n n
theorem places_gen (i j : Nat) : Builtin.Slice.slicePlaces (i : Int) (j : Int) 1 = j - i := by
  unfold Builtin.Slice.slicePlaces
  have h1 : (1 : Int) > 0 := by omega
  simp only [h1, if_true, Int.ediv_one]
  split <;> omega
theorem slicePart_ {v : Value} {o : Option Int} {Q : Option Int → Shared → Prop} (p : IsPart v o) (h : Q o s) : wpAny (model prog w) A (Builtin.Slice.slicePartIndex v) Q E s := by
  cases p with
  | none => exact slicePart_none h
  | int i t => exact slicePart_int h
theorem sliceApplied_gen {sl : Addr} {vl vu : Value} {lo hi : Option Int} {n : Nat} {Q : Int × Int × Nat → Shared → Prop} (hs : s.heap.IsSliceOf sl vl vu .none) (pl : IsPart vl lo) (pu : IsPart vu hi)
    (h : Q (((sIx n 0 lo : Nat) : Int), 1, sIx n n hi - sIx n 0 lo) s) : wpAny (model prog w) A (Builtin.Slice.sliceApplied (.ref sl) (pure (n : Int))) Q E s := by
  obtain ⟨os, hos, hcs, hds⟩ := id hs
  unfold Builtin.Slice.sliceApplied Builtin.Slice.sliceFields
  refine wpAny_bind (wpAny_bind (wpAny_field hos hds (x := vl) rfl (wpAny_bind (wpAny_field hos hds (x := vu) rfl (wpAny_bind (wpAny_field hos hds (x := .none) rfl (wpAny_pure ?_)))))))
  refine wpAny_bind (slicePart_none ?_)
  show wpAny _ _ (if ((1 : Int) == 0) = true then _ else _) _ _ s
  rw [if_neg (by decide)]
  refine wpAny_bind (slicePart_ pl (wpAny_bind (slicePart_ pu (wpAny_bind (wpAny_pure ?_)))))
  show wpAny _ _ (match Builtin.Slice.sliceAdjust lo hi 1 (n : Int) with | (lo, hi) => pure (lo, (1 : Int), Builtin.Slice.slicePlaces lo hi 1)) _ _ s
  rw [adjust_gen lo hi n]
  show wpAny _ _ (pure (((sIx n 0 lo : Nat) : Int), (1 : Int), Builtin.Slice.slicePlaces ((sIx n 0 lo : Nat) : Int) ((sIx n n hi : Nat) : Int) 1)) _ _ s
  rw [places_gen]
  exact wpAny_pure h
theorem pick_gen (xs : Array Value) (i k : Nat) : ((List.range k).filterMap fun (m : Nat) => xs[((i : Int) + (m : Int) * 1).toNat]?).toArray = ((xs.toList.drop i).take k).toArray := by
  have e : (fun (m : Nat) => xs[((i : Int) + (m : Int) * 1).toNat]?) = fun m => xs[i + m]? := by
    funext m
    have : ((i : Int) + (m : Int) * 1).toNat = i + m := by omega
    rw [this]
  rw [e]
  have := pick_run xs i k
  rw [List.filterMap_map] at this
  have e2 : ((fun x => xs[x]?) ∘ fun x => i + x) = fun m => xs[i + m]? := rfl
  rw [e2] at this
  rw [this]

theorem getItem_tuple_cut {t sl : Addr} {items : Array Value} {vl vu : Value} {lo hi : Option Int} {Q : Value → Shared → Prop} (ht : IsTup s.heap t items) (hs : s.heap.IsSliceOf sl vl vu .none) (pl : IsPart vl lo) (pu : IsPart vu hi)
    (hw : ¬ (sIx items.size 0 lo = 0 ∧ sIx items.size items.size hi = items.size))
    (h : Q (.ref s.heap.objs.size) { s with heap := s.heap.push { cls := .type "tuple", data := .seq ((items.toList.drop (sIx items.size 0 lo)).take (sIx items.size items.size hi - sIx items.size 0 lo)).toArray } })
    (hsz : items.size ≤ sizeLine) : wpAny (model prog w) A (getItem (.ref t) (.ref sl)) Q E s := by
  have htake : sizeOk (.seq ((items.toList.drop (sIx items.size 0 lo)).take (sIx items.size items.size hi - sIx items.size 0 lo)).toArray) := by
    show ((items.toList.drop (sIx items.size 0 lo)).take (sIx items.size items.size hi - sIx items.size 0 lo)).toArray.size ≤ sizeLine
    rw [List.size_toArray, List.length_take, List.length_drop, Array.length_toList]
    omega
  have hj : sIx items.size items.size hi ≤ items.size := sIx_le _ _ (Nat.le_refl _) hi
  obtain ⟨os, hos, hcs, hds⟩ := id hs
  have hTs : s.TypeIs (.ref sl) "slice" := ⟨os, hos, hcs⟩
  unfold getItem
  try with_reducible refine wpAny_holding ?_
  first | refine wpAny_bind (wpAny_pure ?_) | skip
  refine wpAny_bind (wpAny_sequenceKey ht.typeIs (by decide) ?_)
  refine wpAny_bind (wpAny_callSpecial?_slot (name := Str.ofString "__getitem__") ht.typeIs PyProof.Rows.slot_tuple_getitem
    (wpAny_call_entry PyProof.Rows.slot_tuple_getitem ht.typeIs entry_tuple_getitem ?_ (args_tuple_getitem _ _)))
  show wpAny _ _ (Builtin.Tuple.tupleItemsOf (.ref t) >>= _) _ _ s
  refine wpAny_bind (tupleItemsOf_ ht ?_)
  refine wpAny_bind (wpAny_typeOf hTs ?_)
  rw [if_pos (by decide)]
  refine wpAny_bind (sliceApplied_gen hs pl pu ?_)
  have hno : ¬ ((((sIx items.size 0 lo : Nat) : Int) == 0 && (1 : Int) == 1 && (sIx items.size items.size hi - sIx items.size 0 lo) == items.size) = true) := by
    intro q
    rw [Bool.and_eq_true, Bool.and_eq_true] at q
    have q1 : ((sIx items.size 0 lo : Nat) : Int) = 0 := eq_of_beq q.1.1
    have q2 : sIx items.size items.size hi - sIx items.size 0 lo = items.size := eq_of_beq q.2
    exact hw ⟨by omega, by omega⟩
  show wpAny _ _ (if (((sIx items.size 0 lo : Nat) : Int) == 0 && (1 : Int) == 1 && (sIx items.size items.size hi - sIx items.size 0 lo) == items.size) = true then _ else _) _ _ s
  rw [if_neg hno, pick_gen]
  first
    | exact wpAny_bind (m := Builtin.Tuple.tupleExact _) (wpAny_newObj_type (wpAny_pure ⟨_, rfl, wpAny_pure h⟩) htake)
    | exact wpAny_bind (m := Builtin.Tuple.tupleExact _) (wpAny_newObj_type (wpAny_bind (wpAny_pure (wpAny_pure ⟨_, rfl, wpAny_pure h⟩))) htake)
    | exact wpAny_bind (wpAny_bind (m := Builtin.Tuple.tupleExact _) (wpAny_newObj_type (wpAny_pure (wpAny_pure ⟨_, rfl, wpAny_pure h⟩)) htake))
    | exact wpAny_bind (wpAny_bind (m := Builtin.Tuple.tupleExact _) (wpAny_newObj_type (wpAny_pure ⟨_, rfl, wpAny_pure h⟩) htake))
end
end HT

namespace L2
open PySem PySem.Spec PyProof.Rows

/-! ### the parts of a slice -/
abbrev TO := St → Hp → (Option Int → Hp → Prop) → Prop
/-- a slice's part (left out, or an int) -/
def PO (X : Cx) (e : Option Expr) (t : TO) : Prop :=
  ∀ (pins : List (Addr × Obj)) (s : Shared) (σ : St) (H : Hp) (Q : Option Int → Hp → Prop), Inv X pins σ H s → t σ H Q →
    wpAny (model X.prog X.w) X.A (evalPart e X.env) (fun u s' => ∃ o H', Inv X pins σ H' s' ∧ IsPart u o ∧ Q o H') X.xe s
def tNoPart : TO := fun _ H Q => Q none H
def tPart (t : TE) : TO := fun σ H Q => t σ H fun x H1 => ∃ i, x = .int i ∧ Q (some i) H1

section
variable {X : Cx} {e : Expr} {te : TE} {lo hi : Option Expr} {tl th : TO} {pos p2 : Pos}

theorem po_none : PO X none tNoPart := by
  intro pins s σ H Q I h
  rw [evalPart_none]
  exact wpAny_pure ⟨none, H, I, .none, h⟩
theorem po_some (h : PE X e te) : PO X (some e) (tPart te) := by
  intro pins s σ H Q I hw
  rw [evalPart_some]
  refine thn (h pins s σ H _ I hw) fun u s1 ⟨x, H1, I1, r1, q1⟩ => ?_
  obtain ⟨i, rfl, q⟩ := q1
  obtain ⟨t, rfl⟩ := r1
  exact ⟨some i, H1, I1, .int i t, q⟩

/-- what a slice of a value is, by values: the slice object stands at sl -/
def SlR (X : Cx) (r : V → Option Int → Option Int → Hp → VK → Prop) : Prop :=
  ∀ (pins : List (Addr × Obj)) (s : Shared) (σ : St) (H : Hp) (x : V) (v vl vu : Value) (lo hi : Option Int) (sl : Addr) (Q : VK), Inv X pins σ H s → RelV x v → s.heap.IsSliceOf sl vl vu .none → IsPart vl lo → IsPart vu hi → r x lo hi H Q →
    ∃ T id, typeLookup (.type T) "__getitem__" = pure (some (.builtin id)) ∧ s.TypeIs v T ∧ wpAny (model X.prog X.w) X.A (getItem v (.ref sl)) (EP X pins σ Q) X.xe s
def tSl (r : V → Option Int → Option Int → Hp → VK → Prop) (te : TE) (tl th : TO) : TE := fun σ H Q => te σ H fun x H1 => tl σ H1 fun l H2 => th σ H2 fun u H3 => r x l u H3 Q
/-- a[lo:hi], any a -/
theorem pe_slice {r : V → Option Int → Option Int → Hp → VK → Prop} (hr : SlR X r) (he : PE X e te) (hl : PO X lo tl) (hu : PO X hi th) : PE X (.Subscript e (.Slice lo hi none p2) pos) (tSl r te tl th) := by
  intro pins s σ H Q I h
  refine Subscript_ (thn (he pins s σ H _ I h) fun v s1 ⟨x, H1, I1, r1, q1⟩ => ?_)
  refine wpAny_Slice (thn (hl pins s1 σ H1 _ I1 q1) fun vl s2 ⟨l, H2, I2, pl, q2⟩ => thn (hu pins s2 σ H2 _ I2 q2) fun vu s3 ⟨u, H3, I3, pu, q3⟩ => ?_)
  rw [evalPart_none]
  refine wpAny_pure ?_
  have I4 : Inv X pins σ H3 { s3 with heap := s3.heap.push { cls := .type "slice", data := .fields #[vl, vu, .none] } } := I3.kept (t' := s3.toks) fun b ob q => Heap.get?_push_of_some _ q
  obtain ⟨T, id, hT, ht, hg⟩ := hr pins { s3 with heap := s3.heap.push { cls := .type "slice", data := .fields #[vl, vu, .none] } } σ H3 x v vl vu l u s3.heap.objs.size Q I4 r1 (Heap.IsSliceOf.new ..) pl pu q3
  show wpAny (model X.prog X.w) X.A (subscriptTail e (.Slice lo hi none p2) v (.ref s3.heap.objs.size)) (EP X pins σ Q) X.xe { s3 with heap := s3.heap.push { cls := .type "slice", data := .fields #[vl, vu, .none] } }
  exact tail_any (ops := [.ref s3.heap.objs.size, v]) ht hT hg (by with_unfolding_all rfl)

/-- the items of xs[lo:hi] -/
def cutV (xs : List V) (lo hi : Option Int) : List V := (xs.drop (HT.sIx xs.length 0 lo)).take (HT.sIx xs.length xs.length hi - HT.sIx xs.length 0 lo)
theorem cutV_length (xs : List V) (lo hi : Option Int) : (cutV xs lo hi).length ≤ xs.length := by
  unfold cutV
  rw [List.length_take, List.length_drop]
  omega
/-- t[lo:hi], not the whole of it (the whole would be t itself) -/
def rSlT (K : PySem.W.Frag) : V → Option Int → Option Int → Hp → VK → Prop := fun x lo hi H Q => ∃ a xs, x = .ref a ∧ SqT K H a xs ∧
  ¬ (HT.sIx xs.length 0 lo = 0 ∧ HT.sIx xs.length xs.length hi = xs.length) ∧ ∀ p, H p = none → Q (.ref p) (upd H p (.tup (cutV xs lo hi)))
theorem sl_tup : SlR X (rSlT X.K) := by
  intro pins s σ H x v vl vu lo hi sl Q I rx hs pl pu h
  obtain ⟨a, xs, rfl, hx, hw, q⟩ := h
  cases rx
  obtain ⟨its, r, ht, hz⟩ := I.tuple hx
  have hlen : its.toArray.size = xs.length := by rw [List.size_toArray]; exact r.length.symm
  refine ⟨"tuple", _, PyProof.Rows.slot_tuple_getitem.lookup, ht.typeIs, ?_⟩
  refine HT.getItem_tuple_cut ht hs pl pu (by rw [hlen]; exact hw) ?_ (by rw [hlen]; exact hz)
  rw [hlen]
  refine ⟨.ref s.heap.objs.size, _, I.laid (t' := s.toks) (o := .tup (cutV xs lo hi)) (fun b ob q => Heap.get?_push_of_some _ q) (Nat.le_refl _) ?_, rfl, q _ (I.hok.fresh (Nat.le_refl _))⟩
  exact ⟨Nat.le_trans (cutV_length xs lo hi) hz, _, (r.drop (HT.sIx xs.length 0 lo)).take (HT.sIx xs.length xs.length hi - HT.sIx xs.length 0 lo), IsTup.new _ _⟩

/-! ### t < u, t + u -/
/-- t + u, t not empty: u empty gives t itself -/
def rCatT (K : PySem.W.Frag) : R2 := fun x y H Q => ∃ a b xs ys, x = .ref a ∧ y = .ref b ∧ SqT K H a xs ∧ SqT K H b ys ∧ xs ≠ [] ∧ xs.length + ys.length ≤ sizeLine ∧
  (ys = [] → Q (.ref a) H) ∧ (ys ≠ [] → ∀ p, H p = none → Q (.ref p) (upd H p (.tup (xs ++ ys))))
theorem Vals.nil_iff {xs : List V} {us : List Value} (r : Vals xs us) : us = [] ↔ xs = [] := by
  cases r with
  | nil => simp
  | cons _ _ => simp
theorem op_catT : OpR X (binaryOp .Add) (rCatT X.K) := by
  intro pins s σ H x y v u Q I rx ry h
  obtain ⟨a, b, xs, ys, rfl, rfl, ha, hb, hx, hz, q1, q2⟩ := h
  cases rx
  cases ry
  obtain ⟨its, r1, p1, _⟩ := I.tuple ha
  obtain ⟨its2, r2, p2, _⟩ := I.tuple hb
  refine HT.cat_tup p1 p2 (fun z => hx (r1.nil_iff.mp z)) (fun z => ⟨.ref a, H, I, rfl, q1 (r2.nil_iff.mp z)⟩) (fun z => ?_) (by rw [← r1.length, ← r2.length]; exact hz)
  refine ⟨.ref s.heap.objs.size, _, I.laid (t' := s.toks) (o := .tup (xs ++ ys)) (fun b ob q => Heap.get?_push_of_some _ q) (Nat.le_refl _) ?_, rfl, q2 (fun w => z (r2.nil_iff.mpr w)) _ (I.hok.fresh (Nat.le_refl _))⟩
  exact ⟨by rw [List.length_append]; exact hz, _, r1.append r2, IsTup.new _ _⟩
end
end L2

namespace L2
open PySem PySem.Spec PyProof.Rows

/-! ### places -/
/-- the place that an index of any sign means -/
def ixN (n : Nat) (i : Int) : Option Nat := if 0 ≤ i then (if i < n then some i.toNat else none) else if -(n : Int) ≤ i then some (i + n).toNat else none
def atI {α : Type} (xs : List α) (i : Int) : Option α := (ixN xs.length i).bind fun j => xs[j]?
theorem ixN_seq {n : Nat} {i : Int} {j : Nat} (h : ixN n i = some j) : seqIndex? i n = some j ∧ j < n ∧ -(n : Int) ≤ i ∧ i < n := by
  unfold ixN at h
  by_cases h0 : 0 ≤ i
  · rw [if_pos h0] at h
    by_cases h1 : i < n
    · rw [if_pos h1] at h
      have e : i.toNat = j := Option.some.inj h
      exact ⟨by rw [seqIndex_of h0 h1, e], by omega, by omega, h1⟩
    · rw [if_neg h1] at h; cases h
  · rw [if_neg h0] at h
    by_cases h1 : -(n : Int) ≤ i
    · rw [if_pos h1] at h
      have e : (i + n).toNat = j := Option.some.inj h
      exact ⟨by rw [seqIndex_neg (by omega) h1, e], by omega, h1, by omega⟩
    · rw [if_neg h1] at h; cases h
theorem atI_get {α : Type} {xs : List α} {i : Int} {v : α} (h : atI xs i = some v) : ∃ j, seqIndex? i xs.length = some j ∧ xs[j]? = some v ∧ j < xs.length ∧ -(xs.length : Int) ≤ i ∧ i < xs.length := by
  unfold atI at h
  cases e : ixN xs.length i with
  | none => rw [e] at h; cases h
  | some j =>
    rw [e] at h
    obtain ⟨h1, h2, h3, h4⟩ := ixN_seq e
    exact ⟨j, h1, h, h2, h3, h4⟩
theorem atI_nat {α : Type} {xs : List α} {j : Nat} {v : α} (h : xs[j]? = some v) : atI xs (j : Int) = some v := by
  have hj : j < xs.length := (List.getElem?_eq_some_iff.mp h).1
  have e : ixN xs.length (j : Int) = some j := by
    unfold ixN
    rw [if_pos (by omega), if_pos (by omega)]; simp
  unfold atI; rw [e]; exact h
theorem atI_last {α : Type} (xs : List α) (v : α) : atI (xs ++ [v]) (-1) = some v := by
  have hl : (xs ++ [v]).length = xs.length + 1 := by simp
  have e : ixN (xs ++ [v]).length (-1) = some xs.length := by
    unfold ixN
    rw [hl, if_neg (by decide), if_pos (by omega)]
    congr 1
    omega
  unfold atI
  rw [e]
  show (xs ++ [v])[xs.length]? = some v
  simp

/-! ### what may be subscripted -/
/-- what stands as an index of a plain subscript -/
def PlainIx (b : Expr) : Prop := ∀ o i, subscripted b false o i = operate [o, i] (getItem o i)
/-- a subscript by values -/
def IxR (X : Cx) (r : R2) : Prop :=
  ∀ (value slice : Expr) (pins : List (Addr × Obj)) (s : Shared) (σ : St) (H : Hp) (x y : V) (v u : Value) (Q : VK), Inv X pins σ H s → RelV x v → RelV y u → r x y H Q →
    subscripted slice false v u = operate [v, u] (getItem v u) → wpAny (model X.prog X.w) X.A (subscriptTail value slice v u) (EP X pins σ Q) X.xe s
/-- a call of a builtin's method by values: the receiver, the arguments -/
def MtR (X : Cx) (id : String) (r : V → List V → Hp → VK → Prop) : Prop :=
  ∀ (pins : List (Addr × Obj)) (s : Shared) (σ : St) (H : Hp) (x : V) (xs : List V) (v : Value) (us : List Value) (Q : VK), Inv X pins σ H s → RelV x v → Vals xs us → r x xs H Q →
    wpAny (model X.prog X.w) X.A (call (.builtin id) (v :: us)) (EP X pins σ Q) X.xe s
section
variable {X : Cx} {a b : Expr} {ta tb : TE} {pos : Pos}
/-- a[b] -/
theorem pe_ix {r : R2} (hr : IxR X r) (ha : PE X a ta) (hb : PE X b tb) (hs : PlainIx b) : PE X (.Subscript a b pos) (tOp r ta tb) := by
  intro pins s σ H Q I h
  exact Subscript_ (binT ha hb I h fun v u s2 x y H2 I2 rx ry q => hr a b pins s2 σ H2 x y v u Q I2 rx ry q (hs _ _))

def rIxL (K : PySem.W.Frag) : R2 := fun x y H Q => ∃ p xs i v, x = .ref p ∧ y = .int i ∧ SqL K H p xs ∧ atI xs i = some v ∧ Q v H
def rIxT (K : PySem.W.Frag) : R2 := fun x y H Q => ∃ p xs i v, x = .ref p ∧ y = .int i ∧ SqT K H p xs ∧ atI xs i = some v ∧ Q v H
theorem ix_list : IxR X (rIxL X.K) := by
  intro value slice pins s σ H x y v u Q I rx ry h hs
  obtain ⟨p, xs, i, z, rfl, rfl, hq, he, q⟩ := h
  cases rx
  obtain ⟨t, rfl⟩ := ry
  obtain ⟨its, r, pl, hz⟩ := I.list hq
  obtain ⟨j, h1, h2, h3, h4, h5⟩ := atI_get he
  obtain ⟨w, ew, rw'⟩ := r.get h2
  have hl := r.length
  have hn := line63
  have fin : EP X pins σ Q w s := ⟨z, H, I, rw', q⟩
  by_cases h0 : 0 ≤ i
  · have hj : i.toNat = j := by
      rw [seqIndex_of h0 h5] at h1
      exact Option.some.inj h1
    exact item_listR pl.isList h0 (by omega) (by rw [hj]; simpa using ew) fin hs
  · have hj : (i + (its.toArray.size : Int)).toNat = j := by
      rw [seqIndex_neg (by omega) h4] at h1
      rw [List.size_toArray, ← hl]
      exact Option.some.inj h1
    exact subscriptTail_builtinR (x := w) pl.isList.typeIs slot_list_getitem.lookup
      (wpAny_getItem_list_neg (Q := fun r s' => r = w ∧ EP X pins σ Q r s') pl.isList (by omega) (by rw [List.size_toArray] <;> omega) (by omega) (by rw [hj]; simpa using ew) ⟨rfl, fin⟩) hs
theorem ix_tup : IxR X (rIxT X.K) := by
  intro value slice pins s σ H x y v u Q I rx ry h hs
  obtain ⟨p, xs, i, z, rfl, rfl, hq, he, q⟩ := h
  cases rx
  obtain ⟨t, rfl⟩ := ry
  obtain ⟨its, r, pl, hz⟩ := I.tuple hq
  obtain ⟨j, h1, h2, h3, h4, h5⟩ := atI_get he
  obtain ⟨w, ew, rw'⟩ := r.get h2
  have hl := r.length
  have hn := line63
  have fin : EP X pins σ Q w s := ⟨z, H, I, rw', q⟩
  exact subscriptTail_builtinR (x := w) pl.typeIs slot_tuple_getitem.lookup
    (getItem_tuple (j := j) (Q := fun r s' => r = w ∧ EP X pins σ Q r s') pl (by omega) (by omega) (by rw [List.size_toArray, ← hl]; exact h1) (by simpa using ew) ⟨rfl, fin⟩) hs
/-! ### xs[i] = v, any sign -/
/-- the list's object behind a store -/
theorem mapSeq_set (its : List Value) (n j : Nat) (u : Value) : Obj.mapSeq (·.setIfInBounds j u) { cls := .type "list", data := .seq its.toArray n } = { cls := .type "list", data := .seq (its.set j u).toArray n } := by
  simp [Obj.mapSeq]
theorem Inv.lst {pins : List (Addr × Obj)} {σ : St} {H : Hp} {s : Shared} {p : Addr} {xs : List V} (I : Inv X pins σ H s) (h : H p = some (.lst xs)) :
    ∃ (its : List Value) (n : Nat), Vals xs its ∧ s.heap.get? p = some { cls := .type "list", data := .seq its.toArray n } ∧ xs.length ≤ sizeLine := by
  obtain ⟨z, its, n, r, e⟩ := I.hok p _ h
  exact ⟨its, n, r, e, z⟩
/-- the list at p is written by an update of its object -/
theorem Inv.lstUpd {pins : List (Addr × Obj)} {σ : St} {H : Hp} {s : Shared} {p : Addr} {xs ys : List V} {its its' : List Value} {n n' : Nat} {f : Obj → Obj} (I : Inv X pins σ H s) (h : H p = some (.lst xs))
    (ho : s.heap.get? p = some { cls := .type "list", data := .seq its.toArray n }) (hf : f { cls := .type "list", data := .seq its.toArray n } = { cls := .type "list", data := .seq its'.toArray n' }) (r : Vals ys its') (hz : ys.length ≤ sizeLine) (t : Nat) :
    Inv X pins σ (upd H p (.lst ys)) { s with heap := s.heap.update p f, toks := t } := by
  have e : (s.heap.update p f).get? p = some { cls := .type "list", data := .seq its'.toArray n' } := by
    rw [Heap.get?_update_self f ho (by rw [hf] <;> rfl), hf]
  refine I.write (x := p) (e := p) (by rw [h]; trivial) (.inl rfl) (fun b u hb q => (Heap.get?_update_other _ _ (Ne.symm hb)).trans q) ⟨_, e⟩ ?_
  exact ⟨hz, its', n', r, e⟩
def rSetL : V → V → V → Hp → (Hp → Prop) → Prop := fun o i v H Q => ∃ p xs k j, o = .ref p ∧ i = .int k ∧ H p = some (.lst xs) ∧ ixN xs.length k = some j ∧ Q (upd H p (.lst (xs.set j v)))
theorem set_list : PSet X rSetL := by
  intro pins s σ H o i v ov iv u Q I ro ri rv h
  obtain ⟨p, xs, k, j, rfl, rfl, hp, hj, q⟩ := h
  cases ro
  obtain ⟨t, rfl⟩ := ri
  obtain ⟨its, n, r, ho, hz⟩ := I.lst hp
  obtain ⟨h1, h2, h3, h4⟩ := ixN_seq hj
  have hl := r.length
  have hn := line63
  have I' : Inv X pins σ (upd H p (.lst (xs.set j v))) { s with heap := s.heap.update p (Obj.mapSeq (·.setIfInBounds j u)) } :=
    I.lstUpd hp ho (mapSeq_set its n j u) (r.set rv j) (by rw [List.length_set]; exact hz) s.toks
  by_cases h0 : 0 ≤ k
  · have hk : k.toNat = j := by
      rw [seqIndex_of h0 h4] at h1
      exact Option.some.inj h1
    exact PySem.W.ki_setAt ho h0 (by omega) (by rw [List.size_toArray, ← hl]; exact h4) (by rw [hk]; exact ⟨_, I', q⟩)
  · have hk : (k + (its.toArray.size : Int)).toNat = j := by
      rw [seqIndex_neg (by omega) h3] at h1
      rw [List.size_toArray, ← hl]
      exact Option.some.inj h1
    exact PySem.W.ki_setBack ho (by omega) (by rw [List.size_toArray, ← hl]; exact h3) (by omega) (by rw [hk]; exact ⟨_, I', q⟩)

/-! ### slices -/
theorem slice_bounds (lo hi : Option Int) (n : Nat) : (sliceBounds lo hi none n).1 = ((HT.sIx n 0 lo : Nat) : Int) ∧ (sliceBounds lo hi none n).2.1 = ((HT.sIx n n hi : Nat) : Int) ∧ (sliceBounds lo hi none n).2.2 = 1 := by
  refine ⟨?_, ?_, rfl⟩
  · cases lo with
    | none => simp [sliceBounds, HT.sIx]
    | some i =>
      simp only [sliceBounds, HT.sIx, Option.getD_none, show (1 : Int) > 0 by decide, if_true]
      by_cases h : i < 0
      · simp only [h, if_true] <;> omega
      · simp only [h, if_false] <;> omega
  · cases hi with
    | none => simp [sliceBounds, HT.sIx]
    | some i =>
      simp only [sliceBounds, HT.sIx, Option.getD_none, show (1 : Int) > 0 by decide, if_true]
      by_cases h : i < 0
      · simp only [h, if_true] <;> omega
      · simp only [h, if_false] <;> omega
theorem slicePick_cut (its : List Value) (lo hi : Option Int) : slicePick its.toArray lo hi none = ((its.drop (HT.sIx its.length 0 lo)).take (HT.sIx its.length its.length hi - HT.sIx its.length 0 lo)).toArray := by
  obtain ⟨h1, h2, h3⟩ := slice_bounds lo hi its.toArray.size
  unfold slicePick
  rw [h1, h2, h3]
  simp only [sliceRange_one, pick_run, List.size_toArray] <;> rfl
/-- xs[lo:hi] of a list: a new list -/
def rSlL (K : PySem.W.Frag) : V → Option Int → Option Int → Hp → VK → Prop := fun x lo hi H Q => ∃ a xs, x = .ref a ∧ SqL K H a xs ∧ ∀ p, H p = none → Q (.ref p) (upd H p (.lst (cutV xs lo hi)))
theorem sl_list : SlR X (rSlL X.K) := by
  intro pins s σ H x v vl vu lo hi sl Q I rx hs pl pu h
  obtain ⟨a, xs, rfl, hx, q⟩ := h
  cases rx
  obtain ⟨its, r, ht, hz⟩ := I.list hx
  have hlen := r.length
  refine ⟨"list", _, slot_list_getitem.lookup, ht.isList.typeIs, ?_⟩
  refine wpAny_getItem_list_slice ht.isList hs pl pu .none (by simp) ?_ (by rw [List.size_toArray] <;> omega)
  rw [slicePick_cut, ← hlen]
  refine ⟨.ref s.heap.objs.size, _, I.laid (t' := s.toks) (o := .lst (cutV xs lo hi)) (fun b ob q => Heap.get?_push_of_some _ q) (Nat.le_refl _) ?_, rfl, q _ (I.hok.fresh (Nat.le_refl _))⟩
  exact ⟨Nat.le_trans (cutV_length xs lo hi) hz, _, 0, (r.drop (HT.sIx xs.length 0 lo)).take (HT.sIx xs.length xs.length hi - HT.sIx xs.length 0 lo), Heap.get?_push_size _ rfl⟩

/-! ### in, not in: flat items -/
def flatV : V → Bool
  | .non => true
  | .bl _ => true
  | .int _ => true
  | .str _ => true
  | _ => false
/-- == of flat values -/
def eqV : V → V → Bool
  | .non, .non => true
  | .bl a, .bl b => a == b
  | .bl a, .int b => (if a then 1 else 0) == b
  | .int a, .bl b => a == (if b then 1 else 0)
  | .int a, .int b => a == b
  | .str a, .str b => a == b
  | _, _ => false
theorem eqAt_V {A : Around} {s : Shared} {y x : V} {u v : Value} (ry : RelV y u) (rx : RelV x v) (fy : flatV y = true) (fx : flatV x = true) : SeqAt.EqAt A s u v (eqV y x) := by
  cases y with
  | non =>
    cases ry
    cases x with
    | non => cases rx; exact SeqAt.EqAt.same _
    | bl b => cases rx; exact SeqAt.EqAt.none_bool b
    | int b => obtain ⟨t, rfl⟩ := rx; exact SeqAt.EqAt.none_int b t
    | str b => obtain ⟨t, rfl⟩ := rx; exact SeqAt.EqAt.none_str b t
    | _ => exact absurd (show false = true from fx) Bool.false_ne_true
  | bl a =>
    cases ry
    cases x with
    | non => cases rx; exact SeqAt.EqAt.bool_none a
    | bl b => cases rx; exact SeqAt.EqAt.bool_bool a b
    | int b => obtain ⟨t, rfl⟩ := rx; exact SeqAt.EqAt.bool_int a b t
    | str b => obtain ⟨t, rfl⟩ := rx; exact SeqAt.EqAt.bool_str a b t
    | _ => exact absurd (show false = true from fx) Bool.false_ne_true
  | int a =>
    obtain ⟨t', rfl⟩ := ry
    cases x with
    | non => cases rx; exact SeqAt.EqAt.int_none a t'
    | bl b => cases rx; exact SeqAt.EqAt.int_bool a t' b
    | int b => obtain ⟨t, rfl⟩ := rx; exact SeqAt.EqAt.int_int a t' b t
    | str b => obtain ⟨t, rfl⟩ := rx; exact SeqAt.EqAt.int_str a t' b t
    | _ => exact absurd (show false = true from fx) Bool.false_ne_true
  | str a =>
    obtain ⟨t', rfl⟩ := ry
    cases x with
    | non => cases rx; exact SeqAt.EqAt.str_none a t'
    | bl b => cases rx; exact SeqAt.EqAt.str_bool a t' b
    | int b => obtain ⟨t, rfl⟩ := rx; exact SeqAt.EqAt.str_int a t' b t
    | str b => obtain ⟨t, rfl⟩ := rx; exact SeqAt.EqAt.str_str a t' b t
    | _ => exact absurd (show false = true from fx) Bool.false_ne_true
  | _ => exact absurd (show false = true from fy) Bool.false_ne_true
/-- the items' answers, read off the values (a value's own answer does not lean on its token) -/
def eqU (x : V) (u : Value) : Bool := match u with
  | .none => eqV .non x
  | .bool b => eqV (.bl b) x
  | .int i _ => eqV (.int i) x
  | .str z _ => eqV (.str z) x
  | _ => false
theorem eqU_of {x y : V} {u : Value} (r : RelV y u) (f : flatV y = true) : eqU x u = eqV y x := by
  cases y with
  | non => cases r; rfl
  | bl b => cases r; rfl
  | int i => obtain ⟨t, rfl⟩ := r; rfl
  | str z => obtain ⟨t, rfl⟩ := r; rfl
  | _ => exact absurd (show false = true from f) Bool.false_ne_true
theorem any_eqU {x : V} : ∀ {xs : List V} {us : List Value}, Vals xs us → xs.all flatV = true → us.any (eqU x) = xs.any fun y => eqV y x
  | _, _, .nil, _ => rfl
  | y :: xs, u :: us, .cons r t, f => by
    rw [List.all_cons, Bool.and_eq_true] at f
    rw [List.any_cons, List.any_cons, eqU_of r f.1, any_eqU t f.2]
theorem mem_eqAt {A : Around} {s : Shared} {x : V} {v : Value} (rx : RelV x v) (fx : flatV x = true) : ∀ {xs : List V} {us : List Value}, Vals xs us → xs.all flatV = true → ∀ u ∈ us, SeqAt.EqAt A s u v (eqU x u)
  | _, _, .nil, _ => fun u hu => by cases hu
  | y :: xs, u :: us, .cons r t, f => fun u' hu => by
    rw [List.all_cons, Bool.and_eq_true] at f
    rcases List.mem_cons.mp hu with rfl | hu
    · rw [eqU_of r f.1]; exact eqAt_V r rx f.1 fx
    · exact mem_eqAt rx fx t f.2 u' hu
def inV (x : V) (xs : List V) : Bool := xs.any fun y => eqV y x
/-- x in a list or tuple of flat items -/
def rIn (K : PySem.W.Frag) (neg : Bool) : R2 := fun x y H Q => ∃ p xs, y = .ref p ∧ (SqL K H p xs ∨ SqT K H p xs) ∧ flatV x = true ∧ xs.all flatV = true ∧ Q (.bl (if neg then !inV x xs else inV x xs)) H
theorem op_notIn_seq : OpR X (compareOp .NotIn) (rIn X.K true) := by
  intro pins s σ H x y v u Q I rx ry h
  obtain ⟨p, xs, rfl, hq, fx, fs, q⟩ := h
  cases ry
  rcases hq with hq | hq
  · obtain ⟨its, r, pl, hz⟩ := I.list hq
    refine SeqAt.notIn_listAt (eqU x) pl.isList (fun w hw => mem_eqAt rx fx r fs w (by simpa using hw)) ⟨.bl _, H, I, rfl, ?_⟩
    rw [show its.toArray.any (eqU x) = its.any (eqU x) by simp, any_eqU r fs]
    exact q
  · obtain ⟨its, r, pl, hz⟩ := I.tuple hq
    refine SeqAt.notIn_tupleAt (eqU x) pl (fun w hw => mem_eqAt rx fx r fs w (by simpa using hw)) ⟨.bl _, H, I, rfl, ?_⟩
    rw [show its.toArray.any (eqU x) = its.any (eqU x) by simp, any_eqU r fs]
    exact q
/-! ### len, list(x), tuple(x) of any list or tuple that is read -/
theorem call_len_seq : CallR X (.builtin "len") (fun xs H Q => ∃ p ys, xs = [.ref p] ∧ (SqL X.K H p ys ∨ SqT X.K H p ys) ∧ Q (.int ys.length) H) := by
  intro pins s σ H xs us Q I r h
  obtain ⟨p, ys, rfl, hq, q⟩ := h
  obtain ⟨u, rfl, rx⟩ := vals1 r
  cases rx
  have hn := line63
  rcases hq with hq | hq
  · obtain ⟨its, r', pl, hz⟩ := I.list hq
    have hlen := r'.length
    exact Calls.call_len_list pl.isList (by simp only [List.size_toArray] <;> omega) ⟨.int ys.length, H, I.tok _, ⟨s.toks + 1, by rw [List.size_toArray, hlen]⟩, q⟩
  · obtain ⟨its, r', pl, hz⟩ := I.tuple hq
    have hlen := r'.length
    exact len_tuple pl (by simp only [List.size_toArray] <;> omega) ⟨.int ys.length, H, I.tok _, ⟨s.toks + 1, by rw [List.size_toArray, hlen]⟩, q⟩
theorem call_list_of : CallR X (.type "list") (fun xs H Q => ∃ p ys, xs = [.ref p] ∧ (SqL X.K H p ys ∨ SqT X.K H p ys) ∧ ∀ l, H l = none → Q (.ref l) (upd H l (.lst ys))) := by
  intro pins s σ H xs us Q I r h
  obtain ⟨p, ys, rfl, hq, q⟩ := h
  obtain ⟨u, rfl, rx⟩ := vals1 r
  cases rx
  have fin : ∀ (its : List Value), Vals ys its → ys.length ≤ sizeLine → ∀ (h' : Heap) (c' : Nat), (∀ b o', s.heap.get? b = some o' → h'.get? b = some o') →
      h'.get? s.heap.objs.size = some { cls := .type "list", dict := none, data := .seq its.toArray c', slots := #[] } → EP X pins σ Q (.ref s.heap.objs.size) { s with heap := h' } := fun its r' hz h' c' kp e =>
    ⟨.ref s.heap.objs.size, _, I.laid (t' := s.toks) kp (Nat.le_refl _) (show ObjOk X.prog X.w _ h' _ (.lst ys) from ⟨hz, its, c', r', e⟩), rfl, q _ (I.hok.fresh (Nat.le_refl _))⟩
  rcases hq with hq | hq
  · obtain ⟨its, r', pl, hz⟩ := I.list hq
    have hlen := r'.length
    obtain ⟨o, ho, hc, n, hd⟩ := pl.isList
    exact call_list_seq p (.inl rfl) ho hc hd (fun h' c' kp e => fin its r' hz h' c' kp e) (by simp only [List.size_toArray] <;> omega)
  · obtain ⟨its, r', pl, hz⟩ := I.tuple hq
    have hlen := r'.length
    obtain ⟨o, ho, hc, n, hd⟩ := pl
    exact call_list_seq p (.inr rfl) ho hc hd (fun h' c' kp e => fin its r' hz h' c' kp e) (by simp only [List.size_toArray] <;> omega)
theorem call_tuple_of : CallR X (.type "tuple") (fun xs H Q => ∃ p ys, xs = [.ref p] ∧ ((SqL X.K H p ys ∧ ∀ l, H l = none → Q (.ref l) (upd H l (.tup ys))) ∨ (SqT X.K H p ys ∧ Q (.ref p) H))) := by
  intro pins s σ H xs us Q I r h
  obtain ⟨p, ys, rfl, h⟩ := h
  obtain ⟨u, rfl, rx⟩ := vals1 r
  cases rx
  rcases h with ⟨hq, q⟩ | ⟨hq, q⟩
  · obtain ⟨its, r', pl, hz⟩ := I.list hq
    have hlen := r'.length
    refine call_tuple_list pl.isList (fun h' kp => ?_) (by simp only [List.size_toArray] <;> omega)
    have I1 : Inv X pins σ H { s with heap := h' } := I.kept (t' := s.toks) kp
    have I2 : Inv X pins σ (upd H h'.objs.size (.tup ys)) { s with heap := h'.push { cls := .type "tuple", data := .seq its.toArray } } :=
      I1.laid (t' := s.toks) (fun b o e => Heap.get?_push_of_some _ e) (Nat.le_refl _) (show ObjOk X.prog X.w _ _ _ (.tup ys) from ⟨hz, its, r', IsTup.new _ _⟩)
    exact ⟨.ref h'.objs.size, _, I2, rfl, q _ (I1.hok.fresh (Nat.le_refl _))⟩
  · obtain ⟨its, r', pl, hz⟩ := I.tuple hq
    exact call_tuple_same pl ⟨.ref p, H, I, rfl, q⟩

/-! ### the call of a builtin's method: o.m(..) -/
/-- the value is of that builtin type -/
def tyV (K : PySem.W.Frag) (T : String) (x : V) (H : Hp) : Prop := match x with
  | .str _ => T = "str"
  | .int _ => T = "int"
  | .ref p => (T = "list" ∧ ∃ xs, SqL K H p xs) ∨ (T = "tuple" ∧ ∃ o, K.lookup p = some o ∧ o.cls = .type "tuple" ∧ o.dict = none) ∨
      (T = "dict" ∧ ((∃ kvs, H p = some (.dK kvs)) ∨ ∃ kvs, H p = some (.dT kvs))) ∨ (T = "set" ∧ ∃ S n, H p = some (.set S n))
  | _ => False
theorem tyV_is {pins : List (Addr × Obj)} {σ : St} {H : Hp} {s : Shared} {T : String} {x : V} {v : Value} (I : Inv X pins σ H s) (r : RelV x v) (ty : tyV X.K T x H) :
    s.TypeIs v T ∧ ∀ a, v = .ref a → ∃ ob, s.heap.get? a = some ob ∧ ob.dict = none := by
  cases x with
  | str z =>
    obtain ⟨t, rfl⟩ := r
    cases (show T = "str" from ty)
    exact ⟨typeIs_str s z t, fun _ e => nomatch e⟩
  | int i =>
    obtain ⟨t, rfl⟩ := r
    cases (show T = "int" from ty)
    exact ⟨typeIs_int s i t, fun _ e => nomatch e⟩
  | ref p =>
    cases r
    rcases ty with ⟨rfl, xs, hq⟩ | ⟨rfl, o, hk, hc, hd⟩ | ⟨rfl, hk⟩ | ⟨rfl, S, n, hk⟩
    · obtain ⟨its, _, pl, _⟩ := I.list hq
      refine ⟨pl.isList.typeIs, fun a e => ?_⟩
      cases e
      obtain ⟨o, n, e, c, hd, _⟩ := pl
      exact ⟨o, e, hd⟩
    · refine ⟨⟨o, I.kIn p o hk, hc⟩, fun a e => ?_⟩
      cases e
      exact ⟨o, I.kIn _ o hk, hd⟩
    · have z : ∃ o, s.heap.get? p = some o ∧ o.ExactDict := by
        rcases hk with ⟨kvs, hk⟩ | ⟨kvs, hk⟩
        · obtain ⟨_, _, _, _, o, _, _, e, ex, _⟩ := I.hok p _ hk
          exact ⟨o, e, ex⟩
        · obtain ⟨_, _, _, _, o, _, _, e, ex, _⟩ := I.hok p _ hk
          exact ⟨o, e, ex⟩
      obtain ⟨o, e, ex⟩ := z
      refine ⟨⟨o, e, ex.1⟩, fun a e2 => ?_⟩
      cases e2
      exact ⟨o, e, ex.2.1⟩
    · obtain ⟨o, _, _, _, e, ex, _⟩ := I.hok p _ hk
      refine ⟨⟨o, e, ex.1⟩, fun a e2 => ?_⟩
      cases e2
      exact ⟨o, e, ex.2.1⟩
  | _ => exact False.elim ty
def tBM0 (K : PySem.W.Frag) (T : String) (r : V → List V → Hp → VK → Prop) (to : TE) : TE := fun σ H Q => to σ H fun x H1 => tyV K T x H1 ∧ r x [] H1 Q
def tBM (K : PySem.W.Frag) (T : String) (r : V → List V → Hp → VK → Prop) (to : TE) (t : TA) : TE := fun σ H Q => to σ H fun x H1 => tyV K T x H1 ∧ t σ H1 fun xs H2 => r x xs H2 Q
variable {o e : Expr} {es : List Expr} {to : TE} {t : TA} {name : Str} {apos cpos : Pos} {T id : String} {r : V → List V → Hp → VK → Prop}
theorem pe_bm0 (pa : PlainAttrs T) (slot : Slot T name id) (hty : typeOf (.builtin id) = pure (.type "method_descriptor")) (hm : MtR X id r) (ho : PE X o to)
    (hbase : attributeBase o name X.env (eval o X.env) = eval o X.env := by rfl) (hline : (apos.endLine == cpos.line) = true := by rfl) : PE X (.Call (.Attribute o name apos) [] [] cpos) (tBM0 X.K T r to) := by
  intro pins s σ H Q I h
  refine wpAny_Call_method0_late hbase hline (thn (ho pins s σ H _ I h) fun v s1 ⟨x, H1, I1, r1, ty, q1⟩ => ?_)
  obtain ⟨h1, h2⟩ := tyV_is I1 r1 ty
  exact ⟨T, id, pa, slot, hty, h1, h2, Calls.callWith_builtin rfl (PySem.evalArgs_none (hm pins s1 σ H1 x [] v [] Q I1 r1 .nil q1))⟩
theorem pe_bm (pa : PlainAttrs T) (slot : Slot T name id) (hty : typeOf (.builtin id) = pure (.type "method_descriptor")) (hm : MtR X id r) (ho : PE X o to) (ha : PA X (e :: es) t)
    (hbase : attributeBase o name X.env (eval o X.env) = eval o X.env := by rfl)
    (hfew : ((backTo cpos (starEach (e :: es) X.env)).all (fun x => !x.1) && (backToKw cpos (keywordEach [] X.env)).all (fun x => x.1.isSome)
      && decide ((e :: es).length + ([] : List Keyword).length + (if ([] : List Keyword).isEmpty then 0 else 1) < 30)) = true := by rfl)
    (hline : (apos.endLine == cpos.line) = true := by rfl) (hs : starEach (e :: es) X.env = (false, eval e X.env) :: starEach es X.env := by rfl) (hplain : (backTo cpos (starEach es X.env)).any (·.1) = false := by rfl) :
    PE X (.Call (.Attribute o name apos) (e :: es) [] cpos) (tBM X.K T r to t) := by
  intro pins s σ H Q I h
  refine wpAny_Call_method_late hbase hfew hline rfl (thn (ho pins s σ H _ I h) fun v s1 ⟨x, H1, I1, r1, ty, q1⟩ => ?_)
  obtain ⟨h1, h2⟩ := tyV_is I1 r1 ty
  refine ⟨T, id, pa, slot, hty, h1, h2, ?_⟩
  have hA := ha cpos pins s1 σ H1 _ I1 q1
  rw [hs] at hA ⊢
  refine Calls.callWith_builtin (by show (false || (backTo cpos (starEach es X.env)).any (·.1)) = false; rw [hplain] <;> rfl) (Calls.evalArgs_plain ?_)
  exact thn hA fun us s2 ⟨vs, H2, I2, r2, q2⟩ => hm pins s2 σ H2 x vs v us Q I2 r1 r2 q2
/- xs.append(e), list.index on a module's tuple .. are MtR facts of 06m -/
end
end L2

namespace L2
open PySem PySem.Spec PyProof.Rows

def MtM (X : Cx) (id : String) (r : V → List V → Hp → VK → Prop) : Prop :=
  ∀ (pins : List (Addr × Obj)) (s : Shared) (σ : St) (H : Hp) (x : V) (xs : List V) (v : Value) (us : List Value) (Q : VK), Inv X pins σ H s → RelV x v → Vals xs us → r x xs H Q →
    wpAny (model X.prog X.w) X.A (call (.builtin id) (v :: us)) (EP X pins σ Q) X.xe s

/-! ### lists of values -/
theorem Vals.one : ∀ {x : V} {us : List Value}, Vals [x] us → ∃ u, us = [u] ∧ RelV x u
  | _, _, .cons r .nil => ⟨_, rfl, r⟩
theorem Vals.zero : ∀ {us : List Value}, Vals [] us → us = []
  | _, .nil => rfl
theorem Vals.dropLast {xs : List V} {us : List Value} (h : Vals xs us) : Vals xs.dropLast us.dropLast := by
  induction h with
  | nil => exact .nil
  | cons r t ih =>
    cases t with
    | nil => exact .nil
    | cons q t' => exact .cons r ih
theorem erase_last {α : Type} (l : List α) : l.eraseIdx (l.length - 1) = l.dropLast := by
  induction l with
  | nil => rfl
  | cons a r ih =>
    cases r with
    | nil => rfl
    | cons b r =>
      have e : (a :: b :: r).length - 1 = ((b :: r).length - 1) + 1 := by
        have h1 : (a :: b :: r).length = r.length + 2 := rfl
        have h2 : (b :: r).length = r.length + 1 := rfl
        omega
      rw [e, List.eraseIdx_cons_succ, ih]
      all_goals rfl
section
variable {X : Cx} {pins : List (Addr × Obj)} {σ : St} {H : Hp} {s : Shared} {l b : Addr} {xs ys zs : List V}

/-! ### the two steps: a tracked list is rewritten, a new list is laid -/
theorem Inv.lset {its its' : List Value} {n : Nat} {f : Array Value → Array Value} {t' : Nat} (I : Inv X pins σ H s) (hH : H l = some (.lst xs))
    (e : s.heap.get? l = some { cls := .type "list", data := .seq its.toArray n }) (hf : f its.toArray = its'.toArray) (hv : Vals ys its') (hz : ys.length ≤ sizeLine) :
    Inv X pins σ (upd H l (.lst ys)) { s with heap := s.heap.update l (Obj.mapSeq f), toks := t' } := by
  have q := PySem.IsL.update e f
  rw [hf] at q
  refine I.write (x := l) (e := l) (by rw [hH]; exact trivial) (.inl rfl) (fun b' u hb hu => (Heap.get?_update_other s.heap (Obj.mapSeq f) (Ne.symm hb)).trans hu) ⟨_, q⟩ ?_
  exact ⟨hz, its', _, hv, q⟩
theorem Inv.lnew {its : List Value} {t' : Nat} (I : Inv X pins σ H s) (hv : Vals ys its) (hz : ys.length ≤ sizeLine) :
    Inv X pins σ (upd H s.heap.objs.size (.lst ys)) { s with heap := s.heap.push { cls := .type "list", data := .seq its.toArray }, toks := t' } :=
  I.laid (fun _ _ q => Heap.get?_push_of_some _ q) (Nat.le_refl _) ⟨hz, its, 0, hv, Heap.get?_push_size _ rfl⟩
theorem Inv.fresh (I : Inv X pins σ H s) : H s.heap.objs.size = none := I.hok.fresh (Nat.le_refl _)
theorem Inv.lstM (I : Inv X pins σ H s) (hH : H l = some (.lst xs)) : xs.length ≤ sizeLine ∧ ∃ (its : List Value) (n : Nat), Vals xs its ∧ xs.length = its.length ∧ s.heap.get? l = some { cls := .type "list", data := .seq its.toArray n } := by
  obtain ⟨z, its, n, r, e⟩ := I.hok l _ hH
  exact ⟨z, its, n, r, r.length, e⟩

theorem notLongL {n : Nat} (h : n ≤ sizeLine) : Builtin.List.listTooLong n = false := by
  unfold Builtin.List.listTooLong
  exact decide_eq_false (by omega)
end

section
variable {X : Cx}

/-! ### methods -/
def rAppend : V → List V → Hp → VK → Prop := fun x vs H Q => ∃ l xs y, x = .ref l ∧ vs = [y] ∧ H l = some (.lst xs) ∧ xs.length < sizeLine ∧ Q .non (upd H l (.lst (xs ++ [y])))
theorem mt_append : MtM X "list.append" rAppend := by
  intro pins s σ H x vs v us Q I rx rv h
  obtain ⟨l, xs, y, rfl, rfl, hH, hz, q⟩ := h
  cases rx
  obtain ⟨u, rfl, ru⟩ := rv.one
  obtain ⟨z, its, n, r, hl, e⟩ := I.lstM hH
  refine call_meets F.slot_list_append ⟨_, e, rfl⟩ F.entry_list_append (F.args_list_append_2 _ _) (PySem.list_append l its.toArray n u (by rw [List.size_toArray]; omega)) ⟨e, ?_⟩
  refine ⟨.non, _, I.lset (its' := its ++ [u]) hH e (by simp) (r.append (.cons ru .nil)) ?_, rfl, q⟩
  rw [List.length_append, List.length_singleton]
  omega

def rPop : V → List V → Hp → VK → Prop := fun x vs H Q => ∃ l xs y, x = .ref l ∧ vs = [] ∧ H l = some (.lst xs) ∧ xs[xs.length - 1]? = some y ∧ Q y (upd H l (.lst xs.dropLast))
theorem mt_pop : MtM X "list.pop" rPop := by
  intro pins s σ H x vs v us Q I rx rv h
  obtain ⟨l, xs, y, rfl, rfl, hH, hy, q⟩ := h
  cases rx
  have hus := rv.zero
  subst hus
  obtain ⟨z, its, n, r, hl, e⟩ := I.lstM hH
  obtain ⟨u, hu, ru⟩ := r.get hy
  have hy' : its.toArray[its.toArray.size - 1]? = some u := by
    show its.toArray[its.length - 1]? = some u
    rw [← Array.getElem?_toList, ← hl]
    exact hu
  refine call_meets F.slot_list_pop ⟨_, e, rfl⟩ F.entry_list_pop (F.args_list_pop_1 _) (MeetsSeq.list_pop_last l its.toArray n u hy' (by rw [List.size_toArray]; omega)) ⟨e, ?_⟩
  refine ⟨y, _, I.lset (its' := its.dropLast) hH e ?_ r.dropLast ?_, ru, q⟩
  · show its.toArray.eraseIdxIfInBounds (its.toArray.size - 1) = its.dropLast.toArray
    rw [List.size_toArray, List.eraseIdxIfInBounds_toArray, erase_last]
  · rw [List.length_dropLast]
    omega

/-! ### list + list, list += list, list * int -/
def rCat : R2 := fun x y H Q => ∃ l b xs zs, x = .ref l ∧ y = .ref b ∧ H l = some (.lst xs) ∧ H b = some (.lst zs) ∧ xs.length + zs.length ≤ sizeLine ∧ ∀ p, H p = none → Q (.ref p) (upd H p (.lst (xs ++ zs)))
theorem op_cat : OpR X (binaryOp .Add) rCat := by
  intro pins s σ H x y v u Q I rx ry h
  obtain ⟨l, b, xs, zs, rfl, rfl, hH, hB, hz, q⟩ := h
  cases rx
  cases ry
  obtain ⟨z, its, n, r, hl, e⟩ := I.lstM hH
  obtain ⟨z2, its2, n2, r2, hl2, e2⟩ := I.lstM hB
  refine PySem.P.add_list e e2 ?_ (by rw [List.size_toArray, List.size_toArray]; omega)
  have ea : its.toArray ++ its2.toArray = (its ++ its2).toArray := by simp
  rw [ea]
  exact ⟨.ref _, _, I.lnew (t' := s.toks) (r.append r2) (by rw [List.length_append]; omega), rfl, q _ I.fresh⟩
/-! ### del xs[i] -/
end

/-! ### xs[a:b] = ys -/
section
variable {prog : Program} {w : World} {A : Around} {E : Value → Shared → Prop} {s : Shared}
end

section
variable {X : Cx}
end
end L2

namespace Att
open PySem PySem.W PySem.Calls PyProof.Rows

/-! ### the script -/
theorem ints_of_wellAll {P : Params} {h : Heap} : ∀ (ns : List Int) (vs : List Value), WellAll P h vs (ns.map WData.int) → IntsAre vs ns := by
  intro ns
  induction ns with
  | nil =>
    intro vs w
    rw [List.map_nil] at w
    cases w
    exact .nil
  | cons n ns ih =>
    intro vs w
    rw [List.map_cons] at w
    cases w with
    | cons a b =>
      cases a
      exact .cons _ _ (ih _ b)

theorem script_of {l : OpenLaw} {n : Nat} (hn : l.most = some n) {P : Params} {h : Heap} {args : List WData} {vals : List Value}
    (hpre : l.row.toRowW.claim.pre args = true) (hwl : WellAll P h vals args) :
    ∃ a vs ns, vals = [Value.ref a] ∧ args = [WData.list (ns.map WData.int)] ∧ h.get? a = some { cls := .type "list", data := .seq vs.toArray } ∧ IntsAre vs ns ∧ ns.length ≤ n := by
  have hsh : WShape.hasAll [] args [.list .int] = true := (pre_splitW hpre).1
  have hc : l.pre.holds [] { args := args } = true := (pre_splitW hpre).2
  obtain ⟨d, r, rfl, h1, h2⟩ := hasAllW_cons hsh
  obtain rfl := hasAllW_nil h2
  obtain ⟨xs, rfl, h3⟩ := hasW_list h1
  obtain ⟨ns, rfl⟩ := items_int h3
  have hlen : ns.length ≤ n := by
    unfold OpenLaw.pre at hc
    have h4 : (WTm.not (.lt (.lit (.int (n : Int))) (.len (.arg 0)))).holds [] { args := [.list (ns.map .int)] } = true := by
      have h4 := (holds_andW hc).1
      rw [hn] at h4
      exact h4
    have h5 := condW_of h4 (w_not (w_lt w_lit (w_len_list (w_arg rfl))))
    rw [List.length_map] at h5
    refine Nat.le_of_not_lt fun q => ?_
    have q' : (n : Int) < ((ns.length : Nat) : Int) := by omega
    first
      | (rw [decide_eq_true q'] at h5; exact absurd h5 (by decide))
      | (simp at h5; omega)
  cases hwl with
  | cons w1 w2 =>
    cases w2
    cases w1 with
    | list ho hall => exact ⟨_, _, ns, rfl, rfl, ho, ints_of_wellAll ns _ hall, hlen⟩

theorem post_true (l : OpenLaw) (args : List WData) : l.row.toRowW.claim.post args (.bool true) args = true :=
  postW_of (r := l.row.toRowW) (X := (true == true))
    (show WShape.has [] (.bool true) .bool = true by first | rfl | decide | simp [WShape.has, WShape.arms, WShape.armsAll])
    (show (WTm.eq .res (.lit (.bool true))).value [] { args := args, res := some (.bool true), after := args } = some (.bool (true == true)) from w_eq_bool (w_res rfl) w_lit) rfl

/-! ### the attachment: holds_open's last premise (the goal 'hc' behind k_head) from a wpAny of the law's body -/
/-- the same from a codeAny of the CALL (for a layer whose function contracts speak of calls) -/
theorem attach_call {l : OpenLaw} {n : Nat} {q : Program} {loose : List Str} {XP : (Str → Option Value) → Heap → Prop} {YP : World → Heap → Prop} {d : DefRec}
    (hn : l.most = some n) (hdf : d.params.defaults = [])
    (call : ∀ (w : World) (s₀ s₁ : Shared) (mg mb : Str → Option Value) (fa : Addr) (o : Obj) (pm cd doc : Value) (a : Addr) (vs : List Value) (ns : List Int),
      Ground q loose [] XP w s₀ mg mb s₁.heap → YP w s₁.heap →
      s₁.heap.get? fa = some o → o.data = .func (docDef d.name d.params d.body d.scope pm cd doc) → s₁.heap.CodeRec cd d.name → mg d.name = some (.ref fa) →
      s₁.heap.get? a = some { cls := .type "list", data := .seq vs.toArray } → IntsAre vs ns → ns.length ≤ n → s₁.gens = #[] →
      codeAny (model l.prog w) callerA (.call (.ref fa) ⟨[.ref a], []⟩) (fun r s' => r = .ok (.ret (.bool true)) ∧ OldK s₁.heap s'.heap ∧ s'.os = s₁.os ∧ AllBare s'.gens) s₁) :
    WalkO q loose XP YP l.row.toRowW d [] (fun f vs => PySem.call f vs) := by
  intro w s₀ s₁ mg mb G Y fa o pm cd doc dV kV ho hd hcd hD hmg hg args vals as hpre hlay hrd hwl hlo
  obtain rfl : dV = .none := Dflts.none hD hdf
  obtain rfl : kV = .none := Dflts.noKw hD
  obtain ⟨a, vs, ns, rfl, rfl, hobj, hints, hlen⟩ := script_of hn hpre hwl
  refine enter_call (codeAny_mono (call w s₀ s₁ mg mb fa o pm cd doc a vs ns G Y ho (fd_plain hd) hcd hmg hobj hints hlen hg) fun r s' hq => ?_)
  obtain ⟨rfl, h2, h3, h4⟩ := hq
  exact ⟨.inl ⟨.bool true, .bool true, [], rfl, fun _ => rfl, .bool true, post_true l _, fun _ => ⟨List.Pairwise.nil, fun _ hm => (nomatch hm)⟩⟩, h2, h3, h4⟩

/-! ### rules over ANY heap (no ledger) from facts about the written part K: the library's own take a ledger (News) for what they write -/
section
variable {prog : Program} {w : World} {A : Around} {E : Value → Shared → Prop} {s : Shared} {K : Frag}

/-! the whole heap as the ledger: makes every rule that writes through a ledger a rule over any heap -/
end
end Att

namespace L2
open PySem PySem.Spec PyProof.Rows

theorem vals_ints : ∀ {vs : List Value} {ns : List Int}, IntsAre vs ns → Vals (ns.map V.int) vs
  | _, _, .nil => .nil
  | _, _, .cons n t h => .cons ⟨t, rfl⟩ (vals_ints h)

end L2

namespace L2
open PySem PySem.Spec PyProof.Rows

abbrev KOf {K : PySem.W.Frag} {h : Heap} (_ : K.In h) : PySem.W.Frag := K

end L2

/- THE LAST THEOREM (shape; LID, My.* are yours):
   My.Adr: a structure of the addresses that your layer names (classes, functions); My.Txt K t: a structure (Prop) of the equations over K;
   My.txt_mk : {K} {implicit addresses ..} (e1 : nsIn K mainGlobals "law" = some (some (.ref f))) (e2 : K.lookup f = some ⟨oc, od, .func (fnOf "law" "law" params body scope dV kV doc pm an cdv ct), sl⟩) (e3 : codeIn K cdv "law" = true) .. : ∃ t, My.Txt K t

set_option maxRecDepth 100000 in
set_option maxHeartbeats 0 in
theorem PySem.Challenge.cw_LID_holds : PySem.Challenge.rw_LID.Holds := by
  w_on; o_law; k_head; (case hw => w_witness2)
  k_fill
  refine L2.walk_of (l := PySem.Challenge.rw_LID) (n := 63) (k := 40) (x := "script") (CX := fun w => ..) (sp := fun _ => My.sp_law) rfl (by decide) rfl ⟨rfl, by decide, by decide⟩ (fun w h Y => PySem.W.kIn_of Y) ?F ?S ?C
  case F =>
    intro w mg fa h KX G hmg
    have T : ∃ t, My.Txt (L2.KOf KX) t := by
      dsimp only [L2.KOf]                          -- K must stand as «<heap const> w.params» for k_is
      refine' My.txt_mk ?e1 ?e2 ?e3 ..
      (case e1 => PySem.W.k_is)                    -- in the order: a name -> its address -> its object -> its parts
      (case e2 => PySem.W.k_is)
      ..
    obtain ⟨t, T⟩ := T
    have e0 := hmg.symm.trans (PySem.W.mg_of KX G T.law)
    cases e0                                       -- fa is the law's own address
    exact ⟨_, fun s u => .of_eq rfl, fun base kb nb => My.law_fn T kb nb⟩     -- if «.of_eq rfl» comes too early: refine' ⟨_, ?b, fun base kb nb => My.law_fn T kb nb⟩; exact fun s u => .of_eq rfl
  case S => exact fun w H a ns hl hO hS => ..
  case C => exact ..
(the tactic k_is has no namespace: write k_is) -/

/-! SHORT WORDS over the layer: a def of the text, its body, what a loop and a test want. -/
namespace L2
open PySem PySem.Spec PyProof.Rows

/-! ### the text by places -/
/-- the j-th statement of a class's body -/
def inClass (s : Stmt) (j : Nat) : Stmt := match s with
  | .ClassDef _ _ _ body _ _ _ _ _ _ _ => body.getD j (.Pass ⟨0, 0, 0, 0⟩)
  | _ => .Pass ⟨0, 0, 0, 0⟩
def defArgs (s : Stmt) : Arguments := match s with
  | .FunctionDef _ a _ _ _ _ _ _ _ _ => a
  | _ => { posonlyargs := [], args := [], vararg := none, kwonlyargs := [], kw_defaults := [], kwarg := none, defaults := [] }
def defBody (s : Stmt) : List Stmt := match s with
  | .FunctionDef _ _ b _ _ _ _ _ _ _ => b
  | _ => []
def defScope (s : Stmt) : Scope := match s with
  | .FunctionDef _ _ _ _ _ _ sc _ _ _ => sc
  | _ => { kind := .function, names := [], isGenerator := false, isCoroutine := false }

/-! ### no exception leaves a def -/
abbrev CX0 : CXT := fun _ _ _ _ _ _ => False
abbrev E0 : XK := fun _ _ _ => False
theorem pass0 {X : Cx} : Passes CX0 X E0 := fun _ _ _ _ _ _ _ h => h.elim

/-! ### a def (or method) of the text as it stands behind the top -/
structure Fun (K : PySem.W.Frag) (x qual : Str) (st : Stmt) (f : Addr) (fd : FuncData) : Prop where
  ex : ∃ (oc : Value) (od : Option Addr) (kV doc pm : Value) (an : Option Addr) (cdv ct : Value) (osl : Array (Option Value)),
    fd = PySem.W.fnOf x qual (defArgs st) (defBody st) (defScope st) .none kV doc pm an cdv ct ∧ K.lookup f = some ⟨oc, od, .func fd, osl⟩ ∧ PySem.W.codeIn K cdv qual = true
  kp : PySem.W.keepIn K (.ref f) = true
section
variable {P : Program} {w : World} {K : PySem.W.Frag} {mg : Str → Option Value} {base : Heap}
/-- THE RULE for a def: its body as a term of rules, and the reading of that term -/
theorem Fun.ok {x qual : Str} {st : Stmt} {f : Addr} {fd : FuncData} {N ps : List Str} {k : Nat} {sp : Sp} (F : Fun K x qual st f fd) (S : FnScope N ps (defScope st)) (len : ∀ vs H Q E, sp vs H Q E → vs.length = ps.length)
    (hbody : ∀ (cdv : Value) (A : Around) (outer : List Env) (s : Shared) (H : Hp) (vs : List V) (Q : VK) (E : XK), Room k (A.deeper (envOfC qual (defScope st) s.heap.objs.size f cdv)) → sp vs H Q E →
      ∃ t, PSs (cxOf CX0 P w K mg base N qual (defScope st) f cdv A outer s H E).nox (defBody st) t ∧ t { nx := fun _ H' => Q .non H', rt := Q } (start N vs) H) : FnOk P w K mg base CX0 (k + 1) f fd ps sp := by
  obtain ⟨oc, od, kV, doc, pm, an, cdv, ct, osl, rfl, lk, hcd⟩ := F.ex
  refine fn_of lk hcd S len fun A outer s H vs Q E hr hsp => ?_
  obtain ⟨t, h, q⟩ := hbody cdv A outer s H vs Q E hr hsp
  exact ⟨t, h.nox, q⟩
/-- how its arguments bind (no defaults): h is «fun _ _ _ _ _ _ us hl => match us, hl with | [_, _], _ => rfl», one _ a parameter -/
theorem Fun.binds {x qual : Str} {st : Stmt} {f : Addr} {fd : FuncData} {ps : List Str} (F : Fun K x qual st f fd)
    (h : ∀ (kV doc pm : Value) (an : Option Addr) (cdv ct : Value) (us : List Value), us.length = ps.length → bindArgs (PySem.W.fnOf x qual (defArgs st) (defBody st) (defScope st) .none kV doc pm an cdv ct) ⟨us, []⟩ = pure (ps.zip us)) : Binds K fd ps [] := by
  obtain ⟨oc, od, kV, doc, pm, an, cdv, ct, osl, rfl, lk, hcd⟩ := F.ex
  exact .all (h kV doc pm an cdv ct)
theorem fun_mk {x qual : Str} {st : Stmt} {f : Addr} {oc : Value} {od an : Option Addr} {osl : Array (Option Value)} {kV doc pm cdv ct : Value} (l : K.lookup f = some ⟨oc, od, .func (PySem.W.fnOf x qual (defArgs st) (defBody st) (defScope st) .none kV doc pm an cdv ct), osl⟩)
    (c : PySem.W.codeIn K cdv qual = true) (k : PySem.W.keepIn K (.ref f) = true) : Fun K x qual st f (PySem.W.fnOf x qual (defArgs st) (defBody st) (defScope st) .none kV doc pm an cdv ct) := ⟨⟨oc, od, kV, doc, pm, an, cdv, ct, osl, rfl, l, c⟩, k⟩
end
/-! ### expressions in short: the name that stands in the i-th slot -/
section
variable {X : Cx}
theorem pv (i : Nat) {x : Str} {pos : Pos} (hN : X.N[i]? = some x := by rfl) (hv : Vis X.env.scope x := by first | exact Or.inl rfl | exact Or.inr (Or.inl rfl) | exact Or.inr (Or.inr rfl)) (hd : (x == ("__debug__" : Str)) = false := by decide)
    (hcd : (x == ("__classdict__" : Str)) = false := by decide) : PE X (.Name x pos) (tVar i) := pe_var hN hv hd hcd
end

/-! ### tests -/
theorem iteF {A B : Prop} (h : B) : if false = true then A else B := by
  rw [if_neg Bool.false_ne_true]
  exact h
theorem iteT {A B : Prop} (h : A) : if true = true then A else B := by
  rw [if_pos rfl]
  exact h
theorem ite2 {c A B : Prop} [Decidable c] (h1 : c → A) (h2 : ¬ c → B) : if c then A else B := by
  by_cases h : c
  · rw [if_pos h]
    exact h1 h
  · rw [if_neg h]
    exact h2 h
/-! ### heaps -/
/-- all that was tracked is as it was -/
def Same (H H' : Hp) : Prop := ∀ b o, H b = some o → H' b = some o
theorem Same.refl (H : Hp) : Same H H := fun _ _ h => h
theorem Same.trans {H H1 H2 : Hp} (a : Same H H1) (b : Same H1 H2) : Same H H2 := fun c o h => b c o (a c o h)
theorem Same.free {H H' : Hp} (e : Same H H') {l : Addr} (h : H' l = Option.none) : H l = Option.none := by
  cases q : H l with
  | none => rfl
  | some o =>
    rw [e l o q] at h
    cases h
theorem Same.seq {K : PySem.W.Frag} {H H' : Hp} {a : Addr} {xs : List V} (e : Same H H') (h : SqL K H a xs) : SqL K H' a xs := by
  rcases h with (h | ⟨o, h⟩) | h
  · exact .inl (.inl (e _ _ h))
  · exact .inl (.inr ⟨o, e _ _ h⟩)
  · exact .inr h

end L2

set_option maxHeartbeats 4000000
/-! EvExc: refusals of own classes by hand: raise, a callee's refusal that passes, try with one except clause that names, isinstance of a refusal. Over the hand layer (namespace L2), which stands ahead of it. -/
namespace L2
open PySem PySem.Spec PyProof.Rows

theorem ObjOk.there {P : Program} {w : World} {H : Hp} {h : Heap} {a : Addr} {o : HO} (x : ObjOk P w H h a o) : ∃ ob, h.get? a = some ob := by
  cases o with
  | lst xs => obtain ⟨_, _, _, _, e⟩ := x; exact ⟨_, e⟩
  | tup xs => obtain ⟨_, _, _, ob, e, _⟩ := x; exact ⟨ob, e⟩
  | dK kvs => obtain ⟨_, _, _, _, ob, _, _, e, _⟩ := x; exact ⟨_, e⟩
  | dT kvs => obtain ⟨_, _, _, _, ob, _, _, e, _⟩ := x; exact ⟨_, e⟩
  | set S n => obtain ⟨ob, _, _, _, e, _⟩ := x; exact ⟨_, e⟩
  | ins C dx fs => obtain ⟨_, _, _, e, _⟩ := x; exact ⟨_, e⟩
  | own y => exact x
  | xd fs => obtain ⟨_, ⟨_, _, _, e, _⟩, _⟩ := x; exact ⟨_, e⟩
  | rng lo hi => obtain ⟨_, _, _, e⟩ := x; exact ⟨_, e⟩
  | frz ob u => obtain ⟨e, _⟩ := x; exact ⟨_, e⟩
  | tbl ps => exact ⟨_, (show h.get? a = some _ from x)⟩
  | met f y => exact ⟨_, (show h.get? a = some _ from x)⟩
  | ext φ => obtain ⟨_, e, _⟩ := x; exact e

section
variable {X : Cx} {pins : List (Addr × Obj)} {σ : St} {H H' : Hp} {s s' : Shared}
theorem Inv.nopins (I : Inv X pins σ H s) : Inv X [] σ H s := I.pins_of fun p hp => nomatch hp
/-- what was not there at the call was not there at the entry -/
theorem Inv.new0 (I : Inv X pins σ H s) (hex : X.ex = []) {b : Addr} (n : s.heap.get? b = none) : X.s₀.heap.get? b = none := by
  cases q : X.s₀.heap.get? b with
  | none => rfl
  | some o =>
    obtain ⟨o', e⟩ := I.base.there b o q (by rw [hex]; simp)
    rw [n] at e; cases e
theorem Inv.newH (I : Inv X pins σ H s) {b : Addr} (n : s.heap.get? b = none) : H b = none := by
  cases q : H b with
  | none => rfl
  | some o =>
    obtain ⟨ob, e⟩ := (I.hok b o q).there
    rw [n] at e; cases e
/-- the frames' slots and the records at ts may change -/
structure Shift (X : Cx) (ts : List Addr) (h h' : Heap) : Prop where
  stays : (PySem.W.hideAll h (ts ++ frs X.stack)).StaysIn h'
  up : h.UpToSlots h'

theorem Shift.frame {ts : List Addr} {h' : Heap} (S : Shift X ts s.heap h') (I : Inv X pins σ H s) {b : Addr} (hb : b ∈ frs X.stack) {o : Obj} (e : s.heap.get? b = some o) : ∃ sl, h'.get? b = some { o with slots := sl } := by
  obtain ⟨_, o', e', nf⟩ := I.stack.mem hb
  rw [e] at e'; cases e'
  exact S.up b o e nf
theorem Shift.get {ts : List Addr} {h' : Heap} (S : Shift X ts s.heap h') {b : Addr} {o : Obj} (e : s.heap.get? b = some o) (h1 : b ∉ ts) (h2 : b ∉ frs X.stack) : h'.get? b = some o :=
  S.stays b o (PySem.W.hideAll_get _ e fun z => (List.mem_append.mp z).elim h1 h2)
theorem Shift.hok {ts : List Addr} {h' : Heap} (S : Shift X ts s.heap h') (I : Inv X pins σ H s) (hts : ∀ b ∈ ts, H b = none) : HOk X.prog X.w H h' := fun a o e => by
  refine (I.hok a o e).stay (fun b u hb q => S.get q (fun z => ?_) fun z => ?_) (fun _ q => q) fun _ _ q => q
  · have n := hts b z
    rcases hb with rfl | hb
    · rw [e] at n; cases n
    · rw [hb] at n; cases n
  · have n := I.stkFree b z
    rcases hb with rfl | hb
    · rw [e] at n; cases n
    · rw [hb] at n; cases n
/-- what stood at the entry is as a callee may leave it -/
theorem Shift.un {ts : List Addr} {h' : Heap} (S : Shift X ts s.heap h') (I : Inv X pins σ H s) (hts : ∀ b ∈ ts, X.s₀.heap.get? b = none) : Un X.fs X.ex X.H₀ H X.s₀.heap h' := by
  have nts : ∀ b o, X.s₀.heap.get? b = some o → b ∉ ts := fun b o e z => by rw [hts b z] at e; cases e
  have nL : ∀ b o, X.s₀.heap.get? b = some o → b ≠ X.env.locals := fun b o e => Nat.ne_of_lt (Nat.lt_of_lt_of_le (Heap.lt_size e) I.ok.above)
  have nst : ∀ b o, X.s₀.heap.get? b = some o → b ∉ X.fs → b ∉ frs X.stack := fun b o e hb z => (List.mem_cons.mp (I.stkSub b z)).elim (nL b o e) hb
  refine ⟨fun b o e n hb hx => S.get (I.base.keep b o e n hb hx) (nts b o e) (nst b o e hb), fun b o e n hb hx => ?_, fun b o e n hx => I.base.free b o e n hx, fun b o e hx => ?_, I.base.tups, I.base.frzs, I.base.tbls⟩
  · obtain ⟨sl, e1⟩ := I.base.slot b o e n hb hx
    obtain ⟨_, o', e', nf⟩ := I.funs.mem hb
    rw [e1] at e'; cases e'
    obtain ⟨sl2, e2⟩ := S.up b _ e1 nf
    exact ⟨sl2, e2⟩
  · obtain ⟨o', e1⟩ := I.base.there b o e hx
    by_cases z : b ∈ frs X.stack
    · obtain ⟨sl, e2⟩ := S.frame I z e1
      exact ⟨_, e2⟩
    · exact ⟨o', S.get e1 (nts b o e) z⟩
/-- the invariant goes over -/
theorem Shift.inv {ts : List Addr} {h' : Heap} {tk : Nat} (S : Shift X ts s.heap h') (I : Inv X pins σ H s) (hts : ∀ b ∈ ts, X.s₀.heap.get? b = none ∧ H b = none ∧ ∀ p ∈ X.pn ++ pins, p.1 ≠ b) : Inv X pins σ H { s with heap := h', toks := tk } := by
  have cellK : ∀ c v, s.heap.IsCell c v → h'.IsCell c v := fun c v ⟨o, ho, hd⟩ => by
    obtain ⟨sl, e⟩ := S.up c o ho (fun vs q => by rw [hd] at q; cases q)
    exact ⟨_, e, hd⟩
  refine ⟨I.ok, I.os, I.bare, S.un I fun b z => (hts b z).1, ?_, fun x c e => ?_, I.free, I.freeC, fun p hp => ?_, S.hok I fun b z => (hts b z).2.1, I.len⟩
  · obtain ⟨m, hn, hl⟩ := I.loc
    refine ⟨m, S.up.ns hn, fun i x v e1 e2 e3 => ?_⟩
    obtain ⟨u, r, l⟩ := hl i x v e1 e2 e3
    refine ⟨u, r, ?_⟩
    rcases l with l | ⟨k, c, e, z⟩
    · exact .inl l
    · exact .inr ⟨k, c, e, cellK c _ z⟩
  · obtain ⟨v, z⟩ := I.cell x c e
    exact ⟨v, cellK c v z⟩
  · obtain ⟨e, n, ne, nf, d⟩ := I.pin p hp
    exact ⟨S.get e (fun z => (hts p.1 z).2.2 p hp rfl) fun z => (List.mem_cons.mp (I.stkSub p.1 z)).elim ne nf, n, ne, nf, d⟩
theorem fun_hide (I : Inv X pins σ H s) (ts : List Addr) : s.heap.FunFrames (PySem.W.hideAll s.heap (ts ++ frs X.stack)) X.stack :=
  PySem.W.funFrames_hide I.stack fun env he b hb => List.mem_append_right _ (List.mem_filterMap.mpr ⟨env, he, hb⟩)
theorem hide_stays (h : Heap) (l : List Addr) : (PySem.W.hideAll h l).StaysIn h := fun _ _ e => PySem.W.of_hideAll l e
end

section
variable {P : Program} {w : World} {K : PySem.W.Frag} {mg : Str → Option Value} {base : Heap} {N : List Str} {qual : Str} {scope : Scope} {f : Addr} {cd : Value} {A : Around} {outer : List Env} {s : Shared} {H : Hp} {E : XK}
end
/-! ### raise -/
theorem exc_cls_of {K : PySem.W.Frag} {h : Heap} {C : Addr} {bmB : List Value} {newId : String} (X : K.In h) (q : PySem.W.excIn K C bmB newId = true) :
    ∃ bm N nm q bs hdct sn sub ab col dd k0 k1 k2 k3 k5 mN, h.get? C = some (excClassObj nm q C N bs bm hdct sn sub ab col dd k0 k1 k2 k3 k5 newId) ∧ h.Ns N mN ∧ mN "__init__" = none ∧ OwnTail h bmB bm := by
  unfold PySem.W.excIn at q
  split at q
  · rename_i dd cd sl ho
    split at q
    · rename_i C' bm k0 k1 k2 k3 n k5 hm hs
      simp only [Bool.and_eq_true, beq_iff_eq, Bool.not_eq_true'] at q
      obtain ⟨⟨⟨⟨⟨rfl, rfl⟩, hdel⟩, ht⟩, hok⟩, hni⟩ := q
      obtain ⟨nm, bs, mro, ns, qn, hd, sn, sub, ab, col, del⟩ := cd
      dsimp only at hm hdel hok hni
      subst hm hdel
      have hsl : sl = #[k0, k1, k2, k3, some (.builtin n), k5] := by
        obtain ⟨l⟩ := sl
        simp only at hs
        rw [hs]
      subst hsl
      exact ⟨bm, ns, nm, qn, bs, hd, sn, sub, ab, col, dd, k0, k1, k2, k3, k5, _, X _ _ ho, .of_isNs (PySem.W.isNs_of_in X hok), PySem.W.nsMap_none_of_in X hok hni, PySem.W.tail_of_in X ht⟩
    · cases q
  · cases q
abbrev bmVE : List Value := [.type "ValueError", .type "Exception", .type "BaseException", .type "object"]
abbrev newVE : String := "ValueError.__new__"
end L2
/-! EvTry: isinstance of a refusal, except clauses, defs called within an except suite. Behind EvExc. -/
namespace PySem.W
open PySem PySem.Calls PyProof.Rows Builtin Builtin.ObjectAttr Builtin.Getset_descriptor
/-- what is asked of an own class of refusals as the text has made it -/
structure ExcK (K : Frag) (C : Addr) : Prop where
  ex : excIn K C [.type "ValueError", .type "Exception", .type "BaseException", .type "object"] "ValueError.__new__" = true
  ga : findIn K (.ref C) "__getattribute__" = some (some (.builtin "BaseException.__getattribute__"))
  no : findIn K (.ref C) "__getattr__" = some none
  cl : findIn K (.ref C) "__class__" = some (some (.builtin "object.__class__"))
  ob : mroIn K C (.type "object") = some true
  be : mroIn K C (.type "BaseException") = some true
structure ClsK (K : Frag) : Prop where
  gt : specialIn K (.builtin "object.__class__") "__get__" = some (some (.builtin "getset_descriptor.__get__"))
  tk : takesIn K (.builtin "object.__class__") = some true
section
variable {prog : Program} {w : World} {A : Around} {E : Value → Shared → Prop} {s : Shared} {K : Frag} {x C D : Addr} {ox : Obj}
theorem exc_class_get {tp : Value} {R : Result → Shared → Prop} (X : K.In s.heap) (hx : s.heap.get? x = some ox) (hc : ox.cls = .ref C) (hm : mroIn K C (.type "object") = some true)
    (h : R (.ok (.ret (.ref C))) s) : codeAny (model prog w) A (.call (.builtin "getset_descriptor.__get__") ⟨[.builtin "object.__class__", .ref x, tp], []⟩) R s := by
  obtain ⟨hh, g, dr, t, os⟩ := s
  have Q0 : Looks (model prog w) hh (typeOf (.ref x)) (.ref C) := hc ▸ (Looks.ld hx).andThen .now
  have Q1 := looks_mroIn (M := model prog w) X hm
  refine codeAny_call_builtin KF.slot_gs.plain KF.entry_gs (KF.slot_gs.check _ _ _ _ _ _ _ _ KF.type_class (KF.args_gs _ _ _) ?_)
  unfold Builtin.«getset_descriptor.__get__» descrGet
  rw [dga_obj]
  refine wpAny_bind (wpAny_pure ?_)
  unfold descrGetter descrCheckInstance descrNameAndClass isInstance
  simp only [KF.owner_class]
  repeat lk
  refine ⟨Code.quiet_builtin _ (by decide +kernel), codeAny_builtin KF.entry_class ?_⟩
  unfold Builtin.«object.__class__» shownTypeOf
  repeat lk
  exact h
theorem wp_if_neg {α : Type} {M : Model} {A : Around} {c : Prop} [Decidable c] {a b : Sem α} {Q : α → Shared → Prop} {E : Value → Shared → Prop} {s : Shared} (h : ¬ c) (k : wpAny M A b Q E s) : wpAny M A (if c then a else b) Q E s := by
  rw [if_neg h]
  exact k
theorem ga_slot (x n : Value) : slotArgs "__getattribute__" 1 ⟨[x, n], []⟩ = pure (x, [n]) := by kernel_rfl
theorem ga_name (n : Str) (t : Tok) : attrName (.str n t) = pure n := by kernel_rfl
theorem exc_ga_check {M : Model} {nameV : Value} {Q : Unit → Shared → Prop} (hi : Looks M s.heap (isInstance (.ref x) (.type "BaseException")) true) (h : Q () s) : wpAny M A (checkBuiltinCall "BaseException.__getattribute__" ⟨[.ref x, nameV], []⟩) Q E s := by
  have hk : builtinKind "BaseException.__getattribute__" = some .slot := by decide +kernel
  have hsplit : splitId "BaseException.__getattribute__" = some ("BaseException", "__getattribute__") := by decide +kernel
  have ha := PySem.F.args_bexc_ga (.ref x) nameV
  obtain ⟨hh, g, d, t, os⟩ := s
  simp only [checkBuiltinCall, hk, hsplit]
  refine wpAny_bind (hi.at ?_)
  repeat (any_goals (first | assumption | wp_step))
theorem exc_ga_call {nameV : Value} {R : Result → Shared → Prop} (hi : Looks (model prog w) s.heap (isInstance (.ref x) (.type "BaseException")) true)
    (h : wpAny (model prog w) A.in1 (Builtin.«object.__getattribute__» ⟨[.ref x, nameV], []⟩) (fun fin s' => match fin with | .done (.ret v) => R (.ok (.ret v)) s' | _ => False) (fun e s' => R (.error e) s') s) :
    codeAny (model prog w) A (.call (.builtin "BaseException.__getattribute__") ⟨[.ref x, nameV], []⟩) R s :=
  codeAny_call_builtin PySem.F.attr_ValueError.ga.plain PySem.F.entry_bexc_ga (exc_ga_check hi (wpAny_mono h (fun fin s' z => by rcases fin with (_ | _ | _ | _) | _ <;> first | exact z | exact z.elim) fun _ _ z => z))
set_option maxHeartbeats 400000 in
theorem exc_ca {Q : Option Value → Shared → Prop} (T : ExcK K C) (G : ClsK K) (X : K.In s.heap) (hx : s.heap.get? x = some ox) (hc : ox.cls = .ref C) (h : Q (some (.ref C)) { s with toks := s.toks + 1 }) :
    wpAny (model prog w) A (getAttr? (.ref x) "__class__") Q E s := by
  obtain ⟨hh, g, d, t, os⟩ := s
  have Q0 : Looks (model prog w) hh (typeOf (.ref x)) (.ref C) := hc ▸ (Looks.ld hx).andThen .now
  have Q1 := looks_findIn (M := model prog w) X T.ga
  have Q2 := looks_findIn (M := model prog w) X T.no
  have Q3 := looks_findIn (M := model prog w) X T.cl
  have Q4 := looks_takesIn (M := model prog w) X G.tk
  have Q5 : Looks (model prog w) hh (getOf (some (.builtin "object.__class__"))) (some (.builtin "getset_descriptor.__get__")) := looks_specialIn (M := model prog w) X G.gt
  have Q6 : Looks (model prog w) hh (find (.ref x) (.ref C) "__class__") (.bind (.builtin "getset_descriptor.__get__") (.builtin "object.__class__")) :=
    Q3.andThen (Q5.andThen ((show Looks (model prog w) hh (dataDescriptor? (some (.builtin "object.__class__")) (some (.builtin "getset_descriptor.__get__"))) (some (.builtin "getset_descriptor.__get__", .builtin "object.__class__")) from Q4.andThen .now).andThen (Looks.tag .now)))
  have Q7 : Looks (model prog w) hh (isInstance (.ref x) (.type "BaseException")) true := Q0.andThen (looks_mroIn X T.be)
  have hx2 : (Value.builtin "BaseException.__getattribute__" == Value.builtin "object.__getattribute__") = false := by decide +kernel
  have hx1 : ¬ ((onTheHeap (Value.ref C) && Value.builtin "BaseException.__getattribute__" == Value.builtin "object.__getattribute__") = true) := by rw [hx2, Bool.and_false]; exact Bool.false_ne_true
  unfold getAttr? getAttrBy? getAttrBy
  refine wpAny_bind (wpAny_mkText (wpAny_bind (wpAny_attempt (wpAny_holding (wpAny_bind (Q0.at (wpAny_bind (Q1.at ?_))))))))
  refine wp_if_neg hx1 ?_
  unfold getAttrByItsOwn
  refine wpAny_bind ?_
  show wpAny _ _ (typeLookup (.ref C) "__getattr__") _ _ _
  refine Q2.at ?_
  refine wpAny_bind (wpAny_attempt (wpAny_holding ?_))
  show wpAny _ _ (boundAndCalled (.builtin "BaseException.__getattribute__") (.ref x) _) _ _ _
  unfold boundAndCalled
  refine wpAny_bind (wpAny_of_eq (PySem.F.attr_ValueError.ga.bind _) ?_)
  refine wpAny_call (exc_ga_call Q7 ?_)
  unfold Builtin.«object.__getattribute__»
  refine wpAny_bind (wpAny_of_eq (ga_slot _ _) ?_)
  refine wpAny_bind (wpAny_of_eq (ga_name _ _) ?_)
  refine wpAny_bind (Q0.at (wpAny_bind (Q6.at ?_)))
  show wpAny _ _ (bindTo (.builtin "getset_descriptor.__get__") (.builtin "object.__class__") (.ref x) (.ref C)) _ _ _
  unfold bindTo
  refine wpAny_bind (wpAny_holding (wpAny_call (exc_class_get X hx hc T.ob ?_)))
  refine wpAny_pure ?_
  exact handed_on rfl (wpAny_pure h)
theorem kitx_exc (T : ExcK K C) (G : ClsK K) : KitX K (.ref x) (.ref C) (fun h => ∃ o, h.get? x = some o ∧ o.cls = .ref C) where
  ty := fun _ _ _ ⟨_, hx, hc⟩ => hc ▸ (Looks.ld hx).andThen .now
  it := fun _ _ X _ => by
    obtain ⟨tl, N, nm, q, bs, hdct, sn, sub, ab, col, dd, k0, k1, k2, k3, k5, mN, hC, _⟩ := L2.exc_cls_of X T.ex
    intro A' Q' E' s' k q
    unfold isType loadHead
    exact wpAny_bind (wpAny_loadPart (k _ _ hC) (wpAny_pure q))
  ne := fun h tp dd its n sl X htp => by
    obtain ⟨tl, N, nm, q, bs, hdct, sn, sub, ab, col, dd, k0, k1, k2, k3, k5, mN, hC, _⟩ := L2.exc_cls_of X T.ex
    refine Bool.eq_false_iff.mpr fun q => ?_
    have e : C = tp := Value.ref.inj (beq_iff_eq.mp q)
    subst e
    exact absurd (Value.type.inj (congrArg Obj.cls (Option.some.inj (hC.symm.trans htp)))) (by decide)
  ca := fun X ⟨_, hx, hc⟩ k => exc_ca T G X hx hc k
theorem exc_matches {M : Model} {Q : Bool → Shared → Prop} (X : K.In s.heap) (hx : s.heap.get? x = some ox) (hc : ox.cls = .ref C) (T : ExcK K D) (m : mroIn K C (.ref D) = some true) (h : Q true s) :
    wpAny M A (excMatches (.ref x) (.ref D)) Q E s := by
  obtain ⟨hh, g, d, tk, os⟩ := s
  obtain ⟨tl, N, nm, q', bs, hdct, sn, sub, ab, col, dd, k0, k1, k2, k3, k5, mN, hD, _⟩ := L2.exc_cls_of X T.ex
  have Q1 := looks_mroIn (M := M) X m
  have Q2 := looks_mroIn (M := M) X T.be
  have f := tc_notTuple
  unfold excMatches
  repeat (first | (with_reducible refine wpAny_loadPart_at hx ?_; rw [hc]) | with_reducible refine wpAny_loadPart_at hD ?_ | with_reducible refine Q1.at ?_ | with_reducible refine Q2.at ?_ | wp_step)
  exact h
end
end PySem.W

namespace L2
open PySem PySem.Spec PyProof.Rows
/-! ### isinstance by values -/
/-- isinstance(x, c), c one class -/
theorem call_isinst {X : Cx} : CallR X (.builtin "isinstance") (fun xs H Q => ∃ x c t b, xs = [x, c] ∧ TyOf X.K H x t ∧ (∀ u, RelV c u → PySem.W.kitOne X.K t u = some b) ∧ Q (.bl b) H) := by
  intro pins s σ H xs us Q I r h
  obtain ⟨x, c, t, b, rfl, ty, k, q⟩ := h
  obtain ⟨u, w', rfl, r1, r2⟩ := vals2 r
  exact isinst_ok I r1 ty (k _ r2) fun tk => ⟨.bl b, H, I.tok tk, rfl, q⟩
/-! ### try, one clause with a name -/
abbrev Cx.inH (X : Cx) (a : Addr) : Cx := { X with A := X.A.mark (some (.ref a)), calm := false, xe := fun _ _ => False }
abbrev Cx.pinned (X : Cx) (pn : List (Addr × Obj)) : Cx := { X with pn := pn }
section
variable {X : Cx} {pins : List (Addr × Obj)} {σ : St} {H : Hp} {s : Shared}
theorem Inv.inH (I : Inv X pins σ H s) (a : Addr) : Inv (X.inH a) pins σ H s :=
  ⟨⟨I.ok.mod, I.ok.kind, I.ok.glob, I.ok.blt, I.ok.above, I.ok.inj, I.ok.has, I.ok.cab, (fun h => nomatch h), I.ok.frames, I.ok.stk, I.ok.exf, I.ok.bs, I.ok.bsz, I.ok.noex, I.ok.exfs, I.ok.funs, I.ok.frf⟩, I.os, I.bare, I.base, I.loc, I.cell, I.free, I.freeC, I.pin, I.hok, I.len⟩
theorem Inv.ofH {a : Addr} (ok : X.Ok) (I : Inv (X.inH a) pins σ H s) : Inv X pins σ H s := ⟨ok, I.os, I.bare, I.base, I.loc, I.cell, I.free, I.freeC, I.pin, I.hok, I.len⟩
theorem Inv.toPn (I : Inv X pins σ H s) : Inv (X.pinned (X.pn ++ pins)) [] σ H s :=
  ⟨⟨I.ok.mod, I.ok.kind, I.ok.glob, I.ok.blt, I.ok.above, I.ok.inj, I.ok.has, I.ok.cab, I.ok.hd, I.ok.frames, I.ok.stk, I.ok.exf, I.ok.bs, I.ok.bsz, I.ok.noex, I.ok.exfs, I.ok.funs, I.ok.frf⟩, I.os, I.bare, I.base, I.loc, I.cell, I.free, I.freeC, fun p hp => I.pin p (by simpa using hp), I.hok, I.len⟩
theorem Inv.ofPn (ok : X.Ok) (I : Inv (X.pinned (X.pn ++ pins)) [] σ H s) : Inv X pins σ H s :=
  ⟨ok, I.os, I.bare, I.base, I.loc, I.cell, I.free, I.freeC, fun p hp => I.pin p (by simpa using hp), I.hok, I.len⟩
/-- an object that was not tracked is -/
theorem Inv.track {a : Addr} {o : HO} (I : Inv X pins σ H s) (hn : H a = none) (h0 : X.s₀.heap.get? a = none) (hL : a ≠ X.env.locals) (hc : ∀ x c, X.env.cells.lookup x = some c → c ≠ a) (hp : ∀ p ∈ X.pn ++ pins, p.1 ≠ a)
    (new : ObjOk X.prog X.w (upd H a o) s.heap a o) : Inv X pins σ (upd H a o) s := by
  have ne : ∀ b u, H b = some u → b ≠ a := fun b u e => ne_of_none e hn
  refine ⟨I.ok, I.os, I.bare, ⟨I.base.keep, I.base.slot, fun b ob e n hx => ?_, I.base.there, fun b xs e => ?_, fun b ob u e => ?_, fun b ps e => ?_⟩, I.loc, I.cell, ?_, fun x c e => ?_, fun p hp' => ?_, fun b u e => ?_, I.len⟩
  · rw [upd_ne (fun z => by rw [z, h0] at e; cases e)]
    exact I.base.free b ob e n hx
  · have q := I.base.tups b xs e
    rw [upd_ne (ne b _ q)]; exact q
  · have q := I.base.frzs b ob u e
    rw [upd_ne (ne b _ q)]; exact q
  · obtain ⟨m, q⟩ := I.base.tbls b ps e
    exact ⟨m, by rw [upd_ne (ne b _ q)]; exact q⟩
  · rw [upd_ne (Ne.symm hL)]; exact I.free
  · rw [upd_ne (hc x c e)]; exact I.freeC x c e
  · obtain ⟨e, n, r⟩ := I.pin p hp'
    exact ⟨e, by rw [upd_ne (hp p hp')]; exact n, r⟩
  · by_cases hb : b = a
    · subst hb; rw [upd_same] at e; cases e; exact new
    · rw [upd_ne hb] at e
      exact (I.hok b u e).stay (fun _ _ _ q => q) (fun c q => by rw [upd_ne (ne c _ q)]; exact q) fun c xs q => by rw [upd_ne (ne c _ q)]; exact q
end
/-! ### a def that is called within an except suite -/
end L2

namespace L2
open PySem PySem.Spec PyProof.Rows
end L2
/-! EvStr: f-strings with ints, a while whose test need not be monotone. Behind EvTry. -/
namespace L2
open PySem PySem.Spec PyProof.Rows
/-! ### while -/
def WTurn (Pv : St → Hp → Prop) (mu : St → Hp → Nat) (m : Nat) (tb : TS) (D : Ends) (σ : St) (H1 : Hp) : Prop :=
  ∃ N : St → Hp → Prop, (∀ σ' H', N σ' H' → ∃ m', m' < m ∧ m' = mu σ' H' ∧ Pv σ' H') ∧ tb { D with nx := N, ct := N, bk := D.nx } σ H1
theorem WTurn.of {Pv : St → Hp → Prop} {mu : St → Hp → Nat} {m : Nat} {tb : TS} {D : Ends} {σ : St} {H1 : Hp}
    (h : tb { D with nx := fun σ' H' => Pv σ' H' ∧ mu σ' H' < m, ct := fun σ' H' => Pv σ' H' ∧ mu σ' H' < m, bk := D.nx } σ H1) : WTurn Pv mu m tb D σ H1 :=
  ⟨_, fun σ' H' ⟨p, l⟩ => ⟨_, l, rfl, p⟩, h⟩
theorem while_w {c : TT} {tb : TS} {D : Ends} {σ : St} {H : Hp} (Pv : St → Hp → Prop) (mu : St → Hp → Nat) (h0 : Pv σ H)
    (hs : ∀ m σ H, Pv σ H → m = mu σ H → c σ H fun b H1 => if b = true then WTurn Pv mu m tb D σ H1 else D.nx σ H1) : tWhile c tb D σ H := by
  refine ⟨fun m σ H => m = mu σ H ∧ Pv σ H, ⟨_, rfl, h0⟩, ?_⟩
  rintro m σ H ⟨e, p⟩
  exact hs m σ H p e
/-! ### tests that are known -/
theorem ifT {c A B : Prop} [Decidable c] (h : c) (k : A) : if decide c = true then A else B := by
  rw [if_pos (decide_eq_true h)]
  exact k
theorem ifF {c A B : Prop} [Decidable c] (h : ¬ c) (k : B) : if decide c = true then A else B := by
  rw [if_neg (fun z => h (of_decide_eq_true z))]
  exact k
theorem blT {Q : VK} {H : Hp} {c : Prop} [Decidable c] (h : c) (k : Q (.bl true) H) : Q (.bl (decide c)) H := by
  rw [decide_eq_true h]
  exact k
theorem blF {Q : VK} {H : Hp} {c : Prop} [Decidable c] (h : ¬ c) (k : Q (.bl false) H) : Q (.bl (decide c)) H := by
  rw [decide_eq_false h]
  exact k
/-! ### f-strings -/
end L2
/-! EvComp: a list comprehension with one for and at most one if, by hand. Behind EvStr. -/
namespace L2
open PySem PySem.Spec PyProof.Rows
/-! ### the closure -/
theorem cellOf_some {env : Env} {x : Str} {c : Addr} (h : env.cells.lookup x = some c) : cellOf env x = pure c := by
  unfold cellOf
  rw [h]
theorem closure_go {env : Env} : ∀ (names : List (Str × NameKind)) (cs : List (Str × Addr)), (∀ x, (x, NameKind.free) ∈ names → ∃ c, env.cells.lookup x = some c) →
    (∀ x c, cs.lookup x = some c → env.cells.lookup x = some c) →
    ∃ cl : List (Str × Addr), (forIn names cs fun (y : Str × NameKind) (r : List (Str × Addr)) => if (y.2 == .free) = true then (do let c ← cellOf env y.1; pure (ForInStep.yield ((y.1, c) :: r)) : Sem _) else pure (ForInStep.yield r)) = pure cl ∧
      (∀ x c, cl.lookup x = some c → env.cells.lookup x = some c) ∧ (∀ x, ((x, NameKind.free) ∈ names ∨ ∃ c, cs.lookup x = some c) → ∃ c, cl.lookup x = some c)
  | [], cs, _, h2 => ⟨cs, rfl, h2, fun x hx => hx.elim (fun z => nomatch z) id⟩
  | (y, k) :: names, cs, h1, h2 => by
    by_cases hk : k = .free
    · subst hk
      obtain ⟨c, hc⟩ := h1 y (List.mem_cons_self ..)
      obtain ⟨cl, e, a, b⟩ := closure_go names ((y, c) :: cs) (fun x hx => h1 x (List.mem_cons_of_mem _ hx)) (fun x c' hx => by
        rw [List.lookup_cons] at hx
        split at hx
        · rename_i hb
          have hb' : x = y := by simpa using hb
          cases hx
          rw [hb']
          exact hc
        · exact h2 x c' hx)
      refine ⟨cl, ?_, a, fun x hx => b x ?_⟩
      · rw [List.forIn_cons]
        simp only [beq_self_eq_true, if_true, cellOf_some hc]
        exact e
      · rcases hx with hx | ⟨c', hx⟩
        · rcases List.mem_cons.mp hx with z | z
          · cases z
            exact .inr ⟨c, by simp⟩
          · exact .inl z
        · by_cases hb : (x == y) = true
          · exact .inr ⟨c, by rw [List.lookup_cons, hb]⟩
          · exact .inr ⟨c', by rw [List.lookup_cons, Bool.not_eq_true _ |>.mp hb]; exact hx⟩
    · obtain ⟨cl, e, a, b⟩ := closure_go names cs (fun x hx => h1 x (List.mem_cons_of_mem _ hx)) h2
      have hb : (k == NameKind.free) = false := by simpa using hk
      refine ⟨cl, ?_, a, fun x hx => b x ?_⟩
      · rw [List.forIn_cons]
        simp only [hb, Bool.false_eq_true, if_false]
        exact e
      · rcases hx with hx | hx
        · rcases List.mem_cons.mp hx with z | z
          · cases z
            exact absurd rfl hk
          · exact .inl z
        · exact .inr hx
theorem closure_of {scope : Scope} {env : Env} (h : ∀ x, (x, NameKind.free) ∈ scope.names → ∃ c, env.cells.lookup x = some c) :
    ∃ cl, closureFor scope env = pure cl ∧ (∀ x c, cl.lookup x = some c → env.cells.lookup x = some c) ∧ ∀ x, (x, NameKind.free) ∈ scope.names → ∃ c, cl.lookup x = some c := by
  obtain ⟨cl, e, a, b⟩ := closure_go scope.names [] h (fun x c hx => nomatch hx)
  refine ⟨cl, ?_, a, fun x hx => b x (.inl hx)⟩
  refine Eq.trans (b := (forIn scope.names [] fun (y : Str × NameKind) (r : List (Str × Addr)) => if (y.2 == .free) = true then (do let c ← cellOf env y.1; pure (ForInStep.yield ((y.1, c) :: r)) : Sem _) else pure (ForInStep.yield r)) >>= fun r => pure r) rfl ?_
  rw [e]
  rfl
/-! ### the loop -/
section
variable {prog : Program} {w : World} {A : Around} {R : Result → Shared → Prop} {s : Shared}
theorem compLoop_anyX {elt target iter : Expr} {ifs : List Expr} {scope : Scope} {pos : Pos} {it acc : Value} {env : Env} (I : Nat → Shared → Prop)
    (turn : ∀ n s, I n s → wpAny (model prog w) A (pyNext it) (fun r s1 => match r with
      | none => R (.ok .next) s1
      | some v => wpAny (model prog w) A (letOwnedTupleGo target it v) (fun _ s1' => wpAny (model prog w) A (assign target env v) (fun _ s2 =>
          wpAny (model prog w) A (forIn ifs true fun c r => if r = true then do let ok ← isTrue c env (eval c env); pure (ForInStep.yield ok) else pure (ForInStep.yield r)) (fun ok s3 =>
            if ok = true then wpAny (model prog w) A (eval elt env) (fun x s4 =>
              wpAny (model prog w) A (call (.builtin "list.append") [acc, x]) (fun _ s5 => ∃ m, m < n ∧ I m s5) (fun _ _ => False) s4) (notedBy (model prog w) A env fun x s' => R (.error x) s') s3
            else ∃ m, m < n ∧ I m s3) (fun _ _ => False) s2) (fun _ _ => False) s1') (fun _ _ => False) s1) (fun _ _ => False) s)
    (n : Nat) (h : I n s) : codeAny (model prog w) A (.compLoop (.ListComp elt [⟨target, iter, ifs, 0⟩] scope pos) 0 it acc env) R s := by
  refine codeAny_loop rfl I (fun n s hI => ?_) n h
  show wpAny _ A ((compTurn (.ListComp elt [⟨target, iter, ifs, 0⟩] scope pos) 0 it acc env).onRaise (fun x => do noteFrame x env; theTreesLotGoes x)) _ _ s
  refine wpAny_noted ?_
  rw [compTurn_list]
  refine wpAny_bind (wpAny_standAt (wpAny_bind (wpAny_mono (turn n s hI) (fun r s1 h1 => ?_) fun _ _ h' => h'.elim)))
  cases r with
  | none => exact wpAny_pure h1
  | some v =>
    refine wpAny_bind (wpAny_mono h1 (fun _ s1' h1' => ?_) fun _ _ h' => h'.elim)
    refine wpAny_bind (wpAny_mono h1' (fun _ s2 h2 => wpAny_bind (wpAny_mono h2 (fun ok s3 h3 => ?_) fun _ _ h' => h'.elim)) fun _ _ h' => h'.elim)
    cases ok with
    | false => exact wpAny_pure ⟨rfl, h3⟩
    | true =>
      exact wpAny_bind (wpAny_bind (wpAny_mono h3 (fun x s4 h4 => wpAny_bind (wpAny_mono h4 (fun _ s5 h5 => wpAny_pure (wpAny_pure ⟨rfl, h5⟩)) fun _ _ h' => h'.elim)) fun _ _ h' => h'))
end
/-! ### the block's context -/
def cxC (X : Cx) (s : Shared) (H : Hp) (scope : Scope) (cl : List (Str × Addr)) (C : Addr) (N : List Str) (fp : List Addr) : Cx where
  prog := X.prog
  w := X.w
  K := X.K
  mg := X.mg
  base := X.base
  A := X.A
  N := N
  s₀ := s
  H₀ := H
  env := compEnvC scope cl C X.env
  outer := X.stack
  stack := X.stack
  ex := fp
  fn := fun x => scope.names.lookup x == some NameKind.cell
  calm := X.calm
  pn := []
  xe := fun _ _ => False
/-- slot i of the block is the outer slot, or the block's own -/
def seen (σ : St) (src : List (Option Nat)) : St := src.map fun o => match o with | some j => (σ[j]?).join | none => none
structure CompScope (X : Cx) (scope : Scope) (N : List Str) (src : List (Option Nat)) : Prop where
  kind : scope.kind = .function
  cells : ∀ y ∈ scope.names, y.2 = .cell → scope.names.lookup y.1 = some .cell
  own : ∀ y ∈ scope.names, y.2 = .local → scope.names.lookup y.1 = some .local
  has : ∀ x, (x, NameKind.free) ∈ scope.names → X.env.kindOf x = some .cell ∨ X.env.kindOf x = some .free
  len : src.length = N.length
  src : ∀ (i j : Nat) (x : Str), src[i]? = some (some j) → N[i]? = some x → X.N[j]? = some x ∧ (x, NameKind.free) ∈ scope.names ∧ scope.names.lookup x = some .free
theorem lookup_relabel_free {env : Env} : ∀ {names : List (Str × NameKind)} {x : Str}, names.lookup x = some .free →
    (names.map fun (n, k) => if (k == NameKind.free && env.scope.kind == .function && env.kindOf n == some .cell) then (n, NameKind.cell) else (n, k)).lookup x = some .cell ∨
    (names.map fun (n, k) => if (k == NameKind.free && env.scope.kind == .function && env.kindOf n == some .cell) then (n, NameKind.cell) else (n, k)).lookup x = some .free
  | [], _, h => by simp at h
  | (n, k) :: r, x, h => by
    have ih := @lookup_relabel_free env r x
    show List.lookup x ((if (k == NameKind.free && env.scope.kind == .function && env.kindOf n == some .cell) = true then (n, NameKind.cell) else (n, k)) :: _) = _ ∨ List.lookup x ((if (k == NameKind.free && env.scope.kind == .function && env.kindOf n == some .cell) = true then (n, NameKind.cell) else (n, k)) :: _) = _
    cases hx : x == n with
    | true =>
      simp only [List.lookup_cons, hx] at h
      cases h
      by_cases hc : (NameKind.free == NameKind.free && env.scope.kind == .function && env.kindOf n == some .cell) = true
      · rw [if_pos hc]; left; simp only [List.lookup_cons, hx]
      · rw [if_neg hc]; right; simp only [List.lookup_cons, hx]
    | false =>
      simp only [List.lookup_cons, hx] at h
      by_cases hc : (k == NameKind.free && env.scope.kind == .function && env.kindOf n == some .cell) = true
      · rw [if_pos hc]; simp only [List.lookup_cons, hx]; exact ih h
      · rw [if_neg hc]; simp only [List.lookup_cons, hx]; exact ih h
/-- a cell or a free name of the block was free in it -/
theorem relabel_cell {env : Env} : ∀ {names : List (Str × NameKind)} {x : Str},
    ((names.map fun (n, k) => if (k == NameKind.free && env.scope.kind == .function && env.kindOf n == some .cell) then (n, NameKind.cell) else (n, k)).lookup x = some .cell ∨
    (names.map fun (n, k) => if (k == NameKind.free && env.scope.kind == .function && env.kindOf n == some .cell) then (n, NameKind.cell) else (n, k)).lookup x = some .free) → (x, NameKind.free) ∈ names ∨ (x, NameKind.cell) ∈ names
  | [], _, h => by simp at h
  | (n, k) :: r, x, h => by
    have ih := @relabel_cell env r x
    change List.lookup x ((if (k == NameKind.free && env.scope.kind == .function && env.kindOf n == some .cell) = true then (n, NameKind.cell) else (n, k)) :: _) = _ ∨ List.lookup x ((if (k == NameKind.free && env.scope.kind == .function && env.kindOf n == some .cell) = true then (n, NameKind.cell) else (n, k)) :: _) = _ at h
    cases hx : x == n with
    | true =>
      have e : x = n := by simpa using hx
      by_cases hc : (k == NameKind.free && env.scope.kind == .function && env.kindOf n == some .cell) = true
      · have hk : k = .free := by
          simp only [Bool.and_eq_true, beq_iff_eq] at hc
          exact hc.1.1
        rw [e, hk]; exact .inl (List.mem_cons_self ..)
      · rw [if_neg hc] at h
        simp only [List.lookup_cons, hx, Option.some.injEq] at h
        rcases h with h | h
        · rw [e, h]; exact .inr (List.mem_cons_self ..)
        · rw [e, h]; exact .inl (List.mem_cons_self ..)
    | false =>
      by_cases hc : (k == NameKind.free && env.scope.kind == .function && env.kindOf n == some .cell) = true
      · rw [if_pos hc] at h; simp only [List.lookup_cons, hx] at h; exact (ih h).imp (List.mem_cons_of_mem _) (List.mem_cons_of_mem _)
      · rw [if_neg hc] at h; simp only [List.lookup_cons, hx] at h; exact (ih h).imp (List.mem_cons_of_mem _) (List.mem_cons_of_mem _)
def Weak (σ σ2 : St) : Prop := σ2.length = σ.length ∧ ∀ (i : Nat) (v : V), σ[i]? = some (some v) → σ2[i]? = some (some v)
theorem Weak.refl (σ : St) : Weak σ σ := ⟨rfl, fun _ _ h => h⟩
theorem Weak.set {σ : St} {i : Nat} {o : Option V} (h : ∀ v, σ[i]? ≠ some (some v)) : Weak σ (σ.set i o) := ⟨by simp, fun j v e => by
  have : i ≠ j := fun z => h v (z ▸ e)
  rw [List.getElem?_set_ne this]
  exact e⟩
/-- the tests -/
def PIf (X : Cx) (ifs : List Expr) (t : TT) : Prop := ∀ (pins : List (Addr × Obj)) (s : Shared) (σ : St) (H : Hp) (Q : Bool → Hp → Prop), Inv X pins σ H s → t σ H Q →
  wpAny (model X.prog X.w) X.A (forIn ifs true fun c r => if r = true then do let ok ← isTrue c X.env (eval c X.env); pure (ForInStep.yield ok) else pure (ForInStep.yield r)) (TP X pins σ Q) X.xe s
def tYes : TT := fun _ H Q => Q true H
theorem pif_nil {X : Cx} : PIf X [] tYes := fun _ _ _ H _ I h => wpAny_tests_nil ⟨H, I, h⟩
theorem pif_one {X : Cx} {c : Expr} {t : TT} (h : PT X c t) : PIf X [c] t := fun pins s σ H Q I q => wpAny_tests_one (h pins s σ H Q I q)
def tComp (src : List (Option Nat)) (wi : TI) (g : TG) (tc : TT) (te : TE) : TE := fun σ H Q => wi σ H fun J H1 => ∃ W : Nat → Nat → List V → Hp → Prop, (∃ m, W 0 m [] H1) ∧ ∀ i m ys H2, W i m ys H2 →
  (J.stop i H2 ∧ ys.length ≤ sizeLine ∧ ∀ p, H2 p = none → Q (.ref p) (upd H2 p (.lst ys))) ∨
  (J.go i H2 ∧ ∀ x H3, J.yld i H2 x H3 → g x (seen σ src) H3 fun σ2 H4 => Weak (seen σ src) σ2 ∧ tc σ2 H4 fun b H5 =>
    if b = true then te σ2 H5 fun y H6 => ys.length < sizeLine ∧ ∃ m', m' < m ∧ W (i + 1) m' (ys ++ [y]) H6 else ∃ m', m' < m ∧ W (i + 1) m' ys H5)
theorem cellsFrom_app : ∀ (names : List (Str × NameKind)) (n : Nat) (acc : List (Str × Addr)), cellsFrom n names acc = cellsFrom n names [] ++ acc
  | [], _, acc => rfl
  | (x, k) :: r, n, acc => by
    unfold cellsFrom
    split
    · rw [cellsFrom_app r (n + 1) ((x, n) :: acc), cellsFrom_app r (n + 1) [(x, n)], List.append_assoc]
      rfl
    · exact cellsFrom_app r n acc
theorem cellsFrom_mem : ∀ (names : List (Str × NameKind)) (n : Nat) (acc : List (Str × Addr)) (x : Str) (c : Addr), (x, c) ∈ cellsFrom n names acc → (x, c) ∈ acc ∨ (x, NameKind.cell) ∈ names
  | [], _, _, _, _, h => .inl h
  | (y, k) :: r, n, acc, x, c, h => by
    unfold cellsFrom at h
    split at h
    · rename_i hk
      have hk' : k = .cell := by simpa using hk
      rcases cellsFrom_mem r _ _ x c h with z | z
      · rcases List.mem_cons.mp z with z | z
        · cases z
          exact .inr (hk' ▸ List.mem_cons_self ..)
        · exact .inl z
      · exact .inr (List.mem_cons_of_mem _ z)
    · rcases cellsFrom_mem r _ _ x c h with z | z
      · exact .inl z
      · exact .inr (List.mem_cons_of_mem _ z)
theorem new_around {M : Model} {A : Around} {E : Value → Shared → Prop} {s : Shared} {scope : Scope} {globals : Addr} {cl : List (Str × Addr)} {qual : Str} {env : Env} {Q : Env → Shared → Prop}
    (h : ∀ h', h'.Ns s.heap.objs.size (fun _ => none) → (∀ b o, s.heap.get? b = some o → h'.get? b = some o) → CellsOk h' (s.heap.objs.size + 1) (cellsFrom (s.heap.objs.size + 1) scope.names []) →
      Q { scope, locals := s.heap.objs.size, globals, cells := cellsFrom (s.heap.objs.size + 1) scope.names [] ++ cl, qual, func := none, code := env.code, frame := env.frame, builtins := env.builtins } { s with heap := h' }) :
    wpAny M A (newFunctionEnv scope globals cl [] qual none .none (some env)) Q E s := by
  simp only [newFunctionEnv, Option.isSome_some, if_true]
  refine wpAny_bind (wpAny_alloc ?_)
  refine wpAny_bind (wpAny_layCells _ (fun name kind cells => by cases hkc : kind == NameKind.cell <;> simp [hkc]) _ _ _ _ ?_)
  have ok := cellsFrom_ok scope.names (s.heap.push { cls := .type "dict", data := .dict #[] }) (s.heap.objs.size + 1) [] ⟨fun _ _ hm => (nomatch hm), List.Pairwise.nil⟩ (by rw [Heap.size_push]; exact Nat.le_refl _)
  rw [Heap.size_push] at ok
  rw [show ({ s with heap := s.heap.push { cls := .type "dict", data := .dict #[] } } : Shared).heap.objs.size = s.heap.objs.size + 1 from Heap.size_push .., cellsFrom_app]
  rw [List.forIn_nil]
  exact wpAny_bind (wpAny_pure (wpAny_pure (h _ ((Heap.Ns.new s.heap (.type "dict")).keeps (pushCells_keeps _ _)) (fun b o e => pushCells_keeps _ _ b o (Heap.get?_push_of_some _ e)) ok)))
/-- a comprehension, whatever is done with its list; its element may refuse -/
theorem comp_coreX {X : Cx} {elt tg iter : Expr} {ifs : List Expr} {scope : Scope} {pos pos2 : Pos} {N : List Str} {src : List (Option Nat)} {wi : TI} {g : TG} {tc : TT} {te : TE} {use : Option (Value → Sem Unit)} {Post : Value → Shared → Prop} {pins : List (Addr × Obj)} {s : Shared} {σ : St} {H : Hp} {Q : VK}
    (hc : X.calm = true) (S : CompScope X scope N src) (hi : PI X tg iter wi)
    (hg : ∀ s H cl C fp, PG (cxC X s H scope cl C N fp) tg g) (hf : ∀ s H cl C fp, PIf (cxC X s H scope cl C N fp) ifs tc) (xc : Cx → Value → Shared → Prop) (he : ∀ s H cl C fp, (X.ex = [] → ∀ b o, X.s₀.heap.get? b = some o → b ∉ fp ∧ ∃ o', s.heap.get? b = some o') → PE ((cxC X s H scope cl C N fp).wish (xc (cxC X s H scope cl C N fp))) elt te)
    (hs : ∀ x, foldedSetIterable iter X.env x = pure x) (I : Inv X pins σ H s) (h : tComp src wi g tc te σ H Q)
    (fin : ∀ (C a : Addr) (H1 : Hp) (s' : Shared), (∀ h', Heap.SameBut C s'.heap h' → Inv X pins σ H1 { s' with heap := h' }) → FpOk X pins H1 C → (∃ m, s'.heap.Ns C m) → Q (.ref a) H1 → compPost (model X.prog X.w) X.A X.xe use Post (.ref a) C (.ok .next) s')
    (bad : ∀ (s2 : Shared) (H2 : Hp) (cl : List (Str × Addr)) (C : Addr) (fp : List Addr) (acc e : Value) (s' : Shared), (∀ σ' H' s', Inv (cxC X s2 H2 scope cl C N fp) [] σ' H' s' → ∀ h', Heap.SameBut C s'.heap h' → Inv X pins σ H' { s' with heap := h' }) → (X.ex = [] → ∀ b o, X.s₀.heap.get? b = some o → b ∉ fp ∧ ∃ o', s2.heap.get? b = some o') → xc (cxC X s2 H2 scope cl C N fp) e s' →
      notedBy (model X.prog X.w) X.A (compEnvC scope cl C X.env) (fun x s'' => compPost (model X.prog X.w) X.A X.xe use Post acc C (.error x) s'') e s') :
    wpAny (model X.prog X.w) X.A (comprehension (.ListComp elt [⟨tg, iter, ifs, 0⟩] scope pos) scope X.env pos2 (newList []) false (eval iter X.env) use) Post X.xe s := by
  obtain ⟨cl, hcl, cl1, cl2⟩ := closure_of (scope := scope) (env := X.env) (fun x hx => I.ok.has x (S.has x hx))
  refine wpAny_comprehension_free (use := use) rfl hs hcl S.kind S.own (thn (hi pins s σ H _ I h) fun v s1 h1 => thn h1 fun itv s2 h2 => ?_)
  obtain ⟨it, fp, tn, J, H2, rfl, I2, T, st2, f2, W, ⟨m0, w0⟩, turn⟩ := h2
  refine wpAny_newObj_type (new_around fun h3 hns hsb cok => ?_)
  dsimp only at hns hsb cok ⊢
  generalize hHd : s2.heap.push { cls := .type "list", dict := none, data := .seq ([] : List Value).toArray } = Hd at hns hsb cok ⊢
  have hCs : Hd.objs.size = s2.heap.objs.size + 1 := by rw [← hHd, Heap.size_push]
  have hDC : s2.heap.objs.size ≠ Hd.objs.size := by rw [hCs]; exact Nat.ne_of_lt (Nat.lt_succ_self _)
  have below : ∀ b, b < s2.heap.objs.size → b ≠ Hd.objs.size ∧ b ≠ s2.heap.objs.size := fun b hb => ⟨by rw [hCs]; exact Nat.ne_of_lt (Nat.lt_succ_of_lt hb), Nat.ne_of_lt hb⟩
  have old : ∀ b o, s2.heap.get? b = some o → h3.get? b = some o := fun b o e => hsb b o (hHd ▸ Heap.get?_push_of_some _ e)
  have hacc : h3.get? s2.heap.objs.size = some { cls := .type "list", dict := none, data := .seq ([] : List Value).toArray } := hsb _ _ (hHd ▸ Heap.get?_push_size _ rfl)
  have fpObj := T.obj 0 _ st2
  have fpLt : ∀ b ∈ fp, b < s2.heap.objs.size := fun b hb => by
    obtain ⟨o, e, _⟩ := fpObj b hb
    exact Heap.lt_size e
  generalize hown : cellsFrom (Hd.objs.size + 1) scope.names [] = own at cok ⊢
  have ownC : ∀ x c, (x, c) ∈ own → scope.names.lookup x = some .cell := fun x c hm => by
    rw [← hown] at hm
    rcases cellsFrom_mem _ _ _ _ _ hm with z | z
    · exact nomatch z
    · exact S.cells _ z rfl
  have two : ∀ x c, (own ++ cl).lookup x = some c → (cl.lookup x = some c ∧ c < s2.heap.objs.size) ∨ ((x, c) ∈ own ∧ h3.IsCell c none ∧ Hd.objs.size < c) := fun x c e => by
    rw [List.lookup_append] at e
    cases ho : own.lookup x with
    | none =>
      rw [ho, Option.none_or] at e
      obtain ⟨v, q⟩ := I2.cell x c (cl1 x c e)
      exact .inl ⟨e, q.lt⟩
    | some c' =>
      rw [ho, Option.some_or] at e
      cases e
      have hm := mem_of_lookup ho
      exact .inr ⟨hm, (cok.empty x c hm).1, (cok.empty x c hm).2⟩
  have cellNe : ∀ x c, (own ++ cl).lookup x = some c → c ≠ s2.heap.objs.size ∧ ∀ b ∈ fp, c ≠ b := fun x c e => by
    rcases two x c e with ⟨e, lt⟩ | ⟨_, _, lt⟩
    · exact ⟨Nat.ne_of_lt lt, fun b hb => (f2 b hb).2.2.2.2.1 x c (cl1 x c e)⟩
    · rw [hCs] at lt
      exact ⟨Nat.ne_of_gt (Nat.lt_trans (Nat.lt_succ_self _) lt), fun b hb => Nat.ne_of_gt (Nat.lt_trans (fpLt b hb) (Nat.lt_trans (Nat.lt_succ_self _) lt))⟩
  have fresh : ∀ a, s2.heap.objs.size ≤ a → s2.heap.get? a = none := fun a ha => by
    cases e : s2.heap.get? a with
    | none => rfl
    | some o' => exact absurd (Heap.lt_size e) (Nat.not_lt.mpr ha)
  -- the context
  have okY : (cxC X s2 H2 scope (own ++ cl) Hd.objs.size N fp).Ok := by
    refine ⟨I2.ok.mod, S.kind, I2.ok.glob, I2.ok.blt, ?_, ?_, ?_, ?_, fun hcc => I2.ok.hd hcc, I2.ok.frames, .inl rfl, fun b hb => ⟨(below b (fpLt b hb)).1, fun x c e => (cellNe x c e).2 b hb⟩,
      I2.bs, Nat.le_trans I2.ok.bsz I2.sz, fun b o e hb => ?_, fun b hb z => (List.mem_cons.mp (I2.stkSub b z)).elim (f2 b hb).2.1 (f2 b hb).2.2.1, I2.stack, I2.stkFree⟩
    · show s2.heap.objs.size ≤ Hd.objs.size
      rw [hCs]; exact Nat.le_succ _
    · intro x y c e1 e2
      rcases two x c e1 with ⟨e1, l1⟩ | ⟨m1, _, l1⟩ <;> rcases two y c e2 with ⟨e2, l2⟩ | ⟨m2, _, l2⟩
      · exact I2.ok.inj x y c (cl1 x c e1) (cl1 y c e2)
      · rw [hCs] at l2; exact absurd (Nat.lt_trans l1 (Nat.lt_trans (Nat.lt_succ_self _) l2)) (Nat.lt_irrefl _)
      · rw [hCs] at l1; exact absurd (Nat.lt_trans l2 (Nat.lt_trans (Nat.lt_succ_self _) l1)) (Nat.lt_irrefl _)
      · exact name_of_addr cok.apart m1 m2
    · intro x hx
      show ∃ c, (own ++ cl).lookup x = some c
      rw [List.lookup_append]
      cases ho : own.lookup x with
      | some c => exact ⟨c, rfl⟩
      | none =>
        rw [Option.none_or]
        rcases relabel_cell hx with z | z
        · exact cl2 x z
        · have := PySem.W.cellsFrom_some scope.names (Hd.objs.size + 1) [] (.inl (S.cells _ z rfl))
          rw [hown, ho] at this
          cases this
    · intro x c hf e
      have hf' : scope.names.lookup x = some .cell := by simpa [cxC] using hf
      have := PySem.W.cellsFrom_some scope.names (Hd.objs.size + 1) [] (.inl hf')
      rw [hown] at this
      obtain ⟨c', ho⟩ := Option.isSome_iff_exists.mp this
      have e' : (own ++ cl).lookup x = some c := e
      rw [List.lookup_append, ho, Option.some_or] at e'
      cases e'
      have := (cok.empty x c (mem_of_lookup ho)).2
      show s2.heap.objs.size ≤ c
      rw [hCs] at this
      omega
    · rcases (f2 b hb).2.2.2.1 with z | z
      · exact I2.ok.noex b o e z
      · exact absurd (Nat.lt_of_lt_of_le (Heap.lt_size e) (Nat.le_trans I2.ok.bsz z)) (Nat.lt_irrefl _)
  have IY : Inv (cxC X s2 H2 scope (own ++ cl) Hd.objs.size N fp) [] (seen σ src) H2 { s2 with heap := h3 } := by
    refine ⟨okY, rfl, I2.bare, Un.kept old, ⟨_, hns, fun i x v e1 e2 _ => ?_⟩, fun x c e => ?_, I2.hok.fresh (by show s2.heap.objs.size ≤ Hd.objs.size; rw [hCs]; exact Nat.le_succ _), ?_, fun p hp => (nomatch hp), I2.hok.kept old, ?_⟩
    · unfold seen at e2
      rw [List.getElem?_map] at e2
      cases hsr : src[i]? with
      | none => rw [hsr] at e2; cases e2
      | some oj =>
        rw [hsr] at e2
        cases oj with
        | none => cases e2
        | some j =>
          obtain ⟨hN, hfr, hlk⟩ := S.src i j x hsr e1
          have e3 : σ[j]? = some (some v) := by
            have : (σ[j]?).join = some v := Option.some.inj e2
            cases hj : σ[j]? with
            | none => rw [hj] at this; cases this
            | some o => rw [hj] at this; cases this; rfl
          have hk := S.has x hfr
          have vis : Vis X.env.scope x := by
            rcases hk with z | z
            · exact .inr (.inl z)
            · exact .inr (.inr z)
          obtain ⟨m, hnm, hl⟩ := I2.loc
          obtain ⟨u, r, l⟩ := hl j x v hN e3 vis
          refine ⟨u, r, .inr ⟨lookup_relabel_free hlk, ?_⟩⟩
          rcases l with ⟨l1, _⟩ | ⟨_, c, ec, ic⟩
          · rcases hk with z | z <;> (rw [l1] at z; cases z)
          · obtain ⟨c', ec'⟩ := cl2 x hfr
            have := cl1 x c' ec'
            rw [ec] at this
            cases this
            obtain ⟨o, ho, hd⟩ := ic
            have hno : own.lookup x = none := by
              cases ho : own.lookup x with
              | none => rfl
              | some c2 =>
                have := ownC x c2 (mem_of_lookup ho)
                rw [hlk] at this
                cases this
            exact ⟨c, by show (own ++ cl).lookup x = some c; rw [List.lookup_append, hno, Option.none_or]; exact ec', o, old _ _ ho, hd⟩
    · rcases two x c e with ⟨e, _⟩ | ⟨_, q, _⟩
      · obtain ⟨v, o, ho, hd⟩ := I2.cell x c (cl1 x c e)
        exact ⟨v, o, old _ _ ho, hd⟩
      · exact ⟨none, q⟩
    · intro x c e
      rcases two x c e with ⟨e, _⟩ | ⟨_, _, lt⟩
      · exact I2.freeC x c (cl1 x c e)
      · exact I2.hok.fresh (by rw [hCs] at lt; omega)
    · show (seen σ src).length = N.length
      unfold seen
      rw [List.length_map, S.len]
  have dFs : s2.heap.objs.size ∉ frs X.stack := fun z => by
    obtain ⟨_, o, ho, _⟩ := I2.stack.mem z
    exact absurd (Heap.lt_size ho) (Nat.lt_irrefl _)
  have cFs : Hd.objs.size ∉ frs X.stack := fun z => by
    obtain ⟨_, o, ho, _⟩ := I2.stack.mem z
    have z2 := Heap.lt_size ho
    rw [hCs] at z2
    exact absurd z2 (Nat.not_lt.mpr (Nat.le_succ _))
  have stat : ∀ {H' : Hp} {pn : List (Addr × Obj)}, (∀ b ∈ fp, H' b = none) → (∀ p ∈ pn, p.1 = s2.heap.objs.size) → ∀ b ∈ fp, FpOk (cxC X s2 H2 scope (own ++ cl) Hd.objs.size N fp) pn H' b := fun hn hp b hb =>
    ⟨hn b hb, (below b (fpLt b hb)).1, okY.exfs b hb, .inl hb, fun x c e => (cellNe x c e).2 b hb, fun p q z => (below b (fpLt b hb)).2 (z ▸ hp p q)⟩
  have neC : ∀ b o, s2.heap.get? b = some o → b ≠ Hd.objs.size := fun b o e => (below b (Heap.lt_size e)).1
  have key : ∀ σ' H' s', Inv (cxC X s2 H2 scope (own ++ cl) Hd.objs.size N fp) [] σ' H' s' → ∀ h', Heap.SameBut Hd.objs.size s'.heap h' → Inv X pins σ H' { s' with heap := h' } := fun σ' H' s4 I6 h' hsb' => by
    have kp : ∀ b o, b ≠ Hd.objs.size → s4.heap.get? b = some o → h'.get? b = some o := fun b o hb e => (hsb'.2 b hb).trans e
    have un : Un (frs X.stack) fp H2 H' s2.heap h' := by
      have u0 : Un (frs X.stack) fp H2 H' s2.heap s4.heap := I6.base
      refine ⟨fun b o e n' hb hx => kp b o (neC b o e) (u0.keep b o e n' hb hx), fun b o e n' hb hx => ?_, u0.free, fun b o e hx => ?_, u0.tups, u0.frzs, u0.tbls⟩
      · obtain ⟨sl, e1⟩ := u0.slot b o e n' hb hx
        exact ⟨sl, kp b _ (neC b o e) e1⟩
      · obtain ⟨o', e1⟩ := u0.there b o e hx
        exact ⟨o', kp b o' (neC b o e) e1⟩
    have nC : H' Hd.objs.size = none := I6.free
    have hok : HOk X.prog X.w H' h' := fun a o e => (I6.hok a o e).stay (fun b u hb q' => kp b u (fun z => by
      rcases hb with rfl | hb
      · rw [z, nC] at e; cases e
      · rw [z, nC] at hb; cases hb) q') (fun _ q' => q') fun _ _ q' => q'
    exact I2.call' (s' := { s4 with heap := h' }) I6.os un hok I6.bare (fun b hb => ⟨(f2 b hb).2.2.2.1, (f2 b hb).2.1, (f2 b hb).2.2.2.2.1, (f2 b hb).2.2.2.2.2⟩)
  have olds : X.ex = [] → ∀ b o, X.s₀.heap.get? b = some o → b ∉ fp ∧ ∃ o', s2.heap.get? b = some o' := fun hex b o e => by
    refine ⟨fun hb => ?_, I2.base.there b o e (by rw [hex]; simp)⟩
    rcases (f2 b hb).2.2.2.1 with z | z
    · rw [hex] at z
      cases z
    · exact absurd (Heap.lt_size e) (Nat.not_lt.mpr z)
  have loop : ∀ sA : Shared, sA = { s2 with heap := h3 } →
      codeAny (model X.prog X.w) X.A (.compLoop (.ListComp elt [⟨tg, iter, ifs, 0⟩] scope pos) 0 (.ref it) (.ref s2.heap.objs.size) (compEnvC scope (own ++ cl) Hd.objs.size X.env))
        (compPost (model X.prog X.w) X.A X.xe use Post (.ref s2.heap.objs.size) Hd.objs.size) sA := by
    rintro sA rfl
    refine compLoop_anyX (fun n s' => ∃ (i : Nat) (ys : List V) (its : List Value) (k : Nat) (σ3 : St) (H3 : Hp), Inv (cxC X s2 H2 scope (own ++ cl) Hd.objs.size N fp) [] σ3 H3 s' ∧ Weak (seen σ src) σ3 ∧ tn i s'.heap ∧ (∀ b ∈ fp, H3 b = none) ∧ W i n ys H3 ∧
        s'.heap.get? s2.heap.objs.size = some { cls := .type "list", data := .seq its.toArray k } ∧ Vals ys its ∧ H3 s2.heap.objs.size = none) ?_ m0
      ⟨0, [], [], 0, _, H2, IY, Weak.refl _, T.keep 0 _ _ st2 (fun b hb o e => old b o e), fun b hb => (f2 b hb).1, w0, hacc, .nil, I2.fresh⟩
    rintro n s3 ⟨i, ys, its, k, σ3, H3, I3, wk, st3, fr3, w3, hD, rv, nD⟩
    have I4 : Inv (cxC X s2 H2 scope (own ++ cl) Hd.objs.size N fp) [] (seen σ src) H3 s3 := I3.weak wk.1.symm wk.2
    have I5 : Inv (cxC X s2 H2 scope (own ++ cl) Hd.objs.size N fp) [(s2.heap.objs.size, { cls := .type "list", data := .seq its.toArray k })] (seen σ src) H3 s3 := I4.pins_of fun p hp => by
      cases List.mem_singleton.mp hp
      exact ⟨hD, nD, hDC, dFs, fun v z => nomatch z⟩
    have one : ∀ p ∈ [((s2.heap.objs.size, { cls := .type "list", data := .seq its.toArray k }) : Addr × Obj)], p.1 = s2.heap.objs.size := fun p hp => by
      cases List.mem_singleton.mp hp
      rfl
    rcases turn i n ys H3 w3 with ⟨stop, hlen, q⟩ | ⟨go, step⟩
    · refine thn (T.done (cxC X s2 H2 scope (own ++ cl) Hd.objs.size N fp) rfl rfl rfl hc i _ s3 _ H3 _ I5 (stat fr3 one) st3 stop) fun r s4 ⟨hr, I6⟩ => ?_
      subst hr
      have hD4 := (I6.pin _ (List.mem_append_right _ (List.mem_singleton.mpr rfl))).1
      obtain ⟨m, hn4, _⟩ := I6.loc
      refine fin Hd.objs.size s2.heap.objs.size (upd H3 s2.heap.objs.size (.lst ys)) s4 (fun h' hsb' => ?_) (I2.fpOk (by rw [hCs]; exact Nat.le_succ _) (by rw [upd_ne (Ne.symm hDC)]; exact I6.free)) ⟨m, hn4⟩ (q _ nD)
      have kp : ∀ b o, b ≠ Hd.objs.size → s4.heap.get? b = some o → h'.get? b = some o := fun b o hb e => (hsb'.2 b hb).trans e
      have I7 : Inv X pins σ H3 { s4 with heap := h' } := key _ _ s4 I6.nopins h' hsb'
      have e0 : X.s₀.heap.get? s2.heap.objs.size = none := by
        cases e : X.s₀.heap.get? s2.heap.objs.size with
        | none => rfl
        | some o => exact absurd (Nat.lt_of_lt_of_le (Heap.lt_size e) I2.sz) (Nat.lt_irrefl _)
      have I8 : Inv X pins σ (upd H3 s2.heap.objs.size (.lst ys)) { s4 with heap := h' } := I7.track nD e0 (fun z => Nat.lt_irrefl _ (z ▸ I2.lt)) (fun x c e z => by
        obtain ⟨v, q'⟩ := I2.cell x c e
        exact Nat.lt_irrefl _ (z ▸ q'.lt)) (fun p hp z => Nat.lt_irrefl _ (z ▸ Heap.lt_size (I2.pin p hp).1)) ⟨hlen, its, k, rv, kp _ _ hDC hD4⟩
      exact I8
    · refine thn (T.item (cxC X s2 H2 scope (own ++ cl) Hd.objs.size N fp) rfl rfl rfl hc i _ s3 _ H3 _ I5 (stat fr3 one) st3 go) fun r s4 ⟨u, hr, h4⟩ => ?_
      subst hr
      refine thn h4 fun _ s5 ⟨x, H5, I6, r5, y5, st5, fr5⟩ => ?_
      have I6' := I6.pinned (stat fr5 one) (T.obj _ _ st5)
      refine thn (hg _ _ _ _ _ _ s5 _ H5 x u _ I6' r5 (step x H5 y5)) fun _ s6 ⟨σ6, H6, I7, wk6, q6⟩ => ?_
      refine thn (hf _ _ _ _ _ _ s6 σ6 H6 _ I7 q6) fun ok s7 ⟨H7, I8, q7⟩ => ?_
      have back : ∀ {σ' : St} {H' : Hp} {s' : Shared}, Inv (cxC X s2 H2 scope (own ++ cl) Hd.objs.size N fp) ([(s2.heap.objs.size, { cls := .type "list", data := .seq its.toArray k })] ++ pinsAt fp s5.heap) σ' H' s' →
          tn (i + 1) s'.heap ∧ (∀ b ∈ fp, H' b = none) ∧ s'.heap.get? s2.heap.objs.size = some { cls := .type "list", data := .seq its.toArray k } ∧ H' s2.heap.objs.size = none := fun {σ' H' s'} J => by
        have jD := J.pin (s2.heap.objs.size, { cls := .type "list", data := .seq its.toArray k }) (by simp)
        refine ⟨T.keep _ _ _ st5 fun b hb o e => (J.pin (b, o) (List.mem_append_right _ (List.mem_append_right _ (mem_pinsAt hb e)))).1, fun b hb => ?_, jD.1, jD.2.1⟩
        obtain ⟨o, e, d⟩ := T.obj _ _ st5 b hb
        exact (J.pin (b, o) (List.mem_append_right _ (List.mem_append_right _ (mem_pinsAt hb e)))).2.1
      cases ok with
      | false =>
        rw [if_neg Bool.false_ne_true] at q7
        rw [if_neg Bool.false_ne_true]
        obtain ⟨m', hm, w'⟩ := q7
        obtain ⟨b1, b2, b3, b4⟩ := back I8
        exact ⟨m', hm, i + 1, ys, its, k, σ6, H7, I8.nopins, wk6, b1, b2, w', b3, rv, b4⟩
      | true =>
        rw [if_pos rfl] at q7
        rw [if_pos rfl]
        refine wpAny_mono (he _ _ _ _ _ olds _ s7 σ6 H7 _ (I8.wish _) q7) (fun u2 s8 ⟨y, H8, I9', r9, hlt, m', hm, w'⟩ => ?_) fun e s8 z => bad _ _ _ _ _ _ e s8 key olds z
        have I9 := I9'.unwish
        obtain ⟨b1, b2, b3, b4⟩ := back I9
        have hl := rv.length
        refine call_meets F.slot_list_append ⟨_, b3, rfl⟩ F.entry_list_append (F.args_list_append_2 _ _) (PySem.list_append s2.heap.objs.size its.toArray k u2 (by rw [List.size_toArray]; omega)) ⟨b3, ?_⟩
        have qu := PySem.IsL.update b3 (·.push u2)
        rw [show its.toArray.push u2 = (its ++ [u2]).toArray by simp] at qu
        refine ⟨m', hm, i + 1, ys ++ [y], its ++ [u2], _, σ6, H8, ?_, wk6, ?_, b2, w', qu, rv.append (.cons r9 .nil), b4⟩
        · exact I9.nopins.turned (it := s2.heap.objs.size) (fun b o hb e => (Heap.get?_update_other s8.heap (Obj.mapSeq _) (Ne.symm hb)).trans e) b4 hDC (.inr (Nat.le_refl _)) (fun x c e z => (cellNe x c e).1 z) (fun p hp => nomatch hp)
        · exact T.keep _ _ _ b1 fun b hb o e => (Heap.get?_update_other s8.heap (Obj.mapSeq _) ((below b (fpLt b hb)).2.symm)).trans e
  exact codeAny_compStart_list (loop _ rfl) (T.self _ 0 _ _ _ (T.keep 0 _ _ st2 (fun b hb o e => old b o e)) (loop _ rfl))
/-- a comprehension, whatever is done with its list -/
theorem comp_core {X : Cx} {elt tg iter : Expr} {ifs : List Expr} {scope : Scope} {pos pos2 : Pos} {N : List Str} {src : List (Option Nat)} {wi : TI} {g : TG} {tc : TT} {te : TE} {use : Option (Value → Sem Unit)} {Post : Value → Shared → Prop} {pins : List (Addr × Obj)} {s : Shared} {σ : St} {H : Hp} {Q : VK}
    (hc : X.calm = true) (S : CompScope X scope N src) (hi : PI X tg iter wi)
    (hg : ∀ s H cl C fp, PG (cxC X s H scope cl C N fp) tg g) (hf : ∀ s H cl C fp, PIf (cxC X s H scope cl C N fp) ifs tc) (he : ∀ s H cl C fp, PE (cxC X s H scope cl C N fp) elt te)
    (hs : ∀ x, foldedSetIterable iter X.env x = pure x) (I : Inv X pins σ H s) (h : tComp src wi g tc te σ H Q)
    (fin : ∀ (C a : Addr) (H1 : Hp) (s' : Shared), (∀ h', Heap.SameBut C s'.heap h' → Inv X pins σ H1 { s' with heap := h' }) → FpOk X pins H1 C → (∃ m, s'.heap.Ns C m) → Q (.ref a) H1 → compPost (model X.prog X.w) X.A X.xe use Post (.ref a) C (.ok .next) s') :
    wpAny (model X.prog X.w) X.A (comprehension (.ListComp elt [⟨tg, iter, ifs, 0⟩] scope pos) scope X.env pos2 (newList []) false (eval iter X.env) use) Post X.xe s :=
  comp_coreX hc S hi hg hf (fun _ _ _ => False) (fun s H cl C fp _ => he s H cl C fp) hs I h fin fun _ _ _ _ _ _ _ _ _ _ z => z.elim
theorem pe_comp {X : Cx} {elt tg iter : Expr} {ifs : List Expr} {scope : Scope} {pos : Pos} {N : List Str} {src : List (Option Nat)} {wi : TI} {g : TG} {tc : TT} {te : TE} (hc : X.calm = true) (S : CompScope X scope N src) (hi : PI X tg iter wi)
    (hg : ∀ s H cl C fp, PG (cxC X s H scope cl C N fp) tg g) (hf : ∀ s H cl C fp, PIf (cxC X s H scope cl C N fp) ifs tc) (he : ∀ s H cl C fp, PE (cxC X s H scope cl C N fp) elt te)
    (hs : ∀ x, foldedSetIterable iter X.env x = pure x := by intro _; rfl) : PE X (.ListComp elt [⟨tg, iter, ifs, 0⟩] scope pos) (tComp src wi g tc te) := by
  intro pins s σ H Q I h
  rw [eval_ListComp]
  refine comp_core (use := none) hc S hi hg hf he hs I h fun C a H1 s' key _ ⟨m, hn⟩ q => ⟨m, hn, fun h' sb => ⟨.ref a, H1, key h' sb, rfl, q⟩⟩
/-! ### a scope that is written -/
def compOkB (osc sc : Scope) (oN N : List Str) (src : List (Option Nat)) : Bool :=
  sc.names.all (fun y => decide (y.2 ≠ .cell) || decide (sc.names.lookup y.1 = some .cell)) && sc.names.all (fun y => decide (y.2 ≠ .local) || decide (sc.names.lookup y.1 = some .local)) &&
  sc.names.all (fun y => decide (y.2 ≠ .free) || decide (osc.names.lookup y.1 = some .cell) || decide (osc.names.lookup y.1 = some .free)) && decide (src.length = N.length) &&
  (List.range src.length).all (fun i => match src[i]?, N[i]? with | some (some j), some x => decide (oN[j]? = some x) && decide ((x, NameKind.free) ∈ sc.names) && decide (sc.names.lookup x = some .free) | _, _ => true)
theorem comp_scope {X : Cx} {scope : Scope} {N : List Str} {src : List (Option Nat)} (osc : Scope) (oN : List Str) (e1 : X.env.scope = osc) (e2 : X.N = oN) (c : compOkB osc scope oN N src = true) (k : scope.kind = .function) : CompScope X scope N src := by
  unfold compOkB at c
  simp only [Bool.and_eq_true, List.all_eq_true, decide_eq_true_eq, Bool.or_eq_true] at c
  obtain ⟨⟨⟨⟨c1, c2⟩, c3⟩, c4⟩, c5⟩ := c
  refine ⟨k, fun y hy e => (c1 y hy).resolve_left fun z => z e, fun y hy e => ?_, fun x hx => ?_, c4, fun i j x h1 h2 => ?_⟩
  · rcases c2 y hy with z | z
    · exact absurd e z
    · exact z
  · show X.env.scope.names.lookup x = _ ∨ X.env.scope.names.lookup x = _
    rw [e1]
    rcases c3 (x, .free) hx with (z | z) | z
    · exact absurd rfl z
    · exact .inl z
    · exact .inr z
  · have hi : i < src.length := (List.getElem?_eq_some_iff.mp h1).1
    have z := c5 i (List.mem_range.mpr hi)
    rw [h1, h2] at z
    simp only [Bool.and_eq_true, decide_eq_true_eq] at z
    rw [e2]
    exact ⟨z.1.1, z.1.2, z.2⟩
end L2
/-! EvMore: data read off the abstract heap and compared, any, all; promises of defs in bundles. Behind EvComp. -/
namespace L2
open PySem PySem.Spec PyProof.Rows
/-! ### data -/
mutual
def IsD (K : PySem.W.Frag) (H : Hp) : PyData → V → Prop
  | .none, v => v = .non
  | .bool b, v => v = .bl b
  | .int i, v => v = .int i
  | .str x, v => v = .str x
  | .list ds, v => ∃ a xs, v = .ref a ∧ SqL K H a xs ∧ IsDs K H ds xs
  | .tuple ds, v => ∃ a xs, v = .ref a ∧ SqT K H a xs ∧ IsDs K H ds xs
  | .dict _, _ => False
def IsDs (K : PySem.W.Frag) (H : Hp) : List PyData → List V → Prop
  | [], xs => xs = []
  | d :: ds, xs => ∃ x r, xs = x :: r ∧ IsD K H d x ∧ IsDs K H ds r
end
theorem isTup_reads {h : Heap} {a : Addr} {its : Array Value} (t : IsTup h a its) : ∃ o n, h.get? a = some o ∧ o.cls = .type "tuple" ∧ o.data = .seq its n := by
  obtain ⟨o, ho, hc, n, hd⟩ := t
  exact ⟨o, n, ho, hc, hd⟩
section
variable {X : Cx} {pins : List (Addr × Obj)} {σ : St} {H : Hp} {s : Shared}
mutual
theorem IsD.reads (I : Inv X pins σ H s) : ∀ (d : PyData) {v : V} {u : Value}, IsD X.K H d v → RelV v u → ∃ as, Reads s.heap u d as
  | .none, v, u, h, r => by
    simp only [IsD] at h; subst h
    cases (show u = .none from r); exact ⟨_, .none⟩
  | .bool b, v, u, h, r => by
    simp only [IsD] at h; subst h
    cases (show u = .bool b from r); exact ⟨_, .bool b⟩
  | .int i, v, u, h, r => by
    simp only [IsD] at h; subst h
    obtain ⟨t, rfl⟩ := r; exact ⟨_, .int i t⟩
  | .str x, v, u, h, r => by
    simp only [IsD] at h; subst h
    obtain ⟨t, rfl⟩ := r; exact ⟨_, .str x t⟩
  | .list ds, v, u, h, r => by
    simp only [IsD] at h
    obtain ⟨a, xs, rfl, hs, hd⟩ := h
    cases (show u = .ref a from r)
    obtain ⟨its, rv, p, _⟩ := I.list hs
    obtain ⟨o, ho, hc, n, hdd⟩ := p.isList
    obtain ⟨as, ra⟩ := IsDs.reads I ds hd rv
    exact ⟨_, .list ho hc hdd (by simpa using ra)⟩
  | .tuple ds, v, u, h, r => by
    simp only [IsD] at h
    obtain ⟨a, xs, rfl, hs, hd⟩ := h
    cases (show u = .ref a from r)
    obtain ⟨its, rv, p, _⟩ := I.tuple hs
    obtain ⟨o, n, ho, hc, hdd⟩ := isTup_reads p
    obtain ⟨as, ra⟩ := IsDs.reads I ds hd rv
    exact ⟨_, .tuple ho hc hdd (by simpa using ra)⟩
  | .dict _, v, u, h, r => by
    simp only [IsD] at h
theorem IsDs.reads (I : Inv X pins σ H s) : ∀ (ds : List PyData) {vs : List V} {us : List Value}, IsDs X.K H ds vs → Vals vs us → ∃ as, ReadsAll s.heap us ds as
  | [], vs, us, h, r => by
    simp only [IsDs] at h; subst h
    cases r; exact ⟨_, .nil⟩
  | d :: ds, vs, us, h, r => by
    simp only [IsDs] at h
    obtain ⟨x, rr, rfl, hx, hr⟩ := h
    cases r with
    | cons r1 r2 =>
      obtain ⟨as, ra⟩ := IsD.reads I d hx r1
      obtain ⟨bs, rb⟩ := IsDs.reads I ds hr r2
      exact ⟨_, .cons ra rb⟩
end
end
mutual
theorem IsD.imp {K : PySem.W.Frag} {H H' : Hp} (sl : ∀ a xs, SqL K H a xs → SqL K H' a xs) (st : ∀ a xs, SqT K H a xs → SqT K H' a xs) : ∀ (d : PyData) {v : V}, IsD K H d v → IsD K H' d v
  | .none, v, h => by simp only [IsD] at h ⊢; exact h
  | .bool b, v, h => by simp only [IsD] at h ⊢; exact h
  | .int i, v, h => by simp only [IsD] at h ⊢; exact h
  | .str x, v, h => by simp only [IsD] at h ⊢; exact h
  | .list ds, v, h => by
    simp only [IsD] at h ⊢
    obtain ⟨a, xs, e, hs, hd⟩ := h
    exact ⟨a, xs, e, sl a xs hs, IsDs.imp sl st ds hd⟩
  | .tuple ds, v, h => by
    simp only [IsD] at h ⊢
    obtain ⟨a, xs, e, hs, hd⟩ := h
    exact ⟨a, xs, e, st a xs hs, IsDs.imp sl st ds hd⟩
  | .dict _, v, h => by simp only [IsD] at h
theorem IsDs.imp {K : PySem.W.Frag} {H H' : Hp} (sl : ∀ a xs, SqL K H a xs → SqL K H' a xs) (st : ∀ a xs, SqT K H a xs → SqT K H' a xs) : ∀ (ds : List PyData) {vs : List V}, IsDs K H ds vs → IsDs K H' ds vs
  | [], vs, h => by simp only [IsDs] at h ⊢; exact h
  | d :: ds, vs, h => by
    simp only [IsDs] at h ⊢
    obtain ⟨x, r, e, hx, hr⟩ := h
    exact ⟨x, r, e, IsD.imp sl st d hx, IsDs.imp sl st ds hr⟩
end
/-! ### == and != of data -/
def rEqD (K : PySem.W.Frag) (neg : Bool) : R2 := fun x y H Q => ∃ da db, IsD K H da x ∧ IsD K H db y ∧ PySem.SeqAt.shaped da = true ∧ PySem.SeqAt.shaped db = true ∧ Q (.bl (if neg then !PyData.eqv da db else PyData.eqv da db)) H
theorem op_eqD {X : Cx} (hu : X.A.units + 64 < cLine) : OpR X (compareOp .Eq) (rEqD X.K false) := by
  intro pins s σ H x y v u Q I rx ry h
  obtain ⟨da, db, ha, hb, sa, sb, q⟩ := h
  obtain ⟨as, ra⟩ := IsD.reads I da ha rx
  obtain ⟨bs, rb⟩ := IsD.reads I db hb ry
  exact PySem.SeqAt.compareEq_shaped ra rb sa sb hu ⟨.bl _, H, I, rfl, q⟩
theorem op_neD {X : Cx} (hu : X.A.units + 64 < cLine) : OpR X (compareOp .NotEq) (rEqD X.K true) := by
  intro pins s σ H x y v u Q I rx ry h
  obtain ⟨da, db, ha, hb, sa, sb, q⟩ := h
  obtain ⟨as, ra⟩ := IsD.reads I da ha rx
  obtain ⟨bs, rb⟩ := IsD.reads I db hb ry
  exact PySem.SeqAt.compareNe_shaped ra rb sa sb hu ⟨.bl _, H, I, rfl, q⟩
/-! ### any, all -/
theorem bools_of : ∀ {bs : List Bool} {us : List Value}, Vals (bs.map V.bl) us → LSm.BoolsAre us bs
  | [], _, .nil => .nil
  | b :: bs, _, .cons h t => by
    cases (show _ = Value.bool b from h)
    exact .cons b (bools_of t)
theorem call_all {X : Cx} (hc : X.calm = true) : CallR X (.builtin "all") (fun xs H Q => ∃ (a : Addr) (bs : List Bool), xs = [.ref a] ∧ SqL X.K H a (bs.map V.bl) ∧ Q (.bl (bs.all id)) H) := by
  intro pins s σ H xs us Q I r h
  obtain ⟨a, bs, rfl, hS, q⟩ := h
  obtain ⟨u, rfl, ru⟩ := r.one
  cases (show u = Value.ref a from ru)
  obtain ⟨its, rv, p, _⟩ := I.list hS
  have hl := p.isList
  have hb := bools_of rv
  have hlt : a < s.heap.objs.size := by obtain ⟨_, e, _⟩ := hl; exact Heap.lt_size e
  refine call_all_walk (wpAny_pyIter_list hl ?_)
  refine ⟨s.heap.objs.size, [s.heap.objs.size, a], [s.heap.objs.size], its.toArray.size, _, _, fun i => (bs[i]?).getD true, rfl, Walks.list (A := X.A.in1) (I.ok.hd hc) _ a (Nat.ne_of_lt hlt) its.toArray,
    ⟨⟨_, Heap.get?_push_size _ rfl, rfl, rfl⟩, hl.push _⟩, fun i v s' Q' E' hP hQ => ?_, fun h' tk hk => ?_⟩
  · obtain ⟨b, e, rfl⟩ := hb.get i v (by simpa using hP)
    simp only [e, Option.getD_some] at hQ
    exact wpAny_truthy_bool hQ
  · have e : ((List.range its.toArray.size).all fun i => (bs[i]?).getD true) = bs.all id := by
      rw [List.size_toArray, hb.length]; exact LSm.range_all bs
    rw [e]
    exact ⟨.bl _, H, I.kept (LSm.kept_iter hk), rfl, q⟩
/-! ### a def with its promise, in one -/
def Pm (P : Program) (w : World) (K : PySem.W.Frag) (mg : Str → Option Value) (base : Heap) (CX : CXT) (k : Nat) (x : Str) (ps : List Str) (sp : Sp) : Prop :=
  ∃ (f : Addr) (fd : FuncData), mg x = some (.ref f) ∧ PySem.W.keepIn K (.ref f) = true ∧ Binds K fd ps [] ∧ FnOk P w K mg base CX k f fd ps sp
theorem pe_callP {X : Cx} {CX : CXT} {k : Nat} {x : Str} {ps : List Str} {sp : Sp} {E : XK} {p pos : Pos} {e : Expr} {es : List Expr} {t : TA} (h : Pm X.prog X.w X.K X.mg X.base CX k x ps sp) (hr : Room k X.A) (hg : Gl X x) (hx : Passes CX X E) (ha : PA X (e :: es) t)
    (hdb : (x == ("__debug__" : Str)) = false := by decide) (he : starEach (e :: es) X.env = (false, eval e X.env) :: starEach es X.env := by rfl) (hpl : (backTo pos (starEach es X.env)).any (·.1) = false := by rfl) :
    PE X (.Call (.Name x p) (e :: es) [] pos) (tCall sp [] E t) := by
  obtain ⟨f, fd, hm, hk, hb, F⟩ := h
  exact pe_call F hr hg hm hk hb .nil hx ha hdb he hpl
end L2
/-! EvQ: made by mkq.py. The rules over structures. -/
namespace L2
open PySem PySem.Spec PyProof.Rows
set_option autoImplicit true
set_option relaxedAutoImplicit true
structure QE (X : Cx) (e : Expr) (t : TE) : Prop where
  h : PE X e t
structure QT (X : Cx) (e : Expr) (t : TT) : Prop where
  h : PT X e t
structure QW (X : Cx) (e : Expr) (t : TT) : Prop where
  h : PW X e t
structure QA (X : Cx) (e : List Expr) (t : TA) : Prop where
  h : PA X e t
structure QS (X : Cx) (e : Stmt) (t : TS) : Prop where
  h : PS X e t
structure QSs (X : Cx) (e : List Stmt) (t : TS) : Prop where
  h : PSs X e t
structure QGs (X : Cx) (e : List Expr) (t : TGs) : Prop where
  h : PGs X e t
structure QG (X : Cx) (e : Expr) (t : TG) : Prop where
  h : PG X e t
structure QIf (X : Cx) (e : List Expr) (t : TT) : Prop where
  h : PIf X e t
structure QO (X : Cx) (e : Option Expr) (t : TO) : Prop where
  h : PO X e t
structure QI (X : Cx) (tg iter : Expr) (t : TI) : Prop where
  h : PI X tg iter t
theorem QW.pt {X : Cx} {e : Expr} {t : TT} (k : QW X e t) : QT X e t := ⟨k.h.pt⟩
theorem QE.nox {X : Cx} {e : Expr} {t : TE} (k : QE X.nox e t) : QE X e t := ⟨k.h.nox⟩
theorem qe_int {i j pos} : QE X (.Constant (.int i) j pos) (tC (.int i)) := ⟨pe_int ⟩
theorem qe_bl {b j pos} : QE X (.Constant (.bool b) j pos) (tC (.bl b)) := ⟨pe_bl ⟩
theorem qe_non {j pos} : QE X (.Constant .none j pos) (tC .non) := ⟨pe_non ⟩
theorem qe_str {x j pos} : QE X (.Constant (.str x) j pos) (tC (.str x)) := ⟨pe_str ⟩
theorem qe_glob {x : Str} {v : V} {u : Value} {pos : Pos} (hg : Gl X x) (hm : X.mg x = some u) (r : RelV v u) (hd : (x == ("__debug__" : Str)) = false := by decide) : QE X (.Name x pos) (tC v) := ⟨pe_glob (hg) (hm) (r) (hd)⟩
theorem qe_bltn {x : Str} {v : V} {u : Value} {pos : Pos} (hg : Gl X x) (hm : X.mg x = none) (hv : bootBuiltins x = some u) (r : RelV v u) (hn : x ≠ "__name__" := by decide) (hd : (x == ("__debug__" : Str)) = false := by decide) : QE X (.Name x pos) (tC v) := ⟨pe_bltn (hg) (hm) (hv) (r) (hn) (hd)⟩
theorem qt_val {e : Expr} {t : TE} (h : QE X e t) (he : ∀ whole, isTrue e X.env whole = (do let v ← whole; standAt e.pos; holding [v] (truthy v)) := by intro _; rfl) : QT X e (tB t) := ⟨pt_val h.h (he)⟩
theorem qw_and1 (ha : QT X a tA) : QW X (.BoolOp .And [a] pos) tA := ⟨pw_and1 ha.h⟩
theorem qw_or1 (ha : QT X a tA) : QW X (.BoolOp .Or [a] pos) tA := ⟨pw_or1 ha.h⟩
theorem qw_and (ha : QT X a tA) (hb : QW X (.BoolOp .And (b :: restq) pos) tB') : QW X (.BoolOp .And (a :: b :: restq) pos) (tAnd tA tB') := ⟨pw_and ha.h hb.h⟩
theorem qw_or (ha : QT X a tA) (hb : QW X (.BoolOp .Or (b :: restq) pos) tB') : QW X (.BoolOp .Or (a :: b :: restq) pos) (tOr tA tB') := ⟨pw_or ha.h hb.h⟩
theorem qt_not (ha : QT X a tA) : QT X (.UnaryOp .Not a pos) (tNot tA) := ⟨pt_not ha.h⟩
theorem qe_one {op} {t : TE} (h : QE X a t) : QE X (.BoolOp op [a] pos) t := ⟨pe_one h.h⟩
theorem qe_and (ha : QE X a ta) (hb : QE X (.BoolOp .And (b :: restq) pos) tb) : QE X (.BoolOp .And (a :: b :: restq) pos) (tAndV ta tb) := ⟨pe_and ha.h hb.h⟩
theorem qe_or (ha : QE X a ta) (hb : QE X (.BoolOp .Or (b :: restq) pos) tb) : QE X (.BoolOp .Or (a :: b :: restq) pos) (tOrV ta tb) := ⟨pe_or ha.h hb.h⟩
theorem qe_not (ha : QE X a ta) : QE X (.UnaryOp .Not a pos) (tNotV ta) := ⟨pe_not ha.h⟩
theorem qss_nil  : QSs X [] tNext := ⟨pss_nil ⟩
theorem qss_cons (h1 : QS X stq t) (h2 : QSs X restq u) : QSs X (stq :: restq) (tSeq t u) := ⟨pss_cons h1.h h2.h⟩
theorem qss_one (h1 : QS X stq t) : QSs X [stq] t := ⟨pss_one h1.h⟩
theorem qs_expr (he : QE X e te) (hs : swapsWith e none pos.line X.env = pure false := by rfl) : QS X (.Expr e pos) (tDrop te) := ⟨ps_expr he.h (hs)⟩
theorem qs_ret (he : QE X e te) : QS X (.Return (some e) pos) (tRet te) := ⟨ps_ret he.h⟩
theorem qs_if {c : Expr} {a b : List Stmt} {tc : TT} (hc : QT X c tc) (ha : QSs X a t) (hb : QSs X b u) : QS X (.If c a b pos) (tIfS tc t u) := ⟨ps_if hc.h ha.h hb.h⟩
theorem qg_name {i : Nat} {x : Str} (hN : X.N.Nodup) (hiq : X.N[i]? = some x) (hx : Loc X.env.scope x) (hf : X.fn x = true ∨ X.env.scope.names.lookup x = some .local := by first | exact .inl rfl | exact .inr rfl | assumption) : QG X (.Name x pos) (gName i) := ⟨pg_name (hN) (hiq) (hx) (hf)⟩
theorem qgs_nil  : QGs X [] gNil := ⟨pgs_nil ⟩
theorem qgs_cons {e : Expr} {es : List Expr} {t : TG} {u : TGs} (h1 : QG X e t) (h2 : QGs X es u) (hs : (assignEach (e :: es) X.env).map (·.2) = assign e X.env :: (assignEach es X.env).map (·.2) := by rfl) : QGs X (e :: es) (gCons t u) := ⟨pgs_cons h1.h h2.h (hs)⟩
theorem qg_tup {es : List Expr} {k : Nat} {t : TGs} {n : Nat} (hc : X.calm = true) (h : QGs X es t) (hn : (assignEach es X.env).length = n := by rfl) (hst : (assignEach es X.env).findIdx? (·.1) = none := by rfl) : QG X (.Tuple es k pos) (gTup X.K n t) := ⟨pg_tup (hc) h.h (hn) (hst)⟩
theorem qg_sub {o i : Expr} {to ti : TE} {t : TSet} (ho : QE X o to) (hiq : QE X i ti) (hs : PSet X t) (ha : ∀ v, assign (.Subscript o i pos) X.env v = (do
      let ov ← holding [v] (eval o X.env)
      let iv ← holding [v, ov] (eval i X.env)
      standAt pos
      holding [v, ov, iv] (setItem ov iv v)
      release [v, ov, iv] []) := by intro _; rfl) : QG X (.Subscript o i pos) (gSub to ti t) := ⟨pg_sub ho.h hiq.h (hs) (ha)⟩
theorem qs_asg {tg e : Expr} {te : TE} {g : TG} (he : QE X e te) (hg : QG X tg g) (hs : swapsWithSole [tg] e pos.line X.env = pure false := by rfl) (hw : swappedStores [tg] e X.env = pure none := by rfl) (h1 : (assignEach [tg] X.env).map (·.2) = [assign tg X.env] := by rfl) : QS X (.Assign [tg] e pos) (tAsg te g) := ⟨ps_asg he.h hg.h (hs) (hw) (h1)⟩
theorem qs_set {i : Nat} {x : Str} {e : Expr} {te : TE} {pos' : Pos} (hN : X.N.Nodup) (hiq : X.N[i]? = some x) (hx : Loc X.env.scope x) (he : QE X e te) (hs : swapsWith e (some (.Name x pos')) pos.line X.env = pure false := by rfl) (hf : X.fn x = true ∨ X.env.scope.names.lookup x = some .local := by first | exact .inl rfl | exact .inr rfl | assumption) : QS X (.Assign [.Name x pos'] e pos) (tAsg te (gName i)) := ⟨ps_set (hN) (hiq) (hx) he.h (hs) (hf)⟩
theorem qs_aug {i : Nat} {x : Str} {e : Expr} {te : TE} {op : Operator} {ti : TIp} {pos' : Pos} (hN : X.N.Nodup) (hiq : X.N[i]? = some x) (hx : Loc X.env.scope x) (he : QE X e te) (ho : PIp X op ti) (hf : X.fn x = true ∨ X.env.scope.names.lookup x = some .local := by first | exact .inl rfl | exact .inr rfl | assumption) : QS X (.AugAssign (.Name x pos') op e pos) (tAug i te ti) := ⟨ps_aug (hN) (hiq) (hx) he.h (ho) (hf)⟩
theorem qs_augS {o i e : Expr} {to ti te : TE} {tget : V → V → Hp → VK → Prop} {tip : TIp} {tset : TSet} {op : Operator} {tpos : Pos} (ho : QE X o to) (hiq : QE X i ti) (hg : PGet X tget) (he : QE X e te) (hp : PIp X op tip) (hs : PSet X tset) (ha : ∀ ov iv new, augStore i ov iv new = (do holding [new, ov, iv] (setItem ov iv new); release [new, ov, iv] []; pure .next) := by intros; rfl) : QS X (.AugAssign (.Subscript o i tpos) op e pos) (tAugS to ti te tget tip tset) := ⟨ps_augS ho.h hiq.h (hg) he.h (hp) (hs) (ha)⟩
theorem qs_while {c : Expr} {body : List Stmt} {tc : TT} {tb : TS} (hp : PassesOwn (model X.prog X.w) X.A X.env X.xe) (hc : QT X c tc) (hb : QSs X body tb) : QS X (.While c body [] pos) (tWhile tc tb) := ⟨ps_while (hp) hc.h hb.h⟩
theorem qi_list {l : Expr} {tl : TE} (hl : QE X l tl) : QI X tg l (iList X.K tl) := ⟨pi_list hl.h⟩
theorem qi_tup {l : Expr} {tl : TE} (hl : QE X l tl) : QI X tg l (iTup X.K tl) := ⟨pi_tup hl.h⟩
theorem qi_range1 {a : Expr} {ta : TA} {p pos : Pos} (hg : Gl X "range") (hm : X.mg "range" = none) (ha : QA X [a] ta) (hs : starEach [a] X.env = [(false, eval a X.env)] := by rfl) : QI X tg (.Call (.Name "range" p) [a] [] pos) (iRng1 ta) := ⟨pi_range1 (hg) (hm) ha.h (hs)⟩
theorem qi_range2 {a b : Expr} {ta : TA} {p pos : Pos} (hg : Gl X "range") (hm : X.mg "range" = none) (ha : QA X [a, b] ta) (hs : starEach [a, b] X.env = [(false, eval a X.env), (false, eval b X.env)] := by rfl) (hs2 : starEach [b] X.env = [(false, eval b X.env)] := by rfl) : QI X tg (.Call (.Name "range" p) [a, b] [] pos) (iRng2 ta) := ⟨pi_range2 (hg) (hm) ha.h (hs) (hs2)⟩
theorem qs_for {iter : Expr} {body : List Stmt} {wi : TI} {g : TG} {tb : TS} {pos : Pos} (hp : PassesOwn (model X.prog X.w) X.A X.env X.xe) (hc : X.calm = true) (hiq : QI X tg iter wi) (hg : QG X tg g) (hb : QSs X body tb) (hs : ∀ x, foldedSetIterable iter X.env x = pure x := by intro _; rfl) : QS X (.For tg iter body [] pos) (tFor wi g tb) := ⟨ps_for (hp) (hc) hiq.h hg.h hb.h (hs)⟩
theorem qe_op {op : Operator} {r : R2} (ho : OpR X (binaryOp op) r) (ha : QE X a ta) (hb : QE X b tb) : QE X (.BinOp a op b pos) (tOp r ta tb) := ⟨pe_op (ho) ha.h hb.h⟩
theorem qe_un {op : UnaryOp} {r : V → Hp → VK → Prop} (ho : UnR X (unaryOp op) r) (ha : QE X a ta) : QE X (.UnaryOp op a pos) (tUn r ta) := ⟨pe_un (ho) ha.h⟩
theorem qe_cmpR {op : CmpOp} {r : R2} (ho : OpR X (compareOp op) r) (ha : QE X a ta) (hb : QE X b tb) (hm : behindInMarks op b = false) : QE X (.Compare a [op] [b] pos) (tOp r ta tb) := ⟨pe_cmpR (ho) ha.h hb.h (hm)⟩
theorem qt_cmpR {op : CmpOp} {r : R2} (ho : OpR X (compareOp op) r) (ha : QE X a ta) (hb : QE X b tb) (hm : behindInMarks op b = false) : QT X (.Compare a [op] [b] pos) (tTest (tOp r ta tb)) := ⟨pt_cmpR (ho) ha.h hb.h (hm)⟩
theorem qe_chain {op op' : CmpOp} {r r' : R2} (ho : OpR X (compareOp op) r) (ho' : OpR X (compareOp op') r') (ha : QE X a ta) (hb : QE X b tb) (hc : QE X c tc) (hm : lastMarks [op, op'] [b, c] = false := by with_unfolding_all rfl) : QE X (.Compare a [op, op'] [b, c] pos) (tChain r r' ta tb tc) := ⟨pe_chain (ho) (ho') ha.h hb.h hc.h (hm)⟩
theorem qe_fld (he : QE X e ta) (hb : attributeBase e f X.env (eval e X.env) = eval e X.env) : QE X (.Attribute e f pos) (tFld X.K ta f) := ⟨pe_fld he.h (hb)⟩
theorem qs_fld (ha : QE X o ta) (hv : QE X value tv) (hs : swapsWith value (some (.Attribute o f pos')) pos.line X.env = pure false) : QS X (.Assign [.Attribute o f pos'] value pos) (sFld X.K ta tv f) := ⟨ps_fld ha.h hv.h (hs)⟩
theorem qa_nil  : QA X [] tNil := ⟨pa_nil ⟩
theorem qe_tup {x1} (h : QA X es t) : QE X (.Tuple es x1 pos) (tTup t) := ⟨pe_tup h.h⟩
theorem qe_lst (h : QA X es t) : QE X (.List es pos) (tLst t) := ⟨pe_lst h.h⟩
theorem qe_call (F : FnOk X.prog X.w X.K X.mg X.base CX k f fd ps sp) (hr : Room k X.A) (hg : Gl X x) (hm : X.mg x = some (.ref f)) (hk : PySem.W.keepIn X.K (.ref f) = true) (hb : Binds X.K fd ps ds) (hd : Vals dvs ds) (hx : Passes CX X E) (ha : QA X (e :: es) t) (hdb : (x == ("__debug__" : Str)) = false := by decide) (he : starEach (e :: es) X.env = (false, eval e X.env) :: starEach es X.env := by rfl) (hpl : (backTo pos (starEach es X.env)).any (·.1) = false := by rfl) : QE X (.Call (.Name x p) (e :: es) [] pos) (tCall sp dvs E t) := ⟨pe_call (F) (hr) (hg) (hm) (hk) (hb) (hd) (hx) ha.h (hdb) (he) (hpl)⟩
theorem qe_callB (hc : CallR X (.builtin idq) r) (hg : Gl X x) (hm : X.mg x = none) (hv : bootBuiltins x = some (.builtin idq)) (ha : QA X (e :: es) t) (hn : x ≠ "__name__" := by decide) (hdb : (x == ("__debug__" : Str)) = false := by decide) (he : starEach (e :: es) X.env = (false, eval e X.env) :: starEach es X.env := by rfl) (hpl : (backTo pos (starEach es X.env)).any (·.1) = false := by rfl) : QE X (.Call (.Name x p) (e :: es) [] pos) (tCB r t) := ⟨pe_callB (hc) (hg) (hm) (hv) ha.h (hn) (hdb) (he) (hpl)⟩
theorem qe_callTy (hc : CallR X (.type T) r) (hg : Gl X x) (hm : X.mg x = none) (hv : bootBuiltins x = some (.type T)) (ha : QA X (e :: es) t) (hn : x ≠ "__name__" := by decide) (hdb : (x == ("__debug__" : Str)) = false := by decide) (he : starEach (e :: es) X.env = (false, eval e X.env) :: starEach es X.env := by rfl) (hpl : (backTo pos (starEach es X.env)).any (·.1) = false := by rfl) : QE X (.Call (.Name x p) (e :: es) [] pos) (tCB r t) := ⟨pe_callTy (hc) (hg) (hm) (hv) ha.h (hn) (hdb) (he) (hpl)⟩
theorem qo_none  : QO X none tNoPart := ⟨po_none ⟩
theorem qo_some (h : QE X e te) : QO X (some e) (tPart te) := ⟨po_some h.h⟩
theorem qe_slice {r : V → Option Int → Option Int → Hp → VK → Prop} (hr : SlR X r) (he : QE X e te) (hl : QO X loq tl) (hu : QO X hiq th) : QE X (.Subscript e (.Slice loq hiq none p2) pos) (tSl r te tl th) := ⟨pe_slice (hr) he.h hl.h hu.h⟩
theorem qe_ix {r : R2} (hr : IxR X r) (ha : QE X a ta) (hb : QE X b tb) (hs : PlainIx b) : QE X (.Subscript a b pos) (tOp r ta tb) := ⟨pe_ix (hr) ha.h hb.h (hs)⟩
theorem qe_bm0 (pa : PlainAttrs T) (slot : Slot T nameq idq) (hty : typeOf (.builtin idq) = pure (.type "method_descriptor")) (hm : MtR X idq r) (ho : QE X o to) (hbase : attributeBase o nameq X.env (eval o X.env) = eval o X.env := by rfl) (hline : (apos.endLine == cpos.line) = true := by rfl) : QE X (.Call (.Attribute o nameq apos) [] [] cpos) (tBM0 X.K T r to) := ⟨pe_bm0 (pa) (slot) (hty) (hm) ho.h (hbase) (hline)⟩
theorem qe_bm (pa : PlainAttrs T) (slot : Slot T nameq idq) (hty : typeOf (.builtin idq) = pure (.type "method_descriptor")) (hm : MtR X idq r) (ho : QE X o to) (ha : QA X (e :: es) t) (hbase : attributeBase o nameq X.env (eval o X.env) = eval o X.env := by rfl) (hfew : ((backTo cpos (starEach (e :: es) X.env)).all (fun x => !x.1) && (backToKw cpos (keywordEach [] X.env)).all (fun x => x.1.isSome)
      && decide ((e :: es).length + ([] : List Keyword).length + (if ([] : List Keyword).isEmpty then 0 else 1) < 30)) = true := by rfl) (hline : (apos.endLine == cpos.line) = true := by rfl) (hs : starEach (e :: es) X.env = (false, eval e X.env) :: starEach es X.env := by rfl) (hplain : (backTo cpos (starEach es X.env)).any (·.1) = false := by rfl) : QE X (.Call (.Attribute o nameq apos) (e :: es) [] cpos) (tBM X.K T r to t) := ⟨pe_bm (pa) (slot) (hty) (hm) ho.h ha.h (hbase) (hfew) (hline) (hs) (hplain)⟩
theorem qv (i : Nat) {x : Str} {pos : Pos} (hN : X.N[i]? = some x := by rfl) (hv : Vis X.env.scope x := by first | exact Or.inl rfl | exact Or.inr (Or.inl rfl) | exact Or.inr (Or.inr rfl)) (hd : (x == ("__debug__" : Str)) = false := by decide) (hcd : (x == ("__classdict__" : Str)) = false := by decide) : QE X (.Name x pos) (tVar i) := ⟨pv (i) (hN) (hv) (hd) (hcd)⟩
theorem qif_nil {X : Cx} : QIf X [] tYes := ⟨pif_nil ⟩
theorem qif_one {X : Cx} {c : Expr} {t : TT} (h : QT X c t) : QIf X [c] t := ⟨pif_one h.h⟩
theorem qe_callP {X : Cx} {CX : CXT} {k : Nat} {x : Str} {ps : List Str} {sp : Sp} {E : XK} {p pos : Pos} {e : Expr} {es : List Expr} {t : TA} (h : Pm X.prog X.w X.K X.mg X.base CX k x ps sp) (hr : Room k X.A) (hg : Gl X x) (hx : Passes CX X E) (ha : QA X (e :: es) t) (hdb : (x == ("__debug__" : Str)) = false := by decide) (he : starEach (e :: es) X.env = (false, eval e X.env) :: starEach es X.env := by rfl) (hpl : (backTo pos (starEach es X.env)).any (·.1) = false := by rfl) : QE X (.Call (.Name x p) (e :: es) [] pos) (tCall sp [] E t) := ⟨pe_callP (h) (hr) (hg) (hx) ha.h (hdb) (he) (hpl)⟩
/-- an argument, by a test that is small -/
def notStar : Expr → Bool
  | .Starred .. => false
  | _ => true
theorem starEach_cons {e : Expr} {es : List Expr} {env : Env} (h : notStar e = true) : starEach (e :: es) env = (false, eval e env) :: starEach es env := by
  cases e <;> first | rfl | cases h
theorem qac {X : Cx} {e : Expr} {es : List Expr} {te : TE} {t : TA} (ha : QE X e te) (hr : QA X es t) (hs : notStar e = true := by rfl) : QA X (e :: es) (tCons te t) := ⟨pa_cons ha.h hr.h (starEach_cons hs)⟩
theorem qe_comp {X : Cx} {elt tg iter : Expr} {ifs : List Expr} {scope : Scope} {pos : Pos} {N : List Str} {src : List (Option Nat)} {wi : TI} {g : TG} {tc : TT} {te : TE} (hc : X.calm = true) (S : CompScope X scope N src) (hi : QI X tg iter wi)
    (hg : ∀ s H cl C fp, QG (cxC X s H scope cl C N fp) tg g) (hf : ∀ s H cl C fp, QIf (cxC X s H scope cl C N fp) ifs tc) (he : ∀ s H cl C fp, QE (cxC X s H scope cl C N fp) elt te)
    (hs : ∀ x, foldedSetIterable iter X.env x = pure x := by intro _; rfl) : QE X (.ListComp elt [⟨tg, iter, ifs, 0⟩] scope pos) (tComp src wi g tc te) :=
  ⟨pe_comp hc S hi.h (fun s H cl C fp => (hg s H cl C fp).h) (fun s H cl C fp => (hf s H cl C fp).h) (fun s H cl C fp => (he s H cl C fp).h) hs⟩
theorem qss_never {X : Cx} {sts : List Stmt} : QSs X sts tNever := ⟨pss_never⟩
/-! ### defs -/
section
variable {P : Program} {w : World} {K : PySem.W.Frag} {mg : Str → Option Value} {base : Heap} {x qual : Str} {st : Stmt} {f : Addr} {fd : FuncData} {N ps : List Str} {k : Nat} {sp : Sp}
theorem Fun.okQ (F : Fun K x qual st f fd) (S : FnScope N ps (defScope st)) (len : ∀ vs H Q E, sp vs H Q E → vs.length = ps.length)
    (hbody : ∀ (cdv : Value) (A : Around) (outer : List Env) (s : Shared) (H : Hp) (vs : List V) (Q : VK) (E : XK), Room k (A.deeper (envOfC qual (defScope st) s.heap.objs.size f cdv)) → sp vs H Q E →
      ∃ t, QSs (cxOf CX0 P w K mg base N qual (defScope st) f cdv A outer s H E).nox (defBody st) t ∧ t { nx := fun _ H' => Q .non H', rt := Q } (start N vs) H) : FnOk P w K mg base CX0 (k + 1) f fd ps sp :=
  F.ok S len fun cdv A outer s H vs Q E hr h => let ⟨t, a, b⟩ := hbody cdv A outer s H vs Q E hr h; ⟨t, a.h, b⟩
end

end L2
/-! EvRange: range with a step. Behind EvQ. -/
namespace L2
open PySem PySem.Spec PyProof.Rows
section
variable {X : Cx} {tg : Expr}
end
theorem comp_rng {lo : Int} {n : Nat} {g : TG} {tc : TT} {te : TE} {σ' : St} {H : Hp} {G : Addr → Hp → List V → Prop} (Pv : Nat → List V → Hp → Prop) (h0 : Pv 0 [] H)
    (hs : ∀ i ys H (N : List V → Hp → Prop), i < n → Pv i ys H → (∀ ys' H', Pv (i + 1) ys' H' → N ys' H') → g (.int (lo + i)) σ' H fun σ2 H4 => Weak σ' σ2 ∧ tc σ2 H4 fun b H5 => if b = true then te σ2 H5 fun y H6 => ys.length < sizeLine ∧ N (ys ++ [y]) H6 else N ys H5)
    (hd : ∀ ys H, Pv n ys H → ys.length ≤ sizeLine ∧ ∀ p, H p = none → G p H ys) :
    ∃ W : Nat → Nat → List V → Hp → Prop, (∃ m, W 0 m [] H) ∧ ∀ i m ys H2, W i m ys H2 →
      ((Itr lo n).stop i H2 ∧ ys.length ≤ sizeLine ∧ ∀ p, H2 p = none → G p H2 ys) ∨
      ((Itr lo n).go i H2 ∧ ∀ x H3, (Itr lo n).yld i H2 x H3 → g x σ' H3 fun σ2 H4 => Weak σ' σ2 ∧ tc σ2 H4 fun b H5 =>
        if b = true then te σ2 H5 fun y H6 => ys.length < sizeLine ∧ ∃ m', m' < m ∧ W (i + 1) m' (ys ++ [y]) H6 else ∃ m', m' < m ∧ W (i + 1) m' ys H5) := by
  refine ⟨fun i m ys H => m = n - i ∧ i ≤ n ∧ Pv i ys H, ⟨n, rfl, Nat.zero_le _, h0⟩, ?_⟩
  rintro i m ys H2 ⟨rfl, hi, p⟩
  by_cases hlt : i < n
  · refine .inr ⟨hlt, fun x H' y => ?_⟩
    obtain ⟨e, rfl⟩ := y
    subst e
    exact hs i ys _ (fun ys' H'' => ∃ m', m' < n - i ∧ m' = n - (i + 1) ∧ i + 1 ≤ n ∧ Pv (i + 1) ys' H'') hlt p (fun ys' H'' p' => ⟨_, by omega, rfl, hlt, p'⟩)
  · have e : i = n := by omega
    subst e
    exact .inl ⟨Nat.le_refl _, hd ys H2 p⟩
end L2
/-! EvMath: the mathematics of primes, by naturals; core alone. -/
namespace EM
def IsPr (p : Nat) : Prop := 2 ≤ p ∧ ∀ d, d ∣ p → d = 1 ∨ d = p
theorem IsPr.dvd_pr {p q : Nat} (hp : IsPr p) (hq : IsPr q) (h : p ∣ q) : p = q := by
  rcases hq.2 p h with h | h
  · have := hp.1; omega
  · exact h
/-- the least divisor is a prime -/
theorem pr_of_least {p n : Nat} (h2 : 2 ≤ p) (hd : p ∣ n) (hl : ∀ d, 2 ≤ d → d < p → ¬ d ∣ n) (_ : 1 ≤ n) : IsPr p := by
  refine ⟨h2, fun d hdp => ?_⟩
  have hle := Nat.le_of_dvd (by omega) hdp
  rcases Nat.lt_or_ge d 2 with h | h
  · have : d ≠ 0 := fun z => by
      subst z
      have := Nat.eq_zero_of_zero_dvd hdp
      omega
    exact .inl (by omega)
  · rcases Nat.lt_or_ge d p with h' | h'
    · exact absurd (Nat.dvd_trans hdp hd) (hl d h h')
    · exact .inr (by omega)
theorem pr_of_end {p n : Nat} (hn : 2 ≤ n) (hl : ∀ d, 2 ≤ d → d < p → ¬ d ∣ n) (hp : n < p * p) : IsPr n := by
  refine ⟨hn, fun d hd => ?_⟩
  have hle := Nat.le_of_dvd (by omega) hd
  obtain ⟨c, rfl⟩ := hd
  have d0 : d ≠ 0 := fun z => by subst z; simp at hn
  have c0 : c ≠ 0 := fun z => by subst z; simp at hn
  by_cases hd1 : d = 1
  · exact .inl hd1
  by_cases hc1 : c = 1
  · exact .inr (by rw [hc1, Nat.mul_one])
  exfalso
  have h1 : p ≤ d := Nat.le_of_not_lt fun z => hl d (by omega) z ⟨c, rfl⟩
  have h2 : p ≤ c := Nat.le_of_not_lt fun z => hl c (by omega) z ⟨d, Nat.mul_comm d c⟩
  have := Nat.mul_le_mul h1 h2
  omega
/-! ### lists of primes with how often -/
def prodL : List (Nat × Nat) → Nat
  | [] => 1
  | x :: r => x.1 ^ x.2 * prodL r
theorem prodL_append : ∀ (a b : List (Nat × Nat)), prodL (a ++ b) = prodL a * prodL b
  | [], b => by simp [prodL]
  | x :: r, b => by simp only [List.cons_append, prodL, prodL_append r b, Nat.mul_assoc]
structure Fac (n : Nat) (L : List (Nat × Nat)) : Prop where
  pr : ∀ x ∈ L, IsPr x.1 ∧ 1 ≤ x.2
  asc : L.Pairwise fun x y => x.1 < y.1
  prod : prodL L = n
/-- between two turns of the loop -/
structure FacTo (n p left : Nat) (L : List (Nat × Nat)) : Prop where
  pr : ∀ x ∈ L, IsPr x.1 ∧ 1 ≤ x.2 ∧ x.1 < p
  asc : L.Pairwise fun x y => x.1 < y.1
  prod : prodL L * left = n
  two : 2 ≤ p
  pos : 1 ≤ left
  no : ∀ d, 2 ≤ d → d < p → ¬ d ∣ left
theorem FacTo.start {n : Nat} (h : 1 ≤ n) : FacTo n 2 n [] := ⟨nofun, .nil, by simp [prodL], by omega, h, fun d h1 h2 => by omega⟩
theorem asc_snoc {L : List (Nat × Nat)} {x : Nat × Nat} (h : L.Pairwise fun x y => x.1 < y.1) (hx : ∀ y ∈ L, y.1 < x.1) : (L ++ [x]).Pairwise fun x y => x.1 < y.1 :=
  List.pairwise_append.mpr ⟨h, List.pairwise_singleton _ _, fun a ha b hb => by rw [List.mem_singleton.mp hb]; exact hx a ha⟩
/-- the inner loop: left0 = left * p ^ often, and p divides left no more -/
theorem FacTo.some {n p left left0 often : Nat} {L : List (Nat × Nat)} (F : FacTo n p left0 L) (e : left0 = left * p ^ often) (ho : 1 ≤ often) (hnd : ¬ p ∣ left) : FacTo n (p + 1) left (L ++ [(p, often)]) := by
  have hpos : 1 ≤ left := by
    rcases Nat.eq_zero_or_pos left with h | h
    · subst h; have := F.pos; simp at e; omega
    · exact h
  have hpd : p ∣ left0 := by
    rw [e]
    obtain ⟨k, rfl⟩ : ∃ k, often = k + 1 := ⟨often - 1, by omega⟩
    rw [Nat.pow_succ, ← Nat.mul_assoc]
    exact Nat.dvd_mul_left _ _
  refine ⟨fun x hx => ?_, asc_snoc F.asc fun y hy => (F.pr y hy).2.2, ?_, by have := F.two; omega, hpos, fun d h2 hlt hd => ?_⟩
  · rcases List.mem_append.mp hx with h | h
    · obtain ⟨a, b, c⟩ := F.pr x h
      exact ⟨a, b, by omega⟩
    · rw [List.mem_singleton.mp h]
      exact ⟨pr_of_least F.two hpd F.no F.pos, ho, by show p < p + 1; omega⟩
  · rw [prodL_append, ← F.prod, e]
    show prodL L * (p ^ often * 1) * left = _
    rw [Nat.mul_one, Nat.mul_assoc, Nat.mul_comm (p ^ often) left]
  · rcases Nat.lt_or_ge d p with h | h
    · exact F.no d h2 h (e ▸ Nat.dvd_trans hd (Nat.dvd_mul_right _ _))
    · have : d = p := by omega
      subst this; exact hnd hd
theorem FacTo.none {n p left : Nat} {L : List (Nat × Nat)} (F : FacTo n p left L) (hnd : ¬ p ∣ left) : FacTo n (p + 1) left L :=
  ⟨fun x hx => let ⟨a, b, c⟩ := F.pr x hx; ⟨a, b, by omega⟩, F.asc, F.prod, by have := F.two; omega, F.pos, fun d h2 hlt hd => by
    rcases Nat.lt_or_ge d p with h | h
    · exact F.no d h2 h hd
    · have : d = p := by omega
      subst this; exact hnd hd⟩
theorem FacTo.last {n p left : Nat} {L : List (Nat × Nat)} (F : FacTo n p left L) (hp : left < p * p) (h1 : 1 < left) : Fac n (L ++ [(left, 1)]) := by
  have hpl : p ≤ left := Nat.le_of_not_lt fun z => F.no left h1 z (Nat.dvd_refl _)
  refine ⟨fun x hx => ?_, asc_snoc F.asc fun y hy => Nat.lt_of_lt_of_le (F.pr y hy).2.2 hpl, ?_⟩
  · rcases List.mem_append.mp hx with h | h
    · obtain ⟨a, b, _⟩ := F.pr x h
      exact ⟨a, b⟩
    · rw [List.mem_singleton.mp h]
      exact ⟨pr_of_end h1 F.no hp, Nat.le_refl 1⟩
  · rw [prodL_append, ← F.prod]
    show prodL L * (left ^ 1 * 1) = _
    rw [Nat.pow_one, Nat.mul_one]
theorem FacTo.done {n p left : Nat} {L : List (Nat × Nat)} (F : FacTo n p left L) (h1 : ¬ 1 < left) : Fac n L := by
  refine ⟨fun x hx => let ⟨a, b, _⟩ := F.pr x hx; ⟨a, b⟩, F.asc, ?_⟩
  have := F.pos
  have e : left = 1 := by omega
  rw [← F.prod, e, Nat.mul_one]
theorem prodL_pos : ∀ {L : List (Nat × Nat)}, (∀ x ∈ L, IsPr x.1 ∧ 1 ≤ x.2) → 1 ≤ prodL L
  | [], _ => Nat.le_refl 1
  | x :: r, h => by
    have h1 := (h x (List.mem_cons_self ..)).1.1
    have h2 := prodL_pos fun y hy => h y (List.mem_cons_of_mem _ hy)
    exact Nat.mul_pos (Nat.pow_pos (by omega)) h2
theorem mem_dvd : ∀ {L : List (Nat × Nat)} {x : Nat × Nat}, x ∈ L → x.1 ^ x.2 ∣ prodL L
  | y :: r, x, h => by
    rcases List.mem_cons.mp h with h | h
    · subst h; exact Nat.dvd_mul_right _ _
    · exact Nat.dvd_trans (mem_dvd h) (Nat.dvd_mul_left _ _)
theorem len_le : ∀ {L : List (Nat × Nat)}, (∀ x ∈ L, IsPr x.1 ∧ 1 ≤ x.2) → 2 ^ L.length ≤ prodL L
  | [], _ => Nat.le_refl 1
  | x :: r, h => by
    have h1 := (h x (List.mem_cons_self ..)).1.1
    have h3 := (h x (List.mem_cons_self ..)).2
    have h2 := len_le fun y hy => h y (List.mem_cons_of_mem _ hy)
    have h4 := Nat.le_self_pow (n := x.2) (by omega) x.1
    rw [List.length_cons, Nat.pow_succ, Nat.mul_comm]
    exact Nat.mul_le_mul (Nat.le_trans h1 h4) h2
theorem FacTo.short {n p left : Nat} {L : List (Nat × Nat)} (F : FacTo n p left L) (hn : n < 2 ^ 60) : L.length < 60 := by
  have h1 := len_le fun x hx => let ⟨a, b, _⟩ := F.pr x hx; ⟨a, b⟩
  have h2 : prodL L ≤ n := F.prod ▸ Nat.le_mul_of_pos_right _ F.pos
  refine Nat.lt_of_not_le fun z => ?_
  have := Nat.pow_le_pow_right (n := 2) (by decide) z
  omega
theorem FacTo.le {n p left : Nat} {L : List (Nat × Nat)} (F : FacTo n p left L) : left ≤ n := by
  have h2 := prodL_pos fun x hx => let ⟨a, b, _⟩ := F.pr x hx; ⟨a, b⟩
  exact F.prod ▸ Nat.le_mul_of_pos_left _ h2
theorem root_lt {p n : Nat} (h : p * p ≤ n) (hn : n < 2 ^ 60) : p < 2 ^ 30 := by
  refine Nat.lt_of_not_le fun z => ?_
  have := Nat.mul_le_mul z z
  omega
theorem two_le_self {p n : Nat} (h2 : 2 ≤ p) (h : p * p ≤ n) : 2 * p ≤ n := Nat.le_trans (Nat.mul_le_mul_right p h2) h
/-! ### plain parts -/
/-! ### roots -/
theorem Fac.of_pr {p : Nat} {L : List (Nat × Nat)} (F : Fac p L) (hp : IsPr p) : L = [(p, 1)] := by
  have h2 := hp.1
  match L, F with
  | [], F =>
    have e := F.prod
    simp only [prodL] at e
    omega
  | x :: r, F =>
    obtain ⟨q1, q2⟩ := F.pr x (List.mem_cons_self ..)
    have hd := mem_dvd (List.mem_cons_self (a := x) (l := r))
    rw [F.prod] at hd
    have hx : x.1 ∣ p := by
      obtain ⟨k, hk⟩ : ∃ k, x.2 = k + 1 := ⟨x.2 - 1, by omega⟩
      rw [hk, Nat.pow_succ] at hd
      exact Nat.dvd_trans (Nat.dvd_mul_left _ _) hd
    have hxp : x.1 = p := q1.dvd_pr hp hx
    have hrp := prodL_pos fun y hy => F.pr y (List.mem_cons_of_mem _ hy)
    have e := F.prod
    simp only [prodL, hxp] at e
    have h1 : p ^ x.2 ≤ p := by
      have := Nat.le_mul_of_pos_right (p ^ x.2) hrp
      omega
    have hx2 : x.2 = 1 := by
      rcases Nat.lt_or_ge x.2 2 with z | z
      · omega
      · have h3 := Nat.pow_le_pow_right (n := p) (by omega) z
        have h4 := Nat.mul_le_mul_right p h2
        rw [Nat.pow_two] at h3
        omega
    rw [hx2, Nat.pow_one] at e
    have hr1 : prodL r = 1 := by
      have h5 : p * prodL r = p * 1 := by omega
      exact Nat.eq_of_mul_eq_mul_left (by omega) h5
    have hr : r = [] := by
      match r, F, hr1 with
      | [], _, _ => rfl
      | y :: r', F, hr1 =>
        have h6 := len_le fun z hz => F.pr z (List.mem_cons_of_mem _ hz)
        rw [hr1, List.length_cons, Nat.pow_succ] at h6
        have := Nat.pow_pos (n := r'.length) (show 0 < 2 by decide)
        omega
    rw [hr]
    have : x = (p, 1) := by
      rw [← hxp, ← hx2]
    rw [this]
theorem Fac.pr_of {p : Nat} (F : Fac p [(p, 1)]) : IsPr p := (F.pr _ (List.mem_cons_self ..)).1
end EM
/-! EvEuler: Fermat and Euler for a prime, by naturals and ints; core alone. Behind EvMath. -/
namespace EM
/-! ### lists without repeats -/
/-! ### roots of a sum of powers, the highest one once -/
/-! ### Euler -/
/-! ### rests of squares -/
/-! ### powers by squaring -/
/-! ### small primes by looking -/
/-! ### plain parts are told in one way -/
/-! ### what shuts a form -/
/-! ### the plain part by looking -/
/-! ### odd primes by looking -/
end EM
/-! EvBase: what every row of stage 1 shares; no row is named here. Behind EvTry, EvMath. -/
namespace E1
open PySem L2
/-! ### whole numbers by their kinds -/
inductive WholeIs (K : PySem.W.Frag) (H : Hp) : V → Bool → Prop where
  | int (i : Int) : WholeIs K H (.int i) true
  | bl (x : Bool) : WholeIs K H (.bl x) false
  | odd {v : V} {T : String} (ty : TyOf K H v (.type T)) (k : PySem.W.kitOne K (.type T) (.type "int") = some false) : WholeIs K H v false
section
variable (K : PySem.W.Frag)
theorem kit_int_int : PySem.W.kitOne K (.type "int") (.type "int") = some true := by kernel_rfl
theorem kit_int_bool : PySem.W.kitOne K (.type "int") (.type "bool") = some false := by kernel_rfl
theorem kit_bool_int : PySem.W.kitOne K (.type "bool") (.type "int") = some true := by kernel_rfl
theorem kit_bool_bool : PySem.W.kitOne K (.type "bool") (.type "bool") = some true := by kernel_rfl
end
theorem rel_ty {n : String} {K : PySem.W.Frag} {t : Value} {b : Bool} (h : PySem.W.kitOne K t (.type n) = some b) : ∀ u, RelV (.ty n) u → PySem.W.kitOne K t u = some b := fun u r => by
  cases (show u = Value.type n from r)
  exact h
/-! ### the promises -/
def spWhole (K : PySem.W.Frag) : Sp := fun vs H Q _ => ∃ v b, vs = [v] ∧ WholeIs K H v b ∧ Q (.bl b) H
theorem same_new {q : Addr} {H : Hp} {o : HO} (n : H q = none) : Same H (upd H q o) := fun b u h => by rw [upd_ne (ne_of_none h n)]; exact h
theorem abs_nn (i : Int) : 0 ≤ (if i < 0 then -i else i) := by split <;> omega
theorem cut_ints {ns : List Int} {lo hi : Option Int} : ∀ x ∈ cutV (ns.map V.int) lo hi, ∃ z, x = V.int z := fun x hx => by
  unfold cutV at hx
  obtain ⟨z, _, e⟩ := List.mem_map.mp (List.mem_of_mem_drop (List.mem_of_mem_take hx))
  exact ⟨z, e.symm⟩
/-! ### primes as tuples in a list -/
def TupsAt (H : Hp) : List V → List (Nat × Nat) → Prop
  | [], [] => True
  | v :: vs, x :: xs => (∃ t, v = .ref t ∧ H t = some (.tup [.int (x.1 : Nat), .int (x.2 : Nat)])) ∧ TupsAt H vs xs
  | _, _ => False
theorem TupsAt.imp {H H' : Hp} (h : ∀ t xs, H t = some (.tup xs) → H' t = some (.tup xs)) : ∀ {ws : List V} {L : List (Nat × Nat)}, TupsAt H ws L → TupsAt H' ws L
  | [], [], _ => trivial
  | v :: vs, x :: xs, ⟨⟨t, e, q⟩, r⟩ => ⟨⟨t, e, h _ _ q⟩, r.imp h⟩
theorem TupsAt.same {H H' : Hp} (s : Same H H') {ws : List V} {L : List (Nat × Nat)} (h : TupsAt H ws L) : TupsAt H' ws L := h.imp fun t xs q => s _ _ q
theorem TupsAt.upd {H : Hp} {l : Addr} {o : HO} {ys : List V} (hl : H l = some (.lst ys)) {ws : List V} {L : List (Nat × Nat)} (h : TupsAt H ws L) : TupsAt (upd H l o) ws L :=
  h.imp fun t xs q => by rw [upd_ne (ne_of q hl (by intro z; cases z))]; exact q
theorem TupsAt.snoc {H : Hp} {t : Addr} {x : Nat × Nat} (e : H t = some (.tup [.int (x.1 : Nat), .int (x.2 : Nat)])) : ∀ {ws : List V} {L : List (Nat × Nat)}, TupsAt H ws L → TupsAt H (ws ++ [.ref t]) (L ++ [x])
  | [], [], _ => ⟨⟨t, rfl, e⟩, trivial⟩
  | v :: vs, y :: ys, ⟨a, r⟩ => ⟨a, r.snoc e⟩
theorem TupsAt.len {H : Hp} : ∀ {ws : List V} {L : List (Nat × Nat)}, TupsAt H ws L → ws.length = L.length
  | [], [], _ => rfl
  | v :: vs, y :: ys, ⟨_, r⟩ => by rw [List.length_cons, List.length_cons, r.len]
theorem same_upd {H H' : Hp} {l : Addr} {o : HO} (s : Same H H') (hl : H l = none) : Same H (upd H' l o) := fun b u e => by
  rw [upd_ne (ne_of_none e hl)]
  exact s _ _ e
/-! ### primes as data -/
def ptup (x : Nat × Nat) : PyData := .tuple [.int (x.1 : Nat), .int (x.2 : Nat)]
theorem tups_isD {K : PySem.W.Frag} {H : Hp} : ∀ {ws : List V} {L : List (Nat × Nat)}, TupsAt H ws L → IsDs K H (L.map ptup) ws
  | [], [], _ => by simp only [List.map_nil, IsDs]
  | v :: vs, x :: xs, ⟨⟨t, e, q⟩, r⟩ => by
    simp only [List.map_cons, IsDs]
    refine ⟨v, vs, rfl, ?_, tups_isD r⟩
    simp only [ptup, IsD]
    exact ⟨t, _, e, SqT.of q, by simp [IsDs, IsD]⟩
theorem eqv_ptups : ∀ (L M : List (Nat × Nat)), PyData.eqvAll (L.map ptup) (M.map ptup) = decide (L = M)
  | [], [] => by simp [PyData.eqvAll]
  | [], m :: M => by simp [PyData.eqvAll]
  | x :: L, [] => by simp [PyData.eqvAll]
  | (a, b) :: L, (c, d) :: M => by
    have h1 : ((a : Int) == (c : Int)) = decide (a = c) := by
      rw [Bool.eq_iff_iff]; simp; omega
    have h2 : ((b : Int) == (d : Int)) = decide (b = d) := by
      rw [Bool.eq_iff_iff]; simp; omega
    simp only [List.map_cons, PyData.eqvAll, ptup, PyData.eqv, eqv_ptups L M, h1, h2, Bool.and_true]
    rw [Bool.eq_iff_iff]
    simp [and_assoc]
theorem lay_ptups : ∀ L : List (Nat × Nat), PyData.canLayAll0 (L.map ptup) = true
  | [] => by simp [PyData.canLayAll0]
  | x :: L => by simp [PyData.canLayAll0, ptup, PyData.canLay0, lay_ptups L]
theorem depth_ptups : ∀ L : List (Nat × Nat), PyData.depthAll (L.map ptup) ≤ 1
  | [] => by simp [PyData.depthAll]
  | x :: L => by
    have := depth_ptups L
    simp [PyData.depthAll, ptup, PyData.depth]
    omega
theorem shaped_ptups (L : List (Nat × Nat)) : PySem.SeqAt.shaped (.list (L.map ptup)) = true := by
  unfold PySem.SeqAt.shaped
  rw [Bool.and_eq_true]
  refine ⟨by simp only [PyData.canLay0]; exact lay_ptups L, decide_eq_true ?_⟩
  have := depth_ptups L
  simp only [PyData.depth]
  omega
def spIsPrime : Sp := fun vs H Q _ => ∃ i : Int, vs = [.int i] ∧ i < 2 ^ 60 ∧ ∀ (b : Bool) (H' : Hp), Same H H' → (b = true ↔ ∃ p : Nat, i = (p : Int) ∧ EM.IsPr p) → Q (.bl b) H'
/-! ### forms -/
theorem kit_tup_tup (K : PySem.W.Frag) : PySem.W.kitOne K (.type "tuple") (.type "tuple") = some true := by kernel_rfl

/-! ### a law's loop over its cells -/
theorem fn_mk {K : PySem.W.Frag} {x : Str} {st : Stmt} {f : Addr} {oc : Value} {od an : Option Addr} {osl : Array (Option Value)} {kV doc pm cdv ct : Value}
    (a : PySem.W.nsIn K mainGlobals x = some (some (.ref f)))
    (l : K.lookup f = some ⟨oc, od, .func (PySem.W.fnOf x x (defArgs st) (defBody st) (defScope st) .none kV doc pm an cdv ct), osl⟩)
    (c : PySem.W.codeIn K cdv x = true) (k : PySem.W.keepIn K (.ref f) = true) :
    ∃ (f : Addr) (fd : FuncData), PySem.W.nsIn K mainGlobals x = some (some (.ref f)) ∧ Fun K x x st f fd := ⟨f, _, a, fun_mk l c k⟩
abbrev At (K : PySem.W.Frag) (x : Str) (st : Stmt) : Prop := ∃ (f : Addr) (fd : FuncData), PySem.W.nsIn K mainGlobals x = some (some (.ref f)) ∧ Fun K x x st f fd

end E1
/-! EvLay: rules for sorted numbers, sets of numbers, lists taken so often, turned about, made of a range. Behind EvRange. -/
namespace L2
open PySem PySem.Spec PyProof.Rows
/-- list * number -/
def rMulL (K : PySem.W.Frag) : R2 := fun x y H Q => ∃ (a : Addr) (xs : List V) (n : Int), x = .ref a ∧ y = .int n ∧ SqL K H a xs ∧ n < 2 ^ 63 ∧ 0 ≤ n ∧ xs.length * n.toNat ≤ 65536 ∧ ∀ l, H l = none → Q (.ref l) (upd H l (.lst (List.replicate n.toNat xs).flatten))
theorem vals_flat {xs : List V} {us : List Value} (r : Vals xs us) : ∀ n, Vals (List.replicate n xs).flatten (List.replicate n us).flatten
  | 0 => .nil
  | n + 1 => by
    rw [List.replicate_succ, List.replicate_succ, List.flatten_cons, List.flatten_cons]
    exact r.append (vals_flat r n)
theorem op_mulL {X : Cx} : OpR X (binaryOp .Mult) (rMulL X.K) := by
  intro pins s σ H x y v u Q I rx ry h
  obtain ⟨a, xs, n, rfl, rfl, hx, hn, h0, hsz, q⟩ := h
  cases rx
  obtain ⟨tk, rfl⟩ := ry
  obtain ⟨its, r, pl, hz⟩ := I.list hx
  have hlen := r.length
  obtain ⟨⟨oc, od, odt, osl⟩, k, hl, e1, e2, e3⟩ := pl
  dsimp only at e1 e2 e3
  subst e1 e2 e3
  refine wpAny_binaryOp_repeat_ref (T := "list") (U := "int") (by decide) ⟨_, hl, rfl⟩ (fun s' => typeIs_int s' n tk) noFill_list_mul F.fills_int_mul F.slot_int_rmul repeat_list F.slot_int_index.lookup
    (call_meets F.slot_int_rmul (typeIs_int s n tk) F.entry_int_rmul (F.args_int_rmul_2 _ _) (lm_int_rmul_list_any n tk a its.toArray k _ _)
      ⟨hl, rfl, ⟨_, hl, rfl⟩, call_meets F.slot_list_mul ⟨_, hl, rfl⟩ F.entry_list_mul (F.args_list_mul_2 _ _)
        (lm_list_mul_any a its.toArray k _ _ n tk (by simp [Builtin.List.listFitsIndex]; omega) (by rw [List.size_toArray, ← hlen]; omega) (by rw [List.size_toArray, ← hlen]; simp [Builtin.List.listTooLong, sizeLine]; omega))
        ⟨hl, ?_⟩⟩)
  rw [listMul_foldl_if, List.toList_toArray]
  refine ⟨.ref s.heap.objs.size, _, I.laid (t' := s.toks) (o := .lst (List.replicate n.toNat xs).flatten) (fun b ob q => Heap.get?_push_of_some _ q) (Nat.le_refl _) ?_, rfl, q _ (I.hok.fresh (Nat.le_refl _))⟩
  refine ⟨?_, (List.replicate n.toNat its).flatten, 0, vals_flat r _, Heap.get?_push_size _ rfl⟩
  rw [List.length_flatten, List.map_replicate, List.sum_replicate_nat, Nat.mul_comm]
  exact Nat.le_trans hsz (by decide)
/-! ### enumerate(list) -/
theorem Inv.turnedL {X : Cx} {pins : List (Addr × Obj)} {σ : St} {H : Hp} {s : Shared} {h' : Heap} {t' : Nat} {wr : List Addr} (I : Inv X pins σ H s) (k : ∀ b o, b ∉ wr → s.heap.get? b = some o → h'.get? b = some o) (hf : ∀ b ∈ wr, FpOk X pins H b) : Inv X pins σ H { s with heap := h', toks := t' } := by
  have nit : ∀ b u, H b = some u → b ∉ wr := fun b u e z => by rw [(hf b z).1] at e; cases e
  refine I.step (g' := s.gens) (d' := s.drawn) (ch := wr) (fun b hb => ?_) (fun b o _ _ hc e _ => k b o hc e) (fun b o _ _ hc e _ => ⟨o.slots, k b o hc e⟩) (fun _ _ _ _ n => n) (fun b o hc e => ⟨o, k b o hc e⟩) (fun _ _ e => e) (fun _ _ _ e => e) (fun b ps e => ⟨#[], by rw [e]; simp⟩) (fun m hm => ?_) (fun b u e => ?_) I.bare
  · obtain ⟨_, f1, _, f3, f4, f5⟩ := hf b hb
    exact ⟨f3, f1, f4, f5⟩
  · obtain ⟨o, es, ep, ho, r⟩ := hm
    exact ⟨o, es, ep, k _ o (fun z => (hf _ z).2.1 rfl) ho, r⟩
  · refine (I.hok b u e).stay (fun c v hc q => k c v ?_ q) (fun _ q => q) fun _ _ q => q
    rcases hc with z | z
    · exact z ▸ nit b u e
    · exact nit c _ z
theorem Inv.tracked {X : Cx} {pins : List (Addr × Obj)} {σ : St} {H : Hp} {s s' : Shared} {T : Addr} {o : HO} (I0 : Inv X pins σ H s) (I : Inv X pins σ H s') (hT : s.heap.objs.size ≤ T) (new : ObjOk X.prog X.w (upd H T o) s'.heap T o) : Inv X pins σ (upd H T o) s' := by
  obtain ⟨f0, f1, f2, f3, f4, f5⟩ := I0.fpOk (H' := H) hT (I0.hok.fresh hT)
  refine I.track f0 ?_ f1 f4 f5 new
  cases e : X.s₀.heap.get? T with
  | none => rfl
  | some ob => exact absurd (Nat.lt_of_lt_of_le (Heap.lt_size e) (Nat.le_trans I0.sz hT)) (Nat.lt_irrefl _)
section
variable {X : Cx} {elts : List Expr} {k : Nat} {tp : Pos}
end
/-- names of builtins that the text does not give -/
structure TxtB (mg : Str → Option Value) : Prop where
  isi : mg "isinstance" = none
  int : mg "int" = none
  bool : mg "bool" = none
  abs : mg "abs" = none
  len : mg "len" = none
  range : mg "range" = none
  tup : mg "tuple" = none
  lst : mg "list" = none
  sor : mg "sorted" = none
  all : mg "all" = none
  set : mg "set" = none
  zip : mg "zip" = none
  enu : mg "enumerate" = none
  any : mg "any" = none
  max : mg "max" = none
  min : mg "min" = none
  str : mg "str" = none
  sum : mg "sum" = none
/-- a block: a list of numbers -/
def nats (L : List Nat) : List V := L.map fun p => V.int ((p : Nat) : Int)
theorem nats_snoc (L : List Nat) (j : Nat) : nats (L ++ [j]) = nats L ++ [V.int (j : Int)] := by unfold nats; rw [List.map_append]; rfl
theorem nats_len (L : List Nat) : (nats L).length = L.length := by unfold nats; rw [List.length_map]
/-! ### a list or a tuple, gone through -/
/-! ### rules that name K, for comprehensions -/
theorem nats_get {b : List Nat} {j : Nat} {x : V} (h : (nats b)[j]? = some x) : ∃ p : Nat, b[j]? = some p ∧ x = V.int ((p : Nat) : Int) := by
  unfold nats at h
  rw [List.getElem?_map] at h
  cases e : b[j]? with
  | none => rw [e] at h; cases h
  | some p => rw [e] at h; cases h; exact ⟨p, rfl, rfl⟩
theorem ints_isD' {K : PySem.W.Frag} {H : Hp} : ∀ L : List Nat, IsDs K H (L.map fun p => PyData.int ((p : Nat) : Int)) (nats L)
  | [] => by simp [nats, IsDs]
  | p :: L => by
    simp only [nats, List.map_cons, IsDs]
    exact ⟨_, _, rfl, by simp [IsD], ints_isD' L⟩
theorem lay_ints' : ∀ L : List Nat, PyData.canLayAll0 (L.map fun p => PyData.int ((p : Nat) : Int)) = true
  | [] => by simp [PyData.canLayAll0]
  | x :: L => by simp [PyData.canLayAll0, PyData.canLay0, lay_ints' L]
theorem depth_ints' : ∀ L : List Nat, PyData.depthAll (L.map fun p => PyData.int ((p : Nat) : Int)) ≤ 1
  | [] => by simp [PyData.depthAll]
  | x :: L => by
    have := depth_ints' L
    simp [PyData.depthAll, PyData.depth]
    omega
def dBlk (L : List Nat) : PyData := .list (L.map fun p => PyData.int ((p : Nat) : Int))
theorem shaped_blk (L : List Nat) : PySem.SeqAt.shaped (dBlk L) = true := by
  unfold PySem.SeqAt.shaped dBlk
  rw [Bool.and_eq_true]
  refine ⟨by simp only [PyData.canLay0]; exact lay_ints' L, decide_eq_true ?_⟩
  have := depth_ints' L
  simp only [PyData.depth]
  omega
theorem cut_from {xs : List V} {k : Nat} (hk : k ≤ xs.length) : cutV xs (some (k : Int)) none = xs.drop k := by
  unfold cutV
  have h1 : HT.sIx xs.length 0 (some (k : Int)) = k := by rw [HT.sIx_nat]; omega
  have h2 : HT.sIx xs.length xs.length none = xs.length := by simp [HT.sIx]
  rw [h1, h2, List.take_of_length_le (by rw [List.length_drop]; exact Nat.le_refl _)]
theorem cut_to {xs : List V} {k : Nat} (hk : k ≤ xs.length) : cutV xs none (some (k : Int)) = xs.take k := by
  unfold cutV
  have h1 : HT.sIx xs.length 0 none = 0 := by simp [HT.sIx]
  have h2 : HT.sIx xs.length xs.length (some (k : Int)) = k := by rw [HT.sIx_nat]; omega
  rw [h1, h2, List.drop_zero, Nat.sub_zero]
theorem seqVia {t rest : TS} {D : Ends} {σ : St} {H : Hp} (J : St → Hp → Prop) (hJ : ∀ σ' H', J σ' H' → rest D σ' H') (h : ∀ D' : Ends, (∀ σ' H', J σ' H' → D'.nx σ' H') → t D' σ H) : tSeq t rest D σ H := h { D with nx := rest D } hJ
def dTup (L : List Nat) : PyData := .tuple (L.map fun p => PyData.int ((p : Nat) : Int))
theorem cut_le {xs : List V} {k : Nat} : cutV xs none (some (k : Int)) = xs.take k := by
  by_cases hk : k ≤ xs.length
  · exact cut_to hk
  · unfold cutV
    have h1 : HT.sIx xs.length 0 none = 0 := by simp [HT.sIx]
    have h2 : HT.sIx xs.length xs.length (some (k : Int)) = xs.length := by rw [HT.sIx_nat]; omega
    rw [h1, h2, List.drop_zero, Nat.sub_zero, List.take_length, List.take_of_length_le (by omega)]
/-! ### a[i] += .. -/
def rGetN (K : PySem.W.Frag) : V → V → Hp → VK → Prop := fun x y H Q => ∃ (p : Addr) (xs : List V) (i : Int) (z : V), x = .ref p ∧ y = .int i ∧ SqL K H p xs ∧ 0 ≤ i ∧ atI xs i = some z ∧ Q z H
theorem get_listN {X : Cx} : PGet X (rGetN X.K) := by
  intro pins s σ H x y v u Q I rx ry h
  obtain ⟨p, xs, i, z, rfl, rfl, hq, h0, he, q⟩ := h
  cases rx
  obtain ⟨t, rfl⟩ := ry
  obtain ⟨its, r, pl, hz⟩ := I.list hq
  obtain ⟨j, h1, h2, h3, h4, h5⟩ := atI_get he
  obtain ⟨w, ew, rw'⟩ := r.get h2
  have hl := r.length
  have hn := line63
  have fin : EP X pins σ Q w s := ⟨z, H, I, rw', q⟩
  have hj : i.toNat = j := by
    rw [seqIndex_of h0 h5] at h1
    exact Option.some.inj h1
  exact wpAny_getItem_list pl.isList h0 (by omega) (by rw [hj]; simpa using ew) fin
end L2
/-! EvSort: sorted of a list of pairs of numbers: the same pairs in some order. Behind EvLay. -/
namespace L2
open PySem PySem.Spec PyProof.Rows PySem.W
section
variable {n : Nat} (hn : 0 < n)
include hn
end
section
variable {prog : Program} {w : World} {A : Around} {E : Value → Shared → Prop} {s : Shared}
end
end L2
/-! EvMul: tuple * number. Behind EvLay. -/
namespace PySem
open Sem (wp)
open Builtin
end PySem
namespace L2
open PySem PySem.Spec PyProof.Rows
end L2
namespace HT2
open PySem PySem.Spec PyProof.Rows HT
variable {prog : Program} {w : World} {A : Around} {E : Value → Shared → Prop} {s : Shared}
end HT2
namespace L2
open PySem PySem.Spec PyProof.Rows
end L2
/-! EvZip: zip of a tuple and a list. Behind EvLay. -/
namespace L2
open PySem PySem.Spec PyProof.Rows
section
variable {prog : Program} {w : World} {A : Around} {E : Value → Shared → Prop} {s : Shared}
/-- the next of a tuple's iterator, asked by a builtin -/
theorem nextT_item {it t : Addr} {i : Nat} {its : Array Value} {x : Value} {Q : Value → Shared → Prop} (hi : s.heap.IsTupleIter it t i) (ht : s.heap.IsTuple t its) (hx : its[i]? = some x)
    (hQ : ∀ h', h'.IsTupleIter it t (i + 1) → Heap.SameBut it s.heap h' → Q x { s with heap := h' }) : wpAny (model prog w) A (Builtin.SmallTypes.nextOf (.ref it)) Q E s := by
  obtain ⟨oi, gi, ci, di⟩ := id hi
  obtain ⟨ot, gt, _, nt, dt⟩ := ht
  unfold Builtin.SmallTypes.nextOf
  refine wpAny_bind (wpAny_callSpecial?_slot (name := Str.ofString "__next__") hi.typeIs PySem.F.slot_tuple_iterator_next (wpAny_call_entry PySem.F.slot_tuple_iterator_next hi.typeIs PySem.F.entry_tuple_iterator_next ?_ (PySem.F.args_tuple_iterator_next_1 _)))
  show wpAny _ _ (field (.ref it) 0 >>= _) _ _ s; refine wpAny_bind (wpAny_field gi di (x := .ref t) rfl ?_)
  show wpAny _ _ (if (Value.ref t == Value.none) = true then _ else _) _ _ s; rw [if_neg (show ¬ ((Value.ref t == Value.none) = true) from Bool.false_ne_true)]
  show wpAny _ _ (field (.ref it) 1 >>= _) _ _ s; refine wpAny_bind (wpAny_field gi di (x := .int i 0) rfl ?_)
  show wpAny _ _ (seqItems? (.ref t) >>= _) _ _ s; refine wpAny_bind (wpAny_seqItems gt dt ?_)
  simp only [Int.toNat_natCast, hx]
  have hn : ∀ f, (s.heap.update it (Obj.mapFields f)).get? it = some (Obj.mapFields f oi) := fun f => Heap.get?_update_self _ gi (Obj.isFreed_of_fields (Obj.data_mapFields di _))
  refine wpAny_bind (wpAny_setField gi di (by simp) (wpAny_pure ⟨x, rfl, wpAny_pure (hQ _ ⟨_, hn _, (Obj.cls_mapFields ..).trans ci, ?_⟩ (Heap.SameBut.update ..))⟩))
  rw [Obj.data_mapFields di]; simp [rawInt]
theorem nextT_end {it t : Addr} {i : Nat} {its : Array Value} {Q : Value → Shared → Prop} (hh : A.handled = none) (hi : s.heap.IsTupleIter it t i) (ht : s.heap.IsTuple t its) (hx : its[i]? = none)
    (hE : ∀ h' e, Heap.ExtBut it s.heap h' → (∃ o, h'.get? e = some o ∧ o.cls = .type "StopIteration") → E (.ref e) { s with heap := h' }) : wpAny (model prog w) A (Builtin.SmallTypes.nextOf (.ref it)) Q E s := by
  obtain ⟨oi, gi, ci, di⟩ := id hi
  obtain ⟨ot, gt, _, nt, dt⟩ := ht
  unfold Builtin.SmallTypes.nextOf
  refine wpAny_bind (wpAny_callSpecial?_slot (name := Str.ofString "__next__") hi.typeIs PySem.F.slot_tuple_iterator_next (wpAny_call_entry PySem.F.slot_tuple_iterator_next hi.typeIs PySem.F.entry_tuple_iterator_next ?_ (PySem.F.args_tuple_iterator_next_1 _)))
  show wpAny _ _ (field (.ref it) 0 >>= _) _ _ s; refine wpAny_bind (wpAny_field gi di (x := .ref t) rfl ?_)
  show wpAny _ _ (if (Value.ref t == Value.none) = true then _ else _) _ _ s; rw [if_neg (show ¬ ((Value.ref t == Value.none) = true) from Bool.false_ne_true)]
  show wpAny _ _ (field (.ref it) 1 >>= _) _ _ s; refine wpAny_bind (wpAny_field gi di (x := .int i 0) rfl ?_)
  show wpAny _ _ (seqItems? (.ref t) >>= _) _ _ s; refine wpAny_bind (wpAny_seqItems gt dt ?_)
  simp only [Int.toNat_natCast, hx]
  refine wpAny_bind (wpAny_rule (wpAny_bind (wpAny_setField gi di (by simp) ?_)))
  show wpAny _ _ (newExc (.type "StopIteration") [] >>= _) _ _ _; refine wpAny_bind ?_
  simp only [newExc, newTuple]; refine wpAny_bind (wpAny_newObj_type ?_ (by size_fits))
  refine wpAny_bind (m := firstArgMember _ _) (wpAny_of_eq (a := Value.none) (by first | rfl | (simp only [firstArgMember]; rfl)) (wpAny_newObj_type ?_ (by size_fits)))
  simp only [raiseNew]; refine wpAny_bind (wpAny_handled ?_)
  first | rw [show A.in1.handled = none from hh] | rw [hh]
  exact wpAny_bind (wpAny_pure (wpAny_throw (hE _ _ (((Heap.SameBut.update ..).extBut.push _).push _) ⟨_, Heap.get?_push_size _ rfl, rfl⟩)))
end
section
variable {prog : Program} {w : World} {A : Around} {E : Value → Shared → Prop} {s : Shared}
end
section
variable {X : Cx} {elts : List Expr} {k : Nat} {tp : Pos}
end
end L2
/-! EvTold: loops by steps, zip of two lists, a def that calls itself. Behind EvMul. -/
namespace L2
open PySem PySem.Spec PyProof.Rows
section
variable {X : Cx} {elts : List Expr} {k : Nat} {tp : Pos}
end
end L2
/-! EvEnt: enumerate of a tuple, values of an `or`, a list taken apart. Behind EvTold and EvZip. -/
namespace L2
open PySem PySem.Spec PyProof.Rows
section
variable {prog : Program} {w : World} {A : Around} {E : Value → Shared → Prop} {s : Shared}
theorem tup_ne_it {h : Heap} {t it : Addr} {its : Array Value} {i : Nat} (p : h.IsTuple t its) (q : h.IsTupleIter it t i) : t ≠ it := fun z => by
  obtain ⟨o, ho, hc, _⟩ := q
  obtain ⟨o', ho', hc', _⟩ := p
  rw [z, ho] at ho'
  cases ho'
  rw [hc] at hc'
  exact absurd hc' (by decide)
theorem enum_ne_tup {h : Heap} {e it t : Addr} {its : Array Value} {i : Int} {old : Value} (q : IsEnum h e it i old) (p : h.IsTuple t its) : e ≠ t := fun z => by
  obtain ⟨o', ho', hc', _⟩ := p
  rw [← z, q] at ho'
  cases ho'
  exact absurd (show Value.type "enumerate" = Value.type "tuple" from hc') (by decide)
theorem drawsT (hh : A.handled = none) {it t : Addr} (hne : t ≠ it) (its : Array Value) : Draws prog w A it [it, t] its.size (fun i v => its[i]? = some v) (fun i h => h.IsTupleIter it t i ∧ h.IsTuple t its) where
  live := fun _ _ st => by
    obtain ⟨⟨o, ho, _⟩, _⟩ := st
    exact ⟨o, ho⟩
  frame := fun _ _ _ st hk => ⟨st.1.at fun o e => hk it (by simp) o e, st.2.at fun o e => hk t (by simp) o e⟩
  item := fun i s Q E hi st hQ => nextT_item st.1 st.2 (x := its[i]) (by simp [hi]) fun h' j sb => hQ _ h' s.toks (by simp [hi]) ⟨j, st.2.extBut sb.extBut hne⟩ sb
  done := fun s Q E st hE => nextT_end hh st.1 st.2 (by simp) hE
abbrev et1 (h : Heap) (t : Addr) : Heap := h.push { cls := .type "tuple_iterator", data := .fields #[.ref t, .int 0 0] }
abbrev et2 (h : Heap) (t : Addr) : Heap := (et1 h t).push { cls := .type "enumerate", data := .fields #[.none, .bool false, .ref h.objs.size, rawInt 0, .none, .none] }
theorem enumT_new (t : Addr) (its : Array Value) :
    Meets (Builtin.«enumerate.__new__» ⟨[.type "enumerate", .ref t], []⟩) (fun _ R s => s.heap.IsTuple t its ∧ R (.ok (.ret (.ref (et1 s.heap t).objs.size))) { s with heap := et2 s.heap t }) :=
  .of_wp fun prog w A R s h => by
    obtain ⟨hp, g, d, tk, os⟩ := s; obtain ⟨g1, h⟩ := h
    have hsub := sub_enumerate
    have a1 : Heap.IsTuple (Shared.heap ⟨hp, g, d, tk, os⟩) t its := g1
    obtain ⟨⟨oc, od, odt, osl⟩, hl, hc, n, hd⟩ := id g1
    replace hc : oc = .type "tuple" := hc
    replace hd : odt = .seq its n := hd
    subst hc hd
    wp_walk using AutoSeq1.wpAny_loadPart' hl
    refine wpAny_stack_any fun st => wpAny_pure ?_
    split
    · rename_i c _ _ _ _ _
      cases (c == Value.type "enumerate")
      · wp_walk using AutoSeq1.wpAny_loadPart' hl, wpAny_pyIter_tuple a1
        exact ⟨_, rfl, h⟩
      · wp_walk using AutoSeq1.wpAny_loadPart' hl, wpAny_pyIter_tuple a1
        exact ⟨_, rfl, h⟩
    · wp_walk using AutoSeq1.wpAny_loadPart' hl, wpAny_pyIter_tuple a1
      exact ⟨_, rfl, h⟩
theorem call_enumT {t : Addr} {its : Array Value} {Q : Value → Shared → Prop} (g1 : s.heap.IsTuple t its)
    (h : ∀ h', IsEnum h' (s.heap.objs.size + 1) s.heap.objs.size 0 .none → h'.IsTupleIter s.heap.objs.size t 0 → (∀ c o, s.heap.get? c = some o → h'.get? c = some o) → Q (.ref (s.heap.objs.size + 1)) { s with heap := h' }) :
    wpAny (model prog w) A (call (.type "enumerate") [.ref t]) Q E s := by
  refine callType_new PySem.F.called_enumerate (by decide) (PySem.F.typeCall_enumerate_1 _) (PySem.F.newCall_enumerate_1 _) (fun obj => PySem.F.args_object_init_2 obj _) PySem.F.entry_enumerate_new (enumT_new t its) ⟨g1, ?_⟩
  have n1 : (et1 s.heap t).objs.size = s.heap.objs.size + 1 := Heap.size_push ..
  have q2 : (et2 s.heap t).get? (et1 s.heap t).objs.size = some _ := Heap.get?_push_size _ rfl
  have q1 : (et2 s.heap t).get? s.heap.objs.size = some _ := Heap.get?_push_of_some _ (Heap.get?_push_size _ rfl)
  show _ ∧ _
  rw [n1] at q2
  rw [n1]
  exact ⟨⟨_, q2, rfl⟩, h _ q2 ⟨_, q1, rfl, rfl⟩ fun c o q => Heap.get?_push_of_some _ (Heap.get?_push_of_some _ q)⟩
end
/-- the pairs (number, item) of a tuple -/
def Itet (K : PySem.W.Frag) (a : Addr) : It :=
  ⟨fun i H => ∃ xs x, SqT K H a xs ∧ xs[i]? = some x, fun i H v H' => ∃ T x, (∀ xs, SqT K H a xs → xs[i]? = some x) ∧ H T = none ∧ v = .ref T ∧ H' = upd H T (.tup [.int (i : Nat), x]), fun i H => ∃ xs, SqT K H a xs ∧ xs.length = i⟩
theorem turn_enumT {P : Program} {w : World} {K : PySem.W.Frag} {elts : List Expr} {k : Nat} {tp : Pos} (l e it : Addr) (hei : e ≠ it) : Turn P w K (.Tuple elts k tp) (Itet K l) [e, it] e (fun i h => (∃ old, IsEnum h e it ((i : Nat) : Int) old) ∧ h.IsTupleIter it l i) where
  mem := by simp
  obj := fun i h st b hb => by
    obtain ⟨⟨old, he⟩, o, ho, hc, hd⟩ := st
    simp only [List.mem_cons, List.not_mem_nil, or_false] at hb
    rcases hb with rfl | rfl
    · exact ⟨_, he, fun v z => by cases z⟩
    · exact ⟨o, ho, fun v z => by rw [hd] at z; cases z⟩
  keep := fun i h h' st kp => ⟨⟨_, kp e (by simp) _ st.1.choose_spec⟩, st.2.at fun o q => kp it (by simp) o q⟩
  item := by
    intro X hP hw hK hc i pins s σ H E I hf st hg
    subst hP hw hK
    obtain ⟨xs, x, hq, hx⟩ := hg
    obtain ⟨its, rv, p, hz⟩ := I.tuple hq
    obtain ⟨u, hu, ru⟩ := rv.get hx
    obtain ⟨⟨old, he⟩, hit⟩ := st
    have hlt : ∀ b ∈ [e, it], b ≠ s.heap.objs.size := fun b hb z => by
      simp only [List.mem_cons, List.not_mem_nil, or_false] at hb
      rcases hb with rfl | rfl
      · exact absurd (z ▸ Heap.lt_size he) (Nat.lt_irrefl _)
      · obtain ⟨_, ho, _⟩ := hit
        exact absurd (z ▸ Heap.lt_size ho) (Nat.lt_irrefl _)
    have fr : H s.heap.objs.size = none := I.hok.fresh (Nat.le_refl _)
    have p' : s.heap.IsTuple l its.toArray := p
    have hlen := rv.length
    have hil := (List.getElem?_eq_some_iff.mp hx).1
    refine wpAny_pyNext_enum_itemD (drawsT (show X.A.in1.handled = none from I.ok.hd hc) (tup_ne_it p' hit) its.toArray) he ⟨hit, p'⟩ (by rw [List.size_toArray]; omega) hei (by
      simp only [List.mem_cons, List.not_mem_nil, or_false, not_or]
      exact ⟨hei, enum_ne_tup he p'⟩) fun y h' tk hy ho hit2 hT hsz hk => ?_
    have hit' := hit2.1
    have ey : y = u := by
      rw [List.getElem?_toArray, hu] at hy
      exact (Option.some.inj hy).symm
    subst ey
    have I1 : Inv X pins σ H { s with heap := h', toks := tk + 1 } := I.turnedL (wr := [e, it]) (fun b o hb q => hk b o (fun z => hb (by simp [z])) (fun z => hb (by simp [z])) q) hf
    have I2 : Inv X pins σ (upd H s.heap.objs.size (.tup [.int (i : Nat), x])) { s with heap := h', toks := tk + 1 } := I.tracked I1 (Nat.le_refl _) ⟨by show 2 ≤ sizeLine; decide, [.int i tk, y], .cons ⟨_, rfl⟩ (.cons ru .nil), ⟨_, hT, rfl, _, rfl⟩⟩
    have hf2 : ∀ b ∈ [e, it], FpOk X pins (upd H s.heap.objs.size (.tup [.int (i : Nat), x])) b := fun b hb => by
      obtain ⟨f0, f1, f2, f3, f4, f5⟩ := hf b hb
      exact ⟨by rw [upd_ne (hlt b hb)]; exact f0, f1, f2, f3, f4, f5⟩
    refine ⟨_, rfl, wpAny_letOwnedTupleGo_enum ho fun h'' he' hs' => ?_⟩
    refine ⟨.ref s.heap.objs.size, _, I2.turnedL (wr := [e]) (t' := tk + 1) (fun b o hb q => (hs'.2 b (fun z => hb (by simp [z]))).trans q) (fun b hb => hf2 b (by rw [List.mem_singleton.mp hb]; simp)), rfl, ⟨_, x, fun ys hy => by rw [I.tuple_inj hy hq]; exact hx, fr, rfl, rfl⟩, ⟨⟨_, by simpa using he'⟩, hit'.at fun o q => (hs'.2 it hei.symm).trans q⟩, fun b hb => (hf2 b hb).1⟩
  done := by
    intro X hP hw hK hc i pins s σ H E I hf st hg
    subst hP hw hK
    obtain ⟨xs, hq, hx⟩ := hg
    obtain ⟨its, rv, p, hz⟩ := I.tuple hq
    have hl := rv.length
    obtain ⟨⟨old, he⟩, hit⟩ := st
    have p' : s.heap.IsTuple l its.toArray := p
    have hsz : its.toArray.size = i := by rw [List.size_toArray]; omega
    have D := drawsT (prog := X.prog) (w := X.w) (show X.A.in1.handled = none from I.ok.hd hc) (tup_ne_it p' hit) its.toArray
    rw [hsz] at D
    exact wpAny_pyNext_enum_endD D he ⟨hit, p'⟩ fun h' eb => ⟨rfl, I.turnedL (wr := [it]) (t' := s.toks) (fun b o hb q => eb b o (fun z => hb (by simp [z])) q) (fun b hb => hf b (by rw [List.mem_singleton.mp hb]; simp))⟩
  self := fun _ _ _ _ _ st h => wpAny_pyIter_enum st.1.choose_spec h
section
variable {X : Cx} {elts : List Expr} {k : Nat} {tp : Pos}
def iEnumT (K : PySem.W.Frag) (ta : TA) : TI := fun σ H R => ta σ H fun vs H1 => ∃ a, vs = [.ref a] ∧ (∃ xs, SqT K H1 a xs) ∧ R (Itet K a) H1
theorem pi_enumT {a : Expr} {ta : TA} {p pos : Pos} (hg : Gl X "enumerate") (hm : X.mg "enumerate" = none) (ha : PA X [a] ta) (hs : starEach [a] X.env = [(false, eval a X.env)] := by rfl) : PI X (.Tuple elts k tp) (.Call (.Name "enumerate" p) [a] [] pos) (iEnumT X.K ta) := by
  intro pins s σ H R I h
  refine Call_ (ld_blt I hg hm (show bootBuiltins "enumerate" = some (.type "enumerate") by decide +kernel) (PyProof.Rows.callWith_type1 (thn (ha pos pins s σ H _ I h) fun us s1 ⟨vs, H1, I1, r1, q1⟩ => ?_) (by rw [hs]; rfl) (by rfl)))
  obtain ⟨a, e, ⟨xs, hq⟩, q⟩ := q1
  subst e
  obtain ⟨u, rfl, rx⟩ := vals1 r1
  cases rx
  obtain ⟨its, rv, pl, hz⟩ := I1.tuple hq
  refine call_enumT pl fun h' he hit kp => ?_
  have I2 : Inv X pins σ H1 { s1 with heap := h' } := I1.kept (t' := s1.toks) kp
  refine wpAny_pyIter_enum he ?_
  refine ⟨s1.heap.objs.size + 1, [s1.heap.objs.size + 1, s1.heap.objs.size], _, _, H1, rfl, I2, turn_enumT a _ _ (Nat.succ_ne_self _), ⟨⟨_, he⟩, hit⟩, fun b hb => ?_, q⟩
  simp only [List.mem_cons, List.not_mem_nil, or_false] at hb
  rcases hb with rfl | rfl
  · exact I1.fpOk (Nat.le_succ _) (I1.hok.fresh (Nat.le_succ _))
  · exact I1.fpOk (Nat.le_refl _) (I1.hok.fresh (Nat.le_refl _))
theorem qi_enumT {a : Expr} {ta : TA} {p pos : Pos} (hg : Gl X "enumerate") (hm : X.mg "enumerate" = none) (ha : QA X [a] ta) (hs : starEach [a] X.env = [(false, eval a X.env)] := by rfl) : QI X (.Tuple elts k tp) (.Call (.Name "enumerate" p) [a] [] pos) (iEnumT X.K ta) := ⟨pi_enumT hg hm ha.h hs⟩
end
theorem for_enumT {K : PySem.W.Frag} {a : Addr} {xs : List V} {g : TG} {tb : TS} {D : Ends} {σ : St} {H : Hp} (Pv : Nat → St → Hp → Prop) (h0 : Pv 0 σ H) (hl : ∀ i σ H, i ≤ xs.length → Pv i σ H → SqT K H a xs)
    (hs : ∀ i x T σ H, xs[i]? = some x → Pv i σ H → H T = none → g (.ref T) σ (upd H T (.tup [.int (i : Nat), x])) fun σ2 H2 => tb { D with nx := Pv (i + 1), ct := Pv (i + 1), bk := D.nx } σ2 H2) (hd : ∀ σ H, Pv xs.length σ H → D.nx σ H) :
    ∃ W : Nat → Nat → St → Hp → Prop, (∃ m, W 0 m σ H) ∧ ∀ i m σ H, W i m σ H →
      ((Itet K a).stop i H ∧ D.nx σ H) ∨ ((Itet K a).go i H ∧ ∃ N : St → Hp → Prop, (∀ σ' H', N σ' H' → ∃ m', m' < m ∧ W (i + 1) m' σ' H') ∧ ∀ x H', (Itet K a).yld i H x H' → g x σ H' fun σ2 H2 => tb { D with nx := N, ct := N, bk := D.nx } σ2 H2) := by
  refine ⟨fun i m σ H => m = xs.length - i ∧ i ≤ xs.length ∧ Pv i σ H, ⟨xs.length, by simp, Nat.zero_le _, h0⟩, ?_⟩
  rintro i m σ H ⟨rfl, hi, p⟩
  have q := hl i σ H hi p
  by_cases hlt : i < xs.length
  · refine .inr ⟨⟨xs, xs[i], q, by simp [hlt]⟩, Pv (i + 1), fun σ' H' p' => ⟨xs.length - (i + 1), by omega, rfl, hlt, p'⟩, fun v H' y => ?_⟩
    obtain ⟨T, x, hx, hT, rfl, rfl⟩ := y
    exact hs i x T σ _ (hx xs q) p hT
  · have e : i = xs.length := by omega
    subst e
    exact .inl ⟨⟨xs, q, rfl⟩, hd σ H p⟩
end L2
/-! EvIdx: places in tuples and lists from a start on, tuples whose object is known, lists taken apart, values of an `or`. Behind EvEnt. -/
namespace L2
open PySem PySem.Spec PyProof.Rows
section
variable {prog : Program} {w : World} {A : Around} {E : Value → Shared → Prop} {s : Shared}
end
/-! ### places from a start on -/
end L2
/-! EvKw: enumerate(tuple, start=k), sum of a list of numbers. Behind EvIdx. -/
namespace L2
open PySem PySem.Spec PyProof.Rows
abbrev et2K (h : Heap) (t : Addr) (k : Nat) : Heap := (et1 h t).push { cls := .type "enumerate", data := .fields #[.none, .bool false, .ref h.objs.size, rawInt ((k : Nat) : Int), .none, .none] }
theorem initKw {T newId : String} {self a : Value} {kw : List (Str × Value)} (hl : typeLookup (.type T) "__init__" = pure (some (.builtin "object.__init__"))) (hm : Bind.madeBy (.type T) = pure (some newId)) (hne : (some newId != some "object.__new__") = true) :
    Meets (Builtin.«object.__init__» ⟨[self, a], kw⟩) (fun _ R s => s.TypeIs self T ∧ R (.ok (.ret .none)) s) := .of_wp fun prog w A R s hs => by
  obtain ⟨hT, hq⟩ := hs
  repeat (any_goals (first | assumption | wp_step))
  exact ⟨_, rfl, hq⟩
theorem fits_small {k : Nat} (hk : k < 1000) : (!Builtin.SmallTypes.fitsIndex ((k : Nat) : Int)) = false := by
  simp [Builtin.SmallTypes.fitsIndex]
  omega
theorem enumK_new (t : Addr) (its : Array Value) (k : Nat) (kt : Tok) (hk : k < 1000) :
    Meets (Builtin.«enumerate.__new__» ⟨[.type "enumerate", .ref t], [("start", .int ((k : Nat) : Int) kt)]⟩) (fun _ R s => s.heap.IsTuple t its ∧ R (.ok (.ret (.ref (et1 s.heap t).objs.size))) { s with heap := et2K s.heap t k }) :=
  .of_wp fun prog w A R s h => by
    obtain ⟨hp, g, d, tk, os⟩ := s; obtain ⟨g1, h⟩ := h
    have hsub := sub_enumerate
    have a1 : Heap.IsTuple (Shared.heap ⟨hp, g, d, tk, os⟩) t its := g1
    obtain ⟨⟨oc, od, odt, osl⟩, hl, hc, n, hd⟩ := id g1
    replace hc : oc = .type "tuple" := hc
    replace hd : odt = .seq its n := hd
    subst hc hd
    have hfit := fits_small hk
    wp_walk using AutoSeq1.wpAny_loadPart' hl
    refine wpAny_stack_any fun st => wpAny_pure ?_
    split
    · rename_i c _ _ _ _ _
      cases (c == Value.type "enumerate")
      · simp only [Bool.false_eq_true, if_false]
        refine wpAny_bind ?_; refine wpAny_of_eq (a := (Value.ref t, some (Value.int ((k : Nat) : Int) kt))) ?_ ?_
        · kernel_rfl
        revert hfit
        generalize Builtin.SmallTypes.fitsIndex = fi
        intro hfi
        wp_walk using wpAny_pyIter_tuple a1
        exact ⟨_, rfl, h⟩
      · simp only [if_true]
        refine wpAny_bind ?_; refine wpAny_of_eq (a := (Value.ref t, some (Value.int ((k : Nat) : Int) kt))) ?_ ?_
        · kernel_rfl
        revert hfit
        generalize Builtin.SmallTypes.fitsIndex = fi
        intro hfi
        wp_walk using wpAny_pyIter_tuple a1
        exact ⟨_, rfl, h⟩
    · simp only [Bool.false_eq_true, if_false]
      refine wpAny_bind ?_; refine wpAny_of_eq (a := (Value.ref t, some (Value.int ((k : Nat) : Int) kt))) ?_ ?_
      · kernel_rfl
      revert hfit
      generalize Builtin.SmallTypes.fitsIndex = fi
      intro hfi
      wp_walk using wpAny_pyIter_tuple a1
      exact ⟨_, rfl, h⟩
section
variable {prog : Program} {w : World} {A : Around} {E : Value → Shared → Prop} {s : Shared}
theorem callKw {T newId : String} {Bn : Builtin} {a : Value} {kw : List (Str × Value)} {S : PySem.Spec} {Q : Value → Shared → Prop} (ft : TypeCalled T newId "object.__init__") (hne : (some newId != some "object.__new__") = true)
    (hct : checkTypeCall T ⟨[a], kw⟩ = pure ()) (hcn : checkBuiltinCall newId ⟨[.type T, a], kw⟩ = pure ()) (hok : ∀ obj, argsOk "object.__init__" ⟨[obj, a], kw⟩) (entryN : entryFor table newId = some Bn) (g : Meets (Bn ⟨[.type T, a], kw⟩) S)
    (h : S A.in1 (wants (fun obj s1 => s1.TypeIs obj T ∧ Q obj s1) E) s) : wpAny (model prog w) A (call (.type T) [a] kw) Q E s := by
  obtain ⟨c, tl, hmro⟩ := ft.mro
  have hmade := ft.made; have hsub := ft.sub; have h1 := ft.notType; have h2 := ft.canCreate
  refine wpAny_call (codeAny_of_tree ?_); show wpAny _ _ (callAny (.type T) _) _ _ _
  refine wpAny_pure ⟨Code.quiet_builtin _ (by decide +kernel), codeAny_builtin PySem.F.entry_type_call ?_⟩
  rw [Around.under_plain (weight_type_call_type T [a] kw) (units_type_call_type T [a] kw)]
  repeat (any_goals (first | assumption | wp_step))
  refine codeAny_mono (codeAny_call_builtin ft.plain entryN (wpAny_of_eq hcn (g prog w A.in1 _ s h))) fun r s1 hr => ?_
  cases r with
  | error e => exact hr
  | ok fl =>
    cases fl with
    | ret obj =>
      obtain ⟨hT, hq0⟩ := hr
      have hli := ft.init.lookup; have hbi := ft.init.bind obj
      repeat (any_goals (first | assumption | wp_step))
      refine codeAny_mono (codeAny_call_builtin ft.init.plain PySem.F.entry_object_init (ft.init.check _ _ _ _ _ _ _ _ hT (hok obj) (initKw ft.init.lookup ft.made hne prog w A.in1 (wants (fun r s2 => r = .none ∧ Q obj s2) E) s1 ⟨hT, rfl, hq0⟩))) fun r2 s2 hr2 => ?_
      cases r2 with
      | error e => exact hr2
      | ok fl2 =>
        cases fl2 with
        | ret r =>
          obtain ⟨rfl, hq⟩ := hr2
          repeat (any_goals (first | assumption | wp_step))
        | _ => exact hr2.elim
    | _ => exact hr.elim
end
theorem drawsK {prog : Program} {w : World} {A : Around} {it : Addr} {fp : List Addr} {n : Nat} {Pd : Nat → Value → Prop} {St : Nat → Heap → Prop} (k0 : Nat) (D : Draws prog w A it fp n Pd St) : Draws prog w A it fp (k0 + n) (fun i v => Pd (i - k0) v) (fun i h => k0 ≤ i ∧ St (i - k0) h) where
  live := fun i h st => D.live _ _ st.2
  frame := fun i h h' st hk => ⟨st.1, D.frame _ _ _ st.2 hk⟩
  item := fun i s Q E hi st hQ => D.item (i - k0) s Q E (by have := st.1; omega) st.2 fun x h' tk hp hst hs => hQ x h' tk hp ⟨Nat.le_trans st.1 (Nat.le_succ _), by rw [show i + 1 - k0 = i - k0 + 1 by have := st.1; omega]; exact hst⟩ hs
  done := fun s Q E st hE => D.done s Q E (by have h2 := st.2; rw [Nat.add_sub_cancel_left] at h2; exact h2) hE
section
variable {prog : Program} {w : World} {A : Around} {E : Value → Shared → Prop} {s : Shared}
theorem call_enumK {t : Addr} {its : Array Value} {k : Nat} {kt : Tok} {Q : Value → Shared → Prop} (hk : k < 1000) (g1 : s.heap.IsTuple t its)
    (h : ∀ h', IsEnum h' (s.heap.objs.size + 1) s.heap.objs.size ((k : Nat) : Int) .none → h'.IsTupleIter s.heap.objs.size t 0 → (∀ c o, s.heap.get? c = some o → h'.get? c = some o) → Q (.ref (s.heap.objs.size + 1)) { s with heap := h' }) :
    wpAny (model prog w) A (call (.type "enumerate") [.ref t] [("start", .int ((k : Nat) : Int) kt)]) Q E s := by
  refine callKw PySem.F.called_enumerate (by decide) (by kernel_rfl) (by kernel_rfl) (fun obj => by unfold argsOk; rw [signature?_of (id := "object.__init__") (n := ['_', '_', 't', 'i', 'n', 'i', '_', '_']) (o := ['t', 'c', 'e', 'j', 'b', 'o']) (by kernel_rfl) PySem.F.owner_object]; kernel_rfl) PySem.F.entry_enumerate_new (enumK_new t its k kt hk) ⟨g1, ?_⟩
  have n1 : (et1 s.heap t).objs.size = s.heap.objs.size + 1 := Heap.size_push ..
  have q2 : (et2K s.heap t k).get? (et1 s.heap t).objs.size = some _ := Heap.get?_push_size _ rfl
  have q1 : (et2K s.heap t k).get? s.heap.objs.size = some _ := Heap.get?_push_of_some _ (Heap.get?_push_size _ rfl)
  show _ ∧ _
  rw [n1] at q2
  rw [n1]
  exact ⟨⟨_, q2, rfl⟩, h _ q2 ⟨_, q1, rfl, rfl⟩ fun c o q => Heap.get?_push_of_some _ (Heap.get?_push_of_some _ q)⟩
end
section
variable {M : Model} {A : Around} {E : Value → Shared → Prop} {s : Shared} {env : Env}
theorem callWithTK {pos : Pos} {T : String} {e : Expr} {rest : List Expr} {kws : List Keyword} {Q : Value → Shared → Prop}
    (h : wpAny M A (spliced (backTo pos (starEach (e :: rest) env))) (fun vs s1 => wpAny M A (evalAll ((backToKw pos (keywordEach kws env)).map (·.2))) (fun kvs s2 => wpAny M A (call (.type T) vs (((backToKw pos (keywordEach kws env)).filterMap (·.1)).zip kvs)) Q E s2) E s1) E s)
    (he : backTo pos (starEach (e :: rest) env) = (false, eval e env) :: backTo pos (starEach rest env)) (hplain : (backTo pos (starEach (e :: rest) env)).any (·.1) = false) (hall : (backToKw pos (keywordEach kws env)).all (·.1.isSome) = true) (hkw : (backToKw pos (keywordEach kws env)).any (·.1.isNone) = false) :
    wpAny M A (callWith pos (.type T) [] (backTo pos (starEach (e :: rest) env)) (backToKw pos (keywordEach kws env))) Q E s := by
  have h0 : wpAny M A (evalArgs (.type T) true (backTo pos (starEach (e :: rest) env)) (backToKw pos (keywordEach kws env))) (fun a s1 => wpAny M A (call (.type T) ([] ++ a.pos) a.kw) Q E s1) E s := by
    rw [he] at h ⊢
    exact evalArgs_kwB hall h
  unfold callWith
  refine wpAny_bind (wpAny_holding (wpAny_mono h0 (fun a s1 h1 => wpAny_bind (wpAny_standAt ?_)) fun _ _ x => x)); simp only [hplain, hkw, Bool.or_false]
  exact wpAny_bind (wpAny_pure (wpAny_bind (wpAny_mono h1 (fun r s2 hr => wpAny_bind (wpAny_holding (wpAny_point (wpAny_pure hr)))) fun _ _ x => x)))
end
/-- the pairs (number, item) of a tuple, the numbers from k0 on -/
def Itek (K : PySem.W.Frag) (a : Addr) (k0 : Nat) : It :=
  ⟨fun i H => ∃ xs x, SqT K H a xs ∧ xs[i]? = some x, fun i H v H' => ∃ T x, (∀ xs, SqT K H a xs → xs[i]? = some x) ∧ H T = none ∧ v = .ref T ∧ H' = upd H T (.tup [.int ((k0 + i : Nat) : Int), x]), fun i H => ∃ xs, SqT K H a xs ∧ xs.length = i⟩
theorem turn_enumK {k0 : Nat} {P : Program} {w : World} {K : PySem.W.Frag} {elts : List Expr} {k : Nat} {tp : Pos} (l e it : Addr) (hei : e ≠ it) : Turn P w K (.Tuple elts k tp) (Itek K l k0) [e, it] e (fun i h => (∃ old, IsEnum h e it ((k0 + i : Nat) : Int) old) ∧ h.IsTupleIter it l i) where
  mem := by simp
  obj := fun i h st b hb => by
    obtain ⟨⟨old, he⟩, o, ho, hc, hd⟩ := st
    simp only [List.mem_cons, List.not_mem_nil, or_false] at hb
    rcases hb with rfl | rfl
    · exact ⟨_, he, fun v z => by cases z⟩
    · exact ⟨o, ho, fun v z => by rw [hd] at z; cases z⟩
  keep := fun i h h' st kp => ⟨⟨_, kp e (by simp) _ st.1.choose_spec⟩, st.2.at fun o q => kp it (by simp) o q⟩
  item := by
    intro X hP hw hK hc i pins s σ H E I hf st hg
    subst hP hw hK
    obtain ⟨xs, x, hq, hx⟩ := hg
    obtain ⟨its, rv, p, hz⟩ := I.tuple hq
    obtain ⟨u, hu, ru⟩ := rv.get hx
    obtain ⟨⟨old, he⟩, hit⟩ := st
    have hlt : ∀ b ∈ [e, it], b ≠ s.heap.objs.size := fun b hb z => by
      simp only [List.mem_cons, List.not_mem_nil, or_false] at hb
      rcases hb with rfl | rfl
      · exact absurd (z ▸ Heap.lt_size he) (Nat.lt_irrefl _)
      · obtain ⟨_, ho, _⟩ := hit
        exact absurd (z ▸ Heap.lt_size ho) (Nat.lt_irrefl _)
    have fr : H s.heap.objs.size = none := I.hok.fresh (Nat.le_refl _)
    have p' : s.heap.IsTuple l its.toArray := p
    have hlen := rv.length
    have hil := (List.getElem?_eq_some_iff.mp hx).1
    refine wpAny_pyNext_enum_itemD (drawsK k0 (drawsT (show X.A.in1.handled = none from I.ok.hd hc) (tup_ne_it p' hit) its.toArray)) he ⟨Nat.le_add_right _ _, by rw [Nat.add_sub_cancel_left]; exact ⟨hit, p'⟩⟩ (by rw [List.size_toArray]; omega) hei (by
      simp only [List.mem_cons, List.not_mem_nil, or_false, not_or]
      exact ⟨hei, enum_ne_tup he p'⟩) fun y h' tk hy ho hit2 hT hsz hk => ?_
    have hit3 := hit2.2
    rw [show k0 + i + 1 - k0 = i + 1 by omega] at hit3
    have hit' := hit3.1
    rw [Nat.add_sub_cancel_left] at hy
    have ey : y = u := by
      rw [List.getElem?_toArray, hu] at hy
      exact (Option.some.inj hy).symm
    subst ey
    have I1 : Inv X pins σ H { s with heap := h', toks := tk + 1 } := I.turnedL (wr := [e, it]) (fun b o hb q => hk b o (fun z => hb (by simp [z])) (fun z => hb (by simp [z])) q) hf
    have I2 : Inv X pins σ (upd H s.heap.objs.size (.tup [.int ((k0 + i : Nat) : Int), x])) { s with heap := h', toks := tk + 1 } := I.tracked I1 (Nat.le_refl _) ⟨by show 2 ≤ sizeLine; decide, [.int ((k0 + i : Nat) : Int) tk, y], .cons ⟨_, rfl⟩ (.cons ru .nil), ⟨_, hT, rfl, _, rfl⟩⟩
    have hf2 : ∀ b ∈ [e, it], FpOk X pins (upd H s.heap.objs.size (.tup [.int ((k0 + i : Nat) : Int), x])) b := fun b hb => by
      obtain ⟨f0, f1, f2, f3, f4, f5⟩ := hf b hb
      exact ⟨by rw [upd_ne (hlt b hb)]; exact f0, f1, f2, f3, f4, f5⟩
    refine ⟨_, rfl, wpAny_letOwnedTupleGo_enum ho fun h'' he' hs' => ?_⟩
    refine ⟨.ref s.heap.objs.size, _, I2.turnedL (wr := [e]) (t' := tk + 1) (fun b o hb q => (hs'.2 b (fun z => hb (by simp [z]))).trans q) (fun b hb => hf2 b (by rw [List.mem_singleton.mp hb]; simp)), rfl, ⟨_, x, fun ys hy => by rw [I.tuple_inj hy hq]; exact hx, fr, rfl, rfl⟩, ⟨⟨_, by rw [show ((k0 + (i + 1) : Nat) : Int) = ((k0 + i : Nat) : Int) + 1 by omega]; exact he'⟩, hit'.at fun o q => (hs'.2 it hei.symm).trans q⟩, fun b hb => (hf2 b hb).1⟩
  done := by
    intro X hP hw hK hc i pins s σ H E I hf st hg
    subst hP hw hK
    obtain ⟨xs, hq, hx⟩ := hg
    obtain ⟨its, rv, p, hz⟩ := I.tuple hq
    have hl := rv.length
    obtain ⟨⟨old, he⟩, hit⟩ := st
    have p' : s.heap.IsTuple l its.toArray := p
    have hsz : its.toArray.size = i := by rw [List.size_toArray]; omega
    have D := drawsT (prog := X.prog) (w := X.w) (show X.A.in1.handled = none from I.ok.hd hc) (tup_ne_it p' hit) its.toArray
    rw [hsz] at D
    exact wpAny_pyNext_enum_endD D he ⟨hit, p'⟩ fun h' eb => ⟨rfl, I.turnedL (wr := [it]) (t' := s.toks) (fun b o hb q => eb b o (fun z => hb (by simp [z])) q) (fun b hb => hf b (by rw [List.mem_singleton.mp hb]; simp))⟩
  self := fun _ _ _ _ _ st h => wpAny_pyIter_enum st.1.choose_spec h
section
variable {X : Cx} {elts : List Expr} {k : Nat} {tp : Pos}
def iEnumK (K : PySem.W.Frag) (ta tk : TA) : TI := fun σ H R => ta σ H fun vs H1 => tk σ H1 fun zs H2 => ∃ (a : Addr) (k0 : Nat), vs = [.ref a] ∧ zs = [.int ((k0 : Nat) : Int)] ∧ k0 < 1000 ∧ (∃ xs, SqT K H2 a xs) ∧ R (Itek K a k0) H2
theorem pi_enumK {a e : Expr} {ta tk : TA} {p pos kpos : Pos} (hg : Gl X "enumerate") (hm : X.mg "enumerate" = none) (ha : PA X [a] ta) (hkw : PK X [⟨some "start", e, kpos⟩] tk) (hs : starEach [a] X.env = [(false, eval a X.env)] := by rfl) : PI X (.Tuple elts k tp) (.Call (.Name "enumerate" p) [a] [⟨some "start", e, kpos⟩] pos) (iEnumK X.K ta tk) := by
  intro pins s σ H R I h
  refine wpAny_Call_Name_kw (ld_blt I hg hm (show bootBuiltins "enumerate" = some (.type "enumerate") by decide +kernel) (callWithTK (thn (ha pos pins s σ H _ I h) fun us s1 ⟨vs, H1, I1, r1, q1⟩ => thn (hkw pos pins s1 σ H1 _ I1 q1) fun ks s2 ⟨zs, H2, I2, r2, q2⟩ => ?_) (by rw [hs]; rfl) (by rw [hs]; rfl) (by rfl) (by rfl)))
  obtain ⟨b, k0, e1, e2, hk0, ⟨xs, hq⟩, q⟩ := q2
  subst e1 e2
  obtain ⟨u, rfl, rx⟩ := vals1 r1
  cases rx
  obtain ⟨u2, rfl, rx2⟩ := vals1 r2
  obtain ⟨tk, rfl⟩ := rx2
  obtain ⟨its, rv, pl, hz⟩ := I2.tuple hq
  show wpAny _ _ (call (.type "enumerate") [.ref b] [("start", .int ((k0 : Nat) : Int) tk)]) _ _ _
  refine call_enumK hk0 pl fun h' he hit kp => ?_
  have I3 : Inv X pins σ H2 { s2 with heap := h' } := I2.kept (t' := s2.toks) kp
  refine wpAny_pyIter_enum he ⟨s2.heap.objs.size + 1, [s2.heap.objs.size + 1, s2.heap.objs.size], _, _, H2, rfl, I3, turn_enumK (k0 := k0) b _ _ (Nat.succ_ne_self _), ⟨⟨_, he⟩, hit⟩, fun c hc => ?_, q⟩
  simp only [List.mem_cons, List.not_mem_nil, or_false] at hc
  rcases hc with rfl | rfl
  · exact I2.fpOk (Nat.le_succ _) (I2.hok.fresh (Nat.le_succ _))
  · exact I2.fpOk (Nat.le_refl _) (I2.hok.fresh (Nat.le_refl _))
theorem qi_enumK {a e : Expr} {ta te : TE} {p pos kpos : Pos} (hg : Gl X "enumerate") (hm : X.mg "enumerate" = none) (ha : QE X a ta) (hk : QE X e te) (hs : notStar a = true := by rfl) : QI X (.Tuple elts k tp) (.Call (.Name "enumerate" p) [a] [⟨some "start", e, kpos⟩] pos) (iEnumK X.K (tCons ta tNil) (tCons te tNil)) := ⟨pi_enumK hg hm (qac ha qa_nil hs).h (pk_cons hk.h pk_nil) (starEach_cons hs)⟩
end
theorem for_enumK {k0 : Nat} {K : PySem.W.Frag} {a : Addr} {xs : List V} {g : TG} {tb : TS} {D : Ends} {σ : St} {H : Hp} (Pv : Nat → St → Hp → Prop) (h0 : Pv 0 σ H) (hl : ∀ i σ H, i ≤ xs.length → Pv i σ H → SqT K H a xs)
    (hs : ∀ i x T σ H, xs[i]? = some x → Pv i σ H → H T = none → g (.ref T) σ (upd H T (.tup [.int ((k0 + i : Nat) : Int), x])) fun σ2 H2 => tb { D with nx := Pv (i + 1), ct := Pv (i + 1), bk := D.nx } σ2 H2) (hd : ∀ σ H, Pv xs.length σ H → D.nx σ H) :
    ∃ W : Nat → Nat → St → Hp → Prop, (∃ m, W 0 m σ H) ∧ ∀ i m σ H, W i m σ H →
      ((Itek K a k0).stop i H ∧ D.nx σ H) ∨ ((Itek K a k0).go i H ∧ ∃ N : St → Hp → Prop, (∀ σ' H', N σ' H' → ∃ m', m' < m ∧ W (i + 1) m' σ' H') ∧ ∀ x H', (Itek K a k0).yld i H x H' → g x σ H' fun σ2 H2 => tb { D with nx := N, ct := N, bk := D.nx } σ2 H2) := by
  refine ⟨fun i m σ H => m = xs.length - i ∧ i ≤ xs.length ∧ Pv i σ H, ⟨xs.length, by simp, Nat.zero_le _, h0⟩, ?_⟩
  rintro i m σ H ⟨rfl, hi, p⟩
  have q := hl i σ H hi p
  by_cases hlt : i < xs.length
  · refine .inr ⟨⟨xs, xs[i], q, by simp [hlt]⟩, Pv (i + 1), fun σ' H' p' => ⟨xs.length - (i + 1), by omega, rfl, hlt, p'⟩, fun v H' y => ?_⟩
    obtain ⟨T, x, hx, hT, rfl, rfl⟩ := y
    exact hs i x T σ _ (hx xs q) p hT
  · have e : i = xs.length := by omega
    subst e
    exact .inl ⟨⟨xs, q, rfl⟩, hd σ H p⟩
end L2
namespace L2
open PySem PySem.Spec PyProof.Rows
/-! ### lists of pairs as tables -/
section
variable {κ : Type} [DecidableEq κ]
end


/-! ### a tracked dict, its keys ints and texts or tuples of these -/
section
variable {P : Program} {w : World} {H : Hp} {h : Heap} {a : Addr}
end

section
variable {X : Cx} {pins : List (Addr × Obj)} {σ : St} {H : Hp} {s : Shared} {a : Addr} {y v : V} {u r : Value} {o : Option V} {A : Around} {E : Value → Shared → Prop}


end

section
variable {X : Cx} {pins : List (Addr × Obj)} {σ : St} {H : Hp} {s : Shared} {a : Addr} {kvs : List (Key × V)} {k : Key} {u : Value} {A : Around} {E : Value → Shared → Prop}
end


/-! ### readings and rules -/
section
variable {X : Cx} {o i e value : Expr} {pos pos' tpos : Pos} {td ty tv : TE}
end
section
variable {X : Cx} {pos : Pos}
end
end L2
/-! EvDq: dicts with tuples as keys, data in a list and its place. Behind the dict part of the layer (mk.py's dictpart). -/
namespace L2
open PySem PySem.Spec PyProof.Rows
section
variable {X : Cx} {o i value : Expr} {pos pos' : Pos} {td ty tv : TE}
end
end L2
/-! EvDit: a dict with numbers as keys: made, walked while it is frozen, asked with a default. Behind EvDq. -/
namespace L2
open PySem PySem.Spec PyProof.Rows
section
variable {X : Cx} {o e : Expr} {es : List Expr} {to : TE} {t : TA} {apos cpos : Pos}
end
end L2
/-! EvVal: functions as values, a try whose clause has no name, () + t. Behind EvDit. -/
namespace L2
open PySem PySem.Spec PyProof.Rows
end L2
/-! EvRev: t[::-1] and reversed(t) of a tuple t. Behind EvLay. -/
namespace L2
open PySem PySem.Spec PyProof.Rows
section
variable {prog : Program} {w : World} {A : Around} {E : Value → Shared → Prop} {s : Shared}
end
/-! ### reversed(t) -/
theorem rv_slot_next : Slot "reversed" "__next__" "reversed.__next__" := .of (owner := "reversed") (n := "__next__") (by rw [typeLookup_type, builtinLookup_eq_fast]; kernel_rfl) (by decide +kernel) (by decide +kernel) (by decide +kernel) (by first | exact .inl (by decide +kernel) | exact .inr (by decide +kernel)) (by rw [isSubtype_type]; kernel_rfl)
theorem rv_slot_iter : Slot "reversed" "__iter__" "reversed.__iter__" := .of (owner := "reversed") (n := "__iter__") (by rw [typeLookup_type, builtinLookup_eq_fast]; kernel_rfl) (by decide +kernel) (by decide +kernel) (by decide +kernel) (by first | exact .inl (by decide +kernel) | exact .inr (by decide +kernel)) (by rw [isSubtype_type]; kernel_rfl)
theorem rv_entry_next : entryFor table "reversed.__next__" = some Builtin.«reversed.__next__» := entryFor_of_tree (by kernel_rfl)
theorem rv_entry_iter : entryFor table "reversed.__iter__" = some Builtin.«dict_keyiterator.__iter__» := entryFor_alias (id' := "dict_keyiterator.__iter__") (by kernel_rfl) (by first | rfl | decide +kernel | (unfold String.splitOn; simp +decide [String.splitOnAux])) (by decide +kernel) (by kernel_rfl)
theorem rv_args_next (a : Value) : argsOk "reversed.__next__" ⟨[a], []⟩ := by unfold argsOk; kernel_rfl
theorem rv_args_iter (a : Value) : argsOk "reversed.__iter__" ⟨[a], []⟩ := by unfold argsOk; kernel_rfl
theorem rv_no_tuple : typeLookup (.type "tuple") "__reversed__" = pure none := by rw [typeLookup_type, builtinLookup_eq_fast]; kernel_rfl
theorem rv_sub_tuple : isSubtype (.type "tuple") (.type "dict") = pure false := by rw [isSubtype_type]; kernel_rfl
theorem rv_slot_init : Slot "reversed" "__init__" "object.__init__" := .of (owner := "object") (n := "__init__") (by rw [typeLookup_type, builtinLookup_eq_fast]; kernel_rfl) (by decide +kernel) (by decide +kernel) (by decide +kernel) (by first | exact .inl (by decide +kernel) | exact .inr (by decide +kernel)) (by rw [isSubtype_type]; kernel_rfl)
theorem rv_called : TypeCalled "reversed" "reversed.__new__" "object.__init__" := ⟨by decide +kernel, by decide +kernel, ⟨_, _, PySem.F.mro_reversed⟩, PySem.F.made_reversed, by decide +kernel, by rw [isSubtype_type]; kernel_rfl, rv_slot_init⟩
/-- the walker of reversed(t), due to give the item at i -/
def IsRvT (h : Heap) (it l : Addr) (i : Int) : Prop := ∃ o, h.get? it = some o ∧ o.cls = .type "reversed" ∧ o.data = .fields #[.ref l, rawInt i]
def rvObj (l : Addr) (i : Int) : Obj := { cls := .type "reversed", data := .fields #[.ref l, rawInt i] }
section
variable {prog : Program} {w : World} {A : Around} {E : Value → Shared → Prop} {s : Shared}
theorem IsRvT.ty {it l : Addr} {i : Int} (x : IsRvT s.heap it l i) : s.TypeIs (.ref it) "reversed" := let ⟨o, e, c, _⟩ := x; ⟨o, e, c⟩
theorem rv_new {l : Addr} {items : Array Value} {Q₁ : Value → Shared → Prop} (hl : IsTup s.heap l items) (hz : items.size ≤ sizeLine)
    (h : ∀ tk, Q₁ (.ref s.heap.objs.size) { s with heap := s.heap.push (rvObj l ((items.size : Int) - 1)), toks := tk }) :
    codeAny (model prog w) A (.call (.builtin "reversed.__new__") ⟨[.type "reversed", .ref l], []⟩) (wants Q₁ E) s := by
  have hn := line63
  refine codeAny_of_tree ?_
  show wpAny _ A.in1 (do checkBuiltinCall "reversed.__new__" ⟨[.type "reversed", .ref l], []⟩; again (.builtin "reversed.__new__" ⟨[.type "reversed", .ref l], []⟩)) _ _ s
  refine wpAny_bind (wpAny_of_eq (PySem.F.newCall_reversed_1 _) (wpAny_pure ⟨plainId_quiet PySem.F.plain_reversed_new _, codeAny_builtin PySem.F.entry_reversed_new ?_⟩))
  rw [Around.under_plainId PySem.F.plain_reversed_new _]
  unfold Builtin.«reversed.__new__»
  refine wpAny_bind (wpAny_of_eq (PySem.newClass_reversed _) ?_)
  try dsimp only
  refine wpAny_bind (wpAny_of_eq (a := ()) (by first | rfl | kernel_rfl) (wpAny_bind (wpAny_of_eq (a := ()) (by first | rfl | kernel_rfl) ?_)))
  try dsimp only
  refine wpAny_bind (wpAny_specialOf hl.typeIs rv_no_tuple ?_)
  try dsimp only
  refine wpAny_bind ?_
  show wpAny _ _ (isInstance (.ref l) (.type "dict") >>= _) _ _ s
  refine wpAny_bind (wpAny_isInstance hl.typeIs rv_sub_tuple ?_)
  try dsimp only
  rw [if_neg (by decide)]
  refine wpAny_bind (wpAny_specialOf hl.typeIs PyProof.Rows.slot_tuple_getitem.lookup ?_)
  try dsimp only
  rw [if_pos (by decide +kernel)]
  refine wpAny_pure ?_
  try dsimp only
  rw [if_neg (by decide)]
  refine wpAny_bind (len_tuple hl (by omega) ?_)
  show wpAny _ _ (pure (some (items.size : Int)) >>= _) _ _ _
  refine wpAny_bind (wpAny_pure ?_)
  try dsimp only
  show wpAny _ _ (newObj (.type "reversed") (.fields #[.ref l, rawInt ((items.size : Int) - 1)]) >>= _) _ _ _
  refine wpAny_bind (wpAny_newObj_type ?_ (by size_fits))
  first
  | exact wpAny_pure (h _)
  | exact wpAny_bind (wpAny_pure (wpAny_pure (h _)))
theorem rv_call {l : Addr} {items : Array Value} {Q : Value → Shared → Prop} (hl : IsTup s.heap l items) (hz : items.size ≤ sizeLine)
    (h : ∀ tk, Q (.ref s.heap.objs.size) { s with heap := s.heap.push (rvObj l ((items.size : Int) - 1)), toks := tk }) : wpAny (model prog w) A (call (.type "reversed") [.ref l]) Q E s := by
  refine callType_codes (T := "reversed") (Bi := Builtin.«object.__init__») (Q₁ := fun r s₁ => r = .ref s.heap.objs.size ∧ ∃ tk, s₁ = { s with heap := s.heap.push (rvObj l ((items.size : Int) - 1)), toks := tk }) rv_called (PySem.F.typeCall_reversed_1 _) PySem.F.entry_object_init
    (rv_new hl hz fun tk => ⟨rfl, tk, rfl⟩) ?_
  rintro obj s₁ ⟨rfl, tk, rfl⟩
  have hT : ({ s with heap := s.heap.push (rvObj l ((items.size : Int) - 1)), toks := tk } : Shared).TypeIs (.ref s.heap.objs.size) "reversed" := ⟨_, Heap.get?_push_size _ rfl, rfl⟩
  exact ⟨hT, PySem.F.args_object_init_2 _ _, object_init_meets rv_called.init.lookup rv_called.made (by decide) prog w A.in1 _ _ ⟨hT, rfl, h tk⟩⟩
theorem rv_next {it l : Addr} {i : Nat} {items : Array Value} {x : Value} {Q : Option Value → Shared → Prop} (hit : IsRvT s.heap it l (i : Int)) (hl : IsTup s.heap l items) (hx : items[i]? = some x) (hz : items.size ≤ sizeLine)
    (hQ : ∀ h' tk, IsRvT h' it l ((i : Int) - 1) → Heap.SameBut it s.heap h' → Q (some x) { s with heap := h', toks := tk }) : wpAny (model prog w) A (pyNext (.ref it)) Q E s := by
  have hn := line63
  obtain ⟨o, ho, hc, hd⟩ := id hit
  have hi : i < items.size := (Array.getElem?_eq_some_iff.mp hx).1
  unfold pyNext
  refine wpAny_bind (wpAny_attempt (wpAny_callSpecial?_slot (name := Str.ofString "__next__") hit.ty rv_slot_next (wpAny_call_entry rv_slot_next hit.ty rv_entry_next ?_ (rv_args_next _))))
  unfold Builtin.«reversed.__next__»
  refine wpAny_bind (wpAny_of_eq (a := (Value.ref it, [])) rfl ?_)
  try dsimp only
  refine wpAny_bind (wpAny_field ho hd (x := .ref l) rfl (wpAny_bind (wpAny_field ho hd (x := rawInt (i : Int)) rfl ?_)))
  show wpAny _ _ (if (i : Int) < 0 then _ else _) _ _ s
  rw [if_neg (by omega)]
  refine wpAny_bind (wpAny_specialOf hl.typeIs PyProof.Rows.slot_tuple_getitem.lookup ?_)
  try dsimp only
  rw [if_neg (by decide)]
  refine wpAny_bind (wpAny_mkInt ?_)
  have hsq : seqIndex? (i : Int) items.size = some i := by
    unfold seqIndex?
    simp
    omega
  refine wpAny_bind (wpAny_attempt (PyProof.Rows.getItem_tuple (s := { s with toks := s.toks + 1 }) (k := (i : Int)) (j := i) hl (by omega) (by omega) hsq hx ?_))
  try dsimp only
  refine wpAny_bind (wpAny_field (s := { s with toks := s.toks + 1 }) ho hd (x := rawInt (i : Int)) rfl ?_)
  show wpAny _ _ (setField (.ref it) 1 (rawInt ((i : Int) - 1)) >>= _) _ _ _
  refine wpAny_bind (wpAny_setField (s := { s with toks := s.toks + 1 }) ho hd (by simp) ?_)
  have hend : Q (some x) { s with heap := s.heap.update it (Obj.mapFields fun vs => vs.setIfInBounds 1 (rawInt ((i : Int) - 1))), toks := s.toks + 1 } := hQ _ _ ⟨_, Heap.get?_update_self _ ho (Obj.isFreed_of_fields (Obj.data_mapFields hd _)), (Obj.cls_mapFields ..).trans hc, by rw [Obj.data_mapFields hd]; simp⟩ (Heap.SameBut.update ..)
  first
  | exact wpAny_pure ⟨x, rfl, wpAny_pure hend⟩
  | exact wpAny_bind (wpAny_pure (wpAny_pure ⟨x, rfl, wpAny_pure hend⟩))
theorem rv_end {it l : Addr} {Q : Option Value → Shared → Prop} (hh : A.handled = none) (hit : IsRvT s.heap it l (-1)) (hQ : ∀ h', Heap.ExtBut it s.heap h' → Q none { s with heap := h' }) : wpAny (model prog w) A (pyNext (.ref it)) Q E s := by
  obtain ⟨o, ho, hc, hd⟩ := id hit
  unfold pyNext
  refine wpAny_bind (wpAny_attempt (wpAny_callSpecial?_slot (name := Str.ofString "__next__") hit.ty rv_slot_next (wpAny_call_entry rv_slot_next hit.ty rv_entry_next ?_ (rv_args_next _))))
  unfold Builtin.«reversed.__next__»
  refine wpAny_bind (wpAny_of_eq (a := (Value.ref it, [])) rfl ?_)
  try dsimp only
  refine wpAny_bind (wpAny_field ho hd (x := .ref l) rfl (wpAny_bind (wpAny_field ho hd (x := rawInt (-1)) rfl ?_)))
  show wpAny _ _ (if (-1 : Int) < 0 then _ else _) _ _ s
  rw [if_pos (by decide)]
  refine wpAny_bind (wpAny_rule ?_)
  refine wpAny_bind ?_
  show wpAny _ _ (setField (.ref it) 1 (rawInt (-1)) >>= fun _ => setField (.ref it) 0 .none) _ _ s
  refine wpAny_bind (wpAny_setField ho hd (by simp) ?_)
  have ho2 : (s.heap.update it (Obj.mapFields fun vs => vs.setIfInBounds 1 (rawInt (-1)))).get? it = some (Obj.mapFields (fun vs => vs.setIfInBounds 1 (rawInt (-1))) o) := Heap.get?_update_self _ ho (Obj.isFreed_of_fields (Obj.data_mapFields hd _))
  refine wpAny_setField (s := { s with heap := s.heap.update it (Obj.mapFields fun vs => vs.setIfInBounds 1 (rawInt (-1))) }) ho2 (Obj.data_mapFields hd _) (by simp) ?_
  have hb : Heap.ExtBut it s.heap ((s.heap.update it (Obj.mapFields fun vs => vs.setIfInBounds 1 (rawInt (-1)))).update it (Obj.mapFields fun vs => vs.setIfInBounds 0 .none)) := fun b u hne e => by
    rw [(Heap.SameBut.update ..).2 b hne, (Heap.SameBut.update ..).2 b hne]
    exact e
  generalize (s.heap.update it (Obj.mapFields fun vs => vs.setIfInBounds 1 (rawInt (-1)))).update it (Obj.mapFields fun vs => vs.setIfInBounds 0 .none) = h2 at hb ⊢
  refine wpAny_bind ?_
  show wpAny _ _ (newExc (.type "StopIteration") [] >>= fun x => raiseNew x) _ _ _
  refine wpAny_bind ?_
  simp only [newExc, newTuple]
  refine wpAny_bind (wpAny_newObj_type (wpAny_bind (m := firstArgMember _ _) (wpAny_of_eq (a := Value.none) (by first | rfl | (simp only [firstArgMember]; rfl)) (wpAny_newObj_type ?_ (by size_fits)))) (by size_fits))
  simp only [raiseNew]
  refine wpAny_bind (wpAny_handled ?_)
  first | rw [show A.in1.handled = none from hh] | rw [hh]
  refine wpAny_bind (wpAny_pure (wpAny_throw ?out))
  case out => exact wpAny_bind (wpAny_isInstance (T := "StopIteration") (b := true) ⟨_, Heap.get?_push_size _ rfl, rfl⟩ isSubtype_stop (wpAny_pure (hQ _ ((hb.push _).push _))))
theorem rv_iter {it l : Addr} {i : Int} {Q : Value → Shared → Prop} (hit : IsRvT s.heap it l i) (h : Q (.ref it) s) : wpAny (model prog w) A (pyIter (.ref it)) Q E s := by
  refine wpAny_pyIter_slot hit.ty rv_slot_iter (wpAny_call_entry rv_slot_iter hit.ty rv_entry_iter ?_ (rv_args_iter _))
  show wpAny _ _ (ret (.ref it)) _ _ s
  exact wpAny_pure ⟨_, rfl, "reversed", _, hit.ty, rv_slot_next.lookup, h⟩
end
/-- the items of a tuple of n, from behind -/
def ItRv (K : PySem.W.Frag) (a : Addr) (n : Nat) : It :=
  ⟨fun i H => (∃ xs x, SqT K H a xs ∧ xs.length = n ∧ xs.reverse[i]? = some x), fun i H v H' => H' = H ∧ ∀ xs, SqT K H a xs → xs.reverse[i]? = some v, fun i H => ∃ xs, SqT K H a xs ∧ xs.length = n ∧ i = n⟩
theorem turn_rev {P : Program} {w : World} {K : PySem.W.Frag} {tg : Expr} (a it : Addr) (n : Nat) : Turn P w K tg (ItRv K a n) [it] it (fun i h => IsRvT h it a ((n : Int) - 1 - (i : Int))) where
  mem := by simp
  obj := fun i h st b hb => by
    have e : b = it := by simpa using hb
    subst e
    obtain ⟨o, e, c, d⟩ := st
    exact ⟨o, e, fun v z => by rw [d] at z; cases z⟩
  keep := fun i h h' st k => let ⟨o, e, r⟩ := st; ⟨o, k it (by simp) o e, r⟩
  item := by
    intro X hP hw hK hc i pins s σ H E I hf st hg
    subst hP hw hK
    obtain ⟨xs, x, hq, hn, hx⟩ := hg
    obtain ⟨its, rv, p, hz⟩ := I.tuple hq
    have hlt : i < xs.length := by
      have := (List.getElem?_eq_some_iff.mp hx).1
      rwa [List.length_reverse] at this
    have hx' : xs[xs.length - 1 - i]? = some x := by rw [← hx, List.getElem?_reverse hlt]
    obtain ⟨u, hu, ru⟩ := rv.get hx'
    have hl := rv.length
    obtain ⟨f0, f1, f2, f3, f4, f5⟩ := hf it (by simp)
    have st2 : IsRvT s.heap it a ((xs.length - 1 - i : Nat) : Int) := by
      have e : ((xs.length - 1 - i : Nat) : Int) = (n : Int) - 1 - (i : Int) := by omega
      rw [e]
      exact st
    refine rv_next st2 p (x := u) (by simpa using hu) (by rw [List.size_toArray]; omega) fun h' tk st' sb => ?_
    have I1 : Inv X pins σ H { s with heap := h', toks := tk } := I.turned (t' := tk) (fun b o hb e => (sb.2 b hb).trans e) f0 f1 f3 f4 f5
    obtain ⟨o, e, c, d⟩ := id st'
    refine ⟨u, rfl, go_of (s := { s with heap := h', toks := tk }) e c d (by decide) ⟨x, H, I1, ru, ⟨rfl, fun ys hy => by rw [I.tuple_inj hy hq]; exact hx⟩, ?_, fun b hb => (hf b hb).1⟩⟩
    have e2 : ((xs.length - 1 - i : Nat) : Int) - 1 = (n : Int) - 1 - ((i + 1 : Nat) : Int) := by omega
    rw [e2] at st'
    exact st'
  done := by
    intro X hP hw hK hc i pins s σ H E I hf st hg
    subst hP hw hK
    obtain ⟨xs, hq, hn, hi⟩ := hg
    obtain ⟨f0, f1, f2, f3, f4, f5⟩ := hf it (by simp)
    have st2 : IsRvT s.heap it a (-1) := by
      have e : (-1 : Int) = (n : Int) - 1 - (i : Int) := by omega
      rw [e]
      exact st
    exact rv_end (I.ok.hd hc) st2 fun h' eb => ⟨rfl, I.turned (t' := s.toks) (fun b o hb e => eb b o hb e) f0 f1 f3 f4 f5⟩
  self := fun _ _ _ _ _ st h => rv_iter st h
def iRevT (K : PySem.W.Frag) (ta : TA) : TI := fun σ H R => ta σ H fun vs H1 => ∃ a xs, vs = [.ref a] ∧ SqT K H1 a xs ∧ R (ItRv K a xs.length) H1
theorem pi_revT {X : Cx} {tg a : Expr} {ta : TA} {p pos : Pos} (hg : Gl X "reversed") (hm : X.mg "reversed" = none) (ha : PA X [a] ta) (hs : starEach [a] X.env = [(false, eval a X.env)] := by rfl) : PI X tg (.Call (.Name "reversed" p) [a] [] pos) (iRevT X.K ta) := by
  intro pins s σ H R I h
  refine Call_ (ld_blt I hg hm (show bootBuiltins "reversed" = some (.type "reversed") by decide +kernel) (PyProof.Rows.callWith_type1 (thn (ha pos pins s σ H _ I h) fun us s1 ⟨vs, H1, I1, r1, q1⟩ => ?_) (by rw [hs]; rfl) (by rfl)))
  obtain ⟨a, xs, e, hq, q⟩ := q1
  subst e
  obtain ⟨u, rfl, rx⟩ := vals1 r1
  cases rx
  obtain ⟨its, rv, pl, hz⟩ := I1.tuple hq
  have hlen := rv.length
  refine rv_call pl (by rw [List.size_toArray]; omega) fun tk => ?_
  have I2 : Inv X pins σ H1 { s1 with heap := s1.heap.push (rvObj a ((its.toArray.size : Int) - 1)), toks := tk } := I1.kept (t' := tk) fun b o q => Heap.get?_push_of_some _ q
  have hrv : IsRvT (s1.heap.push (rvObj a ((its.toArray.size : Int) - 1))) s1.heap.objs.size a ((xs.length : Int) - 1 - ((0 : Nat) : Int)) := ⟨_, Heap.get?_push_size _ rfl, rfl, by show Data.fields #[.ref a, rawInt ((its.toArray.size : Int) - 1)] = _; rw [List.size_toArray, ← hlen]; simp⟩
  refine rv_iter (s := { s1 with heap := s1.heap.push (rvObj a ((its.toArray.size : Int) - 1)), toks := tk }) hrv ?_
  refine ⟨s1.heap.objs.size, [s1.heap.objs.size], _, _, H1, rfl, I2, turn_rev a _ xs.length, hrv, fun b hb => ?_, q⟩
  rw [List.mem_singleton.mp hb]
  exact I1.fpOk (Nat.le_refl _) (I1.hok.fresh (Nat.le_refl _))
theorem qi_revT {X : Cx} {tg a : Expr} {ta : TA} {p pos : Pos} (hg : Gl X "reversed") (hm : X.mg "reversed" = none) (ha : QA X [a] ta) (hs : starEach [a] X.env = [(false, eval a X.env)] := by rfl) : QI X tg (.Call (.Name "reversed" p) [a] [] pos) (iRevT X.K ta) := ⟨pi_revT hg hm ha.h hs⟩
theorem for_rev {K : PySem.W.Frag} {a : Addr} {xs : List V} {g : TG} {tb : TS} {D : Ends} {σ : St} {H : Hp} (Pv : Nat → St → Hp → Prop) (h0 : Pv 0 σ H) (hl : ∀ i σ H, i ≤ xs.length → Pv i σ H → SqT K H a xs)
    (hs : ∀ i x σ H, xs.reverse[i]? = some x → Pv i σ H → g x σ H fun σ2 H2 => tb { D with nx := Pv (i + 1), ct := Pv (i + 1), bk := D.nx } σ2 H2) (hd : ∀ σ H, Pv xs.length σ H → D.nx σ H) :
    ∃ W : Nat → Nat → St → Hp → Prop, (∃ m, W 0 m σ H) ∧ ∀ i m σ H, W i m σ H →
      ((ItRv K a xs.length).stop i H ∧ D.nx σ H) ∨ ((ItRv K a xs.length).go i H ∧ ∃ N : St → Hp → Prop, (∀ σ' H', N σ' H' → ∃ m', m' < m ∧ W (i + 1) m' σ' H') ∧ ∀ x H', (ItRv K a xs.length).yld i H x H' → g x σ H' fun σ2 H2 => tb { D with nx := N, ct := N, bk := D.nx } σ2 H2) := by
  refine ⟨fun i m σ H => m = xs.length - i ∧ i ≤ xs.length ∧ Pv i σ H, ⟨xs.length, by simp, Nat.zero_le _, h0⟩, ?_⟩
  rintro i m σ H ⟨rfl, hi, p⟩
  have q := hl i σ H hi p
  by_cases hlt : i < xs.length
  · refine .inr ⟨⟨xs, xs.reverse[i]'(by rw [List.length_reverse]; exact hlt), q, rfl, List.getElem?_eq_getElem _⟩, Pv (i + 1), fun σ' H' p' => ⟨xs.length - (i + 1), by omega, rfl, hlt, p'⟩, fun v H' y => ?_⟩
    obtain ⟨rfl, hx⟩ := y
    exact hs i v σ _ (hx xs q) p
  · have e : i = xs.length := by omega
    subst e
    exact .inl ⟨⟨xs, q, rfl, rfl⟩, hd σ H p⟩
end L2
/-! EvCls: own classes: fields, methods, makings, as rules with the promise bundled. Behind EvLay. -/
namespace L2
open PySem PySem.Spec PyProof.Rows
/-- a method's promise -/
def Mp (P : Program) (w : World) (K : PySem.W.Frag) (mg : Str → Option Value) (base : Heap) (CX : CXT) (k : Nat) (C : Addr) (m : Str) (ps : List Str) (sp : Sp) : Prop :=
  ∃ (f : Addr) (fd : FuncData), Meth K C m f ∧ Binds K fd ps [] ∧ FnOk P w K mg base CX k f fd ps sp
section
variable {X : Cx} {CX : CXT} {k : Nat} {C : Addr} {m : Str} {ps : List Str} {sp : Sp} {E : XK} {pos apos : Pos} {e o : Expr} {es : List Expr} {ta : TE} {t : TA}
theorem qe_methP {pl : Sem Bool} (h : Mp X.prog X.w X.K X.mg X.base CX k C m ps sp) (c : Cls X.K C) (hr : Room k X.A) (he : QE X o ta) (hx : Passes CX X E) (ha : QA X (e :: es) t)
    (hst : starEach (e :: es) X.env = (false, eval e X.env) :: starEach es X.env := by rfl) (hpl : (backTo pos (starEach es X.env)).any (·.1) = false := by rfl)
    (ht : eval (.Call (.Attribute o m apos) (e :: es) [] pos) X.env = (do
      let ov ← eval o X.env; standAt apos.atName; let (f, first) ← holding [ov] (getMethod ov m pl)
      callWith pos f first (backTo pos (starEach (e :: es) X.env)) (backToKw pos (keywordEach [] X.env))) := by rfl) :
    QE X (.Call (.Attribute o m apos) (e :: es) [] pos) (tMeth C m sp [] E ta t) := by
  obtain ⟨f, fd, hm, hb, F⟩ := h
  exact ⟨pe_meth he.h c hm F hr hb .nil hx ha.h hst hpl ht⟩
theorem qe_methP0 {pl : Sem Bool} (h : Mp X.prog X.w X.K X.mg X.base CX k C m ps sp) (c : Cls X.K C) (hr : Room k X.A) (he : QE X o ta) (hx : Passes CX X E)
    (ht : eval (.Call (.Attribute o m apos) [] [] pos) X.env = (do
      let ov ← eval o X.env; standAt apos.atName; let (f, first) ← holding [ov] (getMethod ov m pl)
      callWith pos f first (backTo pos (starEach [] X.env)) (backToKw pos (keywordEach [] X.env))) := by rfl) :
    QE X (.Call (.Attribute o m apos) [] [] pos) (tMeth C m sp [] E ta tNil) := by
  obtain ⟨f, fd, hm, hb, F⟩ := h
  exact ⟨pe_meth0 he.h c hm F hr hb .nil hx ht⟩
/-- a class's making -/
def Mkp (P : Program) (w : World) (K : PySem.W.Frag) (mg : Str → Option Value) (base : Heap) (CX : CXT) (k : Nat) (x : Str) (C : Addr) (ps : List Str) (sp : Sp) : Prop :=
  ∃ (f : Addr) (fd : FuncData), mg x = some (.ref C) ∧ Mk K C f ∧ Binds K fd ps [] ∧ FnOk P w K mg base CX k f fd ps sp
theorem qe_makeP {x : Str} {p : Pos} (h : Mkp X.prog X.w X.K X.mg X.base CX k x C ps sp) (hr : Room (k + 1) X.A) (hg : Gl X x) (hx : Passes CX X E) (ha : QA X (e :: es) t) (hdb : (x == ("__debug__" : Str)) = false := by decide)
    (he : starEach (e :: es) X.env = (false, eval e X.env) :: starEach es X.env := by rfl) (hpl : (backTo pos (starEach es X.env)).any (·.1) = false := by rfl) : QE X (.Call (.Name x p) (e :: es) [] pos) (tMake C sp [] E t) := by
  obtain ⟨f, fd, hm, M, hb, F⟩ := h
  exact ⟨pe_make M F hr hg hm hb .nil hx ha.h hdb he hpl⟩
end
end L2
/-! EvTr: tuple(range(i, j)). Behind EvLay. -/
namespace L2
open PySem PySem.Spec PyProof.Rows
section
variable {prog : Program} {w : World} {A : Around} {E : Value → Shared → Prop} {s : Shared}
end
end L2
namespace L2
open PySem PySem.Spec PyProof.Rows
section
variable {X : Cx} {pins : List (Addr × Obj)} {σ : St} {H : Hp} {s : Shared}
/-- the clause's name goes, the others stay -/
theorem name_goneK {n : Str} {i : Nat} {pos : Pos} {Q : Unit → Shared → Prop} {E : Value → Shared → Prop} (I : Inv X pins σ H s) (hN : X.N.Nodup) (hi : X.N[i]? = some n) (hl : X.env.scope.names.lookup n = some .local) (h : ∀ s', Inv X pins (σ.set i none) H s' → Q () s') :
    wpAny (model X.prog X.w) X.A (do bindName X.env n .none; unbindBehindTheSuite X.env n pos) Q E s := by
  obtain ⟨m, hn, hrel⟩ := I.loc
  refine wpAny_nameGoes_keeps hl hn (by rw [I.ok.kind]; rfl) fun h' v0 hn' hs => h _ ?_
  have k : ∀ b o, b ≠ X.env.locals → s.heap.get? b = some o → h'.get? b = some o := fun b o hb e => (hs.2 b hb).trans e
  have cellK : ∀ c v, c ≠ X.env.locals → s.heap.IsCell c v → h'.IsCell c v := fun c v hc z => z.sameBut hs hc
  have nL : ∀ b o, X.s₀.heap.get? b = some o → b ≠ X.env.locals := fun b o e => Nat.ne_of_lt (Nat.lt_of_lt_of_le (Heap.lt_size e) I.ok.above)
  refine ⟨I.ok, I.os, I.bare, ⟨fun b o e n' hb hx => k b o (nL b o e) (I.base.keep b o e n' hb hx), fun b o e n' hb hx => ?_, I.base.free, fun b o e hx => ?_, I.base.tups, I.base.frzs, I.base.tbls⟩, ⟨_, hn', fun j x v e1 e2 e3 => ?_⟩, fun x c e => ?_, I.free, I.freeC, fun p hp => ?_, fun a o e => ?_, by rw [List.length_set]; exact I.len⟩
  · obtain ⟨sl, e1⟩ := I.base.slot b o e n' hb hx
    exact ⟨sl, k b _ (nL b o e) e1⟩
  · obtain ⟨o', e1⟩ := I.base.there b o e hx
    exact ⟨o', k b o' (nL b o e) e1⟩
  · have hji : j ≠ i := fun z => by
      rw [z] at e2
      by_cases hlt : i < σ.length
      · rw [List.getElem?_set_self hlt] at e2
        cases e2
      · rw [List.getElem?_eq_none (by rw [List.length_set]; omega)] at e2
        cases e2
    rw [List.getElem?_set_ne (Ne.symm hji)] at e2
    obtain ⟨u, r, lk⟩ := hrel j x v e1 e2 e3
    have hxn : x ≠ n := fun z => by
      subst z
      obtain ⟨h1, g1⟩ := List.getElem?_eq_some_iff.mp e1
      obtain ⟨h2, g2⟩ := List.getElem?_eq_some_iff.mp hi
      exact hji ((List.getElem_inj hN).mp (g1.trans g2.symm))
    refine ⟨u, r, ?_⟩
    rcases lk with ⟨l1, l2⟩ | ⟨l1, c, l2, l3⟩
    · exact .inl ⟨l1, (if_neg hxn).trans l2⟩
    · exact .inr ⟨l1, c, l2, cellK c _ (I.cne x c l2) l3⟩
  · obtain ⟨v, z⟩ := I.cell x c e
    exact ⟨v, cellK c v (I.cne x c e) z⟩
  · obtain ⟨e, n', ne, r⟩ := I.pin p hp
    exact ⟨k _ _ ne e, n', ne, r⟩
  · refine (I.hok a o e).stay (fun b u hb q => k b u (fun z => ?_) q) (fun _ q => q) fun _ _ q => q
    have n' := I.free
    rcases hb with rfl | hb
    · rw [z, n'] at e; cases e
    · rw [z, n'] at hb; cases hb
end
/-- what stands behind the clause: its name is gone -/
def Ends.gone (D : Ends) (i : Nat) : Ends := { nx := fun σ H => D.nx (σ.set i none) H, rt := D.rt, bk := fun σ H => D.bk (σ.set i none) H, ct := fun σ H => D.ct (σ.set i none) H }
end L2
/-! EvTr3: tuple(range(i, j, k)). Behind EvTr. -/
namespace L2
open PySem PySem.Spec PyProof.Rows
end L2
/-! EvRin: a number in a range that is just made. Behind EvLay. -/
namespace L2
open PySem PySem.Spec PyProof.Rows
end L2
/-! EvXi: refusals whose class has its own __init__: the making, the base's __init__, a field set and read, the raise (on the model's level). Behind Layer. -/
namespace PySem
open PySem.Spec PyProof.Rows
/-- a refusal has left a frame, and its own dict is the same -/
def LeftD (base : Heap) (l : List Env) (e : Addr) (cls a0 : Value) (dx : Option Addr) (h h' : Heap) : Prop := base.LeftW l e cls a0 h h' ∧ ∃ oe, h'.get? e = some oe ∧ oe.dict = dx
theorem mapFields_dict (f : Array Value → Array Value) (o : Obj) : (Obj.mapFields f o).dict = o.dict := by
  unfold Obj.mapFields
  split <;> rfl
theorem left_of {base h h1 : Heap} {l : List Env} {e : Addr} {oe : Obj} {vs : Array Value} {a0 : Value} {dx : Option Addr} {tb : Obj} {ts : Array Value} (hl : h.FunFrames base l) (he : h.get? e = some oe) (hkb : base.StaysIn h) (hen : base.get? e = none) (hd : oe.data = .fields vs) (hsz : 1 < vs.size) (h0 : vs[0]? = some a0) (hdx : oe.dict = dx)
    (S : Heap.SlotsOnly (List.filterMap (fun x => x.frame) l) h h1) (ht : tb.data = .fields ts) (h3 : 3 < ts.size) :
    LeftD base l e oe.cls a0 dx h (((h1.push tb).update e (Obj.mapFields fun x => x.setIfInBounds 1 (.ref h1.objs.size))).update h1.objs.size (Obj.mapFields fun x => x.setIfInBounds 3 .none)) := by
  have hene : e ∉ List.filterMap (fun x => x.frame) l := fun hm => by
    obtain ⟨_, o, ho, hnf⟩ := hl.mem hm
    rw [he] at ho
    cases ho
    exact hnf vs hd
  have he1 : h1.get? e = some oe := (S.2.1 e hene).trans he
  have he2 := Heap.get?_push_of_some tb he1
  have hTe : h1.objs.size ≠ e := Nat.ne_of_gt (Heap.lt_size he1)
  have hd3 := Obj.data_mapFields hd fun x => x.setIfInBounds 1 (.ref h1.objs.size)
  have he3 := Heap.get?_update_self (Obj.mapFields fun x => x.setIfInBounds 1 (.ref h1.objs.size)) he2 (Obj.isFreed_of_fields hd3)
  have hT2 : (h1.push tb).get? h1.objs.size = some tb := Heap.get?_push_size h1 (Obj.isFreed_of_fields ht)
  have hT3 : ((h1.push tb).update e (Obj.mapFields fun x => x.setIfInBounds 1 (.ref h1.objs.size))).get? h1.objs.size = some tb := (Heap.get?_update_other _ _ (Ne.symm hTe)).trans hT2
  have hdT := Obj.data_mapFields ht fun x => x.setIfInBounds 3 .none
  have hT4 := Heap.get?_update_self (Obj.mapFields fun x => x.setIfInBounds 3 .none) hT3 (Obj.isFreed_of_fields hdT)
  have he4 : (((h1.push tb).update e (Obj.mapFields fun x => x.setIfInBounds 1 (.ref h1.objs.size))).update h1.objs.size (Obj.mapFields fun x => x.setIfInBounds 3 .none)).get? e = some (Obj.mapFields (fun x => x.setIfInBounds 1 (.ref h1.objs.size)) oe) := (Heap.get?_update_other _ _ hTe).trans he3
  have other : ∀ b o, h1.get? b = some o → b ≠ e → (((h1.push tb).update e (Obj.mapFields fun x => x.setIfInBounds 1 (.ref h1.objs.size))).update h1.objs.size (Obj.mapFields fun x => x.setIfInBounds 3 .none)).get? b = some o := fun b o ho hb => by
    have hbT : h1.objs.size ≠ b := Nat.ne_of_gt (Heap.lt_size ho)
    rw [Heap.get?_update_other _ _ hbT, Heap.get?_update_other _ _ (Ne.symm hb)]
    exact Heap.get?_push_of_some _ ho
  have baseF : ∀ b, b ∈ List.filterMap (fun x => x.frame) l → base.get? b = none := fun b hm => (hl.mem hm).1
  refine ⟨⟨fun b o hbo => ?_, ?_, ?_, fun b o ho hnf => ?_⟩, _, he4, (mapFields_dict _ _).trans hdx⟩
  · have hb : b ≠ e := fun z => by
      rw [z, hen] at hbo
      cases hbo
    refine other b o ?_ hb
    rw [S.2.1 b fun hm => by rw [baseF b hm] at hbo; cases hbo]
    exact hkb b o hbo
  · refine Heap.FunFrames.of_keeps (fun b o ho hnf => ?_) (Heap.FunFrames.of_slotsOnly S hl)
    have hb : b ≠ e := fun z => by
      rw [z, he1] at ho
      cases ho
      exact hnf vs hd
    exact ⟨o, other b o ho hb, rfl⟩
  · refine ⟨_, _, h1.objs.size, _, _, he4, ⟨Obj.cls_mapFields _ _, ?_⟩, hd3, ?_, ?_, hTe, hT4, hdT, ?_⟩
    · rw [Array.getElem?_setIfInBounds_ne (by decide)]
      exact h0
    · rw [Array.getElem?_setIfInBounds_self_of_lt hsz]
    · cases hq : base.get? h1.objs.size with
      | none => rfl
      | some o =>
        have := hkb _ _ hq
        have hlt := Heap.lt_size this
        rw [S.1] at hlt
        exact absurd hlt (Nat.lt_irrefl _)
    · rw [Array.getElem?_setIfInBounds_self_of_lt h3]
  · obtain ⟨sl, hsl⟩ := S.2.2 b o ho
    have hb : b ≠ e := fun z => by
      rw [z, he] at ho
      cases ho
      exact hnf vs hd
    exact ⟨sl, other b _ hsl hb⟩
theorem place_len {L : Nat} {pl : List Value} (h : IsPlace pl) (x : Value) : ([x, Value.ref L, Value.none, rawInt (L : Int), Value.none] ++ if pl.isEmpty = true then List.replicate 6 Value.none else pl).toArray.size = 11 := by
  rcases h with rfl | ⟨a, b, c, d, c9, b10, _, rfl⟩ <;> rfl
theorem note_next {M : Model} {A : Around} {E : Value → Shared → Prop} {s : Shared} {base : Heap} {env : Env} {outer : List Env} {L e T : Addr} {oe oT : Obj} {vs ts : Array Value} {a0 : Value} {dx : Option Addr} {Q : Unit → Shared → Prop} (hfr : A.frames = some (env :: outer)) (hl : s.heap.FunFrames base (env :: outer)) (hf : env.frame = some L) (he : s.heap.get? e = some oe) (hkb : base.StaysIn s.heap) (hen : base.get? e = none) (hd : oe.data = .fields vs) (h1 : vs[1]? = some (.ref T)) (h0 : vs[0]? = some a0) (hdx : oe.dict = dx)
    (hbT : base.get? T = none) (hTe0 : T ≠ e) (hT : s.heap.get? T = some oT) (hdT : oT.data = .fields ts) (h3 : ts[3]? = some .none)
    (h : ∀ h' : Heap, LeftD base (env :: outer) e oe.cls a0 dx s.heap h' → Q () { s with heap := h' }) : wpAny M A (noteFrame (.ref e) env) (fun _ s' => wpAny M A (setFlight (.ref e) none) Q E s') E s := by
  have hsz : 1 < vs.size := (Array.getElem?_eq_some_iff.mp h1).1
  unfold noteFrame
  simp only [hf]
  refine wpAny_bind (wpAny_field he hd h1 ?_)
  rw [if_pos (by rfl)]
  refine wpAny_bind (wpAny_field hT hdT h3 ?_)
  rw [if_neg (by unfold rawInt; intro z; cases z)]
  refine wpAny_bind (wpAny_setField hT hdT (Array.getElem?_eq_some_iff.mp h3).1 ?_)
  have hdT2 := Obj.data_mapFields hdT fun x => x.setIfInBounds 3 .none
  have keep : ∀ b o, b ≠ T → s.heap.get? b = some o → (s.heap.update T (Obj.mapFields fun x => x.setIfInBounds 3 .none)).get? b = some o := fun b o hb ho => (Heap.get?_update_other _ _ (Ne.symm hb)).trans ho
  have he' := keep e oe (Ne.symm hTe0) he
  have hkb' : base.StaysIn (s.heap.update T (Obj.mapFields fun x => x.setIfInBounds 3 .none)) := fun b o hb => keep b o (fun z => by rw [z, hbT] at hb; cases hb) (hkb b o hb)
  have hl' : (s.heap.update T (Obj.mapFields fun x => x.setIfInBounds 3 .none)).FunFrames base (env :: outer) := Heap.FunFrames.of_keeps (fun b o ho hnf => ⟨o, keep b o (fun z => by
    rw [z, hT] at ho
    cases ho
    exact hnf ts hdT) ho, rfl⟩) hl
  have keepN : ∀ b o, s.heap.get? b = some o → (∀ vs : Array Value, o.data ≠ .fields vs) → (s.heap.update T (Obj.mapFields fun x => x.setIfInBounds 3 .none)).get? b = some o := fun b o ho hnf => keep b o (fun z => by
    rw [z, hT] at ho
    cases ho
    exact hnf ts hdT) ho
  replace he := he'
  replace hkb := hkb'
  replace hl := hl'
  clear he' hkb' hl' keep
  generalize s.heap.update T (Obj.mapFields fun x => x.setIfInBounds 3 .none) = hp at he hkb hl keepN ⊢
  refine wpAny_bind (wpAny_frameOf_fun (s := { s with heap := hp }) hfr hl hf fun hh S => wpAny_bind (wpAny_entryPlaceOf fun pl hpl => wpAny_bind ?_))
  unfold EntryCells.newEntry newFields
  have hlen : ∀ x : Value, ([x, Value.ref L, Value.none, rawInt (L : Int), Value.none] ++ if pl.isEmpty = true then List.replicate 6 Value.none else pl).toArray.size = 11 := place_len hpl
  refine wpAny_newObj_type ?_ (by show Array.size _ ≤ sizeLine + 2; rw [hlen]; decide)
  have hene : e ∉ List.filterMap (fun x => x.frame) (env :: outer) := fun hm => by
    obtain ⟨_, o, ho, hnf⟩ := hl.mem hm
    rw [he] at ho
    cases ho
    exact hnf vs hd
  have he1 : hh.get? e = some oe := (S.2.1 e hene).trans he
  refine wpAny_setField (Heap.get?_push_of_some _ he1) hd hsz ?_
  unfold setFlight
  have hd3 := Obj.data_mapFields hd fun x => x.setIfInBounds 1 (.ref hh.objs.size)
  refine wpAny_bind (wpAny_field (Heap.get?_update_self (Obj.mapFields fun x => x.setIfInBounds 1 (.ref hh.objs.size)) (Heap.get?_push_of_some _ he1) (Obj.isFreed_of_fields hd3)) hd3 (Array.getElem?_setIfInBounds_self_of_lt hsz) ?_)
  rw [if_pos (by rfl)]
  have hTe : hh.objs.size ≠ e := Nat.ne_of_gt (Heap.lt_size he1)
  refine wpAny_setField ((Heap.get?_update_other _ _ (Ne.symm hTe)).trans (Heap.get?_push_size hh rfl)) rfl ?_ ?_
  · rw [hlen]
    decide
  · obtain ⟨⟨l1, l2, l3, l4⟩, l5⟩ := left_of hl he hkb hen hd hsz h0 hdx S (tb := { cls := .type "traceback", data := .fields ([Value.ref T, Value.ref L, Value.none, rawInt (L : Int), Value.none] ++ if pl.isEmpty = true then List.replicate 6 Value.none else pl).toArray }) rfl (by rw [hlen]; decide)
    exact h _ ⟨⟨l1, l2, l3, fun b o ho hnf => l4 b o (keepN b o ho hnf) hnf⟩, l5⟩
/-- the flight is noted again: the refusal and its dict are the same -/
theorem land_again {M : Model} {A : Around} {E : Value → Shared → Prop} {s : Shared} {base : Heap} {l : List Env} {e : Addr} {oe : Obj} {cls a0 : Value} {dx : Option Addr} {Q : Unit → Shared → Prop} (F : base.FlyingW l e cls a0 s.heap) (he : s.heap.get? e = some oe) (hdx : oe.dict = dx)
    (h : ∀ h' : Heap, base.FlyingW l e cls a0 h' → s.heap.UpToSlots h' → h'.get? e = some oe → Q () { s with heap := h' }) : wpAny M A (setFlight (.ref e) none) Q E s := by
  obtain ⟨f1, f2, f3, oe2, vs, T, oT, ts, he2, ⟨hc, h0⟩, hd, h1, hbT, hTe, hT, hdT, h3⟩ := F
  rw [he] at he2
  cases he2
  unfold setFlight
  refine wpAny_bind (wpAny_field he hd h1 ?_)
  rw [if_pos (by rfl)]
  have h3s := (Array.getElem?_eq_some_iff.mp h3).1
  have hdT2 := Obj.data_mapFields hdT fun x => x.setIfInBounds 3 .none
  have hT2 := Heap.get?_update_self (Obj.mapFields fun x => x.setIfInBounds 3 .none) hT (Obj.isFreed_of_fields hdT2)
  have keep : ∀ b o, b ≠ T → s.heap.get? b = some o → (s.heap.update T (Obj.mapFields fun x => x.setIfInBounds 3 .none)).get? b = some o := fun b o hb ho => (Heap.get?_update_other _ _ (Ne.symm hb)).trans ho
  have nT : ∀ b o, s.heap.get? b = some o → (∀ vs : Array Value, o.data ≠ .fields vs) → b ≠ T := fun b o ho hnf z => by
    rw [z, hT] at ho
    cases ho
    exact hnf ts hdT
  have he3 := keep e oe (Ne.symm hTe) he
  refine wpAny_setField hT hdT h3s (h _ ⟨fun b o hb => keep b o (fun z => by rw [z, hbT] at hb; cases hb) (f1 b o hb), f2, Heap.FunFrames.of_keeps (fun b o ho hnf => ⟨o, keep b o (nT b o ho hnf) ho, rfl⟩) f3, oe, vs, T, _, _, he3, ⟨hc, h0⟩, hd, h1, hbT, hTe, hT2, hdT2, ?_⟩ (fun b o ho hnf => ⟨o.slots, keep b o (nT b o ho hnf) ho⟩) he3)
  rw [Array.getElem?_setIfInBounds_self_of_lt h3s]
end PySem
/-! EvExd: refusals that may carry a dict of their own: EvExc's forms with the dict's address. Behind EvExc and EvXi. -/
namespace L2
open PySem PySem.Spec PyProof.Rows
/-- as FlyT, the refusal's own dict known -/
structure FlyD (h0 : Heap) (H : Hp) (a T : Addr) (C : Value) (dx : Option Addr) (h : Heap) : Prop where
  na : h0.get? a = none
  fa : H a = none
  nT : h0.get? T = none
  fT : H T = none
  ob : ∃ oe vs a0 oT ts, h.get? a = some oe ∧ oe.cls = C ∧ oe.dict = dx ∧ oe.data = .fields vs ∧ vs[0]? = some a0 ∧ vs[1]? = some (.ref T) ∧ T ≠ a ∧ h.get? T = some oT ∧ oT.data = .fields ts ∧ ts[3]? = some .none
structure FlyE (h0 : Heap) (H : Hp) (a : Addr) (C : Value) (dx : Option Addr) (h : Heap) : Prop where
  na : h0.get? a = none
  fa : H a = none
  ob : ∃ oe vs a0, h.get? a = some oe ∧ oe.cls = C ∧ oe.dict = dx ∧ oe.data = .fields vs ∧ vs[0]? = some a0 ∧ vs[1]? = some .none
def CXD (P : Program) (w : World) : CXT := fun outer H s E e s' => ∃ (a T : Addr) (C : Value) (dx : Option Addr) (H' : Hp), e = .ref a ∧ s'.os = s.os ∧ AllBare s'.gens ∧ Un (frs outer) [] H H' s.heap s'.heap ∧ HOk P w H' s'.heap ∧
  FlyD s.heap H' a T C dx s'.heap ∧ E C dx H'
def XED (X : Cx) (E : XK) : Value → Shared → Prop := fun e s' => ∃ (a : Addr) (C : Value) (dx : Option Addr) (H' : Hp) (σ : St), e = .ref a ∧ Inv X [] σ H' s' ∧ (FlyE X.s₀.heap H' a C dx s'.heap ∨ ∃ T, FlyD X.s₀.heap H' a T C dx s'.heap) ∧ E C dx H'
section
variable {X : Cx} {pins : List (Addr × Obj)} {σ : St} {H H' : Hp} {s s' : Shared}
theorem passED {E : XK} (hex : X.ex = []) : Passes (CXD X.prog X.w) (X.wish (XED X E)) E := fun pins σ H s e s' I q => by
  obtain ⟨a, T, C, dx, H', rfl, os, bare, un, hok, fl, qE⟩ := q
  have I0 : Inv X pins σ H s := I.unwish
  refine ⟨a, C, dx, H', σ, rfl, (I0.call' os un hok bare (fun b z => absurd z (by simp))).nopins, .inr ⟨T, ?_⟩, qE⟩
  exact ⟨I0.new0 hex fl.na, fl.fa, I0.new0 hex fl.nT, fl.fT, fl.ob⟩
end
section
variable {P : Program} {w : World} {K : PySem.W.Frag} {mg : Str → Option Value} {base : Heap} {N : List Str} {qual : Str} {scope : Scope} {f : Addr} {cd : Value} {A : Around} {outer : List Env} {s : Shared} {H : Hp} {E : XK}
end
end L2
/-! EvXin: refusals whose class has its own __init__ with one field: the rules. Behind EvExd. -/
namespace PySem
end PySem
namespace PySem.W
open PySem PySem.Calls PyProof.Rows Builtin Builtin.ObjectAttr Builtin.Getset_descriptor
section
variable {prog : Program} {w : World} {A : Around} {E : Value → Shared → Prop} {s : Shared} {K : Frag} {x C D : Addr} {ox : Obj}
end
end PySem.W
namespace L2
open PySem PySem.Spec PyProof.Rows
section
variable {X : Cx} {pins : List (Addr × Obj)} {σ : St} {H : Hp} {s : Shared}
/-! ### {x!r} -/
/-! ### M.__init__(self, text) -/
/-! ### self.f = v -/
/-! ### the making, the raise -/
end
/-! ### try, one clause with a name; the refusal's dict known -/
/-- a refusal that is known by its class and its own dict -/
def XD (a C : Addr) (dx : Option Addr) : HO := .ext fun h => ∃ o vs, h.get? a = some o ∧ o.cls = .ref C ∧ o.dict = dx ∧ o.data = .fields vs
theorem XD.at {P : Program} {w : World} {H : Hp} {h : Heap} {a C : Addr} {dx : Option Addr} (ok : HOk P w H h) (e : H a = some (XD a C dx)) : ∃ o vs, h.get? a = some o ∧ o.cls = .ref C ∧ o.dict = dx ∧ o.data = .fields vs := (ok a _ e).1
theorem up_trans {h1 h2 h3 : Heap} (a : ∀ (b : Addr) (o : Obj), h1.get? b = some o → (∀ vs : Array Value, o.data ≠ .fields vs) → ∃ sl, h2.get? b = some { o with slots := sl }) (c : h2.UpToSlots h3) : h1.UpToSlots h3 := fun b o ho hnf => by
  obtain ⟨sl, e⟩ := a b o ho hnf
  obtain ⟨sl2, e2⟩ := c b _ e hnf
  exact ⟨sl2, e2⟩
end L2
/-! EvXq: EvXin's rules in short form; a def with a default that is always given. Behind EvXin. -/
namespace L2
open PySem PySem.Spec PyProof.Rows
section
variable {P : Program} {w : World} {K : PySem.W.Frag} {mg : Str → Option Value} {base : Heap} {x qual : Str} {st : Stmt} {f : Addr} {fd : FuncData} {N ps : List Str} {k : Nat} {sp : Sp}
end
section
variable {X : Cx}
end
/-! ### __init__(self, f): M.__init__(self, f'..{f!r}'); self.f = f -/
end L2
/-! EvXl: refusals that leave a loop of the frame in which they are raised. Behind EvXq. -/
namespace PySem
/-- a refusal is noted in a frame, and its own dict is the same -/
def NotedD (base : Heap) (l : List Env) (e : Addr) (cls a0 fl : Value) (dx : Option Addr) (h h' : Heap) : Prop := base.NotedW l e cls a0 fl h h' ∧ ∃ oe, h'.get? e = some oe ∧ oe.dict = dx
theorem noted_of {base h h1 : Heap} {l : List Env} {e : Addr} {oe : Obj} {vs : Array Value} {a0 fl : Value} {dx : Option Addr} {tb : Obj} {ts : Array Value} (hl : h.FunFrames base l) (he : h.get? e = some oe) (hkb : base.StaysIn h) (hen : base.get? e = none) (hd : oe.data = .fields vs) (hsz : 1 < vs.size) (h0 : vs[0]? = some a0) (hdx : oe.dict = dx)
    (S : Heap.SlotsOnly (List.filterMap (fun x => x.frame) l) h h1) (ht : tb.data = .fields ts) (h3 : ts[3]? = some fl) :
    NotedD base l e oe.cls a0 fl dx h ((h1.push tb).update e (Obj.mapFields fun x => x.setIfInBounds 1 (.ref h1.objs.size))) := by
  have hene : e ∉ List.filterMap (fun x => x.frame) l := fun hm => by
    obtain ⟨_, o, ho, hnf⟩ := hl.mem hm
    rw [he] at ho
    cases ho
    exact hnf vs hd
  have he1 : h1.get? e = some oe := (S.2.1 e hene).trans he
  have he2 := Heap.get?_push_of_some tb he1
  have hTe : h1.objs.size ≠ e := Nat.ne_of_gt (Heap.lt_size he1)
  have hd3 := Obj.data_mapFields hd fun x => x.setIfInBounds 1 (.ref h1.objs.size)
  have he3 := Heap.get?_update_self (Obj.mapFields fun x => x.setIfInBounds 1 (.ref h1.objs.size)) he2 (Obj.isFreed_of_fields hd3)
  have hT2 : (h1.push tb).get? h1.objs.size = some tb := Heap.get?_push_size h1 (Obj.isFreed_of_fields ht)
  have hT3 : ((h1.push tb).update e (Obj.mapFields fun x => x.setIfInBounds 1 (.ref h1.objs.size))).get? h1.objs.size = some tb := (Heap.get?_update_other _ _ (Ne.symm hTe)).trans hT2
  have other : ∀ b o, h1.get? b = some o → b ≠ e → ((h1.push tb).update e (Obj.mapFields fun x => x.setIfInBounds 1 (.ref h1.objs.size))).get? b = some o := fun b o ho hb => by
    rw [Heap.get?_update_other _ _ (Ne.symm hb)]
    exact Heap.get?_push_of_some _ ho
  have baseF : ∀ b, b ∈ List.filterMap (fun x => x.frame) l → base.get? b = none := fun b hm => (hl.mem hm).1
  refine ⟨⟨fun b o hbo => ?_, ?_, ?_, fun b o ho hnf => ?_⟩, _, he3, (mapFields_dict _ _).trans hdx⟩
  · have hb : b ≠ e := fun z => by
      rw [z, hen] at hbo
      cases hbo
    refine other b o ?_ hb
    rw [S.2.1 b fun hm => by rw [baseF b hm] at hbo; cases hbo]
    exact hkb b o hbo
  · refine Heap.FunFrames.of_keeps (fun b o ho hnf => ?_) (Heap.FunFrames.of_slotsOnly S hl)
    have hb : b ≠ e := fun z => by
      rw [z, he1] at ho
      cases ho
      exact hnf vs hd
    exact ⟨o, other b o ho hb, rfl⟩
  · refine ⟨_, _, h1.objs.size, _, _, he3, ⟨Obj.cls_mapFields _ _, ?_⟩, hd3, ?_, ?_, hTe, hT3, ht, h3⟩
    · rw [Array.getElem?_setIfInBounds_ne (by decide)]
      exact h0
    · rw [Array.getElem?_setIfInBounds_self_of_lt hsz]
    · cases hq : base.get? h1.objs.size with
      | none => rfl
      | some o =>
        have := hkb _ _ hq
        have hlt := Heap.lt_size this
        rw [S.1] at hlt
        exact absurd hlt (Nat.lt_irrefl _)
  · obtain ⟨sl, hsl⟩ := S.2.2 b o ho
    have hb : b ≠ e := fun z => by
      rw [z, he] at ho
      cases ho
      exact hnf vs hd
    exact ⟨sl, other b _ hsl hb⟩
theorem place_at {L : Nat} (pl : List Value) (x : Value) : ([x, Value.ref L, Value.none, rawInt (L : Int), Value.none] ++ if pl.isEmpty = true then List.replicate 6 Value.none else pl).toArray[3]? = some (rawInt (L : Int)) := by simp
/-- how a refusal lies in the heap, as its trace tells -/
inductive FliesAs (base h : Heap) (L e : Addr) (vs : Array Value) : Prop where
  | new (h1 : vs[1]? = some .none)
  | next {T : Addr} {oT : Obj} {ts : Array Value} {x : Value} (h1 : vs[1]? = some (.ref T)) (hbT : base.get? T = none) (hTe : T ≠ e) (hT : h.get? T = some oT) (hdT : oT.data = .fields ts) (h3 : ts[3]? = some x) (hx : x ≠ rawInt L)
  | here {T : Addr} {oT : Obj} {ts : Array Value} (h1 : vs[1]? = some (.ref T)) (hbT : base.get? T = none) (hTe : T ≠ e) (hT : h.get? T = some oT) (hdT : oT.data = .fields ts) (h3 : ts[3]? = some (rawInt L))
theorem note_own {M : Model} {A : Around} {E : Value → Shared → Prop} {s : Shared} {base : Heap} {env : Env} {outer : List Env} {L e : Addr} {oe : Obj} {vs : Array Value} {a0 : Value} {dx : Option Addr} {Q : Unit → Shared → Prop} (hfr : A.frames = some (env :: outer)) (hl : s.heap.FunFrames base (env :: outer)) (hf : env.frame = some L) (he : s.heap.get? e = some oe) (hkb : base.StaysIn s.heap) (hen : base.get? e = none) (hd : oe.data = .fields vs) (h0 : vs[0]? = some a0) (hdx : oe.dict = dx)
    (fl : FliesAs base s.heap L e vs) (h : ∀ h' : Heap, NotedD base (env :: outer) e oe.cls a0 (rawInt L) dx s.heap h' → Q () { s with heap := h' }) : wpAny M A (noteFrame (.ref e) env) Q E s := by
  unfold noteFrame
  simp only [hf]
  cases fl with
  | new h1 =>
    have hsz : 1 < vs.size := (Array.getElem?_eq_some_iff.mp h1).1
    refine wpAny_bind (wpAny_field he hd h1 ?_)
    rw [if_neg (by decide)]
    refine wpAny_bind (wpAny_frameOf_fun hfr hl hf fun hh S => wpAny_bind (wpAny_entryPlaceOf fun pl hpl => wpAny_bind ?_))
    unfold EntryCells.newEntry newFields
    have hlen : ∀ x : Value, ([x, Value.ref L, Value.none, rawInt (L : Int), Value.none] ++ if pl.isEmpty = true then List.replicate 6 Value.none else pl).toArray.size = 11 := place_len hpl
    refine wpAny_newObj_type ?_ (by show Array.size _ ≤ sizeLine + 2; rw [hlen]; decide)
    have hene : e ∉ List.filterMap (fun x => x.frame) (env :: outer) := fun hm => by
      obtain ⟨_, o, ho, hnf⟩ := hl.mem hm
      rw [he] at ho
      cases ho
      exact hnf vs hd
    have he1 : hh.get? e = some oe := (S.2.1 e hene).trans he
    refine wpAny_setField (Heap.get?_push_of_some _ he1) hd hsz ?_
    exact h _ (noted_of hl he hkb hen hd hsz h0 hdx S rfl (place_at pl _))
  | @next T oT ts x h1 hbT hTe0 hT hdT h3 hx =>
    have hsz : 1 < vs.size := (Array.getElem?_eq_some_iff.mp h1).1
    refine wpAny_bind (wpAny_field he hd h1 ?_)
    rw [if_pos (by rfl)]
    refine wpAny_bind (wpAny_field hT hdT h3 ?_)
    rw [if_neg (by simpa using hx)]
    refine wpAny_bind (wpAny_setField hT hdT (Array.getElem?_eq_some_iff.mp h3).1 ?_)
    have keep : ∀ b o, b ≠ T → s.heap.get? b = some o → (s.heap.update T (Obj.mapFields fun x => x.setIfInBounds 3 .none)).get? b = some o := fun b o hb ho => (Heap.get?_update_other _ _ (Ne.symm hb)).trans ho
    have he' := keep e oe (Ne.symm hTe0) he
    have hkb' : base.StaysIn (s.heap.update T (Obj.mapFields fun x => x.setIfInBounds 3 .none)) := fun b o hb => keep b o (fun z => by rw [z, hbT] at hb; cases hb) (hkb b o hb)
    have hl' : (s.heap.update T (Obj.mapFields fun x => x.setIfInBounds 3 .none)).FunFrames base (env :: outer) := Heap.FunFrames.of_keeps (fun b o ho hnf => ⟨o, keep b o (fun z => by
      rw [z, hT] at ho
      cases ho
      exact hnf ts hdT) ho, rfl⟩) hl
    have keepN : ∀ b o, s.heap.get? b = some o → (∀ vs : Array Value, o.data ≠ .fields vs) → (s.heap.update T (Obj.mapFields fun x => x.setIfInBounds 3 .none)).get? b = some o := fun b o ho hnf => keep b o (fun z => by
      rw [z, hT] at ho
      cases ho
      exact hnf ts hdT) ho
    replace he := he'
    replace hkb := hkb'
    replace hl := hl'
    clear he' hkb' hl' keep
    generalize s.heap.update T (Obj.mapFields fun x => x.setIfInBounds 3 .none) = hp at he hkb hl keepN ⊢
    refine wpAny_bind (wpAny_frameOf_fun (s := { s with heap := hp }) hfr hl hf fun hh S => wpAny_bind (wpAny_entryPlaceOf fun pl hpl => wpAny_bind ?_))
    unfold EntryCells.newEntry newFields
    have hlen : ∀ x : Value, ([x, Value.ref L, Value.none, rawInt (L : Int), Value.none] ++ if pl.isEmpty = true then List.replicate 6 Value.none else pl).toArray.size = 11 := place_len hpl
    refine wpAny_newObj_type ?_ (by show Array.size _ ≤ sizeLine + 2; rw [hlen]; decide)
    have hene : e ∉ List.filterMap (fun x => x.frame) (env :: outer) := fun hm => by
      obtain ⟨_, o, ho, hnf⟩ := hl.mem hm
      rw [he] at ho
      cases ho
      exact hnf vs hd
    have he1 : hh.get? e = some oe := (S.2.1 e hene).trans he
    refine wpAny_setField (Heap.get?_push_of_some _ he1) hd hsz ?_
    obtain ⟨⟨l1, l2, l3, l4⟩, l5⟩ := noted_of hl he hkb hen hd hsz h0 hdx S (tb := { cls := .type "traceback", data := .fields ([Value.ref T, Value.ref L, Value.none, rawInt (L : Int), Value.none] ++ if pl.isEmpty = true then List.replicate 6 Value.none else pl).toArray }) rfl (place_at pl _)
    exact h _ ⟨⟨l1, l2, l3, fun b o ho hnf => l4 b o (keepN b o ho hnf) hnf⟩, l5⟩
  | @here T oT ts h1 hbT hTe0 hT hdT h3 =>
    refine wpAny_bind (wpAny_field he hd h1 ?_)
    rw [if_pos (by rfl)]
    refine wpAny_bind (wpAny_field hT hdT h3 ?_)
    rw [if_pos (by simp)]
    exact wpAny_pure (h _ ⟨⟨hkb, hl, ⟨oe, vs, T, oT, ts, he, ⟨rfl, h0⟩, hd, h1, hbT, hTe0, hT, hdT, h3⟩, fun b o ho _ => ⟨o.slots, ho⟩⟩, oe, he, hdx⟩)
/-- the flight is noted: the refusal and its dict are the same -/
theorem flight_own {M : Model} {A : Around} {E : Value → Shared → Prop} {s : Shared} {base : Heap} {l : List Env} {e : Addr} {cls a0 fl : Value} {dx : Option Addr} {fr : Option Addr} {h1 : Heap} {Q : Unit → Shared → Prop} (N : NotedD base l e cls a0 fl dx h1 s.heap)
    (h : ∀ h' : Heap, NotedD base l e cls a0 (fr.elim .none fun f => rawInt f) dx h1 h' → Q () { s with heap := h' }) : wpAny M A (setFlight (.ref e) fr) Q E s := by
  obtain ⟨⟨f1, f2, ⟨oe, vs, T, oT, ts, he, ⟨hc, h0⟩, hd, h1', hbT, hTe, hT, hdT, h3⟩, f4⟩, oe2, he2, hdx⟩ := N
  rw [he] at he2
  cases he2
  unfold setFlight
  refine wpAny_bind (wpAny_field he hd h1' ?_)
  rw [if_pos (by rfl)]
  generalize (fr.elim Value.none fun f => rawInt f) = x at h ⊢
  have h3s := (Array.getElem?_eq_some_iff.mp h3).1
  have hdT2 := Obj.data_mapFields hdT fun y => y.setIfInBounds 3 x
  have hT2 := Heap.get?_update_self (Obj.mapFields fun y => y.setIfInBounds 3 x) hT (Obj.isFreed_of_fields hdT2)
  have keep : ∀ b o, b ≠ T → s.heap.get? b = some o → (s.heap.update T (Obj.mapFields fun y => y.setIfInBounds 3 x)).get? b = some o := fun b o hb ho => (Heap.get?_update_other _ _ (Ne.symm hb)).trans ho
  have nT : ∀ b o, s.heap.get? b = some o → (∀ vs : Array Value, o.data ≠ .fields vs) → b ≠ T := fun b o ho hnf z => by
    rw [z, hT] at ho
    cases ho
    exact hnf ts hdT
  have he3 := keep e oe (Ne.symm hTe) he
  refine wpAny_setField hT hdT h3s (h _ ⟨⟨fun b o hb => keep b o (fun z => by rw [z, hbT] at hb; cases hb) (f1 b o hb), Heap.FunFrames.of_keeps (fun b o ho hnf => ⟨o, keep b o (nT b o ho hnf) ho, rfl⟩) f2, ⟨oe, vs, T, _, _, he3, ⟨hc, h0⟩, hd, h1', hbT, hTe, hT2, hdT2, ?_⟩, fun b o ho hnf => ?_⟩, oe, he3, hdx⟩)
  · rw [Array.getElem?_setIfInBounds_self_of_lt h3s]
  · obtain ⟨sl, e2⟩ := f4 b o ho hnf
    exact ⟨sl, keep b _ (nT b _ e2 hnf) e2⟩
end PySem
namespace L2
open PySem PySem.Spec PyProof.Rows
/-- a refusal that is in flight, as its trace tells (x: where) -/
structure FlyN (h0 : Heap) (H : Hp) (x : Value) (a T : Addr) (C : Value) (dx : Option Addr) (h : Heap) : Prop where
  na : h0.get? a = none
  fa : H a = none
  nT : h0.get? T = none
  fT : H T = none
  ob : ∃ oe vs a0 oT ts, h.get? a = some oe ∧ oe.cls = C ∧ oe.dict = dx ∧ oe.data = .fields vs ∧ vs[0]? = some a0 ∧ vs[1]? = some (.ref T) ∧ T ≠ a ∧ h.get? T = some oT ∧ oT.data = .fields ts ∧ ts[3]? = some x
/-- as XED, or behind a loop of this frame -/
def XEF (X : Cx) (E : XK) : Value → Shared → Prop := fun e s' => ∃ (a : Addr) (C : Value) (dx : Option Addr) (H' : Hp) (σ : St), e = .ref a ∧ Inv X [] σ H' s' ∧ (FlyE X.s₀.heap H' a C dx s'.heap ∨ (∃ T, FlyD X.s₀.heap H' a T C dx s'.heap) ∨ ∃ T x, FlyN X.s₀.heap H' x a T C dx s'.heap) ∧ E C dx H'
theorem xef_of {X : Cx} {E : XK} {e : Value} {s : Shared} (h : XED X E e s) : XEF X E e s := by
  obtain ⟨a, C, dx, H', σ, e1, I, fl, q⟩ := h
  refine ⟨a, C, dx, H', σ, e1, I, ?_, q⟩
  rcases fl with fl | fl
  · exact .inl fl
  · exact .inr (.inl fl)
section
variable {X : Cx} {pins : List (Addr × Obj)} {σ : St} {H H' : Hp} {s s' : Shared} {E : XK}
/-- a noted refusal flies here -/
theorem noted_fly {ts : List Addr} {h' : Heap} {a : Addr} {C a0 : Value} {dx : Option Addr} (I : Inv X pins σ H s) (hex : X.ex = []) (hts : ∀ b ∈ ts, X.s₀.heap.get? b = none ∧ H b = none) (ha : a ∈ ts) {fl : Value}
    (N : NotedD (PySem.W.hideAll s.heap (ts ++ frs X.stack)) X.stack a C a0 fl dx s.heap h') : ∃ T, X.s₀.heap.get? T = none ∧ H T = none ∧ ∃ oe vs oT tv, h'.get? a = some oe ∧ oe.cls = C ∧ oe.dict = dx ∧ oe.data = .fields vs ∧ vs[0]? = some a0 ∧ vs[1]? = some (.ref T) ∧ T ≠ a ∧ h'.get? T = some oT ∧ oT.data = .fields tv ∧ tv[3]? = some fl := by
  obtain ⟨⟨k1, hf, ⟨oe, vs, T, oT, tv, he, ⟨hc, h0⟩, hd, h1, hnT, hTe, hT, hdT, h3⟩, k4⟩, oe2, he2, hdx⟩ := N
  rw [he] at he2
  cases he2
  have key : X.s₀.heap.get? T = none ∧ H T = none := by
    by_cases z : T ∈ ts
    · exact hts T z
    · have nf : T ∉ frs X.stack := fun q => by
        obtain ⟨_, o, ho, nf⟩ := hf.mem q
        rw [hT] at ho; cases ho
        exact nf _ hdT
      have nn : s.heap.get? T = none := by
        cases q : s.heap.get? T with
        | none => rfl
        | some o =>
          rw [PySem.W.hideAll_get _ q fun y => (List.mem_append.mp y).elim z nf] at hnT
          cases hnT
      exact ⟨I.new0 hex nn, I.newH nn⟩
  exact ⟨T, key.1, key.2, oe, vs, oT, tv, he, hc, hdx, hd, h0, h1, hTe, hT, hdT, h3⟩
/-- the three ways in which it lies -/
theorem fl_as {a : Addr} {C : Value} {dx : Option Addr} {L : Addr} (hf : X.env.frame = some L) {h : Heap} (fl : FlyE X.s₀.heap H a C dx h ∨ (∃ T, FlyD X.s₀.heap H a T C dx h) ∨ ∃ T x, FlyN X.s₀.heap H x a T C dx h) :
    ∃ ts : List Addr, (∀ b ∈ ts, X.s₀.heap.get? b = none ∧ H b = none) ∧ a ∈ ts ∧ ∃ oe vs a0, h.get? a = some oe ∧ oe.cls = C ∧ oe.dict = dx ∧ oe.data = .fields vs ∧ vs[0]? = some a0 ∧ FliesAs (PySem.W.hideAll h (ts ++ frs X.stack)) h L a vs := by
  rcases fl with fl | ⟨T, fl⟩ | ⟨T, x, fl⟩
  · obtain ⟨oe, vs, a0, he, hc, hdx, hd, h0, h1⟩ := fl.ob
    exact ⟨[a], fun b hb => by cases (List.mem_singleton.mp hb); exact ⟨fl.na, fl.fa⟩, by simp, oe, vs, a0, he, hc, hdx, hd, h0, .new h1⟩
  · obtain ⟨oe, vs, a0, oT, tv, he, hc, hdx, hd, h0, h1, hTe, hT, hdT, h3⟩ := fl.ob
    refine ⟨[a, T], fun b hb => ?_, by simp, oe, vs, a0, he, hc, hdx, hd, h0, .next h1 (PySem.W.hideAll_none _ (List.mem_append_left _ (by simp))) hTe hT hdT h3 (by unfold rawInt; intro z; cases z)⟩
    rcases List.mem_cons.mp hb with z | z
    · subst z; exact ⟨fl.na, fl.fa⟩
    · cases (List.mem_singleton.mp z); exact ⟨fl.nT, fl.fT⟩
  · obtain ⟨oe, vs, a0, oT, tv, he, hc, hdx, hd, h0, h1, hTe, hT, hdT, h3⟩ := fl.ob
    refine ⟨[a, T], fun b hb => ?_, by simp, oe, vs, a0, he, hc, hdx, hd, h0, ?_⟩
    · rcases List.mem_cons.mp hb with z | z
      · subst z; exact ⟨fl.na, fl.fa⟩
      · cases (List.mem_singleton.mp z); exact ⟨fl.nT, fl.fT⟩
    · by_cases hx : x = rawInt L
      · rw [hx] at h3
        exact .here h1 (PySem.W.hideAll_none _ (List.mem_append_left _ (by simp))) hTe hT hdT h3
      · exact .next h1 (PySem.W.hideAll_none _ (List.mem_append_left _ (by simp))) hTe hT hdT h3 hx
end
section
variable {P : Program} {w : World} {K : PySem.W.Frag} {mg : Str → Option Value} {base : Heap} {N : List Str} {qual : Str} {scope : Scope} {f : Addr} {cd : Value} {A : Around} {outer : List Env} {s : Shared} {H : Hp} {E : XK}
theorem xe_ofF {e : Value} {s' : Shared} (h : XEF (cxOf (CXD P w) P w K mg base N qual scope f cd A outer s H E) E e s') : (cxOf (CXD P w) P w K mg base N qual scope f cd A outer s H E).xe e s' := by
  obtain ⟨a, C, dx, H', σ, rfl, I, fl, q⟩ := h
  obtain ⟨ts, hts, ha, oe, vs, a0, he, hc, hdx, hd, h0, fa⟩ := fl_as (X := cxOf (CXD P w) P w K mg base N qual scope f cd A outer s H E) rfl fl
  have hfr : (A.deeper (envOfC qual scope s.heap.objs.size f cd)).frames = some (envOfC qual scope s.heap.objs.size f cd :: outer) := I.ok.frames
  refine wpAny_bind (note_own (base := PySem.W.hideAll s'.heap (ts ++ frs (envOfC qual scope s.heap.objs.size f cd :: outer))) hfr (fun_hide I ts) rfl he (hide_stays _ _) (PySem.W.hideAll_none _ (List.mem_append_left _ ha)) hd h0 hdx fa fun h1 N1 => ?_)
  refine flight_own (s := { s' with heap := h1 }) N1 fun h2 N2 => ?_
  rw [hc] at N2
  have S : Shift (cxOf (CXD P w) P w K mg base N qual scope f cd A outer s H E) ts s'.heap h2 := ⟨N2.1.1, N2.1.2.2.2⟩
  obtain ⟨T, nT, fT, oe2, vs2, oT, tv, g1, g2, g3, g4, g5, g6, g7, g8, g9, g10⟩ := noted_fly I rfl hts ha N2
  exact ⟨a, T, C, dx, H', rfl, I.os, I.bare, S.un I fun b z => (hts b z).1, S.hok I fun b z => (hts b z).2, ⟨(hts a ha).1, (hts a ha).2, nT, fT, oe2, vs2, a0, oT, tv, g1, g2, g3, g4, g5, g6, g7, g8, g9, g10⟩, q⟩
end
/-- a def that may refuse so, also within its loops -/
theorem Fun.okXFQ {P : Program} {w : World} {K : PySem.W.Frag} {mg : Str → Option Value} {base : Heap} {x qual : Str} {st : Stmt} {f : Addr} {fd : FuncData} {N ps : List Str} {k : Nat} {sp : Sp} (F : Fun K x qual st f fd) (S : FnScope N ps (defScope st))
    (len : ∀ vs H Q E, sp vs H Q E → vs.length = ps.length)
    (hbody : ∀ (cdv : Value) (A : Around) (outer : List Env) (s : Shared) (H : Hp) (vs : List V) (Q : VK) (E : XK), Room k (A.deeper (envOfC qual (defScope st) s.heap.objs.size f cdv)) → sp vs H Q E →
      ∃ t, QSs ((cxOf (CXD P w) P w K mg base N qual (defScope st) f cdv A outer s H E).wish (XEF (cxOf (CXD P w) P w K mg base N qual (defScope st) f cdv A outer s H E) E)) (defBody st) t ∧ t { nx := fun _ H' => Q .non H', rt := Q } (start N vs) H) :
    FnOk P w K mg base (CXD P w) (k + 1) f fd ps sp := by
  obtain ⟨oc, od, kV, doc, pm, an, cdv, ct, osl, rfl, lk, hcd⟩ := F.ex
  refine fn_of lk hcd S len fun A outer s H vs Q E hr hsp => ?_
  obtain ⟨t, h, q⟩ := hbody cdv A outer s H vs Q E hr hsp
  refine ⟨t, fun pins s1 σ H1 D I hw => ?_, q⟩
  exact wpAny_mono (h.h pins s1 σ H1 D (I.wish _) hw) (fun _ _ z => z.unwish) fun e s2 z => xe_ofF z
end L2
/-! EvTk: a try in the frame of which the variables stay: its body is one call that may refuse (with a field). Behind EvXq and EvCls. -/
namespace L2
open PySem PySem.Spec PyProof.Rows
/-- as XTD, the variables known -/
def XTK (X : Cx) (σ : St) (E : XK) : Value → Shared → Prop := fun e s' => ∃ (a T : Addr) (C : Value) (dx : Option Addr) (H' : Hp), e = .ref a ∧ Inv X [] σ H' s' ∧ FlyD X.s₀.heap H' a T C dx s'.heap ∧ (∀ p ∈ X.pn, p.1 ≠ a ∧ p.1 ≠ T) ∧ E C dx H'
/-- a refusal of a call goes on, where the call is made with these variables -/
def PassK (CX : CXT) (X : Cx) (σ : St) (E : XK) : Prop := ∀ pins H s e s', Inv X pins σ H s → CX X.stack H s E e s' → X.xe e s'
theorem passTK {X : Cx} {σ : St} {E : XK} (hex : X.ex = []) : PassK (CXD X.prog X.w) (X.wish (XTK X σ E)) σ E := fun pins H s e s' I q => by
  obtain ⟨a, T, C, dx, H', rfl, os, bare, un, hok, fl, qE⟩ := q
  have I0 : Inv X pins σ H s := I.unwish
  refine ⟨a, T, C, dx, H', rfl, (I0.call' os un hok bare (fun b z => absurd z (by simp))).nopins, ⟨I0.new0 hex fl.na, fl.fa, I0.new0 hex fl.nT, fl.fT, fl.ob⟩, fun p hp => ?_, qE⟩
  have e := (I0.pin p (List.mem_append_left _ hp)).1
  exact ⟨fun z => (by rw [z, fl.na] at e; cases e), fun z => (by rw [z, fl.nT] at e; cases e)⟩
section
variable {X : Cx} {CX : CXT} {k : Nat} {f C : Addr} {fd : FuncData} {ps : List Str} {sp : Sp} {E : XK} {x : Str} {p pos : Pos} {e : Expr} {es : List Expr} {t : TA} {σ0 : St}
end
def EHK (K : PySem.W.Frag) (M : Addr) (i : Nat) (th : TS) (D : Ends) (σ : St) : XK := fun C dx H => ∃ c, C = .ref c ∧ PySem.W.mroIn K c (.ref M) = some true ∧ ∀ a, H a = none → th (D.gone i) (σ.set i (some (.ref a))) (upd H a (XD a c dx))
def tTryK (K : PySem.W.Frag) (M : Addr) (i : Nat) (tb : XK → St → TS) (th : TS) : TS := fun D σ H => tb (EHK K M i th D σ) σ D σ H
theorem ps_tryK {X : Cx} {body : List Stmt} {tb : XK → St → TS} {th : TS} {x n : Str} {M : Addr} {i : Nat} {b0 : Stmt} {suite : List Stmt} {np hpos pos : Pos} (hex : X.ex = []) (hst : X.stack = X.env :: X.outer) (hfr : X.env.frame = some X.env.locals)
    (hb : ∀ (pn : List (Addr × Obj)) (E : XK) (σ0 : St), PSs ((X.pinned pn).wish (XTK (X.pinned pn) σ0 E)) body (tb E σ0)) (hg : Gl X x) (hm : X.mg x = some (.ref M)) (TM : PySem.W.ExcK X.K M) (hN : X.N.Nodup) (hi : X.N[i]? = some n) (hl : X.env.scope.names.lookup n = some .local)
    (hh : ∀ a, PSs (X.inH a) (b0 :: suite) th) (hdb : (x == ("__debug__" : Str)) = false := by decide) :
    PS X (.Try body [.ExceptHandler (some (.Name x np)) (some n) (b0 :: suite) hpos] [] [] pos) (tTryK X.K M i tb th) := by
  intro pins s σ H D I h
  have okX := I.ok
  refine wpAny_Try_except (wpAny_mono (hb (X.pn ++ pins) (EHK X.K M i th D σ) σ [] s σ H D (I.toPn.wish _) h) (fun f s1 q => ?_) fun e s1 q => ?_)
  · have back : ∀ {σ' : St} {H' : Hp}, Inv ((X.pinned (X.pn ++ pins)).wish (XTK (X.pinned (X.pn ++ pins)) σ (EHK X.K M i th D σ))) [] σ' H' s1 → Inv X pins σ' H' s1 := fun J => Inv.ofPn okX J.unwish
    cases f with
    | next =>
      obtain ⟨σ', H', J, z⟩ := q
      exact wpAny_execs_nil ⟨σ', H', back J, z⟩
    | brk =>
      obtain ⟨σ', H', J, z⟩ := q
      exact ⟨σ', H', back J, z⟩
    | cont =>
      obtain ⟨σ', H', J, z⟩ := q
      exact ⟨σ', H', back J, z⟩
    | ret u =>
      obtain ⟨v, σ', H', J, r, z⟩ := q
      exact ⟨v, σ', H', back J, r, z⟩
  · obtain ⟨a, T, C, dx, H1, rfl, J0, fl, hpn, c, rfl, hmro, hth⟩ := q
    have J : Inv X pins σ H1 s1 := Inv.ofPn okX J0
    have hpn' : ∀ p ∈ X.pn ++ pins, p.1 ≠ a ∧ p.1 ≠ T := hpn
    have hfrs : X.A.frames = some (X.env :: X.outer) := by rw [okX.frames, hst]
    have ne1 : ∀ p ∈ X.pn ++ pins, p.1 ∉ frs X.stack := fun p hp z => by
      obtain ⟨_, _, ne, nf, _⟩ := J.pin p hp
      exact (List.mem_cons.mp (J.stkSub p.1 z)).elim ne nf
    obtain ⟨oe, vs, a0, oT, tv, he, hc, hdx, hd, h0, h1, hTe, hT, hdT, h3⟩ := fl.ob
    have hts : ∀ b ∈ [a, T], X.s₀.heap.get? b = none ∧ H1 b = none ∧ ∀ p ∈ X.pn ++ pins, p.1 ≠ b := fun b hb => by
      rcases List.mem_cons.mp hb with z | z
      · subst z; exact ⟨fl.na, fl.fa, fun p hp => (hpn' p hp).1⟩
      · cases (List.mem_singleton.mp z); exact ⟨fl.nT, fl.fT, fun p hp => (hpn' p hp).2⟩
    refine note_next (base := PySem.W.hideAll s1.heap ([a, T] ++ frs X.stack)) hfrs (by rw [← hst]; exact fun_hide J [a, T]) hfr he (hide_stays _ _) (PySem.W.hideAll_none _ (List.mem_append_left _ (by simp))) hd h1 h0 hdx (PySem.W.hideAll_none _ (List.mem_append_left _ (by simp))) hTe hT hdT h3 fun h5 ⟨⟨k1, k2, k3, k4⟩, oe5, ge5, gd5⟩ => ?_
    have fly5 : Heap.FlyingW (PySem.W.hideAll s1.heap ([a, T] ++ frs X.stack)) (X.env :: X.outer) a (.ref c) a0 h5 := ⟨k1, PySem.W.hideAll_none _ (List.mem_append_left _ (by simp)), k2, by rw [← hc]; exact k3⟩
    have S5 : Shift X [a, T] s1.heap h5 := ⟨fly5.1, k4⟩
    have J5 : Inv X pins σ H1 { s1 with heap := h5 } := S5.inv (tk := s1.toks) J hts
    obtain ⟨o5, g5, c5⟩ := fly5.there
    refine wpAny_handleBy_cons (codeAny_handlers_test (ld_glob (X := X.inH a) (J5.inH a) hg hm ?_ hdb)) (by intro z; cases z)
    refine PySem.W.exc_matches J5.kIn g5 c5 TM hmro (codeAny_handlers_suite_as ?_)
    refine land_again fly5 ge5 gd5 fun h6 fly6 up6 ge6 => ?_
    have S6 : Shift X [a, T] s1.heap h6 := ⟨fly6.1, up_trans k4 up6⟩
    have J6 : Inv X pins σ H1 { s1 with heap := h6 } := S6.inv (tk := s1.toks) J hts
    obtain ⟨o6, v6, g6, c6, d6, _⟩ := fly6.first
    have nL : a ≠ X.env.locals := fun z => by
      obtain ⟨m, ⟨oL, es, ep, eL, dL, _⟩, _⟩ := J6.loc
      rw [← z, g6] at eL; cases eL
      rw [d6] at dL; cases dL
    have nC : ∀ x c, X.env.cells.lookup x = some c → c ≠ a := fun x c' e z => by
      obtain ⟨v, oc, ec, dc⟩ := J6.cell x c' e
      rw [z, g6] at ec; cases ec
      rw [d6] at dc; cases dc
    have J7 : Inv X pins σ (upd H1 a (XD a c dx)) { s1 with heap := h6 } := (J6.track (o := XD a c dx) fl.fa fl.na nL nC (fun p hp => (hpn' p hp).1)
      (show ObjOk X.prog X.w (upd H1 a (XD a c dx)) h6 a (XD a c dx) from ⟨⟨o6, v6, g6, c6, by rw [ge6] at g6; cases g6; exact gd5, d6⟩, ⟨o6, g6⟩, fun g1 g2 ⟨o, vs', z1, z2⟩ st => ⟨o, vs', st o z1, z2⟩⟩))
    refine store_ok (X := X.inH a) (J7.inH a) hN hi (.inl hl) (v := .ref a) rfl (fun s8 J8 => ?_) (.inr hl)
    refine wpAny_mono (hh a pins s8 _ _ (D.gone i) J8 (hth a fl.fa)) (fun f s9 z => ?_) fun _ _ z => z.elim
    have back : ∀ {σ' : St} {H' : Hp}, Inv (X.inH a) pins σ' H' s9 → Inv X pins σ' H' s9 := fun J => Inv.ofH okX J
    cases f with
    | next =>
      obtain ⟨σ', H', J9, z⟩ := z
      exact name_goneK (back J9) hN hi hl fun s' J' => ⟨_, H', J', z⟩
    | brk =>
      obtain ⟨σ', H', J9, z⟩ := z
      exact name_goneK (back J9) hN hi hl fun s' J' => ⟨_, H', J', z⟩
    | cont =>
      obtain ⟨σ', H', J9, z⟩ := z
      exact name_goneK (back J9) hN hi hl fun s' J' => ⟨_, H', J', z⟩
    | ret u =>
      obtain ⟨v, σ', H', J9, r, z⟩ := z
      exact name_goneK (back J9) hN hi hl fun s' J' => ⟨v, _, H', J', r, z⟩

theorem qs_tryK {X : Cx} {body : List Stmt} {tb : XK → St → TS} {th : TS} {x n : Str} {M : Addr} {i : Nat} {b0 : Stmt} {suite : List Stmt} {np hpos pos : Pos} (hex : X.ex = []) (hst : X.stack = X.env :: X.outer) (hfr : X.env.frame = some X.env.locals)
    (hb : ∀ (pn : List (Addr × Obj)) (E : XK) (σ0 : St), QSs ((X.pinned pn).wish (XTK (X.pinned pn) σ0 E)) body (tb E σ0)) (hg : Gl X x) (hm : X.mg x = some (.ref M)) (TM : PySem.W.ExcK X.K M) (hN : X.N.Nodup) (hi : X.N[i]? = some n) (hl : X.env.scope.names.lookup n = some .local)
    (hh : ∀ a, QSs (X.inH a) (b0 :: suite) th) (hdb : (x == ("__debug__" : Str)) = false := by decide) :
    QS X (.Try body [.ExceptHandler (some (.Name x np)) (some n) (b0 :: suite) hpos] [] [] pos) (tTryK X.K M i tb th) := ⟨ps_tryK hex hst hfr (fun pn E σ0 => (hb pn E σ0).h) hg hm TM hN hi hl (fun a => (hh a).h) hdb⟩
end L2
/-! EvXc: refusals that leave a comprehension; refusals of plain classes where others have fields; a call that may refuse within a try whose variables stay. Behind EvXl and EvTk. -/
namespace PySem
end PySem
namespace L2
open PySem PySem.Spec PyProof.Rows
section
variable {X : Cx} {pins : List (Addr × Obj)} {σ : St} {H H' : Hp} {s s' : Shared} {E : XK}
end
/-! ### the rules -/
section
variable {X : Cx} {E : XK} {elt tg iter : Expr} {ifs : List Expr} {scope : Scope} {pos spos pos' : Pos} {x : Str} {i : Nat} {N : List Str} {src : List (Option Nat)} {wi : TI} {g : TG} {tc : TT} {te : TE}
end
/-- a raise of a plain class, where refusals may have fields -/
def tRaiseF (C : Addr) (E : XK) (t : TA) : TS := fun _ σ H => t σ H fun vs H1 => vs.length ≤ sizeLine ∧ ∀ dx, E (.ref C) dx H1
theorem ps_raiseF {X : Cx} {E : XK} {x : Str} {C : Addr} {np cpos pos : Pos} {e : Expr} {es : List Expr} {t : TA} (hx : PySem.W.excIn X.K C bmVE newVE = true) (hg : Gl X x) (hm : X.mg x = some (.ref C)) (hc : X.calm = true) (hex : X.ex = [])
    (ha : PA (X.wish (XEF X E)) (e :: es) t) (hdb : (x == ("__debug__" : Str)) = false := by decide) (he : starEach (e :: es) X.env = (false, eval e X.env) :: starEach es X.env := by rfl) (hpl : (backTo cpos (starEach es X.env)).any (·.1) = false := by rfl) :
    PS (X.wish (XEF X E)) (.Raise (some (.Call (.Name x np) (e :: es) [] cpos)) none pos) (tRaiseF C E t) := by
  intro pins s σ H D I h
  have FB := PySem.F.excBase_ValueError
  obtain ⟨tl, N, nm, q, bs, hdct, sn, sub, ab, col, dd, k0, k1, k2, k3, k5, mN, hC, hN, hni, T⟩ := exc_cls_of I.mod.kin hx
  have he' : starEach (e :: es) (X.wish (XEF X E)).env = (false, eval e (X.wish (XEF X E)).env) :: starEach es (X.wish (XEF X E)).env := he
  refine wpAny_Raise_call_subT (C := C) (nm := nm) (q := q) (N := N) (bs := bs) (bm := tl) (hdct := hdct) (sn := sn) (sub := sub) (ab := ab) (col := col) (dd := dd) (k0 := k0) (k1 := k1) (k2 := k2) (k3 := k3) (k5 := k5)
    FB (mN := mN) (T.hasType FB.hasBase) (I.ok.hd hc) (by rw [he']; show (false || (backTo cpos (starEach es X.env)).any (·.1)) = false; rw [hpl]; rfl) hni (ld_glob I hg hm ⟨rfl, ?_⟩ hdb)
  have hA := ha cpos pins s σ H _ I h
  rw [he'] at hA ⊢
  refine Calls.evalArgs_plain (wpAny_mono hA (fun us s2 h2 => ?_) fun _ _ y => y)
  obtain ⟨vs, H1, I1, r, hz, qE⟩ := h2
  refine ⟨rfl, by show us.length ≤ sizeLine; rw [← r.length]; exact hz, I1.bk _ _ hC, hN.keeps I1.bk, T.keeps I1.bk, fun h' a hm' => ?_⟩
  obtain ⟨t0, hta, _, _⟩ := hm'.there
  have I0 : Inv X pins σ H1 s2 := I1.unwish
  exact ⟨a, .ref C, _, H1, σ, rfl, (I0.kept (t' := s2.toks) hm'.keeps).nopins, .inl ⟨I0.new0 hex hm'.new, I0.newH hm'.new, _, _, .ref t0, hta, rfl, rfl, rfl, rfl, rfl⟩, qE _⟩
theorem qs_raiseF {X : Cx} {E : XK} {x : Str} {C : Addr} {np cpos pos : Pos} {e : Expr} {es : List Expr} {t : TA} (hx : PySem.W.excIn X.K C bmVE newVE = true) (hg : Gl X x) (hm : X.mg x = some (.ref C)) (hc : X.calm = true) (hex : X.ex = [])
    (ha : QA (X.wish (XEF X E)) (e :: es) t) (hdb : (x == ("__debug__" : Str)) = false := by decide) (he : starEach (e :: es) X.env = (false, eval e X.env) :: starEach es X.env := by rfl) (hpl : (backTo cpos (starEach es X.env)).any (·.1) = false := by rfl) :
    QS (X.wish (XEF X E)) (.Raise (some (.Call (.Name x np) (e :: es) [] cpos)) none pos) (tRaiseF C E t) := ⟨ps_raiseF hx hg hm hc hex ha.h hdb he hpl⟩
/-- a callee's refusal, in a frame that may refuse within its loops -/
theorem passF {X : Cx} {E : XK} (hex : X.ex = []) : Passes (CXD X.prog X.w) (X.wish (XEF X E)) E := fun pins σ H s e s' I q => xef_of (passED hex pins σ H s e s' (I.unwish.wish _) q)
section
variable {X : Cx} {CX : CXT} {k : Nat} {ps : List Str} {sp : Sp} {E : XK} {x : Str} {p pos : Pos} {e : Expr} {es : List Expr} {t : TA} {σ0 : St}
end
/-- isinstance of a refusal of a plain class -/
def rIsDP (K : PySem.W.Frag) : List V → Hp → VK → Prop := fun xs H Q => ∃ a C dx c b, xs = [.ref a, c] ∧ H a = some (XD a C dx) ∧ PySem.W.ExcK K C ∧ (∀ u, RelV c u → PySem.W.kitOne K (.ref C) u = some b) ∧ Q (.bl b) H
theorem call_isinstDP {X : Cx} (G : PySem.W.ClsK X.K) : CallR X (.builtin "isinstance") (rIsDP X.K) := by
  intro pins s σ H xs us Q I r h
  obtain ⟨a, C, dx, c, b, rfl, e, T, k, q⟩ := h
  obtain ⟨u, w', rfl, r1, r2⟩ := vals2 r
  cases (show u = Value.ref a from r1)
  obtain ⟨o, _, z1, z2, _⟩ := XD.at I.hok e
  exact PySem.W.kia_one (PySem.W.kitx_exc T G) I.kIn ⟨o, z1, z2⟩ (k _ r2) (fun z => nomatch z) fun tk => ⟨.bl b, H, I.tok tk, rfl, q⟩
end L2
/-! EvDef: a def within a def: the function made (def_step), what is known of it afterwards (fnPhi, codePhi, cellPhi), the function called (inner_run). Behind EvXc, EvVal. -/
namespace L2
open PySem PySem.Spec PyProof.Rows
/-- the ground on which a def of the text makes a function: the maker's code c, the code's table Pt -/
structure Nst (mg : Str → Option Value) (base : Heap) (c Pt : Addr) : Prop where
  code : PySem.W.CodeHd base c Pt
  bm : base.BuiltinsAt mg Pt
  gP : mainGlobals ≠ Pt
/-- what is fixed of a function made so -/
structure Made where
  name : Str
  qual : Str
  params : Arguments
  body : List Stmt
  scope : Scope
  pos : Pos
def fnPhi (m : Made) (f : Addr) (clos : List (Str × Addr)) (c' : Addr) : HO := .ext fun h => ∃ doc pm ctv, h.get? f = some (PySem.W.fnMade m.name m.qual m.params m.body m.scope clos doc pm c' ctv)
def codePhi (c' : Addr) (qual : Str) : HO := .ext fun h => h.CodeRec (.ref c') qual
def cellPhi (c : Addr) (v : V) : HO := .ext fun h => ∃ u, RelV v u ∧ h.IsCell c (some u)
def tabOf (pos : Pos) (c' : Addr) : HO := .tbl #[rawInt pos.line, rawInt pos.col, .ref c']
/-- the maker's table: nothing was made yet, or the one code -/
def TabSt (m : Made) (Pt : Addr) (H : Hp) : Prop := H Pt = some (.tbl #[]) ∨ ∃ c', H Pt = some (tabOf m.pos c') ∧ H c' = some (codePhi c' m.qual)
section
variable {P : Program} {w : World} {H : Hp} {h : Heap}
theorem ok_fnPhi {m : Made} {f : Addr} {clos : List (Str × Addr)} {c' : Addr} {doc pm ctv : Value} (e : h.get? f = some (PySem.W.fnMade m.name m.qual m.params m.body m.scope clos doc pm c' ctv)) : ObjOk P w H h f (fnPhi m f clos c') :=
  ⟨⟨_, _, _, e⟩, ⟨_, e⟩, fun _ _ ⟨_, _, _, q⟩ k => ⟨_, _, _, k _ q⟩⟩
theorem ok_codePhi {c' : Addr} {qual : Str} (e : h.CodeRec (.ref c') qual) : ObjOk P w H h c' (codePhi c' qual) := by
  refine ⟨e, ?_, fun h1 h2 q k => ?_⟩
  · obtain ⟨c, o, vs, t, e1, e2, _⟩ := e
    cases e1
    exact ⟨o, e2⟩
  · obtain ⟨c, o, vs, t, e1, e2, r⟩ := q
    cases e1
    exact ⟨c', o, vs, t, rfl, k _ e2, r⟩
theorem ok_cellPhi {c : Addr} {v : V} {u : Value} (r : RelV v u) (e : h.IsCell c (some u)) : ObjOk P w H h c (cellPhi c v) := by
  refine ⟨⟨u, r, e⟩, ?_, fun h1 h2 q k => ?_⟩
  · obtain ⟨o, e1, _⟩ := e
    exact ⟨o, e1⟩
  · obtain ⟨u, r, o, e1, e2⟩ := q
    exact ⟨u, r, o, k _ e1, e2⟩
end
section
variable {X : Cx} {pins : List (Addr × Obj)} {σ : St} {H : Hp} {s : Shared}
/-- the def runs: a new function, its code in the table -/
theorem def_step {i : Nat} {m : Made} {c Pt : Addr} {clos : List (Str × Addr)} {Q : Flow → Shared → Prop} (I : Inv X pins σ H s) (N : Nst X.mg X.base c Pt) (hcode : X.env.code = .ref c) (hq : qualnameIn X.env m.name m.name = m.qual)
    (hcl : closureFor m.scope X.env = pure clos) (hd0 : m.params.defaults = []) (hk0 : m.params.kw_defaults = []) (ha : annTrees m.params none X.env = []) (hN : X.N.Nodup) (hi : X.N[i]? = some m.name) (hl : X.env.scope.names.lookup m.name = some .local)
    (ht : TabSt m Pt H)
    (h : ∀ (f c' : Addr) (H' : Hp) (s' : Shared), Inv X pins (σ.set i (some (.ref f))) H' s' → H f = none → (∀ b o, b ≠ Pt → H b = some o → H' b = some o) → H' Pt = some (tabOf m.pos c') → H' c' = some (codePhi c' m.qual) → H' f = some (fnPhi m f clos c') → Q .next s') :
    wpAny (model X.prog X.w) X.A (exec (.FunctionDef m.name m.params m.body [] none [] m.scope none m.name m.pos) X.env) Q X.xe s := by
  refine PySem.W.nestDef_K hd0 hk0 ha ?_
  rw [hq]
  have hg : s.heap.Ns mainGlobals X.mg := I.ok.mod.glob.keeps I.bk
  rcases ht with ht | ⟨c', ht, hc'⟩
  · have hP : s.heap.get? Pt = some (PySem.W.tabObj #[]) := I.hok Pt _ ht
    refine PySem.W.makeFunction_K (mg := X.mg) (ps := #[]) hcl I.ok.glob hg hcode (N.code.keeps I.bk) hP trivial rfl N.gP (N.bm.keeps I.bk) fun c' ctv doc h' tk hx hge hlt hrec htb => ?_
    have hsz : s.heap.objs.size ≤ h'.objs.size := Nat.le_trans hge (Nat.le_of_lt hlt)
    have fF : H h'.objs.size = none := I.hok.fresh hsz
    have fC : H c' = none := I.hok.fresh hge
    have nFC : h'.objs.size ≠ c' := Nat.ne_of_gt hlt
    have nCP : c' ≠ Pt := fun z => by rw [z, ht] at fC; cases fC
    have nFP : h'.objs.size ≠ Pt := fun z => by rw [z, ht] at fF; cases fF
    have kp : ∀ b o, b ≠ Pt → s.heap.get? b = some o → (h'.push (PySem.W.fnMade m.name m.qual m.params m.body m.scope clos doc ((X.mg "__name__").getD .none) c' ctv)).get? b = some o := fun b o hb e => Heap.get?_push_of_some _ (hx b o hb e)
    have hP2 : (h'.push (PySem.W.fnMade m.name m.qual m.params m.body m.scope clos doc ((X.mg "__name__").getD .none) c' ctv)).get? Pt = some (PySem.W.tabObj (#[] ++ #[rawInt m.pos.line, rawInt m.pos.col, .ref c'])) := Heap.get?_push_of_some _ htb
    have hF2 : (h'.push (PySem.W.fnMade m.name m.qual m.params m.body m.scope clos doc ((X.mg "__name__").getD .none) c' ctv)).get? h'.objs.size = some (PySem.W.fnMade m.name m.qual m.params m.body m.scope clos doc ((X.mg "__name__").getD .none) c' ctv) := Heap.get?_push_size _ rfl
    have hC2 := hrec.push (PySem.W.fnMade m.name m.qual m.params m.body m.scope clos doc ((X.mg "__name__").getD .none) c' ctv)
    generalize h'.push (PySem.W.fnMade m.name m.qual m.params m.body m.scope clos doc ((X.mg "__name__").getD .none) c' ctv) = h2 at kp hP2 hF2 hC2 ⊢
    rw [Array.empty_append] at hP2
    have up : ∀ b o, b ≠ Pt → H b = some o → (upd (upd (upd H Pt (tabOf m.pos c')) c' (codePhi c' m.qual)) h'.objs.size (fnPhi m h'.objs.size clos c')) b = some o := fun b o hb e => by
      rw [upd_ne (ne_of_none e fF), upd_ne (ne_of_none e fC), upd_ne hb, e]
    have J : Inv X pins σ (upd (upd (upd H Pt (tabOf m.pos c')) c' (codePhi c' m.qual)) h'.objs.size (fnPhi m h'.objs.size clos c')) { s with heap := h2, toks := tk } := by
      have nP : ∀ {b}, H b = none → b ≠ Pt := fun n z => by rw [z, ht] at n; cases n
      refine I.un (t' := tk) ⟨fun b o e n _ _ => kp b o (nP n) e, fun b o e n _ _ => ⟨o.slots, kp b o (nP n) e⟩, fun b o e n _ => ?_, fun b o e _ => ?_, fun b xs e => ?_, fun b o u e => ?_, fun b ps e => ?_⟩ fun a o e => ?_
      · have lb := Heap.lt_size e
        rw [upd_ne (Nat.ne_of_lt (Nat.lt_of_lt_of_le lb hsz)), upd_ne (Nat.ne_of_lt (Nat.lt_of_lt_of_le lb hge)), upd_ne (nP n), n]
      · by_cases hb : b = Pt
        · exact ⟨_, by rw [hb]; exact hP2⟩
        · exact ⟨o, kp b o hb e⟩
      · exact up b _ (fun z => by rw [z, ht] at e; cases e) e
      · exact up b _ (fun z => by rw [z, ht] at e; cases e) e
      · by_cases hb : b = Pt
        · subst hb
          rw [ht] at e
          cases e
          refine ⟨#[rawInt m.pos.line, rawInt m.pos.col, .ref c'], ?_⟩
          rw [upd_ne (Ne.symm nFP), upd_ne (Ne.symm nCP), upd_same, Array.empty_append]
          rfl
        · exact ⟨#[], by rw [up b _ hb e, Array.append_empty]⟩
      · by_cases haF : a = h'.objs.size
        · subst haF
          rw [upd_same] at e
          cases e
          exact ok_fnPhi hF2
        · rw [upd_ne haF] at e
          by_cases haC : a = c'
          · subst haC
            rw [upd_same] at e
            cases e
            exact ok_codePhi hC2
          · rw [upd_ne haC] at e
            by_cases haP : a = Pt
            · subst haP
              rw [upd_same] at e
              cases e
              exact hP2
            · rw [upd_ne haP] at e
              refine (I.hok a o e).stay (fun b u hb q => kp b u ?_ q) (fun b q => up b _ (fun z => by rw [z, ht] at q; cases q) q) fun b xs q => up b _ (fun z => by rw [z, ht] at q; cases q) q
              rcases hb with z | z
              · rw [z]; exact haP
              · exact fun y => by rw [y, ht] at z; cases z
    refine store_ok J hN hi (.inl hl) (v := .ref h'.objs.size) rfl (fun s2 J2 => ?_) (.inr hl)
    exact h h'.objs.size c' _ s2 J2 fF up (by rw [upd_ne (Ne.symm nFP), upd_ne (Ne.symm nCP), upd_same]) (by rw [upd_ne (Ne.symm nFC), upd_same]) upd_same
  · have hP : s.heap.get? Pt = some (PySem.W.tabObj #[rawInt m.pos.line, rawInt m.pos.col, .ref c']) := I.hok Pt _ ht
    refine PySem.W.makeFunction_hit (mg := X.mg) (cv := .ref c') hcl I.ok.glob hg hcode (N.code.keeps I.bk) hP (by simp [TriplesOk, rawInt]) (by simp [codeAmong, rawInt]) (N.bm.keeps I.bk) fun ctv doc h' tk hk hsz => ?_
    have fF : H h'.objs.size = none := I.hok.fresh hsz
    have J := I.laid (t' := tk) (a := h'.objs.size) (o := fnPhi m h'.objs.size clos c') (h' := h'.push (PySem.W.fnMade m.name m.qual m.params m.body m.scope clos doc ((X.mg "__name__").getD .none) c' ctv)) (fun b u e => Heap.get?_push_of_some _ (hk b u e)) hsz (ok_fnPhi (Heap.get?_push_size _ rfl))
    have up : ∀ b o, H b = some o → upd H h'.objs.size (fnPhi m h'.objs.size clos c') b = some o := fun b o e => by rw [upd_ne (ne_of_none e fF), e]
    refine store_ok J hN hi (.inl hl) (v := .ref h'.objs.size) rfl (fun s2 J2 => ?_) (.inr hl)
    exact h h'.objs.size c' _ s2 J2 fF (fun b o _ e => up b o e) (up _ _ ht) (up _ _ hc') upd_same
end
end L2
namespace L2
open PySem PySem.Spec PyProof.Rows
/-- a maker of functions: its two arguments are the cells of what it makes -/
def spMaker (m : Made) (Pt : Addr) (n1 n2 : Str) : Sp := fun vs H Q _ => ∃ x y : V, vs = [x, y] ∧ TabSt m Pt H ∧
  ∀ (f c' c1 c2 : Addr) (H' : Hp), (∀ b o, b ≠ Pt → H b = some o → H' b = some o) → H' Pt = some (tabOf m.pos c') → H' c' = some (codePhi c' m.qual) → H' f = some (fnPhi m f [(n2, c2), (n1, c1)] c') → c1 ≠ c2 → H' c1 = some (cellPhi c1 x) → H' c2 = some (cellPhi c2 y) → Q (.ref f) H'
section
variable {P : Program} {w : World} {K : PySem.W.Frag} {mg : Str → Option Value} {base : Heap}
theorem ok_maker {x qual : Str} {st : Stmt} {f : Addr} {fd : FuncData} {k : Nat} {m : Made} {c Pt : Addr} {n1 n2 : Str} {p1 p2 : Pos} (F : Fun K x qual st f fd) (S : FnScope [n1, n2, m.name] [n1, n2] (defScope st)) (hc : fd.code = .ref c) (N : Nst mg base c Pt)
    (hb : defBody st = [.FunctionDef m.name m.params m.body [] none [] m.scope none m.name m.pos, .Return (some (.Name m.name p1)) p2])
    (hcl : ∀ (L a : Addr) (cd : Value), closureFor m.scope (envOfC qual (defScope st) L a cd) = pure [(n2, L + 2), (n1, L + 1)])
    (hc1 : ∀ L : Addr, (cellsFrom (L + 1) (defScope st).names []).lookup n1 = some (L + 1)) (hc2 : ∀ L : Addr, (cellsFrom (L + 1) (defScope st).names []).lookup n2 = some (L + 2))
    (hk1 : (defScope st).names.lookup n1 = some .cell) (hk2 : (defScope st).names.lookup n2 = some .cell)
    (hq : ∀ (L a : Addr) (cd : Value), qualnameIn (envOfC qual (defScope st) L a cd) m.name m.name = m.qual) (hd0 : m.params.defaults = []) (hk0 : m.params.kw_defaults = []) (ha : ∀ env, annTrees m.params none env = []) (hl : (defScope st).names.lookup m.name = some .local)
    (hdb : (m.name == ("__debug__" : Str)) = false) (hcd : (m.name == ("__classdict__" : Str)) = false) :
    FnOk P w K mg base CX0 (k + 1) f fd [n1, n2] (spMaker m Pt n1 n2) := by
  obtain ⟨oc, od, kV, doc, pm, an, cdv, ct, osl, rfl, lk, hcdv⟩ := F.ex
  obtain rfl : cdv = .ref c := hc
  refine ⟨fun vs H Q E h => ?_, fun A outer s H args us vs Q E hr e0 hbd r hsp => ?_⟩
  · obtain ⟨x, y, rfl, _⟩ := h
    rfl
  · obtain ⟨x, y, rfl, ht, q⟩ := hsp
    have KX : K.In s.heap := e0.mod.kin.keeps fun b o e => (e0.bs b o e).1
    have lim : s.heap.NoLimit := e0.mod.nolimit.keeps fun b o e => (e0.bs b o e).1
    have hkind : ∀ y ∈ [n1, n2].zip us, (defScope st).names.lookup y.1 = some .local ∨ ((defScope st).names.lookup y.1 = some .cell ∧ ((cellsFrom (s.heap.objs.size + 1) (defScope st).names []).lookup y.1).isSome = true) := fun ⟨n, v⟩ hy => by
      rcases S.par n (List.of_mem_zip hy).1 with q | q
      · exact .inl q
      · exact .inr ⟨q, PySem.W.cellsFrom_some _ _ _ (.inl q)⟩
    refine codeAny_call_function hr.depth (KX _ _ lk) rfl S.co S.gen rfl (PySem.W.codeRec_of KX hcdv) (hbd _ _ _ _ ?_)
    refine wpAny_newFunctionEnv_cells S.kind hkind fun env he s1 xx => ?_
    subst he
    refine ⟨lim.keeps xx.toInCall.keep, codeAny_func ?_⟩
    have I : Inv (cxOf CX0 P w K mg base [n1, n2, m.name] qual (defScope st) f (.ref c) A outer s H E) [] (start [n1, n2, m.name] [x, y]) H s1 := inv_start S hr.hd e0 rfl r xx
    rw [hb]
    refine wpAny_execs_cons (def_step (X := cxOf CX0 P w K mg base [n1, n2, m.name] qual (defScope st) f (.ref c) A outer s H E) (i := 2) I N rfl (hq _ _ _) (hcl _ _ _) hd0 hk0 (ha _) S.nd rfl hl ht fun g c' H' s' J hg hup hP hcc hf => ?_)
    refine wpAny_execs_cons (wpAny_Return_some (thn (pe_var (X := cxOf CX0 P w K mg base [n1, n2, m.name] qual (defScope st) f (.ref c) A outer s H E) (i := 2) (pos := p1) rfl (.inl hl) hdb hcd [] s' _ H' (fun v H2 => v = .ref g ∧ H2 = H') J ⟨.ref g, rfl, rfl, rfl⟩) fun u s2 z => ?_))
    obtain ⟨v, H2, J2, rv, rfl, rfl⟩ := z
    have e1 := hc1 s.heap.objs.size
    have e2 := hc2 s.heap.objs.size
    have n1f : H2 (s.heap.objs.size + 1) = none := J2.freeC n1 _ e1
    have n2f : H2 (s.heap.objs.size + 2) = none := J2.freeC n2 _ e2
    have n12 : s.heap.objs.size + 1 ≠ s.heap.objs.size + 2 := by omega
    obtain ⟨mm, hn, hloc⟩ := J2.loc
    have cell : ∀ (i : Nat) (z : Str) (v : V) (cc : Addr), [n1, n2, m.name][i]? = some z → ((start [n1, n2, m.name] [x, y]).set 2 (some (.ref g)))[i]? = some (some v) → (defScope st).names.lookup z = some .cell → (cellsFrom (s.heap.objs.size + 1) (defScope st).names []).lookup z = some cc → ∃ u, RelV v u ∧ s2.heap.IsCell cc (some u) := fun i z v cc h1 h2 h3 h4 => by
      obtain ⟨u, r, lk⟩ := hloc i z v h1 h2 (.inr (.inl h3))
      rcases lk with ⟨k, _⟩ | ⟨_, c9, k9, hc9⟩
      · have k' : (defScope st).names.lookup z = some .local := k
        rw [h3] at k'
        cases k'
      · have k' : (cellsFrom (s.heap.objs.size + 1) (defScope st).names []).lookup z = some c9 := k9
        rw [h4] at k'
        cases k'
        exact ⟨u, r, hc9⟩
    obtain ⟨u1, r1, w1⟩ := cell 0 n1 x _ rfl rfl hk1 e1
    obtain ⟨u2, r2, w2⟩ := cell 1 n2 y _ rfl rfl hk2 e2
    have up : ∀ b o, H2 b = some o → upd (upd H2 (s.heap.objs.size + 1) (cellPhi (s.heap.objs.size + 1) x)) (s.heap.objs.size + 2) (cellPhi (s.heap.objs.size + 2) y) b = some o := fun b o e => by
      rw [upd_ne (ne_of_none e n2f), upd_ne (ne_of_none e n1f), e]
    have U := J2.base
    refine ⟨.ref g, upd (upd H2 (s.heap.objs.size + 1) (cellPhi (s.heap.objs.size + 1) x)) (s.heap.objs.size + 2) (cellPhi (s.heap.objs.size + 2) y), J2.os, J2.bare, ⟨U.keep, U.slot, fun b o e n hx => ?_, U.there, fun b xs e => up _ _ (U.tups b xs e), fun b o u e => up _ _ (U.frzs b o u e), fun b ps e => ?_⟩, fun a o e => ?_, rv, ?_⟩
    · have lb : b < s.heap.objs.size := Heap.lt_size e
      rw [upd_ne (Nat.ne_of_lt (Nat.lt_of_lt_of_le lb (Nat.le_add_right _ _))), upd_ne (Nat.ne_of_lt (Nat.lt_of_lt_of_le lb (Nat.le_add_right _ _)))]
      exact U.free b o e n hx
    · obtain ⟨more, z⟩ := U.tbls b ps e
      exact ⟨more, up _ _ z⟩
    · by_cases h2 : a = s.heap.objs.size + 2
      · subst h2
        rw [upd_same] at e
        cases e
        exact ok_cellPhi r2 w2
      · rw [upd_ne h2] at e
        by_cases h1 : a = s.heap.objs.size + 1
        · subst h1
          rw [upd_same] at e
          cases e
          exact ok_cellPhi r1 w1
        · rw [upd_ne h1] at e
          exact (J2.hok a o e).stay (fun b u _ q => q) (fun b q => up b _ q) fun b xs q => up b _ q
    · refine q g c' (s.heap.objs.size + 1) (s.heap.objs.size + 2) _ (fun b o hb e => up b o (hup b o hb e)) (up _ _ hP) (up _ _ hcc) (up _ _ hf) n12 ?_ upd_same
      rw [upd_ne n12, upd_same]
end
end L2
namespace L2
open PySem PySem.Spec PyProof.Rows
/-- the context of the body of a function made so: two cells of its own, made before -/
def cxIn (P : Program) (w : World) (K : PySem.W.Frag) (mg : Str → Option Value) (base : Heap) (N : List Str) (qual : Str) (scope : Scope) (f : Addr) (cd : Value) (cl : List (Str × Addr)) (A : Around) (outer : List Env) (s : Shared) (H : Hp) : Cx where
  prog := P
  w := w
  K := K
  mg := mg
  base := base
  A := A.deeper (PySem.W.envX qual scope s.heap.objs.size f cd cl)
  N := N
  s₀ := s
  H₀ := H
  env := PySem.W.envX qual scope s.heap.objs.size f cd cl
  outer := outer
  stack := PySem.W.envX qual scope s.heap.objs.size f cd cl :: outer
  ex := []
  calm := true
  fn := fun _ => false
  pn := []
  xe := fun _ _ => True
def hid2 (H : Hp) (c1 c2 : Addr) : Hp := fun b => if b = c1 ∨ b = c2 then none else H b
def bak2 (H : Hp) (c1 c2 : Addr) (x y : V) : Hp := upd (upd H c1 (cellPhi c1 x)) c2 (cellPhi c2 y)
theorem hid2_ne {H : Hp} {c1 c2 b : Addr} (h1 : b ≠ c1) (h2 : b ≠ c2) : hid2 H c1 c2 b = H b := if_neg fun z => z.elim h1 h2
theorem hid2_1 {H : Hp} {c1 c2 : Addr} : hid2 H c1 c2 c1 = none := if_pos (.inl rfl)
theorem hid2_2 {H : Hp} {c1 c2 : Addr} : hid2 H c1 c2 c2 = none := if_pos (.inr rfl)
theorem hid2_none {H : Hp} {c1 c2 b : Addr} (h : H b = none) : hid2 H c1 c2 b = none := by
  unfold hid2
  split
  · rfl
  · exact h
theorem hid2_some {H : Hp} {c1 c2 b : Addr} {o : HO} (h : hid2 H c1 c2 b = some o) : b ≠ c1 ∧ b ≠ c2 ∧ H b = some o := by
  by_cases z : b = c1 ∨ b = c2
  · rw [show hid2 H c1 c2 b = none from if_pos z] at h
    cases h
  · rw [show hid2 H c1 c2 b = H b from if_neg z] at h
    exact ⟨fun y => z (.inl y), fun y => z (.inr y), h⟩
theorem bak2_same {H H' : Hp} {c1 c2 : Addr} {x y : V} (h12 : c1 ≠ c2) (h1 : H c1 = some (cellPhi c1 x)) (h2 : H c2 = some (cellPhi c2 y)) (s : Same (hid2 H c1 c2) H') : Same H (bak2 H' c1 c2 x y) := fun b o e => by
  unfold bak2
  by_cases z2 : b = c2
  · subst z2
    rw [upd_same, ← h2, e]
  · rw [upd_ne z2]
    by_cases z1 : b = c1
    · subst z1
      rw [upd_same, ← h1, e]
    · rw [upd_ne z1]
      exact s b o (by rw [hid2_ne z1 z2, e])
section
variable {P : Program} {w : World} {K : PySem.W.Frag} {mg : Str → Option Value} {base : Heap}
theorem cells_back {H H' : Hp} {c1 c2 : Addr} {x y : V} {fs : List Addr} {h h' : Heap} (h12 : c1 ≠ c2) (h1 : H c1 = some (cellPhi c1 x)) (h2 : H c2 = some (cellPhi c2 y)) (f1 : c1 ∉ fs) (f2 : c2 ∉ fs) (ok : HOk P w H h) (U : Un fs [] (hid2 H c1 c2) H' h h') (ok' : HOk P w H' h') :
    Un fs [] H (bak2 H' c1 c2 x y) h h' ∧ HOk P w (bak2 H' c1 c2 x y) h' ∧ H' c1 = none ∧ H' c2 = none := by
  obtain ⟨⟨u1, r1, o1, e1, d1⟩, _⟩ := ok c1 _ h1
  obtain ⟨⟨u2, r2, o2, e2, d2⟩, _⟩ := ok c2 _ h2
  have k1 := U.keep c1 o1 e1 hid2_1 f1 (by simp)
  have k2 := U.keep c2 o2 e2 hid2_2 f2 (by simp)
  have g1 := U.free c1 o1 e1 hid2_1 (by simp)
  have g2 := U.free c2 o2 e2 hid2_2 (by simp)
  have up : ∀ b o, H' b = some o → bak2 H' c1 c2 x y b = some o := fun b o e => by
    unfold bak2
    rw [upd_ne (ne_of_none e g2), upd_ne (ne_of_none e g1), e]
  have ne : ∀ {b : Addr}, H b = none → b ≠ c1 ∧ b ≠ c2 := fun n => ⟨fun z => (by rw [z, h1] at n; cases n), fun z => (by rw [z, h2] at n; cases n)⟩
  have ext : ∀ {b : Addr} {o : HO}, H b = some o → (∀ φ, o ≠ .ext φ) → hid2 H c1 c2 b = some o := fun {b o} e n => by
    rw [hid2_ne (fun z => by rw [z, h1] at e; cases e; exact n _ rfl) (fun z => by rw [z, h2] at e; cases e; exact n _ rfl), e]
  refine ⟨⟨fun b o e n => U.keep b o e (hid2_none n), fun b o e n => U.slot b o e (hid2_none n), fun b o e n hx => ?_, U.there, fun b xs e => up _ _ (U.tups b xs (ext e fun _ z => by cases z)), fun b o u e => up _ _ (U.frzs b o u (ext e fun _ z => by cases z)), fun b ps e => ?_⟩, fun a o e => ?_, g1, g2⟩
  · obtain ⟨z1, z2⟩ := ne n
    unfold bak2
    rw [upd_ne z2, upd_ne z1]
    exact U.free b o e (hid2_none n) hx
  · obtain ⟨more, z⟩ := U.tbls b ps (ext e fun _ z => by cases z)
    exact ⟨more, up _ _ z⟩
  · unfold bak2 at e
    by_cases z2 : a = c2
    · subst z2
      rw [upd_same] at e
      cases e
      exact ok_cellPhi r2 ⟨o2, k2, d2⟩
    · rw [upd_ne z2] at e
      by_cases z1 : a = c1
      · subst z1
        rw [upd_same] at e
        cases e
        exact ok_cellPhi r1 ⟨o1, k1, d1⟩
      · rw [upd_ne z1] at e
        exact (ok' a o e).stay (fun b u _ q => q) (fun b q => up b _ q) fun b xs q => up b _ q
theorem xe_in {N : List Str} {qual : Str} {scope : Scope} {f : Addr} {cd : Value} {cl : List (Str × Addr)} {A : Around} {outer : List Env} {s : Shared} {H : Hp} {E : XK} {e : Value} {s' : Shared} {W : Value → Shared → Prop} (h : XEF (cxIn P w K mg base N qual scope f cd cl A outer s H) E e s')
    (hW : ∀ s'', CXD P w outer H s E e s'' → W e s'') :
    wpAny (model P w) (A.deeper (PySem.W.envX qual scope s.heap.objs.size f cd cl)) (leaving (PySem.W.envX qual scope s.heap.objs.size f cd cl) e) (fun _ s'' => W e s'') (fun e' s'' => W e' s'') s' := by
  obtain ⟨a, C, dx, H', σ, rfl, I, fl, q⟩ := h
  obtain ⟨ts, hts, ha, oe, vs, a0, he, hc, hdx, hd, h0, fa⟩ := fl_as (X := cxIn P w K mg base N qual scope f cd cl A outer s H) rfl fl
  have hfr : (A.deeper (PySem.W.envX qual scope s.heap.objs.size f cd cl)).frames = some (PySem.W.envX qual scope s.heap.objs.size f cd cl :: outer) := I.ok.frames
  refine wpAny_bind (note_own (base := PySem.W.hideAll s'.heap (ts ++ frs (PySem.W.envX qual scope s.heap.objs.size f cd cl :: outer))) hfr (fun_hide I ts) rfl he (hide_stays _ _) (PySem.W.hideAll_none _ (List.mem_append_left _ ha)) hd h0 hdx fa fun h1 N1 => ?_)
  refine flight_own (s := { s' with heap := h1 }) N1 fun h2 N2 => ?_
  rw [hc] at N2
  have S : Shift (cxIn P w K mg base N qual scope f cd cl A outer s H) ts s'.heap h2 := ⟨N2.1.1, N2.1.2.2.2⟩
  obtain ⟨T, nT, fT, oe2, vs2, oT, tv, g1, g2, g3, g4, g5, g6, g7, g8, g9, g10⟩ := noted_fly I rfl hts ha N2
  exact hW _ ⟨a, T, C, dx, H', rfl, I.os, I.bare, S.un I fun b z => (hts b z).1, S.hok I fun b z => (hts b z).2, ⟨(hts a ha).1, (hts a ha).2, nT, fT, oe2, vs2, a0, oT, tv, g1, g2, g3, g4, g5, g6, g7, g8, g9, g10⟩, q⟩
/-- the scope of such a function: one argument, two names from around -/
structure ClScope (n0 n1 n2 : Str) (sc : Scope) : Prop where
  kind : sc.kind = .function
  co : sc.isCoroutine = false
  gen : sc.isGenerator = false
  nocell : ∀ y ∈ sc.names, y.2 ≠ .cell
  k0 : sc.names.lookup n0 = some .local
  k1 : sc.names.lookup n1 = some .free
  k2 : sc.names.lookup n2 = some .free
  only : ∀ y, sc.names.lookup y = some .free → y = n1 ∨ y = n2
  n12 : (n1 == n2) = false
theorem look2 {n1 n2 y : Str} {c1 c2 c : Addr} (h : List.lookup y [(n2, c2), (n1, c1)] = some c) : (y = n2 ∧ c = c2) ∨ (y = n1 ∧ c = c1) := by
  rw [List.lookup_cons] at h
  cases q : y == n2 with
  | true => rw [q] at h; cases h; exact .inl ⟨eq_of_beq q, rfl⟩
  | false =>
    rw [q] at h
    have h : List.lookup y [(n1, c1)] = some c := h
    rw [List.lookup_cons] at h
    cases q1 : y == n1 with
    | true => rw [q1] at h; cases h; exact .inr ⟨eq_of_beq q1, rfl⟩
    | false => rw [q1] at h; cases h
theorem inner_run {m : Made} {f c' c1 c2 : Addr} {n0 n1 n2 : Str} {x y z : V} {A : Around} {outer : List Env} {s : Shared} {H : Hp} {us : List Value} {Q : VK} {E : XK} {k : Nat} (hr : Room (k + 1) A) (e0 : Env0 P w K mg base A outer s H) (S : ClScope n0 n1 n2 m.scope)
    (hf : H f = some (fnPhi m f [(n2, c2), (n1, c1)] c')) (hcc : H c' = some (codePhi c' m.qual)) (h12 : c1 ≠ c2) (h1 : H c1 = some (cellPhi c1 x)) (h2 : H c2 = some (cellPhi c2 y)) (r : Vals [z] us)
    (hbind : ∀ (cl : List (Str × Addr)) (doc pm ctv u : Value) (s : Shared), BindsTo s (PySem.W.fnX m.name m.qual m.params m.body m.scope cl .none .none doc pm none (.ref c') ctv) ⟨[u], []⟩ [(n0, u)])
    (body : Room k (A.deeper (PySem.W.envX m.qual m.scope s.heap.objs.size f (.ref c') [(n2, c2), (n1, c1)])) → ∃ t, QSs ((cxIn P w K mg base [n0, n1, n2] m.qual m.scope f (.ref c') [(n2, c2), (n1, c1)] A outer s (hid2 H c1 c2)).wish (XEF (cxIn P w K mg base [n0, n1, n2] m.qual m.scope f (.ref c') [(n2, c2), (n1, c1)] A outer s (hid2 H c1 c2)) fun C dx H' => E C dx (bak2 H' c1 c2 x y))) m.body t ∧
      t { nx := fun _ _ => False, rt := fun _ _ => False } [some z, some x, some y] (hid2 H c1 c2)) :
    codeAny (model P w) A (.call (.ref f) ⟨us, []⟩) (CR (CXD P w) outer P w H s Q E) s := by
  obtain ⟨⟨doc, pm, ctv, ef⟩, _⟩ := e0.hok f _ hf
  have hcode : s.heap.CodeRec (.ref c') m.qual := (e0.hok c' _ hcc).1
  obtain ⟨⟨u1, r1, w1⟩, _⟩ := e0.hok c1 _ h1
  obtain ⟨⟨u2, r2, w2⟩, _⟩ := e0.hok c2 _ h2
  have lim : s.heap.NoLimit := e0.mod.nolimit.keeps fun b o e => (e0.bs b o e).1
  have f1 : c1 ∉ frs outer := fun hb => by have := e0.frf c1 hb; rw [h1] at this; cases this
  have f2 : c2 ∉ frs outer := fun hb => by have := e0.frf c2 hb; rw [h2] at this; cases this
  obtain ⟨u, rfl, rz⟩ : ∃ u, us = [u] ∧ RelV z u := by
    cases r with
    | cons h t => cases t; exact ⟨_, rfl, h⟩
  refine codeAny_call_def (body := m.body) (binds := [(n0, u)]) hr.depth ef rfl lim hcode rfl (hbind _ doc pm ctv u s) S.nocell (fun y hy => ?_) (fun h₀ hns hk => ?_) S.co S.gen S.kind
  · cases (List.mem_singleton.mp hy)
    exact S.k0
  · have lk1 : List.lookup n1 [(n2, c2), (n1, c1)] = some c1 := by
      rw [List.lookup_cons, S.n12]
      show List.lookup n1 [(n1, c1)] = some c1
      rw [List.lookup_cons, beq_self_eq_true]
    have lk2 : List.lookup n2 [(n2, c2), (n1, c1)] = some c2 := by rw [List.lookup_cons, beq_self_eq_true]
    have okH : HOk P w (hid2 H c1 c2) s.heap := fun a o e => by
      obtain ⟨z1, z2, e⟩ := hid2_some e
      refine (e0.hok a o e).stay (fun b u _ q => q) (fun b q => ?_) fun b xs q => ?_
      · rw [hid2_ne (fun z => by rw [z, h1] at q; cases q) (fun z => by rw [z, h2] at q; cases q), q]
      · rw [hid2_ne (fun z => by rw [z, h1] at q; cases q) (fun z => by rw [z, h2] at q; cases q), q]
    have noA : ∀ b : Addr, b ∉ (cxIn P w K mg base [n0, n1, n2] m.qual m.scope f (.ref c') [(n2, c2), (n1, c1)] A outer s (hid2 H c1 c2)).ex := fun b z => absurd (show b ∈ ([] : List Addr) from z) (by simp)
    have I : Inv (cxIn P w K mg base [n0, n1, n2] m.qual m.scope f (.ref c') [(n2, c2), (n1, c1)] A outer s (hid2 H c1 c2)) [] [some z, some x, some y] (hid2 H c1 c2) { s with heap := h₀, toks := s.toks + [(n0, u)].length } := by
      refine ⟨⟨e0.mod, S.kind, rfl, rfl, Nat.le_refl _, fun y z c g1 g2 => ?_, fun y hy => ?_, fun y c g _ => (by cases g), fun _ => hr.hd, Around.frames_deeper e0.frames, .inr ⟨rfl, rfl⟩, fun b z => absurd z (noA b), fun b o e => ⟨(e0.bs b o e).1, hid2_none (e0.bs b o e).2⟩, e0.bsz, fun b _ _ => noA b, fun b z => absurd z (noA b), e0.funs, fun b hb => hid2_none (e0.frf b hb)⟩,
        rfl, e0.bare, Un.kept hk, ⟨_, hns, fun i y v g1 g2 g3 => ?_⟩, fun y c g => ?_, okH.fresh (Nat.le_refl _), fun y c g => ?_, fun p hp => absurd (show p ∈ ([] : List (Addr × Obj)) from hp) (by simp), okH.kept hk, rfl⟩
      · rcases look2 g1 with ⟨rfl, rfl⟩ | ⟨rfl, rfl⟩
        · rcases look2 g2 with ⟨rfl, _⟩ | ⟨rfl, q⟩
          · rfl
          · exact absurd q.symm h12
        · rcases look2 g2 with ⟨rfl, q⟩ | ⟨rfl, _⟩
          · exact absurd q h12
          · rfl
      · have hy : m.scope.names.lookup y = some .cell ∨ m.scope.names.lookup y = some .free := hy
        rcases hy with hy | hy
        · exact absurd rfl (S.nocell _ (PySem.mem_of_lookup hy))
        · rcases S.only y hy with rfl | rfl
          · exact ⟨_, lk1⟩
          · exact ⟨_, lk2⟩
      · match i, g1, g2 with
        | 0, g1, g2 =>
          cases g1
          cases g2
          exact ⟨u, rz, .inl ⟨S.k0, by show List.lookup n0 [(n0, u)] = some u; rw [List.lookup_cons, beq_self_eq_true]⟩⟩
        | 1, g1, g2 =>
          cases g1
          cases g2
          obtain ⟨o, e, d⟩ := w1
          exact ⟨u1, r1, .inr ⟨.inr S.k1, c1, lk1, o, hk _ _ e, d⟩⟩
        | 2, g1, g2 =>
          cases g1
          cases g2
          obtain ⟨o, e, d⟩ := w2
          exact ⟨u2, r2, .inr ⟨.inr S.k2, c2, lk2, o, hk _ _ e, d⟩⟩
        | n + 3, g1, g2 => cases g2
      · rcases look2 g with ⟨rfl, rfl⟩ | ⟨rfl, rfl⟩
        · obtain ⟨o, e, d⟩ := w2
          exact ⟨_, o, hk _ _ e, d⟩
        · obtain ⟨o, e, d⟩ := w1
          exact ⟨_, o, hk _ _ e, d⟩
      · rcases look2 g with ⟨rfl, rfl⟩ | ⟨rfl, rfl⟩
        · exact hid2_2
        · exact hid2_1
    obtain ⟨t, ht, hq⟩ := body (hr.deeper _)
    refine wpAny_mono (ht.h [] _ _ _ _ (I.wish _) hq) (fun fl s' z => ?_) fun e s' z => xe_in (W := fun e s'' => CR (CXD P w) outer P w H s Q E (.error e) s'') z fun s'' q => ?_
    · cases fl with
      | ret u => obtain ⟨_, _, _, _, _, q⟩ := z; exact q.elim
      | next => obtain ⟨_, _, _, q⟩ := z; exact q.elim
      | brk => obtain ⟨_, _, _, q⟩ := z; exact q.elim
      | cont => obtain ⟨_, _, _, q⟩ := z; exact q.elim
    · obtain ⟨a, T, C, dx, H', rfl, os, bare, un, hok, fl, qE⟩ := q
      obtain ⟨U, O, g1, g2⟩ := cells_back h12 h1 h2 f1 f2 e0.hok un hok
      have ne : ∀ b, s.heap.get? b = none → H' b = none → bak2 H' c1 c2 x y b = none := fun b n hn => by
        obtain ⟨o1, e1, _⟩ := w1
        obtain ⟨o2, e2, _⟩ := w2
        unfold bak2
        rw [upd_ne (fun z => by rw [z, e2] at n; cases n), upd_ne (fun z => by rw [z, e1] at n; cases n), hn]
      exact ⟨a, T, C, dx, _, rfl, os, bare, U, O, ⟨fl.na, ne a fl.na fl.fa, fl.nT, ne T fl.nT fl.fT, fl.ob⟩, qE⟩
end
end L2
namespace L2
open PySem PySem.Spec PyProof.Rows
def FnG (H : Hp) (g : Addr) : Prop := ∃ m clos c', H g = some (fnPhi m g clos c')
theorem FnG.at_ {P : Program} {w : World} {H : Hp} {h : Heap} {g : Addr} (f : FnG H g) (ok : HOk P w H h) : PySem.W.FnAt g h := by
  obtain ⟨m, clos, c', e⟩ := f
  obtain ⟨⟨doc, pm, ctv, ef⟩, _⟩ := ok g _ e
  exact ⟨_, _, _, _, ef⟩
section
variable {X : Cx} {CX : CXT} {k : Nat} {E : XK} {x : Str} {p pos : Pos} {e : Expr} {es : List Expr} {t : TA} {tf : TE} {σ0 : St} {W : Addr → Sp}
/-- the call of a function that was made at run time, the variables being these -/
def tCallG (σ0 : St) (W : Addr → Sp) (E : XK) (tf : TE) (t : TA) : TE := fun σ H Q => σ = σ0 ∧ tf σ H fun x H1 => ∃ g, x = .ref g ∧ FnG H1 g ∧ t σ H1 fun vs H2 => FnG H2 g ∧ W g vs H2 Q E
theorem qe_callG (hf : QE X (.Name x p) tf) (hW : ∀ (A : Around) (outer : List Env) (s : Shared) (H : Hp) (us : List Value) (vs : List V) (Q : VK) (E : XK) (g : Addr), Room k A → Env0 X.prog X.w X.K X.mg X.base A outer s H → Vals vs us → W g vs H Q E → codeAny (model X.prog X.w) A (.call (.ref g) ⟨us, []⟩) (CR CX outer X.prog X.w H s Q E) s)
    (hr : Room k X.A) (hx : PassK CX X σ0 E) (ha : QA X (e :: es) t)
    (he : starEach (e :: es) X.env = (false, eval e X.env) :: starEach es X.env := by rfl) (hpl : (backTo pos (starEach es X.env)).any (·.1) = false := by rfl) : QE X (.Call (.Name x p) (e :: es) [] pos) (tCallG σ0 W E tf t) := by
  refine ⟨fun pins s σ H Q I h => ?_⟩
  obtain ⟨rfl, h⟩ := h
  refine wpAny_Call_Name_kw (thn (hf.h pins s σ H _ I h) fun v s1 ⟨xv, H1, I1, r1, g, e1, hg, q1⟩ => ?_)
  subst e1
  cases r1
  refine PySem.W.callWith_F (hg.at_ I1.hok) (thn (ha.h pos pins s1 σ H1 _ I1 q1) fun us s2 ⟨vs, H2, I2, r, hg2, q⟩ => ⟨hg2.at_ I2.hok, ?_⟩) he hpl
  refine wpAny_call (codeAny_mono (hW X.A X.stack s2 H2 us vs Q E g hr I2.env0 r q) fun r s' hq => ?_)
  cases r with
  | error e => exact hx pins H2 s2 e s' I2 hq
  | ok fl =>
    cases fl with
    | ret u => exact I2.after hq
    | next => exact False.elim hq
    | brk => exact False.elim hq
    | cont => exact False.elim hq
end
/-- THE HEAD of a law whose text has a maker: its code's table is known to be empty -/
theorem law_callN {P : Program} {w : World} {K : PySem.W.Frag} {mg mb : Str → Option Value} {CX : CXT} {k : Nat} {fa a c Pt : Addr} {fd : FuncData} {x : Str} {sp : Sp} {s₁ : Shared} {vs : List Value} {ns : List Int}
    (KX : K.In s₁.heap) (hns : s₁.heap.Ns mainGlobals mg) (hb : s₁.heap.Ns builtinsNs mb) (hbb : ∀ x : Str, x ≠ "__name__" → mb x = bootBuiltins x) (hlim : s₁.heap.NoLimit) (hg : s₁.gens = #[])
    (hC : PySem.W.CodeHd s₁.heap c Pt) (hP : s₁.heap.get? Pt = some (PySem.W.tabObj #[])) (hbm : s₁.heap.BuiltinsAt mg Pt) (hKP : K.lookup Pt = none)
    (ha : s₁.heap.get? a = some { cls := .type "list", data := .seq vs.toArray }) (hi : IntsAre vs ns) (hl : ns.length ≤ sizeLine) (hr : Room k callerA)
    (F : ∀ base : Heap, K.In base → base.Ns mainGlobals mg → Nst mg base c Pt → FnOk P w K mg base CX k fa fd [x] sp) (hbind : ∀ (s : Shared) (u : Value), BindsTo s fd ⟨[u], []⟩ [(x, u)])
    (hsp : ∀ H : Hp, SqL K H a (ns.map V.int) → H Pt = some (.tbl #[]) → sp [.ref a] H (fun v _ => v = .bl true) fun _ _ _ => False)
    (hCX : ∀ H e s', CX [] H s₁ (fun _ _ _ => False) e s' → False) :
    codeAny (model P w) callerA (.call (.ref fa) ⟨[.ref a], []⟩) (fun r s' => r = .ok (.ret (.bool true)) ∧ OldK s₁.heap s'.heap ∧ s'.os = s₁.os ∧ AllBare s'.gens) s₁ := by
  have rv := vals_ints hi
  have lenV := hi.length
  have naP : a ≠ Pt := fun z => by rw [z, hP] at ha; cases ha
  have core : ∀ H : Hp, (∀ b, H b = none ∨ (∃ o xs, H b = some (.frz o (.lst xs))) ∨ b = Pt) → SqL K H a (ns.map V.int) → HOk P w H s₁.heap → (∀ b, H b ≠ none → b = a ∨ b = Pt) → (H a ≠ none → K.lookup a = none) → H Pt = some (.tbl #[]) →
      codeAny (model P w) callerA (.call (.ref fa) ⟨[.ref a], []⟩) (fun r s' => r = .ok (.ret (.bool true)) ∧ OldK s₁.heap s'.heap ∧ s'.os = s₁.os ∧ AllBare s'.gens) s₁ := by
    intro H hO hS hok hA hK hPt
    have base_of : ∀ {b : Addr} {o : Obj}, s₁.heap.get? b = some o → H b = none → (hidT s₁.heap H).get? b = some o := fun e n => hidT_get e n
    have non : ∀ {b : Addr} {o : Obj}, s₁.heap.get? b = some o → (∀ xs n, o.data ≠ .seq xs n) → b ≠ Pt → H b = none := fun {b o} e d hp => by
      cases q : H b with
      | none => rfl
      | some u =>
        rcases hA b (by rw [q]; simp) with e' | e'
        · subst e'
          rw [ha] at e; cases e
          exact absurd rfl (d _ _)
        · exact absurd e' hp
    have noA : ∀ {b : Addr} {o : Obj} {es : Array DictEntry} {ep : Nat}, s₁.heap.get? b = some o → o.data = .dict es ep → H b = none := fun {b o es ep} e d => by
      refine non e (fun xs n z => by rw [d] at z; cases z) fun z => ?_
      rw [z, hP] at e; cases e; cases d
    have nsK : ∀ {b : Addr} {m : Str → Option Value}, s₁.heap.Ns b m → (hidT s₁.heap H).Ns b m := fun {b m} ⟨o, es, ep, e, d, r⟩ => ⟨o, es, ep, base_of e (noA e d), d, r⟩
    have hKb : K.In (hidT s₁.heap H) := fun b o e => base_of (KX b o e) (by
      cases q : H b with
      | none => rfl
      | some u =>
        rcases hA b (by rw [q]; simp) with e' | e'
        · subst e'
          rw [hK (by rw [q]; simp)] at e; cases e
        · rw [e', hKP] at e; cases e)
    have hM : Mod K mg (hidT s₁.heap H) := ⟨hKb, nsK hns, ⟨mb, nsK hb, hbb⟩, let ⟨mc, h1, h2⟩ := hlim; ⟨mc, nsK h1, h2⟩⟩
    have hN : Nst mg (hidT s₁.heap H) c Pt := by
      refine ⟨?_, ?_, fun z => ?_⟩
      · obtain ⟨o, vs', file, tf, flags, tg, inF, text, tt, e1, e2, e3, r⟩ := hC
        exact ⟨o, vs', file, tf, flags, tg, inF, text, tt, base_of e1 (non e1 (fun xs n z => by rw [e3] at z; cases z) r.2.2.2.2.2.2), e2, e3, r⟩
      · obtain ⟨bm, o, b1, b2, b3, b4, b5, b6, b7, b8⟩ := hbm
        exact ⟨bm, o, b1, b2, b3, b4, base_of b5 (non b5 (fun xs n z => by rw [b8] at z; cases z) b4), b6, b7, b8⟩
      · obtain ⟨o, es, ep, e, d, _⟩ := hns
        rw [z, hP] at e; cases e; cases d
    have e0 : Env0 P w K mg (hidT s₁.heap H) callerA [] s₁ H := ⟨rfl, hM, fun b o e => of_hidT e, Nat.le_of_eq (hidT_size _ _), trivial, fun b hb => absurd (show b ∈ ([] : List Addr) from hb) (by simp), hok, .of_eq hg⟩
    refine codeAny_mono ((F _ hKb (nsK hns) hN).run callerA [] s₁ H ⟨[.ref a], []⟩ [.ref a] [.ref a] _ _ hr e0 (hbind s₁ (.ref a)) (.cons rfl .nil) (hsp H hS hPt)) fun r s' h => ?_
    cases r with
    | error e => exact (hCX H e s' h).elim
    | ok fl =>
      cases fl with
      | next => exact False.elim h
      | brk => exact False.elim h
      | cont => exact False.elim h
      | ret u =>
        obtain ⟨v, H', os, bare, un, hok', r', q⟩ := h
        have q' : v = .bl true := q
        subst q'
        obtain rfl : u = Value.bool true := r'
        have tab : ∃ ps, s'.heap.get? Pt = some (PySem.W.tabObj ps) := by
          obtain ⟨more, z⟩ := un.tbls Pt _ hPt
          exact ⟨_, hok' Pt _ z⟩
        have kept : ∀ b o, b ≠ Pt → s₁.heap.get? b = some o → s'.heap.get? b = some o := fun b o hb e => by
          cases q : H b with
          | none => exact un.keep b o e q (by intro z; exact absurd (show b ∈ ([] : List Addr) from z) (by simp)) (by simp)
          | some u =>
            rcases hO b with z | ⟨ob, xs, z⟩ | z
            · rw [q] at z; cases z
            · have z2 := un.frzs b ob _ z
              obtain ⟨e1, _⟩ := hok b _ z
              obtain ⟨e2, _⟩ := hok' b _ z2
              rw [e] at e1; cases e1
              exact e2
            · exact absurd z hb
        refine ⟨rfl, ⟨fun b o e => ?_, fun b o e => ?_⟩, os, bare⟩
        · by_cases hb : b = Pt
          · subst hb
            rw [hP] at e
            cases e
            obtain ⟨ps, z⟩ := tab
            exact .inr (.inl ⟨(hC.tab hP).isCodeTable, rfl, #[], ps, rfl, by rw [Array.empty_append]; exact z⟩)
          · exact .inl (kept b o hb e)
        · by_cases hb : b = Pt
          · subst hb
            obtain ⟨ps, z⟩ := tab
            exact ⟨_, z⟩
          · exact ⟨o, kept b o hb e⟩
  have okP : ∀ H : Hp, ObjOk P w H s₁.heap Pt (.tbl #[]) := fun H => hP
  cases hk : K.lookup a with
  | some o =>
    have e := KX a o hk
    rw [ha] at e
    cases e
    refine core (fun b => if b = Pt then some (.tbl #[]) else none) (fun b => ?_) (.inr ⟨_, vs.toArray, _, hk, rfl, rfl, rfl, by rw [List.size_toArray, lenV]; exact hl, by simpa using rv⟩) (fun b u z => ?_) (fun b z => ?_) (fun z => absurd (if_neg naP) z) (if_pos rfl)
    · by_cases hb : b = Pt
      · exact .inr (.inr hb)
      · exact .inl (if_neg hb)
    · by_cases hb : b = Pt
      · have z' := (if_pos hb).symm.trans z
        cases z'
        subst hb
        exact okP _
      · have z' := (if_neg hb).symm.trans z
        cases z'
    · by_cases hb : b = Pt
      · exact .inr hb
      · exact absurd (if_neg hb) z
  | none =>
    refine core (fun b => if b = Pt then some (.tbl #[]) else if b = a then some (.frz { cls := .type "list", data := .seq vs.toArray } (.lst (ns.map V.int))) else none) (fun b => ?_) (.inl (.inr ⟨{ cls := .type "list", data := .seq vs.toArray }, (if_neg naP).trans (if_pos rfl)⟩)) (fun b u z => ?_) (fun b z => ?_) (fun _ => hk) (if_pos rfl)
    · by_cases hb : b = Pt
      · exact .inr (.inr hb)
      · by_cases hba : b = a
        · exact .inr (.inl ⟨_, _, (if_neg hb).trans (if_pos hba)⟩)
        · exact .inl ((if_neg hb).trans (if_neg hba))
    · by_cases hb : b = Pt
      · have z' := (if_pos hb).symm.trans z
        cases z'
        subst hb
        exact okP _
      · by_cases hba : b = a
        · have z' := ((if_neg hb).trans (if_pos hba)).symm.trans z
          cases z'
          subst hba
          exact ⟨ha, by rw [List.length_map]; exact hl, vs, _, rv, ha⟩
        · have z' := ((if_neg hb).trans (if_neg hba)).symm.trans z
          cases z'
    · by_cases hb : b = Pt
      · exact .inr hb
      · by_cases hba : b = a
        · exact .inl hba
        · exact absurd ((if_neg hb).trans (if_neg hba)) z
def spLawN (K : PySem.W.Frag) (Pt : Addr) : Sp := fun vs H Q _ => ∃ (a : Addr) (ns : List Int), vs = [.ref a] ∧ SqL K H a (ns.map V.int) ∧ ns.length ≤ 63 ∧ H Pt = some (.tbl #[]) ∧ ∀ H', Q (.bl true) H'
theorem walkN {l : PySem.W.OpenLaw} {q : Program} {loose : List Str} {XP : (Str → Option Value) → Heap → Prop} {YP : World → Heap → Prop} {d : DefRec} {K : Params → PySem.W.Frag} {k : Nat} {c Pt : Addr} (hr : Room k PySem.callerA) (hn : l.most = some 63) (hdf : d.params.defaults = [])
    (hY : ∀ (w : World) (h : Heap), YP w h → (K w.params).In h)
    (hT : ∀ (w : World) (h : Heap), YP w h → PySem.W.CodeHd h c Pt ∧ h.get? Pt = some (PySem.W.tabObj #[]))
    (hKP : ∀ w : World, (K w.params).lookup Pt = none)
    (F : ∀ (w : World) (mg : Str → Option Value) (fa : Addr) (h : Heap), (K w.params).In h → h.Ns mainGlobals mg → mg d.name = some (.ref fa) →
      ∃ fd : FuncData, (∀ (s : Shared) (u : Value), BindsTo s fd ⟨[u], []⟩ [("_law_script", u)]) ∧ ∀ base : Heap, (K w.params).In base → base.Ns mainGlobals mg → Nst mg base c Pt → FnOk l.prog w (K w.params) mg base CX0 k fa fd ["_law_script"] (spLawN (K w.params) Pt)) :
    PySem.W.WalkO q loose XP YP l.row.toRowW d [] (fun f vs => PySem.call f vs) := by
  refine Att.attach_call hn hdf fun w s₀ s₁ mg mb fa o pm cd doc a vs ns G Y ho hd hcd hmg hobj hints hlen hg => ?_
  have KX := hY w _ Y
  obtain ⟨fd, hb, hF⟩ := F w mg fa _ KX G.T.g hmg
  obtain ⟨hC, hP⟩ := hT w _ Y
  have hbm : s₁.heap.BuiltinsAt mg Pt := by
    obtain ⟨bm, ob, b1, b2, b3, b4, b5, b6⟩ := G.T.bmain
    refine ⟨bm, ob, b1, b2, fun z => ?_, fun z => ?_, b3, b4, b5, b6⟩
    · obtain ⟨o, es, ep, e, hd, _⟩ := G.T.g
      rw [z, e] at b3; cases b3; rw [hd] at b6; cases b6
    · rw [z, hP] at b3; cases b3; cases b4
  exact law_callN KX G.T.g G.T.b G.T.builtins G.T.nolimit hg hC hP hbm (hKP w) hobj hints (Nat.le_trans hlen (by decide)) hr hF hb (fun H hS hPt => ⟨a, ns, rfl, hS, hlen, hPt, fun _ => rfl⟩) fun H e s' z => z
end L2
namespace E1
open PySem L2
abbrev pw : Program := PySem.Challenge.pw_evenmeet_k26_whole_field_rules
def top (i : Nat) : Stmt := pw.main.body.getD i (.Pass ⟨0, 0, 0, 0⟩)
abbrev sWhole : Stmt := top 18
abbrev sIsBelow : Stmt := top 19
abbrev sMust : Stmt := top 20
abbrev sFrom : Stmt := top 21
abbrev sPrimes : Stmt := top 22
abbrev sIsPrime : Stmt := top 23
abbrev sRowTimes : Stmt := top 25
abbrev sRowRest : Stmt := top 26
abbrev sRowFactor : Stmt := top 27
abbrev sTrimmed : Stmt := top 28
abbrev sDigitsOf : Stmt := top 29
abbrev sNumberOf : Stmt := top 30
abbrev sMustBeRow : Stmt := top 34
abbrev sSizeWithin : Stmt := top 35
abbrev sMustBePrime : Stmt := top 36
abbrev sMustBeNoProduct : Stmt := top 37
abbrev sJoined : Stmt := top 38
abbrev sCell : Stmt := top 40
abbrev sLNumbers : Stmt := top 41
abbrev sLWhole : Stmt := top 42
abbrev sLOnly : Stmt := top 43
abbrev sLPower : Stmt := top 44
abbrev sLTrim : Stmt := top 45
abbrev sLLeft : Stmt := top 46
abbrev sLDigits : Stmt := top 47
abbrev sLDivides : Stmt := top 48
abbrev sLField : Stmt := top 49
abbrev sLRules : Stmt := top 50
abbrev sRef : Stmt := top 51
abbrev sLAsk : Stmt := top 52
abbrev sLAllRefused : Stmt := top 53
abbrev sLFirstRight : Stmt := top 54
abbrev sLaw : Stmt := top 55
abbrev sMInit : Stmt := inClass (top 33) 0
abbrev sMPlus : Stmt := inClass (top 33) 2
abbrev sMMinus : Stmt := inClass (top 33) 3
abbrev sMTimes : Stmt := inClass (top 33) 4
abbrev sMBack : Stmt := inClass (top 33) 5
abbrev sMFirst : Stmt := inClass (top 33) 6
abbrev sMManyPowers : Stmt := inClass (top 33) 7
abbrev sMMustHave : Stmt := inClass (top 33) 8
section
variable {P : Program} {w : World} {K : PySem.W.Frag} {mg : Str → Option Value} {base : Heap} {M C : Addr}
structure RefsD (K : PySem.W.Frag) (M C o1 o2 o3 o4 o5 o6 o7 o8 o9 o10 o11 o12 o13 : Addr) : Prop where
  nM : PySem.W.nsIn K mainGlobals "MeetError" = some (some (.ref M))
  nC : PySem.W.nsIn K mainGlobals "NoNumber" = some (some (.ref C))
  nV : PySem.W.nsIn K mainGlobals "ValueError" = some none
  n1 : PySem.W.nsIn K mainGlobals "NoArc" = some (some (.ref o1))
  n2 : PySem.W.nsIn K mainGlobals "NoBases" = some (some (.ref o2))
  n3 : PySem.W.nsIn K mainGlobals "NoField" = some (some (.ref o3))
  n4 : PySem.W.nsIn K mainGlobals "NoLayout" = some (some (.ref o4))
  n5 : PySem.W.nsIn K mainGlobals "NoMeeting" = some (some (.ref o5))
  n6 : PySem.W.nsIn K mainGlobals "NoNet" = some (some (.ref o6))
  n7 : PySem.W.nsIn K mainGlobals "NoDual" = some (some (.ref o7))
  n8 : PySem.W.nsIn K mainGlobals "NoPart" = some (some (.ref o8))
  n9 : PySem.W.nsIn K mainGlobals "NoRow" = some (some (.ref o9))
  n10 : PySem.W.nsIn K mainGlobals "NoText" = some (some (.ref o10))
  n11 : PySem.W.nsIn K mainGlobals "NoWish" = some (some (.ref o11))
  n12 : PySem.W.nsIn K mainGlobals "NoDeskRow" = some (some (.ref o12))
  n13 : PySem.W.nsIn K mainGlobals "NoName" = some (some (.ref o13))
  eM : PySem.W.ExcK K M
  eC : PySem.W.ExcK K C
  cl : PySem.W.ClsK K
  sub : PySem.W.mroIn K C (.ref M) = some true
  kC : PySem.W.kitOne K (.ref C) (.ref C) = some true
  kV : PySem.W.kitOne K (.ref C) (.type "ValueError") = some true
  kM : PySem.W.kitOne K (.ref C) (.ref M) = some true
  q1 : PySem.W.kitOne K (.ref C) (.ref o1) = some false
  q2 : PySem.W.kitOne K (.ref C) (.ref o2) = some false
  q3 : PySem.W.kitOne K (.ref C) (.ref o3) = some false
  q4 : PySem.W.kitOne K (.ref C) (.ref o4) = some false
  q5 : PySem.W.kitOne K (.ref C) (.ref o5) = some false
  q6 : PySem.W.kitOne K (.ref C) (.ref o6) = some false
  q7 : PySem.W.kitOne K (.ref C) (.ref o7) = some false
  q8 : PySem.W.kitOne K (.ref C) (.ref o8) = some false
  q9 : PySem.W.kitOne K (.ref C) (.ref o9) = some false
  q10 : PySem.W.kitOne K (.ref C) (.ref o10) = some false
  q11 : PySem.W.kitOne K (.ref C) (.ref o11) = some false
  q12 : PySem.W.kitOne K (.ref C) (.ref o12) = some false
  q13 : PySem.W.kitOne K (.ref C) (.ref o13) = some false
theorem refsD_mk {K : PySem.W.Frag} {M C o1 o2 o3 o4 o5 o6 o7 o8 o9 o10 o11 o12 o13 : Addr}
    (nM : PySem.W.nsIn K mainGlobals "MeetError" = some (some (.ref M))) (nC : PySem.W.nsIn K mainGlobals "NoNumber" = some (some (.ref C))) (nV : PySem.W.nsIn K mainGlobals "ValueError" = some none)
    (n1 : PySem.W.nsIn K mainGlobals "NoArc" = some (some (.ref o1)))
    (n2 : PySem.W.nsIn K mainGlobals "NoBases" = some (some (.ref o2)))
    (n3 : PySem.W.nsIn K mainGlobals "NoField" = some (some (.ref o3)))
    (n4 : PySem.W.nsIn K mainGlobals "NoLayout" = some (some (.ref o4)))
    (n5 : PySem.W.nsIn K mainGlobals "NoMeeting" = some (some (.ref o5)))
    (n6 : PySem.W.nsIn K mainGlobals "NoNet" = some (some (.ref o6)))
    (n7 : PySem.W.nsIn K mainGlobals "NoDual" = some (some (.ref o7)))
    (n8 : PySem.W.nsIn K mainGlobals "NoPart" = some (some (.ref o8)))
    (n9 : PySem.W.nsIn K mainGlobals "NoRow" = some (some (.ref o9)))
    (n10 : PySem.W.nsIn K mainGlobals "NoText" = some (some (.ref o10)))
    (n11 : PySem.W.nsIn K mainGlobals "NoWish" = some (some (.ref o11)))
    (n12 : PySem.W.nsIn K mainGlobals "NoDeskRow" = some (some (.ref o12)))
    (n13 : PySem.W.nsIn K mainGlobals "NoName" = some (some (.ref o13)))
    (exM : PySem.W.excIn K M [.type "ValueError", .type "Exception", .type "BaseException", .type "object"] "ValueError.__new__" = true) (gaM : PySem.W.findIn K (.ref M) "__getattribute__" = some (some (.builtin "BaseException.__getattribute__"))) (noM : PySem.W.findIn K (.ref M) "__getattr__" = some none)
    (clM : PySem.W.findIn K (.ref M) "__class__" = some (some (.builtin "object.__class__"))) (obM : PySem.W.mroIn K M (.type "object") = some true) (beM : PySem.W.mroIn K M (.type "BaseException") = some true)
    (exC : PySem.W.excIn K C [.type "ValueError", .type "Exception", .type "BaseException", .type "object"] "ValueError.__new__" = true) (gaC : PySem.W.findIn K (.ref C) "__getattribute__" = some (some (.builtin "BaseException.__getattribute__"))) (noC : PySem.W.findIn K (.ref C) "__getattr__" = some none)
    (clC : PySem.W.findIn K (.ref C) "__class__" = some (some (.builtin "object.__class__"))) (obC : PySem.W.mroIn K C (.type "object") = some true) (beC : PySem.W.mroIn K C (.type "BaseException") = some true)
    (gt : PySem.W.specialIn K (.builtin "object.__class__") "__get__" = some (some (.builtin "getset_descriptor.__get__"))) (tk : PySem.W.takesIn K (.builtin "object.__class__") = some true)
    (sub : PySem.W.mroIn K C (.ref M) = some true) (kC : PySem.W.kitOne K (.ref C) (.ref C) = some true) (kV : PySem.W.kitOne K (.ref C) (.type "ValueError") = some true) (kM : PySem.W.kitOne K (.ref C) (.ref M) = some true)
    (q1 : PySem.W.kitOne K (.ref C) (.ref o1) = some false) (q2 : PySem.W.kitOne K (.ref C) (.ref o2) = some false) (q3 : PySem.W.kitOne K (.ref C) (.ref o3) = some false) (q4 : PySem.W.kitOne K (.ref C) (.ref o4) = some false) (q5 : PySem.W.kitOne K (.ref C) (.ref o5) = some false) (q6 : PySem.W.kitOne K (.ref C) (.ref o6) = some false) (q7 : PySem.W.kitOne K (.ref C) (.ref o7) = some false) (q8 : PySem.W.kitOne K (.ref C) (.ref o8) = some false) (q9 : PySem.W.kitOne K (.ref C) (.ref o9) = some false) (q10 : PySem.W.kitOne K (.ref C) (.ref o10) = some false) (q11 : PySem.W.kitOne K (.ref C) (.ref o11) = some false) (q12 : PySem.W.kitOne K (.ref C) (.ref o12) = some false) (q13 : PySem.W.kitOne K (.ref C) (.ref o13) = some false) : ∃ M C o1 o2 o3 o4 o5 o6 o7 o8 o9 o10 o11 o12 o13 : Addr, RefsD K M C o1 o2 o3 o4 o5 o6 o7 o8 o9 o10 o11 o12 o13 :=
  ⟨M, C, o1, o2, o3, o4, o5, o6, o7, o8, o9, o10, o11, o12, o13, nM, nC, nV, n1, n2, n3, n4, n5, n6, n7, n8, n9, n10, n11, n12, n13, ⟨exM, gaM, noM, clM, obM, beM⟩, ⟨exC, gaC, noC, clC, obC, beC⟩, ⟨gt, tk⟩, sub, kC, kV, kM, q1, q2, q3, q4, q5, q6, q7, q8, q9, q10, q11, q12, q13⟩
/-- the classes by their names -/
structure MarksD (K : PySem.W.Frag) (mg : Str → Option Value) (M C o1 o2 o3 o4 o5 o6 o7 o8 o9 o10 o11 o12 o13 : Addr) : Prop where
  R : RefsD K M C o1 o2 o3 o4 o5 o6 o7 o8 o9 o10 o11 o12 o13
  mM : mg "MeetError" = some (.ref M)
  mC : mg "NoNumber" = some (.ref C)
  mV : mg "ValueError" = none
  m1 : mg "NoArc" = some (.ref o1)
  m2 : mg "NoBases" = some (.ref o2)
  m3 : mg "NoField" = some (.ref o3)
  m4 : mg "NoLayout" = some (.ref o4)
  m5 : mg "NoMeeting" = some (.ref o5)
  m6 : mg "NoNet" = some (.ref o6)
  m7 : mg "NoDual" = some (.ref o7)
  m8 : mg "NoPart" = some (.ref o8)
  m9 : mg "NoRow" = some (.ref o9)
  m10 : mg "NoText" = some (.ref o10)
  m11 : mg "NoWish" = some (.ref o11)
  m12 : mg "NoDeskRow" = some (.ref o12)
  m13 : mg "NoName" = some (.ref o13)
theorem marks_of {K : PySem.W.Frag} {h : Heap} {mg : Str → Option Value} {M C o1 o2 o3 o4 o5 o6 o7 o8 o9 o10 o11 o12 o13 : Addr} (X : K.In h) (G : h.Ns mainGlobals mg) (R : RefsD K M C o1 o2 o3 o4 o5 o6 o7 o8 o9 o10 o11 o12 o13) : MarksD K mg M C o1 o2 o3 o4 o5 o6 o7 o8 o9 o10 o11 o12 o13 :=
  ⟨R, PySem.W.mg_of X G R.nM, PySem.W.mg_of X G R.nC, PySem.W.mg_none_of X G R.nV, PySem.W.mg_of X G R.n1, PySem.W.mg_of X G R.n2, PySem.W.mg_of X G R.n3, PySem.W.mg_of X G R.n4, PySem.W.mg_of X G R.n5, PySem.W.mg_of X G R.n6, PySem.W.mg_of X G R.n7, PySem.W.mg_of X G R.n8, PySem.W.mg_of X G R.n9, PySem.W.mg_of X G R.n10, PySem.W.mg_of X G R.n11, PySem.W.mg_of X G R.n12, PySem.W.mg_of X G R.n13⟩
theorem scWhole : FnScope ["thing"] ["thing"] (defScope sWhole) := ⟨rfl, rfl, rfl, by decide +kernel, rfl, by decide +kernel, by decide +kernel⟩
theorem ok_whole {f : Addr} {fd : FuncData} (F : Fun K "is_whole" "is_whole" sWhole f fd) (T : TxtB mg) : FnOk P w K mg base CX0 1 f fd ["thing"] (spWhole K) := by
  refine F.okQ scWhole (fun vs H Q E h => ?_) (fun cdv A outer s H vs Q E hr h => ?_)
  · obtain ⟨v, b, rfl, _⟩ := h
    rfl
  · obtain ⟨v, b, rfl, hw, k⟩ := h
    refine ⟨_, qss_one (qs_ret (qe_and (qe_callB call_isinst (by rfl) T.isi PyProof.Rows.boot_isinstance (qac (qv 0) (qac (qe_bltn (v := .ty "int") rfl T.int PyProof.Rows.boot_int rfl) qa_nil)))
      (qe_one (qe_not (qe_callB call_isinst (by rfl) T.isi PyProof.Rows.boot_isinstance (qac (qv 0) (qac (qe_bltn (v := .ty "bool") rfl T.bool PyProof.Rows.boot_bool rfl) qa_nil))))))), ?_⟩
    cases hw with
    | int i =>
      refine ⟨_, rfl, _, _, _, _, rfl, .int i, rel_ty (kit_int_int K), true, rfl, iteT ?_⟩
      exact ⟨_, rfl, _, _, _, _, rfl, .int i, rel_ty (kit_int_bool K), false, rfl, k⟩
    | bl x =>
      refine ⟨_, rfl, _, _, _, _, rfl, .bl x, rel_ty (kit_bool_int K), true, rfl, iteT ?_⟩
      exact ⟨_, rfl, _, _, _, _, rfl, .bl x, rel_ty (kit_bool_bool K), true, rfl, k⟩
    | odd ty kk =>
      exact ⟨_, rfl, _, _, _, _, rfl, ty, rel_ty kk, false, rfl, iteF k⟩
def spBelow : Sp := fun vs H Q _ => ∃ x m : Int, vs = [.int x, .int m] ∧ 0 ≤ x ∧ x < m ∧ Q (.bl true) H
theorem scIsBelow : FnScope ["thing", "many"] ["thing", "many"] (defScope sIsBelow) := ⟨rfl, rfl, rfl, by decide +kernel, rfl, by decide +kernel, by decide +kernel⟩
theorem ok_below {f : Addr} {fd : FuncData} (F : Fun K "is_below" "is_below" sIsBelow f fd) (pWhole : Pm P w K mg base CX0 1 "is_whole" ["thing"] (spWhole K)) : FnOk P w K mg base CX0 2 f fd ["thing", "many"] spBelow := by
  refine F.okQ scIsBelow (fun vs H Q E h => ?_) (fun cdv A outer s H vs Q E hr1 h => ?_)
  · obtain ⟨x, m, rfl, _⟩ := h
    rfl
  · obtain ⟨x, m, rfl, h0, h1, q⟩ := h
    refine ⟨_, (qss_one (qs_ret (qe_and (qe_callP pWhole hr1 rfl pass0 (qac (qv 0) qa_nil)) (qe_one (qe_chain op_le op_lt qe_int (qv 0) (qv 1)))))), ?_⟩
    refine ⟨_, rfl, .int x, true, rfl, .int x, true, rfl, iteT ?_⟩
    refine ⟨_, rfl, _, _, rfl, rfl, _, rfl, ifT h0 ?_⟩
    exact ⟨_, rfl, _, _, rfl, rfl, blT h1 q⟩
def spCell2 (K : PySem.W.Frag) : Sp := fun vs H Q _ => ∃ (a : Addr) (ns : List Int) (k : Nat), vs = [.ref a, .int (k : Int)] ∧ SqL K H a (ns.map V.int) ∧ k ≤ 1000 ∧ ∀ (z : Int) (H' : Hp), Same H H' → Q (.int z) H'
theorem scCell : FnScope ["_law_script", "_law_k", "_law_state", "_law_cell_here"] ["_law_script", "_law_k"] (defScope sCell) := ⟨rfl, rfl, rfl, by decide +kernel, rfl, by decide +kernel, by decide +kernel⟩
theorem ok_cell2 {f : Addr} {fd : FuncData} (F : Fun K "_law_cell" "_law_cell" sCell f fd) (T : TxtB mg) : FnOk P w K mg base CX0 1 f fd ["_law_script", "_law_k"] (spCell2 K) := by
  refine F.okQ scCell (fun vs H Q E h => ?_) (fun cdv A outer s H vs Q E hr h => ?_)
  · obtain ⟨a, ns, k, rfl, _⟩ := h
    rfl
  · obtain ⟨a, ns, k, rfl, hS, hk, q⟩ := h
    refine ⟨_, (qss_cons (qs_if (qt_cmpR op_lt (qv 1) (qe_callB call_len_seq (by rfl) T.len PySem.boot_len (qac (qv 0) qa_nil)) (nomark _)) (qss_one (qs_ret (qe_ix ix_list (qv 0) (qv 1) (fun _ _ => rfl)))) qss_nil)
      (qss_cons (qs_set (i := 2) scCell.nd rfl (Or.inl rfl) (qe_op op_mod (qe_op op_mul qe_int (qe_op op_add (qe_op op_add (qe_op op_mul (qv 1) (qv 1)) (qe_op op_mul qe_int (qv 1))) qe_int)) qe_int))
      (qss_cons (qs_for PassesOwn.never rfl (qi_list (qe_slice sl_list (qv 0) qo_none (qo_some qe_int))) (qg_name (i := 3) scCell.nd rfl (Or.inl rfl))
        (qss_one (qs_set (i := 2) scCell.nd rfl (Or.inl rfl) (qe_op op_mod (qe_op op_add (qe_op op_mul (qv 2) qe_int) (qv 3)) qe_int))))
      (qss_one (qs_ret (qv 2)))))), ?_⟩
    refine ⟨_, rfl, _, rfl, a, _, rfl, .inl hS, _, _, rfl, rfl, _, rfl, ?_⟩
    refine ite2 (fun hc => ?_) (fun hc => ?_)
    · have hlt : k < ns.length := by
        have := of_decide_eq_true hc
        rw [List.length_map] at this
        omega
      refine ⟨_, rfl, _, rfl, a, _, _, V.int ns[k], rfl, rfl, hS, atI_nat (by rw [List.getElem?_map, List.getElem?_eq_getElem hlt]; rfl), q _ _ (Same.refl _)⟩
    · refine ⟨_, rfl, _, rfl, _, _, rfl, rfl, .inr ⟨by omega, by omega⟩, _, rfl, _, _, rfl, rfl, .inl ⟨by decide, by decide⟩, _, _, rfl, rfl, _, _, rfl, rfl, _, _, rfl, rfl, .inl ⟨by decide, by decide⟩, _, _, rfl, rfl, by show (0 : Int) < 2147483647; decide, ?_⟩
      refine ⟨_, rfl, _, rfl, a, _, rfl, hS, fun l hl => ?_⟩
      refine ⟨l, rfl, ⟨_, SqL.of upd_same⟩, for_list (K := K) (a := l) (xs := cutV (ns.map V.int) none (some 3)) (fun i σ H2 => H2 = upd H l (.lst (cutV (ns.map V.int) none (some 3))) ∧ ∃ (z : Int) (x3 : Option V), σ = [some (.ref a), some (.int k), some (.int z), x3]) ⟨rfl, _, _, rfl⟩ (fun i σ H2 _ ⟨e, _⟩ => SqL.of (e ▸ upd_same)) ?_ ?_⟩
      · rintro i v σ H2 hi ⟨rfl, z, x3, rfl⟩
        obtain ⟨c, rfl⟩ := cut_ints v (List.mem_of_getElem? hi)
        exact ⟨_, rfl, _, _, rfl, rfl, .inr ⟨by decide, by decide⟩, _, rfl, _, _, rfl, rfl, _, _, rfl, rfl, by show (0 : Int) < 2147483647; decide, rfl, _, _, rfl⟩
      · rintro σ H2 ⟨rfl, z, x3, rfl⟩
        exact ⟨_, rfl, q _ _ (same_new hl)⟩
theorem pickB {x y : Int} (b : Bool) : atI [V.int x, V.int y] (if b then 1 else 0) = some (V.int (if b then y else x)) := by cases b <;> rfl
def spNums : Sp := fun vs H Q _ => ∃ (c : Int) (m : Nat), vs = [.int c, .int (m : Nat)] ∧ m ≤ 1000 ∧ ∀ (l : Addr) (ns : List Int) (H' : Hp), H l = none → Same H H' → H' l = some (.lst (ns.map V.int)) → ns.length = m → (∀ x ∈ ns, 0 ≤ x ∧ x < 2000000000) → Q (.ref l) H'
theorem scLNumbers : FnScope ["_law_cell_here", "_law_many", "_law_found", "_law_state", "_law_digits_here", "_law_k"] ["_law_cell_here", "_law_many"] (defScope sLNumbers) := ⟨rfl, rfl, rfl, by decide +kernel, rfl, by decide +kernel, by decide +kernel⟩
theorem ok_numbers {f : Addr} {fd : FuncData} (F : Fun K "_law_numbers" "_law_numbers" sLNumbers f fd) (T : TxtB mg) : FnOk P w K mg base CX0 1 f fd ["_law_cell_here", "_law_many"] spNums := by
  refine F.okQ scLNumbers (fun vs H Q E h => ?_) (fun cdv A outer s H vs Q E hr h => ?_)
  · obtain ⟨c, m, rfl, _⟩ := h
    rfl
  · obtain ⟨c, m, rfl, hm, q⟩ := h
    refine ⟨_, (qss_cons (qs_set (i := 2) scLNumbers.nd rfl (Or.inl rfl) (qe_lst qa_nil))
      (qss_cons (qs_set (i := 3) scLNumbers.nd rfl (Or.inl rfl) (qe_op op_mod (qe_op op_mul (qe_op op_add (qe_op op_mod (qv 0) qe_int) qe_int) qe_int) qe_int))
      (qss_cons (qs_set (i := 4) scLNumbers.nd rfl (Or.inl rfl) qe_int)
      (qss_cons (qs_if (QW.pt (qw_or (qt_cmpR op_lt (qv 0) qe_int (nomark _)) (qw_or1 (qt_cmpR op_ge (qv 0) (qe_op op_pow qe_int qe_int) (nomark _))))) (qss_one (qs_set (i := 4) scLNumbers.nd rfl (Or.inl rfl) (qe_callB call_abs (by rfl) T.abs PyProof.Rows.boot_abs (qac (qv 0) qa_nil)))) qss_nil)
      (qss_cons (qs_for PassesOwn.never rfl (qi_range1 rfl T.range (qac (qv 1) qa_nil)) (qg_name (i := 5) scLNumbers.nd rfl (Or.inl rfl))
        (qss_cons (qs_set (i := 3) scLNumbers.nd rfl (Or.inl rfl) (qe_op op_mod (qe_op op_add (qe_op op_add (qe_op op_mul (qv 3) (qe_op op_add (qe_op op_mod (qv 3) qe_int) qe_int)) (qe_op op_mul qe_int (qv 5))) qe_int) qe_int))
        (qss_cons (qs_expr (qe_bm PySem.F.plainAttrs_list PySem.F.slot_list_append PySem.F.type_list_append mt_append (qv 2) (qac (qe_ix ix_list (qe_lst (qac (qv 3) (qac (qe_op op_mod (qv 4) qe_int) qa_nil))) (qe_callTy call_int1 (by rfl) T.int PyProof.Rows.boot_int (qac (qe_cmpR op_gt (qv 4) qe_int (nomark _)) qa_nil)) (fun _ _ => rfl)) qa_nil)))
        (qss_one (qs_set (i := 4) scLNumbers.nd rfl (Or.inl rfl) (qe_op op_fdiv (qv 4) qe_int))))))
      (qss_one (qs_ret (qv 2)))))))), ?_⟩
    refine ⟨by show 0 ≤ sizeLine; decide, fun l hl => ?_⟩
    have big : (0 : Int) < 1999999973 := by decide
    have c1 := Int.emod_nonneg c (show (1999999973 : Int) ≠ 0 by decide)
    have c2 := Int.emod_lt_of_pos c big
    refine ⟨_, rfl, _, _, rfl, rfl, (by show (0 : Int) < 1999999973; decide), _, _, rfl, rfl, _, _, rfl, rfl, .inr ⟨by decide, by decide⟩, _, _, rfl, rfl, (by show (0 : Int) < 1999999973; decide), ?_⟩
    generalize hst : (c % 1999999973 + 31) * 765432101 % 1999999973 = st0
    have st1 : 0 ≤ st0 ∧ st0 < 1999999973 := by
      rw [← hst]
      exact ⟨Int.emod_nonneg _ (by decide), Int.emod_lt_of_pos _ (by decide)⟩
    refine ⟨_, rfl, _, _, rfl, rfl, _, rfl, ?_⟩
    obtain ⟨dg, hdg, hw⟩ : ∃ dg : Int, 0 ≤ dg ∧ ((c < 0 ∧ dg = (if c < 0 then -c else c)) ∨ (¬ c < 0 ∧ c ≥ 10 ^ (18 : Int).toNat ∧ dg = (if c < 0 then -c else c)) ∨ (¬ c < 0 ∧ ¬ c ≥ 10 ^ (18 : Int).toNat ∧ dg = 0)) := by
      by_cases h1 : c < 0
      · exact ⟨_, abs_nn c, .inl ⟨h1, rfl⟩⟩
      · by_cases h2 : c ≥ 10 ^ (18 : Int).toNat
        · exact ⟨_, abs_nn c, .inr (.inl ⟨h1, h2, rfl⟩)⟩
        · exact ⟨0, Int.le_refl 0, .inr (.inr ⟨h1, h2, rfl⟩)⟩
    rcases hw with ⟨h1, e⟩ | ⟨h1, h2, e⟩ | ⟨h1, h2, e⟩
    all_goals first | refine ifF h1 ⟨_, rfl, _, _, rfl, rfl, ⟨by decide, by decide, by decide⟩, _, _, rfl, rfl, _, rfl, ifT h2 ⟨_, rfl, c, rfl, ?_⟩⟩ | refine ifF h1 ⟨_, rfl, _, _, rfl, rfl, ⟨by decide, by decide, by decide⟩, _, _, rfl, rfl, _, rfl, ifF h2 ?_⟩ | refine ifT h1 ⟨_, rfl, c, rfl, ?_⟩
    all_goals
      refine ⟨_, rfl, ((m : Nat) : Int), rfl, by omega, by omega, for_range (n := m) (fun i σ H2 => Same H H2 ∧ ∃ (ns : List Int) (sd dg : Int) (x : Option V), σ = [some (.int c), some (.int (m : Nat)), some (.ref l), some (.int sd), some (.int dg), x] ∧ H2 l = some (.lst (ns.map V.int)) ∧ ns.length = i ∧ (∀ x ∈ ns, 0 ≤ x ∧ x < 2000000000) ∧ 0 ≤ sd ∧ sd < 1999999973 ∧ 0 ≤ dg)
        ⟨same_new hl, [], st0, dg, none, by rw [e, ← hst]; rfl, upd_same, rfl, by simp, st1.1, st1.2, hdg⟩ ?_ ?_⟩
      · rintro i σ H2 hi ⟨s2, ns, sd, dg, x, rfl, hl2, hlen, hns, h1, h2, h3⟩
        have a1 := Int.emod_nonneg sd (show (65521 : Int) ≠ 0 by decide)
        have a2 := Int.emod_lt_of_pos sd (show (0 : Int) < 65521 by decide)
        refine ⟨_, rfl, _, rfl, _, _, rfl, rfl, (by show (0 : Int) < 65521; decide), _, _, rfl, rfl, _, _, rfl, rfl, .inl ⟨by omega, by omega⟩, _, rfl, _, _, rfl, rfl, .inl ⟨by decide, by decide⟩, _, _, rfl, rfl, _, _, rfl, rfl, _, _, rfl, rfl, (by show (0 : Int) < 1999999973; decide), ?_⟩
        refine ⟨_, rfl, .inl ⟨rfl, _, SqL.of hl2⟩, _, rfl, _, rfl, _, _, rfl, rfl, (by show (0 : Int) < 1000000; decide), by show 2 ≤ sizeLine; decide, fun t ht => ?_⟩
        refine ⟨_, rfl, _, _, rfl, rfl, .inr ⟨_, rfl, t, _, _, _, rfl, rfl, SqL.of upd_same, pickB _, l, _, _, rfl, rfl, (same_new ht) _ _ hl2, ?_, ?_⟩⟩
        · rw [List.length_map, hlen]
          exact Nat.lt_of_lt_of_le hi (Nat.le_trans hm (by decide))
        refine ⟨_, rfl, _, _, rfl, rfl, ⟨by decide, by decide⟩, same_upd (s2.trans (same_new ht)) hl, ns ++ [if decide (0 < dg) = true then dg % 1000000 else (sd * (sd % 65521 + 40487) + 7 * (0 + (i : Int)) + 5) % 1999999973], _, _, _, rfl, ?_, ?_, ?_, ?_, ?_, ?_⟩
        · rw [List.map_append]
          exact upd_same
        · rw [List.length_append, hlen]
          rfl
        · intro y hy
          rcases List.mem_append.mp hy with z | z
          · exact hns y z
          · rw [List.mem_singleton.mp z]
            split
            · exact ⟨Int.emod_nonneg _ (by decide), Int.lt_trans (Int.emod_lt_of_pos _ (by decide)) (by decide)⟩
            · exact ⟨Int.emod_nonneg _ (by decide), Int.lt_trans (Int.emod_lt_of_pos _ (by decide)) (by decide)⟩
        · exact Int.emod_nonneg _ (by decide)
        · exact Int.emod_lt_of_pos _ (by decide)
        · exact Int.ediv_nonneg h3 (by decide)
      · rintro σ H2 ⟨s2, ns, sd, dg, x, rfl, hl2, hlen, hns, _⟩
        exact ⟨_, rfl, q l ns H2 hl s2 hl2 hlen hns⟩
theorem comp_list {K : PySem.W.Frag} {a : Addr} {xs : List V} {g : TG} {tc : TT} {te : TE} {σ' : St} {H : Hp} {G : Addr → Hp → List V → Prop} (Pv : Nat → List V → Hp → Prop) (h0 : Pv 0 [] H) (hl : ∀ i ys H, i ≤ xs.length → Pv i ys H → SqL K H a xs)
    (hs : ∀ i x ys H (N : List V → Hp → Prop), xs[i]? = some x → Pv i ys H → (∀ ys' H', Pv (i + 1) ys' H' → N ys' H') → g x σ' H fun σ2 H4 => Weak σ' σ2 ∧ tc σ2 H4 fun b H5 => if b = true then te σ2 H5 fun y H6 => ys.length < sizeLine ∧ N (ys ++ [y]) H6 else N ys H5)
    (hd : ∀ ys H, Pv xs.length ys H → ys.length ≤ sizeLine ∧ ∀ p, H p = none → G p H ys) :
    ∃ W : Nat → Nat → List V → Hp → Prop, (∃ m, W 0 m [] H) ∧ ∀ i m ys H2, W i m ys H2 →
      ((Itl K a).stop i H2 ∧ ys.length ≤ sizeLine ∧ ∀ p, H2 p = none → G p H2 ys) ∨
      ((Itl K a).go i H2 ∧ ∀ x H3, (Itl K a).yld i H2 x H3 → g x σ' H3 fun σ2 H4 => Weak σ' σ2 ∧ tc σ2 H4 fun b H5 =>
        if b = true then te σ2 H5 fun y H6 => ys.length < sizeLine ∧ ∃ m', m' < m ∧ W (i + 1) m' (ys ++ [y]) H6 else ∃ m', m' < m ∧ W (i + 1) m' ys H5) := by
  refine ⟨fun i m ys H => m = xs.length - i ∧ i ≤ xs.length ∧ Pv i ys H, ⟨xs.length, rfl, Nat.zero_le _, h0⟩, ?_⟩
  rintro i m ys H2 ⟨rfl, hi, p⟩
  have q := hl i ys H2 hi p
  by_cases hlt : i < xs.length
  · refine .inr ⟨⟨xs, xs[i], q, by simp [hlt]⟩, fun x H' y => ?_⟩
    obtain ⟨e, y⟩ := y
    subst e
    exact hs i x ys _ (fun ys' H'' => ∃ m', m' < xs.length - i ∧ m' = xs.length - (i + 1) ∧ i + 1 ≤ xs.length ∧ Pv (i + 1) ys' H'') (y xs q) p (fun ys' H'' p' => ⟨_, by omega, rfl, hlt, p'⟩)
  · have e : i = xs.length := by omega
    subst e
    exact .inl ⟨⟨xs, q, Nat.le_refl _⟩, hd ys H2 p⟩
theorem comp_tup {K : PySem.W.Frag} {a : Addr} {xs : List V} {g : TG} {tc : TT} {te : TE} {σ' : St} {H : Hp} {G : Addr → Hp → List V → Prop} (Pv : Nat → List V → Hp → Prop) (h0 : Pv 0 [] H) (hl : ∀ i ys H, i ≤ xs.length → Pv i ys H → SqT K H a xs)
    (hs : ∀ i x ys H (N : List V → Hp → Prop), xs[i]? = some x → Pv i ys H → (∀ ys' H', Pv (i + 1) ys' H' → N ys' H') → g x σ' H fun σ2 H4 => Weak σ' σ2 ∧ tc σ2 H4 fun b H5 => if b = true then te σ2 H5 fun y H6 => ys.length < sizeLine ∧ N (ys ++ [y]) H6 else N ys H5)
    (hd : ∀ ys H, Pv xs.length ys H → ys.length ≤ sizeLine ∧ ∀ p, H p = none → G p H ys) :
    ∃ W : Nat → Nat → List V → Hp → Prop, (∃ m, W 0 m [] H) ∧ ∀ i m ys H2, W i m ys H2 →
      ((Itt K a).stop i H2 ∧ ys.length ≤ sizeLine ∧ ∀ p, H2 p = none → G p H2 ys) ∨
      ((Itt K a).go i H2 ∧ ∀ x H3, (Itt K a).yld i H2 x H3 → g x σ' H3 fun σ2 H4 => Weak σ' σ2 ∧ tc σ2 H4 fun b H5 =>
        if b = true then te σ2 H5 fun y H6 => ys.length < sizeLine ∧ ∃ m', m' < m ∧ W (i + 1) m' (ys ++ [y]) H6 else ∃ m', m' < m ∧ W (i + 1) m' ys H5) := by
  refine ⟨fun i m ys H => m = xs.length - i ∧ i ≤ xs.length ∧ Pv i ys H, ⟨xs.length, rfl, Nat.zero_le _, h0⟩, ?_⟩
  rintro i m ys H2 ⟨rfl, hi, p⟩
  have q := hl i ys H2 hi p
  by_cases hlt : i < xs.length
  · refine .inr ⟨⟨xs, xs[i], q, by simp [hlt]⟩, fun x H' y => ?_⟩
    obtain ⟨e, y⟩ := y
    subst e
    exact hs i x ys _ (fun ys' H'' => ∃ m', m' < xs.length - i ∧ m' = xs.length - (i + 1) ∧ i + 1 ≤ xs.length ∧ Pv (i + 1) ys' H'') (y xs q) p (fun ys' H'' p' => ⟨_, by omega, rfl, hlt, p'⟩)
  · have e : i = xs.length := by omega
    subst e
    exact .inl ⟨⟨xs, q, Nat.le_refl _⟩, hd ys H2 p⟩
theorem at_ok {ns : List Int} {i : Nat} (h : i < ns.length) : ∃ x : Int, atI (ns.map V.int) (i : Int) = some (.int x) ∧ x ∈ ns := ⟨ns[i], atI_nat (by rw [List.getElem?_map, List.getElem?_eq_getElem h]; rfl), List.getElem_mem h⟩
theorem inV_nats (p : Nat) : ∀ b : List Nat, inV (V.int ((p : Nat) : Int)) (nats b) = decide (p ∈ b)
  | [] => rfl
  | x :: b => by
    have ih := inV_nats p b
    unfold inV at ih ⊢
    unfold nats at ih ⊢
    rw [List.map_cons, List.any_cons, ih]
    by_cases h : x = p
    · subst h
      simp [eqV]
    · have : (eqV (V.int ((x : Nat) : Int)) (V.int ((p : Nat) : Int))) = false := by simp [eqV]; omega
      rw [this, Bool.false_or]
      simp [List.mem_cons, Ne.symm h]
theorem flat_nats (b : List Nat) : (nats b).all flatV = true := by simp [nats, flatV]
theorem take_snoc {α : Type} {bs : List α} {i : Nat} {b : α} (h : bs[i]? = some b) : bs.take (i + 1) = bs.take i ++ [b] := by
  rw [List.take_add_one, h, Option.toList_some]
def spWh : Sp := fun vs H Q _ => ∃ i : Int, vs = [.int i] ∧ Q (.bl true) H
theorem scLWhole : FnScope ["_law_found"] ["_law_found"] (defScope sLWhole) := ⟨rfl, rfl, rfl, by decide +kernel, rfl, by decide +kernel, by decide +kernel⟩
theorem ok_wh {f : Addr} {fd : FuncData} (F : Fun K "_law_whole" "_law_whole" sLWhole f fd) (T : TxtB mg) : FnOk P w K mg base CX0 1 f fd ["_law_found"] spWh := by
  refine F.okQ scLWhole (fun vs H Q E h => ?_) (fun cdv A outer s H vs Q E hr h => ?_)
  · obtain ⟨i, rfl, _⟩ := h
    rfl
  · obtain ⟨i, rfl, q⟩ := h
    refine ⟨_, (qss_one (qs_ret (qe_and (qe_callB call_isinst (by rfl) T.isi PyProof.Rows.boot_isinstance (qac (qv 0) (qac (qe_bltn (v := .ty "int") rfl T.int (by decide +kernel) rfl) qa_nil))) (qe_one (qe_not (qe_callB call_isinst (by rfl) T.isi PyProof.Rows.boot_isinstance (qac (qv 0) (qac (qe_bltn (v := .ty "bool") rfl T.bool (by decide +kernel) rfl) qa_nil)))))))), ?_⟩
    refine ⟨_, rfl, _, _, _, _, rfl, .int i, rel_ty (kit_int_int K), true, rfl, iteT ?_⟩
    exact ⟨_, rfl, _, _, _, _, rfl, .int i, rel_ty (kit_int_bool K), false, rfl, q⟩
/-- without the noughts at the end -/
def trimL (l : List Nat) : List Nat := (l.reverse.dropWhile (fun x => decide (x = 0))).reverse
theorem trim_zero (l : List Nat) : trimL (l ++ [0]) = trimL l := by
  unfold trimL
  simp
theorem trim_keep (l : List Nat) {x : Nat} (h : x ≠ 0) : trimL (l ++ [x]) = l ++ [x] := by
  unfold trimL
  simp [h]
theorem trim_mem {l : List Nat} {x : Nat} (h : x ∈ trimL l) : x ∈ l := by
  unfold trimL at h
  rw [List.mem_reverse] at h
  exact List.mem_reverse.mp ((List.dropWhile_sublist _).subset h)
theorem trim_le (l : List Nat) : (trimL l).length ≤ l.length := by
  unfold trimL
  rw [List.length_reverse]
  exact Nat.le_trans (List.dropWhile_sublist _).length_le (by rw [List.length_reverse]; exact Nat.le_refl _)
theorem eqv_intsQ : ∀ L M : List Nat, PyData.eqvAll (L.map fun p => PyData.int ((p : Nat) : Int)) (M.map fun p => PyData.int ((p : Nat) : Int)) = decide (L = M)
  | [], [] => by simp [PyData.eqvAll]
  | [], _ :: _ => by simp [PyData.eqvAll]
  | _ :: _, [] => by simp [PyData.eqvAll]
  | x :: L, y :: M => by
    have ih := eqv_intsQ L M
    simp only [List.map_cons, PyData.eqvAll, PyData.eqv, ih]
    by_cases h : x = y
    · subst h
      simp
    · have : ¬ ((x : Int) = (y : Int)) := by omega
      simp [h, this]
theorem eqv_blkQ (L M : List Nat) : PyData.eqv (dBlk L) (dBlk M) = decide (L = M) := by
  simp only [dBlk, PyData.eqv]
  exact eqv_intsQ L M
theorem eqv_tupQ (L M : List Nat) : PyData.eqv (dTup L) (dTup M) = decide (L = M) := by
  simp only [dTup, PyData.eqv]
  exact eqv_intsQ L M
theorem shaped_tupQ (L : List Nat) : PySem.SeqAt.shaped (dTup L) = true := by
  unfold PySem.SeqAt.shaped dTup
  rw [Bool.and_eq_true]
  refine ⟨by simp only [PyData.canLay0]; exact lay_ints' L, decide_eq_true ?_⟩
  have := depth_ints' L
  simp only [PyData.depth]
  omega
theorem isD_tupQ {K : PySem.W.Frag} {H : Hp} {a : Addr} {L : List Nat} (h : H a = some (.tup (nats L))) : IsD K H (dTup L) (.ref a) := by
  simp only [dTup, IsD]
  exact ⟨a, _, rfl, SqT.of h, ints_isD' L⟩
theorem isD_blkQ {K : PySem.W.Frag} {H : Hp} {a : Addr} {L : List Nat} (h : H a = some (.lst (nats L))) : IsD K H (dBlk L) (.ref a) := by
  simp only [dBlk, IsD]
  exact ⟨a, _, rfl, SqL.of h, ints_isD' L⟩
theorem ejT {i j : Int} {A B : Prop} (h : i = j) (k : A) : if decide (V.int i = V.int j) = true then A else B := by
  rw [if_pos (by simp [h])]
  exact k
theorem ejF {i j : Int} {A B : Prop} (h : i ≠ j) (k : B) : if decide (V.int i = V.int j) = true then A else B := by
  rw [if_neg (by simp [h])]
  exact k
theorem nat_atQ {r : List Nat} {k : Nat} (hk : k < r.length) : atI (nats r) ((k : Nat) : Int) = some (.int ((r.getD k 0 : Nat) : Int)) := by
  refine atI_nat ?_
  unfold nats
  rw [List.getElem?_map, List.getElem?_eq_getElem hk]
  simp [hk]
theorem take_last {l : List Nat} {m : Nat} (h0 : 0 < m) (hm : m ≤ l.length) : l.take m = l.take (m - 1) ++ [l.getD (m - 1) 0] := by
  obtain ⟨j, rfl⟩ : ∃ j, m = j + 1 := ⟨m - 1, by omega⟩
  have hj : j < l.length := by omega
  rw [show j + 1 - 1 = j by omega, List.take_add_one, List.getElem?_eq_getElem hj]
  simp [hj]
def spTrim : Sp := fun vs H Q _ => ∃ (a : Addr) (l : List Nat), vs = [.ref a] ∧ H a = some (.lst (nats l)) ∧ l.length ≤ 100 ∧ ∀ (t : Addr) (H' : Hp), H t = none → Same H H' → H' t = some (.tup (nats (trimL l))) → Q (.ref t) H'
theorem scTrimmed : FnScope ["digits", "many"] ["digits"] (defScope sTrimmed) := ⟨rfl, rfl, rfl, by decide +kernel, rfl, by decide +kernel, by decide +kernel⟩
theorem ok_trimmed {f : Addr} {fd : FuncData} (F : Fun K "trimmed" "trimmed" sTrimmed f fd) (T : TxtB mg) : FnOk P w K mg base CX0 1 f fd ["digits"] spTrim := by
  refine F.okQ scTrimmed (fun vs H Q E h => ?_) (fun cdv A outer s H vs Q E hr h => ?_)
  · obtain ⟨a, l, rfl, _⟩ := h
    rfl
  · obtain ⟨a, l, rfl, ha, hl, q⟩ := h
    refine ⟨_, (qss_cons (qs_set (i := 1) scTrimmed.nd rfl (Or.inl rfl) (qe_callB call_len_seq (by rfl) T.len PySem.boot_len (qac (qv 0) qa_nil)))
      (qss_cons (qs_while PassesOwn.never (QW.pt (qw_and (qt_cmpR op_gt (qv 1) qe_int (nomark _)) (qw_and1 (qt_cmpR op_eq (qe_ix ix_list (qv 0) (qe_op op_sub (qv 1) qe_int) (fun _ _ => rfl)) qe_int (nomark _)))))
        (qss_one (qs_aug (i := 1) scTrimmed.nd rfl (Or.inl rfl) qe_int ip_sub)))
      (qss_one (qs_ret (qe_callTy call_tuple_of (by rfl) T.tup (by decide +kernel) (qac (qe_slice sl_list (qv 0) qo_none (qo_some (qv 1))) qa_nil)))))), ?_⟩
    refine ⟨_, rfl, a, _, rfl, .inl (SqL.of ha), ?_⟩
    rw [nats_len]
    refine while_w (fun σ H2 => H2 = H ∧ ∃ m : Nat, σ = [some (.ref a), some (.int ((m : Nat) : Int))] ∧ m ≤ l.length ∧ trimL (l.take m) = trimL l)
      (fun σ _ => match σ with | [_, some (.int m)] => m.toNat | _ => 0) ⟨rfl, l.length, rfl, Nat.le_refl _, by rw [List.take_length]⟩ ?_
    rintro mm σ H2 ⟨rfl, m, rfl, hm, htr⟩ hmm
    refine ⟨_, rfl, _, _, rfl, rfl, _, rfl, ?_⟩
    have ecut : cutV (nats l) none (some ((m : Nat) : Int)) = nats (l.take m) := by
      rw [cut_le]
      unfold nats
      rw [List.map_take]
    refine ite2 (fun h1 => ?_) (fun h1 => ?_)
    · have h1' : 0 < m := by
        have : (0 : Int) < ((m : Nat) : Int) := of_decide_eq_true h1
        omega
      have e1 : atI (nats l) (((m : Nat) : Int) - 1) = some (.int ((l.getD (m - 1) 0 : Nat) : Int)) := by
        rw [show ((m : Nat) : Int) - 1 = ((m - 1 : Nat) : Int) by omega]
        exact nat_atQ (by omega)
      refine ⟨_, rfl, _, rfl, _, _, rfl, rfl, a, _, _, _, rfl, rfl, SqL.of ha, e1, rfl, _, rfl, ?_⟩
      by_cases hz : l.getD (m - 1) 0 = 0
      · refine ejT (show ((l.getD (m - 1) 0 : Nat) : Int) = 0 by omega) (WTurn.of ?_)
        refine ⟨_, rfl, _, _, rfl, rfl, ⟨rfl, m - 1, by rw [show ((m - 1 : Nat) : Int) = ((m : Nat) : Int) - 1 by omega]; rfl, by omega, ?_⟩, ?_⟩
        · rw [← htr, take_last h1' hm, hz, trim_zero]
        · rw [hmm]
          show (((m : Nat) : Int) - 1).toNat < (((m : Nat) : Int)).toNat
          omega
      · refine ejF (show ((l.getD (m - 1) 0 : Nat) : Int) ≠ 0 by omega) ?_
        refine ⟨_, rfl, _, rfl, _, rfl, a, _, rfl, SqL.of ha, fun b hb => ⟨b, _, rfl, .inl ⟨SqL.of upd_same, fun t ht => ?_⟩⟩⟩
        rw [ecut] at ht ⊢
        refine q t _ ((same_new hb).free ht) ((same_new hb).trans (same_new ht)) ?_
        rw [upd_same, ← htr, take_last h1' hm, trim_keep _ hz]
    · have h1' : m = 0 := by
        have : ¬ (0 : Int) < ((m : Nat) : Int) := fun z => h1 (decide_eq_true z)
        omega
      subst h1'
      refine iteF ?_
      refine ⟨_, rfl, _, rfl, _, rfl, a, _, rfl, SqL.of ha, fun b hb => ⟨b, _, rfl, .inl ⟨SqL.of upd_same, fun t ht => ?_⟩⟩⟩
      rw [ecut] at ht ⊢
      refine q t _ ((same_new hb).free ht) ((same_new hb).trans (same_new ht)) ?_
      rw [upd_same, ← htr]
      rfl
theorem scLTrim : FnScope ["_law_row", "_law_found"] ["_law_row"] (defScope sLTrim) := ⟨rfl, rfl, rfl, by decide +kernel, rfl, by decide +kernel, by decide +kernel⟩
theorem ok_ltrim {f : Addr} {fd : FuncData} (F : Fun K "_law_trim" "_law_trim" sLTrim f fd) (T : TxtB mg) : FnOk P w K mg base CX0 1 f fd ["_law_row"] spTrim := by
  refine F.okQ scLTrim (fun vs H Q E h => ?_) (fun cdv A outer s H vs Q E hr h => ?_)
  · obtain ⟨a, l, rfl, _⟩ := h
    rfl
  · obtain ⟨a, l, rfl, ha, hl, q⟩ := h
    refine ⟨_, (qss_cons (qs_set (i := 1) scLTrim.nd rfl (Or.inl rfl) (qe_callTy call_list_of (by rfl) T.lst (by decide +kernel) (qac (qv 0) qa_nil)))
      (qss_cons (qs_while PassesOwn.never (QW.pt (qw_and (qt_cmpR (op_neD hr.units) (qv 1) (qe_lst qa_nil) (nomark _)) (qw_and1 (qt_cmpR op_eq (qe_ix ix_list (qv 1) (qe_op op_sub (qe_callB call_len_seq (by rfl) T.len PySem.boot_len (qac (qv 1) qa_nil)) qe_int) (fun _ _ => rfl)) qe_int (nomark _)))))
        (qss_one (qs_expr (qe_bm0 PySem.F.plainAttrs_list PySem.F.slot_list_pop PySem.F.type_list_pop mt_pop (qv 1)))))
      (qss_one (qs_ret (qe_callTy call_tuple_of (by rfl) T.tup (by decide +kernel) (qac (qv 1) qa_nil)))))), ?_⟩
    refine ⟨_, rfl, a, _, rfl, .inl (SqL.of ha), fun g hg => ?_⟩
    refine while_w (fun σ H2 => Same H H2 ∧ ∃ m : Nat, σ = [some (.ref a), some (.ref g)] ∧ m ≤ l.length ∧ H2 g = some (.lst (nats (l.take m))) ∧ trimL (l.take m) = trimL l)
      (fun _ H2 => match H2 g with | some (.lst xs) => xs.length | _ => 0) ⟨same_new hg, l.length, rfl, Nat.le_refl _, by rw [List.take_length]; exact upd_same, by rw [List.take_length]⟩ ?_
    rintro mm σ H2 ⟨s2, m, rfl, hm, hg2, htr⟩ hmm
    refine ⟨_, rfl, by show 0 ≤ sizeLine; decide, fun e he => ?_⟩
    have w1 := same_new (o := .lst []) he
    have hg3 := w1 _ _ hg2
    have hlm : (l.take m).length = m := by rw [List.length_take]; omega
    refine ⟨dBlk (l.take m), dBlk [], isD_blkQ hg3, isD_blkQ upd_same, shaped_blk _, shaped_blk _, _, rfl, ?_⟩
    have hb : (!PyData.eqv (dBlk (l.take m)) (dBlk [])) = decide (0 < m) := by
      rw [eqv_blkQ]
      cases m with
      | zero => simp
      | succ j =>
        have : l.take (j + 1) ≠ [] := fun z => by
          rw [z] at hlm
          cases hlm
        simp [this]
    show (if (!PyData.eqv (dBlk (l.take m)) (dBlk [])) = true then _ else _)
    rw [hb]
    have s3 := s2.trans w1
    generalize upd H2 e (.lst []) = H3 at hg3 s3 ⊢
    refine ite2 (fun h1 => ?_) (fun h1 => ?_)
    · have h1' : 0 < m := of_decide_eq_true h1
      have e1 : atI (nats (l.take m)) ((((nats (l.take m)).length : Nat) : Int) - 1) = some (.int ((l.getD (m - 1) 0 : Nat) : Int)) := by
        rw [nats_len, hlm, show ((m : Nat) : Int) - 1 = ((m - 1 : Nat) : Int) by omega, nat_atQ (by omega)]
        rw [List.getD_eq_getElem?_getD, List.getD_eq_getElem?_getD, List.getElem?_take_of_lt (by omega)]
      refine ⟨_, rfl, _, rfl, g, _, rfl, .inl (SqL.of hg3), _, _, rfl, rfl, g, _, _, _, rfl, rfl, SqL.of hg3, e1, rfl, _, rfl, ?_⟩
      by_cases hz : l.getD (m - 1) 0 = 0
      · refine ejT (show ((l.getD (m - 1) 0 : Nat) : Int) = 0 by omega) (WTurn.of ?_)
        have ed : (nats (l.take m)).dropLast = nats (l.take (m - 1)) := by
          rw [take_last h1' hm, nats_snoc, List.dropLast_concat]
        refine ⟨_, rfl, .inl ⟨rfl, _, SqL.of hg3⟩, g, _, .int ((l.getD (m - 1) 0 : Nat) : Int), rfl, rfl, hg3, ?_, ⟨same_upd s3 hg, m - 1, rfl, by omega, ?_, ?_⟩, ?_⟩
        · rw [take_last h1' hm, nats_snoc]
          simp [nats_len]
        · rw [upd_same, ed]
        · rw [← htr, take_last h1' hm, hz, trim_zero]
        · rw [hmm, hg2]
          show (match upd H3 g _ g with | some (.lst xs) => xs.length | _ => 0) < _
          rw [upd_same]
          show (nats (l.take m)).dropLast.length < (nats (l.take m)).length
          rw [List.length_dropLast, nats_len, hlm]
          omega
      · refine ejF (show ((l.getD (m - 1) 0 : Nat) : Int) ≠ 0 by omega) ?_
        refine ⟨_, rfl, g, _, rfl, .inl ⟨SqL.of hg3, fun t ht => ?_⟩⟩
        refine q t _ (s3.free ht) (s3.trans (same_new ht)) ?_
        rw [upd_same, ← htr, take_last h1' hm, trim_keep _ hz]
    · have h1' : m = 0 := by
        have : ¬ 0 < m := fun z => h1 (decide_eq_true z)
        omega
      subst h1'
      refine iteF ?_
      refine ⟨_, rfl, g, _, rfl, .inl ⟨SqL.of hg3, fun t ht => ?_⟩⟩
      refine q t _ (s3.free ht) (s3.trans (same_new ht)) ?_
      rw [upd_same, ← htr]
      rfl
/-- (v - t d) by p -/
def red (p v t d : Nat) : Nat := (((v : Nat) : Int) - ((t : Nat) : Int) * ((d : Nat) : Int)) % ((p : Nat) : Int) |>.toNat
theorem red_int {p v t d : Nat} (hp : 0 < p) : (((v : Nat) : Int) - ((t : Nat) : Int) * ((d : Nat) : Int)) % ((p : Nat) : Int) = ((red p v t d : Nat) : Int) ∧ red p v t d < p := by
  have h1 := Int.emod_nonneg (((v : Nat) : Int) - ((t : Nat) : Int) * ((d : Nat) : Int)) (show ((p : Nat) : Int) ≠ 0 by omega)
  have h2 := Int.emod_lt_of_pos (((v : Nat) : Int) - ((t : Nat) : Int) * ((d : Nat) : Int)) (show (0 : Int) < ((p : Nat) : Int) by omega)
  unfold red
  exact ⟨by omega, by omega⟩
/-- j numbers of a row taken off, from place s on -/
def stepJ (p : Nat) (b : List Nat) (s t : Nat) (l : List Nat) (j : Nat) : List Nat := l.mapIdx fun i v => if s ≤ i ∧ i < s + j then red p v t (b.getD (i - s) 0) else v
theorem stepJ_len (p : Nat) (b : List Nat) (s t : Nat) (l : List Nat) (j : Nat) : (stepJ p b s t l j).length = l.length := by
  unfold stepJ
  rw [List.length_mapIdx]
theorem stepJ_get {p : Nat} {b : List Nat} {s t : Nat} {l : List Nat} {j i : Nat} (h : i < (stepJ p b s t l j).length) (h' : i < l.length) : (stepJ p b s t l j)[i] = if s ≤ i ∧ i < s + j then red p l[i] t (b.getD (i - s) 0) else l[i] := List.getElem_mapIdx ..
theorem stepJ_zero (p : Nat) (b : List Nat) (s t : Nat) (l : List Nat) : stepJ p b s t l 0 = l := by
  apply List.ext_getElem
  · rw [stepJ_len]
  · intro i h1 h2
    rw [stepJ_get h1 h2, if_neg (by omega)]
theorem stepJ_at {p : Nat} {b : List Nat} {s t : Nat} {l : List Nat} {j : Nat} (h : s + j < l.length) : (stepJ p b s t l j).getD (s + j) 0 = l.getD (s + j) 0 := by
  have h2 : s + j < (stepJ p b s t l j).length := by rw [stepJ_len]; exact h
  rw [List.getD_eq_getElem?_getD, List.getD_eq_getElem?_getD, List.getElem?_eq_getElem h2, List.getElem?_eq_getElem h]
  show (stepJ p b s t l j)[s + j] = l[s + j]
  rw [stepJ_get h2 h, if_neg (by omega)]
theorem stepJ_succ {p : Nat} {b : List Nat} {s t : Nat} {l : List Nat} {j : Nat} (h : s + j < l.length) : (stepJ p b s t l j).set (s + j) (red p (l.getD (s + j) 0) t (b.getD j 0)) = stepJ p b s t l (j + 1) := by
  apply List.ext_getElem
  · rw [List.length_set, stepJ_len, stepJ_len]
  · intro i h1 h2
    have hi : i < l.length := by
      rw [stepJ_len] at h2
      exact h2
    rw [List.getElem_set, stepJ_get h2 hi]
    by_cases e : s + j = i
    · subst e
      rw [if_pos rfl, if_pos (by omega), show s + j - s = j by omega]
      simp [h]
    · rw [if_neg e, stepJ_get (by rw [stepJ_len]; exact hi) hi]
      by_cases e2 : s ≤ i ∧ i < s + j
      · rw [if_pos e2, if_pos (by omega)]
      · rw [if_neg e2, if_neg (by omega)]
theorem stepJ_lt {p : Nat} {b : List Nat} {s t : Nat} {l : List Nat} {j B : Nat} (hp : 0 < p) (hB : p ≤ B) (hl : ∀ x ∈ l, x < B) : ∀ x ∈ stepJ p b s t l j, x < B := by
  intro x hx
  obtain ⟨i, hi, rfl⟩ := List.mem_iff_getElem.mp hx
  have hi2 : i < l.length := by
    rw [stepJ_len] at hi
    exact hi
  rw [stepJ_get hi hi2]
  by_cases e : s ≤ i ∧ i < s + j
  · rw [if_pos e]
    exact Nat.lt_of_lt_of_le (red_int hp).2 hB
  · rw [if_neg e]
    exact hl _ (List.getElem_mem hi2)
/-- one turn: the top taken off -/
def stepL (p : Nat) (b l : List Nat) : List Nat := stepJ p b (l.length - b.length) (l.getD (l.length - 1) 0) l.dropLast (b.length - 1)
theorem stepL_len (p : Nat) (b l : List Nat) : (stepL p b l).length = l.length - 1 := by
  unfold stepL
  rw [stepJ_len, List.length_dropLast]
def restN (p : Nat) (b : List Nat) : Nat → List Nat → List Nat
  | 0, l => l
  | n + 1, l => restN p b n (stepL p b l)
/-- what a row leaves -/
def restF (p : Nat) (b l : List Nat) : List Nat := restN p b (l.length + 1 - b.length) l
theorem restF_step {p : Nat} {b l : List Nat} (h0 : 0 < l.length) (h : b.length ≤ l.length) : restF p b (stepL p b l) = restF p b l := by
  unfold restF
  rw [stepL_len, show l.length + 1 - b.length = (l.length - 1 + 1 - b.length) + 1 by omega]
  rfl
theorem restF_end {p : Nat} {b l : List Nat} (h : l.length < b.length) : restF p b l = l := by
  unfold restF
  rw [show l.length + 1 - b.length = 0 by omega]
  rfl
def spRest : Sp := fun vs H Q _ => ∃ (a b : Addr) (p : Nat) (one by' : List Nat), vs = [.int ((p : Nat) : Int), .ref a, .ref b] ∧ H a = some (.tup (nats one)) ∧ H b = some (.tup (nats by')) ∧ 1 ≤ p ∧ p ≤ 31 ∧ one.length ≤ 60 ∧ 1 ≤ by'.length ∧ by'.length ≤ 60 ∧ (∀ x ∈ one, x < 32) ∧ ∀ (t : Addr) (H' : Hp), H t = none → Same H H' → H' t = some (.tup (nats (trimL (restF p by' one)))) → Q (.ref t) H'
theorem nats_setQ (l : List Nat) (i x : Nat) : (nats l).set i (.int ((x : Nat) : Int)) = nats (l.set i x) := by
  unfold nats
  rw [List.map_set]
theorem nats_drop (l : List Nat) : (nats l).dropLast = nats l.dropLast := by
  unfold nats
  rw [List.map_dropLast]
theorem ixN_nat {n k : Nat} (h : k < n) : ixN n ((k : Nat) : Int) = some k := by
  unfold ixN
  rw [if_pos (by omega), if_pos (by omega), Int.toNat_natCast]
theorem scRowRest : FnScope ["p", "one", "by", "left", "top", "start", "place", "digit"] ["p", "one", "by"] (defScope sRowRest) := ⟨rfl, rfl, rfl, by decide +kernel, rfl, by decide +kernel, by decide +kernel⟩
theorem cut_but {b : List Nat} (h : 1 ≤ b.length) : cutV (nats b) none (some (-1)) = nats b.dropLast := by
  unfold cutV
  have e1 : HT.sIx (nats b).length 0 none = 0 := by simp [HT.sIx]
  have e2 : HT.sIx (nats b).length (nats b).length (some (-1)) = b.length - 1 := by
    rw [nats_len]
    simp [HT.sIx]
    omega
  rw [e1, e2, List.drop_zero, Nat.sub_zero, List.dropLast_eq_take]
  unfold nats
  rw [List.map_take]
theorem not_all {n : Nat} (h : 1 ≤ n) : ¬ (HT.sIx n 0 none = 0 ∧ HT.sIx n n (some (-1)) = n) := by
  rintro ⟨_, z⟩
  simp [HT.sIx] at z
  omega
theorem ok_rest {f : Addr} {fd : FuncData} (F : Fun K "row_rest" "row_rest" sRowRest f fd) (T : TxtB mg) (pTrimmed : Pm P w K mg base CX0 1 "trimmed" ["digits"] spTrim) : FnOk P w K mg base CX0 2 f fd ["p", "one", "by"] spRest := by
  refine F.okQ scRowRest (fun vs H Q E h => ?_) (fun cdv A outer s H vs Q E hr1 h => ?_)
  · obtain ⟨a, b, p, one, by', rfl, _⟩ := h
    rfl
  · obtain ⟨a, b, p, one, by', rfl, ha, hb, hp1, hp31, ho60, hb1, hb60, ho, q⟩ := h
    refine ⟨_, (qss_cons (qs_set (i := 3) scRowRest.nd rfl (Or.inl rfl) (qe_callTy call_list_of (by rfl) T.lst (by decide +kernel) (qac (qv 1) qa_nil)))
      (qss_cons (qs_while PassesOwn.never (qt_cmpR op_ge (qe_callB call_len_seq (by rfl) T.len PySem.boot_len (qac (qv 3) qa_nil)) (qe_callB call_len_seq (by rfl) T.len PySem.boot_len (qac (qv 2) qa_nil)) (nomark _))
        (qss_cons (qs_set (i := 4) scRowRest.nd rfl (Or.inl rfl) (qe_bm0 PySem.F.plainAttrs_list PySem.F.slot_list_pop PySem.F.type_list_pop mt_pop (qv 3)))
        (qss_cons (qs_set (i := 5) scRowRest.nd rfl (Or.inl rfl) (qe_op op_sub (qe_op op_add (qe_callB call_len_seq (by rfl) T.len PySem.boot_len (qac (qv 3) qa_nil)) qe_int) (qe_callB call_len_seq (by rfl) T.len PySem.boot_len (qac (qv 2) qa_nil))))
        (qss_one (qs_for PassesOwn.never rfl (qi_enumK rfl T.enu (qe_slice sl_tup (qv 2) qo_none (qo_some (qe_un un_neg qe_int))) (qv 5)) (qg_tup rfl (qgs_cons (qg_name (i := 6) scRowRest.nd rfl (Or.inl rfl)) (qgs_cons (qg_name (i := 7) scRowRest.nd rfl (Or.inl rfl)) qgs_nil)))
          (qss_one (qs_asg (qe_op op_mod (qe_op op_sub (qe_ix ix_list (qv 3) (qv 6) (fun _ _ => rfl)) (qe_op op_mul (qv 4) (qv 7))) (qv 0)) (qg_sub (qv 3) (qv 6) set_list))))))))
      (qss_one (qs_ret (qe_callP pTrimmed hr1 rfl pass0 (qac (qv 3) qa_nil)))))), ?_⟩
    refine ⟨_, rfl, a, _, rfl, .inr (SqT.of ha), fun g hg => ?_⟩
    refine while_w (fun σ H2 => Same H H2 ∧ ∃ (l : List Nat) (x4 x5 x6 x7 : Option V), σ = [some (.int ((p : Nat) : Int)), some (.ref a), some (.ref b), some (.ref g), x4, x5, x6, x7] ∧ H2 g = some (.lst (nats l)) ∧ restF p by' l = restF p by' one ∧ l.length ≤ 60 ∧ ∀ x ∈ l, x < 32)
      (fun _ H2 => match H2 g with | some (.lst xs) => xs.length | _ => 0) ⟨same_new hg, one, none, none, none, none, rfl, upd_same, rfl, ho60, ho⟩ ?_
    rintro mm σ H2 ⟨s2, l, x4, x5, x6, x7, rfl, hg2, hre, hl60, hl32⟩ hmm
    have hb2 := s2 _ _ hb
    refine ⟨_, rfl, g, _, rfl, .inl (SqL.of hg2), _, rfl, b, _, rfl, .inr (SqT.of hb2), _, _, rfl, rfl, _, rfl, ?_⟩
    refine ite2 (fun h1 => WTurn.of ?_) (fun h1 => ?_)
    · have h1' : by'.length ≤ l.length := by
        have := of_decide_eq_true h1
        rw [nats_len, nats_len] at this
        omega
      have hl0 : 0 < l.length := by omega
      have e1 : (nats l)[(nats l).length - 1]? = some (.int ((l.getD (l.length - 1) 0 : Nat) : Int)) := by
        rw [nats_len]
        unfold nats
        rw [List.getElem?_map, List.getElem?_eq_getElem (by omega)]
        simp [show l.length - 1 < l.length by omega]
      refine ⟨_, rfl, .inl ⟨rfl, _, SqL.of hg2⟩, g, _, _, rfl, rfl, hg2, e1, ?_⟩
      rw [nats_drop]
      have s3 : Same H (upd H2 g (.lst (nats l.dropLast))) := same_upd s2 hg
      have hg3 : upd H2 g (.lst (nats l.dropLast)) g = some (.lst (nats l.dropLast)) := upd_same
      generalize upd H2 g (.lst (nats l.dropLast)) = H3 at s3 hg3 ⊢
      refine ⟨_, rfl, g, _, rfl, .inl (SqL.of hg3), _, _, rfl, rfl, _, rfl, b, _, rfl, .inr (SqT.of (s3 _ _ hb)), _, _, rfl, rfl, ?_⟩
      dsimp only
      rw [nats_len, nats_len, List.length_dropLast, show ((l.length - 1 : Nat) : Int) + 1 - ((by'.length : Nat) : Int) = ((l.length - by'.length : Nat) : Int) by omega]
      refine ⟨_, rfl, 1, rfl, _, rfl, b, _, rfl, SqT.of (s3 _ _ hb), by rw [nats_len]; exact not_all hb1, fun c hc => ?_⟩
      rw [show cutV (nats by') none (some (-1)) = nats by'.dropLast from cut_but hb1]
      have w4 := same_new (o := .tup (nats by'.dropLast)) hc
      have s4 := s3.trans w4
      have hg4 := w4 _ _ hg3
      have hc4 : upd H3 c (.tup (nats by'.dropLast)) c = some (.tup (nats by'.dropLast)) := upd_same
      have hcg : g ≠ c := ne_of_none hg3 hc
      generalize upd H3 c (.tup (nats by'.dropLast)) = H4 at s4 hg4 hc4 ⊢
      refine ⟨_, rfl, c, l.length - by'.length, rfl, rfl, by omega, ⟨_, SqT.of hc4⟩, for_enumK (k0 := l.length - by'.length) (K := K) (xs := nats by'.dropLast) (fun j σ H5 => Same H H5 ∧ H5 c = some (.tup (nats by'.dropLast)) ∧ (∃ x6 x7, σ = [some (.int ((p : Nat) : Int)), some (.ref a), some (.ref b), some (.ref g), some (.int ((l.getD (l.length - 1) 0 : Nat) : Int)), some (.int ((l.length - by'.length : Nat) : Int)), x6, x7]) ∧ H5 g = some (.lst (nats (stepJ p by' (l.length - by'.length) (l.getD (l.length - 1) 0) l.dropLast j)))) ⟨s4, hc4, ⟨_, _, rfl⟩, by rw [stepJ_zero]; exact hg4⟩ (fun j σ H5 _ ⟨_, e, _⟩ => SqT.of e) ?_ ?_⟩
      · rintro j v T1 σ H5 hj ⟨s5, hc5, ⟨x6, x7, rfl⟩, hg5⟩ hT1
        obtain ⟨y, hy, rfl⟩ := L2.nats_get hj
        have hjl := (List.getElem?_eq_some_iff.mp hy).1
        rw [List.length_dropLast] at hjl
        have hyb : by'.getD j 0 = y := by
          rw [List.getD_eq_getElem?_getD]
          rw [List.dropLast_eq_take, List.getElem?_take_of_lt (by omega)] at hy
          rw [hy]
          rfl
        have w5 := same_new (o := .tup [V.int ((l.length - by'.length + j : Nat) : Int), V.int ((y : Nat) : Int)]) hT1
        refine ⟨T1, _, rfl, SqT.of upd_same, rfl, _, _, rfl, _, _, rfl, rfl, ?_⟩
        have s6 := s5.trans w5
        have hc6 := w5 _ _ hc5
        have hg6 := w5 _ _ hg5
        generalize upd H5 T1 (.tup [V.int ((l.length - by'.length + j : Nat) : Int), V.int ((y : Nat) : Int)]) = H6 at s6 hc6 hg6 ⊢
        have hix : l.length - by'.length + j < l.dropLast.length := by rw [List.length_dropLast]; omega
        have e2 : atI (nats (stepJ p by' (l.length - by'.length) (l.getD (l.length - 1) 0) l.dropLast j)) ((l.length - by'.length + j : Nat) : Int) = some (.int ((l.dropLast.getD (l.length - by'.length + j) 0 : Nat) : Int)) := by
          rw [nat_atQ (by rw [stepJ_len]; exact hix), stepJ_at hix]
        have htop : l.getD (l.length - 1) 0 < 32 := by
          rw [List.getD_eq_getElem?_getD, List.getElem?_eq_getElem (by omega)]
          exact hl32 _ (List.getElem_mem _)
        obtain ⟨r1, r2⟩ := red_int (p := p) (v := l.dropLast.getD (l.length - by'.length + j) 0) (t := l.getD (l.length - 1) 0) (d := y) (by omega)
        refine ⟨_, rfl, _, rfl, g, _, _, _, rfl, rfl, SqL.of hg6, e2, _, rfl, _, rfl, _, _, rfl, rfl, .inl ⟨by omega, by omega⟩, _, _, rfl, rfl, _, rfl, _, _, rfl, rfl, by omega, _, rfl, _, rfl, g, _, _, l.length - by'.length + j, rfl, rfl, hg6, by rw [nats_len, stepJ_len]; exact ixN_nat hix, ?_⟩
        have hcg6 : c ≠ g := Ne.symm hcg
        have key : (nats (stepJ p by' (l.length - by'.length) (l.getD (l.length - 1) 0) l.dropLast j)).set (l.length - by'.length + j) (V.int ((((l.dropLast.getD (l.length - by'.length + j) 0 : Nat) : Int) - ((l.getD (l.length - 1) 0 : Nat) : Int) * ((y : Nat) : Int)) % ((p : Nat) : Int))) = nats (stepJ p by' (l.length - by'.length) (l.getD (l.length - 1) 0) l.dropLast (j + 1)) := by
          rw [r1, nats_setQ, ← hyb, stepJ_succ hix]
        refine ⟨same_upd s6 hg, by rw [upd_ne hcg6]; exact hc6, ⟨_, _, rfl⟩, ?_⟩
        rw [upd_same]
        exact congrArg (fun z => some (HO.lst z)) key
      · rintro σ H5 ⟨s5, hc5, ⟨x6, x7, rfl⟩, hg5⟩
        rw [nats_len, List.length_dropLast] at hg5
        have hst : stepJ p by' (l.length - by'.length) (l.getD (l.length - 1) 0) l.dropLast (by'.length - 1) = stepL p by' l := rfl
        rw [hst] at hg5
        refine ⟨⟨s5, stepL p by' l, _, _, _, _, rfl, hg5, by rw [restF_step hl0 h1', hre], by rw [stepL_len]; omega, ?_⟩, ?_⟩
        · exact stepJ_lt (by omega) (by omega) fun x hx => hl32 x (List.dropLast_subset _ hx)
        · rw [hmm, hg2]
          show (match H5 g with | some (.lst xs) => xs.length | _ => 0) < _
          rw [hg5]
          show (nats (stepL p by' l)).length < (nats l).length
          rw [nats_len, nats_len, stepL_len]
          omega
    · have h1' : l.length < by'.length := by
        have : ¬ ((nats by').length : Int) ≤ ((nats l).length : Int) := fun z => h1 (decide_eq_true z)
        rw [nats_len, nats_len] at this
        omega
      refine ⟨_, rfl, g, l, rfl, hg2, by omega, fun t H3 ht s3 ht3 => ?_⟩
      refine q t H3 (s2.free ht) (s2.trans s3) ?_
      rw [← hre, restF_end h1']
      exact ht3
theorem scLLeft : FnScope ["_law_p", "_law_one", "_law_by", "_law_found", "_law_top", "_law_k", "_law_at"] ["_law_p", "_law_one", "_law_by"] (defScope sLLeft) := ⟨rfl, rfl, rfl, by decide +kernel, rfl, by decide +kernel, by decide +kernel⟩
theorem ok_left {f : Addr} {fd : FuncData} (F : Fun K "_law_left" "_law_left" sLLeft f fd) (T : TxtB mg) (pLTrim : Pm P w K mg base CX0 1 "_law_trim" ["_law_row"] spTrim) : FnOk P w K mg base CX0 2 f fd ["_law_p", "_law_one", "_law_by"] spRest := by
  refine F.okQ scLLeft (fun vs H Q E h => ?_) (fun cdv A outer s H vs Q E hr1 h => ?_)
  · obtain ⟨a, b, p, one, by', rfl, _⟩ := h
    rfl
  · obtain ⟨a, b, p, one, by', rfl, ha, hb, hp1, hp31, ho60, hb1, hb60, ho, q⟩ := h
    refine ⟨_, (qss_cons (qs_set (i := 3) scLLeft.nd rfl (Or.inl rfl) (qe_callTy call_list_of (by rfl) T.lst (by decide +kernel) (qac (qv 1) qa_nil)))
      (qss_cons (qs_while PassesOwn.never (qt_cmpR op_ge (qe_callB call_len_seq (by rfl) T.len PySem.boot_len (qac (qv 3) qa_nil)) (qe_callB call_len_seq (by rfl) T.len PySem.boot_len (qac (qv 2) qa_nil)) (nomark _))
        (qss_cons (qs_set (i := 4) scLLeft.nd rfl (Or.inl rfl) (qe_bm0 PySem.F.plainAttrs_list PySem.F.slot_list_pop PySem.F.type_list_pop mt_pop (qv 3)))
        (qss_one (qs_for PassesOwn.never rfl (qi_range1 rfl T.range (qac (qe_op op_sub (qe_callB call_len_seq (by rfl) T.len PySem.boot_len (qac (qv 2) qa_nil)) qe_int) qa_nil)) (qg_name (i := 5) scLLeft.nd rfl (Or.inl rfl))
          (qss_cons (qs_set (i := 6) scLLeft.nd rfl (Or.inl rfl) (qe_op op_add (qe_op op_add (qe_op op_sub (qe_callB call_len_seq (by rfl) T.len PySem.boot_len (qac (qv 3) qa_nil)) (qe_callB call_len_seq (by rfl) T.len PySem.boot_len (qac (qv 2) qa_nil))) qe_int) (qv 5)))
          (qss_one (qs_asg (qe_op op_mod (qe_op op_sub (qe_ix ix_list (qv 3) (qv 6) (fun _ _ => rfl)) (qe_op op_mul (qv 4) (qe_ix ix_tup (qv 2) (qv 5) (fun _ _ => rfl)))) (qv 0)) (qg_sub (qv 3) (qv 6) set_list))))))))
      (qss_one (qs_ret (qe_callP pLTrim hr1 rfl pass0 (qac (qv 3) qa_nil)))))), ?_⟩
    refine ⟨_, rfl, a, _, rfl, .inr (SqT.of ha), fun g hg => ?_⟩
    refine while_w (fun σ H2 => Same H H2 ∧ ∃ (l : List Nat) (x4 x5 x6 : Option V), σ = [some (.int ((p : Nat) : Int)), some (.ref a), some (.ref b), some (.ref g), x4, x5, x6] ∧ H2 g = some (.lst (nats l)) ∧ restF p by' l = restF p by' one ∧ l.length ≤ 60 ∧ ∀ x ∈ l, x < 32)
      (fun _ H2 => match H2 g with | some (.lst xs) => xs.length | _ => 0) ⟨same_new hg, one, none, none, none, rfl, upd_same, rfl, ho60, ho⟩ ?_
    rintro mm σ H2 ⟨s2, l, x4, x5, x6, rfl, hg2, hre, hl60, hl32⟩ hmm
    have hb2 := s2 _ _ hb
    refine ⟨_, rfl, g, _, rfl, .inl (SqL.of hg2), _, rfl, b, _, rfl, .inr (SqT.of hb2), _, _, rfl, rfl, _, rfl, ?_⟩
    refine ite2 (fun h1 => WTurn.of ?_) (fun h1 => ?_)
    · have h1' : by'.length ≤ l.length := by
        have := of_decide_eq_true h1
        rw [nats_len, nats_len] at this
        omega
      have hl0 : 0 < l.length := by omega
      have e1 : (nats l)[(nats l).length - 1]? = some (.int ((l.getD (l.length - 1) 0 : Nat) : Int)) := by
        rw [nats_len]
        unfold nats
        rw [List.getElem?_map, List.getElem?_eq_getElem (by omega)]
        simp [show l.length - 1 < l.length by omega]
      refine ⟨_, rfl, .inl ⟨rfl, _, SqL.of hg2⟩, g, _, _, rfl, rfl, hg2, e1, ?_⟩
      rw [nats_drop]
      have s3 : Same H (upd H2 g (.lst (nats l.dropLast))) := same_upd s2 hg
      have hg3 : upd H2 g (.lst (nats l.dropLast)) g = some (.lst (nats l.dropLast)) := upd_same
      generalize upd H2 g (.lst (nats l.dropLast)) = H3 at s3 hg3 ⊢
      refine ⟨_, rfl, b, _, rfl, .inr (SqT.of (s3 _ _ hb)), _, _, rfl, rfl, ((by'.length - 1 : Nat) : Int), ?_, by omega, by omega, ?_⟩
      · show [V.int ((((nats by').length : Nat) : Int) - 1)] = _
        rw [nats_len, show ((by'.length : Nat) : Int) - 1 = ((by'.length - 1 : Nat) : Int) by omega]
      rw [Int.toNat_natCast]
      refine for_range (lo := 0) (n := by'.length - 1) (fun j σ H5 => Same H H5 ∧ (∃ x5 x6, σ = [some (.int ((p : Nat) : Int)), some (.ref a), some (.ref b), some (.ref g), some (.int ((l.getD (l.length - 1) 0 : Nat) : Int)), x5, x6]) ∧ H5 g = some (.lst (nats (stepJ p by' (l.length - by'.length) (l.getD (l.length - 1) 0) l.dropLast j)))) ⟨s3, ⟨_, _, rfl⟩, by rw [stepJ_zero]; exact hg3⟩ ?_ ?_
      · rintro j σ H6 hj ⟨s6, ⟨x5, x6, rfl⟩, hg6⟩
        rw [Int.zero_add]
        have hix : l.length - by'.length + j < l.dropLast.length := by rw [List.length_dropLast]; omega
        have e2 : atI (nats (stepJ p by' (l.length - by'.length) (l.getD (l.length - 1) 0) l.dropLast j)) ((l.length - by'.length + j : Nat) : Int) = some (.int ((l.dropLast.getD (l.length - by'.length + j) 0 : Nat) : Int)) := by
          rw [nat_atQ (by rw [stepJ_len]; exact hix), stepJ_at hix]
        have htop : l.getD (l.length - 1) 0 < 32 := by
          rw [List.getD_eq_getElem?_getD, List.getElem?_eq_getElem (by omega)]
          exact hl32 _ (List.getElem_mem _)
        obtain ⟨r1, r2⟩ := red_int (p := p) (v := l.dropLast.getD (l.length - by'.length + j) 0) (t := l.getD (l.length - 1) 0) (d := by'.getD j 0) (by omega)
        refine ⟨_, rfl, g, _, rfl, .inl (SqL.of hg6), _, rfl, b, _, rfl, .inr (SqT.of (s6 _ _ hb)), _, _, rfl, rfl, _, _, rfl, rfl, _, rfl, _, _, rfl, rfl, ?_⟩
        dsimp only
        rw [nats_len, stepJ_len, List.length_dropLast, nats_len, show ((l.length - 1 : Nat) : Int) - ((by'.length : Nat) : Int) + 1 + ((j : Nat) : Int) = ((l.length - by'.length + j : Nat) : Int) by omega]
        refine ⟨_, rfl, _, rfl, g, _, _, _, rfl, rfl, SqL.of hg6, e2, _, rfl, _, rfl, _, rfl, b, _, _, _, rfl, rfl, SqT.of (s6 _ _ hb), nat_atQ (by omega), _, _, rfl, rfl, .inl ⟨by omega, by omega⟩, _, _, rfl, rfl, _, rfl, _, _, rfl, rfl, by omega, _, rfl, _, rfl, g, _, _, l.length - by'.length + j, rfl, rfl, hg6, by rw [nats_len, stepJ_len]; exact ixN_nat hix, ?_⟩
        have key : (nats (stepJ p by' (l.length - by'.length) (l.getD (l.length - 1) 0) l.dropLast j)).set (l.length - by'.length + j) (V.int ((((l.dropLast.getD (l.length - by'.length + j) 0 : Nat) : Int) - ((l.getD (l.length - 1) 0 : Nat) : Int) * ((by'.getD j 0 : Nat) : Int)) % ((p : Nat) : Int))) = nats (stepJ p by' (l.length - by'.length) (l.getD (l.length - 1) 0) l.dropLast (j + 1)) := by
          rw [r1, nats_setQ, stepJ_succ hix]
        refine ⟨same_upd s6 hg, ⟨_, _, rfl⟩, ?_⟩
        rw [upd_same]
        exact congrArg (fun z => some (HO.lst z)) key
      · rintro σ H5 ⟨s5, ⟨x5, x6, rfl⟩, hg5⟩
        have hst : stepJ p by' (l.length - by'.length) (l.getD (l.length - 1) 0) l.dropLast (by'.length - 1) = stepL p by' l := rfl
        rw [hst] at hg5
        refine ⟨⟨s5, stepL p by' l, _, _, _, rfl, hg5, by rw [restF_step hl0 h1', hre], by rw [stepL_len]; omega, ?_⟩, ?_⟩
        · exact stepJ_lt (by omega) (by omega) fun x hx => hl32 x (List.dropLast_subset _ hx)
        · rw [hmm, hg2]
          show (match H5 g with | some (.lst xs) => xs.length | _ => 0) < _
          rw [hg5]
          show (nats (stepL p by' l)).length < (nats l).length
          rw [nats_len, nats_len, stepL_len]
          omega
    · have h1' : l.length < by'.length := by
        have : ¬ ((nats by').length : Int) ≤ ((nats l).length : Int) := fun z => h1 (decide_eq_true z)
        rw [nats_len, nats_len] at this
        omega
      refine ⟨_, rfl, g, l, rfl, hg2, by omega, fun t H3 ht s3 ht3 => ?_⟩
      refine q t H3 (s2.free ht) (s2.trans s3) ?_
      rw [← hre, restF_end h1']
      exact ht3
/-- the products that meet at k, of the first i numbers -/
def csL (one other : List Nat) (k i : Nat) : List Nat := ((List.range i).filter fun j => decide (j ≤ k ∧ k < j + other.length)).map fun j => one.getD j 0 * other.getD (k - j) 0
theorem csL_snoc (one other : List Nat) (k i : Nat) : csL one other k (i + 1) = csL one other k i ++ if i ≤ k ∧ k < i + other.length then [one.getD i 0 * other.getD (k - i) 0] else [] := by
  unfold csL
  rw [List.range_succ, List.filter_append, List.map_append]
  by_cases h : i ≤ k ∧ k < i + other.length
  · rw [if_pos h]
    simp [h]
  · rw [if_neg h]
    simp [h]
/-- the product of two rows -/
def convL (p : Nat) (one other : List Nat) : List Nat := (List.range (one.length + other.length)).map fun k => (csL one other k one.length).sum % p
def spProd : Sp := fun vs H Q _ => ∃ (a b : Addr) (p : Nat) (one other : List Nat), vs = [.int ((p : Nat) : Int), .ref a, .ref b] ∧ H a = some (.tup (nats one)) ∧ H b = some (.tup (nats other)) ∧ 1 ≤ p ∧ p ≤ 31 ∧ one.length ≤ 20 ∧ other.length ≤ 20 ∧ (∀ x ∈ one, x < 32) ∧ (∀ x ∈ other, x < 32) ∧ ∀ (t : Addr) (H' : Hp), H t = none → Same H H' → H' t = some (.tup (nats (trimL (convL p one other)))) → Q (.ref t) H'
def sumTo : Nat → (Nat → Int) → Int
  | 0, _ => 0
  | n + 1, f => sumTo n f + f n
theorem sumTo_congr {f g : Nat → Int} : ∀ {n : Nat}, (∀ i, i < n → f i = g i) → sumTo n f = sumTo n g
  | 0, _ => rfl
  | n + 1, h => by
    rw [sumTo, sumTo, sumTo_congr fun i hi => h i (by omega), h n (by omega)]
theorem sumTo_add (f g : Nat → Int) : ∀ n, sumTo n (fun i => f i + g i) = sumTo n f + sumTo n g
  | 0 => rfl
  | n + 1 => by
    rw [sumTo, sumTo, sumTo, sumTo_add f g n]
    omega
theorem sumTo_mul (c : Int) (f : Nat → Int) : ∀ n, sumTo n (fun i => c * f i) = c * sumTo n f
  | 0 => by simp [sumTo]
  | n + 1 => by
    rw [sumTo, sumTo, sumTo_mul c f n, Int.mul_add]
theorem sumTo_zero {f : Nat → Int} : ∀ {n : Nat}, (∀ i, i < n → f i = 0) → sumTo n f = 0
  | 0, _ => rfl
  | n + 1, h => by
    rw [sumTo, sumTo_zero fun i hi => h i (by omega), h n (by omega)]
    rfl
theorem sumTo_swap (m : Nat) (f : Nat → Nat → Int) : ∀ n, sumTo n (fun i => sumTo m fun j => f i j) = sumTo m (fun j => sumTo n fun i => f i j)
  | 0 => (sumTo_zero fun _ _ => rfl).symm
  | n + 1 => by
    rw [sumTo, sumTo_swap m f n, ← sumTo_add]
    rfl
theorem sumTo_tail {n : Nat} {f : Nat → Int} (h : ∀ i, n ≤ i → f i = 0) : ∀ k, sumTo (n + k) f = sumTo n f
  | 0 => rfl
  | k + 1 => by
    rw [← Nat.add_assoc, sumTo, sumTo_tail h k, h _ (by omega), Int.add_zero]
theorem sumTo_shift (s : Nat) (f : Nat → Int) : ∀ n, sumTo (s + n) (fun i => if s ≤ i then f i else 0) = sumTo n (fun m => f (s + m))
  | 0 => sumTo_zero fun i hi => if_neg (by omega)
  | n + 1 => by
    rw [← Nat.add_assoc, sumTo, sumTo_shift s f n, sumTo, if_pos (by omega)]
theorem sumTo_pick (f : Nat → Int) (k : Nat) : ∀ n, sumTo n (fun i => f i * if i = k then 1 else 0) = if k < n then f k else 0
  | 0 => by
    rw [if_neg (by omega)]
    rfl
  | n + 1 => by
    rw [sumTo, sumTo_pick f k n]
    by_cases h : n = k
    · subst h
      rw [if_neg (by omega), if_pos rfl, if_pos (by omega), Int.mul_one, Int.zero_add]
    · rw [if_neg h, Int.mul_zero, Int.add_zero]
      by_cases h2 : k < n
      · rw [if_pos h2, if_pos (by omega)]
      · rw [if_neg h2, if_neg (by omega)]
/-- alike by p -/
def Cg (p : Nat) (x y : Int) : Prop := ∃ c : Int, x = y + (p : Int) * c
theorem Cg.refl {p : Nat} (x : Int) : Cg p x x := ⟨0, by simp⟩
theorem Cg.of_eq {p : Nat} {x y : Int} (h : x = y) : Cg p x y := h ▸ Cg.refl x
theorem Cg.symm {p : Nat} {x y : Int} (h : Cg p x y) : Cg p y x := by
  obtain ⟨c, h⟩ := h
  exact ⟨-c, by rw [h, Int.mul_neg]; omega⟩
theorem Cg.trans {p : Nat} {x y z : Int} (h : Cg p x y) (h2 : Cg p y z) : Cg p x z := by
  obtain ⟨c, h⟩ := h
  obtain ⟨d, h2⟩ := h2
  exact ⟨c + d, by rw [h, h2, Int.mul_add]; omega⟩
theorem Cg.add {p : Nat} {x y z u : Int} (h : Cg p x y) (h2 : Cg p z u) : Cg p (x + z) (y + u) := by
  obtain ⟨c, h⟩ := h
  obtain ⟨d, h2⟩ := h2
  exact ⟨c + d, by rw [h, h2, Int.mul_add]; omega⟩
theorem Cg.mul {p : Nat} {x y : Int} (h : Cg p x y) (z : Int) : Cg p (x * z) (y * z) := by
  obtain ⟨c, h⟩ := h
  exact ⟨c * z, by rw [h, Int.add_mul, Int.mul_assoc]⟩
theorem Cg.sum {p : Nat} {f g : Nat → Int} : ∀ {n : Nat}, (∀ i, i < n → Cg p (f i) (g i)) → Cg p (sumTo n f) (sumTo n g)
  | 0, _ => Cg.refl _
  | n + 1, h => (Cg.sum fun i hi => h i (by omega)).add (h n (by omega))
theorem Cg.mod {p : Nat} (x : Int) : Cg p (x % (p : Int)) x := ⟨-(x / (p : Int)), by
  have := Int.mul_ediv_add_emod x (p : Int)
  rw [Int.mul_neg]
  omega⟩
theorem Cg.eq {p : Nat} {x y : Nat} (h : Cg p (x : Int) (y : Int)) (hx : x < p) (hy : y < p) : x = y := by
  obtain ⟨c, h⟩ := h
  have h1 : (x : Int) % (p : Int) = (y : Int) % (p : Int) := by
    rw [h, Int.add_mul_emod_self_left]
  rw [Int.emod_eq_of_lt (by omega) (by omega), Int.emod_eq_of_lt (by omega) (by omega)] at h1
  omega
/-- what the powers leave -/
def tabX (b : List Nat) (d k : Nat) : Nat → Nat → Int
  | 0, i => if i = k then 1 else 0
  | n + 1, i => if i = n + d then -(sumTo d fun m => ((b.getD m 0 : Nat) : Int) * tabX b d k n (n + m)) else tabX b d k n i
theorem tabX_keep {b : List Nat} {d k n i : Nat} (h : i < n + d) : ∀ j, tabX b d k (n + j) i = tabX b d k n i
  | 0 => rfl
  | j + 1 => by
    rw [← Nat.add_assoc, tabX, if_neg (by omega), tabX_keep h j]
def Xv (b : List Nat) (d k i : Nat) : Int := tabX b d k i i
theorem tab_Xv {b : List Nat} {d k n i : Nat} (hd : 1 ≤ d) (h : i < n + d) : tabX b d k n i = Xv b d k i := by
  unfold Xv
  rcases Nat.le_total n i with z | z
  · have := tabX_keep (b := b) (k := k) h (i - n)
    rw [show n + (i - n) = i by omega] at this
    exact this.symm
  · have := tabX_keep (b := b) (d := d) (k := k) (n := i) (i := i) (by omega) (n - i)
    rw [show i + (n - i) = n by omega] at this
    exact this
theorem Xv_low {b : List Nat} {d k i : Nat} (hd : 1 ≤ d) (h : i < d) : Xv b d k i = if i = k then 1 else 0 := by
  rw [← tab_Xv (n := 0) hd (by omega)]
  rfl
theorem Xv_rec {b : List Nat} {d k : Nat} (hd : 1 ≤ d) (n : Nat) : Xv b d k (n + d) = -(sumTo d fun m => ((b.getD m 0 : Nat) : Int) * Xv b d k (n + m)) := by
  rw [← tab_Xv (n := n + 1) hd (by omega), tabX, if_pos rfl]
  congr 1
  exact sumTo_congr fun m hm => by rw [tab_Xv hd (by omega)]
def bsI (b : List Nat) (s i : Nat) : Int := if s ≤ i then ((b.getD (i - s) 0 : Nat) : Int) else 0
theorem getD_out {l : List Nat} {i : Nat} (h : l.length ≤ i) : l.getD i 0 = 0 := by
  rw [List.getD_eq_getElem?_getD, List.getElem?_eq_none h]
  rfl
theorem getD_in {l : List Nat} {i : Nat} (h : i < l.length) : l.getD i 0 = l[i] := by
  rw [List.getD_eq_getElem?_getD, List.getElem?_eq_getElem h]
  rfl
theorem bs_sum {b : List Nat} {d k s : Nat} (hd : 1 ≤ d) (hb : b.length = d + 1) (h1 : b.getD d 0 = 1) (hs : s + d < 60) : sumTo 60 (fun i => bsI b s i * Xv b d k i) = 0 := by
  have e1 : sumTo 60 (fun i => bsI b s i * Xv b d k i) = sumTo (s + (60 - s)) (fun i => if s ≤ i then ((b.getD (i - s) 0 : Nat) : Int) * Xv b d k i else 0) := by
    rw [show s + (60 - s) = 60 by omega]
    refine sumTo_congr fun i _ => ?_
    unfold bsI
    by_cases z : s ≤ i
    · rw [if_pos z, if_pos z]
    · rw [if_neg z, if_neg z, Int.zero_mul]
  rw [e1, sumTo_shift]
  have e2 : sumTo (60 - s) (fun m => ((b.getD (s + m - s) 0 : Nat) : Int) * Xv b d k (s + m)) = sumTo (d + 1 + (60 - s - (d + 1))) (fun m => ((b.getD m 0 : Nat) : Int) * Xv b d k (s + m)) := by
    rw [show d + 1 + (60 - s - (d + 1)) = 60 - s by omega]
    refine sumTo_congr fun m _ => ?_
    rw [show s + m - s = m by omega]
  rw [e2, sumTo_tail (fun i hi => by rw [getD_out (by omega)]; simp), sumTo, h1, Xv_rec hd]
  omega
def Ev (b : List Nat) (d k : Nat) (l : List Nat) : Int := sumTo 60 fun i => ((l.getD i 0 : Nat) : Int) * Xv b d k i
theorem step_cg {p : Nat} {b l : List Nat} {d n : Nat} (hp : 1 ≤ p) (hb : b.length = d + 1) (h1 : b.getD d 0 = 1) (hl : l.length = n + 1) (hn : d ≤ n) (i : Nat) : Cg p (((stepL p b l).getD i 0 : Nat) : Int) (((l.getD i 0 : Nat) : Int) + bsI b (n - d) i * -((l.getD n 0 : Nat) : Int)) := by
  have hsl : (stepL p b l).length = n := by rw [stepL_len, hl]; rfl
  rcases Nat.lt_trichotomy i n with z | z | z
  · have hi : i < (stepL p b l).length := by omega
    have hdl : i < l.dropLast.length := by rw [List.length_dropLast, hl]; exact z
    rw [getD_in hi]
    unfold stepL at hi ⊢
    rw [stepJ_get hi hdl, List.getElem_dropLast, show l.length - b.length = n - d by omega, show l.getD (l.length - 1) 0 = l.getD n 0 by rw [hl]; rfl, show n - d + (b.length - 1) = n by omega]
    unfold bsI
    by_cases zz : n - d ≤ i
    · rw [if_pos ⟨zz, z⟩, if_pos zz, getD_in (show i < l.length by omega), ← (red_int hp).1]
      refine (Cg.mod _).trans (Cg.of_eq ?_)
      rw [Int.mul_neg, Int.mul_comm]
      omega
    · rw [if_neg (fun q => zz q.1), if_neg zz, getD_in (show i < l.length by omega)]
      exact Cg.of_eq (by simp)
  · subst z
    rw [getD_out (by omega)]
    unfold bsI
    rw [if_pos (by omega), show i - (i - d) = d by omega, h1]
    exact Cg.of_eq (by simp; omega)
  · rw [getD_out (by omega), getD_out (show l.length ≤ i by omega)]
    unfold bsI
    rw [if_pos (by omega), getD_out (by omega)]
    exact Cg.of_eq (by simp)
theorem step_ev {p : Nat} {b l : List Nat} {d k : Nat} (hp : 1 ≤ p) (hd : 1 ≤ d) (hb : b.length = d + 1) (h1 : b.getD d 0 = 1) (hl : l.length ≤ 60) (hn : d + 1 ≤ l.length) : Cg p (Ev b d k (stepL p b l)) (Ev b d k l) := by
  obtain ⟨n, hn'⟩ : ∃ n, l.length = n + 1 := ⟨l.length - 1, by omega⟩
  have e : Ev b d k l = sumTo 60 (fun i => (((l.getD i 0 : Nat) : Int) + bsI b (n - d) i * -((l.getD n 0 : Nat) : Int)) * Xv b d k i) := by
    have e1 : sumTo 60 (fun i => (((l.getD i 0 : Nat) : Int) + bsI b (n - d) i * -((l.getD n 0 : Nat) : Int)) * Xv b d k i) = sumTo 60 (fun i => ((l.getD i 0 : Nat) : Int) * Xv b d k i + -((l.getD n 0 : Nat) : Int) * (bsI b (n - d) i * Xv b d k i)) := by
      refine sumTo_congr fun i _ => ?_
      rw [Int.add_mul, Int.mul_comm (bsI b (n - d) i), Int.mul_assoc]
    rw [e1, sumTo_add, sumTo_mul, bs_sum hd hb h1 (by omega), Int.mul_zero, Int.add_zero]
    rfl
  rw [e]
  exact Cg.sum fun i _ => (step_cg hp hb h1 hn' (by omega) i).mul _
theorem rest_facts {p : Nat} {b : List Nat} {d : Nat} (hp : 1 ≤ p) (hd : 1 ≤ d) (hb : b.length = d + 1) (h1 : b.getD d 0 = 1) : ∀ n l, l.length + 1 = b.length + n → l.length ≤ 60 → (∀ x ∈ l, x < p) → (restN p b n l).length ≤ d ∧ (∀ x ∈ restN p b n l, x < p) ∧ ∀ k, Cg p (Ev b d k (restN p b n l)) (Ev b d k l)
  | 0, l, h, _, hx => ⟨by rw [restN]; omega, hx, fun k => Cg.refl _⟩
  | n + 1, l, h, hl, hx => by
    have hsl := stepL_len p b l
    obtain ⟨q1, q2, q3⟩ := rest_facts hp hd hb h1 n (stepL p b l) (by omega) (by omega) (stepJ_lt (by omega) (Nat.le_refl p) fun x hx' => hx x (List.dropLast_subset _ hx'))
    exact ⟨q1, q2, fun k => (q3 k).trans (step_ev hp hd hb h1 hl (by omega))⟩
theorem restF_facts {p : Nat} {b l : List Nat} {d : Nat} (hp : 1 ≤ p) (hd : 1 ≤ d) (hb : b.length = d + 1) (h1 : b.getD d 0 = 1) (hl : l.length ≤ 60) (hx : ∀ x ∈ l, x < p) : (restF p b l).length ≤ d ∧ (∀ x ∈ restF p b l, x < p) ∧ ∀ k, Cg p (Ev b d k (restF p b l)) (Ev b d k l) := by
  by_cases z : l.length < b.length
  · rw [restF_end z]
    exact ⟨by omega, hx, fun k => Cg.refl _⟩
  · exact rest_facts hp hd hb h1 (l.length + 1 - b.length) l (by omega) hl hx
theorem ev_low {b r : List Nat} {d k : Nat} (hd : 1 ≤ d) (hd60 : d ≤ 60) (hr : r.length ≤ d) (hk : k < d) : Ev b d k r = ((r.getD k 0 : Nat) : Int) := by
  unfold Ev
  rw [show 60 = d + (60 - d) by omega, sumTo_tail (fun i hi => by rw [getD_out (by omega)]; simp), sumTo_congr (g := fun i => ((r.getD i 0 : Nat) : Int) * if i = k then 1 else 0) fun i hi => by rw [Xv_low hd hi], sumTo_pick (fun i => ((r.getD i 0 : Nat) : Int)), if_pos hk]
/-- no nought at the end -/
def Tight (l : List Nat) : Prop := l = [] ∨ l.getD (l.length - 1) 0 ≠ 0
theorem rev_cases (l : List Nat) : l = [] ∨ ∃ m x, l = m ++ [x] := by
  rcases List.eq_nil_or_concat l with h | ⟨m, x, h⟩
  · exact .inl h
  · exact .inr ⟨m, x, by rw [h, List.concat_eq_append]⟩
theorem trim_facts : ∀ (n : Nat) (l : List Nat), l.length = n → Tight (trimL l) ∧ ∀ i, (trimL l).getD i 0 = l.getD i 0
  | 0, l, h => by
    have : l = [] := List.length_eq_zero_iff.mp h
    subst this
    exact ⟨.inl rfl, fun i => rfl⟩
  | n + 1, l, h => by
    rcases rev_cases l with rfl | ⟨m, x, rfl⟩
    · cases h
    · rw [List.length_append] at h
      have hm : m.length = n := by
        have : m.length + 1 = n + 1 := h
        omega
      by_cases hx : x = 0
      · subst hx
        rw [trim_zero]
        obtain ⟨q1, q2⟩ := trim_facts n m hm
        refine ⟨q1, fun i => ?_⟩
        rw [q2]
        rcases Nat.lt_trichotomy i m.length with z | z | z
        · rw [List.getD_eq_getElem?_getD, List.getD_eq_getElem?_getD, List.getElem?_append_left z]
        · subst z
          rw [getD_out (Nat.le_refl _), List.getD_eq_getElem?_getD, List.getElem?_append_right (Nat.le_refl _), Nat.sub_self]
          rfl
        · rw [getD_out (by omega), getD_out (by rw [List.length_append]; show m.length + 1 ≤ i; omega)]
      · rw [trim_keep m hx]
        refine ⟨.inr ?_, fun i => rfl⟩
        rw [List.length_append, show m.length + [x].length - 1 = m.length from rfl, List.getD_eq_getElem?_getD, List.getElem?_append_right (Nat.le_refl _), Nat.sub_self]
        exact hx
theorem trim_at (l : List Nat) (i : Nat) : (trimL l).getD i 0 = l.getD i 0 := (trim_facts _ l rfl).2 i
theorem tight_le {l m : List Nat} (hl : Tight l) (h : ∀ i, l.getD i 0 = m.getD i 0) : l.length ≤ m.length := by
  rcases hl with rfl | hl
  · exact Nat.zero_le _
  · rcases Nat.lt_or_ge m.length l.length with z | z
    · rw [h, getD_out (by omega)] at hl
      exact absurd rfl hl
    · exact z
theorem trim_ext {l m : List Nat} (h : ∀ i, l.getD i 0 = m.getD i 0) : trimL l = trimL m := by
  obtain ⟨a1, a2⟩ := trim_facts _ l rfl
  obtain ⟨b1, b2⟩ := trim_facts _ m rfl
  have hh : ∀ i, (trimL l).getD i 0 = (trimL m).getD i 0 := fun i => by rw [a2, b2, h]
  have h1 := tight_le a1 hh
  have h2 := tight_le b1 fun i => (hh i).symm
  apply List.ext_getElem (by omega)
  intro i z1 z2
  have := hh i
  rw [getD_in z1, getD_in z2] at this
  exact this
theorem cs_sum (one other : List Nat) (k : Nat) : ∀ n, (((csL one other k n).sum : Nat) : Int) = sumTo n fun j => ((one.getD j 0 : Nat) : Int) * bsI other j k
  | 0 => rfl
  | n + 1 => by
    rw [csL_snoc, List.sum_append, sumTo, ← cs_sum one other k n]
    unfold bsI
    by_cases h : n ≤ k ∧ k < n + other.length
    · rw [if_pos h, if_pos h.1]
      simp
    · rw [if_neg h]
      by_cases h2 : n ≤ k
      · rw [if_pos h2, getD_out (l := other) (by omega)]
        simp
      · rw [if_neg h2]
        simp
theorem conv_cg {p : Nat} (one other : List Nat) (i : Nat) : Cg p (((convL p one other).getD i 0 : Nat) : Int) (sumTo one.length fun j => ((one.getD j 0 : Nat) : Int) * bsI other j i) := by
  have hlen : (convL p one other).length = one.length + other.length := by
    unfold convL
    rw [List.length_map, List.length_range]
  by_cases h : i < one.length + other.length
  · rw [getD_in (by omega)]
    unfold convL
    rw [List.getElem_map, List.getElem_range, ← cs_sum]
    exact Int.natCast_emod _ _ ▸ Cg.mod _
  · rw [getD_out (by omega), sumTo_zero fun j hj => ?_]
    · exact Cg.refl _
    · unfold bsI
      rw [if_pos (by omega), getD_out (l := other) (by omega)]
      simp
theorem new_both {H : Hp} {a : Addr} {o : HO} (h : H a = none) : Same H (upd H a o) ∧ upd H a o a = some o := ⟨same_new h, upd_same⟩
/-- the products so far: i whole rows, j numbers of the next -/
def prN (one other : List Nat) (i j k : Nat) : Nat := (csL one other k i).sum + if i ≤ k ∧ k < i + j then one.getD i 0 * other.getD (k - i) 0 else 0
def prL (one other : List Nat) (i j : Nat) : List Nat := (List.range (one.length + other.length)).map (prN one other i j)
theorem prL_len (one other : List Nat) (i j : Nat) : (prL one other i j).length = one.length + other.length := by
  unfold prL
  rw [List.length_map, List.length_range]
theorem prL_el {one other : List Nat} {i j k : Nat} (h : k < (prL one other i j).length) : (prL one other i j)[k] = prN one other i j k := by
  simp [prL]
theorem prL_get {one other : List Nat} {i j k : Nat} (h : k < one.length + other.length) : (prL one other i j).getD k 0 = prN one other i j k := by
  rw [getD_in (by rw [prL_len]; exact h)]
  unfold prL
  rw [List.getElem_map, List.getElem_range]
theorem prL_row (one other : List Nat) (i : Nat) : prL one other i other.length = prL one other (i + 1) 0 := by
  unfold prL
  apply List.map_congr_left
  intro k _
  unfold prN
  rw [csL_snoc, List.sum_append, if_neg (c := i + 1 ≤ k ∧ k < i + 1 + 0) (by omega)]
  by_cases h : i ≤ k ∧ k < i + other.length
  · rw [if_pos h, if_pos h]
    simp
  · rw [if_neg h, if_neg h]
    simp
theorem prL_step {one other : List Nat} {i j : Nat} (hi : i < one.length) (hj : j < other.length) : (prL one other i j).set (i + j) (prN one other i j (i + j) + one.getD i 0 * other.getD j 0) = prL one other i (j + 1) := by
  apply List.ext_getElem
  · rw [List.length_set, prL_len, prL_len]
  · intro k h1 h2
    rw [prL_len] at h2
    rw [List.getElem_set, prL_el, prL_el]
    unfold prN
    by_cases e : i + j = k
    · subst e
      rw [if_pos rfl, if_neg (by omega), if_pos (by omega), show i + j - i = j by omega]
      omega
    · rw [if_neg e]
      by_cases e2 : i ≤ k ∧ k < i + j
      · rw [if_pos e2, if_pos (by omega)]
      · rw [if_neg e2, if_neg (by omega)]
theorem prL_zero (one other : List Nat) : prL one other 0 0 = List.replicate (one.length + other.length) 0 := by
  rw [List.eq_replicate_iff]
  refine ⟨prL_len .., fun b hb => ?_⟩
  unfold prL at hb
  obtain ⟨k, _, rfl⟩ := List.mem_map.mp hb
  unfold prN
  rw [if_neg (by omega)]
  rfl
theorem pr_conv (p : Nat) (one other : List Nat) : (prL one other one.length 0).map (fun x => x % p) = convL p one other := by
  unfold prL convL
  rw [List.map_map]
  apply List.map_congr_left
  intro k _
  show prN one other one.length 0 k % p = _
  unfold prN
  rw [if_neg (by omega)]
  rfl
theorem rep_flatQ : ∀ n : Nat, (List.replicate n [V.int 0]).flatten = nats (List.replicate n 0)
  | 0 => rfl
  | n + 1 => by
    rw [List.replicate_succ, List.flatten_cons, rep_flatQ n, List.replicate_succ]
    rfl
theorem nats_map_take {xs : List Nat} {i x : Nat} (f : Nat → Nat) (h : xs[i]? = some x) : nats ((xs.take i).map f) ++ [V.int ((f x : Nat) : Int)] = nats ((xs.take (i + 1)).map f) := by
  rw [take_snoc h, List.map_append, List.map_cons, List.map_nil, nats_snoc]
theorem scRowTimes : FnScope ["p", "one", "other", "product", "place", "digit", "further", "factor"] ["p", "one", "other"] (defScope sRowTimes) := ⟨rfl, rfl, rfl, by decide +kernel, rfl, by decide +kernel, by decide +kernel⟩
theorem ok_times {f : Addr} {fd : FuncData} (F : Fun K "row_times" "row_times" sRowTimes f fd) (T : TxtB mg) (pTrimmed : Pm P w K mg base CX0 1 "trimmed" ["digits"] spTrim) : FnOk P w K mg base CX0 2 f fd ["p", "one", "other"] spProd := by
  refine F.okQ scRowTimes (fun vs H Q E h => ?_) (fun cdv A outer s H vs Q E hr1 h => ?_)
  · obtain ⟨a, b, p, one, other, rfl, _⟩ := h
    rfl
  · obtain ⟨a, b, p, one, other, rfl, ha, hb, hp1, hp31, ho20, ht20, ho, ht, q⟩ := h
    refine ⟨_, (qss_cons (qs_set (i := 3) scRowTimes.nd rfl (Or.inl rfl) (qe_op op_mulL (qe_lst (qac qe_int qa_nil)) (qe_op op_add (qe_callB call_len_seq (by rfl) T.len PySem.boot_len (qac (qv 1) qa_nil)) (qe_callB call_len_seq (by rfl) T.len PySem.boot_len (qac (qv 2) qa_nil)))))
      (qss_cons (qs_for PassesOwn.never rfl (qi_enumT rfl T.enu (qac (qv 1) qa_nil)) (qg_tup rfl (qgs_cons (qg_name (i := 4) scRowTimes.nd rfl (Or.inl rfl)) (qgs_cons (qg_name (i := 5) scRowTimes.nd rfl (Or.inl rfl)) qgs_nil)))
        (qss_one (qs_for PassesOwn.never rfl (qi_enumT rfl T.enu (qac (qv 2) qa_nil)) (qg_tup rfl (qgs_cons (qg_name (i := 6) scRowTimes.nd rfl (Or.inl rfl)) (qgs_cons (qg_name (i := 7) scRowTimes.nd rfl (Or.inl rfl)) qgs_nil)))
          (qss_one (qs_augS (qv 3) (qe_op op_add (qv 4) (qv 6)) get_listN (qe_op op_mul (qv 5) (qv 7)) ip_add set_list)))))
      (qss_one (qs_ret (qe_callP pTrimmed hr1 rfl pass0 (qac (qe_comp (g := gName 0) (N := ["digit", "p"]) (src := [none, some 0]) rfl (comp_scope (defScope sRowTimes) ["p", "one", "other", "product", "place", "digit", "further", "factor"] rfl rfl (by decide +kernel) rfl) (qi_list (qv 3)) (fun _ _ _ _ _ => (qg_name (i := 0) (show (["digit", "p"] : List Str).Nodup by decide +kernel) rfl (Or.inl rfl) (Or.inr rfl))) (fun _ _ _ _ _ => qif_nil) (fun _ _ _ _ _ => (qe_op op_mod (qv 0) (qv 1)))) qa_nil)))))), ?_⟩
    refine ⟨by show 1 ≤ sizeLine; decide, fun d hd => ?_⟩
    have w1 := same_new (o := .lst [V.int 0]) hd
    refine ⟨_, rfl, a, _, rfl, .inr (SqT.of (w1 _ _ ha)), _, rfl, b, _, rfl, .inr (SqT.of (w1 _ _ hb)), _, _, rfl, rfl, d, [V.int 0], ((one.length + other.length : Nat) : Int), rfl, ?_, SqL.of upd_same, by omega, by omega, by rw [List.length_singleton, Int.toNat_natCast]; omega, fun l hl => ?_⟩
    · show V.int ((((nats one).length : Nat) : Int) + (((nats other).length : Nat) : Int)) = _
      rw [nats_len, nats_len, show ((one.length : Nat) : Int) + ((other.length : Nat) : Int) = ((one.length + other.length : Nat) : Int) by omega]
    rw [Int.toNat_natCast, rep_flatQ, ← prL_zero one other]
    obtain ⟨w2, hl2⟩ := new_both (o := .lst (nats (prL one other 0 0))) hl
    have hl0 : H l = none := w1.free hl
    have s2 := w1.trans w2
    generalize upd _ l _ = H2 at hl2 s2 ⊢
    refine ⟨_, rfl, a, rfl, ⟨_, SqT.of (s2 _ _ ha)⟩, for_enumT (K := K) (xs := nats one) (fun i σ H3 => Same H H3 ∧ (∃ x4 x5 x6 x7, σ = [some (.int ((p : Nat) : Int)), some (.ref a), some (.ref b), some (.ref l), x4, x5, x6, x7]) ∧ H3 l = some (.lst (nats (prL one other i 0)))) ⟨s2, ⟨none, none, none, none, rfl⟩, hl2⟩ (fun i σ H3 _ ⟨e, _⟩ => SqT.of (e _ _ ha)) ?_ ?_⟩
    · rintro i v T1 σ H3 hi ⟨s3, ⟨x4, x5, x6, x7, rfl⟩, hl3⟩ hT1
      obtain ⟨x, hx, rfl⟩ := L2.nats_get hi
      have hil := (List.getElem?_eq_some_iff.mp hx).1
      obtain ⟨w4, hT4⟩ := new_both (o := .tup [.int ((i : Nat) : Int), .int ((x : Nat) : Int)]) hT1
      have s4 := s3.trans w4
      have hl4 := w4 _ _ hl3
      have hxe : one.getD i 0 = x := by rw [List.getD_eq_getElem?_getD, hx]; rfl
      refine ⟨T1, _, rfl, SqT.of upd_same, rfl, _, _, rfl, _, _, rfl, rfl, ?_⟩
      generalize upd _ T1 _ = H4 at hT4 s4 hl4 ⊢
      refine ⟨_, rfl, b, rfl, ⟨_, SqT.of (s4 _ _ hb)⟩, for_enumT (K := K) (xs := nats other) (fun j σ H5 => Same H H5 ∧ (∃ x6 x7, σ = [some (.int ((p : Nat) : Int)), some (.ref a), some (.ref b), some (.ref l), some (.int ((i : Nat) : Int)), some (.int ((x : Nat) : Int)), x6, x7]) ∧ H5 l = some (.lst (nats (prL one other i j)))) ⟨s4, ⟨_, _, rfl⟩, hl4⟩ (fun j σ H5 _ ⟨e, _⟩ => SqT.of (e _ _ hb)) ?_ ?_⟩
      · rintro j v T2 σ H5 hj ⟨s5, ⟨x6, x7, rfl⟩, hl5⟩ hT2
        obtain ⟨y, hy, rfl⟩ := L2.nats_get hj
        have hjl := (List.getElem?_eq_some_iff.mp hy).1
        obtain ⟨w6, hT6⟩ := new_both (o := .tup [.int ((j : Nat) : Int), .int ((y : Nat) : Int)]) hT2
        have s6 := s5.trans w6
        have hl6 := w6 _ _ hl5
        have hye : other.getD j 0 = y := by rw [List.getD_eq_getElem?_getD, hy]; rfl
        have hx32 := ho x (List.mem_of_getElem? hx)
        have hy32 := ht y (List.mem_of_getElem? hy)
        refine ⟨T2, _, rfl, SqT.of upd_same, rfl, _, _, rfl, _, _, rfl, rfl, ?_⟩
        generalize upd _ T2 _ = H6 at hT6 s6 hl6 ⊢
        have hij : i + j < one.length + other.length := by omega
        have hat : atI (nats (prL one other i j)) ((i + j : Nat) : Int) = some (.int ((prN one other i j (i + j) : Nat) : Int)) := by
          rw [nat_atQ (by rw [prL_len]; exact hij), prL_get hij]
        have eij : ((i : Nat) : Int) + ((j : Nat) : Int) = ((i + j : Nat) : Int) := by omega
        refine ⟨_, rfl, _, rfl, _, rfl, _, _, rfl, rfl, l, _, _, _, rfl, rfl, SqL.of hl6, by omega, by rw [eij]; exact hat, _, rfl, _, rfl, _, _, rfl, rfl, .inl ⟨by omega, by omega⟩, _, _, rfl, rfl, l, _, _, i + j, rfl, rfl, hl6, by rw [eij, nats_len, prL_len]; exact ixN_nat hij, ?_⟩
        have key : (nats (prL one other i j)).set (i + j) (V.int (((prN one other i j (i + j) : Nat) : Int) + ((x : Nat) : Int) * ((y : Nat) : Int))) = nats (prL one other i (j + 1)) := by
          rw [← prL_step hil hjl, ← nats_setQ, hxe, hye]
          simp
        refine ⟨same_upd s6 hl0, ⟨_, _, rfl⟩, ?_⟩
        rw [upd_same]
        exact congrArg (fun z => some (HO.lst z)) key
      · rintro σ H5 ⟨s5, ⟨x6, x7, rfl⟩, hl5⟩
        refine ⟨s5, ⟨_, _, _, _, rfl⟩, ?_⟩
        rw [nats_len, prL_row] at hl5
        exact hl5
    · rintro σ H3 ⟨s3, ⟨x4, x5, x6, x7, rfl⟩, hl3⟩
      rw [nats_len] at hl3
      refine ⟨_, rfl, l, rfl, ⟨_, SqL.of hl3⟩, comp_list (K := K) (xs := nats (prL one other one.length 0)) (fun i zs H4 => H4 = H3 ∧ zs = nats (((prL one other one.length 0).take i).map fun x => x % p)) ⟨rfl, rfl⟩ (fun i zs H4 _ ⟨e, _⟩ => SqL.of (e ▸ hl3)) ?_ ?_⟩
      · rintro i v zs H4 N hi ⟨rfl, rfl⟩ nx
        obtain ⟨x, hx, rfl⟩ := L2.nats_get hi
        have hil := (List.getElem?_eq_some_iff.mp hx).1
        rw [prL_len] at hil
        refine ⟨Weak.set (by intro v z; cases z), ⟨_, rfl, _, rfl, _, _, rfl, rfl, (show (0 : Int) < ((p : Nat) : Int) by omega), ?_, nx _ _ ⟨rfl, ?_⟩⟩⟩
        · rw [nats_len, List.length_map, List.length_take]
          exact Nat.lt_of_le_of_lt (Nat.min_le_left ..) (Nat.lt_of_lt_of_le (show i < 40 by omega) (by decide))
        · rw [← nats_map_take (fun x => x % p) hx]
          rfl
      · rintro zs H4 ⟨rfl, rfl⟩
        rw [show (nats (prL one other one.length 0)).length = (prL one other one.length 0).length from nats_len _, List.take_length, pr_conv]
        have hcl : (convL p one other).length = one.length + other.length := by
          unfold convL
          rw [List.length_map, List.length_range]
        refine ⟨by rw [nats_len, hcl]; exact Nat.le_trans (show _ ≤ 40 by omega) (by decide), fun r hr' => ?_⟩
        have w5 := same_new (o := .lst (nats (convL p one other))) hr'
        refine ⟨r, convL p one other, rfl, upd_same, by omega, fun t H5 ht3 s5 h5 => ?_⟩
        exact q t H5 ((s3.trans w5).free ht3) ((s3.trans w5).trans s5) h5
theorem conv_len (p : Nat) (one other : List Nat) : (convL p one other).length = one.length + other.length := by
  unfold convL
  rw [List.length_map, List.length_range]
theorem conv_lt {p : Nat} (hp : 1 ≤ p) (one other : List Nat) : ∀ x ∈ trimL (convL p one other), x < p := by
  intro x hx
  have := trim_mem hx
  unfold convL at this
  obtain ⟨k, _, rfl⟩ := List.mem_map.mp this
  exact Nat.mod_lt _ hp
theorem conv_le (p : Nat) (one other : List Nat) : (trimL (convL p one other)).length ≤ one.length + other.length := by
  rw [← conv_len p one other]
  exact trim_le _
/-- the lowest n digits -/
def digN (p : Nat) : Nat → Nat → List Nat
  | 0, _ => []
  | n + 1, x => (x % p) :: digN p n (x / p)
theorem digN_len (p : Nat) : ∀ n x, (digN p n x).length = n
  | 0, _ => rfl
  | n + 1, x => by rw [digN, List.length_cons, digN_len p n]
theorem digN_lt {p : Nat} (hp : 0 < p) : ∀ n x, ∀ y ∈ digN p n x, y < p
  | 0, _, y, h => by cases h
  | n + 1, x, y, h => by
    rcases List.mem_cons.mp h with rfl | h
    · exact Nat.mod_lt _ hp
    · exact digN_lt hp n _ y h
theorem digN_snoc (p : Nat) : ∀ n x, digN p (n + 1) x = digN p n x ++ [x / p ^ n % p]
  | 0, x => by simp [digN]
  | n + 1, x => by
    rw [digN, digN_snoc p n (x / p), digN, List.cons_append, Nat.div_div_eq_div_mul, Nat.pow_succ, Nat.mul_comm p]
theorem digN_top {p : Nat} (hp : 2 ≤ p) : ∀ s x, x < p ^ s → digN p (s + 1) (p ^ s + x) = digN p s x ++ [1]
  | 0, x, h => by
    have : x = 0 := by simpa using h
    subst this
    simp [digN]
    exact Nat.mod_eq_of_lt (by omega)
  | s + 1, x, h => by
    have hp0 : 0 < p := by omega
    have h2 : x / p < p ^ s := by
      rw [Nat.div_lt_iff_lt_mul hp0, ← Nat.pow_succ]
      exact h
    have e1 : (p ^ (s + 1) + x) % p = x % p := by
      rw [Nat.pow_succ, Nat.mul_add_mod_self_right]
    have e2 : (p ^ (s + 1) + x) / p = p ^ s + x / p := by
      rw [Nat.pow_succ, Nat.mul_comm, Nat.mul_add_div hp0]
    rw [digN, e1, e2, digN_top hp s (x / p) h2]
    rfl
def fac (p s x : Nat) : List Nat := digN p s x ++ [1]
/-- a row told, or none -/
def Dv (p : Nat) (row : List Nat) : Option (List Nat) → Prop
  | none => ∀ s x, 1 ≤ s → s ≤ (row.length - 1) / 2 → x < p ^ s → trimL (restF p (fac p s x) row) ≠ []
  | some b => ∃ s x, 1 ≤ s ∧ s ≤ (row.length - 1) / 2 ∧ x < p ^ s ∧ b = fac p s x ∧ trimL (restF p b row) = []
def DvAt (H : Hp) (v : V) : Option (List Nat) → Prop
  | none => v = .non
  | some b => ∃ t, v = .ref t ∧ H t = some (.tup (nats b))
theorem pow_le6 {p s : Nat} (hp : p ≤ 31) (hs : s ≤ 6) : p ^ s ≤ 887503681 := by
  have h1 : p ^ s ≤ 31 ^ s := Nat.pow_le_pow_left hp s
  have h2 : 31 ^ s ≤ 31 ^ 6 := Nat.pow_le_pow_right (by decide) hs
  exact Nat.le_trans h1 (Nat.le_trans h2 (by decide))
theorem pow_le {p s : Nat} (hp : p ≤ 31) (hs : s ≤ 4) : p ^ s ≤ 923521 := by
  have h1 : p ^ s ≤ 31 ^ s := Nat.pow_le_pow_left hp s
  have h2 : 31 ^ s ≤ 31 ^ 4 := Nat.pow_le_pow_right (by decide) hs
  exact Nat.le_trans h1 (Nat.le_trans h2 (by decide))
def spDv : Sp := fun vs H Q _ => ∃ (a : Addr) (p : Nat) (row : List Nat), vs = [.int ((p : Nat) : Int), .ref a] ∧ H a = some (.tup (nats row)) ∧ 2 ≤ p ∧ p ≤ 31 ∧ row.length ≤ 9 ∧ (∀ x ∈ row, x < 32) ∧ ∀ v o H', Same H H' → Dv p row o → DvAt H' v o → Q v H'
def spDigits : Sp := fun vs H Q _ => ∃ (p n s : Nat), vs = [.int ((p : Nat) : Int), .int ((n : Nat) : Int)] ∧ 2 ≤ p ∧ p ≤ 31 ∧ s ≤ 4 ∧ p ^ s ≤ n ∧ n < 2 * p ^ s ∧ ∀ (t : Addr) (H' : Hp), H t = none → Same H H' → H' t = some (.tup (nats (digN p (s + 1) n))) → Q (.ref t) H'
theorem scDigitsOf : FnScope ["p", "number", "digits", "left"] ["p", "number"] (defScope sDigitsOf) := ⟨rfl, rfl, rfl, by decide +kernel, rfl, by decide +kernel, by decide +kernel⟩
theorem ok_digits {f : Addr} {fd : FuncData} (F : Fun K "digits_of" "digits_of" sDigitsOf f fd) (T : TxtB mg) : FnOk P w K mg base CX0 1 f fd ["p", "number"] spDigits := by
  refine F.okQ scDigitsOf (fun vs H Q E h => ?_) (fun cdv A outer s H vs Q E hr h => ?_)
  · obtain ⟨p, n, s, rfl, _⟩ := h
    rfl
  · obtain ⟨p, n, k, rfl, hp2, hp31, hk4, hn1, hn2, q⟩ := h
    refine ⟨_, (qss_cons (qs_set (i := 2) scDigitsOf.nd rfl (Or.inl rfl) (qe_lst qa_nil))
      (qss_cons (qs_set (i := 3) scDigitsOf.nd rfl (Or.inl rfl) (qv 1))
      (qss_cons (qs_while PassesOwn.never (qt_cmpR op_gt (qv 3) qe_int (nomark _))
        (qss_cons (qs_expr (qe_bm PySem.F.plainAttrs_list PySem.F.slot_list_append PySem.F.type_list_append mt_append (qv 2) (qac (qe_op op_mod (qv 3) (qv 0)) qa_nil)))
        (qss_one (qs_set (i := 3) scDigitsOf.nd rfl (Or.inl rfl) (qe_op op_fdiv (qv 3) (qv 0))))))
      (qss_one (qs_ret (qe_callTy call_tuple_of (by rfl) T.tup (by decide +kernel) (qac (qv 2) qa_nil))))))), ?_⟩
    refine ⟨by show 0 ≤ sizeLine; decide, fun l hl => ⟨_, rfl, ?_⟩⟩
    refine while_w (fun σ H2 => Same H H2 ∧ ∃ j : Nat, j ≤ k + 1 ∧ σ = [some (.int ((p : Nat) : Int)), some (.int ((n : Nat) : Int)), some (.ref l), some (.int ((n / p ^ j : Nat) : Int))] ∧ H2 l = some (.lst (nats (digN p j n))))
      (fun σ _ => match σ with | [_, _, _, some (.int m)] => m.toNat | _ => 0) ⟨same_new hl, 0, by omega, by rw [Nat.pow_zero, Nat.div_one]; rfl, upd_same⟩ ?_
    rintro mm σ H2 ⟨s2, j, hj, rfl, hl2⟩ hmm
    refine ⟨_, rfl, _, _, rfl, rfl, _, rfl, ?_⟩
    refine ite2 (fun h1 => WTurn.of ?_) (fun h1 => ?_)
    · have h1' : 0 < n / p ^ j := by
        have : (0 : Int) < ((n / p ^ j : Nat) : Int) := of_decide_eq_true h1
        omega
      have hjk : j ≤ k := by
        rcases Nat.lt_or_ge k j with z | z
        · exfalso
          have e : j = k + 1 := by omega
          subst e
          have : n / p ^ (k + 1) = 0 := by
            apply Nat.div_eq_of_lt
            rw [Nat.pow_succ]
            exact Nat.lt_of_lt_of_le hn2 (by rw [Nat.mul_comm]; exact Nat.mul_le_mul_left _ hp2)
          omega
        · exact z
      have e1 : ((n / p ^ j : Nat) : Int) % ((p : Nat) : Int) = ((n / p ^ j % p : Nat) : Int) := by simp
      have e2 : ((n / p ^ j : Nat) : Int) / ((p : Nat) : Int) = ((n / p ^ (j + 1) : Nat) : Int) := by
        rw [Nat.pow_succ, ← Nat.div_div_eq_div_mul]
        simp
      refine ⟨_, rfl, .inl ⟨rfl, _, SqL.of hl2⟩, _, rfl, _, rfl, _, _, rfl, rfl, by omega, l, _, .int ((n / p ^ j % p : Nat) : Int), rfl, ?_, hl2, by rw [nats_len, digN_len]; exact Nat.lt_of_le_of_lt (show j ≤ 5 by omega) (by decide), ?_⟩
      · show [V.int (((n / p ^ j : Nat) : Int) % ((p : Nat) : Int))] = _
        rw [e1]
      refine ⟨_, rfl, _, rfl, _, _, rfl, rfl, ⟨by omega, by omega⟩, ?_⟩
      show (Same H _ ∧ ∃ j' : Nat, j' ≤ k + 1 ∧ [some (V.int ((p : Nat) : Int)), some (V.int ((n : Nat) : Int)), some (V.ref l), some (V.int (((n / p ^ j : Nat) : Int) / ((p : Nat) : Int)))] = _ ∧ _) ∧ (((n / p ^ j : Nat) : Int) / ((p : Nat) : Int)).toNat < mm
      rw [e2]
      refine ⟨⟨same_upd s2 hl, j + 1, by omega, rfl, ?_⟩, ?_⟩
      · rw [upd_same, digN_snoc, nats_snoc]
      · rw [hmm]
        show ((n / p ^ (j + 1) : Nat) : Int).toNat < ((n / p ^ j : Nat) : Int).toNat
        rw [Int.toNat_natCast, Int.toNat_natCast, Nat.pow_succ, ← Nat.div_div_eq_div_mul]
        exact Nat.div_lt_self h1' (by omega)
    · have h1' : n / p ^ j = 0 := by
        have : ¬ (0 : Int) < ((n / p ^ j : Nat) : Int) := fun z => h1 (decide_eq_true z)
        generalize n / p ^ j = z at this ⊢
        omega
      have hjk : j = k + 1 := by
        rcases Nat.lt_or_ge k j with z | z
        · omega
        · exfalso
          have : 0 < n / p ^ j := Nat.div_pos (Nat.le_trans (Nat.pow_le_pow_right (by omega) z) hn1) (Nat.pow_pos (by omega))
          rw [h1'] at this
          exact Nat.lt_irrefl 0 this
      subst hjk
      exact ⟨_, rfl, l, _, rfl, .inl ⟨SqL.of hl2, fun t ht => q t _ (s2.free ht) (s2.trans (same_new ht)) upd_same⟩⟩
theorem fac_len (p s x : Nat) : (fac p s x).length = s + 1 := by
  unfold fac
  rw [List.length_append, digN_len]
  rfl
theorem half_int (n : Nat) : (((n : Nat) : Int) - 1) / 2 = (((n - 1) / 2 : Nat) : Int) ∨ ((((n : Nat) : Int) - 1) / 2).toNat = (n - 1) / 2 := by
  by_cases h : n = 0
  · subst h
    exact .inr (by decide)
  · exact .inl (by omega)
theorem scRowFactor : FnScope ["p", "row", "power", "higher", "number", "factor"] ["p", "row"] (defScope sRowFactor) := ⟨rfl, rfl, rfl, by decide +kernel, rfl, by decide +kernel, by decide +kernel⟩
theorem ok_factor {f : Addr} {fd : FuncData} (F : Fun K "row_factor" "row_factor" sRowFactor f fd) (T : TxtB mg) (pDigitsOf : Pm P w K mg base CX0 1 "digits_of" ["p", "number"] spDigits) (pRowRest : Pm P w K mg base CX0 2 "row_rest" ["p", "one", "by"] spRest) : FnOk P w K mg base CX0 3 f fd ["p", "row"] spDv := by
  refine F.okQ scRowFactor (fun vs H Q E h => ?_) (fun cdv A outer s H vs Q E hr2 h => ?_)
  · obtain ⟨a, p, row, rfl, _⟩ := h
    rfl
  · obtain ⟨a, p, row, rfl, ha, hp2, hp31, hr9, hrow, q⟩ := h
    have hr1 := hr2.mono (show 1 ≤ 2 by decide)
    refine ⟨_, (qss_cons (qs_set (i := 2) scRowFactor.nd rfl (Or.inl rfl) qe_int)
      (qss_cons (qs_for PassesOwn.never rfl (qi_range1 rfl T.range (qac (qe_op op_fdiv (qe_op op_sub (qe_callB call_len_seq (by rfl) T.len PySem.boot_len (qac (qv 1) qa_nil)) qe_int) qe_int) qa_nil)) (qg_name (i := 3) scRowFactor.nd rfl (Or.inl rfl))
        (qss_cons (qs_set (i := 2) scRowFactor.nd rfl (Or.inl rfl) (qe_op op_mul (qv 2) (qv 0)))
        (qss_one (qs_for PassesOwn.never rfl (qi_range2 rfl T.range (qac (qv 2) (qac (qe_op op_mul qe_int (qv 2)) qa_nil))) (qg_name (i := 4) scRowFactor.nd rfl (Or.inl rfl))
          (qss_cons (qs_set (i := 5) scRowFactor.nd rfl (Or.inl rfl) (qe_callP pDigitsOf hr1 rfl pass0 (qac (qv 0) (qac (qv 4) qa_nil))))
          (qss_one (qs_if (qt_cmpR (op_eqD hr2.units) (qe_callP pRowRest hr2 rfl pass0 (qac (qv 0) (qac (qv 1) (qac (qv 5) qa_nil)))) (qe_tup qa_nil) (nomark _)) (qss_one (qs_ret (qv 5))) qss_nil)))))))
      (qss_one (qs_ret qe_non)))), ?_⟩
    have hM : ((((row.length : Nat) : Int) - 1) / 2).toNat = (row.length - 1) / 2 := by
      rcases half_int row.length with z | z
      · rw [z, Int.toNat_natCast]
      · exact z
    refine ⟨_, rfl, a, _, rfl, .inr (SqT.of ha), _, _, rfl, rfl, _, _, rfl, rfl, ⟨by decide, by decide⟩, (((row.length : Nat) : Int) - 1) / 2, by rw [nats_len], by omega, by omega, ?_⟩
    rw [hM]
    refine for_range (lo := 0) (n := (row.length - 1) / 2) (fun i σ H2 => Same H H2 ∧ (∃ x3 x4 x5, σ = [some (.int ((p : Nat) : Int)), some (.ref a), some (.int ((p ^ i : Nat) : Int)), x3, x4, x5]) ∧ ∀ s x, 1 ≤ s → s ≤ i → x < p ^ s → trimL (restF p (fac p s x) row) ≠ []) ⟨Same.refl _, ⟨none, none, none, rfl⟩, fun s x z1 z2 => by omega⟩ ?_ ?_
    · rintro i σ H2 hi ⟨s2, ⟨x3, x4, x5, rfl⟩, hno⟩
      have hi4 : i + 1 ≤ 4 := by omega
      have hpw := pow_le hp31 (show i ≤ 4 by omega)
      have hpw1 := pow_le hp31 hi4
      have hps : ((p ^ i : Nat) : Int) * ((p : Nat) : Int) = ((p ^ (i + 1) : Nat) : Int) := by
        rw [Nat.pow_succ]
        simp
      refine ⟨_, rfl, _, rfl, _, _, rfl, rfl, .inl ⟨by omega, by omega⟩, ?_⟩
      dsimp only
      rw [hps]
      refine ⟨_, rfl, _, rfl, _, _, rfl, rfl, .inl ⟨by decide, by decide⟩, ((p ^ (i + 1) : Nat) : Int), 2 * ((p ^ (i + 1) : Nat) : Int), rfl, ⟨by omega, by omega, by omega, by omega⟩, ?_⟩
      rw [show (2 * ((p ^ (i + 1) : Nat) : Int) - ((p ^ (i + 1) : Nat) : Int)).toNat = p ^ (i + 1) by omega]
      refine for_range (lo := ((p ^ (i + 1) : Nat) : Int)) (n := p ^ (i + 1)) (fun x σ H3 => Same H H3 ∧ (∃ x3 x4 x5, σ = [some (.int ((p : Nat) : Int)), some (.ref a), some (.int ((p ^ (i + 1) : Nat) : Int)), x3, x4, x5]) ∧ ∀ y, y < x → trimL (restF p (fac p (i + 1) y) row) ≠ []) ⟨s2, ⟨_, _, _, rfl⟩, fun y z => by omega⟩ ?_ ?_
      · rintro x σ H3 hx ⟨s3, ⟨x3, x4, x5, rfl⟩, hno2⟩
        rw [show ((p ^ (i + 1) : Nat) : Int) + ((x : Nat) : Int) = ((p ^ (i + 1) + x : Nat) : Int) by omega]
        refine ⟨_, rfl, _, rfl, p, p ^ (i + 1) + x, i + 1, rfl, hp2, hp31, hi4, by omega, by omega, fun t H4 ht s4 ht4 => ?_⟩
        rw [show digN p (i + 1 + 1) (p ^ (i + 1) + x) = fac p (i + 1) x from digN_top hp2 (i + 1) x hx] at ht4
        refine ⟨_, rfl, _, rfl, _, rfl, a, t, p, row, fac p (i + 1) x, rfl, (s3.trans s4) _ _ ha, ht4, by omega, hp31, by omega, by rw [fac_len]; omega, by rw [fac_len]; omega, hrow, fun u H5 hu s5 hu5 => ?_⟩
        refine ⟨by show 0 ≤ sizeLine; decide, fun e he => ?_⟩
        have w6 := same_new (o := .tup []) he
        refine ⟨dTup (trimL (restF p (fac p (i + 1) x) row)), dTup [], isD_tupQ (w6 _ _ hu5), isD_tupQ upd_same, shaped_tupQ _, shaped_tupQ _, _, rfl, ?_⟩
        show if PyData.eqv (dTup (trimL (restF p (fac p (i + 1) x) row))) (dTup []) = true then _ else _
        rw [eqv_tupQ]
        have s35 := s3.trans (s4.trans (s5.trans w6))
        refine ite2 (fun h1 => ?_) (fun h1 => ?_)
        · exact ⟨_, rfl, q _ (some (fac p (i + 1) x)) _ s35 ⟨i + 1, x, by omega, by omega, hx, rfl, of_decide_eq_true h1⟩ ⟨t, rfl, (s5.trans w6) _ _ ht4⟩⟩
        · refine ⟨s35, ⟨_, _, _, rfl⟩, fun y hy => ?_⟩
          by_cases e2 : y = x
          · subst e2
            exact fun z => h1 (decide_eq_true z)
          · exact hno2 y (by omega)
      · rintro σ H3 ⟨s3, ⟨x3, x4, x5, rfl⟩, hno2⟩
        refine ⟨s3, ⟨_, _, _, rfl⟩, fun s x z1 z2 z3 => ?_⟩
        by_cases e2 : s = i + 1
        · subst e2
          exact hno2 x z3
        · exact hno s x z1 (by omega) z3
    · rintro σ H2 ⟨s2, ⟨x3, x4, x5, rfl⟩, hno⟩
      exact q _ none _ s2 hno rfl
def spPow : Sp := fun vs H Q _ => ∃ (p n : Nat), vs = [.int ((p : Nat) : Int), .int ((n : Nat) : Int)] ∧ p ≤ 31 ∧ n ≤ 6 ∧ Q (.int ((p ^ n : Nat) : Int)) H
theorem scLPower : FnScope ["_law_p", "_law_many", "_law_found", "_law_k"] ["_law_p", "_law_many"] (defScope sLPower) := ⟨rfl, rfl, rfl, by decide +kernel, rfl, by decide +kernel, by decide +kernel⟩
theorem ok_lpower {f : Addr} {fd : FuncData} (F : Fun K "_law_power" "_law_power" sLPower f fd) (T : TxtB mg) : FnOk P w K mg base CX0 1 f fd ["_law_p", "_law_many"] spPow := by
  refine F.okQ scLPower (fun vs H Q E h => ?_) (fun cdv A outer s H vs Q E hr h => ?_)
  · obtain ⟨p, n, rfl, _⟩ := h
    rfl
  · obtain ⟨p, n, rfl, hp, hn, q⟩ := h
    refine ⟨_, (qss_cons (qs_set (i := 2) scLPower.nd rfl (Or.inl rfl) qe_int)
      (qss_cons (qs_for PassesOwn.never rfl (qi_range1 rfl T.range (qac (qv 1) qa_nil)) (qg_name (i := 3) scLPower.nd rfl (Or.inl rfl))
        (qss_one (qs_set (i := 2) scLPower.nd rfl (Or.inl rfl) (qe_op op_mul (qv 2) (qv 0)))))
      (qss_one (qs_ret (qv 2))))), ?_⟩
    refine ⟨_, rfl, ((n : Nat) : Int), rfl, by omega, by omega, ?_⟩
    rw [Int.toNat_natCast]
    refine for_range (lo := 0) (n := n) (fun i σ H2 => H2 = H ∧ ∃ x3, σ = [some (.int ((p : Nat) : Int)), some (.int ((n : Nat) : Int)), some (.int ((p ^ i : Nat) : Int)), x3]) ⟨rfl, none, rfl⟩ ?_ ?_
    · rintro i σ H2 hi ⟨rfl, x3, rfl⟩
      have hpw := pow_le6 hp (show i ≤ 6 by omega)
      have hps : ((p ^ i : Nat) : Int) * ((p : Nat) : Int) = ((p ^ (i + 1) : Nat) : Int) := by
        rw [Nat.pow_succ]
        simp
      refine ⟨_, rfl, _, rfl, _, _, rfl, rfl, .inl ⟨by omega, by omega⟩, rfl, some (.int (0 + ((i : Nat) : Int))), ?_⟩
      rw [← hps]
      rfl
    · rintro σ H2 ⟨rfl, x3, rfl⟩
      exact ⟨_, rfl, q⟩
def spLDig : Sp := fun vs H Q _ => ∃ (p n x : Nat), vs = [.int ((x : Nat) : Int), .int ((p : Nat) : Int), .int ((n : Nat) : Int)] ∧ 1 ≤ p ∧ p ≤ 31 ∧ n ≤ 6 ∧ ∀ (t : Addr) (H' : Hp), H t = none → Same H H' → H' t = some (.tup (nats (digN p n x))) → Q (.ref t) H'
theorem scLDigits : FnScope ["_law_x", "_law_p", "_law_many", "_law_found", "_law_k"] ["_law_x", "_law_p", "_law_many"] (defScope sLDigits) := ⟨rfl, rfl, rfl, by decide +kernel, rfl, by decide +kernel, by decide +kernel⟩
theorem ok_ldig {f : Addr} {fd : FuncData} (F : Fun K "_law_digits" "_law_digits" sLDigits f fd) (T : TxtB mg) : FnOk P w K mg base CX0 1 f fd ["_law_x", "_law_p", "_law_many"] spLDig := by
  refine F.okQ scLDigits (fun vs H Q E h => ?_) (fun cdv A outer s H vs Q E hr h => ?_)
  · obtain ⟨p, n, x, rfl, _⟩ := h
    rfl
  · obtain ⟨p, n, x, rfl, hp, hp31, hn, q⟩ := h
    refine ⟨_, (qss_cons (qs_set (i := 3) scLDigits.nd rfl (Or.inl rfl) (qe_lst qa_nil))
      (qss_cons (qs_for PassesOwn.never rfl (qi_range1 rfl T.range (qac (qv 2) qa_nil)) (qg_name (i := 4) scLDigits.nd rfl (Or.inl rfl))
        (qss_cons (qs_expr (qe_bm PySem.F.plainAttrs_list PySem.F.slot_list_append PySem.F.type_list_append mt_append (qv 3) (qac (qe_op op_mod (qv 0) (qv 1)) qa_nil)))
        (qss_one (qs_set (i := 0) scLDigits.nd rfl (Or.inl rfl) (qe_op op_fdiv (qv 0) (qv 1))))))
      (qss_one (qs_ret (qe_callTy call_tuple_of (by rfl) T.tup (by decide +kernel) (qac (qv 3) qa_nil)))))), ?_⟩
    refine ⟨by show 0 ≤ sizeLine; decide, fun l hl => ⟨_, rfl, ((n : Nat) : Int), rfl, by omega, by omega, ?_⟩⟩
    rw [Int.toNat_natCast]
    refine for_range (lo := 0) (n := n) (fun j σ H2 => Same H H2 ∧ (∃ x4, σ = [some (.int ((x / p ^ j : Nat) : Int)), some (.int ((p : Nat) : Int)), some (.int ((n : Nat) : Int)), some (.ref l), x4]) ∧ H2 l = some (.lst (nats (digN p j x)))) ⟨same_new hl, ⟨none, by rw [Nat.pow_zero, Nat.div_one]; rfl⟩, upd_same⟩ ?_ ?_
    · rintro j σ H2 hj ⟨s2, ⟨x4, rfl⟩, hl2⟩
      have e1 : ((x / p ^ j : Nat) : Int) % ((p : Nat) : Int) = ((x / p ^ j % p : Nat) : Int) := by simp
      have e2 : ((x / p ^ j : Nat) : Int) / ((p : Nat) : Int) = ((x / p ^ (j + 1) : Nat) : Int) := by
        rw [Nat.pow_succ, ← Nat.div_div_eq_div_mul]
        simp
      refine ⟨_, rfl, .inl ⟨rfl, _, SqL.of hl2⟩, _, rfl, _, rfl, _, _, rfl, rfl, by omega, l, _, .int ((x / p ^ j % p : Nat) : Int), rfl, ?_, hl2, by rw [nats_len, digN_len]; exact Nat.lt_of_lt_of_le (show j < 7 by omega) (by decide), ?_⟩
      · show [V.int (((x / p ^ j : Nat) : Int) % ((p : Nat) : Int))] = _
        rw [e1]
      refine ⟨_, rfl, _, rfl, _, _, rfl, rfl, ⟨by omega, by omega⟩, same_upd s2 hl, ⟨some (.int (0 + ((j : Nat) : Int))), ?_⟩, ?_⟩
      · show [some (V.int (((x / p ^ j : Nat) : Int) / ((p : Nat) : Int))), _, _, _, _] = _
        rw [e2]
      · rw [upd_same, digN_snoc, nats_snoc]
    · rintro σ H2 ⟨s2, ⟨x4, rfl⟩, hl2⟩
      exact ⟨_, rfl, l, _, rfl, .inl ⟨SqL.of hl2, fun t ht => q t _ (s2.free ht) (s2.trans (same_new ht)) upd_same⟩⟩
theorem scLDivides : FnScope ["_law_p", "_law_row", "_law_size", "_law_x", "_law_by"] ["_law_p", "_law_row"] (defScope sLDivides) := ⟨rfl, rfl, rfl, by decide +kernel, rfl, by decide +kernel, by decide +kernel⟩
theorem ok_divides {f : Addr} {fd : FuncData} (F : Fun K "_law_divides" "_law_divides" sLDivides f fd) (T : TxtB mg) (pLPower : Pm P w K mg base CX0 1 "_law_power" ["_law_p", "_law_many"] spPow) (pLDigits : Pm P w K mg base CX0 1 "_law_digits" ["_law_x", "_law_p", "_law_many"] spLDig) (pLLeft : Pm P w K mg base CX0 2 "_law_left" ["_law_p", "_law_one", "_law_by"] spRest) : FnOk P w K mg base CX0 3 f fd ["_law_p", "_law_row"] spDv := by
  refine F.okQ scLDivides (fun vs H Q E h => ?_) (fun cdv A outer s H vs Q E hr2 h => ?_)
  · obtain ⟨a, p, row, rfl, _⟩ := h
    rfl
  · obtain ⟨a, p, row, rfl, ha, hp2, hp31, hr9, hrow, q⟩ := h
    have hr1 := hr2.mono (show 1 ≤ 2 by decide)
    refine ⟨_, (qss_cons (qs_for PassesOwn.never rfl (qi_range2 rfl T.range (qac qe_int (qac (qe_op op_add (qe_op op_fdiv (qe_op op_sub (qe_callB call_len_seq (by rfl) T.len PySem.boot_len (qac (qv 1) qa_nil)) qe_int) qe_int) qe_int) qa_nil))) (qg_name (i := 2) scLDivides.nd rfl (Or.inl rfl))
        (qss_one (qs_for PassesOwn.never rfl (qi_range1 rfl T.range (qac (qe_callP pLPower hr1 rfl pass0 (qac (qv 0) (qac (qv 2) qa_nil))) qa_nil)) (qg_name (i := 3) scLDivides.nd rfl (Or.inl rfl))
          (qss_cons (qs_set (i := 4) scLDivides.nd rfl (Or.inl rfl) (qe_op op_catT (qe_callP pLDigits hr1 rfl pass0 (qac (qv 3) (qac (qv 0) (qac (qv 2) qa_nil)))) (qe_tup (qac qe_int qa_nil))))
          (qss_one (qs_if (qt_cmpR (op_eqD hr2.units) (qe_callP pLLeft hr2 rfl pass0 (qac (qv 0) (qac (qv 1) (qac (qv 4) qa_nil)))) (qe_tup qa_nil) (nomark _)) (qss_one (qs_ret (qv 4))) qss_nil))))))
      (qss_one (qs_ret qe_non))), ?_⟩
    have hM : ((((row.length : Nat) : Int) - 1) / 2 + 1 - 1).toNat = (row.length - 1) / 2 := by
      rw [Int.add_sub_cancel]
      rcases half_int row.length with z | z
      · rw [z, Int.toNat_natCast]
      · exact z
    refine ⟨_, rfl, a, _, rfl, .inr (SqT.of ha), _, _, rfl, rfl, _, _, rfl, rfl, ⟨by decide, by decide⟩, _, _, rfl, rfl, 1, (((row.length : Nat) : Int) - 1) / 2 + 1, by rw [nats_len], ⟨by omega, by omega, by omega, by omega⟩, ?_⟩
    rw [hM]
    refine for_range (lo := 1) (n := (row.length - 1) / 2) (fun i σ H2 => Same H H2 ∧ (∃ x2 x3 x4, σ = [some (.int ((p : Nat) : Int)), some (.ref a), x2, x3, x4]) ∧ ∀ s x, 1 ≤ s → s ≤ i → x < p ^ s → trimL (restF p (fac p s x) row) ≠ []) ⟨Same.refl _, ⟨none, none, none, rfl⟩, fun s x z1 z2 => by omega⟩ ?_ ?_
    · rintro i σ H2 hi ⟨s2, ⟨x2, x3, x4, rfl⟩, hno⟩
      have hi4 : i + 1 ≤ 4 := by omega
      have hpw1 := pow_le hp31 hi4
      rw [show (1 : Int) + ((i : Nat) : Int) = ((i + 1 : Nat) : Int) by omega]
      refine ⟨_, rfl, _, rfl, p, i + 1, rfl, hp31, by omega, ((p ^ (i + 1) : Nat) : Int), rfl, by omega, by omega, ?_⟩
      rw [Int.toNat_natCast]
      refine for_range (lo := 0) (n := p ^ (i + 1)) (fun x σ H3 => Same H H3 ∧ (∃ x3 x4, σ = [some (.int ((p : Nat) : Int)), some (.ref a), some (.int ((i + 1 : Nat) : Int)), x3, x4]) ∧ ∀ y, y < x → trimL (restF p (fac p (i + 1) y) row) ≠ []) ⟨s2, ⟨_, _, rfl⟩, fun y z => by omega⟩ ?_ ?_
      · rintro x σ H3 hx ⟨s3, ⟨x3, x4, rfl⟩, hno2⟩
        rw [Int.zero_add]
        refine ⟨_, rfl, _, rfl, _, rfl, p, i + 1, x, rfl, by omega, hp31, by omega, fun t H4 ht s4 ht4 => ?_⟩
        refine ⟨by show 1 ≤ sizeLine; decide, fun e he => ?_⟩
        have w5 := same_new (o := .tup [.int 1]) he
        refine ⟨t, e, _, _, rfl, rfl, SqT.of (w5 _ _ ht4), SqT.of upd_same, ?_, ?_, (fun z => by cases z), fun _ c hc => ?_⟩
        · intro z
          have := congrArg List.length z
          rw [nats_len, digN_len] at this
          cases this
        · rw [nats_len, digN_len]
          exact Nat.le_trans (show i + 1 + 1 ≤ 5 by omega) (by decide)
        have ef : nats (digN p (i + 1) x) ++ [V.int 1] = nats (fac p (i + 1) x) := by
          unfold fac
          rw [nats_snoc]
          rfl
        rw [ef]
        have w6 := same_new (o := .tup (nats (fac p (i + 1) x))) hc
        have ht4 : (upd (upd H4 e (.tup [.int 1])) c (.tup (nats (fac p (i + 1) x)))) c = some (.tup (nats (fac p (i + 1) x))) := upd_same
        have s4 := s4.trans (w5.trans w6)
        generalize upd (upd H4 e (.tup [.int 1])) c (.tup (nats (fac p (i + 1) x))) = H5 at s4 ht4 ⊢
        refine ⟨_, rfl, _, rfl, _, rfl, a, c, p, row, fac p (i + 1) x, rfl, (s3.trans s4) _ _ ha, ht4, by omega, hp31, by omega, by rw [fac_len]; omega, by rw [fac_len]; omega, hrow, fun u H5 hu s5 hu5 => ?_⟩
        refine ⟨by show 0 ≤ sizeLine; decide, fun e he => ?_⟩
        have w6 := same_new (o := .tup []) he
        refine ⟨dTup (trimL (restF p (fac p (i + 1) x) row)), dTup [], isD_tupQ (w6 _ _ hu5), isD_tupQ upd_same, shaped_tupQ _, shaped_tupQ _, _, rfl, ?_⟩
        show if PyData.eqv (dTup (trimL (restF p (fac p (i + 1) x) row))) (dTup []) = true then _ else _
        rw [eqv_tupQ]
        have s35 := s3.trans (s4.trans (s5.trans w6))
        refine ite2 (fun h1 => ?_) (fun h1 => ?_)
        · exact ⟨_, rfl, q _ (some (fac p (i + 1) x)) _ s35 ⟨i + 1, x, by omega, by omega, hx, rfl, of_decide_eq_true h1⟩ ⟨c, rfl, (s5.trans w6) _ _ ht4⟩⟩
        · refine ⟨s35, ⟨_, _, rfl⟩, fun y hy => ?_⟩
          by_cases e2 : y = x
          · subst e2
            exact fun z => h1 (decide_eq_true z)
          · exact hno2 y (by omega)
      · rintro σ H3 ⟨s3, ⟨x3, x4, rfl⟩, hno2⟩
        refine ⟨s3, ⟨_, _, _, rfl⟩, fun s x z1 z2 z3 => ?_⟩
        by_cases e2 : s = i + 1
        · subst e2
          exact hno2 x z3
        · exact hno s x z1 (by omega) z3
    · rintro σ H2 ⟨s2, ⟨x2, x3, x4, rfl⟩, hno⟩
      exact q _ none _ s2 hno rfl
theorem Dv.sides {p : Nat} {row : List Nat} {b : List Nat} (h : Dv p row (some b)) : ¬ Dv p row none := by
  obtain ⟨s, x, h1, h2, h3, rfl, h4⟩ := h
  exact fun z => z s x h1 h2 h3 h4
def spMustN : Sp := fun vs H Q _ => ∃ i : Int, vs = [.int i] ∧ Q .non H
def spFromN : Sp := fun vs H Q _ => ∃ m i : Int, vs = [.int m, .int i] ∧ m ≤ i ∧ Q .non H
def spPrimesN : Sp := fun vs H Q _ => ∃ n : Nat, vs = [.int (n : Nat)] ∧ 1 ≤ n ∧ n < 2 ^ 60 ∧ ∀ l ws L H', H l = none → Same H H' → H' l = some (.lst ws) → TupsAt H' ws L → EM.Fac n L → Q (.ref l) H'
theorem scMust : FnScope ["thing"] ["thing"] (defScope sMust) := ⟨rfl, rfl, rfl, by decide +kernel, rfl, by decide +kernel, by decide +kernel⟩
theorem ok_mustN {f : Addr} {fd : FuncData} (F : Fun K "must_be_whole" "must_be_whole" sMust f fd) (pWhole : Pm P w K mg base CX0 1 "is_whole" ["thing"] (spWhole K)) : FnOk P w K mg base CX0 2 f fd ["thing"] spMustN := by
  refine F.okQ scMust (fun vs H Q E h => ?_) (fun cdv A outer s H vs Q E hr h => ?_)
  · obtain ⟨i, rfl, _⟩ := h
    rfl
  · obtain ⟨i, rfl, q⟩ := h
    refine ⟨_, (qss_one (qs_if (qt_not (qt_val (qe_callP pWhole hr rfl pass0 (qac (qv 0) qa_nil)))) qss_never qss_nil)), ?_⟩
    exact ⟨_, rfl, .int i, true, rfl, .int i, true, rfl, iteF q⟩
theorem scFrom : FnScope ["least", "thing"] ["least", "thing"] (defScope sFrom) := ⟨rfl, rfl, rfl, by decide +kernel, rfl, by decide +kernel, by decide +kernel⟩
theorem ok_fromN {f : Addr} {fd : FuncData} (F : Fun K "must_be_from" "must_be_from" sFrom f fd) (pMust : Pm P w K mg base CX0 2 "must_be_whole" ["thing"] spMustN) : FnOk P w K mg base CX0 3 f fd ["least", "thing"] spFromN := by
  refine F.okQ scFrom (fun vs H Q E h => ?_) (fun cdv A outer s H vs Q E hr h => ?_)
  · obtain ⟨m, i, rfl, _⟩ := h
    rfl
  · obtain ⟨m, i, rfl, hi, q⟩ := h
    refine ⟨_, qss_cons (qs_expr (qe_callP pMust hr rfl pass0 (qac (qv 1) qa_nil))) (qss_one (qs_if (qt_cmpR op_lt (qv 1) (qv 0) (nomark _)) qss_never qss_nil)), ?_⟩
    refine ⟨_, rfl, i, rfl, _, rfl, _, rfl, _, _, rfl, rfl, _, rfl, ?_⟩
    rw [decide_eq_false (by omega)]
    exact iteF q
theorem scPrimes : FnScope ["n", "found", "left", "p", "often"] ["n"] (defScope sPrimes) := ⟨rfl, rfl, rfl, by decide +kernel, rfl, by decide +kernel, by decide +kernel⟩
theorem ok_primes {f fF : Addr} {fd fdF : FuncData} (F : Fun K "primes_of" "primes_of" sPrimes f fd) (FF : Fun K "must_be_from" "must_be_from" sFrom fF fdF) (bF : Binds K fdF ["least", "thing"] []) (mF : mg "must_be_from" = some (.ref fF))
    (GF : FnOk P w K mg base CX0 3 fF fdF ["least", "thing"] spFromN) : FnOk P w K mg base CX0 4 f fd ["n"] spPrimesN := by
  refine F.okQ scPrimes (fun vs H Q E h => ?_) (fun cdv A outer s H vs Q E hr h => ?_)
  · obtain ⟨n, rfl, _⟩ := h; rfl
  · refine ⟨_, qss_cons (qs_expr (qe_call GF hr rfl mF FF.kp bF .nil pass0 (qac qe_int (qac (qv 0) qa_nil))))
      ((qss_cons (qs_set (i := 1) scPrimes.nd rfl (Or.inl rfl) (qe_lst qa_nil))
      (qss_cons (qs_set (i := 2) scPrimes.nd rfl (Or.inl rfl) (qv 0))
      (qss_cons (qs_set (i := 3) scPrimes.nd rfl (Or.inl rfl) qe_int)
      (qss_cons (qs_while PassesOwn.never (qt_cmpR op_le (qe_op op_mul (qv 3) (qv 3)) (qv 2) (nomark _))
        (qss_cons (qs_set (i := 4) scPrimes.nd rfl (Or.inl rfl) qe_int)
        (qss_cons (qs_while PassesOwn.never (qt_cmpR op_eq (qe_op op_mod (qv 2) (qv 3)) qe_int (nomark _))
          (qss_cons (qs_set (i := 2) scPrimes.nd rfl (Or.inl rfl) (qe_op op_fdiv (qv 2) (qv 3)))
          (qss_one (qs_aug (i := 4) scPrimes.nd rfl (Or.inl rfl) qe_int ip_add))))
        (qss_cons (qs_if (qt_cmpR op_gt (qv 4) qe_int (nomark _)) (qss_one (qs_expr (qe_bm PySem.F.plainAttrs_list PySem.F.slot_list_append PySem.F.type_list_append mt_append (qv 1) (qac (qe_tup (qac (qv 3) (qac (qv 4) qa_nil))) qa_nil)))) qss_nil)
        (qss_one (qs_aug (i := 3) scPrimes.nd rfl (Or.inl rfl) qe_int ip_add))))))
      (qss_cons (qs_if (qt_cmpR op_gt (qv 2) qe_int (nomark _)) (qss_one (qs_expr (qe_bm PySem.F.plainAttrs_list PySem.F.slot_list_append PySem.F.type_list_append mt_append (qv 1) (qac (qe_tup (qac (qv 2) (qac qe_int qa_nil))) qa_nil)))) qss_nil)
      (qss_one (qs_ret (qv 1))))))))), ?_⟩
    obtain ⟨n, rfl, h1, hn, k⟩ := h
    · refine ⟨_, rfl, 1, _, rfl, by omega, ?_⟩
      refine ⟨by show 0 ≤ sizeLine; decide, fun l hl => ?_⟩
      refine ⟨_, rfl, ?_⟩
      refine while_w (fun σ H2 => ∃ (p left : Nat) (ws : List V) (L : List (Nat × Nat)) (x : Option V), σ = [some (.int (n : Nat)), some (.ref l), some (.int (left : Nat)), some (.int (p : Nat)), x] ∧
          EM.FacTo n p left L ∧ Same H H2 ∧ H2 l = some (.lst ws) ∧ TupsAt H2 ws L ∧ p ≤ 2 ^ 31)
        (fun σ _ => match σ with | [_, _, some (.int left), some (.int p), _] => (left - p).toNat | _ => 0)
        ⟨2, n, [], [], none, rfl, EM.FacTo.start h1, same_new hl, upd_same, trivial, by decide⟩ ?_
      rintro m σ H2 ⟨p, left, ws, L, x, rfl, F2, s2, hl2, t2, hp31⟩ hm
      refine ⟨_, rfl, _, rfl, _, _, rfl, rfl, .inl ⟨by omega, by omega⟩, _, rfl, _, _, rfl, rfl, _, rfl, ?_⟩
      refine ite2 (fun hc => WTurn.of ?_) (fun hc => ?_)
      · have hc' : p * p ≤ left := by
          have := of_decide_eq_true hc
          exact Int.ofNat_le.mp (by rw [Int.natCast_mul]; exact this)
        have hp30 := EM.root_lt hc' (Nat.lt_of_le_of_lt F2.le hn)
        have h2p := EM.two_le_self F2.two hc'
        have htwo := F2.two
        -- the inner loop
        refine while_w (fun σ H3 => H3 = H2 ∧ ∃ (lf of : Nat), σ = [some (.int (n : Nat)), some (.ref l), some (.int (lf : Nat)), some (.int (p : Nat)), some (.int (of : Nat))] ∧ left = lf * p ^ of)
          (fun σ _ => match σ with | [_, _, some (.int lf), _, _] => lf.toNat | _ => 0)
          ⟨rfl, left, 0, rfl, by rw [Nat.pow_zero, Nat.mul_one]⟩ ?_
        rintro m' σ H3 ⟨rfl, lf, of, rfl, hlf⟩ hm'
        have hlf0 : 1 ≤ lf := by
          rcases Nat.eq_zero_or_pos lf with z | z
          · have := F2.pos
            rw [hlf, z, Nat.zero_mul] at this
            omega
          · exact z
        refine ⟨_, rfl, _, rfl, _, _, rfl, rfl, by omega, rfl, _, rfl, ?_⟩
        refine ite2 (fun hd => WTurn.of ?_) (fun hd => ?_)
        · have hd' : lf % p = 0 := by
            have := V.int.inj (of_decide_eq_true hd)
            omega
          have hdv : p ∣ lf := Nat.dvd_of_mod_eq_zero hd'
          refine ⟨_, rfl, _, rfl, _, _, rfl, rfl, ⟨by omega, by omega⟩, _, rfl, _, _, rfl, rfl, ⟨rfl, lf / p, of + 1, ?_, ?_⟩, ?_⟩
          · rfl
          · rw [Nat.pow_succ, Nat.mul_comm (p ^ of) p, ← Nat.mul_assoc, Nat.div_mul_cancel hdv]
            exact hlf
          · rw [hm']
            show ((lf : Int) / (p : Int)).toNat < (lf : Int).toNat
            have e : (lf : Int) / (p : Int) = ((lf / p : Nat) : Int) := rfl
            rw [e]
            have := Nat.div_lt_self hlf0 (show 1 < p by omega)
            omega
        · have hnd : ¬ p ∣ lf := fun z => hd (by
            have := Nat.mod_eq_zero_of_dvd z
            refine decide_eq_true (congrArg V.int ?_)
            omega)
          refine ⟨_, rfl, _, _, rfl, rfl, _, rfl, ?_⟩
          refine ite2 (fun ho => ?_) (fun ho => ?_)
          · have ho' : 1 ≤ of := by
              have := of_decide_eq_true ho
              omega
            have F3 := F2.some hlf ho' hnd
            refine ⟨_, rfl, .inl ⟨rfl, _, SqL.of hl2⟩, _, rfl, _, rfl, by show 2 ≤ sizeLine; decide, fun t ht => ?_⟩
            have nlt : l ≠ t := ne_of_none hl2 ht
            refine ⟨l, ws, _, rfl, rfl, by rw [upd_ne nlt]; exact hl2, ?_, ?_⟩
            · rw [t2.len]
              exact Nat.lt_trans (F2.short hn) (by decide)
            refine ⟨_, rfl, _, _, rfl, rfl, ⟨p + 1, lf, ws ++ [.ref t], L ++ [(p, of)], some (.int (of : Nat)), ?_, F3, ?_, upd_same, ?_, by omega⟩, ?_⟩
            · rfl
            · exact same_upd (s2.trans (same_new ht)) hl
            · refine TupsAt.upd (ys := ws) (by rw [upd_ne nlt]; exact hl2) (TupsAt.snoc (x := (p, of)) upd_same (t2.same (same_new ht)))
            · rw [hm]
              show ((lf : Int) - ((p : Int) + 1)).toNat < ((left : Int) - (p : Int)).toNat
              have : lf ≤ left := hlf ▸ Nat.le_mul_of_pos_right _ (Nat.pow_pos (by omega))
              omega
          · have ho' : of = 0 := by
              have : ¬ (0 < (of : Int)) := fun z => ho (decide_eq_true z)
              omega
            subst ho'
            rw [Nat.pow_zero, Nat.mul_one] at hlf
            subst hlf
            refine ⟨_, rfl, _, _, rfl, rfl, ⟨p + 1, left, ws, L, _, rfl, F2.none hnd, s2, hl2, t2, by omega⟩, ?_⟩
            rw [hm]
            show ((left : Int) - ((p : Int) + 1)).toNat < ((left : Int) - (p : Int)).toNat
            omega
      · have hc' : left < p * p := by
          have h3 : ¬ ((p : Int) * (p : Int) ≤ (left : Int)) := fun z => hc (decide_eq_true z)
          refine Nat.lt_of_not_le fun z => h3 ?_
          rw [← Int.natCast_mul]
          exact Int.ofNat_le.mpr z
        refine ⟨_, rfl, _, _, rfl, rfl, _, rfl, ?_⟩
        refine ite2 (fun ho => ?_) (fun ho => ?_)
        · have ho' : 1 < left := by
            have := of_decide_eq_true ho
            omega
          have F3 := F2.last hc' ho'
          refine ⟨_, rfl, .inl ⟨rfl, _, SqL.of hl2⟩, _, rfl, by show 2 ≤ sizeLine; decide, fun t ht => ?_⟩
          have nlt : l ≠ t := ne_of_none hl2 ht
          refine ⟨l, ws, _, rfl, rfl, by rw [upd_ne nlt]; exact hl2, ?_, ?_⟩
          · rw [t2.len]
            exact Nat.lt_trans (F2.short hn) (by decide)
          refine ⟨_, rfl, k l (ws ++ [.ref t]) (L ++ [(left, 1)]) _ hl (same_upd (s2.trans (same_new ht)) hl) upd_same ?_ F3⟩
          exact TupsAt.upd (ys := ws) (by rw [upd_ne nlt]; exact hl2) (TupsAt.snoc (x := (left, 1)) upd_same (t2.same (same_new ht)))
        · have ho' : ¬ 1 < left := fun z => ho (decide_eq_true (by omega))
          exact ⟨_, rfl, k l ws L H2 hl s2 hl2 t2 (F2.done ho')⟩
theorem scIsPrime : FnScope ["p"] ["p"] (defScope sIsPrime) := ⟨rfl, rfl, rfl, by decide +kernel, rfl, by decide +kernel, by decide +kernel⟩
theorem ok_isprime {f : Addr} {fd : FuncData} (F : Fun K "is_prime" "is_prime" sIsPrime f fd) (pPrimes : Pm P w K mg base CX0 4 "primes_of" ["n"] spPrimesN) : FnOk P w K mg base CX0 5 f fd ["p"] spIsPrime := by
  refine F.okQ scIsPrime (fun vs H Q E h => ?_) (fun cdv A outer s H vs Q E hr h => ?_)
  · obtain ⟨i, rfl, _⟩ := h
    rfl
  · obtain ⟨i, rfl, hi, k⟩ := h
    refine ⟨_, (qss_one (qs_ret (qe_and (qe_cmpR op_gt (qv 0) qe_int (nomark _)) (qe_one (qe_cmpR (op_eqD hr.units) (qe_callP pPrimes hr rfl pass0 (qac (qv 0) qa_nil)) (qe_lst (qac (qe_tup (qac (qv 0) (qac qe_int qa_nil))) qa_nil)) (nomark _)))))), ?_⟩
    refine ⟨_, rfl, _, _, rfl, rfl, _, rfl, ?_⟩
    by_cases h1 : (1 : Int) < i
    · refine ifT h1 ?_
      obtain ⟨n, rfl⟩ : ∃ n : Nat, i = n := ⟨i.toNat, by omega⟩
      refine ⟨_, rfl, n, rfl, by omega, by omega, fun l ws L H1 hl s1 hl1 t1 F1 => ?_⟩
      refine ⟨_, rfl, by show 2 ≤ sizeLine; decide, fun t ht => ⟨by show 1 ≤ sizeLine; decide, fun m hm => ?_⟩⟩
      have s2 := same_new (o := .tup [.int (n : Nat), .int 1]) ht
      have s3 := same_new (o := .lst [.ref t]) hm
      have s4 := s2.trans s3
      refine ⟨.list (L.map ptup), .list ([(n, 1)].map ptup), ?_, ?_, shaped_ptups _, shaped_ptups _, ?_⟩
      · simp only [IsD]
        exact ⟨l, ws, rfl, SqL.of (s4 _ _ hl1), tups_isD (t1.same s4)⟩
      · simp only [IsD]
        exact ⟨m, [.ref t], rfl, SqL.of upd_same, tups_isD (ws := [.ref t]) (L := [(n, 1)]) ⟨⟨t, rfl, s3 _ _ upd_same⟩, trivial⟩⟩
      · refine k _ _ (s1.trans s4) ?_
        show PyData.eqv _ _ = true ↔ _
        simp only [PyData.eqv, eqv_ptups, decide_eq_true_eq]
        constructor
        · rintro rfl
          exact ⟨n, rfl, F1.pr_of⟩
        · rintro ⟨p, e, hp⟩
          have : p = n := by omega
          subst this
          exact F1.of_pr hp
    · refine ifF h1 ?_
      refine k false H (Same.refl H) ⟨fun z => (nomatch z), fun ⟨p, e, hp⟩ => ?_⟩
      have := hp.1
      omega
/-! numbers by digits -/
def numL (p : Nat) : List Nat → Nat
  | [] => 0
  | d :: l => numL p l * p + d
theorem numL_lt {p : Nat} (hp : 1 ≤ p) : ∀ {l : List Nat}, (∀ x ∈ l, x < p) → numL p l < p ^ l.length
  | [], _ => by simp [numL]
  | d :: l, h => by
    have h1 := numL_lt hp (l := l) fun x hx => h x (List.mem_cons_of_mem _ hx)
    have h2 := h d (List.mem_cons_self ..)
    rw [numL, List.length_cons, Nat.pow_succ]
    have h3 : (numL p l + 1) * p ≤ p ^ l.length * p := Nat.mul_le_mul_right _ h1
    rw [Nat.add_mul] at h3
    omega
def sumP (p : Nat) (c : Nat → Nat) : Nat → Nat
  | 0 => 0
  | i + 1 => sumP p c i + c i * p ^ i
theorem numL_snoc (p x : Nat) : ∀ l : List Nat, numL p (l ++ [x]) = numL p l + x * p ^ l.length
  | [] => by simp [numL]
  | d :: l => by
    rw [List.cons_append, numL, numL_snoc p x l, numL, List.length_cons, Nat.pow_succ, Nat.add_mul, Nat.mul_assoc]
    omega
theorem numL_map (p : Nat) (c : Nat → Nat) : ∀ d, numL p ((List.range d).map c) = sumP p c d
  | 0 => rfl
  | d + 1 => by
    rw [List.range_succ, List.map_append, List.map_cons, List.map_nil, numL_snoc, numL_map p c d, List.length_map, List.length_range]
    rfl
theorem sumP_lt {p : Nat} {c : Nat → Nat} {d : Nat} (hp : 1 ≤ p) (h : ∀ i, c i < p) : sumP p c d < p ^ d := by
  rw [← numL_map]
  have := numL_lt hp (l := (List.range d).map c) (fun x hx => by
    obtain ⟨i, _, rfl⟩ := List.mem_map.mp hx
    exact h i)
  rwa [List.length_map, List.length_range] at this
theorem sumP_tail {p : Nat} {c : Nat → Nat} {i : Nat} (h : ∀ j, i ≤ j → c j = 0) : ∀ k, sumP p c (i + k) = sumP p c i
  | 0 => rfl
  | k + 1 => by
    rw [← Nat.add_assoc, sumP, sumP_tail h k, h (i + k) (by omega), Nat.zero_mul, Nat.add_zero]
theorem sumP_congr {p : Nat} {c e : Nat → Nat} : ∀ {d : Nat}, (∀ i, i < d → c i = e i) → sumP p c d = sumP p e d
  | 0, _ => rfl
  | d + 1, h => by rw [sumP, sumP, sumP_congr fun i hi => h i (by omega), h d (by omega)]
theorem drop_cons {l : List Nat} {i : Nat} (h : i < l.length) : l.drop i = l[i] :: l.drop (i + 1) := (List.getElem_cons_drop h).symm
def spNum : Sp := fun vs H Q _ => ∃ (a : Addr) (p : Nat) (l : List Nat), vs = [.int ((p : Nat) : Int), .ref a] ∧ H a = some (.tup (nats l)) ∧ 1 ≤ p ∧ p ≤ 31 ∧ l.length ≤ 6 ∧ (∀ x ∈ l, x < p) ∧ Q (.int ((numL p l : Nat) : Int)) H
theorem numL_drop_le {p : Nat} {l : List Nat} (hp : 1 ≤ p) (hp31 : p ≤ 31) (h6 : l.length ≤ 6) (hx : ∀ x ∈ l, x < p) (k : Nat) : numL p (l.drop k) ≤ 887503681 := by
  have h1 := numL_lt hp (l := l.drop k) fun x h => hx x (List.mem_of_mem_drop h)
  have h2 := pow_le6 (s := (l.drop k).length) hp31 (by rw [List.length_drop]; omega)
  omega
theorem scNumberOf : FnScope ["p", "digits", "number", "digit"] ["p", "digits"] (defScope sNumberOf) := ⟨rfl, rfl, rfl, by decide +kernel, rfl, by decide +kernel, by decide +kernel⟩
theorem ok_num {f : Addr} {fd : FuncData} (F : Fun K "number_of" "number_of" sNumberOf f fd) (hR : mg "reversed" = none) : FnOk P w K mg base CX0 1 f fd ["p", "digits"] spNum := by
  refine F.okQ scNumberOf (fun vs H Q E h => ?_) (fun cdv A outer s H vs Q E hr h => ?_)
  · obtain ⟨a, p, l, rfl, _⟩ := h
    rfl
  · obtain ⟨a, p, l, rfl, ha, hp1, hp31, h6, hx, q⟩ := h
    refine ⟨_, (qss_cons (qs_set (i := 2) scNumberOf.nd rfl (Or.inl rfl) qe_int)
      (qss_cons (qs_for PassesOwn.never rfl (qi_revT rfl hR (qac (qv 1) qa_nil)) (qg_name (i := 3) scNumberOf.nd rfl (Or.inl rfl))
        (qss_one (qs_set (i := 2) scNumberOf.nd rfl (Or.inl rfl) (qe_op op_add (qe_op op_mul (qv 2) (qv 0)) (qv 3)))))
      (qss_one (qs_ret (qv 2))))), ?_⟩
    refine ⟨_, rfl, a, nats l, rfl, SqT.of ha, for_rev (K := K) (xs := nats l) (fun i σ H2 => H2 = H ∧ ∃ x3, σ = [some (.int ((p : Nat) : Int)), some (.ref a), some (.int ((numL p (l.drop (l.length - i)) : Nat) : Int)), x3]) ⟨rfl, none, by rw [Nat.sub_zero, List.drop_length]; rfl⟩ (fun i σ H2 _ ⟨e, _⟩ => SqT.of (e ▸ ha)) ?_ ?_⟩
    · rintro i v σ H2 hi ⟨rfl, x3, rfl⟩
      have hil : i < l.length := by
        have := (List.getElem?_eq_some_iff.mp hi).1
        rwa [List.length_reverse, nats_len] at this
      rw [List.getElem?_reverse (by rw [nats_len]; exact hil), nats_len] at hi
      obtain ⟨x, hx', rfl⟩ := L2.nats_get hi
      have hb := numL_drop_le hp1 hp31 h6 hx (l.length - i)
      have hxp := hx x (List.mem_of_getElem? hx')
      have e1 : l.drop (l.length - (i + 1)) = x :: l.drop (l.length - i) := by
        have z := drop_cons (l := l) (i := l.length - 1 - i) (by omega)
        rw [show l.length - 1 - i + 1 = l.length - i by omega] at z
        rw [show l.length - (i + 1) = l.length - 1 - i by omega, z]
        have := (List.getElem?_eq_some_iff.mp hx').2
        rw [this]
      refine ⟨_, rfl, _, rfl, _, _, rfl, rfl, .inl ⟨by omega, by omega⟩, _, rfl, _, _, rfl, rfl, rfl, some (.int ((x : Nat) : Int)), ?_⟩
      rw [e1, numL]
      simp
    · rintro σ H2 ⟨rfl, x3, rfl⟩
      refine ⟨_, rfl, ?_⟩
      rw [nats_len, Nat.sub_self, List.drop_zero]
      exact q
theorem digN_get (p : Nat) : ∀ (n x i : Nat), (digN p n x).getD i 0 = if i < n then x / p ^ i % p else 0
  | 0, x, i => by simp [digN]
  | n + 1, x, 0 => by simp [digN]
  | n + 1, x, i + 1 => by
    rw [digN, List.getD_cons_succ, digN_get p n, Nat.div_div_eq_div_mul, Nat.pow_succ, Nat.mul_comm p]
    by_cases h : i < n
    · rw [if_pos h, if_pos (by omega)]
    · rw [if_neg h, if_neg (by omega)]
theorem tight_eq {l m : List Nat} (hl : Tight l) (hm : Tight m) (h : ∀ i, l.getD i 0 = m.getD i 0) : l = m := by
  have h1 := tight_le hl h
  have h2 := tight_le hm fun i => (h i).symm
  apply List.ext_getElem (by omega)
  intro i z1 z2
  have := h i
  rw [getD_in z1, getD_in z2] at this
  exact this
theorem dig_zero {p n j i : Nat} (h : n / p ^ j = 0) (hji : j ≤ i) : n / p ^ i % p = 0 := by
  have : n / p ^ i = 0 := by
    rw [show i = j + (i - j) by omega, Nat.pow_add, ← Nat.div_div_eq_div_mul, h, Nat.zero_div]
  rw [this, Nat.zero_mod]
/-- the digits of a number, none leading that is 0 -/
theorem dig_trim {p n j d : Nat} (hp : 2 ≤ p) (hd : n < p ^ d) (h0 : n / p ^ j = 0) (h1 : j = 0 ∨ n / p ^ (j - 1) ≠ 0) : digN p j n = trimL (digN p d n) := by
  have hdz : n / p ^ d = 0 := Nat.div_eq_of_lt hd
  refine tight_eq ?_ (trim_facts _ _ rfl).1 fun i => ?_
  · rcases h1 with rfl | h1
    · exact .inl rfl
    · right
      have hj : 1 ≤ j := by
        rcases Nat.eq_zero_or_pos j with z | z
        · subst z
          exact absurd h0 h1
        · exact z
      rw [digN_len, digN_get, if_pos (by omega)]
      have : n / p ^ (j - 1) < p := by
        rw [Nat.div_lt_iff_lt_mul (Nat.pow_pos (by omega))]
        have h2 : n < p ^ j := by
          rcases Nat.lt_or_ge n (p ^ j) with z | z
          · exact z
          · have := Nat.div_pos z (Nat.pow_pos (show 0 < p by omega))
            omega
        rw [Nat.mul_comm, ← Nat.pow_succ, show (j - 1).succ = j by omega]
        exact h2
      rw [Nat.mod_eq_of_lt this]
      exact h1
  · rw [trim_at, digN_get, digN_get]
    by_cases c1 : i < j
    · by_cases c2 : i < d
      · rw [if_pos c1, if_pos c2]
      · rw [if_pos c1, if_neg c2, dig_zero hdz (by omega)]
    · by_cases c2 : i < d
      · rw [if_neg c1, if_pos c2, dig_zero h0 (by omega)]
      · rw [if_neg c1, if_neg c2]
def spDigG : Sp := fun vs H Q _ => ∃ (p n d : Nat), vs = [.int ((p : Nat) : Int), .int ((n : Nat) : Int)] ∧ 2 ≤ p ∧ p ≤ 31 ∧ d ≤ 6 ∧ n < p ^ d ∧ ∀ (t : Addr) (H' : Hp), H t = none → Same H H' → H' t = some (.tup (nats (trimL (digN p d n)))) → Q (.ref t) H'
theorem ok_digG {f : Addr} {fd : FuncData} (F : Fun K "digits_of" "digits_of" sDigitsOf f fd) (T : TxtB mg) : FnOk P w K mg base CX0 1 f fd ["p", "number"] spDigG := by
  refine F.okQ scDigitsOf (fun vs H Q E h => ?_) (fun cdv A outer s H vs Q E hr h => ?_)
  · obtain ⟨p, n, s, rfl, _⟩ := h
    rfl
  · obtain ⟨p, n, d, rfl, hp2, hp31, hd6, hnd, q⟩ := h
    refine ⟨_, (qss_cons (qs_set (i := 2) scDigitsOf.nd rfl (Or.inl rfl) (qe_lst qa_nil))
      (qss_cons (qs_set (i := 3) scDigitsOf.nd rfl (Or.inl rfl) (qv 1))
      (qss_cons (qs_while PassesOwn.never (qt_cmpR op_gt (qv 3) qe_int (nomark _))
        (qss_cons (qs_expr (qe_bm PySem.F.plainAttrs_list PySem.F.slot_list_append PySem.F.type_list_append mt_append (qv 2) (qac (qe_op op_mod (qv 3) (qv 0)) qa_nil)))
        (qss_one (qs_set (i := 3) scDigitsOf.nd rfl (Or.inl rfl) (qe_op op_fdiv (qv 3) (qv 0))))))
      (qss_one (qs_ret (qe_callTy call_tuple_of (by rfl) T.tup (by decide +kernel) (qac (qv 2) qa_nil))))))), ?_⟩
    refine ⟨by show 0 ≤ sizeLine; decide, fun l hl => ⟨_, rfl, ?_⟩⟩
    refine while_w (fun σ H2 => Same H H2 ∧ ∃ j : Nat, (j = 0 ∨ n / p ^ (j - 1) ≠ 0) ∧ j ≤ d ∧ σ = [some (.int ((p : Nat) : Int)), some (.int ((n : Nat) : Int)), some (.ref l), some (.int ((n / p ^ j : Nat) : Int))] ∧ H2 l = some (.lst (nats (digN p j n))))
      (fun σ _ => match σ with | [_, _, _, some (.int m)] => m.toNat | _ => 0) ⟨same_new hl, 0, .inl rfl, by omega, by rw [Nat.pow_zero, Nat.div_one]; rfl, upd_same⟩ ?_
    rintro mm σ H2 ⟨s2, j, hj1, hj, rfl, hl2⟩ hmm
    refine ⟨_, rfl, _, _, rfl, rfl, _, rfl, ?_⟩
    refine ite2 (fun h1 => WTurn.of ?_) (fun h1 => ?_)
    · have h1' : 0 < n / p ^ j := by
        have : (0 : Int) < ((n / p ^ j : Nat) : Int) := of_decide_eq_true h1
        omega
      have hjk : j < d := by
        rcases Nat.lt_or_ge j d with z | z
        · exact z
        · have e : j = d := by omega
          subst e
          rw [Nat.div_eq_of_lt hnd] at h1'
          exact absurd h1' (Nat.lt_irrefl _)
      have e1 : ((n / p ^ j : Nat) : Int) % ((p : Nat) : Int) = ((n / p ^ j % p : Nat) : Int) := by simp
      have e2 : ((n / p ^ j : Nat) : Int) / ((p : Nat) : Int) = ((n / p ^ (j + 1) : Nat) : Int) := by
        rw [Nat.pow_succ, ← Nat.div_div_eq_div_mul]
        simp
      refine ⟨_, rfl, .inl ⟨rfl, _, SqL.of hl2⟩, _, rfl, _, rfl, _, _, rfl, rfl, by omega, l, _, .int ((n / p ^ j % p : Nat) : Int), rfl, ?_, hl2, by rw [nats_len, digN_len]; exact Nat.lt_of_le_of_lt (show j ≤ 6 by omega) (by decide), ?_⟩
      · show [V.int (((n / p ^ j : Nat) : Int) % ((p : Nat) : Int))] = _
        rw [e1]
      refine ⟨_, rfl, _, rfl, _, _, rfl, rfl, ⟨by omega, by omega⟩, ?_⟩
      show (Same H _ ∧ ∃ j' : Nat, (j' = 0 ∨ n / p ^ (j' - 1) ≠ 0) ∧ j' ≤ d ∧ [some (V.int ((p : Nat) : Int)), some (V.int ((n : Nat) : Int)), some (V.ref l), some (V.int (((n / p ^ j : Nat) : Int) / ((p : Nat) : Int)))] = _ ∧ _) ∧ (((n / p ^ j : Nat) : Int) / ((p : Nat) : Int)).toNat < mm
      rw [e2]
      refine ⟨⟨same_upd s2 hl, j + 1, .inr (by rw [Nat.add_sub_cancel]; exact Nat.ne_of_gt h1'), by omega, rfl, ?_⟩, ?_⟩
      · rw [upd_same, digN_snoc, nats_snoc]
      · rw [hmm]
        show ((n / p ^ (j + 1) : Nat) : Int).toNat < ((n / p ^ j : Nat) : Int).toNat
        rw [Int.toNat_natCast, Int.toNat_natCast, Nat.pow_succ, ← Nat.div_div_eq_div_mul]
        exact Nat.div_lt_self h1' (by omega)
    · have h1' : n / p ^ j = 0 := by
        have : ¬ (0 : Int) < ((n / p ^ j : Nat) : Int) := fun z => h1 (decide_eq_true z)
        generalize n / p ^ j = z at this ⊢
        omega
      rw [dig_trim hp2 hnd h1' hj1] at hl2
      exact ⟨_, rfl, l, _, rfl, .inl ⟨SqL.of hl2, fun t ht => q t _ (s2.free ht) (s2.trans (same_new ht)) upd_same⟩⟩
theorem cint_mk {K : PySem.W.Frag} {x : Str} {n : Int} {t : Tok} (h : PySem.W.nsIn K mainGlobals x = some (some (.int n t))) : ∃ t, PySem.W.nsIn K mainGlobals x = some (some (.int n t)) := ⟨t, h⟩
/-- the digit at i of a sum or a difference -/
def cj (p : Nat) (sg : Int) (a b i : Nat) : Nat := ((((a / p ^ i : Nat) : Int) + sg * ((b / p ^ i : Nat) : Int)) % ((p : Nat) : Int)).toNat
theorem cj_int {p : Nat} (hp : 1 ≤ p) (sg : Int) (a b i : Nat) : (((a / p ^ i : Nat) : Int) + sg * ((b / p ^ i : Nat) : Int)) % ((p : Nat) : Int) = ((cj p sg a b i : Nat) : Int) ∧ cj p sg a b i < p := by
  unfold cj
  generalize ((a / p ^ i : Nat) : Int) + sg * ((b / p ^ i : Nat) : Int) = z
  have h1 := Int.emod_nonneg z (show ((p : Nat) : Int) ≠ 0 by omega)
  have h2 := Int.emod_lt_of_pos z (show (0 : Int) < ((p : Nat) : Int) by omega)
  exact ⟨by omega, by omega⟩
theorem div_zero_of {p n j i : Nat} (h : n / p ^ j = 0) (hji : j ≤ i) : n / p ^ i = 0 := by
  rw [show i = j + (i - j) by omega, Nat.pow_add, ← Nat.div_div_eq_div_mul, h, Nat.zero_div]
theorem cj_zero {p : Nat} {sg : Int} {a b j i : Nat} (h1 : a / p ^ j = 0) (h2 : b / p ^ j = 0) (hji : j ≤ i) : cj p sg a b i = 0 := by
  unfold cj
  rw [div_zero_of h1 hji, div_zero_of h2 hji]
  simp
def joinV (p : Nat) (sg : Int) (d a b : Nat) : Nat := sumP p (cj p sg a b) d
theorem joinV_lt {p : Nat} {sg : Int} {d a b : Nat} (hp : 1 ≤ p) : joinV p sg d a b < p ^ d := sumP_lt hp fun i => (cj_int hp sg a b i).2
def spJoin : Sp := fun vs H Q _ => ∃ (p d a b : Nat) (sg : Int), vs = [.int ((p : Nat) : Int), .int ((a : Nat) : Int), .int ((b : Nat) : Int), .int sg] ∧ 2 ≤ p ∧ p ≤ 31 ∧ d ≤ 6 ∧ a < p ^ d ∧ b < p ^ d ∧ (sg = 1 ∨ sg = -1) ∧ Q (.int ((joinV p sg d a b : Nat) : Int)) H
theorem scJoined : FnScope ["p", "a", "b", "sign", "number", "power", "one", "other"] ["p", "a", "b", "sign"] (defScope sJoined) := ⟨rfl, rfl, rfl, by decide +kernel, rfl, by decide +kernel, by decide +kernel⟩
theorem ok_join {f : Addr} {fd : FuncData} (F : Fun K "joined" "joined" sJoined f fd) : FnOk P w K mg base CX0 1 f fd ["p", "a", "b", "sign"] spJoin := by
  refine F.okQ scJoined (fun vs H Q E h => ?_) (fun cdv A outer s H vs Q E hr h => ?_)
  · obtain ⟨p, d, a, b, sg, rfl, _⟩ := h
    rfl
  · obtain ⟨p, d, a, b, sg, rfl, hp2, hp31, hd6, ha, hb, hsg, q⟩ := h
    refine ⟨_, (qss_cons (qs_set (i := 4) scJoined.nd rfl (Or.inl rfl) qe_int)
      (qss_cons (qs_set (i := 5) scJoined.nd rfl (Or.inl rfl) qe_int)
      (qss_cons (qs_set (i := 6) scJoined.nd rfl (Or.inl rfl) (qv 1))
      (qss_cons (qs_set (i := 7) scJoined.nd rfl (Or.inl rfl) (qv 2))
      (qss_cons (qs_while PassesOwn.never (QW.pt (qw_or (qt_cmpR op_gt (qv 6) qe_int (nomark _)) (qw_or1 (qt_cmpR op_gt (qv 7) qe_int (nomark _)))))
        (qss_cons (qs_aug (i := 4) scJoined.nd rfl (Or.inl rfl) (qe_op op_mul (qe_op op_mod (qe_op op_add (qv 6) (qe_op op_mul (qv 3) (qv 7))) (qv 0)) (qv 5)) ip_add)
        (qss_cons (qs_set (i := 5) scJoined.nd rfl (Or.inl rfl) (qe_op op_mul (qv 5) (qv 0)))
        (qss_cons (qs_set (i := 6) scJoined.nd rfl (Or.inl rfl) (qe_op op_fdiv (qv 6) (qv 0)))
        (qss_one (qs_set (i := 7) scJoined.nd rfl (Or.inl rfl) (qe_op op_fdiv (qv 7) (qv 0))))))))
      (qss_one (qs_ret (qv 4)))))))), ?_⟩
    have hpd := pow_le6 hp31 hd6
    refine ⟨_, rfl, _, rfl, ?_⟩
    refine while_w (fun σ H2 => H2 = H ∧ ∃ j : Nat, j ≤ d ∧ σ = [some (.int ((p : Nat) : Int)), some (.int ((a : Nat) : Int)), some (.int ((b : Nat) : Int)), some (.int sg), some (.int ((sumP p (cj p sg a b) j : Nat) : Int)), some (.int ((p ^ j : Nat) : Int)), some (.int ((a / p ^ j : Nat) : Int)), some (.int ((b / p ^ j : Nat) : Int))])
      (fun σ _ => match σ with | [_, _, _, _, _, _, some (.int m), some (.int n)] => m.toNat + n.toNat | _ => 0) ⟨rfl, 0, by omega, by rw [Nat.pow_zero, Nat.div_one, Nat.div_one]; rfl⟩ ?_
    rintro mm σ H2 ⟨rfl, j, hj, rfl⟩ hmm
    have hpj := pow_le6 (s := j) hp31 (by omega)
    have step : 0 < a / p ^ j ∨ 0 < b / p ^ j → j < d := fun z => by
      rcases Nat.lt_or_ge j d with y | y
      · exact y
      · exfalso
        have e : j = d := by omega
        subst e
        rw [Nat.div_eq_of_lt ha, Nat.div_eq_of_lt hb] at z
        omega
    obtain ⟨e0, c1⟩ := cj_int (show 1 ≤ p by omega) sg a b j
    have eP : ((p ^ j : Nat) : Int) * ((p : Nat) : Int) = ((p ^ (j + 1) : Nat) : Int) := by rw [Nat.pow_succ]; simp
    have eA : ((a / p ^ j : Nat) : Int) / ((p : Nat) : Int) = ((a / p ^ (j + 1) : Nat) : Int) := by
      rw [Nat.pow_succ, ← Nat.div_div_eq_div_mul]
      simp
    have eB : ((b / p ^ j : Nat) : Int) / ((p : Nat) : Int) = ((b / p ^ (j + 1) : Nat) : Int) := by
      rw [Nat.pow_succ, ← Nat.div_div_eq_div_mul]
      simp
    have eS : ((sumP p (cj p sg a b) j : Nat) : Int) + ((cj p sg a b j : Nat) : Int) * ((p ^ j : Nat) : Int) = ((sumP p (cj p sg a b) (j + 1) : Nat) : Int) := by
      rw [sumP]
      simp
    have hb31 : b / p ^ j ≤ 887503681 := Nat.le_trans (Nat.div_le_self ..) (by omega)
    have fin : (0 < a / p ^ j ∨ 0 < b / p ^ j) → (H2 = H2 ∧ ∃ i : Nat, i ≤ d ∧ [some (.int ((p : Nat) : Int)), some (.int ((a : Nat) : Int)), some (.int ((b : Nat) : Int)), some (.int sg), some (V.int (((sumP p (cj p sg a b) j : Nat) : Int) + (((a / p ^ j : Nat) : Int) + sg * ((b / p ^ j : Nat) : Int)) % ((p : Nat) : Int) * ((p ^ j : Nat) : Int))), some (V.int (((p ^ j : Nat) : Int) * ((p : Nat) : Int))), some (V.int (((a / p ^ j : Nat) : Int) / ((p : Nat) : Int))), some (V.int (((b / p ^ j : Nat) : Int) / ((p : Nat) : Int)))] = [some (.int ((p : Nat) : Int)), some (.int ((a : Nat) : Int)), some (.int ((b : Nat) : Int)), some (.int sg), some (.int ((sumP p (cj p sg a b) i : Nat) : Int)), some (.int ((p ^ i : Nat) : Int)), some (.int ((a / p ^ i : Nat) : Int)), some (.int ((b / p ^ i : Nat) : Int))]) ∧
        (((a / p ^ j : Nat) : Int) / ((p : Nat) : Int)).toNat + (((b / p ^ j : Nat) : Int) / ((p : Nat) : Int)).toNat < mm := fun z => by
      have hjd := step z
      rw [e0, eS, eP, eA, eB]
      refine ⟨⟨rfl, j + 1, by omega, rfl⟩, ?_⟩
      rw [hmm]
      show ((a / p ^ (j + 1) : Nat) : Int).toNat + ((b / p ^ (j + 1) : Nat) : Int).toNat < ((a / p ^ j : Nat) : Int).toNat + ((b / p ^ j : Nat) : Int).toNat
      rw [Int.toNat_natCast, Int.toNat_natCast, Int.toNat_natCast, Int.toNat_natCast, Nat.pow_succ, ← Nat.div_div_eq_div_mul, ← Nat.div_div_eq_div_mul]
      have l1 : ∀ x : Nat, x / p ≤ x := fun x => Nat.div_le_self ..
      have l2 : ∀ x : Nat, 0 < x → x / p < x := fun x hx => Nat.div_lt_self hx (by omega)
      have := l1 (a / p ^ j)
      have := l1 (b / p ^ j)
      rcases z with z | z
      · have := l2 _ z
        omega
      · have := l2 _ z
        omega
    have hm64 : -(2 ^ 64 : Int) ≤ sg ∧ sg ≤ 2 ^ 64 := by rcases hsg with rfl | rfl <;> exact ⟨by decide, by decide⟩
    have hmod : (((a / p ^ j : Nat) : Int) + sg * ((b / p ^ j : Nat) : Int)) % ((p : Nat) : Int) = ((cj p sg a b j : Nat) : Int) := e0
    refine ⟨_, rfl, _, _, rfl, rfl, _, rfl, ?_⟩
    by_cases h1 : 0 < a / p ^ j
    · refine ifT (by omega) (WTurn.of ?_)
      refine ⟨_, rfl, _, rfl, _, rfl, _, rfl, _, _, rfl, rfl, .inl ⟨by rcases hsg with rfl | rfl <;> decide, by rcases hsg with rfl | rfl <;> decide⟩, _, _, rfl, rfl, _, rfl, _, _, rfl, rfl, by omega, _, rfl, _, _, rfl, rfl, .inl ⟨by rw [hmod]; omega, by rw [hmod]; omega⟩, _, _, rfl, rfl, ?_⟩
      exact ⟨_, rfl, _, rfl, _, _, rfl, rfl, .inl ⟨by omega, by omega⟩, _, rfl, _, rfl, _, _, rfl, rfl, ⟨by omega, by omega⟩, _, rfl, _, rfl, _, _, rfl, rfl, ⟨by omega, by omega⟩, fin (.inl h1)⟩
    · refine ifF (by omega) ⟨_, rfl, _, _, rfl, rfl, _, rfl, ?_⟩
      by_cases h2 : 0 < b / p ^ j
      · refine ifT (by omega) (WTurn.of ?_)
        refine ⟨_, rfl, _, rfl, _, rfl, _, rfl, _, _, rfl, rfl, .inl ⟨by rcases hsg with rfl | rfl <;> decide, by rcases hsg with rfl | rfl <;> decide⟩, _, _, rfl, rfl, _, rfl, _, _, rfl, rfl, by omega, _, rfl, _, _, rfl, rfl, .inl ⟨by rw [hmod]; omega, by rw [hmod]; omega⟩, _, _, rfl, rfl, ?_⟩
        exact ⟨_, rfl, _, rfl, _, _, rfl, rfl, .inl ⟨by omega, by omega⟩, _, rfl, _, rfl, _, _, rfl, rfl, ⟨by omega, by omega⟩, _, rfl, _, rfl, _, _, rfl, rfl, ⟨by omega, by omega⟩, fin (.inr h2)⟩
      · refine ifF (by omega) ⟨_, rfl, ?_⟩
        have e : sumP p (cj p sg a b) j = joinV p sg d a b := by
          unfold joinV
          rw [show d = j + (d - j) by omega, sumP_tail (fun i hi => cj_zero (Nat.eq_zero_of_not_pos h1) (Nat.eq_zero_of_not_pos h2) hi)]
        rw [e]
        exact q
/-- a row of a field -/
structure FOk (p : Nat) (row : List Nat) : Prop where
  p2 : 2 ≤ p
  p31 : p ≤ 31
  pr : EM.IsPr p
  l2 : 2 ≤ row.length
  l6 : row.length ≤ 6
  lt : ∀ x ∈ row, x < p
  top : row.getD (row.length - 1) 0 = 1
  few : p ^ (row.length - 1) ≤ 32
  no : Dv p row none
def spMRow : Sp := fun vs H Q _ => ∃ (a : Addr) (p : Nat) (row : List Nat), vs = [.int ((p : Nat) : Int), .ref a] ∧ H a = some (.tup (nats row)) ∧ FOk p row ∧ ∀ H', Same H H' → Q .non H'
theorem scMustBeRow : FnScope ["p", "row"] ["p", "row"] (defScope sMustBeRow) := ⟨rfl, rfl, rfl, by decide +kernel, rfl, by decide +kernel, by decide +kernel⟩
theorem rep_true (n : Nat) : (List.replicate n true).all id = true := by simp
theorem ok_mrow {f : Addr} {fd : FuncData} (F : Fun K "must_be_row" "must_be_row" sMustBeRow f fd) (T : TxtB mg) (pWhole : Pm P w K mg base CX0 1 "is_whole" ["thing"] (spWhole K)) (pIsBelow : Pm P w K mg base CX0 2 "is_below" ["thing", "many"] spBelow) : FnOk P w K mg base CX0 3 f fd ["p", "row"] spMRow := by
  refine F.okQ scMustBeRow (fun vs H Q E h => ?_) (fun cdv A outer s H vs Q E hr2 h => ?_)
  · obtain ⟨a, p, row, rfl, _⟩ := h
    rfl
  · obtain ⟨a, p, row, rfl, ha, O, q⟩ := h
    have hr1 := hr2.mono (show 1 ≤ 2 by decide)
    have hp2 := O.p2
    have hl2 := O.l2
    have hl6 := O.l6
    refine ⟨_, (qss_cons (qs_if (QW.pt (qw_or (qt_not (qt_val (qe_callP pWhole hr1 rfl pass0 (qac (qv 0) qa_nil)))) (qw_or (qt_cmpR op_lt (qv 0) qe_int (nomark _)) (qw_or (qt_not (qt_val (qe_callB call_isinst (by rfl) T.isi PyProof.Rows.boot_isinstance (qac (qv 1) (qac (qe_bltn (v := .ty "tuple") rfl T.tup (by decide +kernel) rfl) qa_nil))))) (qw_or1 (qt_cmpR op_lt (qe_callB call_len_seq (by rfl) T.len PySem.boot_len (qac (qv 1) qa_nil)) qe_int (nomark _))))))) qss_never qss_nil)
      (qss_one (qs_if (QW.pt (qw_or (qt_not (qt_val (qe_callB (call_all rfl) (by rfl) T.all (by decide +kernel) (qac (qe_comp (g := gName 0) (N := ["digit", "p"]) (src := [none, some 0]) rfl (comp_scope (defScope sMustBeRow) ["p", "row"] rfl rfl (by decide +kernel) rfl) (qi_tup (qv 1)) (fun _ _ _ _ _ => (qg_name (i := 0) (show (["digit", "p"] : List Str).Nodup by decide +kernel) rfl (Or.inl rfl) (Or.inr rfl))) (fun _ _ _ _ _ => qif_nil) (fun _ _ _ _ _ => (qe_callP pIsBelow hr2 rfl pass0 (qac (qv 0) (qac (qv 1) qa_nil))))) qa_nil)))) (qw_or1 (qt_cmpR op_ne (qe_ix ix_tup (qv 1) (qe_un un_neg qe_int) (fun _ _ => rfl)) qe_int (nomark _))))) qss_never qss_nil))), ?_⟩
    refine ⟨_, rfl, .int _, true, rfl, .int _, true, rfl, iteF ?_⟩
    refine ⟨_, rfl, _, _, rfl, rfl, _, rfl, ifF (by omega) ?_⟩
    refine ⟨_, rfl, _, _, _, _, rfl, .tup ha, rel_ty (kit_tup_tup K), true, rfl, iteF ?_⟩
    refine ⟨_, rfl, a, _, rfl, .inr (SqT.of ha), _, _, rfl, rfl, _, rfl, ifF (by rw [nats_len]; omega) ?_⟩
    refine ⟨_, rfl, a, rfl, ⟨_, SqT.of ha⟩, comp_tup (K := K) (xs := nats row) (fun i zs H2 => H2 = H ∧ zs = (List.replicate i true).map V.bl) ⟨rfl, rfl⟩ (fun i zs H2 _ ⟨e, _⟩ => SqT.of (e ▸ ha)) ?_ ?_⟩
    · rintro i v zs H2 N hi ⟨rfl, rfl⟩ nx
      obtain ⟨x, hx, rfl⟩ := L2.nats_get hi
      have hxp := O.lt x (List.mem_of_getElem? hx)
      have hil := (List.getElem?_eq_some_iff.mp hx).1
      refine ⟨Weak.set (by intro v z; cases z), ⟨_, rfl, _, rfl, _, _, rfl, by omega, by omega, by rw [List.length_map, List.length_replicate]; exact Nat.lt_of_le_of_lt (show i ≤ 6 by omega) (by decide), nx _ _ ⟨rfl, ?_⟩⟩⟩
      rw [List.replicate_succ', List.map_append]
      rfl
    · rintro zs H2 ⟨rfl, rfl⟩
      refine ⟨by rw [List.length_map, List.length_replicate, nats_len]; exact Nat.le_trans hl6 (by decide), fun r hr' => ?_⟩
      have w1 := same_new (o := .lst ((List.replicate (nats row).length true).map V.bl)) hr'
      refine ⟨r, _, rfl, SqL.of upd_same, _, rfl, ?_⟩
      rw [rep_true]
      refine iteF ?_
      have hlast : atI (nats row) (-1) = some (.int 1) := by
        have h1 := List.dropLast_concat_getLast (l := row) (fun z => by rw [z] at hl2; simp at hl2)
        have h2 := O.top
        rw [List.getD_eq_getElem?_getD, List.getElem?_eq_getElem (show row.length - 1 < row.length by omega)] at h2
        have h3 : row.getLast (fun z => by rw [z] at hl2; simp at hl2) = 1 := by rw [List.getLast_eq_getElem]; exact h2
        rw [← h1, nats_snoc, atI_last, h3]
        rfl
      refine ⟨_, rfl, _, rfl, a, _, -1, .int 1, rfl, rfl, SqT.of (w1 _ _ ha), hlast, rfl, _, rfl, iteF (q _ w1)⟩
theorem not_wholeT {n c : Nat} (h : c < n) : ¬ (HT.sIx n 0 (some (((c : Nat) : Int) + 1)) = 0 ∧ HT.sIx n n none = n) := by
  rintro ⟨h1, _⟩
  rw [show ((c : Nat) : Int) + 1 = ((c + 1 : Nat) : Int) by omega, HT.sIx_nat] at h1
  omega
def spSize : Sp := fun vs H Q _ => ∃ (a : Addr) (p : Nat) (row : List Nat), vs = [.int ((p : Nat) : Int), .ref a] ∧ H a = some (.tup (nats row)) ∧ FOk p row ∧ ∀ H', Same H H' → Q (.int ((p ^ (row.length - 1) : Nat) : Int)) H'
theorem scSizeWithin : FnScope ["p", "row", "many", "digit"] ["p", "row"] (defScope sSizeWithin) := ⟨rfl, rfl, rfl, by decide +kernel, rfl, by decide +kernel, by decide +kernel⟩
theorem ok_size {f : Addr} {fd : FuncData} {t32 : Tok} (F : Fun K "size_within" "size_within" sSizeWithin f fd) (m32 : mg "MOST_NUMBERS" = some (.int 32 t32)) : FnOk P w K mg base CX0 1 f fd ["p", "row"] spSize := by
  refine F.okQ scSizeWithin (fun vs H Q E h => ?_) (fun cdv A outer s H vs Q E hr h => ?_)
  · obtain ⟨a, p, row, rfl, _⟩ := h
    rfl
  · obtain ⟨a, p, row, rfl, ha, O, q⟩ := h
    have hp2 := O.p2
    have hl2 := O.l2
    have hl6 := O.l6
    refine ⟨_, (qss_cons (qs_set (i := 2) scSizeWithin.nd rfl (Or.inl rfl) qe_int)
      (qss_cons (qs_for PassesOwn.never rfl (qi_tup (qe_slice sl_tup (qv 1) (qo_some qe_int) qo_none)) (qg_name (i := 3) scSizeWithin.nd rfl (Or.inl rfl))
        (qss_cons (qs_set (i := 2) scSizeWithin.nd rfl (Or.inl rfl) (qe_op op_mul (qv 2) (qv 0)))
        (qss_one (qs_if (qt_cmpR op_gt (qv 2) (qe_glob (v := .int 32) rfl m32 ⟨t32, rfl⟩) (nomark _)) qss_never qss_nil))))
      (qss_one (qs_ret (qv 2))))), ?_⟩
    have hnw : ¬ (HT.sIx (nats row).length 0 (some 1) = 0 ∧ HT.sIx (nats row).length (nats row).length none = (nats row).length) := by
      rw [nats_len]
      exact not_wholeT (c := 0) (by omega)
    refine ⟨_, rfl, _, rfl, a, _, rfl, SqT.of ha, hnw, fun u hu => ?_⟩
    have hcut : cutV (nats row) (some 1) none = (nats row).drop 1 := cut_from (k := 1) (by rw [nats_len]; omega)
    have hcl : (cutV (nats row) (some 1) none).length = row.length - 1 := by rw [hcut, List.length_drop, nats_len]
    have w1 := same_new (o := .tup (cutV (nats row) (some 1) none)) hu
    have hu1 : (upd H u (.tup (cutV (nats row) (some 1) none))) u = some (.tup (cutV (nats row) (some 1) none)) := upd_same
    generalize upd H u (.tup (cutV (nats row) (some 1) none)) = H1 at w1 hu1 ⊢
    refine ⟨u, rfl, ⟨_, SqT.of hu1⟩, for_tup (K := K) (a := u) (xs := cutV (nats row) (some 1) none) (fun i σ H2 => H2 = H1 ∧ i ≤ row.length - 1 ∧ ∃ x3, σ = [some (.int ((p : Nat) : Int)), some (.ref a), some (.int ((p ^ i : Nat) : Int)), x3]) ⟨rfl, by omega, none, by rw [Nat.pow_zero]; rfl⟩ (fun i σ H2 _ ⟨e, _⟩ => SqT.of (e ▸ hu1)) ?_ ?_⟩
    · rintro i v σ H2 hi ⟨rfl, hi', x3, rfl⟩
      have hil := (List.getElem?_eq_some_iff.mp hi).1
      rw [hcl] at hil
      have h32 : p ^ (i + 1) ≤ 32 := Nat.le_trans (Nat.pow_le_pow_right (by omega) (show i + 1 ≤ row.length - 1 by omega)) O.few
      have h32' : p ^ i ≤ 32 := Nat.le_trans (Nat.pow_le_pow_right (by omega) (show i ≤ row.length - 1 by omega)) O.few
      have hps : ((p ^ i : Nat) : Int) * ((p : Nat) : Int) = ((p ^ (i + 1) : Nat) : Int) := by
        rw [Nat.pow_succ]
        simp
      refine ⟨_, rfl, _, rfl, _, _, rfl, rfl, .inl ⟨by omega, by omega⟩, _, rfl, _, _, rfl, rfl, _, rfl, ?_⟩
      rw [hps]
      exact ifF (by omega) ⟨rfl, by omega, _, rfl⟩
    · rintro σ H2 ⟨rfl, hi', x3, rfl⟩
      rw [hcl]
      exact ⟨_, rfl, q _ w1⟩
def spMP : Sp := fun vs H Q _ => ∃ p : Nat, vs = [.int ((p : Nat) : Int)] ∧ p ≤ 31 ∧ EM.IsPr p ∧ ∀ H', Same H H' → Q .non H'
theorem scMustBePrime : FnScope ["p"] ["p"] (defScope sMustBePrime) := ⟨rfl, rfl, rfl, by decide +kernel, rfl, by decide +kernel, by decide +kernel⟩
theorem ok_mp {f : Addr} {fd : FuncData} (F : Fun K "must_be_prime" "must_be_prime" sMustBePrime f fd) (pIsPrime : Pm P w K mg base CX0 5 "is_prime" ["p"] spIsPrime) : FnOk P w K mg base CX0 6 f fd ["p"] spMP := by
  refine F.okQ scMustBePrime (fun vs H Q E h => ?_) (fun cdv A outer s H vs Q E hr h => ?_)
  · obtain ⟨p, rfl, _⟩ := h
    rfl
  · obtain ⟨p, rfl, hp31, hpr, q⟩ := h
    refine ⟨_, (qss_one (qs_if (qt_not (qt_val (qe_callP pIsPrime hr rfl pass0 (qac (qv 0) qa_nil)))) qss_never qss_nil)), ?_⟩
    refine ⟨_, rfl, _, rfl, by omega, fun b H' s' hb => ⟨b, rfl, ?_⟩⟩
    have : b = true := hb.mpr ⟨p, rfl, hpr⟩
    subst this
    exact iteF (q _ s')
def spMNo : Sp := fun vs H Q _ => ∃ (a : Addr) (p : Nat) (row : List Nat), vs = [.int ((p : Nat) : Int), .ref a] ∧ H a = some (.tup (nats row)) ∧ FOk p row ∧ ∀ H', Same H H' → Q .non H'
theorem scMustBeNoProduct : FnScope ["p", "row", "factor"] ["p", "row"] (defScope sMustBeNoProduct) := ⟨rfl, rfl, rfl, by decide +kernel, rfl, by decide +kernel, by decide +kernel⟩
theorem ok_mno {f : Addr} {fd : FuncData} (F : Fun K "must_be_no_product" "must_be_no_product" sMustBeNoProduct f fd) (pRowFactor : Pm P w K mg base CX0 3 "row_factor" ["p", "row"] spDv) : FnOk P w K mg base CX0 4 f fd ["p", "row"] spMNo := by
  refine F.okQ scMustBeNoProduct (fun vs H Q E h => ?_) (fun cdv A outer s H vs Q E hr h => ?_)
  · obtain ⟨a, p, row, rfl, _⟩ := h
    rfl
  · obtain ⟨a, p, row, rfl, ha, O, q⟩ := h
    have hl6 := O.l6
    have hp31 := O.p31
    refine ⟨_, (qss_cons (qs_set (i := 2) scMustBeNoProduct.nd rfl (Or.inl rfl) (qe_callP pRowFactor hr rfl pass0 (qac (qv 0) (qac (qv 1) qa_nil))))
      (qss_one (qs_if (qt_cmpR op_notN (qv 2) qe_non (nomark _)) qss_never qss_nil))), ?_⟩
    refine ⟨_, rfl, _, rfl, a, p, row, rfl, ha, O.p2, hp31, by omega, fun x hx => by have := O.lt x hx; omega, fun v o H' s' ho hv => ?_⟩
    cases o with
    | some b => exact absurd O.no ho.sides
    | none =>
      have : v = .non := hv
      subst this
      exact ⟨_, rfl, rfl, _, rfl, iteF (q _ s')⟩
/-! ### the class -/
structure FieldK (K : PySem.W.Frag) (C : Addr) : Prop where
  cl : Cls K C
  a1 : NoAttr K C "many"
  a2 : NoAttr K C "prime"
  a3 : NoAttr K C "row"
def fldF (n p : Nat) (r : Addr) : List (Str × V) := putF "row" (.ref r) (putF "prime" (.int ((p : Nat) : Int)) (putF "many" (.int ((n : Nat) : Int)) []))
theorem fld_many (n p : Nat) (r : Addr) : (fldF n p r).lookup ("many" : Str) = some (.int ((n : Nat) : Int)) := by
  unfold fldF
  rw [lookup_putF, if_neg (by decide +kernel), lookup_putF, if_neg (by decide +kernel), lookup_putF, if_pos rfl]
theorem fld_prime (n p : Nat) (r : Addr) : (fldF n p r).lookup ("prime" : Str) = some (.int ((p : Nat) : Int)) := by
  unfold fldF
  rw [lookup_putF, if_neg (by decide +kernel), lookup_putF, if_pos rfl]
theorem fld_row (n p : Nat) (r : Addr) : (fldF n p r).lookup ("row" : Str) = some (.ref r) := by
  unfold fldF
  rw [lookup_putF, if_pos rfl]
theorem fld_no (n p : Nat) (r : Addr) {m : Str} (h1 : ¬ m = "row") (h2 : ¬ m = "prime") (h3 : ¬ m = "many") : (fldF n p r).lookup m = none := by
  unfold fldF
  rw [lookup_putF, if_neg h1, lookup_putF, if_neg h2, lookup_putF, if_neg h3]
  rfl
/-- a field stands at a -/
def FieldAt (C : Addr) (H : Hp) (a : Addr) (p : Nat) (row : List Nat) : Prop := ∃ dx r, H a = some (.ins C dx (fldF (p ^ (row.length - 1)) p r)) ∧ H r = some (.tup (nats row))
theorem FieldAt.sm {C : Addr} {H H' : Hp} (s : Same H H') {a : Addr} {p : Nat} {row : List Nat} (h : FieldAt C H a p row) : FieldAt C H' a p row := by
  obtain ⟨dx, r, h1, h2⟩ := h
  exact ⟨dx, r, s _ _ h1, s _ _ h2⟩
def spInit (C : Addr) : Sp := fun vs H Q _ => ∃ (x dx r : Addr) (p : Nat) (row : List Nat) (H0 : Hp), vs = [.ref x, .int ((p : Nat) : Int), .ref r] ∧ H0 x = none ∧ H = upd H0 x (.ins C dx []) ∧ H0 r = some (.tup (nats row)) ∧ FOk p row ∧ ∀ H', Same H0 H' → FieldAt C H' x p row → Q .non H'
theorem scMInit : FnScope ["self", "p", "row"] ["self", "p", "row"] (defScope sMInit) := ⟨rfl, rfl, rfl, by decide +kernel, rfl, by decide +kernel, by decide +kernel⟩
theorem ok_init {f : Addr} {fd : FuncData} (F : Fun K "__init__" "Field.__init__" sMInit f fd) (Z : FieldK K C) (pMRow : Pm P w K mg base CX0 3 "must_be_row" ["p", "row"] spMRow) (pSize : Pm P w K mg base CX0 1 "size_within" ["p", "row"] spSize) (pMP : Pm P w K mg base CX0 6 "must_be_prime" ["p"] spMP) (pMNo : Pm P w K mg base CX0 4 "must_be_no_product" ["p", "row"] spMNo) : FnOk P w K mg base CX0 7 f fd ["self", "p", "row"] (spInit C) := by
  refine F.okQ scMInit (fun vs H Q E h => ?_) (fun cdv A outer s H vs Q E hr6 h => ?_)
  · obtain ⟨x, dx, r, p, row, H0, rfl, _⟩ := h
    rfl
  · obtain ⟨x, dx, r, p, row, H0, rfl, hx0, rfl, hr0, O, q⟩ := h
    have hr1 := hr6.mono (show 1 ≤ 6 by decide)
    have hr3 := hr6.mono (show 3 ≤ 6 by decide)
    have hr4 := hr6.mono (show 4 ≤ 6 by decide)
    refine ⟨_, (qss_cons (qs_expr (qe_callP pMRow hr3 rfl pass0 (qac (qv 1) (qac (qv 2) qa_nil)))) (qss_cons (qs_fld (qv 0) (qe_callP pSize hr1 rfl pass0 (qac (qv 1) (qac (qv 2) qa_nil))) rfl)
      (qss_cons (qs_expr (qe_callP pMP hr6 rfl pass0 (qac (qv 1) qa_nil))) (qss_cons (qs_expr (qe_callP pMNo hr4 rfl pass0 (qac (qv 1) (qac (qv 2) qa_nil))))
      (qss_cons (qs_fld (qv 0) (qv 1) rfl) (qss_one (qs_fld (qv 0) (qv 2) rfl))))))), ?_⟩
    have w0 := same_new (o := .ins C dx []) hx0
    have hx : (upd H0 x (.ins C dx [])) x = some (.ins C dx []) := upd_same
    generalize upd H0 x (.ins C dx []) = H1 at w0 hx ⊢
    refine ⟨_, rfl, _, rfl, r, p, row, rfl, w0 _ _ hr0, O, fun H2 s2 => ?_⟩
    have s02 := w0.trans s2
    refine ⟨_, rfl, _, rfl, r, p, row, rfl, s02 _ _ hr0, O, fun H3 s3 => ?_⟩
    have s03 := s02.trans s3
    refine ⟨_, rfl, x, C, dx, [], rfl, (s2.trans s3) _ _ hx, Z.cl, Z.a1, by decide, ?_⟩
    have t4 : Same H0 (upd H3 x (.ins C dx (putF "many" (.int ((p ^ (row.length - 1) : Nat) : Int)) []))) := same_upd s03 hx0
    have hx4 : (upd H3 x (.ins C dx (putF "many" (.int ((p ^ (row.length - 1) : Nat) : Int)) []))) x = some (.ins C dx (putF "many" (.int ((p ^ (row.length - 1) : Nat) : Int)) [])) := upd_same
    generalize upd H3 x (.ins C dx (putF "many" (.int ((p ^ (row.length - 1) : Nat) : Int)) [])) = H4 at t4 hx4 ⊢
    refine ⟨_, rfl, p, rfl, O.p31, O.pr, fun H5 s5 => ?_⟩
    refine ⟨_, rfl, _, rfl, r, p, row, rfl, (t4.trans s5) _ _ hr0, O, fun H6 s6 => ?_⟩
    have t6 := t4.trans (s5.trans s6)
    refine ⟨_, rfl, _, rfl, x, C, dx, _, rfl, (s5.trans s6) _ _ hx4, Z.cl, Z.a2, Nat.lt_of_le_of_lt (length_putF ..) (by decide), ?_⟩
    refine ⟨_, rfl, _, rfl, x, C, dx, _, rfl, upd_same, Z.cl, Z.a3, Nat.lt_of_le_of_lt (Nat.le_trans (length_putF ..) (Nat.succ_le_succ (length_putF ..))) (by decide), ?_⟩
    exact q _ (same_upd (same_upd t6 hx0) hx0) ⟨dx, r, upd_same, (same_upd (same_upd t6 hx0) hx0) _ _ hr0⟩
def spHave (C : Addr) : Sp := fun vs H Q _ => ∃ (a : Addr) (p x : Nat) (row : List Nat), vs = [.ref a, .int ((x : Nat) : Int)] ∧ FieldAt C H a p row ∧ x < p ^ (row.length - 1) ∧ Q .non H
theorem scMMustHave : FnScope ["self", "thing"] ["self", "thing"] (defScope sMMustHave) := ⟨rfl, rfl, rfl, by decide +kernel, rfl, by decide +kernel, by decide +kernel⟩
theorem ok_have {f : Addr} {fd : FuncData} (F : Fun K "must_have" "Field.must_have" sMMustHave f fd) (Z : FieldK K C) (pIsBelow : Pm P w K mg base CX0 2 "is_below" ["thing", "many"] spBelow) : FnOk P w K mg base CX0 3 f fd ["self", "thing"] (spHave C) := by
  refine F.okQ scMMustHave (fun vs H Q E h => ?_) (fun cdv A outer s H vs Q E hr h => ?_)
  · obtain ⟨a, p, x, row, rfl, _⟩ := h
    rfl
  · obtain ⟨a, p, x, row, rfl, ⟨dx, r, ha, hr'⟩, hx, q⟩ := h
    refine ⟨_, (qss_one (qs_if (qt_not (qt_val (qe_callP pIsBelow hr rfl pass0 (qac (qv 1) (qac (qe_fld (qv 0) rfl) qa_nil))))) qss_never qss_nil)), ?_⟩
    exact ⟨_, rfl, _, rfl, a, C, dx, _, _, rfl, ha, Z.cl, Z.a1, fld_many .., _, _, rfl, by omega, by omega, true, rfl, iteF q⟩
theorem conv_at_lt {p : Nat} (hp : 1 ≤ p) (one other : List Nat) (i : Nat) : (convL p one other).getD i 0 < p := by
  rcases Nat.lt_or_ge i (convL p one other).length with z | z
  · rw [getD_in z]
    obtain ⟨k, _, e⟩ := List.mem_map.mp (show (convL p one other)[i] ∈ (List.range (one.length + other.length)).map fun k => (csL one other k one.length).sum % p from List.getElem_mem z)
    rw [← e]
    exact Nat.mod_lt _ hp
  · rw [getD_out z]
    exact hp
theorem bsI_trim (l : List Nat) (s i : Nat) : bsI (trimL l) s i = bsI l s i := by
  unfold bsI
  rw [trim_at]
theorem conv_trim {p : Nat} (hp : 1 ≤ p) (A B : List Nat) : trimL (convL p (trimL A) (trimL B)) = trimL (convL p A B) := by
  refine trim_ext fun i => Cg.eq (p := p) ?_ (conv_at_lt hp _ _ i) (conv_at_lt hp _ _ i)
  refine (conv_cg (p := p) (trimL A) (trimL B) i).trans (Cg.trans (Cg.of_eq ?_) (conv_cg (p := p) A B i).symm)
  have h1 : (trimL A).length ≤ A.length := trim_le A
  have h2 := sumTo_tail (n := (trimL A).length) (f := fun j => (((trimL A).getD j 0 : Nat) : Int) * bsI (trimL B) j i) (fun j hj => by rw [getD_out hj]; simp) (A.length - (trimL A).length)
  rw [show (trimL A).length + (A.length - (trimL A).length) = A.length by omega] at h2
  rw [← h2]
  refine sumTo_congr fun j _ => ?_
  rw [trim_at, bsI_trim]
/-- the product of two numbers of a field -/
def tmL (p : Nat) (row : List Nat) (a b : Nat) : List Nat := trimL (restF p row (trimL (convL p (digN p (row.length - 1) a) (digN p (row.length - 1) b))))
def tmV (p : Nat) (row : List Nat) (a b : Nat) : Nat := numL p (tmL p row a b)
theorem tm_facts {p : Nat} {row : List Nat} (O : FOk p row) (a b : Nat) : (tmL p row a b).length ≤ row.length - 1 ∧ ∀ x ∈ tmL p row a b, x < p := by
  have hl2 := O.l2
  have hl6 := O.l6
  have hp : 1 ≤ p := Nat.le_trans (by decide) O.p2
  obtain ⟨h1, h2, _⟩ := restF_facts (p := p) (b := row) (l := trimL (convL p (digN p (row.length - 1) a) (digN p (row.length - 1) b))) (d := row.length - 1) hp (by omega) (by omega) O.top (Nat.le_trans (conv_le ..) (by rw [digN_len, digN_len]; omega)) (conv_lt hp _ _)
  exact ⟨Nat.le_trans (trim_le _) h1, fun x hx => h2 x (trim_mem hx)⟩
theorem tm_lt {p : Nat} {row : List Nat} (O : FOk p row) (a b : Nat) : tmV p row a b < p ^ (row.length - 1) := by
  obtain ⟨h1, h2⟩ := tm_facts O a b
  have hp : 1 ≤ p := Nat.le_trans (by decide) O.p2
  exact Nat.lt_of_lt_of_le (numL_lt hp h2) (Nat.pow_le_pow_right hp h1)
def plV (p : Nat) (row : List Nat) (a b : Nat) : Nat := joinV p 1 (row.length - 1) a b
theorem pl_lt {p : Nat} {row : List Nat} (O : FOk p row) (a b : Nat) : plV p row a b < p ^ (row.length - 1) := joinV_lt (Nat.le_trans (by decide) O.p2)
def spBin (C : Addr) (g : Nat → List Nat → Nat → Nat → Nat) : Sp := fun vs H Q _ => ∃ (f : Addr) (p a b : Nat) (row : List Nat), vs = [.ref f, .int ((a : Nat) : Int), .int ((b : Nat) : Int)] ∧ FieldAt C H f p row ∧ FOk p row ∧ a < p ^ (row.length - 1) ∧ b < p ^ (row.length - 1) ∧ ∀ H', Same H H' → Q (.int ((g p row a b : Nat) : Int)) H'
theorem scMPlus : FnScope ["self", "a", "b"] ["self", "a", "b"] (defScope sMPlus) := ⟨rfl, rfl, rfl, by decide +kernel, rfl, by decide +kernel, by decide +kernel⟩
theorem ok_plus {f : Addr} {fd : FuncData} (F : Fun K "plus" "Field.plus" sMPlus f fd) (Z : FieldK K C) (pHave : Mp P w K mg base CX0 3 C "must_have" ["self", "thing"] (spHave C)) (pJoined : Pm P w K mg base CX0 1 "joined" ["p", "a", "b", "sign"] spJoin) : FnOk P w K mg base CX0 4 f fd ["self", "a", "b"] (spBin C plV) := by
  refine F.okQ scMPlus (fun vs H Q E h => ?_) (fun cdv A outer s H vs Q E hr3 h => ?_)
  · obtain ⟨f, p, a, b, row, rfl, _⟩ := h
    rfl
  · obtain ⟨f, p, a, b, row, rfl, hF, O, ha, hb, q⟩ := h
    have hr1 := hr3.mono (show 1 ≤ 3 by decide)
    obtain ⟨dx, r, hf, hr'⟩ := id hF
    have hl6 := O.l6
    have hp2 := O.p2
    refine ⟨_, (qss_cons (qs_expr (qe_methP pHave Z.cl hr3 (qv 0) pass0 (qac (qv 1) qa_nil))) (qss_cons (qs_expr (qe_methP pHave Z.cl hr3 (qv 0) pass0 (qac (qv 2) qa_nil)))
      (qss_one (qs_ret (qe_callP pJoined hr1 rfl pass0 (qac (qe_fld (qv 0) rfl) (qac (qv 1) (qac (qv 2) (qac qe_int qa_nil))))))))), ?_⟩
    refine ⟨_, rfl, f, dx, _, rfl, hf, fld_no _ _ _ (by decide +kernel) (by decide +kernel) (by decide +kernel), _, rfl, f, p, a, row, rfl, hF, ha, ?_⟩
    refine ⟨_, rfl, f, dx, _, rfl, hf, fld_no _ _ _ (by decide +kernel) (by decide +kernel) (by decide +kernel), _, rfl, f, p, b, row, rfl, hF, hb, ?_⟩
    refine ⟨_, rfl, f, C, dx, _, _, rfl, hf, Z.cl, Z.a2, fld_prime .., _, rfl, _, rfl, p, row.length - 1, a, b, 1, rfl, hp2, O.p31, by omega, ha, hb, .inl rfl, q _ (Same.refl _)⟩
theorem scMTimes : FnScope ["self", "a", "b", "product"] ["self", "a", "b"] (defScope sMTimes) := ⟨rfl, rfl, rfl, by decide +kernel, rfl, by decide +kernel, by decide +kernel⟩
theorem ok_timesM {f : Addr} {fd : FuncData} (F : Fun K "times" "Field.times" sMTimes f fd) (Z : FieldK K C) (pHave : Mp P w K mg base CX0 3 C "must_have" ["self", "thing"] (spHave C)) (pDigitsOf : Pm P w K mg base CX0 1 "digits_of" ["p", "number"] spDigG) (pRowTimes : Pm P w K mg base CX0 2 "row_times" ["p", "one", "other"] spProd) (pRowRest : Pm P w K mg base CX0 2 "row_rest" ["p", "one", "by"] spRest) (pNumberOf : Pm P w K mg base CX0 1 "number_of" ["p", "digits"] spNum) : FnOk P w K mg base CX0 4 f fd ["self", "a", "b"] (spBin C tmV) := by
  refine F.okQ scMTimes (fun vs H Q E h => ?_) (fun cdv A outer s H vs Q E hr3 h => ?_)
  · obtain ⟨f, p, a, b, row, rfl, _⟩ := h
    rfl
  · obtain ⟨f, p, a, b, row, rfl, hF, O, ha, hb, q⟩ := h
    have hr1 := hr3.mono (show 1 ≤ 3 by decide)
    have hr2 := hr3.mono (show 2 ≤ 3 by decide)
    obtain ⟨dx, r, hf, hr'⟩ := id hF
    have hl6 := O.l6
    have hl2 := O.l2
    have hp2 := O.p2
    have hp31 := O.p31
    refine ⟨_, (qss_cons (qs_expr (qe_methP pHave Z.cl hr3 (qv 0) pass0 (qac (qv 1) qa_nil))) (qss_cons (qs_expr (qe_methP pHave Z.cl hr3 (qv 0) pass0 (qac (qv 2) qa_nil)))
      (qss_cons (qs_set (i := 3) scMTimes.nd rfl (Or.inl rfl) (qe_callP pRowTimes hr2 rfl pass0 (qac (qe_fld (qv 0) rfl) (qac (qe_callP pDigitsOf hr1 rfl pass0 (qac (qe_fld (qv 0) rfl) (qac (qv 1) qa_nil))) (qac (qe_callP pDigitsOf hr1 rfl pass0 (qac (qe_fld (qv 0) rfl) (qac (qv 2) qa_nil))) qa_nil)))))
      (qss_one (qs_ret (qe_callP pNumberOf hr1 rfl pass0 (qac (qe_fld (qv 0) rfl) (qac (qe_callP pRowRest hr2 rfl pass0 (qac (qe_fld (qv 0) rfl) (qac (qv 3) (qac (qe_fld (qv 0) rfl) qa_nil)))) qa_nil)))))))), ?_⟩
    refine ⟨_, rfl, f, dx, _, rfl, hf, fld_no _ _ _ (by decide +kernel) (by decide +kernel) (by decide +kernel), _, rfl, f, p, a, row, rfl, hF, ha, ?_⟩
    refine ⟨_, rfl, f, dx, _, rfl, hf, fld_no _ _ _ (by decide +kernel) (by decide +kernel) (by decide +kernel), _, rfl, f, p, b, row, rfl, hF, hb, ?_⟩
    refine ⟨_, rfl, f, C, dx, _, _, rfl, hf, Z.cl, Z.a2, fld_prime .., ?_⟩
    refine ⟨_, rfl, f, C, dx, _, _, rfl, hf, Z.cl, Z.a2, fld_prime .., _, rfl, p, a, row.length - 1, rfl, hp2, hp31, by omega, ha, fun t1 H1 ht1 s1 h1 => ?_⟩
    refine ⟨_, rfl, f, C, dx, _, _, rfl, s1 _ _ hf, Z.cl, Z.a2, fld_prime .., _, rfl, p, b, row.length - 1, rfl, hp2, hp31, by omega, hb, fun t2 H2 ht2 s2 h2 => ?_⟩
    have dl : ∀ n, (trimL (digN p (row.length - 1) n)).length ≤ 5 := fun n => Nat.le_trans (trim_le _) (by rw [digN_len]; omega)
    have dlt : ∀ n, ∀ x ∈ trimL (digN p (row.length - 1) n), x < 32 := fun n x hx => Nat.lt_trans (digN_lt (by omega) _ _ x (trim_mem hx)) (by omega)
    refine ⟨t1, t2, p, _, _, rfl, s2 _ _ h1, h2, by omega, hp31, Nat.le_trans (dl a) (by decide), Nat.le_trans (dl b) (by decide), dlt a, dlt b, fun t3 H3 ht3 s3 h3 => ?_⟩
    rw [conv_trim (by omega)] at h3
    have s13 := s1.trans (s2.trans s3)
    have hpl : ∀ x ∈ trimL (convL p (digN p (row.length - 1) a) (digN p (row.length - 1) b)), x < p := conv_lt (by omega) _ _
    refine ⟨_, rfl, f, C, dx, _, _, rfl, s13 _ _ hf, Z.cl, Z.a2, fld_prime .., ?_⟩
    refine ⟨_, rfl, f, C, dx, _, _, rfl, s13 _ _ hf, Z.cl, Z.a2, fld_prime .., _, rfl, _, rfl, f, C, dx, _, _, rfl, s13 _ _ hf, Z.cl, Z.a3, fld_row .., ?_⟩
    refine ⟨t3, r, p, _, row, rfl, h3, s13 _ _ hr', by omega, hp31, Nat.le_trans (conv_le ..) (by rw [digN_len, digN_len]; omega), by omega, by omega, fun x hx => by have := hpl x hx; omega, fun t4 H4 ht4 s4 h4 => ?_⟩
    obtain ⟨f1, f2⟩ := tm_facts O a b
    exact ⟨t4, p, _, rfl, h4, by omega, hp31, Nat.le_trans f1 (by omega), f2, q _ (s13.trans s4)⟩
def nF (p : Nat) (row : List Nat) : Nat := p ^ (row.length - 1)
theorem map_snoc {α : Type} (f : Nat → α) (i : Nat) : (List.range (i + 1)).map f = (List.range i).map f ++ [f i] := by rw [List.range_succ, List.map_append]; rfl
def PrL : List Nat := [2, 2, 3, 2, 3, 5, 7, 2, 11, 13, 17, 19, 23, 29, 31, 5]
theorem prL_all : ∀ p ∈ PrL, 2 ≤ p ∧ p ≤ 31 ∧ ∀ d, d < 32 → d ∣ p → d = 1 ∨ d = p := by decide +kernel
theorem prL_pr {p : Nat} (hp : p ∈ PrL) : EM.IsPr p := by
  obtain ⟨h1, h2, h3⟩ := prL_all p hp
  exact ⟨h1, fun d hd => h3 d (by have := Nat.le_of_dvd (by omega) hd; omega) hd⟩
theorem dv_one (p x : Nat) : Dv p (fac p 1 x) none := fun s y h1 h2 _ => by
  rw [fac_len] at h2
  omega
theorem dv_of {p n x : Nat} (h : ((List.range (n / 2)).all fun s => (List.range (p ^ (s + 1))).all fun y => !(trimL (restF p (fac p (s + 1) y) (fac p n x))).isEmpty) = true) : Dv p (fac p n x) none := fun s y h1 h3 h4 z => by
  rw [fac_len] at h3
  rw [List.all_eq_true] at h
  have h5 := h (s - 1) (List.mem_range.mpr (by omega))
  rw [List.all_eq_true] at h5
  rw [show s - 1 + 1 = s by omega] at h5
  have h6 := h5 y (List.mem_range.mpr h4)
  rw [z] at h6
  simp at h6
theorem irr22 : Dv 2 (fac 2 2 3) none := dv_of (by decide +kernel)
theorem irr23 : Dv 2 (fac 2 3 3) none := dv_of (by decide +kernel)
theorem irr24 : Dv 2 (fac 2 4 3) none := dv_of (by decide +kernel)
theorem irr25 : Dv 2 (fac 2 5 5) none := dv_of (by decide +kernel)
theorem irr32 : Dv 3 (fac 3 2 1) none := dv_of (by decide +kernel)
theorem irr33 : Dv 3 (fac 3 3 7) none := dv_of (by decide +kernel)
theorem irr52 : Dv 5 (fac 5 2 2) none := dv_of (by decide +kernel)
theorem irr_ex {p n : Nat} (hp : p ∈ PrL) (h1 : 1 ≤ n) (h5 : n ≤ 5) (hf : p ^ n ≤ 32) : ∃ s0, s0 < p ^ n ∧ Dv p (fac p n s0) none := by
  obtain ⟨hp2, hp31, _⟩ := prL_all p hp
  by_cases e : n = 1
  · subst e
    exact ⟨0, by rw [Nat.pow_one]; omega, dv_one p 0⟩
  have hp5 : p ≤ 5 := by
    rcases Nat.lt_or_ge 5 p with z | z
    · exfalso
      have : 6 ^ 2 ≤ p ^ n := Nat.le_trans (Nat.pow_le_pow_left z 2) (Nat.pow_le_pow_right (by omega) (by omega))
      omega
    · exact z
  have hp235 : p = 2 ∨ p = 3 ∨ p = 5 := by
    have : ∀ p ∈ PrL, p ≤ 5 → p = 2 ∨ p = 3 ∨ p = 5 := by decide
    exact this p hp hp5
  have hn : n = 2 ∨ n = 3 ∨ n = 4 ∨ n = 5 := by omega
  rcases hp235 with rfl | rfl | rfl
  · rcases hn with rfl | rfl | rfl | rfl
    · exact ⟨3, by decide, irr22⟩
    · exact ⟨3, by decide, irr23⟩
    · exact ⟨3, by decide, irr24⟩
    · exact ⟨5, by decide, irr25⟩
  · rcases hn with rfl | rfl | rfl | rfl
    · exact ⟨1, by decide, irr32⟩
    · exact ⟨7, by decide, irr33⟩
    · exact absurd hf (by decide)
    · exact absurd hf (by decide)
  · rcases hn with rfl | rfl | rfl | rfl
    · exact ⟨2, by decide, irr52⟩
    · exact absurd hf (by decide)
    · exact absurd hf (by decide)
    · exact absurd hf (by decide)
theorem fac_ok {p n x : Nat} (hp : p ∈ PrL) (h1 : 1 ≤ n) (h5 : n ≤ 5) (hf : p ^ n ≤ 32) (hd : Dv p (fac p n x) none) : FOk p (fac p n x) := by
  obtain ⟨hp2, hp31, _⟩ := prL_all p hp
  refine ⟨hp2, hp31, prL_pr hp, by rw [fac_len]; omega, by rw [fac_len]; omega, fun y hy => ?_, ?_, by rw [fac_len]; exact hf, hd⟩
  · unfold fac at hy
    rcases List.mem_append.mp hy with z | z
    · exact digN_lt (by omega) _ _ y z
    · rw [List.mem_singleton.mp z]
      omega
  · rw [fac_len, Nat.add_sub_cancel]
    unfold fac
    rw [List.getD_eq_getElem?_getD, List.getElem?_append_right (by rw [digN_len]; exact Nat.le_refl _), digN_len, Nat.sub_self]
    rfl
/-- how far it is to s0, going up and round by N -/
def far (N s0 s : Nat) : Nat := if s ≤ s0 then s0 - s else s0 + N - s
theorem far_step {N s0 s : Nat} (h0 : s0 < N) (hs : s < N) (hne : s ≠ s0) : far N s0 ((s + 1) % N) < far N s0 s := by
  unfold far
  by_cases e : s + 1 = N
  · rw [e, Nat.mod_self, if_pos (Nat.zero_le _)]
    by_cases c : s ≤ s0
    · rw [if_pos c]
      omega
    · rw [if_neg c]
      omega
  · rw [Nat.mod_eq_of_lt (by omega)]
    by_cases c : s ≤ s0
    · rw [if_pos c, if_pos (by omega)]
      omega
    · rw [if_neg c, if_neg (by omega)]
      omega
def spLField : Sp := fun vs H Q _ => ∃ (a : Addr) (xs : List Int) (most : Nat), vs = [.ref a, .int ((most : Nat) : Int)] ∧ H a = some (.lst (xs.map V.int)) ∧ 3 ≤ xs.length ∧ 2 ≤ most ∧ most ≤ 32 ∧ ∀ (t r : Addr) (p : Nat) (row : List Nat) (H' : Hp), Same H H' → H' t = some (.tup [.int ((p : Nat) : Int), .ref r]) → H' r = some (.tup (nats row)) → FOk p row → Q (.ref t) H'
theorem scLField : FnScope ["_law_xs", "_law_most", "_law_p", "_law_size", "_law_start"] ["_law_xs", "_law_most"] (defScope sLField) := ⟨rfl, rfl, rfl, by decide +kernel, rfl, by decide +kernel, by decide +kernel⟩
theorem pr_at {z : Int} : ∃ p : Nat, atI [V.int 2, .int 2, .int 3, .int 2, .int 3, .int 5, .int 7, .int 2, .int 11, .int 13, .int 17, .int 19, .int 23, .int 29, .int 31, .int 5] (z % 16) = some (.int ((p : Nat) : Int)) ∧ p ∈ PrL := by
  have h1 := Int.emod_nonneg z (show (16 : Int) ≠ 0 by decide)
  have h2 := Int.emod_lt_of_pos z (show (0 : Int) < 16 by decide)
  obtain ⟨j, hj⟩ : ∃ j : Nat, z % 16 = ((j : Nat) : Int) := ⟨(z % 16).toNat, by omega⟩
  rw [hj]
  have hj16 : j < PrL.length := by show j < 16; omega
  refine ⟨PrL[j], atI_nat ?_, List.getElem_mem _⟩
  have e : ([V.int 2, .int 2, .int 3, .int 2, .int 3, .int 5, .int 7, .int 2, .int 11, .int 13, .int 17, .int 19, .int 23, .int 29, .int 31, .int 5] : List V) = PrL.map fun p => V.int ((p : Nat) : Int) := rfl
  rw [e, List.getElem?_map, List.getElem?_eq_getElem hj16]
  rfl
theorem ok_lfield {f : Addr} {fd : FuncData} (F : Fun K "_law_field" "_law_field" sLField f fd) (pLPower : Pm P w K mg base CX0 1 "_law_power" ["_law_p", "_law_many"] spPow) (pLDigits : Pm P w K mg base CX0 1 "_law_digits" ["_law_x", "_law_p", "_law_many"] spLDig) (pLDivides : Pm P w K mg base CX0 3 "_law_divides" ["_law_p", "_law_row"] spDv) : FnOk P w K mg base CX0 4 f fd ["_law_xs", "_law_most"] spLField := by
  refine F.okQ scLField (fun vs H Q E h => ?_) (fun cdv A outer s H vs Q E hr3 h => ?_)
  · obtain ⟨a, xs, most, rfl, _⟩ := h
    rfl
  · obtain ⟨a, xs, most, rfl, ha, hx3, hm2, hm32, q⟩ := h
    have hr1 := hr3.mono (show 1 ≤ 3 by decide)
    refine ⟨_, (qss_cons (qs_set (i := 2) scLField.nd rfl (Or.inl rfl) (qe_ix ix_list (qe_lst (qac qe_int (qac qe_int (qac qe_int (qac qe_int (qac qe_int (qac qe_int (qac qe_int (qac qe_int (qac qe_int (qac qe_int (qac qe_int (qac qe_int (qac qe_int (qac qe_int (qac qe_int (qac qe_int qa_nil))))))))))))))))) (qe_op op_mod (qe_ix ix_list (qv 0) qe_int (fun _ _ => rfl)) qe_int) (fun _ _ => rfl)))
      (qss_cons (qs_if (qt_cmpR op_gt (qv 2) (qv 1) (nomark _)) (qss_one (qs_set (i := 2) scLField.nd rfl (Or.inl rfl) qe_int)) qss_nil)
      (qss_cons (qs_set (i := 3) scLField.nd rfl (Or.inl rfl) qe_int)
      (qss_cons (qs_while PassesOwn.never (QW.pt (qw_and (qt_cmpR op_lt (qv 3) (qe_op op_add qe_int (qe_op op_mod (qe_ix ix_list (qv 0) qe_int (fun _ _ => rfl)) qe_int)) (nomark _)) (qw_and1 (qt_cmpR op_le (qe_callP pLPower hr1 rfl pass0 (qac (qv 2) (qac (qe_op op_add (qv 3) qe_int) qa_nil))) (qv 1) (nomark _)))))
        (qss_one (qs_set (i := 3) scLField.nd rfl (Or.inl rfl) (qe_op op_add (qv 3) qe_int))))
      (qss_cons (qs_set (i := 4) scLField.nd rfl (Or.inl rfl) (qe_op op_mod (qe_ix ix_list (qv 0) qe_int (fun _ _ => rfl)) (qe_callP pLPower hr1 rfl pass0 (qac (qv 2) (qac (qv 3) qa_nil)))))
      (qss_cons (qs_while PassesOwn.never (qt_cmpR op_notN (qe_callP pLDivides hr3 rfl pass0 (qac (qv 2) (qac (qe_op op_catT (qe_callP pLDigits hr1 rfl pass0 (qac (qv 4) (qac (qv 2) (qac (qv 3) qa_nil)))) (qe_tup (qac qe_int qa_nil))) qa_nil))) qe_non (nomark _))
        (qss_one (qs_set (i := 4) scLField.nd rfl (Or.inl rfl) (qe_op op_mod (qe_op op_add (qv 4) qe_int) (qe_callP pLPower hr1 rfl pass0 (qac (qv 2) (qac (qv 3) qa_nil)))))))
      (qss_one (qs_ret (qe_tup (qac (qv 2) (qac (qe_op op_catT (qe_callP pLDigits hr1 rfl pass0 (qac (qv 4) (qac (qv 2) (qac (qv 3) qa_nil)))) (qe_tup (qac qe_int qa_nil))) qa_nil))))))))))), ?_⟩
    obtain ⟨x0, a0, _⟩ := at_ok (ns := xs) (i := 0) (by omega)
    obtain ⟨x1, a1, _⟩ := at_ok (ns := xs) (i := 1) (by omega)
    obtain ⟨x2, a2, _⟩ := at_ok (ns := xs) (i := 2) (by omega)
    refine ⟨by show 16 ≤ sizeLine; decide, fun l hl => ?_⟩
    have w1 := same_new (o := .lst [V.int 2, .int 2, .int 3, .int 2, .int 3, .int 5, .int 7, .int 2, .int 11, .int 13, .int 17, .int 19, .int 23, .int 29, .int 31, .int 5]) hl
    obtain ⟨p0, hp0, hpr0⟩ := pr_at (z := x0)
    refine ⟨_, rfl, a, _, 0, .int x0, rfl, rfl, SqL.of (w1 _ _ ha), a0, _, _, rfl, rfl, (by decide : (0 : Int) < 16), l, _, _, .int ((p0 : Nat) : Int), rfl, rfl, SqL.of upd_same, hp0, ?_⟩
    have ha1 := w1 _ _ ha
    generalize upd H l _ = H1 at w1 ha1 ⊢
    dsimp only
    refine seqVia (fun σ' H' => H' = H1 ∧ ∃ p : Nat, p ∈ PrL ∧ p ≤ most ∧ σ' = [some (.ref a), some (.int ((most : Nat) : Int)), some (.int ((p : Nat) : Int)), none, none]) ?_ (fun D' go => ?_)
    rotate_left
    · refine ⟨_, rfl, _, rfl, _, _, rfl, rfl, _, rfl, ?_⟩
      by_cases hc : most < p0
      · exact ifT (by omega) (go _ _ ⟨rfl, 2, by decide, by omega, rfl⟩)
      · exact ifF (by omega) (go _ _ ⟨rfl, p0, hpr0, by omega, rfl⟩)
    rintro σ H' ⟨rfl, p, hpr, hpm, rfl⟩
    obtain ⟨hp2, hp31, _⟩ := prL_all p hpr
    -- the size
    show tSeq (tWhile _ _) _ _ [some (.ref a), some (.int ((most : Nat) : Int)), some (.int ((p : Nat) : Int)), some (.int 1), none] H'
    refine seqVia (fun σ' H2 => H2 = H' ∧ ∃ n : Nat, 1 ≤ n ∧ n ≤ 5 ∧ p ^ n ≤ most ∧ σ' = [some (.ref a), some (.int ((most : Nat) : Int)), some (.int ((p : Nat) : Int)), some (.int ((n : Nat) : Int)), none]) ?_ (fun D' go => ?_)
    rotate_left
    · refine while_w (fun σ H2 => H2 = H' ∧ ∃ n : Nat, 1 ≤ n ∧ n ≤ 5 ∧ p ^ n ≤ most ∧ σ = [some (.ref a), some (.int ((most : Nat) : Int)), some (.int ((p : Nat) : Int)), some (.int ((n : Nat) : Int)), none])
        (fun σ _ => match σ with | [_, _, _, some (.int n), _] => (6 - n).toNat | _ => 0) ⟨rfl, 1, by decide, by decide, by rw [Nat.pow_one]; exact hpm, rfl⟩ ?_
      rintro mm σ H2 ⟨rfl, n, hn1, hn5, hpn, rfl⟩ hmm
      have e5 := Int.emod_lt_of_pos x1 (show (0 : Int) < 5 by decide)
      refine ⟨_, rfl, _, rfl, a, _, 1, .int x1, rfl, rfl, SqL.of ha1, a1, _, _, rfl, rfl, (by decide : (0 : Int) < 5), _, _, rfl, rfl, _, _, rfl, rfl, _, rfl, ?_⟩
      by_cases h1 : ((n : Nat) : Int) < 1 + x1 % 5
      · refine ifT h1 ⟨_, rfl, _, rfl, _, _, rfl, rfl, p, n + 1, rfl, hp31, by omega, _, rfl, _, _, rfl, rfl, _, rfl, ?_⟩
        by_cases h2 : p ^ (n + 1) ≤ most
        · refine ifT (by omega) (WTurn.of ⟨_, rfl, _, _, rfl, rfl, ⟨rfl, n + 1, by omega, by omega, h2, rfl⟩, ?_⟩)
          rw [hmm]
          show (6 - (((n : Nat) : Int) + 1)).toNat < (6 - ((n : Nat) : Int)).toNat
          omega
        · exact ifF (by omega) (go _ _ ⟨rfl, n, hn1, hn5, hpn, rfl⟩)
      · exact ifF h1 (go _ _ ⟨rfl, n, hn1, hn5, hpn, rfl⟩)
    rintro σ H2 ⟨rfl, n, hn1, hn5, hpn, rfl⟩
    have hpn32 : p ^ n ≤ 32 := by omega
    have hpn0 : 0 < p ^ n := Nat.pow_pos (by omega)
    obtain ⟨s0, hs0, hirr⟩ := irr_ex hpr hn1 hn5 hpn32
    obtain ⟨st, est, hst⟩ : ∃ st : Nat, x2 % ((p ^ n : Nat) : Int) = ((st : Nat) : Int) ∧ st < p ^ n := by
      have h1 := Int.emod_nonneg x2 (show ((p ^ n : Nat) : Int) ≠ 0 by omega)
      have h2 := Int.emod_lt_of_pos x2 (show (0 : Int) < ((p ^ n : Nat) : Int) by omega)
      exact ⟨(x2 % ((p ^ n : Nat) : Int)).toNat, by omega, by omega⟩
    refine ⟨_, rfl, a, _, 2, .int x2, rfl, rfl, SqL.of ha1, a2, _, rfl, _, rfl, p, n, rfl, hp31, by omega, _, _, rfl, rfl, by omega, ?_⟩
    dsimp only
    rw [est]
    -- the row
    have row : ∀ {H3 : Hp} {x : Nat} {Q' : VK}, Same H2 H3 → (∀ (c : Addr) (H4 : Hp), Same H3 H4 → H4 c = some (.tup (nats (fac p n x))) → Q' (.ref c) H4) → ∀ (t : Addr) (H4 : Hp), H3 t = none → Same H3 H4 → H4 t = some (.tup (nats (digN p n x))) → [V.int 1].length ≤ sizeLine ∧ ∀ e, H4 e = none → rCatT K (.ref t) (.ref e) (upd H4 e (.tup [.int 1])) Q' := fun {H3 x Q'} s3 k t H4 ht s4 h4 => by
      refine ⟨by show 1 ≤ sizeLine; decide, fun e he => ?_⟩
      have w5 := same_new (o := .tup [.int 1]) he
      refine ⟨t, e, _, _, rfl, rfl, SqT.of (w5 _ _ h4), SqT.of upd_same, ?_, ?_, (fun z => by cases z), fun _ c hc => ?_⟩
      · intro z
        have := congrArg List.length z
        rw [nats_len, digN_len] at this
        simp at this
        omega
      · rw [nats_len, digN_len]
        exact Nat.le_trans (show n + 1 ≤ 6 by omega) (by decide)
      have ef : nats (digN p n x) ++ [V.int 1] = nats (fac p n x) := by
        unfold fac
        rw [nats_snoc]
        rfl
      rw [ef]
      have w6 := same_new (o := .tup (nats (fac p n x))) hc
      exact k c _ (s4.trans (w5.trans w6)) upd_same
    refine seqVia (fun σ' H3 => Same H2 H3 ∧ ∃ x : Nat, Dv p (fac p n x) none ∧ σ' = [some (.ref a), some (.int ((most : Nat) : Int)), some (.int ((p : Nat) : Int)), some (.int ((n : Nat) : Int)), some (.int ((x : Nat) : Int))]) ?_ (fun D' go => ?_)
    rotate_left
    · refine while_w (fun σ H3 => Same H2 H3 ∧ ∃ x : Nat, x < p ^ n ∧ σ = [some (.ref a), some (.int ((most : Nat) : Int)), some (.int ((p : Nat) : Int)), some (.int ((n : Nat) : Int)), some (.int ((x : Nat) : Int))])
        (fun σ _ => match σ with | [_, _, _, _, some (.int x)] => far (p ^ n) s0 x.toNat | _ => 0) ⟨Same.refl _, st, hst, rfl⟩ ?_
      rintro mm σ H3 ⟨s3, x, hx, rfl⟩ hmm
      refine ⟨_, rfl, _, rfl, _, rfl, _, rfl, p, n, x, rfl, by omega, hp31, by omega, row s3 fun c H4 s4 h4 => ?_⟩
      refine ⟨c, p, fac p n x, rfl, h4, hp2, hp31, by rw [fac_len]; omega, fun y hy => ?_, fun v o H5 s5 ho hv => ?_⟩
      · unfold fac at hy
        rcases List.mem_append.mp hy with z | z
        · have := digN_lt (show 0 < p by omega) _ _ y z
          omega
        · rw [List.mem_singleton.mp z]
          decide
      cases o with
      | none =>
        have : v = .non := hv
        subst this
        exact ⟨rfl, _, rfl, iteF (go _ _ ⟨s3.trans (s4.trans s5), x, ho, rfl⟩)⟩
      | some b =>
        obtain ⟨u, rfl, hu⟩ := hv
        have hne : x ≠ s0 := fun z => by
          subst z
          exact ho.sides hirr
        refine ⟨rfl, _, rfl, iteT (WTurn.of ⟨_, rfl, _, _, rfl, rfl, _, rfl, _, rfl, p, n, rfl, hp31, by omega, _, _, rfl, rfl, by omega, ?_⟩)⟩
        have em : (((x : Nat) : Int) + 1) % ((p ^ n : Nat) : Int) = (((x + 1) % p ^ n : Nat) : Int) := by
          rw [Int.natCast_emod]
          rfl
        dsimp only
        rw [em]
        refine ⟨⟨s3.trans (s4.trans s5), (x + 1) % p ^ n, Nat.mod_lt _ hpn0, rfl⟩, ?_⟩
        rw [hmm]
        show far (p ^ n) s0 (((x + 1) % p ^ n : Nat) : Int).toNat < far (p ^ n) s0 ((x : Nat) : Int).toNat
        rw [Int.toNat_natCast, Int.toNat_natCast]
        exact far_step hs0 hx hne
    rintro σ H3 ⟨s3, x, hdv, rfl⟩
    refine ⟨_, rfl, _, rfl, _, rfl, _, rfl, p, n, x, rfl, by omega, hp31, by omega, row s3 fun c H4 s4 h4 => ⟨by show 2 ≤ sizeLine; decide, fun t ht => ?_⟩⟩
    have w5 := same_new (o := .tup [.int ((p : Nat) : Int), .ref c]) ht
    exact q t c p _ _ (w1.trans (s3.trans (s4.trans w5))) upd_same (w5 _ _ h4) (fac_ok hpr hn1 hn5 hpn32 hdv)
/-! each number but 0 of a field has a back: gone through, by tables -/
def invT : List (Nat × Nat × List (List Nat)) := [(2, 1, List.replicate 2 [0, 1]), (2, 2, [[], [], [], [0, 1, 3, 2]]), (2, 3, [[], [], [], [0, 1, 5, 6, 7, 2, 3, 4], [], [0, 1, 6, 4, 3, 7, 2, 5], [], []]), (2, 4, [[], [], [], [0, 1, 9, 14, 13, 11, 7, 6, 15, 2, 12, 5, 10, 4, 3, 8], [], [], [], [], [], [0, 1, 12, 8, 6, 15, 4, 14, 3, 13, 11, 10, 2, 9, 7, 5], [], [], [], [], [], [0, 1, 15, 10, 8, 6, 5, 9, 4, 7, 3, 14, 13, 12, 11, 2]]), (2, 5, [[], [], [], [], [], [0, 1, 18, 28, 9, 23, 14, 12, 22, 4, 25, 16, 7, 15, 6, 13, 11, 24, 2, 29, 30, 26, 8, 5, 17, 10, 21, 31, 3, 19, 20, 27], [], [], [], [0, 1, 20, 24, 10, 8, 12, 29, 5, 11, 4, 9, 6, 28, 26, 31, 22, 18, 17, 23, 2, 25, 16, 19, 3, 21, 14, 30, 13, 7, 27, 15], [], [], [], [], [], [0, 1, 23, 26, 28, 19, 13, 16, 14, 21, 30, 25, 17, 6, 8, 20, 7, 12, 29, 5, 15, 9, 27, 2, 31, 11, 3, 22, 4, 18, 10, 24], [], [], [], [], [], [], [], [0, 1, 27, 18, 22, 14, 9, 10, 11, 6, 7, 8, 31, 17, 5, 23, 30, 13, 3, 26, 24, 29, 4, 15, 20, 28, 19, 2, 25, 21, 16, 12], [], [], [], [0, 1, 29, 22, 19, 27, 11, 17, 20, 15, 16, 6, 24, 31, 21, 9, 10, 7, 26, 4, 8, 14, 3, 28, 12, 30, 18, 5, 23, 2, 25, 13], [], [0, 1, 30, 20, 15, 12, 10, 26, 25, 29, 6, 27, 5, 14, 13, 4, 18, 23, 16, 22, 3, 31, 19, 17, 28, 8, 7, 11, 24, 9, 2, 21], [], []]), (3, 1, List.replicate 3 [0, 1, 2]), (3, 2, [[], [0, 1, 2, 6, 5, 4, 3, 8, 7], [], [], [], [0, 1, 2, 4, 3, 7, 8, 5, 6], [], [], [0, 1, 2, 5, 8, 3, 7, 6, 4]]), (3, 3, [[], [], [], [], [], [], [], [0, 1, 2, 19, 21, 24, 11, 12, 15, 25, 23, 6, 7, 22, 18, 8, 20, 26, 14, 3, 16, 4, 13, 10, 5, 9, 17], [0, 1, 2, 11, 15, 12, 19, 24, 21, 22, 26, 3, 5, 20, 23, 4, 25, 18, 17, 6, 13, 8, 9, 14, 7, 16, 10], [], [], [0, 1, 2, 12, 9, 22, 24, 17, 18, 4, 15, 26, 3, 19, 16, 10, 14, 7, 8, 13, 21, 20, 5, 25, 6, 23, 11], [], [], [0, 1, 2, 13, 20, 15, 26, 21, 10, 17, 8, 14, 23, 3, 11, 5, 24, 9, 22, 25, 4, 7, 18, 12, 16, 19, 6], [], [0, 1, 2, 25, 11, 16, 14, 23, 19, 21, 13, 4, 17, 10, 6, 18, 5, 12, 15, 8, 26, 9, 24, 7, 22, 3, 20], [], [], [0, 1, 2, 21, 14, 18, 15, 9, 25, 7, 12, 23, 10, 17, 4, 6, 19, 13, 5, 16, 24, 3, 26, 11, 20, 8, 22], [], [], [0, 1, 2, 23, 24, 10, 16, 20, 12, 14, 5, 17, 8, 21, 9, 26, 6, 11, 25, 22, 7, 13, 19, 3, 4, 18, 15], [], [], [], [0, 1, 2, 17, 26, 19, 22, 11, 13, 24, 16, 7, 18, 8, 15, 14, 10, 3, 12, 5, 23, 25, 6, 20, 9, 21, 4]]), (5, 1, List.replicate 5 [0, 1, 3, 2, 4]), (5, 2, [[], [], [0, 1, 3, 2, 4, 10, 17, 22, 23, 18, 5, 14, 21, 24, 11, 20, 19, 6, 9, 16, 15, 12, 7, 8, 13], [0, 1, 3, 2, 4, 15, 9, 11, 14, 6, 20, 7, 17, 18, 8, 5, 22, 12, 13, 23, 10, 24, 16, 19, 21], [], [], [0, 1, 3, 2, 4, 24, 20, 17, 11, 16, 12, 8, 10, 23, 21, 18, 9, 7, 15, 22, 6, 14, 19, 13, 5], [0, 1, 3, 2, 4, 12, 10, 9, 19, 7, 6, 22, 5, 16, 17, 24, 13, 14, 20, 8, 18, 23, 11, 21, 15], [], [], [], [], [], [0, 1, 3, 2, 4, 16, 12, 15, 21, 22, 23, 13, 6, 11, 20, 7, 5, 19, 24, 17, 14, 8, 9, 10, 18], [0, 1, 3, 2, 4, 7, 18, 5, 13, 11, 16, 9, 24, 8, 15, 14, 10, 22, 6, 21, 23, 19, 17, 20, 12], [], [], [], [0, 1, 3, 2, 4, 19, 23, 24, 15, 13, 22, 20, 14, 9, 12, 8, 18, 21, 16, 5, 11, 17, 10, 6, 7], [0, 1, 3, 2, 4, 8, 14, 12, 5, 17, 19, 15, 7, 21, 6, 11, 24, 9, 23, 10, 22, 13, 20, 18, 16], [], [0, 1, 3, 2, 4, 21, 19, 14, 18, 20, 13, 24, 22, 10, 7, 17, 23, 15, 8, 6, 9, 5, 12, 16, 11], [0, 1, 3, 2, 4, 13, 8, 16, 6, 10, 9, 18, 19, 5, 23, 21, 7, 20, 11, 12, 17, 15, 24, 14, 22], [], []]), (7, 1, List.replicate 7 [0, 1, 4, 5, 2, 3, 6]), (11, 1, List.replicate 11 [0, 1, 6, 4, 3, 9, 2, 8, 7, 5, 10]), (13, 1, List.replicate 13 [0, 1, 7, 9, 10, 8, 11, 2, 5, 3, 4, 6, 12]), (17, 1, List.replicate 17 [0, 1, 9, 6, 13, 7, 3, 5, 15, 2, 12, 14, 10, 4, 11, 8, 16]), (19, 1, List.replicate 19 [0, 1, 10, 13, 5, 4, 16, 11, 12, 17, 2, 7, 8, 3, 15, 14, 6, 9, 18]), (23, 1, List.replicate 23 [0, 1, 12, 8, 6, 14, 4, 10, 3, 18, 7, 21, 2, 16, 5, 20, 13, 19, 9, 17, 15, 11, 22]), (29, 1, List.replicate 29 [0, 1, 15, 10, 22, 6, 5, 25, 11, 13, 3, 8, 17, 9, 27, 2, 20, 12, 21, 26, 16, 18, 4, 24, 23, 7, 19, 14, 28]), (31, 1, List.replicate 31 [0, 1, 16, 21, 8, 25, 26, 9, 4, 7, 28, 17, 13, 12, 20, 29, 2, 11, 19, 18, 14, 3, 24, 27, 22, 5, 6, 23, 10, 15, 30])]
def redB (p n x : Nat) : Bool := (List.range (n / 2)).any fun s => (List.range (p ^ (s + 1))).any fun y => (trimL (restF p (fac p (s + 1) y) (fac p n x))).isEmpty
def invB (p n : Nat) (T : List (List Nat)) : Bool := (List.range (p ^ n)).all fun x => redB p n x || (List.range (p ^ n)).all fun a => decide (a = 0) || (decide ((T.getD x []).getD a 0 < p ^ n) && decide (tmV p (fac p n x) a ((T.getD x []).getD a 0) = 1))
theorem inv_all : (invT.all fun t => invB t.1 t.2.1 t.2.2) = true := by decide +kernel
def prB (p : Nat) : Bool := decide (2 ≤ p) && (List.range 32).all fun d => !(decide (p % d = 0)) || decide (d = 1) || decide (d = p) || decide (d = 0)
theorem inv_keyB : ((List.range 32).all fun p => (List.range 6).all fun n => decide (n = 0) || !decide (p ^ n ≤ 32) || !prB p || invT.any fun t => decide (t.1 = p) && decide (t.2.1 = n)) = true := by decide +kernel
theorem inv_key {p n : Nat} (hp : p < 32) (hn : n < 6) (h1 : 1 ≤ n) (hf : p ^ n ≤ 32) (hb : prB p = true) : ∃ t ∈ invT, t.1 = p ∧ t.2.1 = n := by
  have h := (List.all_eq_true.mp ((List.all_eq_true.mp inv_keyB) p (List.mem_range.mpr hp))) n (List.mem_range.mpr hn)
  rw [decide_eq_false (show ¬ n = 0 by omega), decide_eq_true hf, hb] at h
  obtain ⟨t, ht, h⟩ := List.any_eq_true.mp h
  rw [Bool.and_eq_true] at h
  exact ⟨t, ht, of_decide_eq_true h.1, of_decide_eq_true h.2⟩
theorem digN_num {p : Nat} (hp : 0 < p) : ∀ {l : List Nat}, (∀ x ∈ l, x < p) → digN p l.length (numL p l) = l
  | [], _ => rfl
  | d :: l, h => by
    have hd := h d (List.mem_cons_self ..)
    have ih := digN_num hp (l := l) fun x hx => h x (List.mem_cons_of_mem _ hx)
    rw [List.length_cons, digN, numL, Nat.mul_comm, Nat.mul_add_mod, Nat.mod_eq_of_lt hd, Nat.mul_add_div hp, Nat.div_eq_of_lt hd, Nat.add_zero, ih]
theorem inv_tab {p n x a : Nat} (hp : prB p = true) (hp31 : p ≤ 31) (h1 : 1 ≤ n) (h5 : n ≤ 5) (hf : p ^ n ≤ 32) (hx : x < p ^ n) (hr : redB p n x = false) (h0 : a ≠ 0) (ha : a < p ^ n) : ∃ b, b < p ^ n ∧ tmV p (fac p n x) a b = 1 := by
  obtain ⟨⟨p', n', T⟩, ht, e1, e2⟩ := inv_key (by omega) (by omega) h1 hf hp
  simp only at e1 e2
  subst e1 e2
  have h := (List.all_eq_true.mp inv_all) _ ht
  have h2 := (List.all_eq_true.mp h) x (List.mem_range.mpr hx)
  rw [hr, Bool.false_or] at h2
  have h3 := (List.all_eq_true.mp h2) a (List.mem_range.mpr ha)
  rw [decide_eq_false h0, Bool.false_or, Bool.and_eq_true] at h3
  exact ⟨_, of_decide_eq_true h3.1, of_decide_eq_true h3.2⟩
theorem sumP_dig0 (p c : Nat) : ∀ d, sumP p (fun i => c / p ^ i % p) d = c % p ^ d
  | 0 => by rw [sumP, Nat.pow_zero, Nat.mod_one]
  | d + 1 => by rw [sumP, sumP_dig0 p c d, Nat.mod_pow_succ, Nat.mul_comm (p ^ d)]
theorem sumP_at {p : Nat} {c : Nat → Nat} {d i : Nat} (hp : 0 < p) (h : ∀ i, c i < p) (hi : i < d) : sumP p c d / p ^ i % p = c i := by
  have e : digN p d (sumP p c d) = (List.range d).map c := by
    have := digN_num hp (l := (List.range d).map c) fun x hx => by
      obtain ⟨j, _, rfl⟩ := List.mem_map.mp hx
      exact h j
    rw [List.length_map, List.length_range, numL_map] at this
    exact this
  have h1 := digN_get p d (sumP p c d) i
  rw [e, if_pos hi] at h1
  rw [← h1, List.getD_eq_getElem?_getD, List.getElem?_map, List.getElem?_range hi]
  rfl
theorem IsPr_b {p : Nat} (h : EM.IsPr p) (h31 : p ≤ 31) : prB p = true := by
  unfold prB
  rw [Bool.and_eq_true]
  refine ⟨decide_eq_true h.1, List.all_eq_true.mpr fun d _ => ?_⟩
  by_cases hm : p % d = 0
  · rcases h.2 d (Nat.dvd_of_mod_eq_zero hm) with e | e <;> simp [e]
  · simp [hm]
theorem row_fac {p : Nat} {row : List Nat} (O : FOk p row) : ∃ x, x < p ^ (row.length - 1) ∧ row = fac p (row.length - 1) x := by
  have hp2 := O.p2
  have hl2 := O.l2
  have hne : row ≠ [] := fun z => by
    rw [z] at hl2
    exact absurd hl2 (by decide)
  have hd : ∀ y ∈ row.dropLast, y < p := fun y hy => O.lt y ((List.dropLast_sublist row).subset hy)
  have e1 : digN p (row.length - 1) (numL p row.dropLast) = row.dropLast := by
    have := digN_num (show 0 < p by omega) hd
    rw [List.length_dropLast] at this
    exact this
  refine ⟨numL p row.dropLast, ?_, ?_⟩
  · have := numL_lt (show 1 ≤ p by omega) hd
    rw [List.length_dropLast] at this
    exact this
  · unfold fac
    rw [e1]
    have ht := O.top
    rw [List.getD_eq_getElem?_getD, List.getElem?_eq_getElem (show row.length - 1 < row.length by omega)] at ht
    have e2 : row.getLast hne = 1 := by
      rw [List.getLast_eq_getElem]
      exact ht
    rw [← e2]
    exact (List.dropLast_concat_getLast hne).symm
theorem inv_ex {p : Nat} {row : List Nat} (O : FOk p row) {a : Nat} (h0 : a ≠ 0) (ha : a < nF p row) : ∃ b, b < nF p row ∧ tmV p row a b = 1 := by
  obtain ⟨x, hx, e⟩ := row_fac O
  have hl2 := O.l2
  have hl6 := O.l6
  have hr : redB p (row.length - 1) x = false := by
    refine Bool.eq_false_iff.mpr fun z => ?_
    unfold redB at z
    obtain ⟨s, hs, z⟩ := List.any_eq_true.mp z
    obtain ⟨y, hy, z⟩ := List.any_eq_true.mp z
    rw [← e] at z
    exact O.no (s + 1) y (by omega) (by have := List.mem_range.mp hs; omega) (List.mem_range.mp hy) (List.isEmpty_iff.mp z)
  have h := inv_tab (IsPr_b O.pr O.p31) O.p31 (show 1 ≤ row.length - 1 by omega) (by omega) O.few hx hr h0 ha
  rw [← e] at h
  exact h
def mnV (p : Nat) (row : List Nat) (a b : Nat) : Nat := joinV p (-1) (row.length - 1) a b
theorem join_dig {p : Nat} {sg : Int} {d a b i : Nat} (hp : 1 ≤ p) (hi : i < d) : joinV p sg d a b / p ^ i % p = cj p sg a b i := sumP_at hp (fun i => (cj_int hp sg a b i).2) hi
theorem join_undo {p : Nat} {sg : Int} {d a b : Nat} (hp : 1 ≤ p) (ha : a < p ^ d) : joinV p (-sg) d (joinV p sg d a b) b = a := by
  have h : ∀ i, i < d → cj p (-sg) (joinV p sg d a b) b i = a / p ^ i % p := fun i hi => by
    have h1 := (cj_int hp (-sg) (joinV p sg d a b) b i).1
    have h2 := join_dig (sg := sg) (a := a) (b := b) hp hi
    have h3 := (cj_int hp sg a b i).1
    have e : ((cj p (-sg) (joinV p sg d a b) b i : Nat) : Int) = ((a / p ^ i % p : Nat) : Int) := by
      rw [← h1, ← Int.emod_add_emod, ← Int.natCast_emod, h2, ← h3, Int.emod_add_emod, Int.natCast_emod]
      congr 1
      rw [Int.neg_mul]
      omega
    exact Int.ofNat.inj e
  rw [show joinV p (-sg) d (joinV p sg d a b) b = sumP p (cj p (-sg) (joinV p sg d a b) b) d from rfl, sumP_congr h, sumP_dig0, Nat.mod_eq_of_lt ha]
theorem mn_pl {p : Nat} {row : List Nat} (O : FOk p row) {a b : Nat} (ha : a < nF p row) : mnV p row (plV p row a b) b = a := join_undo (sg := 1) (Nat.le_trans (by decide) O.p2) ha
/-- the numbers below n of which f is true -/
def fltL (f : Nat → Bool) (n : Nat) : List Nat := (List.range n).filter f
theorem flt_snoc (f : Nat → Bool) (i : Nat) : fltL f (i + 1) = fltL f i ++ if f i = true then [i] else [] := by
  unfold fltL
  rw [List.range_succ, List.filter_append]
  by_cases h : f i = true <;> simp [h]
theorem flt_le (f : Nat → Bool) (n : Nat) : (fltL f n).length ≤ n := Nat.le_trans (List.length_filter_le ..) (by rw [List.length_range]; exact Nat.le_refl _)
theorem flt_first {f : Nat → Bool} {n m : Nat} (hm : m < n) (hf : f m = true) : 0 < (fltL f n).length ∧ f ((fltL f n).getD 0 0) = true ∧ (fltL f n).getD 0 0 < n := by
  have hmem : m ∈ fltL f n := List.mem_filter.mpr ⟨List.mem_range.mpr hm, hf⟩
  cases h : fltL f n with
  | nil => rw [h] at hmem; cases hmem
  | cons y r =>
    have hy : y ∈ fltL f n := by rw [h]; exact List.mem_cons_self ..
    obtain ⟨h1, h2⟩ := List.mem_filter.mp hy
    exact ⟨Nat.succ_pos _, h2, List.mem_range.mp h1⟩
def bkF (p : Nat) (row : List Nat) (a : Nat) : Nat → Bool := fun x => decide (tmV p row a x = 1)
def bkV (p : Nat) (row : List Nat) (a : Nat) : Nat := (fltL (bkF p row a) (nF p row)).getD 0 0
theorem bk_first {p : Nat} {row : List Nat} (O : FOk p row) {a : Nat} (h0 : a ≠ 0) (ha : a < nF p row) : 0 < (fltL (bkF p row a) (nF p row)).length := by
  obtain ⟨b, hb, e⟩ := inv_ex O h0 ha
  exact (flt_first hb (decide_eq_true e)).1
/-! the numbers of a field by their digits: sums, products, the rules of a ring -/
/-- a number's digit -/
def dg (p a k : Nat) : Int := ((a / p ^ k % p : Nat) : Int)
theorem sumTo_mulR (c : Int) (f : Nat → Int) (n : Nat) : sumTo n (fun i => f i * c) = sumTo n f * c := by
  rw [Int.mul_comm, ← sumTo_mul]
  exact sumTo_congr fun i _ => Int.mul_comm _ _
theorem Cg.mulL {p : Nat} {x y : Int} (h : Cg p x y) (z : Int) : Cg p (z * x) (z * y) := by
  rw [Int.mul_comm z x, Int.mul_comm z y]
  exact h.mul z
theorem dg_ext {p d a b : Nat} (hp : 0 < p) (ha : a < p ^ d) (hb : b < p ^ d) (h : ∀ k, k < d → Cg p (dg p a k) (dg p b k)) : a = b := by
  have e : ∀ k, k < d → a / p ^ k % p = b / p ^ k % p := fun k hk => (h k hk).eq (Nat.mod_lt _ hp) (Nat.mod_lt _ hp)
  have h1 := sumP_dig0 p a d
  have h2 := sumP_dig0 p b d
  rw [Nat.mod_eq_of_lt ha] at h1
  rw [Nat.mod_eq_of_lt hb] at h2
  rw [← h1, ← h2]
  exact sumP_congr e
theorem dg_pl {p : Nat} {row : List Nat} (hp : 1 ≤ p) (a b : Nat) {k : Nat} (hk : k < row.length - 1) : Cg p (dg p (plV p row a b) k) (dg p a k + dg p b k) := by
  have h1 := join_dig (sg := 1) (a := a) (b := b) hp hk
  have h2 := (cj_int hp 1 a b k).1
  unfold dg plV
  rw [h1, ← h2, Int.one_mul]
  refine (Cg.mod _).trans ?_
  refine Cg.add ?_ ?_
  · rw [Int.natCast_emod]
    exact (Cg.mod _).symm
  · rw [Int.natCast_emod]
    exact (Cg.mod _).symm
theorem dig_getD {p d a j : Nat} : (((digN p d a).getD j 0 : Nat) : Int) = if j < d then dg p a j else 0 := by
  rw [digN_get]
  unfold dg
  by_cases h : j < d
  · rw [if_pos h, if_pos h]
  · rw [if_neg h, if_neg h]
    rfl
theorem numL_dg {p : Nat} (hp : 0 < p) {l : List Nat} (hl : ∀ x ∈ l, x < p) (k : Nat) : dg p (numL p l) k = ((l.getD k 0 : Nat) : Int) := by
  unfold dg
  congr 1
  have h := digN_get p l.length (numL p l) k
  rw [digN_num hp hl] at h
  by_cases hk : k < l.length
  · rw [if_pos hk] at h
    exact h.symm
  · rw [getD_out (by omega)]
    have h2 : numL p l / p ^ k = 0 := Nat.div_eq_of_lt (Nat.lt_of_lt_of_le (numL_lt hp hl) (Nat.pow_le_pow_right hp (by omega)))
    rw [h2, Nat.zero_mod]
/-- the k-th digit of a product -/
def mulD (p : Nat) (row : List Nat) (k a b : Nat) : Int := sumTo (row.length - 1) fun j => sumTo (row.length - 1) fun m => dg p a j * dg p b m * Xv row (row.length - 1) k (j + m)
theorem ev_conv {p : Nat} {b : List Nat} {d k : Nat} (A B : List Nat) (hA : A.length = d) (hB : B.length = d) (hd : d ≤ 20) : Cg p (Ev b d k (convL p A B)) (sumTo d fun j => sumTo d fun m => ((A.getD j 0 : Nat) : Int) * ((B.getD m 0 : Nat) : Int) * Xv b d k (j + m)) := by
  unfold Ev
  refine (Cg.sum fun i _ => (conv_cg A B i).mul _).trans (Cg.of_eq ?_)
  rw [hA]
  rw [show (sumTo 60 fun i => (sumTo d fun j => ((A.getD j 0 : Nat) : Int) * bsI B j i) * Xv b d k i) = sumTo 60 fun i => sumTo d fun j => ((A.getD j 0 : Nat) : Int) * bsI B j i * Xv b d k i from sumTo_congr fun i _ => (sumTo_mulR _ _ _).symm]
  rw [sumTo_swap]
  refine sumTo_congr fun j hj => ?_
  have e1 : (sumTo 60 fun i => ((A.getD j 0 : Nat) : Int) * bsI B j i * Xv b d k i) = sumTo (j + (60 - j)) fun i => if j ≤ i then ((A.getD j 0 : Nat) : Int) * ((B.getD (i - j) 0 : Nat) : Int) * Xv b d k i else 0 := by
    rw [show j + (60 - j) = 60 by omega]
    refine sumTo_congr fun i _ => ?_
    unfold bsI
    by_cases h : j ≤ i
    · rw [if_pos h, if_pos h]
    · rw [if_neg h, if_neg h, Int.mul_zero, Int.zero_mul]
  have e2 : ∀ n, (sumTo (j + n) fun i => if j ≤ i then ((A.getD j 0 : Nat) : Int) * ((B.getD (i - j) 0 : Nat) : Int) * Xv b d k i else 0) = sumTo n fun m => ((A.getD j 0 : Nat) : Int) * ((B.getD m 0 : Nat) : Int) * Xv b d k (j + m) := fun n => by
    rw [sumTo_shift j (fun i => ((A.getD j 0 : Nat) : Int) * ((B.getD (i - j) 0 : Nat) : Int) * Xv b d k i)]
    refine sumTo_congr fun m _ => ?_
    rw [show j + m - j = m by omega]
  rw [e1, e2, show 60 - j = d + (60 - j - d) by omega]
  refine sumTo_tail (fun m hm => ?_) _
  rw [getD_out (l := B) (by omega)]
  simp
theorem dg_tm {p : Nat} {row : List Nat} (O : FOk p row) (a b : Nat) {k : Nat} (hk : k < row.length - 1) : Cg p (dg p (tmV p row a b) k) (mulD p row k a b) := by
  have hp2 := O.p2
  have hl2 := O.l2
  have hl6 := O.l6
  have hb : row.length = row.length - 1 + 1 := by omega
  obtain ⟨t1, t2⟩ := tm_facts O a b
  unfold tmV
  rw [numL_dg (by omega) t2]
  unfold tmL
  rw [trim_at]
  have hcl := conv_le p (digN p (row.length - 1) a) (digN p (row.length - 1) b)
  rw [digN_len, digN_len] at hcl
  obtain ⟨f1, f2, f3⟩ := restF_facts (p := p) (b := row) (l := trimL (convL p (digN p (row.length - 1) a) (digN p (row.length - 1) b))) (d := row.length - 1) (by omega) (by omega) hb O.top (by omega) (conv_lt (by omega) _ _)
  have h1 := f3 k
  rw [ev_low (by omega) (by omega) f1 hk] at h1
  refine h1.trans ?_
  have e : Ev row (row.length - 1) k (trimL (convL p (digN p (row.length - 1) a) (digN p (row.length - 1) b))) = Ev row (row.length - 1) k (convL p (digN p (row.length - 1) a) (digN p (row.length - 1) b)) := sumTo_congr fun i _ => by rw [trim_at]
  rw [e]
  refine (ev_conv _ _ (digN_len ..) (digN_len ..) (by omega)).trans (Cg.of_eq ?_)
  unfold mulD
  refine sumTo_congr fun j hj => sumTo_congr fun m hm => ?_
  rw [dig_getD, dig_getD, if_pos hj, if_pos hm]
theorem tm_ext {p : Nat} {row : List Nat} (O : FOk p row) {a b c : Nat} (hc : c < nF p row) (h : ∀ k, k < row.length - 1 → Cg p (mulD p row k a b) (dg p c k)) : tmV p row a b = c :=
  dg_ext (Nat.lt_of_lt_of_le (by decide) O.p2) (tm_lt O a b) hc fun k hk => (dg_tm O a b hk).trans (h k hk)
theorem tm_comm {p : Nat} {row : List Nat} (O : FOk p row) (a b : Nat) : tmV p row a b = tmV p row b a := by
  refine tm_ext O (tm_lt O b a) fun k hk => Cg.trans (Cg.of_eq ?_) (dg_tm O b a hk).symm
  unfold mulD
  rw [sumTo_swap]
  refine sumTo_congr fun j _ => sumTo_congr fun m _ => ?_
  rw [Nat.add_comm m j, Int.mul_comm (dg p a m)]
theorem tm_add {p : Nat} {row : List Nat} (O : FOk p row) (a b c : Nat) : tmV p row a (plV p row b c) = plV p row (tmV p row a b) (tmV p row a c) := by
  have hp1 : 1 ≤ p := Nat.le_trans (by decide) O.p2
  refine tm_ext O (pl_lt O _ _) fun k hk => ?_
  refine Cg.trans ?_ (dg_pl hp1 _ _ hk).symm
  refine Cg.trans ?_ ((dg_tm O a b hk).add (dg_tm O a c hk)).symm
  unfold mulD
  rw [← sumTo_add]
  refine Cg.sum fun j _ => ?_
  rw [← sumTo_add]
  refine Cg.sum fun m hm => ?_
  rw [show dg p a j * dg p b m * Xv row (row.length - 1) k (j + m) + dg p a j * dg p c m * Xv row (row.length - 1) k (j + m) = dg p a j * (dg p b m + dg p c m) * Xv row (row.length - 1) k (j + m) by rw [Int.mul_add, Int.add_mul]]
  exact ((dg_pl hp1 b c hm).mulL _).mul _
theorem pl_comm {p : Nat} {row : List Nat} (O : FOk p row) (a b : Nat) : plV p row a b = plV p row b a := by
  have hp1 : 1 ≤ p := Nat.le_trans (by decide) O.p2
  refine dg_ext hp1 (pl_lt O _ _) (pl_lt O _ _) fun k hk => ?_
  refine (dg_pl hp1 a b hk).trans ?_
  rw [Int.add_comm]
  exact (dg_pl hp1 b a hk).symm
theorem pl_assoc {p : Nat} {row : List Nat} (O : FOk p row) (a b c : Nat) : plV p row (plV p row a b) c = plV p row a (plV p row b c) := by
  have hp1 : 1 ≤ p := Nat.le_trans (by decide) O.p2
  refine dg_ext hp1 (pl_lt O _ _) (pl_lt O _ _) fun k hk => ?_
  refine (dg_pl hp1 _ c hk).trans (((dg_pl hp1 a b hk).add (Cg.refl _)).trans ?_)
  rw [Int.add_assoc]
  exact ((dg_pl hp1 a _ hk).trans ((Cg.refl _).add (dg_pl hp1 b c hk))).symm
/-- a power of the unknown, put into powers -/
theorem Xv_mul {b : List Nat} {d k m : Nat} (hd : 1 ≤ d) : ∀ N n, n < N → sumTo d (fun j => Xv b d j n * Xv b d k (j + m)) = Xv b d k (n + m)
  | 0, n, h => by omega
  | N + 1, n, h => by
    by_cases hn : n < d
    · have e : sumTo d (fun j => Xv b d j n * Xv b d k (j + m)) = sumTo d fun j => Xv b d k (j + m) * if j = n then 1 else 0 := sumTo_congr fun j _ => by
        rw [Xv_low hd hn, Int.mul_comm]
        by_cases z : n = j
        · rw [if_pos z, if_pos z.symm]
        · rw [if_neg z, if_neg (Ne.symm z)]
      rw [e, sumTo_pick (fun j => Xv b d k (j + m)), if_pos hn]
    · obtain ⟨n', rfl⟩ : ∃ n', n = n' + d := ⟨n - d, by omega⟩
      have e : sumTo d (fun j => Xv b d j (n' + d) * Xv b d k (j + m)) = sumTo d fun j => sumTo d fun t => (-((b.getD t 0 : Nat) : Int)) * (Xv b d j (n' + t) * Xv b d k (j + m)) := sumTo_congr fun j _ => by
        rw [Xv_rec hd, Int.neg_mul, ← sumTo_mulR, ← Int.neg_one_mul, ← sumTo_mul]
        refine sumTo_congr fun t _ => ?_
        rw [← Int.mul_assoc, ← Int.mul_assoc, ← Int.mul_assoc, Int.neg_one_mul]
      rw [e, sumTo_swap]
      have e2 : sumTo d (fun t => sumTo d fun j => (-((b.getD t 0 : Nat) : Int)) * (Xv b d j (n' + t) * Xv b d k (j + m))) = sumTo d fun t => (-((b.getD t 0 : Nat) : Int)) * Xv b d k (n' + m + t) := sumTo_congr fun t ht => by
        rw [sumTo_mul, Xv_mul hd N (n' + t) (by omega), show n' + t + m = n' + m + t by omega]
      rw [e2, show n' + d + m = n' + m + d by omega, Xv_rec hd, ← Int.neg_one_mul, ← sumTo_mul]
      refine sumTo_congr fun t _ => ?_
      rw [← Int.mul_assoc, Int.neg_one_mul]
theorem tm_assoc {p : Nat} {row : List Nat} (O : FOk p row) (a b c : Nat) : tmV p row (tmV p row a b) c = tmV p row a (tmV p row b c) := by
  have hl2 := O.l2
  -- both are a sum over three digits
  have L : ∀ (a b c : Nat) {k : Nat}, k < row.length - 1 → Cg p (mulD p row k (tmV p row a b) c) (sumTo (row.length - 1) fun m => sumTo (row.length - 1) fun u => sumTo (row.length - 1) fun v => dg p a u * dg p b v * dg p c m * Xv row (row.length - 1) k (u + v + m)) := fun a b c k hk => by
    unfold mulD
    rw [sumTo_swap]
    refine Cg.sum fun m hm => ?_
    refine (Cg.sum fun j hj => ((dg_tm O a b hj).mul (dg p c m)).mul _).trans (Cg.of_eq ?_)
    unfold mulD
    have e1 : (sumTo (row.length - 1) fun i => (sumTo (row.length - 1) fun j => sumTo (row.length - 1) fun m => dg p a j * dg p b m * Xv row (row.length - 1) i (j + m)) * dg p c m * Xv row (row.length - 1) k (i + m)) = sumTo (row.length - 1) fun i => sumTo (row.length - 1) fun u => sumTo (row.length - 1) fun v => dg p a u * dg p b v * dg p c m * (Xv row (row.length - 1) i (u + v) * Xv row (row.length - 1) k (i + m)) := sumTo_congr fun i _ => by
      rw [← sumTo_mulR, ← sumTo_mulR]
      refine sumTo_congr fun u _ => ?_
      rw [← sumTo_mulR, ← sumTo_mulR]
      refine sumTo_congr fun v _ => ?_
      rw [Int.mul_assoc (dg p a u * dg p b v) (Xv row (row.length - 1) i (u + v)), Int.mul_comm (Xv row (row.length - 1) i (u + v)) (dg p c m), ← Int.mul_assoc, Int.mul_assoc]
    rw [e1, sumTo_swap]
    refine sumTo_congr fun u _ => ?_
    rw [sumTo_swap]
    refine sumTo_congr fun v _ => ?_
    rw [sumTo_mul, Xv_mul (by omega) (u + v + 1) (u + v) (by omega)]
  rw [tm_comm O a (tmV p row b c)]
  refine tm_ext O (tm_lt O _ _) fun k hk => (L a b c hk).trans (Cg.trans (Cg.symm ?_) (dg_tm O _ _ hk).symm)
  refine (L b c a hk).trans (Cg.of_eq ?_)
  -- m u v of b c a: the same sum
  have e1 : (sumTo (row.length - 1) fun m => sumTo (row.length - 1) fun u => sumTo (row.length - 1) fun v => dg p b u * dg p c v * dg p a m * Xv row (row.length - 1) k (u + v + m)) = sumTo (row.length - 1) fun m => sumTo (row.length - 1) fun v => sumTo (row.length - 1) fun u => dg p b u * dg p c v * dg p a m * Xv row (row.length - 1) k (u + v + m) := sumTo_congr fun m _ => sumTo_swap ..
  rw [e1, sumTo_swap]
  refine sumTo_congr fun v _ => sumTo_congr fun m _ => sumTo_congr fun u _ => ?_
  rw [show u + v + m = m + u + v by omega]
  congr 1
  rw [Int.mul_comm (dg p b u * dg p c v) (dg p a m), ← Int.mul_assoc]
theorem dg_zero (p k : Nat) : dg p 0 k = 0 := by
  unfold dg
  rw [Nat.zero_div, Nat.zero_mod]
  rfl
theorem dg_one {p : Nat} (hp : 2 ≤ p) (k : Nat) : dg p 1 k = if k = 0 then 1 else 0 := by
  unfold dg
  by_cases h : k = 0
  · subst h
    rw [if_pos rfl, Nat.pow_zero, Nat.div_one, Nat.mod_eq_of_lt (by omega)]
    rfl
  · rw [if_neg h, Nat.div_eq_of_lt (Nat.lt_of_lt_of_le (show 1 < p by omega) (by have := Nat.pow_le_pow_right (show 0 < p by omega) (show 1 ≤ k by omega); rwa [Nat.pow_one] at this)), Nat.zero_mod]
    rfl
theorem tm_one {p : Nat} {row : List Nat} (O : FOk p row) {a : Nat} (ha : a < nF p row) : tmV p row a 1 = a := by
  have hl2 := O.l2
  refine tm_ext O ha fun k hk => Cg.of_eq ?_
  unfold mulD
  have e : (sumTo (row.length - 1) fun j => sumTo (row.length - 1) fun m => dg p a j * dg p 1 m * Xv row (row.length - 1) k (j + m)) = sumTo (row.length - 1) fun j => dg p a j * if j = k then 1 else 0 := sumTo_congr fun j hj => by
    have e2 : (sumTo (row.length - 1) fun m => dg p a j * dg p 1 m * Xv row (row.length - 1) k (j + m)) = sumTo (row.length - 1) fun m => dg p a j * Xv row (row.length - 1) k (j + m) * if m = 0 then 1 else 0 := sumTo_congr fun m _ => by
      rw [dg_one O.p2, Int.mul_assoc, Int.mul_assoc, Int.mul_comm (Xv row (row.length - 1) k (j + m))]
    rw [e2, sumTo_pick (fun m => dg p a j * Xv row (row.length - 1) k (j + m)), if_pos (by omega), Nat.add_zero, Xv_low (by omega) hj]
  rw [e, sumTo_pick (fun j => dg p a j), if_pos hk]
theorem tm_zero {p : Nat} {row : List Nat} (O : FOk p row) (a : Nat) : tmV p row a 0 = 0 := by
  refine tm_ext O (Nat.pow_pos (Nat.lt_of_lt_of_le (by decide) O.p2)) fun k hk => Cg.of_eq ?_
  rw [dg_zero]
  refine sumTo_zero fun j _ => sumTo_zero fun m _ => ?_
  rw [dg_zero, Int.mul_zero, Int.zero_mul]
/-! powers, values, and how one field is led into another of its size -/
theorem pl_zero {p : Nat} {row : List Nat} (O : FOk p row) {c : Nat} (hc : c < nF p row) : plV p row 0 c = c := by
  have hp1 : 1 ≤ p := Nat.le_trans (by decide) O.p2
  refine dg_ext hp1 (pl_lt O _ _) hc fun k hk => (dg_pl hp1 0 c hk).trans (Cg.of_eq ?_)
  rw [dg_zero, Int.zero_add]
theorem nF_two {p : Nat} {row : List Nat} (O : FOk p row) : 2 ≤ nF p row := by
  have h2 := O.p2
  have h3 := O.l2
  have := Nat.pow_le_pow_right (show 0 < p by omega) (show 1 ≤ row.length - 1 by omega)
  rw [Nat.pow_one] at this
  unfold nF
  omega
def powV (p : Nat) (row : List Nat) (a : Nat) : Nat → Nat
  | 0 => 1
  | k + 1 => tmV p row (powV p row a k) a
theorem pow_lt {p : Nat} {row : List Nat} (O : FOk p row) (a : Nat) : ∀ k, powV p row a k < nF p row
  | 0 => nF_two O
  | k + 1 => tm_lt O _ _
theorem pow_add {p : Nat} {row : List Nat} (O : FOk p row) (a u : Nat) : ∀ v, tmV p row (powV p row a u) (powV p row a v) = powV p row a (u + v)
  | 0 => tm_one O (pow_lt O a u)
  | v + 1 => by
    rw [powV, ← tm_assoc O, pow_add O a u v]
    rfl
theorem pow_mul {p : Nat} {row : List Nat} (O : FOk p row) (a u : Nat) : ∀ v, powV p row (powV p row a u) v = powV p row a (u * v)
  | 0 => rfl
  | v + 1 => by
    rw [powV, pow_mul O a u v, pow_add O, Nat.mul_succ]
theorem pow_one {p : Nat} {row : List Nat} (O : FOk p row) : ∀ k, powV p row 1 k = 1
  | 0 => rfl
  | k + 1 => by
    rw [powV, pow_one O k]
    exact tm_one O (nF_two O)
theorem pow_zero {p : Nat} {row : List Nat} (O : FOk p row) {k : Nat} (h : 1 ≤ k) : powV p row 0 k = 0 := by
  obtain ⟨j, rfl⟩ : ∃ j, k = j + 1 := ⟨k - 1, by omega⟩
  exact tm_zero O _
/-! what is gone through, by tables: powers of one number are all but 0; a sum with 1 taken as often as the prime -/
/-- P the powers of one number, L where each number stands among them -/
def expR (p : Nat) (row P L : List Nat) : Bool := decide (P.getD 0 0 = 1) && decide (P.getD (p ^ (row.length - 1) - 1) 0 = 1) && ((List.range (p ^ (row.length - 1) - 1)).all fun i => decide (tmV p row (P.getD i 0) (P.getD 1 0) = P.getD (i + 1) 0)) && (List.range (p ^ (row.length - 1))).all fun a => decide (a = 0) || (decide (L.getD a 0 < p ^ (row.length - 1)) && decide (P.getD (L.getD a 0) 0 = a))
def expB (p n : Nat) (T : List (List Nat × List Nat)) : Bool := (List.range (p ^ n)).all fun x => redB p n x || expR p (fac p n x) (T.getD x ([], [])).1 (T.getD x ([], [])).2
def expT21 : List (List Nat × List Nat) := List.replicate 2 ([1,1], [0,0])
theorem ex21 : expB 2 1 expT21 = true := by decide +kernel
def expT22 : List (List Nat × List Nat) := [([], []), ([], []), ([], []), ([1,2,3,1], [0,0,1,2])]
theorem ex22 : expB 2 2 expT22 = true := by decide +kernel
def expT23 : List (List Nat × List Nat) := [([], []), ([], []), ([], []), ([1,2,4,3,6,7,5,1], [0,0,1,3,2,6,4,5]), ([], []), ([1,2,4,5,7,3,6,1], [0,0,1,5,2,3,6,4]), ([], []), ([], [])]
theorem ex23 : expB 2 3 expT23 = true := by decide +kernel
def expT24 : List (List Nat × List Nat) := [([], []), ([], []), ([], []), ([1,2,4,8,3,6,12,11,5,10,7,14,15,13,9,1], [0,0,1,4,2,8,5,10,3,14,9,7,6,13,11,12]), ([], []), ([], []), ([], []), ([], []), ([], []), ([1,2,4,8,9,11,15,7,14,5,10,13,3,6,12,1], [0,0,1,12,2,9,13,7,3,4,10,5,14,11,8,6]), ([], []), ([], []), ([], []), ([], []), ([], []), ([1,3,5,15,14,13,8,7,9,4,12,11,2,6,10,1], [0,0,12,1,9,2,13,7,6,8,14,11,10,5,4,3])]
theorem ex24 : expB 2 4 expT24 = true := by decide +kernel
def expT25 : List (List Nat × List Nat) := [([], []), ([], []), ([], []), ([], []), ([], []), ([1,2,4,8,16,5,10,20,13,26,17,7,14,28,29,31,27,19,3,6,12,24,21,15,30,25,23,11,22,9,18,1], [0,0,1,18,2,5,19,11,3,29,6,27,20,8,12,23,4,10,30,17,7,22,28,26,21,25,9,16,13,14,24,15]), ([], []), ([], []), ([], []), ([1,2,4,8,16,9,18,13,26,29,19,15,30,21,3,6,12,24,25,27,31,23,7,14,28,17,11,22,5,10,20,1], [0,0,1,14,2,28,15,22,3,5,29,26,16,7,23,11,4,25,6,10,30,13,27,21,17,18,8,19,24,9,12,20]), ([], []), ([], []), ([], []), ([], []), ([], []), ([1,2,4,8,16,15,30,19,9,18,11,22,3,6,12,24,31,17,13,26,27,25,29,21,5,10,20,7,14,28,23,1], [0,0,1,12,2,24,13,27,3,8,25,10,14,18,28,5,4,17,9,7,26,23,11,30,15,21,19,20,29,22,6,16]), ([], []), ([], []), ([], []), ([], []), ([], []), ([], []), ([], []), ([1,2,4,8,16,23,25,5,10,20,31,9,18,19,17,21,29,13,26,3,6,12,24,7,14,28,15,30,11,22,27,1], [0,0,1,19,2,7,20,23,3,11,8,28,21,17,24,26,4,14,12,13,9,15,29,5,22,6,18,30,25,16,27,10]), ([], []), ([], []), ([], []), ([1,2,4,8,16,27,13,26,15,30,7,14,28,3,6,12,24,11,22,23,21,17,25,9,18,31,5,10,20,19,29,1], [0,0,1,13,2,26,14,10,3,23,27,17,15,6,11,8,4,21,24,29,28,20,18,19,16,22,7,5,12,30,9,25]), ([], []), ([1,2,4,8,16,29,7,14,28,5,10,20,21,23,19,27,11,22,17,31,3,6,12,24,13,26,9,18,25,15,30,1], [0,0,1,20,2,9,21,6,3,26,10,16,22,24,7,29,4,18,27,14,11,12,17,13,23,28,25,15,8,5,30,19]), ([], []), ([], [])]
theorem ex25 : expB 2 5 expT25 = true := by decide +kernel
def expT31 : List (List Nat × List Nat) := List.replicate 3 ([1,2,1], [0,0,1])
theorem ex31 : expB 3 1 expT31 = true := by decide +kernel
def expT32 : List (List Nat × List Nat) := [([], []), ([1,4,6,7,2,8,3,5,1], [0,0,4,6,1,7,2,3,5]), ([], []), ([], []), ([], []), ([1,3,7,8,2,6,5,4,1], [0,0,4,1,7,6,5,2,3]), ([], []), ([], []), ([1,3,4,7,2,6,8,5,1], [0,0,4,1,2,7,5,3,6])]
theorem ex32 : expB 3 2 expT32 = true := by decide +kernel
def expT33 : List (List Nat × List Nat) := [([], []), ([], []), ([], []), ([], []), ([], []), ([], []), ([], []), ([1,3,9,5,15,23,13,17,20,4,12,14,11,2,6,18,7,21,16,26,22,10,8,24,25,19,1], [0,0,13,1,9,3,14,16,22,2,21,12,10,6,11,4,18,7,15,25,8,17,20,5,23,24,19]), ([1,6,9,8,12,26,16,14,20,7,15,17,11,2,3,18,4,24,13,23,25,10,5,21,22,19,1], [0,0,13,14,16,22,1,9,3,2,21,12,4,18,7,10,6,11,15,25,8,23,24,19,17,20,5]), ([], []), ([], []), ([1,5,13,18,20,24,14,23,3,15,4,11,17,2,7,26,9,10,12,25,16,6,21,8,19,22,1], [0,0,13,8,10,1,21,14,23,16,17,11,18,2,6,9,20,12,3,24,4,22,25,7,5,19,15]), ([], []), ([], []), ([1,4,16,26,25,21,17,18,5,11,3,12,10,2,8,23,13,14,15,22,9,7,19,6,24,20,1], [0,0,13,10,1,8,23,21,14,20,12,9,11,16,17,18,2,6,7,22,25,5,19,15,24,4,3]), ([], []), ([1,3,9,23,22,19,10,26,4,12,5,15,14,2,6,18,16,17,11,20,13,8,24,7,21,25,1], [0,0,13,1,8,10,14,23,21,2,6,18,9,20,12,11,16,17,15,5,19,24,4,3,22,25,7]), ([], []), ([], []), ([1,3,9,11,17,8,24,10,14,26,16,5,15,2,6,18,19,22,4,12,20,25,13,23,7,21,1], [0,0,13,1,18,11,14,24,5,2,7,3,19,22,8,12,10,4,15,16,20,25,17,23,6,21,9]), ([], []), ([], []), ([1,3,9,17,5,15,8,24,13,20,19,25,16,2,6,18,22,7,21,4,12,26,10,11,14,23,1], [0,0,13,1,19,4,14,17,6,2,22,23,20,8,24,5,12,3,15,10,9,18,16,25,7,11,21]), ([], []), ([], []), ([], []), ([1,4,16,14,3,12,7,19,9,22,21,20,13,2,8,23,25,6,24,5,11,18,17,15,10,26,1], [0,0,13,4,1,19,17,6,14,8,24,20,5,12,3,23,2,22,21,7,11,10,9,15,18,16,25])]
theorem ex33 : expB 3 3 expT33 = true := by decide +kernel
def expT51 : List (List Nat × List Nat) := List.replicate 5 ([1,2,4,3,1], [0,0,1,3,2])
theorem ex51 : expB 5 1 expT51 = true := by decide +kernel
def expT52 : List (List Nat × List Nat) := [([], []), ([], []), ([1,6,14,5,8,21,3,18,7,15,19,13,4,24,16,20,22,9,2,12,23,10,11,17,1], [0,0,18,6,12,3,1,8,4,17,21,22,19,11,2,9,14,23,7,10,15,5,16,20,13]), ([1,7,21,20,18,22,2,14,17,15,6,19,4,23,9,5,12,8,3,16,13,10,24,11,1], [0,0,6,18,12,15,10,1,17,14,21,23,16,20,7,9,19,8,4,11,3,2,5,13,22]), ([], []), ([], []), ([1,7,18,8,20,21,3,16,24,19,10,13,4,23,12,22,5,9,2,14,6,11,15,17,1], [0,0,18,6,12,16,20,1,3,17,10,21,14,11,19,22,7,23,2,9,4,5,15,13,8]), ([1,5,23,22,17,24,2,10,16,19,9,18,4,20,7,8,13,6,3,15,14,11,21,12,1], [0,0,6,18,12,1,17,14,15,10,7,21,23,16,20,19,8,4,11,9,13,22,3,2,5]), ([], []), ([], []), ([], []), ([], []), ([], []), ([1,5,17,6,22,23,3,15,21,18,11,14,4,20,13,24,8,7,2,10,9,12,19,16,1], [0,0,18,6,12,1,3,17,16,20,19,10,21,14,11,7,23,2,9,22,13,8,4,5,15]), ([1,8,20,24,16,21,2,11,15,18,7,17,4,22,5,6,14,9,3,19,10,12,23,13,1], [0,0,6,18,12,14,15,10,1,17,20,7,21,23,16,8,4,11,9,19,2,5,13,22,3]), ([], []), ([], []), ([], []), ([1,5,12,9,7,22,3,15,6,17,16,11,4,20,18,21,23,8,2,10,24,13,14,19,1], [0,0,18,6,12,1,8,4,17,3,19,11,2,21,22,7,10,9,14,23,13,15,5,16,20]), ([1,6,22,21,15,23,2,12,19,17,5,16,4,24,8,9,10,7,3,18,11,13,20,14,1], [0,0,6,18,12,10,1,17,14,15,16,20,7,21,23,4,11,9,19,8,22,3,2,5,13]), ([], []), ([1,6,15,7,21,22,3,18,20,16,13,11,4,24,10,23,9,8,2,12,5,14,17,19,1], [0,0,18,6,12,20,1,3,17,16,14,11,19,10,21,2,9,22,7,23,8,4,5,15,13]), ([1,5,8,23,12,21,2,10,11,16,24,17,4,20,22,7,18,9,3,15,19,14,6,13,1], [0,0,6,18,12,1,22,15,2,17,7,8,4,23,21,19,9,11,16,20,13,5,14,3,10]), ([], []), ([], [])]
theorem ex52 : expB 5 2 expT52 = true := by decide +kernel
def expT71 : List (List Nat × List Nat) := List.replicate 7 ([1,3,2,6,4,5,1], [0,0,2,1,4,5,3])
theorem ex71 : expB 7 1 expT71 = true := by decide +kernel
def expT111 : List (List Nat × List Nat) := List.replicate 11 ([1,2,4,8,5,10,9,7,3,6,1], [0,0,1,8,2,4,9,7,3,6,5])
theorem ex111 : expB 11 1 expT111 = true := by decide +kernel
def expT131 : List (List Nat × List Nat) := List.replicate 13 ([1,2,4,8,3,6,12,11,9,5,10,7,1], [0,0,1,4,2,9,5,11,3,8,10,7,6])
theorem ex131 : expB 13 1 expT131 = true := by decide +kernel
def expT171 : List (List Nat × List Nat) := List.replicate 17 ([1,3,9,10,13,5,15,11,16,14,8,7,4,12,2,6,1], [0,0,14,1,12,5,15,11,10,2,3,7,13,4,9,6,8])
theorem ex171 : expB 17 1 expT171 = true := by decide +kernel
def expT191 : List (List Nat × List Nat) := List.replicate 19 ([1,2,4,8,16,13,7,14,9,18,17,15,11,3,6,12,5,10,1], [0,0,1,13,2,16,14,6,3,8,17,12,15,5,7,11,4,10,9])
theorem ex191 : expB 19 1 expT191 = true := by decide +kernel
def expT231 : List (List Nat × List Nat) := List.replicate 23 ([1,5,2,10,4,20,8,17,16,11,9,22,18,21,13,19,3,15,6,7,12,14,1], [0,0,2,16,4,1,18,19,6,10,3,9,20,14,21,17,8,7,12,15,5,13,11])
theorem ex231 : expB 23 1 expT231 = true := by decide +kernel
def expT291 : List (List Nat × List Nat) := List.replicate 29 ([1,2,4,8,16,3,6,12,24,19,9,18,7,14,28,27,25,21,13,26,23,17,5,10,20,11,22,15,1], [0,0,1,5,2,22,6,12,3,10,23,25,7,18,13,27,4,21,11,9,24,17,26,20,8,16,19,15,14])
theorem ex291 : expB 29 1 expT291 = true := by decide +kernel
def expT311 : List (List Nat × List Nat) := List.replicate 31 ([1,3,9,27,19,26,16,17,20,29,25,13,8,24,10,30,28,22,4,12,5,15,14,11,2,6,18,23,7,21,1], [0,0,24,1,18,20,25,28,12,2,14,23,19,11,22,21,6,7,26,4,8,29,17,27,13,10,5,3,16,9,15])
theorem ex311 : expB 31 1 expT311 = true := by decide +kernel
def expT : List (Nat × Nat × List (List Nat × List Nat)) := [(2, 1, expT21), (2, 2, expT22), (2, 3, expT23), (2, 4, expT24), (2, 5, expT25), (3, 1, expT31), (3, 2, expT32), (3, 3, expT33), (5, 1, expT51), (5, 2, expT52), (7, 1, expT71), (11, 1, expT111), (13, 1, expT131), (17, 1, expT171), (19, 1, expT191), (23, 1, expT231), (29, 1, expT291), (31, 1, expT311)]
theorem exp_all : (expT.all fun t => expB t.1 t.2.1 t.2.2) = true := by
  simp only [expT, List.all_cons, List.all_nil, ex21, ex22, ex23, ex24, ex25, ex31, ex32, ex33, ex51, ex52, ex71, ex111, ex131, ex171, ex191, ex231, ex291, ex311, Bool.and_true]
theorem row_red {p : Nat} {row : List Nat} (O : FOk p row) {x : Nat} (e : row = fac p (row.length - 1) x) : redB p (row.length - 1) x = false := by
  refine Bool.eq_false_iff.mpr fun z => ?_
  unfold redB at z
  obtain ⟨s, hs, z⟩ := List.any_eq_true.mp z
  obtain ⟨y, hy, z⟩ := List.any_eq_true.mp z
  rw [← e] at z
  exact O.no (s + 1) y (by omega) (by have := List.mem_range.mp hs; omega) (List.mem_range.mp hy) (List.isEmpty_iff.mp z)
theorem exp_keyB : ((List.range 32).all fun p => (List.range 6).all fun n => decide (n = 0) || !decide (p ^ n ≤ 32) || !prB p || expT.any fun t => decide (t.1 = p) && decide (t.2.1 = n)) = true := by decide +kernel
theorem exp_key {p n : Nat} (hp : p < 32) (hn : n < 6) (h1 : 1 ≤ n) (hf : p ^ n ≤ 32) (hb : prB p = true) : ∃ t ∈ expT, t.1 = p ∧ t.2.1 = n := by
  have h := (List.all_eq_true.mp ((List.all_eq_true.mp exp_keyB) p (List.mem_range.mpr hp))) n (List.mem_range.mpr hn)
  rw [decide_eq_false (show ¬ n = 0 by omega), decide_eq_true hf, hb] at h
  obtain ⟨t, ht, h⟩ := List.any_eq_true.mp h
  rw [Bool.and_eq_true] at h
  exact ⟨t, ht, of_decide_eq_true h.1, of_decide_eq_true h.2⟩
theorem exp_ex {p : Nat} {row : List Nat} (O : FOk p row) : ∃ g, powV p row g (nF p row - 1) = 1 ∧ ∀ a, a ≠ 0 → a < nF p row → ∃ i, powV p row g i = a := by
  obtain ⟨x, hx, e⟩ := row_fac O
  have hl2 := O.l2
  have hl6 := O.l6
  have hp31 := O.p31
  have hq2 := nF_two O
  obtain ⟨⟨p', n', T⟩, ht, e1, e2⟩ := exp_key (by omega) (show row.length - 1 < 6 by omega) (by omega) O.few (IsPr_b O.pr hp31)
  simp only at e1 e2
  have h := (List.all_eq_true.mp exp_all) _ ht
  unfold expB at h
  simp only at h
  rw [e1, e2] at h
  have h2 := (List.all_eq_true.mp h) x (List.mem_range.mpr hx)
  rw [row_red O e, Bool.false_or, ← e] at h2
  generalize (T.getD x ([], [])).1 = P at h2
  generalize (T.getD x ([], [])).2 = L at h2
  unfold expR at h2
  rw [Bool.and_eq_true, Bool.and_eq_true, Bool.and_eq_true] at h2
  obtain ⟨⟨⟨a1, a2⟩, a3⟩, a4⟩ := h2
  have a1' := of_decide_eq_true a1
  have a2' := of_decide_eq_true a2
  have st : ∀ i, i < nF p row - 1 → tmV p row (P.getD i 0) (P.getD 1 0) = P.getD (i + 1) 0 := fun i hi => of_decide_eq_true ((List.all_eq_true.mp a3) i (List.mem_range.mpr hi))
  have pw : ∀ i, i < nF p row → powV p row (P.getD 1 0) i = P.getD i 0 := fun i => by
    induction i with
    | zero => exact fun _ => a1'.symm
    | succ i ih =>
      intro hi
      rw [powV, ih (by omega), st i (by omega)]
  refine ⟨P.getD 1 0, (pw _ (by omega)).trans a2', fun a ha0 ha => ?_⟩
  have h5 := (List.all_eq_true.mp a4) a (List.mem_range.mpr ha)
  rw [decide_eq_false ha0, Bool.false_or, Bool.and_eq_true] at h5
  exact ⟨L.getD a 0, (pw _ (of_decide_eq_true h5.1)).trans (of_decide_eq_true h5.2)⟩
theorem tm_oneL {p : Nat} {row : List Nat} (O : FOk p row) {a : Nat} (ha : a < nF p row) : tmV p row 1 a = a := by rw [tm_comm O, tm_one O ha]
theorem pow_q {p : Nat} {row : List Nat} (O : FOk p row) {a : Nat} (ha : a < nF p row) : powV p row a (nF p row) = a := by
  have hq2 := nF_two O
  by_cases h0 : a = 0
  · subst h0
    exact pow_zero O (by omega)
  · obtain ⟨g, h1, h2⟩ := exp_ex O
    obtain ⟨i, rfl⟩ := h2 a h0 ha
    rw [pow_mul O, show i * nF p row = (nF p row - 1) * i + i by rw [Nat.sub_mul, Nat.mul_comm i, Nat.one_mul]; have := Nat.mul_le_mul_right i (show 1 ≤ nF p row by omega); omega, ← pow_add O, ← pow_mul O, h1, pow_one O, tm_oneL O (pow_lt O g i)]
theorem pl_zeroR {p : Nat} {row : List Nat} (O : FOk p row) {a : Nat} (ha : a < nF p row) : plV p row a 0 = a := by rw [pl_comm O, pl_zero O ha]
theorem niF5 {i j : Int} {A B : Prop} (h : i = j) (k : B) : if (!decide (V.int i = V.int j)) = true then A else B := by
  rw [decide_eq_true (congrArg V.int h)]
  exact iteF k
theorem scMMinus : FnScope ["self", "a", "b"] ["self", "a", "b"] (defScope sMMinus) := ⟨rfl, rfl, rfl, by decide +kernel, rfl, by decide +kernel, by decide +kernel⟩
theorem ok_minus {f : Addr} {fd : FuncData} (F : Fun K "minus" "Field.minus" sMMinus f fd) (Z : FieldK K C) (pHave : Mp P w K mg base CX0 3 C "must_have" ["self", "thing"] (spHave C)) (pJoined : Pm P w K mg base CX0 1 "joined" ["p", "a", "b", "sign"] spJoin) : FnOk P w K mg base CX0 4 f fd ["self", "a", "b"] (spBin C mnV) := by
  refine F.okQ scMMinus (fun vs H Q E h => ?_) (fun cdv A outer s H vs Q E hr3 h => ?_)
  · obtain ⟨f, p, a, b, row, rfl, _⟩ := h
    rfl
  · obtain ⟨f, p, a, b, row, rfl, hF, O, ha, hb, q⟩ := h
    have hr1 := hr3.mono (show 1 ≤ 3 by decide)
    obtain ⟨dx, r, hf, hr'⟩ := id hF
    have hl6 := O.l6
    have hp2 := O.p2
    refine ⟨_, (qss_cons (qs_expr (qe_methP pHave Z.cl hr3 (qv 0) pass0 (qac (qv 1) qa_nil))) (qss_cons (qs_expr (qe_methP pHave Z.cl hr3 (qv 0) pass0 (qac (qv 2) qa_nil)))
      (qss_one (qs_ret (qe_callP pJoined hr1 rfl pass0 (qac (qe_fld (qv 0) rfl) (qac (qv 1) (qac (qv 2) (qac (qe_un un_neg qe_int) qa_nil))))))))), ?_⟩
    refine ⟨_, rfl, f, dx, _, rfl, hf, fld_no _ _ _ (by decide +kernel) (by decide +kernel) (by decide +kernel), _, rfl, f, p, a, row, rfl, hF, ha, ?_⟩
    refine ⟨_, rfl, f, dx, _, rfl, hf, fld_no _ _ _ (by decide +kernel) (by decide +kernel) (by decide +kernel), _, rfl, f, p, b, row, rfl, hF, hb, ?_⟩
    refine ⟨_, rfl, f, C, dx, _, _, rfl, hf, Z.cl, Z.a2, fld_prime .., _, rfl, _, rfl, _, rfl, p, row.length - 1, a, b, -1, rfl, hp2, O.p31, by omega, ha, hb, .inr rfl, q _ (Same.refl _)⟩
def spBack (C : Addr) : Sp := fun vs H Q _ => ∃ (f : Addr) (p a : Nat) (row : List Nat), vs = [.ref f, .int ((a : Nat) : Int)] ∧ FieldAt C H f p row ∧ FOk p row ∧ a ≠ 0 ∧ a < nF p row ∧ ∀ H', Same H H' → Q (.int ((bkV p row a : Nat) : Int)) H'
theorem scMBack : FnScope ["self", "a"] ["self", "a"] (defScope sMBack) := ⟨rfl, rfl, rfl, by decide +kernel, rfl, by decide +kernel, by decide +kernel⟩
theorem ok_back {f : Addr} {fd : FuncData} (F : Fun K "back" "Field.back" sMBack f fd) (T : TxtB mg) (Z : FieldK K C) (pHave : Mp P w K mg base CX0 3 C "must_have" ["self", "thing"] (spHave C)) (pTimes : Mp P w K mg base CX0 4 C "times" ["self", "a", "b"] (spBin C tmV)) : FnOk P w K mg base CX0 5 f fd ["self", "a"] (spBack C) := by
  refine F.okQ scMBack (fun vs H Q E h => ?_) (fun cdv A outer s H vs Q E hr4 h => ?_)
  · obtain ⟨f, p, a, row, rfl, _⟩ := h
    rfl
  · obtain ⟨f, p, a, row, rfl, hF, O, h0, ha, q⟩ := h
    have hr3 := hr4.mono (show 3 ≤ 4 by decide)
    have h32 : nF p row ≤ 32 := O.few
    obtain ⟨dx, r, hf, hr'⟩ := id hF
    refine ⟨_, (qss_cons (qs_expr (qe_methP pHave Z.cl hr3 (qv 0) pass0 (qac (qv 1) qa_nil))) (qss_cons (qs_if (qt_cmpR op_eq (qv 1) qe_int (nomark _)) qss_never qss_nil)
      (qss_one (qs_ret (qe_ix ix_list (qe_comp (g := gName 0) (N := ["b", "self", "a"]) (src := [none, some 0, some 1]) rfl (comp_scope (defScope sMBack) ["self", "a"] rfl rfl (by decide +kernel) rfl) (qi_range1 rfl T.range (qac (qe_fld (qv 0) rfl) qa_nil)) (fun _ _ _ _ _ => (qg_name (i := 0) (show (["b", "self", "a"] : List Str).Nodup by decide +kernel) rfl (Or.inl rfl) (Or.inr rfl))) (fun _ _ _ _ _ => (qif_one (qt_cmpR op_eq (qe_methP pTimes Z.cl hr4 (qv 1) pass0 (qac (qv 2) (qac (qv 0) qa_nil))) qe_int (nomark _)))) (fun _ _ _ _ _ => (qv 0))) qe_int (fun _ _ => rfl)))))), ?_⟩
    refine ⟨_, rfl, f, dx, _, rfl, hf, fld_no _ _ _ (by decide +kernel) (by decide +kernel) (by decide +kernel), _, rfl, f, p, a, row, rfl, hF, ha, ?_⟩
    refine ⟨_, rfl, rfl, _, rfl, ifF (fun z => h0 (by have := V.int.inj z; omega)) ?_⟩
    refine ⟨_, rfl, f, C, dx, _, _, rfl, hf, Z.cl, Z.a1, fld_many .., ((nF p row : Nat) : Int), rfl, by omega, by omega, ?_⟩
    rw [Int.toNat_natCast]
    refine comp_rng (lo := 0) (n := nF p row) (fun i zs H2 => Same H H2 ∧ zs = nats (fltL (bkF p row a) i)) ⟨Same.refl _, rfl⟩ ?_ ?_
    · rintro i zs H2 N hi ⟨s2, rfl⟩ nx
      rw [Int.zero_add]
      have e := flt_snoc (bkF p row a) i
      refine ⟨Weak.set (by intro v z; cases z), ⟨_, rfl, f, dx, _, rfl, s2 _ _ hf, fld_no _ _ _ (by decide +kernel) (by decide +kernel) (by decide +kernel), _, rfl, _, rfl, f, p, a, i, row, rfl, hF.sm s2, O, ha, hi, fun H3 s3 => ⟨rfl, _, rfl, ?_⟩⟩⟩
      by_cases h : tmV p row a i = 1
      · rw [if_pos (show bkF p row a i = true from decide_eq_true h)] at e
        refine ifT (by rw [h]; rfl) ⟨_, rfl, ?_, nx _ _ ⟨s2.trans s3, by rw [e, nats_snoc]⟩⟩
        rw [nats_len]
        exact Nat.lt_of_le_of_lt (flt_le _ i) (Nat.lt_of_lt_of_le (show i < 33 by omega) (by decide))
      · rw [if_neg (show ¬ bkF p row a i = true by unfold bkF; simp [h]), List.append_nil] at e
        exact ifF (fun z => h (by have := V.int.inj z; omega)) (nx _ _ ⟨s2.trans s3, by rw [e]⟩)
    · rintro zs H2 ⟨s2, rfl⟩
      refine ⟨by rw [nats_len]; exact Nat.le_trans (flt_le ..) (Nat.le_trans h32 (by decide)), fun u hu => ?_⟩
      exact ⟨u, _, 0, .int ((bkV p row a : Nat) : Int), rfl, rfl, SqL.of upd_same, nat_atQ (k := 0) (bk_first O h0 ha), q _ (s2.trans (same_new hu))⟩
/-! ### what refuses -/
def tDead : TS := fun _ _ _ => False
theorem qss_dead {X : Cx} {b : List Stmt} : QSs X b tDead := ⟨fun _ _ _ _ _ _ h => h.elim⟩
def Bad (K : PySem.W.Frag) (H : Hp) (v : V) (m : Int) : Prop := (∃ x, v = .int x ∧ ¬ (0 ≤ x ∧ x < m)) ∨ WholeIs K H v false
def spBelowX (K : PySem.W.Frag) : Sp := fun vs H Q _ => (∃ x m : Int, vs = [.int x, .int m] ∧ 0 ≤ x ∧ x < m ∧ Q (.bl true) H) ∨ ∃ (v : V) (m : Int), vs = [v, .int m] ∧ Bad K H v m ∧ Q (.bl false) H
theorem ok_belowX {f : Addr} {fd : FuncData} (F : Fun K "is_below" "is_below" sIsBelow f fd) (pWhole : Pm P w K mg base CX0 1 "is_whole" ["thing"] (spWhole K)) : FnOk P w K mg base CX0 2 f fd ["thing", "many"] (spBelowX K) := by
  refine F.okQ scIsBelow (fun vs H Q E h => ?_) (fun cdv A outer s H vs Q E hr1 h => ?_)
  · rcases h with ⟨x, m, rfl, _⟩ | ⟨v, m, rfl, _⟩ <;> rfl
  · refine ⟨_, (qss_one (qs_ret (qe_and (qe_callP pWhole hr1 rfl pass0 (qac (qv 0) qa_nil)) (qe_one (qe_chain op_le op_lt qe_int (qv 0) (qv 1)))))), ?_⟩
    rcases h with ⟨x, m, rfl, h0, h1, q⟩ | ⟨v, m, rfl, hb, q⟩
    · refine ⟨_, rfl, .int x, true, rfl, .int x, true, rfl, iteT ?_⟩
      refine ⟨_, rfl, _, _, rfl, rfl, _, rfl, ifT h0 ?_⟩
      exact ⟨_, rfl, _, _, rfl, rfl, blT h1 q⟩
    · rcases hb with ⟨x, rfl, hx⟩ | hw
      · refine ⟨_, rfl, .int x, true, rfl, .int x, true, rfl, iteT ?_⟩
        refine ⟨_, rfl, _, _, rfl, rfl, _, rfl, ?_⟩
        by_cases h0 : 0 ≤ x
        · exact ifT h0 ⟨_, rfl, _, _, rfl, rfl, blF (by omega) q⟩
        · exact ifF h0 q
      · exact ⟨_, rfl, v, false, rfl, hw, false, rfl, iteF q⟩
/-- a thing that is none of the n numbers -/
def OddAt (H : Hp) (n : Nat) (v : V) : Prop := (∃ x : Int, v = .int x ∧ ¬ (0 ≤ x ∧ x < ((n : Nat) : Int))) ∨ (∃ b, v = .bl b) ∨ v = .non ∨ (∃ t, v = .str t) ∨ ∃ l xs, v = .ref l ∧ H l = some (.lst xs)
theorem kit_non_intO (K : PySem.W.Frag) : PySem.W.kitOne K (.type "NoneType") (.type "int") = some false := by kernel_rfl
theorem kit_str_intO (K : PySem.W.Frag) : PySem.W.kitOne K (.type "str") (.type "int") = some false := by kernel_rfl
theorem kit_list_intO (K : PySem.W.Frag) : PySem.W.kitOne K (.type "list") (.type "int") = some false := by kernel_rfl
theorem OddAt.bad {H : Hp} {n : Nat} {v : V} (h : OddAt H n v) : Bad K H v ((n : Nat) : Int) := by
  rcases h with h | ⟨b, rfl⟩ | rfl | ⟨t, rfl⟩ | ⟨l, xs, rfl, h⟩
  · exact .inl h
  · exact .inr (.bl b)
  · exact .inr (.odd .non (kit_non_intO K))
  · exact .inr (.odd (.str t) (kit_str_intO K))
  · exact .inr (.odd (.lst h) (kit_list_intO K))
def GoodN (n : Nat) (v : V) : Prop := ∃ x : Nat, v = .int ((x : Nat) : Int) ∧ x < n
def spHaveX (C CF : Addr) : Sp := fun vs H Q E => ∃ (a : Addr) (p : Nat) (row : List Nat) (v : V), vs = [.ref a, v] ∧ FieldAt CF H a p row ∧ ((GoodN (nF p row) v ∧ Q .non H) ∨ (OddAt H (nF p row) v ∧ ∀ dx, E (.ref C) dx H))
theorem ok_haveX {C CF f : Addr} {fd : FuncData} (F : Fun K "must_have" "Field.must_have" sMMustHave f fd) (Z : FieldK K CF) (eC : PySem.W.ExcK K C) (mC : mg "NoNumber" = some (.ref C)) (pIsBelow : Pm P w K mg base CX0 2 "is_below" ["thing", "many"] (spBelowX K)) : FnOk P w K mg base (CXD P w) 3 f fd ["self", "thing"] (spHaveX C CF) := by
  refine F.okXFQ scMMustHave (fun vs H Q E h => ?_) (fun cdv A outer s H vs Q E hr h => ?_)
  · obtain ⟨a, p, row, v, rfl, _⟩ := h
    rfl
  · obtain ⟨a, p, row, v, rfl, ⟨dx, r, ha, hr'⟩, q⟩ := h
    refine ⟨_, (qss_one (qs_if (qt_not (qt_val (QE.nox (qe_callP pIsBelow hr rfl pass0 (qac (qv 1) (qac (qe_fld (qv 0) rfl) qa_nil)))))) (qss_one (qs_raiseF eC.ex rfl mC rfl rfl (qac qe_str qa_nil))) qss_nil)), ?_⟩
    refine ⟨_, rfl, _, rfl, a, CF, dx, _, _, rfl, ha, Z.cl, Z.a1, fld_many .., ?_⟩
    rcases q with ⟨⟨x, rfl, hx⟩, q⟩ | ⟨ho, q⟩
    · have hx' : x < p ^ (row.length - 1) := hx
      exact .inl ⟨_, _, rfl, by omega, by omega, true, rfl, iteF q⟩
    · exact .inr ⟨v, _, rfl, ho.bad, false, rfl, iteT ⟨by show 1 ≤ sizeLine; decide, q⟩⟩
/-- plus, minus, times: one of both is none of the field -/
def spBinX (C CF : Addr) : Sp := fun vs H _ E => ∃ (f : Addr) (p : Nat) (row : List Nat) (x y : V), vs = [.ref f, x, y] ∧ FieldAt CF H f p row ∧ (OddAt H (nF p row) x ∨ (GoodN (nF p row) x ∧ OddAt H (nF p row) y)) ∧ ∀ dx, E (.ref C) dx H
theorem ok_plusX {C CF f : Addr} {fd : FuncData} (F : Fun K "plus" "Field.plus" sMPlus f fd) (Z : FieldK K CF) (pHave : Mp P w K mg base (CXD P w) 3 CF "must_have" ["self", "thing"] (spHaveX C CF)) : FnOk P w K mg base (CXD P w) 4 f fd ["self", "a", "b"] (spBinX C CF) := by
  refine F.okXFQ scMPlus (fun vs H Q E h => ?_) (fun cdv A outer s H vs Q E hr3 h => ?_)
  · obtain ⟨f, p, row, x, y, rfl, _⟩ := h
    rfl
  · obtain ⟨f, p, row, x, y, rfl, hF, hb, q⟩ := h
    obtain ⟨dx, r, hf, hr'⟩ := id hF
    refine ⟨_, (qss_cons (qs_expr (qe_methP pHave Z.cl hr3 (qv 0) (passF rfl) (qac (qv 1) qa_nil))) (qss_cons (qs_expr (qe_methP pHave Z.cl hr3 (qv 0) (passF rfl) (qac (qv 2) qa_nil))) qss_dead)), ?_⟩
    refine ⟨_, rfl, f, dx, _, rfl, hf, fld_no _ _ _ (by decide +kernel) (by decide +kernel) (by decide +kernel), _, rfl, f, p, row, x, rfl, hF, ?_⟩
    rcases hb with ho | ⟨hg, ho⟩
    · exact .inr ⟨ho, q⟩
    · exact .inl ⟨hg, _, rfl, f, dx, _, rfl, hf, fld_no _ _ _ (by decide +kernel) (by decide +kernel) (by decide +kernel), _, rfl, f, p, row, y, rfl, hF, .inr ⟨ho, q⟩⟩
theorem ok_minusX {C CF f : Addr} {fd : FuncData} (F : Fun K "minus" "Field.minus" sMMinus f fd) (Z : FieldK K CF) (pHave : Mp P w K mg base (CXD P w) 3 CF "must_have" ["self", "thing"] (spHaveX C CF)) : FnOk P w K mg base (CXD P w) 4 f fd ["self", "a", "b"] (spBinX C CF) := by
  refine F.okXFQ scMMinus (fun vs H Q E h => ?_) (fun cdv A outer s H vs Q E hr3 h => ?_)
  · obtain ⟨f, p, row, x, y, rfl, _⟩ := h
    rfl
  · obtain ⟨f, p, row, x, y, rfl, hF, hb, q⟩ := h
    obtain ⟨dx, r, hf, hr'⟩ := id hF
    refine ⟨_, (qss_cons (qs_expr (qe_methP pHave Z.cl hr3 (qv 0) (passF rfl) (qac (qv 1) qa_nil))) (qss_cons (qs_expr (qe_methP pHave Z.cl hr3 (qv 0) (passF rfl) (qac (qv 2) qa_nil))) qss_dead)), ?_⟩
    refine ⟨_, rfl, f, dx, _, rfl, hf, fld_no _ _ _ (by decide +kernel) (by decide +kernel) (by decide +kernel), _, rfl, f, p, row, x, rfl, hF, ?_⟩
    rcases hb with ho | ⟨hg, ho⟩
    · exact .inr ⟨ho, q⟩
    · exact .inl ⟨hg, _, rfl, f, dx, _, rfl, hf, fld_no _ _ _ (by decide +kernel) (by decide +kernel) (by decide +kernel), _, rfl, f, p, row, y, rfl, hF, .inr ⟨ho, q⟩⟩
theorem ok_timesX {C CF f : Addr} {fd : FuncData} (F : Fun K "times" "Field.times" sMTimes f fd) (Z : FieldK K CF) (pHave : Mp P w K mg base (CXD P w) 3 CF "must_have" ["self", "thing"] (spHaveX C CF)) : FnOk P w K mg base (CXD P w) 4 f fd ["self", "a", "b"] (spBinX C CF) := by
  refine F.okXFQ scMTimes (fun vs H Q E h => ?_) (fun cdv A outer s H vs Q E hr3 h => ?_)
  · obtain ⟨f, p, row, x, y, rfl, _⟩ := h
    rfl
  · obtain ⟨f, p, row, x, y, rfl, hF, hb, q⟩ := h
    obtain ⟨dx, r, hf, hr'⟩ := id hF
    refine ⟨_, (qss_cons (qs_expr (qe_methP pHave Z.cl hr3 (qv 0) (passF rfl) (qac (qv 1) qa_nil))) (qss_cons (qs_expr (qe_methP pHave Z.cl hr3 (qv 0) (passF rfl) (qac (qv 2) qa_nil))) qss_dead)), ?_⟩
    refine ⟨_, rfl, f, dx, _, rfl, hf, fld_no _ _ _ (by decide +kernel) (by decide +kernel) (by decide +kernel), _, rfl, f, p, row, x, rfl, hF, ?_⟩
    rcases hb with ho | ⟨hg, ho⟩
    · exact .inr ⟨ho, q⟩
    · exact .inl ⟨hg, _, rfl, f, dx, _, rfl, hf, fld_no _ _ _ (by decide +kernel) (by decide +kernel) (by decide +kernel), _, rfl, f, p, row, y, rfl, hF, .inr ⟨ho, q⟩⟩
def spBackX (C CF : Addr) : Sp := fun vs H _ E => ∃ (f : Addr) (p : Nat) (row : List Nat) (x : V), vs = [.ref f, x] ∧ FieldAt CF H f p row ∧ (OddAt H (nF p row) x ∨ (x = .int 0 ∧ 0 < nF p row)) ∧ ∀ dx, E (.ref C) dx H
theorem ok_backX {C CF f : Addr} {fd : FuncData} (F : Fun K "back" "Field.back" sMBack f fd) (Z : FieldK K CF) (eC : PySem.W.ExcK K C) (mC : mg "NoNumber" = some (.ref C)) (pHave : Mp P w K mg base (CXD P w) 3 CF "must_have" ["self", "thing"] (spHaveX C CF)) : FnOk P w K mg base (CXD P w) 4 f fd ["self", "a"] (spBackX C CF) := by
  refine F.okXFQ scMBack (fun vs H Q E h => ?_) (fun cdv A outer s H vs Q E hr3 h => ?_)
  · obtain ⟨f, p, row, x, rfl, _⟩ := h
    rfl
  · obtain ⟨f, p, row, x, rfl, hF, hb, q⟩ := h
    obtain ⟨dx, r, hf, hr'⟩ := id hF
    refine ⟨_, (qss_cons (qs_expr (qe_methP pHave Z.cl hr3 (qv 0) (passF rfl) (qac (qv 1) qa_nil))) (qss_cons (qs_if (qt_cmpR op_eq (qv 1) qe_int (nomark _)) (qss_one (qs_raiseF eC.ex rfl mC rfl rfl (qac qe_str qa_nil))) qss_nil) qss_dead)), ?_⟩
    refine ⟨_, rfl, f, dx, _, rfl, hf, fld_no _ _ _ (by decide +kernel) (by decide +kernel) (by decide +kernel), _, rfl, f, p, row, x, rfl, hF, ?_⟩
    rcases hb with ho | ⟨rfl, h0⟩
    · exact .inr ⟨ho, q⟩
    · exact .inl ⟨⟨0, rfl, h0⟩, _, rfl, rfl, _, rfl, ifT rfl ⟨by show 1 ≤ sizeLine; decide, q⟩⟩
/-! ### just a refusal of this kind -/
def spOnly (C : Addr) : Sp := fun vs H Q _ => ∃ (a : Addr) (dx : Option Addr), vs = [.ref a, .int 1] ∧ H a = some (XD a C dx) ∧ ∀ H', Same H H' → Q (.bl true) H'
theorem scLOnly : FnScope ["_law_e", "_law_at", "_law_kinds"] ["_law_e", "_law_at"] (defScope sLOnly) := ⟨rfl, rfl, rfl, by decide +kernel, rfl, by decide +kernel, by decide +kernel⟩
theorem bls_isD {K : PySem.W.Frag} {H : Hp} {a : Addr} {bs : List Bool} (h : H a = some (.lst (bs.map V.bl))) : IsD K H (.list (bs.map PyData.bool)) (.ref a) := by
  simp only [IsD]
  refine ⟨a, _, rfl, SqL.of h, ?_⟩
  clear h
  induction bs with
  | nil => simp [IsDs]
  | cons b bs ih =>
    simp only [List.map_cons, IsDs]
    exact ⟨_, _, rfl, by simp only [IsD], ih⟩
theorem ok_only {C f o1 o2 o3 o4 o5 o6 o7 o8 o9 o10 o11 o12 o13 : Addr} {fd : FuncData} (F : Fun K "_law_only" "_law_only" sLOnly f fd) (T : TxtB mg) (D : MarksD K mg M C o1 o2 o3 o4 o5 o6 o7 o8 o9 o10 o11 o12 o13) : FnOk P w K mg base CX0 1 f fd ["_law_e", "_law_at"] (spOnly C) := by
  refine F.okQ scLOnly (fun vs H Q E h => ?_) (fun cdv A outer s H vs Q E hr h => ?_)
  · obtain ⟨a, dx, rfl, _⟩ := h
    rfl
  · obtain ⟨a, dx, rfl, ha, q⟩ := h
    refine ⟨_, (qss_cons (qs_set (i := 2) scLOnly.nd rfl (Or.inl rfl) (qe_lst (qac (qe_callB (show CallR _ _ (rIsDP K) from call_isinstDP D.R.cl) (by rfl) T.isi PyProof.Rows.boot_isinstance (qac (qv 0) (qac (qe_glob (v := .ref o3) rfl D.m3 rfl) qa_nil))) (qac (qe_callB (show CallR _ _ (rIsDP K) from call_isinstDP D.R.cl) (by rfl) T.isi PyProof.Rows.boot_isinstance (qac (qv 0) (qac (qe_glob (v := .ref C) rfl D.mC rfl) qa_nil))) (qac (qe_callB (show CallR _ _ (rIsDP K) from call_isinstDP D.R.cl) (by rfl) T.isi PyProof.Rows.boot_isinstance (qac (qv 0) (qac (qe_glob (v := .ref o6) rfl D.m6 rfl) qa_nil))) (qac (qe_callB (show CallR _ _ (rIsDP K) from call_isinstDP D.R.cl) (by rfl) T.isi PyProof.Rows.boot_isinstance (qac (qv 0) (qac (qe_glob (v := .ref o4) rfl D.m4 rfl) qa_nil))) qa_nil))))))
      (qss_cons (qs_set (i := 2) scLOnly.nd rfl (Or.inl rfl) (qe_op op_cat (qv 2) (qe_lst (qac (qe_callB (show CallR _ _ (rIsDP K) from call_isinstDP D.R.cl) (by rfl) T.isi PyProof.Rows.boot_isinstance (qac (qv 0) (qac (qe_glob (v := .ref o9) rfl D.m9 rfl) qa_nil))) (qac (qe_callB (show CallR _ _ (rIsDP K) from call_isinstDP D.R.cl) (by rfl) T.isi PyProof.Rows.boot_isinstance (qac (qv 0) (qac (qe_glob (v := .ref o10) rfl D.m10 rfl) qa_nil))) (qac (qe_callB (show CallR _ _ (rIsDP K) from call_isinstDP D.R.cl) (by rfl) T.isi PyProof.Rows.boot_isinstance (qac (qv 0) (qac (qe_glob (v := .ref o7) rfl D.m7 rfl) qa_nil))) (qac (qe_callB (show CallR _ _ (rIsDP K) from call_isinstDP D.R.cl) (by rfl) T.isi PyProof.Rows.boot_isinstance (qac (qv 0) (qac (qe_glob (v := .ref o8) rfl D.m8 rfl) qa_nil))) qa_nil)))))))
      (qss_cons (qs_set (i := 2) scLOnly.nd rfl (Or.inl rfl) (qe_op op_cat (qv 2) (qe_lst (qac (qe_callB (show CallR _ _ (rIsDP K) from call_isinstDP D.R.cl) (by rfl) T.isi PyProof.Rows.boot_isinstance (qac (qv 0) (qac (qe_glob (v := .ref o2) rfl D.m2 rfl) qa_nil))) (qac (qe_callB (show CallR _ _ (rIsDP K) from call_isinstDP D.R.cl) (by rfl) T.isi PyProof.Rows.boot_isinstance (qac (qv 0) (qac (qe_glob (v := .ref o1) rfl D.m1 rfl) qa_nil))) (qac (qe_callB (show CallR _ _ (rIsDP K) from call_isinstDP D.R.cl) (by rfl) T.isi PyProof.Rows.boot_isinstance (qac (qv 0) (qac (qe_glob (v := .ref o5) rfl D.m5 rfl) qa_nil))) (qac (qe_callB (show CallR _ _ (rIsDP K) from call_isinstDP D.R.cl) (by rfl) T.isi PyProof.Rows.boot_isinstance (qac (qv 0) (qac (qe_glob (v := .ref o11) rfl D.m11 rfl) qa_nil))) qa_nil)))))))
      (qss_cons (qs_set (i := 2) scLOnly.nd rfl (Or.inl rfl) (qe_op op_cat (qv 2) (qe_lst (qac (qe_callB (show CallR _ _ (rIsDP K) from call_isinstDP D.R.cl) (by rfl) T.isi PyProof.Rows.boot_isinstance (qac (qv 0) (qac (qe_glob (v := .ref o12) rfl D.m12 rfl) qa_nil))) (qac (qe_callB (show CallR _ _ (rIsDP K) from call_isinstDP D.R.cl) (by rfl) T.isi PyProof.Rows.boot_isinstance (qac (qv 0) (qac (qe_glob (v := .ref o13) rfl D.m13 rfl) qa_nil))) qa_nil)))))
      (qss_one (qs_ret (qe_and (qe_callB (show CallR _ _ (rIsDP K) from call_isinstDP D.R.cl) (by rfl) T.isi PyProof.Rows.boot_isinstance (qac (qv 0) (qac (qe_glob (v := .ref M) rfl D.mM rfl) qa_nil))) (qe_and (qe_callB (show CallR _ _ (rIsDP K) from call_isinstDP D.R.cl) (by rfl) T.isi PyProof.Rows.boot_isinstance (qac (qv 0) (qac (qe_bltn (v := .ty "ValueError") rfl D.mV (by decide +kernel) rfl) qa_nil))) (qe_one (qe_cmpR (op_eqD hr.units) (qv 2) (qe_comp (g := gName 0) (N := ["_law_k", "_law_at"]) (src := [none, some 1]) rfl (comp_scope (defScope sLOnly) ["_law_e", "_law_at", "_law_kinds"] rfl rfl (by decide +kernel) rfl) (qi_range1 rfl T.range (qac qe_int qa_nil)) (fun _ _ _ _ _ => (qg_name (i := 0) (show (["_law_k", "_law_at"] : List Str).Nodup by decide +kernel) rfl (Or.inl rfl) (Or.inr rfl))) (fun _ _ _ _ _ => qif_nil) (fun _ _ _ _ _ => (qe_cmpR op_eq (qv 0) (qv 1) (nomark _)))) (nomark _))))))))))), ?_⟩
    have kr : ∀ {c : Addr} {b : Bool}, PySem.W.kitOne K (.ref C) (.ref c) = some b → ∀ u, RelV (.ref c) u → PySem.W.kitOne K (.ref C) u = some b := fun {c b} hk u hu => by rw [show u = Value.ref c from hu]; exact hk
    refine ⟨_, rfl, a, C, dx, _, false, rfl, ha, D.R.eC, kr D.R.q3, _, rfl, a, C, dx, _, true, rfl, ha, D.R.eC, kr D.R.kC, _, rfl, a, C, dx, _, false, rfl, ha, D.R.eC, kr D.R.q6, _, rfl, a, C, dx, _, false, rfl, ha, D.R.eC, kr D.R.q4, by show 4 ≤ sizeLine; decide, fun l1 h1 => ?_⟩
    have w1 : Same H (L2.upd H l1 (.lst [V.bl false, V.bl true, V.bl false, V.bl false])) := same_new h1
    have e1 : (L2.upd H l1 (.lst [V.bl false, V.bl true, V.bl false, V.bl false])) l1 = some (.lst ([false, true, false, false].map V.bl)) := upd_same
    generalize L2.upd H l1 (.lst [V.bl false, V.bl true, V.bl false, V.bl false]) = H1 at w1 e1 ⊢
    have ha1 := w1 _ _ ha
    refine ⟨_, rfl, _, rfl, a, C, dx, _, false, rfl, ha1, D.R.eC, kr D.R.q9, _, rfl, a, C, dx, _, false, rfl, ha1, D.R.eC, kr D.R.q10, _, rfl, a, C, dx, _, false, rfl, ha1, D.R.eC, kr D.R.q7, _, rfl, a, C, dx, _, false, rfl, ha1, D.R.eC, kr D.R.q8, by show 4 ≤ sizeLine; decide, fun m2 hm2 => ?_⟩
    have v2 := same_new (o := .lst [V.bl false, V.bl false, V.bl false, V.bl false]) hm2
    refine ⟨l1, m2, _, _, rfl, rfl, v2 _ _ e1, upd_same, by show 8 ≤ sizeLine; decide, fun l2 h2 => ?_⟩
    have w2 := w1.trans (v2.trans (same_new (o := .lst ([false, true, false, false].map V.bl ++ [V.bl false, V.bl false, V.bl false, V.bl false])) h2))
    have e2 : (L2.upd (L2.upd H1 m2 (.lst [V.bl false, V.bl false, V.bl false, V.bl false])) l2 (.lst ([false, true, false, false].map V.bl ++ [V.bl false, V.bl false, V.bl false, V.bl false]))) l2 = some (.lst ([false, true, false, false, false, false, false, false].map V.bl)) := upd_same
    generalize L2.upd (L2.upd H1 m2 (.lst [V.bl false, V.bl false, V.bl false, V.bl false])) l2 (.lst ([false, true, false, false].map V.bl ++ [V.bl false, V.bl false, V.bl false, V.bl false])) = H2 at w2 e2 ⊢
    have ha2 := w2 _ _ ha
    refine ⟨_, rfl, _, rfl, a, C, dx, _, false, rfl, ha2, D.R.eC, kr D.R.q2, _, rfl, a, C, dx, _, false, rfl, ha2, D.R.eC, kr D.R.q1, _, rfl, a, C, dx, _, false, rfl, ha2, D.R.eC, kr D.R.q5, _, rfl, a, C, dx, _, false, rfl, ha2, D.R.eC, kr D.R.q11, by show 4 ≤ sizeLine; decide, fun m3 hm3 => ?_⟩
    have v3 := same_new (o := .lst [V.bl false, V.bl false, V.bl false, V.bl false]) hm3
    refine ⟨l2, m3, _, _, rfl, rfl, v3 _ _ e2, upd_same, by show 12 ≤ sizeLine; decide, fun l3 h3 => ?_⟩
    have w3 := w2.trans (v3.trans (same_new (o := .lst ([false, true, false, false, false, false, false, false].map V.bl ++ [V.bl false, V.bl false, V.bl false, V.bl false])) h3))
    have e3 : (L2.upd (L2.upd H2 m3 (.lst [V.bl false, V.bl false, V.bl false, V.bl false])) l3 (.lst ([false, true, false, false, false, false, false, false].map V.bl ++ [V.bl false, V.bl false, V.bl false, V.bl false]))) l3 = some (.lst ([false, true, false, false, false, false, false, false, false, false, false, false].map V.bl)) := upd_same
    generalize L2.upd (L2.upd H2 m3 (.lst [V.bl false, V.bl false, V.bl false, V.bl false])) l3 (.lst ([false, true, false, false, false, false, false, false].map V.bl ++ [V.bl false, V.bl false, V.bl false, V.bl false])) = H3 at w3 e3 ⊢
    have ha3 := w3 _ _ ha
    refine ⟨_, rfl, _, rfl, a, C, dx, _, false, rfl, ha3, D.R.eC, kr D.R.q12, _, rfl, a, C, dx, _, false, rfl, ha3, D.R.eC, kr D.R.q13, by show 2 ≤ sizeLine; decide, fun m4 hm4 => ?_⟩
    have v4 := same_new (o := .lst [V.bl false, V.bl false]) hm4
    refine ⟨l3, m4, _, _, rfl, rfl, v4 _ _ e3, upd_same, by show 14 ≤ sizeLine; decide, fun l4 h4 => ?_⟩
    have w4 := w3.trans (v4.trans (same_new (o := .lst ([false, true, false, false, false, false, false, false, false, false, false, false].map V.bl ++ [V.bl false, V.bl false])) h4))
    have e4 : (L2.upd (L2.upd H3 m4 (.lst [V.bl false, V.bl false])) l4 (.lst ([false, true, false, false, false, false, false, false, false, false, false, false].map V.bl ++ [V.bl false, V.bl false]))) l4 = some (.lst ([false, true, false, false, false, false, false, false, false, false, false, false, false, false].map V.bl)) := upd_same
    generalize L2.upd (L2.upd H3 m4 (.lst [V.bl false, V.bl false])) l4 (.lst ([false, true, false, false, false, false, false, false, false, false, false, false].map V.bl ++ [V.bl false, V.bl false])) = H4 at w4 e4 ⊢
    have ha4 := w4 _ _ ha
    refine ⟨_, rfl, a, C, dx, _, true, rfl, ha4, D.R.eC, kr D.R.kM, _, rfl, iteT ?_⟩
    refine ⟨_, rfl, a, C, dx, _, true, rfl, ha4, D.R.eC, (fun u hu => by rw [show u = Value.type "ValueError" from hu]; exact D.R.kV), _, rfl, iteT ?_⟩
    refine ⟨_, rfl, 14, rfl, by omega, by omega, comp_rng (lo := 0) (n := 14) (fun i zs H2 => H2 = H4 ∧ zs = ((List.range i).map fun k => decide (k = 1)).map V.bl) ⟨rfl, rfl⟩ ?_ ?_⟩
    · rintro i zs H2 N hi ⟨rfl, rfl⟩ nx
      refine ⟨Weak.set (by intro v z; cases z), ⟨_, rfl, _, rfl, rfl, by rw [List.length_map, List.length_map, List.length_range]; exact Nat.lt_of_lt_of_le hi (by decide), nx _ _ ⟨rfl, ?_⟩⟩⟩
      rw [List.range_succ, List.map_append, List.map_append]
      have : decide (V.int (0 + ((i : Nat) : Int)) = V.int 1) = decide (i = 1) := by
        by_cases z : i = 1
        · subst z; rfl
        · rw [decide_eq_false z, decide_eq_false fun e => z (by injection e with e; omega)]
      rw [this]
      rfl
    · rintro zs H2 ⟨rfl, rfl⟩
      refine ⟨by decide, fun r hr' => ?_⟩
      have w5 := same_new (o := .lst (((List.range 14).map fun k => decide (k = 1)).map V.bl)) hr'
      refine ⟨_, _, bls_isD (w5 _ _ e4), bls_isD (bs := (List.range 14).map fun k => decide (k = 1)) upd_same, by decide +kernel, by decide +kernel, ?_⟩
      exact q _ (w4.trans w5)
/-! ### the question asked: a function made at run time -/
def inDef (s : Stmt) : Stmt := (defBody s).getD 0 (.Pass ⟨0, 0, 0, 0⟩)
def posOf (s : Stmt) : Pos := match s with
  | .FunctionDef _ _ _ _ _ _ _ _ _ p => p
  | _ => ⟨0, 0, 0, 0⟩
abbrev mAsk : L2.Made := ⟨"_law_ask_here", "_law_ask.<locals>._law_ask_here", defArgs (inDef sLAsk), defBody (inDef sLAsk), defScope (inDef sLAsk), posOf (inDef sLAsk)⟩
theorem scLAsk : FnScope ["_law_field_here", "_law_word", "_law_ask_here"] ["_law_field_here", "_law_word"] (defScope sLAsk) := ⟨rfl, rfl, rfl, by decide +kernel, rfl, by decide +kernel, by decide +kernel⟩
theorem ok_ask {f c Pt : Addr} {fd : FuncData} (F : Fun K "_law_ask" "_law_ask" sLAsk f fd) (hc : fd.code = .ref c) (N : Nst mg base c Pt) : FnOk P w K mg base CX0 1 f fd ["_law_field_here", "_law_word"] (spMaker mAsk Pt "_law_field_here" "_law_word") :=
  ok_maker (k := 0) (m := mAsk) F scLAsk hc N rfl (fun _ _ _ => rfl) (fun _ => rfl) (fun _ => rfl) rfl rfl (fun _ _ _ => by kernel_rfl) rfl rfl (fun _ => rfl) rfl (by decide +kernel) (by decide +kernel)
theorem clAsk : ClScope "_law_things" "_law_field_here" "_law_word" mAsk.scope := ⟨rfl, rfl, rfl, by decide +kernel, rfl, rfl, rfl, fun y h => by
  have hm := PySem.mem_of_lookup h
  have e : mAsk.scope.names = ([("_law_things", NameKind.local), ("_law_field_here", NameKind.free), ("_law_word", NameKind.free)] : List (Str × NameKind)) := rfl
  rw [e] at hm
  simp only [List.mem_cons, Prod.mk.injEq, List.not_mem_nil, or_false] at hm
  rcases hm with ⟨_, z⟩ | ⟨z, _⟩ | ⟨z, _⟩
  · cases z
  · exact .inl z
  · exact .inr z, by decide +kernel⟩
/-- such a function -/
def Clo (H : Hp) (g : Addr) (x y : V) : Prop := ∃ c' c1 c2, H g = some (fnPhi mAsk g [("_law_word", c2), ("_law_field_here", c1)] c') ∧ H c' = some (codePhi c' mAsk.qual) ∧ c1 ≠ c2 ∧ H c1 = some (cellPhi c1 x) ∧ H c2 = some (cellPhi c2 y)
theorem Clo.sm {H H' : Hp} (s : Same H H') {g : Addr} {x y : V} (h : Clo H g x y) : Clo H' g x y := by
  obtain ⟨c', c1, c2, a, b, d, e, f⟩ := h
  exact ⟨c', c1, c2, s _ _ a, s _ _ b, d, s _ _ e, s _ _ f⟩
theorem Clo.fn {H : Hp} {g : Addr} {x y : V} (h : Clo H g x y) : FnG H g := by
  obtain ⟨c', c1, c2, a, _⟩ := h
  exact ⟨_, _, _, a⟩
/-- what is none of the field is asked -/
def AskX (H : Hp) (n : Nat) (wd : Str) (xs : List V) : Prop := ((wd = "plus" ∨ wd = "minus" ∨ wd = "times") ∧ ∃ x y, xs = [x, y] ∧ (OddAt H n x ∨ (GoodN n x ∧ OddAt H n y))) ∨ (wd = "back" ∧ ∃ x, xs = [x] ∧ (OddAt H n x ∨ (x = .int 0 ∧ 0 < n)))
theorem OddAt.hid {H : Hp} {n : Nat} {v : V} {c1 c2 : Addr} {x y : V} (h1 : H c1 = some (cellPhi c1 x)) (h2 : H c2 = some (cellPhi c2 y)) (h : OddAt H n v) : OddAt (hid2 H c1 c2) n v := by
  rcases h with h | h | h | h | ⟨l, xs, rfl, h⟩
  · exact .inl h
  · exact .inr (.inl h)
  · exact .inr (.inr (.inl h))
  · exact .inr (.inr (.inr (.inl h)))
  · refine .inr (.inr (.inr (.inr ⟨l, xs, rfl, ?_⟩)))
    rw [hid2_ne (fun z => by rw [z, h1] at h; cases h) (fun z => by rw [z, h2] at h; cases h), h]
def spAskX (C CF : Addr) (g : Addr) : Sp := fun vs H _ E => ∃ (fa t : Addr) (p : Nat) (row : List Nat) (wd : Str) (xs : List V), vs = [.ref t] ∧ Clo H g (.ref fa) (.str wd) ∧ FieldAt CF H fa p row ∧ H t = some (.lst xs) ∧ AskX H (nF p row) wd xs ∧ ∀ dx H', Same H H' → E (.ref C) dx H'
theorem ask_run {C CF : Addr} (Z : FieldK K CF) (pPl : Mp P w K mg base (CXD P w) 4 CF "plus" ["self", "a", "b"] (spBinX C CF)) (pMi : Mp P w K mg base (CXD P w) 4 CF "minus" ["self", "a", "b"] (spBinX C CF)) (pTi : Mp P w K mg base (CXD P w) 4 CF "times" ["self", "a", "b"] (spBinX C CF)) (pBa : Mp P w K mg base (CXD P w) 4 CF "back" ["self", "a"] (spBackX C CF))
    (A : Around) (outer : List Env) (s : Shared) (H : Hp) (us : List Value) (vs : List V) (Q : VK) (E : XK) (g : Addr) (hr : Room 5 A) (e0 : Env0 P w K mg base A outer s H) (r : Vals vs us) (h : spAskX C CF g vs H Q E) :
    codeAny (model P w) A (.call (.ref g) ⟨us, []⟩) (CR (CXD P w) outer P w H s Q E) s := by
  obtain ⟨fa, t, p, row, wd, xs, rfl, ⟨c', c1, c2, hg, hcc, h12, h1, h2⟩, ⟨dx, rr, hf, hr'⟩, ht, hA, q⟩ := h
  refine inner_run (n0 := "_law_things") (n1 := "_law_field_here") (n2 := "_law_word") (k := 4) hr e0 clAsk hg hcc h12 h1 h2 r (fun cl doc pm ctv u s => .of_eq rfl) fun hr4 => ?_
  have q' : ∀ dx H', Same (hid2 H c1 c2) H' → E (.ref C) dx (bak2 H' c1 c2 (.ref fa) (.str wd)) := fun dx H' s => q dx _ (bak2_same h12 h1 h2 s)
  have hid : ∀ {b : Addr} {o : HO}, H b = some o → (∀ φ, o ≠ .ext φ) → hid2 H c1 c2 b = some o := fun {b o} e n => by
    rw [hid2_ne (fun z => by rw [z, h1] at e; cases e; exact n _ rfl) (fun z => by rw [z, h2] at e; cases e; exact n _ rfl), e]
  have hF' : FieldAt CF (hid2 H c1 c2) fa p row := ⟨dx, rr, hid hf (fun _ z => by cases z), hid hr' (fun _ z => by cases z)⟩
  have hf' := hid hf (fun _ z => by cases z)
  have ht' := hid ht (fun _ z => by cases z)
  refine ⟨_, (qss_cons (qs_if (qt_cmpR op_eq (qv 2) qe_str (nomark _)) (qss_one (qs_ret (qe_methP pPl Z.cl hr4 (qv 1) (passF rfl) (qac (qe_ix ix_list (qv 0) qe_int (fun _ _ => rfl)) (qac (qe_ix ix_list (qv 0) qe_int (fun _ _ => rfl)) qa_nil))))) qss_nil)
    (qss_cons (qs_if (qt_cmpR op_eq (qv 2) qe_str (nomark _)) (qss_one (qs_ret (qe_methP pMi Z.cl hr4 (qv 1) (passF rfl) (qac (qe_ix ix_list (qv 0) qe_int (fun _ _ => rfl)) (qac (qe_ix ix_list (qv 0) qe_int (fun _ _ => rfl)) qa_nil))))) qss_nil)
    (qss_cons (qs_if (qt_cmpR op_eq (qv 2) qe_str (nomark _)) (qss_one (qs_ret (qe_methP pTi Z.cl hr4 (qv 1) (passF rfl) (qac (qe_ix ix_list (qv 0) qe_int (fun _ _ => rfl)) (qac (qe_ix ix_list (qv 0) qe_int (fun _ _ => rfl)) qa_nil))))) qss_nil)
    (qss_one (qs_ret (qe_methP pBa Z.cl hr4 (qv 1) (passF rfl) (qac (qe_ix ix_list (qv 0) qe_int (fun _ _ => rfl)) qa_nil))))))), ?_⟩
  rcases hA with ⟨hw, x, y, rfl, ho⟩ | ⟨rfl, x, rfl, ho⟩
  · have ho' : OddAt (hid2 H c1 c2) (nF p row) x ∨ (GoodN (nF p row) x ∧ OddAt (hid2 H c1 c2) (nF p row) y) := ho.imp (fun z => z.hid h1 h2) fun z => ⟨z.1, z.2.hid h1 h2⟩
    rcases hw with rfl | rfl | rfl
    · refine ⟨_, rfl, rfl, _, rfl, ifT (by rfl) ?_⟩
      exact ⟨_, rfl, fa, dx, _, rfl, hf', fld_no _ _ _ (by decide +kernel) (by decide +kernel) (by decide +kernel), _, rfl, t, _, 0, x, rfl, rfl, SqL.of ht', rfl, _, rfl, t, _, 1, y, rfl, rfl, SqL.of ht', rfl, fa, p, row, x, y, rfl, hF', ho', fun dx => q' dx _ (Same.refl _)⟩
    · refine ⟨_, rfl, rfl, _, rfl, ifF (by decide +kernel) ?_⟩
      refine ⟨_, rfl, rfl, _, rfl, ifT (by rfl) ?_⟩
      exact ⟨_, rfl, fa, dx, _, rfl, hf', fld_no _ _ _ (by decide +kernel) (by decide +kernel) (by decide +kernel), _, rfl, t, _, 0, x, rfl, rfl, SqL.of ht', rfl, _, rfl, t, _, 1, y, rfl, rfl, SqL.of ht', rfl, fa, p, row, x, y, rfl, hF', ho', fun dx => q' dx _ (Same.refl _)⟩
    · refine ⟨_, rfl, rfl, _, rfl, ifF (by decide +kernel) ?_⟩
      refine ⟨_, rfl, rfl, _, rfl, ifF (by decide +kernel) ?_⟩
      refine ⟨_, rfl, rfl, _, rfl, ifT (by rfl) ?_⟩
      exact ⟨_, rfl, fa, dx, _, rfl, hf', fld_no _ _ _ (by decide +kernel) (by decide +kernel) (by decide +kernel), _, rfl, t, _, 0, x, rfl, rfl, SqL.of ht', rfl, _, rfl, t, _, 1, y, rfl, rfl, SqL.of ht', rfl, fa, p, row, x, y, rfl, hF', ho', fun dx => q' dx _ (Same.refl _)⟩
  · have ho' : OddAt (hid2 H c1 c2) (nF p row) x ∨ (x = .int 0 ∧ 0 < nF p row) := ho.imp (fun z => z.hid h1 h2) id
    refine ⟨_, rfl, rfl, _, rfl, ifF (by decide +kernel) ?_⟩
    refine ⟨_, rfl, rfl, _, rfl, ifF (by decide +kernel) ?_⟩
    refine ⟨_, rfl, rfl, _, rfl, ifF (by decide +kernel) ?_⟩
    exact ⟨_, rfl, fa, dx, _, rfl, hf', fld_no _ _ _ (by decide +kernel) (by decide +kernel) (by decide +kernel), _, rfl, t, _, 0, x, rfl, rfl, SqL.of ht', rfl, fa, p, row, x, rfl, hF', ho', fun dx => q' dx _ (Same.refl _)⟩
/-! ### refused -/
def spRefK (CF : Addr) : Sp := fun vs H Q _ => ∃ (g fa t : Addr) (p : Nat) (row : List Nat) (wd : Str) (xs : List V), vs = [.ref g, .ref t] ∧ Clo H g (.ref fa) (.str wd) ∧ FieldAt CF H fa p row ∧ H t = some (.lst xs) ∧ AskX H (nF p row) wd xs ∧ ∀ H', Same H H' → Q (.bl true) H'
theorem scRef : FnScope ["_law_ask_here", "_law_things", "_law_refused_here", "_law_e"] ["_law_ask_here", "_law_things"] (defScope sRef) := ⟨rfl, rfl, rfl, by decide +kernel, rfl, by decide +kernel, by decide +kernel⟩
theorem ok_ref {C CF f o1 o2 o3 o4 o5 o6 o7 o8 o9 o10 o11 o12 o13 : Addr} {fd : FuncData} (F : Fun K "_law_refused" "_law_refused" sRef f fd) (D : MarksD K mg M C o1 o2 o3 o4 o5 o6 o7 o8 o9 o10 o11 o12 o13) (Z : FieldK K CF) (pPl : Mp P w K mg base (CXD P w) 4 CF "plus" ["self", "a", "b"] (spBinX C CF)) (pMi : Mp P w K mg base (CXD P w) 4 CF "minus" ["self", "a", "b"] (spBinX C CF)) (pTi : Mp P w K mg base (CXD P w) 4 CF "times" ["self", "a", "b"] (spBinX C CF)) (pBa : Mp P w K mg base (CXD P w) 4 CF "back" ["self", "a"] (spBackX C CF)) (pLOnly : Pm P w K mg base CX0 1 "_law_only" ["_law_e", "_law_at"] (spOnly C)) : FnOk P w K mg base CX0 6 f fd ["_law_ask_here", "_law_things"] (spRefK CF) := by
  refine F.okQ scRef (fun vs H Q E h => ?_) (fun cdv A outer s H vs Q E hr5 h => ?_)
  · obtain ⟨g, fa, t, p, row, wd, xs, rfl, _⟩ := h
    rfl
  · obtain ⟨g, fa, t, p, row, wd, xs, rfl, hG, hF, ht, hA, q⟩ := h
    have hr1 := hr5.mono (show 1 ≤ 5 by decide)
    refine ⟨_, (qss_cons (qs_set (i := 2) scRef.nd rfl (Or.inl rfl) qe_non)
      (qss_cons (qs_tryK (tb := _) (i := 3) rfl rfl rfl (fun pn E0 σ0 => qss_one (qs_expr (qe_callG (W := spAskX C CF) (qv 0) (fun A outer s H us vs Q E g hr e0 r h => ask_run Z pPl pMi pTi pBa A outer s H us vs Q E g hr e0 r h) hr5 (passTK rfl) (qac (qv 1) qa_nil)))) rfl D.mM D.R.eM scRef.nd rfl rfl (fun e => qss_one (qs_set (i := 2) scRef.nd rfl (Or.inl rfl) (qv 3))))
      (qss_one (qs_ret (qe_and (qe_cmpR op_notN (qv 2) qe_non (nomark _)) (qe_one (qe_callP pLOnly hr1 rfl pass0 (qac (qv 2) (qac qe_int qa_nil))))))))), ?_⟩
    refine ⟨rfl, _, rfl, g, rfl, hG.fn, _, rfl, hG.fn, fa, t, p, row, wd, xs, rfl, hG, hF, ht, hA, fun dx H1 s1 => ⟨C, rfl, D.R.sub, fun e he => ?_⟩⟩
    have w1 := same_new (o := XD e C dx) he
    refine ⟨_, rfl, ?_⟩
    refine ⟨_, rfl, rfl, true, rfl, iteT ?_⟩
    exact ⟨_, rfl, e, dx, rfl, upd_same, fun H2 s2 => q _ (s1.trans (w1.trans s2))⟩
/-! ### all but the tables stays -/
def KT (H H' : Hp) : Prop := ∀ b o, (∀ ps, o ≠ .tbl ps) → H b = some o → H' b = some o
theorem KT.of {H H' : Hp} (s : Same H H') : KT H H' := fun b o _ e => s b o e
theorem KT.trans {H H1 H2 : Hp} (a : KT H H1) (b : KT H1 H2) : KT H H2 := fun c o n e => b c o n (a c o n e)
theorem KT.fld {H H' : Hp} (s : KT H H') {C a : Addr} {p : Nat} {row : List Nat} (h : FieldAt C H a p row) : FieldAt C H' a p row := by
  obtain ⟨dx, r, h1, h2⟩ := h
  exact ⟨dx, r, s _ _ (fun _ z => by cases z) h1, s _ _ (fun _ z => by cases z) h2⟩
theorem KT.odd {H H' : Hp} (s : KT H H') {n : Nat} {v : V} (h : OddAt H n v) : OddAt H' n v := by
  rcases h with h | h | h | h | ⟨l, xs, rfl, h⟩
  · exact .inl h
  · exact .inr (.inl h)
  · exact .inr (.inr (.inl h))
  · exact .inr (.inr (.inr (.inl h)))
  · exact .inr (.inr (.inr (.inr ⟨l, xs, rfl, s _ _ (fun _ z => by cases z) h⟩)))
theorem KT.but {H H' : Hp} {m : L2.Made} {Pt : Addr} (ht : TabSt m Pt H) (h : ∀ b o, b ≠ Pt → H b = some o → H' b = some o) : KT H H' := fun b o n e => h b o (fun z => by
  subst z
  rcases ht with ht | ⟨c', ht, _⟩
  · rw [ht] at e
    cases e
    exact n _ rfl
  · rw [ht] at e
    cases e
    exact n _ rfl) e
theorem tab_sm {H H' : Hp} {m : L2.Made} {Pt : Addr} (s : Same H H') (h : TabSt m Pt H) : TabSt m Pt H' := by
  rcases h with h | ⟨c', h1, h2⟩
  · exact .inl (s _ _ h)
  · exact .inr ⟨c', s _ _ h1, s _ _ h2⟩
/-- asked, and refused: what is there behind it -/
theorem asked {CF Pt fa g c' c1 c2 t : Addr} {H H1 : Hp} {p : Nat} {row : List Nat} {wd : Str} {xs : List V} (hF : FieldAt CF H fa p row) (hT : TabSt mAsk Pt H) (hA : ∀ H', KT H H' → AskX H' (nF p row) wd xs)
    (up : ∀ b o, b ≠ Pt → H b = some o → H1 b = some o) (hP : H1 Pt = some (tabOf mAsk.pos c')) (hcc : H1 c' = some (codePhi c' mAsk.qual)) (hf : H1 g = some (fnPhi mAsk g [("_law_word", c2), ("_law_field_here", c1)] c')) (h12 : c1 ≠ c2) (k1 : H1 c1 = some (cellPhi c1 (.ref fa))) (k2 : H1 c2 = some (cellPhi c2 (.str wd))) (ht : H1 t = none)
    : Clo (upd H1 t (.lst xs)) g (.ref fa) (.str wd) ∧ FieldAt CF (upd H1 t (.lst xs)) fa p row ∧ AskX (upd H1 t (.lst xs)) (nF p row) wd xs ∧ ∀ H2, Same (upd H1 t (.lst xs)) H2 → KT H H2 ∧ TabSt mAsk Pt H2 := by
  have a1 : KT H H1 := KT.but hT up
  have a2 := same_new (o := .lst xs) ht
  have a3 := a1.trans (KT.of a2)
  exact ⟨Clo.sm a2 ⟨c', c1, c2, hf, hcc, h12, k1, k2⟩, a3.fld hF, hA _ a3, fun H2 s2 => ⟨a3.trans (KT.of s2), tab_sm (a2.trans s2) (.inr ⟨c', hP, hcc⟩)⟩⟩
def spAllK (CF Pt : Addr) : Sp := fun vs H Q _ => ∃ (fa : Addr) (p : Nat) (row : List Nat) (x y : V), vs = [.ref fa, x, y] ∧ FieldAt CF H fa p row ∧ TabSt mAsk Pt H ∧ GoodN (nF p row) x ∧ OddAt H (nF p row) y ∧ ∀ H', KT H H' → TabSt mAsk Pt H' → Q (.bl true) H'
theorem scLAllRefused : FnScope ["_law_field_here", "_law_good", "_law_odd", "_law_word"] ["_law_field_here", "_law_good", "_law_odd"] (defScope sLAllRefused) := ⟨rfl, rfl, rfl, by decide +kernel, rfl, by decide +kernel, by decide +kernel⟩
theorem ok_allref {CF Pt f : Addr} {fd : FuncData} (F : Fun K "_law_all_refused" "_law_all_refused" sLAllRefused f fd) (pLAsk : Pm P w K mg base CX0 1 "_law_ask" ["_law_field_here", "_law_word"] (spMaker mAsk Pt "_law_field_here" "_law_word")) (pRef : Pm P w K mg base CX0 6 "_law_refused" ["_law_ask_here", "_law_things"] (spRefK CF)) : FnOk P w K mg base CX0 7 f fd ["_law_field_here", "_law_good", "_law_odd"] (spAllK CF Pt) := by
  refine F.okQ scLAllRefused (fun vs H Q E h => ?_) (fun cdv A outer s H vs Q E hr6 h => ?_)
  · obtain ⟨fa, p, row, x, y, rfl, _⟩ := h
    rfl
  · obtain ⟨fa, p, row, x, y, rfl, hF, hT, hx, hy, q⟩ := h
    have hr1 := hr6.mono (show 1 ≤ 6 by decide)
    refine ⟨_, (qss_cons (qs_for PassesOwn.never rfl (qi_list (qe_lst (qac qe_str (qac qe_str (qac qe_str qa_nil))))) (qg_name (i := 3) scLAllRefused.nd rfl (Or.inl rfl))
        (qss_one (qs_if (QW.pt (qw_or (qt_not (qt_val (qe_callP pRef hr6 rfl pass0 (qac (qe_callP pLAsk hr1 rfl pass0 (qac (qv 0) (qac (qv 3) qa_nil))) (qac (qe_lst (qac (qv 2) (qac (qv 1) qa_nil))) qa_nil))))) (qw_or1 (qt_not (qt_val (qe_callP pRef hr6 rfl pass0 (qac (qe_callP pLAsk hr1 rfl pass0 (qac (qv 0) (qac (qv 3) qa_nil))) (qac (qe_lst (qac (qv 1) (qac (qv 2) qa_nil))) qa_nil)))))))) (qss_one (qs_ret qe_bl)) qss_nil)))
      (qss_one (qs_ret (qe_callP pRef hr6 rfl pass0 (qac (qe_callP pLAsk hr1 rfl pass0 (qac (qv 0) (qac qe_str qa_nil))) (qac (qe_lst (qac (qv 2) qa_nil)) qa_nil)))))), ?_⟩
    refine ⟨by show 3 ≤ sizeLine; decide, fun l hl => ?_⟩
    have w0 := same_new (o := .lst [V.str "plus", .str "minus", .str "times"]) hl
    refine ⟨l, rfl, ⟨_, SqL.of upd_same⟩, for_list (K := K) (a := l) (xs := [V.str "plus", .str "minus", .str "times"]) (fun i σ Hx => KT H Hx ∧ TabSt mAsk Pt Hx ∧ Hx l = some (.lst [V.str "plus", .str "minus", .str "times"]) ∧ ∃ x3, σ = [some (.ref fa), some x, some y, x3]) ⟨KT.of w0, tab_sm w0 hT, upd_same, _, rfl⟩ (fun i σ Hx _ ⟨_, _, e, _⟩ => SqL.of e) ?_ ?_⟩
    · rintro i v σ Hx hi ⟨kx, tx, hlx, x3, rfl⟩
      obtain ⟨wd, rfl, hw⟩ : ∃ wd, v = V.str wd ∧ (wd = "plus" ∨ wd = "minus" ∨ wd = "times") := by
        have := List.mem_of_getElem? hi
        simp only [List.mem_cons, List.not_mem_nil, or_false] at this
        rcases this with e | e | e
        · exact ⟨_, e, .inl rfl⟩
        · exact ⟨_, e, .inr (.inl rfl)⟩
        · exact ⟨_, e, .inr (.inr rfl)⟩
      refine ⟨_, rfl, _, rfl, ?_⟩
      refine ⟨_, _, rfl, tx, fun g c' c1 c2 H1 up hP hcc hf h12 u1 u2 => ⟨_, rfl, _, rfl, by show 2 ≤ sizeLine; decide, fun t ht => ?_⟩⟩
      obtain ⟨b1, b2, b3, b4⟩ := asked (wd := wd) (xs := [y, x]) (kx.fld hF) tx (fun H1 k1 => .inl ⟨hw, _, _, rfl, .inl (k1.odd (kx.odd hy))⟩) up hP hcc hf h12 u1 u2 ht
      refine ⟨g, fa, t, p, row, _, _, rfl, b1, b2, upd_same, b3, fun H1 s2 => ?_⟩
      obtain ⟨k1, t1⟩ := b4 _ s2
      refine ⟨true, rfl, iteF ?_⟩
      refine ⟨_, rfl, _, rfl, ?_⟩
      have k2 := kx.trans k1
      refine ⟨_, _, rfl, t1, fun g c' c1 c2 H1 up hP hcc hf h12 u1 u2 => ⟨_, rfl, _, rfl, by show 2 ≤ sizeLine; decide, fun t ht => ?_⟩⟩
      obtain ⟨b1, b2, b3, b4⟩ := asked (wd := wd) (xs := [x, y]) (k2.fld hF) t1 (fun H3 k3 => .inl ⟨hw, _, _, rfl, .inr ⟨hx, k3.odd (k2.odd hy)⟩⟩) up hP hcc hf h12 u1 u2 ht
      refine ⟨g, fa, t, p, row, _, _, rfl, b1, b2, upd_same, b3, fun H3 s2 => ?_⟩
      obtain ⟨k3, t3⟩ := b4 _ s2
      refine ⟨true, rfl, iteF ?_⟩
      exact ⟨k2.trans k3, t3, (k1.trans k3) _ _ (fun _ z => by cases z) hlx, _, rfl⟩
    · rintro σ Hx ⟨kx, tx, hlx, x3, rfl⟩
      refine ⟨_, rfl, _, _, rfl, tx, fun g c' c1 c2 H1 up hP hcc hf h12 u1 u2 => ⟨_, rfl, by show 1 ≤ sizeLine; decide, fun t ht => ?_⟩⟩
      obtain ⟨b1, b2, b3, b4⟩ := asked (wd := "back") (xs := [y]) (kx.fld hF) tx (fun H1 k1 => .inr ⟨rfl, _, rfl, .inl (k1.odd (kx.odd hy))⟩) up hP hcc hf h12 u1 u2 ht
      refine ⟨g, fa, t, p, row, _, _, rfl, b1, b2, upd_same, b3, fun H1 s2 => ?_⟩
      obtain ⟨k1, t1⟩ := b4 _ s2
      exact q _ (kx.trans k1) t1
/-! ### the rules of a field -/
theorem bk_facts {p : Nat} {row : List Nat} (O : FOk p row) {a : Nat} (h0 : a ≠ 0) (ha : a < nF p row) : tmV p row a (bkV p row a) = 1 ∧ bkV p row a < nF p row := by
  obtain ⟨b, hb, e⟩ := inv_ex O h0 ha
  obtain ⟨_, h2, h3⟩ := flt_first (f := bkF p row a) hb (decide_eq_true e)
  exact ⟨of_decide_eq_true h2, h3⟩
theorem bk_lt {p : Nat} {row : List Nat} (O : FOk p row) {a : Nat} (h0 : a ≠ 0) (ha : a < nF p row) : bkV p row a < nF p row := (bk_facts O h0 ha).2
theorem bk_ne {p : Nat} {row : List Nat} (O : FOk p row) {a : Nat} (h0 : a ≠ 0) (ha : a < nF p row) : bkV p row a ≠ 0 := fun z => by
  have h := (bk_facts O h0 ha).1
  rw [z, tm_zero O] at h
  cases h
theorem bk_bk {p : Nat} {row : List Nat} (O : FOk p row) {a : Nat} (h0 : a ≠ 0) (ha : a < nF p row) : bkV p row (bkV p row a) = a := by
  have e1 := (bk_facts O h0 ha).1
  obtain ⟨e2, h2⟩ := bk_facts O (bk_ne O h0 ha) (bk_lt O h0 ha)
  have h := tm_assoc O a (bkV p row a) (bkV p row (bkV p row a))
  rw [e1, e2, tm_one O ha, tm_oneL O h2] at h
  exact h
def spRulesK (CF : Addr) : Sp := fun vs H Q _ => ∃ (fa : Addr) (p a b c : Nat) (row : List Nat), vs = [.ref fa, .int ((a : Nat) : Int), .int ((b : Nat) : Int), .int ((c : Nat) : Int)] ∧ FieldAt CF H fa p row ∧ FOk p row ∧ a < nF p row ∧ b < nF p row ∧ c < nF p row ∧ ∀ H', Same H H' → Q (.bl true) H'
theorem scLRules : FnScope ["_law_field_here", "_law_a", "_law_b", "_law_c"] ["_law_field_here", "_law_a", "_law_b", "_law_c"] (defScope sLRules) := ⟨rfl, rfl, rfl, by decide +kernel, rfl, by decide +kernel, by decide +kernel⟩
theorem ok_rules {CF f : Addr} {fd : FuncData} (F : Fun K "_law_rules" "_law_rules" sLRules f fd) (Z : FieldK K CF) (pPl : Mp P w K mg base CX0 4 CF "plus" ["self", "a", "b"] (spBin CF plV)) (pMi : Mp P w K mg base CX0 4 CF "minus" ["self", "a", "b"] (spBin CF mnV)) (pTi : Mp P w K mg base CX0 4 CF "times" ["self", "a", "b"] (spBin CF tmV)) (pBa : Mp P w K mg base CX0 5 CF "back" ["self", "a"] (spBack CF)) : FnOk P w K mg base CX0 6 f fd ["_law_field_here", "_law_a", "_law_b", "_law_c"] (spRulesK CF) := by
  refine F.okQ scLRules (fun vs H Q E h => ?_) (fun cdv A outer s H vs Q E hr5 h => ?_)
  · obtain ⟨fa, p, a, b, c, row, rfl, _⟩ := h
    rfl
  · obtain ⟨fa, p, a, b, c, row, rfl, hF, O, ha, hb, hc, q⟩ := h
    have hr4 := hr5.mono (show 4 ≤ 5 by decide)
    obtain ⟨dx, r, hf, hr'⟩ := id hF
    have n2 := nF_two O
    have n0 : 0 < nF p row := by omega
    have n1 : 1 < nF p row := by omega
    refine ⟨_, (qss_cons (qs_if (QW.pt (qw_or (qt_cmpR op_ne (qe_methP pPl Z.cl hr4 (qv 0) pass0 (qac (qv 1) (qac (qv 2) qa_nil))) (qe_methP pPl Z.cl hr4 (qv 0) pass0 (qac (qv 2) (qac (qv 1) qa_nil))) (nomark _)) (qw_or1 (qt_cmpR op_ne (qe_methP pTi Z.cl hr4 (qv 0) pass0 (qac (qv 1) (qac (qv 2) qa_nil))) (qe_methP pTi Z.cl hr4 (qv 0) pass0 (qac (qv 2) (qac (qv 1) qa_nil))) (nomark _))))) (qss_one (qs_ret qe_bl)) qss_nil)
      (qss_cons (qs_if (qt_cmpR op_ne (qe_methP pPl Z.cl hr4 (qv 0) pass0 (qac (qe_methP pPl Z.cl hr4 (qv 0) pass0 (qac (qv 1) (qac (qv 2) qa_nil))) (qac (qv 3) qa_nil))) (qe_methP pPl Z.cl hr4 (qv 0) pass0 (qac (qv 1) (qac (qe_methP pPl Z.cl hr4 (qv 0) pass0 (qac (qv 2) (qac (qv 3) qa_nil))) qa_nil))) (nomark _)) (qss_one (qs_ret qe_bl)) qss_nil)
      (qss_cons (qs_if (qt_cmpR op_ne (qe_methP pTi Z.cl hr4 (qv 0) pass0 (qac (qe_methP pTi Z.cl hr4 (qv 0) pass0 (qac (qv 1) (qac (qv 2) qa_nil))) (qac (qv 3) qa_nil))) (qe_methP pTi Z.cl hr4 (qv 0) pass0 (qac (qv 1) (qac (qe_methP pTi Z.cl hr4 (qv 0) pass0 (qac (qv 2) (qac (qv 3) qa_nil))) qa_nil))) (nomark _)) (qss_one (qs_ret qe_bl)) qss_nil)
      (qss_cons (qs_if (qt_cmpR op_ne (qe_methP pTi Z.cl hr4 (qv 0) pass0 (qac (qv 1) (qac (qe_methP pPl Z.cl hr4 (qv 0) pass0 (qac (qv 2) (qac (qv 3) qa_nil))) qa_nil))) (qe_methP pPl Z.cl hr4 (qv 0) pass0 (qac (qe_methP pTi Z.cl hr4 (qv 0) pass0 (qac (qv 1) (qac (qv 2) qa_nil))) (qac (qe_methP pTi Z.cl hr4 (qv 0) pass0 (qac (qv 1) (qac (qv 3) qa_nil))) qa_nil))) (nomark _)) (qss_one (qs_ret qe_bl)) qss_nil)
      (qss_cons (qs_if (QW.pt (qw_or (qt_cmpR op_ne (qe_methP pMi Z.cl hr4 (qv 0) pass0 (qac (qe_methP pPl Z.cl hr4 (qv 0) pass0 (qac (qv 1) (qac (qv 2) qa_nil))) (qac (qv 2) qa_nil))) (qv 1) (nomark _)) (qw_or (qt_cmpR op_ne (qe_methP pPl Z.cl hr4 (qv 0) pass0 (qac (qv 1) (qac qe_int qa_nil))) (qv 1) (nomark _)) (qw_or1 (qt_cmpR op_ne (qe_methP pTi Z.cl hr4 (qv 0) pass0 (qac (qv 1) (qac qe_int qa_nil))) (qv 1) (nomark _)))))) (qss_one (qs_ret qe_bl)) qss_nil)
      (qss_one (qs_ret (qe_or (qe_cmpR op_eq (qv 1) qe_int (nomark _)) (qe_one (qe_cmpR op_eq (qe_methP pBa Z.cl hr5 (qv 0) pass0 (qac (qe_methP pBa Z.cl hr5 (qv 0) pass0 (qac (qv 1) qa_nil)) qa_nil)) (qv 1) (nomark _))))))))))), ?_⟩

    refine ⟨_, rfl, fa, dx, _, rfl, (Same.refl H) _ _ hf, fld_no _ _ _ (by decide +kernel) (by decide +kernel) (by decide +kernel), ?_⟩
    refine ⟨_, rfl, ?_⟩
    refine ⟨_, rfl, ?_⟩
    refine ⟨fa, p, a, b, row, rfl, hF.sm (Same.refl H), O, ha, hb, fun H1 s1 => ?_⟩
    have t1 := ((Same.refl H).trans s1)
    refine ⟨_, rfl, fa, dx, _, rfl, t1 _ _ hf, fld_no _ _ _ (by decide +kernel) (by decide +kernel) (by decide +kernel), ?_⟩
    refine ⟨_, rfl, ?_⟩
    refine ⟨_, rfl, ?_⟩
    refine ⟨fa, p, b, a, row, rfl, hF.sm t1, O, hb, ha, fun H2 s2 => ?_⟩
    have t2 := (t1.trans s2)
    refine ⟨rfl, _, rfl, niF5 (congrArg (fun n : Nat => ((n : Nat) : Int)) (pl_comm O a b)) ?_⟩
    refine ⟨_, rfl, fa, dx, _, rfl, t2 _ _ hf, fld_no _ _ _ (by decide +kernel) (by decide +kernel) (by decide +kernel), ?_⟩
    refine ⟨_, rfl, ?_⟩
    refine ⟨_, rfl, ?_⟩
    refine ⟨fa, p, a, b, row, rfl, hF.sm t2, O, ha, hb, fun H3 s3 => ?_⟩
    have t3 := (t2.trans s3)
    refine ⟨_, rfl, fa, dx, _, rfl, t3 _ _ hf, fld_no _ _ _ (by decide +kernel) (by decide +kernel) (by decide +kernel), ?_⟩
    refine ⟨_, rfl, ?_⟩
    refine ⟨_, rfl, ?_⟩
    refine ⟨fa, p, b, a, row, rfl, hF.sm t3, O, hb, ha, fun H4 s4 => ?_⟩
    have t4 := (t3.trans s4)
    refine ⟨rfl, _, rfl, niF5 (congrArg (fun n : Nat => ((n : Nat) : Int)) (tm_comm O a b)) ?_⟩
    refine ⟨_, rfl, fa, dx, _, rfl, t4 _ _ hf, fld_no _ _ _ (by decide +kernel) (by decide +kernel) (by decide +kernel), ?_⟩
    refine ⟨_, rfl, fa, dx, _, rfl, t4 _ _ hf, fld_no _ _ _ (by decide +kernel) (by decide +kernel) (by decide +kernel), ?_⟩
    refine ⟨_, rfl, ?_⟩
    refine ⟨_, rfl, ?_⟩
    refine ⟨fa, p, a, b, row, rfl, hF.sm t4, O, ha, hb, fun H5 s5 => ?_⟩
    have t5 := (t4.trans s5)
    refine ⟨_, rfl, ?_⟩
    refine ⟨fa, p, plV p row (a) (b), c, row, rfl, hF.sm t5, O, (pl_lt O _ _), hc, fun H6 s6 => ?_⟩
    have t6 := (t5.trans s6)
    refine ⟨_, rfl, fa, dx, _, rfl, t6 _ _ hf, fld_no _ _ _ (by decide +kernel) (by decide +kernel) (by decide +kernel), ?_⟩
    refine ⟨_, rfl, ?_⟩
    refine ⟨_, rfl, fa, dx, _, rfl, t6 _ _ hf, fld_no _ _ _ (by decide +kernel) (by decide +kernel) (by decide +kernel), ?_⟩
    refine ⟨_, rfl, ?_⟩
    refine ⟨_, rfl, ?_⟩
    refine ⟨fa, p, b, c, row, rfl, hF.sm t6, O, hb, hc, fun H7 s7 => ?_⟩
    have t7 := (t6.trans s7)
    refine ⟨fa, p, a, plV p row (b) (c), row, rfl, hF.sm t7, O, ha, (pl_lt O _ _), fun H8 s8 => ?_⟩
    have t8 := (t7.trans s8)
    refine ⟨rfl, _, rfl, niF5 (congrArg (fun n : Nat => ((n : Nat) : Int)) (pl_assoc O a b c)) ?_⟩
    refine ⟨_, rfl, fa, dx, _, rfl, t8 _ _ hf, fld_no _ _ _ (by decide +kernel) (by decide +kernel) (by decide +kernel), ?_⟩
    refine ⟨_, rfl, fa, dx, _, rfl, t8 _ _ hf, fld_no _ _ _ (by decide +kernel) (by decide +kernel) (by decide +kernel), ?_⟩
    refine ⟨_, rfl, ?_⟩
    refine ⟨_, rfl, ?_⟩
    refine ⟨fa, p, a, b, row, rfl, hF.sm t8, O, ha, hb, fun H9 s9 => ?_⟩
    have t9 := (t8.trans s9)
    refine ⟨_, rfl, ?_⟩
    refine ⟨fa, p, tmV p row (a) (b), c, row, rfl, hF.sm t9, O, (tm_lt O _ _), hc, fun H10 s10 => ?_⟩
    have t10 := (t9.trans s10)
    refine ⟨_, rfl, fa, dx, _, rfl, t10 _ _ hf, fld_no _ _ _ (by decide +kernel) (by decide +kernel) (by decide +kernel), ?_⟩
    refine ⟨_, rfl, ?_⟩
    refine ⟨_, rfl, fa, dx, _, rfl, t10 _ _ hf, fld_no _ _ _ (by decide +kernel) (by decide +kernel) (by decide +kernel), ?_⟩
    refine ⟨_, rfl, ?_⟩
    refine ⟨_, rfl, ?_⟩
    refine ⟨fa, p, b, c, row, rfl, hF.sm t10, O, hb, hc, fun H11 s11 => ?_⟩
    have t11 := (t10.trans s11)
    refine ⟨fa, p, a, tmV p row (b) (c), row, rfl, hF.sm t11, O, ha, (tm_lt O _ _), fun H12 s12 => ?_⟩
    have t12 := (t11.trans s12)
    refine ⟨rfl, _, rfl, niF5 (congrArg (fun n : Nat => ((n : Nat) : Int)) (tm_assoc O a b c)) ?_⟩
    refine ⟨_, rfl, fa, dx, _, rfl, t12 _ _ hf, fld_no _ _ _ (by decide +kernel) (by decide +kernel) (by decide +kernel), ?_⟩
    refine ⟨_, rfl, ?_⟩
    refine ⟨_, rfl, fa, dx, _, rfl, t12 _ _ hf, fld_no _ _ _ (by decide +kernel) (by decide +kernel) (by decide +kernel), ?_⟩
    refine ⟨_, rfl, ?_⟩
    refine ⟨_, rfl, ?_⟩
    refine ⟨fa, p, b, c, row, rfl, hF.sm t12, O, hb, hc, fun H13 s13 => ?_⟩
    have t13 := (t12.trans s13)
    refine ⟨fa, p, a, plV p row (b) (c), row, rfl, hF.sm t13, O, ha, (pl_lt O _ _), fun H14 s14 => ?_⟩
    have t14 := (t13.trans s14)
    refine ⟨_, rfl, fa, dx, _, rfl, t14 _ _ hf, fld_no _ _ _ (by decide +kernel) (by decide +kernel) (by decide +kernel), ?_⟩
    refine ⟨_, rfl, fa, dx, _, rfl, t14 _ _ hf, fld_no _ _ _ (by decide +kernel) (by decide +kernel) (by decide +kernel), ?_⟩
    refine ⟨_, rfl, ?_⟩
    refine ⟨_, rfl, ?_⟩
    refine ⟨fa, p, a, b, row, rfl, hF.sm t14, O, ha, hb, fun H15 s15 => ?_⟩
    have t15 := (t14.trans s15)
    refine ⟨_, rfl, fa, dx, _, rfl, t15 _ _ hf, fld_no _ _ _ (by decide +kernel) (by decide +kernel) (by decide +kernel), ?_⟩
    refine ⟨_, rfl, ?_⟩
    refine ⟨_, rfl, ?_⟩
    refine ⟨fa, p, a, c, row, rfl, hF.sm t15, O, ha, hc, fun H16 s16 => ?_⟩
    have t16 := (t15.trans s16)
    refine ⟨fa, p, tmV p row (a) (b), tmV p row (a) (c), row, rfl, hF.sm t16, O, (tm_lt O _ _), (tm_lt O _ _), fun H17 s17 => ?_⟩
    have t17 := (t16.trans s17)
    refine ⟨rfl, _, rfl, niF5 (congrArg (fun n : Nat => ((n : Nat) : Int)) (tm_add O a b c)) ?_⟩
    refine ⟨_, rfl, fa, dx, _, rfl, t17 _ _ hf, fld_no _ _ _ (by decide +kernel) (by decide +kernel) (by decide +kernel), ?_⟩
    refine ⟨_, rfl, fa, dx, _, rfl, t17 _ _ hf, fld_no _ _ _ (by decide +kernel) (by decide +kernel) (by decide +kernel), ?_⟩
    refine ⟨_, rfl, ?_⟩
    refine ⟨_, rfl, ?_⟩
    refine ⟨fa, p, a, b, row, rfl, hF.sm t17, O, ha, hb, fun H18 s18 => ?_⟩
    have t18 := (t17.trans s18)
    refine ⟨_, rfl, ?_⟩
    refine ⟨fa, p, plV p row (a) (b), b, row, rfl, hF.sm t18, O, (pl_lt O _ _), hb, fun H19 s19 => ?_⟩
    have t19 := (t18.trans s19)
    refine ⟨_, rfl, ?_⟩
    refine ⟨rfl, _, rfl, niF5 (congrArg (fun n : Nat => ((n : Nat) : Int)) (mn_pl O ha)) ?_⟩
    refine ⟨_, rfl, fa, dx, _, rfl, t19 _ _ hf, fld_no _ _ _ (by decide +kernel) (by decide +kernel) (by decide +kernel), ?_⟩
    refine ⟨_, rfl, ?_⟩
    refine ⟨fa, p, a, 0, row, rfl, hF.sm t19, O, ha, n0, fun H20 s20 => ?_⟩
    have t20 := (t19.trans s20)
    refine ⟨_, rfl, ?_⟩
    refine ⟨rfl, _, rfl, niF5 (congrArg (fun n : Nat => ((n : Nat) : Int)) (pl_zeroR O ha)) ?_⟩
    refine ⟨_, rfl, fa, dx, _, rfl, t20 _ _ hf, fld_no _ _ _ (by decide +kernel) (by decide +kernel) (by decide +kernel), ?_⟩
    refine ⟨_, rfl, ?_⟩
    refine ⟨fa, p, a, 1, row, rfl, hF.sm t20, O, ha, n1, fun H21 s21 => ?_⟩
    have t21 := (t20.trans s21)
    refine ⟨_, rfl, ?_⟩
    refine ⟨rfl, _, rfl, niF5 (congrArg (fun n : Nat => ((n : Nat) : Int)) (tm_one O ha)) ?_⟩
    refine ⟨_, rfl, rfl, ?_⟩
    by_cases h0 : a = 0
    · subst h0
      exact ⟨true, rfl, iteT (q _ t21)⟩
    · refine ⟨_, rfl, ifF (fun z => h0 (by have := V.int.inj z; omega)) ?_⟩
      refine ⟨_, rfl, fa, dx, _, rfl, t21 _ _ hf, fld_no _ _ _ (by decide +kernel) (by decide +kernel) (by decide +kernel), ?_⟩
      refine ⟨_, rfl, fa, dx, _, rfl, t21 _ _ hf, fld_no _ _ _ (by decide +kernel) (by decide +kernel) (by decide +kernel), ?_⟩
      refine ⟨_, rfl, ?_⟩
      refine ⟨fa, p, a, row, rfl, hF.sm t21, O, h0, ha, fun H22 s22 => ?_⟩
      have t22 := (t21.trans s22)
      refine ⟨fa, p, bkV p row (a), row, rfl, hF.sm t22, O, (bk_ne O h0 ha), (bk_lt O h0 ha), fun H23 s23 => ?_⟩
      have t23 := (t22.trans s23)
      refine ⟨_, rfl, ?_⟩
      refine ⟨rfl, ?_⟩
      show Q (.bl (decide (V.int ((bkV p row (bkV p row a) : Nat) : Int) = V.int ((a : Nat) : Int)))) H23
      rw [bk_bk O h0 ha, decide_eq_true rfl]
      exact q _ t23
/-! ### how many powers -/
theorem flt_min {f : Nat → Bool} {n x : Nat} (hx : x < n) (hf : f x = true) : (fltL f n).getD 0 0 ≤ x := by
  have hmem : x ∈ fltL f n := List.mem_filter.mpr ⟨List.mem_range.mpr hx, hf⟩
  have hp : (fltL f n).Pairwise (· < ·) := List.Pairwise.filter _ List.pairwise_lt_range
  cases h : fltL f n with
  | nil => rw [h] at hmem; cases hmem
  | cons y r =>
    rw [h] at hmem hp
    show y ≤ x
    rcases List.mem_cons.mp hmem with e | e
    · omega
    · have := (List.pairwise_cons.mp hp).1 x e
      omega
theorem pow_last {p : Nat} {row : List Nat} (O : FOk p row) {a : Nat} (h0 : a ≠ 0) (ha : a < nF p row) : powV p row a (nF p row - 1) = 1 := by
  have h2 := nF_two O
  have e := pow_q O ha
  rw [show nF p row = (nF p row - 1) + 1 by omega, powV] at e
  obtain ⟨b, hb, eb⟩ := inv_ex O h0 ha
  have h := tm_assoc O (powV p row a (nF p row - 1)) a b
  rw [e, eb, tm_one O (pow_lt O _ _)] at h
  exact h.symm
def ordF (p : Nat) (row : List Nat) (a : Nat) : Nat → Bool := fun i => decide (powV p row a (i + 1) = 1)
/-- how many powers a has -/
def ordV (p : Nat) (row : List Nat) (a : Nat) : Nat := (fltL (ordF p row a) (nF p row)).getD 0 0 + 1
theorem ord_facts {p : Nat} {row : List Nat} (O : FOk p row) {a : Nat} (h0 : a ≠ 0) (ha : a < nF p row) : powV p row a (ordV p row a) = 1 ∧ ordV p row a ≤ nF p row - 1 ∧ ∀ j, 1 ≤ j → j < ordV p row a → powV p row a j ≠ 1 := by
  have h2 := nF_two O
  have hl : ordF p row a (nF p row - 2) = true := decide_eq_true (by rw [show nF p row - 2 + 1 = nF p row - 1 by omega]; exact pow_last O h0 ha)
  obtain ⟨_, h3, _⟩ := flt_first (f := ordF p row a) (show nF p row - 2 < nF p row by omega) hl
  have h4 := flt_min (f := ordF p row a) (show nF p row - 2 < nF p row by omega) hl
  refine ⟨of_decide_eq_true h3, by unfold ordV; omega, fun j h1 hj e => ?_⟩
  unfold ordV at hj
  have h5 := flt_min (f := ordF p row a) (n := nF p row) (x := j - 1) (by omega) (decide_eq_true (by rw [show j - 1 + 1 = j by omega]; exact e))
  omega
theorem pow_ne0 {p : Nat} {row : List Nat} (O : FOk p row) {a : Nat} (h0 : a ≠ 0) (ha : a < nF p row) (i : Nat) : powV p row a i ≠ 0 := fun z => by
  have h2 := nF_two O
  have e := pow_mul O a i (nF p row - 1)
  rw [z, pow_zero O (show 1 ≤ nF p row - 1 by omega), Nat.mul_comm, ← pow_mul O, pow_last O h0 ha, pow_one O] at e
  cases e
/-- the powers up to the last are all unlike -/
theorem pow_inj {p : Nat} {row : List Nat} (O : FOk p row) {a : Nat} (h0 : a ≠ 0) (ha : a < nF p row) {i k : Nat} (hik : i < k) (hk : k - i < ordV p row a) : powV p row a i ≠ powV p row a k := fun e => by
  obtain ⟨_, _, h3⟩ := ord_facts O h0 ha
  refine h3 (k - i) (by omega) hk ?_
  have e2 := pow_add O a i (k - i)
  rw [show i + (k - i) = k by omega, ← e] at e2
  obtain ⟨b, hb, eb⟩ := inv_ex O (pow_ne0 O h0 ha i) (pow_lt O a i)
  have h := tm_assoc O b (powV p row a i) (powV p row a (k - i))
  rw [e2, tm_comm O b, eb, tm_oneL O (pow_lt O _ _)] at h
  exact h
theorem ord_gen {p : Nat} {row : List Nat} (O : FOk p row) : ∃ g, g ≠ 0 ∧ g < nF p row ∧ ordV p row g = nF p row - 1 := by
  have h2 := nF_two O
  obtain ⟨g0, e0, all⟩ := exp_ex O
  have hg : ∀ i, powV p row (powV p row g0 1) i = powV p row g0 i := fun i => by rw [pow_mul O, Nat.one_mul]
  have hne : powV p row g0 1 ≠ 0 := fun z => by
    have := hg (nF p row - 1)
    rw [z, pow_zero O (by omega), e0] at this
    cases this
  have hlt := pow_lt O g0 1
  refine ⟨powV p row g0 1, hne, hlt, ?_⟩
  obtain ⟨f1, f2, f3⟩ := ord_facts O hne hlt
  have cyc : ∀ i, powV p row (powV p row g0 1) i ∈ (List.range (ordV p row (powV p row g0 1))).map (powV p row (powV p row g0 1)) := fun i => by
    have hd : 0 < ordV p row (powV p row g0 1) := Nat.succ_pos _
    generalize ordV p row (powV p row g0 1) = d at f1 hd
    generalize powV p row g0 1 = g at f1
    refine List.mem_map.mpr ⟨i % d, List.mem_range.mpr (Nat.mod_lt _ hd), ?_⟩
    have e := pow_add O g (d * (i / d)) (i % d)
    rw [Nat.div_add_mod, ← pow_mul O, f1, pow_one O, tm_oneL O (pow_lt O _ _)] at e
    exact e
  have nd : ((List.range (nF p row - 1)).map (· + 1)).Nodup := by
    refine List.Pairwise.map _ (fun a b (h : a ≠ b) => ?_) List.nodup_range
    omega
  have sub : ∀ x ∈ (List.range (nF p row - 1)).map (· + 1), x ∈ (List.range (ordV p row (powV p row g0 1))).map (powV p row (powV p row g0 1)) := fun x hx => by
    obtain ⟨y, hy, rfl⟩ := List.mem_map.mp hx
    have hy := List.mem_range.mp hy
    obtain ⟨i, e⟩ := all (y + 1) (by omega) (by omega)
    have z := cyc i
    rw [hg i, e] at z
    exact z
  have := List.Nodup.length_le_of_subset nd sub
  rw [List.length_map, List.length_map, List.length_range, List.length_range] at this
  omega
theorem iteNN {i j : Int} {A B : Prop} (h : i ≠ j) (k : A) : if (!decide (V.int i = V.int j)) = true then A else B := by
  rw [decide_eq_false fun z => h (V.int.inj z)]
  exact iteT k
def spMany (CF : Addr) : Sp := fun vs H Q _ => ∃ (f : Addr) (p a : Nat) (row : List Nat), vs = [.ref f, .int ((a : Nat) : Int)] ∧ FieldAt CF H f p row ∧ FOk p row ∧ a ≠ 0 ∧ a < nF p row ∧ ∀ H', Same H H' → Q (.int ((ordV p row a : Nat) : Int)) H'
theorem scMManyPowers : FnScope ["self", "a", "many", "power"] ["self", "a"] (defScope sMManyPowers) := ⟨rfl, rfl, rfl, by decide +kernel, rfl, by decide +kernel, by decide +kernel⟩
theorem ok_many {CF f : Addr} {fd : FuncData} (F : Fun K "many_powers" "Field.many_powers" sMManyPowers f fd) (Z : FieldK K CF) (pTi : Mp P w K mg base CX0 4 CF "times" ["self", "a", "b"] (spBin CF tmV)) : FnOk P w K mg base CX0 5 f fd ["self", "a"] (spMany CF) := by
  refine F.okQ scMManyPowers (fun vs H Q E h => ?_) (fun cdv A outer s H vs Q E hr4 h => ?_)
  · obtain ⟨f, p, a, row, rfl, _⟩ := h
    rfl
  · obtain ⟨f, p, a, row, rfl, hF, O, h0, ha, q⟩ := h
    obtain ⟨dx, r, hf, hr'⟩ := id hF
    obtain ⟨o1, o2, o3⟩ := ord_facts O h0 ha
    have h32 : nF p row ≤ 32 := O.few
    have p1 : powV p row a 1 = a := by rw [powV, powV, tm_oneL O ha]
    refine ⟨_, (qss_cons (qs_set (i := 2) scMManyPowers.nd rfl (Or.inl rfl) qe_int)
      (qss_cons (qs_set (i := 3) scMManyPowers.nd rfl (Or.inl rfl) (qv 1))
      (qss_cons (qs_while PassesOwn.never (qt_cmpR op_ne (qv 3) qe_int (nomark _))
        (qss_cons (qs_set (i := 3) scMManyPowers.nd rfl (Or.inl rfl) (qe_methP pTi Z.cl hr4 (qv 0) pass0 (qac (qv 3) (qac (qv 1) qa_nil))))
        (qss_one (qs_aug (i := 2) scMManyPowers.nd rfl (Or.inl rfl) qe_int ip_add))))
      (qss_one (qs_ret (qv 2)))))), ?_⟩
    refine ⟨_, rfl, ?_⟩
    show tSeq (tWhile _ _) _ _ [some (.ref f), some (.int ((a : Nat) : Int)), some (.int 1), some (.int ((a : Nat) : Int))] H
    refine while_w (fun σ Hx => Same H Hx ∧ ∃ j : Nat, 1 ≤ j ∧ j ≤ ordV p row a ∧ σ = [some (.ref f), some (.int ((a : Nat) : Int)), some (.int ((j : Nat) : Int)), some (.int ((powV p row a j : Nat) : Int))])
      (fun σ _ => match σ with | [_, _, some (.int j), _] => (40 - j).toNat | _ => 0) ⟨Same.refl _, 1, by decide, Nat.succ_pos _, by rw [p1]; rfl⟩ ?_
    rintro mm σ Hx ⟨sx, j, j1, jo, rfl⟩ hmm
    refine ⟨_, rfl, rfl, _, rfl, ?_⟩
    by_cases hj : j = ordV p row a
    · refine niF5 (by rw [hj, o1]; rfl) ?_
      rw [hj]
      exact ⟨_, rfl, q _ sx⟩
    · refine iteNN (fun z => o3 j j1 (by omega) (by omega)) (WTurn.of ?_)
      refine ⟨_, rfl, f, dx, _, rfl, sx _ _ hf, fld_no _ _ _ (by decide +kernel) (by decide +kernel) (by decide +kernel), _, rfl, _, rfl, f, p, powV p row a j, a, row, rfl, hF.sm sx, O, pow_lt O a j, ha, fun H1 s1 => ?_⟩
      refine ⟨_, rfl, _, _, rfl, rfl, ⟨sx.trans s1, j + 1, by omega, by omega, rfl⟩, ?_⟩
      rw [hmm]
      show (40 - (((j : Nat) : Int) + 1)).toNat < (40 - ((j : Nat) : Int)).toNat
      omega
def fstF (p : Nat) (row : List Nat) : Nat → Bool := fun i => decide (ordV p row (i + 1) = nF p row - 1)
/-- the told first -/
def fstV (p : Nat) (row : List Nat) : Nat := (fltL (fstF p row) (nF p row - 1)).getD 0 0 + 1
theorem fst_facts {p : Nat} {row : List Nat} (O : FOk p row) : 0 < (fltL (fstF p row) (nF p row - 1)).length ∧ ordV p row (fstV p row) = nF p row - 1 ∧ fstV p row < nF p row ∧ ∀ j, 1 ≤ j → j < fstV p row → ordV p row j ≠ nF p row - 1 := by
  have h2 := nF_two O
  obtain ⟨g, h0, hg, e⟩ := ord_gen O
  have hf : fstF p row (g - 1) = true := decide_eq_true (by rw [show g - 1 + 1 = g by omega]; exact e)
  obtain ⟨h1, h3, h4⟩ := flt_first (f := fstF p row) (n := nF p row - 1) (show g - 1 < nF p row - 1 by omega) hf
  refine ⟨h1, of_decide_eq_true h3, by unfold fstV; omega, fun j j1 hj e => ?_⟩
  unfold fstV at hj
  have := flt_min (f := fstF p row) (n := nF p row - 1) (x := j - 1) (by omega) (decide_eq_true (by rw [show j - 1 + 1 = j by omega]; exact e))
  omega
def spFirst (CF : Addr) : Sp := fun vs H Q _ => ∃ (f : Addr) (p : Nat) (row : List Nat), vs = [.ref f] ∧ FieldAt CF H f p row ∧ FOk p row ∧ ∀ H', Same H H' → Q (.int ((fstV p row : Nat) : Int)) H'
theorem scMFirst : FnScope ["self"] ["self"] (defScope sMFirst) := ⟨rfl, rfl, rfl, by decide +kernel, rfl, by decide +kernel, by decide +kernel⟩
theorem ok_first {CF f : Addr} {fd : FuncData} (F : Fun K "first" "Field.first" sMFirst f fd) (T : TxtB mg) (Z : FieldK K CF) (pMa : Mp P w K mg base CX0 5 CF "many_powers" ["self", "a"] (spMany CF)) : FnOk P w K mg base CX0 6 f fd ["self"] (spFirst CF) := by
  refine F.okQ scMFirst (fun vs H Q E h => ?_) (fun cdv A outer s H vs Q E hr5 h => ?_)
  · obtain ⟨f, p, row, rfl, _⟩ := h
    rfl
  · obtain ⟨f, p, row, rfl, hF, O, q⟩ := h
    obtain ⟨dx, r, hf, hr'⟩ := id hF
    have h32 : nF p row ≤ 32 := O.few
    have h2 := nF_two O
    obtain ⟨f1, f2, f3, f4⟩ := fst_facts O
    refine ⟨_, (qss_one (qs_ret (qe_ix ix_list (qe_comp (g := gName 0) (N := ["a", "self"]) (src := [none, some 0]) rfl (comp_scope (defScope sMFirst) ["self"] rfl rfl (by decide +kernel) rfl) (qi_range2 rfl T.range (qac qe_int (qac (qe_fld (qv 0) rfl) qa_nil))) (fun _ _ _ _ _ => (qg_name (i := 0) (show (["a", "self"] : List Str).Nodup by decide +kernel) rfl (Or.inl rfl) (Or.inr rfl))) (fun _ _ _ _ _ => (qif_one (qt_cmpR op_eq (qe_methP pMa Z.cl hr5 (qv 1) pass0 (qac (qv 0) qa_nil)) (qe_op op_sub (show QE _ _ (tFld K (tVar 1) "many") from qe_fld (qv 1) rfl) qe_int) (nomark _)))) (fun _ _ _ _ _ => (qv 0))) qe_int (fun _ _ => rfl)))), ?_⟩
    refine ⟨_, rfl, f, CF, dx, _, _, rfl, hf, Z.cl, Z.a1, fld_many .., 1, ((nF p row : Nat) : Int), rfl, by omega, ?_⟩
    rw [show (((nF p row : Nat) : Int) - 1).toNat = nF p row - 1 by omega]
    refine comp_rng (lo := 1) (n := nF p row - 1) (fun i zs H2 => Same H H2 ∧ zs = (fltL (fstF p row) i).map fun x => V.int (((x + 1 : Nat) : Nat) : Int)) ⟨Same.refl _, rfl⟩ ?_ ?_
    · rintro i zs H2 N hi ⟨s2, rfl⟩ nx
      have e := flt_snoc (fstF p row) i
      rw [show (1 : Int) + ((i : Nat) : Int) = ((i + 1 : Nat) : Int) by omega]
      refine ⟨Weak.set (by intro v z; cases z), ⟨_, rfl, f, dx, _, rfl, s2 _ _ hf, fld_no _ _ _ (by decide +kernel) (by decide +kernel) (by decide +kernel), _, rfl, f, p, i + 1, row, rfl, hF.sm s2, O, by omega, by omega, fun H3 s3 => ?_⟩⟩
      refine ⟨_, rfl, f, CF, dx, _, _, rfl, (s2.trans s3) _ _ hf, Z.cl, Z.a1, fld_many .., _, _, rfl, rfl, rfl, _, rfl, ?_⟩
      by_cases hc : ordV p row (i + 1) = nF p row - 1
      · rw [if_pos (show fstF p row i = true from decide_eq_true hc)] at e
        refine ifT (congrArg V.int (by show ((ordV p row (i + 1) : Nat) : Int) = ((nF p row : Nat) : Int) - 1; omega)) ⟨_, rfl, ?_, nx _ _ ⟨s2.trans s3, by rw [e, List.map_append]; rfl⟩⟩
        rw [List.length_map]
        exact Nat.lt_of_le_of_lt (flt_le _ i) (Nat.lt_of_lt_of_le (show i < 33 by omega) (by decide))
      · rw [if_neg (show ¬ fstF p row i = true by unfold fstF; simp [hc]), List.append_nil] at e
        refine ifF (fun z => hc ?_) (nx _ _ ⟨s2.trans s3, by rw [e]⟩)
        have z' : ((ordV p row (i + 1) : Nat) : Int) = ((nF p row : Nat) : Int) - 1 := V.int.inj z
        omega
    · rintro zs H2 ⟨s2, rfl⟩
      refine ⟨by rw [List.length_map]; exact Nat.le_trans (flt_le ..) (Nat.le_trans (show nF p row - 1 ≤ 32 by omega) (by decide)), fun u hu => ?_⟩
      refine ⟨u, _, 0, .int ((fstV p row : Nat) : Int), rfl, rfl, SqL.of upd_same, ?_, q _ (s2.trans (same_new hu))⟩
      unfold fstV
      cases hL : fltL (fstF p row) (nF p row - 1) with
      | nil => rw [hL] at f1; cases f1
      | cons y ys =>
        have e : (y :: ys).map (fun x => V.int (((x + 1 : Nat) : Nat) : Int)) = nats ((y :: ys).map (· + 1)) := by
          unfold nats
          rw [List.map_map]
          rfl
        rw [e]
        exact nat_atQ (k := 0) (Nat.succ_pos _)
def spFR (CF : Addr) : Sp := fun vs H Q _ => ∃ (fa : Addr) (p : Nat) (row : List Nat), vs = [.ref fa, .int ((nF p row : Nat) : Int)] ∧ FieldAt CF H fa p row ∧ FOk p row ∧ ∀ H', Same H H' → Q (.bl true) H'
theorem scLFirstRight : FnScope ["_law_field_here", "_law_size", "_law_a", "_law_seen", "_law_power_here"] ["_law_field_here", "_law_size"] (defScope sLFirstRight) := ⟨rfl, rfl, rfl, by decide +kernel, rfl, by decide +kernel, by decide +kernel⟩
/-- the powers seen -/
def pwL (p : Nat) (row : List Nat) (a j : Nat) : List Nat := (List.range j).map fun i => powV p row a (i + 1)
theorem ok_fright {CF f : Addr} {fd : FuncData} (F : Fun K "_law_first_right" "_law_first_right" sLFirstRight f fd) (T : TxtB mg) (Z : FieldK K CF) (pTi : Mp P w K mg base CX0 4 CF "times" ["self", "a", "b"] (spBin CF tmV)) (pFi : Mp P w K mg base CX0 6 CF "first" ["self"] (spFirst CF)) (pLWhole : Pm P w K mg base CX0 1 "_law_whole" ["_law_found"] spWh) : FnOk P w K mg base CX0 7 f fd ["_law_field_here", "_law_size"] (spFR CF) := by
  refine F.okQ scLFirstRight (fun vs H Q E h => ?_) (fun cdv A outer s H vs Q E hr6 h => ?_)
  · obtain ⟨fa, p, row, rfl, _⟩ := h
    rfl
  · obtain ⟨fa, p, row, rfl, hF, O, q⟩ := h
    have hr4 := hr6.mono (show 4 ≤ 6 by decide)
    have hr1 := hr6.mono (show 1 ≤ 6 by decide)
    obtain ⟨dx, r, hf, hr'⟩ := id hF
    have h32 : nF p row ≤ 32 := O.few
    have h2 := nF_two O
    obtain ⟨f1, f2, f3, f4⟩ := fst_facts O
    have f0 : 1 ≤ fstV p row := Nat.succ_pos _
    refine ⟨_, (qss_cons (qs_for PassesOwn.never rfl (qi_range2 rfl T.range (qac qe_int (qac (qv 1) qa_nil))) (qg_name (i := 2) scLFirstRight.nd rfl (Or.inl rfl))
        (qss_cons (qs_set (i := 3) scLFirstRight.nd rfl (Or.inl rfl) (qe_lst qa_nil))
        (qss_cons (qs_set (i := 4) scLFirstRight.nd rfl (Or.inl rfl) (qv 2))
        (qss_cons (qs_while PassesOwn.never (qt_cmpR op_notIn_seq (qv 4) (qv 3) rfl)
          (qss_cons (qs_expr (qe_bm PySem.F.plainAttrs_list PySem.F.slot_list_append PySem.F.type_list_append mt_append (qv 3) (qac (qv 4) qa_nil)))
          (qss_one (qs_set (i := 4) scLFirstRight.nd rfl (Or.inl rfl) (qe_methP pTi Z.cl hr4 (qv 0) pass0 (qac (qv 4) (qac (qv 2) qa_nil)))))))
        (qss_one (qs_if (qt_cmpR op_eq (qe_callB call_len_seq (by rfl) T.len PySem.boot_len (qac (qv 3) qa_nil)) (qe_op op_sub (qv 1) qe_int) (nomark _)) (qss_one (qs_ret (qe_and (qe_callP pLWhole hr1 rfl pass0 (qac (qe_methP0 pFi Z.cl hr6 (qv 0) pass0) qa_nil)) (qe_one (qe_cmpR op_eq (qe_methP0 pFi Z.cl hr6 (qv 0) pass0) (qv 2) (nomark _)))))) qss_nil))))))
      (qss_one (qs_ret qe_bl))), ?_⟩
    refine ⟨_, rfl, 1, ((nF p row : Nat) : Int), rfl, by omega, ?_⟩
    rw [show (((nF p row : Nat) : Int) - 1).toNat = nF p row - 1 by omega]
    refine for_range (lo := 1) (n := nF p row - 1) (fun i σ Hx => Same H Hx ∧ i < fstV p row ∧ ∃ x2 x3 x4, σ = [some (.ref fa), some (.int ((nF p row : Nat) : Int)), x2, x3, x4]) ⟨Same.refl _, f0, _, _, _, rfl⟩ ?_ ?_
    · rintro i σ Hx hi ⟨sx, hif, x2, x3, x4, rfl⟩
      rw [show (1 : Int) + ((i : Nat) : Int) = ((i + 1 : Nat) : Int) by omega]
      have h0 : i + 1 ≠ 0 := by omega
      have ha : i + 1 < nF p row := by omega
      generalize ea : i + 1 = a at h0 ha ⊢
      obtain ⟨o1, o2, o3⟩ := ord_facts O h0 ha
      have p1 : powV p row a 1 = a := by rw [powV, powV, tm_oneL O ha]
      refine ⟨by show 0 ≤ sizeLine; decide, fun l hl => ⟨_, rfl, ?_⟩⟩
      have w0 := same_new (o := .lst []) hl
      show tSeq (tWhile _ _) _ _ [some (.ref fa), some (.int ((nF p row : Nat) : Int)), some (.int ((a : Nat) : Int)), some (.ref l), some (.int ((a : Nat) : Int))] _
      refine while_w (fun σ H2 => Same Hx H2 ∧ ∃ j : Nat, j ≤ ordV p row a ∧ H2 l = some (.lst (nats (pwL p row a j))) ∧ σ = [some (.ref fa), some (.int ((nF p row : Nat) : Int)), some (.int ((a : Nat) : Int)), some (.ref l), some (.int ((powV p row a (j + 1) : Nat) : Int))])
        (fun σ H2 => match H2 l with | some (.lst xs) => 40 - xs.length | _ => 0) ⟨w0, 0, Nat.zero_le _, upd_same, by rw [p1]⟩ ?_
      rintro mm σ H2 ⟨s2, j, jo, hl2, rfl⟩ hmm
      refine ⟨_, rfl, _, rfl, l, nats (pwL p row a j), rfl, .inl (SqL.of hl2), rfl, flat_nats _, ?_⟩
      have mem : (powV p row a (j + 1) ∈ pwL p row a j) ↔ j = ordV p row a := by
        constructor
        · intro hm
          obtain ⟨i', hi', e'⟩ := List.mem_map.mp hm
          have hi' := List.mem_range.mp hi'
          rcases Nat.lt_or_ge j (ordV p row a) with z | z
          · exact (pow_inj O h0 ha (show i' + 1 < j + 1 by omega) (by omega) e').elim
          · omega
        · intro e
          have o0 : 1 ≤ ordV p row a := Nat.succ_pos _
          refine List.mem_map.mpr ⟨0, List.mem_range.mpr (by omega), ?_⟩
          have e1 : powV p row a (ordV p row a + 1) = a := by rw [powV, o1, tm_oneL O ha]
          rw [e, e1]
          exact p1
      rw [if_pos rfl, inV_nats]
      have len : (pwL p row a j).length = j := by unfold pwL; rw [List.length_map, List.length_range]
      by_cases hj : j = ordV p row a
      · rw [decide_eq_true (mem.mpr hj)]
        refine ⟨_, rfl, iteF ?_⟩
        have s3 := sx.trans s2
        refine ⟨_, rfl, l, _, rfl, .inl (SqL.of hl2), _, rfl, _, _, rfl, rfl, rfl, _, rfl, ?_⟩
        rw [nats_len, len]
        by_cases hq : ordV p row a = nF p row - 1
        · refine ifT (congrArg V.int (by omega)) ?_
          have ef : fstV p row = a := by
            rcases Nat.lt_or_ge a (fstV p row) with z | z
            · exact (f4 a (by omega) z hq).elim
            · omega
          refine ⟨_, rfl, fa, dx, _, rfl, s3 _ _ hf, fld_no _ _ _ (by decide +kernel) (by decide +kernel) (by decide +kernel), fa, p, row, rfl, hF.sm s3, O, fun H5 s5 => ?_⟩
          have s6 := s3.trans s5
          refine ⟨_, rfl, true, rfl, iteT ?_⟩
          refine ⟨_, rfl, fa, dx, _, rfl, s6 _ _ hf, fld_no _ _ _ (by decide +kernel) (by decide +kernel) (by decide +kernel), fa, p, row, rfl, hF.sm s6, O, fun H7 s7 => ?_⟩
          refine ⟨_, rfl, rfl, ?_⟩
          show Q (.bl (decide (V.int ((fstV p row : Nat) : Int) = V.int ((a : Nat) : Int)))) H7
          rw [ef, decide_eq_true rfl]
          exact q _ (s6.trans s7)
        · refine ifF (fun z => hq (by have := V.int.inj z; omega)) ?_
          refine ⟨s3, ?_, _, _, _, rfl⟩
          rcases Nat.lt_or_ge (i + 1) (fstV p row) with z | z
          · omega
          · exact (hq (by rw [← ea, show i + 1 = fstV p row by omega]; exact f2)).elim
      · rw [decide_eq_false fun z => hj (mem.mp z)]
        refine ⟨_, rfl, iteT (WTurn.of ?_)⟩
        refine ⟨_, rfl, .inl ⟨rfl, _, SqL.of hl2⟩, _, rfl, l, _, _, rfl, rfl, hl2, by rw [nats_len, len]; exact Nat.lt_of_lt_of_le (show j < 33 by omega) (by decide), ?_⟩
        have w2 : Same Hx (upd H2 l (.lst (nats (pwL p row a j) ++ [V.int ((powV p row a (j + 1) : Nat) : Int)]))) := fun b o e => by
          rw [upd_ne (ne_of_none e hl)]
          exact s2 _ _ e
        have hl3 : (upd H2 l (.lst (nats (pwL p row a j) ++ [V.int ((powV p row a (j + 1) : Nat) : Int)]))) l = some (.lst (nats (pwL p row a (j + 1)))) := by
          rw [upd_same]
          unfold pwL
          rw [map_snoc, nats_snoc]
        generalize upd H2 l (.lst (nats (pwL p row a j) ++ [V.int ((powV p row a (j + 1) : Nat) : Int)])) = H3 at w2 hl3 ⊢
        have s3 := sx.trans w2
        refine ⟨_, rfl, fa, dx, _, rfl, s3 _ _ hf, fld_no _ _ _ (by decide +kernel) (by decide +kernel) (by decide +kernel), _, rfl, _, rfl, fa, p, powV p row a (j + 1), a, row, rfl, hF.sm s3, O, pow_lt O _ _, ha, fun H4 s4 => ?_⟩
        refine ⟨⟨w2.trans s4, j + 1, by omega, s4 _ _ hl3, rfl⟩, ?_⟩
        rw [hmm, hl2, s4 _ _ hl3]
        show 40 - (nats (pwL p row a (j + 1))).length < 40 - (nats (pwL p row a j)).length
        rw [nats_len, nats_len, len]
        unfold pwL
        rw [List.length_map, List.length_range]
        omega
    · rintro σ Hx ⟨sx, hif, x2, x3, x4, rfl⟩
      omega
/-! ### the law -/
theorem cells_forT {K : PySem.W.Frag} {a : Addr} {ns : List Int} {H : Hp} {σ : St} {tb : TS} {D : Ends} {hi : Int} {g : TG} {k lo : Nat} (hk : k ≤ 1000) (h0 : σ[0]? = some (some (.ref a))) (hS : SqL K H a (ns.map V.int)) (hlen : ns.length ≤ 63) (J : St → Hp → Prop) (hs0 : ∀ Hq, Same H Hq → J σ Hq)
    (turn : ∀ (Hq : Hp), ∀ (c : Int) (σ' : St) (H2 : Hp), J σ' H2 → KT Hq H2 → g (.int c) σ' H2 fun σ2 H3 => tb { D with nx := fun σ4 H4 => KT Hq H4 ∧ J σ4 H4, ct := fun σ4 H4 => KT Hq H4 ∧ J σ4 H4, bk := D.nx } σ2 H3)
    (done : ∀ σ' H', J σ' H' → D.nx σ' H') :
    tFor (iList K (tOp rCat (tLst (tCons (tCall (spCell2 K) [] E0 (tCons (tVar 0) (tCons (tC (.int (k : Int))) tNil))) tNil)) (tSl (rSlL K) (tVar 0) (tPart (tC (.int (lo : Int)))) (tPart (tC (.int hi)))))) g tb D σ H := by
  refine ⟨_, h0, a, ns, k, rfl, hS, hk, fun z0 H0 s0 => ⟨by show 1 ≤ sizeLine; decide, fun l hl => ?_⟩⟩
  have s1 := same_new (o := .lst [.int z0]) hl
  refine ⟨_, h0, _, rfl, _, rfl, a, _, rfl, (s0.trans s1).seq hS, fun b hb => ?_⟩
  have s2 := s1.trans (same_new (o := .lst (cutV (ns.map V.int) (some (lo : Int)) (some hi))) hb)
  have hlb : (upd (upd H0 l (.lst [.int z0])) b (.lst (cutV (ns.map V.int) (some (lo : Int)) (some hi)))) l = some (.lst [.int z0]) := by
    rw [upd_ne (ne_of_none upd_same hb)]
    exact upd_same
  have hcl : (cutV (ns.map V.int) (some (lo : Int)) (some hi)).length ≤ 63 := Nat.le_trans (cutV_length _ _ _) (by rw [List.length_map]; exact hlen)
  refine ⟨l, b, _, _, rfl, rfl, hlb, upd_same, Nat.le_trans (show 1 + _ ≤ 64 from by omega) (by decide), fun q hq => ?_⟩
  have s3 := s2.trans (same_new (o := .lst ([.int z0] ++ cutV (ns.map V.int) (some (lo : Int)) (some hi))) hq)
  refine ⟨q, rfl, ⟨_, SqL.of upd_same⟩, for_list (K := K) (a := q) (xs := [.int z0] ++ cutV (ns.map V.int) (some (lo : Int)) (some hi))
    (fun i σ' H2 => KT (upd (upd (upd H0 l (.lst [.int z0])) b (.lst (cutV (ns.map V.int) (some (lo : Int)) (some hi)))) q (.lst ([.int z0] ++ cutV (ns.map V.int) (some (lo : Int)) (some hi)))) H2 ∧ J σ' H2)
    ⟨KT.of (Same.refl _), hs0 _ (s0.trans s3)⟩ (fun i σ' H2 _ ⟨s4, _⟩ => SqL.of (s4 _ _ (fun _ z => by cases z) upd_same)) ?_ ?_⟩
  · rintro i y σ' H2 hi' ⟨s4, hsg⟩
    obtain ⟨c, rfl⟩ : ∃ c, y = V.int c := by
      rcases List.mem_append.mp (List.mem_of_getElem? hi') with z | z
      · exact ⟨z0, List.mem_singleton.mp z⟩
      · exact cut_ints y z
    exact turn _ c σ' H2 hsg s4
  · rintro σ' H2 ⟨_, hsg⟩
    exact done σ' H2 hsg
theorem mod_nat (z : Int) {q : Nat} (hq : 0 < q) : ∃ x : Nat, z % ((q : Nat) : Int) = ((x : Nat) : Int) ∧ x < q := by
  have h1 := Int.emod_nonneg z (show ((q : Nat) : Int) ≠ 0 by omega)
  have h2 := Int.emod_lt_of_pos z (show (0 : Int) < ((q : Nat) : Int) by omega)
  exact ⟨(z % ((q : Nat) : Int)).toNat, by omega, by omega⟩
theorem odd_pick {H : Hp} {n : Nat} {l : Addr} (hn : n ≤ 32) (hl : H l = some (.lst [.int 1])) (z : Int) : ∃ v, atI [V.int ((n : Nat) : Int), .int (-1), .bl true, .non, .str "1", .ref l, .int (10 ^ 6), .bl false] (z % 8) = some v ∧ OddAt H n v := by
  have h1 := Int.emod_nonneg z (show (8 : Int) ≠ 0 by decide)
  have h2 := Int.emod_lt_of_pos z (show (0 : Int) < 8 by decide)
  obtain ⟨j, hj⟩ : ∃ j : Nat, z % 8 = ((j : Nat) : Int) := ⟨(z % 8).toNat, by omega⟩
  rw [hj]
  have hj8 : j < 8 := by omega
  match j, hj8 with
  | 0, _ => exact ⟨_, atI_nat (j := 0) rfl, .inl ⟨_, rfl, by omega⟩⟩
  | 1, _ => exact ⟨_, atI_nat (j := 1) rfl, .inl ⟨_, rfl, by omega⟩⟩
  | 2, _ => exact ⟨_, atI_nat (j := 2) rfl, .inr (.inl ⟨_, rfl⟩)⟩
  | 3, _ => exact ⟨_, atI_nat (j := 3) rfl, .inr (.inr (.inl rfl))⟩
  | 4, _ => exact ⟨_, atI_nat (j := 4) rfl, .inr (.inr (.inr (.inl ⟨_, rfl⟩)))⟩
  | 5, _ => exact ⟨_, atI_nat (j := 5) rfl, .inr (.inr (.inr (.inr ⟨l, _, rfl, hl⟩)))⟩
  | 6, _ => exact ⟨_, atI_nat (j := 6) rfl, .inl ⟨_, rfl, by omega⟩⟩
  | 7, _ => exact ⟨_, atI_nat (j := 7) rfl, .inr (.inl ⟨_, rfl⟩)⟩
theorem scLaw : FnScope ["_law_script", "_law_p", "_law_row", "_law_field_here", "_law_size", "_law_cell_here", "_law_xs", "_law_odd"] ["_law_script"] (defScope sLaw) := ⟨rfl, rfl, rfl, by decide +kernel, rfl, by decide +kernel, by decide +kernel⟩
theorem ok_law {CF Pt f : Addr} {fd : FuncData} (F : Fun K "law" "law" sLaw f fd) (T : TxtB mg) (Z : FieldK K CF) (pCell : Pm P w K mg base CX0 1 "_law_cell" ["_law_script", "_law_k"] (spCell2 K)) (pLNumbers : Pm P w K mg base CX0 1 "_law_numbers" ["_law_cell_here", "_law_many"] spNums) (pLField : Pm P w K mg base CX0 4 "_law_field" ["_law_xs", "_law_most"] spLField) (pField : Mkp P w K mg base CX0 7 "Field" CF ["self", "p", "row"] (spInit CF)) (pLPower : Pm P w K mg base CX0 1 "_law_power" ["_law_p", "_law_many"] spPow) (pLRules : Pm P w K mg base CX0 6 "_law_rules" ["_law_field_here", "_law_a", "_law_b", "_law_c"] (spRulesK CF)) (pLAllRefused : Pm P w K mg base CX0 7 "_law_all_refused" ["_law_field_here", "_law_good", "_law_odd"] (spAllK CF Pt)) (pLAsk : Pm P w K mg base CX0 1 "_law_ask" ["_law_field_here", "_law_word"] (spMaker mAsk Pt "_law_field_here" "_law_word")) (pRef : Pm P w K mg base CX0 6 "_law_refused" ["_law_ask_here", "_law_things"] (spRefK CF)) (pLFirstRight : Pm P w K mg base CX0 7 "_law_first_right" ["_law_field_here", "_law_size"] (spFR CF)) : FnOk P w K mg base CX0 20 f fd ["_law_script"] (spLawN K Pt) := by
  refine F.okQ scLaw (fun vs H Q E h => ?_) (fun cdv A outer s H vs Q E hr h => ?_)
  · obtain ⟨a, ns, rfl, _⟩ := h
    rfl
  · obtain ⟨a, ns, rfl, hS, hlen, hPt, q⟩ := h
    have hr1 := hr.mono (show 1 ≤ 19 by decide)
    have hr4 := hr.mono (show 4 ≤ 19 by decide)
    have hr6 := hr.mono (show 6 ≤ 19 by decide)
    have hr7 := hr.mono (show 7 ≤ 19 by decide)
    have hr8 := hr.mono (show 8 ≤ 19 by decide)
    refine ⟨_, (qss_cons (qs_asg (qe_callP pLField hr4 rfl pass0 (qac (qe_callP pLNumbers hr1 rfl pass0 (qac (qe_callP pCell hr1 rfl pass0 (qac (qv 0) (qac qe_int qa_nil))) (qac qe_int qa_nil))) (qac qe_int qa_nil))) (qg_tup rfl (qgs_cons (qg_name (i := 1) scLaw.nd rfl (Or.inl rfl)) (qgs_cons (qg_name (i := 2) scLaw.nd rfl (Or.inl rfl)) qgs_nil))))
      (qss_cons (qs_set (i := 3) scLaw.nd rfl (Or.inl rfl) (qe_makeP pField hr8 rfl pass0 (qac (qv 1) (qac (qv 2) qa_nil))))
      (qss_cons (qs_set (i := 4) scLaw.nd rfl (Or.inl rfl) (qe_callP pLPower hr1 rfl pass0 (qac (qv 1) (qac (qe_op op_sub (qe_callB call_len_seq (by rfl) T.len PySem.boot_len (qac (qv 2) qa_nil)) qe_int) qa_nil))))
      (qss_cons (qs_for PassesOwn.never rfl (qi_list (qe_op op_cat (qe_lst (qac (qe_callP pCell hr1 rfl pass0 (qac (qv 0) (qac qe_int qa_nil))) qa_nil)) (qe_slice sl_list (qv 0) (qo_some qe_int) (qo_some qe_int)))) (qg_name (i := 5) scLaw.nd rfl (Or.inl rfl))
        (qss_cons (qs_set (i := 6) scLaw.nd rfl (Or.inl rfl) (qe_callP pLNumbers hr1 rfl pass0 (qac (qv 5) (qac qe_int qa_nil))))
        (qss_cons (qs_if (qt_not (qt_val (qe_callP pLRules hr6 rfl pass0 (qac (qv 3) (qac (qe_op op_mod (qe_ix ix_list (qv 6) qe_int (fun _ _ => rfl)) (qv 4)) (qac (qe_op op_mod (qe_ix ix_list (qv 6) qe_int (fun _ _ => rfl)) (qv 4)) (qac (qe_op op_mod (qe_ix ix_list (qv 6) qe_int (fun _ _ => rfl)) (qv 4)) qa_nil))))))) (qss_one (qs_ret qe_bl)) qss_nil)
        (qss_cons (qs_set (i := 7) scLaw.nd rfl (Or.inl rfl) (qe_ix ix_list (qe_lst (qac (qv 4) (qac (qe_un un_neg qe_int) (qac qe_bl (qac qe_non (qac qe_str (qac (qe_lst (qac qe_int qa_nil)) (qac (qe_op op_pow qe_int qe_int) (qac qe_bl qa_nil))))))))) (qe_op op_mod (qe_ix ix_list (qv 6) qe_int (fun _ _ => rfl)) qe_int) (fun _ _ => rfl)))
        (qss_one (qs_if (qt_not (qt_val (qe_callP pLAllRefused hr7 rfl pass0 (qac (qv 3) (qac (qe_op op_mod (qe_ix ix_list (qv 6) qe_int (fun _ _ => rfl)) (qv 4)) (qac (qv 7) qa_nil)))))) (qss_one (qs_ret qe_bl)) qss_nil))))))
      (qss_one (qs_ret (qe_and (qe_callP pRef hr6 rfl pass0 (qac (qe_callP pLAsk hr1 rfl pass0 (qac (qv 3) (qac qe_str qa_nil))) (qac (qe_lst (qac qe_int qa_nil)) qa_nil))) (qe_one (qe_callP pLFirstRight hr7 rfl pass0 (qac (qv 3) (qac (qv 4) qa_nil))))))))))), ?_⟩
    refine ⟨_, rfl, a, ns, 0, rfl, hS, by decide, fun c1 H1 s1 => ⟨c1, 3, rfl, by decide, fun lx xs H2 hlx s2 hx2 hn hns => ?_⟩⟩
    refine ⟨lx, xs, 32, rfl, hx2, by omega, by decide, by decide, fun t r p row H3 s3 ht hr' O => ?_⟩
    have hl6 := O.l6
    have hl2'' := O.l2
    have h32 : nF p row ≤ 32 := O.few
    have h2 := nF_two O
    have el : ((row.length : Nat) : Int) - 1 = ((row.length - 1 : Nat) : Int) := by omega
    have s03 := s1.trans (s2.trans s3)
    refine ⟨t, _, rfl, SqT.of ht, rfl, _, _, rfl, _, _, rfl, rfl, ?_⟩
    refine ⟨_, rfl, _, rfl, fun x dx hx hdx hne => ?_⟩
    refine ⟨x, dx, r, p, row, upd H3 dx (.own x), rfl, (by rw [upd_ne (Ne.symm hne)]; exact hx), rfl, (same_new hdx) _ _ hr', O, fun H4 s4 hF => ⟨rfl, ?_⟩⟩
    have s34 := (same_new (o := .own x) hdx).trans s4
    have s04 := s03.trans s34
    refine ⟨_, rfl, _, rfl, r, _, rfl, .inr (SqT.of (s34 _ _ hr')), _, _, rfl, rfl, p, row.length - 1, (by rw [nats_len]; exact congrArg (fun z => [V.int ((p : Nat) : Int), V.int z]) el), O.p31, by omega, ?_⟩
    refine cells_forT (k := 1) (lo := 2) (by decide) rfl (s04.seq hS) hlen (fun σ H5 => FieldAt CF H5 x p row ∧ TabSt mAsk Pt H5 ∧ ∃ x5 x6 x7, σ = [some (.ref a), some (.int ((p : Nat) : Int)), some (.ref r), some (.ref x), some (.int ((nF p row : Nat) : Int)), x5, x6, x7]) (fun Hq sq => ⟨hF.sm sq, .inl (sq _ _ (s04 _ _ hPt)), _, _, _, rfl⟩) ?_ ?_
    · rintro Hq c σ H5 ⟨hF5, hT5, x5, x6, x7, rfl⟩ kq
      refine ⟨_, rfl, c, 4, rfl, by decide, fun ly ys H6 hly s6 hy6 hn6 hns6 => ?_⟩
      obtain ⟨y0, a0, _⟩ := at_ok (ns := ys) (i := 0) (by omega)
      obtain ⟨y1, a1, _⟩ := at_ok (ns := ys) (i := 1) (by omega)
      obtain ⟨y2, a2, _⟩ := at_ok (ns := ys) (i := 2) (by omega)
      obtain ⟨y3, a3, _⟩ := at_ok (ns := ys) (i := 3) (by omega)
      have nz : (0 : Int) < ((nF p row : Nat) : Int) := by omega
      obtain ⟨m0, e0, l0⟩ := mod_nat y0 (show 0 < nF p row by omega)
      obtain ⟨m1, e1, l1⟩ := mod_nat y1 (show 0 < nF p row by omega)
      obtain ⟨m2, e2, l2⟩ := mod_nat y2 (show 0 < nF p row by omega)
      refine ⟨_, rfl, _, rfl, ly, _, 0, .int y0, rfl, rfl, SqL.of hy6, a0, _, rfl, _, _, rfl, rfl, nz, ?_⟩
      refine ⟨_, rfl, ly, _, 1, .int y1, rfl, rfl, SqL.of hy6, a1, _, rfl, _, _, rfl, rfl, nz, ?_⟩
      refine ⟨_, rfl, ly, _, 2, .int y2, rfl, rfl, SqL.of hy6, a2, _, rfl, _, _, rfl, rfl, nz, ?_⟩
      refine ⟨x, p, m0, m1, m2, row, by show [V.ref x, V.int (y0 % _), V.int (y1 % _), V.int (y2 % _)] = _; rw [e0, e1, e2], hF5.sm s6, O, l0, l1, l2, fun H7 s7 => ?_⟩
      refine ⟨true, rfl, iteF ?_⟩
      have hF7 := hF5.sm (s6.trans s7)
      refine ⟨_, rfl, _, rfl, by show 1 ≤ sizeLine; decide, fun l1 hl1 => ?_⟩
      refine ⟨_, _, rfl, rfl, ⟨by decide, by decide, by decide⟩, by show 8 ≤ sizeLine; decide, fun lo hlo => ?_⟩
      have w8 := same_new (o := .lst [.int 1]) hl1
      have w9 := same_new (o := .lst [V.int ((nF p row : Nat) : Int), .int (-1), .bl true, .non, .str "1", .ref l1, .int (10 ^ 6), .bl false]) hlo
      have s9 := s7.trans (w8.trans w9)
      have s59 := s6.trans s9
      obtain ⟨v, hv, ho⟩ := odd_pick (n := nF p row) h32 (w9 _ _ (upd_same (H := H7) (a := l1) (o := .lst [.int 1]))) y3
      refine ⟨_, rfl, ly, _, 3, .int y3, rfl, rfl, SqL.of (s9 _ _ hy6), a3, _, _, rfl, rfl, (by decide : (0 : Int) < 8), lo, _, y3 % 8, v, rfl, rfl, SqL.of upd_same, hv, ?_⟩
      refine ⟨_, rfl, _, rfl, ly, _, 0, .int y0, rfl, rfl, SqL.of (s9 _ _ hy6), a0, _, rfl, _, _, rfl, rfl, nz, _, rfl, ?_⟩
      refine ⟨x, p, row, .int ((m0 : Nat) : Int), v, by show [V.ref x, V.int (y0 % _), v] = _; rw [e0], hF5.sm s59, tab_sm s59 hT5, ⟨m0, rfl, l0⟩, ho, fun H10 k10 t10 => ?_⟩
      have k510 := (KT.of s59).trans k10
      exact ⟨true, rfl, iteF ⟨kq.trans k510, k510.fld hF5, t10, _, _, _, rfl⟩⟩
    · rintro σ H5 ⟨hF5, hT5, x5, x6, x7, rfl⟩
      refine ⟨_, rfl, _, _, rfl, hT5, fun g c' c1 c2 H1 up hP hcc hf h12 u1 u2 => ⟨by show 1 ≤ sizeLine; decide, fun t ht => ?_⟩⟩
      obtain ⟨b1, b2, b3, b4⟩ := asked (wd := "back") (xs := [.int 0]) hF5 hT5 (fun H1 k1 => .inr ⟨rfl, _, rfl, .inr ⟨rfl, by omega⟩⟩) up hP hcc hf h12 u1 u2 ht
      refine ⟨g, x, t, p, row, _, _, rfl, b1, b2, upd_same, b3, fun H6 s6 => ?_⟩
      obtain ⟨k6, t6⟩ := b4 _ s6
      refine ⟨true, rfl, iteT ?_⟩
      exact ⟨_, rfl, _, rfl, x, p, row, rfl, k6.fld hF5, O, fun H7 s7 => q _⟩
theorem code_of {K : PySem.W.Frag} {x qual : Str} {st : Stmt} {f c Pt : Addr} {fd : FuncData} (a : PySem.W.nsIn K mainGlobals x = some (some (.ref f))) (F : Fun K x qual st f fd) (h : PySem.W.tabIn K x = some (c, Pt)) : fd.code = .ref c := by
  obtain ⟨oc, od, kV, doc, pm, an, cdv, ct, osl, e, lk, _⟩ := F.ex
  unfold PySem.W.tabIn at h
  rw [a] at h
  dsimp only at h
  rw [lk] at h
  dsimp only at h
  split at h
  · rename_i c' hc
    split at h
    · split at h
      · cases h
        exact hc
      · cases h
    · cases h
  · cases h
structure FieldC (K : PySem.W.Frag) (C : Addr) : Prop where
  nC : PySem.W.nsIn K mainGlobals "Field" = some (some (.ref C))
  Z : FieldK K C
  mkc : PySem.W.makesIn K C = true
  kc : PySem.W.keepIn K (.ref C) = true
  nR : PySem.W.nsIn K mainGlobals "reversed" = some none
  iInit : ∃ (f : Addr) (fd : FuncData), Meth K C "__init__" f ∧ Fun K "__init__" "Field.__init__" sMInit f fd
  iPlus : ∃ (f : Addr) (fd : FuncData), Meth K C "plus" f ∧ Fun K "plus" "Field.plus" sMPlus f fd
  iMinus : ∃ (f : Addr) (fd : FuncData), Meth K C "minus" f ∧ Fun K "minus" "Field.minus" sMMinus f fd
  iTimes : ∃ (f : Addr) (fd : FuncData), Meth K C "times" f ∧ Fun K "times" "Field.times" sMTimes f fd
  iBack : ∃ (f : Addr) (fd : FuncData), Meth K C "back" f ∧ Fun K "back" "Field.back" sMBack f fd
  iFirst : ∃ (f : Addr) (fd : FuncData), Meth K C "first" f ∧ Fun K "first" "Field.first" sMFirst f fd
  iManyPowers : ∃ (f : Addr) (fd : FuncData), Meth K C "many_powers" f ∧ Fun K "many_powers" "Field.many_powers" sMManyPowers f fd
  iMustHave : ∃ (f : Addr) (fd : FuncData), Meth K C "must_have" f ∧ Fun K "must_have" "Field.must_have" sMMustHave f fd
theorem field_mk {K : PySem.W.Frag} {C f0 f1 f2 f3 f4 f5 f6 f7 : Addr} {oc0 kV0 dc0 pm0 cd0 ct0 : Value} {od0 an0 : Option Addr} {sl0 : Array (Option Value)} {oc1 kV1 dc1 pm1 cd1 ct1 : Value} {od1 an1 : Option Addr} {sl1 : Array (Option Value)} {oc2 kV2 dc2 pm2 cd2 ct2 : Value} {od2 an2 : Option Addr} {sl2 : Array (Option Value)} {oc3 kV3 dc3 pm3 cd3 ct3 : Value} {od3 an3 : Option Addr} {sl3 : Array (Option Value)} {oc4 kV4 dc4 pm4 cd4 ct4 : Value} {od4 an4 : Option Addr} {sl4 : Array (Option Value)} {oc5 kV5 dc5 pm5 cd5 ct5 : Value} {od5 an5 : Option Addr} {sl5 : Array (Option Value)} {oc6 kV6 dc6 pm6 cd6 ct6 : Value} {od6 an6 : Option Addr} {sl6 : Array (Option Value)} {oc7 kV7 dc7 pm7 cd7 ct7 : Value} {od7 an7 : Option Addr} {sl7 : Array (Option Value)}
    (nC : PySem.W.nsIn K mainGlobals "Field" = some (some (.ref C))) (pg : PySem.W.plainGet K C Str.empty = true) (hd : PySem.W.hasDictIn K C = true) (po : PySem.W.plainOver K C = true) (sa : PySem.W.findIn K (.ref C) "__setattr__" = some (some (.builtin "object.__setattr__"))) (mk : PySem.W.makesIn K C = true) (kc : PySem.W.keepIn K (.ref C) = true) (n0 : PySem.W.findIn K (.ref C) "many" = some none) (n1 : PySem.W.findIn K (.ref C) "prime" = some none) (n2 : PySem.W.findIn K (.ref C) "row" = some none) (nR : PySem.W.nsIn K mainGlobals "reversed" = some none)
    (a0 : PySem.W.findIn K (.ref C) "__init__" = some (some (.ref f0))) (i0 : PySem.W.isFn K (.ref f0) = true) (l0 : K.lookup f0 = some ⟨oc0, od0, .func (PySem.W.fnOf "__init__" "Field.__init__" (defArgs sMInit) (defBody sMInit) (defScope sMInit) .none kV0 dc0 pm0 an0 cd0 ct0), sl0⟩) (c0 : PySem.W.codeIn K cd0 "Field.__init__" = true) (k0 : PySem.W.keepIn K (.ref f0) = true)
    (a1 : PySem.W.findIn K (.ref C) "plus" = some (some (.ref f1))) (i1 : PySem.W.isFn K (.ref f1) = true) (l1 : K.lookup f1 = some ⟨oc1, od1, .func (PySem.W.fnOf "plus" "Field.plus" (defArgs sMPlus) (defBody sMPlus) (defScope sMPlus) .none kV1 dc1 pm1 an1 cd1 ct1), sl1⟩) (c1 : PySem.W.codeIn K cd1 "Field.plus" = true) (k1 : PySem.W.keepIn K (.ref f1) = true)
    (a2 : PySem.W.findIn K (.ref C) "minus" = some (some (.ref f2))) (i2 : PySem.W.isFn K (.ref f2) = true) (l2 : K.lookup f2 = some ⟨oc2, od2, .func (PySem.W.fnOf "minus" "Field.minus" (defArgs sMMinus) (defBody sMMinus) (defScope sMMinus) .none kV2 dc2 pm2 an2 cd2 ct2), sl2⟩) (c2 : PySem.W.codeIn K cd2 "Field.minus" = true) (k2 : PySem.W.keepIn K (.ref f2) = true)
    (a3 : PySem.W.findIn K (.ref C) "times" = some (some (.ref f3))) (i3 : PySem.W.isFn K (.ref f3) = true) (l3 : K.lookup f3 = some ⟨oc3, od3, .func (PySem.W.fnOf "times" "Field.times" (defArgs sMTimes) (defBody sMTimes) (defScope sMTimes) .none kV3 dc3 pm3 an3 cd3 ct3), sl3⟩) (c3 : PySem.W.codeIn K cd3 "Field.times" = true) (k3 : PySem.W.keepIn K (.ref f3) = true)
    (a4 : PySem.W.findIn K (.ref C) "back" = some (some (.ref f4))) (i4 : PySem.W.isFn K (.ref f4) = true) (l4 : K.lookup f4 = some ⟨oc4, od4, .func (PySem.W.fnOf "back" "Field.back" (defArgs sMBack) (defBody sMBack) (defScope sMBack) .none kV4 dc4 pm4 an4 cd4 ct4), sl4⟩) (c4 : PySem.W.codeIn K cd4 "Field.back" = true) (k4 : PySem.W.keepIn K (.ref f4) = true)
    (a5 : PySem.W.findIn K (.ref C) "first" = some (some (.ref f5))) (i5 : PySem.W.isFn K (.ref f5) = true) (l5 : K.lookup f5 = some ⟨oc5, od5, .func (PySem.W.fnOf "first" "Field.first" (defArgs sMFirst) (defBody sMFirst) (defScope sMFirst) .none kV5 dc5 pm5 an5 cd5 ct5), sl5⟩) (c5 : PySem.W.codeIn K cd5 "Field.first" = true) (k5 : PySem.W.keepIn K (.ref f5) = true)
    (a6 : PySem.W.findIn K (.ref C) "many_powers" = some (some (.ref f6))) (i6 : PySem.W.isFn K (.ref f6) = true) (l6 : K.lookup f6 = some ⟨oc6, od6, .func (PySem.W.fnOf "many_powers" "Field.many_powers" (defArgs sMManyPowers) (defBody sMManyPowers) (defScope sMManyPowers) .none kV6 dc6 pm6 an6 cd6 ct6), sl6⟩) (c6 : PySem.W.codeIn K cd6 "Field.many_powers" = true) (k6 : PySem.W.keepIn K (.ref f6) = true)
    (a7 : PySem.W.findIn K (.ref C) "must_have" = some (some (.ref f7))) (i7 : PySem.W.isFn K (.ref f7) = true) (l7 : K.lookup f7 = some ⟨oc7, od7, .func (PySem.W.fnOf "must_have" "Field.must_have" (defArgs sMMustHave) (defBody sMMustHave) (defScope sMMustHave) .none kV7 dc7 pm7 an7 cd7 ct7), sl7⟩) (c7 : PySem.W.codeIn K cd7 "Field.must_have" = true) (k7 : PySem.W.keepIn K (.ref f7) = true)
    : ∃ C : Addr, FieldC K C := ⟨C, nC, ⟨⟨pg, hd, po, sa⟩, n0, n1, n2⟩, mk, kc, nR, ⟨f0, _, ⟨a0, i0, k0⟩, fun_mk l0 c0 k0⟩, ⟨f1, _, ⟨a1, i1, k1⟩, fun_mk l1 c1 k1⟩, ⟨f2, _, ⟨a2, i2, k2⟩, fun_mk l2 c2 k2⟩, ⟨f3, _, ⟨a3, i3, k3⟩, fun_mk l3 c3 k3⟩, ⟨f4, _, ⟨a4, i4, k4⟩, fun_mk l4 c4 k4⟩, ⟨f5, _, ⟨a5, i5, k5⟩, fun_mk l5 c5 k5⟩, ⟨f6, _, ⟨a6, i6, k6⟩, fun_mk l6 c6 k6⟩, ⟨f7, _, ⟨a7, i7, k7⟩, fun_mk l7 c7 k7⟩⟩
end
end E1
namespace E1
open PySem L2
theorem all_mk {l : PySem.W.OpenLaw} {w : World} {K : PySem.W.Frag} {h : Heap} {mg : Str → Option Value} {fa : Addr} (X : K.In h) (G : h.Ns mainGlobals mg) (hfa : mg "law" = some (.ref fa))
    (N : PySem.W.nsIn K mainGlobals "isinstance" = some none ∧ PySem.W.nsIn K mainGlobals "int" = some none ∧ PySem.W.nsIn K mainGlobals "bool" = some none ∧ PySem.W.nsIn K mainGlobals "abs" = some none ∧ PySem.W.nsIn K mainGlobals "len" = some none ∧ PySem.W.nsIn K mainGlobals "range" = some none ∧ PySem.W.nsIn K mainGlobals "tuple" = some none ∧ PySem.W.nsIn K mainGlobals "list" = some none ∧ PySem.W.nsIn K mainGlobals "sorted" = some none ∧ PySem.W.nsIn K mainGlobals "all" = some none ∧ PySem.W.nsIn K mainGlobals "set" = some none ∧ PySem.W.nsIn K mainGlobals "zip" = some none ∧ PySem.W.nsIn K mainGlobals "enumerate" = some none ∧ PySem.W.nsIn K mainGlobals "any" = some none ∧ PySem.W.nsIn K mainGlobals "max" = some none ∧ PySem.W.nsIn K mainGlobals "min" = some none ∧ PySem.W.nsIn K mainGlobals "str" = some none ∧ PySem.W.nsIn K mainGlobals "sum" = some none)
    (Zc : ∃ C : Addr, FieldC K C)
    (CMostNumbers : ∃ t, PySem.W.nsIn K mainGlobals "MOST_NUMBERS" = some (some (.int 32 t)))
    (R : ∃ M C o1 o2 o3 o4 o5 o6 o7 o8 o9 o10 o11 o12 o13 : Addr, RefsD K M C o1 o2 o3 o4 o5 o6 o7 o8 o9 o10 o11 o12 o13)
    (AWhole : At K "is_whole" sWhole) (AIsBelow : At K "is_below" sIsBelow) (AMust : At K "must_be_whole" sMust) (AFrom : At K "must_be_from" sFrom) (APrimes : At K "primes_of" sPrimes) (AIsPrime : At K "is_prime" sIsPrime) (ARowTimes : At K "row_times" sRowTimes) (ARowRest : At K "row_rest" sRowRest) (ARowFactor : At K "row_factor" sRowFactor) (ATrimmed : At K "trimmed" sTrimmed) (ADigitsOf : At K "digits_of" sDigitsOf) (ANumberOf : At K "number_of" sNumberOf) (AMustBeRow : At K "must_be_row" sMustBeRow) (ASizeWithin : At K "size_within" sSizeWithin) (AMustBePrime : At K "must_be_prime" sMustBePrime) (AMustBeNoProduct : At K "must_be_no_product" sMustBeNoProduct) (AJoined : At K "joined" sJoined) (ACell : At K "_law_cell" sCell) (ALNumbers : At K "_law_numbers" sLNumbers) (ALWhole : At K "_law_whole" sLWhole) (ALOnly : At K "_law_only" sLOnly) (ALPower : At K "_law_power" sLPower) (ALTrim : At K "_law_trim" sLTrim) (ALLeft : At K "_law_left" sLLeft) (ALDigits : At K "_law_digits" sLDigits) (ALDivides : At K "_law_divides" sLDivides) (ALField : At K "_law_field" sLField) (ALRules : At K "_law_rules" sLRules) (ARef : At K "_law_refused" sRef) (ALAsk : At K "_law_ask" sLAsk) (ALAllRefused : At K "_law_all_refused" sLAllRefused) (ALFirstRight : At K "_law_first_right" sLFirstRight) (ALaw : At K "law" sLaw) (Ht : PySem.W.tabIn K "_law_ask" = some (518, 514)) :
    ∃ fd : FuncData, (∀ (s : Shared) (v : Value), BindsTo s fd ⟨[v], []⟩ [("_law_script", v)]) ∧ ∀ base : Heap, K.In base → base.Ns mainGlobals mg → Nst mg base 518 514 → FnOk l.prog w K mg base CX0 20 fa fd ["_law_script"] (spLawN K 514) := by
  obtain ⟨n0, n1, n2, n3, n4, n5, n6, n7, n8, n9, n10, n11, n12, n13, n14, n15, n16, n17⟩ := N
  have T : TxtB mg := ⟨PySem.W.mg_none_of X G n0, PySem.W.mg_none_of X G n1, PySem.W.mg_none_of X G n2, PySem.W.mg_none_of X G n3, PySem.W.mg_none_of X G n4, PySem.W.mg_none_of X G n5, PySem.W.mg_none_of X G n6, PySem.W.mg_none_of X G n7, PySem.W.mg_none_of X G n8, PySem.W.mg_none_of X G n9, PySem.W.mg_none_of X G n10, PySem.W.mg_none_of X G n11, PySem.W.mg_none_of X G n12, PySem.W.mg_none_of X G n13, PySem.W.mg_none_of X G n14, PySem.W.mg_none_of X G n15, PySem.W.mg_none_of X G n16, PySem.W.mg_none_of X G n17⟩
  obtain ⟨M, C, o1, o2, o3, o4, o5, o6, o7, o8, o9, o10, o11, o12, o13, R⟩ := R
  have D := marks_of X G R
  obtain ⟨CF, Zc⟩ := Zc
  have mF := PySem.W.mg_of X G Zc.nC
  have mR := PySem.W.mg_none_of X G Zc.nR
  obtain ⟨fMInit, fdMInit, eMInit, FMInit⟩ := Zc.iInit
  have bMInit := FMInit.binds (ps := ["self", "p", "row"]) fun _ _ _ _ _ _ us hl => match us, hl with | [_, _, _], _ => rfl
  obtain ⟨fMPlus, fdMPlus, eMPlus, FMPlus⟩ := Zc.iPlus
  have bMPlus := FMPlus.binds (ps := ["self", "a", "b"]) fun _ _ _ _ _ _ us hl => match us, hl with | [_, _, _], _ => rfl
  obtain ⟨fMMinus, fdMMinus, eMMinus, FMMinus⟩ := Zc.iMinus
  have bMMinus := FMMinus.binds (ps := ["self", "a", "b"]) fun _ _ _ _ _ _ us hl => match us, hl with | [_, _, _], _ => rfl
  obtain ⟨fMTimes, fdMTimes, eMTimes, FMTimes⟩ := Zc.iTimes
  have bMTimes := FMTimes.binds (ps := ["self", "a", "b"]) fun _ _ _ _ _ _ us hl => match us, hl with | [_, _, _], _ => rfl
  obtain ⟨fMBack, fdMBack, eMBack, FMBack⟩ := Zc.iBack
  have bMBack := FMBack.binds (ps := ["self", "a"]) fun _ _ _ _ _ _ us hl => match us, hl with | [_, _], _ => rfl
  obtain ⟨fMFirst, fdMFirst, eMFirst, FMFirst⟩ := Zc.iFirst
  have bMFirst := FMFirst.binds (ps := ["self"]) fun _ _ _ _ _ _ us hl => match us, hl with | [_], _ => rfl
  obtain ⟨fMManyPowers, fdMManyPowers, eMManyPowers, FMManyPowers⟩ := Zc.iManyPowers
  have bMManyPowers := FMManyPowers.binds (ps := ["self", "a"]) fun _ _ _ _ _ _ us hl => match us, hl with | [_, _], _ => rfl
  obtain ⟨fMMustHave, fdMMustHave, eMMustHave, FMMustHave⟩ := Zc.iMustHave
  have bMMustHave := FMMustHave.binds (ps := ["self", "thing"]) fun _ _ _ _ _ _ us hl => match us, hl with | [_, _], _ => rfl
  obtain ⟨tMostNumbers, cMostNumbers⟩ := CMostNumbers
  have mMostNumbers := PySem.W.mg_of X G cMostNumbers
  obtain ⟨fWhole, fdWhole, aWhole, FWhole⟩ := AWhole
  obtain ⟨fIsBelow, fdIsBelow, aIsBelow, FIsBelow⟩ := AIsBelow
  obtain ⟨fMust, fdMust, aMust, FMust⟩ := AMust
  obtain ⟨fFrom, fdFrom, aFrom, FFrom⟩ := AFrom
  obtain ⟨fPrimes, fdPrimes, aPrimes, FPrimes⟩ := APrimes
  obtain ⟨fIsPrime, fdIsPrime, aIsPrime, FIsPrime⟩ := AIsPrime
  obtain ⟨fRowTimes, fdRowTimes, aRowTimes, FRowTimes⟩ := ARowTimes
  obtain ⟨fRowRest, fdRowRest, aRowRest, FRowRest⟩ := ARowRest
  obtain ⟨fRowFactor, fdRowFactor, aRowFactor, FRowFactor⟩ := ARowFactor
  obtain ⟨fTrimmed, fdTrimmed, aTrimmed, FTrimmed⟩ := ATrimmed
  obtain ⟨fDigitsOf, fdDigitsOf, aDigitsOf, FDigitsOf⟩ := ADigitsOf
  obtain ⟨fNumberOf, fdNumberOf, aNumberOf, FNumberOf⟩ := ANumberOf
  obtain ⟨fMustBeRow, fdMustBeRow, aMustBeRow, FMustBeRow⟩ := AMustBeRow
  obtain ⟨fSizeWithin, fdSizeWithin, aSizeWithin, FSizeWithin⟩ := ASizeWithin
  obtain ⟨fMustBePrime, fdMustBePrime, aMustBePrime, FMustBePrime⟩ := AMustBePrime
  obtain ⟨fMustBeNoProduct, fdMustBeNoProduct, aMustBeNoProduct, FMustBeNoProduct⟩ := AMustBeNoProduct
  obtain ⟨fJoined, fdJoined, aJoined, FJoined⟩ := AJoined
  obtain ⟨fCell, fdCell, aCell, FCell⟩ := ACell
  obtain ⟨fLNumbers, fdLNumbers, aLNumbers, FLNumbers⟩ := ALNumbers
  obtain ⟨fLWhole, fdLWhole, aLWhole, FLWhole⟩ := ALWhole
  obtain ⟨fLOnly, fdLOnly, aLOnly, FLOnly⟩ := ALOnly
  obtain ⟨fLPower, fdLPower, aLPower, FLPower⟩ := ALPower
  obtain ⟨fLTrim, fdLTrim, aLTrim, FLTrim⟩ := ALTrim
  obtain ⟨fLLeft, fdLLeft, aLLeft, FLLeft⟩ := ALLeft
  obtain ⟨fLDigits, fdLDigits, aLDigits, FLDigits⟩ := ALDigits
  obtain ⟨fLDivides, fdLDivides, aLDivides, FLDivides⟩ := ALDivides
  obtain ⟨fLField, fdLField, aLField, FLField⟩ := ALField
  obtain ⟨fLRules, fdLRules, aLRules, FLRules⟩ := ALRules
  obtain ⟨fRef, fdRef, aRef, FRef⟩ := ARef
  obtain ⟨fLAsk, fdLAsk, aLAsk, FLAsk⟩ := ALAsk
  obtain ⟨fLAllRefused, fdLAllRefused, aLAllRefused, FLAllRefused⟩ := ALAllRefused
  obtain ⟨fLFirstRight, fdLFirstRight, aLFirstRight, FLFirstRight⟩ := ALFirstRight
  obtain ⟨fLaw, fdLaw, aLaw, FLaw⟩ := ALaw
  have e := hfa.symm.trans (PySem.W.mg_of X G aLaw)
  cases e
  have bWhole := FWhole.binds (ps := ["thing"]) fun _ _ _ _ _ _ us hl => match us, hl with | [_], _ => rfl
  have mWhole := PySem.W.mg_of X G aWhole
  have bIsBelow := FIsBelow.binds (ps := ["thing", "many"]) fun _ _ _ _ _ _ us hl => match us, hl with | [_, _], _ => rfl
  have mIsBelow := PySem.W.mg_of X G aIsBelow
  have bMust := FMust.binds (ps := ["thing"]) fun _ _ _ _ _ _ us hl => match us, hl with | [_], _ => rfl
  have mMust := PySem.W.mg_of X G aMust
  have bFrom := FFrom.binds (ps := ["least", "thing"]) fun _ _ _ _ _ _ us hl => match us, hl with | [_, _], _ => rfl
  have mFrom := PySem.W.mg_of X G aFrom
  have bPrimes := FPrimes.binds (ps := ["n"]) fun _ _ _ _ _ _ us hl => match us, hl with | [_], _ => rfl
  have mPrimes := PySem.W.mg_of X G aPrimes
  have bIsPrime := FIsPrime.binds (ps := ["p"]) fun _ _ _ _ _ _ us hl => match us, hl with | [_], _ => rfl
  have mIsPrime := PySem.W.mg_of X G aIsPrime
  have bRowTimes := FRowTimes.binds (ps := ["p", "one", "other"]) fun _ _ _ _ _ _ us hl => match us, hl with | [_, _, _], _ => rfl
  have mRowTimes := PySem.W.mg_of X G aRowTimes
  have bRowRest := FRowRest.binds (ps := ["p", "one", "by"]) fun _ _ _ _ _ _ us hl => match us, hl with | [_, _, _], _ => rfl
  have mRowRest := PySem.W.mg_of X G aRowRest
  have bRowFactor := FRowFactor.binds (ps := ["p", "row"]) fun _ _ _ _ _ _ us hl => match us, hl with | [_, _], _ => rfl
  have mRowFactor := PySem.W.mg_of X G aRowFactor
  have bTrimmed := FTrimmed.binds (ps := ["digits"]) fun _ _ _ _ _ _ us hl => match us, hl with | [_], _ => rfl
  have mTrimmed := PySem.W.mg_of X G aTrimmed
  have bDigitsOf := FDigitsOf.binds (ps := ["p", "number"]) fun _ _ _ _ _ _ us hl => match us, hl with | [_, _], _ => rfl
  have mDigitsOf := PySem.W.mg_of X G aDigitsOf
  have bNumberOf := FNumberOf.binds (ps := ["p", "digits"]) fun _ _ _ _ _ _ us hl => match us, hl with | [_, _], _ => rfl
  have mNumberOf := PySem.W.mg_of X G aNumberOf
  have bMustBeRow := FMustBeRow.binds (ps := ["p", "row"]) fun _ _ _ _ _ _ us hl => match us, hl with | [_, _], _ => rfl
  have mMustBeRow := PySem.W.mg_of X G aMustBeRow
  have bSizeWithin := FSizeWithin.binds (ps := ["p", "row"]) fun _ _ _ _ _ _ us hl => match us, hl with | [_, _], _ => rfl
  have mSizeWithin := PySem.W.mg_of X G aSizeWithin
  have bMustBePrime := FMustBePrime.binds (ps := ["p"]) fun _ _ _ _ _ _ us hl => match us, hl with | [_], _ => rfl
  have mMustBePrime := PySem.W.mg_of X G aMustBePrime
  have bMustBeNoProduct := FMustBeNoProduct.binds (ps := ["p", "row"]) fun _ _ _ _ _ _ us hl => match us, hl with | [_, _], _ => rfl
  have mMustBeNoProduct := PySem.W.mg_of X G aMustBeNoProduct
  have bJoined := FJoined.binds (ps := ["p", "a", "b", "sign"]) fun _ _ _ _ _ _ us hl => match us, hl with | [_, _, _, _], _ => rfl
  have mJoined := PySem.W.mg_of X G aJoined
  have bCell := FCell.binds (ps := ["_law_script", "_law_k"]) fun _ _ _ _ _ _ us hl => match us, hl with | [_, _], _ => rfl
  have mCell := PySem.W.mg_of X G aCell
  have bLNumbers := FLNumbers.binds (ps := ["_law_cell_here", "_law_many"]) fun _ _ _ _ _ _ us hl => match us, hl with | [_, _], _ => rfl
  have mLNumbers := PySem.W.mg_of X G aLNumbers
  have bLWhole := FLWhole.binds (ps := ["_law_found"]) fun _ _ _ _ _ _ us hl => match us, hl with | [_], _ => rfl
  have mLWhole := PySem.W.mg_of X G aLWhole
  have bLOnly := FLOnly.binds (ps := ["_law_e", "_law_at"]) fun _ _ _ _ _ _ us hl => match us, hl with | [_, _], _ => rfl
  have mLOnly := PySem.W.mg_of X G aLOnly
  have bLPower := FLPower.binds (ps := ["_law_p", "_law_many"]) fun _ _ _ _ _ _ us hl => match us, hl with | [_, _], _ => rfl
  have mLPower := PySem.W.mg_of X G aLPower
  have bLTrim := FLTrim.binds (ps := ["_law_row"]) fun _ _ _ _ _ _ us hl => match us, hl with | [_], _ => rfl
  have mLTrim := PySem.W.mg_of X G aLTrim
  have bLLeft := FLLeft.binds (ps := ["_law_p", "_law_one", "_law_by"]) fun _ _ _ _ _ _ us hl => match us, hl with | [_, _, _], _ => rfl
  have mLLeft := PySem.W.mg_of X G aLLeft
  have bLDigits := FLDigits.binds (ps := ["_law_x", "_law_p", "_law_many"]) fun _ _ _ _ _ _ us hl => match us, hl with | [_, _, _], _ => rfl
  have mLDigits := PySem.W.mg_of X G aLDigits
  have bLDivides := FLDivides.binds (ps := ["_law_p", "_law_row"]) fun _ _ _ _ _ _ us hl => match us, hl with | [_, _], _ => rfl
  have mLDivides := PySem.W.mg_of X G aLDivides
  have bLField := FLField.binds (ps := ["_law_xs", "_law_most"]) fun _ _ _ _ _ _ us hl => match us, hl with | [_, _], _ => rfl
  have mLField := PySem.W.mg_of X G aLField
  have bLRules := FLRules.binds (ps := ["_law_field_here", "_law_a", "_law_b", "_law_c"]) fun _ _ _ _ _ _ us hl => match us, hl with | [_, _, _, _], _ => rfl
  have mLRules := PySem.W.mg_of X G aLRules
  have bRef := FRef.binds (ps := ["_law_ask_here", "_law_things"]) fun _ _ _ _ _ _ us hl => match us, hl with | [_, _], _ => rfl
  have mRef := PySem.W.mg_of X G aRef
  have bLAsk := FLAsk.binds (ps := ["_law_field_here", "_law_word"]) fun _ _ _ _ _ _ us hl => match us, hl with | [_, _], _ => rfl
  have mLAsk := PySem.W.mg_of X G aLAsk
  have bLAllRefused := FLAllRefused.binds (ps := ["_law_field_here", "_law_good", "_law_odd"]) fun _ _ _ _ _ _ us hl => match us, hl with | [_, _, _], _ => rfl
  have mLAllRefused := PySem.W.mg_of X G aLAllRefused
  have bLFirstRight := FLFirstRight.binds (ps := ["_law_field_here", "_law_size"]) fun _ _ _ _ _ _ us hl => match us, hl with | [_, _], _ => rfl
  have mLFirstRight := PySem.W.mg_of X G aLFirstRight
  refine ⟨fdLaw, ?_, fun base _ _ hN => ?_⟩
  · obtain ⟨oc, od, kV, doc, pm, an, cdv, ct, osl, rfl, lk, hcd⟩ := FLaw.ex
    exact fun s v => .of_eq rfl
  · have pW : Pm l.prog w K mg base CX0 1 "is_whole" ["thing"] (spWhole K) := ⟨fWhole, fdWhole, mWhole, FWhole.kp, bWhole, ok_whole FWhole T⟩
    have pI : Pm l.prog w K mg base CX0 2 "is_below" ["thing", "many"] spBelow := ⟨fIsBelow, fdIsBelow, mIsBelow, FIsBelow.kp, bIsBelow, ok_below FIsBelow pW⟩
    have pMu : Pm l.prog w K mg base CX0 2 "must_be_whole" ["thing"] spMustN := ⟨fMust, fdMust, mMust, FMust.kp, bMust, ok_mustN FMust pW⟩
    have pPr : Pm l.prog w K mg base CX0 4 "primes_of" ["n"] spPrimesN := ⟨fPrimes, fdPrimes, mPrimes, FPrimes.kp, bPrimes, ok_primes FPrimes FFrom bFrom mFrom (ok_fromN FFrom pMu)⟩
    have pIP : Pm l.prog w K mg base CX0 5 "is_prime" ["p"] spIsPrime := ⟨fIsPrime, fdIsPrime, mIsPrime, FIsPrime.kp, bIsPrime, ok_isprime FIsPrime pPr⟩
    have pTr : Pm l.prog w K mg base CX0 1 "trimmed" ["digits"] spTrim := ⟨fTrimmed, fdTrimmed, mTrimmed, FTrimmed.kp, bTrimmed, ok_trimmed FTrimmed T⟩
    have pRT : Pm l.prog w K mg base CX0 2 "row_times" ["p", "one", "other"] spProd := ⟨fRowTimes, fdRowTimes, mRowTimes, FRowTimes.kp, bRowTimes, ok_times FRowTimes T pTr⟩
    have pRR : Pm l.prog w K mg base CX0 2 "row_rest" ["p", "one", "by"] spRest := ⟨fRowRest, fdRowRest, mRowRest, FRowRest.kp, bRowRest, ok_rest FRowRest T pTr⟩
    have pDi : Pm l.prog w K mg base CX0 1 "digits_of" ["p", "number"] spDigits := ⟨fDigitsOf, fdDigitsOf, mDigitsOf, FDigitsOf.kp, bDigitsOf, ok_digits FDigitsOf T⟩
    have pDG : Pm l.prog w K mg base CX0 1 "digits_of" ["p", "number"] spDigG := ⟨fDigitsOf, fdDigitsOf, mDigitsOf, FDigitsOf.kp, bDigitsOf, ok_digG FDigitsOf T⟩
    have pRF : Pm l.prog w K mg base CX0 3 "row_factor" ["p", "row"] spDv := ⟨fRowFactor, fdRowFactor, mRowFactor, FRowFactor.kp, bRowFactor, ok_factor FRowFactor T pDi pRR⟩
    have pNu : Pm l.prog w K mg base CX0 1 "number_of" ["p", "digits"] spNum := ⟨fNumberOf, fdNumberOf, mNumberOf, FNumberOf.kp, bNumberOf, ok_num FNumberOf mR⟩
    have pJo : Pm l.prog w K mg base CX0 1 "joined" ["p", "a", "b", "sign"] spJoin := ⟨fJoined, fdJoined, mJoined, FJoined.kp, bJoined, ok_join FJoined⟩
    have pMR : Pm l.prog w K mg base CX0 3 "must_be_row" ["p", "row"] spMRow := ⟨fMustBeRow, fdMustBeRow, mMustBeRow, FMustBeRow.kp, bMustBeRow, ok_mrow FMustBeRow T pW pI⟩
    have pSi : Pm l.prog w K mg base CX0 1 "size_within" ["p", "row"] spSize := ⟨fSizeWithin, fdSizeWithin, mSizeWithin, FSizeWithin.kp, bSizeWithin, ok_size FSizeWithin mMostNumbers⟩
    have pMP : Pm l.prog w K mg base CX0 6 "must_be_prime" ["p"] spMP := ⟨fMustBePrime, fdMustBePrime, mMustBePrime, FMustBePrime.kp, bMustBePrime, ok_mp FMustBePrime pIP⟩
    have pMN : Pm l.prog w K mg base CX0 4 "must_be_no_product" ["p", "row"] spMNo := ⟨fMustBeNoProduct, fdMustBeNoProduct, mMustBeNoProduct, FMustBeNoProduct.kp, bMustBeNoProduct, ok_mno FMustBeNoProduct pRF⟩
    have pMk : Mkp l.prog w K mg base CX0 7 "Field" CF ["self", "p", "row"] (spInit CF) := ⟨fMInit, fdMInit, mF, ⟨Zc.mkc, eMInit.at_, eMInit.fn, Zc.kc⟩, bMInit, ok_init FMInit Zc.Z pMR pSi pMP pMN⟩
    have pHa : Mp l.prog w K mg base CX0 3 CF "must_have" ["self", "thing"] (spHave CF) := ⟨fMMustHave, fdMMustHave, eMMustHave, bMMustHave, ok_have FMMustHave Zc.Z pI⟩
    have pPl : Mp l.prog w K mg base CX0 4 CF "plus" ["self", "a", "b"] (spBin CF plV) := ⟨fMPlus, fdMPlus, eMPlus, bMPlus, ok_plus FMPlus Zc.Z pHa pJo⟩
    have pTi : Mp l.prog w K mg base CX0 4 CF "times" ["self", "a", "b"] (spBin CF tmV) := ⟨fMTimes, fdMTimes, eMTimes, bMTimes, ok_timesM FMTimes Zc.Z pHa pDG pRT pRR pNu⟩
    have pN : Pm l.prog w K mg base CX0 1 "_law_numbers" ["_law_cell_here", "_law_many"] spNums := ⟨fLNumbers, fdLNumbers, mLNumbers, FLNumbers.kp, bLNumbers, ok_numbers FLNumbers T⟩
    have pC : Pm l.prog w K mg base CX0 1 "_law_cell" ["_law_script", "_law_k"] (spCell2 K) := ⟨fCell, fdCell, mCell, FCell.kp, bCell, ok_cell2 FCell T⟩
    have pWh : Pm l.prog w K mg base CX0 1 "_law_whole" ["_law_found"] spWh := ⟨fLWhole, fdLWhole, mLWhole, FLWhole.kp, bLWhole, ok_wh FLWhole T⟩
    have pPo : Pm l.prog w K mg base CX0 1 "_law_power" ["_law_p", "_law_many"] spPow := ⟨fLPower, fdLPower, mLPower, FLPower.kp, bLPower, ok_lpower FLPower T⟩
    have pLT : Pm l.prog w K mg base CX0 1 "_law_trim" ["_law_row"] spTrim := ⟨fLTrim, fdLTrim, mLTrim, FLTrim.kp, bLTrim, ok_ltrim FLTrim T⟩
    have pLL : Pm l.prog w K mg base CX0 2 "_law_left" ["_law_p", "_law_one", "_law_by"] spRest := ⟨fLLeft, fdLLeft, mLLeft, FLLeft.kp, bLLeft, ok_left FLLeft T pLT⟩
    have pLD : Pm l.prog w K mg base CX0 1 "_law_digits" ["_law_x", "_law_p", "_law_many"] spLDig := ⟨fLDigits, fdLDigits, mLDigits, FLDigits.kp, bLDigits, ok_ldig FLDigits T⟩
    have pDv : Pm l.prog w K mg base CX0 3 "_law_divides" ["_law_p", "_law_row"] spDv := ⟨fLDivides, fdLDivides, mLDivides, FLDivides.kp, bLDivides, ok_divides FLDivides T pPo pLD pLL⟩
    have pLF : Pm l.prog w K mg base CX0 4 "_law_field" ["_law_xs", "_law_most"] spLField := ⟨fLField, fdLField, mLField, FLField.kp, bLField, ok_lfield FLField pPo pLD pDv⟩
    have pMi : Mp l.prog w K mg base CX0 4 CF "minus" ["self", "a", "b"] (spBin CF mnV) := ⟨fMMinus, fdMMinus, eMMinus, bMMinus, ok_minus FMMinus Zc.Z pHa pJo⟩
    have pBa : Mp l.prog w K mg base CX0 5 CF "back" ["self", "a"] (spBack CF) := ⟨fMBack, fdMBack, eMBack, bMBack, ok_back FMBack T Zc.Z pHa pTi⟩
    have pIX : Pm l.prog w K mg base CX0 2 "is_below" ["thing", "many"] (spBelowX K) := ⟨fIsBelow, fdIsBelow, mIsBelow, FIsBelow.kp, bIsBelow, ok_belowX FIsBelow pW⟩
    have pHX : Mp l.prog w K mg base (CXD l.prog w) 3 CF "must_have" ["self", "thing"] (spHaveX C CF) := ⟨fMMustHave, fdMMustHave, eMMustHave, bMMustHave, ok_haveX FMMustHave Zc.Z D.R.eC D.mC pIX⟩
    have pPX : Mp l.prog w K mg base (CXD l.prog w) 4 CF "plus" ["self", "a", "b"] (spBinX C CF) := ⟨fMPlus, fdMPlus, eMPlus, bMPlus, ok_plusX FMPlus Zc.Z pHX⟩
    have pMX : Mp l.prog w K mg base (CXD l.prog w) 4 CF "minus" ["self", "a", "b"] (spBinX C CF) := ⟨fMMinus, fdMMinus, eMMinus, bMMinus, ok_minusX FMMinus Zc.Z pHX⟩
    have pTX : Mp l.prog w K mg base (CXD l.prog w) 4 CF "times" ["self", "a", "b"] (spBinX C CF) := ⟨fMTimes, fdMTimes, eMTimes, bMTimes, ok_timesX FMTimes Zc.Z pHX⟩
    have pBX : Mp l.prog w K mg base (CXD l.prog w) 4 CF "back" ["self", "a"] (spBackX C CF) := ⟨fMBack, fdMBack, eMBack, bMBack, ok_backX FMBack Zc.Z D.R.eC D.mC pHX⟩
    have pMa : Mp l.prog w K mg base CX0 5 CF "many_powers" ["self", "a"] (spMany CF) := ⟨fMManyPowers, fdMManyPowers, eMManyPowers, bMManyPowers, ok_many FMManyPowers Zc.Z pTi⟩
    have pFi : Mp l.prog w K mg base CX0 6 CF "first" ["self"] (spFirst CF) := ⟨fMFirst, fdMFirst, eMFirst, bMFirst, ok_first FMFirst T Zc.Z pMa⟩
    have pOn : Pm l.prog w K mg base CX0 1 "_law_only" ["_law_e", "_law_at"] (spOnly C) := ⟨fLOnly, fdLOnly, mLOnly, FLOnly.kp, bLOnly, ok_only FLOnly T D⟩
    have pRu : Pm l.prog w K mg base CX0 6 "_law_rules" ["_law_field_here", "_law_a", "_law_b", "_law_c"] (spRulesK CF) := ⟨fLRules, fdLRules, mLRules, FLRules.kp, bLRules, ok_rules FLRules Zc.Z pPl pMi pTi pBa⟩
    have pAk : Pm l.prog w K mg base CX0 1 "_law_ask" ["_law_field_here", "_law_word"] (spMaker mAsk 514 "_law_field_here" "_law_word") := ⟨fLAsk, fdLAsk, mLAsk, FLAsk.kp, bLAsk, ok_ask FLAsk (code_of aLAsk FLAsk Ht) hN⟩
    have pRe : Pm l.prog w K mg base CX0 6 "_law_refused" ["_law_ask_here", "_law_things"] (spRefK CF) := ⟨fRef, fdRef, mRef, FRef.kp, bRef, ok_ref FRef D Zc.Z pPX pMX pTX pBX pOn⟩
    have pAl : Pm l.prog w K mg base CX0 7 "_law_all_refused" ["_law_field_here", "_law_good", "_law_odd"] (spAllK CF 514) := ⟨fLAllRefused, fdLAllRefused, mLAllRefused, FLAllRefused.kp, bLAllRefused, ok_allref FLAllRefused pAk pRe⟩
    have pFR : Pm l.prog w K mg base CX0 7 "_law_first_right" ["_law_field_here", "_law_size"] (spFR CF) := ⟨fLFirstRight, fdLFirstRight, mLFirstRight, FLFirstRight.kp, bLFirstRight, ok_fright FLFirstRight T Zc.Z pTi pFi pWh⟩
    exact ok_law FLaw T Zc.Z pC pN pLF pMk pPo pRu pAl pAk pRe pFR
end E1
def PySem.W.Fast.tw10012120900744044712 : Nat := 0
def PySem.W.Fast.tw10040400993457264239 : Nat := 0
def PySem.W.Fast.tw10359921847237175481 : Nat := 0
def PySem.W.Fast.tw10763581531346485342 : Nat := 0
def PySem.W.Fast.tw11297032799958210087 : Nat := 0
def PySem.W.Fast.tw11862314476473571657 : Nat := 0
def PySem.W.Fast.tw12069912555417155230 : Nat := 0
def PySem.W.Fast.tw12133046104953707250 : Nat := 0
def PySem.W.Fast.tw12182917696934777723 : Nat := 0
def PySem.W.Fast.tw12762972705071313225 : Nat := 0
def PySem.W.Fast.tw12916478826332184376 : Nat := 0
def PySem.W.Fast.tw13123629900511945402 : Nat := 0
def PySem.W.Fast.tw1349270583724780502 : Nat := 0
def PySem.W.Fast.tw13531147661506857113 : Nat := 0
def PySem.W.Fast.tw13607493517280666261 : Nat := 0
def PySem.W.Fast.tw14448689116421624347 : Nat := 0
def PySem.W.Fast.tw14978080459363803558 : Nat := 0
def PySem.W.Fast.tw1497830769676093515 : Nat := 0
def PySem.W.Fast.tw14999883051066519585 : Nat := 0
def PySem.W.Fast.tw15109623842112959466 : Nat := 0
def PySem.W.Fast.tw1544146790821622789 : Nat := 0
def PySem.W.Fast.tw16400199755556172376 : Nat := 0
def PySem.W.Fast.tw16546377614270068734 : Nat := 0
def PySem.W.Fast.tw16778404405882988660 : Nat := 0
def PySem.W.Fast.tw16858456845151492975 : Nat := 0
def PySem.W.Fast.tw16985109505151360027 : Nat := 0
def PySem.W.Fast.tw17178348966886994506 : Nat := 0
def PySem.W.Fast.tw17537845580826787893 : Nat := 0
def PySem.W.Fast.tw2013671090127994 : Nat := 0
def PySem.W.Fast.tw3635029463572443751 : Nat := 0
def PySem.W.Fast.tw3793766408938183271 : Nat := 0
def PySem.W.Fast.tw3969599385206208789 : Nat := 0
def PySem.W.Fast.tw4720186010166685516 : Nat := 0
def PySem.W.Fast.tw5930644667526786789 : Nat := 0
def PySem.W.Fast.tw6051177121070845821 : Nat := 0
def PySem.W.Fast.tw6171635032188589899 : Nat := 0
def PySem.W.Fast.tw6274860005962394897 : Nat := 0
def PySem.W.Fast.tw6307450676866076227 : Nat := 0
def PySem.W.Fast.tw6568682591784701732 : Nat := 0
def PySem.W.Fast.tw7283178651251668926 : Nat := 0
def PySem.W.Fast.tw7357366001022883410 : Nat := 0
def PySem.W.Fast.tw7517487948532914622 : Nat := 0
def PySem.W.Fast.tw7758510575351637884 : Nat := 0
def PySem.W.Fast.tw7842702836587740707 : Nat := 0
def PySem.W.Fast.tw7870478652160757922 : Nat := 0
def PySem.W.Fast.tw8696195465962596080 : Nat := 0
def PySem.W.Fast.tw8743580735976558071 : Nat := 0
def PySem.W.Fast.tw9128510651913348277 : Nat := 0
def PySem.W.Fast.tw9164740782508439498 : Nat := 0
open PySem PySem.W PyProof.Rows
set_option maxRecDepth 100000 in
set_option maxHeartbeats 0 in
theorem PySem.Challenge.cw_evenmeet_k26_whole_field_rules_holds : PySem.Challenge.rw_evenmeet_k26_whole_field_rules.Holds := by
  w_on; o_law; k_head; (case hw => w_witness2)
  k_fill
  refine L2.walkN (l := PySem.Challenge.rw_evenmeet_k26_whole_field_rules) (k := 20) (c := 518) (Pt := 514) ⟨rfl, by decide, by decide, rfl⟩ rfl rfl (fun w h Y => PySem.W.km_in_of Y) (fun w h Y => ⟨PySem.W.codeHd_of_K (PySem.W.km_in_of Y) (by kernel_rfl), PySem.W.km_tabs_of Y 514 (List.mem_singleton.mpr rfl)⟩) (fun w => by kernel_rfl) ?F
  case F =>
    intro w mg fa h KX G hmg
    have N : PySem.W.nsIn (L2.KOf KX) mainGlobals "isinstance" = some none ∧ PySem.W.nsIn (L2.KOf KX) mainGlobals "int" = some none ∧ PySem.W.nsIn (L2.KOf KX) mainGlobals "bool" = some none ∧ PySem.W.nsIn (L2.KOf KX) mainGlobals "abs" = some none ∧ PySem.W.nsIn (L2.KOf KX) mainGlobals "len" = some none ∧ PySem.W.nsIn (L2.KOf KX) mainGlobals "range" = some none ∧ PySem.W.nsIn (L2.KOf KX) mainGlobals "tuple" = some none ∧ PySem.W.nsIn (L2.KOf KX) mainGlobals "list" = some none ∧ PySem.W.nsIn (L2.KOf KX) mainGlobals "sorted" = some none ∧ PySem.W.nsIn (L2.KOf KX) mainGlobals "all" = some none ∧ PySem.W.nsIn (L2.KOf KX) mainGlobals "set" = some none ∧ PySem.W.nsIn (L2.KOf KX) mainGlobals "zip" = some none ∧ PySem.W.nsIn (L2.KOf KX) mainGlobals "enumerate" = some none ∧ PySem.W.nsIn (L2.KOf KX) mainGlobals "any" = some none ∧ PySem.W.nsIn (L2.KOf KX) mainGlobals "max" = some none ∧ PySem.W.nsIn (L2.KOf KX) mainGlobals "min" = some none ∧ PySem.W.nsIn (L2.KOf KX) mainGlobals "str" = some none ∧ PySem.W.nsIn (L2.KOf KX) mainGlobals "sum" = some none := by
      dsimp only [L2.KOf]
      refine' ⟨?z0, ?z1, ?z2, ?z3, ?z4, ?z5, ?z6, ?z7, ?z8, ?z9, ?z10, ?z11, ?z12, ?z13, ?z14, ?z15, ?z16, ?z17⟩
      (case z0 => k_is)
      (case z1 => k_is)
      (case z2 => k_is)
      (case z3 => k_is)
      (case z4 => k_is)
      (case z5 => k_is)
      (case z6 => k_is)
      (case z7 => k_is)
      (case z8 => k_is)
      (case z9 => k_is)
      (case z10 => k_is)
      (case z11 => k_is)
      (case z12 => k_is)
      (case z13 => k_is)
      (case z14 => k_is)
      (case z15 => k_is)
      (case z16 => k_is)
      (case z17 => k_is)
    have CMostNumbers : ∃ t, PySem.W.nsIn (L2.KOf KX) mainGlobals "MOST_NUMBERS" = some (some (.int 32 t)) := by
      dsimp only [L2.KOf]
      refine' E1.cint_mk ?a
      (case a => k_is)
    have AWhole : E1.At (L2.KOf KX) "is_whole" E1.sWhole := by
      dsimp only [L2.KOf]
      refine' E1.fn_mk ?a ?l ?c ?k
      (case a => k_is); (case l => k_is); (case c => k_is); (case k => k_is)
    have AIsBelow : E1.At (L2.KOf KX) "is_below" E1.sIsBelow := by
      dsimp only [L2.KOf]
      refine' E1.fn_mk ?a ?l ?c ?k
      (case a => k_is); (case l => k_is); (case c => k_is); (case k => k_is)
    have AMust : E1.At (L2.KOf KX) "must_be_whole" E1.sMust := by
      dsimp only [L2.KOf]
      refine' E1.fn_mk ?a ?l ?c ?k
      (case a => k_is); (case l => k_is); (case c => k_is); (case k => k_is)
    have AFrom : E1.At (L2.KOf KX) "must_be_from" E1.sFrom := by
      dsimp only [L2.KOf]
      refine' E1.fn_mk ?a ?l ?c ?k
      (case a => k_is); (case l => k_is); (case c => k_is); (case k => k_is)
    have APrimes : E1.At (L2.KOf KX) "primes_of" E1.sPrimes := by
      dsimp only [L2.KOf]
      refine' E1.fn_mk ?a ?l ?c ?k
      (case a => k_is); (case l => k_is); (case c => k_is); (case k => k_is)
    have AIsPrime : E1.At (L2.KOf KX) "is_prime" E1.sIsPrime := by
      dsimp only [L2.KOf]
      refine' E1.fn_mk ?a ?l ?c ?k
      (case a => k_is); (case l => k_is); (case c => k_is); (case k => k_is)
    have ARowTimes : E1.At (L2.KOf KX) "row_times" E1.sRowTimes := by
      dsimp only [L2.KOf]
      refine' E1.fn_mk ?a ?l ?c ?k
      (case a => k_is); (case l => k_is); (case c => k_is); (case k => k_is)
    have ARowRest : E1.At (L2.KOf KX) "row_rest" E1.sRowRest := by
      dsimp only [L2.KOf]
      refine' E1.fn_mk ?a ?l ?c ?k
      (case a => k_is); (case l => k_is); (case c => k_is); (case k => k_is)
    have ARowFactor : E1.At (L2.KOf KX) "row_factor" E1.sRowFactor := by
      dsimp only [L2.KOf]
      refine' E1.fn_mk ?a ?l ?c ?k
      (case a => k_is); (case l => k_is); (case c => k_is); (case k => k_is)
    have ATrimmed : E1.At (L2.KOf KX) "trimmed" E1.sTrimmed := by
      dsimp only [L2.KOf]
      refine' E1.fn_mk ?a ?l ?c ?k
      (case a => k_is); (case l => k_is); (case c => k_is); (case k => k_is)
    have ADigitsOf : E1.At (L2.KOf KX) "digits_of" E1.sDigitsOf := by
      dsimp only [L2.KOf]
      refine' E1.fn_mk ?a ?l ?c ?k
      (case a => k_is); (case l => k_is); (case c => k_is); (case k => k_is)
    have ANumberOf : E1.At (L2.KOf KX) "number_of" E1.sNumberOf := by
      dsimp only [L2.KOf]
      refine' E1.fn_mk ?a ?l ?c ?k
      (case a => k_is); (case l => k_is); (case c => k_is); (case k => k_is)
    have AMustBeRow : E1.At (L2.KOf KX) "must_be_row" E1.sMustBeRow := by
      dsimp only [L2.KOf]
      refine' E1.fn_mk ?a ?l ?c ?k
      (case a => k_is); (case l => k_is); (case c => k_is); (case k => k_is)
    have ASizeWithin : E1.At (L2.KOf KX) "size_within" E1.sSizeWithin := by
      dsimp only [L2.KOf]
      refine' E1.fn_mk ?a ?l ?c ?k
      (case a => k_is); (case l => k_is); (case c => k_is); (case k => k_is)
    have AMustBePrime : E1.At (L2.KOf KX) "must_be_prime" E1.sMustBePrime := by
      dsimp only [L2.KOf]
      refine' E1.fn_mk ?a ?l ?c ?k
      (case a => k_is); (case l => k_is); (case c => k_is); (case k => k_is)
    have AMustBeNoProduct : E1.At (L2.KOf KX) "must_be_no_product" E1.sMustBeNoProduct := by
      dsimp only [L2.KOf]
      refine' E1.fn_mk ?a ?l ?c ?k
      (case a => k_is); (case l => k_is); (case c => k_is); (case k => k_is)
    have AJoined : E1.At (L2.KOf KX) "joined" E1.sJoined := by
      dsimp only [L2.KOf]
      refine' E1.fn_mk ?a ?l ?c ?k
      (case a => k_is); (case l => k_is); (case c => k_is); (case k => k_is)
    have ACell : E1.At (L2.KOf KX) "_law_cell" E1.sCell := by
      dsimp only [L2.KOf]
      refine' E1.fn_mk ?a ?l ?c ?k
      (case a => k_is); (case l => k_is); (case c => k_is); (case k => k_is)
    have ALNumbers : E1.At (L2.KOf KX) "_law_numbers" E1.sLNumbers := by
      dsimp only [L2.KOf]
      refine' E1.fn_mk ?a ?l ?c ?k
      (case a => k_is); (case l => k_is); (case c => k_is); (case k => k_is)
    have ALWhole : E1.At (L2.KOf KX) "_law_whole" E1.sLWhole := by
      dsimp only [L2.KOf]
      refine' E1.fn_mk ?a ?l ?c ?k
      (case a => k_is); (case l => k_is); (case c => k_is); (case k => k_is)
    have ALOnly : E1.At (L2.KOf KX) "_law_only" E1.sLOnly := by
      dsimp only [L2.KOf]
      refine' E1.fn_mk ?a ?l ?c ?k
      (case a => k_is); (case l => k_is); (case c => k_is); (case k => k_is)
    have ALPower : E1.At (L2.KOf KX) "_law_power" E1.sLPower := by
      dsimp only [L2.KOf]
      refine' E1.fn_mk ?a ?l ?c ?k
      (case a => k_is); (case l => k_is); (case c => k_is); (case k => k_is)
    have ALTrim : E1.At (L2.KOf KX) "_law_trim" E1.sLTrim := by
      dsimp only [L2.KOf]
      refine' E1.fn_mk ?a ?l ?c ?k
      (case a => k_is); (case l => k_is); (case c => k_is); (case k => k_is)
    have ALLeft : E1.At (L2.KOf KX) "_law_left" E1.sLLeft := by
      dsimp only [L2.KOf]
      refine' E1.fn_mk ?a ?l ?c ?k
      (case a => k_is); (case l => k_is); (case c => k_is); (case k => k_is)
    have ALDigits : E1.At (L2.KOf KX) "_law_digits" E1.sLDigits := by
      dsimp only [L2.KOf]
      refine' E1.fn_mk ?a ?l ?c ?k
      (case a => k_is); (case l => k_is); (case c => k_is); (case k => k_is)
    have ALDivides : E1.At (L2.KOf KX) "_law_divides" E1.sLDivides := by
      dsimp only [L2.KOf]
      refine' E1.fn_mk ?a ?l ?c ?k
      (case a => k_is); (case l => k_is); (case c => k_is); (case k => k_is)
    have ALField : E1.At (L2.KOf KX) "_law_field" E1.sLField := by
      dsimp only [L2.KOf]
      refine' E1.fn_mk ?a ?l ?c ?k
      (case a => k_is); (case l => k_is); (case c => k_is); (case k => k_is)
    have ALRules : E1.At (L2.KOf KX) "_law_rules" E1.sLRules := by
      dsimp only [L2.KOf]
      refine' E1.fn_mk ?a ?l ?c ?k
      (case a => k_is); (case l => k_is); (case c => k_is); (case k => k_is)
    have ARef : E1.At (L2.KOf KX) "_law_refused" E1.sRef := by
      dsimp only [L2.KOf]
      refine' E1.fn_mk ?a ?l ?c ?k
      (case a => k_is); (case l => k_is); (case c => k_is); (case k => k_is)
    have ALAsk : E1.At (L2.KOf KX) "_law_ask" E1.sLAsk := by
      dsimp only [L2.KOf]
      refine' E1.fn_mk ?a ?l ?c ?k
      (case a => k_is); (case l => k_is); (case c => k_is); (case k => k_is)
    have ALAllRefused : E1.At (L2.KOf KX) "_law_all_refused" E1.sLAllRefused := by
      dsimp only [L2.KOf]
      refine' E1.fn_mk ?a ?l ?c ?k
      (case a => k_is); (case l => k_is); (case c => k_is); (case k => k_is)
    have ALFirstRight : E1.At (L2.KOf KX) "_law_first_right" E1.sLFirstRight := by
      dsimp only [L2.KOf]
      refine' E1.fn_mk ?a ?l ?c ?k
      (case a => k_is); (case l => k_is); (case c => k_is); (case k => k_is)
    have ALaw : E1.At (L2.KOf KX) "law" E1.sLaw := by
      dsimp only [L2.KOf]
      refine' E1.fn_mk ?a ?l ?c ?k
      (case a => k_is); (case l => k_is); (case c => k_is); (case k => k_is)
    have R : ∃ M C o1 o2 o3 o4 o5 o6 o7 o8 o9 o10 o11 o12 o13 : Addr, E1.RefsD (L2.KOf KX) M C o1 o2 o3 o4 o5 o6 o7 o8 o9 o10 o11 o12 o13 := by
      dsimp only [L2.KOf]
      refine' E1.refsD_mk ?nM ?nC ?nV ?n1 ?n2 ?n3 ?n4 ?n5 ?n6 ?n7 ?n8 ?n9 ?n10 ?n11 ?n12 ?n13 ?exM ?gaM ?noM ?clM ?obM ?beM ?exC ?gaC ?noC ?clC ?obC ?beC ?gt ?tk ?sub ?kC ?kV ?kM ?q1 ?q2 ?q3 ?q4 ?q5 ?q6 ?q7 ?q8 ?q9 ?q10 ?q11 ?q12 ?q13
      (case nM => k_is)
      (case nC => k_is)
      (case nV => k_is)
      (case n1 => k_is)
      (case n2 => k_is)
      (case n3 => k_is)
      (case n4 => k_is)
      (case n5 => k_is)
      (case n6 => k_is)
      (case n7 => k_is)
      (case n8 => k_is)
      (case n9 => k_is)
      (case n10 => k_is)
      (case n11 => k_is)
      (case n12 => k_is)
      (case n13 => k_is)
      (case exM => k_exc)
      (case gaM => k_is)
      (case noM => k_is)
      (case clM => k_is)
      (case obM => k_is)
      (case beM => k_is)
      (case exC => k_exc)
      (case gaC => k_is)
      (case noC => k_is)
      (case clC => k_is)
      (case obC => k_is)
      (case beC => k_is)
      (case gt => k_is)
      (case tk => k_is)
      (case sub => k_is)
      (case kC => kit_is)
      (case kV => kit_is)
      (case kM => kit_is)
      (case q1 => kit_is)
      (case q2 => kit_is)
      (case q3 => kit_is)
      (case q4 => kit_is)
      (case q5 => kit_is)
      (case q6 => kit_is)
      (case q7 => kit_is)
      (case q8 => kit_is)
      (case q9 => kit_is)
      (case q10 => kit_is)
      (case q11 => kit_is)
      (case q12 => kit_is)
      (case q13 => kit_is)
    have Zc : ∃ C : Addr, E1.FieldC (L2.KOf KX) C := by
      dsimp only [L2.KOf]
      refine' E1.field_mk ?nC ?pg ?hd ?po ?sa ?mk ?kc ?n0 ?n1 ?n2 ?nR ?a0 ?i0 ?l0 ?c0 ?k0 ?a1 ?i1 ?l1 ?c1 ?k1 ?a2 ?i2 ?l2 ?c2 ?k2 ?a3 ?i3 ?l3 ?c3 ?k3 ?a4 ?i4 ?l4 ?c4 ?k4 ?a5 ?i5 ?l5 ?c5 ?k5 ?a6 ?i6 ?l6 ?c6 ?k6 ?a7 ?i7 ?l7 ?c7 ?k7
      (case nC => k_is)
      (case pg => k_is)
      (case hd => k_is)
      (case po => k_is)
      (case sa => k_is)
      (case mk => k_is)
      (case kc => k_is)
      (case n0 => k_is)
      (case n1 => k_is)
      (case n2 => k_is)
      (case nR => k_is)
      (case a0 => k_is)
      (case i0 => k_is)
      (case l0 => k_is)
      (case c0 => k_is)
      (case k0 => k_is)
      (case a1 => k_is)
      (case i1 => k_is)
      (case l1 => k_is)
      (case c1 => k_is)
      (case k1 => k_is)
      (case a2 => k_is)
      (case i2 => k_is)
      (case l2 => k_is)
      (case c2 => k_is)
      (case k2 => k_is)
      (case a3 => k_is)
      (case i3 => k_is)
      (case l3 => k_is)
      (case c3 => k_is)
      (case k3 => k_is)
      (case a4 => k_is)
      (case i4 => k_is)
      (case l4 => k_is)
      (case c4 => k_is)
      (case k4 => k_is)
      (case a5 => k_is)
      (case i5 => k_is)
      (case l5 => k_is)
      (case c5 => k_is)
      (case k5 => k_is)
      (case a6 => k_is)
      (case i6 => k_is)
      (case l6 => k_is)
      (case c6 => k_is)
      (case k6 => k_is)
      (case a7 => k_is)
      (case i7 => k_is)
      (case l7 => k_is)
      (case c7 => k_is)
      (case k7 => k_is)
    have Ht : PySem.W.tabIn (L2.KOf KX) "_law_ask" = some (518, 514) := by
      dsimp only [L2.KOf]
      kernel_rfl
    exact E1.all_mk KX G hmg N Zc CMostNumbers R AWhole AIsBelow AMust AFrom APrimes AIsPrime ARowTimes ARowRest ARowFactor ATrimmed ADigitsOf ANumberOf AMustBeRow ASizeWithin AMustBePrime AMustBeNoProduct AJoined ACell ALNumbers ALWhole ALOnly ALPower ALTrim ALLeft ALDigits ALDivides ALField ALRules ARef ALAsk ALAllRefused ALFirstRight ALaw Ht


