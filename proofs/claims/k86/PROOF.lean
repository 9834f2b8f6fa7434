import PyProof.Rows.All
import Wide.All
import OpenK.AllK
import Wide.FinOn
import Lean
import PyProof.EqAt
import PyProof.EqKinds
import PyProof.TupleCall
import PySem.Challenge.RW_evenmeet_k86_whole_forms_of_one_sort
set_option Elab.async false
set_option linter.all false
set_option maxRecDepth 100000
/-! THE HAND LAYER, for ints, bools, texts, own classes, LISTS and tuples (index, slices, in, append, pop ..), calls, loops. Paste it whole ahead of your own text; what your proof does not reach may be deleted. -/
namespace L2
open PySem PySem.Spec PyProof.Rows

/-- a key: an int or a str -/
abbrev Key := Sum Int Str
def keyIs : Key → Value → Bool
  | .inl k, v => Value.isInt k v
  | .inr x, v => Value.isStrOf x v
def keyH (w : World) : Key → Int
  | .inl k => hashInt k
  | .inr x => hashStr w x
theorem keyIs_shape : ∀ {k : Key} {v : Value}, keyIs k v = true → (∃ i t, k = Sum.inl i ∧ v = Value.int i t) ∨ (∃ x t, k = Sum.inr x ∧ v = Value.str x t)
  | .inl i, v, h => by
    obtain ⟨t, e⟩ := Value.isInt_shape (k := i) (v := v) h
    exact .inl ⟨i, t, rfl, e⟩
  | .inr x, v, h => by
    obtain ⟨t, e⟩ := Value.isStrOf_shape (x := x) (v := v) h
    exact .inr ⟨x, t, rfl, e⟩
theorem key_ll (a b : Int) : decide ((Sum.inl a : Key) = Sum.inl b) = (a == b) := by
  by_cases e : a = b
  · subst e; simp
  · have h : ¬ (Sum.inl a : Key) = Sum.inl b := fun q => e (Sum.inl.inj q)
    rw [decide_eq_false h]
    exact (beq_eq_false_iff_ne.mpr e).symm
theorem key_rr (a b : Str) : decide ((Sum.inr a : Key) = Sum.inr b) = decide (a = b) := by
  by_cases e : a = b
  · subst e; simp
  · have h : ¬ (Sum.inr a : Key) = Sum.inr b := fun q => e (Sum.inr.inj q)
    rw [decide_eq_false h, decide_eq_false e]
theorem key_lr (a : Int) (b : Str) : decide ((Sum.inl a : Key) = Sum.inr b) = false := decide_eq_false (fun q => nomatch q)
theorem key_rl (a : Str) (b : Int) : decide ((Sum.inr a : Key) = Sum.inl b) = false := decide_eq_false (fun q => nomatch q)

def mixKind (prog : Program) (w : World) : PySem.KeyKind prog w Key where
  is := keyIs
  hash := keyH w
  inj := fun v a b ha hb => by
    rcases keyIs_shape ha with ⟨i, t, rfl, rfl⟩ | ⟨x, t, rfl, rfl⟩
    · rcases keyIs_shape hb with ⟨j, u, rfl, e⟩ | ⟨y, u, rfl, e⟩
      · injection e with e1 _; rw [e1]
      · exact nomatch e
    · rcases keyIs_shape hb with ⟨j, u, rfl, e⟩ | ⟨y, u, rfl, e⟩
      · exact nomatch e
      · injection e with e1 _; rw [e1]
  byValue := fun k v h => by
    rcases keyIs_shape h with ⟨i, t, rfl, rfl⟩ | ⟨x, t, rfl, rfl⟩ <;> rfl
  pyHash := fun hv h => by
    rcases keyIs_shape hv with ⟨i, t, rfl, rfl⟩ | ⟨x, t, rfl, rfl⟩
    · exact wpAny_pyHash_int h
    · exact wpAny_pyHash_str h
  eqBool := fun hu hv h => by
    rcases keyIs_shape hu with ⟨i, t, rfl, rfl⟩ | ⟨x, t, rfl, rfl⟩
    · rcases keyIs_shape hv with ⟨j, u, rfl, rfl⟩ | ⟨y, u, rfl, rfl⟩
      · rw [key_ll] at h; exact wpAny_eqBool_int h
      · rw [key_lr] at h; exact SeqAt.EqAt.int_str i t y u _ _ _ _ h
    · rcases keyIs_shape hv with ⟨j, u, rfl, rfl⟩ | ⟨y, u, rfl, rfl⟩
      · rw [key_rl] at h; exact SeqAt.EqAt.str_int x t j u _ _ _ _ h
      · rw [key_rr] at h; exact wpAny_eqBool_str h
  «strs» := fun k x t v h => by
    rcases keyIs_shape h with ⟨i, u, rfl, e⟩ | ⟨y, u, rfl, e⟩
    · exact nomatch e
    · injection e with e1 _
      subst e1
      cases v <;> rfl

end L2

namespace L2
open PySem PySem.Spec PyProof.Rows

/-- a value, without the heap -/
inductive V where
  | non | bl (b : Bool) | int (i : Int) | str (x : Str) | byt (b : Array UInt8) | flt (b : UInt64) | ref (a : Addr) | ty (n : String)
  deriving DecidableEq

def RelV : V → Value → Prop
  | .non, u => u = Value.none
  | .bl b, u => u = Value.bool b
  | .int i, u => ∃ t, u = Value.int i t
  | .str x, u => ∃ t, u = Value.str x t
  | .byt b, u => ∃ t, u = Value.bytes b t
  | .flt b, u => ∃ t, u = Value.float b t
  | .ref a, u => u = Value.ref a
  | .ty n, u => u = Value.type n

abbrev Vals : List V → List Value → Prop := Paired RelV
theorem Vals.length {xs : List V} {us : List Value} (r : Vals xs us) : xs.length = us.length := Paired.length r
theorem Vals.get : ∀ {xs : List V} {us : List Value} {i : Nat} {x : V}, Vals xs us → xs[i]? = some x → ∃ u, us[i]? = some u ∧ RelV x u
  | _, _, _, _, .nil, e => by simp at e
  | _, _, 0, _, .cons r _, e => by simp at e; subst e; exact ⟨_, rfl, r⟩
  | _, _, i + 1, x, .cons _ t, e => by
    obtain ⟨u, h1, h2⟩ := Vals.get (i := i) (x := x) t (by simpa using e)
    exact ⟨u, by simpa using h1, h2⟩
theorem Vals.set {x : V} {u : Value} (r : RelV x u) : ∀ {xs : List V} {us : List Value} (i : Nat), Vals xs us → Vals (xs.set i x) (us.set i u)
  | _, _, _, .nil => .nil
  | _, _, 0, .cons _ t => .cons r t
  | _, _, i + 1, .cons q t => .cons q (Vals.set r i t)
theorem Vals.append : ∀ {xs ys : List V} {us ws : List Value}, Vals xs us → Vals ys ws → Vals (xs ++ ys) (us ++ ws)
  | _, _, _, _, .nil, s => s
  | _, _, _, _, .cons r t, s => .cons r (Vals.append t s)
theorem Vals.take : ∀ {xs : List V} {us : List Value} (n : Nat), Vals xs us → Vals (xs.take n) (us.take n)
  | _, _, 0, _ => .nil
  | _, _, _ + 1, .nil => .nil
  | _, _, n + 1, .cons r t => .cons r (Vals.take n t)
theorem Vals.drop : ∀ {xs : List V} {us : List Value} (n : Nat), Vals xs us → Vals (xs.drop n) (us.drop n)
  | _, _, 0, r => r
  | _, _, _ + 1, .nil => .nil
  | _, _, n + 1, .cons _ t => Vals.drop n t
def RelO : Option V → Option Value → Prop
  | some v, some u => RelV v u
  | none, none => True
  | _, _ => False
def KV {κ : Type} : List (κ × V) → List (κ × Value) → Prop := Paired fun (p : κ × V) (q : κ × Value) => p.1 = q.1 ∧ RelV p.2 q.2

/-- a key of a dict (00_mix): an int or a text -/
def kV : Key → V
  | .inl i => .int i
  | .inr x => .str x

/-- what stands at a tracked address -/
inductive HO where
  /-- a list -/
  | lst (xs : List V)
  /-- a tuple (never changes) -/
  | tup (xs : List V)
  /-- a dict whose keys are ints and texts; one whose keys are tuples of ints and texts (the empty one is both) -/
  | dK (kvs : List (Key × V)) | dT (kvs : List (List Key × V))
  /-- a set of ints: its members, its size -/
  | set (S : Int → Bool) (n : Nat)
  /-- an instance of the class at C, its dict at dx, its attributes -/
  | ins (C dx : Addr) (fs : List (Str × V))
  /-- the dict of the instance at x -/
  | own (x : Addr)
  /-- the dict of an exception -/
  | xd (fs : List (Str × V))
  /-- a bound method, f of x -/
  | met (f x : Addr)
  /-- a range object lo, lo + 1, .. below hi -/
  | rng (lo hi : Int)
  /-- a thing that is known to the object (the script; a dict while a loop walks it): read, never written while it is so -/
  | frz (o : Obj) (u : HO)
  /-- a code object's table -/
  | tbl (ps : Array Value)
  /-- any other thing, by what is true of its one object (a def of one's own: SetO a S n := HO.ext fun h => ..) -/
  | ext (φ : Heap → Prop)

abbrev Hp := Addr → Option HO
def upd (H : Hp) (a : Addr) (o : HO) : Hp := fun b => if b = a then some o else H b
theorem upd_same {H : Hp} {a : Addr} {o : HO} : upd H a o a = some o := by unfold upd; rw [if_pos rfl]
theorem upd_ne {H : Hp} {a b : Addr} {o : HO} (h : b ≠ a) : upd H a o b = H b := by unfold upd; rw [if_neg h]
/-- two objects of different content stand apart -/
theorem ne_of {H : Hp} {a b : Addr} {o u : HO} (h : H a = some o) (h' : H b = some u) (d : o ≠ u) : a ≠ b := by
  intro e; subst e; rw [h] at h'; exact d (Option.some.inj h')
theorem ne_of_none {H : Hp} {a b : Addr} {o : HO} (h : H a = some o) (h' : H b = none) : a ≠ b := by
  intro e; subst e; rw [h] at h'; cases h'

section
variable (P : Program) (w : World)
def ObjOk (H : Hp) (h : Heap) (a : Addr) : HO → Prop
  | .lst xs => xs.length ≤ sizeLine ∧ ∃ (its : List Value) (n : Nat), Vals xs its ∧ h.get? a = some { cls := .type "list", data := .seq its.toArray n }
  | .tup xs => xs.length ≤ sizeLine ∧ ∃ its : List Value, Vals xs its ∧ IsTup h a its.toArray
  | .dK kvs => kvs.length ≤ sizeLine ∧ (a == sysModules) = false ∧ ∃ vs, KV kvs vs ∧ h.DictOf (mixKind P w) a vs
  | .dT kvs => kvs.length ≤ sizeLine ∧ (a == sysModules) = false ∧ ∃ xs : List (List Key × Addr × Value),
      Paired (fun (p : List Key × V) (q : List Key × Addr × Value) => p.1 = q.1 ∧ H q.2.1 = some (.tup (p.1.map kV)) ∧ RelV p.2 q.2.2) kvs xs ∧
      ∃ o es ep, h.get? a = some o ∧ o.ExactDict ∧ o.data = .dict es ep ∧ es.toList = xs.map (entryOfKey (tupleKind (mixKind P w))) ∧ (xs.map (·.1)).Nodup
  | .set S n => h.SetOf (intKind P w) a S n
  | .ins C dx fs => H dx = some (.own a) ∧ fs.length ≤ 1000 ∧ dx ≠ a ∧ h.get? a = some (PySem.W.instObj C dx) ∧
      ∃ mA, h.Ns1 dx mA ∧ (∀ f, RelO (fs.lookup f) (mA f)) ∧ PySem.Within mA (fs.map (·.1))
  | .own _ => ∃ o, h.get? a = some o
  | .xd fs => ∃ mA, h.Ns1 a mA ∧ ∀ f, RelO (fs.lookup f) (mA f)
  | .rng lo hi => ∃ t u v, h.get? a = some { cls := .type "range", data := .fields #[.int lo t, .int hi u, .int 1 v] }
  | .frz o u => h.get? a = some o ∧ ObjOk H h a u
  | .tbl ps => h.get? a = some { cls := .none, data := .fields ps }
  | .met f x => h.get? a = some (PySem.W.methodObj (.ref f) (.ref x))
  | .ext φ => φ h ∧ (∃ o, h.get? a = some o) ∧ ∀ h1 h2 : Heap, φ h1 → (∀ o, h1.get? a = some o → h2.get? a = some o) → φ h2
/-- the abstract heap is held -/
def HOk (H : Hp) (h : Heap) : Prop := ∀ a o, H a = some o → ObjOk P w H h a o
end

section
variable {P : Program} {w : World} {H H' : Hp} {h h' : Heap} {a : Addr} {o : HO}
theorem ObjOk.lt (x : ObjOk P w H h a o) : a < h.objs.size := by
  cases o with
  | lst xs => obtain ⟨_, _, _, _, e⟩ := x; exact Heap.lt_size e
  | tup xs => obtain ⟨_, _, _, p⟩ := x; exact p.lt
  | dK kvs => obtain ⟨_, _, _, _, o, _, _, e, _⟩ := x; exact Heap.lt_size e
  | dT kvs => obtain ⟨_, _, _, _, o, _, _, e, _⟩ := x; exact Heap.lt_size e
  | set S n => obtain ⟨o, _, _, _, e, _⟩ := x; exact Heap.lt_size e
  | ins C dx fs => obtain ⟨_, _, _, e, _⟩ := x; exact Heap.lt_size e
  | own y => obtain ⟨_, e⟩ := x; exact Heap.lt_size e
  | xd fs => obtain ⟨_, ⟨_, _, _, e, _⟩, _⟩ := x; exact Heap.lt_size e
  | rng lo hi => obtain ⟨_, _, _, e⟩ := x; exact Heap.lt_size e
  | frz ob u => obtain ⟨e, _⟩ := x; exact Heap.lt_size e
  | tbl ps => exact Heap.lt_size (show h.get? a = some _ from x)
  | met f y => exact Heap.lt_size (show h.get? a = some _ from x)
  | ext φ => obtain ⟨_, ⟨_, e⟩, _⟩ := x; exact Heap.lt_size e
theorem Paired.mapP {α β : Type} {F G : α → β → Prop} : ∀ {l₁ : List α} {l₂ : List β}, Paired F l₁ l₂ → (∀ a b, F a b → G a b) → Paired G l₁ l₂
  | _, _, .nil, _ => .nil
  | _, _, .cons r t, f => .cons (f _ _ r) (Paired.mapP t f)
/-- what an object's description leans on: its own object, its own dict, the tuples -/
theorem ObjOk.stay (x : ObjOk P w H h a o) (k : ∀ b u, (b = a ∨ H b = some (.own a)) → h.get? b = some u → h'.get? b = some u)
    (ho : ∀ b, H b = some (.own a) → H' b = some (.own a)) (ht : ∀ b xs, H b = some (.tup xs) → H' b = some (.tup xs)) : ObjOk P w H' h' a o := by
  induction o with
  | lst xs => obtain ⟨z, its, n, r, e⟩ := x; exact ⟨z, its, n, r, k _ _ (.inl rfl) e⟩
  | tup xs => obtain ⟨z, its, r, ob, e, c⟩ := x; exact ⟨z, its, r, ob, k _ _ (.inl rfl) e, c⟩
  | dK kvs => obtain ⟨z, y, vs, r, ob, es, ep, e, c⟩ := x; exact ⟨z, y, vs, r, ob, es, ep, k _ _ (.inl rfl) e, c⟩
  | dT kvs =>
    obtain ⟨z, y, xs, r, ob, es, ep, e, c⟩ := x
    exact ⟨z, y, xs, Paired.mapP r fun p q z => ⟨z.1, ht _ _ z.2.1, z.2.2⟩, ob, es, ep, k _ _ (.inl rfl) e, c⟩
  | set S n => obtain ⟨ob, es, ep, t, e, c⟩ := x; exact ⟨ob, es, ep, t, k _ _ (.inl rfl) e, c⟩
  | ins C dx fs =>
    obtain ⟨d, z, ne, e, mA, ⟨od, es, ep, e2, c⟩, r⟩ := x
    exact ⟨ho _ d, z, ne, k _ _ (.inl rfl) e, mA, ⟨od, es, ep, k _ _ (.inr d) e2, c⟩, r⟩
  | own y => obtain ⟨ob, e⟩ := x; exact ⟨ob, k _ _ (.inl rfl) e⟩
  | xd fs => obtain ⟨mA, ⟨od, es, ep, e, c⟩, r⟩ := x; exact ⟨mA, ⟨od, es, ep, k _ _ (.inl rfl) e, c⟩, r⟩
  | rng lo hi => obtain ⟨t, u, v, e⟩ := x; exact ⟨t, u, v, k _ _ (.inl rfl) e⟩
  | frz ob u ih => obtain ⟨e, q⟩ := x; exact ⟨k _ _ (.inl rfl) e, ih q⟩
  | tbl ps =>
    have e : h.get? a = some { cls := .none, data := .fields ps } := x
    show h'.get? a = some { cls := .none, data := .fields ps }
    exact k a _ (.inl rfl) e
  | met f y =>
    have e : h.get? a = some (PySem.W.methodObj (.ref f) (.ref y)) := x
    show h'.get? a = some (PySem.W.methodObj (.ref f) (.ref y))
    exact k a _ (.inl rfl) e
  | ext φ => obtain ⟨p, ⟨o, e⟩, st⟩ := x; exact ⟨st _ _ p fun o q => k _ _ (.inl rfl) q, ⟨o, k _ _ (.inl rfl) e⟩, st⟩
theorem HOk.lt (x : HOk P w H h) (e : H a = some o) : a < h.objs.size := (x a o e).lt
theorem HOk.fresh (x : HOk P w H h) (e : h.objs.size ≤ a) : H a = none := by
  cases q : H a with
  | none => rfl
  | some u => exact absurd (Nat.lt_of_lt_of_le (x.lt q) e) (Nat.lt_irrefl _)
/-- every object of the heap is kept -/
theorem HOk.kept (x : HOk P w H h) (k : ∀ b u, h.get? b = some u → h'.get? b = some u) : HOk P w H h' := fun a o e =>
  (x a o e).stay (fun b u _ q => k b u q) (fun _ q => q) fun _ _ q => q
/-- a new object is laid and tracked -/
theorem HOk.laid (x : HOk P w H h) (k : ∀ b u, h.get? b = some u → h'.get? b = some u) (hp : h.objs.size ≤ a) (new : ObjOk P w (upd H a o) h' a o) : HOk P w (upd H a o) h' := fun b u e => by
  have hn := x.fresh hp
  by_cases hb : b = a
  · subst hb; rw [upd_same] at e; cases e; exact new
  · rw [upd_ne hb] at e
    exact (x b u e).stay (fun c v _ q => k c v q) (fun c q => by rw [upd_ne (ne_of_none q hn)]; exact q) fun c xs q => by rw [upd_ne (ne_of_none q hn)]; exact q
end

/-- what may be read as u: it is u, or a known u -/
def Rd (H : Hp) (a : Addr) (u : HO) : Prop := H a = some u ∨ ∃ o, H a = some (.frz o u)
theorem Rd.ok {P : Program} {w : World} {H : Hp} {h : Heap} {a : Addr} {u : HO} (r : Rd H a u) (x : HOk P w H h) : ObjOk P w H h a u := by
  rcases r with r | ⟨o, r⟩
  · exact x a u r
  · obtain ⟨_, q⟩ := x a _ r
    exact q
/-- what may be written -/
def Mut : Option HO → Prop
  | some (.lst _) => True
  | some (.dK _) => True
  | some (.dT _) => True
  | some (.set _ _) => True
  | some (.ins _ _ _) => True
  | some (.ext _) => True
  | _ => False
section
variable {P : Program} {w : World} {H : Hp} {h h' : Heap} {x e : Addr} {o' : HO}
/-- the object at e is changed: x itself, or the dict of the instance x -/
theorem HOk.write (ok : HOk P w H h) (mu : Mut (H x)) (he : e = x ∨ H e = some (.own x)) (k : ∀ b u, b ≠ e → h.get? b = some u → h'.get? b = some u) (heo : ∃ u, h'.get? e = some u)
    (new : ObjOk P w (upd H x o') h' x o') : HOk P w (upd H x o') h' := fun b u q => by
  have nown : ∀ c y, H c = some (.own y) → c ≠ x := fun c y r z => by subst z; rw [r] at mu; exact mu
  have ntup : ∀ c xs, H c = some (.tup xs) → c ≠ x := fun c xs r z => by subst z; rw [r] at mu; exact mu
  by_cases hb : b = x
  · subst hb; rw [upd_same] at q; cases q; exact new
  · rw [upd_ne hb] at q
    by_cases hbe : b = e
    · have q' : H b = some (.own x) := by
        rcases he with z | z
        · exact absurd (hbe.trans z) hb
        · rw [hbe]; exact z
      rw [q] at q'; cases q'
      obtain ⟨v, hv⟩ := heo
      exact ⟨v, by rw [hbe]; exact hv⟩
    · refine (ok b u q).stay (fun c v hc r => k c v ?_ r) (fun c r => by rw [upd_ne (nown c b r)]; exact r) fun c xs r => by rw [upd_ne (ntup c xs r)]; exact r
      rcases hc with rfl | hc
      · exact hbe
      · rintro rfl
        rcases he with z | z
        · exact nown c b hc z
        · rw [hc] at z; cases z; exact hb rfl
end

/-! ### kept unless tracked; of the frames at fs (the callers') the slots may change (an exception that passes writes there); of the records at ex (iterators) nothing is said -/
structure Un (fs ex : List Addr) (H H' : Hp) (h h' : Heap) : Prop where
  keep : ∀ b o, h.get? b = some o → H b = none → b ∉ fs → b ∉ ex → h'.get? b = some o
  slot : ∀ b o, h.get? b = some o → H b = none → b ∈ fs → b ∉ ex → ∃ sl, h'.get? b = some { o with slots := sl }
  free : ∀ b o, h.get? b = some o → H b = none → b ∉ ex → H' b = none
  there : ∀ b o, h.get? b = some o → b ∉ ex → ∃ o', h'.get? b = some o'
  tups : ∀ b xs, H b = some (.tup xs) → H' b = some (.tup xs)
  frzs : ∀ b o u, H b = some (.frz o u) → H' b = some (.frz o u)
  tbls : ∀ b ps, H b = some (.tbl ps) → ∃ more, H' b = some (.tbl (ps ++ more))
section
variable {fs fs' ex ex' : List Addr} {H H1 H2 : Hp} {h h1 h2 h' : Heap} {a x e : Addr} {o : HO}
theorem Un.any (u : Un fs ex H H1 h h1) {b : Addr} {ob : Obj} (q : h.get? b = some ob) (n : H b = none) (hx : b ∉ ex) : ∃ sl, h1.get? b = some { ob with slots := sl } := by
  by_cases hb : b ∈ fs
  · exact u.slot b ob q n hb hx
  · exact ⟨ob.slots, u.keep b ob q n hb hx⟩
theorem Un.kept (k : ∀ b u, h.get? b = some u → h'.get? b = some u) : Un fs ex H H h h' :=
  ⟨fun b ob q _ _ _ => k b ob q, fun b ob q _ _ _ => ⟨ob.slots, k b ob q⟩, fun _ _ _ n _ => n, fun b ob q _ => ⟨ob, k b ob q⟩, fun _ _ q => q, fun _ _ _ q => q, fun _ ps q => ⟨#[], by rw [q]; simp⟩⟩
theorem Un.refl : Un fs ex H H h h := Un.kept fun _ _ q => q
theorem Un.laid (k : ∀ b u, h.get? b = some u → h'.get? b = some u) (hp : h.objs.size ≤ a) (hn : H a = none) : Un fs ex H (upd H a o) h h' where
  keep := fun b u q _ _ _ => k b u q
  slot := fun b u q _ _ _ => ⟨u.slots, k b u q⟩
  free := fun b u q n _ => by rw [upd_ne (Nat.ne_of_lt (Nat.lt_of_lt_of_le (Heap.lt_size q) hp))]; exact n
  there := fun b u q _ => ⟨u, k b u q⟩
  tups := fun b xs q => by rw [upd_ne (ne_of_none q hn)]; exact q
  frzs := fun b u xs q => by rw [upd_ne (ne_of_none q hn)]; exact q
  tbls := fun b ps q => ⟨#[], by rw [upd_ne (ne_of_none q hn), q]; simp⟩
theorem Un.write (mu : Mut (H x)) (he : e = x ∨ H e = some (.own x)) (k : ∀ b u, b ≠ e → h.get? b = some u → h'.get? b = some u) (heo : ∃ u, h'.get? e = some u) : Un fs ex H (upd H x o) h h' := by
  have hx : ∀ b, H b = none → b ≠ x := fun b n z => by subst z; rw [n] at mu; exact mu
  have hb : ∀ b, H b = none → b ≠ e := fun b n z => by
    subst z
    rcases he with r | r
    · exact hx b n r
    · rw [n] at r; cases r
  have hm : ∀ b u, H b = some u → ¬ Mut (some u) → b ≠ x := fun b u q nm z => by subst z; rw [q] at mu; exact nm mu
  refine ⟨fun b u q n _ _ => k b u (hb b n) q, fun b u q n _ _ => ⟨u.slots, k b u (hb b n) q⟩, fun b u q n _ => by rw [upd_ne (hx b n)]; exact n, fun b u q _ => ?_,
    fun b xs q => by rw [upd_ne (hm b _ q fun z => z)]; exact q, fun b u xs q => by rw [upd_ne (hm b _ q fun z => z)]; exact q, fun b ps q => ⟨#[], by rw [upd_ne (hm b _ q fun z => z), q]; simp⟩⟩
  by_cases hbe : b = e
  · subst hbe; exact heo
  · exact ⟨u, k b u hbe q⟩
end

/-! ### the heap without what is tracked -/
def trk (h : Heap) (H : Hp) : List Addr := (List.range h.objs.size).filter fun a => (H a).isSome
def hidT (h : Heap) (H : Hp) : Heap := PySem.W.hideAll h (trk h H)
theorem hidT_size (h : Heap) (H : Hp) : (hidT h H).objs.size = h.objs.size := PySem.W.hideAll_size _ _
theorem hidT_get {h : Heap} {H : Hp} {b : Addr} {o : Obj} (e : h.get? b = some o) (n : H b = none) : (hidT h H).get? b = some o :=
  PySem.W.hideAll_get _ e fun hm => by
    have q : (H b).isSome = true := (List.mem_filter.mp hm).2
    rw [n] at q; simp at q
theorem of_hidT {h : Heap} {H : Hp} {b : Addr} {o : Obj} (e : (hidT h H).get? b = some o) : h.get? b = some o ∧ H b = none := by
  have e' : h.get? b = some o := PySem.W.of_hideAll (trk h H) e
  refine ⟨e', ?_⟩
  cases q : H b with
  | none => rfl
  | some x =>
    have hm : b ∈ trk h H := List.mem_filter.mpr ⟨List.mem_range.mpr (Heap.lt_size e'), by simp [q]⟩
    have z : (hidT h H).get? b = none := PySem.W.hideAll_none (trk h H) hm
    rw [z] at e; cases e

/-! ### OpenK's ledger, filled with every new object but one -/
end L2

namespace L2
open PySem PySem.Spec PyProof.Rows

/-- the module's facts, over the base: the heap at the law's entry without what is tracked there -/
structure Mod (K : PySem.W.Frag) (mg : Str → Option Value) (base : Heap) : Prop where
  kin : K.In base
  glob : base.Ns mainGlobals mg
  blt : ∃ mb, base.Ns builtinsNs mb ∧ ∀ x : Str, x ≠ "__name__" → mb x = bootBuiltins x
  nolimit : base.NoLimit

/-- the context: a def's body (or a comprehension's block) running. base: fixed through the whole law; s₀, H₀: the entry; outer: the frames whose slots others may change (a def's callers); stack: all frames that run;
   ex: iterators that were made ahead of the entry and are walked here (a comprehension's); fn: the names whose cells were made at the entry (a def: all; a comprehension's block: its own); calm: not within an except suite; pn: pins that every state bears; xe: what is wanted of an exception that leaves the code -/
structure Cx where
  prog : Program
  w : World
  K : PySem.W.Frag
  mg : Str → Option Value
  base : Heap
  A : Around
  N : List Str
  s₀ : Shared
  H₀ : Hp
  env : Env
  outer : List Env
  stack : List Env
  ex : List Addr
  fn : Str → Bool
  calm : Bool
  pn : List (Addr × Obj)
  xe : Value → Shared → Prop
/-- the callers' frames -/
def frs (l : List Env) : List Addr := l.filterMap (·.frame)
abbrev Cx.fs (X : Cx) : List Addr := frs X.outer

def Vis (sc : Scope) (x : Str) : Prop := sc.names.lookup x = some .local ∨ sc.names.lookup x = some .cell ∨ sc.names.lookup x = some .free
def Loc (sc : Scope) (x : Str) : Prop := sc.names.lookup x = some .local ∨ sc.names.lookup x = some .cell
def Look (env : Env) (h : Heap) (m : Str → Option Value) (x : Str) (u : Value) : Prop :=
  (env.kindOf x = some .local ∧ m x = some u) ∨ ((env.kindOf x = some .cell ∨ env.kindOf x = some .free) ∧ ∃ c, env.cells.lookup x = some c ∧ h.IsCell c (some u))

structure Cx.Ok (X : Cx) : Prop where
  mod : Mod X.K X.mg X.base
  kind : X.env.scope.kind = .function
  glob : X.env.globals = mainGlobals
  blt : X.env.builtins = builtinsNs
  above : X.s₀.heap.objs.size ≤ X.env.locals
  inj : ∀ x y c, X.env.cells.lookup x = some c → X.env.cells.lookup y = some c → x = y
  has : ∀ x, (X.env.kindOf x = some .cell ∨ X.env.kindOf x = some .free) → ∃ c, X.env.cells.lookup x = some c
  cab : ∀ x c, X.fn x = true → X.env.cells.lookup x = some c → X.s₀.heap.objs.size ≤ c
  hd : X.calm = true → X.A.handled = none
  frames : X.A.frames = some X.stack
  stk : X.stack = X.outer ∨ (X.stack = X.env :: X.outer ∧ X.env.frame = some X.env.locals)
  exf : ∀ b ∈ X.ex, b ≠ X.env.locals ∧ ∀ x c, X.env.cells.lookup x = some c → c ≠ b
  bs : ∀ b o, X.base.get? b = some o → X.s₀.heap.get? b = some o ∧ X.H₀ b = none
  bsz : X.base.objs.size ≤ X.s₀.heap.objs.size
  noex : ∀ b o, X.base.get? b = some o → b ∉ X.ex
  exfs : ∀ b ∈ X.ex, b ∉ X.fs
  funs : X.s₀.heap.FunFrames X.base X.outer
  frf : ∀ b ∈ X.fs, X.H₀ b = none

structure Inv (X : Cx) (pins : List (Addr × Obj)) (σ : List (Option V)) (H : Hp) (s : Shared) : Prop where
  ok : X.Ok
  os : s.os = X.s₀.os
  bare : AllBare s.gens
  base : Un X.fs X.ex X.H₀ H X.s₀.heap s.heap
  loc : ∃ m, s.heap.Ns X.env.locals m ∧ ∀ (i : Nat) (x : Str) (v : V), X.N[i]? = some x → σ[i]? = some (some v) → Vis X.env.scope x → ∃ u, RelV v u ∧ Look X.env s.heap m x u
  cell : ∀ x c, X.env.cells.lookup x = some c → ∃ v, s.heap.IsCell c v
  free : H X.env.locals = none
  freeC : ∀ x c, X.env.cells.lookup x = some c → H c = none
  pin : ∀ p ∈ X.pn ++ pins, s.heap.get? p.1 = some p.2 ∧ H p.1 = none ∧ p.1 ≠ X.env.locals ∧ p.1 ∉ X.fs ∧ ∀ v, p.2.data ≠ .cell v
  hok : HOk X.prog X.w H s.heap
  len : σ.length = X.N.length

section
variable {X : Cx} {pins : List (Addr × Obj)} {σ : List (Option V)} {H H' : Hp} {s : Shared} {h' : Heap}

theorem Cx.Ok.nofr (ok : X.Ok) {b : Addr} {o : Obj} (e : X.base.get? b = some o) : b ∉ X.fs := fun hb => by
  have := (ok.funs.mem hb).1
  rw [e] at this; cases this
theorem Inv.bs (I : Inv X pins σ H s) : ∀ b o, X.base.get? b = some o → s.heap.get? b = some o ∧ H b = none := fun b o e =>
  ⟨I.base.keep b o (I.ok.bs b o e).1 (I.ok.bs b o e).2 (I.ok.nofr e) (I.ok.noex b o e), I.base.free b o (I.ok.bs b o e).1 (I.ok.bs b o e).2 (I.ok.noex b o e)⟩
theorem Inv.bk (I : Inv X pins σ H s) : ∀ b o, X.base.get? b = some o → s.heap.get? b = some o := fun b o e => (I.bs b o e).1
theorem Inv.mod (I : Inv X pins σ H s) : Mod X.K X.mg X.base := I.ok.mod
theorem Inv.kIn (I : Inv X pins σ H s) : X.K.In s.heap := I.ok.mod.kin.keeps I.bk
theorem Inv.lt (I : Inv X pins σ H s) : X.env.locals < s.heap.objs.size := let ⟨_, hn, _⟩ := I.loc; hn.lt
theorem Inv.sz (I : Inv X pins σ H s) : X.s₀.heap.objs.size ≤ s.heap.objs.size := Nat.le_trans I.ok.above (Nat.le_of_lt I.lt)
theorem Inv.nofs (I : Inv X pins σ H s) {a : Addr} (h : s.heap.objs.size ≤ a) : a ∉ X.fs := fun hb => by
  obtain ⟨_, o, ho, _⟩ := I.ok.funs.mem hb
  exact absurd (Nat.lt_of_lt_of_le (Heap.lt_size ho) (Nat.le_trans I.sz h)) (Nat.lt_irrefl _)
theorem Inv.cne (I : Inv X pins σ H s) : ∀ x c, X.env.cells.lookup x = some c → c ≠ X.env.locals := fun x c e z => by
  obtain ⟨v, o, ho, hd⟩ := I.cell x c e
  obtain ⟨m, ⟨o', es, ep, ho', hd', _⟩, _⟩ := I.loc
  rw [z, ho'] at ho; cases ho; rw [hd'] at hd; cases hd
theorem Inv.funs (I : Inv X pins σ H s) : s.heap.FunFrames X.base X.outer := by
  have all : ∀ (l : List Env), (∀ b ∈ frs l, b ∈ X.fs) → X.s₀.heap.FunFrames X.base l → s.heap.FunFrames X.base l := by
    intro l
    induction l with
    | nil => intro _ _; trivial
    | cons env r ih =>
      intro hs hl
      obtain ⟨hk, ⟨L, o, hf, hn, ho, hd⟩, hr⟩ := hl
      have hL : L ∈ X.fs := hs L (by unfold frs; rw [List.filterMap_cons, hf]; exact List.mem_cons_self)
      obtain ⟨sl, e⟩ := I.base.slot L o ho (I.ok.frf L hL) hL fun z => I.ok.exfs L z hL
      exact ⟨hk, ⟨L, _, hf, hn, e, hd⟩, ih (fun b hb => hs b (by unfold frs; rw [List.filterMap_cons, hf]; exact List.mem_cons_of_mem _ hb)) hr⟩
  exact all X.outer (fun _ hb => hb) I.ok.funs

/-- the frames that run, for a call -/
theorem Inv.stack (I : Inv X pins σ H s) : s.heap.FunFrames X.base X.stack := by
  rcases I.ok.stk with e | ⟨e, hf⟩
  · rw [e]; exact I.funs
  · rw [e]
    obtain ⟨m, hn, _⟩ := I.loc
    refine .cons (by rw [I.ok.kind]; decide) hf hn ?_ I.funs
    exact Heap.get?_none_of_le (Nat.le_trans I.ok.bsz I.ok.above)
theorem Inv.stkSub (I : Inv X pins σ H s) : ∀ b ∈ frs X.stack, b ∈ X.env.locals :: X.fs := fun b hb => by
  rcases I.ok.stk with e | ⟨e, hf⟩
  · rw [e] at hb; exact List.mem_cons_of_mem _ hb
  · rw [e] at hb
    unfold frs at hb
    rw [List.filterMap_cons, hf] at hb
    exact hb
theorem Inv.stkFree (I : Inv X pins σ H s) : ∀ b ∈ frs X.stack, H b = none := fun b hb => by
  rcases List.mem_cons.mp (I.stkSub b hb) with e | hb
  · rw [e]; exact I.free
  · obtain ⟨_, o, ho, _⟩ := I.ok.funs.mem hb
    exact I.base.free b o ho (I.ok.frf b hb) fun z => I.ok.exfs b z hb

/-- THE STEP: the untracked objects but the frame and the records at ch are kept (the callers' frames up to slots), the frame's map is kept, the new abstract heap is held -/
theorem Inv.step {g' : Array GenState} {t' : Nat} {d' : Drawn} {ch : List Addr} (I : Inv X pins σ H s)
    (hch : ∀ b ∈ ch, (b ∈ X.ex ∨ X.s₀.heap.objs.size ≤ b) ∧ b ≠ X.env.locals ∧ (∀ x c, X.env.cells.lookup x = some c → c ≠ b) ∧ ∀ p ∈ X.pn ++ pins, p.1 ≠ b)
    (keep : ∀ b o, b ≠ X.env.locals → b ∉ X.fs → b ∉ ch → s.heap.get? b = some o → H b = none → h'.get? b = some o)
    (slot : ∀ b o, b ≠ X.env.locals → b ∈ X.fs → b ∉ ch → s.heap.get? b = some o → H b = none → ∃ sl, h'.get? b = some { o with slots := sl }) (free : ∀ b o, b ∉ ch → s.heap.get? b = some o → H b = none → H' b = none)
    (there : ∀ b o, b ∉ ch → s.heap.get? b = some o → ∃ o', h'.get? b = some o')
    (tups : ∀ b xs, H b = some (.tup xs) → H' b = some (.tup xs)) (frzs : ∀ b o u, H b = some (.frz o u) → H' b = some (.frz o u)) (tbls : ∀ b ps, H b = some (.tbl ps) → ∃ more, H' b = some (.tbl (ps ++ more)))
    (ns : ∀ m, s.heap.Ns X.env.locals m → h'.Ns X.env.locals m) (hok : HOk X.prog X.w H' h') (hg : AllBare g') :
    Inv X pins σ H' { s with heap := h', gens := g', drawn := d', toks := t' } := by
  have neL : ∀ b o, X.s₀.heap.get? b = some o → b ≠ X.env.locals := fun b o e => Nat.ne_of_lt (Nat.lt_of_lt_of_le (Heap.lt_size e) I.ok.above)
  have neC : ∀ b o, X.s₀.heap.get? b = some o → b ∉ X.ex → b ∉ ch := fun b o e hx hb => by
    rcases (hch b hb).1 with z | z
    · exact hx z
    · exact absurd (Nat.lt_of_lt_of_le (Heap.lt_size e) z) (Nat.lt_irrefl _)
  have cellK : ∀ x c, X.env.cells.lookup x = some c → ∀ v, s.heap.IsCell c v → h'.IsCell c v := fun x c e v ⟨o, ho, hd⟩ => by
    have nch : c ∉ ch := fun z => (hch c z).2.2.1 x c e rfl
    by_cases hc : c ∈ X.fs
    · obtain ⟨sl, q⟩ := slot c o (I.cne x c e) hc nch ho (I.freeC x c e)
      exact ⟨_, q, hd⟩
    · exact ⟨o, keep c o (I.cne x c e) hc nch ho (I.freeC x c e), hd⟩
  refine ⟨I.ok, I.os, hg, ⟨fun b o e n hb hx => ?_, fun b o e n hb hx => ?_, fun b o e n hx => ?_, fun b o e hx => ?_, fun b xs e => tups b xs (I.base.tups b xs e), fun b o xs e => frzs b o xs (I.base.frzs b o xs e), fun b ps e => ?_⟩, ?_, fun x c e => ?_, ?_, fun x c e => ?_, fun p hp => ?_, hok, I.len⟩
  · exact keep b o (neL b o e) hb (neC b o e hx) (I.base.keep b o e n hb hx) (I.base.free b o e n hx)
  · obtain ⟨sl, e1⟩ := I.base.slot b o e n hb hx
    obtain ⟨sl', e2⟩ := slot b _ (neL b o e) hb (neC b o e hx) e1 (I.base.free b o e n hx)
    exact ⟨sl', e2⟩
  · obtain ⟨o', e1⟩ := I.base.there b o e hx
    exact free b o' (neC b o e hx) e1 (I.base.free b o e n hx)
  · obtain ⟨o', e1⟩ := I.base.there b o e hx
    exact there b o' (neC b o e hx) e1
  · obtain ⟨m1, e1⟩ := I.base.tbls b ps e
    obtain ⟨m2, e2⟩ := tbls b _ e1
    exact ⟨m1 ++ m2, by rw [e2, Array.append_assoc]⟩
  · obtain ⟨m, hn, hl⟩ := I.loc
    refine ⟨m, ns m hn, fun i x v e1 e2 e3 => ?_⟩
    obtain ⟨u, r, l⟩ := hl i x v e1 e2 e3
    refine ⟨u, r, ?_⟩
    rcases l with l | ⟨k, c, e, z⟩
    · exact .inl l
    · exact .inr ⟨k, c, e, cellK x c e _ z⟩
  · obtain ⟨v, z⟩ := I.cell x c e
    exact ⟨v, cellK x c e v z⟩
  · obtain ⟨m, ⟨o, _, _, ho, _⟩, _⟩ := I.loc
    exact free _ o (fun z => (hch _ z).2.1 rfl) ho I.free
  · obtain ⟨v, o, ho, hd⟩ := I.cell x c e
    exact free c o (fun z => (hch c z).2.2.1 x c e rfl) ho (I.freeC x c e)
  · obtain ⟨e, n, ne, nf, d⟩ := I.pin p hp
    have nch : p.1 ∉ ch := fun z => (hch p.1 z).2.2.2 p hp rfl
    exact ⟨keep p.1 p.2 ne nf nch e n, free p.1 p.2 nch e n, ne, nf, d⟩
/-- .. where the frame's own object is kept too -/
theorem Inv.un {t' : Nat} (I : Inv X pins σ H s) (u : Un X.fs [] H H' s.heap h') (hok : HOk X.prog X.w H' h') : Inv X pins σ H' { s with heap := h', toks := t' } := by
  obtain ⟨m, ⟨o, es, ep, ho, r⟩, _⟩ := id I.loc
  obtain ⟨sl, hL⟩ := u.any ho I.free (by simp)
  exact I.step (g' := s.gens) (d' := s.drawn) (ch := []) (fun _ z => nomatch z) (fun b o _ hb _ e n => u.keep b o e n hb (by simp)) (fun b o _ hb _ e n => u.slot b o e n hb (by simp)) (fun b o _ e n => u.free b o e n (by simp)) (fun b o _ e => u.there b o e (by simp)) u.tups u.frzs u.tbls (fun m' hm => by
    obtain ⟨o', es', ep', ho', r'⟩ := hm
    rw [ho] at ho'; cases ho'
    exact ⟨_, es', ep', hL, r'⟩) hok I.bare
/-- behind a call (or a comprehension's block): the slots of this frame may have changed too, the records at ch may have turned -/
theorem Inv.call {g' : Array GenState} {t' : Nat} {d' : Drawn} {ch : List Addr} (I : Inv X pins σ H s) (u : Un (frs X.stack) ch H H' s.heap h') (hok : HOk X.prog X.w H' h') (hg : AllBare g')
    (hch : ∀ b ∈ ch, (b ∈ X.ex ∨ X.s₀.heap.objs.size ≤ b) ∧ b ≠ X.env.locals ∧ (∀ x c, X.env.cells.lookup x = some c → c ≠ b) ∧ ∀ p ∈ X.pn ++ pins, p.1 ≠ b) :
    Inv X pins σ H' { s with heap := h', gens := g', drawn := d', toks := t' } := by
  obtain ⟨m, ⟨o, es, ep, ho, r⟩, _⟩ := id I.loc
  obtain ⟨sl, hL⟩ := u.any ho I.free fun z => (hch _ z).2.1 rfl
  exact I.step (ch := ch) hch (fun b o hL hb hc e n => u.keep b o e n (fun z => (List.mem_cons.mp (I.stkSub b z)).elim hL hb) hc) (fun b o _ _ hc e n => u.any e n hc) (fun b o hc e n => u.free b o e n hc) (fun b o hc e => u.there b o e hc) u.tups u.frzs u.tbls (fun m' hm => by
    obtain ⟨o', es', ep', ho', r'⟩ := hm
    rw [ho] at ho'; cases ho'
    exact ⟨_, es', ep', hL, r'⟩) hok hg
/-- an untracked record of ours (an iterator) has turned -/
theorem Inv.turned {t' : Nat} {it : Addr} (I : Inv X pins σ H s) (k : ∀ b o, b ≠ it → s.heap.get? b = some o → h'.get? b = some o) (hn : H it = none) (hL : it ≠ X.env.locals)
    (h1 : it ∈ X.ex ∨ X.s₀.heap.objs.size ≤ it) (h2 : ∀ x c, X.env.cells.lookup x = some c → c ≠ it) (h3 : ∀ p ∈ X.pn ++ pins, p.1 ≠ it) : Inv X pins σ H { s with heap := h', toks := t' } := by
  have nit : ∀ b u, H b = some u → b ≠ it := fun b u e z => by rw [z, hn] at e; cases e
  refine I.step (g' := s.gens) (d' := s.drawn) (ch := [it]) (fun b hb => ?_) (fun b o _ _ hc e _ => k b o (fun z => hc (by simp [z])) e) (fun b o _ _ hc e _ => ⟨o.slots, k b o (fun z => hc (by simp [z])) e⟩) (fun _ _ _ _ n => n)
    (fun b o hc e => ⟨o, k b o (fun z => hc (by simp [z])) e⟩) (fun _ _ e => e) (fun _ _ _ e => e) (fun b ps e => ⟨#[], by rw [e]; simp⟩) (fun m hm => ?_) (fun b u e => ?_) I.bare
  · have e : b = it := by simpa using hb
    subst e
    exact ⟨h1, hL, h2, h3⟩
  · obtain ⟨o, es, ep, ho, r⟩ := hm
    exact ⟨o, es, ep, k _ o (Ne.symm hL) ho, r⟩
  · refine (I.hok b u e).stay (fun c v hc q => k c v ?_ q) (fun _ q => q) fun _ _ q => q
    rcases hc with z | z
    · rw [z]; exact nit b u e
    · exact nit c _ z
theorem Inv.tok (I : Inv X pins σ H s) (t : Nat) : Inv X pins σ H { s with toks := t } := I.un (h' := s.heap) (t' := t) Un.refl I.hok
/-- all objects kept -/
theorem Inv.kept {t' : Nat} (I : Inv X pins σ H s) (k : ∀ b u, s.heap.get? b = some u → h'.get? b = some u) : Inv X pins σ H { s with heap := h', toks := t' } := I.un (Un.kept k) (I.hok.kept k)
/-- a new object laid and tracked -/
theorem Inv.laid {a : Addr} {o : HO} {t' : Nat} (I : Inv X pins σ H s) (k : ∀ b u, s.heap.get? b = some u → h'.get? b = some u) (hp : s.heap.objs.size ≤ a) (new : ObjOk X.prog X.w (upd H a o) h' a o) :
    Inv X pins σ (upd H a o) { s with heap := h', toks := t' } := I.un (Un.laid k hp (I.hok.fresh hp)) (I.hok.laid k hp new)
/-- an object written -/
theorem Inv.write {x e : Addr} {o : HO} {t' : Nat} (I : Inv X pins σ H s) (mu : Mut (H x)) (he : e = x ∨ H e = some (.own x)) (k : ∀ b u, b ≠ e → s.heap.get? b = some u → h'.get? b = some u) (heo : ∃ u, h'.get? e = some u)
    (new : ObjOk X.prog X.w (upd H x o) h' x o) : Inv X pins σ (upd H x o) { s with heap := h', toks := t' } := I.un (Un.write mu he k heo) (I.hok.write mu he k heo new)
/-- forgetting slots, pins -/
theorem Inv.weak {σ' : List (Option V)} (I : Inv X pins σ H s) (hl : σ'.length = σ.length) (w : ∀ (i : Nat) v, σ'[i]? = some (some v) → σ[i]? = some (some v)) : Inv X pins σ' H s :=
  ⟨I.ok, I.os, I.bare, I.base, let ⟨m, hn, hl'⟩ := I.loc; ⟨m, hn, fun i x v e1 e2 e3 => hl' i x v e1 (w i v e2) e3⟩, I.cell, I.free, I.freeC, I.pin, I.hok, hl.trans I.len⟩
theorem Inv.pins_of {pins' : List (Addr × Obj)} (I : Inv X pins σ H s) (h : ∀ p ∈ pins', s.heap.get? p.1 = some p.2 ∧ H p.1 = none ∧ p.1 ≠ X.env.locals ∧ p.1 ∉ X.fs ∧ ∀ v, p.2.data ≠ .cell v) : Inv X pins' σ H s :=
  ⟨I.ok, I.os, I.bare, I.base, I.loc, I.cell, I.free, I.freeC, fun p hp => (List.mem_append.mp hp).elim (fun z => I.pin p (List.mem_append_left _ z)) (h p), I.hok, I.len⟩

theorem nodup_ix {N : List Str} (hN : N.Nodup) {i j : Nat} {x : Str} (a : N[i]? = some x) (b : N[j]? = some x) : i = j := by
  obtain ⟨h1, e1⟩ := List.getElem?_eq_some_iff.mp a
  obtain ⟨h2, e2⟩ := List.getElem?_eq_some_iff.mp b
  exact (List.getElem_inj hN).mp (e1.trans e2.symm)

/-- a name is stored; what changed -/
theorem store_ok2 {M : Model} {A : Around} {E : Value → Shared → Prop} {i : Nat} {x : Str} {v : V} {u : Value} {Q : Unit → Shared → Prop} (I : Inv X pins σ H s) (hN : X.N.Nodup) (hi : X.N[i]? = some x) (hx : Loc X.env.scope x) (r : RelV v u)
    (h : ∀ s', Inv X pins (σ.set i (some v)) H s' → (∃ a, Heap.SameBut a s.heap s'.heap ∧ (a = X.env.locals ∨ X.env.cells.lookup x = some a)) → Q () s') (hf : X.fn x = true ∨ X.env.scope.names.lookup x = some .local := by first | exact .inl rfl | exact .inr rfl | assumption) : wpAny M A (storeName X.env x u) Q E s := by
  obtain ⟨m, hn, hl⟩ := id I.loc
  have hcls : (X.env.scope.kind == .class || (X.env.scope.kind == .module && X.env.locals != X.env.globals)) = false := by rw [I.ok.kind]; rfl
  have hiσ : i < σ.length := by rw [I.len]; exact (List.getElem?_eq_some_iff.mp hi).1
  have cne := I.cne
  have tracked : ∀ {a : Addr} {h' : Heap}, (∃ o, s.heap.get? a = some o ∧ H a = none) → Heap.SameBut a s.heap h' → HOk X.prog X.w H h' := fun {a h'} ha hs b ob e => by
    obtain ⟨_, _, hfree⟩ := ha
    refine (I.hok b ob e).stay (fun c w' hc q => (hs.2 c ?_).trans q) (fun _ q => q) fun _ _ q => q
    rintro rfl
    rcases hc with rfl | hc
    · rw [hfree] at e; cases e
    · rw [hfree] at hc; cases hc
  rcases hx with hk | hk
  · refine wpAny_storeName_local hk hn (fun h' hn' hs => ?_) hcls
    obtain ⟨oL, _, _, hoL, _⟩ := id hn
    refine h _ ⟨I.ok, I.os, I.bare, ⟨fun b o e n hb hx => ?_, fun b o e n hb hx => ?_, I.base.free, fun b o e hx => ?_, I.base.tups, I.base.frzs, I.base.tbls⟩, ⟨_, hn', fun j y v' e1 e2 e3 => ?_⟩, fun y c e => ?_, I.free, I.freeC, fun p hp => ?_, tracked ⟨oL, hoL, I.free⟩ hs, by simpa using I.len⟩ ⟨_, hs, .inl rfl⟩
    · exact (hs.2 b (Nat.ne_of_lt (Nat.lt_of_lt_of_le (Heap.lt_size e) I.ok.above))).trans (I.base.keep b o e n hb hx)
    · obtain ⟨sl, e1⟩ := I.base.slot b o e n hb hx
      exact ⟨sl, (hs.2 b (Nat.ne_of_lt (Nat.lt_of_lt_of_le (Heap.lt_size e) I.ok.above))).trans e1⟩
    · obtain ⟨o', e1⟩ := I.base.there b o e hx
      exact ⟨o', (hs.2 b (Nat.ne_of_lt (Nat.lt_of_lt_of_le (Heap.lt_size e) I.ok.above))).trans e1⟩
    · by_cases hj : j = i
      · subst hj
        rw [hi] at e1; cases e1
        rw [List.getElem?_set_self hiσ] at e2
        cases e2
        exact ⟨u, r, .inl ⟨hk, by simp⟩⟩
      · rw [List.getElem?_set_ne (Ne.symm hj)] at e2
        obtain ⟨u', r', q⟩ := hl j y v' e1 e2 e3
        refine ⟨u', r', ?_⟩
        rcases q with ⟨k, e⟩ | ⟨k, c, e, z⟩
        · refine .inl ⟨k, ?_⟩
          have : y ≠ x := fun e => hj (nodup_ix hN e1 (e ▸ hi))
          simp [this, e]
        · exact .inr ⟨k, c, e, z.sameBut hs (cne y c e)⟩
    · obtain ⟨w', z⟩ := I.cell y c e
      exact ⟨w', z.sameBut hs (cne y c e)⟩
    · obtain ⟨e, n, ne, nf, d⟩ := I.pin p hp
      exact ⟨(hs.2 p.1 ne).trans e, n, ne, nf, d⟩
  · have hfn : X.fn x = true := by
      rcases hf with z | z
      · exact z
      · rw [z] at hk; cases hk
    obtain ⟨c, hc⟩ := I.ok.has x (.inl hk)
    obtain ⟨w', z⟩ := I.cell x c hc
    refine wpAny_storeName_cell I.ok.kind hk hc z (fun h' hc' hs => ?_)
    obtain ⟨oc, hoc, hocd⟩ := id z
    refine h { s with heap := h' } ⟨I.ok, I.os, I.bare, ⟨fun b o e n hb hx => ?_, fun b o e n hb hx => ?_, I.base.free, fun b o e hx => ?_, I.base.tups, I.base.frzs, I.base.tbls⟩, ⟨m, hn.sameBut hs (Ne.symm (cne x c hc)), fun j y v' e1 e2 e3 => ?_⟩, fun y c' e => ?_, I.free, I.freeC, fun p hp => ?_, tracked ⟨oc, hoc, I.freeC x c hc⟩ hs, by simpa using I.len⟩ ⟨c, hs, .inr hc⟩
    · exact (hs.2 b (Nat.ne_of_lt (Nat.lt_of_lt_of_le (Heap.lt_size e) (I.ok.cab x c hfn hc)))).trans (I.base.keep b o e n hb hx)
    · obtain ⟨sl, e1⟩ := I.base.slot b o e n hb hx
      exact ⟨sl, (hs.2 b (Nat.ne_of_lt (Nat.lt_of_lt_of_le (Heap.lt_size e) (I.ok.cab x c hfn hc)))).trans e1⟩
    · obtain ⟨o', e1⟩ := I.base.there b o e hx
      exact ⟨o', (hs.2 b (Nat.ne_of_lt (Nat.lt_of_lt_of_le (Heap.lt_size e) (I.ok.cab x c hfn hc)))).trans e1⟩
    · by_cases hj : j = i
      · subst hj
        rw [hi] at e1; cases e1
        rw [List.getElem?_set_self hiσ] at e2
        cases e2
        exact ⟨u, r, .inr ⟨.inl hk, c, hc, hc'⟩⟩
      · rw [List.getElem?_set_ne (Ne.symm hj)] at e2
        obtain ⟨u', r', q⟩ := hl j y v' e1 e2 e3
        refine ⟨u', r', ?_⟩
        rcases q with q | ⟨k, c', e, z'⟩
        · exact .inl q
        · refine .inr ⟨k, c', e, z'.sameBut hs ?_⟩
          rintro rfl
          exact hj (nodup_ix hN e1 (I.ok.inj _ _ _ e hc ▸ hi))
    · by_cases hcc : c' = c
      · subst hcc; exact ⟨_, hc'⟩
      · obtain ⟨w2, z2⟩ := I.cell y c' e
        exact ⟨w2, z2.sameBut hs hcc⟩
    · obtain ⟨e, n, ne, nf, d⟩ := I.pin p hp
      refine ⟨(hs.2 p.1 ?_).trans e, n, ne, nf, d⟩
      intro q
      rw [q, hoc] at e
      have q' : oc = p.2 := Option.some.inj e
      exact d w' (by rw [← q']; exact hocd)
theorem store_ok {M : Model} {A : Around} {E : Value → Shared → Prop} {i : Nat} {x : Str} {v : V} {u : Value} {Q : Unit → Shared → Prop} (I : Inv X pins σ H s) (hN : X.N.Nodup) (hi : X.N[i]? = some x) (hx : Loc X.env.scope x) (r : RelV v u)
    (h : ∀ s', Inv X pins (σ.set i (some v)) H s' → Q () s') (hf : X.fn x = true ∨ X.env.scope.names.lookup x = some .local := by first | exact .inl rfl | exact .inr rfl | assumption) : wpAny M A (storeName X.env x u) Q E s :=
  store_ok2 I hN hi hx r (fun s' I' _ => h s' I') hf
/-- behind a call or a block, the state as it is -/
theorem Inv.call' {s' : Shared} {ch : List Addr} (I : Inv X pins σ H s) (ho : s'.os = s.os) (u : Un (frs X.stack) ch H H' s.heap s'.heap) (hok : HOk X.prog X.w H' s'.heap) (hg : AllBare s'.gens)
    (hch : ∀ b ∈ ch, (b ∈ X.ex ∨ X.s₀.heap.objs.size ≤ b) ∧ b ≠ X.env.locals ∧ (∀ x c, X.env.cells.lookup x = some c → c ≠ b) ∧ ∀ p ∈ X.pn ++ pins, p.1 ≠ b) : Inv X pins σ H' s' := by
  obtain ⟨h', g', d', t', o'⟩ := s'
  have e : o' = s.os := ho
  subst e
  exact I.call (g' := g') (t' := t') (d' := d') u hok hg hch
end

/-! ### the judgements -/
/-- an exception: its class, its own dict's address (where it has one), the abstract heap behind it -/
abbrev XK := Value → Option Addr → Hp → Prop
abbrev St := List (Option V)
abbrev VK := V → Hp → Prop
/-- an expression's reading; a test's; an argument list's -/
abbrev TE := St → Hp → VK → Prop
abbrev TT := St → Hp → (Bool → Hp → Prop) → Prop
abbrev TA := St → Hp → (List V → Hp → Prop) → Prop
/-- what is wanted behind a statement -/
structure Ends where
  nx : St → Hp → Prop
  rt : VK
  bk : St → Hp → Prop := fun _ _ => False
  ct : St → Hp → Prop := fun _ _ => False
abbrev TS := Ends → St → Hp → Prop

def EP (X : Cx) (pins : List (Addr × Obj)) (σ : St) (Q : VK) (u : Value) (s' : Shared) : Prop := ∃ v H', Inv X pins σ H' s' ∧ RelV v u ∧ Q v H'
def TP (X : Cx) (pins : List (Addr × Obj)) (σ : St) (Q : Bool → Hp → Prop) (b : Bool) (s' : Shared) : Prop := ∃ H', Inv X pins σ H' s' ∧ Q b H'
def AP (X : Cx) (pins : List (Addr × Obj)) (σ : St) (Q : List V → Hp → Prop) (us : List Value) (s' : Shared) : Prop := ∃ vs H', Inv X pins σ H' s' ∧ Vals vs us ∧ Q vs H'
def SP (X : Cx) (pins : List (Addr × Obj)) (D : Ends) (f : Flow) (s' : Shared) : Prop :=
  match f with
  | .next => ∃ σ' H', Inv X pins σ' H' s' ∧ D.nx σ' H'
  | .brk => ∃ σ' H', Inv X pins σ' H' s' ∧ D.bk σ' H'
  | .cont => ∃ σ' H', Inv X pins σ' H' s' ∧ D.ct σ' H'
  | .ret u => ∃ v σ' H', Inv X pins σ' H' s' ∧ RelV v u ∧ D.rt v H'

def PE (X : Cx) (e : Expr) (t : TE) : Prop :=
  ∀ (pins : List (Addr × Obj)) (s : Shared) (σ : St) (H : Hp) (Q : VK), Inv X pins σ H s → t σ H Q → wpAny (model X.prog X.w) X.A (eval e X.env) (EP X pins σ Q) X.xe s
def PT (X : Cx) (e : Expr) (t : TT) : Prop :=
  ∀ (pins : List (Addr × Obj)) (s : Shared) (σ : St) (H : Hp) (Q : Bool → Hp → Prop), Inv X pins σ H s → t σ H Q → wpAny (model X.prog X.w) X.A (isTrue e X.env (eval e X.env)) (TP X pins σ Q) X.xe s
/-- a test whatever its 'whole' is (and, or) -/
def PW (X : Cx) (e : Expr) (t : TT) : Prop :=
  ∀ (whole : Sem Value) (pins : List (Addr × Obj)) (s : Shared) (σ : St) (H : Hp) (Q : Bool → Hp → Prop), Inv X pins σ H s → t σ H Q → wpAny (model X.prog X.w) X.A (isTrue e X.env whole) (TP X pins σ Q) X.xe s
theorem PW.pt {X : Cx} {e : Expr} {t : TT} (h : PW X e t) : PT X e t := h _
/-- an argument list (no star), from the left -/
def PA (X : Cx) (es : List Expr) (t : TA) : Prop :=
  ∀ (pos : Pos) (pins : List (Addr × Obj)) (s : Shared) (σ : St) (H : Hp) (Q : List V → Hp → Prop), Inv X pins σ H s → t σ H Q → wpAny (model X.prog X.w) X.A (spliced (backTo pos (starEach es X.env))) (AP X pins σ Q) X.xe s
def PS (X : Cx) (st : Stmt) (t : TS) : Prop :=
  ∀ (pins : List (Addr × Obj)) (s : Shared) (σ : St) (H : Hp) (D : Ends), Inv X pins σ H s → t D σ H → wpAny (model X.prog X.w) X.A (exec st X.env) (SP X pins D) X.xe s
def PSs (X : Cx) (st : List Stmt) (t : TS) : Prop :=
  ∀ (pins : List (Addr × Obj)) (s : Shared) (σ : St) (H : Hp) (D : Ends), Inv X pins σ H s → t D σ H → wpAny (model X.prog X.w) X.A (execs st X.env) (SP X pins D) X.xe s
/-- weaken the end -/
theorem thn {α : Type} {t : Sem α} {Q Q' : α → Shared → Prop} {M : Model} {A : Around} {E : Value → Shared → Prop} {s : Shared} (h : wpAny M A t Q E s) (hQ : ∀ a s, Q a s → Q' a s) : wpAny M A t Q' E s := wpAny_mono h hQ fun _ _ x => x
end L2

namespace L2
open PySem PySem.Spec PyProof.Rows
section
variable {X : Cx}

/-! ### names and constants -/
def tVar (i : Nat) : TE := fun σ H Q => ∃ v, σ[i]? = some (some v) ∧ Q v H
def tC (v : V) : TE := fun _ H Q => Q v H
theorem pe_var {i : Nat} {x : Str} {pos : Pos} (hN : X.N[i]? = some x) (hv : Vis X.env.scope x) (hd : (x == ("__debug__" : Str)) = false := by decide) (hcd : (x == ("__classdict__" : Str)) = false := by decide) : PE X (.Name x pos) (tVar i) := by
  intro pins s σ H Q I h
  obtain ⟨v, e, h⟩ := h
  obtain ⟨m, hn, hl⟩ := I.loc
  obtain ⟨u, r, l⟩ := hl i x v hN e hv
  have fin : EP X pins σ Q u s := ⟨v, H, I, r, h⟩
  rcases l with ⟨hk, hm⟩ | ⟨hk, c, hc, hcell⟩
  · exact wpAny_Name (wpAny_loadName_local I.ok.kind hk hn hm fin) hd
  · rcases hk with hk | hk
    · exact wpAny_Name (wpAny_loadName_cell I.ok.kind hk hc hcell fin) hd
    · exact wpAny_Name (wpAny_loadName_free I.ok.kind hk hc hcell fin hcd) hd
theorem pe_int {i j pos} : PE X (.Constant (.int i) j pos) (tC (.int i)) := fun _ _ _ H _ I h => wpAny_Constant_int ⟨.int i, H, I.tok _, ⟨_, rfl⟩, h⟩
theorem pe_bl {b j pos} : PE X (.Constant (.bool b) j pos) (tC (.bl b)) := fun _ _ _ H _ I h => Constant_bool ⟨.bl b, H, I, rfl, h⟩
theorem pe_str {x j pos} : PE X (.Constant (.str x) j pos) (tC (.str x)) := fun _ _ _ H _ I h => Calls.Constant_str ⟨.str x, H, I.tok _, ⟨_, rfl⟩, h⟩

/-- a global name of the def -/
def Gl (X : Cx) (x : Str) : Prop := X.env.kindOf x = some .globalImplicit
theorem ld_glob {E : Value → Shared → Prop} {pins : List (Addr × Obj)} {s : Shared} {σ : St} {H : Hp} {x : Str} {u : Value} {pos : Pos} {Q : Value → Shared → Prop} (I : Inv X pins σ H s) (hg : Gl X x) (hm : X.mg x = some u) (h : Q u s)
    (hd : (x == ("__debug__" : Str)) = false := by decide) : wpAny (model X.prog X.w) X.A (eval (.Name x pos) X.env) Q E s :=
  Calls.Name_function_global I.ok.kind hg (Calls.loadGlobal_global (by rw [I.ok.glob]; exact I.mod.glob.keeps I.bk) hm h) hd
theorem ld_blt {E : Value → Shared → Prop} {pins : List (Addr × Obj)} {s : Shared} {σ : St} {H : Hp} {x : Str} {u : Value} {pos : Pos} {Q : Value → Shared → Prop} (I : Inv X pins σ H s) (hg : Gl X x) (hm : X.mg x = none) (hv : bootBuiltins x = some u) (h : Q u s)
    (hn : x ≠ "__name__" := by decide) (hd : (x == ("__debug__" : Str)) = false := by decide) : wpAny (model X.prog X.w) X.A (eval (.Name x pos) X.env) Q E s := by
  obtain ⟨mb, h1, h2⟩ := I.mod.blt
  exact Calls.Name_function_global I.ok.kind hg (Calls.loadGlobal_builtin (by rw [I.ok.glob]; exact I.mod.glob.keeps I.bk) hm (by rw [I.ok.blt]; exact h1.keeps I.bk) ((h2 x hn).trans hv) h) hd
theorem pe_bltn {x : Str} {v : V} {u : Value} {pos : Pos} (hg : Gl X x) (hm : X.mg x = none) (hv : bootBuiltins x = some u) (r : RelV v u) (hn : x ≠ "__name__" := by decide) (hd : (x == ("__debug__" : Str)) = false := by decide) : PE X (.Name x pos) (tC v) :=
  fun _ _ _ H _ I h => ld_blt I hg hm hv ⟨v, H, I, r, h⟩ hn hd

/-! ### arithmetic -/
variable {a b : Expr} {ta tb : TE} {pos : Pos}
/-! ### comparisons -/
/-- a comparison as a value, as a test -/
def tB (t : TE) : TT := fun σ H Q => t σ H fun x H1 => ∃ c, x = .bl c ∧ Q c H1
/-- an expression whose value is a bool, as a test -/
theorem pt_val {e : Expr} {t : TE} (h : PE X e t) (he : ∀ whole, isTrue e X.env whole = (do let v ← whole; standAt e.pos; holding [v] (truthy v)) := by intro _; rfl) : PT X e (tB t) := by
  intro pins s σ H Q I hw
  refine isTrue_plain (thn (h pins s σ H _ I hw) fun v s1 ⟨x, H1, I1, r1, q1⟩ => ?_) (he _)
  obtain ⟨d, rfl, q⟩ := q1
  cases r1
  exact wpAny_truthy_bool ⟨H1, I1, q⟩

/-! ### and, or, not -/
variable {tA tB' : TT} {rest : List Expr}
def tAnd (t u : TT) : TT := fun σ H Q => t σ H fun c H1 => if c = true then u σ H1 Q else Q false H1
def tOr (t u : TT) : TT := fun σ H Q => t σ H fun c H1 => if c = true then Q true H1 else u σ H1 Q
def tNot (t : TT) : TT := fun σ H Q => t σ H fun c H1 => Q (!c) H1
theorem pw_and1 (ha : PT X a tA) : PW X (.BoolOp .And [a] pos) tA := by
  intro wh pins s σ H Q I h
  refine isTrue_and (thn (ha pins s σ H Q I h) fun c s1 e => ?_)
  cases c with
  | true => exact isTrue_and_nil e
  | false => exact e
theorem pw_or1 (ha : PT X a tA) : PW X (.BoolOp .Or [a] pos) tA := by
  intro wh pins s σ H Q I h
  refine isTrue_or (thn (ha pins s σ H Q I h) fun c s1 e => ?_)
  cases c with
  | false => exact isTrue_or_nil e
  | true => exact e
theorem pw_and (ha : PT X a tA) (hb : PW X (.BoolOp .And (b :: rest) pos) tB') : PW X (.BoolOp .And (a :: b :: rest) pos) (tAnd tA tB') := by
  intro wh pins s σ H Q I h
  refine isTrue_and (thn (ha pins s σ H _ I h) fun c s1 ⟨H1, I1, q1⟩ => ?_)
  cases c with
  | true => exact hb wh pins s1 σ H1 Q I1 q1
  | false => exact ⟨H1, I1, q1⟩
theorem pw_or (ha : PT X a tA) (hb : PW X (.BoolOp .Or (b :: rest) pos) tB') : PW X (.BoolOp .Or (a :: b :: rest) pos) (tOr tA tB') := by
  intro wh pins s σ H Q I h
  refine isTrue_or (thn (ha pins s σ H _ I h) fun c s1 ⟨H1, I1, q1⟩ => ?_)
  cases c with
  | true => exact ⟨H1, I1, q1⟩
  | false => exact hb wh pins s1 σ H1 Q I1 q1
theorem pt_not (ha : PT X a tA) : PT X (.UnaryOp .Not a pos) (tNot tA) := by
  intro pins s σ H Q I h
  exact isTrue_not (ha pins s σ H (fun c H1 => Q (!c) H1) I h)
/-- .. as values (bools) -/
def tAndV (ta tb : TE) : TE := fun σ H Q => ta σ H fun x H1 => ∃ c, x = .bl c ∧ if c = true then tb σ H1 Q else Q (.bl false) H1
def tOrV (ta tb : TE) : TE := fun σ H Q => ta σ H fun x H1 => ∃ c, x = .bl c ∧ if c = true then Q (.bl true) H1 else tb σ H1 Q
def tNotV (ta : TE) : TE := fun σ H Q => ta σ H fun x H1 => ∃ c, x = .bl c ∧ Q (.bl (!c)) H1
theorem pe_one {op} {t : TE} (h : PE X a t) : PE X (.BoolOp op [a] pos) t := fun pins s σ H Q I hw => BoolOp_one (h pins s σ H Q I hw)
theorem pe_and (ha : PE X a ta) (hb : PE X (.BoolOp .And (b :: rest) pos) tb) : PE X (.BoolOp .And (a :: b :: rest) pos) (tAndV ta tb) := by
  intro pins s σ H Q I h
  refine BoolOp_and (thn (ha pins s σ H _ I h) fun v s1 ⟨x, H1, I1, r1, q1⟩ => ?_)
  obtain ⟨c, rfl, q1⟩ := q1
  cases r1
  refine wpAny_truthy_bool ?_
  cases c with
  | true => exact hb pins s1 σ H1 Q I1 q1
  | false => exact ⟨.bl false, H1, I1, rfl, q1⟩
theorem pe_or (ha : PE X a ta) (hb : PE X (.BoolOp .Or (b :: rest) pos) tb) : PE X (.BoolOp .Or (a :: b :: rest) pos) (tOrV ta tb) := by
  intro pins s σ H Q I h
  refine BoolOp_or (thn (ha pins s σ H _ I h) fun v s1 ⟨x, H1, I1, r1, q1⟩ => ?_)
  obtain ⟨c, rfl, q1⟩ := q1
  cases r1
  refine wpAny_truthy_bool ?_
  cases c with
  | false => exact hb pins s1 σ H1 Q I1 q1
  | true => exact ⟨.bl true, H1, I1, rfl, q1⟩
theorem pe_not (ha : PE X a ta) : PE X (.UnaryOp .Not a pos) (tNotV ta) := by
  intro pins s σ H Q I h
  refine UnaryOp_ (thn (ha pins s σ H _ I h) fun v s1 ⟨x, H1, I1, r1, q1⟩ => ?_)
  obtain ⟨c, rfl, q1⟩ := q1
  cases r1
  exact not_of (wpAny_truthy_bool ⟨.bl (!c), H1, I1, rfl, q1⟩)
end
end L2

namespace L2
open PySem PySem.Spec PyProof.Rows

/-! ### a list, a tuple that is read: tracked, frozen, or an object of the module -/
def SqL (K : PySem.W.Frag) (H : Hp) (a : Addr) (xs : List V) : Prop :=
  Rd H a (.lst xs) ∨
    ∃ (o : Obj) (its : Array Value) (n : Nat), K.lookup a = some o ∧ o.cls = .type "list" ∧ o.dict = none ∧ o.data = .seq its n ∧ its.size ≤ sizeLine ∧ Vals xs its.toList
def SqT (K : PySem.W.Frag) (H : Hp) (a : Addr) (xs : List V) : Prop :=
  Rd H a (.tup xs) ∨
    ∃ (o : Obj) (its : Array Value) (n : Nat), K.lookup a = some o ∧ o.cls = .type "tuple" ∧ o.data = .seq its n ∧ its.size ≤ sizeLine ∧ Vals xs its.toList
def absV : Value → Option V
  | .none => some .non
  | .bool b => some (.bl b)
  | .int i _ => some (.int i)
  | .str x _ => some (.str x)
  | .bytes b _ => some (.byt b)
  | .float b _ => some (.flt b)
  | .ref a => some (.ref a)
  | .type n => some (.ty n)
  | _ => none
theorem RelV.abs {x : V} {u : Value} (r : RelV x u) : absV u = some x := by
  cases x with
  | non => cases r; rfl
  | bl _ => cases r; rfl
  | int _ => obtain ⟨t, rfl⟩ := r; rfl
  | str _ => obtain ⟨t, rfl⟩ := r; rfl
  | byt _ => obtain ⟨t, rfl⟩ := r; rfl
  | flt _ => obtain ⟨t, rfl⟩ := r; rfl
  | ref _ => cases r; rfl
  | ty _ => cases r; rfl
theorem RelV.inj {x y : V} {u : Value} (r : RelV x u) (q : RelV y u) : x = y := Option.some.inj (r.abs.symm.trans q.abs)
theorem Vals.inj : ∀ {xs ys : List V} {us : List Value}, Vals xs us → Vals ys us → xs = ys
  | _, _, _, .nil, .nil => rfl
  | _, _, _, .cons r t, .cons r' t' => by rw [r.inj r', Vals.inj t t']
section
variable {X : Cx} {pins : List (Addr × Obj)} {σ : St} {H : Hp} {s : Shared} {a : Addr} {xs ys : List V}
theorem SqL.of {K : PySem.W.Frag} (h : H a = some (.lst xs)) : SqL K H a xs := .inl (.inl h)
theorem SqT.of {K : PySem.W.Frag} (h : H a = some (.tup xs)) : SqT K H a xs := .inl (.inl h)
theorem Inv.list (I : Inv X pins σ H s) (h : SqL X.K H a xs) : ∃ its : List Value, Vals xs its ∧ PlainL s.heap a its.toArray ∧ xs.length ≤ sizeLine := by
  rcases h with h | ⟨o, its, n, hk, hc, hd, hs, hz, r⟩
  · obtain ⟨z, its, n, r, e⟩ := h.ok I.hok
    exact ⟨its, r, ⟨_, n, e, rfl, rfl, rfl⟩, z⟩
  · refine ⟨its.toList, r, ⟨o, n, I.kIn a o hk, hc, hd, by simpa using hs⟩, ?_⟩
    have e := r.length
    simp only [Array.length_toList] at e
    omega
theorem Inv.tuple (I : Inv X pins σ H s) (h : SqT X.K H a xs) : ∃ its : List Value, Vals xs its ∧ IsTup s.heap a its.toArray ∧ xs.length ≤ sizeLine := by
  rcases h with h | ⟨o, its, n, hk, hc, hs, hz, r⟩
  · obtain ⟨z, its, r, p⟩ := h.ok I.hok
    exact ⟨its, r, p, z⟩
  · refine ⟨its.toList, r, ⟨o, I.kIn a o hk, hc, n, by simpa using hs⟩, ?_⟩
    have e := r.length
    simp only [Array.length_toList] at e
    omega
theorem Inv.list_inj (I : Inv X pins σ H s) (h : SqL X.K H a xs) (h' : SqL X.K H a ys) : xs = ys := by
  obtain ⟨its, r, ⟨o, n, e, _, _, d⟩, _⟩ := I.list h
  obtain ⟨its', r', ⟨o', n', e', _, _, d'⟩, _⟩ := I.list h'
  rw [e] at e'; cases e'
  rw [d] at d'
  injection d' with d1 _
  have : its = its' := by simpa using congrArg Array.toList d1
  subst this
  exact r.inj r'
end

/-! ### another wish about exceptions -/
abbrev Cx.wish (X : Cx) (E : Value → Shared → Prop) : Cx := { X with xe := E }
/-- no exception leaves -/
abbrev Cx.nox (X : Cx) : Cx := X.wish fun _ _ => False
theorem Cx.Ok.wish {X : Cx} (ok : X.Ok) (E : Value → Shared → Prop) : (X.wish E).Ok :=
  ⟨ok.mod, ok.kind, ok.glob, ok.blt, ok.above, ok.inj, ok.has, ok.cab, ok.hd, ok.frames, ok.stk, ok.exf, ok.bs, ok.bsz, ok.noex, ok.exfs, ok.funs, ok.frf⟩
theorem Cx.Ok.unwish {X : Cx} {E : Value → Shared → Prop} (ok : (X.wish E).Ok) : X.Ok :=
  ⟨ok.mod, ok.kind, ok.glob, ok.blt, ok.above, ok.inj, ok.has, ok.cab, ok.hd, ok.frames, ok.stk, ok.exf, ok.bs, ok.bsz, ok.noex, ok.exfs, ok.funs, ok.frf⟩
section
variable {X : Cx} {pins : List (Addr × Obj)} {σ : St} {H : Hp} {s : Shared} {E : Value → Shared → Prop}
theorem Inv.wish (I : Inv X pins σ H s) (E : Value → Shared → Prop) : Inv (X.wish E) pins σ H s := ⟨I.ok.wish E, I.os, I.bare, I.base, I.loc, I.cell, I.free, I.freeC, I.pin, I.hok, I.len⟩
theorem Inv.unwish (I : Inv (X.wish E) pins σ H s) : Inv X pins σ H s := ⟨I.ok.unwish, I.os, I.bare, I.base, I.loc, I.cell, I.free, I.freeC, I.pin, I.hok, I.len⟩
theorem SP.unwish {D : Ends} {f : Flow} {s' : Shared} (h : SP (X.wish E) pins D f s') : SP X pins D f s' := by
  cases f with
  | next => obtain ⟨σ', H', I, q⟩ := h; exact ⟨σ', H', I.unwish, q⟩
  | brk => obtain ⟨σ', H', I, q⟩ := h; exact ⟨σ', H', I.unwish, q⟩
  | cont => obtain ⟨σ', H', I, q⟩ := h; exact ⟨σ', H', I.unwish, q⟩
  | ret u => obtain ⟨v, σ', H', I, r, q⟩ := h; exact ⟨v, σ', H', I.unwish, r, q⟩
theorem PSs.nox {st : List Stmt} {t : TS} (h : PSs X.nox st t) : PSs X st t := fun pins s σ H D I hw =>
  wpAny_mono (h pins s σ H D (I.wish _) hw) (fun _ _ q => q.unwish) fun _ _ z => False.elim z
end

/-! ### blocks and small statements -/
section
variable {X : Cx} {st : Stmt} {rest : List Stmt} {t u : TS} {e : Expr} {te : TE} {pos : Pos}
def tNext : TS := fun D σ H => D.nx σ H
def tSeq (t u : TS) : TS := fun D σ H => t { D with nx := u D } σ H
theorem pss_nil : PSs X [] tNext := fun _ _ σ H _ I h => wpAny_execs_nil ⟨σ, H, I, h⟩
theorem pss_cons (h1 : PS X st t) (h2 : PSs X rest u) : PSs X (st :: rest) (tSeq t u) := by
  intro pins s σ H D I h
  refine wpAny_execs_cons (thn (h1 pins s σ H { D with nx := u D } I h) fun f s1 q => ?_)
  cases f with
  | next =>
    obtain ⟨σ', H', I', q⟩ := q
    exact h2 pins s1 σ' H' D I' q
  | ret v => exact q
  | brk => exact q
  | cont => exact q
theorem pss_one (h1 : PS X st t) : PSs X [st] t := by
  intro pins s σ H D I h
  refine wpAny_execs_cons (thn (h1 pins s σ H D I h) fun f s1 q => ?_)
  cases f with
  | next => exact wpAny_execs_nil q
  | ret v => exact q
  | brk => exact q
  | cont => exact q
/-- in a def's body nothing is shown -/
theorem Inv.quiet {pins : List (Addr × Obj)} {σ : St} {H : Hp} {s : Shared} (I : Inv X pins σ H s) : interactive X.env = false := by simp [interactive, I.ok.kind]
/-- an expression whose value is dropped -/
def tDrop (te : TE) : TS := fun D σ H => te σ H fun _ H1 => D.nx σ H1
theorem ps_expr (he : PE X e te) (hs : swapsWith e none pos.line X.env = pure false := by rfl) : PS X (.Expr e pos) (tDrop te) := by
  intro pins s σ H D I h
  exact wpAny_Expr_any (thn (he pins s σ H _ I h) fun v s1 ⟨x, H1, I1, r1, q1⟩ => ⟨σ, H1, I1, q1⟩) I.quiet hs
def tRet (te : TE) : TS := fun D σ H => te σ H D.rt
theorem ps_ret (he : PE X e te) : PS X (.Return (some e) pos) (tRet te) := by
  intro pins s σ H D I h
  exact wpAny_Return_some (thn (he pins s σ H _ I h) fun v s1 ⟨x, H1, I1, r1, q1⟩ => ⟨x, σ, H1, I1, r1, q1⟩)
def tIfS (c : TT) (t u : TS) : TS := fun D σ H => c σ H fun b H1 => if b = true then t D σ H1 else u D σ H1
theorem ps_if {c : Expr} {a b : List Stmt} {tc : TT} (hc : PT X c tc) (ha : PSs X a t) (hb : PSs X b u) : PS X (.If c a b pos) (tIfS tc t u) := by
  intro pins s σ H D I h
  refine wpAny_If (thn (hc pins s σ H _ I h) fun d s1 ⟨H1, I1, q1⟩ => ?_)
  cases d with
  | true => exact ha pins s1 σ H1 D I1 q1
  | false => exact hb pins s1 σ H1 D I1 q1
/-- code that the proof never comes to -/
def tNever : TS := fun _ _ _ => False
theorem pss_never {sts : List Stmt} : PSs X sts tNever := fun _ _ _ _ _ _ h => h.elim
end

/-! ### targets -/
abbrev TG := V → St → Hp → (St → Hp → Prop) → Prop
abbrev TGs := List V → St → Hp → (St → Hp → Prop) → Prop
def PG (X : Cx) (target : Expr) (t : TG) : Prop :=
  ∀ (pins : List (Addr × Obj)) (s : Shared) (σ : St) (H : Hp) (v : V) (u : Value) (Q : St → Hp → Prop), Inv X pins σ H s → RelV v u → t v σ H Q →
    wpAny (model X.prog X.w) X.A (assign target X.env u) (fun _ s' => ∃ σ' H', Inv X pins σ' H' s' ∧ Q σ' H') X.xe s
/-- several targets, one after another -/
def PGs (X : Cx) (ts : List Expr) (t : TGs) : Prop :=
  ∀ (pins : List (Addr × Obj)) (s : Shared) (σ : St) (H : Hp) (vs : List V) (us : List Value) (Q : St → Hp → Prop), Inv X pins σ H s → Vals vs us → t vs σ H Q →
    wpAny (model X.prog X.w) X.A (assignInOrder ((assignEach ts X.env).map (·.2)) us) (fun _ s' => ∃ σ' H', Inv X pins σ' H' s' ∧ Q σ' H') X.xe s
/-- o[i] = v, by values -/
abbrev TSet := V → V → V → Hp → (Hp → Prop) → Prop
def PSet (X : Cx) (t : TSet) : Prop :=
  ∀ (pins : List (Addr × Obj)) (s : Shared) (σ : St) (H : Hp) (o i v : V) (ov iv u : Value) (Q : Hp → Prop), Inv X pins σ H s → RelV o ov → RelV i iv → RelV v u → t o i v H Q →
    wpAny (model X.prog X.w) X.A (setItem ov iv u) (fun _ s' => ∃ H', Inv X pins σ H' s' ∧ Q H') X.xe s
/-- a op= b, by values -/
abbrev TIp := V → V → Hp → VK → Prop
def PIp (X : Cx) (op : Operator) (t : TIp) : Prop :=
  ∀ (pins : List (Addr × Obj)) (s : Shared) (σ : St) (H : Hp) (x y : V) (v u : Value) (Q : VK), Inv X pins σ H s → RelV x v → RelV y u → t x y H Q →
    wpAny (model X.prog X.w) X.A (inplaceOp op v u) (EP X pins σ Q) X.xe s
section
variable {X : Cx} {pos : Pos}
def gName (i : Nat) : TG := fun v σ H Q => Q (σ.set i (some v)) H
theorem pg_name {i : Nat} {x : Str} (hN : X.N.Nodup) (hi : X.N[i]? = some x) (hx : Loc X.env.scope x) (hf : X.fn x = true ∨ X.env.scope.names.lookup x = some .local := by first | exact .inl rfl | exact .inr rfl | assumption) : PG X (.Name x pos) (gName i) := by
  intro pins s σ H v u Q I r h
  exact wpAny_assign_Name (store_ok I hN hi hx r (fun s' I' => ⟨_, H, I', h⟩) hf)
def gNil : TGs := fun vs σ H Q => vs = [] ∧ Q σ H
def gCons (t : TG) (u : TGs) : TGs := fun vs σ H Q => ∃ v r, vs = v :: r ∧ t v σ H fun σ' H' => u r σ' H' Q
theorem pgs_nil : PGs X [] gNil := by
  intro pins s σ H vs us Q I r h
  obtain ⟨e, h⟩ := h
  subst e
  cases r
  exact assignInOrder_nil ⟨σ, H, I, h⟩
theorem pgs_cons {e : Expr} {es : List Expr} {t : TG} {u : TGs} (h1 : PG X e t) (h2 : PGs X es u)
    (hs : (assignEach (e :: es) X.env).map (·.2) = assign e X.env :: (assignEach es X.env).map (·.2) := by rfl) : PGs X (e :: es) (gCons t u) := by
  intro pins s σ H vs us Q I r h
  obtain ⟨v, vr, e1, h⟩ := h
  subst e1
  cases r with
  | cons r rr =>
    rw [hs]
    refine assignInOrder_cons (thn (h1 pins s σ H _ _ _ I r h) fun _ s1 ⟨σ1, H1, I1, q1⟩ => ?_)
    exact h2 pins s1 σ1 H1 _ _ Q I1 rr q1
/-- (a, b, ..) = a tuple of that length -/
def gTup (K : PySem.W.Frag) (n : Nat) (t : TGs) : TG := fun v σ H Q => ∃ a xs, v = .ref a ∧ SqT K H a xs ∧ xs.length = n ∧ t xs σ H Q
theorem pg_tup {es : List Expr} {k : Nat} {t : TGs} {n : Nat} (hc : X.calm = true) (h : PGs X es t)
    (hn : (assignEach es X.env).length = n := by rfl) (hst : (assignEach es X.env).findIdx? (·.1) = none := by rfl) : PG X (.Tuple es k pos) (gTup X.K n t) := by
  intro pins s σ H v u Q I r hw
  obtain ⟨a, xs, e1, hq, hl, hw⟩ := hw
  subst e1
  cases r
  obtain ⟨its, rv, ht, hz⟩ := I.tuple hq
  refine assign_Tuple_tuple (I.ok.hd hc) ht (by simp [hn, ← hl, rv.length]) hst fun h' hx => ?_
  have I1 : Inv X pins σ H { s with heap := h' } := I.kept (t' := s.toks) fun b o e => hx b o (Nat.ne_of_lt (Heap.lt_size e)) e
  exact h pins _ σ H xs _ Q I1 (by simpa using rv) hw
/-- o[i] = .. -/
def gSub (to ti : TE) (t : TSet) : TG := fun v σ H Q => to σ H fun o H1 => ti σ H1 fun i H2 => t o i v H2 fun H3 => Q σ H3
theorem pg_sub {o i : Expr} {to ti : TE} {t : TSet} (ho : PE X o to) (hi : PE X i ti) (hs : PSet X t)
    (ha : ∀ v, assign (.Subscript o i pos) X.env v = (do
      let ov ← holding [v] (eval o X.env)
      let iv ← holding [v, ov] (eval i X.env)
      standAt pos
      holding [v, ov, iv] (setItem ov iv v)
      release [v, ov, iv] []) := by intro _; rfl) : PG X (.Subscript o i pos) (gSub to ti t) := by
  intro pins s σ H v u Q I r h
  rw [ha]
  refine wpAny_bind (wpAny_holding (thn (ho pins s σ H _ I h) fun ov s1 ⟨x, H1, I1, r1, q1⟩ => ?_))
  refine wpAny_bind (wpAny_holding (thn (hi pins s1 σ H1 _ I1 q1) fun iv s2 ⟨y, H2, I2, r2, q2⟩ => ?_))
  refine wpAny_bind (wpAny_standAt (wpAny_bind (wpAny_holding (thn (hs pins s2 σ H2 x y v ov iv u _ I2 r1 r2 r q2) fun _ s3 ⟨H3, I3, q3⟩ => ?_))))
  exact wpAny_release ⟨σ, H3, I3, q3⟩
/-- target = value -/
def tAsg (te : TE) (g : TG) : TS := fun D σ H => te σ H fun x H1 => g x σ H1 D.nx
theorem ps_asg {tg e : Expr} {te : TE} {g : TG} (he : PE X e te) (hg : PG X tg g) (hs : swapsWithSole [tg] e pos.line X.env = pure false := by rfl) (hw : swappedStores [tg] e X.env = pure none := by rfl)
    (h1 : (assignEach [tg] X.env).map (·.2) = [assign tg X.env] := by rfl) : PS X (.Assign [tg] e pos) (tAsg te g) := by
  intro pins s σ H D I h
  refine wpAny_Assign_stores (thn (he pins s σ H _ I h) fun v s1 ⟨x, H1, I1, r1, q1⟩ => ?_) hs hw
  rw [h1]
  exact thn (hg pins s1 σ H1 x v _ I1 r1 q1) fun _ s2 q => q
/-- name = value -/
theorem ps_set {i : Nat} {x : Str} {e : Expr} {te : TE} {pos' : Pos} (hN : X.N.Nodup) (hi : X.N[i]? = some x) (hx : Loc X.env.scope x) (he : PE X e te) (hs : swapsWith e (some (.Name x pos')) pos.line X.env = pure false := by rfl) (hf : X.fn x = true ∨ X.env.scope.names.lookup x = some .local := by first | exact .inl rfl | exact .inr rfl | assumption) :
    PS X (.Assign [.Name x pos'] e pos) (tAsg te (gName i)) := by
  intro pins s σ H D I h
  refine wpAny_Assign_Name (thn (he pins s σ H _ I h) fun v s1 ⟨y, H1, I1, r1, q1⟩ => ?_) hs
  exact store_ok I1 hN hi hx r1 (fun s2 I2 => ⟨_, H1, I2, q1⟩) hf
/-- name op= e -/
def tAug (i : Nat) (te : TE) (ti : TIp) : TS := fun D σ H => ∃ x, σ[i]? = some (some x) ∧ te σ H fun y H1 => ti x y H1 fun z H2 => D.nx (σ.set i (some z)) H2
theorem ps_aug {i : Nat} {x : Str} {e : Expr} {te : TE} {op : Operator} {ti : TIp} {pos' : Pos} (hN : X.N.Nodup) (hi : X.N[i]? = some x) (hx : Loc X.env.scope x) (he : PE X e te) (ho : PIp X op ti) (hf : X.fn x = true ∨ X.env.scope.names.lookup x = some .local := by first | exact .inl rfl | exact .inr rfl | assumption) :
    PS X (.AugAssign (.Name x pos') op e pos) (tAug i te ti) := by
  intro pins s σ H D I h
  obtain ⟨v, e1, h⟩ := h
  obtain ⟨m, hn, hl⟩ := I.loc
  have vis : Vis X.env.scope x := by rcases hx with k | k; exact .inl k; exact .inr (.inl k)
  obtain ⟨u, r, l⟩ := hl i x v hi e1 vis
  refine wpAny_AugAssign_Name ?_
  have go : wpAny (model X.prog X.w) X.A (eval e X.env) (fun w s₂ => wpAny (model X.prog X.w) X.A (inplaceOp op u w) (fun r s₃ => wpAny (model X.prog X.w) X.A (storeName X.env x r) (fun _ => SP X pins D .next) X.xe s₃) X.xe s₂) X.xe s := by
    refine thn (he pins s σ H _ I h) fun w s1 ⟨y, H1, I1, r1, q1⟩ => ?_
    refine thn (ho pins s1 σ H1 v y u w _ I1 r r1 q1) fun z s2 ⟨zv, H2, I2, r2, q2⟩ => ?_
    exact store_ok I2 hN hi hx r2 (fun s3 I3 => ⟨_, H2, I3, q2⟩) hf
  rcases l with ⟨hk, hm⟩ | ⟨hk, c, hc, hcell⟩
  · exact wpAny_loadName_local I.ok.kind hk hn hm go
  · rcases hk with hk | hk
    · exact wpAny_loadName_cell I.ok.kind hk hc hcell go
    · rcases hx with k | k
      · have : X.env.scope.names.lookup x = some .free := hk
        rw [k] at this; cases this
      · have : X.env.scope.names.lookup x = some .free := hk
        rw [k] at this; cases this
/-- ints -/
def ipI (f : Int → Int → Int) : TIp := fun x y H Q => ∃ i j, x = .int i ∧ y = .int j ∧ Q (.int (f i j)) H
theorem ip_add : PIp X .Add (ipI fun i j => i + j) := by
  intro pins s σ H x y v u Q I r1 r2 h
  obtain ⟨i, j, e1, e2, q⟩ := h
  subst e1; subst e2
  obtain ⟨t, rfl⟩ := r1
  obtain ⟨t', rfl⟩ := r2
  exact iadd_int ⟨.int _, H, I.tok _, ⟨_, rfl⟩, q⟩
end

/-! ### while -/
section
variable {X : Cx} {pos : Pos}
/-- the invariant W with its measure -/
def tWhile (c : TT) (tb : TS) : TS := fun D σ H => ∃ W : Nat → St → Hp → Prop, (∃ m, W m σ H) ∧ ∀ m σ H, W m σ H →
  c σ H fun b H1 => if b = true then ∃ N : St → Hp → Prop, (∀ σ' H', N σ' H' → ∃ m', m' < m ∧ W m' σ' H') ∧ tb { D with nx := N, ct := N, bk := D.nx } σ H1 else D.nx σ H1
theorem ps_while {c : Expr} {body : List Stmt} {tc : TT} {tb : TS} (hp : PassesOwn (model X.prog X.w) X.A X.env X.xe) (hc : PT X c tc) (hb : PSs X body tb) : PS X (.While c body [] pos) (tWhile tc tb) := by
  intro pins s σ H D I h
  obtain ⟨W, ⟨m0, w0⟩, turn⟩ := h
  refine wpAny_While (codeAny_whileLoop (fun n s' => ∃ σ' H', Inv X pins σ' H' s' ∧ W n σ' H') ?_ m0 ⟨σ, H, I, w0⟩)
  rintro n s1 ⟨σ1, H1, I1, w1⟩
  refine wpAny_passesOwn hp (thn (hc pins s1 σ1 H1 _ I1 (turn n σ1 H1 w1)) fun b s2 ⟨H2, I2, q2⟩ => ?_)
  cases b with
  | true =>
    obtain ⟨N, hN, q2⟩ := q2
    rw [if_pos rfl]
    refine wpAny_passesOwn hp (thn (hb pins s2 σ1 H2 _ I2 q2) fun f s3 q3 => ?_)
    cases f with
    | next =>
      obtain ⟨σ3, H3, I3, n3⟩ := q3
      obtain ⟨m', hm, w3⟩ := hN σ3 H3 n3
      exact ⟨m', hm, σ3, H3, I3, w3⟩
    | cont =>
      obtain ⟨σ3, H3, I3, n3⟩ := q3
      obtain ⟨m', hm, w3⟩ := hN σ3 H3 n3
      exact ⟨m', hm, σ3, H3, I3, w3⟩
    | brk => exact q3
    | ret v => exact q3
  | false =>
    rw [if_neg Bool.false_ne_true]
    exact wpAny_execs_nil ⟨σ1, H2, I2, q2⟩
end

/-! ### what a loop or a comprehension walks -/
/-- at turn i: it yields x (the heap may grow), or it stops -/
structure It where
  go : Nat → Hp → Prop
  yld : Nat → Hp → V → Hp → Prop
  stop : Nat → Hp → Prop
/-- the iterator's own objects may turn: they are not the frame's, not pinned, younger than the entry (or a comprehension's own) -/
def FpOk (X : Cx) (pins : List (Addr × Obj)) (H : Hp) (b : Addr) : Prop :=
  H b = none ∧ b ≠ X.env.locals ∧ b ∉ X.fs ∧ (b ∈ X.ex ∨ X.s₀.heap.objs.size ≤ b) ∧ (∀ x c, X.env.cells.lookup x = some c → c ≠ b) ∧ ∀ p ∈ X.pn ++ pins, p.1 ≠ b
theorem Inv.fpOk {X : Cx} {pins : List (Addr × Obj)} {σ : St} {H H' : Hp} {s : Shared} {b : Addr} (I : Inv X pins σ H s) (hb : s.heap.objs.size ≤ b) (hn : H' b = none) : FpOk X pins H' b := by
  refine ⟨hn, Nat.ne_of_gt (Nat.lt_of_lt_of_le I.lt hb), I.nofs hb, .inr (Nat.le_trans I.sz hb), fun x c e z => ?_, fun p hp z => ?_⟩
  · obtain ⟨v, q⟩ := I.cell x c e
    exact absurd (Nat.lt_of_lt_of_le q.lt (by rw [z]; exact hb)) (Nat.lt_irrefl _)
  · exact absurd (Nat.lt_of_lt_of_le (Heap.lt_size (I.pin p hp).1) (by rw [z]; exact hb)) (Nat.lt_irrefl _)
structure Turn (P : Program) (w : World) (K : PySem.W.Frag) (tg : Expr) (J : It) (fp : List Addr) (it : Addr) (tn : Nat → Heap → Prop) : Prop where
  mem : it ∈ fp
  obj : ∀ i h, tn i h → ∀ b ∈ fp, ∃ o, h.get? b = some o ∧ ∀ v, o.data ≠ .cell v
  keep : ∀ i h h', tn i h → (∀ b ∈ fp, ∀ o, h.get? b = some o → h'.get? b = some o) → tn i h'
  item : ∀ (X : Cx), X.prog = P → X.w = w → X.K = K → X.calm = true → ∀ (i : Nat) (pins : List (Addr × Obj)) (s : Shared) (σ : St) (H : Hp) (E : Value → Shared → Prop), Inv X pins σ H s → (∀ b ∈ fp, FpOk X pins H b) → tn i s.heap → J.go i H →
    wpAny (model P w) X.A (pyNext (.ref it)) (fun r s1 => ∃ u, r = some u ∧
      wpAny (model P w) X.A (letOwnedTupleGo tg (.ref it) u) (fun _ s2 => ∃ x H', Inv X pins σ H' s2 ∧ RelV x u ∧ J.yld i H x H' ∧ tn (i + 1) s2.heap ∧ ∀ b ∈ fp, H' b = none) E s1) E s
  done : ∀ (X : Cx), X.prog = P → X.w = w → X.K = K → X.calm = true → ∀ (i : Nat) (pins : List (Addr × Obj)) (s : Shared) (σ : St) (H : Hp) (E : Value → Shared → Prop), Inv X pins σ H s → (∀ b ∈ fp, FpOk X pins H b) → tn i s.heap → J.stop i H →
    wpAny (model P w) X.A (pyNext (.ref it)) (fun r s1 => r = none ∧ Inv X pins σ H s1) E s
  self : ∀ (A : Around) (i : Nat) (s : Shared) (Q : Value → Shared → Prop) (E : Value → Shared → Prop), tn i s.heap → Q (.ref it) s → wpAny (model P w) A (pyIter (.ref it)) Q E s
abbrev TI := St → Hp → (It → Hp → Prop) → Prop
/-- an iterator has come -/
def PIE (X : Cx) (pins : List (Addr × Obj)) (σ : St) (tg : Expr) (R : It → Hp → Prop) (itv : Value) (s2 : Shared) : Prop :=
  ∃ (it : Addr) (fp : List Addr) (tn : Nat → Heap → Prop) (J : It) (H' : Hp), itv = .ref it ∧ Inv X pins σ H' s2 ∧ Turn X.prog X.w X.K tg J fp it tn ∧ tn 0 s2.heap ∧ (∀ b ∈ fp, FpOk X pins H' b) ∧ R J H'
def PI (X : Cx) (tg iter : Expr) (wi : TI) : Prop :=
  ∀ (pins : List (Addr × Obj)) (s : Shared) (σ : St) (H : Hp) (R : It → Hp → Prop), Inv X pins σ H s → wi σ H R →
    wpAny (model X.prog X.w) X.A (eval iter X.env) (fun v s1 => wpAny (model X.prog X.w) X.A (pyIter v) (PIE X pins σ tg R) X.xe s1) X.xe s

/-- the step ahead of the store is nothing for an iterator that keeps no tuple -/
theorem go_of {M : Model} {A : Around} {E : Value → Shared → Prop} {s : Shared} {tg : Expr} {it : Addr} {u : Value} {o : Obj} {n : String} {vs : Array Value} {Q : Unit → Shared → Prop} (ho : s.heap.get? it = some o) (hc : o.cls = .type n) (hd : o.data = .fields vs)
    (hn : ["enumerate", "zip", "dict_itemiterator", "dict_reverseitemiterator", "odict_iterator", "itertools.zip_longest", "itertools.pairwise"].contains n = false) (hQ : Q () s) : wpAny M A (letOwnedTupleGo tg (.ref it) u) Q E s := by
  unfold letOwnedTupleGo
  cases tg <;> first
    | exact wpAny_pure hQ
    | (cases u <;> first
        | exact wpAny_pure hQ
        | (refine wpAny_bind (wpAny_load ho ?_)
           rw [hc, hd]
           show wpAny M A (if (["enumerate", "zip", "dict_itemiterator", "dict_reverseitemiterator", "odict_iterator", "itertools.zip_longest", "itertools.pairwise"].contains n && vs[0]? == some (rawInt _)) = true then _ else _) Q E s
           rw [if_neg (by intro h; rw [hn, Bool.false_and] at h; cases h)]
           exact wpAny_pure hQ))

/-- the list at a, as it stands at each turn (a loop may append to it) -/
def Itl (K : PySem.W.Frag) (a : Addr) : It :=
  ⟨fun i H => ∃ xs x, SqL K H a xs ∧ xs[i]? = some x, fun i H x H' => H' = H ∧ ∀ xs, SqL K H a xs → xs[i]? = some x, fun i H => ∃ xs, SqL K H a xs ∧ xs.length ≤ i⟩
/-- lo, lo + 1, .. (n of them) -/
def Itr (lo : Int) (n : Nat) : It := ⟨fun i _ => i < n, fun i H x H' => H' = H ∧ x = .int (lo + i), fun i _ => n ≤ i⟩
theorem turn_list {P : Program} {w : World} {K : PySem.W.Frag} {tg : Expr} (a it : Addr) : Turn P w K tg (Itl K a) [it] it (fun i h => h.IsListIter it a i) where
  mem := by simp
  obj := fun i h st b hb => by
    have e : b = it := by simpa using hb
    subst e
    obtain ⟨o, e, c, d⟩ := st
    exact ⟨o, e, fun v z => by rw [d] at z; cases z⟩
  keep := fun i h h' st k => st.at fun o e => k it (by simp) o e
  item := by
    intro X hP hw hK hc i pins s σ H E I hf st hg
    subst hP hw hK
    obtain ⟨xs, x, hq, hx⟩ := hg
    obtain ⟨its, rv, p, hz⟩ := I.list hq
    obtain ⟨u, hu, ru⟩ := rv.get hx
    obtain ⟨f0, f1, f2, f3, f4, f5⟩ := hf it (by simp)
    refine wpAny_pyNext_list_item st p.isList (x := u) (by simpa using hu) fun h' st' sb => ?_
    have I1 : Inv X pins σ H { s with heap := h' } := I.turned (t' := s.toks) (fun b o hb e => (sb.2 b hb).trans e) f0 f1 f3 f4 f5
    obtain ⟨o, e, c, d⟩ := id st'
    exact ⟨u, rfl, go_of (s := { s with heap := h' }) e c d (by decide) ⟨x, H, I1, ru, ⟨rfl, fun ys hy => by rw [I.list_inj hy hq]; exact hx⟩, st', fun b hb => (hf b hb).1⟩⟩
  done := by
    intro X hP hw hK hc i pins s σ H E I hf st hg
    subst hP hw hK
    obtain ⟨xs, hq, hx⟩ := hg
    obtain ⟨its, rv, p, hz⟩ := I.list hq
    obtain ⟨f0, f1, f2, f3, f4, f5⟩ := hf it (by simp)
    have hl := rv.length
    exact wpAny_pyNext_list_end (I.ok.hd hc) st p.isList (by simp; omega) fun h' eb => ⟨rfl, I.turned (t' := s.toks) (fun b o hb e => eb b o hb e) f0 f1 f3 f4 f5⟩
  self := fun _ _ _ _ _ st h => wpAny_pyIter_listiter st h
theorem turn_range {P : Program} {w : World} {K : PySem.W.Frag} {tg : Expr} (it : Addr) (lo : Int) (n : Nat) : Turn P w K tg (Itr lo n) [it] it (fun i h => IsRangeIter h it (lo + (i : Nat) * 1) ((n : Int) - (i : Nat)) 1) where
  mem := by simp
  obj := fun i h st b hb => by
    have e : b = it := by simpa using hb
    subst e
    exact ⟨_, st, fun v z => by
      have z' : Data.fields _ = Data.cell v := z
      cases z'⟩
  keep := fun i h h' st k => k it (by simp) _ st
  item := by
    intro X hP hw hK hc i pins s σ H E I hf st hg
    subst hP hw hK
    obtain ⟨f0, f1, f2, f3, f4, f5⟩ := hf it (by simp)
    have W := Walks.range (prog := X.prog) (w := X.w) (I.ok.hd hc) it lo 1 n
    refine W.item i s _ _ hg st fun v h' tk hv st' kk => ?_
    obtain ⟨t, rfl⟩ := hv
    have I1 : Inv X pins σ H { s with heap := h', toks := tk } := I.turned (fun b o hb e => kk b o (by simpa using hb) e) f0 f1 f3 f4 f5
    refine ⟨_, rfl, go_of (s := { s with heap := h', toks := tk }) (n := "range_iterator") st' rfl rfl (by decide) ⟨.int (lo + i), H, I1, ⟨t, ?_⟩, ⟨rfl, rfl⟩, st', fun b hb => (hf b hb).1⟩⟩
    rw [Int.mul_one]
  done := by
    intro X hP hw hK hc i pins s σ H E I hf st hg
    subst hP hw hK
    obtain ⟨f0, f1, f2, f3, f4, f5⟩ := hf it (by simp)
    exact wpAny_pyNext_range_end (I.ok.hd hc) st (by have : n ≤ i := hg; omega) fun h' eb => ⟨rfl, I.turned (t' := s.toks) (fun b o hb e => eb b o hb e) f0 f1 f3 f4 f5⟩
  self := fun _ _ _ _ _ st h => wpAny_pyIter_rangeiter st h
end L2

namespace L2
open PySem PySem.Spec PyProof.Rows
section
variable {X : Cx} {tg : Expr}
def iList (K : PySem.W.Frag) (tl : TE) : TI := fun σ H R => tl σ H fun x H1 => ∃ a, x = .ref a ∧ (∃ xs, SqL K H1 a xs) ∧ R (Itl K a) H1
theorem pi_list {l : Expr} {tl : TE} (hl : PE X l tl) : PI X tg l (iList X.K tl) := by
  intro pins s σ H R I h
  refine thn (hl pins s σ H _ I h) fun v s1 ⟨x, H1, I1, r1, q1⟩ => ?_
  obtain ⟨a, e, ⟨xs, hq⟩, q⟩ := q1
  subst e
  cases r1
  obtain ⟨its, rv, p, hz⟩ := I1.list hq
  refine wpAny_pyIter_list p.isList ?_
  refine ⟨s1.heap.objs.size, [s1.heap.objs.size], _, _, H1, rfl, I1.kept (t' := s1.toks) fun b o e => Heap.get?_push_of_some _ e, turn_list a _, ⟨_, Heap.get?_push_size _ rfl, rfl, rfl⟩, fun b hb => ?_, q⟩
  have e : b = s1.heap.objs.size := by simpa using hb
  subst e
  exact I1.fpOk (Nat.le_refl _) (I1.hok.fresh (Nat.le_refl _))
/-- a range object just made, walked -/
theorem range_it {pins : List (Addr × Obj)} {σ : St} {H : Hp} {s : Shared} {R : It → Hp → Prop} {E : Value → Shared → Prop} {lo hi : Int} {t u v : Tok} {tk : Nat} (I : Inv X pins σ H s) (h1 : -(2 ^ 62) ≤ lo) (h2 : lo < 2 ^ 62) (h3 : -(2 ^ 62) ≤ hi) (h4 : hi < 2 ^ 62)
    (q : R (Itr lo (hi - lo).toNat) H) : wpAny (model X.prog X.w) X.A (pyIter (.ref s.heap.objs.size)) (PIE X pins σ tg R) E { s with heap := s.heap.push { cls := .type "range", data := .fields #[.int lo t, .int hi u, .int 1 v] }, toks := tk } := by
  refine wpAny_pyIter_range (IsRange.new ..) (small_one h1 h2 h3 h4) ?_
  have I1 : Inv X pins σ H { s with heap := s.heap.push { cls := .type "range", data := .fields #[.int lo t, .int hi u, .int 1 v] }, toks := tk } := I.kept fun b o e => Heap.get?_push_of_some _ e
  refine ⟨(s.heap.push { cls := .type "range", data := .fields #[.int lo t, .int hi u, .int 1 v] }).objs.size, [(s.heap.push { cls := .type "range", data := .fields #[.int lo t, .int hi u, .int 1 v] }).objs.size], _, _, H, rfl,
    I1.kept (t' := tk) fun b o e => Heap.get?_push_of_some _ e, turn_range _ lo (hi - lo).toNat, ?_, fun b hb => ?_, q⟩
  · have e1 : lo + ((0 : Nat) : Int) * 1 = lo := by simp
    have e2 : (((hi - lo).toNat : Nat) : Int) - ((0 : Nat) : Int) = Builtin.Range.rangeSize lo hi 1 := by rw [rangeSize_one]; split <;> omega
    show IsRangeIter _ _ (lo + ((0 : Nat) : Int) * 1) ((((hi - lo).toNat : Nat) : Int) - ((0 : Nat) : Int)) 1
    rw [e1, e2]
    exact Heap.get?_push_size _ rfl
  · have e : b = (s.heap.push { cls := .type "range", data := .fields #[.int lo t, .int hi u, .int 1 v] }).objs.size := by simpa using hb
    subst e
    exact I1.fpOk (Nat.le_refl _) (I1.hok.fresh (Nat.le_refl _))
def iRng1 (ta : TA) : TI := fun σ H R => ta σ H fun vs H1 => ∃ j : Int, vs = [.int j] ∧ -(2 ^ 62) ≤ j ∧ j < 2 ^ 62 ∧ R (Itr 0 j.toNat) H1
theorem pi_range1 {a : Expr} {ta : TA} {p pos : Pos} (hg : Gl X "range") (hm : X.mg "range" = none) (ha : PA X [a] ta) (hs : starEach [a] X.env = [(false, eval a X.env)] := by rfl) : PI X tg (.Call (.Name "range" p) [a] [] pos) (iRng1 ta) := by
  intro pins s σ H R I h
  refine Call_ (ld_blt I hg hm boot_range (PyProof.Rows.callWith_type1 (thn (ha pos pins s σ H _ I h) fun us s1 ⟨vs, H1, I1, r1, q1⟩ => ?_) hs rfl))
  obtain ⟨j, e, q1, q2, q⟩ := q1
  subst e
  cases r1 with
  | cons r rr =>
    cases rr
    obtain ⟨t, rfl⟩ := r
    exact call_range_1 (range_it I1 (by omega) (by omega) q1 q2 (by simpa using q))
/-! ### for -/
/-- W: the invariant by the turn and a measure; N: what the body is to reach -/
def tFor (wi : TI) (g : TG) (tb : TS) : TS := fun D σ H => wi σ H fun J H1 => ∃ W : Nat → Nat → St → Hp → Prop, (∃ m, W 0 m σ H1) ∧ ∀ i m σ H, W i m σ H →
  (J.stop i H ∧ D.nx σ H) ∨ (J.go i H ∧ ∃ N : St → Hp → Prop, (∀ σ' H', N σ' H' → ∃ m', m' < m ∧ W (i + 1) m' σ' H') ∧ ∀ x H', J.yld i H x H' → g x σ H' fun σ2 H2 => tb { D with nx := N, ct := N, bk := D.nx } σ2 H2)
/-- the records at fp as they stand -/
def pinsAt (fp : List Addr) (h : Heap) : List (Addr × Obj) := fp.filterMap fun b => (h.get? b).map fun o => (b, o)
theorem mem_pinsAt {fp : List Addr} {h : Heap} {b : Addr} {o : Obj} (hb : b ∈ fp) (e : h.get? b = some o) : (b, o) ∈ pinsAt fp h := List.mem_filterMap.mpr ⟨b, hb, by rw [e]; rfl⟩
theorem of_pinsAt {fp : List Addr} {h : Heap} {p : Addr × Obj} (hp : p ∈ pinsAt fp h) : p.1 ∈ fp ∧ h.get? p.1 = some p.2 := by
  obtain ⟨b, hb, e⟩ := List.mem_filterMap.mp hp
  cases q : h.get? b with
  | none => rw [q] at e; cases e
  | some o =>
    rw [q] at e
    have e' : (b, o) = p := Option.some.inj e
    subst e'
    exact ⟨hb, q⟩
theorem Inv.pinned {pins : List (Addr × Obj)} {σ : St} {H : Hp} {s : Shared} {fp : List Addr} (I : Inv X pins σ H s) (hf : ∀ b ∈ fp, FpOk X pins H b) (ho : ∀ b ∈ fp, ∃ o, s.heap.get? b = some o ∧ ∀ v, o.data ≠ .cell v) : Inv X (pins ++ pinsAt fp s.heap) σ H s :=
  I.pins_of fun p hp => (List.mem_append.mp hp).elim (fun z => I.pin p (List.mem_append_right _ z)) fun z => by
    obtain ⟨hb, e⟩ := of_pinsAt z
    obtain ⟨f0, f1, f2, _⟩ := hf p.1 hb
    obtain ⟨o, e', d⟩ := ho p.1 hb
    rw [e] at e'; cases e'
    exact ⟨e, f0, f1, f2, d⟩
theorem Inv.unpinned {pins pl : List (Addr × Obj)} {σ : St} {H : Hp} {s : Shared} (I : Inv X (pins ++ pl) σ H s) : Inv X pins σ H s := I.pins_of fun p hp => I.pin p (List.mem_append_right _ (List.mem_append_left _ hp))
theorem ps_for {iter : Expr} {body : List Stmt} {wi : TI} {g : TG} {tb : TS} {pos : Pos} (hp : PassesOwn (model X.prog X.w) X.A X.env X.xe) (hc : X.calm = true) (hi : PI X tg iter wi) (hg : PG X tg g) (hb : PSs X body tb)
    (hs : ∀ x, foldedSetIterable iter X.env x = pure x := by intro _; rfl) : PS X (.For tg iter body [] pos) (tFor wi g tb) := by
  intro pins s σ H D I h
  refine wpAny_For (thn (hi pins s σ H _ I h) fun v s1 h1 => thn h1 fun itv s2 h2 => ?_) hs
  obtain ⟨it, fp, tn, J, H2, e, I2, T, st2, f2, W, ⟨m0, w0⟩, turn⟩ := h2
  subst e
  -- what stays true of the iterator's objects through the loop
  have stat : ∀ {H' : Hp}, (∀ b ∈ fp, H' b = none) → ∀ b ∈ fp, FpOk X pins H' b := fun hn b hb => ⟨hn b hb, (f2 b hb).2⟩
  refine codeAny_forLoop_any (fun n s' => ∃ i σ' H', Inv X pins σ' H' s' ∧ tn i s'.heap ∧ (∀ b ∈ fp, H' b = none) ∧ W i n σ' H') ?_ m0 ⟨0, σ, H2, I2, st2, fun b hb => (f2 b hb).1, w0⟩
  rintro n s3 ⟨i, σ3, H3, I3, st3, fr3, w3⟩
  rcases turn i n σ3 H3 w3 with ⟨stop, qn⟩ | ⟨go, N, hN, step⟩
  · refine wpAny_passesOwn hp (thn (T.done X rfl rfl rfl hc i pins s3 σ3 H3 X.xe I3 (stat fr3) st3 stop) fun r s4 ⟨hr, I4⟩ => ?_)
    subst hr
    exact wpAny_execs_nil ⟨σ3, H3, I4, qn⟩
  · refine wpAny_passesOwn hp (thn (T.item X rfl rfl rfl hc i pins s3 σ3 H3 X.xe I3 (stat fr3) st3 go) fun r s4 ⟨u, hr, h4⟩ => ?_)
    subst hr
    refine wpAny_passesOwn hp (thn h4 fun _ s5 ⟨x, H5, I5, r5, y5, st5, fr5⟩ => ?_)
    have I5' := I5.pinned (stat fr5) (T.obj _ _ st5)
    refine wpAny_passesOwn hp (thn (hg _ s5 σ3 H5 x u _ I5' r5 (step x H5 y5)) fun _ s6 ⟨σ6, H6, I6, q6⟩ => ?_)
    refine wpAny_passesOwn hp (thn (hb _ s6 σ6 H6 _ I6 q6) fun f s7 q7 => ?_)
    have again : ∀ {σ7 : St} {H7 : Hp}, Inv X (pins ++ pinsAt fp s5.heap) σ7 H7 s7 → N σ7 H7 → ∃ m, m < n ∧ ∃ i σ' H', Inv X pins σ' H' s7 ∧ tn i s7.heap ∧ (∀ b ∈ fp, H' b = none) ∧ W i m σ' H' := fun {σ7 H7} I7 n7 => by
      obtain ⟨m', hm, w7⟩ := hN σ7 H7 n7
      refine ⟨m', hm, i + 1, σ7, H7, I7.unpinned, T.keep _ _ _ st5 fun b hb o e => (I7.pin (b, o) (List.mem_append_right _ (List.mem_append_right _ (mem_pinsAt hb e)))).1, fun b hb => ?_, w7⟩
      obtain ⟨o, e, d⟩ := T.obj _ _ st5 b hb
      exact (I7.pin (b, o) (List.mem_append_right _ (List.mem_append_right _ (mem_pinsAt hb e)))).2.1
    cases f with
    | next => obtain ⟨σ7, H7, I7, n7⟩ := q7; exact again I7 n7
    | cont => obtain ⟨σ7, H7, I7, n7⟩ := q7; exact again I7 n7
    | brk => obtain ⟨σ7, H7, I7, q7⟩ := q7; exact ⟨σ7, H7, I7.unpinned, q7⟩
    | ret v => obtain ⟨x7, σ7, H7, I7, r7, q7⟩ := q7; exact ⟨x7, σ7, H7, I7.unpinned, r7, q7⟩
end

/-! ### the forms one uses -/
/-- over a list that the body leaves as it is -/
theorem for_list {K : PySem.W.Frag} {a : Addr} {xs : List V} {g : TG} {tb : TS} {D : Ends} {σ : St} {H : Hp} (Pv : Nat → St → Hp → Prop) (h0 : Pv 0 σ H) (hl : ∀ i σ H, i ≤ xs.length → Pv i σ H → SqL K H a xs)
    (hs : ∀ i x σ H, xs[i]? = some x → Pv i σ H → g x σ H fun σ2 H2 => tb { D with nx := Pv (i + 1), ct := Pv (i + 1), bk := D.nx } σ2 H2) (hd : ∀ σ H, Pv xs.length σ H → D.nx σ H) :
    ∃ W : Nat → Nat → St → Hp → Prop, (∃ m, W 0 m σ H) ∧ ∀ i m σ H, W i m σ H →
      ((Itl K a).stop i H ∧ D.nx σ H) ∨ ((Itl K a).go i H ∧ ∃ N : St → Hp → Prop, (∀ σ' H', N σ' H' → ∃ m', m' < m ∧ W (i + 1) m' σ' H') ∧ ∀ x H', (Itl K a).yld i H x H' → g x σ H' fun σ2 H2 => tb { D with nx := N, ct := N, bk := D.nx } σ2 H2) := by
  refine ⟨fun i m σ H => m = xs.length - i ∧ i ≤ xs.length ∧ Pv i σ H, ⟨xs.length, by simp, Nat.zero_le _, h0⟩, ?_⟩
  rintro i m σ H ⟨rfl, hi, p⟩
  have q := hl i σ H hi p
  by_cases hlt : i < xs.length
  · refine .inr ⟨⟨xs, xs[i], q, by simp [hlt]⟩, Pv (i + 1), fun σ' H' p' => ⟨xs.length - (i + 1), by omega, rfl, hlt, p'⟩, fun x H' y => ?_⟩
    obtain ⟨e, y⟩ := y
    subst e
    exact hs i x σ _ (y xs q) p
  · have e : i = xs.length := by omega
    subst e
    exact .inl ⟨⟨xs, q, Nat.le_refl _⟩, hd σ H p⟩
theorem for_range {lo : Int} {n : Nat} {g : TG} {tb : TS} {D : Ends} {σ : St} {H : Hp} (Pv : Nat → St → Hp → Prop) (h0 : Pv 0 σ H)
    (hs : ∀ i σ H, i < n → Pv i σ H → g (.int (lo + i)) σ H fun σ2 H2 => tb { D with nx := Pv (i + 1), ct := Pv (i + 1), bk := D.nx } σ2 H2) (hd : ∀ σ H, Pv n σ H → D.nx σ H) :
    ∃ W : Nat → Nat → St → Hp → Prop, (∃ m, W 0 m σ H) ∧ ∀ i m σ H, W i m σ H →
      ((Itr lo n).stop i H ∧ D.nx σ H) ∨ ((Itr lo n).go i H ∧ ∃ N : St → Hp → Prop, (∀ σ' H', N σ' H' → ∃ m', m' < m ∧ W (i + 1) m' σ' H') ∧ ∀ x H', (Itr lo n).yld i H x H' → g x σ H' fun σ2 H2 => tb { D with nx := N, ct := N, bk := D.nx } σ2 H2) := by
  refine ⟨fun i m σ H => m = n - i ∧ i ≤ n ∧ Pv i σ H, ⟨n, by simp, Nat.zero_le _, h0⟩, ?_⟩
  rintro i m σ H ⟨rfl, hi, p⟩
  by_cases hlt : i < n
  · refine .inr ⟨hlt, Pv (i + 1), fun σ' H' p' => ⟨n - (i + 1), by omega, rfl, hlt, p'⟩, fun x H' y => ?_⟩
    obtain ⟨e, y⟩ := y
    subst e y
    exact hs i σ _ hlt p
  · have e : i = n := by omega
    subst e
    exact .inl ⟨Nat.le_refl _, hd σ H p⟩
/-- while, by a word and a measure of the state -/
theorem while_by {c : TT} {tb : TS} {D : Ends} {σ : St} {H : Hp} (Pv : St → Hp → Prop) (μ : St → Hp → Nat) (h0 : Pv σ H)
    (hs : ∀ σ H, Pv σ H → c σ H fun b H1 => if b = true then tb { D with nx := fun σ' H' => Pv σ' H' ∧ μ σ' H' < μ σ H, ct := fun σ' H' => Pv σ' H' ∧ μ σ' H' < μ σ H, bk := D.nx } σ H1 else D.nx σ H1)
    (mono : ∀ σ H Q Q', (∀ b H1, Q b H1 → Q' b H1) → c σ H Q → c σ H Q') : tWhile c tb D σ H := by
  refine ⟨fun m σ H => m = μ σ H ∧ Pv σ H, ⟨_, rfl, h0⟩, ?_⟩
  rintro m σ H ⟨rfl, p⟩
  refine mono σ H _ _ (fun b H1 q => ?_) (hs σ H p)
  cases b with
  | true => exact ⟨_, fun σ' H' ⟨p', l⟩ => ⟨_, l, rfl, p'⟩, q⟩
  | false => exact q
end L2

namespace L2
open PySem PySem.Spec PyProof.Rows

abbrev R2 := V → V → Hp → VK → Prop
/-- a two-place operation on values: f is binaryOp op, inplaceOp op or compareOp op -/
def OpR (X : Cx) (f : Value → Value → Sem Value) (r : R2) : Prop :=
  ∀ (pins : List (Addr × Obj)) (s : Shared) (σ : St) (H : Hp) (x y : V) (v u : Value) (Q : VK), Inv X pins σ H s → RelV x v → RelV y u → r x y H Q →
    wpAny (model X.prog X.w) X.A (f v u) (EP X pins σ Q) X.xe s
/-- a one-place operation -/
def UnR (X : Cx) (f : Value → Sem Value) (r : V → Hp → VK → Prop) : Prop :=
  ∀ (pins : List (Addr × Obj)) (s : Shared) (σ : St) (H : Hp) (x : V) (v : Value) (Q : VK), Inv X pins σ H s → RelV x v → r x H Q →
    wpAny (model X.prog X.w) X.A (f v) (EP X pins σ Q) X.xe s
/-- a call of a value that is known (a builtin, a type) with values -/
def CallR (X : Cx) (f : Value) (r : List V → Hp → VK → Prop) : Prop :=
  ∀ (pins : List (Addr × Obj)) (s : Shared) (σ : St) (H : Hp) (xs : List V) (us : List Value) (Q : VK), Inv X pins σ H s → Vals xs us → r xs H Q →
    wpAny (model X.prog X.w) X.A (call f us) (EP X pins σ Q) X.xe s
def tOp (r : R2) (ta tb : TE) : TE := fun σ H Q => ta σ H fun x H1 => tb σ H1 fun y H2 => r x y H2 Q
def tUn (r : V → Hp → VK → Prop) (ta : TE) : TE := fun σ H Q => ta σ H fun x H1 => r x H1 Q
/-- ints in, under C, and a value out -/
def rI (C : Int → Int → Prop) (g : Int → Int → V) : R2 := fun x y H Q => ∃ i j, x = .int i ∧ y = .int j ∧ C i j ∧ Q (g i j) H
def rI0 (g : Int → Int → V) : R2 := fun x y H Q => ∃ i j, x = .int i ∧ y = .int j ∧ Q (g i j) H
def rU (g : Int → V) : V → Hp → VK → Prop := fun x H Q => ∃ i, x = .int i ∧ Q (g i) H

section
variable {X : Cx} {a b c : Expr} {ta tb tc : TE} {pos : Pos}

theorem binT (ha : PE X a ta) (hb : PE X b tb) {pins : List (Addr × Obj)} {s : Shared} {σ : St} {H : Hp} {R : V → V → Hp → Prop} (I : Inv X pins σ H s)
    (h : ta σ H fun x H1 => tb σ H1 fun y H2 => R x y H2) {Q : Value → Shared → Prop} {f : Value → Value → Sem Value}
    (hf : ∀ v u s2 x y H2, Inv X pins σ H2 s2 → RelV x v → RelV y u → R x y H2 → wpAny (model X.prog X.w) X.A (f v u) Q X.xe s2) :
    wpAny (model X.prog X.w) X.A (eval a X.env) (fun v s₁ => wpAny (model X.prog X.w) X.A (eval b X.env) (fun u s₂ => wpAny (model X.prog X.w) X.A (f v u) Q X.xe s₂) X.xe s₁) X.xe s := by
  refine thn (ha pins s σ H _ I h) fun v s1 ⟨x, H1, I1, r1, q1⟩ => ?_
  refine thn (hb pins s1 σ H1 _ I1 q1) fun u s2 ⟨y, H2, I2, r2, q2⟩ => ?_
  exact hf v u s2 x y H2 I2 r1 r2 q2

theorem pe_op {op : Operator} {r : R2} (ho : OpR X (binaryOp op) r) (ha : PE X a ta) (hb : PE X b tb) : PE X (.BinOp a op b pos) (tOp r ta tb) := by
  intro pins s σ H Q I h
  exact wpAny_BinOp (binT ha hb I h fun v u s2 x y H2 I2 rx ry q => ho pins s2 σ H2 x y v u Q I2 rx ry q)
theorem pe_un {op : UnaryOp} {r : V → Hp → VK → Prop} (ho : UnR X (unaryOp op) r) (ha : PE X a ta) : PE X (.UnaryOp op a pos) (tUn r ta) := by
  intro pins s σ H Q I h
  exact UnaryOp_ (thn (ha pins s σ H _ I h) fun v s1 ⟨x, H1, I1, r1, q1⟩ => ho pins s1 σ H1 x v Q I1 r1 q1)
/-! ### ints -/
theorem opI {f : Value → Value → Sem Value} {C : Int → Int → Prop} {g : Int → Int → Int}
    (rule : ∀ (i j : Int) (t u : Tok) (s : Shared) (Q : Value → Shared → Prop) (E : Value → Shared → Prop), C i j → Q (.int (g i j) s.toks) { s with toks := s.toks + 1 } → wpAny (model X.prog X.w) X.A (f (.int i t) (.int j u)) Q E s) :
    OpR X f (rI C fun i j => .int (g i j)) := by
  intro pins s σ H x y v u Q I rx ry h
  obtain ⟨i, j, rfl, rfl, hc, q⟩ := h
  obtain ⟨t, rfl⟩ := rx
  obtain ⟨t', rfl⟩ := ry
  exact rule i j t t' s _ _ hc ⟨.int (g i j), H, I.tok _, ⟨_, rfl⟩, q⟩
theorem opI0 {f : Value → Value → Sem Value} {g : Int → Int → Int}
    (rule : ∀ (i j : Int) (t u : Tok) (s : Shared) (Q : Value → Shared → Prop) (E : Value → Shared → Prop), Q (.int (g i j) s.toks) { s with toks := s.toks + 1 } → wpAny (model X.prog X.w) X.A (f (.int i t) (.int j u)) Q E s) :
    OpR X f (rI0 fun i j => .int (g i j)) := by
  intro pins s σ H x y v u Q I rx ry h
  obtain ⟨i, j, rfl, rfl, q⟩ := h
  obtain ⟨t, rfl⟩ := rx
  obtain ⟨t', rfl⟩ := ry
  exact rule i j t t' s _ _ ⟨.int (g i j), H, I.tok _, ⟨_, rfl⟩, q⟩
theorem opB0 {f : Value → Value → Sem Value} {g : Int → Int → Bool}
    (rule : ∀ (i j : Int) (t u : Tok) (s : Shared) (Q : Value → Shared → Prop) (E : Value → Shared → Prop), Q (.bool (g i j)) s → wpAny (model X.prog X.w) X.A (f (.int i t) (.int j u)) Q E s) :
    OpR X f (rI0 fun i j => .bl (g i j)) := by
  intro pins s σ H x y v u Q I rx ry h
  obtain ⟨i, j, rfl, rfl, q⟩ := h
  obtain ⟨t, rfl⟩ := rx
  obtain ⟨t', rfl⟩ := ry
  exact rule i j t t' s _ _ ⟨.bl (g i j), H, I, rfl, q⟩

def CDiv (i j : Int) : Prop := 0 < j ∧ j < 1073741824
def CDivN (i j : Int) : Prop := j ≠ 0 ∧ j.natAbs < 1073741824
def CPow (i j : Int) : Prop := 0 ≤ j ∧ j ≤ 1000000 ∧ i.natAbs < 2 ^ 64
def CMul (i j : Int) : Prop := (-(2 ^ 64) < i ∧ i < 2 ^ 64) ∨ (-(2 ^ 64) < j ∧ j < 2 ^ 64)
theorem CMul.ok {i j : Int} (h : CMul i j) : IntMulOk i j := by
  rcases h with ⟨h1, h2⟩ | ⟨h1, h2⟩
  · exact .of_left (intBits_le_64 h1 h2)
  · exact .of_right (intBits_le_64 h1 h2)
theorem op_add : OpR X (binaryOp .Add) (rI0 fun i j => .int (i + j)) := opI0 fun _ _ _ _ _ _ _ q => add_int q
theorem op_sub : OpR X (binaryOp .Sub) (rI0 fun i j => .int (i - j)) := opI0 fun _ _ _ _ _ _ _ q => sub_int q
theorem op_mul : OpR X (binaryOp .Mult) (rI CMul fun i j => .int (i * j)) := opI fun _ _ _ _ _ _ _ hc q => mul_int q hc.ok
/-- // by a positive divisor -/
theorem op_fdiv : OpR X (binaryOp .FloorDiv) (rI CDiv fun i j => .int (i / j)) := opI fun i j _ _ _ _ _ hc q => by
  have h1 : (0 : Int) < j := hc.1
  have h2 : j < 1073741824 := hc.2
  exact floordiv_int (by omega) (by rw [Int.fdiv_eq_ediv_of_nonneg i (by omega)]; exact q) (.inl (PyProof.noPylong_small (by omega)))
theorem op_fdivN : OpR X (binaryOp .FloorDiv) (rI CDivN fun i j => .int (i.fdiv j)) := opI fun _ _ _ _ _ _ _ hc q => floordiv_int hc.1 q (.inl (PyProof.noPylong_small hc.2))
/-- % by a positive divisor of any size -/
theorem op_mod : OpR X (binaryOp .Mod) (rI (fun _ j => 0 < j) fun i j => .int (i % j)) := opI fun i j _ _ _ _ _ hc q => by
  have h1 : (0 : Int) < j := hc
  exact mod_int' (by omega) (by rw [Int.fmod_eq_emod_of_nonneg i (by omega)]; exact q)
theorem op_pow : OpR X (binaryOp .Pow) (rI CPow fun i j => .int (i ^ j.toNat)) := opI fun _ _ _ _ _ _ _ hc q => pow_int_small hc.1 hc.2.1 hc.2.2 q
theorem unI {f : Value → Sem Value} {g : Int → Int}
    (rule : ∀ (i : Int) (t : Tok) (s : Shared) (Q : Value → Shared → Prop) (E : Value → Shared → Prop), Q (.int (g i) s.toks) { s with toks := s.toks + 1 } → wpAny (model X.prog X.w) X.A (f (.int i t)) Q E s) :
    UnR X f (rU fun i => .int (g i)) := by
  intro pins s σ H x v Q I rx h
  obtain ⟨i, rfl, q⟩ := h
  obtain ⟨t, rfl⟩ := rx
  exact rule i t s _ _ ⟨.int (g i), H, I.tok _, ⟨_, rfl⟩, q⟩
theorem un_neg : UnR X (unaryOp .USub) (rU fun i => .int (-i)) := unI fun _ _ _ _ _ q => neg_int q
/-! ### bools among ints: n += (a < b) -/
end

/-! ### comparisons -/
/-- the scalars that == tells apart as data does -/
def scal : V → V → Bool
  | .non, .non => true | .non, .int _ => true | .int _, .non => true | .non, .bl _ => true | .bl _, .non => true | .non, .str _ => true | .str _, .non => true
  | .int _, .int _ => true | .bl _, .bl _ => true | .str _, .str _ => true | .byt _, .byt _ => true
  | .int _, .str _ => true | .str _, .int _ => true | .bl _, .str _ => true | .str _, .bl _ => true
  | _, _ => false
def rEq : R2 := fun x y H Q => scal x y = true ∧ Q (.bl (decide (x = y))) H
def rNe : R2 := fun x y H Q => scal x y = true ∧ Q (.bl (!decide (x = y))) H

theorem dec_int {i j : Int} : decide (V.int i = V.int j) = (i == j) := by
  rw [Bool.eq_iff_iff]
  simp
theorem dec_bl {i j : Bool} : decide (V.bl i = V.bl j) = (i == j) := by
  rw [Bool.eq_iff_iff]
  simp
theorem dec_str {i j : Str} : decide (V.str i = V.str j) = (i == j) := by
  rw [Bool.eq_iff_iff]
  simp
theorem dec_byt {i j : Array UInt8} : decide (V.byt i = V.byt j) = (i.toList == j.toList) := by
  rw [Bool.eq_iff_iff]
  cases i
  cases j
  simp

section
variable {X : Cx} {a b c : Expr} {ta tb tc : TE} {pos : Pos}
theorem fin_bl {pins : List (Addr × Obj)} {σ : St} {H : Hp} {s : Shared} {Q : VK} {k k' : Bool} (I : Inv X pins σ H s) (q : Q (.bl k) H) (e : k = k') : EP X pins σ Q (.bool k') s := by
  subst e
  exact ⟨.bl k, H, I, rfl, q⟩
theorem op_eq : OpR X (compareOp .Eq) rEq := by
  intro pins s σ H x y v u Q I rx ry h
  obtain ⟨hs, q⟩ := h
  cases x with
  | non =>
    cases rx
    cases y with
    | non => cases ry; exact PySem.EqNone.eq_none_none (fin_bl I q (by simp))
    | bl j => cases ry; exact PySem.EqNone.eq_none_bool (fin_bl I q (by simp))
    | int j => obtain ⟨t', rfl⟩ := ry; exact PySem.EqNone.eq_none_int (fin_bl I q (by simp))
    | str j => obtain ⟨t', rfl⟩ := ry; exact PySem.EqNone.eq_none_str (fin_bl I q (by simp))
    | _ => exact absurd (show false = true from hs) Bool.false_ne_true
  | bl i =>
    cases rx
    cases y with
    | non => cases ry; exact PySem.EqNone.eq_bool_none (fin_bl I q (by simp))
    | bl j => cases ry; exact eq_bool (fin_bl I q dec_bl)
    | str j => obtain ⟨t', rfl⟩ := ry; exact PySem.EqMixed.eq_bool_str (fin_bl I q (by simp))
    | _ => exact absurd (show false = true from hs) Bool.false_ne_true
  | int i =>
    obtain ⟨t, rfl⟩ := rx
    cases y with
    | non => cases ry; exact PySem.EqNone.eq_int_none (fin_bl I q (by simp))
    | int j => obtain ⟨t', rfl⟩ := ry; exact eq_int (fin_bl I q dec_int)
    | str j => obtain ⟨t', rfl⟩ := ry; exact PySem.EqMixed.eq_int_str (fin_bl I q (by simp))
    | _ => exact absurd (show false = true from hs) Bool.false_ne_true
  | str i =>
    obtain ⟨t, rfl⟩ := rx
    cases y with
    | non => cases ry; exact PySem.EqNone.eq_str_none (fin_bl I q (by simp))
    | bl j => cases ry; exact PySem.EqMixed.eq_str_bool (fin_bl I q (by simp))
    | int j => obtain ⟨t', rfl⟩ := ry; exact PySem.EqMixed.eq_str_int (fin_bl I q (by simp))
    | str j => obtain ⟨t', rfl⟩ := ry; exact eq_str (fin_bl I q dec_str)
    | _ => exact absurd (show false = true from hs) Bool.false_ne_true
  | byt i =>
    obtain ⟨t, rfl⟩ := rx
    cases y with
    | byt j => obtain ⟨t', rfl⟩ := ry; exact PySem.W.eq_bytes (fin_bl I q dec_byt)
    | _ => exact absurd (show false = true from hs) Bool.false_ne_true
  | _ => cases y <;> exact absurd (show false = true from hs) Bool.false_ne_true
theorem op_ne : OpR X (compareOp .NotEq) rNe := by
  intro pins s σ H x y v u Q I rx ry h
  obtain ⟨hs, q⟩ := h
  cases x with
  | non =>
    cases rx
    cases y with
    | non => cases ry; exact PySem.EqNone.ne_none_none (fin_bl I q (by simp))
    | bl j => cases ry; exact PySem.EqNone.ne_none_bool (fin_bl I q (by simp))
    | int j => obtain ⟨t', rfl⟩ := ry; exact PySem.EqNone.ne_none_int (fin_bl I q (by simp))
    | str j => obtain ⟨t', rfl⟩ := ry; exact PySem.EqNone.ne_none_str (fin_bl I q (by simp))
    | _ => exact absurd (show false = true from hs) Bool.false_ne_true
  | bl i =>
    cases rx
    cases y with
    | non => cases ry; exact PySem.EqNone.ne_bool_none (fin_bl I q (by simp))
    | bl j => cases ry; exact ne_bool (fin_bl I q (congrArg not dec_bl))
    | str j => obtain ⟨t', rfl⟩ := ry; exact PySem.EqMixed.ne_bool_str (fin_bl I q (by simp))
    | _ => exact absurd (show false = true from hs) Bool.false_ne_true
  | int i =>
    obtain ⟨t, rfl⟩ := rx
    cases y with
    | non => cases ry; exact PySem.EqNone.ne_int_none (fin_bl I q (by simp))
    | int j => obtain ⟨t', rfl⟩ := ry; exact ne_int (fin_bl I q (congrArg not dec_int))
    | str j => obtain ⟨t', rfl⟩ := ry; exact PySem.EqMixed.ne_int_str (fin_bl I q (by simp))
    | _ => exact absurd (show false = true from hs) Bool.false_ne_true
  | str i =>
    obtain ⟨t, rfl⟩ := rx
    cases y with
    | non => cases ry; exact PySem.EqNone.ne_str_none (fin_bl I q (by simp))
    | bl j => cases ry; exact PySem.EqMixed.ne_str_bool (fin_bl I q (by simp))
    | int j => obtain ⟨t', rfl⟩ := ry; exact PySem.EqMixed.ne_str_int (fin_bl I q (by simp))
    | str j => obtain ⟨t', rfl⟩ := ry; exact ne_str (fin_bl I q (congrArg not dec_str))
    | _ => exact absurd (show false = true from hs) Bool.false_ne_true
  | byt i =>
    obtain ⟨t, rfl⟩ := rx
    cases y with
    | byt j => obtain ⟨t', rfl⟩ := ry; exact PySem.W.ne_bytes (fin_bl I q (congrArg not dec_byt))
    | _ => exact absurd (show false = true from hs) Bool.false_ne_true
  | _ => cases y <;> exact absurd (show false = true from hs) Bool.false_ne_true

theorem op_lt : OpR X (compareOp .Lt) (rI0 fun i j => .bl (decide (i < j))) := opB0 fun _ _ _ _ _ _ _ q => lt_int q
theorem op_le : OpR X (compareOp .LtE) (rI0 fun i j => .bl (decide (i ≤ j))) := opB0 fun _ _ _ _ _ _ _ q => le_int q
theorem op_gt : OpR X (compareOp .Gt) (rI0 fun i j => .bl (decide (j < i))) := opB0 fun _ _ _ _ _ _ _ q => gt_int q
theorem nomark (b : Expr) {op : CmpOp} (h : op ≠ .In := by decide) (h2 : op ≠ .NotIn := by decide) : behindInMarks op b = false := by
  have e1 : (op == CmpOp.In) = false := by cases op <;> first | rfl | exact absurd rfl h
  have e2 : (op == CmpOp.NotIn) = false := by cases op <;> first | rfl | exact absurd rfl h2
  cases b <;> simp [behindInMarks, e1, e2]
/-- a comparison as a value; hm: nomark b, or (for in, not in) by with_unfolding_all rfl -/
theorem pe_cmpR {op : CmpOp} {r : R2} (ho : OpR X (compareOp op) r) (ha : PE X a ta) (hb : PE X b tb) (hm : behindInMarks op b = false) : PE X (.Compare a [op] [b] pos) (tOp r ta tb) := by
  intro pins s σ H Q I h
  exact wpAny_Compare1 (binT ha hb I h fun v u s2 x y H2 I2 rx ry q => ho pins s2 σ H2 x y v u Q I2 rx ry q) hm
/-- a reading of a value as a test -/
def tTest (t : TE) : TT := fun σ H Q => t σ H fun x H' => ∃ k, x = .bl k ∧ Q k H'
theorem pt_cmpR {op : CmpOp} {r : R2} (ho : OpR X (compareOp op) r) (ha : PE X a ta) (hb : PE X b tb) (hm : behindInMarks op b = false) : PT X (.Compare a [op] [b] pos) (tTest (tOp r ta tb)) := by
  intro pins s σ H Q I h
  refine wpAny_isTrue_Compare1 (thn (ha pins s σ H _ I h) fun v s1 ⟨x, H1, I1, r1, q1⟩ => thn (hb pins s1 σ H1 _ I1 q1) fun u s2 ⟨y, H2, I2, r2, q2⟩ =>
    thn (ho pins s2 σ H2 x y v u _ I2 r1 r2 q2) fun c s3 ⟨z, H3, I3, r3, k, e, q3⟩ => ?_) hm
  subst e
  cases r3
  exact wpAny_truthy_bool ⟨H3, I3, q3⟩
/-- a op1 b op2 c -/
def tChain (r r' : R2) (ta tb tc : TE) : TE := fun σ H Q => ta σ H fun x H1 => tb σ H1 fun y H2 => r x y H2 fun z H3 => ∃ k, z = .bl k ∧
  (if k = true then tc σ H3 fun w' H4 => r' y w' H4 Q else Q (.bl false) H3)
theorem pt_chain {op op' : CmpOp} {r r' : R2} (ho : OpR X (compareOp op) r) (ho' : OpR X (compareOp op') r') (ha : PE X a ta) (hb : PE X b tb) (hc : PE X c tc)
    (hm : lastMarks [op, op'] [b, c] = false := by with_unfolding_all rfl) : PT X (.Compare a [op, op'] [b, c] pos) (tTest (tChain r r' ta tb tc)) := by
  intro pins s σ H Q I h
  refine isTrue_chain (thn (ha pins s σ H _ I h) fun v s1 ⟨x, H1, I1, r1, q1⟩ => test_link (thn (hb pins s1 σ H1 _ I1 q1) fun u s2 ⟨y, H2, I2, r2, q2⟩ =>
    thn (ho pins s2 σ H2 x y v u _ I2 r1 r2 q2) fun d s3 ⟨z, H3, I3, r3, k, e, q3⟩ => ?_)) hm
  subst e
  cases r3
  refine wpAny_truthy_bool ?_
  cases k with
  | false =>
    obtain ⟨k', e', q'⟩ := q3
    cases e'
    exact ite_ff ⟨H3, I3, q'⟩
  | true =>
    refine ite_tt (test_last (thn (hc pins s3 σ H3 _ I3 q3) fun w' s4 ⟨z', H4, I4, r4, q4⟩ => thn (ho' pins s4 σ H4 y z' u w' _ I4 r2 r4 q4) fun d' s5 ⟨z2, H5, I5, r5, k2, e2, q5⟩ => ?_))
    subst e2
    cases r5
    exact wpAny_truthy_bool ⟨H5, I5, q5⟩

/-! ### truth -/
theorem line63 : (sizeLine : Nat) < 2 ^ 63 := by rw [sizeLine_eq]; decide
/-! ### strs and bytes -/
/-! ### scalar builtins, by CallR -/
theorem vals1 {x : V} {us : List Value} (r : Vals [x] us) : ∃ u, us = [u] ∧ RelV x u := by
  cases r with
  | cons r1 r2 => cases r2; exact ⟨_, rfl, r1⟩
theorem vals2 {x y : V} {us : List Value} (r : Vals [x, y] us) : ∃ u w', us = [u, w'] ∧ RelV x u ∧ RelV y w' := by
  cases r with
  | cons r1 r2 =>
    cases r2 with
    | cons r3 r4 => cases r4; exact ⟨_, _, rfl, r1, r3⟩
theorem call_abs : CallR X (.builtin "abs") (fun xs H Q => ∃ i, xs = [.int i] ∧ Q (.int (if i < 0 then -i else i)) H) := by
  intro pins s σ H xs us Q I r h
  obtain ⟨i, rfl, q⟩ := h
  obtain ⟨u, rfl, t, rfl⟩ := vals1 r
  exact call_abs_int fun u tk => ⟨.int (if i < 0 then -i else i), H, I.tok _, ⟨_, rfl⟩, q⟩
end
end L2

namespace L2
open PySem PySem.Spec PyProof.Rows

/-! ### an instance, its attributes a map -/
structure ObjM (h : Heap) (x dx C : Addr) (mA : Str → Option Value) : Prop where
  obj : h.get? x = some (PySem.W.instObj C dx)
  ns : h.Ns1 dx mA
  ne : dx ≠ x

theorem lookIn_ns {h : Heap} {dx : Addr} {mA : Str → Option Value} (n : h.Ns1 dx mA) : ∃ od, h.get? dx = some od ∧ ∀ name, PySem.W.lookIn name od = some (mA name) := by
  obtain ⟨o, es, ep, ho, hd, hk, _, hm⟩ := n
  refine ⟨o, ho, fun name => ?_⟩
  have e := hm name
  unfold nsFind findBy at e
  rw [← Array.find?_toList] at e
  unfold PySem.W.lookIn
  rw [hd]
  dsimp only
  split
  · rename_i y q
    rw [q] at e
    exact congrArg some e
  · rename_i q
    rw [q] at e
    have a : es.toList.any (·.refKey) = false := by
      rw [List.any_eq_false]
      intro y hy
      obtain ⟨z, t, hkey⟩ := hk y (Array.mem_toList_iff.mp hy)
      simp [DictEntry.refKey, hkey]
    have a' : ¬ es.toList.any (·.refKey) = true := by rw [a]; exact Bool.false_ne_true
    rw [if_neg a']
    exact congrArg some e

theorem ObjM.look {h : Heap} {x dx C : Addr} {mA : Str → Option Value} (I : ObjM h x dx C mA) : ∃ od, PySem.W.InstAt h x (PySem.W.instObj C dx) C (some od) ∧ ∀ name, PySem.W.lookIn name od = some (mA name) :=
  let ⟨od, ho, hl⟩ := lookIn_ns I.ns
  ⟨od, ⟨I.obj, rfl, rfl, ho⟩, hl⟩

section
variable {prog : Program} {w : World} {A : Around} {E : Value → Shared → Prop} {s : Shared} {K : PySem.W.Frag} {x dx C f : Addr} {mA : Str → Option Value} {name : Str} {v : Value}

end

/-! ### the attributes as a list of pairs -/
section
variable {P : Program} {w : World} {H H' : Hp} {h h' : Heap} {a C dx : Addr} {fs fs' : List (Str × V)}
theorem ins_get (hok : HOk P w H h) (e : H a = some (.ins C dx fs)) : ∃ mA, ObjM h a dx C mA ∧ (∀ f, RelO (fs.lookup f) (mA f)) ∧ PySem.Within mA (fs.map (·.1)) ∧ fs.length ≤ 1000 ∧ H dx = some (.own a) := by
  obtain ⟨d, z, ne, ob, mA, n, r, q⟩ := (show ObjOk P w H h a (.ins C dx fs) from hok a _ e)
  exact ⟨mA, ⟨ob, n, ne⟩, r, q, z, d⟩
end

/-! ### what of the text a class must have -/
structure Cls (K : PySem.W.Frag) (C : Addr) : Prop where
  pg : PySem.W.plainGet K C Str.empty = true
  hd : PySem.W.hasDictIn K C = true
  po : PySem.W.plainOver K C = true
  sa : PySem.W.findIn K (.ref C) "__setattr__" = some (some (.builtin "object.__setattr__"))
theorem Cls.get {K : PySem.W.Frag} {C : Addr} (c : Cls K C) (f : Str) : PySem.W.plainGet K C f = true := c.pg
section
variable {X : Cx} {pins : List (Addr × Obj)} {σ : St} {H : Hp} {s : Shared} {a C dx : Addr} {fs : List (Str × V)} {f : Str} {v : V} {A : Around} {E : Value → Shared → Prop}

end

/-! ### readings and rules -/
section
variable {X : Cx} {o e value : Expr} {f : Str} {pos pos' tpos : Pos} {ta tv : TE}
end

/-! ### isinstance -/
section
variable {X : Cx} {pins : List (Addr × Obj)} {σ : St} {H : Hp} {s : Shared} {A : Around} {E : Value → Shared → Prop} {Q : Value → Shared → Prop} {c : Value} {b : Bool}
/-- the type of a value, as the fragment's deciders take it; for an instance its class -/
inductive TyOf (K : PySem.W.Frag) (H : Hp) : V → Value → Prop where
  | non : TyOf K H .non (.type "NoneType")
  | bl (x : Bool) : TyOf K H (.bl x) (.type "bool")
  | int (i : Int) : TyOf K H (.int i) (.type "int")
  | str (x : Str) : TyOf K H (.str x) (.type "str")
  | flt (x : UInt64) : TyOf K H (.flt x) (.type "float")
  | lst {a : Addr} {xs : List V} (e : H a = some (.lst xs)) : TyOf K H (.ref a) (.type "list")
  | frz {a : Addr} {o : Obj} {xs : List V} (e : H a = some (.frz o (.lst xs))) : TyOf K H (.ref a) (.type "list")
  | tup {a : Addr} {xs : List V} (e : H a = some (.tup xs)) : TyOf K H (.ref a) (.type "tuple")
  | dK {a : Addr} {kvs : List (Key × V)} (e : H a = some (.dK kvs)) : TyOf K H (.ref a) (.type "dict")
  | dT {a : Addr} {kvs : List (List Key × V)} (e : H a = some (.dT kvs)) : TyOf K H (.ref a) (.type "dict")
  | ins {a C dx : Addr} {fs : List (Str × V)} (e : H a = some (.ins C dx fs)) (cl : Cls K C) (ha : PySem.W.findIn K (.ref C) "__class__" = some (some (.builtin "object.__class__")))
      (hn : PySem.W.specialIn K (.builtin "object.__class__") "__get__" = some (some (.builtin "getset_descriptor.__get__"))) (htk : PySem.W.takesIn K (.builtin "object.__class__") = some true)
      (hm : PySem.W.mroIn K C (.type "object") = some true) : TyOf K H (.ref a) (.ref C)
/-- isinstance(x, c) for one class c, a built-in or an own one: kitOne's answer -/
theorem isinst_ok {x : V} {u t : Value} (I : Inv X pins σ H s) (rx : RelV x u) (ty : TyOf X.K H x t) (e : PySem.W.kitOne X.K t c = some b) (h : ∀ tk, Q (.bool b) { s with toks := tk }) :
    wpAny (model X.prog X.w) A (call (.builtin "isinstance") [u, c]) Q E s := by
  cases ty with
  | non => cases (show u = Value.none from rx); exact PySem.W.kia_one PySem.W.kitx_none I.kIn True.intro e (fun z => nomatch z) h
  | bl y => cases (show u = Value.bool y from rx); exact PySem.W.kia_one PySem.W.kitx_bool I.kIn True.intro e (fun z => nomatch z) h
  | int i => obtain ⟨t, q⟩ := (show ∃ t, u = Value.int i t from rx); cases q; exact PySem.W.kia_one PySem.W.kitx_int I.kIn True.intro e (fun z => nomatch z) h
  | str y => obtain ⟨t, q⟩ := (show ∃ t, u = Value.str y t from rx); cases q; exact PySem.W.kia_one PySem.W.kitx_str I.kIn True.intro e (fun z => nomatch z) h
  | flt y => obtain ⟨t, q⟩ := (show ∃ t, u = Value.float y t from rx); cases q; exact PySem.W.kia_one PySem.W.kitx_float I.kIn True.intro e (fun z => nomatch z) h
  | @lst a xs ea =>
    cases (show u = Value.ref a from rx)
    obtain ⟨_, _, n, _, h1⟩ := (show ObjOk X.prog X.w H s.heap a (.lst xs) from I.hok a _ ea)
    exact PySem.W.kia_one PySem.W.kitx_list I.kIn ⟨_, h1, rfl⟩ e (fun z => nomatch z) h
  | @frz a ob xs ea =>
    cases (show u = Value.ref a from rx)
    obtain ⟨_, _, _, n, _, h1⟩ := (show ObjOk X.prog X.w H s.heap a (.frz ob (.lst xs)) from I.hok a _ ea)
    exact PySem.W.kia_one PySem.W.kitx_list I.kIn ⟨_, h1, rfl⟩ e (fun z => nomatch z) h
  | @tup a xs ea =>
    cases (show u = Value.ref a from rx)
    obtain ⟨_, _, _, p⟩ := (show ObjOk X.prog X.w H s.heap a (.tup xs) from I.hok a _ ea)
    obtain ⟨o, h1, h2, _⟩ := p
    exact PySem.W.kia_one PySem.W.kitx_tuple I.kIn ⟨o, h1, h2⟩ e (fun z => nomatch z) h
  | @dK a kvs ea =>
    cases (show u = Value.ref a from rx)
    obtain ⟨_, _, vs, _, p⟩ := (show ObjOk X.prog X.w H s.heap a (.dK kvs) from I.hok a _ ea)
    obtain ⟨o, es, ep, h1, h2, _⟩ := p
    exact PySem.W.kia_one PySem.W.kitx_dict I.kIn ⟨o, h1, h2.1⟩ e (fun z => nomatch z) h
  | @dT a kvs ea =>
    cases (show u = Value.ref a from rx)
    obtain ⟨_, _, xs, _, o, es, ep, h1, h2, _⟩ := (show ObjOk X.prog X.w H s.heap a (.dT kvs) from I.hok a _ ea)
    exact PySem.W.kia_one PySem.W.kitx_dict I.kIn ⟨o, h1, h2.1⟩ e (fun z => nomatch z) h
  | @ins a C dx fs ea cl ha hn htk hm =>
    cases (show u = Value.ref a from rx)
    obtain ⟨mA, O, _⟩ := ins_get I.hok ea
    obtain ⟨od, J, _⟩ := O.look
    exact PySem.W.kia_one (PySem.W.kitx_own (cl.get _) cl.hd ha hn htk hm) I.kIn J e (fun z => nomatch z) h
end
end L2

namespace L2
open PySem PySem.Spec PyProof.Rows

/-! ### room -/
structure Room (k : Nat) (A : Around) : Prop where
  hd : A.handled = none
  dp : A.depth + 3 * k + 5 < recursionLimit
  un : A.units + 16 * k + 200 < cLine
theorem Room.mono {j k : Nat} {A : Around} (r : Room k A) (h : j ≤ k) : Room j A := ⟨r.hd, by have := r.dp; omega, by have := r.un; omega⟩
theorem Room.deeper {k : Nat} {A : Around} (r : Room (k + 1) A) (env : Env) : Room k (A.deeper env) :=
  ⟨r.hd, by have := r.dp; show A.depth + 1 + 3 * k + 5 < _; omega, by have := r.un; show A.units + 3 + 16 * k + 200 < _; omega⟩
theorem Room.depth {k : Nat} {A : Around} (r : Room k A) : A.depth < recursionLimit := by have := r.dp; omega
theorem Room.units {k : Nat} {A : Around} (r : Room k A) : A.units + 64 < cLine := by have := r.un; omega
/-! ### argument lists and displays -/
def tNil : TA := fun _ H Q => Q [] H
def tCons (ta : TE) (tr : TA) : TA := fun σ H Q => ta σ H fun x H1 => tr σ H1 fun xs H2 => Q (x :: xs) H2
section
variable {X : Cx} {e : Expr} {es : List Expr} {te : TE} {t : TA} {pos : Pos}
theorem pa_nil : PA X [] tNil := fun _ _ _ _ H Q I h => Calls.spliced_nil ⟨[], H, I, .nil, h⟩
theorem pa_cons (ha : PE X e te) (hr : PA X es t) (hs : starEach (e :: es) X.env = (false, eval e X.env) :: starEach es X.env := by rfl) : PA X (e :: es) (tCons te t) := by
  intro pos pins s σ H Q I h
  rw [hs]
  show wpAny _ _ (spliced ((false, eval e X.env) :: backTo pos (starEach es X.env))) _ _ s
  refine Calls.spliced_cons (thn (ha pins s σ H _ I h) fun u s1 ⟨x, H1, I1, r1, q1⟩ => ?_)
  exact thn (hr pos pins s1 σ H1 _ I1 q1) fun us s2 ⟨xs, H2, I2, r2, q2⟩ => ⟨x :: xs, H2, I2, .cons r1 r2, q2⟩

/-- a tuple, a list of written items -/
def tTup (t : TA) : TE := fun σ H Q => t σ H fun xs H1 => xs.length ≤ sizeLine ∧ ∀ p, H1 p = none → Q (.ref p) (upd H1 p (.tup xs))
def tLst (t : TA) : TE := fun σ H Q => t σ H fun xs H1 => xs.length ≤ sizeLine ∧ ∀ p, H1 p = none → Q (.ref p) (upd H1 p (.lst xs))
theorem pe_tup {x1} (h : PA X es t) : PE X (.Tuple es x1 pos) (tTup t) := by
  intro pins s σ H Q I hq
  refine wpAny_Tuple_spliced (thn (h pos pins s σ H _ I hq) fun us s1 ⟨xs, H1, I1, r, z, q⟩ => ⟨by rw [← r.length]; exact z, ?_⟩)
  have hf : H1 s1.heap.objs.size = none := I1.hok.fresh (Nat.le_refl _)
  refine ⟨.ref s1.heap.objs.size, upd H1 s1.heap.objs.size (.tup xs), I1.laid (t' := s1.toks) (fun b u e => Heap.get?_push_of_some _ e) (Nat.le_refl _) ?_, rfl, q _ hf⟩
  exact ⟨z, us, r, ⟨_, Heap.get?_push_size _ rfl, rfl, _, rfl⟩⟩
theorem pe_lst (h : PA X es t) : PE X (.List es pos) (tLst t) := by
  intro pins s σ H Q I hq
  refine wpAny_List_spliced (thn (h pos pins s σ H _ I hq) fun us s1 ⟨xs, H1, I1, r, z, q⟩ => ⟨by rw [← r.length]; exact z, ?_⟩)
  have hf : H1 s1.heap.objs.size = none := I1.hok.fresh (Nat.le_refl _)
  refine ⟨.ref s1.heap.objs.size, upd H1 s1.heap.objs.size (.lst xs), I1.laid (t' := s1.toks) (fun b u e => Heap.get?_push_of_some _ e) (Nat.le_refl _) ?_, rfl, q _ hf⟩
  exact ⟨z, us, 0, r, Heap.get?_push_size _ rfl⟩
end

/-! ### what a def promises -/
/-- a def's promise: the bound arguments in the parameters' order, the heap, the wanted end, the wanted exception -/
abbrev Sp := List V → Hp → VK → XK → Prop
/-- how an exception lies behind a call (file 08 gives it): the callers' frames, abstract heap and state ahead of the call, the wish, the exception, the state -/
abbrev CXT := List Env → Hp → Shared → XK → Value → Shared → Prop

/-- the state at a call -/
structure Env0 (P : Program) (w : World) (K : PySem.W.Frag) (mg : Str → Option Value) (base : Heap) (A : Around) (outer : List Env) (s : Shared) (H : Hp) : Prop where
  frames : A.frames = some outer
  mod : Mod K mg base
  bs : ∀ b o, base.get? b = some o → s.heap.get? b = some o ∧ H b = none
  bsz : base.objs.size ≤ s.heap.objs.size
  funs : s.heap.FunFrames base outer
  frf : ∀ b ∈ frs outer, H b = none
  hok : HOk P w H s.heap
  bare : AllBare s.gens
/-- a call's end -/
def CE (outer : List Env) (P : Program) (w : World) (H : Hp) (s : Shared) (Q : VK) (u : Value) (s' : Shared) : Prop :=
  ∃ v H', s'.os = s.os ∧ AllBare s'.gens ∧ Un (frs outer) [] H H' s.heap s'.heap ∧ HOk P w H' s'.heap ∧ RelV v u ∧ Q v H'
def CR (CX : CXT) (outer : List Env) (P : Program) (w : World) (H : Hp) (s : Shared) (Q : VK) (E : XK) (r : Result) (s' : Shared) : Prop :=
  match r with
  | .ok (.ret u) => CE outer P w H s Q u s'
  | .ok _ => False
  | .error e => CX outer H s E e s'
structure FnOk (P : Program) (w : World) (K : PySem.W.Frag) (mg : Str → Option Value) (base : Heap) (CX : CXT) (k : Nat) (f : Addr) (fd : FuncData) (ps : List Str) (sp : Sp) : Prop where
  len : ∀ vs H Q E, sp vs H Q E → vs.length = ps.length
  run : ∀ (A : Around) (outer : List Env) (s : Shared) (H : Hp) (args : Args) (us : List Value) (vs : List V) (Q : VK) (E : XK), Room k A → Env0 P w K mg base A outer s H → BindsTo s fd args (ps.zip us) → Vals vs us → sp vs H Q E →
    codeAny (model P w) A (.call (.ref f) args) (CR CX outer P w H s Q E) s
section
variable {X : Cx} {pins : List (Addr × Obj)} {σ : St} {H : Hp} {s s' : Shared}
/-- from a body: what a callee wants -/
theorem Inv.env0 (I : Inv X pins σ H s) : Env0 X.prog X.w X.K X.mg X.base X.A X.stack s H :=
  ⟨I.ok.frames, I.ok.mod, I.bs, Nat.le_trans I.ok.bsz I.sz, I.stack, I.stkFree, I.hok, I.bare⟩
/-- behind a call -/
theorem Inv.after {Q : VK} {u : Value} (I : Inv X pins σ H s) (h : CE X.stack X.prog X.w H s Q u s') : EP X pins σ Q u s' := by
  obtain ⟨v, H', os, bare, un, hok, r, q⟩ := h
  obtain ⟨hh, g, d, t, os'⟩ := s'
  obtain rfl : os' = s.os := os
  exact ⟨v, H', I.call (h' := hh) (g' := g) (d' := d) (t' := t) (ch := []) un hok bare (fun b z => absurd z (by simp)), r, q⟩
end

/-! ### calls -/
/-- f(..): the written arguments, then the defaults dvs; E: what is wanted of an exception -/
def tCall (sp : Sp) (dvs : List V) (E : XK) (t : TA) : TE := fun σ H Q => t σ H fun vs H1 => sp (vs ++ dvs) H1 Q E
/-- how the parameters are bound: us the positional arguments, kw the keywords' values by name, ds the defaults that fill up -/
def Binds (K : PySem.W.Frag) (fd : FuncData) (ps : List Str) (ds : List Value) : Prop :=
  ∀ (s : Shared) (us : List Value), K.In s.heap → (us ++ ds).length = ps.length → BindsTo s fd ⟨us, []⟩ (ps.zip (us ++ ds))
/-- every parameter is given -/
theorem Binds.all {K : PySem.W.Frag} {fd : FuncData} {ps : List Str} (h : ∀ us : List Value, us.length = ps.length → bindArgs fd ⟨us, []⟩ = pure (ps.zip us)) : Binds K fd ps [] := fun s us _ hl => by
  rw [List.append_nil] at hl ⊢
  exact .of_eq (h us hl)

/-- an exception of a callee reaches what this body wants of exceptions -/
def Passes (CX : CXT) (X : Cx) (E : XK) : Prop := ∀ (pins : List (Addr × Obj)) (σ : St) (H : Hp) (s : Shared) (e : Value) (s' : Shared), Inv X pins σ H s → CX X.stack H s E e s' → X.xe e s'

section
variable {X : Cx} {CX : CXT} {k : Nat} {f C : Addr} {fd : FuncData} {ps : List Str} {sp : Sp} {dvs : List V} {ds : List Value} {E : XK} {x m : Str} {p pos apos : Pos} {e o : Expr} {es : List Expr} {ta : TE} {t : TA}

/-- the callee runs -/
theorem run_fn {pins : List (Addr × Obj)} {σ : St} {H : Hp} {s : Shared} {Q : VK} {us : List Value} {vs : List V} (F : FnOk X.prog X.w X.K X.mg X.base CX k f fd ps sp) (hr : Room k X.A) (hb : Binds X.K fd ps ds) (hd : Vals dvs ds) (hx : Passes CX X E)
    (I : Inv X pins σ H s) (r : Vals vs us) (h : sp (vs ++ dvs) H Q E) : wpAny (model X.prog X.w) X.A (call (.ref f) us) (EP X pins σ Q) X.xe s := by
  have r2 : Vals (vs ++ dvs) (us ++ ds) := r.append hd
  have hl : (us ++ ds).length = ps.length := by rw [← r2.length]; exact F.len _ _ _ _ h
  refine wpAny_call (codeAny_mono (F.run X.A X.stack s H ⟨us, []⟩ (us ++ ds) (vs ++ dvs) Q E hr I.env0 (hb s us I.kIn hl) r2 h) fun r s' hq => ?_)
  cases r with
  | error e => exact hx pins σ H s e s' I hq
  | ok fl =>
    cases fl with
    | ret u => exact I.after hq
    | next => exact False.elim hq
    | brk => exact False.elim hq
    | cont => exact False.elim hq

theorem pe_call (F : FnOk X.prog X.w X.K X.mg X.base CX k f fd ps sp) (hr : Room k X.A) (hg : Gl X x) (hm : X.mg x = some (.ref f)) (hk : PySem.W.keepIn X.K (.ref f) = true) (hb : Binds X.K fd ps ds) (hd : Vals dvs ds) (hx : Passes CX X E)
    (ha : PA X (e :: es) t) (hdb : (x == ("__debug__" : Str)) = false := by decide) (he : starEach (e :: es) X.env = (false, eval e X.env) :: starEach es X.env := by rfl) (hpl : (backTo pos (starEach es X.env)).any (·.1) = false := by rfl) :
    PE X (.Call (.Name x p) (e :: es) [] pos) (tCall sp dvs E t) := by
  intro pins s σ H Q I h
  refine wpAny_Call_Name_kw (ld_glob I hg hm ?_ hdb)
  refine PySem.W.callWith_K (h₀ := X.base) I.ok.mod.kin hk (thn (ha pos pins s σ H _ I h) fun us s1 ⟨vs, H1, I1, r, q⟩ => ⟨I1.kIn, ?_⟩) he hpl
  exact run_fn F hr hb hd hx I1 r q
end

/-! ### keywords -/
section
variable {X : Cx} {CX : CXT} {k : Nat} {f C : Addr} {fd : FuncData} {ps ks : List Str} {sp : Sp} {E : XK} {x m : Str} {p pos apos kpos : Pos} {e o : Expr} {es : List Expr} {kws : List Keyword} {te ta : TE} {t tk : TA} {nm : Option Str}
variable {g : List Value → List Value → List Value} {gV : List V → List V → List V}
end

/-! ### a def's body keeps its promise -/
/-- names: the parameters first -/
structure FnScope (N P : List Str) (sc : Scope) : Prop where
  kind : sc.kind = .function
  co : sc.isCoroutine = false
  gen : sc.isGenerator = false
  nd : N.Nodup
  pre : N.take P.length = P
  par : ∀ x ∈ P, sc.names.lookup x = some .local ∨ sc.names.lookup x = some .cell
  nofree : ∀ y ∈ sc.names, y.2 ≠ .free

theorem bindL_out {kindOf : Str → Option NameKind} {x : Str} : ∀ {binds : List (Str × Value)} {m : Str → Option Value}, (∀ v, (x, v) ∉ binds) → bindL kindOf binds m x = m x
  | [], _, _ => rfl
  | (n, v) :: r, m, h => by
    unfold bindL
    rw [bindL_out fun w hw => h w (List.mem_cons_of_mem _ hw)]
    split
    · have : x ≠ n := by rintro rfl; exact h v List.mem_cons_self
      simp [this]
    · rfl
theorem bindC_out {kindOf : Str → Option NameKind} {x : Str} : ∀ {binds : List (Str × Value)} {m : Str → Option Value}, (∀ v, (x, v) ∉ binds) → bindC kindOf binds m x = m x
  | [], _, _ => rfl
  | (n, v) :: r, m, h => by
    unfold bindC
    rw [bindC_out fun w hw => h w (List.mem_cons_of_mem _ hw)]
    split
    · rfl
    · have : x ≠ n := by rintro rfl; exact h v List.mem_cons_self
      simp [this]
theorem bindL_get {kindOf : Str → Option NameKind} {x : Str} {v : Value} : ∀ {P : List Str} {vs : List Value} {i : Nat} {m : Str → Option Value}, P.Nodup → P[i]? = some x → vs[i]? = some v → kindOf x = some .local →
    bindL kindOf (P.zip vs) m x = some v
  | [], _, _, _, _, h, _, _ => by simp at h
  | _ :: _, [], _, _, _, _, h, _ => by simp at h
  | p :: P, w :: vs, 0, m, nd, h1, h2, hk => by
    simp at h1 h2; subst h1; subst h2
    show bindL kindOf ((p, w) :: P.zip vs) m p = _
    unfold bindL
    rw [bindL_out fun v hv => (List.nodup_cons.mp nd).1 (List.of_mem_zip hv).1, if_pos hk]
    simp
  | p :: P, w :: vs, i + 1, m, nd, h1, h2, hk => by
    show bindL kindOf ((p, w) :: P.zip vs) m x = _
    unfold bindL
    exact bindL_get (i := i) (List.nodup_cons.mp nd).2 (by simpa using h1) (by simpa using h2) hk
theorem bindC_get {kindOf : Str → Option NameKind} {x : Str} {v : Value} : ∀ {P : List Str} {vs : List Value} {i : Nat} {m : Str → Option Value}, P.Nodup → P[i]? = some x → vs[i]? = some v → kindOf x ≠ some .local →
    bindC kindOf (P.zip vs) m x = some v
  | [], _, _, _, _, h, _, _ => by simp at h
  | _ :: _, [], _, _, _, _, h, _ => by simp at h
  | p :: P, w :: vs, 0, m, nd, h1, h2, hk => by
    simp at h1 h2; subst h1; subst h2
    show bindC kindOf ((p, w) :: P.zip vs) m p = _
    unfold bindC
    rw [bindC_out fun v hv => (List.nodup_cons.mp nd).1 (List.of_mem_zip hv).1, if_neg hk]
    simp
  | p :: P, w :: vs, i + 1, m, nd, h1, h2, hk => by
    show bindC kindOf ((p, w) :: P.zip vs) m x = _
    unfold bindC
    exact bindC_get (i := i) (List.nodup_cons.mp nd).2 (by simpa using h1) (by simpa using h2) hk

/-- the names' values at the entry -/
def start (N : List Str) (vs : List V) : St := vs.map some ++ List.replicate (N.length - vs.length) none

/-- the context of a def's body, at its entry; an exception leaves the frame, then lies as CX says -/
def cxOf (CX : CXT) (P : Program) (w : World) (K : PySem.W.Frag) (mg : Str → Option Value) (base : Heap) (N : List Str) (qual : Str) (scope : Scope) (f : Addr) (cd : Value) (A : Around) (outer : List Env) (s : Shared) (H : Hp) (E : XK) : Cx where
  prog := P
  w := w
  K := K
  mg := mg
  base := base
  A := A.deeper (envOfC qual scope s.heap.objs.size f cd)
  N := N
  s₀ := s
  H₀ := H
  env := envOfC qual scope s.heap.objs.size f cd
  outer := outer
  stack := envOfC qual scope s.heap.objs.size f cd :: outer
  ex := []
  calm := true
  fn := fun _ => true
  pn := []
  xe := fun e s' => wpAny (model P w) (A.deeper (envOfC qual scope s.heap.objs.size f cd)) (leaving (envOfC qual scope s.heap.objs.size f cd) e) (fun _ s'' => CX outer H s E e s'') (fun e' s'' => CX outer H s E e' s'') s'

theorem cell_has {sc : Scope} {n : Nat} {x : Str} (h : sc.names.lookup x = some .cell) : ∃ c, (cellsFrom n sc.names []).lookup x = some c := by
  have q := PySem.W.cellsFrom_some sc.names n [] (.inl h)
  exact Option.isSome_iff_exists.mp q

theorem inv_start {CX : CXT} {P : Program} {w : World} {K : PySem.W.Frag} {mg : Str → Option Value} {base : Heap} {N ps : List Str} {qual : Str} {scope : Scope} {f : Addr} {cd : Value} {A : Around} {outer : List Env} {s s1 : Shared} {H : Hp} {E : XK} {us : List Value} {vs : List V}
    (S : FnScope N ps scope) (hd : A.handled = none) (e0 : Env0 P w K mg base A outer s H) (hl : vs.length = ps.length) (r : Vals vs us)
    (x : InCallC s s.heap.objs.size (bindL (envOfC qual scope s.heap.objs.size f cd).kindOf (ps.zip us) fun _ => none) (cellsFrom (s.heap.objs.size + 1) scope.names []) (bindC (envOfC qual scope s.heap.objs.size f cd).kindOf (ps.zip us) fun _ => none) s1) :
    Inv (cxOf CX P w K mg base N qual scope f cd A outer s H E) [] (start N vs) H s1 := by
  have hpl : ps.length ≤ N.length := by have := congrArg List.length S.pre; rw [List.length_take] at this; omega
  obtain ⟨h1, tk, rfl, hk⟩ := x.done
  have noA : ∀ b : Addr, b ∉ (cxOf CX P w K mg base N qual scope f cd A outer s H E).ex := fun b z => absurd (show b ∈ ([] : List Addr) from z) (by simp)
  refine ⟨⟨e0.mod, S.kind, rfl, rfl, Nat.le_refl _, fun y z c h1 h2 => ?_, fun y hy => ?_, fun y c _ h => ?_, fun _ => hd, Around.frames_deeper e0.frames, .inr ⟨rfl, rfl⟩, fun b z => absurd z (noA b), e0.bs, e0.bsz, fun b _ _ => noA b, fun b z => absurd z (noA b), e0.funs, e0.frf⟩,
    rfl, e0.bare, Un.kept hk, ⟨_, x.toInCall.ns, fun i y v h1 h2 h3 => ?_⟩, fun y c h => ⟨_, x.cell y c h⟩, e0.hok.fresh (Nat.le_refl _), fun y c h => ?_, fun p hp => absurd (show p ∈ ([] : List (Addr × Obj)) from hp) (by simp), e0.hok.kept hk, ?_⟩
  · exact name_of_addr x.apart (PySem.mem_of_lookup h1) (PySem.mem_of_lookup h2)
  · have hy : scope.names.lookup y = some .cell ∨ scope.names.lookup y = some .free := hy
    rcases hy with hy | hy
    · exact cell_has hy
    · exact absurd rfl (S.nofree _ (PySem.mem_of_lookup hy))
  · exact Nat.le_of_lt (x.above y c (PySem.mem_of_lookup h))
  · have hi : i < vs.length := by
      unfold start at h2
      by_cases hi : i < vs.length
      · exact hi
      · rw [List.getElem?_append_right (by simpa using hi)] at h2
        rw [List.getElem?_replicate] at h2
        split at h2 <;> cases h2
    have ha : vs[i]? = some v := by
      unfold start at h2
      rw [List.getElem?_append_left (by simpa using hi), List.getElem?_map] at h2
      cases e : vs[i]? with
      | none => rw [e] at h2; cases h2
      | some a => rw [e] at h2; cases h2; rfl
    obtain ⟨u, hu, rv⟩ := r.get ha
    have hp : ps[i]? = some y := by
      rw [← S.pre, List.getElem?_take_of_lt (by omega)]; exact h1
    have ndP : ps.Nodup := by rw [← S.pre]; exact S.nd.sublist (List.take_sublist _ _)
    refine ⟨u, rv, ?_⟩
    rcases S.par y (List.mem_of_getElem? hp) with k | k
    · exact .inl ⟨k, bindL_get ndP hp hu k⟩
    · obtain ⟨c, e⟩ := cell_has (n := s.heap.objs.size + 1) k
      refine .inr ⟨.inl k, c, e, ?_⟩
      have q := x.cell y c e
      rw [bindC_get ndP hp hu (by show scope.names.lookup y ≠ _; rw [k]; decide)] at q
      exact q
  · exact e0.hok.fresh (Nat.le_of_lt (x.above y c (PySem.mem_of_lookup h)))
  · unfold start
    show _ = N.length
    rw [List.length_append, List.length_map, List.length_replicate]
    omega

/-- THE RULE: a def (or a method) of the text, by its body. The body's reading t is chosen for each entry; it is run at the parameters' values -/
theorem fn_of {CX : CXT} {P : Program} {w : World} {K : PySem.W.Frag} {mg : Str → Option Value} {base : Heap} {k : Nat} {f : Addr} {name qual : Str} {params : Arguments} {body : List Stmt} {scope : Scope} {dV kV doc pm cdv ct oc : Value} {an od : Option Addr}
    {osl : Array (Option Value)} {N ps : List Str} {sp : Sp} (lk : K.lookup f = some ⟨oc, od, .func (PySem.W.fnOf name qual params body scope dV kV doc pm an cdv ct), osl⟩) (hcd : PySem.W.codeIn K cdv qual = true) (S : FnScope N ps scope)
    (len : ∀ vs H Q E, sp vs H Q E → vs.length = ps.length)
    (hbody : ∀ (A : Around) (outer : List Env) (s : Shared) (H : Hp) (vs : List V) (Q : VK) (E : XK), Room k (A.deeper (envOfC qual scope s.heap.objs.size f cdv)) → sp vs H Q E →
      ∃ t, PSs (cxOf CX P w K mg base N qual scope f cdv A outer s H E) body t ∧ t { nx := fun _ H' => Q .non H', rt := Q } (start N vs) H) :
    FnOk P w K mg base CX (k + 1) f (PySem.W.fnOf name qual params body scope dV kV doc pm an cdv ct) ps sp := by
  refine ⟨len, fun A outer s H args us vs Q E hr e0 hb r hsp => ?_⟩
  have hl := len _ _ _ _ hsp
  have KX : K.In s.heap := e0.mod.kin.keeps fun b o e => (e0.bs b o e).1
  have lim : s.heap.NoLimit := e0.mod.nolimit.keeps fun b o e => (e0.bs b o e).1
  have hkind : ∀ y ∈ ps.zip us, scope.names.lookup y.1 = some .local ∨ (scope.names.lookup y.1 = some .cell ∧ ((cellsFrom (s.heap.objs.size + 1) scope.names []).lookup y.1).isSome = true) := fun ⟨n, v⟩ hy => by
    rcases S.par n (List.of_mem_zip hy).1 with q | q
    · exact .inl q
    · exact .inr ⟨q, PySem.W.cellsFrom_some _ _ _ (.inl q)⟩
  refine codeAny_call_function hr.depth (KX _ _ lk) rfl S.co S.gen rfl (PySem.W.codeRec_of KX hcd) (hb _ _ _ _ ?_)
  refine wpAny_newFunctionEnv_cells S.kind hkind fun env he s1 x => ?_
  subst he
  refine ⟨lim.keeps x.toInCall.keep, codeAny_func ?_⟩
  obtain ⟨t, ht, hq⟩ := hbody A outer s H vs Q E (hr.deeper _) hsp
  have I : Inv (cxOf CX P w K mg base N qual scope f cdv A outer s H E) [] (start N vs) H s1 := inv_start S hr.hd e0 hl r x
  refine wpAny_mono (ht [] s1 (start N vs) H _ I hq) (fun fl s' hs => ?_) fun e s' hs => hs
  have fin : ∀ {σ' : St} {H' : Hp} {v : V} {u : Value}, Inv (cxOf CX P w K mg base N qual scope f cdv A outer s H E) [] σ' H' s' → RelV v u → Q v H' → CE outer P w H s Q u s' :=
    fun {σ' H' v u} J rv q => ⟨v, H', J.os, J.bare, J.base, J.hok, rv, q⟩
  cases fl with
  | ret u =>
    obtain ⟨v, σ', H', J, rv, q⟩ := hs
    exact fin J rv q
  | next =>
    obtain ⟨σ', H', J, q⟩ := hs
    exact fin (v := V.non) (u := Value.none) J rfl q
  | brk =>
    obtain ⟨_, _, _, q⟩ := hs
    exact False.elim q
  | cont =>
    obtain ⟨_, _, _, q⟩ := hs
    exact False.elim q
end L2

namespace L2
open PySem PySem.Spec PyProof.Rows
section
variable {X : Cx} {x : Str} {p pos : Pos} {e : Expr} {es : List Expr} {t : TA} {id T : String} {r : List V → Hp → VK → Prop}

def tCB (r : List V → Hp → VK → Prop) (t : TA) : TE := fun σ H Q => t σ H fun vs H1 => r vs H1 Q
/-- f(e, ..), f a built-in function -/
theorem pe_callB (hc : CallR X (.builtin id) r) (hg : Gl X x) (hm : X.mg x = none) (hv : bootBuiltins x = some (.builtin id)) (ha : PA X (e :: es) t) (hn : x ≠ "__name__" := by decide) (hdb : (x == ("__debug__" : Str)) = false := by decide)
    (he : starEach (e :: es) X.env = (false, eval e X.env) :: starEach es X.env := by rfl) (hpl : (backTo pos (starEach es X.env)).any (·.1) = false := by rfl) : PE X (.Call (.Name x p) (e :: es) [] pos) (tCB r t) := by
  intro pins s σ H Q I h
  refine wpAny_Call_Name_kw (ld_blt I hg hm hv ?_ hn hdb)
  exact PyProof.Rows.callWith_builtin1 (thn (ha pos pins s σ H _ I h) fun us s1 ⟨vs, H1, I1, r1, q1⟩ => hc pins s1 σ H1 vs us Q I1 r1 q1) he hpl
/-- T(e, ..), T a built-in type -/
theorem pe_callTy (hc : CallR X (.type T) r) (hg : Gl X x) (hm : X.mg x = none) (hv : bootBuiltins x = some (.type T)) (ha : PA X (e :: es) t) (hn : x ≠ "__name__" := by decide) (hdb : (x == ("__debug__" : Str)) = false := by decide)
    (he : starEach (e :: es) X.env = (false, eval e X.env) :: starEach es X.env := by rfl) (hpl : (backTo pos (starEach es X.env)).any (·.1) = false := by rfl) : PE X (.Call (.Name x p) (e :: es) [] pos) (tCB r t) := by
  intro pins s σ H Q I h
  refine wpAny_Call_Name_kw (ld_blt I hg hm hv ?_ hn hdb)
  exact PyProof.Rows.callWith_type1 (thn (ha pos pins s σ H _ I h) fun us s1 ⟨vs, H1, I1, r1, q1⟩ => hc pins s1 σ H1 vs us Q I1 r1 q1) he hpl
end
end L2

namespace HT
open PySem PyProof.Rows

section
open PySem.SeqAt
open PySem.AutoSeq1 (wpAny_loadPart')
open PySem.MeetsSeq PySem.MeetsSeq2 PySem.MeetsSeq3

end

section
variable {prog : Program} {w : World} {A : Around} {E : Value → Shared → Prop} {s : Shared}

/-- t + u, t not empty -/
theorem cat_tup {t b : Addr} {vs ws : List Value} {Q : Value → Shared → Prop} (ht : IsTup s.heap t vs.toArray) (hb : IsTup s.heap b ws.toArray) (hv : vs ≠ [])
    (h1 : ws = [] → Q (.ref t) s) (h2 : ws ≠ [] → Q (.ref s.heap.objs.size) { s with heap := s.heap.push { cls := .type "tuple", data := .seq (vs ++ ws).toArray } })
    (hsz : vs.length + ws.length ≤ sizeLine) : wpAny (model prog w) A (binaryOp .Add (.ref t) (.ref b)) Q E s := by
  obtain ⟨⟨cls, dd, data, sl⟩, ho, hc, n, hd⟩ := id ht
  obtain ⟨⟨cls2, dd2, data2, sl2⟩, ho2, hc2, n2, hd2⟩ := id hb
  simp only at hc hd hc2 hd2
  subst hc hd hc2 hd2
  have e : vs.toArray ++ ws.toArray = (vs ++ ws).toArray := by simp
  by_cases hw : ws = []
  · exact concat_meets ⟨_, ho, rfl⟩ ⟨_, ho2, rfl⟩ noFill_tuple_add seq_tuple_add PySem.F.slot_tuple_add PySem.F.entry_tuple_add (PySem.F.args_tuple_add_2 _ _)
      (tuple_addW1 t b vs.toArray ws.toArray n n2 dd dd2 sl sl2 (by simpa using hv) (by simp [hw])) ⟨ho, ho2, h1 hw⟩
  · refine concat_meets ⟨_, ho, rfl⟩ ⟨_, ho2, rfl⟩ noFill_tuple_add seq_tuple_add PySem.F.slot_tuple_add PySem.F.entry_tuple_add (PySem.F.args_tuple_add_2 _ _)
      (tuple_addW2 t b vs.toArray ws.toArray n n2 dd dd2 sl sl2 (by simpa using hv) (by simpa using hw) (by rw [List.size_toArray, List.size_toArray]; exact hsz)) ⟨ho, ho2, ?_⟩
    rw [e]
    exact h2 hw

/-! ### t[a:b], not the whole -/
/-- a slice's bound as a place among n (d where it is left out) -/
def sIx (n d : Nat) : Option Int → Nat
  | none => d
  | some v => if v < 0 then (v + (n : Int)).toNat else min v.toNat n
theorem sIx_le (n d : Nat) (hd : d ≤ n) (o : Option Int) : sIx n d o ≤ n := by
  cases o with
  | none => exact hd
  | some v =>
    show (if v < 0 then (v + (n : Int)).toNat else min v.toNat n) ≤ n
    by_cases hv : v < 0
    · rw [if_pos hv]; omega
    · rw [if_neg hv]; exact Nat.min_le_right _ _
theorem clip_eq (v : Int) (n d : Nat) : (if v < 0 then max (v + (n : Int)) 0 else min v (n : Int)) = ((sIx n d (some v) : Nat) : Int) := by
  show (if v < 0 then max (v + (n : Int)) 0 else min v (n : Int)) = (((if v < 0 then (v + (n : Int)).toNat else min v.toNat n) : Nat) : Int)
  by_cases hv : v < 0
  · simp only [if_pos hv]; omega
  · simp only [if_neg hv]; omega
theorem adjust_gen (lo hi : Option Int) (n : Nat) : Builtin.Slice.sliceAdjust lo hi 1 (n : Int) = (((sIx n 0 lo : Nat) : Int), ((sIx n n hi : Nat) : Int)) := by
  have h1 : ¬ ((1 : Int) < 0) := by omega
  unfold Builtin.Slice.sliceAdjust
  simp only [h1, if_false]
  refine Prod.ext ?_ ?_
  · cases lo with
    | none => rfl
    | some v => exact clip_eq v n 0
  · cases hi with
    | none => rfl
    | some v => exact clip_eq v n n
theorem places_gen (i j : Nat) : Builtin.Slice.slicePlaces (i : Int) (j : Int) 1 = j - i := by
  unfold Builtin.Slice.slicePlaces
  have h1 : (1 : Int) > 0 := by omega
  simp only [h1, if_true, Int.ediv_one]
  split <;> omega
theorem slicePart_ {v : Value} {o : Option Int} {Q : Option Int → Shared → Prop} (p : IsPart v o) (h : Q o s) : wpAny (model prog w) A (Builtin.Slice.slicePartIndex v) Q E s := by
  cases p with
  | none => exact slicePart_none h
  | int i t => exact slicePart_int h
theorem sliceApplied_gen {sl : Addr} {vl vu : Value} {lo hi : Option Int} {n : Nat} {Q : Int × Int × Nat → Shared → Prop} (hs : s.heap.IsSliceOf sl vl vu .none) (pl : IsPart vl lo) (pu : IsPart vu hi)
    (h : Q (((sIx n 0 lo : Nat) : Int), 1, sIx n n hi - sIx n 0 lo) s) : wpAny (model prog w) A (Builtin.Slice.sliceApplied (.ref sl) (pure (n : Int))) Q E s := by
  obtain ⟨os, hos, hcs, hds⟩ := id hs
  unfold Builtin.Slice.sliceApplied Builtin.Slice.sliceFields
  refine wpAny_bind (wpAny_bind (wpAny_field hos hds (x := vl) rfl (wpAny_bind (wpAny_field hos hds (x := vu) rfl (wpAny_bind (wpAny_field hos hds (x := .none) rfl (wpAny_pure ?_)))))))
  refine wpAny_bind (slicePart_none ?_)
  show wpAny _ _ (if ((1 : Int) == 0) = true then _ else _) _ _ s
  rw [if_neg (by decide)]
  refine wpAny_bind (slicePart_ pl (wpAny_bind (slicePart_ pu (wpAny_bind (wpAny_pure ?_)))))
  show wpAny _ _ (match Builtin.Slice.sliceAdjust lo hi 1 (n : Int) with | (lo, hi) => pure (lo, (1 : Int), Builtin.Slice.slicePlaces lo hi 1)) _ _ s
  rw [adjust_gen lo hi n]
  show wpAny _ _ (pure (((sIx n 0 lo : Nat) : Int), (1 : Int), Builtin.Slice.slicePlaces ((sIx n 0 lo : Nat) : Int) ((sIx n n hi : Nat) : Int) 1)) _ _ s
  rw [places_gen]
  exact wpAny_pure h
theorem pick_gen (xs : Array Value) (i k : Nat) : ((List.range k).filterMap fun (m : Nat) => xs[((i : Int) + (m : Int) * 1).toNat]?).toArray = ((xs.toList.drop i).take k).toArray := by
  have e : (fun (m : Nat) => xs[((i : Int) + (m : Int) * 1).toNat]?) = fun m => xs[i + m]? := by
    funext m
    have : ((i : Int) + (m : Int) * 1).toNat = i + m := by omega
    rw [this]
  rw [e]
  have := pick_run xs i k
  rw [List.filterMap_map] at this
  have e2 : ((fun x => xs[x]?) ∘ fun x => i + x) = fun m => xs[i + m]? := rfl
  rw [e2] at this
  rw [this]

theorem getItem_tuple_cut {t sl : Addr} {items : Array Value} {vl vu : Value} {lo hi : Option Int} {Q : Value → Shared → Prop} (ht : IsTup s.heap t items) (hs : s.heap.IsSliceOf sl vl vu .none) (pl : IsPart vl lo) (pu : IsPart vu hi)
    (hw : ¬ (sIx items.size 0 lo = 0 ∧ sIx items.size items.size hi = items.size))
    (h : Q (.ref s.heap.objs.size) { s with heap := s.heap.push { cls := .type "tuple", data := .seq ((items.toList.drop (sIx items.size 0 lo)).take (sIx items.size items.size hi - sIx items.size 0 lo)).toArray } })
    (hsz : items.size ≤ sizeLine) : wpAny (model prog w) A (getItem (.ref t) (.ref sl)) Q E s := by
  have htake : sizeOk (.seq ((items.toList.drop (sIx items.size 0 lo)).take (sIx items.size items.size hi - sIx items.size 0 lo)).toArray) := by
    show ((items.toList.drop (sIx items.size 0 lo)).take (sIx items.size items.size hi - sIx items.size 0 lo)).toArray.size ≤ sizeLine
    rw [List.size_toArray, List.length_take, List.length_drop, Array.length_toList]
    omega
  have hj : sIx items.size items.size hi ≤ items.size := sIx_le _ _ (Nat.le_refl _) hi
  obtain ⟨os, hos, hcs, hds⟩ := id hs
  have hTs : s.TypeIs (.ref sl) "slice" := ⟨os, hos, hcs⟩
  unfold getItem
  try with_reducible refine wpAny_holding ?_
  first | refine wpAny_bind (wpAny_pure ?_) | skip
  refine wpAny_bind (wpAny_sequenceKey ht.typeIs (by decide) ?_)
  refine wpAny_bind (wpAny_callSpecial?_slot (name := Str.ofString "__getitem__") ht.typeIs PyProof.Rows.slot_tuple_getitem
    (wpAny_call_entry PyProof.Rows.slot_tuple_getitem ht.typeIs entry_tuple_getitem ?_ (args_tuple_getitem _ _)))
  show wpAny _ _ (Builtin.Tuple.tupleItemsOf (.ref t) >>= _) _ _ s
  refine wpAny_bind (tupleItemsOf_ ht ?_)
  refine wpAny_bind (wpAny_typeOf hTs ?_)
  rw [if_pos (by decide)]
  refine wpAny_bind (sliceApplied_gen hs pl pu ?_)
  have hno : ¬ ((((sIx items.size 0 lo : Nat) : Int) == 0 && (1 : Int) == 1 && (sIx items.size items.size hi - sIx items.size 0 lo) == items.size) = true) := by
    intro q
    rw [Bool.and_eq_true, Bool.and_eq_true] at q
    have q1 : ((sIx items.size 0 lo : Nat) : Int) = 0 := eq_of_beq q.1.1
    have q2 : sIx items.size items.size hi - sIx items.size 0 lo = items.size := eq_of_beq q.2
    exact hw ⟨by omega, by omega⟩
  show wpAny _ _ (if (((sIx items.size 0 lo : Nat) : Int) == 0 && (1 : Int) == 1 && (sIx items.size items.size hi - sIx items.size 0 lo) == items.size) = true then _ else _) _ _ s
  rw [if_neg hno, pick_gen]
  first
    | exact wpAny_bind (m := Builtin.Tuple.tupleExact _) (wpAny_newObj_type (wpAny_pure ⟨_, rfl, wpAny_pure h⟩) htake)
    | exact wpAny_bind (m := Builtin.Tuple.tupleExact _) (wpAny_newObj_type (wpAny_bind (wpAny_pure (wpAny_pure ⟨_, rfl, wpAny_pure h⟩))) htake)
    | exact wpAny_bind (wpAny_bind (m := Builtin.Tuple.tupleExact _) (wpAny_newObj_type (wpAny_pure (wpAny_pure ⟨_, rfl, wpAny_pure h⟩)) htake))
    | exact wpAny_bind (wpAny_bind (m := Builtin.Tuple.tupleExact _) (wpAny_newObj_type (wpAny_pure ⟨_, rfl, wpAny_pure h⟩) htake))
end
end HT

namespace L2
open PySem PySem.Spec PyProof.Rows

/-! ### the parts of a slice -/
abbrev TO := St → Hp → (Option Int → Hp → Prop) → Prop
/-- a slice's part (left out, or an int) -/
def PO (X : Cx) (e : Option Expr) (t : TO) : Prop :=
  ∀ (pins : List (Addr × Obj)) (s : Shared) (σ : St) (H : Hp) (Q : Option Int → Hp → Prop), Inv X pins σ H s → t σ H Q →
    wpAny (model X.prog X.w) X.A (evalPart e X.env) (fun u s' => ∃ o H', Inv X pins σ H' s' ∧ IsPart u o ∧ Q o H') X.xe s
def tNoPart : TO := fun _ H Q => Q none H
def tPart (t : TE) : TO := fun σ H Q => t σ H fun x H1 => ∃ i, x = .int i ∧ Q (some i) H1

theorem intsAre_of {ns : List Int} : ∀ {us : List Value}, Vals (ns.map V.int) us → IntsAre us ns := by
  induction ns with
  | nil => intro us r; rw [List.map_nil] at r; cases r; exact .nil
  | cons n ns ih =>
    intro us r
    rw [List.map_cons] at r
    cases r with
    | cons r1 r2 =>
      obtain ⟨t, e⟩ := r1
      subst e
      exact .cons n t (ih r2)

section
variable {X : Cx} {e : Expr} {te : TE} {lo hi : Option Expr} {tl th : TO} {pos p2 : Pos}

theorem po_none : PO X none tNoPart := by
  intro pins s σ H Q I h
  rw [evalPart_none]
  exact wpAny_pure ⟨none, H, I, .none, h⟩
theorem po_some (h : PE X e te) : PO X (some e) (tPart te) := by
  intro pins s σ H Q I hw
  rw [evalPart_some]
  refine thn (h pins s σ H _ I hw) fun u s1 ⟨x, H1, I1, r1, q1⟩ => ?_
  obtain ⟨i, rfl, q⟩ := q1
  obtain ⟨t, rfl⟩ := r1
  exact ⟨some i, H1, I1, .int i t, q⟩

/-- what a slice of a value is, by values: the slice object stands at sl -/
def SlR (X : Cx) (r : V → Option Int → Option Int → Hp → VK → Prop) : Prop :=
  ∀ (pins : List (Addr × Obj)) (s : Shared) (σ : St) (H : Hp) (x : V) (v vl vu : Value) (lo hi : Option Int) (sl : Addr) (Q : VK), Inv X pins σ H s → RelV x v → s.heap.IsSliceOf sl vl vu .none → IsPart vl lo → IsPart vu hi → r x lo hi H Q →
    ∃ T id, typeLookup (.type T) "__getitem__" = pure (some (.builtin id)) ∧ s.TypeIs v T ∧ wpAny (model X.prog X.w) X.A (getItem v (.ref sl)) (EP X pins σ Q) X.xe s
def tSl (r : V → Option Int → Option Int → Hp → VK → Prop) (te : TE) (tl th : TO) : TE := fun σ H Q => te σ H fun x H1 => tl σ H1 fun l H2 => th σ H2 fun u H3 => r x l u H3 Q
/-- a[lo:hi], any a -/
theorem pe_slice {r : V → Option Int → Option Int → Hp → VK → Prop} (hr : SlR X r) (he : PE X e te) (hl : PO X lo tl) (hu : PO X hi th) : PE X (.Subscript e (.Slice lo hi none p2) pos) (tSl r te tl th) := by
  intro pins s σ H Q I h
  refine Subscript_ (thn (he pins s σ H _ I h) fun v s1 ⟨x, H1, I1, r1, q1⟩ => ?_)
  refine wpAny_Slice (thn (hl pins s1 σ H1 _ I1 q1) fun vl s2 ⟨l, H2, I2, pl, q2⟩ => thn (hu pins s2 σ H2 _ I2 q2) fun vu s3 ⟨u, H3, I3, pu, q3⟩ => ?_)
  rw [evalPart_none]
  refine wpAny_pure ?_
  have I4 : Inv X pins σ H3 { s3 with heap := s3.heap.push { cls := .type "slice", data := .fields #[vl, vu, .none] } } := I3.kept (t' := s3.toks) fun b ob q => Heap.get?_push_of_some _ q
  obtain ⟨T, id, hT, ht, hg⟩ := hr pins { s3 with heap := s3.heap.push { cls := .type "slice", data := .fields #[vl, vu, .none] } } σ H3 x v vl vu l u s3.heap.objs.size Q I4 r1 (Heap.IsSliceOf.new ..) pl pu q3
  show wpAny (model X.prog X.w) X.A (subscriptTail e (.Slice lo hi none p2) v (.ref s3.heap.objs.size)) (EP X pins σ Q) X.xe { s3 with heap := s3.heap.push { cls := .type "slice", data := .fields #[vl, vu, .none] } }
  exact tail_any (ops := [.ref s3.heap.objs.size, v]) ht hT hg (by with_unfolding_all rfl)

/-- the items of xs[lo:hi] -/
def cutV (xs : List V) (lo hi : Option Int) : List V := (xs.drop (HT.sIx xs.length 0 lo)).take (HT.sIx xs.length xs.length hi - HT.sIx xs.length 0 lo)
theorem cutV_length (xs : List V) (lo hi : Option Int) : (cutV xs lo hi).length ≤ xs.length := by
  unfold cutV
  rw [List.length_take, List.length_drop]
  omega
/-- t[lo:hi], not the whole of it (the whole would be t itself) -/
def rSlT (K : PySem.W.Frag) : V → Option Int → Option Int → Hp → VK → Prop := fun x lo hi H Q => ∃ a xs, x = .ref a ∧ SqT K H a xs ∧
  ¬ (HT.sIx xs.length 0 lo = 0 ∧ HT.sIx xs.length xs.length hi = xs.length) ∧ ∀ p, H p = none → Q (.ref p) (upd H p (.tup (cutV xs lo hi)))
theorem sl_tup : SlR X (rSlT X.K) := by
  intro pins s σ H x v vl vu lo hi sl Q I rx hs pl pu h
  obtain ⟨a, xs, rfl, hx, hw, q⟩ := h
  cases rx
  obtain ⟨its, r, ht, hz⟩ := I.tuple hx
  have hlen : its.toArray.size = xs.length := by rw [List.size_toArray]; exact r.length.symm
  refine ⟨"tuple", _, PyProof.Rows.slot_tuple_getitem.lookup, ht.typeIs, ?_⟩
  refine HT.getItem_tuple_cut ht hs pl pu (by rw [hlen]; exact hw) ?_ (by rw [hlen]; exact hz)
  rw [hlen]
  refine ⟨.ref s.heap.objs.size, _, I.laid (t' := s.toks) (o := .tup (cutV xs lo hi)) (fun b ob q => Heap.get?_push_of_some _ q) (Nat.le_refl _) ?_, rfl, q _ (I.hok.fresh (Nat.le_refl _))⟩
  exact ⟨Nat.le_trans (cutV_length xs lo hi) hz, _, (r.drop (HT.sIx xs.length 0 lo)).take (HT.sIx xs.length xs.length hi - HT.sIx xs.length 0 lo), IsTup.new _ _⟩

/-! ### t < u, t + u -/
/-- t + u, t not empty: u empty gives t itself -/
def rCatT (K : PySem.W.Frag) : R2 := fun x y H Q => ∃ a b xs ys, x = .ref a ∧ y = .ref b ∧ SqT K H a xs ∧ SqT K H b ys ∧ xs ≠ [] ∧ xs.length + ys.length ≤ sizeLine ∧
  (ys = [] → Q (.ref a) H) ∧ (ys ≠ [] → ∀ p, H p = none → Q (.ref p) (upd H p (.tup (xs ++ ys))))
theorem Vals.nil_iff {xs : List V} {us : List Value} (r : Vals xs us) : us = [] ↔ xs = [] := by
  cases r with
  | nil => simp
  | cons _ _ => simp
theorem op_catT : OpR X (binaryOp .Add) (rCatT X.K) := by
  intro pins s σ H x y v u Q I rx ry h
  obtain ⟨a, b, xs, ys, rfl, rfl, ha, hb, hx, hz, q1, q2⟩ := h
  cases rx
  cases ry
  obtain ⟨its, r1, p1, _⟩ := I.tuple ha
  obtain ⟨its2, r2, p2, _⟩ := I.tuple hb
  refine HT.cat_tup p1 p2 (fun z => hx (r1.nil_iff.mp z)) (fun z => ⟨.ref a, H, I, rfl, q1 (r2.nil_iff.mp z)⟩) (fun z => ?_) (by rw [← r1.length, ← r2.length]; exact hz)
  refine ⟨.ref s.heap.objs.size, _, I.laid (t' := s.toks) (o := .tup (xs ++ ys)) (fun b ob q => Heap.get?_push_of_some _ q) (Nat.le_refl _) ?_, rfl, q2 (fun w => z (r2.nil_iff.mpr w)) _ (I.hok.fresh (Nat.le_refl _))⟩
  exact ⟨by rw [List.length_append]; exact hz, _, r1.append r2, IsTup.new _ _⟩
end
end L2

namespace L2
open PySem PySem.Spec PyProof.Rows

/-! ### places -/
/-- the place that an index of any sign means -/
def ixN (n : Nat) (i : Int) : Option Nat := if 0 ≤ i then (if i < n then some i.toNat else none) else if -(n : Int) ≤ i then some (i + n).toNat else none
def atI {α : Type} (xs : List α) (i : Int) : Option α := (ixN xs.length i).bind fun j => xs[j]?
theorem ixN_seq {n : Nat} {i : Int} {j : Nat} (h : ixN n i = some j) : seqIndex? i n = some j ∧ j < n ∧ -(n : Int) ≤ i ∧ i < n := by
  unfold ixN at h
  by_cases h0 : 0 ≤ i
  · rw [if_pos h0] at h
    by_cases h1 : i < n
    · rw [if_pos h1] at h
      have e : i.toNat = j := Option.some.inj h
      exact ⟨by rw [seqIndex_of h0 h1, e], by omega, by omega, h1⟩
    · rw [if_neg h1] at h; cases h
  · rw [if_neg h0] at h
    by_cases h1 : -(n : Int) ≤ i
    · rw [if_pos h1] at h
      have e : (i + n).toNat = j := Option.some.inj h
      exact ⟨by rw [seqIndex_neg (by omega) h1, e], by omega, h1, by omega⟩
    · rw [if_neg h1] at h; cases h
theorem atI_get {α : Type} {xs : List α} {i : Int} {v : α} (h : atI xs i = some v) : ∃ j, seqIndex? i xs.length = some j ∧ xs[j]? = some v ∧ j < xs.length ∧ -(xs.length : Int) ≤ i ∧ i < xs.length := by
  unfold atI at h
  cases e : ixN xs.length i with
  | none => rw [e] at h; cases h
  | some j =>
    rw [e] at h
    obtain ⟨h1, h2, h3, h4⟩ := ixN_seq e
    exact ⟨j, h1, h, h2, h3, h4⟩
theorem atI_nat {α : Type} {xs : List α} {j : Nat} {v : α} (h : xs[j]? = some v) : atI xs (j : Int) = some v := by
  have hj : j < xs.length := (List.getElem?_eq_some_iff.mp h).1
  have e : ixN xs.length (j : Int) = some j := by
    unfold ixN
    rw [if_pos (by omega), if_pos (by omega)]; simp
  unfold atI; rw [e]; exact h
/-! ### what may be subscripted -/
/-- what stands as an index of a plain subscript -/
def PlainIx (b : Expr) : Prop := ∀ o i, subscripted b false o i = operate [o, i] (getItem o i)
/-- a subscript by values -/
def IxR (X : Cx) (r : R2) : Prop :=
  ∀ (value slice : Expr) (pins : List (Addr × Obj)) (s : Shared) (σ : St) (H : Hp) (x y : V) (v u : Value) (Q : VK), Inv X pins σ H s → RelV x v → RelV y u → r x y H Q →
    subscripted slice false v u = operate [v, u] (getItem v u) → wpAny (model X.prog X.w) X.A (subscriptTail value slice v u) (EP X pins σ Q) X.xe s
/-- a call of a builtin's method by values: the receiver, the arguments -/
def MtR (X : Cx) (id : String) (r : V → List V → Hp → VK → Prop) : Prop :=
  ∀ (pins : List (Addr × Obj)) (s : Shared) (σ : St) (H : Hp) (x : V) (xs : List V) (v : Value) (us : List Value) (Q : VK), Inv X pins σ H s → RelV x v → Vals xs us → r x xs H Q →
    wpAny (model X.prog X.w) X.A (call (.builtin id) (v :: us)) (EP X pins σ Q) X.xe s
section
variable {X : Cx} {a b : Expr} {ta tb : TE} {pos : Pos}
/-- a[b] -/
theorem pe_ix {r : R2} (hr : IxR X r) (ha : PE X a ta) (hb : PE X b tb) (hs : PlainIx b) : PE X (.Subscript a b pos) (tOp r ta tb) := by
  intro pins s σ H Q I h
  exact Subscript_ (binT ha hb I h fun v u s2 x y H2 I2 rx ry q => hr a b pins s2 σ H2 x y v u Q I2 rx ry q (hs _ _))

def rIxL (K : PySem.W.Frag) : R2 := fun x y H Q => ∃ p xs i v, x = .ref p ∧ y = .int i ∧ SqL K H p xs ∧ atI xs i = some v ∧ Q v H
def rIxT (K : PySem.W.Frag) : R2 := fun x y H Q => ∃ p xs i v, x = .ref p ∧ y = .int i ∧ SqT K H p xs ∧ atI xs i = some v ∧ Q v H
theorem ix_list : IxR X (rIxL X.K) := by
  intro value slice pins s σ H x y v u Q I rx ry h hs
  obtain ⟨p, xs, i, z, rfl, rfl, hq, he, q⟩ := h
  cases rx
  obtain ⟨t, rfl⟩ := ry
  obtain ⟨its, r, pl, hz⟩ := I.list hq
  obtain ⟨j, h1, h2, h3, h4, h5⟩ := atI_get he
  obtain ⟨w, ew, rw'⟩ := r.get h2
  have hl := r.length
  have hn := line63
  have fin : EP X pins σ Q w s := ⟨z, H, I, rw', q⟩
  by_cases h0 : 0 ≤ i
  · have hj : i.toNat = j := by
      rw [seqIndex_of h0 h5] at h1
      exact Option.some.inj h1
    exact item_listR pl.isList h0 (by omega) (by rw [hj]; simpa using ew) fin hs
  · have hj : (i + (its.toArray.size : Int)).toNat = j := by
      rw [seqIndex_neg (by omega) h4] at h1
      rw [List.size_toArray, ← hl]
      exact Option.some.inj h1
    exact subscriptTail_builtinR (x := w) pl.isList.typeIs slot_list_getitem.lookup
      (wpAny_getItem_list_neg (Q := fun r s' => r = w ∧ EP X pins σ Q r s') pl.isList (by omega) (by rw [List.size_toArray] <;> omega) (by omega) (by rw [hj]; simpa using ew) ⟨rfl, fin⟩) hs
theorem ix_tup : IxR X (rIxT X.K) := by
  intro value slice pins s σ H x y v u Q I rx ry h hs
  obtain ⟨p, xs, i, z, rfl, rfl, hq, he, q⟩ := h
  cases rx
  obtain ⟨t, rfl⟩ := ry
  obtain ⟨its, r, pl, hz⟩ := I.tuple hq
  obtain ⟨j, h1, h2, h3, h4, h5⟩ := atI_get he
  obtain ⟨w, ew, rw'⟩ := r.get h2
  have hl := r.length
  have hn := line63
  have fin : EP X pins σ Q w s := ⟨z, H, I, rw', q⟩
  exact subscriptTail_builtinR (x := w) pl.typeIs slot_tuple_getitem.lookup
    (getItem_tuple (j := j) (Q := fun r s' => r = w ∧ EP X pins σ Q r s') pl (by omega) (by omega) (by rw [List.size_toArray, ← hl]; exact h1) (by simpa using ew) ⟨rfl, fin⟩) hs
/-! ### xs[i] = v, any sign -/
/-- the list's object behind a store -/
theorem mapSeq_set (its : List Value) (n j : Nat) (u : Value) : Obj.mapSeq (·.setIfInBounds j u) { cls := .type "list", data := .seq its.toArray n } = { cls := .type "list", data := .seq (its.set j u).toArray n } := by
  simp [Obj.mapSeq]
theorem Inv.lst {pins : List (Addr × Obj)} {σ : St} {H : Hp} {s : Shared} {p : Addr} {xs : List V} (I : Inv X pins σ H s) (h : H p = some (.lst xs)) :
    ∃ (its : List Value) (n : Nat), Vals xs its ∧ s.heap.get? p = some { cls := .type "list", data := .seq its.toArray n } ∧ xs.length ≤ sizeLine := by
  obtain ⟨z, its, n, r, e⟩ := I.hok p _ h
  exact ⟨its, n, r, e, z⟩
/-- the list at p is written by an update of its object -/
theorem Inv.lstUpd {pins : List (Addr × Obj)} {σ : St} {H : Hp} {s : Shared} {p : Addr} {xs ys : List V} {its its' : List Value} {n n' : Nat} {f : Obj → Obj} (I : Inv X pins σ H s) (h : H p = some (.lst xs))
    (ho : s.heap.get? p = some { cls := .type "list", data := .seq its.toArray n }) (hf : f { cls := .type "list", data := .seq its.toArray n } = { cls := .type "list", data := .seq its'.toArray n' }) (r : Vals ys its') (hz : ys.length ≤ sizeLine) (t : Nat) :
    Inv X pins σ (upd H p (.lst ys)) { s with heap := s.heap.update p f, toks := t } := by
  have e : (s.heap.update p f).get? p = some { cls := .type "list", data := .seq its'.toArray n' } := by
    rw [Heap.get?_update_self f ho (by rw [hf] <;> rfl), hf]
  refine I.write (x := p) (e := p) (by rw [h]; trivial) (.inl rfl) (fun b u hb q => (Heap.get?_update_other _ _ (Ne.symm hb)).trans q) ⟨_, e⟩ ?_
  exact ⟨hz, its', n', r, e⟩
def rSetL : V → V → V → Hp → (Hp → Prop) → Prop := fun o i v H Q => ∃ p xs k j, o = .ref p ∧ i = .int k ∧ H p = some (.lst xs) ∧ ixN xs.length k = some j ∧ Q (upd H p (.lst (xs.set j v)))
theorem set_list : PSet X rSetL := by
  intro pins s σ H o i v ov iv u Q I ro ri rv h
  obtain ⟨p, xs, k, j, rfl, rfl, hp, hj, q⟩ := h
  cases ro
  obtain ⟨t, rfl⟩ := ri
  obtain ⟨its, n, r, ho, hz⟩ := I.lst hp
  obtain ⟨h1, h2, h3, h4⟩ := ixN_seq hj
  have hl := r.length
  have hn := line63
  have I' : Inv X pins σ (upd H p (.lst (xs.set j v))) { s with heap := s.heap.update p (Obj.mapSeq (·.setIfInBounds j u)) } :=
    I.lstUpd hp ho (mapSeq_set its n j u) (r.set rv j) (by rw [List.length_set]; exact hz) s.toks
  by_cases h0 : 0 ≤ k
  · have hk : k.toNat = j := by
      rw [seqIndex_of h0 h4] at h1
      exact Option.some.inj h1
    exact PySem.W.ki_setAt ho h0 (by omega) (by rw [List.size_toArray, ← hl]; exact h4) (by rw [hk]; exact ⟨_, I', q⟩)
  · have hk : (k + (its.toArray.size : Int)).toNat = j := by
      rw [seqIndex_neg (by omega) h3] at h1
      rw [List.size_toArray, ← hl]
      exact Option.some.inj h1
    exact PySem.W.ki_setBack ho (by omega) (by rw [List.size_toArray, ← hl]; exact h3) (by omega) (by rw [hk]; exact ⟨_, I', q⟩)

/-! ### slices -/
theorem slice_bounds (lo hi : Option Int) (n : Nat) : (sliceBounds lo hi none n).1 = ((HT.sIx n 0 lo : Nat) : Int) ∧ (sliceBounds lo hi none n).2.1 = ((HT.sIx n n hi : Nat) : Int) ∧ (sliceBounds lo hi none n).2.2 = 1 := by
  refine ⟨?_, ?_, rfl⟩
  · cases lo with
    | none => simp [sliceBounds, HT.sIx]
    | some i =>
      simp only [sliceBounds, HT.sIx, Option.getD_none, show (1 : Int) > 0 by decide, if_true]
      by_cases h : i < 0
      · simp only [h, if_true] <;> omega
      · simp only [h, if_false] <;> omega
  · cases hi with
    | none => simp [sliceBounds, HT.sIx]
    | some i =>
      simp only [sliceBounds, HT.sIx, Option.getD_none, show (1 : Int) > 0 by decide, if_true]
      by_cases h : i < 0
      · simp only [h, if_true] <;> omega
      · simp only [h, if_false] <;> omega
theorem slicePick_cut (its : List Value) (lo hi : Option Int) : slicePick its.toArray lo hi none = ((its.drop (HT.sIx its.length 0 lo)).take (HT.sIx its.length its.length hi - HT.sIx its.length 0 lo)).toArray := by
  obtain ⟨h1, h2, h3⟩ := slice_bounds lo hi its.toArray.size
  unfold slicePick
  rw [h1, h2, h3]
  simp only [sliceRange_one, pick_run, List.size_toArray] <;> rfl
/-- xs[lo:hi] of a list: a new list -/
def rSlL (K : PySem.W.Frag) : V → Option Int → Option Int → Hp → VK → Prop := fun x lo hi H Q => ∃ a xs, x = .ref a ∧ SqL K H a xs ∧ ∀ p, H p = none → Q (.ref p) (upd H p (.lst (cutV xs lo hi)))
theorem sl_list : SlR X (rSlL X.K) := by
  intro pins s σ H x v vl vu lo hi sl Q I rx hs pl pu h
  obtain ⟨a, xs, rfl, hx, q⟩ := h
  cases rx
  obtain ⟨its, r, ht, hz⟩ := I.list hx
  have hlen := r.length
  refine ⟨"list", _, slot_list_getitem.lookup, ht.isList.typeIs, ?_⟩
  refine wpAny_getItem_list_slice ht.isList hs pl pu .none (by simp) ?_ (by rw [List.size_toArray] <;> omega)
  rw [slicePick_cut, ← hlen]
  refine ⟨.ref s.heap.objs.size, _, I.laid (t' := s.toks) (o := .lst (cutV xs lo hi)) (fun b ob q => Heap.get?_push_of_some _ q) (Nat.le_refl _) ?_, rfl, q _ (I.hok.fresh (Nat.le_refl _))⟩
  exact ⟨Nat.le_trans (cutV_length xs lo hi) hz, _, 0, (r.drop (HT.sIx xs.length 0 lo)).take (HT.sIx xs.length xs.length hi - HT.sIx xs.length 0 lo), Heap.get?_push_size _ rfl⟩

/-! ### in, not in: flat items -/
def flatV : V → Bool
  | .non => true
  | .bl _ => true
  | .int _ => true
  | .str _ => true
  | _ => false
/-- == of flat values -/
def eqV : V → V → Bool
  | .non, .non => true
  | .bl a, .bl b => a == b
  | .bl a, .int b => (if a then 1 else 0) == b
  | .int a, .bl b => a == (if b then 1 else 0)
  | .int a, .int b => a == b
  | .str a, .str b => a == b
  | _, _ => false
theorem eqAt_V {A : Around} {s : Shared} {y x : V} {u v : Value} (ry : RelV y u) (rx : RelV x v) (fy : flatV y = true) (fx : flatV x = true) : SeqAt.EqAt A s u v (eqV y x) := by
  cases y with
  | non =>
    cases ry
    cases x with
    | non => cases rx; exact SeqAt.EqAt.same _
    | bl b => cases rx; exact SeqAt.EqAt.none_bool b
    | int b => obtain ⟨t, rfl⟩ := rx; exact SeqAt.EqAt.none_int b t
    | str b => obtain ⟨t, rfl⟩ := rx; exact SeqAt.EqAt.none_str b t
    | _ => exact absurd (show false = true from fx) Bool.false_ne_true
  | bl a =>
    cases ry
    cases x with
    | non => cases rx; exact SeqAt.EqAt.bool_none a
    | bl b => cases rx; exact SeqAt.EqAt.bool_bool a b
    | int b => obtain ⟨t, rfl⟩ := rx; exact SeqAt.EqAt.bool_int a b t
    | str b => obtain ⟨t, rfl⟩ := rx; exact SeqAt.EqAt.bool_str a b t
    | _ => exact absurd (show false = true from fx) Bool.false_ne_true
  | int a =>
    obtain ⟨t', rfl⟩ := ry
    cases x with
    | non => cases rx; exact SeqAt.EqAt.int_none a t'
    | bl b => cases rx; exact SeqAt.EqAt.int_bool a t' b
    | int b => obtain ⟨t, rfl⟩ := rx; exact SeqAt.EqAt.int_int a t' b t
    | str b => obtain ⟨t, rfl⟩ := rx; exact SeqAt.EqAt.int_str a t' b t
    | _ => exact absurd (show false = true from fx) Bool.false_ne_true
  | str a =>
    obtain ⟨t', rfl⟩ := ry
    cases x with
    | non => cases rx; exact SeqAt.EqAt.str_none a t'
    | bl b => cases rx; exact SeqAt.EqAt.str_bool a t' b
    | int b => obtain ⟨t, rfl⟩ := rx; exact SeqAt.EqAt.str_int a t' b t
    | str b => obtain ⟨t, rfl⟩ := rx; exact SeqAt.EqAt.str_str a t' b t
    | _ => exact absurd (show false = true from fx) Bool.false_ne_true
  | _ => exact absurd (show false = true from fy) Bool.false_ne_true
/-- the items' answers, read off the values (a value's own answer does not lean on its token) -/
def eqU (x : V) (u : Value) : Bool := match u with
  | .none => eqV .non x
  | .bool b => eqV (.bl b) x
  | .int i _ => eqV (.int i) x
  | .str z _ => eqV (.str z) x
  | _ => false
theorem eqU_of {x y : V} {u : Value} (r : RelV y u) (f : flatV y = true) : eqU x u = eqV y x := by
  cases y with
  | non => cases r; rfl
  | bl b => cases r; rfl
  | int i => obtain ⟨t, rfl⟩ := r; rfl
  | str z => obtain ⟨t, rfl⟩ := r; rfl
  | _ => exact absurd (show false = true from f) Bool.false_ne_true
theorem any_eqU {x : V} : ∀ {xs : List V} {us : List Value}, Vals xs us → xs.all flatV = true → us.any (eqU x) = xs.any fun y => eqV y x
  | _, _, .nil, _ => rfl
  | y :: xs, u :: us, .cons r t, f => by
    rw [List.all_cons, Bool.and_eq_true] at f
    rw [List.any_cons, List.any_cons, eqU_of r f.1, any_eqU t f.2]
theorem mem_eqAt {A : Around} {s : Shared} {x : V} {v : Value} (rx : RelV x v) (fx : flatV x = true) : ∀ {xs : List V} {us : List Value}, Vals xs us → xs.all flatV = true → ∀ u ∈ us, SeqAt.EqAt A s u v (eqU x u)
  | _, _, .nil, _ => fun u hu => by cases hu
  | y :: xs, u :: us, .cons r t, f => fun u' hu => by
    rw [List.all_cons, Bool.and_eq_true] at f
    rcases List.mem_cons.mp hu with rfl | hu
    · rw [eqU_of r f.1]; exact eqAt_V r rx f.1 fx
    · exact mem_eqAt rx fx t f.2 u' hu
def inV (x : V) (xs : List V) : Bool := xs.any fun y => eqV y x
/-- x in a list or tuple of flat items -/
def rIn (K : PySem.W.Frag) (neg : Bool) : R2 := fun x y H Q => ∃ p xs, y = .ref p ∧ (SqL K H p xs ∨ SqT K H p xs) ∧ flatV x = true ∧ xs.all flatV = true ∧ Q (.bl (if neg then !inV x xs else inV x xs)) H
theorem op_in_seq : OpR X (compareOp .In) (rIn X.K false) := by
  intro pins s σ H x y v u Q I rx ry h
  obtain ⟨p, xs, rfl, hq, fx, fs, q⟩ := h
  cases ry
  rcases hq with hq | hq
  · obtain ⟨its, r, pl, hz⟩ := I.list hq
    refine SeqAt.in_listAt (eqU x) pl.isList (fun w hw => mem_eqAt rx fx r fs w (by simpa using hw)) ⟨.bl _, H, I, rfl, ?_⟩
    rw [show its.toArray.any (eqU x) = its.any (eqU x) by simp, any_eqU r fs]
    exact q
  · obtain ⟨its, r, pl, hz⟩ := I.tuple hq
    refine SeqAt.in_tupleAt (eqU x) pl (fun w hw => mem_eqAt rx fx r fs w (by simpa using hw)) ⟨.bl _, H, I, rfl, ?_⟩
    rw [show its.toArray.any (eqU x) = its.any (eqU x) by simp, any_eqU r fs]
    exact q
/-! ### len, list(x), tuple(x) of any list or tuple that is read -/
theorem call_len_seq : CallR X (.builtin "len") (fun xs H Q => ∃ p ys, xs = [.ref p] ∧ (SqL X.K H p ys ∨ SqT X.K H p ys) ∧ Q (.int ys.length) H) := by
  intro pins s σ H xs us Q I r h
  obtain ⟨p, ys, rfl, hq, q⟩ := h
  obtain ⟨u, rfl, rx⟩ := vals1 r
  cases rx
  have hn := line63
  rcases hq with hq | hq
  · obtain ⟨its, r', pl, hz⟩ := I.list hq
    have hlen := r'.length
    exact Calls.call_len_list pl.isList (by simp only [List.size_toArray] <;> omega) ⟨.int ys.length, H, I.tok _, ⟨s.toks + 1, by rw [List.size_toArray, hlen]⟩, q⟩
  · obtain ⟨its, r', pl, hz⟩ := I.tuple hq
    have hlen := r'.length
    exact len_tuple pl (by simp only [List.size_toArray] <;> omega) ⟨.int ys.length, H, I.tok _, ⟨s.toks + 1, by rw [List.size_toArray, hlen]⟩, q⟩
/-! ### the call of a builtin's method: o.m(..) -/
/-- the value is of that builtin type -/
def tyV (K : PySem.W.Frag) (T : String) (x : V) (H : Hp) : Prop := match x with
  | .str _ => T = "str"
  | .int _ => T = "int"
  | .ref p => (T = "list" ∧ ∃ xs, SqL K H p xs) ∨ (T = "tuple" ∧ ∃ o, K.lookup p = some o ∧ o.cls = .type "tuple" ∧ o.dict = none) ∨
      (T = "dict" ∧ ((∃ kvs, H p = some (.dK kvs)) ∨ ∃ kvs, H p = some (.dT kvs))) ∨ (T = "set" ∧ ∃ S n, H p = some (.set S n))
  | _ => False
theorem tyV_is {pins : List (Addr × Obj)} {σ : St} {H : Hp} {s : Shared} {T : String} {x : V} {v : Value} (I : Inv X pins σ H s) (r : RelV x v) (ty : tyV X.K T x H) :
    s.TypeIs v T ∧ ∀ a, v = .ref a → ∃ ob, s.heap.get? a = some ob ∧ ob.dict = none := by
  cases x with
  | str z =>
    obtain ⟨t, rfl⟩ := r
    cases (show T = "str" from ty)
    exact ⟨typeIs_str s z t, fun _ e => nomatch e⟩
  | int i =>
    obtain ⟨t, rfl⟩ := r
    cases (show T = "int" from ty)
    exact ⟨typeIs_int s i t, fun _ e => nomatch e⟩
  | ref p =>
    cases r
    rcases ty with ⟨rfl, xs, hq⟩ | ⟨rfl, o, hk, hc, hd⟩ | ⟨rfl, hk⟩ | ⟨rfl, S, n, hk⟩
    · obtain ⟨its, _, pl, _⟩ := I.list hq
      refine ⟨pl.isList.typeIs, fun a e => ?_⟩
      cases e
      obtain ⟨o, n, e, c, hd, _⟩ := pl
      exact ⟨o, e, hd⟩
    · refine ⟨⟨o, I.kIn p o hk, hc⟩, fun a e => ?_⟩
      cases e
      exact ⟨o, I.kIn _ o hk, hd⟩
    · have z : ∃ o, s.heap.get? p = some o ∧ o.ExactDict := by
        rcases hk with ⟨kvs, hk⟩ | ⟨kvs, hk⟩
        · obtain ⟨_, _, _, _, o, _, _, e, ex, _⟩ := I.hok p _ hk
          exact ⟨o, e, ex⟩
        · obtain ⟨_, _, _, _, o, _, _, e, ex, _⟩ := I.hok p _ hk
          exact ⟨o, e, ex⟩
      obtain ⟨o, e, ex⟩ := z
      refine ⟨⟨o, e, ex.1⟩, fun a e2 => ?_⟩
      cases e2
      exact ⟨o, e, ex.2.1⟩
    · obtain ⟨o, _, _, _, e, ex, _⟩ := I.hok p _ hk
      refine ⟨⟨o, e, ex.1⟩, fun a e2 => ?_⟩
      cases e2
      exact ⟨o, e, ex.2.1⟩
  | _ => exact False.elim ty
def tBM (K : PySem.W.Frag) (T : String) (r : V → List V → Hp → VK → Prop) (to : TE) (t : TA) : TE := fun σ H Q => to σ H fun x H1 => tyV K T x H1 ∧ t σ H1 fun xs H2 => r x xs H2 Q
variable {o e : Expr} {es : List Expr} {to : TE} {t : TA} {name : Str} {apos cpos : Pos} {T id : String} {r : V → List V → Hp → VK → Prop}
theorem pe_bm (pa : PlainAttrs T) (slot : Slot T name id) (hty : typeOf (.builtin id) = pure (.type "method_descriptor")) (hm : MtR X id r) (ho : PE X o to) (ha : PA X (e :: es) t)
    (hbase : attributeBase o name X.env (eval o X.env) = eval o X.env := by rfl)
    (hfew : ((backTo cpos (starEach (e :: es) X.env)).all (fun x => !x.1) && (backToKw cpos (keywordEach [] X.env)).all (fun x => x.1.isSome)
      && decide ((e :: es).length + ([] : List Keyword).length + (if ([] : List Keyword).isEmpty then 0 else 1) < 30)) = true := by rfl)
    (hline : (apos.endLine == cpos.line) = true := by rfl) (hs : starEach (e :: es) X.env = (false, eval e X.env) :: starEach es X.env := by rfl) (hplain : (backTo cpos (starEach es X.env)).any (·.1) = false := by rfl) :
    PE X (.Call (.Attribute o name apos) (e :: es) [] cpos) (tBM X.K T r to t) := by
  intro pins s σ H Q I h
  refine wpAny_Call_method_late hbase hfew hline rfl (thn (ho pins s σ H _ I h) fun v s1 ⟨x, H1, I1, r1, ty, q1⟩ => ?_)
  obtain ⟨h1, h2⟩ := tyV_is I1 r1 ty
  refine ⟨T, id, pa, slot, hty, h1, h2, ?_⟩
  have hA := ha cpos pins s1 σ H1 _ I1 q1
  rw [hs] at hA ⊢
  refine Calls.callWith_builtin (by show (false || (backTo cpos (starEach es X.env)).any (·.1)) = false; rw [hplain] <;> rfl) (Calls.evalArgs_plain ?_)
  exact thn hA fun us s2 ⟨vs, H2, I2, r2, q2⟩ => hm pins s2 σ H2 x vs v us Q I2 r1 r2 q2
/- xs.append(e), list.index on a module's tuple .. are MtR facts of 06m -/
end
end L2

namespace L2
open PySem PySem.Spec PyProof.Rows

def MtM (X : Cx) (id : String) (r : V → List V → Hp → VK → Prop) : Prop :=
  ∀ (pins : List (Addr × Obj)) (s : Shared) (σ : St) (H : Hp) (x : V) (xs : List V) (v : Value) (us : List Value) (Q : VK), Inv X pins σ H s → RelV x v → Vals xs us → r x xs H Q →
    wpAny (model X.prog X.w) X.A (call (.builtin id) (v :: us)) (EP X pins σ Q) X.xe s

/-! ### lists of values -/
theorem Vals.one : ∀ {x : V} {us : List Value}, Vals [x] us → ∃ u, us = [u] ∧ RelV x u
  | _, _, .cons r .nil => ⟨_, rfl, r⟩
section
variable {X : Cx} {pins : List (Addr × Obj)} {σ : St} {H : Hp} {s : Shared} {l b : Addr} {xs ys zs : List V}

/-! ### the two steps: a tracked list is rewritten, a new list is laid -/
theorem Inv.lset {its its' : List Value} {n : Nat} {f : Array Value → Array Value} {t' : Nat} (I : Inv X pins σ H s) (hH : H l = some (.lst xs))
    (e : s.heap.get? l = some { cls := .type "list", data := .seq its.toArray n }) (hf : f its.toArray = its'.toArray) (hv : Vals ys its') (hz : ys.length ≤ sizeLine) :
    Inv X pins σ (upd H l (.lst ys)) { s with heap := s.heap.update l (Obj.mapSeq f), toks := t' } := by
  have q := PySem.IsL.update e f
  rw [hf] at q
  refine I.write (x := l) (e := l) (by rw [hH]; exact trivial) (.inl rfl) (fun b' u hb hu => (Heap.get?_update_other s.heap (Obj.mapSeq f) (Ne.symm hb)).trans hu) ⟨_, q⟩ ?_
  exact ⟨hz, its', _, hv, q⟩
theorem Inv.lnew {its : List Value} {t' : Nat} (I : Inv X pins σ H s) (hv : Vals ys its) (hz : ys.length ≤ sizeLine) :
    Inv X pins σ (upd H s.heap.objs.size (.lst ys)) { s with heap := s.heap.push { cls := .type "list", data := .seq its.toArray }, toks := t' } :=
  I.laid (fun _ _ q => Heap.get?_push_of_some _ q) (Nat.le_refl _) ⟨hz, its, 0, hv, Heap.get?_push_size _ rfl⟩
theorem Inv.fresh (I : Inv X pins σ H s) : H s.heap.objs.size = none := I.hok.fresh (Nat.le_refl _)
theorem Inv.lstM (I : Inv X pins σ H s) (hH : H l = some (.lst xs)) : xs.length ≤ sizeLine ∧ ∃ (its : List Value) (n : Nat), Vals xs its ∧ xs.length = its.length ∧ s.heap.get? l = some { cls := .type "list", data := .seq its.toArray n } := by
  obtain ⟨z, its, n, r, e⟩ := I.hok l _ hH
  exact ⟨z, its, n, r, r.length, e⟩

theorem notLongL {n : Nat} (h : n ≤ sizeLine) : Builtin.List.listTooLong n = false := by
  unfold Builtin.List.listTooLong
  exact decide_eq_false (by omega)
end

section
variable {X : Cx}

/-! ### methods -/
def rAppend : V → List V → Hp → VK → Prop := fun x vs H Q => ∃ l xs y, x = .ref l ∧ vs = [y] ∧ H l = some (.lst xs) ∧ xs.length < sizeLine ∧ Q .non (upd H l (.lst (xs ++ [y])))
theorem mt_append : MtM X "list.append" rAppend := by
  intro pins s σ H x vs v us Q I rx rv h
  obtain ⟨l, xs, y, rfl, rfl, hH, hz, q⟩ := h
  cases rx
  obtain ⟨u, rfl, ru⟩ := rv.one
  obtain ⟨z, its, n, r, hl, e⟩ := I.lstM hH
  refine call_meets F.slot_list_append ⟨_, e, rfl⟩ F.entry_list_append (F.args_list_append_2 _ _) (PySem.list_append l its.toArray n u (by rw [List.size_toArray]; omega)) ⟨e, ?_⟩
  refine ⟨.non, _, I.lset (its' := its ++ [u]) hH e (by simp) (r.append (.cons ru .nil)) ?_, rfl, q⟩
  rw [List.length_append, List.length_singleton]
  omega

def rExtend : V → List V → Hp → VK → Prop := fun x vs H Q => ∃ l b xs zs, x = .ref l ∧ vs = [.ref b] ∧ H l = some (.lst xs) ∧ H b = some (.lst zs) ∧ xs.length + zs.length ≤ sizeLine ∧ Q .non (upd H l (.lst (xs ++ zs)))
theorem mt_extend : MtM X "list.extend" rExtend := by
  intro pins s σ H x vs v us Q I rx rv h
  obtain ⟨l, b, xs, zs, rfl, rfl, hH, hB, hz, q⟩ := h
  cases rx
  obtain ⟨u, rfl, ru⟩ := rv.one
  cases ru
  obtain ⟨z, its, n, r, hl, e⟩ := I.lstM hH
  obtain ⟨z2, its2, n2, r2, hl2, e2⟩ := I.lstM hB
  have hsz : its.toArray.size + its2.toArray.size ≤ sizeLine := by rw [List.size_toArray, List.size_toArray]; omega
  have hlong : ¬ (!its.toArray.isEmpty && Builtin.List.listTooLong (its.toArray.size + its2.toArray.size)) = true := by
    rw [notLongL hsz, Bool.and_false]
    exact Bool.false_ne_true
  refine call_meets F.slot_list_extend ⟨_, e, rfl⟩ F.entry_list_extend (F.args_list_extend_2 _ _)
    (AutoSeq1.list_extend_list_list_0 l its.toArray n b its2.toArray n2 hlong (by rw [List.size_toArray]; omega) (by omega)) ⟨e, e2, ?_⟩
  refine ⟨.non, _, I.lset (its' := its ++ its2) hH e (by simp) (r.append r2) ?_, rfl, q⟩
  rw [List.length_append]
  omega

/-! ### list + list, list += list, list * int -/
def rCat : R2 := fun x y H Q => ∃ l b xs zs, x = .ref l ∧ y = .ref b ∧ H l = some (.lst xs) ∧ H b = some (.lst zs) ∧ xs.length + zs.length ≤ sizeLine ∧ ∀ p, H p = none → Q (.ref p) (upd H p (.lst (xs ++ zs)))
theorem op_cat : OpR X (binaryOp .Add) rCat := by
  intro pins s σ H x y v u Q I rx ry h
  obtain ⟨l, b, xs, zs, rfl, rfl, hH, hB, hz, q⟩ := h
  cases rx
  cases ry
  obtain ⟨z, its, n, r, hl, e⟩ := I.lstM hH
  obtain ⟨z2, its2, n2, r2, hl2, e2⟩ := I.lstM hB
  refine PySem.P.add_list e e2 ?_ (by rw [List.size_toArray, List.size_toArray]; omega)
  have ea : its.toArray ++ its2.toArray = (its ++ its2).toArray := by simp
  rw [ea]
  exact ⟨.ref _, _, I.lnew (t' := s.toks) (r.append r2) (by rw [List.length_append]; omega), rfl, q _ I.fresh⟩
/-! ### del xs[i] -/
end

/-! ### xs[a:b] = ys -/
section
variable {prog : Program} {w : World} {A : Around} {E : Value → Shared → Prop} {s : Shared}
end

section
variable {X : Cx}
end
end L2

namespace Att
open PySem PySem.W PySem.Calls PyProof.Rows

/-! ### the script -/
theorem ints_of_wellAll {P : Params} {h : Heap} : ∀ (ns : List Int) (vs : List Value), WellAll P h vs (ns.map WData.int) → IntsAre vs ns := by
  intro ns
  induction ns with
  | nil =>
    intro vs w
    rw [List.map_nil] at w
    cases w
    exact .nil
  | cons n ns ih =>
    intro vs w
    rw [List.map_cons] at w
    cases w with
    | cons a b =>
      cases a
      exact .cons _ _ (ih _ b)

theorem script_of {l : OpenLaw} {n : Nat} (hn : l.most = some n) {P : Params} {h : Heap} {args : List WData} {vals : List Value}
    (hpre : l.row.toRowW.claim.pre args = true) (hwl : WellAll P h vals args) :
    ∃ a vs ns, vals = [Value.ref a] ∧ args = [WData.list (ns.map WData.int)] ∧ h.get? a = some { cls := .type "list", data := .seq vs.toArray } ∧ IntsAre vs ns ∧ ns.length ≤ n := by
  have hsh : WShape.hasAll [] args [.list .int] = true := (pre_splitW hpre).1
  have hc : l.pre.holds [] { args := args } = true := (pre_splitW hpre).2
  obtain ⟨d, r, rfl, h1, h2⟩ := hasAllW_cons hsh
  obtain rfl := hasAllW_nil h2
  obtain ⟨xs, rfl, h3⟩ := hasW_list h1
  obtain ⟨ns, rfl⟩ := items_int h3
  have hlen : ns.length ≤ n := by
    unfold OpenLaw.pre at hc
    have h4 : (WTm.not (.lt (.lit (.int (n : Int))) (.len (.arg 0)))).holds [] { args := [.list (ns.map .int)] } = true := by
      have h4 := (holds_andW hc).1
      rw [hn] at h4
      exact h4
    have h5 := condW_of h4 (w_not (w_lt w_lit (w_len_list (w_arg rfl))))
    rw [List.length_map] at h5
    refine Nat.le_of_not_lt fun q => ?_
    have q' : (n : Int) < ((ns.length : Nat) : Int) := by omega
    first
      | (rw [decide_eq_true q'] at h5; exact absurd h5 (by decide))
      | (simp at h5; omega)
  cases hwl with
  | cons w1 w2 =>
    cases w2
    cases w1 with
    | list ho hall => exact ⟨_, _, ns, rfl, rfl, ho, ints_of_wellAll ns _ hall, hlen⟩

theorem post_true (l : OpenLaw) (args : List WData) : l.row.toRowW.claim.post args (.bool true) args = true :=
  postW_of (r := l.row.toRowW) (X := (true == true))
    (show WShape.has [] (.bool true) .bool = true by first | rfl | decide | simp [WShape.has, WShape.arms, WShape.armsAll])
    (show (WTm.eq .res (.lit (.bool true))).value [] { args := args, res := some (.bool true), after := args } = some (.bool (true == true)) from w_eq_bool (w_res rfl) w_lit) rfl

/-! ### the attachment: holds_open's last premise (the goal 'hc' behind k_head) from a wpAny of the law's body -/
/-- the same from a codeAny of the CALL (for a layer whose function contracts speak of calls) -/
theorem attach_call {l : OpenLaw} {n : Nat} {q : Program} {loose : List Str} {XP : (Str → Option Value) → Heap → Prop} {YP : World → Heap → Prop} {d : DefRec}
    (hn : l.most = some n) (hdf : d.params.defaults = [])
    (call : ∀ (w : World) (s₀ s₁ : Shared) (mg mb : Str → Option Value) (fa : Addr) (o : Obj) (pm cd doc : Value) (a : Addr) (vs : List Value) (ns : List Int),
      Ground q loose [] XP w s₀ mg mb s₁.heap → YP w s₁.heap →
      s₁.heap.get? fa = some o → o.data = .func (docDef d.name d.params d.body d.scope pm cd doc) → s₁.heap.CodeRec cd d.name → mg d.name = some (.ref fa) →
      s₁.heap.get? a = some { cls := .type "list", data := .seq vs.toArray } → IntsAre vs ns → ns.length ≤ n → s₁.gens = #[] →
      codeAny (model l.prog w) callerA (.call (.ref fa) ⟨[.ref a], []⟩) (fun r s' => r = .ok (.ret (.bool true)) ∧ OldK s₁.heap s'.heap ∧ s'.os = s₁.os ∧ AllBare s'.gens) s₁) :
    WalkO q loose XP YP l.row.toRowW d [] (fun f vs => PySem.call f vs) := by
  intro w s₀ s₁ mg mb G Y fa o pm cd doc dV kV ho hd hcd hD hmg hg args vals as hpre hlay hrd hwl hlo
  obtain rfl : dV = .none := Dflts.none hD hdf
  obtain rfl : kV = .none := Dflts.noKw hD
  obtain ⟨a, vs, ns, rfl, rfl, hobj, hints, hlen⟩ := script_of hn hpre hwl
  refine enter_call (codeAny_mono (call w s₀ s₁ mg mb fa o pm cd doc a vs ns G Y ho (fd_plain hd) hcd hmg hobj hints hlen hg) fun r s' hq => ?_)
  obtain ⟨rfl, h2, h3, h4⟩ := hq
  exact ⟨.inl ⟨.bool true, .bool true, [], rfl, fun _ => rfl, .bool true, post_true l _, fun _ => ⟨List.Pairwise.nil, fun _ hm => (nomatch hm)⟩⟩, h2, h3, h4⟩

/-! ### rules over ANY heap (no ledger) from facts about the written part K: the library's own take a ledger (News) for what they write -/
section
variable {prog : Program} {w : World} {A : Around} {E : Value → Shared → Prop} {s : Shared} {K : Frag}

/-! the whole heap as the ledger: makes every rule that writes through a ledger a rule over any heap -/
end
end Att

namespace L2
open PySem PySem.Spec PyProof.Rows

theorem vals_ints : ∀ {vs : List Value} {ns : List Int}, IntsAre vs ns → Vals (ns.map V.int) vs
  | _, _, .nil => .nil
  | _, _, .cons n t h => .cons ⟨t, rfl⟩ (vals_ints h)

/-- nothing is tracked but the script, known to the object (or it is an object of the module) -/
def Only (H : Hp) : Prop := ∀ b, H b = none ∨ ∃ o xs, H b = some (.frz o (.lst xs))

/-- THE HEAD: the law's promise, at the heap behind the top. F, the promise of the law's def, may use that base is part of the heap (so K.In base, base.Ns mainGlobals mg stand in Mod) -/
theorem law_call {P : Program} {w : World} {K : PySem.W.Frag} {mg mb : Str → Option Value} {CX : CXT} {k : Nat} {fa a : Addr} {fd : FuncData} {x : Str} {sp : Sp} {s₁ : Shared} {vs : List Value} {ns : List Int}
    (KX : K.In s₁.heap) (hns : s₁.heap.Ns mainGlobals mg) (hb : s₁.heap.Ns builtinsNs mb) (hbb : ∀ x : Str, x ≠ "__name__" → mb x = bootBuiltins x) (hlim : s₁.heap.NoLimit) (hg : s₁.gens = #[])
    (ha : s₁.heap.get? a = some { cls := .type "list", data := .seq vs.toArray }) (hi : IntsAre vs ns) (hl : ns.length ≤ sizeLine) (hr : Room k callerA)
    (F : ∀ base : Heap, K.In base → base.Ns mainGlobals mg → FnOk P w K mg base CX k fa fd [x] sp) (hbind : ∀ (s : Shared) (u : Value), BindsTo s fd ⟨[u], []⟩ [(x, u)])
    (hsp : ∀ H : Hp, Only H → SqL K H a (ns.map V.int) → sp [.ref a] H (fun v _ => v = .bl true) fun _ _ _ => False)
    (hCX : ∀ H e s', CX [] H s₁ (fun _ _ _ => False) e s' → False) :
    codeAny (model P w) callerA (.call (.ref fa) ⟨[.ref a], []⟩) (fun r s' => r = .ok (.ret (.bool true)) ∧ OldK s₁.heap s'.heap ∧ s'.os = s₁.os ∧ AllBare s'.gens) s₁ := by
  have rv := vals_ints hi
  have lenV := hi.length
  -- from an abstract heap in which nothing but the script may be tracked
  have core : ∀ H : Hp, Only H → SqL K H a (ns.map V.int) → HOk P w H s₁.heap → (∀ b, H b ≠ none → b = a) → (H a ≠ none → K.lookup a = none) →
      codeAny (model P w) callerA (.call (.ref fa) ⟨[.ref a], []⟩) (fun r s' => r = .ok (.ret (.bool true)) ∧ OldK s₁.heap s'.heap ∧ s'.os = s₁.os ∧ AllBare s'.gens) s₁ := by
    intro H hO hS hok hA hK
    have base_of : ∀ {b : Addr} {o : Obj}, s₁.heap.get? b = some o → H b = none → (hidT s₁.heap H).get? b = some o := fun e n => hidT_get e n
    have noA : ∀ {b : Addr} {o : Obj} {es : Array DictEntry} {ep : Nat}, s₁.heap.get? b = some o → o.data = .dict es ep → H b = none := fun {b o es ep} e d => by
      cases q : H b with
      | none => rfl
      | some u =>
        have e' : b = a := hA b (by rw [q]; simp)
        subst e'
        rw [ha] at e; cases e
        have d' : Data.seq vs.toArray _ = Data.dict es ep := d
        cases d'
    have nsK : ∀ {b : Addr} {m : Str → Option Value}, s₁.heap.Ns b m → (hidT s₁.heap H).Ns b m := fun {b m} ⟨o, es, ep, e, d, r⟩ => ⟨o, es, ep, base_of e (noA e d), d, r⟩
    have hKb : K.In (hidT s₁.heap H) := fun b o e => base_of (KX b o e) (by
      cases q : H b with
      | none => rfl
      | some u =>
        have e' : b = a := hA b (by rw [q]; simp)
        subst e'
        rw [hK (by rw [q]; simp)] at e; cases e)
    have hM : Mod K mg (hidT s₁.heap H) := ⟨hKb, nsK hns, ⟨mb, nsK hb, hbb⟩, let ⟨mc, h1, h2⟩ := hlim; ⟨mc, nsK h1, h2⟩⟩
    have e0 : Env0 P w K mg (hidT s₁.heap H) callerA [] s₁ H := ⟨rfl, hM, fun b o e => of_hidT e, Nat.le_of_eq (hidT_size _ _), trivial, fun b hb => absurd (show b ∈ ([] : List Addr) from hb) (by simp), hok, .of_eq hg⟩
    refine codeAny_mono ((F _ hKb (nsK hns)).run callerA [] s₁ H ⟨[.ref a], []⟩ [.ref a] [.ref a] _ _ hr e0 (hbind s₁ (.ref a)) (.cons rfl .nil) (hsp H hO hS)) fun r s' h => ?_
    cases r with
    | error e => exact (hCX H e s' h).elim
    | ok fl =>
      cases fl with
      | next => exact False.elim h
      | brk => exact False.elim h
      | cont => exact False.elim h
      | ret u =>
        obtain ⟨v, H', os, bare, un, hok', r', q⟩ := h
        have q' : v = .bl true := q
        subst q'
        obtain rfl : u = Value.bool true := r'
        refine ⟨rfl, OldK.of_keep fun b o e => ?_, os, bare⟩
        cases q : H b with
        | none => exact un.keep b o e q (by intro z; exact absurd (show b ∈ ([] : List Addr) from z) (by simp)) (by simp)
        | some u =>
          rcases hO b with z | ⟨ob, xs, z⟩
          · rw [q] at z; cases z
          · have z2 := un.frzs b ob _ z
            obtain ⟨e1, _⟩ := hok b _ z
            obtain ⟨e2, _⟩ := hok' b _ z2
            rw [e] at e1; cases e1
            exact e2
  cases hk : K.lookup a with
  | some o =>
    -- the script is one of the module's own objects
    have e := KX a o hk
    rw [ha] at e
    cases e
    refine core (fun _ => none) (fun _ => .inl rfl) (.inr ⟨_, vs.toArray, _, hk, rfl, rfl, rfl, by rw [List.size_toArray, lenV]; exact hl, by simpa using rv⟩) (fun b u z => by have z' : (none : Option HO) = some u := z; cases z') (fun b z => absurd rfl z) fun z => absurd rfl z
  | none =>
    refine core (fun b => if b = a then some (.frz { cls := .type "list", data := .seq vs.toArray } (.lst (ns.map V.int))) else none) (fun b => ?_) (.inl (.inr ⟨{ cls := .type "list", data := .seq vs.toArray }, if_pos rfl⟩)) (fun b u z => ?_) (fun b z => ?_) fun _ => hk
    · by_cases hb : b = a
      · exact .inr ⟨_, _, if_pos hb⟩
      · exact .inl (if_neg hb)
    · by_cases hb : b = a
      · have z' := (if_pos hb).symm.trans z
        cases z'
        subst hb
        exact ⟨ha, by rw [List.length_map]; exact hl, vs, _, rv, ha⟩
      · have z' := (if_neg hb).symm.trans z
        cases z'
    · by_cases hb : b = a
      · exact hb
      · exact absurd (if_neg hb) z
end L2

namespace L2
open PySem PySem.Spec PyProof.Rows

abbrev KOf {K : PySem.W.Frag} {h : Heap} (_ : K.In h) : PySem.W.Frag := K

/-- the goal that k_head leaves (case hc), from the law's promise. F gives the function object fd (K's own) once, then the promise over every base -/
theorem walk_of {l : PySem.W.OpenLaw} {n k : Nat} {q : Program} {loose : List Str} {XP : (Str → Option Value) → Heap → Prop} {YP : World → Heap → Prop} {d : DefRec} {K : Params → PySem.W.Frag} {CX : World → CXT} {sp : World → Sp} {x : Str}
    (hn : l.most = some n) (hn2 : n ≤ sizeLine) (hdf : d.params.defaults = []) (hr : Room k callerA)
    (hY : ∀ (w : World) (h : Heap), YP w h → (K w.params).In h)
    (F : ∀ (w : World) (mg : Str → Option Value) (fa : Addr) (h : Heap), (K w.params).In h → h.Ns mainGlobals mg → mg d.name = some (.ref fa) →
      ∃ fd : FuncData, (∀ (s : Shared) (u : Value), BindsTo s fd ⟨[u], []⟩ [(x, u)]) ∧
        ∀ base : Heap, (K w.params).In base → base.Ns mainGlobals mg → FnOk l.prog w (K w.params) mg base (CX w) k fa fd [x] (sp w))
    (hsp : ∀ (w : World) (H : Hp) (a : Addr) (ns : List Int), ns.length ≤ n → Only H → SqL (K w.params) H a (ns.map V.int) → sp w [.ref a] H (fun v _ => v = .bl true) fun _ _ _ => False)
    (hCX : ∀ (w : World) (H : Hp) (s : Shared) (e : Value) (s' : Shared), CX w [] H s (fun _ _ _ => False) e s' → False) :
    PySem.W.WalkO q loose XP YP l.row.toRowW d [] (fun f vs => PySem.call f vs) := by
  refine Att.attach_call hn hdf fun w s₀ s₁ mg mb fa o pm cd doc a vs ns G Y ho hd hcd hmg hobj hints hlen hg => ?_
  have KX := hY w _ Y
  obtain ⟨fd, hb, hF⟩ := F w mg fa _ KX G.T.g hmg
  exact law_call KX G.T.g G.T.b G.T.builtins G.T.nolimit hg hobj hints (Nat.le_trans hlen hn2) hr hF hb (fun H hO hS => hsp w H a ns hlen hO hS) fun H e s' => hCX w H s₁ e s'
end L2

/- THE LAST THEOREM (shape; LID, My.* are yours):
   My.Adr: a structure of the addresses that your layer names (classes, functions); My.Txt K t: a structure (Prop) of the equations over K;
   My.txt_mk : {K} {implicit addresses ..} (e1 : nsIn K mainGlobals "law" = some (some (.ref f))) (e2 : K.lookup f = some ⟨oc, od, .func (fnOf "law" "law" params body scope dV kV doc pm an cdv ct), sl⟩) (e3 : codeIn K cdv "law" = true) .. : ∃ t, My.Txt K t

set_option maxRecDepth 100000 in
set_option maxHeartbeats 0 in
theorem PySem.Challenge.cw_LID_holds : PySem.Challenge.rw_LID.Holds := by
  w_on; o_law; k_head; (case hw => w_witness2)
  k_fill
  refine L2.walk_of (l := PySem.Challenge.rw_LID) (n := 63) (k := 40) (x := "script") (CX := fun w => ..) (sp := fun _ => My.sp_law) rfl (by decide) rfl ⟨rfl, by decide, by decide⟩ (fun w h Y => PySem.W.kIn_of Y) ?F ?S ?C
  case F =>
    intro w mg fa h KX G hmg
    have T : ∃ t, My.Txt (L2.KOf KX) t := by
      dsimp only [L2.KOf]                          -- K must stand as «<heap const> w.params» for k_is
      refine' My.txt_mk ?e1 ?e2 ?e3 ..
      (case e1 => PySem.W.k_is)                    -- in the order: a name -> its address -> its object -> its parts
      (case e2 => PySem.W.k_is)
      ..
    obtain ⟨t, T⟩ := T
    have e0 := hmg.symm.trans (PySem.W.mg_of KX G T.law)
    cases e0                                       -- fa is the law's own address
    exact ⟨_, fun s u => .of_eq rfl, fun base kb nb => My.law_fn T kb nb⟩     -- if «.of_eq rfl» comes too early: refine' ⟨_, ?b, fun base kb nb => My.law_fn T kb nb⟩; exact fun s u => .of_eq rfl
  case S => exact fun w H a ns hl hO hS => ..
  case C => exact ..
(the tactic k_is has no namespace: write k_is) -/

/-! SHORT WORDS over the layer: a def of the text, its body, what a loop and a test want. -/
namespace L2
open PySem PySem.Spec PyProof.Rows

/-! ### the text by places -/
def defArgs (s : Stmt) : Arguments := match s with
  | .FunctionDef _ a _ _ _ _ _ _ _ _ => a
  | _ => { posonlyargs := [], args := [], vararg := none, kwonlyargs := [], kw_defaults := [], kwarg := none, defaults := [] }
def defBody (s : Stmt) : List Stmt := match s with
  | .FunctionDef _ _ b _ _ _ _ _ _ _ => b
  | _ => []
def defScope (s : Stmt) : Scope := match s with
  | .FunctionDef _ _ _ _ _ _ sc _ _ _ => sc
  | _ => { kind := .function, names := [], isGenerator := false, isCoroutine := false }

/-! ### no exception leaves a def -/
abbrev CX0 : CXT := fun _ _ _ _ _ _ => False
abbrev E0 : XK := fun _ _ _ => False
theorem pass0 {X : Cx} : Passes CX0 X E0 := fun _ _ _ _ _ _ _ h => h.elim

/-! ### a def (or method) of the text as it stands behind the top -/
structure Fun (K : PySem.W.Frag) (x qual : Str) (st : Stmt) (f : Addr) (fd : FuncData) : Prop where
  ex : ∃ (oc : Value) (od : Option Addr) (kV doc pm : Value) (an : Option Addr) (cdv ct : Value) (osl : Array (Option Value)),
    fd = PySem.W.fnOf x qual (defArgs st) (defBody st) (defScope st) .none kV doc pm an cdv ct ∧ K.lookup f = some ⟨oc, od, .func fd, osl⟩ ∧ PySem.W.codeIn K cdv qual = true
  kp : PySem.W.keepIn K (.ref f) = true
section
variable {P : Program} {w : World} {K : PySem.W.Frag} {mg : Str → Option Value} {base : Heap}
/-- THE RULE for a def: its body as a term of rules, and the reading of that term -/
theorem Fun.ok {x qual : Str} {st : Stmt} {f : Addr} {fd : FuncData} {N ps : List Str} {k : Nat} {sp : Sp} (F : Fun K x qual st f fd) (S : FnScope N ps (defScope st)) (len : ∀ vs H Q E, sp vs H Q E → vs.length = ps.length)
    (hbody : ∀ (cdv : Value) (A : Around) (outer : List Env) (s : Shared) (H : Hp) (vs : List V) (Q : VK) (E : XK), Room k (A.deeper (envOfC qual (defScope st) s.heap.objs.size f cdv)) → sp vs H Q E →
      ∃ t, PSs (cxOf CX0 P w K mg base N qual (defScope st) f cdv A outer s H E).nox (defBody st) t ∧ t { nx := fun _ H' => Q .non H', rt := Q } (start N vs) H) : FnOk P w K mg base CX0 (k + 1) f fd ps sp := by
  obtain ⟨oc, od, kV, doc, pm, an, cdv, ct, osl, rfl, lk, hcd⟩ := F.ex
  refine fn_of lk hcd S len fun A outer s H vs Q E hr hsp => ?_
  obtain ⟨t, h, q⟩ := hbody cdv A outer s H vs Q E hr hsp
  exact ⟨t, h.nox, q⟩
/-- how its arguments bind (no defaults): h is «fun _ _ _ _ _ _ us hl => match us, hl with | [_, _], _ => rfl», one _ a parameter -/
theorem Fun.binds {x qual : Str} {st : Stmt} {f : Addr} {fd : FuncData} {ps : List Str} (F : Fun K x qual st f fd)
    (h : ∀ (kV doc pm : Value) (an : Option Addr) (cdv ct : Value) (us : List Value), us.length = ps.length → bindArgs (PySem.W.fnOf x qual (defArgs st) (defBody st) (defScope st) .none kV doc pm an cdv ct) ⟨us, []⟩ = pure (ps.zip us)) : Binds K fd ps [] := by
  obtain ⟨oc, od, kV, doc, pm, an, cdv, ct, osl, rfl, lk, hcd⟩ := F.ex
  exact .all (h kV doc pm an cdv ct)
theorem fun_mk {x qual : Str} {st : Stmt} {f : Addr} {oc : Value} {od an : Option Addr} {osl : Array (Option Value)} {kV doc pm cdv ct : Value} (l : K.lookup f = some ⟨oc, od, .func (PySem.W.fnOf x qual (defArgs st) (defBody st) (defScope st) .none kV doc pm an cdv ct), osl⟩)
    (c : PySem.W.codeIn K cdv qual = true) (k : PySem.W.keepIn K (.ref f) = true) : Fun K x qual st f (PySem.W.fnOf x qual (defArgs st) (defBody st) (defScope st) .none kV doc pm an cdv ct) := ⟨⟨oc, od, kV, doc, pm, an, cdv, ct, osl, rfl, l, c⟩, k⟩
end
/-! ### expressions in short: the name that stands in the i-th slot -/
section
variable {X : Cx}
theorem pv (i : Nat) {x : Str} {pos : Pos} (hN : X.N[i]? = some x := by rfl) (hv : Vis X.env.scope x := by first | exact Or.inl rfl | exact Or.inr (Or.inl rfl) | exact Or.inr (Or.inr rfl)) (hd : (x == ("__debug__" : Str)) = false := by decide)
    (hcd : (x == ("__classdict__" : Str)) = false := by decide) : PE X (.Name x pos) (tVar i) := pe_var hN hv hd hcd
end

/-! ### tests -/
theorem iteF {A B : Prop} (h : B) : if false = true then A else B := by
  rw [if_neg Bool.false_ne_true]
  exact h
theorem iteT {A B : Prop} (h : A) : if true = true then A else B := by
  rw [if_pos rfl]
  exact h
theorem ite2 {c A B : Prop} [Decidable c] (h1 : c → A) (h2 : ¬ c → B) : if c then A else B := by
  by_cases h : c
  · rw [if_pos h]
    exact h1 h
  · rw [if_neg h]
    exact h2 h
/-! ### heaps -/
/-- all that was tracked is as it was -/
def Same (H H' : Hp) : Prop := ∀ b o, H b = some o → H' b = some o
theorem Same.refl (H : Hp) : Same H H := fun _ _ h => h
theorem Same.trans {H H1 H2 : Hp} (a : Same H H1) (b : Same H1 H2) : Same H H2 := fun c o h => b c o (a c o h)
theorem Same.free {H H' : Hp} (e : Same H H') {l : Addr} (h : H' l = Option.none) : H l = Option.none := by
  cases q : H l with
  | none => rfl
  | some o =>
    rw [e l o q] at h
    cases h
theorem Same.seq {K : PySem.W.Frag} {H H' : Hp} {a : Addr} {xs : List V} (e : Same H H') (h : SqL K H a xs) : SqL K H' a xs := by
  rcases h with (h | ⟨o, h⟩) | h
  · exact .inl (.inl (e _ _ h))
  · exact .inl (.inr ⟨o, e _ _ h⟩)
  · exact .inr h

end L2

set_option maxHeartbeats 4000000
/-! EvExc: refusals of own classes by hand: raise, a callee's refusal that passes, try with one except clause that names, isinstance of a refusal. Over the hand layer (namespace L2), which stands ahead of it. -/
namespace L2
open PySem PySem.Spec PyProof.Rows

theorem ObjOk.there {P : Program} {w : World} {H : Hp} {h : Heap} {a : Addr} {o : HO} (x : ObjOk P w H h a o) : ∃ ob, h.get? a = some ob := by
  cases o with
  | lst xs => obtain ⟨_, _, _, _, e⟩ := x; exact ⟨_, e⟩
  | tup xs => obtain ⟨_, _, _, ob, e, _⟩ := x; exact ⟨ob, e⟩
  | dK kvs => obtain ⟨_, _, _, _, ob, _, _, e, _⟩ := x; exact ⟨_, e⟩
  | dT kvs => obtain ⟨_, _, _, _, ob, _, _, e, _⟩ := x; exact ⟨_, e⟩
  | set S n => obtain ⟨ob, _, _, _, e, _⟩ := x; exact ⟨_, e⟩
  | ins C dx fs => obtain ⟨_, _, _, e, _⟩ := x; exact ⟨_, e⟩
  | own y => exact x
  | xd fs => obtain ⟨_, ⟨_, _, _, e, _⟩, _⟩ := x; exact ⟨_, e⟩
  | rng lo hi => obtain ⟨_, _, _, e⟩ := x; exact ⟨_, e⟩
  | frz ob u => obtain ⟨e, _⟩ := x; exact ⟨_, e⟩
  | tbl ps => exact ⟨_, (show h.get? a = some _ from x)⟩
  | met f y => exact ⟨_, (show h.get? a = some _ from x)⟩
  | ext φ => obtain ⟨_, e, _⟩ := x; exact e

/-- a refusal of the class C at a that has left a frame: its trace stands at T -/
structure FlyT (h0 : Heap) (H : Hp) (a T : Addr) (C : Value) (h : Heap) : Prop where
  na : h0.get? a = none
  fa : H a = none
  nT : h0.get? T = none
  fT : H T = none
  ob : ∃ oe vs a0 oT ts, h.get? a = some oe ∧ oe.cls = C ∧ oe.data = .fields vs ∧ vs[0]? = some a0 ∧ vs[1]? = some (.ref T) ∧ T ≠ a ∧ h.get? T = some oT ∧ oT.data = .fields ts ∧ ts[3]? = some .none
/-- one that was made just now -/
structure Fly0 (h0 : Heap) (H : Hp) (a : Addr) (C : Value) (h : Heap) : Prop where
  na : h0.get? a = none
  fa : H a = none
  ob : ∃ oe vs a0, h.get? a = some oe ∧ oe.cls = C ∧ oe.data = .fields vs ∧ vs[0]? = some a0 ∧ vs[1]? = some .none

/-- how a refusal lies behind a call -/
def CX1 (P : Program) (w : World) : CXT := fun outer H s E e s' => ∃ (a T : Addr) (C : Value) (H' : Hp), e = .ref a ∧ s'.os = s.os ∧ AllBare s'.gens ∧ Un (frs outer) [] H H' s.heap s'.heap ∧ HOk P w H' s'.heap ∧
  FlyT s.heap H' a T C s'.heap ∧ E C none H'
/-- how it lies within a body that lets it pass -/
def XE (X : Cx) (E : XK) : Value → Shared → Prop := fun e s' => ∃ (a : Addr) (C : Value) (H' : Hp) (σ : St), e = .ref a ∧ Inv X [] σ H' s' ∧ (Fly0 X.s₀.heap H' a C s'.heap ∨ ∃ T, FlyT X.s₀.heap H' a T C s'.heap) ∧ E C none H'
section
variable {X : Cx} {pins : List (Addr × Obj)} {σ : St} {H H' : Hp} {s s' : Shared}
theorem Inv.nopins (I : Inv X pins σ H s) : Inv X [] σ H s := I.pins_of fun p hp => nomatch hp
/-- what was not there at the call was not there at the entry -/
theorem Inv.new0 (I : Inv X pins σ H s) (hex : X.ex = []) {b : Addr} (n : s.heap.get? b = none) : X.s₀.heap.get? b = none := by
  cases q : X.s₀.heap.get? b with
  | none => rfl
  | some o =>
    obtain ⟨o', e⟩ := I.base.there b o q (by rw [hex]; simp)
    rw [n] at e; cases e
theorem Inv.newH (I : Inv X pins σ H s) {b : Addr} (n : s.heap.get? b = none) : H b = none := by
  cases q : H b with
  | none => rfl
  | some o =>
    obtain ⟨ob, e⟩ := (I.hok b o q).there
    rw [n] at e; cases e
/-- a callee's refusal passes -/
theorem passE {E : XK} (hex : X.ex = []) : Passes (CX1 X.prog X.w) (X.wish (XE X E)) E := fun pins σ H s e s' I q => by
  obtain ⟨a, T, C, H', rfl, os, bare, un, hok, fl, qE⟩ := q
  have I0 : Inv X pins σ H s := I.unwish
  refine ⟨a, C, H', σ, rfl, (I0.call' os un hok bare (fun b z => absurd z (by simp))).nopins, .inr ⟨T, ?_⟩, qE⟩
  exact ⟨I0.new0 hex fl.na, fl.fa, I0.new0 hex fl.nT, fl.fT, fl.ob⟩
/-- the frames' slots and the records at ts may change -/
structure Shift (X : Cx) (ts : List Addr) (h h' : Heap) : Prop where
  stays : (PySem.W.hideAll h (ts ++ frs X.stack)).StaysIn h'
  up : h.UpToSlots h'

theorem Shift.frame {ts : List Addr} {h' : Heap} (S : Shift X ts s.heap h') (I : Inv X pins σ H s) {b : Addr} (hb : b ∈ frs X.stack) {o : Obj} (e : s.heap.get? b = some o) : ∃ sl, h'.get? b = some { o with slots := sl } := by
  obtain ⟨_, o', e', nf⟩ := I.stack.mem hb
  rw [e] at e'; cases e'
  exact S.up b o e nf
theorem Shift.get {ts : List Addr} {h' : Heap} (S : Shift X ts s.heap h') {b : Addr} {o : Obj} (e : s.heap.get? b = some o) (h1 : b ∉ ts) (h2 : b ∉ frs X.stack) : h'.get? b = some o :=
  S.stays b o (PySem.W.hideAll_get _ e fun z => (List.mem_append.mp z).elim h1 h2)
theorem Shift.hok {ts : List Addr} {h' : Heap} (S : Shift X ts s.heap h') (I : Inv X pins σ H s) (hts : ∀ b ∈ ts, H b = none) : HOk X.prog X.w H h' := fun a o e => by
  refine (I.hok a o e).stay (fun b u hb q => S.get q (fun z => ?_) fun z => ?_) (fun _ q => q) fun _ _ q => q
  · have n := hts b z
    rcases hb with rfl | hb
    · rw [e] at n; cases n
    · rw [hb] at n; cases n
  · have n := I.stkFree b z
    rcases hb with rfl | hb
    · rw [e] at n; cases n
    · rw [hb] at n; cases n
/-- what stood at the entry is as a callee may leave it -/
theorem Shift.un {ts : List Addr} {h' : Heap} (S : Shift X ts s.heap h') (I : Inv X pins σ H s) (hts : ∀ b ∈ ts, X.s₀.heap.get? b = none) : Un X.fs X.ex X.H₀ H X.s₀.heap h' := by
  have nts : ∀ b o, X.s₀.heap.get? b = some o → b ∉ ts := fun b o e z => by rw [hts b z] at e; cases e
  have nL : ∀ b o, X.s₀.heap.get? b = some o → b ≠ X.env.locals := fun b o e => Nat.ne_of_lt (Nat.lt_of_lt_of_le (Heap.lt_size e) I.ok.above)
  have nst : ∀ b o, X.s₀.heap.get? b = some o → b ∉ X.fs → b ∉ frs X.stack := fun b o e hb z => (List.mem_cons.mp (I.stkSub b z)).elim (nL b o e) hb
  refine ⟨fun b o e n hb hx => S.get (I.base.keep b o e n hb hx) (nts b o e) (nst b o e hb), fun b o e n hb hx => ?_, fun b o e n hx => I.base.free b o e n hx, fun b o e hx => ?_, I.base.tups, I.base.frzs, I.base.tbls⟩
  · obtain ⟨sl, e1⟩ := I.base.slot b o e n hb hx
    obtain ⟨_, o', e', nf⟩ := I.funs.mem hb
    rw [e1] at e'; cases e'
    obtain ⟨sl2, e2⟩ := S.up b _ e1 nf
    exact ⟨sl2, e2⟩
  · obtain ⟨o', e1⟩ := I.base.there b o e hx
    by_cases z : b ∈ frs X.stack
    · obtain ⟨sl, e2⟩ := S.frame I z e1
      exact ⟨_, e2⟩
    · exact ⟨o', S.get e1 (nts b o e) z⟩
/-- the trace that was laid -/
theorem Shift.fly {ts : List Addr} {h' : Heap} {a : Addr} {C a0 : Value} (I : Inv X pins σ H s) (hex : X.ex = []) (hts : ∀ b ∈ ts, X.s₀.heap.get? b = none ∧ H b = none) (ha : a ∈ ts)
    (hf : h'.FunFrames (PySem.W.hideAll s.heap (ts ++ frs X.stack)) X.stack) (tr : h'.TracedW (PySem.W.hideAll s.heap (ts ++ frs X.stack)) a C a0) :
    ∃ T, FlyT X.s₀.heap H a T C h' ∧ ∀ p : Addr × Obj, s.heap.get? p.1 = some p.2 → p.1 ∉ ts → p.1 ∉ frs X.stack → p.1 ≠ T := by
  obtain ⟨oe, vs, T, oT, tv, he, ⟨hc, h0⟩, hd, h1, hnT, hTe, hT, hdT, h3⟩ := tr
  have key : X.s₀.heap.get? T = none ∧ H T = none := by
    by_cases z : T ∈ ts
    · exact hts T z
    · have nf : T ∉ frs X.stack := fun q => by
        obtain ⟨_, o, ho, nf⟩ := hf.mem q
        rw [hT] at ho; cases ho
        exact nf _ hdT
      have nn : s.heap.get? T = none := by
        cases q : s.heap.get? T with
        | none => rfl
        | some o =>
          rw [PySem.W.hideAll_get _ q fun y => (List.mem_append.mp y).elim z nf] at hnT
          cases hnT
      exact ⟨I.new0 hex nn, I.newH nn⟩
  refine ⟨T, ⟨(hts a ha).1, (hts a ha).2, key.1, key.2, oe, vs, a0, oT, tv, he, hc, hd, h0, h1, hTe, hT, hdT, h3⟩, fun p e n1 n2 z => ?_⟩
  rw [z] at e n1 n2
  rw [PySem.W.hideAll_get _ e fun y => (List.mem_append.mp y).elim n1 n2] at hnT
  cases hnT
theorem fun_hide (I : Inv X pins σ H s) (ts : List Addr) : s.heap.FunFrames (PySem.W.hideAll s.heap (ts ++ frs X.stack)) X.stack :=
  PySem.W.funFrames_hide I.stack fun env he b hb => List.mem_append_right _ (List.mem_filterMap.mpr ⟨env, he, hb⟩)
theorem hide_stays (h : Heap) (l : List Addr) : (PySem.W.hideAll h l).StaysIn h := fun _ _ e => PySem.W.of_hideAll l e
end

section
variable {P : Program} {w : World} {K : PySem.W.Frag} {mg : Str → Option Value} {base : Heap} {N : List Str} {qual : Str} {scope : Scope} {f : Addr} {cd : Value} {A : Around} {outer : List Env} {s : Shared} {H : Hp} {E : XK}
/-- a refusal leaves the frame -/
theorem xe_of {e : Value} {s' : Shared} (h : XE (cxOf (CX1 P w) P w K mg base N qual scope f cd A outer s H E) E e s') : (cxOf (CX1 P w) P w K mg base N qual scope f cd A outer s H E).xe e s' := by
  obtain ⟨a, C, H', σ, rfl, I, fl, q⟩ := h
  have fin : ∀ (ts : List Addr) (a0 : Value) (h' : Heap), (∀ b ∈ ts, s.heap.get? b = none ∧ H' b = none) → a ∈ ts →
      Heap.LeftW (PySem.W.hideAll s'.heap (ts ++ frs (envOfC qual scope s.heap.objs.size f cd :: outer))) (envOfC qual scope s.heap.objs.size f cd :: outer) a C a0 s'.heap h' →
      CX1 P w outer H s E (.ref a) { s' with heap := h' } := fun ts a0 h' hts ha ⟨k1, k2, k3, k4⟩ => by
    have S : Shift (cxOf (CX1 P w) P w K mg base N qual scope f cd A outer s H E) ts s'.heap h' := ⟨k1, k4⟩
    obtain ⟨T, fT, _⟩ := Shift.fly I rfl hts ha k2 k3
    exact ⟨a, T, C, H', rfl, I.os, I.bare, S.un I fun b z => (hts b z).1, S.hok I fun b z => (hts b z).2, fT, q⟩
  have hfr : (A.deeper (envOfC qual scope s.heap.objs.size f cd)).frames = some (envOfC qual scope s.heap.objs.size f cd :: outer) := I.ok.frames
  rcases fl with fl | ⟨T, fl⟩
  · obtain ⟨oe, vs, a0, he, rfl, hd, h0, h1⟩ := fl.ob
    refine wpAny_leaving_firstW (base := PySem.W.hideAll s'.heap ([a] ++ frs (envOfC qual scope s.heap.objs.size f cd :: outer))) hfr (fun_hide I [a]) rfl he (hide_stays _ _) (PySem.W.hideAll_none _ (List.mem_append_left _ (by simp))) hd h1 h0 fun h' L => ?_
    exact fin [a] a0 h' (fun b hb => by cases (List.mem_singleton.mp hb); exact ⟨fl.na, fl.fa⟩) (by simp) L
  · obtain ⟨oe, vs, a0, oT, tv, he, hc, hd, h0, h1, hTe, hT, hdT, h3⟩ := fl.ob
    refine wpAny_leaving_nextW (base := PySem.W.hideAll s'.heap ([a, T] ++ frs (envOfC qual scope s.heap.objs.size f cd :: outer))) hfr (fun_hide I [a, T]) rfl
      ⟨oe, vs, T, oT, tv, he, ⟨hc, h0⟩, hd, h1, PySem.W.hideAll_none _ (List.mem_append_left _ (by simp)), hTe, hT, hdT, h3⟩ (hide_stays _ _) (PySem.W.hideAll_none _ (List.mem_append_left _ (by simp))) fun h' L => ?_
    refine fin [a, T] a0 h' (fun b hb => ?_) (by simp) L
    rcases List.mem_cons.mp hb with z | z
    · subst z; exact ⟨fl.na, fl.fa⟩
    · cases (List.mem_singleton.mp z); exact ⟨fl.nT, fl.fT⟩
end
/-- THE RULE for a def that may refuse: its body with the wish XE -/
theorem Fun.okX {P : Program} {w : World} {K : PySem.W.Frag} {mg : Str → Option Value} {base : Heap} {x qual : Str} {st : Stmt} {f : Addr} {fd : FuncData} {N ps : List Str} {k : Nat} {sp : Sp} (F : Fun K x qual st f fd) (S : FnScope N ps (defScope st))
    (len : ∀ vs H Q E, sp vs H Q E → vs.length = ps.length)
    (hbody : ∀ (cdv : Value) (A : Around) (outer : List Env) (s : Shared) (H : Hp) (vs : List V) (Q : VK) (E : XK), Room k (A.deeper (envOfC qual (defScope st) s.heap.objs.size f cdv)) → sp vs H Q E →
      ∃ t, PSs ((cxOf (CX1 P w) P w K mg base N qual (defScope st) f cdv A outer s H E).wish (XE (cxOf (CX1 P w) P w K mg base N qual (defScope st) f cdv A outer s H E) E)) (defBody st) t ∧ t { nx := fun _ H' => Q .non H', rt := Q } (start N vs) H) :
    FnOk P w K mg base (CX1 P w) (k + 1) f fd ps sp := by
  obtain ⟨oc, od, kV, doc, pm, an, cdv, ct, osl, rfl, lk, hcd⟩ := F.ex
  refine fn_of lk hcd S len fun A outer s H vs Q E hr hsp => ?_
  obtain ⟨t, h, q⟩ := hbody cdv A outer s H vs Q E hr hsp
  refine ⟨t, fun pins s1 σ H1 D I hw => ?_, q⟩
  exact wpAny_mono (h pins s1 σ H1 D (I.wish _) hw) (fun _ _ z => z.unwish) fun e s2 z => xe_of z
/-! ### raise -/
theorem exc_cls_of {K : PySem.W.Frag} {h : Heap} {C : Addr} {bmB : List Value} {newId : String} (X : K.In h) (q : PySem.W.excIn K C bmB newId = true) :
    ∃ bm N nm q bs hdct sn sub ab col dd k0 k1 k2 k3 k5 mN, h.get? C = some (excClassObj nm q C N bs bm hdct sn sub ab col dd k0 k1 k2 k3 k5 newId) ∧ h.Ns N mN ∧ mN "__init__" = none ∧ OwnTail h bmB bm := by
  unfold PySem.W.excIn at q
  split at q
  · rename_i dd cd sl ho
    split at q
    · rename_i C' bm k0 k1 k2 k3 n k5 hm hs
      simp only [Bool.and_eq_true, beq_iff_eq, Bool.not_eq_true'] at q
      obtain ⟨⟨⟨⟨⟨rfl, rfl⟩, hdel⟩, ht⟩, hok⟩, hni⟩ := q
      obtain ⟨nm, bs, mro, ns, qn, hd, sn, sub, ab, col, del⟩ := cd
      dsimp only at hm hdel hok hni
      subst hm hdel
      have hsl : sl = #[k0, k1, k2, k3, some (.builtin n), k5] := by
        obtain ⟨l⟩ := sl
        simp only at hs
        rw [hs]
      subst hsl
      exact ⟨bm, ns, nm, qn, bs, hd, sn, sub, ab, col, dd, k0, k1, k2, k3, k5, _, X _ _ ho, .of_isNs (PySem.W.isNs_of_in X hok), PySem.W.nsMap_none_of_in X hok hni, PySem.W.tail_of_in X ht⟩
    · cases q
  · cases q
abbrev bmVE : List Value := [.type "ValueError", .type "Exception", .type "BaseException", .type "object"]
abbrev newVE : String := "ValueError.__new__"
def tRaise (C : Addr) (E : XK) (t : TA) : TS := fun _ σ H => t σ H fun vs H1 => vs.length ≤ sizeLine ∧ E (.ref C) none H1
theorem ps_raise {X : Cx} {E : XK} {x : Str} {C : Addr} {np cpos pos : Pos} {e : Expr} {es : List Expr} {t : TA} (hx : PySem.W.excIn X.K C bmVE newVE = true) (hg : Gl X x) (hm : X.mg x = some (.ref C)) (hc : X.calm = true) (hex : X.ex = [])
    (ha : PA (X.wish (XE X E)) (e :: es) t) (hdb : (x == ("__debug__" : Str)) = false := by decide) (he : starEach (e :: es) X.env = (false, eval e X.env) :: starEach es X.env := by rfl) (hpl : (backTo cpos (starEach es X.env)).any (·.1) = false := by rfl) :
    PS (X.wish (XE X E)) (.Raise (some (.Call (.Name x np) (e :: es) [] cpos)) none pos) (tRaise C E t) := by
  intro pins s σ H D I h
  have FB := PySem.F.excBase_ValueError
  obtain ⟨tl, N, nm, q, bs, hdct, sn, sub, ab, col, dd, k0, k1, k2, k3, k5, mN, hC, hN, hni, T⟩ := exc_cls_of I.mod.kin hx
  have he' : starEach (e :: es) (X.wish (XE X E)).env = (false, eval e (X.wish (XE X E)).env) :: starEach es (X.wish (XE X E)).env := he
  refine wpAny_Raise_call_subT (C := C) (nm := nm) (q := q) (N := N) (bs := bs) (bm := tl) (hdct := hdct) (sn := sn) (sub := sub) (ab := ab) (col := col) (dd := dd) (k0 := k0) (k1 := k1) (k2 := k2) (k3 := k3) (k5 := k5)
    FB (mN := mN) (T.hasType FB.hasBase) (I.ok.hd hc) (by rw [he']; show (false || (backTo cpos (starEach es X.env)).any (·.1)) = false; rw [hpl]; rfl) hni (ld_glob I hg hm ⟨rfl, ?_⟩ hdb)
  have hA := ha cpos pins s σ H _ I h
  rw [he'] at hA ⊢
  refine Calls.evalArgs_plain (wpAny_mono hA (fun us s2 h2 => ?_) fun _ _ y => y)
  obtain ⟨vs, H1, I1, r, hz, qE⟩ := h2
  refine ⟨rfl, by show us.length ≤ sizeLine; rw [← r.length]; exact hz, I1.bk _ _ hC, hN.keeps I1.bk, T.keeps I1.bk, fun h' a hm' => ?_⟩
  obtain ⟨t0, hta, _, _⟩ := hm'.there
  have I0 : Inv X pins σ H1 s2 := I1.unwish
  exact ⟨a, .ref C, H1, σ, rfl, (I0.kept (t' := s2.toks) hm'.keeps).nopins, .inl ⟨I0.new0 hex hm'.new, I0.newH hm'.new, _, _, .ref t0, hta, rfl, rfl, rfl, rfl⟩, qE⟩
end L2
/-! EvTry: isinstance of a refusal, except clauses, defs called within an except suite. Behind EvExc. -/
namespace PySem.W
open PySem PySem.Calls PyProof.Rows Builtin Builtin.ObjectAttr Builtin.Getset_descriptor
/-- what is asked of an own class of refusals as the text has made it -/
structure ExcK (K : Frag) (C : Addr) : Prop where
  ex : excIn K C [.type "ValueError", .type "Exception", .type "BaseException", .type "object"] "ValueError.__new__" = true
  ga : findIn K (.ref C) "__getattribute__" = some (some (.builtin "BaseException.__getattribute__"))
  no : findIn K (.ref C) "__getattr__" = some none
  cl : findIn K (.ref C) "__class__" = some (some (.builtin "object.__class__"))
  ob : mroIn K C (.type "object") = some true
  be : mroIn K C (.type "BaseException") = some true
structure ClsK (K : Frag) : Prop where
  gt : specialIn K (.builtin "object.__class__") "__get__" = some (some (.builtin "getset_descriptor.__get__"))
  tk : takesIn K (.builtin "object.__class__") = some true
section
variable {prog : Program} {w : World} {A : Around} {E : Value → Shared → Prop} {s : Shared} {K : Frag} {x C D : Addr} {ox : Obj}
end
end PySem.W

namespace L2
open PySem PySem.Spec PyProof.Rows
/-! ### isinstance by values -/
/-- isinstance(x, c), c one class -/
theorem call_isinst {X : Cx} : CallR X (.builtin "isinstance") (fun xs H Q => ∃ x c t b, xs = [x, c] ∧ TyOf X.K H x t ∧ (∀ u, RelV c u → PySem.W.kitOne X.K t u = some b) ∧ Q (.bl b) H) := by
  intro pins s σ H xs us Q I r h
  obtain ⟨x, c, t, b, rfl, ty, k, q⟩ := h
  obtain ⟨u, w', rfl, r1, r2⟩ := vals2 r
  exact isinst_ok I r1 ty (k _ r2) fun tk => ⟨.bl b, H, I.tok tk, rfl, q⟩
/-! ### try, one clause with a name -/
section
variable {X : Cx} {pins : List (Addr × Obj)} {σ : St} {H : Hp} {s : Shared}
/-- an object that was not tracked is -/
theorem Inv.track {a : Addr} {o : HO} (I : Inv X pins σ H s) (hn : H a = none) (h0 : X.s₀.heap.get? a = none) (hL : a ≠ X.env.locals) (hc : ∀ x c, X.env.cells.lookup x = some c → c ≠ a) (hp : ∀ p ∈ X.pn ++ pins, p.1 ≠ a)
    (new : ObjOk X.prog X.w (upd H a o) s.heap a o) : Inv X pins σ (upd H a o) s := by
  have ne : ∀ b u, H b = some u → b ≠ a := fun b u e => ne_of_none e hn
  refine ⟨I.ok, I.os, I.bare, ⟨I.base.keep, I.base.slot, fun b ob e n hx => ?_, I.base.there, fun b xs e => ?_, fun b ob u e => ?_, fun b ps e => ?_⟩, I.loc, I.cell, ?_, fun x c e => ?_, fun p hp' => ?_, fun b u e => ?_, I.len⟩
  · rw [upd_ne (fun z => by rw [z, h0] at e; cases e)]
    exact I.base.free b ob e n hx
  · have q := I.base.tups b xs e
    rw [upd_ne (ne b _ q)]; exact q
  · have q := I.base.frzs b ob u e
    rw [upd_ne (ne b _ q)]; exact q
  · obtain ⟨m, q⟩ := I.base.tbls b ps e
    exact ⟨m, by rw [upd_ne (ne b _ q)]; exact q⟩
  · rw [upd_ne (Ne.symm hL)]; exact I.free
  · rw [upd_ne (hc x c e)]; exact I.freeC x c e
  · obtain ⟨e, n, r⟩ := I.pin p hp'
    exact ⟨e, by rw [upd_ne (hp p hp')]; exact n, r⟩
  · by_cases hb : b = a
    · subst hb; rw [upd_same] at e; cases e; exact new
    · rw [upd_ne hb] at e
      exact (I.hok b u e).stay (fun _ _ _ q => q) (fun c q => by rw [upd_ne (ne c _ q)]; exact q) fun c xs q => by rw [upd_ne (ne c _ q)]; exact q
end
/-! ### a def that is called within an except suite -/
end L2

namespace L2
open PySem PySem.Spec PyProof.Rows
end L2
/-! EvStr: f-strings with ints, a while whose test need not be monotone. Behind EvTry. -/
namespace L2
open PySem PySem.Spec PyProof.Rows
/-! ### while -/
def WTurn (Pv : St → Hp → Prop) (mu : St → Hp → Nat) (m : Nat) (tb : TS) (D : Ends) (σ : St) (H1 : Hp) : Prop :=
  ∃ N : St → Hp → Prop, (∀ σ' H', N σ' H' → ∃ m', m' < m ∧ m' = mu σ' H' ∧ Pv σ' H') ∧ tb { D with nx := N, ct := N, bk := D.nx } σ H1
theorem WTurn.of {Pv : St → Hp → Prop} {mu : St → Hp → Nat} {m : Nat} {tb : TS} {D : Ends} {σ : St} {H1 : Hp}
    (h : tb { D with nx := fun σ' H' => Pv σ' H' ∧ mu σ' H' < m, ct := fun σ' H' => Pv σ' H' ∧ mu σ' H' < m, bk := D.nx } σ H1) : WTurn Pv mu m tb D σ H1 :=
  ⟨_, fun σ' H' ⟨p, l⟩ => ⟨_, l, rfl, p⟩, h⟩
theorem while_w {c : TT} {tb : TS} {D : Ends} {σ : St} {H : Hp} (Pv : St → Hp → Prop) (mu : St → Hp → Nat) (h0 : Pv σ H)
    (hs : ∀ m σ H, Pv σ H → m = mu σ H → c σ H fun b H1 => if b = true then WTurn Pv mu m tb D σ H1 else D.nx σ H1) : tWhile c tb D σ H := by
  refine ⟨fun m σ H => m = mu σ H ∧ Pv σ H, ⟨_, rfl, h0⟩, ?_⟩
  rintro m σ H ⟨e, p⟩
  exact hs m σ H p e
/-! ### tests that are known -/
theorem ifT {c A B : Prop} [Decidable c] (h : c) (k : A) : if decide c = true then A else B := by
  rw [if_pos (decide_eq_true h)]
  exact k
theorem ifF {c A B : Prop} [Decidable c] (h : ¬ c) (k : B) : if decide c = true then A else B := by
  rw [if_neg (fun z => h (of_decide_eq_true z))]
  exact k
/-! ### f-strings -/
abbrev TF := Str → St → Hp → (Str → Hp → Prop) → Prop
def PF (X : Cx) (es : List Expr) (t : TF) : Prop := ∀ (pins : List (Addr × Obj)) (s : Shared) (σ : St) (H : Hp) (out : Str) (Q : VK), Inv X pins σ H s → t out σ H (fun z H1 => z.length ≤ sizeLine ∧ Q (.str z) H1) →
  wpAny (model X.prog X.w) X.A (joinParts out (evalEach es X.env)) (EP X pins σ Q) X.xe s
theorem pf_nil {X : Cx} : PF X [] (fun out _ H Q => Q out H) := fun pins s σ H out Q I h =>
  joinParts_nil (show EP X pins σ Q _ _ from ⟨.str out, H, I.tok _, ⟨_, rfl⟩, h.2⟩) h.1
theorem pf_cons {X : Cx} {e : Expr} {es : List Expr} {te : TE} {tr : TF} (he : PE X e te) (hr : PF X es tr) :
    PF X (e :: es) (fun out σ H Q => te σ H fun v H1 => ∃ y, v = .str y ∧ (out ++ y).length ≤ sizeLine ∧ tr (out ++ y) σ H1 Q) := fun pins s σ H out Q I h => by
  show wpAny _ _ (joinParts out (eval e X.env :: evalEach es X.env)) _ _ _
  refine joinParts_cons (wpAny_mono (he pins s σ H _ I h) (fun u s1 q => ?_) fun _ _ z => z)
  obtain ⟨v, H1, I1, r, y, rfl, hz, q⟩ := q
  obtain ⟨t, rfl⟩ := r
  exact ⟨hz, hr pins s1 σ H1 _ Q I1 q⟩
theorem pe_fstr {X : Cx} {e1 e2 : Expr} {es : List Expr} {pos : Pos} {t : TF} (h : PF X (e1 :: e2 :: es) t) : PE X (.JoinedStr (e1 :: e2 :: es) pos) (fun σ H Q => t Str.empty σ H fun z H1 => z.length ≤ sizeLine ∧ Q (.str z) H1) :=
  fun pins s σ H Q I hw => JoinedStr_many (h pins s σ H Str.empty Q I hw)
theorem pe_fint {X : Cx} {e : Expr} {te : TE} {pos : Pos} (he : PE X e te) : PE X (.FormattedValue e (-1) none pos) (fun σ H Q => te σ H fun v H1 => ∃ i, v = .int i ∧ i.natAbs.log2 < 1920 ∧ Q (.str (toString i)) H1) := fun pins s σ H Q I hw => by
  refine FormattedValue_plain (wpAny_mono (he pins s σ H _ I hw) (fun u s1 q => ?_) fun _ _ z => z)
  obtain ⟨v, H1, I1, r, i, rfl, hi, q⟩ := q
  obtain ⟨t, rfl⟩ := r
  exact formatField_int_small hi ⟨.str (toString i), H1, I1.tok _, ⟨_, rfl⟩, q⟩
end L2
/-! EvComp: a list comprehension with one for and at most one if, by hand. Behind EvStr. -/
namespace L2
open PySem PySem.Spec PyProof.Rows
/-! ### the closure -/
theorem cellOf_some {env : Env} {x : Str} {c : Addr} (h : env.cells.lookup x = some c) : cellOf env x = pure c := by
  unfold cellOf
  rw [h]
theorem closure_go {env : Env} : ∀ (names : List (Str × NameKind)) (cs : List (Str × Addr)), (∀ x, (x, NameKind.free) ∈ names → ∃ c, env.cells.lookup x = some c) →
    (∀ x c, cs.lookup x = some c → env.cells.lookup x = some c) →
    ∃ cl : List (Str × Addr), (forIn names cs fun (y : Str × NameKind) (r : List (Str × Addr)) => if (y.2 == .free) = true then (do let c ← cellOf env y.1; pure (ForInStep.yield ((y.1, c) :: r)) : Sem _) else pure (ForInStep.yield r)) = pure cl ∧
      (∀ x c, cl.lookup x = some c → env.cells.lookup x = some c) ∧ (∀ x, ((x, NameKind.free) ∈ names ∨ ∃ c, cs.lookup x = some c) → ∃ c, cl.lookup x = some c)
  | [], cs, _, h2 => ⟨cs, rfl, h2, fun x hx => hx.elim (fun z => nomatch z) id⟩
  | (y, k) :: names, cs, h1, h2 => by
    by_cases hk : k = .free
    · subst hk
      obtain ⟨c, hc⟩ := h1 y (List.mem_cons_self ..)
      obtain ⟨cl, e, a, b⟩ := closure_go names ((y, c) :: cs) (fun x hx => h1 x (List.mem_cons_of_mem _ hx)) (fun x c' hx => by
        rw [List.lookup_cons] at hx
        split at hx
        · rename_i hb
          have hb' : x = y := by simpa using hb
          cases hx
          rw [hb']
          exact hc
        · exact h2 x c' hx)
      refine ⟨cl, ?_, a, fun x hx => b x ?_⟩
      · rw [List.forIn_cons]
        simp only [beq_self_eq_true, if_true, cellOf_some hc]
        exact e
      · rcases hx with hx | ⟨c', hx⟩
        · rcases List.mem_cons.mp hx with z | z
          · cases z
            exact .inr ⟨c, by simp⟩
          · exact .inl z
        · by_cases hb : (x == y) = true
          · exact .inr ⟨c, by rw [List.lookup_cons, hb]⟩
          · exact .inr ⟨c', by rw [List.lookup_cons, Bool.not_eq_true _ |>.mp hb]; exact hx⟩
    · obtain ⟨cl, e, a, b⟩ := closure_go names cs (fun x hx => h1 x (List.mem_cons_of_mem _ hx)) h2
      have hb : (k == NameKind.free) = false := by simpa using hk
      refine ⟨cl, ?_, a, fun x hx => b x ?_⟩
      · rw [List.forIn_cons]
        simp only [hb, Bool.false_eq_true, if_false]
        exact e
      · rcases hx with hx | hx
        · rcases List.mem_cons.mp hx with z | z
          · cases z
            exact absurd rfl hk
          · exact .inl z
        · exact .inr hx
theorem closure_of {scope : Scope} {env : Env} (h : ∀ x, (x, NameKind.free) ∈ scope.names → ∃ c, env.cells.lookup x = some c) :
    ∃ cl, closureFor scope env = pure cl ∧ (∀ x c, cl.lookup x = some c → env.cells.lookup x = some c) ∧ ∀ x, (x, NameKind.free) ∈ scope.names → ∃ c, cl.lookup x = some c := by
  obtain ⟨cl, e, a, b⟩ := closure_go scope.names [] h (fun x c hx => nomatch hx)
  refine ⟨cl, ?_, a, fun x hx => b x (.inl hx)⟩
  refine Eq.trans (b := (forIn scope.names [] fun (y : Str × NameKind) (r : List (Str × Addr)) => if (y.2 == .free) = true then (do let c ← cellOf env y.1; pure (ForInStep.yield ((y.1, c) :: r)) : Sem _) else pure (ForInStep.yield r)) >>= fun r => pure r) rfl ?_
  rw [e]
  rfl
/-! ### the loop -/
section
variable {prog : Program} {w : World} {A : Around} {R : Result → Shared → Prop} {s : Shared}
theorem compLoop_any {elt target iter : Expr} {ifs : List Expr} {scope : Scope} {pos : Pos} {it acc : Value} {env : Env} (I : Nat → Shared → Prop)
    (turn : ∀ n s, I n s → wpAny (model prog w) A (pyNext it) (fun r s1 => match r with
      | none => R (.ok .next) s1
      | some v => wpAny (model prog w) A (letOwnedTupleGo target it v) (fun _ s1' => wpAny (model prog w) A (assign target env v) (fun _ s2 =>
          wpAny (model prog w) A (forIn ifs true fun c r => if r = true then do let ok ← isTrue c env (eval c env); pure (ForInStep.yield ok) else pure (ForInStep.yield r)) (fun ok s3 =>
            if ok = true then wpAny (model prog w) A (eval elt env) (fun x s4 =>
              wpAny (model prog w) A (call (.builtin "list.append") [acc, x]) (fun _ s5 => ∃ m, m < n ∧ I m s5) (fun _ _ => False) s4) (fun _ _ => False) s3
            else ∃ m, m < n ∧ I m s3) (fun _ _ => False) s2) (fun _ _ => False) s1') (fun _ _ => False) s1) (fun _ _ => False) s)
    (n : Nat) (h : I n s) : codeAny (model prog w) A (.compLoop (.ListComp elt [⟨target, iter, ifs, 0⟩] scope pos) 0 it acc env) R s := by
  refine codeAny_loop rfl I (fun n s hI => ?_) n h
  show wpAny _ A ((compTurn (.ListComp elt [⟨target, iter, ifs, 0⟩] scope pos) 0 it acc env).onRaise (fun x => do noteFrame x env; theTreesLotGoes x)) _ _ s
  refine wpAny_noted ?_
  rw [compTurn_list]
  refine wpAny_bind (wpAny_standAt (wpAny_bind (wpAny_mono (turn n s hI) (fun r s1 h1 => ?_) fun _ _ h' => h'.elim)))
  cases r with
  | none => exact wpAny_pure h1
  | some v =>
    refine wpAny_bind (wpAny_mono h1 (fun _ s1' h1' => ?_) fun _ _ h' => h'.elim)
    refine wpAny_bind (wpAny_mono h1' (fun _ s2 h2 => wpAny_bind (wpAny_mono h2 (fun ok s3 h3 => ?_) fun _ _ h' => h'.elim)) fun _ _ h' => h'.elim)
    cases ok with
    | false => exact wpAny_pure ⟨rfl, h3⟩
    | true =>
      exact wpAny_bind (wpAny_bind (wpAny_mono h3 (fun x s4 h4 => wpAny_bind (wpAny_mono h4 (fun _ s5 h5 => wpAny_pure (wpAny_pure ⟨rfl, h5⟩)) fun _ _ h' => h'.elim)) fun _ _ h' => h'.elim))
end
/-! ### the block's context -/
def cxC (X : Cx) (s : Shared) (H : Hp) (scope : Scope) (cl : List (Str × Addr)) (C : Addr) (N : List Str) (fp : List Addr) : Cx where
  prog := X.prog
  w := X.w
  K := X.K
  mg := X.mg
  base := X.base
  A := X.A
  N := N
  s₀ := s
  H₀ := H
  env := compEnvC scope cl C X.env
  outer := X.stack
  stack := X.stack
  ex := fp
  fn := fun x => scope.names.lookup x == some NameKind.cell
  calm := X.calm
  pn := []
  xe := fun _ _ => False
/-- slot i of the block is the outer slot, or the block's own -/
def seen (σ : St) (src : List (Option Nat)) : St := src.map fun o => match o with | some j => (σ[j]?).join | none => none
structure CompScope (X : Cx) (scope : Scope) (N : List Str) (src : List (Option Nat)) : Prop where
  kind : scope.kind = .function
  cells : ∀ y ∈ scope.names, y.2 = .cell → scope.names.lookup y.1 = some .cell
  own : ∀ y ∈ scope.names, y.2 = .local → scope.names.lookup y.1 = some .local
  has : ∀ x, (x, NameKind.free) ∈ scope.names → X.env.kindOf x = some .cell ∨ X.env.kindOf x = some .free
  len : src.length = N.length
  src : ∀ (i j : Nat) (x : Str), src[i]? = some (some j) → N[i]? = some x → X.N[j]? = some x ∧ (x, NameKind.free) ∈ scope.names ∧ scope.names.lookup x = some .free
theorem lookup_relabel_free {env : Env} : ∀ {names : List (Str × NameKind)} {x : Str}, names.lookup x = some .free →
    (names.map fun (n, k) => if (k == NameKind.free && env.scope.kind == .function && env.kindOf n == some .cell) then (n, NameKind.cell) else (n, k)).lookup x = some .cell ∨
    (names.map fun (n, k) => if (k == NameKind.free && env.scope.kind == .function && env.kindOf n == some .cell) then (n, NameKind.cell) else (n, k)).lookup x = some .free
  | [], _, h => by simp at h
  | (n, k) :: r, x, h => by
    have ih := @lookup_relabel_free env r x
    show List.lookup x ((if (k == NameKind.free && env.scope.kind == .function && env.kindOf n == some .cell) = true then (n, NameKind.cell) else (n, k)) :: _) = _ ∨ List.lookup x ((if (k == NameKind.free && env.scope.kind == .function && env.kindOf n == some .cell) = true then (n, NameKind.cell) else (n, k)) :: _) = _
    cases hx : x == n with
    | true =>
      simp only [List.lookup_cons, hx] at h
      cases h
      by_cases hc : (NameKind.free == NameKind.free && env.scope.kind == .function && env.kindOf n == some .cell) = true
      · rw [if_pos hc]; left; simp only [List.lookup_cons, hx]
      · rw [if_neg hc]; right; simp only [List.lookup_cons, hx]
    | false =>
      simp only [List.lookup_cons, hx] at h
      by_cases hc : (k == NameKind.free && env.scope.kind == .function && env.kindOf n == some .cell) = true
      · rw [if_pos hc]; simp only [List.lookup_cons, hx]; exact ih h
      · rw [if_neg hc]; simp only [List.lookup_cons, hx]; exact ih h
/-- a cell or a free name of the block was free in it -/
theorem relabel_cell {env : Env} : ∀ {names : List (Str × NameKind)} {x : Str},
    ((names.map fun (n, k) => if (k == NameKind.free && env.scope.kind == .function && env.kindOf n == some .cell) then (n, NameKind.cell) else (n, k)).lookup x = some .cell ∨
    (names.map fun (n, k) => if (k == NameKind.free && env.scope.kind == .function && env.kindOf n == some .cell) then (n, NameKind.cell) else (n, k)).lookup x = some .free) → (x, NameKind.free) ∈ names ∨ (x, NameKind.cell) ∈ names
  | [], _, h => by simp at h
  | (n, k) :: r, x, h => by
    have ih := @relabel_cell env r x
    change List.lookup x ((if (k == NameKind.free && env.scope.kind == .function && env.kindOf n == some .cell) = true then (n, NameKind.cell) else (n, k)) :: _) = _ ∨ List.lookup x ((if (k == NameKind.free && env.scope.kind == .function && env.kindOf n == some .cell) = true then (n, NameKind.cell) else (n, k)) :: _) = _ at h
    cases hx : x == n with
    | true =>
      have e : x = n := by simpa using hx
      by_cases hc : (k == NameKind.free && env.scope.kind == .function && env.kindOf n == some .cell) = true
      · have hk : k = .free := by
          simp only [Bool.and_eq_true, beq_iff_eq] at hc
          exact hc.1.1
        rw [e, hk]; exact .inl (List.mem_cons_self ..)
      · rw [if_neg hc] at h
        simp only [List.lookup_cons, hx, Option.some.injEq] at h
        rcases h with h | h
        · rw [e, h]; exact .inr (List.mem_cons_self ..)
        · rw [e, h]; exact .inl (List.mem_cons_self ..)
    | false =>
      by_cases hc : (k == NameKind.free && env.scope.kind == .function && env.kindOf n == some .cell) = true
      · rw [if_pos hc] at h; simp only [List.lookup_cons, hx] at h; exact (ih h).imp (List.mem_cons_of_mem _) (List.mem_cons_of_mem _)
      · rw [if_neg hc] at h; simp only [List.lookup_cons, hx] at h; exact (ih h).imp (List.mem_cons_of_mem _) (List.mem_cons_of_mem _)
def Weak (σ σ2 : St) : Prop := σ2.length = σ.length ∧ ∀ (i : Nat) (v : V), σ[i]? = some (some v) → σ2[i]? = some (some v)
theorem Weak.refl (σ : St) : Weak σ σ := ⟨rfl, fun _ _ h => h⟩
theorem Weak.set {σ : St} {i : Nat} {o : Option V} (h : ∀ v, σ[i]? ≠ some (some v)) : Weak σ (σ.set i o) := ⟨by simp, fun j v e => by
  have : i ≠ j := fun z => h v (z ▸ e)
  rw [List.getElem?_set_ne this]
  exact e⟩
theorem Weak.trans {a b c : St} (h : Weak a b) (h' : Weak b c) : Weak a c := ⟨h'.1.trans h.1, fun i v e => h'.2 i v (h.2 i v e)⟩
/-- the tests -/
def PIf (X : Cx) (ifs : List Expr) (t : TT) : Prop := ∀ (pins : List (Addr × Obj)) (s : Shared) (σ : St) (H : Hp) (Q : Bool → Hp → Prop), Inv X pins σ H s → t σ H Q →
  wpAny (model X.prog X.w) X.A (forIn ifs true fun c r => if r = true then do let ok ← isTrue c X.env (eval c X.env); pure (ForInStep.yield ok) else pure (ForInStep.yield r)) (TP X pins σ Q) X.xe s
def tYes : TT := fun _ H Q => Q true H
theorem pif_nil {X : Cx} : PIf X [] tYes := fun _ _ _ H _ I h => wpAny_tests_nil ⟨H, I, h⟩
theorem pif_one {X : Cx} {c : Expr} {t : TT} (h : PT X c t) : PIf X [c] t := fun pins s σ H Q I q => wpAny_tests_one (h pins s σ H Q I q)
def tComp (src : List (Option Nat)) (wi : TI) (g : TG) (tc : TT) (te : TE) : TE := fun σ H Q => wi σ H fun J H1 => ∃ W : Nat → Nat → List V → Hp → Prop, (∃ m, W 0 m [] H1) ∧ ∀ i m ys H2, W i m ys H2 →
  (J.stop i H2 ∧ ys.length ≤ sizeLine ∧ ∀ p, H2 p = none → Q (.ref p) (upd H2 p (.lst ys))) ∨
  (J.go i H2 ∧ ∀ x H3, J.yld i H2 x H3 → g x (seen σ src) H3 fun σ2 H4 => Weak (seen σ src) σ2 ∧ tc σ2 H4 fun b H5 =>
    if b = true then te σ2 H5 fun y H6 => ys.length < sizeLine ∧ ∃ m', m' < m ∧ W (i + 1) m' (ys ++ [y]) H6 else ∃ m', m' < m ∧ W (i + 1) m' ys H5)
theorem cellsFrom_app : ∀ (names : List (Str × NameKind)) (n : Nat) (acc : List (Str × Addr)), cellsFrom n names acc = cellsFrom n names [] ++ acc
  | [], _, acc => rfl
  | (x, k) :: r, n, acc => by
    unfold cellsFrom
    split
    · rw [cellsFrom_app r (n + 1) ((x, n) :: acc), cellsFrom_app r (n + 1) [(x, n)], List.append_assoc]
      rfl
    · exact cellsFrom_app r n acc
theorem cellsFrom_mem : ∀ (names : List (Str × NameKind)) (n : Nat) (acc : List (Str × Addr)) (x : Str) (c : Addr), (x, c) ∈ cellsFrom n names acc → (x, c) ∈ acc ∨ (x, NameKind.cell) ∈ names
  | [], _, _, _, _, h => .inl h
  | (y, k) :: r, n, acc, x, c, h => by
    unfold cellsFrom at h
    split at h
    · rename_i hk
      have hk' : k = .cell := by simpa using hk
      rcases cellsFrom_mem r _ _ x c h with z | z
      · rcases List.mem_cons.mp z with z | z
        · cases z
          exact .inr (hk' ▸ List.mem_cons_self ..)
        · exact .inl z
      · exact .inr (List.mem_cons_of_mem _ z)
    · rcases cellsFrom_mem r _ _ x c h with z | z
      · exact .inl z
      · exact .inr (List.mem_cons_of_mem _ z)
theorem new_around {M : Model} {A : Around} {E : Value → Shared → Prop} {s : Shared} {scope : Scope} {globals : Addr} {cl : List (Str × Addr)} {qual : Str} {env : Env} {Q : Env → Shared → Prop}
    (h : ∀ h', h'.Ns s.heap.objs.size (fun _ => none) → (∀ b o, s.heap.get? b = some o → h'.get? b = some o) → CellsOk h' (s.heap.objs.size + 1) (cellsFrom (s.heap.objs.size + 1) scope.names []) →
      Q { scope, locals := s.heap.objs.size, globals, cells := cellsFrom (s.heap.objs.size + 1) scope.names [] ++ cl, qual, func := none, code := env.code, frame := env.frame, builtins := env.builtins } { s with heap := h' }) :
    wpAny M A (newFunctionEnv scope globals cl [] qual none .none (some env)) Q E s := by
  simp only [newFunctionEnv, Option.isSome_some, if_true]
  refine wpAny_bind (wpAny_alloc ?_)
  refine wpAny_bind (wpAny_layCells _ (fun name kind cells => by cases hkc : kind == NameKind.cell <;> simp [hkc]) _ _ _ _ ?_)
  have ok := cellsFrom_ok scope.names (s.heap.push { cls := .type "dict", data := .dict #[] }) (s.heap.objs.size + 1) [] ⟨fun _ _ hm => (nomatch hm), List.Pairwise.nil⟩ (by rw [Heap.size_push]; exact Nat.le_refl _)
  rw [Heap.size_push] at ok
  rw [show ({ s with heap := s.heap.push { cls := .type "dict", data := .dict #[] } } : Shared).heap.objs.size = s.heap.objs.size + 1 from Heap.size_push .., cellsFrom_app]
  rw [List.forIn_nil]
  exact wpAny_bind (wpAny_pure (wpAny_pure (h _ ((Heap.Ns.new s.heap (.type "dict")).keeps (pushCells_keeps _ _)) (fun b o e => pushCells_keeps _ _ b o (Heap.get?_push_of_some _ e)) ok)))
/-- a comprehension, whatever is done with its list -/
theorem comp_core {X : Cx} {elt tg iter : Expr} {ifs : List Expr} {scope : Scope} {pos pos2 : Pos} {N : List Str} {src : List (Option Nat)} {wi : TI} {g : TG} {tc : TT} {te : TE} {use : Option (Value → Sem Unit)} {Post : Value → Shared → Prop} {pins : List (Addr × Obj)} {s : Shared} {σ : St} {H : Hp} {Q : VK}
    (hc : X.calm = true) (S : CompScope X scope N src) (hi : PI X tg iter wi)
    (hg : ∀ s H cl C fp, PG (cxC X s H scope cl C N fp) tg g) (hf : ∀ s H cl C fp, PIf (cxC X s H scope cl C N fp) ifs tc) (he : ∀ s H cl C fp, PE (cxC X s H scope cl C N fp) elt te)
    (hs : ∀ x, foldedSetIterable iter X.env x = pure x) (I : Inv X pins σ H s) (h : tComp src wi g tc te σ H Q)
    (fin : ∀ (C a : Addr) (H1 : Hp) (s' : Shared), (∀ h', Heap.SameBut C s'.heap h' → Inv X pins σ H1 { s' with heap := h' }) → FpOk X pins H1 C → (∃ m, s'.heap.Ns C m) → Q (.ref a) H1 → compPost (model X.prog X.w) X.A X.xe use Post (.ref a) C (.ok .next) s') :
    wpAny (model X.prog X.w) X.A (comprehension (.ListComp elt [⟨tg, iter, ifs, 0⟩] scope pos) scope X.env pos2 (newList []) false (eval iter X.env) use) Post X.xe s := by
  obtain ⟨cl, hcl, cl1, cl2⟩ := closure_of (scope := scope) (env := X.env) (fun x hx => I.ok.has x (S.has x hx))
  refine wpAny_comprehension_free (use := use) rfl hs hcl S.kind S.own (thn (hi pins s σ H _ I h) fun v s1 h1 => thn h1 fun itv s2 h2 => ?_)
  obtain ⟨it, fp, tn, J, H2, rfl, I2, T, st2, f2, W, ⟨m0, w0⟩, turn⟩ := h2
  refine wpAny_newObj_type (new_around fun h3 hns hsb cok => ?_)
  dsimp only at hns hsb cok ⊢
  generalize hHd : s2.heap.push { cls := .type "list", dict := none, data := .seq ([] : List Value).toArray } = Hd at hns hsb cok ⊢
  have hCs : Hd.objs.size = s2.heap.objs.size + 1 := by rw [← hHd, Heap.size_push]
  have hDC : s2.heap.objs.size ≠ Hd.objs.size := by rw [hCs]; exact Nat.ne_of_lt (Nat.lt_succ_self _)
  have below : ∀ b, b < s2.heap.objs.size → b ≠ Hd.objs.size ∧ b ≠ s2.heap.objs.size := fun b hb => ⟨by rw [hCs]; exact Nat.ne_of_lt (Nat.lt_succ_of_lt hb), Nat.ne_of_lt hb⟩
  have old : ∀ b o, s2.heap.get? b = some o → h3.get? b = some o := fun b o e => hsb b o (hHd ▸ Heap.get?_push_of_some _ e)
  have hacc : h3.get? s2.heap.objs.size = some { cls := .type "list", dict := none, data := .seq ([] : List Value).toArray } := hsb _ _ (hHd ▸ Heap.get?_push_size _ rfl)
  have fpObj := T.obj 0 _ st2
  have fpLt : ∀ b ∈ fp, b < s2.heap.objs.size := fun b hb => by
    obtain ⟨o, e, _⟩ := fpObj b hb
    exact Heap.lt_size e
  generalize hown : cellsFrom (Hd.objs.size + 1) scope.names [] = own at cok ⊢
  have ownC : ∀ x c, (x, c) ∈ own → scope.names.lookup x = some .cell := fun x c hm => by
    rw [← hown] at hm
    rcases cellsFrom_mem _ _ _ _ _ hm with z | z
    · exact nomatch z
    · exact S.cells _ z rfl
  have two : ∀ x c, (own ++ cl).lookup x = some c → (cl.lookup x = some c ∧ c < s2.heap.objs.size) ∨ ((x, c) ∈ own ∧ h3.IsCell c none ∧ Hd.objs.size < c) := fun x c e => by
    rw [List.lookup_append] at e
    cases ho : own.lookup x with
    | none =>
      rw [ho, Option.none_or] at e
      obtain ⟨v, q⟩ := I2.cell x c (cl1 x c e)
      exact .inl ⟨e, q.lt⟩
    | some c' =>
      rw [ho, Option.some_or] at e
      cases e
      have hm := mem_of_lookup ho
      exact .inr ⟨hm, (cok.empty x c hm).1, (cok.empty x c hm).2⟩
  have cellNe : ∀ x c, (own ++ cl).lookup x = some c → c ≠ s2.heap.objs.size ∧ ∀ b ∈ fp, c ≠ b := fun x c e => by
    rcases two x c e with ⟨e, lt⟩ | ⟨_, _, lt⟩
    · exact ⟨Nat.ne_of_lt lt, fun b hb => (f2 b hb).2.2.2.2.1 x c (cl1 x c e)⟩
    · rw [hCs] at lt
      exact ⟨Nat.ne_of_gt (Nat.lt_trans (Nat.lt_succ_self _) lt), fun b hb => Nat.ne_of_gt (Nat.lt_trans (fpLt b hb) (Nat.lt_trans (Nat.lt_succ_self _) lt))⟩
  have fresh : ∀ a, s2.heap.objs.size ≤ a → s2.heap.get? a = none := fun a ha => by
    cases e : s2.heap.get? a with
    | none => rfl
    | some o' => exact absurd (Heap.lt_size e) (Nat.not_lt.mpr ha)
  -- the context
  have okY : (cxC X s2 H2 scope (own ++ cl) Hd.objs.size N fp).Ok := by
    refine ⟨I2.ok.mod, S.kind, I2.ok.glob, I2.ok.blt, ?_, ?_, ?_, ?_, fun hcc => I2.ok.hd hcc, I2.ok.frames, .inl rfl, fun b hb => ⟨(below b (fpLt b hb)).1, fun x c e => (cellNe x c e).2 b hb⟩,
      I2.bs, Nat.le_trans I2.ok.bsz I2.sz, fun b o e hb => ?_, fun b hb z => (List.mem_cons.mp (I2.stkSub b z)).elim (f2 b hb).2.1 (f2 b hb).2.2.1, I2.stack, I2.stkFree⟩
    · show s2.heap.objs.size ≤ Hd.objs.size
      rw [hCs]; exact Nat.le_succ _
    · intro x y c e1 e2
      rcases two x c e1 with ⟨e1, l1⟩ | ⟨m1, _, l1⟩ <;> rcases two y c e2 with ⟨e2, l2⟩ | ⟨m2, _, l2⟩
      · exact I2.ok.inj x y c (cl1 x c e1) (cl1 y c e2)
      · rw [hCs] at l2; exact absurd (Nat.lt_trans l1 (Nat.lt_trans (Nat.lt_succ_self _) l2)) (Nat.lt_irrefl _)
      · rw [hCs] at l1; exact absurd (Nat.lt_trans l2 (Nat.lt_trans (Nat.lt_succ_self _) l1)) (Nat.lt_irrefl _)
      · exact name_of_addr cok.apart m1 m2
    · intro x hx
      show ∃ c, (own ++ cl).lookup x = some c
      rw [List.lookup_append]
      cases ho : own.lookup x with
      | some c => exact ⟨c, rfl⟩
      | none =>
        rw [Option.none_or]
        rcases relabel_cell hx with z | z
        · exact cl2 x z
        · have := PySem.W.cellsFrom_some scope.names (Hd.objs.size + 1) [] (.inl (S.cells _ z rfl))
          rw [hown, ho] at this
          cases this
    · intro x c hf e
      have hf' : scope.names.lookup x = some .cell := by simpa [cxC] using hf
      have := PySem.W.cellsFrom_some scope.names (Hd.objs.size + 1) [] (.inl hf')
      rw [hown] at this
      obtain ⟨c', ho⟩ := Option.isSome_iff_exists.mp this
      have e' : (own ++ cl).lookup x = some c := e
      rw [List.lookup_append, ho, Option.some_or] at e'
      cases e'
      have := (cok.empty x c (mem_of_lookup ho)).2
      show s2.heap.objs.size ≤ c
      rw [hCs] at this
      omega
    · rcases (f2 b hb).2.2.2.1 with z | z
      · exact I2.ok.noex b o e z
      · exact absurd (Nat.lt_of_lt_of_le (Heap.lt_size e) (Nat.le_trans I2.ok.bsz z)) (Nat.lt_irrefl _)
  have IY : Inv (cxC X s2 H2 scope (own ++ cl) Hd.objs.size N fp) [] (seen σ src) H2 { s2 with heap := h3 } := by
    refine ⟨okY, rfl, I2.bare, Un.kept old, ⟨_, hns, fun i x v e1 e2 _ => ?_⟩, fun x c e => ?_, I2.hok.fresh (by show s2.heap.objs.size ≤ Hd.objs.size; rw [hCs]; exact Nat.le_succ _), ?_, fun p hp => (nomatch hp), I2.hok.kept old, ?_⟩
    · unfold seen at e2
      rw [List.getElem?_map] at e2
      cases hsr : src[i]? with
      | none => rw [hsr] at e2; cases e2
      | some oj =>
        rw [hsr] at e2
        cases oj with
        | none => cases e2
        | some j =>
          obtain ⟨hN, hfr, hlk⟩ := S.src i j x hsr e1
          have e3 : σ[j]? = some (some v) := by
            have : (σ[j]?).join = some v := Option.some.inj e2
            cases hj : σ[j]? with
            | none => rw [hj] at this; cases this
            | some o => rw [hj] at this; cases this; rfl
          have hk := S.has x hfr
          have vis : Vis X.env.scope x := by
            rcases hk with z | z
            · exact .inr (.inl z)
            · exact .inr (.inr z)
          obtain ⟨m, hnm, hl⟩ := I2.loc
          obtain ⟨u, r, l⟩ := hl j x v hN e3 vis
          refine ⟨u, r, .inr ⟨lookup_relabel_free hlk, ?_⟩⟩
          rcases l with ⟨l1, _⟩ | ⟨_, c, ec, ic⟩
          · rcases hk with z | z <;> (rw [l1] at z; cases z)
          · obtain ⟨c', ec'⟩ := cl2 x hfr
            have := cl1 x c' ec'
            rw [ec] at this
            cases this
            obtain ⟨o, ho, hd⟩ := ic
            have hno : own.lookup x = none := by
              cases ho : own.lookup x with
              | none => rfl
              | some c2 =>
                have := ownC x c2 (mem_of_lookup ho)
                rw [hlk] at this
                cases this
            exact ⟨c, by show (own ++ cl).lookup x = some c; rw [List.lookup_append, hno, Option.none_or]; exact ec', o, old _ _ ho, hd⟩
    · rcases two x c e with ⟨e, _⟩ | ⟨_, q, _⟩
      · obtain ⟨v, o, ho, hd⟩ := I2.cell x c (cl1 x c e)
        exact ⟨v, o, old _ _ ho, hd⟩
      · exact ⟨none, q⟩
    · intro x c e
      rcases two x c e with ⟨e, _⟩ | ⟨_, _, lt⟩
      · exact I2.freeC x c (cl1 x c e)
      · exact I2.hok.fresh (by rw [hCs] at lt; omega)
    · show (seen σ src).length = N.length
      unfold seen
      rw [List.length_map, S.len]
  have dFs : s2.heap.objs.size ∉ frs X.stack := fun z => by
    obtain ⟨_, o, ho, _⟩ := I2.stack.mem z
    exact absurd (Heap.lt_size ho) (Nat.lt_irrefl _)
  have cFs : Hd.objs.size ∉ frs X.stack := fun z => by
    obtain ⟨_, o, ho, _⟩ := I2.stack.mem z
    have z2 := Heap.lt_size ho
    rw [hCs] at z2
    exact absurd z2 (Nat.not_lt.mpr (Nat.le_succ _))
  have stat : ∀ {H' : Hp} {pn : List (Addr × Obj)}, (∀ b ∈ fp, H' b = none) → (∀ p ∈ pn, p.1 = s2.heap.objs.size) → ∀ b ∈ fp, FpOk (cxC X s2 H2 scope (own ++ cl) Hd.objs.size N fp) pn H' b := fun hn hp b hb =>
    ⟨hn b hb, (below b (fpLt b hb)).1, okY.exfs b hb, .inl hb, fun x c e => (cellNe x c e).2 b hb, fun p q z => (below b (fpLt b hb)).2 (z ▸ hp p q)⟩
  have loop : ∀ sA : Shared, sA = { s2 with heap := h3 } →
      codeAny (model X.prog X.w) X.A (.compLoop (.ListComp elt [⟨tg, iter, ifs, 0⟩] scope pos) 0 (.ref it) (.ref s2.heap.objs.size) (compEnvC scope (own ++ cl) Hd.objs.size X.env))
        (compPost (model X.prog X.w) X.A X.xe use Post (.ref s2.heap.objs.size) Hd.objs.size) sA := by
    rintro sA rfl
    refine compLoop_any (fun n s' => ∃ (i : Nat) (ys : List V) (its : List Value) (k : Nat) (σ3 : St) (H3 : Hp), Inv (cxC X s2 H2 scope (own ++ cl) Hd.objs.size N fp) [] σ3 H3 s' ∧ Weak (seen σ src) σ3 ∧ tn i s'.heap ∧ (∀ b ∈ fp, H3 b = none) ∧ W i n ys H3 ∧
        s'.heap.get? s2.heap.objs.size = some { cls := .type "list", data := .seq its.toArray k } ∧ Vals ys its ∧ H3 s2.heap.objs.size = none) ?_ m0
      ⟨0, [], [], 0, _, H2, IY, Weak.refl _, T.keep 0 _ _ st2 (fun b hb o e => old b o e), fun b hb => (f2 b hb).1, w0, hacc, .nil, I2.fresh⟩
    rintro n s3 ⟨i, ys, its, k, σ3, H3, I3, wk, st3, fr3, w3, hD, rv, nD⟩
    have I4 : Inv (cxC X s2 H2 scope (own ++ cl) Hd.objs.size N fp) [] (seen σ src) H3 s3 := I3.weak wk.1.symm wk.2
    have I5 : Inv (cxC X s2 H2 scope (own ++ cl) Hd.objs.size N fp) [(s2.heap.objs.size, { cls := .type "list", data := .seq its.toArray k })] (seen σ src) H3 s3 := I4.pins_of fun p hp => by
      cases List.mem_singleton.mp hp
      exact ⟨hD, nD, hDC, dFs, fun v z => nomatch z⟩
    have one : ∀ p ∈ [((s2.heap.objs.size, { cls := .type "list", data := .seq its.toArray k }) : Addr × Obj)], p.1 = s2.heap.objs.size := fun p hp => by
      cases List.mem_singleton.mp hp
      rfl
    rcases turn i n ys H3 w3 with ⟨stop, hlen, q⟩ | ⟨go, step⟩
    · refine thn (T.done (cxC X s2 H2 scope (own ++ cl) Hd.objs.size N fp) rfl rfl rfl hc i _ s3 _ H3 _ I5 (stat fr3 one) st3 stop) fun r s4 ⟨hr, I6⟩ => ?_
      subst hr
      have hD4 := (I6.pin _ (List.mem_append_right _ (List.mem_singleton.mpr rfl))).1
      obtain ⟨m, hn4, _⟩ := I6.loc
      refine fin Hd.objs.size s2.heap.objs.size (upd H3 s2.heap.objs.size (.lst ys)) s4 (fun h' hsb' => ?_) (I2.fpOk (by rw [hCs]; exact Nat.le_succ _) (by rw [upd_ne (Ne.symm hDC)]; exact I6.free)) ⟨m, hn4⟩ (q _ nD)
      have kp : ∀ b o, b ≠ Hd.objs.size → s4.heap.get? b = some o → h'.get? b = some o := fun b o hb e => (hsb'.2 b hb).trans e
      have neC : ∀ b o, s2.heap.get? b = some o → b ≠ Hd.objs.size := fun b o e => (below b (Heap.lt_size e)).1
      have un : Un (frs X.stack) fp H2 H3 s2.heap h' := by
        have u0 : Un (frs X.stack) fp H2 H3 s2.heap s4.heap := I6.base
        refine ⟨fun b o e n' hb hx => kp b o (neC b o e) (u0.keep b o e n' hb hx), fun b o e n' hb hx => ?_, u0.free, fun b o e hx => ?_, u0.tups, u0.frzs, u0.tbls⟩
        · obtain ⟨sl, e1⟩ := u0.slot b o e n' hb hx
          exact ⟨sl, kp b _ (neC b o e) e1⟩
        · obtain ⟨o', e1⟩ := u0.there b o e hx
          exact ⟨o', kp b o' (neC b o e) e1⟩
      have nC : H3 Hd.objs.size = none := I6.free
      have hok : HOk X.prog X.w H3 h' := fun a o e => (I6.hok a o e).stay (fun b u hb q' => kp b u (fun z => by
        rcases hb with rfl | hb
        · rw [z, nC] at e; cases e
        · rw [z, nC] at hb; cases hb) q') (fun _ q' => q') fun _ _ q' => q'
      have I7 : Inv X pins σ H3 { s4 with heap := h' } := I2.call' (s' := { s4 with heap := h' }) I6.os un hok I6.bare (fun b hb => ⟨(f2 b hb).2.2.2.1, (f2 b hb).2.1, (f2 b hb).2.2.2.2.1, (f2 b hb).2.2.2.2.2⟩)
      have e0 : X.s₀.heap.get? s2.heap.objs.size = none := by
        cases e : X.s₀.heap.get? s2.heap.objs.size with
        | none => rfl
        | some o => exact absurd (Nat.lt_of_lt_of_le (Heap.lt_size e) I2.sz) (Nat.lt_irrefl _)
      have I8 : Inv X pins σ (upd H3 s2.heap.objs.size (.lst ys)) { s4 with heap := h' } := I7.track nD e0 (fun z => Nat.lt_irrefl _ (z ▸ I2.lt)) (fun x c e z => by
        obtain ⟨v, q'⟩ := I2.cell x c e
        exact Nat.lt_irrefl _ (z ▸ q'.lt)) (fun p hp z => Nat.lt_irrefl _ (z ▸ Heap.lt_size (I2.pin p hp).1)) ⟨hlen, its, k, rv, kp _ _ hDC hD4⟩
      exact I8
    · refine thn (T.item (cxC X s2 H2 scope (own ++ cl) Hd.objs.size N fp) rfl rfl rfl hc i _ s3 _ H3 _ I5 (stat fr3 one) st3 go) fun r s4 ⟨u, hr, h4⟩ => ?_
      subst hr
      refine thn h4 fun _ s5 ⟨x, H5, I6, r5, y5, st5, fr5⟩ => ?_
      have I6' := I6.pinned (stat fr5 one) (T.obj _ _ st5)
      refine thn (hg _ _ _ _ _ _ s5 _ H5 x u _ I6' r5 (step x H5 y5)) fun _ s6 ⟨σ6, H6, I7, wk6, q6⟩ => ?_
      refine thn (hf _ _ _ _ _ _ s6 σ6 H6 _ I7 q6) fun ok s7 ⟨H7, I8, q7⟩ => ?_
      have back : ∀ {σ' : St} {H' : Hp} {s' : Shared}, Inv (cxC X s2 H2 scope (own ++ cl) Hd.objs.size N fp) ([(s2.heap.objs.size, { cls := .type "list", data := .seq its.toArray k })] ++ pinsAt fp s5.heap) σ' H' s' →
          tn (i + 1) s'.heap ∧ (∀ b ∈ fp, H' b = none) ∧ s'.heap.get? s2.heap.objs.size = some { cls := .type "list", data := .seq its.toArray k } ∧ H' s2.heap.objs.size = none := fun {σ' H' s'} J => by
        have jD := J.pin (s2.heap.objs.size, { cls := .type "list", data := .seq its.toArray k }) (by simp)
        refine ⟨T.keep _ _ _ st5 fun b hb o e => (J.pin (b, o) (List.mem_append_right _ (List.mem_append_right _ (mem_pinsAt hb e)))).1, fun b hb => ?_, jD.1, jD.2.1⟩
        obtain ⟨o, e, d⟩ := T.obj _ _ st5 b hb
        exact (J.pin (b, o) (List.mem_append_right _ (List.mem_append_right _ (mem_pinsAt hb e)))).2.1
      cases ok with
      | false =>
        rw [if_neg Bool.false_ne_true] at q7
        rw [if_neg Bool.false_ne_true]
        obtain ⟨m', hm, w'⟩ := q7
        obtain ⟨b1, b2, b3, b4⟩ := back I8
        exact ⟨m', hm, i + 1, ys, its, k, σ6, H7, I8.nopins, wk6, b1, b2, w', b3, rv, b4⟩
      | true =>
        rw [if_pos rfl] at q7
        rw [if_pos rfl]
        refine thn (he _ _ _ _ _ _ s7 σ6 H7 _ I8 q7) fun u2 s8 ⟨y, H8, I9, r9, hlt, m', hm, w'⟩ => ?_
        obtain ⟨b1, b2, b3, b4⟩ := back I9
        have hl := rv.length
        refine call_meets F.slot_list_append ⟨_, b3, rfl⟩ F.entry_list_append (F.args_list_append_2 _ _) (PySem.list_append s2.heap.objs.size its.toArray k u2 (by rw [List.size_toArray]; omega)) ⟨b3, ?_⟩
        have qu := PySem.IsL.update b3 (·.push u2)
        rw [show its.toArray.push u2 = (its ++ [u2]).toArray by simp] at qu
        refine ⟨m', hm, i + 1, ys ++ [y], its ++ [u2], _, σ6, H8, ?_, wk6, ?_, b2, w', qu, rv.append (.cons r9 .nil), b4⟩
        · exact I9.nopins.turned (it := s2.heap.objs.size) (fun b o hb e => (Heap.get?_update_other s8.heap (Obj.mapSeq _) (Ne.symm hb)).trans e) b4 hDC (.inr (Nat.le_refl _)) (fun x c e z => (cellNe x c e).1 z) (fun p hp => nomatch hp)
        · exact T.keep _ _ _ b1 fun b hb o e => (Heap.get?_update_other s8.heap (Obj.mapSeq _) ((below b (fpLt b hb)).2.symm)).trans e
  exact codeAny_compStart_list (loop _ rfl) (T.self _ 0 _ _ _ (T.keep 0 _ _ st2 (fun b hb o e => old b o e)) (loop _ rfl))
theorem pe_comp {X : Cx} {elt tg iter : Expr} {ifs : List Expr} {scope : Scope} {pos : Pos} {N : List Str} {src : List (Option Nat)} {wi : TI} {g : TG} {tc : TT} {te : TE} (hc : X.calm = true) (S : CompScope X scope N src) (hi : PI X tg iter wi)
    (hg : ∀ s H cl C fp, PG (cxC X s H scope cl C N fp) tg g) (hf : ∀ s H cl C fp, PIf (cxC X s H scope cl C N fp) ifs tc) (he : ∀ s H cl C fp, PE (cxC X s H scope cl C N fp) elt te)
    (hs : ∀ x, foldedSetIterable iter X.env x = pure x := by intro _; rfl) : PE X (.ListComp elt [⟨tg, iter, ifs, 0⟩] scope pos) (tComp src wi g tc te) := by
  intro pins s σ H Q I h
  rw [eval_ListComp]
  refine comp_core (use := none) hc S hi hg hf he hs I h fun C a H1 s' key _ ⟨m, hn⟩ q => ⟨m, hn, fun h' sb => ⟨.ref a, H1, key h' sb, rfl, q⟩⟩
/-! ### a scope that is written -/
def compOkB (osc sc : Scope) (oN N : List Str) (src : List (Option Nat)) : Bool :=
  sc.names.all (fun y => decide (y.2 ≠ .cell) || decide (sc.names.lookup y.1 = some .cell)) && sc.names.all (fun y => decide (y.2 ≠ .local) || decide (sc.names.lookup y.1 = some .local)) &&
  sc.names.all (fun y => decide (y.2 ≠ .free) || decide (osc.names.lookup y.1 = some .cell) || decide (osc.names.lookup y.1 = some .free)) && decide (src.length = N.length) &&
  (List.range src.length).all (fun i => match src[i]?, N[i]? with | some (some j), some x => decide (oN[j]? = some x) && decide ((x, NameKind.free) ∈ sc.names) && decide (sc.names.lookup x = some .free) | _, _ => true)
theorem comp_scope {X : Cx} {scope : Scope} {N : List Str} {src : List (Option Nat)} (osc : Scope) (oN : List Str) (e1 : X.env.scope = osc) (e2 : X.N = oN) (c : compOkB osc scope oN N src = true) (k : scope.kind = .function) : CompScope X scope N src := by
  unfold compOkB at c
  simp only [Bool.and_eq_true, List.all_eq_true, decide_eq_true_eq, Bool.or_eq_true] at c
  obtain ⟨⟨⟨⟨c1, c2⟩, c3⟩, c4⟩, c5⟩ := c
  refine ⟨k, fun y hy e => (c1 y hy).resolve_left fun z => z e, fun y hy e => ?_, fun x hx => ?_, c4, fun i j x h1 h2 => ?_⟩
  · rcases c2 y hy with z | z
    · exact absurd e z
    · exact z
  · show X.env.scope.names.lookup x = _ ∨ X.env.scope.names.lookup x = _
    rw [e1]
    rcases c3 (x, .free) hx with (z | z) | z
    · exact absurd rfl z
    · exact .inl z
    · exact .inr z
  · have hi : i < src.length := (List.getElem?_eq_some_iff.mp h1).1
    have z := c5 i (List.mem_range.mpr hi)
    rw [h1, h2] at z
    simp only [Bool.and_eq_true, decide_eq_true_eq] at z
    rw [e2]
    exact ⟨z.1.1, z.1.2, z.2⟩
end L2
/-! EvMore: data read off the abstract heap and compared, any, all; promises of defs in bundles. Behind EvComp. -/
namespace L2
open PySem PySem.Spec PyProof.Rows
/-! ### data -/
mutual
def IsD (K : PySem.W.Frag) (H : Hp) : PyData → V → Prop
  | .none, v => v = .non
  | .bool b, v => v = .bl b
  | .int i, v => v = .int i
  | .str x, v => v = .str x
  | .list ds, v => ∃ a xs, v = .ref a ∧ SqL K H a xs ∧ IsDs K H ds xs
  | .tuple ds, v => ∃ a xs, v = .ref a ∧ SqT K H a xs ∧ IsDs K H ds xs
  | .dict _, _ => False
def IsDs (K : PySem.W.Frag) (H : Hp) : List PyData → List V → Prop
  | [], xs => xs = []
  | d :: ds, xs => ∃ x r, xs = x :: r ∧ IsD K H d x ∧ IsDs K H ds r
end
theorem isTup_reads {h : Heap} {a : Addr} {its : Array Value} (t : IsTup h a its) : ∃ o n, h.get? a = some o ∧ o.cls = .type "tuple" ∧ o.data = .seq its n := by
  obtain ⟨o, ho, hc, n, hd⟩ := t
  exact ⟨o, n, ho, hc, hd⟩
section
variable {X : Cx} {pins : List (Addr × Obj)} {σ : St} {H : Hp} {s : Shared}
mutual
theorem IsD.reads (I : Inv X pins σ H s) : ∀ (d : PyData) {v : V} {u : Value}, IsD X.K H d v → RelV v u → ∃ as, Reads s.heap u d as
  | .none, v, u, h, r => by
    simp only [IsD] at h; subst h
    cases (show u = .none from r); exact ⟨_, .none⟩
  | .bool b, v, u, h, r => by
    simp only [IsD] at h; subst h
    cases (show u = .bool b from r); exact ⟨_, .bool b⟩
  | .int i, v, u, h, r => by
    simp only [IsD] at h; subst h
    obtain ⟨t, rfl⟩ := r; exact ⟨_, .int i t⟩
  | .str x, v, u, h, r => by
    simp only [IsD] at h; subst h
    obtain ⟨t, rfl⟩ := r; exact ⟨_, .str x t⟩
  | .list ds, v, u, h, r => by
    simp only [IsD] at h
    obtain ⟨a, xs, rfl, hs, hd⟩ := h
    cases (show u = .ref a from r)
    obtain ⟨its, rv, p, _⟩ := I.list hs
    obtain ⟨o, ho, hc, n, hdd⟩ := p.isList
    obtain ⟨as, ra⟩ := IsDs.reads I ds hd rv
    exact ⟨_, .list ho hc hdd (by simpa using ra)⟩
  | .tuple ds, v, u, h, r => by
    simp only [IsD] at h
    obtain ⟨a, xs, rfl, hs, hd⟩ := h
    cases (show u = .ref a from r)
    obtain ⟨its, rv, p, _⟩ := I.tuple hs
    obtain ⟨o, n, ho, hc, hdd⟩ := isTup_reads p
    obtain ⟨as, ra⟩ := IsDs.reads I ds hd rv
    exact ⟨_, .tuple ho hc hdd (by simpa using ra)⟩
  | .dict _, v, u, h, r => by
    simp only [IsD] at h
theorem IsDs.reads (I : Inv X pins σ H s) : ∀ (ds : List PyData) {vs : List V} {us : List Value}, IsDs X.K H ds vs → Vals vs us → ∃ as, ReadsAll s.heap us ds as
  | [], vs, us, h, r => by
    simp only [IsDs] at h; subst h
    cases r; exact ⟨_, .nil⟩
  | d :: ds, vs, us, h, r => by
    simp only [IsDs] at h
    obtain ⟨x, rr, rfl, hx, hr⟩ := h
    cases r with
    | cons r1 r2 =>
      obtain ⟨as, ra⟩ := IsD.reads I d hx r1
      obtain ⟨bs, rb⟩ := IsDs.reads I ds hr r2
      exact ⟨_, .cons ra rb⟩
end
end
mutual
theorem IsD.imp {K : PySem.W.Frag} {H H' : Hp} (sl : ∀ a xs, SqL K H a xs → SqL K H' a xs) (st : ∀ a xs, SqT K H a xs → SqT K H' a xs) : ∀ (d : PyData) {v : V}, IsD K H d v → IsD K H' d v
  | .none, v, h => by simp only [IsD] at h ⊢; exact h
  | .bool b, v, h => by simp only [IsD] at h ⊢; exact h
  | .int i, v, h => by simp only [IsD] at h ⊢; exact h
  | .str x, v, h => by simp only [IsD] at h ⊢; exact h
  | .list ds, v, h => by
    simp only [IsD] at h ⊢
    obtain ⟨a, xs, e, hs, hd⟩ := h
    exact ⟨a, xs, e, sl a xs hs, IsDs.imp sl st ds hd⟩
  | .tuple ds, v, h => by
    simp only [IsD] at h ⊢
    obtain ⟨a, xs, e, hs, hd⟩ := h
    exact ⟨a, xs, e, st a xs hs, IsDs.imp sl st ds hd⟩
  | .dict _, v, h => by simp only [IsD] at h
theorem IsDs.imp {K : PySem.W.Frag} {H H' : Hp} (sl : ∀ a xs, SqL K H a xs → SqL K H' a xs) (st : ∀ a xs, SqT K H a xs → SqT K H' a xs) : ∀ (ds : List PyData) {vs : List V}, IsDs K H ds vs → IsDs K H' ds vs
  | [], vs, h => by simp only [IsDs] at h ⊢; exact h
  | d :: ds, vs, h => by
    simp only [IsDs] at h ⊢
    obtain ⟨x, r, e, hx, hr⟩ := h
    exact ⟨x, r, e, IsD.imp sl st d hx, IsDs.imp sl st ds hr⟩
end
/-! ### == and != of data -/
def rEqD (K : PySem.W.Frag) (neg : Bool) : R2 := fun x y H Q => ∃ da db, IsD K H da x ∧ IsD K H db y ∧ PySem.SeqAt.shaped da = true ∧ PySem.SeqAt.shaped db = true ∧ Q (.bl (if neg then !PyData.eqv da db else PyData.eqv da db)) H
theorem op_eqD {X : Cx} (hu : X.A.units + 64 < cLine) : OpR X (compareOp .Eq) (rEqD X.K false) := by
  intro pins s σ H x y v u Q I rx ry h
  obtain ⟨da, db, ha, hb, sa, sb, q⟩ := h
  obtain ⟨as, ra⟩ := IsD.reads I da ha rx
  obtain ⟨bs, rb⟩ := IsD.reads I db hb ry
  exact PySem.SeqAt.compareEq_shaped ra rb sa sb hu ⟨.bl _, H, I, rfl, q⟩
/-! ### any, all -/
theorem bools_of : ∀ {bs : List Bool} {us : List Value}, Vals (bs.map V.bl) us → LSm.BoolsAre us bs
  | [], _, .nil => .nil
  | b :: bs, _, .cons h t => by
    cases (show _ = Value.bool b from h)
    exact .cons b (bools_of t)
theorem call_any {X : Cx} (hc : X.calm = true) : CallR X (.builtin "any") (fun xs H Q => ∃ (a : Addr) (bs : List Bool), xs = [.ref a] ∧ SqL X.K H a (bs.map V.bl) ∧ Q (.bl (bs.any id)) H) := by
  intro pins s σ H xs us Q I r h
  obtain ⟨a, bs, rfl, hS, q⟩ := h
  obtain ⟨u, rfl, ru⟩ := r.one
  cases (show u = Value.ref a from ru)
  obtain ⟨its, rv, p, _⟩ := I.list hS
  have hl := p.isList
  have hb := bools_of rv
  have hlt : a < s.heap.objs.size := by obtain ⟨_, e, _⟩ := hl; exact Heap.lt_size e
  refine call_any_walk (wpAny_pyIter_list hl ?_)
  refine ⟨s.heap.objs.size, [s.heap.objs.size, a], [s.heap.objs.size], its.toArray.size, _, _, fun i => (bs[i]?).getD false, rfl, Walks.list (A := X.A.in1) (I.ok.hd hc) _ a (Nat.ne_of_lt hlt) its.toArray,
    ⟨⟨_, Heap.get?_push_size _ rfl, rfl, rfl⟩, hl.push _⟩, fun i v s' Q' E' hP hQ => ?_, fun h' tk hk => ?_⟩
  · obtain ⟨b, e, rfl⟩ := hb.get i v (by simpa using hP)
    simp only [e, Option.getD_some] at hQ
    exact wpAny_truthy_bool hQ
  · have e : ((List.range its.toArray.size).any fun i => (bs[i]?).getD false) = bs.any id := by
      rw [List.size_toArray, hb.length]; exact LSm.range_any bs
    rw [e]
    exact ⟨.bl _, H, I.kept (LSm.kept_iter hk), rfl, q⟩
/-! ### a def with its promise, in one -/
def Pm (P : Program) (w : World) (K : PySem.W.Frag) (mg : Str → Option Value) (base : Heap) (CX : CXT) (k : Nat) (x : Str) (ps : List Str) (sp : Sp) : Prop :=
  ∃ (f : Addr) (fd : FuncData), mg x = some (.ref f) ∧ PySem.W.keepIn K (.ref f) = true ∧ Binds K fd ps [] ∧ FnOk P w K mg base CX k f fd ps sp
theorem pe_callP {X : Cx} {CX : CXT} {k : Nat} {x : Str} {ps : List Str} {sp : Sp} {E : XK} {p pos : Pos} {e : Expr} {es : List Expr} {t : TA} (h : Pm X.prog X.w X.K X.mg X.base CX k x ps sp) (hr : Room k X.A) (hg : Gl X x) (hx : Passes CX X E) (ha : PA X (e :: es) t)
    (hdb : (x == ("__debug__" : Str)) = false := by decide) (he : starEach (e :: es) X.env = (false, eval e X.env) :: starEach es X.env := by rfl) (hpl : (backTo pos (starEach es X.env)).any (·.1) = false := by rfl) :
    PE X (.Call (.Name x p) (e :: es) [] pos) (tCall sp [] E t) := by
  obtain ⟨f, fd, hm, hk, hb, F⟩ := h
  exact pe_call F hr hg hm hk hb .nil hx ha hdb he hpl
end L2
/-! EvQ: made by mkq.py. The rules over structures. -/
namespace L2
open PySem PySem.Spec PyProof.Rows
set_option autoImplicit true
set_option relaxedAutoImplicit true
structure QE (X : Cx) (e : Expr) (t : TE) : Prop where
  h : PE X e t
structure QT (X : Cx) (e : Expr) (t : TT) : Prop where
  h : PT X e t
structure QW (X : Cx) (e : Expr) (t : TT) : Prop where
  h : PW X e t
structure QA (X : Cx) (e : List Expr) (t : TA) : Prop where
  h : PA X e t
structure QS (X : Cx) (e : Stmt) (t : TS) : Prop where
  h : PS X e t
structure QSs (X : Cx) (e : List Stmt) (t : TS) : Prop where
  h : PSs X e t
structure QGs (X : Cx) (e : List Expr) (t : TGs) : Prop where
  h : PGs X e t
structure QG (X : Cx) (e : Expr) (t : TG) : Prop where
  h : PG X e t
structure QF (X : Cx) (e : List Expr) (t : TF) : Prop where
  h : PF X e t
structure QIf (X : Cx) (e : List Expr) (t : TT) : Prop where
  h : PIf X e t
structure QO (X : Cx) (e : Option Expr) (t : TO) : Prop where
  h : PO X e t
structure QI (X : Cx) (tg iter : Expr) (t : TI) : Prop where
  h : PI X tg iter t
theorem QW.pt {X : Cx} {e : Expr} {t : TT} (k : QW X e t) : QT X e t := ⟨k.h.pt⟩
theorem QSs.nox {X : Cx} {e : List Stmt} {t : TS} (k : QSs X.nox e t) : QSs X e t := ⟨k.h.nox⟩
theorem qe_int {i j pos} : QE X (.Constant (.int i) j pos) (tC (.int i)) := ⟨pe_int ⟩
theorem qe_bl {b j pos} : QE X (.Constant (.bool b) j pos) (tC (.bl b)) := ⟨pe_bl ⟩
theorem qe_str {x j pos} : QE X (.Constant (.str x) j pos) (tC (.str x)) := ⟨pe_str ⟩
theorem qe_bltn {x : Str} {v : V} {u : Value} {pos : Pos} (hg : Gl X x) (hm : X.mg x = none) (hv : bootBuiltins x = some u) (r : RelV v u) (hn : x ≠ "__name__" := by decide) (hd : (x == ("__debug__" : Str)) = false := by decide) : QE X (.Name x pos) (tC v) := ⟨pe_bltn (hg) (hm) (hv) (r) (hn) (hd)⟩
theorem qt_val {e : Expr} {t : TE} (h : QE X e t) (he : ∀ whole, isTrue e X.env whole = (do let v ← whole; standAt e.pos; holding [v] (truthy v)) := by intro _; rfl) : QT X e (tB t) := ⟨pt_val h.h (he)⟩
theorem qw_and1 (ha : QT X a tA) : QW X (.BoolOp .And [a] pos) tA := ⟨pw_and1 ha.h⟩
theorem qw_or1 (ha : QT X a tA) : QW X (.BoolOp .Or [a] pos) tA := ⟨pw_or1 ha.h⟩
theorem qw_and (ha : QT X a tA) (hb : QW X (.BoolOp .And (b :: restq) pos) tB') : QW X (.BoolOp .And (a :: b :: restq) pos) (tAnd tA tB') := ⟨pw_and ha.h hb.h⟩
theorem qw_or (ha : QT X a tA) (hb : QW X (.BoolOp .Or (b :: restq) pos) tB') : QW X (.BoolOp .Or (a :: b :: restq) pos) (tOr tA tB') := ⟨pw_or ha.h hb.h⟩
theorem qt_not (ha : QT X a tA) : QT X (.UnaryOp .Not a pos) (tNot tA) := ⟨pt_not ha.h⟩
theorem qe_one {op} {t : TE} (h : QE X a t) : QE X (.BoolOp op [a] pos) t := ⟨pe_one h.h⟩
theorem qe_and (ha : QE X a ta) (hb : QE X (.BoolOp .And (b :: restq) pos) tb) : QE X (.BoolOp .And (a :: b :: restq) pos) (tAndV ta tb) := ⟨pe_and ha.h hb.h⟩
theorem qe_or (ha : QE X a ta) (hb : QE X (.BoolOp .Or (b :: restq) pos) tb) : QE X (.BoolOp .Or (a :: b :: restq) pos) (tOrV ta tb) := ⟨pe_or ha.h hb.h⟩
theorem qe_not (ha : QE X a ta) : QE X (.UnaryOp .Not a pos) (tNotV ta) := ⟨pe_not ha.h⟩
theorem qss_nil  : QSs X [] tNext := ⟨pss_nil ⟩
theorem qss_cons (h1 : QS X stq t) (h2 : QSs X restq u) : QSs X (stq :: restq) (tSeq t u) := ⟨pss_cons h1.h h2.h⟩
theorem qss_one (h1 : QS X stq t) : QSs X [stq] t := ⟨pss_one h1.h⟩
theorem qs_expr (he : QE X e te) (hs : swapsWith e none pos.line X.env = pure false := by rfl) : QS X (.Expr e pos) (tDrop te) := ⟨ps_expr he.h (hs)⟩
theorem qs_ret (he : QE X e te) : QS X (.Return (some e) pos) (tRet te) := ⟨ps_ret he.h⟩
theorem qs_if {c : Expr} {a b : List Stmt} {tc : TT} (hc : QT X c tc) (ha : QSs X a t) (hb : QSs X b u) : QS X (.If c a b pos) (tIfS tc t u) := ⟨ps_if hc.h ha.h hb.h⟩
theorem qg_name {i : Nat} {x : Str} (hN : X.N.Nodup) (hiq : X.N[i]? = some x) (hx : Loc X.env.scope x) (hf : X.fn x = true ∨ X.env.scope.names.lookup x = some .local := by first | exact .inl rfl | exact .inr rfl | assumption) : QG X (.Name x pos) (gName i) := ⟨pg_name (hN) (hiq) (hx) (hf)⟩
theorem qgs_nil  : QGs X [] gNil := ⟨pgs_nil ⟩
theorem qgs_cons {e : Expr} {es : List Expr} {t : TG} {u : TGs} (h1 : QG X e t) (h2 : QGs X es u) (hs : (assignEach (e :: es) X.env).map (·.2) = assign e X.env :: (assignEach es X.env).map (·.2) := by rfl) : QGs X (e :: es) (gCons t u) := ⟨pgs_cons h1.h h2.h (hs)⟩
theorem qg_tup {es : List Expr} {k : Nat} {t : TGs} {n : Nat} (hc : X.calm = true) (h : QGs X es t) (hn : (assignEach es X.env).length = n := by rfl) (hst : (assignEach es X.env).findIdx? (·.1) = none := by rfl) : QG X (.Tuple es k pos) (gTup X.K n t) := ⟨pg_tup (hc) h.h (hn) (hst)⟩
theorem qg_sub {o i : Expr} {to ti : TE} {t : TSet} (ho : QE X o to) (hiq : QE X i ti) (hs : PSet X t) (ha : ∀ v, assign (.Subscript o i pos) X.env v = (do
      let ov ← holding [v] (eval o X.env)
      let iv ← holding [v, ov] (eval i X.env)
      standAt pos
      holding [v, ov, iv] (setItem ov iv v)
      release [v, ov, iv] []) := by intro _; rfl) : QG X (.Subscript o i pos) (gSub to ti t) := ⟨pg_sub ho.h hiq.h (hs) (ha)⟩
theorem qs_asg {tg e : Expr} {te : TE} {g : TG} (he : QE X e te) (hg : QG X tg g) (hs : swapsWithSole [tg] e pos.line X.env = pure false := by rfl) (hw : swappedStores [tg] e X.env = pure none := by rfl) (h1 : (assignEach [tg] X.env).map (·.2) = [assign tg X.env] := by rfl) : QS X (.Assign [tg] e pos) (tAsg te g) := ⟨ps_asg he.h hg.h (hs) (hw) (h1)⟩
theorem qs_set {i : Nat} {x : Str} {e : Expr} {te : TE} {pos' : Pos} (hN : X.N.Nodup) (hiq : X.N[i]? = some x) (hx : Loc X.env.scope x) (he : QE X e te) (hs : swapsWith e (some (.Name x pos')) pos.line X.env = pure false := by rfl) (hf : X.fn x = true ∨ X.env.scope.names.lookup x = some .local := by first | exact .inl rfl | exact .inr rfl | assumption) : QS X (.Assign [.Name x pos'] e pos) (tAsg te (gName i)) := ⟨ps_set (hN) (hiq) (hx) he.h (hs) (hf)⟩
theorem qs_aug {i : Nat} {x : Str} {e : Expr} {te : TE} {op : Operator} {ti : TIp} {pos' : Pos} (hN : X.N.Nodup) (hiq : X.N[i]? = some x) (hx : Loc X.env.scope x) (he : QE X e te) (ho : PIp X op ti) (hf : X.fn x = true ∨ X.env.scope.names.lookup x = some .local := by first | exact .inl rfl | exact .inr rfl | assumption) : QS X (.AugAssign (.Name x pos') op e pos) (tAug i te ti) := ⟨ps_aug (hN) (hiq) (hx) he.h (ho) (hf)⟩
theorem qs_while {c : Expr} {body : List Stmt} {tc : TT} {tb : TS} (hp : PassesOwn (model X.prog X.w) X.A X.env X.xe) (hc : QT X c tc) (hb : QSs X body tb) : QS X (.While c body [] pos) (tWhile tc tb) := ⟨ps_while (hp) hc.h hb.h⟩
theorem qi_list {l : Expr} {tl : TE} (hl : QE X l tl) : QI X tg l (iList X.K tl) := ⟨pi_list hl.h⟩
theorem qi_range1 {a : Expr} {ta : TA} {p pos : Pos} (hg : Gl X "range") (hm : X.mg "range" = none) (ha : QA X [a] ta) (hs : starEach [a] X.env = [(false, eval a X.env)] := by rfl) : QI X tg (.Call (.Name "range" p) [a] [] pos) (iRng1 ta) := ⟨pi_range1 (hg) (hm) ha.h (hs)⟩
theorem qs_for {iter : Expr} {body : List Stmt} {wi : TI} {g : TG} {tb : TS} {pos : Pos} (hp : PassesOwn (model X.prog X.w) X.A X.env X.xe) (hc : X.calm = true) (hiq : QI X tg iter wi) (hg : QG X tg g) (hb : QSs X body tb) (hs : ∀ x, foldedSetIterable iter X.env x = pure x := by intro _; rfl) : QS X (.For tg iter body [] pos) (tFor wi g tb) := ⟨ps_for (hp) (hc) hiq.h hg.h hb.h (hs)⟩
theorem qe_op {op : Operator} {r : R2} (ho : OpR X (binaryOp op) r) (ha : QE X a ta) (hb : QE X b tb) : QE X (.BinOp a op b pos) (tOp r ta tb) := ⟨pe_op (ho) ha.h hb.h⟩
theorem qe_un {op : UnaryOp} {r : V → Hp → VK → Prop} (ho : UnR X (unaryOp op) r) (ha : QE X a ta) : QE X (.UnaryOp op a pos) (tUn r ta) := ⟨pe_un (ho) ha.h⟩
theorem qe_cmpR {op : CmpOp} {r : R2} (ho : OpR X (compareOp op) r) (ha : QE X a ta) (hb : QE X b tb) (hm : behindInMarks op b = false) : QE X (.Compare a [op] [b] pos) (tOp r ta tb) := ⟨pe_cmpR (ho) ha.h hb.h (hm)⟩
theorem qt_cmpR {op : CmpOp} {r : R2} (ho : OpR X (compareOp op) r) (ha : QE X a ta) (hb : QE X b tb) (hm : behindInMarks op b = false) : QT X (.Compare a [op] [b] pos) (tTest (tOp r ta tb)) := ⟨pt_cmpR (ho) ha.h hb.h (hm)⟩
theorem qt_chain {op op' : CmpOp} {r r' : R2} (ho : OpR X (compareOp op) r) (ho' : OpR X (compareOp op') r') (ha : QE X a ta) (hb : QE X b tb) (hc : QE X c tc) (hm : lastMarks [op, op'] [b, c] = false := by with_unfolding_all rfl) : QT X (.Compare a [op, op'] [b, c] pos) (tTest (tChain r r' ta tb tc)) := ⟨pt_chain (ho) (ho') ha.h hb.h hc.h (hm)⟩
theorem qa_nil  : QA X [] tNil := ⟨pa_nil ⟩
theorem qe_tup {x1} (h : QA X es t) : QE X (.Tuple es x1 pos) (tTup t) := ⟨pe_tup h.h⟩
theorem qe_lst (h : QA X es t) : QE X (.List es pos) (tLst t) := ⟨pe_lst h.h⟩
theorem qe_call (F : FnOk X.prog X.w X.K X.mg X.base CX k f fd ps sp) (hr : Room k X.A) (hg : Gl X x) (hm : X.mg x = some (.ref f)) (hk : PySem.W.keepIn X.K (.ref f) = true) (hb : Binds X.K fd ps ds) (hd : Vals dvs ds) (hx : Passes CX X E) (ha : QA X (e :: es) t) (hdb : (x == ("__debug__" : Str)) = false := by decide) (he : starEach (e :: es) X.env = (false, eval e X.env) :: starEach es X.env := by rfl) (hpl : (backTo pos (starEach es X.env)).any (·.1) = false := by rfl) : QE X (.Call (.Name x p) (e :: es) [] pos) (tCall sp dvs E t) := ⟨pe_call (F) (hr) (hg) (hm) (hk) (hb) (hd) (hx) ha.h (hdb) (he) (hpl)⟩
theorem qe_callB (hc : CallR X (.builtin idq) r) (hg : Gl X x) (hm : X.mg x = none) (hv : bootBuiltins x = some (.builtin idq)) (ha : QA X (e :: es) t) (hn : x ≠ "__name__" := by decide) (hdb : (x == ("__debug__" : Str)) = false := by decide) (he : starEach (e :: es) X.env = (false, eval e X.env) :: starEach es X.env := by rfl) (hpl : (backTo pos (starEach es X.env)).any (·.1) = false := by rfl) : QE X (.Call (.Name x p) (e :: es) [] pos) (tCB r t) := ⟨pe_callB (hc) (hg) (hm) (hv) ha.h (hn) (hdb) (he) (hpl)⟩
theorem qe_callTy (hc : CallR X (.type T) r) (hg : Gl X x) (hm : X.mg x = none) (hv : bootBuiltins x = some (.type T)) (ha : QA X (e :: es) t) (hn : x ≠ "__name__" := by decide) (hdb : (x == ("__debug__" : Str)) = false := by decide) (he : starEach (e :: es) X.env = (false, eval e X.env) :: starEach es X.env := by rfl) (hpl : (backTo pos (starEach es X.env)).any (·.1) = false := by rfl) : QE X (.Call (.Name x p) (e :: es) [] pos) (tCB r t) := ⟨pe_callTy (hc) (hg) (hm) (hv) ha.h (hn) (hdb) (he) (hpl)⟩
theorem qo_none  : QO X none tNoPart := ⟨po_none ⟩
theorem qo_some (h : QE X e te) : QO X (some e) (tPart te) := ⟨po_some h.h⟩
theorem qe_slice {r : V → Option Int → Option Int → Hp → VK → Prop} (hr : SlR X r) (he : QE X e te) (hl : QO X loq tl) (hu : QO X hiq th) : QE X (.Subscript e (.Slice loq hiq none p2) pos) (tSl r te tl th) := ⟨pe_slice (hr) he.h hl.h hu.h⟩
theorem qe_ix {r : R2} (hr : IxR X r) (ha : QE X a ta) (hb : QE X b tb) (hs : PlainIx b) : QE X (.Subscript a b pos) (tOp r ta tb) := ⟨pe_ix (hr) ha.h hb.h (hs)⟩
theorem qe_bm (pa : PlainAttrs T) (slot : Slot T nameq idq) (hty : typeOf (.builtin idq) = pure (.type "method_descriptor")) (hm : MtR X idq r) (ho : QE X o to) (ha : QA X (e :: es) t) (hbase : attributeBase o nameq X.env (eval o X.env) = eval o X.env := by rfl) (hfew : ((backTo cpos (starEach (e :: es) X.env)).all (fun x => !x.1) && (backToKw cpos (keywordEach [] X.env)).all (fun x => x.1.isSome)
      && decide ((e :: es).length + ([] : List Keyword).length + (if ([] : List Keyword).isEmpty then 0 else 1) < 30)) = true := by rfl) (hline : (apos.endLine == cpos.line) = true := by rfl) (hs : starEach (e :: es) X.env = (false, eval e X.env) :: starEach es X.env := by rfl) (hplain : (backTo cpos (starEach es X.env)).any (·.1) = false := by rfl) : QE X (.Call (.Attribute o nameq apos) (e :: es) [] cpos) (tBM X.K T r to t) := ⟨pe_bm (pa) (slot) (hty) (hm) ho.h ha.h (hbase) (hfew) (hline) (hs) (hplain)⟩
theorem qv (i : Nat) {x : Str} {pos : Pos} (hN : X.N[i]? = some x := by rfl) (hv : Vis X.env.scope x := by first | exact Or.inl rfl | exact Or.inr (Or.inl rfl) | exact Or.inr (Or.inr rfl)) (hd : (x == ("__debug__" : Str)) = false := by decide) (hcd : (x == ("__classdict__" : Str)) = false := by decide) : QE X (.Name x pos) (tVar i) := ⟨pv (i) (hN) (hv) (hd) (hcd)⟩
theorem qs_raise {X : Cx} {E : XK} {x : Str} {C : Addr} {np cpos pos : Pos} {e : Expr} {es : List Expr} {t : TA} (hx : PySem.W.excIn X.K C bmVE newVE = true) (hg : Gl X x) (hm : X.mg x = some (.ref C)) (hc : X.calm = true) (hex : X.ex = []) (ha : QA (X.wish (XE X E)) (e :: es) t) (hdb : (x == ("__debug__" : Str)) = false := by decide) (he : starEach (e :: es) X.env = (false, eval e X.env) :: starEach es X.env := by rfl) (hpl : (backTo cpos (starEach es X.env)).any (·.1) = false := by rfl) : QS (X.wish (XE X E)) (.Raise (some (.Call (.Name x np) (e :: es) [] cpos)) none pos) (tRaise C E t) := ⟨ps_raise (hx) (hg) (hm) (hc) (hex) ha.h (hdb) (he) (hpl)⟩
theorem qf_nil {X : Cx} : QF X [] (fun out _ H Q => Q out H) := ⟨pf_nil ⟩
theorem qf_cons {X : Cx} {e : Expr} {es : List Expr} {te : TE} {tr : TF} (he : QE X e te) (hr : QF X es tr) : QF X (e :: es) (fun out σ H Q => te σ H fun v H1 => ∃ y, v = .str y ∧ (out ++ y).length ≤ sizeLine ∧ tr (out ++ y) σ H1 Q) := ⟨pf_cons he.h hr.h⟩
theorem qe_fstr {X : Cx} {e1 e2 : Expr} {es : List Expr} {pos : Pos} {t : TF} (h : QF X (e1 :: e2 :: es) t) : QE X (.JoinedStr (e1 :: e2 :: es) pos) (fun σ H Q => t Str.empty σ H fun z H1 => z.length ≤ sizeLine ∧ Q (.str z) H1) := ⟨pe_fstr h.h⟩
theorem qe_fint {X : Cx} {e : Expr} {te : TE} {pos : Pos} (he : QE X e te) : QE X (.FormattedValue e (-1) none pos) (fun σ H Q => te σ H fun v H1 => ∃ i, v = .int i ∧ i.natAbs.log2 < 1920 ∧ Q (.str (toString i)) H1) := ⟨pe_fint he.h⟩
theorem qif_nil {X : Cx} : QIf X [] tYes := ⟨pif_nil ⟩
theorem qif_one {X : Cx} {c : Expr} {t : TT} (h : QT X c t) : QIf X [c] t := ⟨pif_one h.h⟩
theorem qe_callP {X : Cx} {CX : CXT} {k : Nat} {x : Str} {ps : List Str} {sp : Sp} {E : XK} {p pos : Pos} {e : Expr} {es : List Expr} {t : TA} (h : Pm X.prog X.w X.K X.mg X.base CX k x ps sp) (hr : Room k X.A) (hg : Gl X x) (hx : Passes CX X E) (ha : QA X (e :: es) t) (hdb : (x == ("__debug__" : Str)) = false := by decide) (he : starEach (e :: es) X.env = (false, eval e X.env) :: starEach es X.env := by rfl) (hpl : (backTo pos (starEach es X.env)).any (·.1) = false := by rfl) : QE X (.Call (.Name x p) (e :: es) [] pos) (tCall sp [] E t) := ⟨pe_callP (h) (hr) (hg) (hx) ha.h (hdb) (he) (hpl)⟩
/-- an argument, by a test that is small -/
def notStar : Expr → Bool
  | .Starred .. => false
  | _ => true
theorem starEach_cons {e : Expr} {es : List Expr} {env : Env} (h : notStar e = true) : starEach (e :: es) env = (false, eval e env) :: starEach es env := by
  cases e <;> first | rfl | cases h
theorem qac {X : Cx} {e : Expr} {es : List Expr} {te : TE} {t : TA} (ha : QE X e te) (hr : QA X es t) (hs : notStar e = true := by rfl) : QA X (e :: es) (tCons te t) := ⟨pa_cons ha.h hr.h (starEach_cons hs)⟩
theorem qe_comp {X : Cx} {elt tg iter : Expr} {ifs : List Expr} {scope : Scope} {pos : Pos} {N : List Str} {src : List (Option Nat)} {wi : TI} {g : TG} {tc : TT} {te : TE} (hc : X.calm = true) (S : CompScope X scope N src) (hi : QI X tg iter wi)
    (hg : ∀ s H cl C fp, QG (cxC X s H scope cl C N fp) tg g) (hf : ∀ s H cl C fp, QIf (cxC X s H scope cl C N fp) ifs tc) (he : ∀ s H cl C fp, QE (cxC X s H scope cl C N fp) elt te)
    (hs : ∀ x, foldedSetIterable iter X.env x = pure x := by intro _; rfl) : QE X (.ListComp elt [⟨tg, iter, ifs, 0⟩] scope pos) (tComp src wi g tc te) :=
  ⟨pe_comp hc S hi.h (fun s H cl C fp => (hg s H cl C fp).h) (fun s H cl C fp => (hf s H cl C fp).h) (fun s H cl C fp => (he s H cl C fp).h) hs⟩
theorem qss_never {X : Cx} {sts : List Stmt} : QSs X sts tNever := ⟨pss_never⟩
/-! ### defs -/
section
variable {P : Program} {w : World} {K : PySem.W.Frag} {mg : Str → Option Value} {base : Heap} {x qual : Str} {st : Stmt} {f : Addr} {fd : FuncData} {N ps : List Str} {k : Nat} {sp : Sp}
theorem Fun.okQ (F : Fun K x qual st f fd) (S : FnScope N ps (defScope st)) (len : ∀ vs H Q E, sp vs H Q E → vs.length = ps.length)
    (hbody : ∀ (cdv : Value) (A : Around) (outer : List Env) (s : Shared) (H : Hp) (vs : List V) (Q : VK) (E : XK), Room k (A.deeper (envOfC qual (defScope st) s.heap.objs.size f cdv)) → sp vs H Q E →
      ∃ t, QSs (cxOf CX0 P w K mg base N qual (defScope st) f cdv A outer s H E).nox (defBody st) t ∧ t { nx := fun _ H' => Q .non H', rt := Q } (start N vs) H) : FnOk P w K mg base CX0 (k + 1) f fd ps sp :=
  F.ok S len fun cdv A outer s H vs Q E hr h => let ⟨t, a, b⟩ := hbody cdv A outer s H vs Q E hr h; ⟨t, a.h, b⟩
theorem Fun.okXQ (F : Fun K x qual st f fd) (S : FnScope N ps (defScope st)) (len : ∀ vs H Q E, sp vs H Q E → vs.length = ps.length)
    (hbody : ∀ (cdv : Value) (A : Around) (outer : List Env) (s : Shared) (H : Hp) (vs : List V) (Q : VK) (E : XK), Room k (A.deeper (envOfC qual (defScope st) s.heap.objs.size f cdv)) → sp vs H Q E →
      ∃ t, QSs ((cxOf (CX1 P w) P w K mg base N qual (defScope st) f cdv A outer s H E).wish (XE (cxOf (CX1 P w) P w K mg base N qual (defScope st) f cdv A outer s H E) E)) (defBody st) t ∧ t { nx := fun _ H' => Q .non H', rt := Q } (start N vs) H) :
    FnOk P w K mg base (CX1 P w) (k + 1) f fd ps sp :=
  F.okX S len fun cdv A outer s H vs Q E hr h => let ⟨t, a, b⟩ := hbody cdv A outer s H vs Q E hr h; ⟨t, a.h, b⟩
end

end L2
/-! EvRange: range with a step. Behind EvQ. -/
namespace L2
open PySem PySem.Spec PyProof.Rows
section
variable {X : Cx} {tg : Expr}
end
theorem comp_rng {lo : Int} {n : Nat} {g : TG} {tc : TT} {te : TE} {σ' : St} {H : Hp} {G : Addr → Hp → List V → Prop} (Pv : Nat → List V → Hp → Prop) (h0 : Pv 0 [] H)
    (hs : ∀ i ys H (N : List V → Hp → Prop), i < n → Pv i ys H → (∀ ys' H', Pv (i + 1) ys' H' → N ys' H') → g (.int (lo + i)) σ' H fun σ2 H4 => Weak σ' σ2 ∧ tc σ2 H4 fun b H5 => if b = true then te σ2 H5 fun y H6 => ys.length < sizeLine ∧ N (ys ++ [y]) H6 else N ys H5)
    (hd : ∀ ys H, Pv n ys H → ys.length ≤ sizeLine ∧ ∀ p, H p = none → G p H ys) :
    ∃ W : Nat → Nat → List V → Hp → Prop, (∃ m, W 0 m [] H) ∧ ∀ i m ys H2, W i m ys H2 →
      ((Itr lo n).stop i H2 ∧ ys.length ≤ sizeLine ∧ ∀ p, H2 p = none → G p H2 ys) ∨
      ((Itr lo n).go i H2 ∧ ∀ x H3, (Itr lo n).yld i H2 x H3 → g x σ' H3 fun σ2 H4 => Weak σ' σ2 ∧ tc σ2 H4 fun b H5 =>
        if b = true then te σ2 H5 fun y H6 => ys.length < sizeLine ∧ ∃ m', m' < m ∧ W (i + 1) m' (ys ++ [y]) H6 else ∃ m', m' < m ∧ W (i + 1) m' ys H5) := by
  refine ⟨fun i m ys H => m = n - i ∧ i ≤ n ∧ Pv i ys H, ⟨n, rfl, Nat.zero_le _, h0⟩, ?_⟩
  rintro i m ys H2 ⟨rfl, hi, p⟩
  by_cases hlt : i < n
  · refine .inr ⟨hlt, fun x H' y => ?_⟩
    obtain ⟨e, rfl⟩ := y
    subst e
    exact hs i ys _ (fun ys' H'' => ∃ m', m' < n - i ∧ m' = n - (i + 1) ∧ i + 1 ≤ n ∧ Pv (i + 1) ys' H'') hlt p (fun ys' H'' p' => ⟨_, by omega, rfl, hlt, p'⟩)
  · have e : i = n := by omega
    subst e
    exact .inl ⟨Nat.le_refl _, hd ys H2 p⟩
end L2
/-! EvMath: the mathematics of primes, by naturals; core alone. -/
namespace EM
def IsPr (p : Nat) : Prop := 2 ≤ p ∧ ∀ d, d ∣ p → d = 1 ∨ d = p
/-- Euclid -/
theorem IsPr.euclid {p a b : Nat} (hp : IsPr p) (h : p ∣ a * b) : p ∣ a ∨ p ∣ b := by
  rcases hp.2 (Nat.gcd p a) (Nat.gcd_dvd_left p a) with g | g
  · exact .inr (Nat.Coprime.dvd_of_dvd_mul_left (show Nat.Coprime p a from g) h)
  · exact .inl (g ▸ Nat.gcd_dvd_right p a)
theorem IsPr.pow {p a : Nat} (hp : IsPr p) : ∀ {e : Nat}, p ∣ a ^ e → p ∣ a
  | 0, h => by
    rw [Nat.pow_zero] at h
    have h1 := Nat.le_of_dvd (by decide) h
    have h2 := hp.1
    omega
  | e + 1, h => by
    rw [Nat.pow_succ] at h
    rcases hp.euclid h with h | h
    · exact hp.pow h
    · exact h
theorem IsPr.dvd_pr {p q : Nat} (hp : IsPr p) (hq : IsPr q) (h : p ∣ q) : p = q := by
  rcases hq.2 p h with h | h
  · have := hp.1; omega
  · exact h
/-- the least divisor is a prime -/
theorem pr_of_least {p n : Nat} (h2 : 2 ≤ p) (hd : p ∣ n) (hl : ∀ d, 2 ≤ d → d < p → ¬ d ∣ n) (_ : 1 ≤ n) : IsPr p := by
  refine ⟨h2, fun d hdp => ?_⟩
  have hle := Nat.le_of_dvd (by omega) hdp
  rcases Nat.lt_or_ge d 2 with h | h
  · have : d ≠ 0 := fun z => by
      subst z
      have := Nat.eq_zero_of_zero_dvd hdp
      omega
    exact .inl (by omega)
  · rcases Nat.lt_or_ge d p with h' | h'
    · exact absurd (Nat.dvd_trans hdp hd) (hl d h h')
    · exact .inr (by omega)
theorem pr_of_end {p n : Nat} (hn : 2 ≤ n) (hl : ∀ d, 2 ≤ d → d < p → ¬ d ∣ n) (hp : n < p * p) : IsPr n := by
  refine ⟨hn, fun d hd => ?_⟩
  have hle := Nat.le_of_dvd (by omega) hd
  obtain ⟨c, rfl⟩ := hd
  have d0 : d ≠ 0 := fun z => by subst z; simp at hn
  have c0 : c ≠ 0 := fun z => by subst z; simp at hn
  by_cases hd1 : d = 1
  · exact .inl hd1
  by_cases hc1 : c = 1
  · exact .inr (by rw [hc1, Nat.mul_one])
  exfalso
  have h1 : p ≤ d := Nat.le_of_not_lt fun z => hl d (by omega) z ⟨c, rfl⟩
  have h2 : p ≤ c := Nat.le_of_not_lt fun z => hl c (by omega) z ⟨d, Nat.mul_comm d c⟩
  have := Nat.mul_le_mul h1 h2
  omega
/-- every number above 1 has a prime divisor -/
theorem exists_pr : ∀ (n : Nat), 2 ≤ n → ∃ p, IsPr p ∧ p ∣ n := fun n hn => by
  have key : ∀ k, ∀ d, 2 ≤ d → d ≤ n → n - d ≤ k → (∀ e, 2 ≤ e → e < d → ¬ e ∣ n) → ∃ p, IsPr p ∧ p ∣ n := by
    intro k
    induction k with
    | zero =>
      intro d h2 hle hk hl
      have : d = n := by omega
      subst this
      exact ⟨d, pr_of_least h2 (Nat.dvd_refl d) hl (by omega), Nat.dvd_refl d⟩
    | succ k ih =>
      intro d h2 hle hk hl
      by_cases hd : d ∣ n
      · exact ⟨d, pr_of_least h2 hd hl (by omega), hd⟩
      · have : d ≠ n := fun z => hd (z ▸ Nat.dvd_refl d)
        refine ih (d + 1) (by omega) (by omega) (by omega) fun e he hlt => ?_
        rcases Nat.lt_or_ge e d with h | h
        · exact hl e he h
        · have : e = d := by omega
          subst this; exact hd
  exact key n 2 (Nat.le_refl 2) hn (by omega) fun e he hlt => by omega

/-! ### lists of primes with how often -/
def prodL : List (Nat × Nat) → Nat
  | [] => 1
  | x :: r => x.1 ^ x.2 * prodL r
theorem prodL_append : ∀ (a b : List (Nat × Nat)), prodL (a ++ b) = prodL a * prodL b
  | [], b => by simp [prodL]
  | x :: r, b => by simp only [List.cons_append, prodL, prodL_append r b, Nat.mul_assoc]
structure Fac (n : Nat) (L : List (Nat × Nat)) : Prop where
  pr : ∀ x ∈ L, IsPr x.1 ∧ 1 ≤ x.2
  asc : L.Pairwise fun x y => x.1 < y.1
  prod : prodL L = n
/-- between two turns of the loop -/
structure FacTo (n p left : Nat) (L : List (Nat × Nat)) : Prop where
  pr : ∀ x ∈ L, IsPr x.1 ∧ 1 ≤ x.2 ∧ x.1 < p
  asc : L.Pairwise fun x y => x.1 < y.1
  prod : prodL L * left = n
  two : 2 ≤ p
  pos : 1 ≤ left
  no : ∀ d, 2 ≤ d → d < p → ¬ d ∣ left
theorem FacTo.start {n : Nat} (h : 1 ≤ n) : FacTo n 2 n [] := ⟨nofun, .nil, by simp [prodL], by omega, h, fun d h1 h2 => by omega⟩
theorem asc_snoc {L : List (Nat × Nat)} {x : Nat × Nat} (h : L.Pairwise fun x y => x.1 < y.1) (hx : ∀ y ∈ L, y.1 < x.1) : (L ++ [x]).Pairwise fun x y => x.1 < y.1 :=
  List.pairwise_append.mpr ⟨h, List.pairwise_singleton _ _, fun a ha b hb => by rw [List.mem_singleton.mp hb]; exact hx a ha⟩
/-- the inner loop: left0 = left * p ^ often, and p divides left no more -/
theorem FacTo.some {n p left left0 often : Nat} {L : List (Nat × Nat)} (F : FacTo n p left0 L) (e : left0 = left * p ^ often) (ho : 1 ≤ often) (hnd : ¬ p ∣ left) : FacTo n (p + 1) left (L ++ [(p, often)]) := by
  have hpos : 1 ≤ left := by
    rcases Nat.eq_zero_or_pos left with h | h
    · subst h; have := F.pos; simp at e; omega
    · exact h
  have hpd : p ∣ left0 := by
    rw [e]
    obtain ⟨k, rfl⟩ : ∃ k, often = k + 1 := ⟨often - 1, by omega⟩
    rw [Nat.pow_succ, ← Nat.mul_assoc]
    exact Nat.dvd_mul_left _ _
  refine ⟨fun x hx => ?_, asc_snoc F.asc fun y hy => (F.pr y hy).2.2, ?_, by have := F.two; omega, hpos, fun d h2 hlt hd => ?_⟩
  · rcases List.mem_append.mp hx with h | h
    · obtain ⟨a, b, c⟩ := F.pr x h
      exact ⟨a, b, by omega⟩
    · rw [List.mem_singleton.mp h]
      exact ⟨pr_of_least F.two hpd F.no F.pos, ho, by show p < p + 1; omega⟩
  · rw [prodL_append, ← F.prod, e]
    show prodL L * (p ^ often * 1) * left = _
    rw [Nat.mul_one, Nat.mul_assoc, Nat.mul_comm (p ^ often) left]
  · rcases Nat.lt_or_ge d p with h | h
    · exact F.no d h2 h (e ▸ Nat.dvd_trans hd (Nat.dvd_mul_right _ _))
    · have : d = p := by omega
      subst this; exact hnd hd
theorem FacTo.none {n p left : Nat} {L : List (Nat × Nat)} (F : FacTo n p left L) (hnd : ¬ p ∣ left) : FacTo n (p + 1) left L :=
  ⟨fun x hx => let ⟨a, b, c⟩ := F.pr x hx; ⟨a, b, by omega⟩, F.asc, F.prod, by have := F.two; omega, F.pos, fun d h2 hlt hd => by
    rcases Nat.lt_or_ge d p with h | h
    · exact F.no d h2 h hd
    · have : d = p := by omega
      subst this; exact hnd hd⟩
theorem FacTo.last {n p left : Nat} {L : List (Nat × Nat)} (F : FacTo n p left L) (hp : left < p * p) (h1 : 1 < left) : Fac n (L ++ [(left, 1)]) := by
  have hpl : p ≤ left := Nat.le_of_not_lt fun z => F.no left h1 z (Nat.dvd_refl _)
  refine ⟨fun x hx => ?_, asc_snoc F.asc fun y hy => Nat.lt_of_lt_of_le (F.pr y hy).2.2 hpl, ?_⟩
  · rcases List.mem_append.mp hx with h | h
    · obtain ⟨a, b, _⟩ := F.pr x h
      exact ⟨a, b⟩
    · rw [List.mem_singleton.mp h]
      exact ⟨pr_of_end h1 F.no hp, Nat.le_refl 1⟩
  · rw [prodL_append, ← F.prod]
    show prodL L * (left ^ 1 * 1) = _
    rw [Nat.pow_one, Nat.mul_one]
theorem FacTo.done {n p left : Nat} {L : List (Nat × Nat)} (F : FacTo n p left L) (h1 : ¬ 1 < left) : Fac n L := by
  refine ⟨fun x hx => let ⟨a, b, _⟩ := F.pr x hx; ⟨a, b⟩, F.asc, ?_⟩
  have := F.pos
  have e : left = 1 := by omega
  rw [← F.prod, e, Nat.mul_one]
theorem prodL_pos : ∀ {L : List (Nat × Nat)}, (∀ x ∈ L, IsPr x.1 ∧ 1 ≤ x.2) → 1 ≤ prodL L
  | [], _ => Nat.le_refl 1
  | x :: r, h => by
    have h1 := (h x (List.mem_cons_self ..)).1.1
    have h2 := prodL_pos fun y hy => h y (List.mem_cons_of_mem _ hy)
    exact Nat.mul_pos (Nat.pow_pos (by omega)) h2
theorem mem_dvd : ∀ {L : List (Nat × Nat)} {x : Nat × Nat}, x ∈ L → x.1 ^ x.2 ∣ prodL L
  | y :: r, x, h => by
    rcases List.mem_cons.mp h with h | h
    · subst h; exact Nat.dvd_mul_right _ _
    · exact Nat.dvd_trans (mem_dvd h) (Nat.dvd_mul_left _ _)
/-- how often is small -/
theorem Fac.few {n : Nat} {L : List (Nat × Nat)} (F : Fac n L) (h0 : 1 ≤ n) (hn : n < 2 ^ 30) : ∀ x ∈ L, x.2 < 30 ∧ x.1 ≤ n := fun x hx => by
  have h1 := (F.pr x hx).1.1
  have h3 := (F.pr x hx).2
  have h2 := Nat.le_of_dvd (by omega) (F.prod ▸ mem_dvd hx)
  constructor
  · refine Nat.lt_of_not_le fun z => ?_
    have a := Nat.pow_le_pow_right (n := 2) (by decide) z
    have b := Nat.pow_le_pow_left h1 x.2
    omega
  · have := Nat.le_self_pow (n := x.2) (by omega) x.1
    omega

theorem len_le : ∀ {L : List (Nat × Nat)}, (∀ x ∈ L, IsPr x.1 ∧ 1 ≤ x.2) → 2 ^ L.length ≤ prodL L
  | [], _ => Nat.le_refl 1
  | x :: r, h => by
    have h1 := (h x (List.mem_cons_self ..)).1.1
    have h3 := (h x (List.mem_cons_self ..)).2
    have h2 := len_le fun y hy => h y (List.mem_cons_of_mem _ hy)
    have h4 := Nat.le_self_pow (n := x.2) (by omega) x.1
    rw [List.length_cons, Nat.pow_succ, Nat.mul_comm]
    exact Nat.mul_le_mul (Nat.le_trans h1 h4) h2
theorem FacTo.short {n p left : Nat} {L : List (Nat × Nat)} (F : FacTo n p left L) (hn : n < 2 ^ 60) : L.length < 60 := by
  have h1 := len_le fun x hx => let ⟨a, b, _⟩ := F.pr x hx; ⟨a, b⟩
  have h2 : prodL L ≤ n := F.prod ▸ Nat.le_mul_of_pos_right _ F.pos
  refine Nat.lt_of_not_le fun z => ?_
  have := Nat.pow_le_pow_right (n := 2) (by decide) z
  omega
theorem Fac.short {n : Nat} {L : List (Nat × Nat)} (F : Fac n L) (hn : n < 2 ^ 60) : L.length < 60 := by
  have h1 := len_le F.pr
  rw [F.prod] at h1
  refine Nat.lt_of_not_le fun z => ?_
  have := Nat.pow_le_pow_right (n := 2) (by decide) z
  omega
theorem FacTo.le {n p left : Nat} {L : List (Nat × Nat)} (F : FacTo n p left L) : left ≤ n := by
  have h2 := prodL_pos fun x hx => let ⟨a, b, _⟩ := F.pr x hx; ⟨a, b⟩
  exact F.prod ▸ Nat.le_mul_of_pos_left _ h2
theorem root_lt {p n : Nat} (h : p * p ≤ n) (hn : n < 2 ^ 60) : p < 2 ^ 30 := by
  refine Nat.lt_of_not_le fun z => ?_
  have := Nat.mul_le_mul z z
  omega
theorem two_le_self {p n : Nat} (h2 : 2 ≤ p) (h : p * p ≤ n) : 2 * p ≤ n := Nat.le_trans (Nat.mul_le_mul_right p h2) h
/-- the product by turns -/
theorem prodL_take {L : List (Nat × Nat)} {i : Nat} {x : Nat × Nat} (h : L[i]? = some x) : prodL (L.take (i + 1)) = prodL (L.take i) * x.1 ^ x.2 := by
  rw [List.take_add_one, h, Option.toList, prodL_append]
  show _ * (x.1 ^ x.2 * 1) = _
  rw [Nat.mul_one]

/-! ### plain parts -/
/-- the taken part, and what is left -/
def halfL : List (Nat × Nat) → Nat
  | [] => 1
  | x :: r => x.1 ^ (x.2 / 2) * halfL r
def oddL : List (Nat × Nat) → Nat
  | [] => 1
  | x :: r => x.1 ^ (x.2 % 2) * oddL r
theorem halfL_append : ∀ (a b : List (Nat × Nat)), halfL (a ++ b) = halfL a * halfL b
  | [], b => by simp [halfL]
  | x :: r, b => by simp only [List.cons_append, halfL, halfL_append r b, Nat.mul_assoc]
theorem split_sq (p e : Nat) : p ^ e = p ^ (e % 2) * (p ^ (e / 2) * p ^ (e / 2)) := by
  rw [← Nat.pow_add, ← Nat.pow_add]
  congr 1
  omega
theorem odd_half : ∀ L : List (Nat × Nat), prodL L = oddL L * (halfL L * halfL L)
  | [] => rfl
  | x :: r => by
    simp only [prodL, oddL, halfL, odd_half r]
    rw [split_sq x.1 x.2]
    ac_rfl
theorem halfL_pos : ∀ {L : List (Nat × Nat)}, (∀ x ∈ L, IsPr x.1 ∧ 1 ≤ x.2) → 1 ≤ halfL L
  | [], _ => Nat.le_refl 1
  | x :: r, h => by
    have h1 := (h x (List.mem_cons_self ..)).1.1
    exact Nat.mul_pos (Nat.pow_pos (by omega)) (halfL_pos fun y hy => h y (List.mem_cons_of_mem _ hy))
theorem oddL_pos : ∀ {L : List (Nat × Nat)}, (∀ x ∈ L, IsPr x.1 ∧ 1 ≤ x.2) → 1 ≤ oddL L
  | [], _ => Nat.le_refl 1
  | x :: r, h => by
    have h1 := (h x (List.mem_cons_self ..)).1.1
    exact Nat.mul_pos (Nat.pow_pos (by omega)) (oddL_pos fun y hy => h y (List.mem_cons_of_mem _ hy))
/-- a prime that divides what is left is one of the list -/
theorem dvd_oddL : ∀ {L : List (Nat × Nat)} {q : Nat}, IsPr q → (∀ x ∈ L, IsPr x.1 ∧ 1 ≤ x.2) → q ∣ oddL L → ∃ x ∈ L, x.1 = q
  | [], q, hq, _, h => by
    have h1 := Nat.le_of_dvd (by decide) (show q ∣ 1 from h)
    have h2 := hq.1
    omega
  | x :: r, q, hq, hL, h => by
    rcases hq.euclid h with h | h
    · exact ⟨x, List.mem_cons_self .., (hq.dvd_pr (hL x (List.mem_cons_self ..)).1 (hq.pow h)).symm⟩
    · obtain ⟨y, hy, e⟩ := dvd_oddL hq (fun y hy => hL y (List.mem_cons_of_mem _ hy)) h
      exact ⟨y, List.mem_cons_of_mem _ hy, e⟩
theorem oddL_sqfree : ∀ {L : List (Nat × Nat)}, (∀ x ∈ L, IsPr x.1 ∧ 1 ≤ x.2) → (L.Pairwise fun x y => x.1 < y.1) → ∀ q, IsPr q → ¬ q * q ∣ oddL L
  | [], _, _, q, hq, h => by
    have h1 := Nat.le_of_dvd (by decide) (show q * q ∣ 1 from h)
    have h2 := hq.1
    have := Nat.mul_le_mul h2 h2
    omega
  | x :: r, hL, hA, q, hq, h => by
    obtain ⟨hx, hr⟩ := List.pairwise_cons.mp hA
    have hLr : ∀ y ∈ r, IsPr y.1 ∧ 1 ≤ y.2 := fun y hy => hL y (List.mem_cons_of_mem _ hy)
    have px := (hL x (List.mem_cons_self ..)).1
    have ih := oddL_sqfree hLr hr q hq
    have hm : x.2 % 2 = 0 ∨ x.2 % 2 = 1 := by omega
    rcases hm with hm | hm
    · simp only [oddL, hm, Nat.pow_zero, Nat.one_mul] at h
      exact ih h
    · simp only [oddL, hm, Nat.pow_one] at h
      by_cases e : q = x.1
      · subst e
        have h' : x.1 ∣ oddL r := Nat.dvd_of_mul_dvd_mul_left (by have := px.1; omega) h
        obtain ⟨y, hy, e⟩ := dvd_oddL px hLr h'
        have := hx y hy
        omega
      · have nd : ¬ q ∣ x.1 := fun z => e (hq.dvd_pr px z)
        have cop : Nat.Coprime q x.1 := by
          rcases hq.2 (Nat.gcd q x.1) (Nat.gcd_dvd_left q x.1) with g | g
          · exact g
          · exact absurd (g ▸ Nat.gcd_dvd_right q x.1) nd
        have cop2 : Nat.Coprime (q * q) x.1 := Nat.Coprime.mul_left cop cop
        exact ih (Nat.Coprime.dvd_of_dvd_mul_left cop2 h)
theorem sqfree_of_pr {s : Nat} (h : ∀ q, IsPr q → ¬ q * q ∣ s) : ∀ k, 2 ≤ k → ¬ k * k ∣ s := fun k hk hd => by
  obtain ⟨q, hq, c, rfl⟩ := exists_pr k hk
  refine h q hq (Nat.dvd_trans ⟨c * c, ?_⟩ hd)
  ac_rfl
theorem Fac.plain {n : Nat} {L : List (Nat × Nat)} (F : Fac n L) : n = oddL L * (halfL L * halfL L) ∧ 1 ≤ halfL L ∧ 1 ≤ oddL L ∧ ∀ k, 2 ≤ k → ¬ k * k ∣ oddL L :=
  ⟨F.prod ▸ odd_half L, halfL_pos F.pr, oddL_pos F.pr, sqfree_of_pr (oddL_sqfree F.pr F.asc)⟩

/-! ### roots -/
theorem halfL_take {L : List (Nat × Nat)} {i : Nat} {x : Nat × Nat} (h : L[i]? = some x) : halfL (L.take (i + 1)) = halfL (L.take i) * x.1 ^ (x.2 / 2) := by
  rw [List.take_add_one, h, Option.toList, halfL_append]
  show _ * (x.1 ^ (x.2 / 2) * 1) = _
  rw [Nat.mul_one]
/-- a number and its plain part, by its sign -/
theorem plain_int {n : Int} {m h : Nat} (hh : 1 ≤ h) (e : n.natAbs = m * (h * h)) : ∃ s : Int, n / ((h : Int) * (h : Int)) = s ∧ n = s * ((h : Int) * (h : Int)) ∧ s.natAbs = m := by
  have h0 : ((h : Int) * (h : Int)) ≠ 0 := by
    intro z
    rcases Int.mul_eq_zero.mp z with z | z <;> omega
  rcases Int.natAbs_eq n with q | q
  · have e2 : n = (m : Int) * ((h : Int) * (h : Int)) := by rw [q, e]; simp [Int.natCast_mul]
    refine ⟨m, ?_, e2, by simp⟩
    rw [e2, Int.mul_ediv_cancel _ h0]
  · have e2 : n = (-(m : Int)) * ((h : Int) * (h : Int)) := by rw [q, e]; simp [Int.natCast_mul, Int.neg_mul]
    refine ⟨-(m : Int), ?_, e2, by simp⟩
    rw [e2, Int.mul_ediv_cancel _ h0]
theorem Fac.of_pr {p : Nat} {L : List (Nat × Nat)} (F : Fac p L) (hp : IsPr p) : L = [(p, 1)] := by
  have h2 := hp.1
  match L, F with
  | [], F =>
    have e := F.prod
    simp only [prodL] at e
    omega
  | x :: r, F =>
    obtain ⟨q1, q2⟩ := F.pr x (List.mem_cons_self ..)
    have hd := mem_dvd (List.mem_cons_self (a := x) (l := r))
    rw [F.prod] at hd
    have hx : x.1 ∣ p := by
      obtain ⟨k, hk⟩ : ∃ k, x.2 = k + 1 := ⟨x.2 - 1, by omega⟩
      rw [hk, Nat.pow_succ] at hd
      exact Nat.dvd_trans (Nat.dvd_mul_left _ _) hd
    have hxp : x.1 = p := q1.dvd_pr hp hx
    have hrp := prodL_pos fun y hy => F.pr y (List.mem_cons_of_mem _ hy)
    have e := F.prod
    simp only [prodL, hxp] at e
    have h1 : p ^ x.2 ≤ p := by
      have := Nat.le_mul_of_pos_right (p ^ x.2) hrp
      omega
    have hx2 : x.2 = 1 := by
      rcases Nat.lt_or_ge x.2 2 with z | z
      · omega
      · have h3 := Nat.pow_le_pow_right (n := p) (by omega) z
        have h4 := Nat.mul_le_mul_right p h2
        rw [Nat.pow_two] at h3
        omega
    rw [hx2, Nat.pow_one] at e
    have hr1 : prodL r = 1 := by
      have h5 : p * prodL r = p * 1 := by omega
      exact Nat.eq_of_mul_eq_mul_left (by omega) h5
    have hr : r = [] := by
      match r, F, hr1 with
      | [], _, _ => rfl
      | y :: r', F, hr1 =>
        have h6 := len_le fun z hz => F.pr z (List.mem_cons_of_mem _ hz)
        rw [hr1, List.length_cons, Nat.pow_succ] at h6
        have := Nat.pow_pos (n := r'.length) (show 0 < 2 by decide)
        omega
    rw [hr]
    have : x = (p, 1) := by
      rw [← hxp, ← hx2]
    rw [this]
theorem Fac.pr_of {p : Nat} (F : Fac p [(p, 1)]) : IsPr p := (F.pr _ (List.mem_cons_self ..)).1
end EM
/-! EvEuler: Fermat and Euler for a prime, by naturals and ints; core alone. Behind EvMath. -/
namespace EM
/-! ### lists without repeats -/
theorem perm_of_sub : ∀ {l l' : List Nat}, l.Nodup → (∀ x ∈ l, x ∈ l') → l'.length ≤ l.length → l'.Perm l
  | [], l', _, _, h => by
    have : l' = [] := List.length_eq_zero_iff.mp (by simpa using h)
    rw [this]
  | x :: l, l', hn, hs, h => by
    obtain ⟨hx, hn'⟩ := List.nodup_cons.mp hn
    have hm : x ∈ l' := hs x (List.mem_cons_self ..)
    have p1 := List.perm_cons_erase hm
    have hl : (l'.erase x).length ≤ l.length := by
      rw [List.length_erase_of_mem hm]
      simp only [List.length_cons] at h
      omega
    have p2 := perm_of_sub hn' (l' := l'.erase x) (fun y hy => by
      have hyx : y ≠ x := fun z => hx (z ▸ hy)
      exact (List.mem_erase_of_ne hyx).mpr (hs y (List.mem_cons_of_mem _ hy))) hl
    exact p1.trans (p2.cons x)
def prodN : List Nat → Nat
  | [] => 1
  | x :: r => x * prodN r
theorem prodN_perm {l l' : List Nat} (h : l.Perm l') : prodN l = prodN l' := by
  induction h with
  | nil => rfl
  | cons x _ ih => simp only [prodN, ih]
  | swap x y l => simp only [prodN]; rw [← Nat.mul_assoc, ← Nat.mul_assoc, Nat.mul_comm y x]
  | trans _ _ a b => exact a.trans b
theorem prodN_map_mod (p a : Nat) : ∀ l : List Nat, prodN (l.map fun x => a * x % p) % p = a ^ l.length * prodN l % p
  | [] => by simp [prodN]
  | x :: l => by
    simp only [List.map_cons, prodN, List.length_cons]
    rw [Nat.mul_mod, Nat.mod_mod, prodN_map_mod p a l, ← Nat.mul_mod, Nat.pow_succ]
    congr 1
    ac_rfl
theorem prodN_cop {p : Nat} (hp : IsPr p) : ∀ {l : List Nat}, (∀ x ∈ l, ¬ p ∣ x) → ¬ p ∣ prodN l
  | [], _, h => by
    have := Nat.le_of_dvd (by decide) (show p ∣ 1 from h)
    have := hp.1
    omega
  | x :: l, hx, h => by
    rcases hp.euclid h with z | z
    · exact hx x (List.mem_cons_self ..) z
    · exact prodN_cop hp (fun y hy => hx y (List.mem_cons_of_mem _ hy)) z
theorem mod_cancel {p a b c : Nat} (hp : IsPr p) (ha : ¬ p ∣ a) (hb : b < p) (hc : c < p) (h : a * b % p = a * c % p) : b = c := by
  rcases Nat.le_total b c with z | z
  · obtain ⟨d, rfl⟩ := Nat.exists_eq_add_of_le z
    have h2 : p ∣ a * d := by
      have h3 : (a * b + a * d) % p = (a * b) % p := by rw [← Nat.mul_add]; exact h.symm
      have h4 := Nat.sub_mod_eq_zero_of_mod_eq h3
      rw [Nat.add_sub_cancel_left] at h4
      exact Nat.dvd_of_mod_eq_zero h4
    rcases hp.euclid h2 with q | q
    · exact absurd q ha
    · rcases Nat.eq_zero_or_pos d with r | r
      · omega
      · have := Nat.le_of_dvd r q
        omega
  · obtain ⟨d, rfl⟩ := Nat.exists_eq_add_of_le z
    have h2 : p ∣ a * d := by
      have h3 : (a * c + a * d) % p = (a * c) % p := by rw [← Nat.mul_add]; exact h
      have h4 := Nat.sub_mod_eq_zero_of_mod_eq h3
      rw [Nat.add_sub_cancel_left] at h4
      exact Nat.dvd_of_mod_eq_zero h4
    rcases hp.euclid h2 with q | q
    · exact absurd q ha
    · rcases Nat.eq_zero_or_pos d with r | r
      · omega
      · have := Nat.le_of_dvd r q
        omega
/-- Fermat -/
theorem fermat {p a : Nat} (hp : IsPr p) (ha : ¬ p ∣ a) : a ^ (p - 1) % p = 1 := by
  have h2 := hp.1
  let l := (List.range (p - 1)).map (· + 1)
  have ml : ∀ x, x ∈ l ↔ 1 ≤ x ∧ x < p := fun x => by
    simp only [l, List.mem_map, List.mem_range]
    constructor
    · rintro ⟨y, hy, rfl⟩; omega
    · rintro ⟨h1, h2⟩; exact ⟨x - 1, by omega, by omega⟩
  have nl : l.Nodup := by
    simp only [l]
    refine List.Pairwise.map _ (fun a b (h : a ≠ b) => ?_) List.nodup_range
    intro z; exact h (by omega)
  have ll : l.length = p - 1 := by simp [l]
  let m := l.map fun x => a * x % p
  have ndx : ∀ x ∈ l, ¬ p ∣ x := fun x hx z => by
    have h3 := (ml x).mp hx
    have := Nat.le_of_dvd (by omega) z
    omega
  have nm : m.Nodup := by
    simp only [m]
    rw [List.nodup_iff_pairwise_ne] at nl ⊢
    rw [List.pairwise_map]
    refine nl.imp_of_mem fun {b c} hb hc hne z => hne ?_
    exact mod_cancel hp ha ((ml b).mp hb).2 ((ml c).mp hc).2 z
  have sm : ∀ x ∈ m, x ∈ l := fun x hx => by
    obtain ⟨y, hy, rfl⟩ := List.mem_map.mp hx
    refine (ml _).mpr ⟨?_, Nat.mod_lt _ (by omega)⟩
    rcases Nat.eq_zero_or_pos (a * y % p) with z | z
    · rcases hp.euclid (Nat.dvd_of_mod_eq_zero z) with q | q
      · exact absurd q ha
      · exact absurd q (ndx y hy)
    · exact z
  have pm : l.Perm m := perm_of_sub nm sm (by simp [m])
  have e := prodN_map_mod p a l
  rw [← prodN_perm pm, ll] at e
  have hd : ¬ p ∣ prodN l := prodN_cop hp ndx
  have e2 : prodN l * (1 % p) % p = prodN l * (a ^ (p - 1) % p) % p := by
    rw [Nat.mul_mod, Nat.mod_mod, ← Nat.mul_mod, Nat.mul_one, e, Nat.mul_mod (prodN l), Nat.mod_mod, ← Nat.mul_mod, Nat.mul_comm]
  have := mod_cancel hp hd (Nat.mod_lt _ (by omega)) (Nat.mod_lt _ (by omega)) e2
  rw [← this]
  exact Nat.mod_eq_of_lt (by omega)

/-! ### roots of a sum of powers, the highest one once -/
def evM : List Int → Int → Int
  | [], _ => 1
  | c :: cs, x => c + x * evM cs x
def comb : List Int → Int → List Int → List Int
  | [], _, _ => []
  | c :: cs, r, [] => (c + r) :: cs
  | c :: cs, r, d :: ds => (c + r * d) :: comb cs r ds
def quoM : List Int → Int → List Int
  | [], _ => []
  | _ :: cs, r => comb cs r (quoM cs r)
theorem comb_len : ∀ (cs : List Int) (r : Int) (ds : List Int), (comb cs r ds).length = cs.length
  | [], _, _ => rfl
  | _ :: _, _, [] => rfl
  | c :: cs, r, d :: ds => by simp only [comb, List.length_cons, comb_len cs r ds]
theorem quoM_len (c : Int) (cs : List Int) (r : Int) : (quoM (c :: cs) r).length = cs.length := comb_len _ _ _
theorem ev_comb : ∀ (cs : List Int) (r x : Int) (ds : List Int), cs.length = ds.length + 1 → evM (comb cs r ds) x = evM cs x + r * evM ds x
  | [], _, _, _, h => by simp at h
  | [c], r, x, [], _ => by
    simp only [comb, evM, Int.mul_one]
    omega
  | c :: c2 :: cs, r, x, [], h => by simp at h
  | c :: cs, r, x, d :: ds, h => by
    simp only [comb, evM]
    rw [ev_comb cs r x ds (by simpa using h)]
    simp only [Int.mul_add]
    have e : x * (r * evM ds x) = r * (x * evM ds x) := Int.mul_left_comm x r _
    omega
theorem ev_quo : ∀ (cs : List Int) (c r x : Int), evM (c :: cs) x - evM (c :: cs) r = (x - r) * evM (quoM (c :: cs) r) x
  | [], c, r, x => by
    simp only [quoM, comb, evM, Int.mul_one]
    omega
  | d :: ds, c, r, x => by
    have ih := ev_quo ds d r x
    have hl : (d :: ds).length = (quoM (d :: ds) r).length + 1 := by rw [quoM_len, List.length_cons]
    rw [show quoM (c :: d :: ds) r = comb (d :: ds) r (quoM (d :: ds) r) from rfl, ev_comb _ _ _ _ hl]
    rw [show evM (c :: d :: ds) x = c + x * evM (d :: ds) x from rfl, show evM (c :: d :: ds) r = c + r * evM (d :: ds) r from rfl]
    generalize evM (d :: ds) x = Ex at ih ⊢
    generalize evM (d :: ds) r = Er at ih ⊢
    generalize evM (quoM (d :: ds) r) x = Eq at ih ⊢
    have e1 : (x - r) * (Ex + r * Eq) = (x - r) * Ex + r * ((x - r) * Eq) := by
      rw [Int.mul_add, Int.mul_left_comm (x - r) r Eq]
    rw [e1, ← ih, Int.sub_mul, Int.mul_sub]
    omega
theorem IsPr.euclidZ {p : Nat} {a b : Int} (hp : IsPr p) (h : (p : Int) ∣ a * b) : (p : Int) ∣ a ∨ (p : Int) ∣ b := by
  have h1 : p ∣ a.natAbs * b.natAbs := by
    rw [← Int.natAbs_mul]
    exact Int.ofNat_dvd_left.mp h
  rcases hp.euclid h1 with z | z
  · exact .inl (Int.ofNat_dvd_left.mpr z)
  · exact .inr (Int.ofNat_dvd_left.mpr z)
theorem roots_le {p : Nat} (hp : IsPr p) : ∀ (n : Nat) (f : List Int) (rs : List Int), f.length = n → (rs.Pairwise fun a b => ¬ (p : Int) ∣ b - a) → (∀ r ∈ rs, (p : Int) ∣ evM f r) → rs.length ≤ n
  | _, [], [], _, _, _ => Nat.zero_le _
  | _, [], r :: rs, _, _, h => by
    have h1 : (p : Int) ∣ 1 := h r (List.mem_cons_self ..)
    have h2 := Nat.le_of_dvd (by decide) (Int.ofNat_dvd_left.mp h1)
    have h3 := hp.1
    simp at h2
    omega
  | _, c :: cs, [], _, _, _ => Nat.zero_le _
  | 0, c :: cs, r :: rs, e, _, _ => by simp at e
  | n + 1, c :: cs, r :: rs, e, hpw, h => by
    obtain ⟨h1, h2⟩ := List.pairwise_cons.mp hpw
    have hr := h r (List.mem_cons_self ..)
    have := roots_le hp n (quoM (c :: cs) r) rs (by rw [quoM_len]; simpa using e) h2 (fun s hs => by
      have hs' := h s (List.mem_cons_of_mem _ hs)
      have d := Int.dvd_sub hs' hr
      rw [ev_quo] at d
      rcases hp.euclidZ d with z | z
      · exact absurd z (h1 s hs)
      · exact z)
    simpa using this
theorem ev_zeros (x : Int) : ∀ k : Nat, evM (List.replicate k 0) x = x ^ k
  | 0 => by rw [Int.pow_zero]; rfl
  | k + 1 => by
    rw [List.replicate_succ]
    show 0 + x * evM (List.replicate k 0) x = _
    rw [ev_zeros x k, Int.zero_add, Int.pow_succ, Int.mul_comm]
/-- a power less one -/
theorem ev_pow (x : Int) {h : Nat} (h1 : 1 ≤ h) : evM (-1 :: List.replicate (h - 1) 0) x = x ^ h - 1 := by
  show -1 + x * evM (List.replicate (h - 1) 0) x = _
  rw [ev_zeros]
  obtain ⟨k, rfl⟩ : ∃ k, h = k + 1 := ⟨h - 1, by omega⟩
  rw [Nat.add_sub_cancel, Int.pow_succ, Int.mul_comm]
  omega
/-! ### Euler -/
theorem dvd_pow_sub_one {p a e : Nat} (h2 : 2 ≤ p) (h : a ^ e % p = 1) : (p : Int) ∣ (a : Int) ^ e - 1 := by
  have h1 : ((a ^ e : Nat) : Int) % (p : Int) = 1 := by
    have : ((a ^ e : Nat) : Int) % (p : Int) = ((a ^ e % p : Nat) : Int) := rfl
    rw [this, h]; rfl
  have e1 : ((a ^ e : Nat) : Int) = (a : Int) ^ e := by simp
  rw [e1] at h1
  refine Int.dvd_of_emod_eq_zero (Int.emod_eq_emod_iff_emod_sub_eq_zero.mp (h1.trans ?_))
  exact (Int.emod_eq_of_lt (by decide) (by omega)).symm
/-- a power that is one by p is a square's -/
theorem euler_sq {p a : Nat} (hp : IsPr p) (ho : p ≠ 2) (h : a ^ ((p - 1) / 2) % p = 1) : ∃ i : Nat, i < p ∧ i * i % p = a % p := by
  have h2 := hp.1
  have hodd : p % 2 = 1 := by
    rcases Nat.mod_two_eq_zero_or_one p with z | z
    · rcases hp.2 2 (Nat.dvd_of_mod_eq_zero z) with q | q <;> omega
    · exact z
  have hh : 2 * ((p - 1) / 2) = p - 1 := by omega
  have hh1 : 1 ≤ (p - 1) / 2 := by omega
  generalize hhd : (p - 1) / 2 = m at h hh hh1
  apply Classical.byContradiction
  intro hno
  let sq : List Int := (List.range m).map fun i => ((i + 1 : Nat) : Int) * ((i + 1 : Nat) : Int)
  have key := roots_le hp m (-1 :: List.replicate (m - 1) 0) ((a : Int) :: sq) (by simp; omega) ?_ ?_
  · simp [sq] at key
    omega
  · refine List.pairwise_cons.mpr ⟨fun b hb hd => ?_, ?_⟩
    · obtain ⟨i, hi, rfl⟩ := List.mem_map.mp hb
      rw [List.mem_range] at hi
      refine hno ⟨i + 1, by omega, ?_⟩
      have e := Int.emod_eq_emod_iff_emod_sub_eq_zero.mpr (Int.emod_eq_zero_of_dvd hd)
      have e2 : (((i + 1) * (i + 1) % p : Nat) : Int) = ((a % p : Nat) : Int) := by
        rw [Int.natCast_emod, Int.natCast_mul, Int.natCast_emod]
        exact e
      omega
    · show (List.map _ _).Pairwise _
      rw [List.pairwise_map]
      refine List.pairwise_lt_range.imp_of_mem fun {i j} hi hj hij hd => ?_
      rw [List.mem_range] at hi hj
      have e : ((j + 1 : Nat) : Int) * ((j + 1 : Nat) : Int) - ((i + 1 : Nat) : Int) * ((i + 1 : Nat) : Int) = ((j - i : Nat) : Int) * ((i + j + 2 : Nat) : Int) := by
        obtain ⟨d, rfl⟩ := Nat.exists_eq_add_of_le (Nat.le_of_lt hij)
        rw [show i + d - i = d by omega]
        have q : (i + d + 1) * (i + d + 1) = (i + 1) * (i + 1) + d * (i + (i + d) + 2) := by
          simp only [Nat.mul_add, Nat.add_mul]
          have := Nat.mul_comm i d
          omega
        have q2 : ((i + d + 1 : Nat) : Int) * ((i + d + 1 : Nat) : Int) = ((i + 1 : Nat) : Int) * ((i + 1 : Nat) : Int) + (d : Int) * ((i + (i + d) + 2 : Nat) : Int) := by
          rw [← Int.natCast_mul, ← Int.natCast_mul, ← Int.natCast_mul, ← Int.natCast_add, q]
        omega
      rw [e] at hd
      rcases hp.euclidZ hd with z | z
      · have := Nat.le_of_dvd (by omega) (Int.natCast_dvd_natCast.mp z)
        omega
      · have := Nat.le_of_dvd (by omega) (Int.natCast_dvd_natCast.mp z)
        omega
  · intro r hr
    rw [ev_pow _ hh1]
    rcases List.mem_cons.mp hr with z | z
    · subst z
      exact dvd_pow_sub_one h2 h
    · obtain ⟨i, hi, rfl⟩ := List.mem_map.mp z
      rw [List.mem_range] at hi
      have nd : ¬ p ∣ i + 1 := fun z => by
        have := Nat.le_of_dvd (by omega) z
        omega
      have f := dvd_pow_sub_one h2 (fermat hp nd)
      have e : (((i + 1 : Nat) : Int) * ((i + 1 : Nat) : Int)) ^ m = ((i + 1 : Nat) : Int) ^ (p - 1) := by
        rw [← hh, Int.mul_pow, ← Int.pow_add]
        congr 1
        omega
      rw [e]
      exact f

/-! ### rests of squares -/
def Rest (p : Nat) (n : Int) : Prop := ∃ s : Int, (p : Int) ∣ s * s - n
def am (n : Int) (p : Nat) : Nat := (n % (p : Int)).toNat
theorem am_cast {p : Nat} (h2 : 1 ≤ p) (n : Int) : ((am n p : Nat) : Int) = n % (p : Int) := by
  unfold am
  have := Int.emod_nonneg n (show (p : Int) ≠ 0 by omega)
  omega
theorem am_lt {p : Nat} (h2 : 1 ≤ p) (n : Int) : am n p < p := by
  have h1 := am_cast h2 n
  have h3 := Int.emod_lt_of_pos n (show (0 : Int) < p by omega)
  omega
theorem am_dvd {p : Nat} (h2 : 1 ≤ p) (n : Int) : (p : Int) ∣ n - am n p := by
  rw [am_cast h2]
  exact Int.dvd_self_sub_emod
theorem am_zero {p : Nat} (h2 : 1 ≤ p) {n : Int} : am n p = 0 ↔ (p : Int) ∣ n := by
  constructor
  · intro h
    have := am_dvd h2 n
    rw [h] at this
    simpa using this
  · intro h
    have h1 := am_cast h2 n
    rw [Int.emod_eq_zero_of_dvd h] at h1
    omega
theorem rest_iff {p : Nat} (h2 : 1 ≤ p) (n : Int) : Rest p n ↔ ∃ i : Nat, i < p ∧ i * i % p = am n p := by
  constructor
  · rintro ⟨s, h⟩
    refine ⟨am s p, am_lt h2 s, ?_⟩
    have d1 := am_dvd h2 s
    have d2 := am_dvd h2 n
    have e : (p : Int) ∣ ((am s p : Nat) : Int) * ((am s p : Nat) : Int) - ((am n p : Nat) : Int) := by
      have e1 : ((am s p : Nat) : Int) * ((am s p : Nat) : Int) - ((am n p : Nat) : Int) = (s * s - n) + (n - (am n p : Nat)) - (s - (am s p : Nat)) * (s + (am s p : Nat)) := by
        rw [Int.sub_mul, Int.mul_add, Int.mul_add, Int.mul_comm ((am s p : Nat) : Int) s]
        omega
      rw [e1]
      exact Int.dvd_sub (Int.dvd_add h d2) (Int.dvd_mul_of_dvd_left d1)
    have e2 := Int.emod_eq_emod_iff_emod_sub_eq_zero.mpr (Int.emod_eq_zero_of_dvd e)
    have e3 : ((am s p * am s p % p : Nat) : Int) = ((am n p % p : Nat) : Int) := by
      rw [Int.natCast_emod, Int.natCast_mul, Int.natCast_emod]
      exact e2
    have e4 : am s p * am s p % p = am n p % p := by omega
    rw [e4, Nat.mod_eq_of_lt (am_lt h2 n)]
  · rintro ⟨i, hi, e⟩
    refine ⟨i, ?_⟩
    have d2 := am_dvd h2 n
    have e3 : ((i * i % p : Nat) : Int) = ((am n p : Nat) : Int) := by rw [e]
    rw [Int.natCast_emod, Int.natCast_mul] at e3
    have d3 : (p : Int) ∣ (i : Int) * (i : Int) - ((i : Int) * (i : Int)) % (p : Int) := Int.dvd_self_sub_emod
    rw [e3] at d3
    have e4 : (i : Int) * (i : Int) - n = ((i : Int) * (i : Int) - (am n p : Nat)) - (n - (am n p : Nat)) := by omega
    rw [e4]
    exact Int.dvd_sub d3 d2
theorem odd_pr {p : Nat} (hp : IsPr p) (ho : p ≠ 2) : p % 2 = 1 := by
  have h2 := hp.1
  rcases Nat.mod_two_eq_zero_or_one p with z | z
  · rcases hp.2 2 (Nat.dvd_of_mod_eq_zero z) with q | q <;> omega
  · exact z
/-- Euler's word: the power is 0 or 1 just for the rests of squares -/
theorem euler_rest {p : Nat} (hp : IsPr p) (ho : p ≠ 2) (n : Int) : (am n p ^ ((p - 1) / 2) % p = 0 ∨ am n p ^ ((p - 1) / 2) % p = 1) ↔ Rest p n := by
  have h2 := hp.1
  have hodd := odd_pr hp ho
  have hh : 2 * ((p - 1) / 2) = p - 1 := by omega
  have hh1 : 1 ≤ (p - 1) / 2 := by omega
  rw [rest_iff (by omega)]
  generalize hhd : (p - 1) / 2 = m at hh hh1 ⊢
  have hal := am_lt (p := p) (by omega) n
  constructor
  · rintro (h | h)
    · have hd := hp.pow (Nat.dvd_of_mod_eq_zero h)
      have : am n p = 0 := by
        rcases Nat.eq_zero_or_pos (am n p) with z | z
        · exact z
        · have := Nat.le_of_dvd z hd
          omega
      exact ⟨0, by omega, by rw [this]; simp⟩
    · rw [← hhd] at h
      obtain ⟨i, hi, e⟩ := euler_sq hp ho h
      exact ⟨i, hi, by rw [e, Nat.mod_eq_of_lt hal]⟩
  · rintro ⟨i, hi, e⟩
    rw [← e, ← Nat.pow_mod]
    by_cases hd : p ∣ i
    · left
      have : p ∣ (i * i) ^ m := Nat.dvd_trans (Nat.dvd_trans hd (Nat.dvd_mul_right i i)) (by
        obtain ⟨k, rfl⟩ : ∃ k, m = k + 1 := ⟨m - 1, by omega⟩
        rw [Nat.pow_succ]
        exact Nat.dvd_mul_left _ _)
      exact Nat.mod_eq_zero_of_dvd this
    · right
      have e2 : (i * i) ^ m = i ^ (p - 1) := by
        rw [← hh, Nat.mul_pow, ← Nat.pow_add]
        congr 1
        omega
      rw [e2]
      exact fermat hp hd
theorem rest_two (n : Int) : Rest 2 n := by
  refine ⟨n, ?_⟩
  have e : n * n - n = n * (n - 1) := by rw [Int.mul_sub, Int.mul_one]
  rw [e]
  rcases (show n % 2 = 0 ∨ n % 2 = 1 by omega) with z | z
  · exact Int.dvd_mul_of_dvd_left (Int.dvd_of_emod_eq_zero z)
  · exact Int.dvd_mul_of_dvd_right (Int.dvd_of_emod_eq_zero (by omega))
/-! ### powers by squaring -/
theorem pow_step (p power square left : Nat) (ho : left % 2 = 1) : (power * square % p) * (square * square % p) ^ (left / 2) % p = power * square ^ left % p := by
  rw [Nat.mul_mod, Nat.mod_mod, ← Nat.pow_mod, ← Nat.mul_mod]
  congr 1
  have e : square ^ left = square * (square * square) ^ (left / 2) := by
    have : left = 1 + 2 * (left / 2) := by omega
    conv => lhs; rw [this]
    rw [Nat.pow_add, Nat.pow_one, Nat.mul_pow, Nat.two_mul, Nat.pow_add]
  rw [e, Nat.mul_assoc]
theorem pow_even (p power square left : Nat) (he : left % 2 = 0) : power * (square * square % p) ^ (left / 2) % p = power * square ^ left % p := by
  rw [Nat.mul_mod, ← Nat.pow_mod, ← Nat.mul_mod]
  congr 1
  have e : square ^ left = (square * square) ^ (left / 2) := by
    have : left = 2 * (left / 2) := by omega
    conv => lhs; rw [this]
    rw [Nat.mul_pow, Nat.two_mul, Nat.pow_add]
  rw [e]
/-! ### small primes by looking -/
/-! ### plain parts are told in one way -/
structure PlainOf (n s : Int) (f : Nat) : Prop where
  eq : n = s * ((f : Int) * (f : Int))
  pos : 1 ≤ f
  sq : ∀ k : Nat, 2 ≤ k → ¬ k * k ∣ s.natAbs
theorem sq_dvd {f g m : Nat} (hf : 1 ≤ f) (hsq : ∀ k : Nat, 2 ≤ k → ¬ k * k ∣ m) (h : f * f ∣ m * (g * g)) : f ∣ g := by
  have hd : 0 < Nat.gcd f g := Nat.gcd_pos_of_pos_left _ hf
  obtain ⟨a, ha⟩ := Nat.gcd_dvd_left f g
  obtain ⟨b, hb⟩ := Nat.gcd_dvd_right f g
  have cop : Nat.Coprime a b := by
    have h1 := Nat.coprime_div_gcd_div_gcd (m := f) (n := g) hd
    have e1 : f / Nat.gcd f g = a := Nat.div_eq_of_eq_mul_right hd ha
    have e2 : g / Nat.gcd f g = b := Nat.div_eq_of_eq_mul_right hd hb
    rw [e1, e2] at h1
    exact h1
  generalize Nat.gcd f g = d at ha hb hd
  have h2 : a * a ∣ m * (b * b) := by
    have e1 : f * f = (d * d) * (a * a) := by rw [ha]; ac_rfl
    have e2 : m * (g * g) = (d * d) * (m * (b * b)) := by rw [hb]; ac_rfl
    rw [e1, e2] at h
    exact Nat.dvd_of_mul_dvd_mul_left (Nat.mul_pos hd hd) h
  have c2 : Nat.Coprime (a * a) (b * b) := Nat.Coprime.mul_left (Nat.Coprime.mul_right cop cop) (Nat.Coprime.mul_right cop cop)
  have h3 : a * a ∣ m := Nat.Coprime.dvd_of_dvd_mul_right c2 h2
  have ha1 : a = 1 := by
    rcases Nat.lt_or_ge a 2 with z | z
    · have : a ≠ 0 := fun e => by subst e; simp at ha; omega
      omega
    · exact absurd h3 (hsq a z)
  subst ha1
  rw [Nat.mul_one] at ha
  rw [ha]
  exact ⟨b, hb⟩
theorem PlainOf.uniq {n s s' : Int} {f f' : Nat} (h : PlainOf n s f) (h' : PlainOf n s' f') : s = s' ∧ f = f' := by
  have e : s.natAbs * (f * f) = s'.natAbs * (f' * f') := by
    have e1 : n.natAbs = s.natAbs * (f * f) := by rw [h.eq, Int.natAbs_mul, Int.natAbs_mul]; rfl
    have e2 : n.natAbs = s'.natAbs * (f' * f') := by rw [h'.eq, Int.natAbs_mul, Int.natAbs_mul]; rfl
    rw [← e1, ← e2]
  have d1 : f ∣ f' := sq_dvd h.pos h'.sq (e ▸ Nat.dvd_mul_left _ _)
  have d2 : f' ∣ f := sq_dvd h'.pos h.sq (e ▸ Nat.dvd_mul_left _ _)
  have ef := Nat.dvd_antisymm d1 d2
  subst ef
  refine ⟨?_, rfl⟩
  have e3 := h.eq.symm.trans h'.eq
  have h0 : ((f : Int) * (f : Int)) ≠ 0 := by
    intro z
    have := h.pos
    rcases Int.mul_eq_zero.mp z with z | z <;> omega
  exact Int.eq_of_mul_eq_mul_right h0 e3
/-! ### what shuts a form -/
def ShutP (s t : Int) (p : Nat) : Prop :=
  ((p : Int) ∣ s ∧ (p : Int) ∣ t ∧ ¬ Rest p (-(s / p) * (t / p))) ∨ ((p : Int) ∣ s ∧ ¬ (p : Int) ∣ t ∧ ¬ Rest p t) ∨ (¬ (p : Int) ∣ s ∧ (p : Int) ∣ t ∧ ¬ Rest p s)
/-- of two numbers, by their plain parts -/
def Shuts (a b : Int) (p : Nat) : Prop := ∃ (s t : Int) (f g : Nat), PlainOf a s f ∧ PlainOf b t g ∧ ShutP s t p
theorem Shuts.iff {a b s t : Int} {f g : Nat} (ha : PlainOf a s f) (hb : PlainOf b t g) (p : Nat) : Shuts a b p ↔ ShutP s t p := by
  constructor
  · rintro ⟨s', t', f', g', h1, h2, h⟩
    obtain ⟨rfl, _⟩ := ha.uniq h1
    obtain ⟨rfl, _⟩ := hb.uniq h2
    exact h
  · exact fun h => ⟨s, t, f, g, ha, hb, h⟩
theorem ShutP.dvd {s t : Int} {p : Nat} (h : ShutP s t p) : (p : Int) ∣ s ∨ (p : Int) ∣ t := by
  rcases h with h | h | h
  · exact .inl h.1
  · exact .inl h.1
  · exact .inr h.2.1
/-! ### the plain part by looking -/
/-! ### odd primes by looking -/
end EM
/-! EvBase: what every row of stage 1 shares; no row is named here. Behind EvTry, EvMath. -/
namespace E1
open PySem L2
/-! ### whole numbers by their kinds -/
inductive WholeIs (K : PySem.W.Frag) (H : Hp) : V → Bool → Prop where
  | int (i : Int) : WholeIs K H (.int i) true
  | bl (x : Bool) : WholeIs K H (.bl x) false
  | odd {v : V} {T : String} (ty : TyOf K H v (.type T)) (k : PySem.W.kitOne K (.type T) (.type "int") = some false) : WholeIs K H v false
theorem ty_same {K : PySem.W.Frag} {H H' : Hp} {v : V} {T : String} (s : Same H H') (ty : TyOf K H v (.type T)) : TyOf K H' v (.type T) := by
  cases ty with
  | non => exact .non
  | bl x => exact .bl x
  | int i => exact .int i
  | str x => exact .str x
  | flt x => exact .flt x
  | lst e => exact .lst (s _ _ e)
  | frz e => exact .frz (s _ _ e)
  | tup e => exact .tup (s _ _ e)
  | dK e => exact .dK (s _ _ e)
  | dT e => exact .dT (s _ _ e)
theorem WholeIs.same {K : PySem.W.Frag} {H H' : Hp} {v : V} {b : Bool} (s : Same H H') (h : WholeIs K H v b) : WholeIs K H' v b := by
  cases h with
  | int i => exact .int i
  | bl x => exact .bl x
  | odd ty k => exact .odd (ty_same s ty) k
section
variable (K : PySem.W.Frag)
theorem kit_int_int : PySem.W.kitOne K (.type "int") (.type "int") = some true := by kernel_rfl
theorem kit_int_bool : PySem.W.kitOne K (.type "int") (.type "bool") = some false := by kernel_rfl
theorem kit_bool_int : PySem.W.kitOne K (.type "bool") (.type "int") = some true := by kernel_rfl
theorem kit_bool_bool : PySem.W.kitOne K (.type "bool") (.type "bool") = some true := by kernel_rfl
end
theorem rel_ty {n : String} {K : PySem.W.Frag} {t : Value} {b : Bool} (h : PySem.W.kitOne K t (.type n) = some b) : ∀ u, RelV (.ty n) u → PySem.W.kitOne K t u = some b := fun u r => by
  cases (show u = Value.type n from r)
  exact h
/-- what the walk asks of the names that stand at the top -/
structure Txt (K : PySem.W.Frag) (mg : Str → Option Value) (M C : Addr) : Prop where
  isi : mg "isinstance" = none
  int : mg "int" = none
  bool : mg "bool" = none
  abs : mg "abs" = none
  max : mg "max" = none
  min : mg "min" = none
  len : mg "len" = none
  range : mg "range" = none
  ve : mg "ValueError" = none
  tup : mg "tuple" = none
  lst : mg "list" = none
  str : mg "str" = none
  dct : mg "dict" = none
  any : mg "any" = none
  sor : mg "sorted" = none
  sum : mg "sum" = none
  all : mg "all" = none
  set : mg "set" = none
  zip : mg "zip" = none
  enu : mg "enumerate" = none
  mgM : mg "MeetError" = some (.ref M)
  mgC : mg "NoNumber" = some (.ref C)
  eM : PySem.W.ExcK K M
  eC : PySem.W.ExcK K C
  cl : PySem.W.ClsK K
  sub : PySem.W.mroIn K C (.ref M) = some true
  kC : PySem.W.kitOne K (.ref C) (.ref C) = some true
  kV : PySem.W.kitOne K (.ref C) (.type "ValueError") = some true
/-! ### the promises -/
def spWhole (K : PySem.W.Frag) : Sp := fun vs H Q _ => ∃ v b, vs = [v] ∧ WholeIs K H v b ∧ Q (.bl b) H
def spMust (K : PySem.W.Frag) (C : Addr) : Sp := fun vs H Q E => ∃ v b, vs = [v] ∧ WholeIs K H v b ∧ (b = true → Q .non H) ∧ (b = false → E (.ref C) none H)
def gcdV (i j : Int) : V := .int ((Int.gcd i j : Nat) : Int)
def spShared (K : PySem.W.Frag) (C : Addr) : Sp := fun vs H Q E => (∃ i j, vs = [.int i, .int j] ∧ Q (gcdV i j) H) ∨ (∃ v u b c, vs = [v, u] ∧ WholeIs K H v b ∧ WholeIs K H u c ∧ (b = false ∨ c = false) ∧ E (.ref C) none H)
def spCell (K : PySem.W.Frag) : Sp := fun vs H Q _ => ∃ (a : Addr) (ns : List Int) (k : Nat), vs = [.ref a, .int (k : Int)] ∧ SqL K H a (ns.map V.int) ∧ k ≤ 1000 ∧ ∀ z : Int, Q (.int z) H
def spPool : Sp := fun vs H Q _ => ∃ c : Int, vs = [.int c] ∧ ∀ p f, H p = none → 0 ≤ f → Q (.ref p) (upd H p (.lst [.int f]))
def spTake : Sp := fun vs H Q _ => ∃ (p : Addr) (f m : Int), vs = [.ref p, .int m] ∧ H p = some (.lst [.int f]) ∧ 0 ≤ f ∧ 0 < m ∧ m < 1073741824 ∧ ∀ g r : Int, 0 ≤ g → 0 ≤ r → r < m → Q (.int r) (upd H p (.lst [.int g]))
/-- all but what stands at p is as it was; there a pool stands again -/
structure Drawn1 (p : Addr) (H H' : Hp) : Prop where
  pool : ∃ g : Int, 0 ≤ g ∧ H' p = some (.lst [.int g])
  kept : ∀ b o, H b = some o → b ≠ p → H' b = some o
theorem Drawn1.refl {p : Addr} {H : Hp} {f : Int} (h0 : 0 ≤ f) (e : H p = some (.lst [.int f])) : Drawn1 p H H := ⟨⟨f, h0, e⟩, fun _ _ h _ => h⟩
theorem Drawn1.trans {p : Addr} {H H1 H2 : Hp} (a : Drawn1 p H H1) (b : Drawn1 p H1 H2) : Drawn1 p H H2 := ⟨b.pool, fun c o h n => b.kept c o (a.kept c o h n) n⟩
theorem Drawn1.put {p : Addr} {H : Hp} {g : Int} (h0 : 0 ≤ g) : Drawn1 p H (upd H p (.lst [.int g])) := ⟨⟨g, h0, upd_same⟩, fun _ _ h n => by rw [upd_ne n]; exact h⟩
theorem Drawn1.new {p q : Addr} {H : Hp} {o : HO} {f : Int} (h0 : 0 ≤ f) (e : H p = some (.lst [.int f])) (n : H q = none) : Drawn1 p H (upd H q o) :=
  ⟨⟨f, h0, by rw [upd_ne (ne_of_none e n)]; exact e⟩, fun b u h _ => by rw [upd_ne (ne_of_none h n)]; exact h⟩
theorem same_new {q : Addr} {H : Hp} {o : HO} (n : H q = none) : Same H (upd H q o) := fun b u h => by rw [upd_ne (ne_of_none h n)]; exact h
theorem gcd_step {d r : Int} (hd : 0 ≤ d) (hr : 0 < r) : Int.gcd r (d % r) = Int.gcd d r := by
  obtain ⟨n, rfl⟩ := Int.eq_ofNat_of_zero_le hd
  obtain ⟨m, rfl⟩ := Int.eq_ofNat_of_zero_le (Int.le_of_lt hr)
  have e : ((n : Int) % (m : Int)) = ((n % m : Nat) : Int) := by omega
  rw [e]
  show Nat.gcd m (n % m) = Nat.gcd n m
  rw [Nat.gcd_comm m, ← Nat.gcd_rec m n, Nat.gcd_comm]
theorem gcd_end {d : Int} (hd : 0 ≤ d) : ((Int.gcd d 0 : Nat) : Int) = d := by
  obtain ⟨n, rfl⟩ := Int.eq_ofNat_of_zero_le hd
  show ((Nat.gcd n 0 : Nat) : Int) = n
  rw [Nat.gcd_zero_right]
theorem abs_nat (i : Int) : (if i < 0 then -i else i) = ((i.natAbs : Nat) : Int) := by
  split <;> omega
theorem gcd_abs (i j : Int) : Int.gcd (if i < 0 then -i else i) (if j < 0 then -j else j) = Int.gcd i j := by
  rw [abs_nat, abs_nat]
  show Nat.gcd (i.natAbs) (j.natAbs) = Nat.gcd (i.natAbs) (j.natAbs)
  rfl
theorem abs_nn (i : Int) : 0 ≤ (if i < 0 then -i else i) := by split <;> omega
theorem gtMono {i : Nat} {e : Int} : ∀ (σ : St) (H : Hp) (Q Q' : Bool → Hp → Prop), (∀ b H1, Q b H1 → Q' b H1) → tTest (tOp (rI0 fun a b => .bl (decide (b < a))) (tVar i) (tC (.int e))) σ H Q → tTest (tOp (rI0 fun a b => .bl (decide (b < a))) (tVar i) (tC (.int e))) σ H Q' := by
  rintro σ H Q Q' hq ⟨v, e1, a, b, e2, e3, k, e4, q⟩
  exact ⟨v, e1, a, b, e2, e3, k, e4, hq _ _ q⟩
theorem passN {X : Cx} {P : Program} {w : World} : Passes (CX1 P w) X E0 := fun _ _ _ _ _ _ _ q => by
  obtain ⟨_, _, _, _, _, _, _, _, _, _, z⟩ := q
  exact z.elim
theorem cut_ints {ns : List Int} {lo hi : Option Int} : ∀ x ∈ cutV (ns.map V.int) lo hi, ∃ z, x = V.int z := fun x hx => by
  unfold cutV at hx
  obtain ⟨z, _, e⟩ := List.mem_map.mp (List.mem_of_mem_drop (List.mem_of_mem_take hx))
  exact ⟨z, e.symm⟩
theorem Drawn1.same {p : Addr} {H H' : Hp} {o : HO} (D : Drawn1 p (upd H p o) H') (n : H p = none) : Same H H' := fun b u h =>
  D.kept b u (by rw [upd_ne (ne_of_none h n)]; exact h) (ne_of_none h n)
/-! ### primes as tuples in a list -/
def spFrom (K : PySem.W.Frag) (C : Addr) : Sp := fun vs H Q E => ∃ (m : Int) (v : V), vs = [.int m, v] ∧ (m = 0 ∨ m = 1) ∧ ((∃ i, v = .int i ∧ m ≤ i ∧ Q .non H) ∨ (∃ i, v = .int i ∧ i < m ∧ E (.ref C) none H) ∨ (WholeIs K H v false ∧ E (.ref C) none H))
def TupsAt (H : Hp) : List V → List (Nat × Nat) → Prop
  | [], [] => True
  | v :: vs, x :: xs => (∃ t, v = .ref t ∧ H t = some (.tup [.int (x.1 : Nat), .int (x.2 : Nat)])) ∧ TupsAt H vs xs
  | _, _ => False
theorem TupsAt.imp {H H' : Hp} (h : ∀ t xs, H t = some (.tup xs) → H' t = some (.tup xs)) : ∀ {ws : List V} {L : List (Nat × Nat)}, TupsAt H ws L → TupsAt H' ws L
  | [], [], _ => trivial
  | v :: vs, x :: xs, ⟨⟨t, e, q⟩, r⟩ => ⟨⟨t, e, h _ _ q⟩, r.imp h⟩
theorem TupsAt.same {H H' : Hp} (s : Same H H') {ws : List V} {L : List (Nat × Nat)} (h : TupsAt H ws L) : TupsAt H' ws L := h.imp fun t xs q => s _ _ q
theorem TupsAt.upd {H : Hp} {l : Addr} {o : HO} {ys : List V} (hl : H l = some (.lst ys)) {ws : List V} {L : List (Nat × Nat)} (h : TupsAt H ws L) : TupsAt (upd H l o) ws L :=
  h.imp fun t xs q => by rw [upd_ne (ne_of q hl (by intro z; cases z))]; exact q
theorem TupsAt.snoc {H : Hp} {t : Addr} {x : Nat × Nat} (e : H t = some (.tup [.int (x.1 : Nat), .int (x.2 : Nat)])) : ∀ {ws : List V} {L : List (Nat × Nat)}, TupsAt H ws L → TupsAt H (ws ++ [.ref t]) (L ++ [x])
  | [], [], _ => ⟨⟨t, rfl, e⟩, trivial⟩
  | v :: vs, y :: ys, ⟨a, r⟩ => ⟨a, r.snoc e⟩
theorem TupsAt.len {H : Hp} : ∀ {ws : List V} {L : List (Nat × Nat)}, TupsAt H ws L → ws.length = L.length
  | [], [], _ => rfl
  | v :: vs, y :: ys, ⟨_, r⟩ => by rw [List.length_cons, List.length_cons, r.len]
theorem TupsAt.get {H : Hp} : ∀ {ws : List V} {L : List (Nat × Nat)} {i : Nat} {v : V}, TupsAt H ws L → ws[i]? = some v → ∃ t x, v = .ref t ∧ L[i]? = some x ∧ H t = some (.tup [.int (x.1 : Nat), .int (x.2 : Nat)])
  | v :: vs, y :: ys, 0, u, ⟨⟨t, e, q⟩, _⟩, h => by
    cases h
    exact ⟨t, y, e, rfl, q⟩
  | v :: vs, y :: ys, i + 1, u, ⟨_, r⟩, h => r.get (i := i) h
def spPrimes (K : PySem.W.Frag) (C : Addr) : Sp := fun vs H Q E =>
  (∃ n : Nat, vs = [.int (n : Nat)] ∧ 1 ≤ n ∧ n < 2 ^ 60 ∧ ∀ l ws L H', H l = none → Same H H' → H' l = some (.lst ws) → TupsAt H' ws L → EM.Fac n L → Q (.ref l) H') ∨
  (∃ v, vs = [v] ∧ (WholeIs K H v false ∨ ∃ i, v = .int i ∧ i < 1) ∧ E (.ref C) none H)
def spPlain (K : PySem.W.Frag) (C : Addr) : Sp := fun vs H Q E =>
  (∃ n : Int, vs = [.int n] ∧ n ≠ 0 ∧ n.natAbs < 2 ^ 30 ∧ ∀ (t : Addr) (s : Int) (f : Nat) (H' : Hp), Same H H' → H' t = some (.tup [.int s, .int (f : Nat)]) → n = s * ((f : Int) * (f : Int)) → 1 ≤ f → (∀ k : Nat, 2 ≤ k → ¬ k * k ∣ s.natAbs) → Q (.ref t) H') ∨
  (∃ v, vs = [v] ∧ (WholeIs K H v false ∨ v = .int 0) ∧ E (.ref C) none H)
theorem same_upd {H H' : Hp} {l : Addr} {o : HO} (s : Same H H') (hl : H l = none) : Same H (upd H' l o) := fun b u e => by
  rw [upd_ne (ne_of_none e hl)]
  exact s _ _ e
/-! ### primes as data -/
def ptup (x : Nat × Nat) : PyData := .tuple [.int (x.1 : Nat), .int (x.2 : Nat)]
theorem tups_isD {K : PySem.W.Frag} {H : Hp} : ∀ {ws : List V} {L : List (Nat × Nat)}, TupsAt H ws L → IsDs K H (L.map ptup) ws
  | [], [], _ => by simp only [List.map_nil, IsDs]
  | v :: vs, x :: xs, ⟨⟨t, e, q⟩, r⟩ => by
    simp only [List.map_cons, IsDs]
    refine ⟨v, vs, rfl, ?_, tups_isD r⟩
    simp only [ptup, IsD]
    exact ⟨t, _, e, SqT.of q, by simp [IsDs, IsD]⟩
theorem eqv_ptups : ∀ (L M : List (Nat × Nat)), PyData.eqvAll (L.map ptup) (M.map ptup) = decide (L = M)
  | [], [] => by simp [PyData.eqvAll]
  | [], m :: M => by simp [PyData.eqvAll]
  | x :: L, [] => by simp [PyData.eqvAll]
  | (a, b) :: L, (c, d) :: M => by
    have h1 : ((a : Int) == (c : Int)) = decide (a = c) := by
      rw [Bool.eq_iff_iff]; simp; omega
    have h2 : ((b : Int) == (d : Int)) = decide (b = d) := by
      rw [Bool.eq_iff_iff]; simp; omega
    simp only [List.map_cons, PyData.eqvAll, ptup, PyData.eqv, eqv_ptups L M, h1, h2, Bool.and_true]
    rw [Bool.eq_iff_iff]
    simp [and_assoc]
theorem lay_ptups : ∀ L : List (Nat × Nat), PyData.canLayAll0 (L.map ptup) = true
  | [] => by simp [PyData.canLayAll0]
  | x :: L => by simp [PyData.canLayAll0, ptup, PyData.canLay0, lay_ptups L]
theorem depth_ptups : ∀ L : List (Nat × Nat), PyData.depthAll (L.map ptup) ≤ 1
  | [] => by simp [PyData.depthAll]
  | x :: L => by
    have := depth_ptups L
    simp [PyData.depthAll, ptup, PyData.depth]
    omega
theorem shaped_ptups (L : List (Nat × Nat)) : PySem.SeqAt.shaped (.list (L.map ptup)) = true := by
  unfold PySem.SeqAt.shaped
  rw [Bool.and_eq_true]
  refine ⟨by simp only [PyData.canLay0]; exact lay_ptups L, decide_eq_true ?_⟩
  have := depth_ptups L
  simp only [PyData.depth]
  omega
def spIsPrime : Sp := fun vs H Q _ => ∃ i : Int, vs = [.int i] ∧ i < 2 ^ 60 ∧ ∀ (b : Bool) (H' : Hp), Same H H' → (b = true ↔ ∃ p : Nat, i = (p : Int) ∧ EM.IsPr p) → Q (.bl b) H'
def spPower : Sp := fun vs H Q _ => ∃ (n : Int) (e p : Nat), vs = [.int n, .int (e : Nat), .int (p : Nat)] ∧ 2 ≤ p ∧ p < 2 ^ 30 ∧ Q (.int ((EM.am n p ^ e % p : Nat) : Int)) H
def spIsRest (K : PySem.W.Frag) (C : Addr) : Sp := fun vs H Q E =>
  (∃ (n : Int) (p : Nat), vs = [.int n, .int (p : Nat)] ∧ EM.IsPr p ∧ p < 2 ^ 30 ∧ ∀ (b : Bool) (H' : Hp), Same H H' → (b = true ↔ EM.Rest p n) → Q (.bl b) H') ∨
  (∃ v u : V, vs = [v, u] ∧ (WholeIs K H v false ∨ (∃ n : Int, v = .int n) ∧ (WholeIs K H u false ∨ ∃ i : Int, u = .int i ∧ i < 2 ^ 60 ∧ ¬ ∃ p : Nat, i = (p : Int) ∧ EM.IsPr p)) ∧ ∀ H', Same H H' → E (.ref C) none H')
/-! ### forms -/
def spPShut : Sp := fun vs H Q _ => ∃ (s t : Int) (p : Nat), vs = [.int s, .int t, .int (p : Nat)] ∧ s.natAbs < 2 ^ 40 ∧ t.natAbs < 2 ^ 40 ∧ EM.IsPr p ∧ p < 2 ^ 30 ∧ ∀ (b : Bool) (H' : Hp), Same H H' → (b = true ↔ EM.ShutP s t p) → Q (.bl b) H'
def BadNum (K : PySem.W.Frag) (H : Hp) (v : V) : Prop := WholeIs K H v false ∨ v = .int 0
theorem BadNum.same {K : PySem.W.Frag} {H H' : Hp} {v : V} (h : BadNum K H v) (s : Same H H') : BadNum K H' v := h.imp (fun z => z.same s) id
def GoodNum (v : V) : Prop := ∃ n : Int, v = .int n ∧ n ≠ 0 ∧ n.natAbs < 2 ^ 30
def spShuts (K : PySem.W.Frag) (C : Addr) : Sp := fun vs H Q E =>
  (∃ a b i : Int, vs = [.int a, .int b, .int i] ∧ a ≠ 0 ∧ b ≠ 0 ∧ a.natAbs < 2 ^ 30 ∧ b.natAbs < 2 ^ 30 ∧ i < 2 ^ 30 ∧ ∀ (c : Bool) (H' : Hp), Same H H' → (c = true ↔ ∃ p : Nat, i = (p : Int) ∧ EM.IsPr p ∧ p ≠ 2 ∧ EM.Shuts a b p) → Q (.bl c) H') ∨
  (∃ v u x : V, vs = [v, u, x] ∧ (BadNum K H v ∨ GoodNum v ∧ BadNum K H u) ∧ ∀ H', Same H H' → E (.ref C) none H')
def intsN (L : List Nat) : List V := L.map fun p => V.int ((p : Nat) : Int)
def spLOdd : Sp := fun vs H Q _ => ∃ n : Int, vs = [.int n] ∧ n ≠ 0 ∧ n.natAbs < 2 ^ 30 ∧ ∀ (l : Addr) (L : List Nat) (H' : Hp), H l = none → Same H H' → H' l = some (.lst (intsN L)) → L.length ≤ 1000 → (∀ p, p ∈ L ↔ EM.IsPr p ∧ p ≠ 2 ∧ p ∣ n.natAbs) → Q (.ref l) H'
theorem natAbs_dvd {p : Nat} {n : Int} : (p : Int) ∣ n ↔ p ∣ n.natAbs := Int.ofNat_dvd_left
theorem emod_dvd {s : Int} {p : Nat} : V.int (s % (p : Int)) = V.int 0 ↔ (p : Int) ∣ s := ⟨fun h => Int.dvd_of_emod_eq_zero (V.int.inj h), fun h => congrArg V.int (Int.emod_eq_zero_of_dvd h)⟩
theorem not_rest {b : Bool} {c : Prop} (h : b = true ↔ c) : (!b) = true ↔ ¬ c := by
  cases b with
  | true => simp at h ⊢; exact h
  | false => simp at h ⊢; exact h
/-! ### a law's loop over its cells -/
theorem cells_for {K : PySem.W.Frag} {a : Addr} {ns : List Int} {H : Hp} {σ : St} {tb : TS} {D : Ends} {hi : Int} {g : TG} (h0 : σ[0]? = some (some (.ref a))) (hS : SqL K H a (ns.map V.int)) (hlen : ns.length ≤ 63) (Sg : St → Prop) (hs0 : Sg σ)
    (turn : ∀ (Hq : Hp), Same H Hq → ∀ (c : Int) (σ' : St) (H2 : Hp), Sg σ' → Same Hq H2 → g (.int c) σ' H2 fun σ2 H3 => tb { D with nx := fun σ4 H4 => Same Hq H4 ∧ Sg σ4, ct := fun σ4 H4 => Same Hq H4 ∧ Sg σ4, bk := D.nx } σ2 H3)
    (done : ∀ σ' H', Sg σ' → D.nx σ' H') :
    tFor (iList K (tOp rCat (tLst (tCons (tCall (spCell K) [] E0 (tCons (tVar 0) (tCons (tC (.int 0)) tNil))) tNil)) (tSl (rSlL K) (tVar 0) (tPart (tC (.int 1))) (tPart (tC (.int hi)))))) g tb D σ H := by
  refine ⟨_, h0, a, ns, 0, rfl, hS, by decide, fun z0 => ⟨by show 1 ≤ sizeLine; decide, fun l hl => ?_⟩⟩
  have s1 := same_new (o := .lst [.int z0]) hl
  refine ⟨_, h0, _, rfl, _, rfl, a, _, rfl, s1.seq hS, fun b hb => ?_⟩
  have s2 := s1.trans (same_new (o := .lst (cutV (ns.map V.int) (some 1) (some hi))) hb)
  have hlb : (upd (upd H l (.lst [.int z0])) b (.lst (cutV (ns.map V.int) (some 1) (some hi)))) l = some (.lst [.int z0]) := by
    rw [upd_ne (ne_of_none upd_same hb)]
    exact upd_same
  have hcl : (cutV (ns.map V.int) (some 1) (some hi)).length ≤ 63 := Nat.le_trans (cutV_length _ _ _) (by rw [List.length_map]; exact hlen)
  refine ⟨l, b, _, _, rfl, rfl, hlb, upd_same, Nat.le_trans (show 1 + _ ≤ 64 from by omega) (by decide), fun q hq => ?_⟩
  have s3 := s2.trans (same_new (o := .lst ([.int z0] ++ cutV (ns.map V.int) (some 1) (some hi))) hq)
  refine ⟨q, rfl, ⟨_, SqL.of upd_same⟩, for_list (K := K) (a := q) (xs := [.int z0] ++ cutV (ns.map V.int) (some 1) (some hi))
    (fun i σ' H2 => Same (upd (upd (upd H l (.lst [.int z0])) b (.lst (cutV (ns.map V.int) (some 1) (some hi)))) q (.lst ([.int z0] ++ cutV (ns.map V.int) (some 1) (some hi)))) H2 ∧ Sg σ')
    ⟨Same.refl _, hs0⟩ (fun i σ' H2 _ ⟨s4, _⟩ => SqL.of (s4 _ _ upd_same)) ?_ ?_⟩
  · rintro i y σ' H2 hi' ⟨s4, hsg⟩
    obtain ⟨c, rfl⟩ : ∃ c, y = V.int c := by
      rcases List.mem_append.mp (List.mem_of_getElem? hi') with z | z
      · exact ⟨z0, List.mem_singleton.mp z⟩
      · exact cut_ints y z
    exact turn _ s3 c σ' H2 hsg s4
  · rintro σ' H2 ⟨_, hsg⟩
    exact done σ' H2 hsg
theorem fn_mk {K : PySem.W.Frag} {x : Str} {st : Stmt} {f : Addr} {oc : Value} {od an : Option Addr} {osl : Array (Option Value)} {kV doc pm cdv ct : Value}
    (a : PySem.W.nsIn K mainGlobals x = some (some (.ref f)))
    (l : K.lookup f = some ⟨oc, od, .func (PySem.W.fnOf x x (defArgs st) (defBody st) (defScope st) .none kV doc pm an cdv ct), osl⟩)
    (c : PySem.W.codeIn K cdv x = true) (k : PySem.W.keepIn K (.ref f) = true) :
    ∃ (f : Addr) (fd : FuncData), PySem.W.nsIn K mainGlobals x = some (some (.ref f)) ∧ Fun K x x st f fd := ⟨f, _, a, fun_mk l c k⟩
/-- names that the text does not give -/
structure Free (K : PySem.W.Frag) : Prop where
  isi : PySem.W.nsIn K mainGlobals "isinstance" = some none
  int : PySem.W.nsIn K mainGlobals "int" = some none
  bool : PySem.W.nsIn K mainGlobals "bool" = some none
  abs : PySem.W.nsIn K mainGlobals "abs" = some none
  max : PySem.W.nsIn K mainGlobals "max" = some none
  min : PySem.W.nsIn K mainGlobals "min" = some none
  len : PySem.W.nsIn K mainGlobals "len" = some none
  range : PySem.W.nsIn K mainGlobals "range" = some none
  ve : PySem.W.nsIn K mainGlobals "ValueError" = some none
  tup : PySem.W.nsIn K mainGlobals "tuple" = some none
  lst : PySem.W.nsIn K mainGlobals "list" = some none
  str : PySem.W.nsIn K mainGlobals "str" = some none
  dct : PySem.W.nsIn K mainGlobals "dict" = some none
  any : PySem.W.nsIn K mainGlobals "any" = some none
  sor : PySem.W.nsIn K mainGlobals "sorted" = some none
  sum : PySem.W.nsIn K mainGlobals "sum" = some none
  all : PySem.W.nsIn K mainGlobals "all" = some none
  set : PySem.W.nsIn K mainGlobals "set" = some none
  zip : PySem.W.nsIn K mainGlobals "zip" = some none
  enu : PySem.W.nsIn K mainGlobals "enumerate" = some none
def spLaw (K : PySem.W.Frag) : Sp := fun vs H Q _ => ∃ (a : Addr) (ns : List Int), vs = [.ref a] ∧ SqL K H a (ns.map V.int) ∧ ns.length ≤ 63 ∧ ∀ H', Q (.bl true) H'
theorem walk {l : PySem.W.OpenLaw} {q : Program} {loose : List Str} {XP : (Str → Option Value) → Heap → Prop} {YP : World → Heap → Prop} {d : DefRec} {K : Params → PySem.W.Frag} {k : Nat} (hr : Room k PySem.callerA) (hn : l.most = some 63) (hdf : d.params.defaults = [])
    (hY : ∀ (w : World) (h : Heap), YP w h → (K w.params).In h)
    (F : ∀ (w : World) (mg : Str → Option Value) (fa : Addr) (h : Heap), (K w.params).In h → h.Ns mainGlobals mg → mg d.name = some (.ref fa) →
      ∃ fd : FuncData, (∀ (s : Shared) (u : Value), BindsTo s fd ⟨[u], []⟩ [("_law_script", u)]) ∧ ∀ base : Heap, (K w.params).In base → base.Ns mainGlobals mg → FnOk l.prog w (K w.params) mg base CX0 k fa fd ["_law_script"] (spLaw (K w.params))) :
    PySem.W.WalkO q loose XP YP l.row.toRowW d [] (fun f vs => PySem.call f vs) :=
  L2.walk_of (n := 63) (k := k) (x := "_law_script") (CX := fun _ => CX0) (sp := fun w => spLaw (K w.params)) hn (by decide) hdf hr hY F (fun _ _ a ns hl _ hS => ⟨a, ns, rfl, hS, hl, fun _ => rfl⟩) fun _ _ _ _ _ z => z
abbrev At (K : PySem.W.Frag) (x : Str) (st : Stmt) : Prop := ∃ (f : Addr) (fd : FuncData), PySem.W.nsIn K mainGlobals x = some (some (.ref f)) ∧ Fun K x x st f fd

end E1
/-! EvForm: squares by primes, roots, and the falling of forms; core Lean alone. Behind EvEuler. -/
namespace EM
theorem Rest.mul {p : Nat} {a b : Int} (ha : Rest p a) (hb : Rest p b) : Rest p (a * b) := by
  obtain ⟨x, u, hu⟩ := ha
  obtain ⟨y, v, hv⟩ := hb
  exact ⟨x * y, u * (y * y) + a * v, by grind⟩
theorem Rest.congr {p : Nat} {a b : Int} (h : (p : Int) ∣ a - b) (ha : Rest p a) : Rest p b := by
  obtain ⟨x, u, hu⟩ := ha
  obtain ⟨v, hv⟩ := h
  exact ⟨x, u + v, by grind⟩
theorem Rest.sq (p : Nat) (c : Int) : Rest p (c * c) := ⟨c, 0, by grind⟩
theorem Rest.zero {p : Nat} {a : Int} (h : (p : Int) ∣ a) : Rest p a := by
  obtain ⟨v, hv⟩ := h
  exact ⟨0, -v, by grind⟩
theorem inv_of {p : Nat} (hp : IsPr p) {c : Int} (hc : ¬ (p : Int) ∣ c) : ∃ d : Int, (p : Int) ∣ c * d - 1 := by
  have h2 := hp.1
  have hn : ¬ p ∣ am c p := fun z => by
    have hlt := am_lt (p := p) (by omega) c
    have h0 : am c p = 0 := Nat.eq_zero_of_dvd_of_lt z hlt
    exact hc ((am_zero (by omega)).mp h0)
  have hf := dvd_pow_sub_one h2 (fermat hp hn)
  obtain ⟨k, hk⟩ := am_dvd (p := p) (by omega) c
  obtain ⟨j, hj⟩ := hf
  obtain ⟨e, he⟩ : ∃ e, p - 1 = e + 1 := ⟨p - 2, by omega⟩
  rw [he, Int.pow_succ] at hj
  refine ⟨((am c p : Nat) : Int) ^ e, j + k * ((am c p : Nat) : Int) ^ e, ?_⟩
  generalize ((am c p : Nat) : Int) ^ e = P at hj ⊢
  grind
theorem Rest.cancel {p : Nat} (hp : IsPr p) {a c : Int} (hc : ¬ (p : Int) ∣ c) (h : Rest p (a * (c * c))) : Rest p a := by
  obtain ⟨d, k, hk⟩ := inv_of hp hc
  obtain ⟨x, u, hu⟩ := h
  have e : c * d = 1 + p * k := by grind
  refine ⟨x * d, u * (d * d) + a * (2 * k + p * k * k), ?_⟩
  have e2 : a * (c * c) * (d * d) = a * ((c * d) * (c * d)) := by grind
  rw [e] at e2
  grind
theorem Rest.div {p : Nat} (hp : IsPr p) {a b : Int} (ha : ¬ (p : Int) ∣ a) (h1 : Rest p a) (h : Rest p (a * b)) : Rest p b := by
  have h2 := h1.mul h
  rw [← Int.mul_assoc, Int.mul_comm] at h2
  exact h2.cancel hp ha
/-- plain: no square above 1 divides it -/
def Pl (s : Int) : Prop := ∀ k : Nat, 2 ≤ k → ¬ k * k ∣ s.natAbs
theorem Pl.nz {s : Int} (h : Pl s) : s ≠ 0 := fun z => h 2 (by decide) (by rw [z]; exact Nat.dvd_zero _)
theorem Pl.no {s : Int} (h : Pl s) {p : Nat} (hp : IsPr p) : ¬ ((p : Int) * (p : Int)) ∣ s := fun z => by
  refine h p hp.1 ?_
  have : ((p * p : Nat) : Int) ∣ s := by rw [Int.natCast_mul]; exact z
  exact Int.ofNat_dvd_left.mp this
theorem dvd_sq {p : Nat} (hp : IsPr p) {w : Int} (h : (p : Int) ∣ w * w) : (p : Int) ∣ w := by
  rcases hp.euclidZ h with z | z <;> exact z
theorem ediv_of {p : Nat} (hp : IsPr p) {s s1 : Int} (e : s = (p : Int) * s1) : s / (p : Int) = s1 := by
  rw [e]
  exact Int.mul_ediv_cancel_left _ (by have := hp.1; omega)
theorem shut_step {s t t' w f : Int} {p : Nat} (hp : IsPr p) (ps : Pl s) (pt : Pl t) (e : w * w - s = t * t' * (f * f)) (h : ¬ ShutP s t p) : ¬ ShutP s t' p := by
  intro z
  have hp0 : (p : Int) ≠ 0 := by have := hp.1; omega
  rcases z with ⟨ds, dt, nr⟩ | ⟨ds, dt, nr⟩ | ⟨ds, dt, nr⟩
  · obtain ⟨s1, es⟩ := ds
    obtain ⟨t1, et⟩ := dt
    rw [ediv_of hp es, ediv_of hp et] at nr
    have hw : (p : Int) ∣ w := dvd_sq hp ⟨s1 + t * t1 * (f * f), by grind⟩
    obtain ⟨w1, ew⟩ := hw
    have e1 : (p : Int) * (p * (w1 * w1) - s1) = p * (t * t1 * (f * f)) := by grind
    have e2 : p * (w1 * w1) - s1 = t * t1 * (f * f) := Int.eq_of_mul_eq_mul_left hp0 e1
    have ns1 : ¬ (p : Int) ∣ s1 := fun ⟨q, hq⟩ => ps.no hp ⟨q, by grind⟩
    have nt : ¬ (p : Int) ∣ t := fun ⟨q, hq⟩ => ns1 ⟨w1 * w1 - q * t1 * (f * f), by grind⟩
    have rt : Rest p t := Classical.byContradiction fun q => h (.inr (.inl ⟨⟨s1, es⟩, nt, q⟩))
    refine nr (Rest.congr (a := t * ((t1 * f) * (t1 * f))) ⟨w1 * w1 * t1, by grind⟩ (rt.mul (Rest.sq _ _)))
  · obtain ⟨s1, es⟩ := ds
    by_cases dw : (p : Int) ∣ w
    · obtain ⟨w1, ew⟩ := dw
      have nf : ¬ (p : Int) ∣ f := fun ⟨q, hq⟩ => ps.no hp ⟨w1 * w1 - t * t' * (q * q), by grind⟩
      have d1 : (p : Int) ∣ t * t' * (f * f) := ⟨p * (w1 * w1) - s1, by grind⟩
      have d2 : (p : Int) ∣ t := by
        rcases hp.euclidZ d1 with q | q
        · rcases hp.euclidZ q with r | r
          · exact r
          · exact absurd r dt
        · exact absurd (dvd_sq hp q) nf
      obtain ⟨t1, et⟩ := d2
      have e1 : (p : Int) * (p * (w1 * w1) - s1) = p * (t1 * t' * (f * f)) := by grind
      have e2 : p * (w1 * w1) - s1 = t1 * t' * (f * f) := Int.eq_of_mul_eq_mul_left hp0 e1
      have nt1 : ¬ (p : Int) ∣ t1 := fun ⟨q, hq⟩ => pt.no hp ⟨q, by grind⟩
      have r1 : Rest p (-(s1) * t1) := Classical.byContradiction fun q => h (.inl ⟨⟨s1, es⟩, ⟨t1, et⟩, by rw [ediv_of hp es, ediv_of hp et]; exact q⟩)
      have r2 : Rest p (t' * ((t1 * f) * (t1 * f))) := Rest.congr (a := -(s1) * t1) ⟨-(w1 * w1) * t1, by grind⟩ r1
      refine nr (r2.cancel hp fun q => ?_)
      rcases hp.euclidZ q with r | r
      · exact nt1 r
      · exact nf r
    · have nt : ¬ (p : Int) ∣ t := fun ⟨q, hq⟩ => dw (dvd_sq hp ⟨s1 + q * t' * (f * f), by grind⟩)
      have nf : ¬ (p : Int) ∣ f := fun ⟨q, hq⟩ => dw (dvd_sq hp ⟨s1 + t * t' * (q * f), by grind⟩)
      have rt : Rest p t := Classical.byContradiction fun q => h (.inr (.inl ⟨⟨s1, es⟩, nt, q⟩))
      have r2 : Rest p (t * t' * (f * f)) := Rest.congr (a := w * w) ⟨s1, by grind⟩ (Rest.sq _ _)
      exact nr (Rest.div hp nt rt (r2.cancel hp nf))
  · obtain ⟨t1, et⟩ := dt
    exact nr ⟨w, t * t1 * (f * f), by grind⟩
theorem rest_of_open {s t : Int} {p : Nat} (h : ¬ ShutP s t p) (dt : (p : Int) ∣ t) : Rest p s := by
  by_cases ds : (p : Int) ∣ s
  · exact Rest.zero ds
  · exact Classical.byContradiction fun q => h (.inr (.inr ⟨ds, dt, q⟩))
/-! ### a point from a lesser form's -/
theorem point_up {s t t' w f x0 y0 z0 : Int} (e : w * w - s = t * t' * (f * f)) (h : s * (x0 * x0) + t' * (y0 * y0) = z0 * z0) :
    s * ((z0 + w * x0) * (z0 + w * x0)) + t * ((t' * f * y0) * (t' * f * y0)) = (w * z0 + s * x0) * (w * z0 + s * x0) := by
  have e1 : (w * z0 + s * x0) * (w * z0 + s * x0) - s * ((z0 + w * x0) * (z0 + w * x0)) = (w * w - s) * (z0 * z0 - s * (x0 * x0)) := by grind
  have e2 : z0 * z0 - s * (x0 * x0) = t' * (y0 * y0) := by omega
  rw [e, e2] at e1
  grind
theorem point_nz {s t' w f x0 y0 z0 : Int} (hws : w * w ≠ s) (ht : t' ≠ 0) (hf : f ≠ 0) (h : s * (x0 * x0) + t' * (y0 * y0) = z0 * z0) (nz : ¬ (x0 = 0 ∧ y0 = 0 ∧ z0 = 0)) :
    ¬ (z0 + w * x0 = 0 ∧ t' * f * y0 = 0 ∧ w * z0 + s * x0 = 0) := by
  rintro ⟨h1, h2, h3⟩
  have e : (w * w - s) * x0 = 0 := by grind
  have hx : x0 = 0 := by
    rcases Int.mul_eq_zero.mp e with q | q
    · omega
    · exact q
  subst hx
  have hz : z0 = 0 := by grind
  have hy : y0 = 0 := by
    rcases Int.mul_eq_zero.mp h2 with q | q
    · rcases Int.mul_eq_zero.mp q with r | r
      · exact absurd r ht
      · exact absurd r hf
    · exact q
  exact nz ⟨rfl, hy, hz⟩
/-- a plain number that is no 1 is no square -/
theorem Pl.nsq {s w : Int} (h : Pl s) (h1 : s ≠ 1) : w * w ≠ s := fun e => by
  have hw : 2 ≤ w.natAbs ∨ w.natAbs = 1 ∨ w.natAbs = 0 := by omega
  rcases hw with q | q | q
  · exact h w.natAbs q (by rw [← e, Int.natAbs_mul]; exact Nat.dvd_refl _)
  · have : w = 1 ∨ w = -1 := by omega
    rcases this with rfl | rfl <;> omega
  · have : w = 0 := by omega
    subst this
    exact h.nz (by omega)
/-! ### how far a form falls -/
theorem fall {s t t' w f : Int} (h1 : s.natAbs ≤ t.natAbs) (h2 : 2 ≤ t.natAbs) (hw : 2 * w.natAbs ≤ t.natAbs) (e : w * w - s = t * t' * (f * f)) (hf : f ≠ 0) : 2 * t'.natAbs ≤ t.natAbs ∧ (t' * f).natAbs ≤ t.natAbs := by
  have e1 : (w * w - s).natAbs = t.natAbs * (t'.natAbs * (f.natAbs * f.natAbs)) := by rw [e, Int.natAbs_mul, Int.natAbs_mul, Int.natAbs_mul, Nat.mul_assoc]
  have e2 : (w * w - s).natAbs ≤ w.natAbs * w.natAbs + s.natAbs := by
    have := Int.natAbs_sub_le (w * w) s
    rwa [Int.natAbs_mul] at this
  have f1 : 1 ≤ f.natAbs := by omega
  have ff : f.natAbs ≤ f.natAbs * f.natAbs := Nat.le_mul_of_pos_right _ f1
  have a1 : t'.natAbs ≤ t'.natAbs * (f.natAbs * f.natAbs) := Nat.le_mul_of_pos_right _ (Nat.mul_pos f1 f1)
  have a2 : (t' * f).natAbs ≤ t'.natAbs * (f.natAbs * f.natAbs) := by
    rw [Int.natAbs_mul]
    exact Nat.mul_le_mul_left _ ff
  generalize t'.natAbs * (f.natAbs * f.natAbs) = q at e1 a1 a2
  generalize hT : t.natAbs = T at *
  generalize hW : w.natAbs = W at *
  have b1 : T * q ≤ W * W + T := by omega
  have b2 : 4 * (W * W) ≤ T * T := by
    have := Nat.mul_le_mul hw hw
    grind
  have b3 : T * (4 * q) ≤ T * (T + 4) := by grind
  have b4 : 4 * q ≤ T + 4 := Nat.le_of_mul_le_mul_left b3 (by omega)
  omega
theorem sign_step {s t t' w f : Int} (e : w * w - s = t * t' * (f * f)) (ht : t ≠ 0) (hf : f ≠ 0) (ht' : t' ≠ 0) (h : ¬ (s < 0 ∧ t < 0)) : ¬ (s < 0 ∧ t' < 0) := by
  rintro ⟨h1, h2⟩
  have ht0 : 0 < t := by omega
  have hww : 0 ≤ w * w := by
    rcases Int.le_total 0 w with q | q
    · exact Int.mul_nonneg q q
    · exact Int.mul_nonneg_of_nonpos_of_nonpos q q
  have hff : 0 < f * f := by
    rcases Int.lt_or_gt_of_ne hf with q | q
    · exact Int.mul_pos_of_neg_of_neg q q
    · exact Int.mul_pos q q
  have : t * t' < 0 := Int.mul_neg_of_pos_of_neg ht0 h2
  have : t * t' * (f * f) < 0 := Int.mul_neg_of_neg_of_pos this hff
  omega
/-! ### roots by a prime -/
theorem pow_congr {p : Nat} {a b : Int} (h : (p : Int) ∣ a - b) : ∀ k : Nat, (p : Int) ∣ a ^ k - b ^ k
  | 0 => ⟨0, by simp⟩
  | k + 1 => by
    obtain ⟨u, hu⟩ := pow_congr h k
    obtain ⟨v, hv⟩ := h
    refine ⟨u * a + b ^ k * v, ?_⟩
    rw [Int.pow_succ, Int.pow_succ]
    generalize a ^ k = A at *
    generalize b ^ k = B at *
    grind
theorem pw_congr {p : Nat} (h1 : 1 ≤ p) (n : Int) (e : Nat) : (p : Int) ∣ ((am n p ^ e % p : Nat) : Int) - n ^ e := by
  have a1 : (p : Int) ∣ ((am n p : Nat) : Int) - n := by
    obtain ⟨k, hk⟩ := am_dvd h1 n
    exact ⟨-k, by grind⟩
  obtain ⟨u, hu⟩ := pow_congr a1 e
  have a2 : ((am n p ^ e % p : Nat) : Int) = ((am n p : Nat) : Int) ^ e - p * (((am n p ^ e / p : Nat)) : Int) := by
    have := Nat.div_add_mod (am n p ^ e) p
    have h3 : ((p * (am n p ^ e / p) + am n p ^ e % p : Nat) : Int) = ((am n p ^ e : Nat) : Int) := by rw [this]
    rw [Int.natCast_add, Int.natCast_mul, Int.natCast_pow] at h3
    omega
  exact ⟨u - ((am n p ^ e / p : Nat) : Int), by rw [a2]; generalize ((am n p : Nat) : Int) ^ e = X at *; grind⟩
theorem pw_one {p : Nat} (h2 : 2 ≤ p) (n : Int) (e : Nat) : am n p ^ e % p = 1 ↔ (p : Int) ∣ n ^ e - 1 := by
  obtain ⟨u, hu⟩ := pw_congr (p := p) (by omega) n e
  constructor
  · intro h
    rw [h] at hu
    exact ⟨-u, by grind⟩
  · rintro ⟨v, hv⟩
    have h3 : (p : Int) ∣ ((am n p ^ e % p : Nat) : Int) - 1 := ⟨u + v, by grind⟩
    have hlt : am n p ^ e % p < p := Nat.mod_lt _ (by omega)
    obtain ⟨k, hk⟩ := h3
    generalize am n p ^ e % p = m at *
    have hk0 : k = 0 := by
      rcases Int.lt_trichotomy k 0 with q | q | q
      · have : (p : Int) * k ≤ p * (-1) := Int.mul_le_mul_of_nonneg_left (by omega) (by omega)
        omega
      · exact q
      · have : (p : Int) * 1 ≤ p * k := Int.mul_le_mul_of_nonneg_left (by omega) (by omega)
        omega
    subst hk0
    omega
theorem fermatZ {p : Nat} (hp : IsPr p) {n : Int} (hn : ¬ (p : Int) ∣ n) : (p : Int) ∣ n ^ (p - 1) - 1 := by
  have h2 := hp.1
  refine (pw_one h2 n _).mp ?_
  refine fermat hp fun z => ?_
  have h0 : am n p = 0 := Nat.eq_zero_of_dvd_of_lt z (am_lt (p := p) (by omega) n)
  exact hn ((am_zero (by omega)).mp h0)
theorem IsPr.powZ {p : Nat} (hp : IsPr p) {a : Int} : ∀ {k : Nat}, (p : Int) ∣ a ^ k → (p : Int) ∣ a
  | 0, h => by
    rw [Int.pow_zero] at h
    have := Nat.le_of_dvd (by decide) (Int.ofNat_dvd_left.mp h)
    have := hp.1
    simp at *
    omega
  | k + 1, h => by
    rw [Int.pow_succ] at h
    rcases hp.euclidZ h with z | z
    · exact IsPr.powZ hp z
    · exact z
theorem pow_twice (a : Int) (k : Nat) : (a * a) ^ k = a ^ (2 * k) := by rw [Int.mul_pow, ← Int.pow_add, Nat.two_mul]
theorem half_one {p : Nat} (hp : IsPr p) (ho : p ≠ 2) {n : Int} (hn : ¬ (p : Int) ∣ n) (hr : Rest p n) : (p : Int) ∣ n ^ ((p - 1) / 2) - 1 := by
  have h2 := hp.1
  rcases (euler_rest hp ho n).mpr hr with z | z
  · obtain ⟨u, hu⟩ := pw_congr (p := p) (by omega) n ((p - 1) / 2)
    rw [z] at hu
    have : (p : Int) ∣ n ^ ((p - 1) / 2) := ⟨-u, by grind⟩
    exact absurd (hp.powZ this) hn
  · exact (pw_one h2 n _).mp z
theorem sq_one {p : Nat} (hp : IsPr p) {x : Int} (h : (p : Int) ∣ x * x - 1) : (p : Int) ∣ x - 1 ∨ (p : Int) ∣ x + 1 := by
  have : x * x - 1 = (x - 1) * (x + 1) := by grind
  rw [this] at h
  exact hp.euclidZ h
theorem half_neg {p : Nat} (hp : IsPr p) (ho : p ≠ 2) {n : Int} (hr : ¬ Rest p n) : (p : Int) ∣ n ^ ((p - 1) / 2) + 1 := by
  have h2 := hp.1
  have hn : ¬ (p : Int) ∣ n := fun z => hr (Rest.zero z)
  have h1 := fermatZ hp hn
  have e : p - 1 = (p - 1) / 2 + (p - 1) / 2 := by have := odd_pr hp ho; omega
  rw [e, Int.pow_add] at h1
  rcases sq_one hp h1 with z | z
  · exact absurd ((euler_rest hp ho n).mp (.inr ((pw_one h2 n _).mpr z))) hr
  · exact z
theorem has_no_rest {p : Nat} (hp : IsPr p) (ho : p ≠ 2) : ∃ z : Nat, 2 ≤ z ∧ z < p ∧ ¬ Rest p z := by
  have h2 := hp.1
  have hodd := odd_pr hp ho
  refine Classical.byContradiction fun no => ?_
  have all : ∀ z : Nat, 1 ≤ z → z < p → Rest p z := fun z h1 h3 => by
    rcases Nat.lt_or_ge z 2 with q | q
    · have : z = 1 := by omega
      subst this
      exact Rest.sq p 1
    · exact Classical.byContradiction fun r => no ⟨z, q, h3, r⟩
  have hh : 1 ≤ (p - 1) / 2 := by omega
  have key := roots_le hp ((p - 1) / 2) (-1 :: List.replicate ((p - 1) / 2 - 1) 0) ((List.range (p - 1)).map fun i => ((i : Nat) : Int) + 1) (by simp; omega) ?_ ?_
  · rw [List.length_map, List.length_range] at key
    omega
  · rw [List.pairwise_map]
    have : (List.range (p - 1)).Pairwise fun a b => a < b := List.pairwise_lt_range
    refine List.Pairwise.imp_of_mem (fun {a b} ha hb hab => ?_) this
    rintro ⟨k, hk⟩
    have hb' := List.mem_range.mp hb
    have hk1 : 1 ≤ k := by
      rcases (show k < 1 ∨ k ≥ 1 by omega) with q | q
      · have : (p : Int) * k ≤ p * 0 := Int.mul_le_mul_of_nonneg_left (by omega) (by omega)
        omega
      · exact q
    have : (p : Int) * 1 ≤ p * k := Int.mul_le_mul_of_nonneg_left hk1 (by omega)
    omega
  · intro r hr
    obtain ⟨i, hi, rfl⟩ := List.mem_map.mp hr
    have hi' := List.mem_range.mp hi
    rw [ev_pow _ hh]
    have e : ((i : Nat) : Int) + 1 = ((i + 1 : Nat) : Int) := by omega
    rw [e]
    refine half_one hp ho (fun z => ?_) (all (i + 1) (by omega) (by omega))
    have := Nat.le_of_dvd (by omega) (Int.ofNat_dvd.mp z)
    omega
/-- the walk to a root: what stands at each turn -/
structure TS (p : Nat) (n root excess turner : Int) (half : Nat) : Prop where
  zero : (p : Int) ∣ n → (p : Int) ∣ root
  sq : ¬ (p : Int) ∣ n → (p : Int) ∣ root * root - n * excess
  pow : half = 0 ∨ ∃ j, half = 2 ^ j
  one : ¬ (p : Int) ∣ n → half = 0 → (p : Int) ∣ excess - 1
  ex : ¬ (p : Int) ∣ n → half ≠ 0 → (p : Int) ∣ excess ^ (2 * half) - 1
  tu : half ≠ 0 → (p : Int) ∣ turner ^ (2 * half) + 1
theorem half_half {half : Nat} (h : half = 0 ∨ ∃ j, half = 2 ^ j) (h0 : half ≠ 0) : (half / 2 = 0 ∧ half = 1) ∨ (half / 2 ≠ 0 ∧ 2 * (half / 2) = half ∧ ∃ j, half / 2 = 2 ^ j) := by
  rcases h with h | ⟨j, rfl⟩
  · exact absurd h h0
  · cases j with
    | zero => exact .inl ⟨rfl, rfl⟩
    | succ j =>
      refine .inr ?_
      have e : 2 ^ (j + 1) / 2 = 2 ^ j := by rw [Nat.pow_succ, Nat.mul_div_cancel _ (by decide)]
      rw [e]
      have := Nat.pow_pos (n := j) (show 0 < 2 by decide)
      exact ⟨by omega, by rw [Nat.pow_succ]; omega, j, rfl⟩
theorem TS.tu' {p : Nat} {n root excess turner t' : Int} {half : Nat} (T : TS p n root excess turner half) (h0 : half ≠ 0) (ht : (p : Int) ∣ t' - turner * turner) (h1 : half / 2 ≠ 0) : (p : Int) ∣ t' ^ (2 * (half / 2)) + 1 := by
  rcases half_half T.pow h0 with ⟨q, _⟩ | ⟨_, e, _⟩
  · exact absurd q h1
  · rw [e]
    obtain ⟨u, hu⟩ := pow_congr ht half
    obtain ⟨v, hv⟩ := T.tu h0
    have e2 : (turner * turner) ^ half = turner ^ (2 * half) := pow_twice _ _
    rw [e2] at hu
    exact ⟨u + v, by generalize turner ^ (2 * half) = X at *; generalize t' ^ half = Y at *; grind⟩
theorem TS.stay {p : Nat} {n root excess turner t' : Int} {half : Nat} (T : TS p n root excess turner half) (h0 : half ≠ 0) (h : (p : Int) ∣ excess ^ half - 1) (ht : (p : Int) ∣ t' - turner * turner) : TS p n root excess t' (half / 2) := by
  have hh := half_half T.pow h0
  refine ⟨T.zero, T.sq, ?_, fun hn q => ?_, fun hn q => ?_, fun q => T.tu' h0 ht q⟩
  · rcases hh with ⟨q, _⟩ | ⟨_, _, q⟩
    · exact .inl q
    · exact .inr q
  · rcases hh with ⟨_, e⟩ | ⟨q', _⟩
    · rw [e, Int.pow_succ, Int.pow_zero, Int.one_mul] at h
      exact h
    · exact absurd q q'
  · rcases hh with ⟨q', _⟩ | ⟨_, e, _⟩
    · exact absurd q' q
    · rw [e]; exact h
theorem TS.turn {p : Nat} (hp : IsPr p) {n root excess turner r' e' t' : Int} {half : Nat} (T : TS p n root excess turner half) (h0 : half ≠ 0) (h : ¬ (p : Int) ∣ excess ^ half - 1)
    (hr : (p : Int) ∣ r' - root * turner) (he : (p : Int) ∣ e' - excess * turner * turner) (ht : (p : Int) ∣ t' - turner * turner) : TS p n r' e' t' (half / 2) := by
  have hh := half_half T.pow h0
  have key : ¬ (p : Int) ∣ n → (p : Int) ∣ e' ^ half - 1 := fun hn => by
    have h1 := T.ex hn h0
    have e1 : excess ^ (2 * half) = excess ^ half * excess ^ half := by rw [Nat.two_mul, Int.pow_add]
    rw [e1] at h1
    rcases sq_one hp h1 with z | ⟨a, ha⟩
    · exact absurd z h
    obtain ⟨b, hb⟩ := T.tu h0
    obtain ⟨c, hc⟩ := pow_congr he half
    have e2 : (excess * turner * turner) ^ half = excess ^ half * turner ^ (2 * half) := by
      rw [Int.mul_assoc, Int.mul_pow, pow_twice]
    rw [e2] at hc
    refine ⟨c + a * (turner ^ (2 * half)) - b, ?_⟩
    generalize turner ^ (2 * half) = X at *
    generalize excess ^ half = Y at *
    generalize e' ^ half = Z at *
    grind
  refine ⟨fun hn => ?_, fun hn => ?_, ?_, fun hn q => ?_, fun hn q => ?_, fun q => T.tu' h0 ht q⟩
  · obtain ⟨a, ha⟩ := T.zero hn
    obtain ⟨b, hb⟩ := hr
    exact ⟨b + a * turner, by grind⟩
  · obtain ⟨a, ha⟩ := T.sq hn
    obtain ⟨b, hb⟩ := hr
    obtain ⟨c, hc⟩ := he
    have e1 : r' = root * turner + p * b := by omega
    have e2 : e' = excess * turner * turner + p * c := by omega
    exact ⟨a * (turner * turner) + 2 * root * turner * b + p * b * b - n * c, by rw [e1, e2]; grind⟩
  · rcases hh with ⟨q, _⟩ | ⟨_, _, q⟩
    · exact .inl q
    · exact .inr q
  · rcases hh with ⟨_, e⟩ | ⟨q', _⟩
    · have := key hn
      rw [e, Int.pow_succ, Int.pow_zero, Int.one_mul] at this
      exact this
    · exact absurd q q'
  · rcases hh with ⟨q', _⟩ | ⟨_, e, _⟩
    · exact absurd q' q
    · rw [e]; exact key hn
theorem TS.start {p odd e : Nat} (hp : IsPr p) (ho : p ≠ 2) {n z : Int} (hr : Rest p n) (hz : ¬ Rest p z) (ep : p - 1 = odd * 2 ^ e) (hodd : odd % 2 = 1) {root excess turner : Int}
    (h1 : (p : Int) ∣ root - n ^ ((odd + 1) / 2)) (h2 : (p : Int) ∣ excess - n ^ odd) (h3 : (p : Int) ∣ turner - z ^ odd) : TS p n root excess turner ((p - 1) / odd / 4) := by
  have hp2 := hp.1
  have po := odd_pr hp ho
  have e0 : e ≠ 0 := fun q => by
    subst q
    rw [Nat.pow_zero, Nat.mul_one] at ep
    omega
  obtain ⟨k, rfl⟩ : ∃ k, e = k + 1 := ⟨e - 1, by omega⟩
  have hq : (p - 1) / odd = 2 ^ (k + 1) := by rw [ep, Nat.mul_div_cancel_left _ (by omega)]
  have hhalf : (p - 1) / 2 = odd * 2 ^ k := by rw [ep, Nat.pow_succ, ← Nat.mul_assoc, Nat.mul_div_cancel _ (by decide)]
  have h4 : 2 ^ (k + 1) / 4 = 2 ^ k / 2 := by rw [Nat.pow_succ]; omega
  rw [hq, h4]
  have hne : 2 ^ k / 2 ≠ 0 → 2 * (2 ^ k / 2) = 2 ^ k ∧ ∃ j, 2 ^ k / 2 = 2 ^ j := fun q => by
    cases k with
    | zero => exact absurd rfl q
    | succ j =>
      have e : 2 ^ (j + 1) / 2 = 2 ^ j := by rw [Nat.pow_succ, Nat.mul_div_cancel _ (by decide)]
      rw [e]
      exact ⟨by rw [Nat.pow_succ]; omega, j, rfl⟩
  refine ⟨fun hn => ?_, fun hn => ?_, ?_, fun hn q => ?_, fun hn q => ?_, fun q => ?_⟩
  · obtain ⟨j, hj⟩ : ∃ j, (odd + 1) / 2 = j + 1 := ⟨(odd + 1) / 2 - 1, by omega⟩
    rw [hj, Int.pow_succ] at h1
    obtain ⟨a, ha⟩ := h1
    obtain ⟨b, hb⟩ := hn
    exact ⟨a + n ^ j * b, by generalize n ^ j = X at *; grind⟩
  · obtain ⟨a, ha⟩ := h1
    obtain ⟨b, hb⟩ := h2
    have e1 : n ^ ((odd + 1) / 2) * n ^ ((odd + 1) / 2) = n * n ^ odd := by
      rw [← Int.pow_add, show (odd + 1) / 2 + (odd + 1) / 2 = odd + 1 by omega, Int.pow_succ, Int.mul_comm]
    generalize n ^ ((odd + 1) / 2) = X at *
    generalize n ^ odd = Y at *
    have e2 : root = X + p * a := by omega
    have e3 : excess = Y + p * b := by omega
    exact ⟨2 * X * a + p * a * a - n * b, by rw [e2, e3]; grind⟩
  · by_cases q : 2 ^ k / 2 = 0
    · exact .inl q
    · exact .inr (hne q).2
  · have hk : k = 0 := by
      cases k with
      | zero => rfl
      | succ j =>
        rw [Nat.pow_succ, Nat.mul_div_cancel _ (by decide)] at q
        have := Nat.pow_pos (n := j) (show 0 < 2 by decide)
        omega
    subst hk
    rw [Nat.pow_zero, Nat.mul_one] at hhalf
    obtain ⟨a, ha⟩ := half_one hp ho hn hr
    obtain ⟨b, hb⟩ := h2
    rw [hhalf] at ha
    exact ⟨a + b, by generalize n ^ odd = X at *; grind⟩
  · rw [(hne q).1]
    obtain ⟨a, ha⟩ := half_one hp ho hn hr
    obtain ⟨b, hb⟩ := pow_congr h2 (2 ^ k)
    rw [← Int.pow_mul, ← hhalf] at hb
    exact ⟨a + b, by generalize n ^ ((p - 1) / 2) = X at *; generalize excess ^ 2 ^ k = Y at *; grind⟩
  · rw [(hne q).1]
    obtain ⟨a, ha⟩ := half_neg hp ho hz
    obtain ⟨b, hb⟩ := pow_congr h3 (2 ^ k)
    rw [← Int.pow_mul, ← hhalf] at hb
    exact ⟨a + b, by generalize z ^ ((p - 1) / 2) = X at *; generalize turner ^ 2 ^ k = Y at *; grind⟩
theorem TS.done {p : Nat} {n root excess turner : Int} (T : TS p n root excess turner 0) : (p : Int) ∣ root * root - n := by
  by_cases hn : (p : Int) ∣ n
  · obtain ⟨a, ha⟩ := T.zero hn
    obtain ⟨b, hb⟩ := hn
    exact ⟨a * root - b, by grind⟩
  · obtain ⟨a, ha⟩ := T.sq hn
    obtain ⟨b, hb⟩ := T.one hn rfl
    exact ⟨a + n * b, by grind⟩
/-! ### a root by a plain number -/
theorem crt_step {p : Nat} (hp : IsPr p) {made : Nat} (hm : ¬ p ∣ made) {n root r inv missing : Int} (h1 : ((made : Nat) : Int) ∣ root * root - n) (h2 : (p : Int) ∣ r * r - n) (h3 : (p : Int) ∣ made * inv - 1) (h4 : (p : Int) ∣ missing - (r - root) * inv) :
    ((made * p : Nat) : Int) ∣ (root + made * missing) * (root + made * missing) - n := by
  obtain ⟨a, ha⟩ := h1
  obtain ⟨b, hb⟩ := h2
  obtain ⟨c, hc⟩ := h3
  obtain ⟨d, hd⟩ := h4
  have k1 : (root + made * missing) * (root + made * missing) - n = made * (a + 2 * root * missing + made * missing * missing) := by grind
  have k2 : (p : Int) ∣ (root + made * missing) - r := ⟨(r - root) * c + made * d, by grind⟩
  obtain ⟨e, he⟩ := k2
  have k3 : (p : Int) ∣ (root + made * missing) * (root + made * missing) - n := by
    have : root + made * missing = r + p * e := by omega
    exact ⟨b + 2 * r * e + p * e * e, by rw [this]; grind⟩
  rw [k1] at k3 ⊢
  rcases hp.euclidZ k3 with z | ⟨g, hg⟩
  · exact absurd (Int.ofNat_dvd.mp z) hm
  · rw [hg, Int.natCast_mul]
    exact ⟨g, by grind⟩
theorem inv_pow {p : Nat} (hp : IsPr p) {made : Nat} (hm : ¬ p ∣ made) : (p : Int) ∣ (made : Int) * ((am (made : Int) p ^ (p - 2) % p : Nat) : Int) - 1 := by
  have h2 := hp.1
  obtain ⟨a, ha⟩ := pw_congr (p := p) (by omega) (made : Int) (p - 2)
  obtain ⟨b, hb⟩ := fermatZ hp (n := (made : Int)) (fun z => hm (Int.ofNat_dvd.mp z))
  rw [show p - 1 = (p - 2) + 1 by omega, Int.pow_succ] at hb
  generalize (made : Int) ^ (p - 2) = X at *
  generalize ((am (made : Int) p ^ (p - 2) % p : Nat) : Int) = Y at *
  exact ⟨made * a + b, by grind⟩
/-- of a plain number each prime stands once, and divides no product of the others -/
theorem Fac.plain_step {n : Nat} {L : List (Nat × Nat)} (F : Fac n L) (hs : ∀ k, 2 ≤ k → ¬ k * k ∣ n) {i : Nat} {x : Nat × Nat} (hx : L[i]? = some x) : IsPr x.1 ∧ x.2 = 1 ∧ x.1 ∣ n ∧ ¬ x.1 ∣ prodL (L.take i) ∧ prodL (L.take (i + 1)) = prodL (L.take i) * x.1 ∧ prodL (L.take (i + 1)) ∣ n := by
  have hm := List.mem_of_getElem? hx
  obtain ⟨hp, h1⟩ := F.pr x hm
  have hd : x.1 ^ x.2 ∣ n := F.prod ▸ mem_dvd hm
  have h2 : x.2 = 1 := by
    rcases Nat.lt_or_ge x.2 2 with q | q
    · omega
    · refine absurd (Nat.dvd_trans ?_ hd) (hs x.1 hp.1)
      have := Nat.pow_dvd_pow x.1 q
      rwa [Nat.pow_two] at this
  have ht : prodL (L.take (i + 1)) = prodL (L.take i) * x.1 := by rw [prodL_take hx, h2, Nat.pow_one]
  have htn : prodL (L.take (i + 1)) ∣ n := by
    rw [← F.prod]
    have := prodL_append (L.take (i + 1)) (L.drop (i + 1))
    rw [List.take_append_drop] at this
    rw [this]
    exact Nat.dvd_mul_right _ _
  refine ⟨hp, h2, by rw [h2, Nat.pow_one] at hd; exact hd, fun z => ?_, ht, htn⟩
  refine hs x.1 hp.1 (Nat.dvd_trans ?_ htn)
  rw [ht]
  exact Nat.mul_dvd_mul_right z x.1
theorem dvd_prodL : ∀ {L : List (Nat × Nat)} {q : Nat}, IsPr q → (∀ x ∈ L, IsPr x.1 ∧ 1 ≤ x.2) → q ∣ prodL L → ∃ x ∈ L, x.1 = q
  | [], q, hq, _, h => by
    have h1 := Nat.le_of_dvd (by decide) (show q ∣ 1 from h)
    have h2 := hq.1
    omega
  | x :: r, q, hq, hL, h => by
    rcases hq.euclid (show q ∣ x.1 ^ x.2 * prodL r from h) with h | h
    · exact ⟨x, List.mem_cons_self .., (hq.dvd_pr (hL x (List.mem_cons_self ..)).1 (hq.pow h)).symm⟩
    · obtain ⟨y, hy, e⟩ := dvd_prodL hq (fun y hy => hL y (List.mem_cons_of_mem _ hy)) h
      exact ⟨y, List.mem_cons_of_mem _ hy, e⟩
theorem ShutP.symm {s t : Int} {p : Nat} (h : ShutP s t p) : ShutP t s p := by
  rcases h with ⟨a, b, c⟩ | ⟨a, b, c⟩ | ⟨a, b, c⟩
  · exact .inl ⟨b, a, by rw [show -(t / (p : Int)) * (s / (p : Int)) = -(s / (p : Int)) * (t / (p : Int)) by grind]; exact c⟩
  · exact .inr (.inr ⟨b, a, c⟩)
  · exact .inr (.inl ⟨b, a, c⟩)
structure Good (s t : Int) : Prop where
  ps : Pl s
  pt : Pl t
  sg : ¬ (s < 0 ∧ t < 0)
  op : ∀ p, IsPr p → p ≠ 2 → ¬ ShutP s t p
theorem Good.symm {s t : Int} (h : Good s t) : Good t s := ⟨h.pt, h.ps, fun z => h.sg ⟨z.2, z.1⟩, fun p h1 h2 z => h.op p h1 h2 z.symm⟩
theorem Good.rest {s t : Int} (h : Good s t) {p : Nat} (hp : IsPr p) (hd : p ∣ t.natAbs) : Rest p s := by
  by_cases h2 : p = 2
  · subst h2
    exact rest_two s
  · exact rest_of_open (h.op p hp h2) (Int.ofNat_dvd_left.mpr hd)
theorem Good.two {s t : Int} (h : Good s t) (h1 : s ≠ 1) (h2 : t ≠ 1) (hle : s.natAbs ≤ t.natAbs) : 2 ≤ t.natAbs := by
  have := h.ps.nz
  have := h.pt.nz
  have := h.sg
  omega
theorem Good.step {s t t' w f : Int} (h : Good s t) (pt' : Pl t') (e : w * w - s = t * t' * (f * f)) (hf : f ≠ 0) : Good s t' :=
  ⟨h.ps, pt', sign_step e h.pt.nz hf pt'.nz h.sg, fun p h1 h2 => shut_step h1 h.ps h.pt e (h.op p h1 h2)⟩
structure PtAt (s t x y z : Int) : Prop where
  eq : s * (x * x) + t * (y * y) = z * z
  nz : ¬ (x = 0 ∧ y = 0 ∧ z = 0)
theorem PtAt.symm {s t x y z : Int} (h : PtAt s t x y z) : PtAt t s y x z := ⟨by rw [Int.add_comm]; exact h.eq, fun q => h.nz ⟨q.2.1, q.1, q.2.2⟩⟩
theorem PtAt.low {s t x y z : Int} (h : PtAt s t x y z) {x' y' z' d : Nat} (h1 : 1 ≤ d) (ex : x.natAbs = x' * d) (ey : y.natAbs = y' * d) (ez : z.natAbs = z' * d) : PtAt s t x' y' z' := by
  have sq : ∀ {u : Int} {u' : Nat}, u.natAbs = u' * d → u * u = ((u' : Int) * (u' : Int)) * ((d : Int) * (d : Int)) := fun {u u'} e => by
    have : u * u = (u.natAbs : Int) * (u.natAbs : Int) := by
      have : u = (u.natAbs : Int) ∨ u = -(u.natAbs : Int) := by omega
      rcases this with q | q
      · rw [← q]
      · generalize (u.natAbs : Int) = v at *
        subst q
        grind
    rw [this, e, Int.natCast_mul]
    grind
  constructor
  · have e := h.eq
    rw [sq ex, sq ey, sq ez] at e
    have e2 : (s * ((x' : Int) * x') + t * ((y' : Int) * y')) * ((d : Int) * d) = ((z' : Int) * z') * ((d : Int) * d) := by grind
    exact Int.eq_of_mul_eq_mul_right (Int.mul_ne_zero (by omega) (by omega)) e2
  · rintro ⟨a, b, c⟩
    have a' : x' = 0 := by omega
    have b' : y' = 0 := by omega
    have c' : z' = 0 := by omega
    subst a' b' c'
    simp only [Nat.zero_mul] at ex ey ez
    exact h.nz ⟨by omega, by omega, by omega⟩
theorem fall0 {s t q w : Int} (h1 : s.natAbs ≤ t.natAbs) (ht : t ≠ 0) (hw : 2 * w.natAbs ≤ t.natAbs) (e : w * w - s = t * q) : q.natAbs ≤ t.natAbs + 1 := by
  have e1 : (w * w - s).natAbs = t.natAbs * q.natAbs := by rw [e, Int.natAbs_mul]
  have e2 : (w * w - s).natAbs ≤ w.natAbs * w.natAbs + s.natAbs := by
    have := Int.natAbs_sub_le (w * w) s
    rwa [Int.natAbs_mul] at this
  have e3 : w.natAbs * w.natAbs ≤ t.natAbs * t.natAbs := Nat.mul_le_mul (by omega) (by omega)
  have e4 : t.natAbs * q.natAbs ≤ t.natAbs * (t.natAbs + 1) := by rw [Nat.mul_succ]; omega
  exact Nat.le_of_mul_le_mul_left e4 (by omega)
theorem turned_root {T r : Nat} {s : Int} (hr : r ≤ T) (h : (T : Int) ∣ (r : Int) * (r : Int) - s) : (T : Int) ∣ ((T - r : Nat) : Int) * ((T - r : Nat) : Int) - s := by
  obtain ⟨a, ha⟩ := h
  have e : ((T - r : Nat) : Int) = (T : Int) - (r : Int) := by omega
  exact ⟨a + T - 2 * r, by rw [e]; grind⟩
theorem add_bound {a b : Int} {B c : Nat} (ha : a.natAbs ≤ B) (hb : b.natAbs ≤ c * B) : (a + b).natAbs ≤ (1 + c) * B := by
  have := Int.natAbs_add_le a b
  rw [Nat.add_mul, Nat.one_mul]
  omega
end EM
/-! EvHil: what a prime shuts goes by a symbol: unlike numbers told apart by their parity and their unit; products, squares. Behind EvForm. -/
namespace EM
/-- a is p (where e) times u times a square, p does not divide u -/
structure Rep (p : Nat) (a : Int) (e : Bool) (u : Int) : Prop where
  nd : ¬ (p : Int) ∣ u
  eq : ∃ c : Int, c ≠ 0 ∧ a = (if e then (p : Int) else 1) * u * (c * c)
theorem rep_unit {p : Nat} (hp : IsPr p) : ∀ (n : Nat) {u u' c c' : Int}, c.natAbs ≤ n → ¬ (p : Int) ∣ u → ¬ (p : Int) ∣ u' → c ≠ 0 → u * (c * c) = u' * (c' * c') → Rest p (u * u')
  | 0, u, u', c, c', hn, _, _, h0, _ => absurd (Int.natAbs_eq_zero.mp (Nat.le_zero.mp hn)) h0
  | n + 1, u, u', c, c', hn, nu, nu', h0, e => by
    have hp0 : (p : Int) ≠ 0 := by have := hp.1; omega
    by_cases dc : (p : Int) ∣ c
    · obtain ⟨d, ed⟩ := dc
      have dc' : (p : Int) ∣ c' := by
        have : (p : Int) ∣ u' * (c' * c') := ⟨u * d * c, by rw [← e, ed]; grind⟩
        rcases hp.euclidZ this with z | z
        · exact absurd z nu'
        · exact dvd_sq hp z
      obtain ⟨d', ed'⟩ := dc'
      have e2 : (p : Int) * (p : Int) * (u * (d * d)) = (p : Int) * (p : Int) * (u' * (d' * d')) := by
        rw [ed, ed'] at e
        grind
      have e3 := Int.eq_of_mul_eq_mul_left (Int.mul_ne_zero hp0 hp0) e2
      have d0 : d ≠ 0 := fun z => h0 (by rw [ed, z, Int.mul_zero])
      refine rep_unit hp n ?_ nu nu' d0 e3
      have h2 := hp.1
      have : c.natAbs = p * d.natAbs := by rw [ed, Int.natAbs_mul]; rfl
      have h3 : 1 ≤ d.natAbs := by omega
      have h4 : 2 * d.natAbs ≤ p * d.natAbs := Nat.mul_le_mul_right _ h2
      omega
    · refine Rest.cancel hp dc ?_
      exact ⟨u' * c', 0, by
        have : u * u' * (c * c) = u' * c' * (u' * c') := by
          have : u * u' * (c * c) = u' * (u * (c * c)) := by grind
          rw [this, e]
          grind
        rw [this]
        grind⟩
theorem rep_par {p : Nat} (hp : IsPr p) : ∀ (n : Nat) {u u' c c' : Int}, c.natAbs ≤ n → ¬ (p : Int) ∣ u → ¬ (p : Int) ∣ u' → c ≠ 0 → (p : Int) * u * (c * c) = u' * (c' * c') → False
  | 0, u, u', c, c', hn, _, _, h0, _ => absurd (Int.natAbs_eq_zero.mp (Nat.le_zero.mp hn)) h0
  | n + 1, u, u', c, c', hn, nu, nu', h0, e => by
    have hp0 : (p : Int) ≠ 0 := by have := hp.1; omega
    have dc' : (p : Int) ∣ c' := by
      have : (p : Int) ∣ u' * (c' * c') := ⟨u * (c * c), by rw [← e]; grind⟩
      rcases hp.euclidZ this with z | z
      · exact absurd z nu'
      · exact dvd_sq hp z
    obtain ⟨d', ed'⟩ := dc'
    have e2 : (p : Int) * (u * (c * c)) = (p : Int) * (p * u' * (d' * d')) := by
      rw [ed'] at e
      grind
    have e3 := Int.eq_of_mul_eq_mul_left hp0 e2
    have dc : (p : Int) ∣ c := by
      have : (p : Int) ∣ u * (c * c) := ⟨u' * (d' * d'), by rw [e3]; grind⟩
      rcases hp.euclidZ this with z | z
      · exact absurd z nu
      · exact dvd_sq hp z
    obtain ⟨d, ed⟩ := dc
    have e4 : (p : Int) * (p * u * (d * d)) = (p : Int) * (u' * (d' * d')) := by
      rw [ed] at e3
      grind
    have e5 := Int.eq_of_mul_eq_mul_left hp0 e4
    have d0 : d ≠ 0 := fun z => h0 (by rw [ed, z, Int.mul_zero])
    refine rep_par hp n ?_ nu nu' d0 e5
    have h2 := hp.1
    have : c.natAbs = p * d.natAbs := by rw [ed, Int.natAbs_mul]; rfl
    have h3 : 1 ≤ d.natAbs := by omega
    have h4 : 2 * d.natAbs ≤ p * d.natAbs := Nat.mul_le_mul_right _ h2
    omega
theorem Rep.uniq {p : Nat} (hp : IsPr p) {a : Int} {e e' : Bool} {u u' : Int} (r : Rep p a e u) (r' : Rep p a e' u') : e = e' ∧ Rest p (u * u') := by
  have hp0 : (p : Int) ≠ 0 := by have := hp.1; omega
  obtain ⟨nu, c, c0, h⟩ := r
  obtain ⟨nu', c', c0', h'⟩ := r'
  cases e <;> cases e'
  · refine ⟨rfl, rep_unit hp _ (Nat.le_refl _) nu nu' c0 (c' := c') ?_⟩
    simp at h h'
    exact h.symm.trans h'
  · simp at h h'
    exact (rep_par hp _ (Nat.le_refl _) nu' nu c0' (h'.symm.trans h)).elim
  · simp at h h'
    exact (rep_par hp _ (Nat.le_refl _) nu nu' c0 (h.symm.trans h')).elim
  · refine ⟨rfl, rep_unit hp _ (Nat.le_refl _) nu nu' c0 (c' := c') ?_⟩
    simp at h h'
    refine Int.eq_of_mul_eq_mul_left hp0 ?_
    have := h.symm.trans h'
    grind
theorem Rep.of_plain {p : Nat} (hp : IsPr p) {a s : Int} {f : Nat} (h : PlainOf a s f) : (¬ (p : Int) ∣ s ∧ Rep p a false s) ∨ ∃ s1, s = p * s1 ∧ Rep p a true s1 := by
  have f0 : (f : Int) ≠ 0 := by have := h.pos; omega
  by_cases d : (p : Int) ∣ s
  · obtain ⟨s1, e⟩ := d
    have pl : Pl s := h.sq
    refine .inr ⟨s1, e, fun ⟨q, hq⟩ => pl.no hp ⟨q, by rw [e, hq]; grind⟩, f, f0, ?_⟩
    simp
    rw [← e]
    exact h.eq
  · refine .inl ⟨d, d, f, f0, ?_⟩
    simp
    exact h.eq
/-- the symbol -/
def Sy (p : Nat) : Bool → Int → Bool → Int → Prop
  | false, _, false, _ => False
  | true, _, false, v => ¬ Rest p v
  | false, u, true, _ => ¬ Rest p u
  | true, u, true, v => ¬ Rest p (-u * v)
theorem rest_same {p : Nat} (hp : IsPr p) {u u' : Int} (nu : ¬ (p : Int) ∣ u) (nu' : ¬ (p : Int) ∣ u') (h : Rest p (u * u')) : Rest p u ↔ Rest p u' :=
  ⟨fun r => Rest.div hp nu r h, fun r => Rest.div hp nu' r (by rw [Int.mul_comm]; exact h)⟩
theorem nd_mul {p : Nat} (hp : IsPr p) {u v : Int} (nu : ¬ (p : Int) ∣ u) (nv : ¬ (p : Int) ∣ v) : ¬ (p : Int) ∣ u * v := fun z => (hp.euclidZ z).elim nu nv
theorem nd_neg {p : Nat} {u : Int} (nu : ¬ (p : Int) ∣ u) : ¬ (p : Int) ∣ -u := fun z => nu (Int.dvd_neg.mp z)
theorem Sy.same {p : Nat} (hp : IsPr p) {e g : Bool} {u u' v v' : Int} (nu : ¬ (p : Int) ∣ u) (nu' : ¬ (p : Int) ∣ u') (nv : ¬ (p : Int) ∣ v) (nv' : ¬ (p : Int) ∣ v') (hu : Rest p (u * u')) (hv : Rest p (v * v')) : Sy p e u g v ↔ Sy p e u' g v' := by
  cases e <;> cases g <;> simp only [Sy]
  · rw [rest_same hp nu nu' hu]
  · rw [rest_same hp nv nv' hv]
  · rw [rest_same hp (nd_mul hp (nd_neg nu) nv) (nd_mul hp (nd_neg nu') nv') ?_]
    have : -u * v * (-u' * v') = u * u' * (v * v') := by grind
    rw [this]
    exact hu.mul hv
theorem shutP_sy {p : Nat} (hp : IsPr p) {s t : Int} {e g : Bool} {u v : Int} (he : s = (if e then (p : Int) else 1) * u) (hg : t = (if g then (p : Int) else 1) * v) (nu : ¬ (p : Int) ∣ u) (nv : ¬ (p : Int) ∣ v) : ShutP s t p ↔ Sy p e u g v := by
  have hp0 : (p : Int) ≠ 0 := by have := hp.1; omega
  cases e <;> cases g <;> simp only [Sy] <;> simp at he hg
  · subst he hg
    exact ⟨fun z => by rcases z with z | z | z <;> first | exact nu z.1 | exact nv z.2.1, False.elim⟩
  · subst he
    have dt : (p : Int) ∣ t := ⟨v, hg⟩
    exact ⟨fun z => by rcases z with z | z | z <;> first | exact absurd z.1 nu | exact z.2.2, fun z => .inr (.inr ⟨nu, dt, z⟩)⟩
  · subst hg
    have ds : (p : Int) ∣ s := ⟨u, he⟩
    exact ⟨fun z => by rcases z with z | z | z <;> first | exact absurd z.2.1 nv | exact z.2.2 | exact absurd ds z.1, fun z => .inr (.inl ⟨ds, nv, z⟩)⟩
  · have ds : (p : Int) ∣ s := ⟨u, he⟩
    have dt : (p : Int) ∣ t := ⟨v, hg⟩
    have e1 := ediv_of hp he
    have e2 := ediv_of hp hg
    refine ⟨fun z => ?_, fun z => .inl ⟨ds, dt, by rw [e1, e2]; exact z⟩⟩
    rcases z with z | z | z
    · have := z.2.2
      rw [e1, e2] at this
      exact this
    · exact absurd dt z.2.1
    · exact absurd ds z.1
theorem Shuts.sy {p : Nat} (hp : IsPr p) {a b : Int} {s t : Int} {f k : Nat} (ha : PlainOf a s f) (hb : PlainOf b t k) {e g : Bool} {u v : Int} (ra : Rep p a e u) (rb : Rep p b g v) : Shuts a b p ↔ Sy p e u g v := by
  rw [Shuts.iff ha hb]
  obtain ⟨e0, u0, he0, r0⟩ : ∃ e0 u0, s = (if e0 then (p : Int) else 1) * u0 ∧ Rep p a e0 u0 := by
    rcases Rep.of_plain hp ha with ⟨_, r⟩ | ⟨s1, h, r⟩
    · exact ⟨false, s, by simp, r⟩
    · exact ⟨true, s1, by simpa using h, r⟩
  obtain ⟨g0, v0, hg0, r1⟩ : ∃ g0 v0, t = (if g0 then (p : Int) else 1) * v0 ∧ Rep p b g0 v0 := by
    rcases Rep.of_plain hp hb with ⟨_, r⟩ | ⟨s1, h, r⟩
    · exact ⟨false, t, by simp, r⟩
    · exact ⟨true, s1, by simpa using h, r⟩
  rw [shutP_sy hp he0 hg0 r0.nd r1.nd]
  obtain ⟨rfl, q1⟩ := r0.uniq hp ra
  obtain ⟨rfl, q2⟩ := r1.uniq hp rb
  exact Sy.same hp r0.nd ra.nd r1.nd rb.nd q1 q2
theorem plain_ex {a : Int} (h : a ≠ 0) : ∃ s f, PlainOf a s f := by
  have go : ∀ (n : Nat) (s : Int) (f : Nat), s.natAbs ≤ n → s ≠ 0 → 1 ≤ f → a = s * ((f : Int) * (f : Int)) → ∃ s f, PlainOf a s f := by
    intro n
    induction n with
    | zero => intro s f hs h0; exact absurd (Int.natAbs_eq_zero.mp (Nat.le_zero.mp hs)) h0
    | succ n ih =>
      intro s f hs h0 hf e
      by_cases q : ∃ k : Nat, 2 ≤ k ∧ k * k ∣ s.natAbs
      · obtain ⟨k, hk, hd⟩ := q
        have hd' : ((k : Int) * (k : Int)) ∣ s := by
          have : ((k * k : Nat) : Int) ∣ s := Int.ofNat_dvd_left.mpr hd
          rwa [Int.natCast_mul] at this
        obtain ⟨r, hr⟩ := hd'
        have r0 : r ≠ 0 := fun z => h0 (by rw [hr, z, Int.mul_zero])
        refine ih r (f * k) ?_ r0 (Nat.mul_pos hf (by omega)) (by rw [e, hr, Int.natCast_mul]; grind)
        have : s.natAbs = k * k * r.natAbs := by rw [hr, Int.natAbs_mul, Int.natAbs_mul]; rfl
        have h4 : 4 ≤ k * k := Nat.mul_le_mul hk hk
        have h5 : 4 * r.natAbs ≤ k * k * r.natAbs := Nat.mul_le_mul_right _ h4
        have : 1 ≤ r.natAbs := by omega
        omega
      · exact ⟨s, f, e, hf, fun k hk hd => q ⟨k, hk, hd⟩⟩
  exact go a.natAbs a 1 (Nat.le_refl _) h (Nat.le_refl _) (by simp)
theorem rep_ex {p : Nat} (hp : IsPr p) {a : Int} (h : a ≠ 0) : ∃ e u, Rep p a e u := by
  obtain ⟨s, f, hs⟩ := plain_ex h
  rcases Rep.of_plain hp hs with ⟨_, r⟩ | ⟨s1, _, r⟩
  · exact ⟨_, _, r⟩
  · exact ⟨_, _, r⟩
theorem shuts_sy {p : Nat} (hp : IsPr p) {a b : Int} (ha : a ≠ 0) (hb : b ≠ 0) {e g : Bool} {u v : Int} (ra : Rep p a e u) (rb : Rep p b g v) : Shuts a b p ↔ Sy p e u g v := by
  obtain ⟨s, f, h1⟩ := plain_ex ha
  obtain ⟨t, k, h2⟩ := plain_ex hb
  exact Shuts.sy hp h1 h2 ra rb
theorem Rep.sq {p : Nat} {a : Int} {e : Bool} {u : Int} (r : Rep p a e u) {f : Int} (hf : f ≠ 0) : Rep p (a * f * f) e u := by
  obtain ⟨nu, c, c0, h⟩ := r
  exact ⟨nu, c * f, Int.mul_ne_zero c0 hf, by rw [h]; grind⟩
theorem Rep.neg {p : Nat} {a : Int} {e : Bool} {u : Int} (r : Rep p a e u) : Rep p (-a) e (-u) := by
  obtain ⟨nu, c, c0, h⟩ := r
  exact ⟨nd_neg nu, c, c0, by rw [h]; grind⟩
theorem Rep.mul {p : Nat} (hp : IsPr p) {a b : Int} {e g : Bool} {u v : Int} (r : Rep p a e u) (r' : Rep p b g v) : Rep p (a * b) (e ^^ g) (u * v) := by
  have hp0 : (p : Int) ≠ 0 := by have := hp.1; omega
  obtain ⟨nu, c, c0, h⟩ := r
  obtain ⟨nv, d, d0, h'⟩ := r'
  refine ⟨nd_mul hp nu nv, ?_⟩
  cases e <;> cases g <;> simp at h h' ⊢
  · exact ⟨c * d, Int.mul_ne_zero c0 d0, by rw [h, h']; grind⟩
  · exact ⟨c * d, Int.mul_ne_zero c0 d0, by rw [h, h']; grind⟩
  · exact ⟨c * d, Int.mul_ne_zero c0 d0, by rw [h, h']; grind⟩
  · exact ⟨p * (c * d), Int.mul_ne_zero hp0 (Int.mul_ne_zero c0 d0), by rw [h, h']; grind⟩
/-- of two that are no rests the product is one -/
theorem rest_mul {p : Nat} (hp : IsPr p) {x y : Int} (nx : ¬ (p : Int) ∣ x) (ny : ¬ (p : Int) ∣ y) : Rest p (x * y) ↔ (Rest p x ↔ Rest p y) := by
  constructor
  · exact fun h => rest_same hp nx ny h
  · intro h
    by_cases hx : Rest p x
    · exact hx.mul (h.mp hx)
    · have hy : ¬ Rest p y := fun z => hx (h.mpr z)
      by_cases h2 : p = 2
      · subst h2
        exact rest_two _
      · refine (euler_rest hp h2 (x * y)).mp (.inr ?_)
        rw [pw_one hp.1]
        obtain ⟨q1, e1⟩ := half_neg hp h2 hx
        obtain ⟨q2, e2⟩ := half_neg hp h2 hy
        rw [Int.mul_pow]
        have f1 : x ^ ((p - 1) / 2) = p * q1 - 1 := by omega
        have f2 : y ^ ((p - 1) / 2) = p * q2 - 1 := by omega
        rw [f1, f2]
        exact ⟨p * q1 * q2 - q1 - q2, by grind⟩
theorem no_mul {p : Nat} (hp : IsPr p) {x y : Int} (nx : ¬ (p : Int) ∣ x) (ny : ¬ (p : Int) ∣ y) : ¬ Rest p (x * y) ↔ ¬ (¬ Rest p x ↔ ¬ Rest p y) := by
  rw [rest_mul hp nx ny]
  by_cases a : Rest p x <;> by_cases b : Rest p y <;> simp [a, b]
theorem Sy.mul {p : Nat} (hp : IsPr p) {e g h : Bool} {u v z : Int} (nu : ¬ (p : Int) ∣ u) (nv : ¬ (p : Int) ∣ v) (nz : ¬ (p : Int) ∣ z) : Sy p e u (g ^^ h) (v * z) ↔ ¬ (Sy p e u g v ↔ Sy p e u h z) := by
  have q : ∀ x : Prop, ¬ (¬ x ↔ ¬ x) ↔ False := fun x => by simp
  cases e <;> cases g <;> cases h <;> simp only [Sy, Bool.xor_false, Bool.xor_true, Bool.not_true, Bool.not_false]
  · simp
  · simp
  · simp
  · simp
  · exact no_mul hp nv nz
  · rw [show -u * (v * z) = v * (-u * z) by grind]
    exact no_mul hp nv (nd_mul hp (nd_neg nu) nz)
  · rw [show -u * (v * z) = -u * v * z by grind]
    exact no_mul hp (nd_mul hp (nd_neg nu) nv) nz
  · have e1 := no_mul hp (nd_mul hp (nd_neg nu) nv) (nd_mul hp (nd_neg nu) nz)
    rw [show -u * v * (-u * z) = v * z * (u * u) by grind] at e1
    rw [← e1]
    exact not_congr ⟨fun r => r.mul (Rest.sq _ _), fun r => Rest.cancel hp nu r⟩
theorem shuts_comm {p : Nat} {a b : Int} : Shuts a b p ↔ Shuts b a p :=
  ⟨fun ⟨s, t, f, g, h1, h2, h3⟩ => ⟨t, s, g, f, h2, h1, h3.symm⟩, fun ⟨s, t, f, g, h1, h2, h3⟩ => ⟨t, s, g, f, h2, h1, h3.symm⟩⟩
theorem shuts_sq {p : Nat} (hp : IsPr p) {a b f g : Int} (ha : a ≠ 0) (hb : b ≠ 0) (hf : f ≠ 0) (hg : g ≠ 0) : Shuts (a * f * f) (b * g * g) p ↔ Shuts a b p := by
  obtain ⟨e, u, ra⟩ := rep_ex hp ha
  obtain ⟨k, v, rb⟩ := rep_ex hp hb
  rw [shuts_sy hp ha hb ra rb, shuts_sy hp (Int.mul_ne_zero (Int.mul_ne_zero ha hf) hf) (Int.mul_ne_zero (Int.mul_ne_zero hb hg) hg) (ra.sq hf) (rb.sq hg)]
theorem shuts_mul {p : Nat} (hp : IsPr p) {a b c : Int} (ha : a ≠ 0) (hb : b ≠ 0) (hc : c ≠ 0) : Shuts a (b * c) p ↔ ¬ (Shuts a b p ↔ Shuts a c p) := by
  obtain ⟨e, u, ra⟩ := rep_ex hp ha
  obtain ⟨k, v, rb⟩ := rep_ex hp hb
  obtain ⟨l, z, rc⟩ := rep_ex hp hc
  rw [shuts_sy hp ha hb ra rb, shuts_sy hp ha hc ra rc, shuts_sy hp ha (Int.mul_ne_zero hb hc) ra (rb.mul hp rc)]
  exact Sy.mul hp ra.nd rb.nd rc.nd
theorem shuts_self {p : Nat} (hp : IsPr p) {a : Int} (ha : a ≠ 0) : ¬ Shuts a (-a) p := by
  obtain ⟨e, u, ra⟩ := rep_ex hp ha
  rw [shuts_sy hp ha (by omega) ra ra.neg]
  cases e <;> simp only [Sy]
  · exact id
  · exact fun h => h (Rest.sq p (-u))
theorem shuts_turn {p : Nat} (hp : IsPr p) {a b : Int} (ha : a ≠ 0) (hb : b ≠ 0) : Shuts a (0 - a * b) p ↔ Shuts a b p := by
  rw [show 0 - a * b = -a * b by grind, shuts_mul hp ha (by omega) hb]
  have := shuts_self hp ha
  by_cases q : Shuts a b p <;> simp [this, q]
end EM
/-! EvLay: rules for sorted numbers, sets of numbers, lists taken so often, turned about, made of a range. Behind EvRange. -/
namespace L2
open PySem PySem.Spec PyProof.Rows
theorem ints_of_vals {ns : List Int} {us : List Value} (r : Vals (ns.map V.int) us) : IntsAre us ns := intsAre_of r
theorem vals_of_ints : ∀ {ns : List Int} {us : List Value}, IntsAre us ns → Vals (ns.map V.int) us
  | _, _, .nil => .nil
  | _, _, .cons n tk t => .cons ⟨tk, rfl⟩ (vals_of_ints t)
/-! ### enumerate(list) -/
section
variable {X : Cx} {elts : List Expr} {k : Nat} {tp : Pos}
end
/-! ### a list or a tuple, gone through -/
/-! ### rules that name K, for comprehensions -/
/-! ### a[i] += .. -/
end L2
/-! EvZip: zip of a tuple and a list. Behind EvLay. -/
namespace L2
open PySem PySem.Spec PyProof.Rows
section
variable {prog : Program} {w : World} {A : Around} {E : Value → Shared → Prop} {s : Shared}
end
section
variable {prog : Program} {w : World} {A : Around} {E : Value → Shared → Prop} {s : Shared}
end
section
variable {X : Cx} {elts : List Expr} {k : Nat} {tp : Pos}
end
end L2
/-! EvSort: sorted of a list of pairs of numbers: the same pairs in some order. Behind EvLay. -/
namespace L2
open PySem PySem.Spec PyProof.Rows PySem.W
section
variable {n : Nat} (hn : 0 < n)
include hn
end
section
variable {prog : Program} {w : World} {A : Around} {E : Value → Shared → Prop} {s : Shared}
end
end L2
/-! EvMul: tuple * number. Behind EvLay. -/
namespace PySem
open Sem (wp)
open Builtin
end PySem
namespace L2
open PySem PySem.Spec PyProof.Rows
end L2
namespace HT2
open PySem PySem.Spec PyProof.Rows HT
variable {prog : Program} {w : World} {A : Around} {E : Value → Shared → Prop} {s : Shared}
end HT2
namespace L2
open PySem PySem.Spec PyProof.Rows
end L2
/-! EvTold: loops by steps, zip of two lists, a def that calls itself. Behind EvMul. -/
namespace L2
open PySem PySem.Spec PyProof.Rows
section
variable {X : Cx} {elts : List Expr} {k : Nat} {tp : Pos}
end
end L2
/-! EvEnt: enumerate of a tuple, values of an `or`, a list taken apart. Behind EvTold and EvZip. -/
namespace L2
open PySem PySem.Spec PyProof.Rows
section
variable {prog : Program} {w : World} {A : Around} {E : Value → Shared → Prop} {s : Shared}
end
section
variable {X : Cx} {elts : List Expr} {k : Nat} {tp : Pos}
end
end L2
/-! EvIdx: places in tuples and lists from a start on, tuples whose object is known, lists taken apart, values of an `or`. Behind EvEnt. -/
namespace L2
open PySem PySem.Spec PyProof.Rows
section
variable {prog : Program} {w : World} {A : Around} {E : Value → Shared → Prop} {s : Shared}
theorem drawL {it l : Addr} {its : Array Value} (hne : l ≠ it) : ∀ (n i : Nat) (s : Shared) (Q : List Value → Shared → Prop), s.heap.IsListIter it l i → s.heap.IsList l its → i + n ≤ its.size →
    (∀ h', h'.IsListIter it l (i + n) → Heap.SameBut it s.heap h' → Q ((its.toList.drop i).take n) { s with heap := h' }) → wpAny (model prog w) A (draw (.ref it) n) Q E s
  | 0, i, s, Q, j, _, _, q => wpAny_pure (by simpa using q s.heap j (Heap.SameBut.refl ..))
  | n + 1, i, s, Q, j, g, le, q => by
    have lt : i < its.size := by omega
    show wpAny _ _ (pyNext (.ref it) >>= _) Q E s
    refine wpAny_bind (wpAny_pyNext_list_item j g (x := its[i]) (by simp [lt]) fun h1 j1 b1 => ?_)
    refine wpAny_bind (wpAny_holding (drawL hne n (i + 1) _ _ j1 (g.extBut b1.extBut hne) (by omega) fun h2 j2 b2 => wpAny_pure ?_))
    have e : its.toList.drop i = its[i] :: its.toList.drop (i + 1) := by simp [List.drop_eq_getElem_cons, lt]
    have z := q h2 (by rw [show i + (n + 1) = i + 1 + n by omega]; exact j2) (b1.trans b2)
    rw [e, List.take_succ_cons] at z
    exact z
theorem unpackL {l : Addr} {its : Array Value} {Q : List Value → Shared → Prop} (hh : A.handled = none) (g : s.heap.IsList l its) (q : ∀ h', Heap.ExtBut s.heap.objs.size s.heap h' → Q its.toList { s with heap := h' }) : wpAny (model prog w) A (unpackItems (.ref l) its.size none) Q E s := by
  have ne : l ≠ s.heap.objs.size := by obtain ⟨o, ho, _⟩ := g; exact Nat.ne_of_lt (Heap.lt_size ho)
  unfold unpackItems
  refine wpAny_bind ?_
  unfold notIterableAtAll
  refine wpAny_bind (wpAny_specialOf g.typeIs PySem.F.slot_list_iter.lookup (wpAny_pure ?_))
  simp only [Bool.false_eq_true, if_false]
  refine wpAny_bind (wpAny_holding (wpAny_pyIter_list g (wpAny_bind (wpAny_holding (drawL ne its.size 0 _ _ ⟨_, Heap.get?_push_size _ rfl, rfl, rfl⟩ (g.push _) (by omega) fun h1 j1 b1 => ?_)))))
  rw [List.drop_zero, List.take_of_length_le (by simp), if_neg (by simp)]
  refine wpAny_bind (wpAny_holding (wpAny_pyNext_list_end hh j1 ((g.push _).extBut b1.extBut ne) (by simp) fun h2 e2 => ?_))
  simp only [Option.isSome_none, Bool.false_eq_true, if_false]
  exact wpAny_pure (q h2 fun b o hb e => e2 b o hb (b1.extBut b o hb (Heap.get?_push_of_some _ e)))
end
/-- a, b, .. = list -/
def gLst (K : PySem.W.Frag) (n : Nat) (t : TGs) : TG := fun v σ H Q => ∃ a xs, v = .ref a ∧ SqL K H a xs ∧ xs.length = n ∧ t xs σ H Q
theorem pg_lst {X : Cx} {pos : Pos} {es : List Expr} {k : Nat} {t : TGs} {n : Nat} (hc : X.calm = true) (h : PGs X es t) (hn : (assignEach es X.env).length = n := by rfl) (hst : (assignEach es X.env).findIdx? (·.1) = none := by rfl) : PG X (.Tuple es k pos) (gLst X.K n t) := by
  intro pins s σ H v u Q I r hw
  obtain ⟨a, xs, e1, hq, hl, hw⟩ := hw
  subst e1
  cases r
  obtain ⟨its, rv, pl, hz⟩ := I.list hq
  have hlen : (assignEach es X.env).length = its.toArray.size := by rw [hn, List.size_toArray, ← rv.length, hl]
  rw [assign_Tuple]
  refine wpAny_bind (wpAny_standAt ?_)
  unfold unpack
  rw [hlen, hst]
  refine wpAny_bind (wpAny_holding (unpackL (I.ok.hd hc) pl.isList fun h2 hx => ?_))
  have J : Inv X pins σ H { s with heap := h2 } := I.kept (t' := s.toks) fun b o e => hx b o (Nat.ne_of_lt (Heap.lt_size e)) e
  exact h pins _ σ H xs _ Q J (by simpa using rv) hw
theorem qg_lst {X : Cx} {pos : Pos} {es : List Expr} {k : Nat} {t : TGs} {n : Nat} (hc : X.calm = true) (h : QGs X es t) (hn : (assignEach es X.env).length = n := by rfl) (hst : (assignEach es X.env).findIdx? (·.1) = none := by rfl) : QG X (.Tuple es k pos) (gLst X.K n t) := ⟨pg_lst hc h.h hn hst⟩
/-! ### places from a start on -/
end L2
/-! EvPar: a, b, c = x, y, z with plain local names: stored from the right. Behind EvLay. -/
namespace L2
open PySem PySem.Spec PyProof.Rows
section
variable {X : Cx} {pos : Pos}
def tPar3 (i j k : Nat) (ta : TA) : TS := fun D σ H => ta σ H fun vs H1 => ∃ v w y, vs = [v, w, y] ∧ D.nx (((σ.set i (some v)).set j (some w)).set k (some y)) H1
theorem ps_par3 {i j k : Nat} {x y z : Str} {a b c : Expr} {ta : TA} {px py pz pt : Pos} {kt k2 pt2} (hc : X.calm = true) (hN : X.N.Nodup) (hi : X.N[i]? = some x) (hj : X.N[j]? = some y) (hk : X.N[k]? = some z) (hij : i ≠ j) (hik : i ≠ k) (hjk : j ≠ k)
    (hx : X.env.scope.names.lookup x = some .local) (hy : X.env.scope.names.lookup y = some .local) (hz : X.env.scope.names.lookup z = some .local) (ha : PA X [a, b, c] ta)
    (hw : swappedStores [.Tuple [.Name x px, .Name y py, .Name z pz] kt pt] (.Tuple [a, b, c] k2 pt2) X.env = pure (some [x, y, z]))
    (hs : swapsWithSole [.Tuple [.Name x px, .Name y py, .Name z pz] kt pt] (.Tuple [a, b, c] k2 pt2) pos.line X.env = pure false := by rfl) :
    PS X (.Assign [.Tuple [.Name x px, .Name y py, .Name z pz] kt pt] (.Tuple [a, b, c] k2 pt2) pos) (tPar3 i j k ta) := by
  intro pins s σ H D I h
  rw [exec_Assign_arm]
  refine wpAny_bind (wpAny_standAt ?_)
  rw [hs]
  refine wpAny_bind (wpAny_pure ?_)
  rw [if_neg (by decide)]
  refine wpAny_bind (Tuple_ (thn (ha _ pins s σ H _ I h) fun us s1 ⟨vs, H1, I1, r1, q1⟩ => ?_))
  obtain ⟨v, w, y', e1, q1⟩ := q1
  subst e1
  obtain ⟨u1, u2, u3, rfl, rv, rw', ry⟩ : ∃ u1 u2 u3, us = [u1, u2, u3] ∧ RelV v u1 ∧ RelV w u2 ∧ RelV y' u3 := by
    cases r1 with
    | cons p q =>
      cases q with
      | cons p' q' =>
        cases q' with
        | cons p'' q'' =>
          cases q''
          exact ⟨_, _, _, rfl, p, p', p''⟩
  refine wpAny_newObj_type ?_ (by show 3 ≤ sizeLine; decide)
  have I2 : Inv X pins σ H1 { s1 with heap := s1.heap.push { cls := .type "tuple", data := .seq [u1, u2, u3].toArray } } := I1.kept (t' := s1.toks) fun b o e => Heap.get?_push_of_some _ e
  rw [hw]
  refine wpAny_bind (wpAny_pure ?_)
  show wpAny (model X.prog X.w) X.A (do rule "assign.swapped-stores"; let items ← unpackItems (.ref s1.heap.objs.size) 3 none; assignInOrder [fun v => bindName X.env z v, fun v => bindName X.env y v, fun v => bindName X.env x v] items.reverse; pure Flow.next) _ _ _
  refine wpAny_bind (wpAny_rule (wpAny_bind (unpackItems_tuple (items := #[u1, u2, u3]) (I.ok.hd hc) (IsTup.new s1.heap _) fun h' hx' => ?_)))
  have I3 := I2.kept (h' := h') (t' := s1.toks) fun b o e => hx' b o (Nat.ne_of_lt (Heap.lt_size e)) e
  show wpAny _ _ (assignInOrder [fun v => bindName X.env z v, fun v => bindName X.env y v, fun v => bindName X.env x v] [u3, u2, u1] >>= fun _ => pure Flow.next) _ _ _
  refine wpAny_bind (assignInOrder_cons (wpAny_bindName (store_ok I3 hN hk (.inl hz) ry (fun s2 I4 => ?_) (.inr hz))))
  refine assignInOrder_cons (wpAny_bindName (store_ok I4 hN hj (.inl hy) rw' (fun s3 I5 => ?_) (.inr hy)))
  refine assignInOrder_cons (wpAny_bindName (store_ok I5 hN hi (.inl hx) rv (fun s4 I6 => assignInOrder_nil (wpAny_pure ?_)) (.inr hx)))
  rw [List.set_comm _ _ (Ne.symm hjk), List.set_comm _ _ (Ne.symm hik), List.set_comm _ _ (Ne.symm hij)] at I6
  exact ⟨_, H1, I6, q1⟩
theorem qs_par3 {i j k : Nat} {x y z : Str} {a b c : Expr} {ta : TA} {px py pz pt : Pos} {kt k2 pt2} (hc : X.calm = true) (hN : X.N.Nodup) (hi : X.N[i]? = some x) (hj : X.N[j]? = some y) (hk : X.N[k]? = some z) (hij : i ≠ j) (hik : i ≠ k) (hjk : j ≠ k)
    (hx : X.env.scope.names.lookup x = some .local) (hy : X.env.scope.names.lookup y = some .local) (hz : X.env.scope.names.lookup z = some .local) (ha : QA X [a, b, c] ta)
    (hw : swappedStores [.Tuple [.Name x px, .Name y py, .Name z pz] kt pt] (.Tuple [a, b, c] k2 pt2) X.env = pure (some [x, y, z]))
    (hs : swapsWithSole [.Tuple [.Name x px, .Name y py, .Name z pz] kt pt] (.Tuple [a, b, c] k2 pt2) pos.line X.env = pure false := by rfl) :
    QS X (.Assign [.Tuple [.Name x px, .Name y py, .Name z pz] kt pt] (.Tuple [a, b, c] k2 pt2) pos) (tPar3 i j k ta) := ⟨ps_par3 hc hN hi hj hk hij hik hjk hx hy hz ha.h hw hs⟩
end
end L2
namespace L2
open PySem PySem.Spec PyProof.Rows
section
variable {prog : Program} {w : World} {A : Around} {E : Value → Shared → Prop} {s : Shared}
/-- entries in another order -/
theorem pick_perm {α : Type} (next : Nat → Nat) (xs : Array α) : (pickOrder next xs).toList.Perm xs.toList := by
  have key : ∀ (fuel k : Nat) (left : List α) (out : Array α), left.length ≤ fuel → (pickOrder.go next fuel k left out).toList.Perm (out.toList ++ left) := by
    intro fuel
    induction fuel with
    | zero =>
      intro k left out h
      have : left = [] := List.length_eq_zero_iff.mp (Nat.le_zero.mp h)
      subst this
      unfold pickOrder.go
      simp
    | succ fuel ih =>
      intro k left out h
      unfold pickOrder.go
      cases hl : left[next k % left.length]? with
      | none =>
        dsimp only
        cases left with
        | nil => simp
        | cons y r =>
          have := Nat.mod_lt (next k) (show 0 < (y :: r).length by simp)
          rw [List.getElem?_eq_getElem this] at hl
          cases hl
      | some x =>
        dsimp only
        obtain ⟨hlt, hx⟩ := List.getElem?_eq_some_iff.mp hl
        refine (ih (k + 1) _ _ (by rw [List.length_eraseIdx_of_lt hlt]; omega)).trans ?_
        rw [Array.toList_push, List.append_assoc]
        refine List.Perm.append_left _ ?_
        rw [List.eraseIdx_eq_take_drop_succ]
        have e : left = left.take (next k % left.length) ++ x :: left.drop (next k % left.length + 1) := by
          conv => lhs; rw [← List.take_append_drop (next k % left.length) left, List.drop_eq_getElem_cons hlt, hx]
        have p := (List.perm_middle (a := x) (l₁ := left.take (next k % left.length)) (l₂ := left.drop (next k % left.length + 1))).symm
        rw [← e] at p
        exact p
  exact (key xs.size 0 xs.toList #[] (by simp)).trans (by simp)
/-- the empty set as it is made -/
abbrev set0 (led : Bool) : Obj := { cls := .type "set", dict := none, data := .set #[] 0 (.fresh 0 0 led) }
end
end L2
/-! EvWlk: tables of sets: what laying keeps (led, no dummies, places that rise). Pure. -/
namespace L2
open PySem
theorem orStandIn_led (t : SetTable) (n : Nat) : (t.orStandIn n).led = t.led := by
  unfold SetTable.orStandIn
  split <;> rfl
theorem layNew_led (t : SetTable) (es : Array (Int × Value)) (h : Int) (x : Value) : (layNew t es h x).2.1.led = t.led := by
  unfold layNew
  split
  · exact orStandIn_led _ _
  · rfl
theorem laid_led {mask finger moves : Nat} {led plain : Bool} {hs : Array Int} {t : SetTable} {o : Array Nat} (h : SetTable.laid mask finger moves led plain hs = some (t, o)) : t.led = led ∧ t.dummies = #[] ∧ t.mask = mask := by
  unfold SetTable.laid at h
  cases e : SetTable.layClean mask hs with
  | none => rw [e] at h; cases h
  | some owner =>
    rw [e] at h
    cases h
    exact ⟨rfl, rfl, rfl⟩
theorem relayAll_led (t : SetTable) (es : Array (Int × Value)) (n : Nat) : (relayAll t es n).2.1.led = t.led := by
  unfold relayAll
  split
  · rename_i t' o e
    dsimp only
    split
    · exact (laid_led e).1
    · rfl
  · rfl
/-- places that rise, none above the mask, no dummies -/
structure Rz (t : SetTable) : Prop where
  up : t.place.toList.Pairwise (· < ·)
  le : ∀ x ∈ t.place.toList, x ≤ t.mask
  no : t.dummies = #[]
theorem standIn_rz (t : SetTable) (n : Nat) : Rz (t.standIn n) := by
  refine ⟨?_, ?_, rfl⟩
  · show (Array.range n).toList.Pairwise (· < ·)
    rw [Array.toList_range]
    exact List.pairwise_lt_range
  · show ∀ x ∈ (Array.range n).toList, x ≤ 4 * n + 4
    rw [Array.toList_range]
    intro x hx
    have := List.mem_range.mp hx
    omega
theorem fresh_rz (f m : Nat) (l : Bool) : Rz (.fresh f m l) := ⟨by simp [SetTable.fresh], by simp [SetTable.fresh], rfl⟩
/-- where a place belongs -/
theorem below_go {xs : Array Nat} {j : Nat} (hs : xs.toList.Pairwise (· < ·)) : ∀ fuel lo hi, hi - lo ≤ fuel → lo ≤ hi → hi ≤ xs.size → (∀ i (h : i < xs.size), i < lo → xs[i] < j) → (∀ i (h : i < xs.size), hi ≤ i → j ≤ xs[i]) →
    SetTable.below.go xs j fuel lo hi ≤ xs.size ∧ (∀ i (h : i < xs.size), i < SetTable.below.go xs j fuel lo hi → xs[i] < j) ∧ ∀ i (h : i < xs.size), SetTable.below.go xs j fuel lo hi ≤ i → j ≤ xs[i]
  | 0, lo, hi, hf, hlh, hh, h1, h2 => by
    have e : lo = hi := by omega
    subst e
    unfold SetTable.below.go
    exact ⟨hh, h1, h2⟩
  | fuel + 1, lo, hi, hf, hlh, hh, h1, h2 => by
    unfold SetTable.below.go
    by_cases hlt : lo < hi
    · rw [if_pos hlt]
      dsimp only
      have hm : (lo + hi) / 2 < xs.size := by omega
      have mono : ∀ a b (ha : a < xs.size) (hb : b < xs.size), a ≤ b → xs[a] ≤ xs[b] := fun a b ha hb hab => by
        by_cases e : a = b
        · subst e
          exact Nat.le_refl _
        · have := (List.pairwise_iff_getElem.mp hs) a b (by simpa using ha) (by simpa using hb) (by omega)
          simpa using Nat.le_of_lt this
      by_cases hc : xs.getD ((lo + hi) / 2) j < j
      · rw [if_pos hc]
        rw [Array.getD_eq_getD_getElem?, Array.getElem?_eq_getElem hm] at hc
        refine below_go hs fuel _ hi (by omega) (by omega) hh (fun i h hi' => ?_) h2
        exact Nat.lt_of_le_of_lt (mono i _ h hm (by omega)) hc
      · rw [if_neg hc]
        rw [Array.getD_eq_getD_getElem?, Array.getElem?_eq_getElem hm] at hc
        refine below_go hs fuel lo _ (by omega) (by omega) (by omega) h1 (fun i h hi' => ?_)
        exact Nat.le_trans (Nat.le_of_not_lt hc) (mono _ i hm h hi')
    · rw [if_neg hlt]
      have e : lo = hi := by omega
      subst e
      exact ⟨hh, h1, h2⟩
theorem below_ok {xs : Array Nat} (hs : xs.toList.Pairwise (· < ·)) (j : Nat) : SetTable.below xs j ≤ xs.size ∧ (∀ i (h : i < xs.size), i < SetTable.below xs j → xs[i] < j) ∧ ∀ i (h : i < xs.size), SetTable.below xs j ≤ i → j ≤ xs[i] :=
  below_go hs xs.size 0 xs.size (by omega) (by omega) (Nat.le_refl _) (fun i _ h => by omega) fun i h h' => by omega
theorem slot_empty {t : SetTable} (R : Rz t) {j : Nat} (h : t.slot j = .empty) : j ∉ t.place.toList := by
  intro hm
  obtain ⟨k, hk, e⟩ := List.mem_iff_getElem.mp hm
  have hk' : k < t.place.size := by simpa using hk
  obtain ⟨b1, b2, b3⟩ := below_ok R.up j
  have ek : t.place[k] = j := by simpa using e
  have hb : SetTable.below t.place j = k := by
    rcases Nat.lt_trichotomy (SetTable.below t.place j) k with z | z | z
    · have := b3 (SetTable.below t.place j) (by omega) (Nat.le_refl _)
      have h2 := (List.pairwise_iff_getElem.mp R.up) _ k (by simp; omega) hk z
      simp at h2
      omega
    · exact z
    · have := b2 k hk' z
      omega
  unfold SetTable.slot at h
  simp [hb, Array.getElem?_eq_getElem hk', ek] at h
theorem no_dummy {t : SetTable} (R : Rz t) (j : Nat) : t.slot j ≠ .dummy := by
  have hd : SetTable.has t.dummies j = false := by
    rw [R.no]
    simp [SetTable.has]
  unfold SetTable.slot
  dsimp only
  rw [hd]
  intro h
  by_cases c : (t.place[SetTable.below t.place j]? == some j) = true
  · rw [if_pos c] at h
    cases h
  · rw [if_neg c] at h
    simp at h
/-- a probe stays within the table -/
structure Pz (t : SetTable) (p : SetTable.Probe) : Prop where
  jl : p.j + p.more ≤ t.mask
  dn : p.dummy = none
theorem start_pz (t : SetTable) (h : Int) : Pz t (t.probeStart h) := by
  refine ⟨?_, rfl⟩
  have h1 : SetTable.bits h % (t.mask + 1) ≤ t.mask := Nat.le_of_lt_succ (Nat.mod_lt _ (Nat.succ_pos _))
  unfold SetTable.probeStart SetTable.runEnd
  dsimp only
  split <;> omega
theorem adv_pz {t : SetTable} {p : SetTable.Probe} (P : Pz t p) : Pz t (t.advance p) := by
  have hj := P.jl
  unfold SetTable.advance
  by_cases hm : p.more > 0
  · rw [if_pos hm]
    exact ⟨by dsimp only; omega, P.dn⟩
  · rw [if_neg hm]
    refine ⟨?_, P.dn⟩
    unfold SetTable.leap SetTable.runEnd
    dsimp only
    have h1 : (p.i * 5 + 1 + p.perturb / 32) % (t.mask + 1) ≤ t.mask := Nat.le_of_lt_succ (Nat.mod_lt _ (Nat.succ_pos _))
    split <;> omega
theorem probe_empty {t : SetTable} (R : Rz t) {g : Nat → Int} {h : Int} {j : Nat} {d : Option Nat} : ∀ (fuel : Nat) (p : SetTable.Probe), Pz t p → SetTable.probe.go t g h fuel p = some (.empty j d) → t.slot j = .empty ∧ d = none ∧ j ≤ t.mask
  | 0, p, _, e => by
    unfold SetTable.probe.go at e
    cases e
  | fuel + 1, p, P, e => by
    unfold SetTable.probe.go at e
    have hj := P.jl
    cases hs : t.slot p.j with
    | empty =>
      rw [hs] at e
      simp only [Option.some.injEq, SetTable.Met.empty.injEq] at e
      obtain ⟨rfl, rfl⟩ := e
      exact ⟨hs, P.dn, by omega⟩
    | dummy => exact absurd hs (no_dummy R _)
    | live i =>
      rw [hs] at e
      dsimp only at e
      by_cases c : (g i == h) = true
      · rw [if_pos c] at e
        cases e
      · rw [if_neg c] at e
        exact probe_empty R fuel _ (adv_pz P) e
theorem freeSlot_ok {t : SetTable} (R : Rz t) {h : Int} {j : Nat} {b : Bool} (e : t.freeSlot h = some (j, b)) : j ∉ t.place.toList ∧ j ≤ t.mask ∧ b = false := by
  unfold SetTable.freeSlot at e
  split at e
  · rename_i j' d' he
    obtain ⟨h1, h2, h3⟩ := probe_empty R _ _ (start_pz t h) he
    subst h2
    simp at e
    obtain ⟨rfl, rfl⟩ := e
    exact ⟨slot_empty R h1, h3, rfl⟩
  · cases e
theorem insert_list {α : Type} (xs : Array α) (p : Nat) (x : α) : (SetTable.insertAt xs p x).toList = xs.toList.take p ++ x :: xs.toList.drop p := by
  unfold SetTable.insertAt
  simp only [Array.toList_append, Array.toList_push, Array.toList_extract, List.append_assoc, List.extract_eq_take_drop, List.drop_zero, Nat.sub_zero, List.cons_append, List.nil_append]
  rw [List.take_of_length_le (l := List.drop p xs.toList) (by rw [List.length_drop]; simp)]
theorem put_rz {t : SetTable} (R : Rz t) {j : Nat} (hj : j ∉ t.place.toList) (hm : j ≤ t.mask) : Rz (t.put j).1 := by
  obtain ⟨b1, b2, b3⟩ := below_ok R.up j
  have hp : ((t.put j).1.place).toList = t.place.toList.take (SetTable.below t.place j) ++ j :: t.place.toList.drop (SetTable.below t.place j) := insert_list _ _ _
  have lo : ∀ x ∈ t.place.toList.take (SetTable.below t.place j), x < j := fun x hx => by
    obtain ⟨i, hi, rfl⟩ := List.mem_iff_getElem.mp hx
    rw [List.length_take] at hi
    rw [List.getElem_take]
    have := b2 i (by simp at hi; omega) (by omega)
    simpa using this
  have hi : ∀ x ∈ t.place.toList.drop (SetTable.below t.place j), j < x := fun x hx => by
    obtain ⟨i, hi, rfl⟩ := List.mem_iff_getElem.mp hx
    rw [List.length_drop] at hi
    rw [List.getElem_drop]
    have h1 := b3 (SetTable.below t.place j + i) (by simp at hi; omega) (by omega)
    have h2 : t.place.toList[SetTable.below t.place j + i]'(by omega) ≠ j := fun z => hj (z ▸ List.getElem_mem _)
    have h3 : t.place.toList[SetTable.below t.place j + i]'(by omega) = t.place[SetTable.below t.place j + i]'(by simp at hi; omega) := by simp
    rw [h3] at h2 ⊢
    omega
  refine ⟨?_, ?_, ?_⟩
  · rw [hp, List.pairwise_append]
    refine ⟨R.up.sublist (List.take_sublist _ _), ?_, ?_⟩
    · rw [List.pairwise_cons]
      exact ⟨hi, R.up.sublist (List.drop_sublist _ _)⟩
    · intro a ha b hb
      rcases List.mem_cons.mp hb with rfl | hb
      · exact lo a ha
      · exact Nat.lt_trans (lo a ha) (hi b hb)
  · rw [hp]
    intro x hx
    rcases List.mem_append.mp hx with z | z
    · exact R.le x (List.mem_of_mem_take z)
    · rcases List.mem_cons.mp z with rfl | z
      · exact hm
      · exact R.le x (List.mem_of_mem_drop z)
  · show (if SetTable.has t.dummies j then SetTable.eraseAt t.dummies (SetTable.below t.dummies j) else t.dummies) = #[]
    rw [R.no]
    simp [SetTable.has]
theorem layNew_rz {t : SetTable} (R : Rz t) (es : Array (Int × Value)) (h : Int) (x : Value) : Rz (layNew t es h x).2.1 := by
  unfold layNew
  split
  · rename_i j b e
    obtain ⟨h1, h2, _⟩ := freeSlot_ok R e
    dsimp only
    unfold SetTable.orStandIn
    split
    · exact put_rz R h1 h2
    · exact standIn_rz _ _
  · exact standIn_rz _ _
theorem laid_rz {mask finger moves : Nat} {led plain : Bool} {hs : Array Int} {t : SetTable} {o : Array Nat} (h : SetTable.laid mask finger moves led plain hs = some (t, o)) : Rz t := by
  unfold SetTable.laid at h
  cases e : SetTable.layClean mask hs with
  | none => rw [e] at h; cases h
  | some owner =>
    rw [e] at h
    cases h
    have sub : ((List.range (mask + 1)).filterMap fun j => (owner.getD j none).map (j, ·)).map (·.1) = (List.range (mask + 1)).filter fun j => (owner.getD j none).isSome := by
      generalize List.range (mask + 1) = l
      induction l with
      | nil => rfl
      | cons a r ih =>
        rw [List.filterMap_cons, List.filter_cons]
        cases hc : owner.getD a none with
        | none => exact ih
        | some v => exact congrArg (a :: ·) ih
    refine ⟨?_, ?_, rfl⟩
    · show (((List.range (mask + 1)).filterMap fun j => (owner.getD j none).map (j, ·)).map (·.1)).toArray.toList.Pairwise (· < ·)
      rw [sub]
      exact List.pairwise_lt_range.sublist List.filter_sublist
    · show ∀ x ∈ (((List.range (mask + 1)).filterMap fun j => (owner.getD j none).map (j, ·)).map (·.1)).toArray.toList, x ≤ mask
      rw [sub]
      intro x hx
      have := List.mem_range.mp (List.mem_filter.mp hx).1
      omega
theorem relayAll_rz {t : SetTable} (es : Array (Int × Value)) (n : Nat) : Rz (relayAll t es n).2.1 := by
  unfold relayAll
  split
  · rename_i t' o e
    dsimp only
    split
    · exact laid_rz e
    · exact standIn_rz _ _
  · exact standIn_rz _ _
end L2
/-! EvSl: set(list of numbers) with its table: led unless the world goes by its text, places that rise. Behind EvWlk. -/
namespace L2
open PySem PySem.Spec PyProof.Rows
/-- the number of an entry -/
def enK (e : Int × Value) : Int := match e.2 with | .int n _ => n | _ => 0
/-- a set of numbers, its table as it is made -/
structure TabL (prog : Program) (w : World) (es : Array (Int × Value)) (t : SetTable) : Prop where
  el : ElemsOf (intKind prog w) es.toList
  fit : t.fits es.size = true
  rz : Rz t
  led : t.led = !(w.params.followText "set-order")
def AtL (prog : Program) (w : World) (h : Heap) (a : Addr) (es : Array (Int × Value)) : Prop := ∃ o ep t, h.get? a = some o ∧ o.ExactSet ∧ o.data = .set es ep t ∧ TabL prog w es t
def SetL (prog : Program) (w : World) (h : Heap) (a : Addr) (L : List Int) : Prop := ∃ es, AtL prog w h a es ∧ es.toList.map enK = L
theorem AtL.stay {prog : Program} {w : World} {h h' : Heap} {a : Addr} {es : Array (Int × Value)} (x : AtL prog w h a es) (k : ∀ o, h.get? a = some o → h'.get? a = some o) : AtL prog w h' a es := by
  obtain ⟨o, ep, t, ho, r⟩ := x
  exact ⟨o, ep, t, k o ho, r⟩
theorem SetL.stay {prog : Program} {w : World} {h h' : Heap} {a : Addr} {L : List Int} (x : SetL prog w h a L) (k : ∀ o, h.get? a = some o → h'.get? a = some o) : SetL prog w h' a L := by
  obtain ⟨es, y, e⟩ := x
  exact ⟨es, y.stay k, e⟩
section
variable {prog : Program} {w : World} {A : Around} {E : Value → Shared → Prop} {s : Shared} {a : Addr}
theorem el_int {es : List (Int × Value)} (h : ElemsOf (intKind prog w) es) {e : Int × Value} (he : e ∈ es) : ∃ n tk, e.2 = .int n tk ∧ enK e = n := by
  obtain ⟨⟨n, hn, _⟩, _⟩ := h e he
  obtain ⟨tk, e2⟩ := Value.isInt_shape hn
  exact ⟨n, tk, e2, by unfold enK; rw [e2]⟩
/-- a store leaves this object -/
theorem put_at {h : Heap} {o : Obj} {es es' : Array (Int × Value)} {ep : Nat} {t t' : SetTable} (ho : h.get? a = some o) (hx : o.ExactSet) (hd : o.data = .set es ep t) (T : TabL prog w es' t') :
    (h.update a (Obj.putSet es' t')).get? a = some { o with data := .set es' (ep + 1) t' } ∧ AtL prog w (h.update a (Obj.putSet es' t')) a es' := by
  have e := putSet_of es' t' hd
  have g : (h.update a (Obj.putSet es' t')).get? a = some { o with data := .set es' (ep + 1) t' } := by
    rw [Heap.get?_update_self (Obj.putSet es' t') ho (by rw [e]; rfl), e]
  exact ⟨g, _, _, _, g, hx, rfl, T⟩
theorem relay_tab {es : Array (Int × Value)} {t : SetTable} (T : TabL prog w es t) (n : Nat) : TabL prog w (relayAll t es n).1 (relayAll t es n).2.1 :=
  ⟨T.el.perm (relayAll_perm t es n), relayAll_fits t es n, relayAll_rz es n, (relayAll_led t es n).trans T.led⟩
theorem lay_tab {es : Array (Int × Value)} {t : SetTable} (T : TabL prog w es t) (k : Int) (tk : Tok) : TabL prog w (layNew t es ((intKind prog w).hash k) (.int k tk)).1 (layNew t es ((intKind prog w).hash k) (.int k tk)).2.1 := by
  have p := layNew_perm t es ((intKind prog w).hash k) (.int k tk)
  rw [Array.toList_push] at p
  exact ⟨(T.el.push (intKind_is _ _ _ _) rfl).perm p, layNew_fits .., layNew_rz T.rz .., (layNew_led ..).trans T.led⟩
/-- a number more -/
theorem add_l {L : List Int} {k : Int} {tk : Tok} {Q : Bool → Shared → Prop} (hS : SetL prog w s.heap a L) (hb : L.length + 1 < scanBound)
    (h : ∀ h' L', Heap.SameBut a s.heap h' → SetL prog w h' a L' → (L'.Perm (L ++ [k]) ∧ k ∉ L ∨ L' = L ∧ k ∈ L) → ∀ b, Q b { s with heap := h' }) :
    wpAny (model prog w) A (setAddHashed a (.int k tk) ((intKind prog w).hash k)) Q E s := by
  obtain ⟨es, ⟨o, ep, t, ho, hx, hd, T⟩, rfl⟩ := hS
  rw [List.length_map, Array.length_toList] at hb
  have hk : (intKind prog w).is k (.int k tk) = true := intKind_is _ _ _ _
  unfold setAddHashed setAddHashedIn
  refine wpAny_holding (wpAny_bind (wpAny_setState_of ho hd T.fit ?_))
  dsimp only
  rw [byScan_of rfl (Nat.lt_of_succ_lt hb) T.el, if_pos rfl]
  unfold setAddByScan
  refine wpAny_bind (wpAny_bind (wpAny_rule (wpAny_bind (wpAny_setScan_of hk ho hd T.fit T.el ?_))))
  have mem : ∀ k', (∃ e ∈ es.toList, (intKind prog w).is k' e.2 = true) ↔ k' ∈ es.toList.map enK := fun k' => by
    rw [List.mem_map]
    constructor
    · rintro ⟨e, he, hi⟩
      obtain ⟨n, t', e1, e2⟩ := el_int T.el he
      obtain ⟨t2, e3⟩ := Value.isInt_shape hi
      rw [e1] at e3
      cases e3
      exact ⟨e, he, e2⟩
    · rintro ⟨e, he, rfl⟩
      obtain ⟨n, t', e1, e2⟩ := el_int T.el he
      exact ⟨e, he, by rw [e2, e1]; exact intKind_is _ _ _ _⟩
  cases hr : List.findIdx? (fun e => (intKind prog w).is k e.2) es.toList with
  | some j =>
    obtain ⟨hj, hp, _⟩ := List.findIdx?_eq_some_iff_getElem.mp hr
    refine wpAny_pure (wpAny_pure ?_)
    exact h s.heap _ (Heap.SameBut.refl a s.heap) ⟨es, ⟨o, ep, t, ho, hx, hd, T⟩, rfl⟩ (.inr ⟨rfl, (mem k).mp ⟨_, List.getElem_mem hj, hp⟩⟩) _
  | none =>
    have nin : k ∉ es.toList.map enK := fun z => by
      obtain ⟨e, he, hp⟩ := (mem k).mpr z
      have := List.findIdx?_eq_none_iff.mp hr e he
      rw [hp] at this
      cases this
    have T1 := lay_tab T k tk
    have p1 := layNew_perm t es ((intKind prog w).hash k) (.int k tk)
    rw [Array.toList_push] at p1
    dsimp only
    generalize layNew t es ((intKind prog w).hash k) (.int k tk) = N at T1 p1 ⊢
    obtain ⟨es1, t1, wd, gv⟩ := N
    dsimp only at T1 p1 ⊢
    have pk := p1.map enK
    rw [List.map_append] at pk
    have hz : es1.size ≤ sizeLine := by
      have := p1.length_eq
      rw [List.length_append, Array.length_toList, Array.length_toList] at this
      exact fits_of_scanBound (by rw [this]; exact hb)
    have quiet : ∀ (b : Bool) {s₁ : Shared} {Q' : Unit → Shared → Prop}, Q' () s₁ → wpAny (model prog w) A (match b with | true => rule "set.scan.the-table-gave-way" | false => pure ()) Q' E s₁ := fun b s₁ Q' q => by
      cases b
      · exact wpAny_pure q
      · exact wpAny_rule q
    /- the stores: any table of these entries -/
    have tail : ∀ t2, TabL prog w es1 t2 → ∀ c : Bool, wpAny (model prog w) A (do
        storeSet a es1 t2
        if (c && t2.tooFull) = true then do
            (match (relayAll t2 es1 (SetTable.grown es1.size)).2.2 with | true => rule "set.scan.the-table-gave-way" | false => pure ())
            storeSet a (relayAll t2 es1 (SetTable.grown es1.size)).1 (relayAll t2 es1 (SetTable.grown es1.size)).2.1
            pure (some true)
          else pure (some true)) (fun r s' => ∀ b, Q b s' ∧ r = some true) E s := fun t2 T2 c => by
      obtain ⟨g1, a1⟩ := put_at ho hx hd T2
      refine wpAny_bind (wpAny_storeSet_of ho hd ?_ hz)
      have b1 := Heap.SameBut.update s.heap a (Obj.putSet es1 t2)
      by_cases cc : (c && t2.tooFull) = true
      · rw [if_pos cc]
        have T3 := relay_tab T2 (SetTable.grown es1.size)
        have p3 := relayAll_perm t2 es1 (SetTable.grown es1.size)
        obtain ⟨_, a3⟩ := put_at g1 hx rfl T3
        have z3 : (relayAll t2 es1 (SetTable.grown es1.size)).1.size ≤ sizeLine := by
          have := p3.length_eq
          rw [Array.length_toList, Array.length_toList] at this
          rw [this]
          exact hz
        refine wpAny_bind (quiet _ (wpAny_bind (wpAny_storeSet_of g1 rfl (wpAny_pure fun b => ⟨?_, rfl⟩) z3)))
        exact h _ _ (b1.trans (Heap.SameBut.update _ a _)) ⟨_, a3, rfl⟩ (.inl ⟨(p3.map enK).trans pk, nin⟩) b
      · rw [if_neg cc]
        exact wpAny_pure fun b => ⟨h _ _ b1 ⟨es1, a1, rfl⟩ (.inl ⟨pk, nin⟩) b, rfl⟩
    have last : ∀ (r : Option Bool) (s' : Shared), (∀ b, Q b s' ∧ r = some true) → wpAny (model prog w) A (match r with | some added => pure added | none => setAddHashedIn a (.int k tk) ((intKind prog w).hash k) 99999) Q E s' := fun r s' q => by
      rw [(q true).2]
      exact wpAny_pure (q true).1
    refine wpAny_bind (quiet _ ?_)
    by_cases hp : t1.plain = true
    · rw [if_pos hp]
      refine wpAny_bind ?_
      rw [hashByValue_scannable 8 (x := .int k tk) rfl]
      refine wpAny_pure ?_
      exact wpAny_mono (tail t1 T1 (!wd)) (fun r s' q => last r s' q) fun _ _ z => z
    · rw [if_neg hp]
      refine wpAny_bind (wpAny_pure ?_)
      exact wpAny_mono (tail t1 T1 (!wd)) (fun r s' q => last r s' q) fun _ _ z => z
end
section
variable {prog : Program} {w : World} {A : Around} {R : Result → Shared → Prop} {I : Addr} {fp wr : List Addr} {G : Array GenState → Array GenState → Prop} {n : Nat} {P : Nat → Value → Prop} {St : Nat → Shared → Prop}
/-- what has been put in so far -/
structure PutL (prog : Program) (w : World) (h : Heap) (S : Addr) (val : Nat → Int) (i : Nat) (L : List Int) : Prop where
  at_ : SetL prog w h S L
  nd : L.Nodup
  le : L.length ≤ i
  mem : ∀ x, x ∈ L ↔ ∃ j, j < i ∧ val j = x
theorem PutL.stay {h h' : Heap} {S : Addr} {val : Nat → Int} {i : Nat} {L : List Int} (x : PutL prog w h S val i L) (k : ∀ o, h.get? S = some o → h'.get? S = some o) : PutL prog w h' S val i L := ⟨x.at_.stay k, x.nd, x.le, x.mem⟩
theorem PutL.next {h h' : Heap} {S : Addr} {val : Nat → Int} {i : Nat} {L L' : List Int} (x : PutL prog w h S val i L) (hs : SetL prog w h' S L') (hl : L'.Perm (L ++ [val i]) ∧ val i ∉ L ∨ L' = L ∧ val i ∈ L) : PutL prog w h' S val (i + 1) L' := by
  have step : ∀ y, (∃ j, j < i + 1 ∧ val j = y) ↔ (∃ j, j < i ∧ val j = y) ∨ val i = y := fun y => by
    constructor
    · rintro ⟨j, hj, e⟩
      by_cases z : j = i
      · subst z
        exact .inr e
      · exact .inl ⟨j, by omega, e⟩
    · rintro (⟨j, hj, e⟩ | e)
      · exact ⟨j, by omega, e⟩
      · exact ⟨i, by omega, e⟩
  rcases hl with ⟨p, hn⟩ | ⟨rfl, hm⟩
  · refine ⟨hs, ?_, ?_, fun y => ?_⟩
    · rw [p.nodup_iff, List.nodup_append]
      refine ⟨x.nd, by simp, fun a ha b hb => ?_⟩
      rw [List.mem_singleton.mp hb]
      exact fun z => hn (z ▸ ha)
    · rw [p.length_eq, List.length_append]
      exact Nat.succ_le_succ x.le
    · rw [p.mem_iff, List.mem_append, List.mem_singleton, x.mem, step]
      exact or_congr Iff.rfl eq_comm
  · refine ⟨hs, x.nd, Nat.le_succ_of_le x.le, fun y => ?_⟩
    rw [step, x.mem]
    refine ⟨.inl, fun z => ?_⟩
    rcases z with z | rfl
    · exact z
    · exact (x.mem _).mp hm
theorem fill_l (W : WalksS prog w A.in1 I fp wr G n P St) {S : Addr} (hS : S ∉ fp) {val : Nat → Int} (hv : ∀ i v, P i v → ∃ t, v = .int (val i) t) (hb : n + 1 < scanBound) :
    ∀ (k i : Nat) (s : Shared) (L : List Int), n - i = k → i ≤ n → St i s → PutL prog w s.heap S val i L →
      (∀ s' L', Moved (S :: wr) G s s' → PutL prog w s'.heap S val n L' → R (.ok (.ret .none)) s') →
      codeAny (model prog w) A (.builtin "set.update.loop" ⟨[.ref S, .ref I], []⟩) R s := by
  have hw : S ∉ wr := fun z => hS (W.sub _ z)
  have up : ∀ b ∈ wr, b ∈ S :: wr := fun b hb => List.mem_cons_of_mem _ hb
  intro k
  induction k with
  | zero =>
    intro i s L hk hi st X q
    obtain rfl : i = n := by omega
    refine codeAny_builtin F.entry_set_update_loop ?_
    rw [Around.under_plainId F.plain_set_update_loop _]
    refine wpAny_bind (m := pyNext (.ref I)) (W.done s _ _ st fun s' mv => ?_)
    exact wpAny_pure (q s' L (mv.mono up) (X.stay fun o e => mv.heap S o hw e))
  | succ k ih =>
    intro i s L hk hi st X q
    refine codeAny_builtin F.entry_set_update_loop ?_
    rw [Around.under_plainId F.plain_set_update_loop _]
    refine wpAny_bind (m := pyNext (.ref I)) (W.item i s _ _ (by omega) st fun v s1 hP st1 mv => ?_)
    obtain ⟨t, rfl⟩ := hv i v hP
    have X1 := X.stay fun o e => mv.heap S o hw e
    refine wpAny_bind (m := holding [Value.int (val i) t] (setAdd S (.int (val i) t))) (wpAny_holding ?_)
    unfold setAdd
    refine wpAny_holding (wpAny_bind ((intKind prog w).pyHash (k := val i) (intKind_is _ _ _ _) ?_))
    refine add_l (s := { s1 with toks := s1.toks + 1 }) X1.at_ (by have := X1.le; omega) fun h' L' sb hs' hl _ => ?_
    have X2 := X1.next hs' hl
    refine wpAny_pure ⟨plainId_quiet F.plain_set_update_loop _, ih (i + 1) { s1 with heap := h', toks := s1.toks + 1 } L' (by omega) (by omega) (W.frame _ s1 _ _ st1 (Nat.le_succ _) fun b hb' o e => ?_) X2 fun s'' L'' mv2 X3 => ?_⟩
    · rw [sb.2 b fun z => hS (z ▸ hb')]
      exact e
    · refine q s'' L'' (Moved.trans W.gtrans ((mv.mono up).then_heap (Nat.le_succ _) fun b o hb' e => ?_) mv2) X3
      rw [sb.2 b fun z => hb' (z ▸ List.mem_cons_self)]
      exact e
end
section
variable {prog : Program} {w : World} {A : Around} {E : Value → Shared → Prop} {s : Shared}
/-- a new set, and who leads it -/
theorem new_l (x : Value) {Q : Value → Shared → Prop} (h : Q (.ref s.heap.objs.size) { s with heap := s.heap.push (set0 (!(w.params.followText "set-order"))) }) :
    codeAny (model prog w) A (.call (.builtin "set.__new__") ⟨[.type "set", x], []⟩) (wants Q E) s := by
  refine codeAny_of_tree (wpAny_bind (m := checkBuiltinCall "set.__new__" ⟨[.type "set", x], []⟩) (wpAny_of_eq (F.newCall_set_1 x) (wpAny_pure ⟨plainId_quiet F.plain_set_new _, codeAny_builtin F.entry_set_new ?_⟩)))
  rw [Around.under_plainId F.plain_set_new _]
  have f := sub_set_self
  obtain ⟨hp, g, d, tk, os⟩ := s
  unfold Builtin.«set.__new__» Builtin.Frozenset.newClass
  dsimp only
  wp_walk
  refine wpAny_askSetting (wpAny_pure (wpAny_bind (wpAny_alloc (wpAny_pure (wpAny_pure h)))))
/-- set(x), by what its __init__ does -/
theorem set_call_l {x : Value} {Q : Value → Shared → Prop} (h : wpAny (model prog w) A.in1.in1 (Builtin.«set.__init__» ⟨[.ref s.heap.objs.size, x], []⟩) (fun fin s' => fin = .done (.ret .none) ∧ Q (.ref s.heap.objs.size) s') E { s with heap := s.heap.push (set0 (!(w.params.followText "set-order"))) }) :
    wpAny (model prog w) A (call (.type "set") [x]) Q E s := by
  obtain ⟨c, tl, m1⟩ := PySem.F.called_set.mro
  have m2 := PySem.F.called_set.made; have m3 := PySem.F.called_set.sub; have m4 := PySem.F.called_set.notType; have m5 := PySem.F.called_set.canCreate
  have m6 := PySem.F.typeCall_set_1 x
  refine wpAny_call (codeAny_of_tree (show wpAny _ _ (callAny (.type "set") _) _ _ _ from wpAny_pure ⟨Code.quiet_builtin _ (by decide +kernel), codeAny_builtin PySem.F.entry_type_call ?_⟩))
  rw [Around.under_plain (weight_type_call_type "set" [x] []) rfl]
  repeat (any_goals (first | assumption | wp_step))
  refine codeAny_mono (new_l x (E := E) (Q := fun ob s1 => ob = .ref s.heap.objs.size ∧ s1 = { s with heap := s.heap.push (set0 (!(w.params.followText "set-order"))) }) ⟨rfl, rfl⟩) fun r s1 hr => ?_
  match r, hr with
  | .error e, hr => exact hr
  | .ok (.ret ob), hr =>
    obtain ⟨rfl, rfl⟩ := hr
    have hT : Shared.TypeIs { s with heap := s.heap.push (set0 (!(w.params.followText "set-order"))) } (.ref s.heap.objs.size) "set" := ⟨set0 (!(w.params.followText "set-order")), Heap.get?_push_size _ rfl, rfl⟩
    have m7 := PySem.F.called_set.init.lookup; have m8 := PySem.F.called_set.init.bind (.ref s.heap.objs.size)
    repeat (any_goals (first | assumption | wp_step))
    refine codeAny_mono (codeAny_call_builtin (R := wants (fun r s2 => r = .none ∧ Q (.ref s.heap.objs.size) s2) E) PySem.F.called_set.init.plain PySem.F.entry_set_init (check_set_init_1 hT ?_)) fun r2 s2 hr2 => ?_
    · refine wpAny_mono h (fun fin s' hf => ?_) fun _ _ h' => h'
      obtain ⟨rfl, hq⟩ := hf
      exact ⟨rfl, hq⟩
    · match r2, hr2 with
      | .error e, hr2 => exact hr2
      | .ok (.ret v), hr2 =>
        obtain ⟨rfl, hq⟩ := hr2
        repeat (any_goals (first | assumption | wp_step))
      | .ok .next, hr2 => exact hr2.elim
      | .ok .brk, hr2 => exact hr2.elim
      | .ok .cont, hr2 => exact hr2.elim
  | .ok .next, hr => exact hr.elim
  | .ok .brk, hr => exact hr.elim
  | .ok .cont, hr => exact hr.elim
/-- set(list of numbers), with its table -/
theorem set_list_l {l : Addr} {items : Array Value} {ns : List Int} {Q : Value → Shared → Prop} (hh : A.handled = none) (hl : s.heap.IsList l items) (hi : IntsAre items.toList ns) (hb : items.size + 1 < scanBound)
    (h : ∀ (h' : Heap) (tk : Nat) (L : List Int), SetL prog w h' s.heap.objs.size L → L.Nodup → (∀ x, x ∈ L ↔ x ∈ ns) → (∀ b o, s.heap.get? b = some o → h'.get? b = some o) → Q (.ref s.heap.objs.size) { s with heap := h', toks := tk }) :
    wpAny (model prog w) A (call (.type "set") [.ref l]) Q E s := by
  refine set_call_l ?_
  generalize hled : (!(w.params.followText "set-order")) = led
  have hlt : l < s.heap.objs.size := by
    obtain ⟨o, ho, _⟩ := hl
    exact Heap.lt_size ho
  have hl1 : (s.heap.push (set0 led)).IsList l items := hl.push _
  have hS : (s.heap.push (set0 led)).get? s.heap.objs.size = some (set0 led) := Heap.get?_push_size _ rfl
  have hR : SetL prog w (s.heap.push (set0 led)) s.heap.objs.size [] := ⟨#[], ⟨set0 led, 0, _, hS, ⟨rfl, rfl, rfl⟩, rfl, ⟨fun e he => by simp at he, rfl, fresh_rz 0 0 led, hled.symm⟩⟩, rfl⟩
  have f1 := PySem.F.sub_list_set; have f2 := PySem.F.sub_list_frozenset
  have f3 : (Value.type "list" == Value.type "dict") = false := by decide
  obtain ⟨o, ho, hc, nl, hd⟩ := id hl1
  obtain ⟨oc, od, odt, osl⟩ := o
  simp only at hc hd
  subst hc hd
  unfold Builtin.«set.__init__» noKeywords Builtin.Frozenset.updateFrom
  generalize hI : pyIter = I0
  wp_walk
  subst hI
  refine wpAny_pyIter_list hl1 (wpAny_bind (wpAny_runValue ?_))
  have e1 : (s.heap.push (set0 led)).objs.size = s.heap.objs.size + 1 := Heap.size_push ..
  have nf : s.heap.objs.size ∉ [(s.heap.push (set0 led)).objs.size, l] := by
    rw [e1]
    intro z
    rcases List.mem_cons.mp z with z | z
    · exact Nat.ne_of_lt (Nat.lt_succ_self _) z
    · exact Nat.ne_of_gt hlt (List.mem_singleton.mp z)
  have nI : l ≠ (s.heap.push (set0 led)).objs.size := by rw [e1]; exact Nat.ne_of_lt (Nat.lt_succ_of_lt hlt)
  have vals : ∀ (i : Nat) (v : Value), items[i]? = some v → ∃ t, v = .int ((fun i => ns.getD i 0) i) t := fun i v hv => IntsAre.int_at hi i v (by rw [Array.getElem?_toList]; exact hv)
  have hlen := IntsAre.length hi
  rw [Array.length_toList] at hlen
  refine fill_l ((Walks.list (show A.in1.in1.in1.handled = none by simp [hh]) _ l nI items).toS) nf vals hb (items.size - 0) 0 _ [] rfl (Nat.zero_le _) ⟨⟨_, Heap.get?_push_size _ rfl, rfl, rfl⟩, hl1.push _⟩ ⟨hR.stay fun o e => Heap.get?_push_of_some _ e, List.nodup_nil, Nat.zero_le _, fun x => ⟨fun z => absurd z (List.not_mem_nil), fun ⟨j, z, _⟩ => absurd z (Nat.not_lt_zero j)⟩⟩ ?_
  intro s' L' hm X
  obtain ⟨h', g', d', tk', os'⟩ := s'
  obtain rfl : g' = s.gens := hm.gens
  obtain rfl : d' = s.drawn := hm.drawn
  obtain rfl : os' = s.os := hm.os
  refine wpAny_pure (wpAny_pure ⟨rfl, h h' tk' L' X.at_ X.nd (fun x => ?_) fun b o hbo => ?_⟩)
  · rw [X.mem]
    constructor
    · rintro ⟨j, hj, rfl⟩
      have : j < ns.length := by omega
      simp [this]
    · intro hx
      obtain ⟨j, hj, rfl⟩ := List.mem_iff_getElem.mp hx
      exact ⟨j, by omega, by simp [hj]⟩
  · have b1 := Heap.lt_size hbo
    refine hm.heap b o (fun z => ?_) (Heap.get?_push_of_some _ (Heap.get?_push_of_some _ hbo))
    rw [e1] at z
    rcases List.mem_cons.mp z with z | z
    · exact Nat.ne_of_lt b1 z
    · exact Nat.ne_of_lt (Nat.lt_succ_of_lt b1) (List.mem_singleton.mp z)
end
end L2
/-! EvSi: a set of numbers walked: its iterator by text, by drawn places, by rising places; sorted(set). Behind EvSl. -/
namespace L2
open PySem PySem.Spec PyProof.Rows
theorem slot_si_next : Slot "set_iterator" "__next__" "set_iterator.__next__" :=
  .of (owner := "set_iterator") (n := "__next__") (by rw [typeLookup_type, builtinLookup_eq_fast]; kernel_rfl) (by decide +kernel) (by decide +kernel) (by decide +kernel)
    (by first | exact .inl (by decide +kernel) | exact .inr (by decide +kernel)) (by rw [isSubtype_type]; kernel_rfl)
theorem entry_si_next : entryFor table "set_iterator.__next__" = some Builtin.«set_iterator.__next__» := entryFor_of_tree (by kernel_rfl)
theorem args_si_next (a : Value) : argsOk "set_iterator.__next__" ⟨[a], []⟩ := by unfold argsOk; kernel_rfl
theorem entry_set_iter : entryFor table "set.__iter__" = some Builtin.«frozenset.__iter__» := entryFor_alias (id' := "frozenset.__iter__") (by kernel_rfl) rfl (by decide +kernel) (by kernel_rfl)
section
variable {prog : Program} {w : World} {A : Around} {E : Value → Shared → Prop} {s : Shared} {a I T : Addr}
theorem wpAny_chosen {M : Model} {src : Source} {n : Nat} {Q : Nat → Shared → Prop} (hn : n ≠ 0) (h : ∀ i d, i < n → Q i { s with drawn := d }) : wpAny M A (choose src n) Q E s := fun Γ p _ => by
  unfold choose
  rw [Sem.wp_choose]
  exact ⟨hn, by rw [Sem.wp_pure]; exact h _ _ (Nat.mod_lt _ (Nat.pos_of_ne_zero hn))⟩
theorem draw_perm {M : Model} {α : Type} : ∀ (n : Nat) (xs : List α) (s : Shared) (Q : List α → Shared → Prop), xs.length ≤ n → (∀ ys d, ys.Perm xs → Q ys { s with drawn := d }) → wpAny M A (drawOrder n xs) Q E s
  | 0, xs, s, Q, hl, h => by
    obtain rfl : xs = [] := List.length_eq_zero_iff.mp (Nat.le_zero.mp hl)
    unfold drawOrder
    exact wpAny_pure (h [] s.drawn (List.Perm.refl _))
  | n + 1, [], s, Q, _, h => by
    unfold drawOrder
    exact wpAny_pure (h [] s.drawn (List.Perm.refl _))
  | n + 1, x :: r, s, Q, hl, h => by
    unfold drawOrder
    refine wpAny_bind (wpAny_chosen (by simp) fun i d hi => ?_)
    rw [List.getElem?_eq_getElem hi]
    dsimp only
    refine wpAny_bind (draw_perm n _ _ _ (by rw [List.length_eraseIdx_of_lt hi]; simp at hl ⊢; omega) fun ys d' p => wpAny_pure ?_)
    refine h _ d' ?_
    refine (p.cons _).trans ?_
    rw [List.eraseIdx_eq_take_drop_succ]
    have e : x :: r = (x :: r).take i ++ (x :: r)[i] :: (x :: r).drop (i + 1) := by
      conv => lhs; rw [← List.take_append_drop i (x :: r), List.drop_eq_getElem_cons hi]
    have p2 := (List.perm_middle (a := (x :: r)[i]) (l₁ := (x :: r).take i) (l₂ := (x :: r).drop (i + 1))).symm
    rw [← e] at p2
    exact p2
/-- the iterator -/
abbrev siObj (first : Value) (i : Nat) (a : Addr) (n ep : Nat) : Obj := { cls := .type "set_iterator", data := .fields #[first, .int i 0, .ref a, .int n 0, .int ep 0] }
/-- in which order it goes -/
inductive Mode (w : World) (h : Heap) (a T : Addr) (es : Array (Int × Value)) (ep : Nat) (t : SetTable) (i : Nat) : Value → List Value → Prop
  | text : w.params.followText "set-order" = true → Mode w h a T es ep t i (.int 0 0) ((pickOrder (w.params.setOrder a ep) es).toList.map (·.2))
  | drawn {ps : List Nat} {n' : Nat} : h.get? T = some { cls := .type "tuple", data := .seq (ps.map fun p : Nat => (.int p 0 : Value)).toArray n' } → ps.Perm (List.range es.size) → Mode w h a T es ep t i (.ref T) (ps.map fun p => (es.getD p (0, .none)).2)
  | place {slot : Nat} : w.params.followText "set-order" = false → (t.plain = true ∨ es.size ≤ 1) → SetTable.below t.place slot = i → Mode w h a T es ep t i (.int slot 0) (es.toList.map (·.2))
def SiAt (prog : Program) (w : World) (h : Heap) (I a T : Addr) (es : Array (Int × Value)) (ord : List Value) (i : Nat) : Prop :=
  ∃ o ep t first, h.get? a = some o ∧ o.ExactSet ∧ o.data = .set es ep t ∧ TabL prog w es t ∧ h.get? I = some (siObj first i a es.size ep) ∧ Mode w h a T es ep t i first ord
theorem Mode.perm {h : Heap} {es : Array (Int × Value)} {ep : Nat} {t : SetTable} {i : Nat} {first : Value} {ord : List Value} (m : Mode w h a T es ep t i first ord) : ord.Perm (es.toList.map (·.2)) := by
  cases m with
  | text _ => exact (pick_perm _ es).map _
  | @drawn ps _ _ p =>
    refine (p.map _).trans (List.Perm.of_eq ?_)
    apply List.ext_getElem
    · simp
    · intro j h1 h2
      simp at h1 h2
      simp [h1]
  | place _ _ _ => exact List.Perm.refl _
theorem below_zero {xs : Array Nat} (hs : xs.toList.Pairwise (· < ·)) : SetTable.below xs 0 = 0 := by
  obtain ⟨b1, b2, b3⟩ := below_ok hs 0
  rcases Nat.eq_zero_or_pos (SetTable.below xs 0) with z | z
  · exact z
  · exact absurd (b2 0 (by omega) z) (Nat.not_lt_zero _)
theorem below_next {xs : Array Nat} (hs : xs.toList.Pairwise (· < ·)) {i : Nat} (hi : i < xs.size) : SetTable.below xs (xs[i] + 1) = i + 1 := by
  obtain ⟨b1, b2, b3⟩ := below_ok hs (xs[i] + 1)
  have mono : ∀ j k (hj : j < xs.size) (hk : k < xs.size), j < k → xs[j] < xs[k] := fun j k hj hk hjk => by
    have := (List.pairwise_iff_getElem.mp hs) j k (by simpa using hj) (by simpa using hk) hjk
    simpa using this
  rcases Nat.lt_trichotomy (SetTable.below xs (xs[i] + 1)) (i + 1) with z | z | z
  · have := b3 i hi (by omega)
    omega
  · exact z
  · have h1 : i + 1 < xs.size := by omega
    have := b2 (i + 1) h1 z
    have := mono i (i + 1) hi h1 (Nat.lt_succ_self i)
    omega
theorem iter_l {es : Array (Int × Value)} {Q : Value → Shared → Prop} (hS : AtL prog w s.heap a es) (hz : es.size ≤ sizeLine)
    (h : ∀ (h' : Heap) (d : Drawn) (I T : Addr) (ord : List Value), SiAt prog w h' I a T es ord 0 → ord.Perm (es.toList.map (·.2)) → s.heap.objs.size ≤ I → I < h'.objs.size → a ≠ I → T ≠ I → (T = a ∨ s.heap.objs.size ≤ T) → (∀ b o, s.heap.get? b = some o → h'.get? b = some o) → Q (.ref I) { s with heap := h', drawn := d }) :
    wpAny (model prog w) A (pyIter (.ref a)) Q E s := by
  obtain ⟨o, ep, t, ho, hx, hd, TB⟩ := hS
  have hT : s.TypeIs (.ref a) "set" := ⟨o, ho, hx.1⟩
  have alt := Heap.lt_size ho
  refine wpAny_pyIter_slot hT PySem.F.slot_set_iter (wpAny_call_entry PySem.F.slot_set_iter hT entry_set_iter ?_ (PySem.F.args_set_iter_1 _))
  have start : ∀ (h' : Heap) (d : Drawn) (T : Addr) (first : Value) (ord : List Value), (∀ b o, s.heap.get? b = some o → h'.get? b = some o) → s.heap.objs.size ≤ h'.objs.size → T < h'.objs.size → (T = a ∨ s.heap.objs.size ≤ T) → (∀ h'', (∀ b o, h'.get? b = some o → h''.get? b = some o) → Mode w h'' a T es ep t 0 first ord) →
      wpAny (model prog w) A.in1 (do ret (← newFields "set_iterator" [first, rawInt 0, .ref a, rawInt es.size, rawInt (← setEpoch a)])) (fun f s' => ∃ v, f = .done (.ret v) ∧ ∃ T' r, s'.TypeIs v T' ∧ typeLookup (.type T') "__next__" = pure (some r) ∧ Q v s') E { s with heap := h', drawn := d } := fun h' d T first ord kp hsz hTl hTc md => by
    refine wpAny_bind (wpAny_setEpoch_of (s := { s with heap := h', drawn := d }) (kp a o ho) hd TB.fit ?_)
    refine wpAny_bind (wpAny_newObj_type (wpAny_pure ⟨_, rfl, "set_iterator", _, ⟨_, Heap.get?_push_size _ rfl, rfl⟩, slot_si_next.lookup, ?_⟩))
    have kp2 : ∀ b o', h'.get? b = some o' → (h'.push (siObj first 0 a es.size ep)).get? b = some o' := fun b o' e => Heap.get?_push_of_some _ e
    have z2 : (h'.push (siObj first 0 a es.size ep)).objs.size = h'.objs.size + 1 := Heap.size_push ..
    refine h _ d h'.objs.size T ord ⟨o, ep, t, first, kp2 _ _ (kp a o ho), hx, hd, TB, Heap.get?_push_size _ rfl, md _ kp2⟩ (md _ kp2).perm hsz (Nat.lt_of_lt_of_eq (Nat.lt_succ_self _) z2.symm) (Nat.ne_of_lt (Nat.lt_of_lt_of_le alt hsz)) (Nat.ne_of_lt hTl) hTc fun b o' e => kp2 b o' (kp b o' e)
  refine wpAny_bind (m := Builtin.Frozenset.slot0 "__iter__" ⟨[.ref a], []⟩) ?_
  unfold Builtin.Frozenset.slot0 slotArgs
  refine wpAny_bind (wpAny_pure (wpAny_pure ?_))
  refine wpAny_bind (m := Builtin.Frozenset.sizeOf a) (wpAny_bind (wpAny_setEntries_of ho hd TB.fit (wpAny_pure ?_)))
  refine wpAny_bind (m := setDrawn a) ?_
  unfold setDrawn setsByText
  refine wpAny_bind (wpAny_setState_of ho hd TB.fit ?_)
  dsimp only
  refine wpAny_bind (wpAny_bind (wpAny_askSetting (wpAny_pure (wpAny_pure ?_))))
  show wpAny _ _ (if (!(w.params.followText "set-order") && (!t.plain && decide (es.size > 1))) = true then _ else _) _ _ _
  by_cases c : (!(w.params.followText "set-order") && (!t.plain && decide (es.size > 1))) = true
  · rw [if_pos c]
    refine wpAny_bind (draw_perm _ _ _ _ (by simp) fun ps d p => ?_)
    have pl : ps.length ≤ sizeLine := by
      rw [p.length_eq, List.length_range]
      exact hz
    refine wpAny_bind (wpAny_newTuple ?_ (by rw [List.length_map]; exact pl))
    refine start _ d s.heap.objs.size _ _ (fun b o' e => Heap.get?_push_of_some _ e) ?_ ?_ (.inr (Nat.le_refl _)) fun h'' k => .drawn (k _ _ (Heap.get?_push_size _ rfl)) p
    · rw [Heap.size_push]
      exact Nat.le_succ _
    · rw [Heap.size_push]
      exact Nat.lt_succ_self _
  · rw [if_neg c]
    refine wpAny_bind (wpAny_pure ?_)
    by_cases c1 : w.params.followText "set-order" = true
    · exact start s.heap s.drawn a _ _ (fun _ _ e => e) (Nat.le_refl _) alt (.inl rfl) fun h'' _ => .text c1
    · refine start s.heap s.drawn a _ _ (fun _ _ e => e) (Nat.le_refl _) alt (.inl rfl) fun h'' _ => .place (slot := 0) (by simpa using c1) ?_ (below_zero TB.rz.up)
      rw [Bool.not_eq_true] at c1
      rw [c1] at c
      by_cases c2 : t.plain = true
      · exact .inl c2
      · rw [Bool.not_eq_true] at c2
        rw [c2] at c
        simp at c
        exact .inr c
theorem setWalk_text {es : Array (Int × Value)} {o : Obj} {ep : Nat} {t : SetTable} {Q : Array (Int × Value) → Shared → Prop} (ho : s.heap.get? a = some o) (hd : o.data = .set es ep t) (hf : t.fits es.size = true) (c : w.params.followText "set-order" = true) (h : Q (pickOrder (w.params.setOrder a ep) es) s) : wpAny (model prog w) A (setWalk a) Q E s := by
  unfold setWalk setsByText
  refine wpAny_bind (wpAny_setState_of ho hd hf ?_)
  dsimp only
  refine wpAny_bind (wpAny_bind (wpAny_askSetting (wpAny_pure ?_)))
  rw [if_pos (show (model prog w).w.params.followText "set-order" = true from c)]
  exact wpAny_bind (wpAny_askSetting (wpAny_pure h))
/-- by its text -/
theorem setNext_text {es : Array (Int × Value)} {o : Obj} {ep slot i : Nat} {t : SetTable} {Q : Option (Value × Nat) → Shared → Prop} (ho : s.heap.get? a = some o) (hd : o.data = .set es ep t) (hf : t.fits es.size = true) (c : w.params.followText "set-order" = true)
    (h : Q (((pickOrder (w.params.setOrder a ep) es)[i]?).map fun e => (e.2, slot)) s) : wpAny (model prog w) A (setNext a slot i ep) Q E s := by
  unfold setNext setsByText
  refine wpAny_bind (wpAny_setState_of ho hd hf ?_)
  dsimp only
  refine wpAny_bind (wpAny_bind (wpAny_askSetting (wpAny_pure ?_)))
  rw [if_pos (show (model prog w).w.params.followText "set-order" = true from c)]
  rw [if_neg (by simp)]
  exact wpAny_bind (setWalk_text ho hd hf c (wpAny_pure h))
/-- by rising places -/
theorem setNext_place {es : Array (Int × Value)} {o : Obj} {ep slot i : Nat} {t : SetTable} {Q : Option (Value × Nat) → Shared → Prop} (ho : s.heap.get? a = some o) (hd : o.data = .set es ep t) (TB : TabL prog w es t) (c : w.params.followText "set-order" = false) (cp : t.plain = true ∨ es.size ≤ 1)
    (h : Q (match es[SetTable.below t.place slot]?, t.place[SetTable.below t.place slot]? with | some (_, x), some j => some (x, j + 1) | _, _ => none) s) : wpAny (model prog w) A (setNext a slot i ep) Q E s := by
  unfold setNext setsByText
  refine wpAny_bind (wpAny_setState_of ho hd TB.fit ?_)
  dsimp only
  refine wpAny_bind (wpAny_bind (wpAny_askSetting (wpAny_pure ?_)))
  rw [if_neg (show ¬ (model prog w).w.params.followText "set-order" = true from fun z => by rw [show (model prog w).w.params.followText "set-order" = false from c] at z; cases z)]
  have nd : (!t.plain && decide (es.size > 1)) = false := by
    rcases cp with z | z
    · rw [z]; rfl
    · rw [decide_eq_false (by omega)]; simp
  show wpAny _ _ (if (!t.plain && decide (es.size > 1)) = true then _ else _) _ _ _
  rw [if_neg (show ¬ (!t.plain && decide (es.size > 1)) = true from fun z => by rw [nd] at z; cases z)]
  have ld : (!t.led && !es.isEmpty) = false := by rw [TB.led, c]; rfl
  refine wpAny_bind (m := if (!t.led && !es.isEmpty) = true then unsupported "set:maker-not-led" else pure ()) ?_
  rw [if_neg (by rw [ld]; exact Bool.false_ne_true)]
  exact wpAny_pure (wpAny_pure h)
theorem setNext_drawn {es : Array (Int × Value)} {o : Obj} {ep p : Nat} {t : SetTable} {e : Int × Value} {Q : Value → Shared → Prop} (ho : s.heap.get? a = some o) (hd : o.data = .set es ep t) (hf : t.fits es.size = true) (he : es[p]? = some e) (h : Q e.2 s) : wpAny (model prog w) A (setNextDrawn a p ep) Q E s := by
  unfold setNextDrawn
  refine wpAny_bind (wpAny_setState_of ho hd hf ?_)
  dsimp only
  rw [if_neg (by simp), he]
  exact wpAny_pure h
theorem next_item {es : Array (Int × Value)} {ord : List Value} {i : Nat} {Q : Option Value → Shared → Prop} (X : SiAt prog w s.heap I a T es ord i) (hi : i < es.size) (na : a ≠ I) (nT : T ≠ I)
    (h : ∀ v h', ord[i]? = some v → SiAt prog w h' I a T es ord (i + 1) → Heap.SameBut I s.heap h' → Q (some v) { s with heap := h' }) : wpAny (model prog w) A (pyNext (.ref I)) Q E s := by
  obtain ⟨o, ep, t, first, ho, hx, hd, TB, hI, md⟩ := X
  have hT : s.TypeIs (.ref I) "set_iterator" := ⟨_, hI, rfl⟩
  unfold pyNext
  refine wpAny_bind (wpAny_attempt (wpAny_callSpecial?_slot (name := Str.ofString "__next__") hT slot_si_next (wpAny_call_entry slot_si_next hT entry_si_next ?_ (args_si_next _))))
  unfold Builtin.«set_iterator.__next__» slotArgs
  refine wpAny_bind (wpAny_pure ?_)
  refine wpAny_bind (wpAny_fieldsOf hI rfl ?_)
  dsimp only
  refine wpAny_bind (wpAny_setEntries_of ho hd TB.fit ?_)
  rw [if_neg (by simp)]
  have hpl : t.place.size = es.size := by
    have := TB.fit
    simp only [SetTable.fits, Bool.and_eq_true, beq_iff_eq] at this
    exact this.1
  have two : ∀ (f : Value) (next : Nat) (v : Value) (R : Fin → Shared → Prop) (E' : Value → Shared → Prop), ord[i]? = some v → first = f → (∀ h', Heap.SameBut I s.heap h' → Mode w h' a T es ep t (i + 1) (.int next 0) ord) → (∀ h', SiAt prog w h' I a T es ord (i + 1) → Heap.SameBut I s.heap h' → R (.done (.ret v)) { s with heap := h' }) →
      wpAny (model prog w) A.in1 (do setField (.ref I) 0 (rawInt next); setField (.ref I) 1 (rawInt ((i : Int) + 1)); ret v) R E' s := fun f next v R E' hv hf md' q => by
    have g1 : (s.heap.update I (Obj.mapFields (·.setIfInBounds 0 (rawInt next)))).get? I = some (siObj (.int next 0) i a es.size ep) := Heap.get?_update_self _ hI rfl
    refine wpAny_bind (wpAny_setField hI rfl (by simp) ?_)
    have g2 : ((s.heap.update I (Obj.mapFields (·.setIfInBounds 0 (rawInt next)))).update I (Obj.mapFields (·.setIfInBounds 1 (rawInt ((i : Int) + 1))))).get? I = some (siObj (.int next 0) (i + 1) a es.size ep) := Heap.get?_update_self _ g1 rfl
    refine wpAny_bind (wpAny_setField g1 rfl (by simp) (wpAny_pure ?_))
    have sb := (Heap.SameBut.update s.heap I (Obj.mapFields (·.setIfInBounds 0 (rawInt next)))).trans (Heap.SameBut.update _ I (Obj.mapFields (·.setIfInBounds 1 (rawInt ((i : Int) + 1)))))
    exact q _ ⟨o, ep, t, _, (sb.2 a na).trans ho, hx, hd, TB, g2, md' _ sb⟩ sb
  have fin : ∀ v h', ord[i]? = some v → SiAt prog w h' I a T es ord (i + 1) → Heap.SameBut I s.heap h' → ∃ v', (Fin.done (.ret v) = .done (.ret v')) ∧ wpAny (model prog w) A (pure (some v')) Q E { s with heap := h' } := fun v h' hv X sb => ⟨v, rfl, wpAny_pure (h v h' hv X sb)⟩
  cases md with
  | text c =>
    have hl : i < (pickOrder (w.params.setOrder a ep) es).size := by
      have := (pick_perm (w.params.setOrder a ep) es).length_eq
      rw [Array.length_toList, Array.length_toList] at this
      omega
    show wpAny _ _ (setNext a (Int.toNat ((0 : Nat) : Int)) (Int.toNat ((i : Nat) : Int)) (Int.toNat ((ep : Nat) : Int)) >>= _) _ _ _
    rw [Int.toNat_natCast, Int.toNat_natCast, Int.toNat_natCast]
    refine wpAny_bind (setNext_text ho hd TB.fit c ?_)
    rw [Array.getElem?_eq_getElem hl]
    have hv : ((pickOrder (w.params.setOrder a ep) es).toList.map (·.2))[i]? = some (pickOrder (w.params.setOrder a ep) es)[i].2 := by
      rw [List.getElem?_map, Array.getElem?_toList, Array.getElem?_eq_getElem hl]
      rfl
    exact two (.int 0 0) 0 _ (fun fin s' => ∃ v', fin = .done (.ret v') ∧ wpAny (model prog w) A (pure (some v')) Q E s') _ hv rfl (fun h' _ => .text c) fun h' X sb => fin _ h' hv X sb
  | @drawn ps n' hTt p =>
    have hl : i < ps.length := by rw [p.length_eq, List.length_range]; exact hi
    have hp : ps[i] < es.size := List.mem_range.mp (p.mem_iff.mp (List.getElem_mem hl))
    have hv : (ps.map fun p => (es.getD p (0, .none)).2)[i]? = some es[ps[i]].2 := by
      rw [List.getElem?_map, List.getElem?_eq_getElem hl]
      simp [hp]
    show wpAny _ _ (seqItems? (.ref T) >>= _) _ _ _
    refine wpAny_bind (wpAny_seqItems hTt rfl ?_)
    have hi' : (ps.map fun p : Nat => (.int p 0 : Value)).toArray[Int.toNat ((i : Nat) : Int)]? = some (.int (ps[i] : Nat) 0) := by
      rw [Int.toNat_natCast]
      simp [hl]
    dsimp only
    rw [hi']
    show wpAny _ _ (setNextDrawn a (Int.toNat ((ps[i] : Nat) : Int)) (Int.toNat ((ep : Nat) : Int)) >>= _) _ _ _
    rw [Int.toNat_natCast, Int.toNat_natCast]
    refine wpAny_bind (setNext_drawn ho hd TB.fit (Array.getElem?_eq_getElem hp) ?_)
    have g2 : (s.heap.update I (Obj.mapFields (·.setIfInBounds 1 (rawInt ((i : Int) + 1))))).get? I = some (siObj (.ref T) (i + 1) a es.size ep) := Heap.get?_update_self _ hI rfl
    refine wpAny_bind (wpAny_setField hI rfl (by simp) (wpAny_pure ?_))
    have sb := Heap.SameBut.update s.heap I (Obj.mapFields (·.setIfInBounds 1 (rawInt ((i : Int) + 1))))
    exact fin _ _ hv ⟨o, ep, t, _, (sb.2 a na).trans ho, hx, hd, TB, g2, .drawn ((sb.2 T nT).trans hTt) p⟩ sb
  | @place slot c cp hb =>
    have hip : i < t.place.size := by omega
    show wpAny _ _ (setNext a (Int.toNat ((slot : Nat) : Int)) (Int.toNat ((i : Nat) : Int)) (Int.toNat ((ep : Nat) : Int)) >>= _) _ _ _
    rw [Int.toNat_natCast, Int.toNat_natCast, Int.toNat_natCast]
    refine wpAny_bind (setNext_place ho hd TB c cp ?_)
    rw [hb, Array.getElem?_eq_getElem hi, Array.getElem?_eq_getElem hip]
    have hv : (es.toList.map (·.2))[i]? = some es[i].2 := by
      rw [List.getElem?_map, Array.getElem?_toList, Array.getElem?_eq_getElem hi]
      rfl
    exact two (.int slot 0) (t.place[i] + 1) _ (fun fin s' => ∃ v', fin = .done (.ret v') ∧ wpAny (model prog w) A (pure (some v')) Q E s') _ hv rfl (fun h' _ => .place c cp (below_next TB.rz.up hip)) fun h' X sb => fin _ h' hv X sb
/-- the end of the walk -/
theorem next_end {es : Array (Int × Value)} {ord : List Value} {Q : Option Value → Shared → Prop} (hh : A.handled = none) (X : SiAt prog w s.heap I a T es ord es.size)
    (h : ∀ h', Heap.ExtBut I s.heap h' → Q none { s with heap := h' }) : wpAny (model prog w) A (pyNext (.ref I)) Q E s := by
  obtain ⟨o, ep, t, first, ho, hx, hd, TB, hI, md⟩ := X
  have hT : s.TypeIs (.ref I) "set_iterator" := ⟨_, hI, rfl⟩
  unfold pyNext
  refine wpAny_bind (wpAny_attempt (wpAny_callSpecial?_slot (name := Str.ofString "__next__") hT slot_si_next (wpAny_call_entry slot_si_next hT entry_si_next ?_ (args_si_next _))))
  unfold Builtin.«set_iterator.__next__» slotArgs
  refine wpAny_bind (wpAny_pure ?_)
  refine wpAny_bind (wpAny_fieldsOf hI rfl ?_)
  dsimp only
  refine wpAny_bind (wpAny_setEntries_of ho hd TB.fit ?_)
  rw [if_neg (by simp)]
  have hpl : t.place.size = es.size := by
    have := TB.fit
    simp only [SetTable.fits, Bool.and_eq_true, beq_iff_eq] at this
    exact this.1
  /- the iterator lets go of the set and ends -/
  have stop : ∀ (s1 : Shared) (f0 : Value), s1.heap.get? I = some (siObj f0 es.size a es.size ep) → (∀ h', Heap.ExtBut I s1.heap h' → Q none { s1 with heap := h' }) →
      wpAny (model prog w) A.in1 (do setField (.ref I) 2 .none; raiseNew (← newExc (.type "StopIteration") []) : Sem Fin) (fun f s' => ∃ v, f = .done (.ret v) ∧ wpAny (model prog w) A (pure (some v)) Q E s') (fun e s' => wpAny (model prog w) A (do if ← isInstance e (.type "StopIteration") then pure none else throw e) Q E s') s1 := fun s1 f0 g q => by
    refine wpAny_bind (wpAny_setField g rfl (by simp) ?_)
    refine wpAny_bind (m := newExc (.type "StopIteration") []) ?_
    simp only [newExc, newTuple]
    refine wpAny_bind (wpAny_newObj_type ?_ (by size_fits))
    refine wpAny_bind (m := firstArgMember _ _) (wpAny_of_eq (a := Value.none) (by first | rfl | (simp only [firstArgMember]; rfl)) ?_)
    refine wpAny_newObj_type ?_ (by size_fits)
    simp only [raiseNew]
    refine wpAny_bind (wpAny_handled ?_)
    first | rw [show A.in1.handled = none from hh] | rw [hh]
    refine wpAny_bind (wpAny_pure (wpAny_throw ?_))
    refine wpAny_bind (wpAny_isInstance (T := "StopIteration") (b := true) ⟨_, Heap.get?_push_size _ rfl, rfl⟩ isSubtype_stop ?_)
    exact wpAny_pure (q _ (((Heap.SameBut.update ..).extBut.push _).push _))
  cases md with
  | text c =>
    have hl : (pickOrder (w.params.setOrder a ep) es).size = es.size := by
      have := (pick_perm (w.params.setOrder a ep) es).length_eq
      rwa [Array.length_toList, Array.length_toList] at this
    show wpAny _ _ (setNext a (Int.toNat ((0 : Nat) : Int)) (Int.toNat ((es.size : Nat) : Int)) (Int.toNat ((ep : Nat) : Int)) >>= _) _ _ _
    rw [Int.toNat_natCast, Int.toNat_natCast, Int.toNat_natCast]
    refine wpAny_bind (setNext_text ho hd TB.fit c ?_)
    rw [Array.getElem?_eq_none (by omega)]
    exact stop s _ hI h
  | @drawn ps n' hTt p =>
    have hl : ps.length = es.size := by rw [p.length_eq, List.length_range]
    show wpAny _ _ (seqItems? (.ref T) >>= _) _ _ _
    refine wpAny_bind (wpAny_seqItems hTt rfl ?_)
    have hi' : (ps.map fun p : Nat => (.int p 0 : Value)).toArray[Int.toNat ((es.size : Nat) : Int)]? = none := by
      rw [Int.toNat_natCast]
      simp [hl]
    dsimp only
    rw [hi']
    have g1 : (s.heap.update I (Obj.mapFields (·.setIfInBounds 0 (rawInt 0)))).get? I = some (siObj (.int 0 0) es.size a es.size ep) := Heap.get?_update_self _ hI rfl
    refine wpAny_bind (wpAny_setField hI rfl (by simp) ?_)
    exact stop { s with heap := s.heap.update I (Obj.mapFields (·.setIfInBounds 0 (rawInt 0))) } _ g1 fun h' x => h h' fun b o hb e => x b o hb (((Heap.SameBut.update s.heap I _).2 b hb).trans e)
  | @place slot c cp hb =>
    show wpAny _ _ (setNext a (Int.toNat ((slot : Nat) : Int)) (Int.toNat ((es.size : Nat) : Int)) (Int.toNat ((ep : Nat) : Int)) >>= _) _ _ _
    rw [Int.toNat_natCast, Int.toNat_natCast, Int.toNat_natCast]
    refine wpAny_bind (setNext_place ho hd TB c cp ?_)
    rw [hb, Array.getElem?_eq_none (Nat.le_refl _)]
    exact stop s _ hI h
theorem slot_si_iter : Slot "set_iterator" "__iter__" "set_iterator.__iter__" :=
  .of (owner := "set_iterator") (n := "__iter__") (by rw [typeLookup_type, builtinLookup_eq_fast]; kernel_rfl) (by decide +kernel) (by decide +kernel) (by decide +kernel)
    (by first | exact .inl (by decide +kernel) | exact .inr (by decide +kernel)) (by rw [isSubtype_type]; kernel_rfl)
theorem entry_si_iter : entryFor table "set_iterator.__iter__" = some Builtin.«dict_keyiterator.__iter__» := entryFor_alias (id' := "dict_keyiterator.__iter__") (by kernel_rfl) rfl (by decide +kernel) (by kernel_rfl)
theorem args_si_iter (a : Value) : argsOk "set_iterator.__iter__" ⟨[a], []⟩ := by unfold argsOk; kernel_rfl
theorem Mode.stay {h h' : Heap} {es : Array (Int × Value)} {ep : Nat} {t : SetTable} {i : Nat} {first : Value} {ord : List Value} (m : Mode w h a T es ep t i first ord) (k : ∀ o, h.get? T = some o → h'.get? T = some o) : Mode w h' a T es ep t i first ord := by
  cases m with
  | text c => exact .text c
  | drawn e p => exact .drawn (k _ e) p
  | place c cp hb => exact .place c cp hb
theorem walk_l {es : Array (Int × Value)} {ord : List Value} (hh : A.handled = none) (na : a ≠ I) (nT : T ≠ I) : Walks prog w A I [I, a, T] [I] es.size (fun i v => ord[i]? = some v) (fun i h => SiAt prog w h I a T es ord i) where
  sub := fun b hb => by rw [List.mem_singleton.mp hb]; simp
  frame := fun i h h' X k => by
    obtain ⟨o, ep, t, first, ho, hx, hd, TB, hI, md⟩ := X
    exact ⟨o, ep, t, first, k a (by simp) o ho, hx, hd, TB, k I (by simp) _ hI, md.stay fun o e => k T (by simp) o e⟩
  item := fun i s Q E hi X q => next_item X hi na nT fun v h' hv X' sb => q v h' s.toks hv X' fun b o hb e => (sb.2 b fun z => hb (by simp [z])).trans e
  done := fun s Q E X q => next_end hh X fun h' x => q h' s.toks fun b o hb e => x b o (fun z => hb (by simp [z])) e
  self := fun i s Q E X q => by
    obtain ⟨o, ep, t, first, ho, hx, hd, TB, hI, md⟩ := X
    have hT : s.TypeIs (.ref I) "set_iterator" := ⟨_, hI, rfl⟩
    refine wpAny_pyIter_slot hT slot_si_iter (wpAny_call_entry slot_si_iter hT entry_si_iter ?_ (args_si_iter _))
    show wpAny _ _ (ret (.ref I)) _ _ s
    exact wpAny_pure ⟨_, rfl, "set_iterator", _, hT, slot_si_next.lookup, q⟩
/-- what a set leaves in a list -/
theorem collect_l {es : Array (Int × Value)} {Q : List Value → Shared → Prop} (hh : A.handled = none) (hS : AtL prog w s.heap a es) (hz : es.size ≤ sizeLine)
    (h : ∀ (h' : Heap) (d : Drawn) (tk : Nat) (vs : List Value), vs.Perm (es.toList.map (·.2)) → s.heap.objs.size < h'.objs.size → (∀ b o, s.heap.get? b = some o → h'.get? b = some o) → Q vs { s with heap := h', drawn := d, toks := tk }) :
    wpAny (model prog w) A (collect (.ref a)) Q E s := by
  have alt : a < s.heap.objs.size := by
    obtain ⟨o, _, _, ho, _⟩ := hS
    exact Heap.lt_size ho
  have hT : ∀ h', (∀ b o, s.heap.get? b = some o → h'.get? b = some o) → ∀ d tk, Shared.TypeIs { s with heap := h', drawn := d, toks := tk } (.ref a) "set" := fun h' k d tk => by
    obtain ⟨o, _, _, ho, hx, _⟩ := hS
    exact ⟨o, k a o ho, hx.1⟩
  unfold collect
  refine wpAny_bind (wpAny_runValue (codeAny_builtin PySem.F.entry_proto_collect ?_))
  rw [Around.under_plainId PySem.F.plain_proto_collect _]
  refine wpAny_bind (m := newList []) (wpAny_newList (wpAny_pure ⟨plainId_quiet PySem.F.plain_list_iadd _, codeAny_builtin entry_list_iadd' ?_⟩))
  rw [Around.under_plainId PySem.F.plain_list_iadd _]
  have k1 : ∀ b o, s.heap.get? b = some o → (s.heap.push { cls := .type "list", data := .seq ([] : List Value).toArray }).get? b = some o := fun b o e => Heap.get?_push_of_some _ e
  have g1 : (s.heap.push { cls := .type "list", data := .seq ([] : List Value).toArray }).get? s.heap.objs.size = some { cls := .type "list", data := .seq ([] : List Value).toArray } := Heap.get?_push_size _ rfl
  have z1 : (s.heap.push { cls := .type "list", data := .seq ([] : List Value).toArray }).objs.size = s.heap.objs.size + 1 := Heap.size_push ..
  show wpAny _ A.in1 (Builtin.List.listExtendWith (.ref s.heap.objs.size) (.ref a) (.ref s.heap.objs.size)) _ _ _
  generalize s.heap.push { cls := .type "list", data := .seq ([] : List Value).toArray } = h1 at k1 g1 z1 ⊢
  unfold Builtin.List.listExtendWith
  refine wpAny_bind (wpAny_typeOf (hT h1 k1 _ _) ?_)
  have nS : s.heap.objs.size ≠ a := Nat.ne_of_gt alt
  have e1 : Builtin.List.listSameRef (.ref s.heap.objs.size) (.ref a) = false := by simp [Builtin.List.listSameRef, nS]
  rw [e1, if_neg (by decide)]
  refine wpAny_bind (iter_l (s := { s with heap := h1 }) (hS.stay (k1 a)) hz fun h2 d I T ord X po lI lI2 na nT lT k2 => ?_)
  have k12 : ∀ b o, s.heap.get? b = some o → h2.get? b = some o := fun b o e => k2 b o (k1 b o e)
  refine wpAny_bind (wpAny_holding ?_)
  unfold Builtin.List.listLengthHint
  refine wpAny_bind (wpAny_specialOf (hT h2 k12 _ _) PySem.F.slot_set_len.lookup ?_)
  have hsp : splitId "set.__len__" = some ("set", "__len__") := by kernel_rfl
  dsimp only
  rw [hsp]
  dsimp only
  refine wpAny_bind (wpAny_isInstance (hT h2 k12 _ _) sub_set_self ?_)
  rw [if_neg (by decide)]
  rw [if_pos (by decide +kernel)]
  refine wpAny_bind (wpAny_typeOf (hT h2 k12 _ _) ?_)
  refine wpAny_pure ?_
  rw [if_pos (by decide +kernel)]
  refine wpAny_bind (wpAny_rule ?_)
  have g2 := k2 _ _ g1
  refine wpAny_bind (m := Builtin.List.listTouch (.ref s.heap.objs.size)) ?_
  show wpAny _ A.in1 (updateSeq s.heap.objs.size (·.push .none) >>= fun _ => updateSeq s.heap.objs.size (·.pop)) _ _ _
  refine wpAny_bind (wpAny_updateSeq g2 rfl ?_)
  have g3 := Heap.get?_update_self (Obj.mapSeq (·.push Value.none)) g2 rfl
  refine wpAny_updateSeq g3 rfl ?_
  have g4 := Heap.get?_update_self (Obj.mapSeq (·.pop)) g3 rfl
  have sb := (Heap.SameBut.update h2 s.heap.objs.size (Obj.mapSeq (·.push Value.none))).trans (Heap.SameBut.update _ s.heap.objs.size (Obj.mapSeq (·.pop)))
  have lS : s.heap.objs.size < I := by
    have lI : h1.objs.size ≤ I := lI
    omega
  have nST : s.heap.objs.size ≠ T := fun z => by
    rcases lT with lT | lT
    · exact nS (z.trans lT)
    · have lT : h1.objs.size ≤ T := lT
      omega
  have X4 := (walk_l (prog := prog) (w := w) (A := A.in1) (a := a) (T := T) (es := es) (ord := ord) hh na nT).frame 0 h2 _ X fun b hb o e => (sb.2 b fun z => by
    subst z
    simp only [List.mem_cons, List.not_mem_nil, or_false] at hb
    rcases hb with hb | hb | hb
    · exact Nat.ne_of_lt lS hb
    · exact nS hb
    · exact nST hb).trans e
  have nf : s.heap.objs.size ∉ [I, a, T] := fun hb => by
    simp only [List.mem_cons, List.not_mem_nil, or_false] at hb
    rcases hb with hb | hb | hb
    · exact Nat.ne_of_lt lS hb
    · exact nS hb
    · exact nST hb
  refine wpAny_pure ⟨plainId_quiet PySem.F.plain_extend_loop _, codeAny_extend_loopS ((walk_l (prog := prog) (w := w) (a := a) (T := T) (es := es) (ord := ord) (by simp [hh]) na nT).toS) hz _ nf _ es.size 0 _ _ _ rfl (Nat.zero_le _) X4 g4 (ItemsOf.nil _) fun s' acc c hm hS' hacc => ?_⟩
  refine wpAny_bind (m := load s.heap.objs.size) (wpAny_load hS' ?_)
  have eo : acc.toList = ord := by
    have lo : ord.length = es.size := by rw [po.length_eq, List.length_map, Array.length_toList]
    obtain ⟨h5, h6⟩ := hacc
    apply List.ext_getElem?
    intro j
    by_cases hj : j < es.size
    · have hj' : j < acc.size := by omega
      rw [Array.getElem?_toList, Array.getElem?_eq_getElem hj']
      exact (h6 j _ (Array.getElem?_eq_getElem hj')).symm
    · rw [Array.getElem?_toList, Array.getElem?_eq_none (by omega), List.getElem?_eq_none (by omega)]
  obtain ⟨h', g', d', tk', os'⟩ := s'
  obtain rfl : g' = s.gens := hm.gens
  obtain rfl : d' = d := hm.drawn
  obtain rfl : os' = s.os := hm.os
  refine wpAny_pure ?_
  rw [eo]
  refine h h' d' tk' ord po (Heap.lt_size hS') fun b o e => hm.heap b o (fun z => ?_) ((sb.2 b fun z => ?_).trans (k12 b o e))
  · have lb := Heap.lt_size e
    rcases List.mem_cons.mp z with z | z
    · exact Nat.ne_of_lt lb z
    · exact Nat.ne_of_lt (Nat.lt_trans lb lS) (List.mem_singleton.mp z)
  · exact Nat.ne_of_lt (Heap.lt_size e) z
def vInt : Value → Int
  | .int n _ => n
  | _ => 0
theorem ints_vs : ∀ {vs : List Value}, (∀ v ∈ vs, ∃ n t, v = .int n t) → IntsAre vs (vs.map vInt)
  | [], _ => .nil
  | v :: vs, h => by
    obtain ⟨n, t, rfl⟩ := h v (by simp)
    exact .cons n t (ints_vs fun v hv => h v (List.mem_cons_of_mem _ hv))
/-- sorted(set of numbers) -/
theorem sorted_l {L : List Int} {Q : Value → Shared → Prop} (hh : A.handled = none) (hS : SetL prog w s.heap a L) (h64 : L.length < 64)
    (h : ∀ (h' : Heap) (d : Drawn) (tk : Nat) (r : Addr) (out : Array Value) (ns : List Int) (e : Nat), IntsAre out.toList ns → ns.Perm L → ns.Pairwise (· ≤ ·) → h'.get? r = some (seqObj "list" out e) → s.heap.objs.size ≤ r → (∀ b o, s.heap.get? b = some o → h'.get? b = some o) → Q (.ref r) { s with heap := h', drawn := d, toks := tk }) :
    wpAny (model prog w) A (call (.builtin "sorted") [.ref a]) Q E s := by
  obtain ⟨es, hA, rfl⟩ := hS
  have hel : ElemsOf (intKind prog w) es.toList := by
    obtain ⟨_, _, _, _, _, _, TB⟩ := hA
    exact TB.el
  rw [List.length_map, Array.length_toList] at h64
  refine Calls.call_function_entry kind_sorted plain_sorted entry_sorted (args_sorted1 _) ?_
  unfold Builtin.«sorted»
  refine wpAny_bind (m := checkCount "sorted" 1 1 _) (wpAny_pure ?_)
  refine wpAny_bind (collect_l (by simp [hh]) hA (Nat.le_trans (Nat.le_of_lt h64) (by decide)) fun h1 d tk vs p l1 k1 => ?_)
  have hi : ∀ v ∈ vs, ∃ n t, v = .int n t := fun v hv => by
    obtain ⟨e, he, rfl⟩ := List.mem_map.mp (p.mem_iff.mp hv)
    obtain ⟨n, t, e1, _⟩ := el_int hel he
    exact ⟨n, t, e1⟩
  have pn : (vs.map vInt).Perm (es.toList.map enK) := by
    refine (p.map vInt).trans (List.Perm.of_eq ?_)
    rw [List.map_map]
    refine List.map_congr_left fun e he => ?_
    obtain ⟨n, t, e1, e2⟩ := el_int hel he
    show vInt e.2 = enK e
    rw [e2, e1]
    rfl
  have vl : vs.length < 64 := by
    rw [p.length_eq, List.length_map, Array.length_toList]
    exact h64
  refine wpAny_bind (wpAny_newList ?_ (Nat.le_trans (Nat.le_of_lt vl) (by decide)))
  have g : (h1.push (seqObj "list" vs.toArray 0)).get? h1.objs.size = some (seqObj "list" vs.toArray 0) := Heap.get?_push_size _ rfl
  refine wpAny_bind (wpAny_holding (wpAny_call_entry slot_list_sort ⟨_, g, rfl⟩ entry_list_sort (list_sort_tree (s := { s with heap := h1.push (seqObj "list" vs.toArray 0), drawn := d, toks := tk }) g (ints_vs hi) vl fun out ns' a1 a2 a3 => ⟨_, rfl, ?_⟩) (args_list_sort _)))
  obtain ⟨e, he⟩ := sortedHeap_at (out := out) g
  refine wpAny_pure ⟨_, rfl, h _ d tk h1.objs.size out ns' e a1 (a2.trans pn) a3 he (Nat.le_of_lt l1) fun b o hb => ?_⟩
  have hb1 := k1 b o hb
  have lb := Heap.lt_size hb1
  rw [sortedHeap_old (Nat.ne_of_lt lb) (by rw [size_push']; exact Nat.lt_succ_of_lt lb)]
  exact Heap.get?_push_of_some _ hb1
end
/-! ### the rules -/
theorem Inv.drew {X : Cx} {pins : List (Addr × Obj)} {σ : St} {H : Hp} {s : Shared} (I : Inv X pins σ H s) (d : Drawn) : Inv X pins σ H { s with drawn := d } := ⟨I.ok, I.os, I.bare, I.base, I.loc, I.cell, I.free, I.freeC, I.pin, I.hok, I.len⟩
def LS (P : Program) (w : World) (a : Addr) (L : List Int) : HO := .ext fun h => SetL P w h a L
/-- set(list of numbers) that will be walked -/
def rSetW (P : Program) (w : World) (K : PySem.W.Frag) : List V → Hp → VK → Prop := fun xs H Q => ∃ (a : Addr) (ns : List Int), xs = [.ref a] ∧ SqL K H a (ns.map V.int) ∧ ns.length ≤ 1000 ∧ ∀ (l : Addr) (L : List Int), H l = none → L.Nodup → (∀ x, x ∈ L ↔ x ∈ ns) → Q (.ref l) (upd H l (LS P w l L))
theorem call_setW {X : Cx} (hc : X.calm = true) : CallR X (.type "set") (rSetW X.prog X.w X.K) := by
  intro pins s σ H xs us Q I r h
  obtain ⟨a, ns, rfl, hq, hl, q⟩ := h
  obtain ⟨u, rfl, rx⟩ := vals1 r
  cases rx
  obtain ⟨its, r', pl, hz⟩ := I.list hq
  have hlen := r'.length
  rw [List.length_map] at hlen
  refine set_list_l (ns := ns) (I.ok.hd hc) pl.isList (by simpa using ints_of_vals r') (by rw [List.size_toArray, ← hlen]; exact Nat.lt_of_le_of_lt (Nat.succ_le_succ hl) (by decide)) fun h' tk L hS nd mem kp => ?_
  refine ⟨.ref s.heap.objs.size, _, I.laid (t' := tk) (o := LS X.prog X.w s.heap.objs.size L) (fun b o e => kp b o e) (Nat.le_refl _) ⟨hS, ?_, fun _ _ p k => p.stay k⟩, rfl, q _ L (I.hok.fresh (Nat.le_refl _)) nd mem⟩
  obtain ⟨es, ⟨o, _, _, ho, _⟩, _⟩ := hS
  exact ⟨o, ho⟩
def rSortS (P : Program) (w : World) : List V → Hp → VK → Prop := fun xs H Q => ∃ (a : Addr) (L : List Int), xs = [.ref a] ∧ H a = some (LS P w a L) ∧ L.length < 64 ∧ ∀ (l : Addr) (ns : List Int), H l = none → ns.Perm L → ns.Pairwise (· ≤ ·) → Q (.ref l) (upd H l (.lst (ns.map V.int)))
theorem call_sortS {X : Cx} (hc : X.calm = true) : CallR X (.builtin "sorted") (rSortS X.prog X.w) := by
  intro pins s σ H xs us Q I r h
  obtain ⟨a, L, rfl, ha, h64, q⟩ := h
  obtain ⟨u, rfl, rx⟩ := vals1 r
  cases rx
  have hS : SetL X.prog X.w s.heap a L := (I.hok a _ ha).1
  refine sorted_l (I.ok.hd hc) hS h64 fun h' d tk r out ns e a1 a2 a3 hr hle kp => ?_
  have hl2 := a2.length_eq
  refine ⟨.ref r, _, (I.drew d).laid (t' := tk) (o := .lst (ns.map V.int)) (fun b o e => kp b o e) hle ?_, rfl, q r ns (I.hok.fresh hle) a2 a3⟩
  refine ⟨by rw [List.length_map, hl2]; exact Nat.le_trans (Nat.le_of_lt h64) (by decide), out.toList, e, vals_of_ints a1, ?_⟩
  rw [Array.toArray_toList]
  exact hr
end L2
namespace E1
open PySem L2
abbrev pw : Program := PySem.Challenge.pw_evenmeet_k86_whole_forms_of_one_sort
def top (i : Nat) : Stmt := pw.main.body.getD i (.Pass ⟨0, 0, 0, 0⟩)
abbrev sWhole : Stmt := top 4
abbrev sMust : Stmt := top 5
abbrev sFrom : Stmt := top 6
abbrev sShared : Stmt := top 7
abbrev sPrimes : Stmt := top 8
abbrev sIsPrime : Stmt := top 9
abbrev sPlain : Stmt := top 10
abbrev sIsRest : Stmt := top 11
abbrev sPower : Stmt := top 12
abbrev sLeastNoRest : Stmt := top 13
abbrev sRootByPrime : Stmt := top 14
abbrev sRootByPlain : Stmt := top 15
abbrev sForm : Stmt := top 17
abbrev sShuts : Stmt := top 18
abbrev sOddPrimesOf : Stmt := top 19
abbrev sPShut : Stmt := top 20
abbrev sPlainPoint : Stmt := top 21
abbrev sPointByDescent : Stmt := top 22
abbrev sLowestTerms : Stmt := top 23
abbrev sCell : Stmt := top 25
abbrev sPool : Stmt := top 26
abbrev sTake : Stmt := top 27
abbrev sLPart : Stmt := top 28
abbrev sLOver : Stmt := top 29
abbrev sLTurned : Stmt := top 30
abbrev sLPrimes : Stmt := top 31
abbrev sLaw : Stmt := top 32
section
variable {P : Program} {w : World} {K : PySem.W.Frag} {mg : Str → Option Value} {base : Heap} {M C : Addr}
structure RefsS (K : PySem.W.Frag) (M C : Addr) : Prop where
  nM : PySem.W.nsIn K mainGlobals "MeetError" = some (some (.ref M))
  nC : PySem.W.nsIn K mainGlobals "NoNumber" = some (some (.ref C))
  eM : PySem.W.ExcK K M
  eC : PySem.W.ExcK K C
  cl : PySem.W.ClsK K
  sub : PySem.W.mroIn K C (.ref M) = some true
  kC : PySem.W.kitOne K (.ref C) (.ref C) = some true
  kV : PySem.W.kitOne K (.ref C) (.type "ValueError") = some true
theorem refsS_mk {K : PySem.W.Frag} {M C : Addr}
    (nM : PySem.W.nsIn K mainGlobals "MeetError" = some (some (.ref M)))
    (nC : PySem.W.nsIn K mainGlobals "NoNumber" = some (some (.ref C)))
    (exM : PySem.W.excIn K M [.type "ValueError", .type "Exception", .type "BaseException", .type "object"] "ValueError.__new__" = true)
    (gaM : PySem.W.findIn K (.ref M) "__getattribute__" = some (some (.builtin "BaseException.__getattribute__")))
    (noM : PySem.W.findIn K (.ref M) "__getattr__" = some none)
    (clM : PySem.W.findIn K (.ref M) "__class__" = some (some (.builtin "object.__class__")))
    (obM : PySem.W.mroIn K M (.type "object") = some true)
    (beM : PySem.W.mroIn K M (.type "BaseException") = some true)
    (exC : PySem.W.excIn K C [.type "ValueError", .type "Exception", .type "BaseException", .type "object"] "ValueError.__new__" = true)
    (gaC : PySem.W.findIn K (.ref C) "__getattribute__" = some (some (.builtin "BaseException.__getattribute__")))
    (noC : PySem.W.findIn K (.ref C) "__getattr__" = some none)
    (clC : PySem.W.findIn K (.ref C) "__class__" = some (some (.builtin "object.__class__")))
    (obC : PySem.W.mroIn K C (.type "object") = some true)
    (beC : PySem.W.mroIn K C (.type "BaseException") = some true)
    (gt : PySem.W.specialIn K (.builtin "object.__class__") "__get__" = some (some (.builtin "getset_descriptor.__get__")))
    (tk : PySem.W.takesIn K (.builtin "object.__class__") = some true)
    (sub : PySem.W.mroIn K C (.ref M) = some true)
    (kC : PySem.W.kitOne K (.ref C) (.ref C) = some true)
    (kV : PySem.W.kitOne K (.ref C) (.type "ValueError") = some true) :
    ∃ M C : Addr, RefsS K M C :=
  ⟨M, C, nM, nC, ⟨exM, gaM, noM, clM, obM, beM⟩, ⟨exC, gaC, noC, clC, obC, beC⟩, ⟨gt, tk⟩, sub, kC, kV⟩
theorem txtS_of {K : PySem.W.Frag} {h : Heap} {mg : Str → Option Value} {M C : Addr} (X : K.In h) (G : h.Ns mainGlobals mg) (R : RefsS K M C) (N : Free K) : Txt K mg M C :=
  ⟨PySem.W.mg_none_of X G N.isi, PySem.W.mg_none_of X G N.int, PySem.W.mg_none_of X G N.bool, PySem.W.mg_none_of X G N.abs, PySem.W.mg_none_of X G N.max, PySem.W.mg_none_of X G N.min, PySem.W.mg_none_of X G N.len, PySem.W.mg_none_of X G N.range, PySem.W.mg_none_of X G N.ve, PySem.W.mg_none_of X G N.tup, PySem.W.mg_none_of X G N.lst, PySem.W.mg_none_of X G N.str, PySem.W.mg_none_of X G N.dct, PySem.W.mg_none_of X G N.any, PySem.W.mg_none_of X G N.sor, PySem.W.mg_none_of X G N.sum, PySem.W.mg_none_of X G N.all, PySem.W.mg_none_of X G N.set, PySem.W.mg_none_of X G N.zip, PySem.W.mg_none_of X G N.enu,
    PySem.W.mg_of X G R.nM, PySem.W.mg_of X G R.nC, R.eM, R.eC, R.cl, R.sub, R.kC, R.kV⟩
theorem scWhole : FnScope ["thing"] ["thing"] (defScope sWhole) := ⟨rfl, rfl, rfl, by decide +kernel, rfl, by decide +kernel, by decide +kernel⟩
theorem ok_whole {f : Addr} {fd : FuncData} (F : Fun K "is_whole" "is_whole" sWhole f fd) (T : Txt K mg M C) : FnOk P w K mg base CX0 1 f fd ["thing"] (spWhole K) := by
  refine F.okQ scWhole (fun vs H Q E h => ?_) (fun cdv A outer s H vs Q E hr h => ?_)
  · obtain ⟨v, b, rfl, _⟩ := h
    rfl
  · obtain ⟨v, b, rfl, hw, k⟩ := h
    refine ⟨_, qss_one (qs_ret (qe_and (qe_callB call_isinst (by rfl) T.isi PyProof.Rows.boot_isinstance (qac (qv 0) (qac (qe_bltn (v := .ty "int") rfl T.int PyProof.Rows.boot_int rfl) qa_nil)))
      (qe_one (qe_not (qe_callB call_isinst (by rfl) T.isi PyProof.Rows.boot_isinstance (qac (qv 0) (qac (qe_bltn (v := .ty "bool") rfl T.bool PyProof.Rows.boot_bool rfl) qa_nil))))))), ?_⟩
    cases hw with
    | int i =>
      refine ⟨_, rfl, _, _, _, _, rfl, .int i, rel_ty (kit_int_int K), true, rfl, iteT ?_⟩
      exact ⟨_, rfl, _, _, _, _, rfl, .int i, rel_ty (kit_int_bool K), false, rfl, k⟩
    | bl x =>
      refine ⟨_, rfl, _, _, _, _, rfl, .bl x, rel_ty (kit_bool_int K), true, rfl, iteT ?_⟩
      exact ⟨_, rfl, _, _, _, _, rfl, .bl x, rel_ty (kit_bool_bool K), true, rfl, k⟩
    | odd ty kk =>
      exact ⟨_, rfl, _, _, _, _, rfl, ty, rel_ty kk, false, rfl, iteF k⟩
theorem scMust : FnScope ["thing"] ["thing"] (defScope sMust) := ⟨rfl, rfl, rfl, by decide +kernel, rfl, by decide +kernel, by decide +kernel⟩
theorem ok_must {f fW : Addr} {fd fdW : FuncData} (F : Fun K "must_be_whole" "must_be_whole" sMust f fd) (T : Txt K mg M C) (FW : Fun K "is_whole" "is_whole" sWhole fW fdW) (bW : Binds K fdW ["thing"] []) (mW : mg "is_whole" = some (.ref fW)) :
    FnOk P w K mg base (CX1 P w) 2 f fd ["thing"] (spMust K C) := by
  have GW : FnOk P w K mg base CX0 1 fW fdW ["thing"] (spWhole K) := ok_whole FW T
  refine F.okXQ scMust (fun vs H Q E h => ?_) (fun cdv A outer s H vs Q E hr h => ?_)
  · obtain ⟨v, b, rfl, _⟩ := h
    rfl
  · obtain ⟨v, b, rfl, hw, k1, k2⟩ := h
    refine ⟨_, qss_one (qs_if (qt_not (qt_val (qe_call GW hr rfl mW FW.kp bW .nil pass0 (qac (qv 0) qa_nil))))
      (qss_one (qs_raise T.eC.ex rfl T.mgC rfl rfl (qac qe_str qa_nil))) qss_nil), ?_⟩
    refine ⟨_, rfl, v, b, rfl, hw, b, rfl, ?_⟩
    cases b with
    | true => exact iteF (k1 rfl)
    | false => exact iteT ⟨by show 1 ≤ sizeLine; decide, k2 rfl⟩

theorem scFrom : FnScope ["least", "thing"] ["least", "thing"] (defScope sFrom) := ⟨rfl, rfl, rfl, by decide +kernel, rfl, by decide +kernel, by decide +kernel⟩
theorem ok_from {f fM : Addr} {fd fdM : FuncData} (F : Fun K "must_be_from" "must_be_from" sFrom f fd) (T : Txt K mg M C) (FM : Fun K "must_be_whole" "must_be_whole" sMust fM fdM) (bM : Binds K fdM ["thing"] []) (mM : mg "must_be_whole" = some (.ref fM))
    (GM : FnOk P w K mg base (CX1 P w) 2 fM fdM ["thing"] (spMust K C)) : FnOk P w K mg base (CX1 P w) 3 f fd ["least", "thing"] (spFrom K C) := by
  refine F.okXQ scFrom (fun vs H Q E h => ?_) (fun cdv A outer s H vs Q E hr h => ?_)
  · obtain ⟨m, v, rfl, _⟩ := h
    rfl
  · obtain ⟨m, v, rfl, hm, h⟩ := h
    refine ⟨_, qss_cons (qs_expr (qe_call GM hr rfl mM FM.kp bM .nil (passE rfl) (qac (qv 1) qa_nil)))
      (qss_one (qs_if (qt_cmpR op_lt (qv 1) (qv 0) (nomark _)) (qss_one (qs_raise T.eC.ex rfl T.mgC rfl rfl (qac (qe_fstr (qf_cons qe_str (qf_cons (qe_fint (qv 0)) (qf_cons qe_str qf_nil)))) qa_nil))) qss_nil)), ?_⟩
    rcases h with ⟨i, rfl, hi, k⟩ | ⟨i, rfl, hi, k⟩ | ⟨hv, k⟩
    · refine ⟨_, rfl, _, true, rfl, .int i, fun _ => ?_, fun z => (nomatch z)⟩
      refine ⟨_, rfl, _, rfl, _, _, rfl, rfl, _, rfl, ?_⟩
      rw [decide_eq_false (by omega)]
      exact iteF k
    · refine ⟨_, rfl, _, true, rfl, .int i, fun _ => ?_, fun z => (nomatch z)⟩
      refine ⟨_, rfl, _, rfl, _, _, rfl, rfl, _, rfl, ?_⟩
      rw [decide_eq_true hi]
      refine iteT ?_
      rcases hm with rfl | rfl
      · exact ⟨_, rfl, by decide +kernel, _, rfl, _, rfl, by decide, _, rfl, by decide +kernel, _, rfl, by decide +kernel, by decide +kernel, by show 1 ≤ sizeLine; decide, k⟩
      · exact ⟨_, rfl, by decide +kernel, _, rfl, _, rfl, by decide, _, rfl, by decide +kernel, _, rfl, by decide +kernel, by decide +kernel, by show 1 ≤ sizeLine; decide, k⟩
    · exact ⟨_, rfl, _, false, rfl, hv, fun z => (nomatch z), fun _ => k⟩
theorem scShared : FnScope ["a", "b", "divisor", "rest", "smaller"] ["a", "b"] (defScope sShared) := ⟨rfl, rfl, rfl, by decide +kernel, rfl, by decide +kernel, by decide +kernel⟩
theorem ok_shared {f fM fW : Addr} {fd fdM fdW : FuncData} (F : Fun K "shared" "shared" sShared f fd) (T : Txt K mg M C) (FM : Fun K "must_be_whole" "must_be_whole" sMust fM fdM) (bM : Binds K fdM ["thing"] []) (mM : mg "must_be_whole" = some (.ref fM))
    (FW : Fun K "is_whole" "is_whole" sWhole fW fdW) (bW : Binds K fdW ["thing"] []) (mW : mg "is_whole" = some (.ref fW)) : FnOk P w K mg base (CX1 P w) 3 f fd ["a", "b"] (spShared K C) := by
  have GM : FnOk P w K mg base (CX1 P w) 2 fM fdM ["thing"] (spMust K C) := ok_must FM T FW bW mW
  refine F.okXQ scShared (fun vs H Q E h => ?_) (fun cdv A outer s H vs Q E hr h => ?_)
  · rcases h with ⟨i, j, rfl, _⟩ | ⟨v, u, b, c, rfl, _⟩ <;> rfl
  · refine ⟨_, qss_cons (qs_expr (qe_call GM hr rfl mM FM.kp bM .nil (passE rfl) (qac (qv 0) qa_nil)))
      (qss_cons (qs_expr (qe_call GM hr rfl mM FM.kp bM .nil (passE rfl) (qac (qv 1) qa_nil)))
      (QSs.nox (qss_cons (qs_set (i := 2) scShared.nd rfl (Or.inl rfl) (qe_callB call_abs (by rfl) T.abs PyProof.Rows.boot_abs (qac (qv 0) qa_nil)))
      (qss_cons (qs_set (i := 3) scShared.nd rfl (Or.inl rfl) (qe_callB call_abs (by rfl) T.abs PyProof.Rows.boot_abs (qac (qv 1) qa_nil)))
      (qss_cons (qs_while PassesOwn.never (qt_cmpR op_gt (qv 3) qe_int (nomark _))
        (qss_cons (qs_set (i := 4) scShared.nd rfl (Or.inl rfl) (qe_op op_mod (qv 2) (qv 3)))
        (qss_cons (qs_set (i := 2) scShared.nd rfl (Or.inl rfl) (qv 3))
        (qss_one (qs_set (i := 3) scShared.nd rfl (Or.inl rfl) (qv 4))))))
      (qss_one (qs_ret (qv 2)))))))), ?_⟩
    rcases h with ⟨i, j, rfl, k⟩ | ⟨v, u, b, c, rfl, hv, hu, hbc, k⟩
    · refine ⟨_, rfl, _, true, rfl, .int i, fun _ => ?_, fun z => nomatch z⟩
      refine ⟨_, rfl, _, true, rfl, .int j, fun _ => ?_, fun z => nomatch z⟩
      refine ⟨_, rfl, i, rfl, _, rfl, j, rfl, ?_⟩
      refine while_by (fun σ H2 => H2 = H ∧ ∃ (d r : Int) (x : Option V), σ = [some (.int i), some (.int j), some (.int d), some (.int r), x] ∧ 0 ≤ d ∧ 0 ≤ r ∧ Int.gcd d r = Int.gcd i j)
        (fun σ _ => match σ with | [_, _, _, some (.int r), _] => r.toNat | _ => 0) ⟨rfl, _, _, _, rfl, abs_nn i, abs_nn j, gcd_abs i j⟩ ?_ gtMono
      rintro σ H2 ⟨rfl, d, r, x, rfl, hd, hr', hg⟩
      refine ⟨_, rfl, _, _, rfl, rfl, _, rfl, ?_⟩
      refine ite2 (fun hc => ?_) (fun hc => ?_)
      · have hr0 : 0 < r := of_decide_eq_true hc
        refine ⟨_, rfl, _, rfl, _, _, rfl, rfl, hr0, _, rfl, _, rfl, ⟨rfl, _, _, _, rfl, hr', Int.emod_nonneg _ (by omega), by rw [gcd_step hd hr0]; exact hg⟩, ?_⟩
        show (d % r).toNat < r.toNat
        have := Int.emod_lt_of_pos d hr0
        have := Int.emod_nonneg d (show r ≠ 0 by omega)
        omega
      · have hr0 : r = 0 := by
          have : ¬ (0 < r) := fun z => hc (decide_eq_true z)
          omega
        subst hr0
        refine ⟨_, rfl, ?_⟩
        have e : gcdV i j = .int d := by
          unfold gcdV
          rw [← hg, gcd_end hd]
        rw [← e]
        exact k
    · refine ⟨_, rfl, _, b, rfl, hv, fun hb => ?_, fun _ => k⟩
      refine ⟨_, rfl, _, c, rfl, hu, fun hc => ?_, fun _ => k⟩
      rcases hbc with z | z
      · rw [hb] at z; cases z
      · rw [hc] at z; cases z
theorem scPrimes : FnScope ["n", "found", "left", "p", "often"] ["n"] (defScope sPrimes) := ⟨rfl, rfl, rfl, by decide +kernel, rfl, by decide +kernel, by decide +kernel⟩
theorem ok_primes {f fF : Addr} {fd fdF : FuncData} (F : Fun K "primes_of" "primes_of" sPrimes f fd) (FF : Fun K "must_be_from" "must_be_from" sFrom fF fdF) (bF : Binds K fdF ["least", "thing"] []) (mF : mg "must_be_from" = some (.ref fF))
    (GF : FnOk P w K mg base (CX1 P w) 3 fF fdF ["least", "thing"] (spFrom K C)) : FnOk P w K mg base (CX1 P w) 4 f fd ["n"] (spPrimes K C) := by
  refine F.okXQ scPrimes (fun vs H Q E h => ?_) (fun cdv A outer s H vs Q E hr h => ?_)
  · rcases h with ⟨n, rfl, _⟩ | ⟨v, rfl, _⟩ <;> rfl
  · refine ⟨_, qss_cons (qs_expr (qe_call GF hr rfl mF FF.kp bF .nil (passE rfl) (qac qe_int (qac (qv 0) qa_nil))))
      (QSs.nox (qss_cons (qs_set (i := 1) scPrimes.nd rfl (Or.inl rfl) (qe_lst qa_nil))
      (qss_cons (qs_set (i := 2) scPrimes.nd rfl (Or.inl rfl) (qv 0))
      (qss_cons (qs_set (i := 3) scPrimes.nd rfl (Or.inl rfl) qe_int)
      (qss_cons (qs_while PassesOwn.never (qt_cmpR op_le (qe_op op_mul (qv 3) (qv 3)) (qv 2) (nomark _))
        (qss_cons (qs_set (i := 4) scPrimes.nd rfl (Or.inl rfl) qe_int)
        (qss_cons (qs_while PassesOwn.never (qt_cmpR op_eq (qe_op op_mod (qv 2) (qv 3)) qe_int (nomark _))
          (qss_cons (qs_set (i := 2) scPrimes.nd rfl (Or.inl rfl) (qe_op op_fdiv (qv 2) (qv 3)))
          (qss_one (qs_aug (i := 4) scPrimes.nd rfl (Or.inl rfl) qe_int ip_add))))
        (qss_cons (qs_if (qt_cmpR op_gt (qv 4) qe_int (nomark _)) (qss_one (qs_expr (qe_bm PySem.F.plainAttrs_list PySem.F.slot_list_append PySem.F.type_list_append mt_append (qv 1) (qac (qe_tup (qac (qv 3) (qac (qv 4) qa_nil))) qa_nil)))) qss_nil)
        (qss_one (qs_aug (i := 3) scPrimes.nd rfl (Or.inl rfl) qe_int ip_add))))))
      (qss_cons (qs_if (qt_cmpR op_gt (qv 2) qe_int (nomark _)) (qss_one (qs_expr (qe_bm PySem.F.plainAttrs_list PySem.F.slot_list_append PySem.F.type_list_append mt_append (qv 1) (qac (qe_tup (qac (qv 2) (qac qe_int qa_nil))) qa_nil)))) qss_nil)
      (qss_one (qs_ret (qv 1))))))))), ?_⟩
    rcases h with ⟨n, rfl, h1, hn, k⟩ | ⟨v, rfl, hv, k⟩
    · refine ⟨_, rfl, 1, _, rfl, .inr rfl, .inl ⟨_, rfl, by omega, ?_⟩⟩
      refine ⟨by show 0 ≤ sizeLine; decide, fun l hl => ?_⟩
      refine ⟨_, rfl, ?_⟩
      refine while_w (fun σ H2 => ∃ (p left : Nat) (ws : List V) (L : List (Nat × Nat)) (x : Option V), σ = [some (.int (n : Nat)), some (.ref l), some (.int (left : Nat)), some (.int (p : Nat)), x] ∧
          EM.FacTo n p left L ∧ Same H H2 ∧ H2 l = some (.lst ws) ∧ TupsAt H2 ws L ∧ p ≤ 2 ^ 31)
        (fun σ _ => match σ with | [_, _, some (.int left), some (.int p), _] => (left - p).toNat | _ => 0)
        ⟨2, n, [], [], none, rfl, EM.FacTo.start h1, same_new hl, upd_same, trivial, by decide⟩ ?_
      rintro m σ H2 ⟨p, left, ws, L, x, rfl, F2, s2, hl2, t2, hp31⟩ hm
      refine ⟨_, rfl, _, rfl, _, _, rfl, rfl, .inl ⟨by omega, by omega⟩, _, rfl, _, _, rfl, rfl, _, rfl, ?_⟩
      refine ite2 (fun hc => WTurn.of ?_) (fun hc => ?_)
      · have hc' : p * p ≤ left := by
          have := of_decide_eq_true hc
          exact Int.ofNat_le.mp (by rw [Int.natCast_mul]; exact this)
        have hp30 := EM.root_lt hc' (Nat.lt_of_le_of_lt F2.le hn)
        have h2p := EM.two_le_self F2.two hc'
        have htwo := F2.two
        -- the inner loop
        refine while_w (fun σ H3 => H3 = H2 ∧ ∃ (lf of : Nat), σ = [some (.int (n : Nat)), some (.ref l), some (.int (lf : Nat)), some (.int (p : Nat)), some (.int (of : Nat))] ∧ left = lf * p ^ of)
          (fun σ _ => match σ with | [_, _, some (.int lf), _, _] => lf.toNat | _ => 0)
          ⟨rfl, left, 0, rfl, by rw [Nat.pow_zero, Nat.mul_one]⟩ ?_
        rintro m' σ H3 ⟨rfl, lf, of, rfl, hlf⟩ hm'
        have hlf0 : 1 ≤ lf := by
          rcases Nat.eq_zero_or_pos lf with z | z
          · have := F2.pos
            rw [hlf, z, Nat.zero_mul] at this
            omega
          · exact z
        refine ⟨_, rfl, _, rfl, _, _, rfl, rfl, by omega, rfl, _, rfl, ?_⟩
        refine ite2 (fun hd => WTurn.of ?_) (fun hd => ?_)
        · have hd' : lf % p = 0 := by
            have := V.int.inj (of_decide_eq_true hd)
            omega
          have hdv : p ∣ lf := Nat.dvd_of_mod_eq_zero hd'
          refine ⟨_, rfl, _, rfl, _, _, rfl, rfl, ⟨by omega, by omega⟩, _, rfl, _, _, rfl, rfl, ⟨rfl, lf / p, of + 1, ?_, ?_⟩, ?_⟩
          · rfl
          · rw [Nat.pow_succ, Nat.mul_comm (p ^ of) p, ← Nat.mul_assoc, Nat.div_mul_cancel hdv]
            exact hlf
          · rw [hm']
            show ((lf : Int) / (p : Int)).toNat < (lf : Int).toNat
            have e : (lf : Int) / (p : Int) = ((lf / p : Nat) : Int) := rfl
            rw [e]
            have := Nat.div_lt_self hlf0 (show 1 < p by omega)
            omega
        · have hnd : ¬ p ∣ lf := fun z => hd (by
            have := Nat.mod_eq_zero_of_dvd z
            refine decide_eq_true (congrArg V.int ?_)
            omega)
          refine ⟨_, rfl, _, _, rfl, rfl, _, rfl, ?_⟩
          refine ite2 (fun ho => ?_) (fun ho => ?_)
          · have ho' : 1 ≤ of := by
              have := of_decide_eq_true ho
              omega
            have F3 := F2.some hlf ho' hnd
            refine ⟨_, rfl, .inl ⟨rfl, _, SqL.of hl2⟩, _, rfl, _, rfl, by show 2 ≤ sizeLine; decide, fun t ht => ?_⟩
            have nlt : l ≠ t := ne_of_none hl2 ht
            refine ⟨l, ws, _, rfl, rfl, by rw [upd_ne nlt]; exact hl2, ?_, ?_⟩
            · rw [t2.len]
              exact Nat.lt_trans (F2.short hn) (by decide)
            refine ⟨_, rfl, _, _, rfl, rfl, ⟨p + 1, lf, ws ++ [.ref t], L ++ [(p, of)], some (.int (of : Nat)), ?_, F3, ?_, upd_same, ?_, by omega⟩, ?_⟩
            · rfl
            · exact same_upd (s2.trans (same_new ht)) hl
            · refine TupsAt.upd (ys := ws) (by rw [upd_ne nlt]; exact hl2) (TupsAt.snoc (x := (p, of)) upd_same (t2.same (same_new ht)))
            · rw [hm]
              show ((lf : Int) - ((p : Int) + 1)).toNat < ((left : Int) - (p : Int)).toNat
              have : lf ≤ left := hlf ▸ Nat.le_mul_of_pos_right _ (Nat.pow_pos (by omega))
              omega
          · have ho' : of = 0 := by
              have : ¬ (0 < (of : Int)) := fun z => ho (decide_eq_true z)
              omega
            subst ho'
            rw [Nat.pow_zero, Nat.mul_one] at hlf
            subst hlf
            refine ⟨_, rfl, _, _, rfl, rfl, ⟨p + 1, left, ws, L, _, rfl, F2.none hnd, s2, hl2, t2, by omega⟩, ?_⟩
            rw [hm]
            show ((left : Int) - ((p : Int) + 1)).toNat < ((left : Int) - (p : Int)).toNat
            omega
      · have hc' : left < p * p := by
          have h3 : ¬ ((p : Int) * (p : Int) ≤ (left : Int)) := fun z => hc (decide_eq_true z)
          refine Nat.lt_of_not_le fun z => h3 ?_
          rw [← Int.natCast_mul]
          exact Int.ofNat_le.mpr z
        refine ⟨_, rfl, _, _, rfl, rfl, _, rfl, ?_⟩
        refine ite2 (fun ho => ?_) (fun ho => ?_)
        · have ho' : 1 < left := by
            have := of_decide_eq_true ho
            omega
          have F3 := F2.last hc' ho'
          refine ⟨_, rfl, .inl ⟨rfl, _, SqL.of hl2⟩, _, rfl, by show 2 ≤ sizeLine; decide, fun t ht => ?_⟩
          have nlt : l ≠ t := ne_of_none hl2 ht
          refine ⟨l, ws, _, rfl, rfl, by rw [upd_ne nlt]; exact hl2, ?_, ?_⟩
          · rw [t2.len]
            exact Nat.lt_trans (F2.short hn) (by decide)
          refine ⟨_, rfl, k l (ws ++ [.ref t]) (L ++ [(left, 1)]) _ hl (same_upd (s2.trans (same_new ht)) hl) upd_same ?_ F3⟩
          exact TupsAt.upd (ys := ws) (by rw [upd_ne nlt]; exact hl2) (TupsAt.snoc (x := (left, 1)) upd_same (t2.same (same_new ht)))
        · have ho' : ¬ 1 < left := fun z => ho (decide_eq_true (by omega))
          exact ⟨_, rfl, k l ws L H2 hl s2 hl2 t2 (F2.done ho')⟩
    · refine ⟨_, rfl, 1, _, rfl, .inr rfl, .inr ?_⟩
      rcases hv with hv | ⟨i, rfl, hi⟩
      · exact .inr ⟨hv, k⟩
      · exact .inl ⟨i, rfl, hi, k⟩
theorem scIsPrime : FnScope ["p"] ["p"] (defScope sIsPrime) := ⟨rfl, rfl, rfl, by decide +kernel, rfl, by decide +kernel, by decide +kernel⟩
theorem ok_isprime {f : Addr} {fd : FuncData} (F : Fun K "is_prime" "is_prime" sIsPrime f fd) (pPrimes : Pm P w K mg base (CX1 P w) 4 "primes_of" ["n"] (spPrimes K C)) : FnOk P w K mg base CX0 5 f fd ["p"] spIsPrime := by
  refine F.okQ scIsPrime (fun vs H Q E h => ?_) (fun cdv A outer s H vs Q E hr h => ?_)
  · obtain ⟨i, rfl, _⟩ := h
    rfl
  · obtain ⟨i, rfl, hi, k⟩ := h
    refine ⟨_, (qss_one (qs_ret (qe_and (qe_cmpR op_gt (qv 0) qe_int (nomark _)) (qe_one (qe_cmpR (op_eqD hr.units) (qe_callP pPrimes hr rfl passN (qac (qv 0) qa_nil)) (qe_lst (qac (qe_tup (qac (qv 0) (qac qe_int qa_nil))) qa_nil)) (nomark _)))))), ?_⟩
    refine ⟨_, rfl, _, _, rfl, rfl, _, rfl, ?_⟩
    by_cases h1 : (1 : Int) < i
    · refine ifT h1 ?_
      obtain ⟨n, rfl⟩ : ∃ n : Nat, i = n := ⟨i.toNat, by omega⟩
      refine ⟨_, rfl, .inl ⟨n, rfl, by omega, by omega, fun l ws L H1 hl s1 hl1 t1 F1 => ?_⟩⟩
      refine ⟨_, rfl, by show 2 ≤ sizeLine; decide, fun t ht => ⟨by show 1 ≤ sizeLine; decide, fun m hm => ?_⟩⟩
      have s2 := same_new (o := .tup [.int (n : Nat), .int 1]) ht
      have s3 := same_new (o := .lst [.ref t]) hm
      have s4 := s2.trans s3
      refine ⟨.list (L.map ptup), .list ([(n, 1)].map ptup), ?_, ?_, shaped_ptups _, shaped_ptups _, ?_⟩
      · simp only [IsD]
        exact ⟨l, ws, rfl, SqL.of (s4 _ _ hl1), tups_isD (t1.same s4)⟩
      · simp only [IsD]
        exact ⟨m, [.ref t], rfl, SqL.of upd_same, tups_isD (ws := [.ref t]) (L := [(n, 1)]) ⟨⟨t, rfl, s3 _ _ upd_same⟩, trivial⟩⟩
      · refine k _ _ (s1.trans s4) ?_
        show PyData.eqv _ _ = true ↔ _
        simp only [PyData.eqv, eqv_ptups, decide_eq_true_eq]
        constructor
        · rintro rfl
          exact ⟨n, rfl, F1.pr_of⟩
        · rintro ⟨p, e, hp⟩
          have : p = n := by omega
          subst this
          exact F1.of_pr hp
    · refine ifF h1 ?_
      refine k false H (Same.refl H) ⟨fun z => (nomatch z), fun ⟨p, e, hp⟩ => ?_⟩
      have := hp.1
      omega
theorem scPlain : FnScope ["n", "factor", "p", "often", "turn"] ["n"] (defScope sPlain) := ⟨rfl, rfl, rfl, by decide +kernel, rfl, by decide +kernel, by decide +kernel⟩
theorem ok_plain {f fM fP : Addr} {fd fdM fdP : FuncData} (F : Fun K "plain_part" "plain_part" sPlain f fd) (T : Txt K mg M C) (FM : Fun K "must_be_whole" "must_be_whole" sMust fM fdM) (bM : Binds K fdM ["thing"] []) (mM : mg "must_be_whole" = some (.ref fM))
    (GM : FnOk P w K mg base (CX1 P w) 2 fM fdM ["thing"] (spMust K C)) (FP : Fun K "primes_of" "primes_of" sPrimes fP fdP) (bP : Binds K fdP ["n"] []) (mP : mg "primes_of" = some (.ref fP)) (GP : FnOk P w K mg base (CX1 P w) 4 fP fdP ["n"] (spPrimes K C)) :
    FnOk P w K mg base (CX1 P w) 5 f fd ["n"] (spPlain K C) := by
  refine F.okXQ scPlain (fun vs H Q E h => ?_) (fun cdv A outer s H vs Q E hr h => ?_)
  · rcases h with ⟨n, rfl, _⟩ | ⟨v, rfl, _⟩ <;> rfl
  · have hr2 : Room 2 (A.deeper (PyProof.Rows.envOfC "plain_part" (defScope sPlain) s.heap.objs.size f cdv)) := hr.mono (by decide)
    refine ⟨_, qss_cons (qs_expr (qe_call GM hr2 rfl mM FM.kp bM .nil (passE rfl) (qac (qv 0) qa_nil)))
      (qss_cons (qs_if (qt_cmpR op_eq (qv 0) qe_int (nomark _)) (qss_one (qs_raise T.eC.ex rfl T.mgC rfl rfl (qac qe_str qa_nil))) qss_nil)
      (QSs.nox (qss_cons (qs_set (i := 1) scPlain.nd rfl (Or.inl rfl) qe_int)
      (qss_cons (qs_for PassesOwn.never rfl (qi_list (qe_call GP hr rfl mP FP.kp bP .nil passN (qac (qe_callB call_abs (by rfl) T.abs PyProof.Rows.boot_abs (qac (qv 0) qa_nil)) qa_nil)))
        (qg_tup rfl (qgs_cons (qg_name (i := 2) scPlain.nd rfl (Or.inl rfl)) (qgs_cons (qg_name (i := 3) scPlain.nd rfl (Or.inl rfl)) qgs_nil)))
        (qss_one (qs_for PassesOwn.never rfl (qi_range1 rfl T.range (qac (qe_op op_fdiv (qv 3) qe_int) qa_nil)) (qg_name (i := 4) scPlain.nd rfl (Or.inl rfl))
          (qss_one (qs_set (i := 1) scPlain.nd rfl (Or.inl rfl) (qe_op op_mul (qv 1) (qv 2)))))))
      (qss_one (qs_ret (qe_tup (qac (qe_op op_fdiv (qv 0) (qe_op op_mul (qv 1) (qv 1))) (qac (qv 1) qa_nil))))))))), ?_⟩
    rcases h with ⟨n, rfl, h0, hn, k⟩ | ⟨v, rfl, hv, k⟩
    · refine ⟨_, rfl, _, true, rfl, .int n, fun _ => ?_, fun z => (nomatch z)⟩
      refine ⟨_, rfl, rfl, _, rfl, ?_⟩
      rw [decide_eq_false (fun z => h0 (V.int.inj z))]
      refine iteF ?_
      refine ⟨_, rfl, n, rfl, .inl ⟨n.natAbs, by rw [abs_nat]; rfl, by omega, Nat.lt_trans hn (by decide), fun l ws L H1 hl s1 hl1 t1 F1 => ?_⟩⟩
      obtain ⟨pe, p1, p2, p3⟩ := F1.plain
      refine ⟨l, rfl, ⟨_, SqL.of hl1⟩, for_list (K := K) (a := l) (xs := ws)
        (fun i σ H2 => H2 = H1 ∧ ∃ (x2 x3 x4 : Option V), σ = [some (.int n), some (.int (EM.halfL (L.take i) : Nat)), x2, x3, x4])
        ⟨rfl, _, _, _, rfl⟩ (fun i σ H2 _ ⟨e, _⟩ => SqL.of (e ▸ hl1)) ?_ ?_⟩
      · rintro i v σ H2 hi ⟨rfl, x2, x3, x4, rfl⟩
        obtain ⟨t, x, rfl, hx, htx⟩ := t1.get hi
        have hxm : x ∈ L := List.mem_of_getElem? hx
        obtain ⟨h30, hxn⟩ := F1.few (by omega) hn x hxm
        refine ⟨t, _, rfl, SqT.of htx, rfl, _, _, rfl, _, _, rfl, rfl, ?_⟩
        refine ⟨_, rfl, _, _, rfl, rfl, ⟨by decide, by decide⟩, _, rfl, by omega, by omega, for_range (n := ((x.2 : Int) / 2).toNat)
          (fun j σ H3 => H3 = H2 ∧ ∃ (y4 : Option V), σ = [some (.int n), some (.int ((EM.halfL (L.take i) * x.1 ^ j : Nat) : Int)), some (.int (x.1 : Nat)), some (.int (x.2 : Nat)), y4])
          ⟨rfl, _, by rw [Nat.pow_zero, Nat.mul_one]; rfl⟩ ?_ ?_⟩
        · rintro j σ H3 hj ⟨rfl, y4, rfl⟩
          refine ⟨_, rfl, _, rfl, _, _, rfl, rfl, .inr ⟨by omega, by omega⟩, rfl, some (.int (0 + (j : Int))), ?_⟩
          rw [Nat.pow_succ, ← Nat.mul_assoc, Int.natCast_mul]
          rfl
        · rintro σ H3 ⟨rfl, y4, rfl⟩
          refine ⟨rfl, some (.int (x.1 : Nat)), some (.int (x.2 : Nat)), y4, ?_⟩
          have e : ((x.2 : Int) / 2).toNat = x.2 / 2 := by omega
          rw [EM.halfL_take hx, e]
      · rintro σ H2 ⟨rfl, x2, x3, x4, rfl⟩
        rw [t1.len, List.take_length]
        obtain ⟨sg, e1, e2, e3⟩ := EM.plain_int p1 pe
        have hle : EM.halfL L * EM.halfL L ≤ n.natAbs := by
          rw [pe]
          exact Nat.le_mul_of_pos_left _ p2
        have hle2 : EM.halfL L ≤ EM.halfL L * EM.halfL L := Nat.le_mul_of_pos_left _ p1
        have hq : ((EM.halfL L : Nat) : Int) * ((EM.halfL L : Nat) : Int) = ((EM.halfL L * EM.halfL L : Nat) : Int) := (Int.natCast_mul _ _).symm
        have hq0 : 1 ≤ EM.halfL L * EM.halfL L := Nat.mul_pos p1 p1
        refine ⟨_, rfl, _, rfl, _, rfl, _, _, rfl, rfl, .inl ⟨by omega, by omega⟩, _, _, rfl, rfl, ⟨by rw [hq]; omega, by rw [hq]; omega⟩, _, rfl, by show 2 ≤ sizeLine; decide, fun t ht => ?_⟩
        refine k t sg (EM.halfL L) _ (s1.trans (same_new ht)) ?_ e2 p1 ?_
        · rw [← e1]
          exact upd_same
        · rw [e3]
          exact p3
    · rcases hv with hv | rfl
      · exact ⟨_, rfl, _, false, rfl, hv, fun z => (nomatch z), fun _ => k⟩
      · refine ⟨_, rfl, _, true, rfl, .int 0, fun _ => ?_, fun z => (nomatch z)⟩
        refine ⟨_, rfl, rfl, _, rfl, ?_⟩
        rw [decide_eq_true rfl]
        exact iteT ⟨by show 1 ≤ sizeLine; decide, k⟩
theorem scPower : FnScope ["n", "exponent", "p", "power", "square", "left"] ["n", "exponent", "p"] (defScope sPower) := ⟨rfl, rfl, rfl, by decide +kernel, rfl, by decide +kernel, by decide +kernel⟩
theorem ok_power {f : Addr} {fd : FuncData} (F : Fun K "power_by" "power_by" sPower f fd) : FnOk P w K mg base CX0 1 f fd ["n", "exponent", "p"] spPower := by
  refine F.okQ scPower (fun vs H Q E h => ?_) (fun cdv A outer s H vs Q E hr h => ?_)
  · obtain ⟨n, e, p, rfl, _⟩ := h
    rfl
  · obtain ⟨n, e, p, rfl, h2, hp30, k⟩ := h
    refine ⟨_, (qss_cons (qs_set (i := 3) scPower.nd rfl (Or.inl rfl) qe_int)
      (qss_cons (qs_set (i := 4) scPower.nd rfl (Or.inl rfl) (qe_op op_mod (qv 0) (qv 2)))
      (qss_cons (qs_set (i := 5) scPower.nd rfl (Or.inl rfl) (qv 1))
      (qss_cons (qs_while PassesOwn.never (qt_cmpR op_gt (qv 5) qe_int (nomark _))
        (qss_cons (qs_if (qt_cmpR op_eq (qe_op op_mod (qv 5) qe_int) qe_int (nomark _)) (qss_one (qs_set (i := 3) scPower.nd rfl (Or.inl rfl) (qe_op op_mod (qe_op op_mul (qv 3) (qv 4)) (qv 2)))) qss_nil)
        (qss_cons (qs_set (i := 4) scPower.nd rfl (Or.inl rfl) (qe_op op_mod (qe_op op_mul (qv 4) (qv 4)) (qv 2)))
        (qss_one (qs_set (i := 5) scPower.nd rfl (Or.inl rfl) (qe_op op_fdiv (qv 5) qe_int))))))
      (qss_one (qs_ret (qv 3))))))), ?_⟩
    refine ⟨_, rfl, _, rfl, _, _, rfl, rfl, by omega, _, rfl, ?_⟩
    refine while_w (fun σ H2 => H2 = H ∧ ∃ (pw sq lf : Nat), σ = [some (.int n), some (.int (e : Nat)), some (.int (p : Nat)), some (.int (pw : Nat)), some (.int (sq : Nat)), some (.int (lf : Nat))] ∧ pw < p ∧ sq < p ∧ pw * sq ^ lf % p = EM.am n p ^ e % p)
      (fun σ _ => match σ with | [_, _, _, _, _, some (.int lf)] => lf.toNat | _ => 0)
      ⟨rfl, 1, EM.am n p, e, by rw [EM.am_cast (by omega)]; rfl, by omega, EM.am_lt (by omega) n, by rw [Nat.one_mul]⟩ ?_
    rintro m σ H2 ⟨rfl, pw, sq, lf, rfl, hpw, hsq, inv⟩ hm
    refine ⟨_, rfl, _, _, rfl, rfl, _, rfl, ?_⟩
    refine ite2 (fun hc => WTurn.of ?_) (fun hc => ?_)
    · have hlf : 0 < lf := by
        have := of_decide_eq_true hc
        omega
      have less : lf / 2 < lf := Nat.div_lt_self hlf (by decide)
      have fin : ∀ x : Nat, (((lf : Int) / 2).toNat < (lf : Int).toNat) := fun _ => by omega
      refine ⟨_, rfl, _, _, rfl, rfl, (by show (0 : Int) < 2; decide), rfl, _, rfl, ?_⟩
      by_cases ho : lf % 2 = 1
      · refine ifT (congrArg V.int (show (lf : Int) % 2 = 1 by omega)) ?_
        refine ⟨_, rfl, _, rfl, _, _, rfl, rfl, .inl ⟨by omega, by omega⟩, _, rfl, _, _, rfl, rfl, by omega, ?_⟩
        refine ⟨_, rfl, _, rfl, _, _, rfl, rfl, .inl ⟨by omega, by omega⟩, _, rfl, _, _, rfl, rfl, by omega, ?_⟩
        refine ⟨_, rfl, _, _, rfl, rfl, ⟨by decide, by decide⟩, ⟨rfl, pw * sq % p, sq * sq % p, lf / 2, rfl, Nat.mod_lt _ (by omega), Nat.mod_lt _ (by omega), ?_⟩, ?_⟩
        · rw [EM.pow_step p pw sq lf ho]
          exact inv
        · rw [hm]
          exact fin 0
      · refine ifF (fun z => ho (by have := V.int.inj z; omega)) ?_
        refine ⟨_, rfl, _, rfl, _, _, rfl, rfl, .inl ⟨by omega, by omega⟩, _, rfl, _, _, rfl, rfl, by omega, ?_⟩
        refine ⟨_, rfl, _, _, rfl, rfl, ⟨by decide, by decide⟩, ⟨rfl, pw, sq * sq % p, lf / 2, rfl, hpw, Nat.mod_lt _ (by omega), ?_⟩, ?_⟩
        · rw [EM.pow_even p pw sq lf (by omega)]
          exact inv
        · rw [hm]
          exact fin 0
    · have hlf : lf = 0 := by
        have : ¬ (0 < (lf : Int)) := fun z => hc (decide_eq_true z)
        omega
      subst hlf
      rw [Nat.pow_zero, Nat.mul_one, Nat.mod_eq_of_lt hpw] at inv
      rw [← inv] at k
      exact ⟨_, rfl, k⟩
theorem scIsRest : FnScope ["n", "p"] ["n", "p"] (defScope sIsRest) := ⟨rfl, rfl, rfl, by decide +kernel, rfl, by decide +kernel, by decide +kernel⟩
theorem ok_isrest {f : Addr} {fd : FuncData} (F : Fun K "is_rest" "is_rest" sIsRest f fd) (T : Txt K mg M C) (pMust : Pm P w K mg base (CX1 P w) 2 "must_be_whole" ["thing"] (spMust K C)) (pIsPrime : Pm P w K mg base CX0 5 "is_prime" ["p"] spIsPrime)
    (pPower : Pm P w K mg base CX0 1 "power_by" ["n", "exponent", "p"] spPower) : FnOk P w K mg base (CX1 P w) 6 f fd ["n", "p"] (spIsRest K C) := by
  refine F.okXQ scIsRest (fun vs H Q E h => ?_) (fun cdv A outer s H vs Q E hr h => ?_)
  · rcases h with ⟨n, p, rfl, _⟩ | ⟨v, u, rfl, _⟩ <;> rfl
  · have hr1 : Room 1 (A.deeper (PyProof.Rows.envOfC "is_rest" (defScope sIsRest) s.heap.objs.size f cdv)) := hr.mono (by decide)
    have hr2 : Room 2 (A.deeper (PyProof.Rows.envOfC "is_rest" (defScope sIsRest) s.heap.objs.size f cdv)) := hr.mono (by decide)
    refine ⟨_, (qss_cons (qs_expr (qe_callP pMust hr2 rfl (passE rfl) (qac (qv 0) qa_nil)))
      (qss_cons (qs_expr (qe_callP pMust hr2 rfl (passE rfl) (qac (qv 1) qa_nil)))
      (qss_cons (qs_if (qt_not (qt_val (qe_callP pIsPrime hr rfl pass0 (qac (qv 1) qa_nil)))) (qss_one (qs_raise T.eC.ex rfl T.mgC rfl rfl (qac qe_str qa_nil))) qss_nil)
      (qss_one (qs_ret (qe_or (qe_cmpR op_eq (qv 1) qe_int (nomark _)) (qe_one (qe_cmpR op_in_seq (qe_callP pPower hr1 rfl pass0 (qac (qv 0) (qac (qe_op op_fdiv (qe_op op_sub (qv 1) qe_int) qe_int) (qac (qv 1) qa_nil)))) (qe_tup (qac qe_int (qac qe_int qa_nil))) rfl)))))))), ?_⟩
    rcases h with ⟨n, p, rfl, hp, hp30, k⟩ | ⟨v, u, rfl, hv, k⟩
    · have h2 := hp.1
      refine ⟨_, rfl, _, true, rfl, .int n, fun _ => ?_, fun z => (nomatch z)⟩
      refine ⟨_, rfl, _, true, rfl, .int _, fun _ => ?_, fun z => (nomatch z)⟩
      refine ⟨_, rfl, _, rfl, by omega, fun b H1 s1 hb => ⟨b, rfl, ?_⟩⟩
      have hbt : b = true := hb.mpr ⟨p, rfl, hp⟩
      subst hbt
      refine iteF ?_
      refine ⟨_, rfl, rfl, _, rfl, ?_⟩
      by_cases h22 : p = 2
      · subst h22
        refine ifT rfl ?_
        exact k true H1 s1 ⟨fun _ => EM.rest_two n, fun _ => rfl⟩
      · refine ifF (fun z => h22 (by have := V.int.inj z; omega)) ?_
        refine ⟨_, rfl, _, rfl, _, _, rfl, rfl, _, _, rfl, rfl, ⟨by decide, by decide⟩, _, rfl, n, (p - 1) / 2, p, ?_, h2, hp30, ?_⟩
        · have e : ((p : Int) - 1) / 2 = (((p - 1) / 2 : Nat) : Int) := by omega
          show [V.int n, V.int (((p : Int) - 1) / 2), V.int (p : Nat)] = _
          rw [e]
        · refine ⟨by show 2 ≤ sizeLine; decide, fun t ht => ?_⟩
          refine ⟨t, _, rfl, .inr (SqT.of upd_same), rfl, rfl, ?_⟩
          refine k _ _ (s1.trans (same_new ht)) ?_
          rw [← EM.euler_rest hp h22 n]
          generalize EM.am n p ^ ((p - 1) / 2) % p = z
          show (inV (V.int ((z : Nat) : Int)) [V.int 0, V.int 1] = true) ↔ _
          unfold inV
          simp only [List.any_cons, List.any_nil, Bool.or_false, eqV, Bool.or_eq_true, beq_iff_eq]
          omega
    · rcases hv with hv | ⟨⟨n, rfl⟩, hu⟩
      · exact ⟨_, rfl, _, false, rfl, hv, fun z => (nomatch z), fun _ => k H (Same.refl H)⟩
      · refine ⟨_, rfl, _, true, rfl, .int n, fun _ => ?_, fun z => (nomatch z)⟩
        rcases hu with hu | ⟨i, rfl, hi, hno⟩
        · exact ⟨_, rfl, _, false, rfl, hu, fun z => (nomatch z), fun _ => k H (Same.refl H)⟩
        · refine ⟨_, rfl, _, true, rfl, .int i, fun _ => ?_, fun z => (nomatch z)⟩
          refine ⟨_, rfl, _, rfl, hi, fun b H1 s1 hb => ⟨b, rfl, ?_⟩⟩
          have hbf : b = false := by
            cases b with
            | false => rfl
            | true => exact absurd (hb.mp rfl) hno
          subst hbf
          exact iteT ⟨by show 1 ≤ sizeLine; decide, k H1 s1⟩
theorem scPShut : FnScope ["s", "t", "p"] ["s", "t", "p"] (defScope sPShut) := ⟨rfl, rfl, rfl, by decide +kernel, rfl, by decide +kernel, by decide +kernel⟩
theorem ok_pshut {f : Addr} {fd : FuncData} (F : Fun K "prime_shuts_plain" "prime_shuts_plain" sPShut f fd) (pIsRest : Pm P w K mg base (CX1 P w) 6 "is_rest" ["n", "p"] (spIsRest K C)) : FnOk P w K mg base CX0 7 f fd ["s", "t", "p"] spPShut := by
  refine F.okQ scPShut (fun vs H Q E h => ?_) (fun cdv A outer s H vs Q E hr h => ?_)
  · obtain ⟨s, t, p, rfl, _⟩ := h
    rfl
  · obtain ⟨sg, tg, p, rfl, hs40, ht40, hp, hp30, k⟩ := h
    have h2 := hp.1
    refine ⟨_, (qss_cons (qs_if (QW.pt (qw_and (qt_cmpR op_eq (qe_op op_mod (qv 0) (qv 2)) qe_int (nomark _)) (qw_and1 (qt_cmpR op_eq (qe_op op_mod (qv 1) (qv 2)) qe_int (nomark _))))) (qss_one (qs_ret (qe_not (qe_callP pIsRest hr rfl passN (qac (qe_op op_mul (qe_un un_neg (qe_op op_fdiv (qv 0) (qv 2))) (qe_op op_fdiv (qv 1) (qv 2))) (qac (qv 2) qa_nil)))))) qss_nil)
      (qss_cons (qs_if (qt_cmpR op_eq (qe_op op_mod (qv 0) (qv 2)) qe_int (nomark _)) (qss_one (qs_ret (qe_not (qe_callP pIsRest hr rfl passN (qac (qv 1) (qac (qv 2) qa_nil)))))) qss_nil)
      (qss_cons (qs_if (qt_cmpR op_eq (qe_op op_mod (qv 1) (qv 2)) qe_int (nomark _)) (qss_one (qs_ret (qe_not (qe_callP pIsRest hr rfl passN (qac (qv 0) (qac (qv 2) qa_nil)))))) qss_nil)
      (qss_one (qs_ret qe_bl))))), ?_⟩
    refine ⟨_, rfl, _, rfl, _, _, rfl, rfl, by omega, rfl, _, rfl, ?_⟩
    have hdb : ∀ (x : Int), x.natAbs < 2 ^ 40 → -(2 ^ 64) < -(x / (p : Int)) ∧ -(x / (p : Int)) < 2 ^ 64 := fun x hx => by
      have h1 := Int.ediv_nonneg_iff_of_pos (a := x) (b := (p : Int)) (by omega)
      have h3 : (x / (p : Int)).natAbs ≤ x.natAbs := Int.natAbs_ediv_le_natAbs x p
      omega
    by_cases ds : (p : Int) ∣ sg
    · refine ifT (emod_dvd.mpr ds) ?_
      refine ⟨_, rfl, _, rfl, _, _, rfl, rfl, by omega, rfl, _, rfl, ?_⟩
      by_cases dt : (p : Int) ∣ tg
      · refine ifT (emod_dvd.mpr dt) ?_
        refine ⟨_, rfl, _, rfl, _, _, rfl, rfl, ⟨by omega, by omega⟩, _, rfl, _, rfl, _, rfl, _, _, rfl, rfl, ⟨by omega, by omega⟩, _, _, rfl, rfl, .inl (hdb sg hs40), _, rfl, .inl ⟨_, p, rfl, hp, hp30, fun b H1 s1 hb => ⟨b, rfl, k _ _ s1 ?_⟩⟩⟩
        rw [not_rest hb]
        constructor
        · exact fun z => .inl ⟨ds, dt, z⟩
        · rintro (z | z | z)
          · exact z.2.2
          · exact absurd dt z.2.1
          · exact absurd ds z.1
      · refine ifF (fun z => dt (emod_dvd.mp z)) ?_
        refine ⟨_, rfl, _, rfl, _, _, rfl, rfl, by omega, rfl, _, rfl, ifT (emod_dvd.mpr ds) ?_⟩
        refine ⟨_, rfl, _, rfl, .inl ⟨_, p, rfl, hp, hp30, fun b H1 s1 hb => ⟨b, rfl, k _ _ s1 ?_⟩⟩⟩
        rw [not_rest hb]
        constructor
        · exact fun z => .inr (.inl ⟨ds, dt, z⟩)
        · rintro (z | z | z)
          · exact absurd z.2.1 dt
          · exact z.2.2
          · exact absurd ds z.1
    · refine ifF (fun z => ds (emod_dvd.mp z)) ?_
      refine ⟨_, rfl, _, rfl, _, _, rfl, rfl, by omega, rfl, _, rfl, ifF (fun z => ds (emod_dvd.mp z)) ?_⟩
      refine ⟨_, rfl, _, rfl, _, _, rfl, rfl, by omega, rfl, _, rfl, ?_⟩
      by_cases dt : (p : Int) ∣ tg
      · refine ifT (emod_dvd.mpr dt) ?_
        refine ⟨_, rfl, _, rfl, .inl ⟨_, p, rfl, hp, hp30, fun b H1 s1 hb => ⟨b, rfl, k _ _ s1 ?_⟩⟩⟩
        rw [not_rest hb]
        constructor
        · exact fun z => .inr (.inr ⟨ds, dt, z⟩)
        · rintro (z | z | z)
          · exact absurd z.1 ds
          · exact absurd z.1 ds
          · exact z.2.2
      · refine ifF (fun z => dt (emod_dvd.mp z)) ?_
        refine k false H (Same.refl H) ⟨fun z => (nomatch z), fun z => ?_⟩
        rcases z.dvd with q | q
        · exact absurd q ds
        · exact absurd q dt
theorem scShuts : FnScope ["a", "b", "p", "s", "t"] ["a", "b", "p"] (defScope sShuts) := ⟨rfl, rfl, rfl, by decide +kernel, rfl, by decide +kernel, by decide +kernel⟩
theorem ok_shuts {f : Addr} {fd : FuncData} (F : Fun K "shuts" "shuts" sShuts f fd) (pPlain : Pm P w K mg base (CX1 P w) 5 "plain_part" ["n"] (spPlain K C)) (pMust : Pm P w K mg base (CX1 P w) 2 "must_be_whole" ["thing"] (spMust K C))
    (pIsPrime : Pm P w K mg base CX0 5 "is_prime" ["p"] spIsPrime) (pPShut : Pm P w K mg base CX0 7 "prime_shuts_plain" ["s", "t", "p"] spPShut) : FnOk P w K mg base (CX1 P w) 8 f fd ["a", "b", "p"] (spShuts K C) := by
  refine F.okXQ scShuts (fun vs H Q E h => ?_) (fun cdv A outer s H vs Q E hr h => ?_)
  · rcases h with ⟨a, b, i, rfl, _⟩ | ⟨v, u, x, rfl, _⟩ <;> rfl
  · have hr2 : Room 2 (A.deeper (PyProof.Rows.envOfC "shuts" (defScope sShuts) s.heap.objs.size f cdv)) := hr.mono (by decide)
    have hr5 : Room 5 (A.deeper (PyProof.Rows.envOfC "shuts" (defScope sShuts) s.heap.objs.size f cdv)) := hr.mono (by decide)
    refine ⟨_, (qss_cons (qs_set (i := 3) scShuts.nd rfl (Or.inl rfl) (qe_ix ix_tup (qe_callP pPlain hr5 rfl (passE rfl) (qac (qv 0) qa_nil)) qe_int (fun _ _ => rfl)))
      (qss_cons (qs_set (i := 4) scShuts.nd rfl (Or.inl rfl) (qe_ix ix_tup (qe_callP pPlain hr5 rfl (passE rfl) (qac (qv 1) qa_nil)) qe_int (fun _ _ => rfl)))
      (qss_cons (qs_expr (qe_callP pMust hr2 rfl (passE rfl) (qac (qv 2) qa_nil)))
      (qss_one (qs_ret (qe_and (qe_cmpR op_ne (qv 2) qe_int (nomark _)) (qe_and (qe_callP pIsPrime hr5 rfl pass0 (qac (qv 2) qa_nil)) (qe_one (qe_callP pPShut hr rfl pass0 (qac (qv 3) (qac (qv 4) (qac (qv 2) qa_nil)))))))))))), ?_⟩
    have bad : ∀ {v : V} {H1 : Hp}, BadNum K H1 v → (∀ H', Same H H' → E (.ref C) none H') → Same H H1 → spPlain K C [v] H1 (fun _ _ => True) E := fun {v H1} hv k s1 => .inr ⟨v, rfl, hv, k H1 s1⟩
    rcases h with ⟨a, b, i, rfl, ha0, hb0, ha, hb, hi, k⟩ | ⟨v, u, x, rfl, hv, k⟩
    · refine ⟨_, rfl, .inl ⟨a, rfl, ha0, ha, fun ta sa fa H1 s1 ht1 ea pa qa => ?_⟩⟩
      refine ⟨ta, _, 0, .int sa, rfl, rfl, SqT.of ht1, rfl, ?_⟩
      refine ⟨_, rfl, .inl ⟨b, rfl, hb0, hb, fun tb sb fb H2 s2 ht2 eb pb qb => ?_⟩⟩
      refine ⟨tb, _, 0, .int sb, rfl, rfl, SqT.of ht2, rfl, ?_⟩
      have PA : EM.PlainOf a sa fa := ⟨ea, pa, qa⟩
      have PB : EM.PlainOf b sb fb := ⟨eb, pb, qb⟩
      have le : ∀ {n s : Int} {f : Nat}, EM.PlainOf n s f → s.natAbs ≤ n.natAbs := fun {n s f} h => by
        have e : n.natAbs = s.natAbs * (f * f) := by rw [h.eq, Int.natAbs_mul, Int.natAbs_mul]; rfl
        rw [e]
        exact Nat.le_mul_of_pos_right _ (Nat.mul_pos h.pos h.pos)
      have la := le PA
      have lb := le PB
      refine ⟨_, rfl, _, true, rfl, .int i, fun _ => ?_, fun z => (nomatch z)⟩
      refine ⟨_, rfl, rfl, _, rfl, ?_⟩
      by_cases i2 : i = 2
      · subst i2
        have e : (!decide (V.int 2 = V.int 2)) = false := rfl
        refine iteF ?_
        refine k false _ (s1.trans s2) ⟨fun z => (nomatch z), fun ⟨p, e, _, ne, _⟩ => absurd (show p = 2 by omega) ne⟩
      · have e : (!decide (V.int i = V.int 2)) = true := by rw [decide_eq_false (fun z => i2 (V.int.inj z))]; rfl
        rw [show (!decide (V.int i = V.int 2)) = true from e]
        refine iteT ?_
        refine ⟨_, rfl, i, rfl, by omega, fun c H3 s3 hc => ⟨c, rfl, ?_⟩⟩
        cases c with
        | false =>
          refine iteF (k false _ ((s1.trans s2).trans s3) ⟨fun z => (nomatch z), fun ⟨p, e, hp, _, _⟩ => ?_⟩)
          exact absurd (hc.mpr ⟨p, e, hp⟩) (fun z => nomatch z)
        | true =>
          obtain ⟨p, rfl, hp⟩ := hc.mp rfl
          refine iteT ?_
          refine ⟨_, rfl, _, rfl, _, rfl, sa, sb, p, rfl, by omega, by omega, hp, by omega, fun c2 H4 s4 hc2 => ?_⟩
          refine k c2 _ (((s1.trans s2).trans s3).trans s4) (hc2.trans ?_)
          rw [← EM.Shuts.iff PA PB p]
          constructor
          · exact fun z => ⟨p, rfl, hp, by omega, z⟩
          · rintro ⟨p', e', _, _, z⟩
            have : p' = p := by omega
            exact this ▸ z
    · rcases hv with hv | ⟨⟨n, rfl, n0, nb⟩, hu⟩
      · exact ⟨_, rfl, .inr ⟨v, rfl, hv, k H (Same.refl H)⟩⟩
      · refine ⟨_, rfl, .inl ⟨n, rfl, n0, nb, fun ta sa fa H1 s1 ht1 ea pa qa => ?_⟩⟩
        refine ⟨ta, _, 0, .int sa, rfl, rfl, SqT.of ht1, rfl, ?_⟩
        exact ⟨_, rfl, .inr ⟨u, rfl, hu.same s1, k H1 s1⟩⟩
def spNoRest : Sp := fun vs H Q _ => ∃ p : Nat, vs = [.int (p : Nat)] ∧ EM.IsPr p ∧ p ≠ 2 ∧ p < 2 ^ 30 ∧ ∀ (z : Nat) (H' : Hp), Same H H' → ¬ EM.Rest p z → Q (.int (z : Nat)) H'
theorem scLeastNoRest : FnScope ["p", "n"] ["p"] (defScope sLeastNoRest) := ⟨rfl, rfl, rfl, by decide +kernel, rfl, by decide +kernel, by decide +kernel⟩
theorem ok_norest {f : Addr} {fd : FuncData} (F : Fun K "least_no_rest" "least_no_rest" sLeastNoRest f fd) (pIsRest : Pm P w K mg base (CX1 P w) 6 "is_rest" ["n", "p"] (spIsRest K C)) : FnOk P w K mg base CX0 7 f fd ["p"] spNoRest := by
  refine F.okQ scLeastNoRest (fun vs H Q E h => ?_) (fun cdv A outer s H vs Q E hr6 h => ?_)
  · obtain ⟨p, rfl, _⟩ := h
    rfl
  · obtain ⟨p, rfl, hp, ho, hp30, k⟩ := h
    refine ⟨_, (qss_cons (qs_set (i := 1) scLeastNoRest.nd rfl (Or.inl rfl) qe_int)
      (qss_cons (qs_while PassesOwn.never (qt_val (qe_callP pIsRest hr6 rfl passN (qac (qv 1) (qac (qv 0) qa_nil))))
        (qss_one (qs_aug (i := 1) scLeastNoRest.nd rfl (Or.inl rfl) qe_int ip_add)))
      (qss_one (qs_ret (qv 1))))), ?_⟩
    obtain ⟨z0, z2, zp, zn⟩ := EM.has_no_rest hp ho
    refine while_w (fun σ H2 => Same H H2 ∧ ∃ n : Nat, σ = [some (.int (p : Nat)), some (.int (n : Nat))] ∧ n ≤ z0) (fun σ _ => match σ with | [_, some (.int n)] => z0 - n.toNat | _ => 0) ⟨Same.refl H, 2, rfl, z2⟩ ?_
    rintro m σ H2 ⟨s2, n, rfl, hn⟩ hm
    refine ⟨_, rfl, _, rfl, .inl ⟨_, p, rfl, hp, hp30, fun b H3 s3 hb => ⟨b, rfl, ?_⟩⟩⟩
    cases b with
    | true =>
      refine iteT (WTurn.of ?_)
      have hr := hb.mp rfl
      have hlt : n < z0 := by
        rcases Nat.lt_or_ge n z0 with q | q
        · exact q
        · have : n = z0 := by omega
          exact absurd (this ▸ hr) zn
      refine ⟨_, rfl, _, _, rfl, rfl, ⟨s2.trans s3, n + 1, rfl, by omega⟩, ?_⟩
      rw [hm]
      show z0 - ((n : Int) + 1).toNat < z0 - ((n : Int)).toNat
      omega
    | false =>
      refine iteF ?_
      exact ⟨_, rfl, k n H3 (s2.trans s3) fun q => absurd (hb.mpr q) (fun z => nomatch z)⟩
def spRootP : Sp := fun vs H Q _ => ∃ (n : Int) (p : Nat), vs = [.int n, .int (p : Nat)] ∧ EM.IsPr p ∧ p < 2 ^ 30 ∧ EM.Rest p n ∧ ∀ (r : Nat) (H' : Hp), Same H H' → r < p → (p : Int) ∣ (r : Int) * (r : Int) - n → Q (.int (r : Nat)) H'
theorem iteVia' {c : Bool} {t1 t2 : TS} {D : Ends} {σ : St} {H : Hp} (J : St → Hp → Prop) (hJ : ∀ σ' H', J σ' H' → D.nx σ' H') (h1 : c = true → (∀ σ' H', J σ' H' → D.nx σ' H') → t1 D σ H) (h2 : ¬ c = true → (∀ σ' H', J σ' H' → D.nx σ' H') → t2 D σ H) : if c = true then t1 D σ H else t2 D σ H := ite2 (fun h => h1 h hJ) (fun h => h2 h hJ)
theorem mod_dvd {p : Nat} (h : 1 ≤ p) (x : Int) (y : Nat) (e : ((y % p : Nat) : Int) = x % (p : Int)) : (p : Int) ∣ ((y % p : Nat) : Int) - x := by
  rw [e]
  have := Int.emod_add_mul_ediv x p
  exact ⟨-(x / p), by grind⟩
theorem scRootByPrime : FnScope ["n", "p", "odd", "root", "excess", "turner", "half"] ["n", "p"] (defScope sRootByPrime) := ⟨rfl, rfl, rfl, by decide +kernel, rfl, by decide +kernel, by decide +kernel⟩
theorem ok_rootp {f : Addr} {fd : FuncData} (F : Fun K "root_by_prime" "root_by_prime" sRootByPrime f fd) (pPower : Pm P w K mg base CX0 1 "power_by" ["n", "exponent", "p"] spPower) (pLeastNoRest : Pm P w K mg base CX0 7 "least_no_rest" ["p"] spNoRest) : FnOk P w K mg base CX0 8 f fd ["n", "p"] spRootP := by
  refine F.okQ scRootByPrime (fun vs H Q E h => ?_) (fun cdv A outer s H vs Q E hr7 h => ?_)
  · obtain ⟨n, p, rfl, _⟩ := h
    rfl
  · obtain ⟨n, p, rfl, hp, hp30, hrest, k⟩ := h
    have h2 := hp.1
    have hr1 : Room 1 (A.deeper (PyProof.Rows.envOfC "root_by_prime" (defScope sRootByPrime) s.heap.objs.size f cdv)) := hr7.mono (by decide)
    refine ⟨_, (qss_cons (qs_if (qt_cmpR op_eq (qv 1) qe_int (nomark _)) (qss_one (qs_ret (qe_op op_mod (qv 0) qe_int))) qss_nil)
      (qss_cons (qs_set (i := 2) scRootByPrime.nd rfl (Or.inl rfl) (qe_op op_sub (qv 1) qe_int))
      (qss_cons (qs_while PassesOwn.never (qt_cmpR op_eq (qe_op op_mod (qv 2) qe_int) qe_int (nomark _))
        (qss_one (qs_set (i := 2) scRootByPrime.nd rfl (Or.inl rfl) (qe_op op_fdiv (qv 2) qe_int))))
      (qss_cons (qs_set (i := 3) scRootByPrime.nd rfl (Or.inl rfl) (qe_callP pPower hr1 rfl pass0 (qac (qv 0) (qac (qe_op op_fdiv (qe_op op_add (qv 2) qe_int) qe_int) (qac (qv 1) qa_nil)))))
      (qss_cons (qs_set (i := 4) scRootByPrime.nd rfl (Or.inl rfl) (qe_callP pPower hr1 rfl pass0 (qac (qv 0) (qac (qv 2) (qac (qv 1) qa_nil)))))
      (qss_cons (qs_set (i := 5) scRootByPrime.nd rfl (Or.inl rfl) (qe_callP pPower hr1 rfl pass0 (qac (qe_callP pLeastNoRest hr7 rfl pass0 (qac (qv 1) qa_nil)) (qac (qv 2) (qac (qv 1) qa_nil)))))
      (qss_cons (qs_set (i := 6) scRootByPrime.nd rfl (Or.inl rfl) (qe_op op_fdiv (qe_op op_fdiv (qe_op op_sub (qv 1) qe_int) (qv 2)) qe_int))
      (qss_cons (qs_while PassesOwn.never (qt_cmpR op_gt (qv 6) qe_int (nomark _))
        (qss_cons (qs_if (qt_cmpR op_ne (qe_callP pPower hr1 rfl pass0 (qac (qv 4) (qac (qv 6) (qac (qv 1) qa_nil)))) qe_int (nomark _)) (qss_cons (qs_set (i := 3) scRootByPrime.nd rfl (Or.inl rfl) (qe_op op_mod (qe_op op_mul (qv 3) (qv 5)) (qv 1)))
          (qss_one (qs_set (i := 4) scRootByPrime.nd rfl (Or.inl rfl) (qe_op op_mod (qe_op op_mul (qe_op op_mul (qv 4) (qv 5)) (qv 5)) (qv 1))))) qss_nil)
        (qss_cons (qs_set (i := 5) scRootByPrime.nd rfl (Or.inl rfl) (qe_op op_mod (qe_op op_mul (qv 5) (qv 5)) (qv 1)))
        (qss_one (qs_set (i := 6) scRootByPrime.nd rfl (Or.inl rfl) (qe_op op_fdiv (qv 6) qe_int))))))
      (qss_one (qs_ret (qv 3))))))))))), ?_⟩
    refine ⟨_, rfl, rfl, _, rfl, ?_⟩
    by_cases ho : p = 2
    · subst ho
      refine ifT rfl ?_
      refine ⟨_, rfl, _, _, rfl, rfl, (by show (0 : Int) < 2; decide), ?_⟩
      have e : n % 2 = (((n % 2).toNat : Nat) : Int) := by omega
      show Q (.int (n % 2)) H
      rw [e]
      refine k _ H (Same.refl H) (by omega) ?_
      have : (n % 2).toNat = 0 ∨ (n % 2).toNat = 1 := by omega
      rcases this with q | q <;> rw [q]
      · show (2 : Int) ∣ 0 * 0 - n
        omega
      · show (2 : Int) ∣ 1 * 1 - n
        omega
    refine ifF (fun z => ho (by have := V.int.inj z; omega)) ?_
    have po := EM.odd_pr hp ho
    refine ⟨_, rfl, _, _, rfl, rfl, ?_⟩
    refine while_w (fun σ H2 => H2 = H ∧ ∃ (od e : Nat), σ = [some (.int n), some (.int (p : Nat)), some (.int (od : Nat)), none, none, none, none] ∧ p - 1 = od * 2 ^ e ∧ 1 ≤ od)
      (fun σ _ => match σ with | [_, _, some (.int od), _, _, _, _] => od.toNat | _ => 0) ⟨rfl, p - 1, 0, by rw [show ((p - 1 : Nat) : Int) = (p : Int) - 1 by omega]; rfl, by rw [Nat.pow_zero, Nat.mul_one], by omega⟩ ?_
    rintro m σ H2 ⟨rfl, od, e, rfl, ep, od1⟩ hm
    have odp : od ≤ p - 1 := ep ▸ Nat.le_mul_of_pos_right _ (Nat.pow_pos (by decide))
    refine ⟨_, rfl, _, _, rfl, rfl, (by show (0 : Int) < 2; decide), rfl, _, rfl, ?_⟩
    by_cases hev : od % 2 = 0
    · refine ifT (congrArg V.int (show (od : Int) % 2 = 0 by omega)) (WTurn.of ?_)
      refine ⟨_, rfl, _, _, rfl, rfl, ⟨by decide, by decide⟩, ⟨rfl, od / 2, e + 1, rfl, ?_, by omega⟩, ?_⟩
      · rw [ep, Nat.pow_succ, Nat.mul_comm (2 ^ e) 2, ← Nat.mul_assoc]
        congr 1
        omega
      · rw [hm]
        show ((od : Int) / 2).toNat < ((od : Int)).toNat
        omega
    refine ifF (fun z => hev (by have := V.int.inj z; omega)) ?_
    refine ⟨_, rfl, _, rfl, _, _, rfl, rfl, _, _, rfl, rfl, ⟨by decide, by decide⟩, _, rfl, n, (od + 1) / 2, p, rfl, h2, hp30, ?_⟩
    refine ⟨_, rfl, _, rfl, _, rfl, n, od, p, rfl, h2, hp30, ?_⟩
    refine ⟨_, rfl, p, rfl, hp, ho, hp30, fun z H3 s3 hz => ⟨_, rfl, _, rfl, (z : Int), od, p, rfl, h2, hp30, ?_⟩⟩
    refine ⟨_, rfl, _, _, rfl, rfl, _, rfl, _, _, rfl, rfl, ⟨by omega, by omega⟩, _, _, rfl, rfl, ⟨by decide, by decide⟩, ?_⟩
    refine while_w (fun σ H4 => H4 = H3 ∧ ∃ (rt ex tu hf : Nat), σ = [some (.int n), some (.int (p : Nat)), some (.int (od : Nat)), some (.int (rt : Nat)), some (.int (ex : Nat)), some (.int (tu : Nat)), some (.int (hf : Nat))] ∧ rt < p ∧ ex < p ∧ tu < p ∧ EM.TS p n rt ex tu hf)
      (fun σ _ => match σ with | [_, _, _, _, _, _, some (.int hf)] => hf.toNat | _ => 0) ⟨rfl, _, _, _, (p - 1) / od / 4, by rw [show (((p - 1) / od / 4 : Nat) : Int) = ((p : Int) - 1) / (od : Int) / 4 by rw [show (p : Int) - 1 = ((p - 1 : Nat) : Int) by omega]; rfl]; rfl, Nat.mod_lt _ (by omega), Nat.mod_lt _ (by omega), Nat.mod_lt _ (by omega), EM.TS.start hp ho hrest hz ep (by omega) (EM.pw_congr (by omega) _ _) (EM.pw_congr (by omega) _ _) (EM.pw_congr (by omega) _ _)⟩ ?_
    rintro m' σ H4 ⟨rfl, rt, ex, tu, hf, rfl, hrt, hex, htu, TT⟩ hm'
    refine ⟨_, rfl, _, _, rfl, rfl, _, rfl, ?_⟩
    refine ite2 (fun hc => WTurn.of ?_) (fun hc => ?_)
    · have hf0 : hf ≠ 0 := by
        have := of_decide_eq_true hc
        omega
      refine ⟨_, rfl, _, rfl, _, rfl, (ex : Int), hf, p, rfl, h2, hp30, rfl, _, rfl, ?_⟩
      refine iteVia' (fun σ' H' => H' = H4 ∧ ∃ (rt' ex' : Nat), σ' = [some (.int n), some (.int (p : Nat)), some (.int (od : Nat)), some (.int (rt' : Nat)), some (.int (ex' : Nat)), some (.int (tu : Nat)), some (.int (hf : Nat))] ∧ rt' < p ∧ ex' < p ∧ ∀ t' : Int, (p : Int) ∣ t' - (tu : Int) * (tu : Int) → EM.TS p n rt' ex' t' (hf / 2)) ?_ (fun hk go => ?_) (fun hk go => ?_)
      rotate_left
      · have hk' : ¬ EM.am (ex : Int) p ^ hf % p = 1 := fun q => by
          rw [q] at hk
          exact absurd hk (by decide)
        refine ⟨_, rfl, _, rfl, _, _, rfl, rfl, .inl ⟨by omega, by omega⟩, _, rfl, _, _, rfl, rfl, by omega, ?_⟩
        refine ⟨_, rfl, _, rfl, _, _, rfl, rfl, .inl ⟨by omega, by omega⟩, _, rfl, _, _, rfl, rfl, .inr ⟨by omega, by omega⟩, _, rfl, _, _, rfl, rfl, by omega, ?_⟩
        refine go _ _ ⟨rfl, rt * tu % p, ex * tu * tu % p, rfl, Nat.mod_lt _ (by omega), Nat.mod_lt _ (by omega), fun t' ht' => TT.turn hp hf0 (fun q => hk' ((EM.pw_one h2 _ _).mpr q)) ?_ ?_ ht'⟩
        · exact mod_dvd (by omega) _ _ rfl
        · exact mod_dvd (by omega) _ _ rfl
      · have hk' : EM.am (ex : Int) p ^ hf % p = 1 := Classical.byContradiction fun q => hk (by
          have : ¬ V.int ((EM.am (ex : Int) p ^ hf % p : Nat) : Int) = V.int 1 := fun z => q (by have := V.int.inj z; omega)
          rw [decide_eq_false this]
          rfl)
        exact go _ _ ⟨rfl, rt, ex, rfl, hrt, hex, fun t' ht' => TT.stay hf0 ((EM.pw_one h2 _ _).mp hk') ht'⟩
      rintro σ' H' ⟨rfl, rt', ex', rfl, hrt', hex', T'⟩
      refine ⟨_, rfl, _, rfl, _, _, rfl, rfl, .inl ⟨by omega, by omega⟩, _, rfl, _, _, rfl, rfl, by omega, ?_⟩
      refine ⟨_, rfl, _, _, rfl, rfl, ⟨by decide, by decide⟩, ⟨rfl, rt', ex', tu * tu % p, hf / 2, rfl, hrt', hex', Nat.mod_lt _ (by omega), T' _ (mod_dvd (by omega) _ _ rfl)⟩, ?_⟩
      rw [hm']
      show ((hf : Int) / 2).toNat < ((hf : Int)).toNat
      omega
    · have hf0 : hf = 0 := by
        have : ¬ (0 < (hf : Int)) := fun z => hc (decide_eq_true z)
        omega
      subst hf0
      exact ⟨_, rfl, k rt H4 s3 hrt TT.done⟩
def spRootPl : Sp := fun vs H Q _ => ∃ (n : Int) (pl : Nat), vs = [.int n, .int (pl : Nat)] ∧ 1 ≤ pl ∧ pl < 2 ^ 30 ∧ (∀ k, 2 ≤ k → ¬ k * k ∣ pl) ∧ (∀ p, EM.IsPr p → p ∣ pl → EM.Rest p n) ∧ ∀ (r : Nat) (H' : Hp), Same H H' → r < pl → (pl : Int) ∣ (r : Int) * (r : Int) - n → Q (.int (r : Nat)) H'
theorem scRootByPlain : FnScope ["n", "plain", "root", "made", "p", "often", "missing"] ["n", "plain"] (defScope sRootByPlain) := ⟨rfl, rfl, rfl, by decide +kernel, rfl, by decide +kernel, by decide +kernel⟩
theorem ok_rootpl {f : Addr} {fd : FuncData} (F : Fun K "root_by_plain" "root_by_plain" sRootByPlain f fd) (pPrimes : Pm P w K mg base (CX1 P w) 4 "primes_of" ["n"] (spPrimes K C)) (pPower : Pm P w K mg base CX0 1 "power_by" ["n", "exponent", "p"] spPower) (pRootByPrime : Pm P w K mg base CX0 8 "root_by_prime" ["n", "p"] spRootP) : FnOk P w K mg base CX0 9 f fd ["n", "plain"] spRootPl := by
  refine F.okQ scRootByPlain (fun vs H Q E h => ?_) (fun cdv A outer s H vs Q E hr8 h => ?_)
  · obtain ⟨n, p, rfl, _⟩ := h
    rfl
  · obtain ⟨n, pl, rfl, pl1, pl30, psq, prest, k⟩ := h
    have hr1 : Room 1 (A.deeper (PyProof.Rows.envOfC "root_by_plain" (defScope sRootByPlain) s.heap.objs.size f cdv)) := hr8.mono (by decide)
    have hr4 : Room 4 (A.deeper (PyProof.Rows.envOfC "root_by_plain" (defScope sRootByPlain) s.heap.objs.size f cdv)) := hr8.mono (by decide)
    refine ⟨_, (qss_cons (qs_set (i := 2) scRootByPlain.nd rfl (Or.inl rfl) qe_int)
      (qss_cons (qs_set (i := 3) scRootByPlain.nd rfl (Or.inl rfl) qe_int)
      (qss_cons (qs_for PassesOwn.never rfl (qi_list (qe_callP pPrimes hr4 rfl passN (qac (qv 1) qa_nil))) (qg_tup rfl (qgs_cons (qg_name (i := 4) scRootByPlain.nd rfl (Or.inl rfl)) (qgs_cons (qg_name (i := 5) scRootByPlain.nd rfl (Or.inl rfl)) qgs_nil)))
        (qss_cons (qs_set (i := 6) scRootByPlain.nd rfl (Or.inl rfl) (qe_op op_mod (qe_op op_mul (qe_op op_sub (qe_callP pRootByPrime hr8 rfl pass0 (qac (qv 0) (qac (qv 4) qa_nil))) (qv 2)) (qe_callP pPower hr1 rfl pass0 (qac (qv 3) (qac (qe_op op_sub (qv 4) qe_int) (qac (qv 4) qa_nil))))) (qv 4)))
        (qss_cons (qs_set (i := 2) scRootByPlain.nd rfl (Or.inl rfl) (qe_op op_add (qv 2) (qe_op op_mul (qv 3) (qv 6))))
        (qss_one (qs_set (i := 3) scRootByPlain.nd rfl (Or.inl rfl) (qe_op op_mul (qv 3) (qv 4)))))))
      (qss_one (qs_ret (qv 2)))))), ?_⟩
    refine ⟨_, rfl, .inl ⟨pl, rfl, pl1, Nat.lt_trans pl30 (by decide), fun l ws L H1 hl s1 hl1 t1 F1 => ?_⟩⟩
    refine ⟨l, rfl, ⟨_, SqL.of hl1⟩, for_list (K := K) (a := l) (xs := ws)
      (fun i σ H2 => Same H1 H2 ∧ ∃ (rt : Nat) (x4 x5 x6 : Option V), σ = [some (.int n), some (.int (pl : Nat)), some (.int (rt : Nat)), some (.int ((EM.prodL (L.take i) : Nat) : Int)), x4, x5, x6] ∧ rt < EM.prodL (L.take i) ∧ ((EM.prodL (L.take i) : Nat) : Int) ∣ (rt : Int) * (rt : Int) - n)
      ⟨Same.refl _, 0, _, _, _, rfl, by show 0 < 1; decide, ⟨0 * 0 - n, by show _ = (1 : Int) * _; omega⟩⟩ (fun i σ H2 _ ⟨e, _⟩ => SqL.of (e _ _ hl1)) ?_ ?_⟩
    · rintro i v σ H2 hi ⟨s2, rt, x4, x5, x6, rfl, hrt, hdv⟩
      obtain ⟨t, x, rfl, hx, htx⟩ := (t1.same s2).get hi
      obtain ⟨hp, hx2, hxn, hnd, hte, htn⟩ := F1.plain_step psq hx
      have h2 := hp.1
      have hxl : x.1 ≤ pl := Nat.le_of_dvd pl1 hxn
      have htl : EM.prodL (L.take (i + 1)) ≤ pl := Nat.le_of_dvd pl1 htn
      have hml : EM.prodL (L.take i) ≤ pl := Nat.le_trans (by rw [hte]; exact Nat.le_mul_of_pos_right _ (by omega)) htl
      refine ⟨t, _, rfl, SqT.of htx, rfl, _, _, rfl, _, _, rfl, rfl, ?_⟩
      refine ⟨_, rfl, _, rfl, n, x.1, rfl, hp, by omega, prest _ hp hxn, fun r H3 s3 hr hrn => ?_⟩
      refine ⟨_, rfl, _, _, rfl, rfl, ?_⟩
      refine ⟨_, rfl, _, rfl, _, _, rfl, rfl, _, rfl, ((EM.prodL (L.take i) : Nat) : Int), x.1 - 2, x.1, by rw [show ((x.1 - 2 : Nat) : Int) = (x.1 : Int) - 2 by omega]; rfl, h2, by omega, ?_⟩
      have hinv := EM.inv_pow hp hnd
      have hib : EM.am ((EM.prodL (L.take i) : Nat) : Int) x.1 ^ (x.1 - 2) % x.1 < x.1 := Nat.mod_lt _ (by omega)
      refine ⟨_, _, rfl, rfl, .inl ⟨by omega, by omega⟩, _, rfl, _, _, rfl, rfl, by omega, ?_⟩
      have hmm : (p : Int) → ∃ mN : Nat, p % (x.1 : Int) = (mN : Int) ∧ mN < x.1 ∧ (x.1 : Int) ∣ (mN : Int) - p := fun p => by
        have q1 := Int.emod_nonneg p (show (x.1 : Int) ≠ 0 by omega)
        have q2 := Int.emod_lt_of_pos p (show (0 : Int) < x.1 by omega)
        refine ⟨(p % (x.1 : Int)).toNat, by omega, by omega, ?_⟩
        rw [show (((p % (x.1 : Int)).toNat : Nat) : Int) = p % (x.1 : Int) by omega]
        have := Int.emod_add_mul_ediv p (x.1 : Int)
        exact ⟨-(p / (x.1 : Int)), by grind⟩
      obtain ⟨mN, em, hmN, hmd⟩ := hmm (((r : Int) - (rt : Int)) * ((EM.am ((EM.prodL (L.take i) : Nat) : Int) x.1 ^ (x.1 - 2) % x.1 : Nat) : Int))
      refine ⟨_, rfl, _, rfl, _, rfl, _, _, rfl, rfl, .inl ⟨by omega, by omega⟩, _, _, rfl, rfl, ?_⟩
      refine ⟨_, rfl, _, rfl, _, _, rfl, rfl, .inl ⟨by omega, by omega⟩, s2.trans s3, rt + EM.prodL (L.take i) * mN, some (.int (x.1 : Nat)), some (.int (x.2 : Nat)), some (.int ((((r : Int) - (rt : Int)) * ((EM.am ((EM.prodL (L.take i) : Nat) : Int) x.1 ^ (x.1 - 2) % x.1 : Nat) : Int)) % (x.1 : Int))), ?_, ?_, ?_⟩
      · rw [hte, Int.natCast_add, Int.natCast_mul, Int.natCast_mul, ← em]
        rfl
      · rw [hte]
        have q1 : EM.prodL (L.take i) * mN ≤ EM.prodL (L.take i) * (x.1 - 1) := Nat.mul_le_mul_left _ (by omega)
        have q2 : EM.prodL (L.take i) * x.1 = EM.prodL (L.take i) * (x.1 - 1) + EM.prodL (L.take i) := by
          rw [← Nat.mul_succ]
          congr 1
          omega
        omega
      · rw [hte]
        have := EM.crt_step hp hnd hdv hrn hinv hmd
        rw [Int.natCast_add, Int.natCast_mul (EM.prodL (L.take i)) mN]
        exact this
    · rintro σ H2 ⟨s2, rt, x4, x5, x6, rfl, hrt, hdv⟩
      rw [t1.len, List.take_length, F1.prod] at hrt hdv
      exact ⟨_, rfl, k rt H2 (s1.trans s2) hrt hdv⟩
theorem op_fdivL {X : Cx} : OpR X (binaryOp .FloorDiv) (rI (fun _ j => 0 < j ∧ j < 2 ^ 8000) fun i j => .int (i / j)) := opI fun i j _ _ _ _ _ hc q => by
  obtain ⟨h1, h2⟩ := hc
  refine PyProof.Rows.floordiv_int (by omega) (by rw [Int.fdiv_eq_ediv_of_nonneg i (by omega)]; exact q) (.inl (PyProof.noPylong_of_log2 ?_))
  have h3 : j.natAbs < 2 ^ 8000 := by
    have e : ((j.natAbs : Nat) : Int) = j := by omega
    have h4 : ((j.natAbs : Nat) : Int) < ((2 ^ 8000 : Nat) : Int) := by rw [e, Int.natCast_pow]; exact h2
    exact Int.ofNat_lt.mp h4
  have h0 : j.natAbs ≠ 0 := by omega
  exact Nat.lt_trans ((Nat.log2_lt h0).mpr h3) (by decide)
def spLow : Sp := fun vs H Q _ => ∃ x y z : Int, vs = [.int x, .int y, .int z] ∧ ¬ (x = 0 ∧ y = 0 ∧ z = 0) ∧ x.natAbs < 2 ^ 8000 ∧ y.natAbs < 2 ^ 8000 ∧ z.natAbs < 2 ^ 8000 ∧
  ∀ (t : Addr) (x' y' z' d : Nat) (H' : Hp), Same H H' → H' t = some (.tup [.int (x' : Nat), .int (y' : Nat), .int (z' : Nat)]) → 1 ≤ d → x.natAbs = x' * d → y.natAbs = y' * d → z.natAbs = z' * d → Q (.ref t) H'
theorem abs_div {x : Int} {d : Nat} (h1 : 1 ≤ d) (hd : d ∣ x.natAbs) : (if x < 0 then -x else x) / (d : Int) = ((x.natAbs / d : Nat) : Int) := by
  rw [abs_nat]
  rfl
theorem scLowestTerms : FnScope ["x", "y", "z", "divisor"] ["x", "y", "z"] (defScope sLowestTerms) := ⟨rfl, rfl, rfl, by decide +kernel, rfl, by decide +kernel, by decide +kernel⟩
theorem ok_low {f : Addr} {fd : FuncData} (F : Fun K "lowest_terms" "lowest_terms" sLowestTerms f fd) (T : Txt K mg M C) (pShared : Pm P w K mg base (CX1 P w) 3 "shared" ["a", "b"] (spShared K C)) : FnOk P w K mg base CX0 4 f fd ["x", "y", "z"] spLow := by
  refine F.okQ scLowestTerms (fun vs H Q E h => ?_) (fun cdv A outer s H vs Q E hr3 h => ?_)
  · obtain ⟨x, y, z, rfl, _⟩ := h
    rfl
  · obtain ⟨x, y, z, rfl, nz, hx, hy, hz, k⟩ := h
    refine ⟨_, (qss_cons (qs_set (i := 3) scLowestTerms.nd rfl (Or.inl rfl) (qe_callP pShared hr3 rfl passN (qac (qe_callP pShared hr3 rfl passN (qac (qv 0) (qac (qv 1) qa_nil))) (qac (qv 2) qa_nil))))
      (qss_one (qs_ret (qe_tup (qac (qe_op op_fdivL (qe_callB call_abs (by rfl) T.abs PyProof.Rows.boot_abs (qac (qv 0) qa_nil)) (qv 3)) (qac (qe_op op_fdivL (qe_callB call_abs (by rfl) T.abs PyProof.Rows.boot_abs (qac (qv 1) qa_nil)) (qv 3)) (qac (qe_op op_fdivL (qe_callB call_abs (by rfl) T.abs PyProof.Rows.boot_abs (qac (qv 2) qa_nil)) (qv 3)) qa_nil))))))), ?_⟩
    refine ⟨_, rfl, _, rfl, .inl ⟨x, y, rfl, ⟨_, rfl, .inl ⟨_, z, rfl, ?_⟩⟩⟩⟩
    generalize hg : Int.gcd ((Int.gcd x y : Nat) : Int) z = d
    have hd1 : d ∣ Int.gcd x y := by
      rw [← hg]
      exact Nat.gcd_dvd_left _ _
    have hdz : d ∣ z.natAbs := by
      rw [← hg]
      exact Nat.gcd_dvd_right _ _
    have hdx : d ∣ x.natAbs := Nat.dvd_trans hd1 (Nat.gcd_dvd_left _ _)
    have hdy : d ∣ y.natAbs := Nat.dvd_trans hd1 (Nat.gcd_dvd_right _ _)
    have dle : 1 ≤ d ∧ d < 2 ^ 8000 := by
      have pos : ∀ u : Int, d ∣ u.natAbs → u ≠ 0 → u.natAbs < 2 ^ 8000 → 1 ≤ d ∧ d < 2 ^ 8000 := fun u h1 h2 h3 =>
        ⟨Nat.pos_of_dvd_of_pos h1 (by omega), Nat.lt_of_le_of_lt (Nat.le_of_dvd (by omega) h1) h3⟩
      by_cases x0 : x = 0
      · by_cases y0 : y = 0
        · exact pos z hdz (fun q => nz ⟨x0, y0, q⟩) hz
        · exact pos y hdy y0 hy
      · exact pos x hdx x0 hx
    have dZ : (0 : Int) < (d : Int) ∧ (d : Int) < 2 ^ 8000 := ⟨by omega, by
      have := Int.ofNat_lt.mpr dle.2
      rwa [Int.natCast_pow] at this⟩
    have hgv : gcdV ((Int.gcd x y : Nat) : Int) z = .int (d : Int) := by
      unfold gcdV
      rw [hg]
    rw [hgv]
    refine ⟨_, rfl, x, rfl, _, rfl, _, _, rfl, rfl, dZ, _, rfl, y, rfl, _, rfl, _, _, rfl, rfl, dZ, _, rfl, z, rfl, _, rfl, _, _, rfl, rfl, dZ, by show 3 ≤ sizeLine; decide, fun t ht => ?_⟩
    refine k t (x.natAbs / d) (y.natAbs / d) (z.natAbs / d) d _ (same_new ht) ?_ dle.1 (Nat.div_mul_cancel hdx).symm (Nat.div_mul_cancel hdy).symm (Nat.div_mul_cancel hdz).symm
    rw [← abs_div dle.1 hdx, ← abs_div dle.1 hdy, ← abs_div dle.1 hdz]
    exact upd_same
theorem comp_list {K : PySem.W.Frag} {a : Addr} {xs : List V} {g : TG} {tc : TT} {te : TE} {σ' : St} {H : Hp} {G : Addr → Hp → List V → Prop} (Pv : Nat → List V → Hp → Prop) (h0 : Pv 0 [] H) (hl : ∀ i ys H, i ≤ xs.length → Pv i ys H → SqL K H a xs)
    (hs : ∀ i x ys H (N : List V → Hp → Prop), xs[i]? = some x → Pv i ys H → (∀ ys' H', Pv (i + 1) ys' H' → N ys' H') → g x σ' H fun σ2 H4 => Weak σ' σ2 ∧ tc σ2 H4 fun b H5 => if b = true then te σ2 H5 fun y H6 => ys.length < sizeLine ∧ N (ys ++ [y]) H6 else N ys H5)
    (hd : ∀ ys H, Pv xs.length ys H → ys.length ≤ sizeLine ∧ ∀ p, H p = none → G p H ys) :
    ∃ W : Nat → Nat → List V → Hp → Prop, (∃ m, W 0 m [] H) ∧ ∀ i m ys H2, W i m ys H2 →
      ((Itl K a).stop i H2 ∧ ys.length ≤ sizeLine ∧ ∀ p, H2 p = none → G p H2 ys) ∨
      ((Itl K a).go i H2 ∧ ∀ x H3, (Itl K a).yld i H2 x H3 → g x σ' H3 fun σ2 H4 => Weak σ' σ2 ∧ tc σ2 H4 fun b H5 =>
        if b = true then te σ2 H5 fun y H6 => ys.length < sizeLine ∧ ∃ m', m' < m ∧ W (i + 1) m' (ys ++ [y]) H6 else ∃ m', m' < m ∧ W (i + 1) m' ys H5) := by
  refine ⟨fun i m ys H => m = xs.length - i ∧ i ≤ xs.length ∧ Pv i ys H, ⟨xs.length, rfl, Nat.zero_le _, h0⟩, ?_⟩
  rintro i m ys H2 ⟨rfl, hi, p⟩
  have q := hl i ys H2 hi p
  by_cases hlt : i < xs.length
  · refine .inr ⟨⟨xs, xs[i], q, by simp [hlt]⟩, fun x H' y => ?_⟩
    obtain ⟨e, y⟩ := y
    subst e
    exact hs i x ys _ (fun ys' H'' => ∃ m', m' < xs.length - i ∧ m' = xs.length - (i + 1) ∧ i + 1 ≤ xs.length ∧ Pv (i + 1) ys' H'') (y xs q) p (fun ys' H'' p' => ⟨_, by omega, rfl, hlt, p'⟩)
  · have e : i = xs.length := by omega
    subst e
    exact .inl ⟨⟨xs, q, Nat.le_refl _⟩, hd ys H2 p⟩
def oddOf (L : List (Nat × Nat)) : List Nat := (L.filter fun x => decide (x.1 ≠ 2)).map (·.1)
theorem oddOf_yes {L : List (Nat × Nat)} {i : Nat} {x : Nat × Nat} (hx : L[i]? = some x) (h : x.1 ≠ 2) : oddOf (L.take (i + 1)) = oddOf (L.take i) ++ [x.1] := by
  unfold oddOf
  rw [List.take_add_one, hx, Option.toList_some, List.filter_append, List.map_append]
  congr 1
  rw [List.filter_cons_of_pos (by simpa using h)]
  rfl
theorem oddOf_no {L : List (Nat × Nat)} {i : Nat} {x : Nat × Nat} (hx : L[i]? = some x) (h : x.1 = 2) : oddOf (L.take (i + 1)) = oddOf (L.take i) := by
  unfold oddOf
  rw [List.take_add_one, hx, Option.toList_some, List.filter_append, List.map_append]
  rw [List.filter_cons_of_neg (by simpa using h)]
  simp
theorem oddOf_len (L : List (Nat × Nat)) (i : Nat) : (oddOf (L.take i)).length ≤ L.length := by
  unfold oddOf
  rw [List.length_map]
  exact Nat.le_trans (List.length_filter_le _ _) (List.length_take_le' _ _)
theorem intsN_snoc' (L : List Nat) (j : Nat) : intsN (L ++ [j]) = intsN L ++ [V.int (j : Int)] := by unfold intsN; rw [List.map_append]; rfl
theorem intsN_len' (L : List Nat) : (intsN L).length = L.length := by unfold intsN; rw [List.length_map]
theorem scOddPrimesOf : FnScope ["n"] ["n"] (defScope sOddPrimesOf) := ⟨rfl, rfl, rfl, by decide +kernel, rfl, by decide +kernel, by decide +kernel⟩
theorem ok_oddp {f : Addr} {fd : FuncData} (F : Fun K "odd_primes_of" "odd_primes_of" sOddPrimesOf f fd) (T : Txt K mg M C) (pPrimes : Pm P w K mg base (CX1 P w) 4 "primes_of" ["n"] (spPrimes K C)) : FnOk P w K mg base CX0 5 f fd ["n"] spLOdd := by
  refine F.okQ scOddPrimesOf (fun vs H Q E h => ?_) (fun cdv A outer s H vs Q E hr4 h => ?_)
  · obtain ⟨n, rfl, _⟩ := h
    rfl
  · obtain ⟨n, rfl, n0, nb, k⟩ := h
    refine ⟨_, (qss_one (qs_ret (qe_comp (g := gTup K 2 (gCons (gName 0) (gCons (gName 1) gNil))) (N := ["p", "often"]) (src := [none, none]) rfl (comp_scope (defScope sOddPrimesOf) ["n"] rfl rfl (by decide +kernel) rfl) (qi_list (qe_callP pPrimes hr4 rfl passN (qac (qe_callB call_abs (by rfl) T.abs PyProof.Rows.boot_abs (qac (qv 0) qa_nil)) qa_nil))) (fun _ _ _ _ _ => (qg_tup (n := 2) rfl (qgs_cons (qg_name (i := 0) (show (["p", "often"] : List Str).Nodup by decide +kernel) rfl (Or.inl rfl) (Or.inr rfl)) (qgs_cons (qg_name (i := 1) (show (["p", "often"] : List Str).Nodup by decide +kernel) rfl (Or.inl rfl) (Or.inr rfl)) qgs_nil)))) (fun _ _ _ _ _ => (qif_one (qt_cmpR op_ne (qv 0) qe_int (nomark _)))) (fun _ _ _ _ _ => (qv 0))))), ?_⟩
    refine ⟨_, rfl, n, rfl, .inl ⟨n.natAbs, by rw [abs_nat]; rfl, by omega, Nat.lt_trans nb (by decide), fun l ws L H1 hl s1 hl1 t1 F1 => ?_⟩⟩
    have hLs := F1.short (Nat.lt_trans nb (by decide))
    refine ⟨l, rfl, ⟨_, SqL.of hl1⟩, comp_list (K := K) (xs := ws) (fun i ys H2 => H2 = H1 ∧ ys = intsN (oddOf (L.take i))) ⟨rfl, rfl⟩ (fun i ys H2 _ ⟨e, _⟩ => SqL.of (e ▸ hl1)) ?_ ?_⟩
    · rintro i v ys H2 N hi ⟨rfl, rfl⟩ nx
      obtain ⟨t, x, rfl, hx, htx⟩ := t1.get hi
      refine ⟨t, _, rfl, SqT.of htx, rfl, _, _, rfl, _, _, rfl, rfl, (Weak.set (by intro v z; cases z)).trans (Weak.set (by intro v z; cases z)), ?_⟩
      refine ⟨_, rfl, rfl, _, rfl, ?_⟩
      by_cases h2 : x.1 = 2
      · rw [show (!decide (V.int (x.1 : Int) = V.int 2)) = false by rw [decide_eq_true (congrArg V.int (by omega))]; rfl]
        refine iteF (nx _ _ ⟨rfl, ?_⟩)
        rw [oddOf_no hx h2]
      · rw [show (!decide (V.int (x.1 : Int) = V.int 2)) = true by rw [decide_eq_false (fun z => h2 (by have := V.int.inj z; omega))]; rfl]
        refine iteT ⟨_, rfl, ?_, nx _ _ ⟨rfl, ?_⟩⟩
        · rw [intsN_len']
          exact Nat.lt_of_le_of_lt (oddOf_len L i) (Nat.lt_trans hLs (by decide))
        · rw [oddOf_yes hx h2, intsN_snoc']
    · rintro ys H2 ⟨rfl, rfl⟩
      rw [t1.len, List.take_length]
      have hlen : (oddOf L).length ≤ 60 := by
        have := oddOf_len L L.length
        rw [List.take_length] at this
        omega
      refine ⟨by rw [intsN_len']; exact Nat.le_trans hlen (by decide), fun q hq => k q (oddOf L) _ ?_ (s1.trans (same_new hq)) upd_same (by omega) fun p => ?_⟩
      · exact s1.free hq
      · unfold oddOf
        simp only [List.mem_map, List.mem_filter, decide_eq_true_eq]
        constructor
        · rintro ⟨x, ⟨hx, h2⟩, rfl⟩
          refine ⟨(F1.pr x hx).1, h2, ?_⟩
          have := EM.mem_dvd hx
          rw [F1.prod] at this
          exact Nat.dvd_trans (Nat.dvd_of_pow_dvd (F1.pr x hx).2 (Nat.dvd_refl _)) this
        · rintro ⟨hp, h2, hd⟩
          rw [← F1.prod] at hd
          obtain ⟨x, hx, e⟩ := EM.dvd_prodL hp F1.pr hd
          exact ⟨x, ⟨hx, e ▸ h2⟩, e⟩
def spPP (m : Nat) (le : Bool) : Sp := fun vs H Q _ => ∃ s t : Int, vs = [.int s, .int t] ∧ EM.Good s t ∧ s.natAbs < 2 ^ 20 ∧ t.natAbs < 2 ^ 20 ∧ s.natAbs * t.natAbs < 2 ^ m ∧ (le = true → s.natAbs ≤ t.natAbs) ∧
  ∀ (tt : Addr) (x y z : Int) (H' : Hp), Same H H' → H' tt = some (.tup [.int x, .int y, .int z]) → EM.PtAt s t x y z → x.natAbs ≤ 2 ^ (30 * m) → y.natAbs ≤ 2 ^ (30 * m) → z.natAbs ≤ 2 ^ (30 * m) → Q (.ref tt) H'
def spPD (m : Nat) : Sp := fun vs H Q E => ∃ s t : Int, vs = [.int s, .int t] ∧ s ≠ 1 ∧ t ≠ 1 ∧ spPP m true vs H Q E
theorem scPointByDescent : FnScope ["s", "t", "w", "smaller", "point", "x", "y", "z"] ["s", "t"] (defScope sPointByDescent) := ⟨rfl, rfl, rfl, by decide +kernel, rfl, by decide +kernel, by decide +kernel⟩
theorem ok_pd {f : Addr} {fd : FuncData} {m k0 : Nat} (hm : m + 1 ≤ 40) (hk : 9 ≤ k0) (F : Fun K "point_by_descent" "point_by_descent" sPointByDescent f fd) (T : Txt K mg M C) (pRootByPlain : Pm P w K mg base CX0 9 "root_by_plain" ["n", "plain"] spRootPl) (pPlain : Pm P w K mg base (CX1 P w) 5 "plain_part" ["n"] (spPlain K C))
    (pLowestTerms : Pm P w K mg base CX0 4 "lowest_terms" ["x", "y", "z"] spLow) (pPlainPoint : Pm P w K mg base CX0 k0 "plain_point" ["s", "t"] (spPP m false)) : FnOk P w K mg base CX0 (k0 + 1) f fd ["s", "t"] (spPD (m + 1)) := by
  refine F.okQ scPointByDescent (fun vs H Q E h => ?_) (fun cdv A outer s H vs Q E hr0 h => ?_)
  · obtain ⟨x, y, rfl, _⟩ := h
    rfl
  · obtain ⟨s1, t1, rfl, hs1, ht1, s0, t0, e0, G, sb, tb, stb, hle, k⟩ := h
    cases e0
    have hle := hle rfl
    have hr9 : Room 9 (A.deeper (PyProof.Rows.envOfC "point_by_descent" (defScope sPointByDescent) s.heap.objs.size f cdv)) := hr0.mono hk
    have hr5 : Room 5 (A.deeper (PyProof.Rows.envOfC "point_by_descent" (defScope sPointByDescent) s.heap.objs.size f cdv)) := hr9.mono (by decide)
    have hr4 : Room 4 (A.deeper (PyProof.Rows.envOfC "point_by_descent" (defScope sPointByDescent) s.heap.objs.size f cdv)) := hr9.mono (by decide)
    have t2 := G.two hs1 ht1 hle
    refine ⟨_, (qss_cons (qs_set (i := 2) scPointByDescent.nd rfl (Or.inl rfl) (qe_callP pRootByPlain hr9 rfl pass0 (qac (qv 0) (qac (qe_callB call_abs (by rfl) T.abs PyProof.Rows.boot_abs (qac (qv 1) qa_nil)) qa_nil))))
      (qss_cons (qs_if (qt_cmpR op_gt (qe_op op_mul qe_int (qv 2)) (qe_callB call_abs (by rfl) T.abs PyProof.Rows.boot_abs (qac (qv 1) qa_nil)) (nomark _)) (qss_one (qs_set (i := 2) scPointByDescent.nd rfl (Or.inl rfl) (qe_op op_sub (qe_callB call_abs (by rfl) T.abs PyProof.Rows.boot_abs (qac (qv 1) qa_nil)) (qv 2)))) qss_nil)
      (qss_cons (qs_set (i := 3) scPointByDescent.nd rfl (Or.inl rfl) (qe_callP pPlain hr5 rfl passN (qac (qe_op op_fdivN (qe_op op_sub (qe_op op_mul (qv 2) (qv 2)) (qv 0)) (qv 1)) qa_nil)))
      (qss_cons (qs_set (i := 4) scPointByDescent.nd rfl (Or.inl rfl) (qe_callP pPlainPoint hr0 rfl pass0 (qac (qv 0) (qac (qe_ix ix_tup (qv 3) qe_int (fun _ _ => rfl)) qa_nil))))
      (qss_cons (qs_set (i := 5) scPointByDescent.nd rfl (Or.inl rfl) (qe_op op_add (qe_ix ix_tup (qv 4) qe_int (fun _ _ => rfl)) (qe_op op_mul (qv 2) (qe_ix ix_tup (qv 4) qe_int (fun _ _ => rfl)))))
      (qss_cons (qs_set (i := 6) scPointByDescent.nd rfl (Or.inl rfl) (qe_op op_mul (qe_op op_mul (qe_ix ix_tup (qv 3) qe_int (fun _ _ => rfl)) (qe_ix ix_tup (qv 3) qe_int (fun _ _ => rfl))) (qe_ix ix_tup (qv 4) qe_int (fun _ _ => rfl))))
      (qss_cons (qs_set (i := 7) scPointByDescent.nd rfl (Or.inl rfl) (qe_op op_add (qe_op op_mul (qv 2) (qe_ix ix_tup (qv 4) qe_int (fun _ _ => rfl))) (qe_op op_mul (qv 0) (qe_ix ix_tup (qv 4) qe_int (fun _ _ => rfl)))))
      (qss_one (qs_ret (qe_callP pLowestTerms hr4 rfl pass0 (qac (qv 5) (qac (qv 6) (qac (qv 7) qa_nil))))))))))))), ?_⟩
    refine ⟨_, rfl, _, rfl, t1, rfl, s1, t1.natAbs, by rw [abs_nat]; rfl, by omega, by omega, G.pt, fun p hp hd => G.rest hp hd, fun r H1 q1 hr hrd => ?_⟩
    refine ⟨_, rfl, _, _, rfl, rfl, .inl ⟨by decide, by decide⟩, _, rfl, t1, rfl, _, _, rfl, rfl, _, rfl, ?_⟩
    refine iteVia' (fun σ' H' => H' = H1 ∧ ∃ w' : Nat, σ' = [some (.int s1), some (.int t1), some (.int (w' : Nat)), none, none, none, none, none] ∧ 2 * w' ≤ t1.natAbs ∧ ((t1.natAbs : Nat) : Int) ∣ (w' : Int) * (w' : Int) - s1) ?_ (fun hk go => ?_) (fun hk go => ?_)
    rotate_left
    · have hk' := of_decide_eq_true hk
      rw [abs_nat] at hk'
      refine ⟨_, rfl, t1, rfl, _, rfl, _, _, rfl, rfl, go _ _ ⟨rfl, t1.natAbs - r, ?_, by omega, EM.turned_root (by omega) hrd⟩⟩
      rw [abs_nat, show ((t1.natAbs - r : Nat) : Int) = (t1.natAbs : Int) - (r : Int) by omega]
      rfl
    · have hk' : ¬ (if t1 < 0 then -t1 else t1) < 2 * (r : Int) := fun z => hk (decide_eq_true z)
      rw [abs_nat] at hk'
      exact go _ _ ⟨rfl, r, rfl, by omega, hrd⟩
    rintro σ' H' ⟨rfl, wN, rfl, hw2, hwd⟩
    obtain ⟨q, hq⟩ : ∃ q, (wN : Int) * (wN : Int) - s1 = t1 * q := Int.natAbs_dvd.mp hwd
    have t10 : t1 ≠ 0 := G.pt.nz
    have qn : q ≠ 0 := fun z => by
      rw [z, Int.mul_zero] at hq
      exact G.ps.nsq hs1 (w := (wN : Int)) (by omega)
    have qb := EM.fall0 hle t10 (w := (wN : Int)) (by omega) hq
    have hqd : ((wN : Int) * (wN : Int) - s1).fdiv t1 = q := by rw [hq]; exact Int.mul_fdiv_cancel_left _ t10
    refine ⟨_, rfl, _, rfl, _, _, rfl, rfl, .inl ⟨by omega, by omega⟩, _, rfl, _, _, rfl, rfl, _, rfl, _, _, rfl, rfl, ⟨t10, by omega⟩, .inl ⟨q, by rw [← hqd]; rfl, qn, by omega, fun ta t' fN H3 q3 ht3 eq f1 pl' => ?_⟩⟩
    have e : (wN : Int) * (wN : Int) - s1 = t1 * t' * ((fN : Int) * (fN : Int)) := by rw [hq, eq, Int.mul_assoc]
    have f0 : (fN : Int) ≠ 0 := by omega
    have G' : EM.Good s1 t' := G.step pl' e f0
    obtain ⟨fa1, fa2⟩ := EM.fall hle t2 (w := (wN : Int)) (by omega) e f0
    have stb' : s1.natAbs * t'.natAbs < 2 ^ m := by
      have h1 : s1.natAbs * (2 * t'.natAbs) ≤ s1.natAbs * t1.natAbs := Nat.mul_le_mul_left _ fa1
      rw [Nat.pow_succ] at stb
      have h2 : s1.natAbs * (2 * t'.natAbs) = 2 * (s1.natAbs * t'.natAbs) := Nat.mul_left_comm _ _ _
      omega
    refine ⟨_, rfl, _, rfl, ta, _, 0, .int t', rfl, rfl, SqT.of ht3, rfl, s1, t', rfl, G', sb, by omega, stb', fun z => (nomatch z), fun tt x0 y0 z0 H4 q4 ht4 PT bx by' bz => ?_⟩
    have ht34 := q4 _ _ ht3
    refine ⟨_, rfl, tt, _, 2, .int z0, rfl, rfl, SqT.of ht4, rfl, _, rfl, _, rfl, tt, _, 0, .int x0, rfl, rfl, SqT.of ht4, rfl, _, _, rfl, rfl, .inl ⟨by omega, by omega⟩, _, _, rfl, rfl, ?_⟩
    refine ⟨_, rfl, ta, _, 0, .int t', rfl, rfl, SqT.of ht34, rfl, _, rfl, ta, _, 1, .int (fN : Int), rfl, rfl, SqT.of ht34, rfl, _, _, rfl, rfl, .inl ⟨by omega, by omega⟩, _, rfl, tt, _, 1, .int y0, rfl, rfl, SqT.of ht4, rfl, _, _, rfl, rfl, .inl ⟨by omega, by omega⟩, ?_⟩
    refine ⟨_, rfl, _, rfl, tt, _, 2, .int z0, rfl, rfl, SqT.of ht4, rfl, _, _, rfl, rfl, .inl ⟨by omega, by omega⟩, _, rfl, _, rfl, tt, _, 0, .int x0, rfl, rfl, SqT.of ht4, rfl, _, _, rfl, rfl, .inl ⟨by omega, by omega⟩, _, _, rfl, rfl, ?_⟩
    have PU : EM.PtAt s1 t1 (z0 + (wN : Int) * x0) (t' * (fN : Int) * y0) ((wN : Int) * z0 + s1 * x0) := ⟨EM.point_up e PT.eq, EM.point_nz (G.ps.nsq hs1) G'.pt.nz f0 PT.eq PT.nz⟩
    have pw : (1 + 2 ^ 20) * 2 ^ (30 * m) ≤ 2 ^ (30 * (m + 1)) := by
      rw [show 30 * (m + 1) = 30 + 30 * m by omega, Nat.pow_add]
      exact Nat.mul_le_mul_right _ (by decide)
    have pw2 : (2 ^ 20 + 2 ^ 20) * 2 ^ (30 * m) ≤ 2 ^ (30 * (m + 1)) := by
      rw [show 30 * (m + 1) = 30 + 30 * m by omega, Nat.pow_add]
      exact Nat.mul_le_mul_right _ (by decide)
    have mulb : ∀ {a b : Int}, a.natAbs ≤ 2 ^ 20 → b.natAbs ≤ 2 ^ (30 * m) → (a * b).natAbs ≤ 2 ^ 20 * 2 ^ (30 * m) := fun ha hb => by
      rw [Int.natAbs_mul]
      exact Nat.mul_le_mul ha hb
    have b1 : (z0 + (wN : Int) * x0).natAbs ≤ 2 ^ (30 * (m + 1)) := Nat.le_trans (EM.add_bound bz (mulb (by omega) bx)) pw
    have b2 : (t' * (fN : Int) * y0).natAbs ≤ 2 ^ (30 * (m + 1)) := Nat.le_trans (mulb (a := t' * (fN : Int)) (by omega) by') (Nat.le_trans (Nat.mul_le_mul_right _ (by decide)) pw)
    have b3 : ((wN : Int) * z0 + s1 * x0).natAbs ≤ 2 ^ (30 * (m + 1)) := by
      refine Nat.le_trans (Int.natAbs_add_le _ _) (Nat.le_trans (Nat.add_le_add (mulb (a := (wN : Int)) (by omega) bz) (mulb (a := s1) (by omega) bx)) ?_)
      rw [← Nat.add_mul]
      exact pw2
    have top : 2 ^ (30 * (m + 1)) < 2 ^ 8000 := Nat.pow_lt_pow_right (by decide) (by omega)
    refine ⟨_, rfl, _, rfl, _, rfl, _, _, _, rfl, PU.nz, Nat.lt_of_le_of_lt b1 top, Nat.lt_of_le_of_lt b2 top, Nat.lt_of_le_of_lt b3 top, fun tr x' y' z' d H5 q5 ht5 d1 ex ey ez => ?_⟩
    have small : ∀ {u : Int} {u' : Nat}, u.natAbs = u' * d → u.natAbs ≤ 2 ^ (30 * (m + 1)) → ((u' : Nat) : Int).natAbs ≤ 2 ^ (30 * (m + 1)) := fun {u u'} h1 h2 => by
      have : u' ≤ u' * d := Nat.le_mul_of_pos_right _ d1
      omega
    exact k tr _ _ _ H5 (((q1.trans q3).trans q4).trans q5) ht5 (PU.low d1 ex ey ez) (small ex b1) (small ey b2) (small ez b3)
theorem scPlainPoint : FnScope ["s", "t", "turned"] ["s", "t"] (defScope sPlainPoint) := ⟨rfl, rfl, rfl, by decide +kernel, rfl, by decide +kernel, by decide +kernel⟩
theorem pt_one (t : Int) : EM.PtAt 1 t 1 0 1 := ⟨by simp, fun z => absurd z.1 (by decide)⟩
theorem ok_pple {f : Addr} {fd : FuncData} {m k0 : Nat} (F : Fun K "plain_point" "plain_point" sPlainPoint f fd) (T : Txt K mg M C) (pPointByDescent : Pm P w K mg base CX0 k0 "point_by_descent" ["s", "t"] (spPD m)) : FnOk P w K mg base CX0 (k0 + 1) f fd ["s", "t"] (spPP m true) := by
  refine F.okQ scPlainPoint (fun vs H Q E h => ?_) (fun cdv A outer s H vs Q E hr0 h => ?_)
  · obtain ⟨x, y, rfl, _⟩ := h
    rfl
  · have hh := h
    obtain ⟨s1, t1, rfl, G, sb, tb, stb, hle, k⟩ := h
    have hle := hle rfl
    refine ⟨_, (qss_cons (qs_if (qt_cmpR op_eq (qv 0) qe_int (nomark _)) (qss_one (qs_ret (qe_tup (qac qe_int (qac qe_int (qac qe_int qa_nil)))))) qss_nil)
      (qss_cons (qs_if (qt_cmpR op_eq (qv 1) qe_int (nomark _)) (qss_one (qs_ret (qe_tup (qac qe_int (qac qe_int (qac qe_int qa_nil)))))) qss_nil)
      (qss_cons (qs_if (qt_cmpR op_gt (qe_callB call_abs (by rfl) T.abs PyProof.Rows.boot_abs (qac (qv 0) qa_nil)) (qe_callB call_abs (by rfl) T.abs PyProof.Rows.boot_abs (qac (qv 1) qa_nil)) (nomark _)) qss_never qss_nil)
      (qss_one (qs_ret (qe_callP pPointByDescent hr0 rfl pass0 (qac (qv 0) (qac (qv 1) qa_nil)))))))), ?_⟩
    refine ⟨_, rfl, rfl, _, rfl, ?_⟩
    by_cases h1 : s1 = 1
    · subst h1
      refine ifT rfl ⟨by show 3 ≤ sizeLine; decide, fun tt ht => ?_⟩
      exact k tt _ _ _ _ (same_new ht) upd_same (pt_one t1) (Nat.one_le_two_pow) (Nat.zero_le _) (Nat.one_le_two_pow)
    refine ifF (fun z => h1 (V.int.inj z)) ?_
    refine ⟨_, rfl, rfl, _, rfl, ?_⟩
    by_cases h2 : t1 = 1
    · subst h2
      refine ifT rfl ⟨by show 3 ≤ sizeLine; decide, fun tt ht => ?_⟩
      exact k tt _ _ _ _ (same_new ht) upd_same (pt_one s1).symm (Nat.zero_le _) (Nat.one_le_two_pow) (Nat.one_le_two_pow)
    refine ifF (fun z => h2 (V.int.inj z)) ?_
    refine ⟨_, rfl, s1, rfl, _, rfl, t1, rfl, _, _, rfl, rfl, _, rfl, ?_⟩
    refine ifF (fun z => ?_) ?_
    · rw [abs_nat, abs_nat] at z
      omega
    exact ⟨_, rfl, _, rfl, s1, t1, rfl, h1, h2, hh⟩
theorem ok_pp {f : Addr} {fd : FuncData} {m k0 : Nat} (F : Fun K "plain_point" "plain_point" sPlainPoint f fd) (T : Txt K mg M C) (pPlainPoint : Pm P w K mg base CX0 (k0 + 1) "plain_point" ["s", "t"] (spPP m true)) (pPointByDescent : Pm P w K mg base CX0 k0 "point_by_descent" ["s", "t"] (spPD m)) : FnOk P w K mg base CX0 (k0 + 2) f fd ["s", "t"] (spPP m false) := by
  refine F.okQ scPlainPoint (fun vs H Q E h => ?_) (fun cdv A outer s H vs Q E hr h => ?_)
  · obtain ⟨x, y, rfl, _⟩ := h
    rfl
  · obtain ⟨s1, t1, rfl, G, sb, tb, stb, _, k⟩ := h
    have hr0 : Room k0 (A.deeper (PyProof.Rows.envOfC "plain_point" (defScope sPlainPoint) s.heap.objs.size f cdv)) := hr.mono (by omega)
    refine ⟨_, (qss_cons (qs_if (qt_cmpR op_eq (qv 0) qe_int (nomark _)) (qss_one (qs_ret (qe_tup (qac qe_int (qac qe_int (qac qe_int qa_nil)))))) qss_nil)
      (qss_cons (qs_if (qt_cmpR op_eq (qv 1) qe_int (nomark _)) (qss_one (qs_ret (qe_tup (qac qe_int (qac qe_int (qac qe_int qa_nil)))))) qss_nil)
      (qss_cons (qs_if (qt_cmpR op_gt (qe_callB call_abs (by rfl) T.abs PyProof.Rows.boot_abs (qac (qv 0) qa_nil)) (qe_callB call_abs (by rfl) T.abs PyProof.Rows.boot_abs (qac (qv 1) qa_nil)) (nomark _)) (qss_cons (qs_set (i := 2) scPlainPoint.nd rfl (Or.inl rfl) (qe_callP pPlainPoint hr rfl pass0 (qac (qv 1) (qac (qv 0) qa_nil))))
        (qss_one (qs_ret (qe_tup (qac (qe_ix ix_tup (qv 2) qe_int (fun _ _ => rfl)) (qac (qe_ix ix_tup (qv 2) qe_int (fun _ _ => rfl)) (qac (qe_ix ix_tup (qv 2) qe_int (fun _ _ => rfl)) qa_nil))))))) qss_nil)
      (qss_one (qs_ret (qe_callP pPointByDescent hr0 rfl pass0 (qac (qv 0) (qac (qv 1) qa_nil)))))))), ?_⟩
    refine ⟨_, rfl, rfl, _, rfl, ?_⟩
    by_cases h1 : s1 = 1
    · subst h1
      refine ifT rfl ⟨by show 3 ≤ sizeLine; decide, fun tt ht => ?_⟩
      exact k tt _ _ _ _ (same_new ht) upd_same (pt_one t1) (Nat.one_le_two_pow) (Nat.zero_le _) (Nat.one_le_two_pow)
    refine ifF (fun z => h1 (V.int.inj z)) ?_
    refine ⟨_, rfl, rfl, _, rfl, ?_⟩
    by_cases h2 : t1 = 1
    · subst h2
      refine ifT rfl ⟨by show 3 ≤ sizeLine; decide, fun tt ht => ?_⟩
      exact k tt _ _ _ _ (same_new ht) upd_same (pt_one s1).symm (Nat.zero_le _) (Nat.one_le_two_pow) (Nat.one_le_two_pow)
    refine ifF (fun z => h2 (V.int.inj z)) ?_
    refine ⟨_, rfl, s1, rfl, _, rfl, t1, rfl, _, _, rfl, rfl, _, rfl, ?_⟩
    refine ite2 (fun h3 => ?_) (fun h3 => ?_)
    · have h3' := of_decide_eq_true h3
      rw [abs_nat, abs_nat] at h3'
      refine ⟨_, rfl, _, rfl, t1, s1, rfl, G.symm, tb, sb, by rw [Nat.mul_comm]; exact stb, fun _ => by omega, fun tt x y z H1 q1 ht PT bx by' bz => ?_⟩
      refine ⟨_, rfl, tt, _, 1, .int y, rfl, rfl, SqT.of ht, rfl, _, rfl, tt, _, 0, .int x, rfl, rfl, SqT.of ht, rfl, _, rfl, tt, _, 2, .int z, rfl, rfl, SqT.of ht, rfl, by show 3 ≤ sizeLine; decide, fun t3 ht3 => ?_⟩
      exact k t3 _ _ _ _ (q1.trans (same_new ht3)) upd_same PT.symm by' bx bz
    · have h3' : ¬ (if t1 < 0 then -t1 else t1) < (if s1 < 0 then -s1 else s1) := fun z => h3 (decide_eq_true z)
      rw [abs_nat, abs_nat] at h3'
      exact ⟨_, rfl, _, rfl, s1, t1, rfl, h1, h2, s1, t1, rfl, G, sb, tb, stb, fun _ => by omega, k⟩
theorem ok_pp_all {fP fD : Addr} {fdP fdD : FuncData} (FP : Fun K "plain_point" "plain_point" sPlainPoint fP fdP) (bP : Binds K fdP ["s", "t"] []) (mP : mg "plain_point" = some (.ref fP)) (FD : Fun K "point_by_descent" "point_by_descent" sPointByDescent fD fdD) (bD : Binds K fdD ["s", "t"] []) (mD : mg "point_by_descent" = some (.ref fD)) (T : Txt K mg M C)
    (pRootByPlain : Pm P w K mg base CX0 9 "root_by_plain" ["n", "plain"] spRootPl) (pPlain : Pm P w K mg base (CX1 P w) 5 "plain_part" ["n"] (spPlain K C)) (pLowestTerms : Pm P w K mg base CX0 4 "lowest_terms" ["x", "y", "z"] spLow) :
    ∀ m : Nat, m ≤ 40 → FnOk P w K mg base CX0 (3 * m + 10) fP fdP ["s", "t"] (spPP m false)
  | 0, _ => by
    refine FP.okQ scPlainPoint (fun vs H Q E h => ?_) (fun cdv A outer s H vs Q E hr h => ?_)
    · obtain ⟨x, y, rfl, _⟩ := h
      rfl
    · obtain ⟨s1, t1, rfl, G, sb, tb, stb, _, k⟩ := h
      have a1 := G.ps.nz
      have a2 := G.pt.nz
      have : 1 ≤ s1.natAbs * t1.natAbs := Nat.mul_pos (by omega) (by omega)
      omega
  | m + 1, hm => by
    have G0 := ok_pp_all FP bP mP FD bD mD T pRootByPlain pPlain pLowestTerms m (by omega)
    have GD : FnOk P w K mg base CX0 (3 * m + 11) fD fdD ["s", "t"] (spPD (m + 1)) := ok_pd hm (by omega) FD T pRootByPlain pPlain pLowestTerms ⟨fP, fdP, mP, FP.kp, bP, G0⟩
    have pD : Pm P w K mg base CX0 (3 * m + 11) "point_by_descent" ["s", "t"] (spPD (m + 1)) := ⟨fD, fdD, mD, FD.kp, bD, GD⟩
    have GL : FnOk P w K mg base CX0 (3 * m + 12) fP fdP ["s", "t"] (spPP (m + 1) true) := ok_pple FP T pD
    exact ok_pp FP T ⟨fP, fdP, mP, FP.kp, bP, GL⟩ pD
def spForm : Sp := fun vs H Q _ => ∃ a b : Int, vs = [.int a, .int b] ∧ a ≠ 0 ∧ b ≠ 0 ∧ a.natAbs < 2 ^ 15 ∧ b.natAbs < 2 ^ 15 ∧
  (a < 0 ∧ b < 0 → ∀ (t : Addr) (H' : Hp), Same H H' → H' t = some (.tup [.str "sign"]) → Q (.ref t) H') ∧
  (¬ (a < 0 ∧ b < 0) → ∀ (t : Addr) (p : Nat) (H' : Hp), EM.IsPr p → p ≠ 2 → EM.Shuts a b p → Same H H' → H' t = some (.tup [.str "rest", .int (p : Nat)]) → Q (.ref t) H') ∧
  (¬ (a < 0 ∧ b < 0) → (∀ p, EM.IsPr p → p ≠ 2 → ¬ EM.Shuts a b p) → ∀ (t : Addr) (x y z : Nat) (H' : Hp), EM.PtAt a b x y z → x < 2 ^ 1000 → y < 2 ^ 1000 → z < 2 ^ 1000 → Same H H' → H' t = some (.tup [.str "point", .int (x : Nat), .int (y : Nat), .int (z : Nat)]) → Q (.ref t) H')
theorem plain_sign {n s : Int} {f : Nat} (e : n = s * ((f : Int) * (f : Int))) (h : 1 ≤ f) : n < 0 ↔ s < 0 := by
  have hf : (0 : Int) < (f : Int) * (f : Int) := Int.mul_pos (by omega) (by omega)
  rw [e]
  constructor
  · intro q
    rcases (show s < 0 ∨ 0 ≤ s by omega) with r | r
    · exact r
    · have := Int.mul_nonneg r (Int.le_of_lt hf)
      omega
  · intro q
    exact Int.mul_neg_of_neg_of_pos q hf
theorem plain_le {n s : Int} {f : Nat} (e : n = s * ((f : Int) * (f : Int))) (h : 1 ≤ f) (n0 : n ≠ 0) : s.natAbs ≤ n.natAbs ∧ f ≤ n.natAbs ∧ s ≠ 0 := by
  have e1 : n.natAbs = s.natAbs * (f * f) := by rw [e, Int.natAbs_mul, Int.natAbs_mul]; rfl
  have s0 : s ≠ 0 := fun z => n0 (by rw [e, z, Int.zero_mul])
  refine ⟨?_, ?_, s0⟩
  · rw [e1]
    exact Nat.le_mul_of_pos_right _ (Nat.mul_pos h h)
  · rw [e1]
    exact Nat.le_trans (Nat.le_mul_of_pos_right f h) (Nat.le_mul_of_pos_left _ (by omega))
theorem form_pt {a b s t x y z : Int} {f g : Nat} (ha : a = s * ((f : Int) * (f : Int))) (hb : b = t * ((g : Int) * (g : Int))) (hf : 1 ≤ f) (hg : 1 ≤ g) (P : EM.PtAt s t x y z) : EM.PtAt a b (x * (g : Int)) (y * (f : Int)) (z * (f : Int) * (g : Int)) := by
  have e := P.eq
  constructor
  · rw [ha, hb]
    have : s * ((f : Int) * f) * (x * g * (x * g)) + t * ((g : Int) * g) * (y * f * (y * f)) = (s * (x * x) + t * (y * y)) * ((f : Int) * f * (g * g)) := by grind
    rw [this, e]
    grind
  · rintro ⟨h1, h2, h3⟩
    have hf0 : (f : Int) ≠ 0 := by omega
    have hg0 : (g : Int) ≠ 0 := by omega
    refine P.nz ⟨?_, ?_, ?_⟩
    · rcases Int.mul_eq_zero.mp h1 with q | q
      · exact q
      · exact absurd q hg0
    · rcases Int.mul_eq_zero.mp h2 with q | q
      · exact q
      · exact absurd q hf0
    · rcases Int.mul_eq_zero.mp h3 with q | q
      · rcases Int.mul_eq_zero.mp q with r | r
        · exact r
        · exact absurd r hf0
      · exact absurd q hg0
theorem scForm : FnScope ["a", "b", "plain_a", "plain_b", "s", "t", "p", "point", "x", "y", "z"] ["a", "b"] (defScope sForm) := ⟨rfl, rfl, rfl, by decide +kernel, rfl, by decide +kernel, by decide +kernel⟩
theorem ok_form {f : Addr} {fd : FuncData} (F : Fun K "form_told" "form_told" sForm f fd) (pPlain : Pm P w K mg base (CX1 P w) 5 "plain_part" ["n"] (spPlain K C)) (pOddPrimesOf : Pm P w K mg base CX0 5 "odd_primes_of" ["n"] spLOdd)
    (pPShut : Pm P w K mg base CX0 7 "prime_shuts_plain" ["s", "t", "p"] spPShut) (pPlainPoint : Pm P w K mg base CX0 100 "plain_point" ["s", "t"] (spPP 30 false)) (pLowestTerms : Pm P w K mg base CX0 4 "lowest_terms" ["x", "y", "z"] spLow) : FnOk P w K mg base CX0 101 f fd ["a", "b"] spForm := by
  refine F.okQ scForm (fun vs H Q E h => ?_) (fun cdv A outer s H vs Q E hr h => ?_)
  · obtain ⟨a, b, rfl, _⟩ := h
    rfl
  · obtain ⟨a, b, rfl, a0, b0, ab, bb, kS, kR, kP⟩ := h
    have hr4 : Room 4 (A.deeper (PyProof.Rows.envOfC "form_told" (defScope sForm) s.heap.objs.size f cdv)) := hr.mono (by decide)
    have hr5 : Room 5 (A.deeper (PyProof.Rows.envOfC "form_told" (defScope sForm) s.heap.objs.size f cdv)) := hr.mono (by decide)
    have hr7 : Room 7 (A.deeper (PyProof.Rows.envOfC "form_told" (defScope sForm) s.heap.objs.size f cdv)) := hr.mono (by decide)
    refine ⟨_, (qss_cons (qs_set (i := 2) scForm.nd rfl (Or.inl rfl) (qe_callP pPlain hr5 rfl passN (qac (qv 0) qa_nil)))
      (qss_cons (qs_set (i := 3) scForm.nd rfl (Or.inl rfl) (qe_callP pPlain hr5 rfl passN (qac (qv 1) qa_nil)))
      (qss_cons (qs_set (i := 4) scForm.nd rfl (Or.inl rfl) (qe_ix ix_tup (qv 2) qe_int (fun _ _ => rfl)))
      (qss_cons (qs_set (i := 5) scForm.nd rfl (Or.inl rfl) (qe_ix ix_tup (qv 3) qe_int (fun _ _ => rfl)))
      (qss_cons (qs_if (QW.pt (qw_and (qt_cmpR op_lt (qv 4) qe_int (nomark _)) (qw_and1 (qt_cmpR op_lt (qv 5) qe_int (nomark _))))) (qss_one (qs_ret (qe_tup (qac qe_str qa_nil)))) qss_nil)
      (qss_cons (qs_for PassesOwn.never rfl (qi_list (qe_op op_cat (qe_callP pOddPrimesOf hr5 rfl pass0 (qac (qv 4) qa_nil)) (qe_callP pOddPrimesOf hr5 rfl pass0 (qac (qv 5) qa_nil)))) (qg_name (i := 6) scForm.nd rfl (Or.inl rfl))
        (qss_one (qs_if (qt_val (qe_callP pPShut hr7 rfl pass0 (qac (qv 4) (qac (qv 5) (qac (qv 6) qa_nil))))) (qss_one (qs_ret (qe_tup (qac qe_str (qac (qv 6) qa_nil))))) qss_nil)))
      (qss_cons (qs_set (i := 7) scForm.nd rfl (Or.inl rfl) (qe_callP pPlainPoint hr rfl pass0 (qac (qv 4) (qac (qv 5) qa_nil))))
      (qss_cons (qs_set (i := 8) scForm.nd rfl (Or.inl rfl) (qe_op op_mul (qe_ix ix_tup (qv 7) qe_int (fun _ _ => rfl)) (qe_ix ix_tup (qv 3) qe_int (fun _ _ => rfl))))
      (qss_cons (qs_set (i := 9) scForm.nd rfl (Or.inl rfl) (qe_op op_mul (qe_ix ix_tup (qv 7) qe_int (fun _ _ => rfl)) (qe_ix ix_tup (qv 2) qe_int (fun _ _ => rfl))))
      (qss_cons (qs_set (i := 10) scForm.nd rfl (Or.inl rfl) (qe_op op_mul (qe_op op_mul (qe_ix ix_tup (qv 7) qe_int (fun _ _ => rfl)) (qe_ix ix_tup (qv 2) qe_int (fun _ _ => rfl))) (qe_ix ix_tup (qv 3) qe_int (fun _ _ => rfl))))
      (qss_one (qs_ret (qe_op op_catT (qe_tup (qac qe_str qa_nil)) (qe_callP pLowestTerms hr4 rfl pass0 (qac (qv 8) (qac (qv 9) (qac (qv 10) qa_nil))))))))))))))))), ?_⟩
    refine ⟨_, rfl, .inl ⟨a, rfl, a0, by omega, fun ta sg fa H1 s1 ht1 ea fa1 pa => ?_⟩⟩
    refine ⟨_, rfl, .inl ⟨b, rfl, b0, by omega, fun tb tg fb H2 s2 ht2 eb fb1 pb => ?_⟩⟩
    have ht12 := s2 _ _ ht1
    obtain ⟨la, lfa, sg0⟩ := plain_le ea fa1 a0
    obtain ⟨lb, lfb, tg0⟩ := plain_le eb fb1 b0
    have PA : EM.PlainOf a sg fa := ⟨ea, fa1, pa⟩
    have PB : EM.PlainOf b tg fb := ⟨eb, fb1, pb⟩
    have sa := plain_sign ea fa1
    have sb := plain_sign eb fb1
    refine ⟨_, rfl, ta, _, 0, .int sg, rfl, rfl, SqT.of ht12, rfl, ?_⟩
    refine ⟨_, rfl, tb, _, 0, .int tg, rfl, rfl, SqT.of ht2, rfl, ?_⟩
    refine ⟨_, rfl, _, _, rfl, rfl, _, rfl, ?_⟩
    rcases (show (sg < 0 ∧ tg < 0) ∨ (sg < 0 ∧ ¬ tg < 0) ∨ ¬ sg < 0 by omega) with ⟨h1, h2⟩ | ⟨h1, h2⟩ | h1
    · refine ifT h1 ⟨_, rfl, _, _, rfl, rfl, _, rfl, ifT h2 ⟨by show 1 ≤ sizeLine; decide, fun t ht => ?_⟩⟩
      exact kS ⟨sa.mpr h1, sb.mpr h2⟩ t _ ((s1.trans s2).trans (same_new ht)) upd_same
    all_goals have hn : ¬ (sg < 0 ∧ tg < 0) := by omega
    all_goals first | refine ifT h1 ⟨_, rfl, _, _, rfl, rfl, _, rfl, ifF h2 ?_⟩ | refine ifF h1 ?_
    all_goals
      have hnab : ¬ (a < 0 ∧ b < 0) := fun z => hn ⟨sa.mp z.1, sb.mp z.2⟩
      refine ⟨_, rfl, sg, rfl, sg0, by omega, fun l1 L1 H3 hl1 s3 hl13 len1 m1 => ⟨_, rfl, tg, rfl, tg0, by omega, fun l2 L2 H4 hl2 s4 hl24 len2 m2 => ?_⟩⟩
      refine ⟨l1, l2, _, _, rfl, rfl, s4 _ _ hl13, hl24, by rw [intsN_len', intsN_len']; exact Nat.le_trans (show L1.length + L2.length ≤ 2000 by omega) (by decide), fun q hq => ?_⟩
      have memL : ∀ p ∈ L1 ++ L2, EM.IsPr p ∧ p ≠ 2 ∧ p < 2 ^ 15 := fun p hp => by
        rcases List.mem_append.mp hp with z | z
        · obtain ⟨q1, q2, q3⟩ := (m1 p).mp z
          exact ⟨q1, q2, Nat.lt_of_le_of_lt (Nat.le_of_dvd (by omega) q3) (by omega)⟩
        · obtain ⟨q1, q2, q3⟩ := (m2 p).mp z
          exact ⟨q1, q2, Nat.lt_of_le_of_lt (Nat.le_of_dvd (by omega) q3) (by omega)⟩
      have eL : intsN L1 ++ intsN L2 = intsN (L1 ++ L2) := by unfold intsN; rw [List.map_append]
      rw [eL]
      have s14 : Same H H4 := ((s1.trans s2).trans s3).trans s4
      have ht1x := s4 _ _ (s3 _ _ ht12)
      have ht2x := s4 _ _ (s3 _ _ ht2)
      refine ⟨q, rfl, ⟨_, SqL.of upd_same⟩, for_list (K := K) (a := q) (xs := intsN (L1 ++ L2))
        (fun i σ Hx => Same H4 Hx ∧ Hx q = some (.lst (intsN (L1 ++ L2))) ∧ (∃ x6 : Option V, σ = [some (.int a), some (.int b), some (.ref ta), some (.ref tb), some (.int sg), some (.int tg), x6, none, none, none, none]) ∧ ∀ j p, j < i → (L1 ++ L2)[j]? = some p → ¬ EM.ShutP sg tg p)
        ⟨same_new hq, upd_same, ⟨_, rfl⟩, fun j p hj => by omega⟩ (fun i σ Hx _ ⟨_, e, _⟩ => SqL.of e) ?_ ?_⟩
      · rintro i y σ Hx hi ⟨sx, hqx, ⟨x6, rfl⟩, no⟩
        obtain ⟨p, hp, rfl⟩ : ∃ p, (L1 ++ L2)[i]? = some p ∧ y = V.int ((p : Nat) : Int) := by
          unfold intsN at hi
          rw [List.getElem?_map] at hi
          cases hq : (L1 ++ L2)[i]? with
          | none => rw [hq] at hi; cases hi
          | some p => rw [hq] at hi; cases hi; exact ⟨p, rfl, rfl⟩
        obtain ⟨pp, p2, plt⟩ := memL p (List.mem_of_getElem? hp)
        refine ⟨_, rfl, _, rfl, _, rfl, sg, tg, p, rfl, by omega, by omega, pp, by omega, fun c Hy sy hc => ⟨c, rfl, ?_⟩⟩
        cases c with
        | true =>
          refine iteT ⟨_, rfl, by show 2 ≤ sizeLine; decide, fun t ht => ?_⟩
          exact kR hnab t p _ pp p2 ((EM.Shuts.iff PA PB p).mpr (hc.mp rfl)) (((s14.trans sx).trans sy).trans (same_new ht)) upd_same
        | false =>
          refine iteF ⟨sx.trans sy, sy _ _ hqx, ⟨_, rfl⟩, fun j p' hj hp' => ?_⟩
          rcases Nat.lt_or_ge j i with z | z
          · exact no j p' z hp'
          · have : j = i := by omega
            subst this
            rw [hp] at hp'
            cases hp'
            exact fun w => absurd (hc.mpr w) (fun z => nomatch z)
      · rintro σ Hx ⟨sx, _, ⟨x6, rfl⟩, no⟩
        rw [intsN_len'] at no
        have opn : ∀ p, EM.IsPr p → p ≠ 2 → ¬ EM.ShutP sg tg p := fun p hp h2 hsh => by
          have hm : p ∈ L1 ++ L2 := by
            rcases hsh.dvd with z | z
            · exact List.mem_append_left _ ((m1 p).mpr ⟨hp, h2, natAbs_dvd.mp z⟩)
            · exact List.mem_append_right _ ((m2 p).mpr ⟨hp, h2, natAbs_dvd.mp z⟩)
          obtain ⟨j, hj, e⟩ := List.mem_iff_getElem.mp hm
          exact no j p hj (by rw [List.getElem?_eq_getElem hj, e]) hsh
        have G : EM.Good sg tg := ⟨pa, pb, hn, opn⟩
        have prod : sg.natAbs * tg.natAbs < 2 ^ 30 := by
          have := Nat.mul_le_mul (show sg.natAbs ≤ 32767 by omega) (show tg.natAbs ≤ 32767 by omega)
          omega
        have ht1y := sx _ _ ht1x
        have ht2y := sx _ _ ht2x
        refine ⟨_, rfl, _, rfl, sg, tg, rfl, G, by omega, by omega, prod, fun z => (nomatch z), fun tt x0 y0 z0 H6 s6 ht6 PT bx by' bz => ?_⟩
        have ht1z := s6 _ _ ht1y
        have ht2z := s6 _ _ ht2y
        refine ⟨_, rfl, tt, _, 0, .int x0, rfl, rfl, SqT.of ht6, rfl, _, rfl, tb, _, 1, .int (fb : Int), rfl, rfl, SqT.of ht2z, rfl, _, _, rfl, rfl, .inr ⟨by omega, by omega⟩, ?_⟩
        refine ⟨_, rfl, tt, _, 1, .int y0, rfl, rfl, SqT.of ht6, rfl, _, rfl, ta, _, 1, .int (fa : Int), rfl, rfl, SqT.of ht1z, rfl, _, _, rfl, rfl, .inr ⟨by omega, by omega⟩, ?_⟩
        refine ⟨_, rfl, tt, _, 2, .int z0, rfl, rfl, SqT.of ht6, rfl, _, rfl, ta, _, 1, .int (fa : Int), rfl, rfl, SqT.of ht1z, rfl, _, _, rfl, rfl, .inr ⟨by omega, by omega⟩, _, rfl, tb, _, 1, .int (fb : Int), rfl, rfl, SqT.of ht2z, rfl, _, _, rfl, rfl, .inr ⟨by omega, by omega⟩, ?_⟩
        have PF := form_pt ea eb fa1 fb1 PT
        have mb : ∀ {u : Int} {g n : Nat}, u.natAbs ≤ n → g ≤ 2 ^ 15 → (u * (g : Int)).natAbs ≤ n * 2 ^ 15 := fun {u g n} h1 h2 => by
          rw [Int.natAbs_mul]
          exact Nat.mul_le_mul h1 h2
        have top : 2 ^ (30 * 30) * 2 ^ 15 * 2 ^ 15 < 2 ^ 8000 := by
          rw [← Nat.pow_add, ← Nat.pow_add]
          exact Nat.pow_lt_pow_right (by decide) (by decide)
        have top1 : 2 ^ (30 * 30) * 2 ^ 15 < 2 ^ 8000 := by
          rw [← Nat.pow_add]
          exact Nat.pow_lt_pow_right (by decide) (by decide)
        refine ⟨by show 1 ≤ sizeLine; decide, fun t0 ht0 => ?_⟩
        refine ⟨_, rfl, _, rfl, _, rfl, _, _, _, rfl, PF.nz, Nat.lt_of_le_of_lt (mb bx (by omega)) top1, Nat.lt_of_le_of_lt (mb by' (by omega)) top1, Nat.lt_of_le_of_lt (mb (mb bz (by omega)) (by omega)) top, fun t1 x' y' z' d H7 s7 ht7 d1 ex ey ez => ?_⟩
        refine ⟨t0, t1, _, _, rfl, rfl, SqT.of (s7 _ _ upd_same), SqT.of ht7, by simp, by show 1 + 3 ≤ sizeLine; decide, fun z => (nomatch z), fun _ t3 ht3 => ?_⟩
        have small : ∀ {u : Int} {v n : Nat}, u.natAbs = v * d → u.natAbs ≤ n → n < 2 ^ 1000 → v < 2 ^ 1000 := fun {u v n} h1 h2 h3 => by
          have := Nat.le_mul_of_pos_right v d1
          exact Nat.lt_of_le_of_lt (Nat.le_trans (h1 ▸ this) h2) h3
        have topA : 2 ^ (30 * 30) * 2 ^ 15 * 2 ^ 15 < 2 ^ 1000 := by
          rw [← Nat.pow_add, ← Nat.pow_add]
          exact Nat.pow_lt_pow_right (by decide) (by decide)
        have topB : 2 ^ (30 * 30) * 2 ^ 15 < 2 ^ 1000 := by
          rw [← Nat.pow_add]
          exact Nat.pow_lt_pow_right (by decide) (by decide)
        refine kP hnab (fun p hp h2 z => opn p hp h2 ((EM.Shuts.iff PA PB p).mp z)) t3 x' y' z' _ (PF.low d1 ex ey ez) (small ex (mb bx (by omega)) topB) (small ey (mb by' (by omega)) topB) (small ez (mb (mb bz (by omega)) (by omega)) topA) ?_ upd_same
        exact ((((s14.trans sx).trans s6).trans (same_new ht0)).trans s7).trans (same_new ht3)
theorem op_mulB {X : Cx} : OpR X (binaryOp .Mult) (rI (fun i j => i.natAbs < 2 ^ 4000 ∧ j.natAbs < 2 ^ 4000) fun i j => .int (i * j)) := opI fun i j _ _ _ _ _ hc q => PyProof.Rows.mul_int q (.of_le (PySem.intBits_le_iff.mpr hc.1) (PySem.intBits_le_iff.mpr hc.2) (by decide))
theorem natAbs_mul_lt {a x : Int} {m n : Nat} (h1 : a.natAbs < 2 ^ m) (h2 : x.natAbs < 2 ^ n) : (a * x).natAbs < 2 ^ (m + n) := by
  rw [Int.natAbs_mul, Nat.pow_add]
  exact Nat.mul_lt_mul'' h1 h2
theorem pow_up {a m n : Nat} (h : a < 2 ^ m) (h2 : m ≤ n) : a < 2 ^ n := Nat.lt_of_lt_of_le h (Nat.pow_le_pow_right (by decide) h2)
def ToldAs (H : Hp) (t : Addr) (a b : Int) : Prop :=
  (a < 0 ∧ b < 0 ∧ H t = some (.tup [.str "sign"])) ∨
  (¬ (a < 0 ∧ b < 0) ∧ ∃ p : Nat, EM.IsPr p ∧ p ≠ 2 ∧ EM.Shuts a b p ∧ H t = some (.tup [.str "rest", .int (p : Nat)])) ∨
  (¬ (a < 0 ∧ b < 0) ∧ (∀ p, EM.IsPr p → p ≠ 2 → ¬ EM.Shuts a b p) ∧ ∃ x y z : Nat, EM.PtAt a b x y z ∧ x < 2 ^ 1000 ∧ y < 2 ^ 1000 ∧ z < 2 ^ 1000 ∧ H t = some (.tup [.str "point", .int (x : Nat), .int (y : Nat), .int (z : Nat)]))
theorem ToldAs.same {H H' : Hp} {t : Addr} {a b : Int} (h : ToldAs H t a b) (s : Same H H') : ToldAs H' t a b := by
  rcases h with ⟨h1, h2, e⟩ | ⟨h1, p, h2, h3, h4, e⟩ | ⟨h1, h2, x, y, z, h3, h4, h5, h6, e⟩
  · exact .inl ⟨h1, h2, s _ _ e⟩
  · exact .inr (.inl ⟨h1, p, h2, h3, h4, s _ _ e⟩)
  · exact .inr (.inr ⟨h1, h2, x, y, z, h3, h4, h5, h6, s _ _ e⟩)
theorem formT {a b : Int} {H : Hp} {G : Addr → Hp → Prop} (k : ∀ (t : Addr) (H' : Hp), Same H H' → ToldAs H' t a b → G t H') :
    (a < 0 ∧ b < 0 → ∀ (t : Addr) (H' : Hp), Same H H' → H' t = some (.tup [.str "sign"]) → G t H') ∧
    (¬ (a < 0 ∧ b < 0) → ∀ (t : Addr) (p : Nat) (H' : Hp), EM.IsPr p → p ≠ 2 → EM.Shuts a b p → Same H H' → H' t = some (.tup [.str "rest", .int (p : Nat)]) → G t H') ∧
    (¬ (a < 0 ∧ b < 0) → (∀ p, EM.IsPr p → p ≠ 2 → ¬ EM.Shuts a b p) → ∀ (t : Addr) (x y z : Nat) (H' : Hp), EM.PtAt a b x y z → x < 2 ^ 1000 → y < 2 ^ 1000 → z < 2 ^ 1000 → Same H H' → H' t = some (.tup [.str "point", .int (x : Nat), .int (y : Nat), .int (z : Nat)]) → G t H') :=
  ⟨fun h t H' s e => k t H' s (.inl ⟨h.1, h.2, e⟩), fun h t p H' h1 h2 h3 s e => k t H' s (.inr (.inl ⟨h, p, h1, h2, h3, e⟩)),
    fun h hn t x y z H' h1 h2 h3 h4 s e => k t H' s (.inr (.inr ⟨h, hn, x, y, z, h1, h2, h3, h4, e⟩))⟩
theorem cut_ne {a b c d : V} : ¬ (HT.sIx [a, b, c, d].length 0 (some 1) = 0 ∧ HT.sIx [a, b, c, d].length [a, b, c, d].length none = [a, b, c, d].length) := fun z => Nat.one_ne_zero z.1
theorem scCell : FnScope ["_law_script", "_law_k"] ["_law_script", "_law_k"] (defScope sCell) := ⟨rfl, rfl, rfl, by decide +kernel, rfl, by decide +kernel, by decide +kernel⟩
theorem ok_cell {f : Addr} {fd : FuncData} (F : Fun K "_law_cell" "_law_cell" sCell f fd) (T : Txt K mg M C) : FnOk P w K mg base CX0 1 f fd ["_law_script", "_law_k"] (spCell K) := by
  refine F.okQ scCell (fun vs H Q E h => ?_) (fun cdv A outer s H vs Q E hr h => ?_)
  · obtain ⟨a, ns, k, rfl, _⟩ := h
    rfl
  · obtain ⟨a, ns, k, rfl, hS, hk, q⟩ := h
    refine ⟨_, qss_cons (qs_if (qt_cmpR op_lt (qv 1) (qe_callB call_len_seq (by rfl) T.len PySem.boot_len (qac (qv 0) qa_nil)) (nomark _)) (qss_one (qs_ret (qe_ix ix_list (qv 0) (qv 1) (fun _ _ => rfl)))) qss_nil)
      (qss_one (qs_ret (qe_op op_add (qe_op op_add (qe_op op_mul (qe_op op_mul qe_int (qv 1)) (qv 1)) (qe_op op_mul qe_int (qv 1))) qe_int))), ?_⟩
    refine ⟨_, rfl, _, rfl, a, _, rfl, .inl hS, _, _, rfl, rfl, _, rfl, ?_⟩
    refine ite2 (fun hc => ?_) (fun hc => ?_)
    · have hlt : k < ns.length := by
        have := of_decide_eq_true hc
        rw [List.length_map] at this
        omega
      refine ⟨_, rfl, _, rfl, a, _, _, V.int ns[k], rfl, rfl, hS, atI_nat (by rw [List.getElem?_map, List.getElem?_eq_getElem hlt]; rfl), q _⟩
    · refine ⟨_, rfl, _, _, rfl, rfl, .inl ⟨by decide, by decide⟩, _, rfl, _, _, rfl, rfl, .inr ⟨by omega, by omega⟩, _, rfl, _, _, rfl, rfl, .inl ⟨by decide, by decide⟩, _, _, rfl, rfl, _, _, rfl, rfl, q _⟩
theorem scPool : FnScope ["_law_cell_here", "_law_fill", "_law_seed", "_law_k"] ["_law_cell_here"] (defScope sPool) := ⟨rfl, rfl, rfl, by decide +kernel, rfl, by decide +kernel, by decide +kernel⟩
theorem ok_pool {f : Addr} {fd : FuncData} (F : Fun K "_law_pool" "_law_pool" sPool f fd) (T : Txt K mg M C) : FnOk P w K mg base CX0 1 f fd ["_law_cell_here"] spPool := by
  refine F.okQ scPool (fun vs H Q E h => ?_) (fun cdv A outer s H vs Q E hr h => ?_)
  · obtain ⟨c, rfl, _⟩ := h
    rfl
  · obtain ⟨c, rfl, q⟩ := h
    refine ⟨_, qss_cons (qs_set (i := 1) scPool.nd rfl (Or.inl rfl) (qe_callB call_abs (by rfl) T.abs PyProof.Rows.boot_abs (qac (qv 0) qa_nil)))
      (qss_cons (qs_if (qt_chain op_le op_lt qe_int (qv 0) (qe_op op_pow qe_int qe_int))
        (qss_cons (qs_set (i := 2) scPool.nd rfl (Or.inl rfl) (qe_op op_add (qe_op op_mod (qv 0) qe_int) qe_int))
        (qss_cons (qs_set (i := 1) scPool.nd rfl (Or.inl rfl) qe_int)
        (qss_one (qs_for PassesOwn.never rfl (qi_range1 rfl T.range (qac qe_int qa_nil)) (qg_name (i := 3) scPool.nd rfl (Or.inl rfl))
          (qss_cons (qs_set (i := 2) scPool.nd rfl (Or.inl rfl) (qe_op op_mod (qe_op op_add (qe_op op_add (qe_op op_mul (qv 2) (qe_op op_add (qe_op op_mod (qv 2) qe_int) qe_int)) (qe_op op_mul qe_int (qv 3))) qe_int) qe_int))
          (qss_one (qs_set (i := 1) scPool.nd rfl (Or.inl rfl) (qe_op op_add (qe_op op_mul (qv 1) qe_int) (qe_op op_mod (qv 2) qe_int)))))))))
        qss_nil)
      (qss_one (qs_ret (qe_lst (qac (qv 1) qa_nil))))), ?_⟩
    refine ⟨_, rfl, c, rfl, ?_⟩
    refine ⟨_, rfl, _, _, rfl, rfl, _, rfl, ?_⟩
    refine ite2 (fun _ => ?_) (fun _ => ?_)
    · refine ⟨_, _, rfl, rfl, ⟨by decide, by decide, by decide⟩, _, _, rfl, rfl, _, rfl, ?_⟩
      refine ite2 (fun _ => ?_) (fun _ => ?_)
      · refine ⟨_, rfl, _, _, rfl, rfl, (by show (0 : Int) < 1000000007; decide), _, _, rfl, rfl, ?_⟩
        refine ⟨30, rfl, by decide, by decide, for_range (n := 30) (fun i σ H2 => H2 = H ∧ ∃ (sd fl : Int) (x : Option V), σ = [some (.int c), some (.int fl), some (.int sd), x] ∧ 0 ≤ fl ∧ 0 ≤ sd ∧ sd < 2000000000)
          ⟨rfl, _, _, _, rfl, Int.le_refl 0, ?_, ?_⟩ ?_ ?_⟩
        · have := Int.emod_nonneg c (show (1000000007 : Int) ≠ 0 by decide)
          show 0 ≤ c % 1000000007 + 271
          omega
        · have := Int.emod_lt_of_pos c (show (0 : Int) < 1000000007 by decide)
          show c % 1000000007 + 271 < 2000000000
          omega
        · rintro i σ H2 hi ⟨rfl, sd, fl, x, rfl, h1, h2, h3⟩
          have a1 := Int.emod_nonneg sd (show (40093 : Int) ≠ 0 by decide)
          have a2 := Int.emod_lt_of_pos sd (show (0 : Int) < 40093 by decide)
          refine ⟨_, rfl, _, rfl, _, _, rfl, rfl, (by show (0 : Int) < 40093; decide), _, _, rfl, rfl, _, _, rfl, rfl, .inl ⟨by omega, by omega⟩, _, rfl, _, _, rfl, rfl, .inl ⟨by decide, by decide⟩, _, _, rfl, rfl, _, _, rfl, rfl, _, _, rfl, rfl, (by show (0 : Int) < 1000000007; decide), ?_⟩
          refine ⟨_, rfl, _, _, rfl, rfl, .inr ⟨by decide, by decide⟩, _, rfl, _, _, rfl, rfl, (by show (0 : Int) < 100003; decide), _, _, rfl, rfl, rfl, _, _, _, rfl, ?_, ?_, ?_⟩
          · refine Int.add_nonneg (Int.mul_nonneg h1 (by decide)) (Int.emod_nonneg _ (by decide))
          · exact Int.emod_nonneg _ (by decide)
          · exact Int.lt_trans (Int.emod_lt_of_pos _ (by decide)) (by decide)
        · rintro σ H2 ⟨rfl, sd, fl, x, rfl, h1, _, _⟩
          exact ⟨_, rfl, by show 1 ≤ sizeLine; decide, fun p hp => q p fl hp h1⟩
      · exact ⟨_, rfl, by show 1 ≤ sizeLine; decide, fun p hp => q p _ hp (abs_nn c)⟩
    · refine ⟨_, rfl, iteF ?_⟩
      exact ⟨_, rfl, by show 1 ≤ sizeLine; decide, fun p hp => q p _ hp (abs_nn c)⟩
theorem scTake : FnScope ["_law_pool_here", "_law_many", "_law_here"] ["_law_pool_here", "_law_many"] (defScope sTake) := ⟨rfl, rfl, rfl, by decide +kernel, rfl, by decide +kernel, by decide +kernel⟩
theorem ok_take {f : Addr} {fd : FuncData} (F : Fun K "_law_take" "_law_take" sTake f fd) : FnOk P w K mg base CX0 1 f fd ["_law_pool_here", "_law_many"] spTake := by
  refine F.okQ scTake (fun vs H Q E h => ?_) (fun cdv A outer s H vs Q E hr h => ?_)
  · obtain ⟨p, f, m, rfl, _⟩ := h
    rfl
  · obtain ⟨p, f, m, rfl, hp, h0, h1, h2, q⟩ := h
    refine ⟨_, qss_cons (qs_set (i := 2) scTake.nd rfl (Or.inl rfl) (qe_ix ix_list (qv 0) qe_int (fun _ _ => rfl)))
      (qss_cons (qs_asg (qe_op op_fdiv (qv 2) (qv 1)) (qg_sub (qv 0) qe_int set_list))
      (qss_one (qs_ret (qe_op op_mod (qv 2) (qv 1))))), ?_⟩
    refine ⟨_, rfl, p, [.int f], 0, .int f, rfl, rfl, SqL.of hp, rfl, ?_⟩
    refine ⟨_, rfl, _, rfl, _, _, rfl, rfl, ⟨h1, h2⟩, _, rfl, p, [.int f], 0, 0, rfl, rfl, hp, rfl, ?_⟩
    exact ⟨_, rfl, _, rfl, _, _, rfl, rfl, h1, q _ _ (Int.ediv_nonneg h0 (by omega)) (Int.emod_nonneg _ (by omega)) (Int.emod_lt_of_pos _ h1)⟩

noncomputable def cb (c : Prop) : Bool := @decide c (Classical.propDecidable c)
theorem cb_iff {c : Prop} : cb c = true ↔ c := @decide_eq_true_iff c (Classical.propDecidable c)
theorem cb_no {c : Prop} (h : ¬ c) : cb c = false := by
  cases e : cb c with
  | false => rfl
  | true => exact absurd (cb_iff.mp e) h
noncomputable def ptB (a b : Int) : Bool := cb (¬ (a < 0 ∧ b < 0) ∧ ∀ p, EM.IsPr p → p ≠ 2 → ¬ EM.Shuts a b p)
theorem ptB_same {a b c d : Int} (hs : (a < 0 ∧ b < 0) ↔ (c < 0 ∧ d < 0)) (h : ∀ p, EM.IsPr p → (EM.Shuts a b p ↔ EM.Shuts c d p)) : ptB a b = ptB c d := by
  unfold ptB
  rw [Bool.eq_iff_iff, cb_iff, cb_iff, hs]
  exact ⟨fun q => ⟨q.1, fun p hp h2 z => q.2 p hp h2 ((h p hp).mpr z)⟩, fun q => ⟨q.1, fun p hp h2 z => q.2 p hp h2 ((h p hp).mp z)⟩⟩
theorem mul_bd {a b : Int} {m n : Nat} (h1 : a.natAbs ≤ m) (h2 : b.natAbs ≤ n) : (a * b).natAbs ≤ m * n := by rw [Int.natAbs_mul]; exact Nat.mul_le_mul h1 h2
theorem neg_sq {a u : Int} (h : 1 ≤ u) : a * u * u < 0 ↔ a < 0 := by
  rw [Int.mul_assoc]
  have : 0 < u * u := Int.mul_pos (by omega) (by omega)
  constructor
  · intro q
    rcases (show a < 0 ∨ 0 ≤ a by omega) with r | r
    · exact r
    · have := Int.mul_nonneg r (Int.le_of_lt this)
      omega
  · exact fun q => Int.mul_neg_of_neg_of_pos q this
theorem neg_turn {a b : Int} (ha : a ≠ 0) (hb : b ≠ 0) : (a < 0 ∧ 0 - a * b < 0) ↔ (a < 0 ∧ b < 0) := by
  constructor
  · rintro ⟨h1, h2⟩
    refine ⟨h1, ?_⟩
    rcases (show b < 0 ∨ 0 < b by omega) with r | r
    · exact r
    · have := Int.mul_neg_of_neg_of_pos h1 r
      omega
  · rintro ⟨h1, h2⟩
    refine ⟨h1, ?_⟩
    have := Int.mul_pos_of_neg_of_neg h1 h2
    omega
theorem ptB_rest {a b : Int} {p : Nat} (h1 : EM.IsPr p) (h2 : p ≠ 2) (h3 : EM.Shuts a b p) : ptB a b = false := by
  unfold ptB
  exact cb_no fun q => q.2 p h1 h2 h3
theorem ptB_pt {a b : Int} (h1 : ¬ (a < 0 ∧ b < 0)) (h2 : ∀ p, EM.IsPr p → p ≠ 2 → ¬ EM.Shuts a b p) : ptB a b = true := by
  unfold ptB
  exact cb_iff.mpr ⟨h1, h2⟩
/-- shut by p, p any number -/
noncomputable def shQ (a b i : Int) : Bool := cb (∃ p : Nat, i = (p : Int) ∧ EM.IsPr p ∧ p ≠ 2 ∧ EM.Shuts a b p)
theorem shQ_of {a b i : Int} {c : Bool} (h : c = true ↔ ∃ p : Nat, i = (p : Int) ∧ EM.IsPr p ∧ p ≠ 2 ∧ EM.Shuts a b p) : c = shQ a b i := by
  unfold shQ
  rw [Bool.eq_iff_iff, cb_iff]
  exact h
/-- the sort of a form -/
noncomputable def wd (a b : Int) : Str := if a < 0 ∧ b < 0 then "sign" else if ptB a b = true then "point" else "rest"
theorem ToldAs.wd {H : Hp} {t : Addr} {a b : Int} (h : ToldAs H t a b) : ∃ xs, H t = some (.tup (.str (wd a b) :: xs)) := by
  unfold E1.wd
  rcases h with ⟨h1, h2, e⟩ | ⟨h1, p, h2, h3, h4, e⟩ | ⟨h1, h2, x, y, z, _, _, _, _, e⟩
  · rw [if_pos ⟨h1, h2⟩]
    exact ⟨_, e⟩
  · rw [if_neg h1, if_neg (by rw [ptB_rest h2 h3 h4]; exact Bool.false_ne_true)]
    exact ⟨_, e⟩
  · rw [if_neg h1, if_pos (ptB_pt h1 h2)]
    exact ⟨_, e⟩
/-- two forms of one sort -/
structure Kin (a b u v : Int) : Prop where
  u0 : u ≠ 0
  v0 : v ≠ 0
  ub : u.natAbs < 2 ^ 15
  vb : v.natAbs < 2 ^ 15
  sg : (u < 0 ∧ v < 0) ↔ (a < 0 ∧ b < 0)
  sh : ∀ p, EM.IsPr p → (EM.Shuts u v p ↔ EM.Shuts a b p)
theorem Kin.wd {a b u v : Int} (k : Kin a b u v) : wd u v = wd a b := by
  unfold E1.wd
  rw [ptB_same k.sg k.sh]
  by_cases h : a < 0 ∧ b < 0
  · rw [if_pos h, if_pos (k.sg.mpr h)]
  · rw [if_neg h, if_neg fun z => h (k.sg.mp z)]
theorem Kin.shQ {a b u v : Int} (k : Kin a b u v) (i : Int) : shQ u v i = shQ a b i := by
  unfold E1.shQ
  rw [Bool.eq_iff_iff, cb_iff, cb_iff]
  exact ⟨fun ⟨p, e, h1, h2, h3⟩ => ⟨p, e, h1, h2, (k.sh p h1).mp h3⟩, fun ⟨p, e, h1, h2, h3⟩ => ⟨p, e, h1, h2, (k.sh p h1).mpr h3⟩⟩
theorem kins {a b u v : Int} (a0 : a ≠ 0) (b0 : b ≠ 0) (ab : a.natAbs ≤ 90) (bb : b.natAbs ≤ 90) (u1 : 1 ≤ u) (u9 : u ≤ 9) (v1 : 1 ≤ v) (v9 : v ≤ 9) : Kin a b b a ∧ Kin a b (a * u * u) (b * v * v) ∧ Kin a b a (0 - a * b) := by
  have m1 : (a * b).natAbs ≤ 90 * 90 := mul_bd ab bb
  have m2 : (a * u * u).natAbs ≤ 90 * 9 * 9 := mul_bd (mul_bd ab (by omega)) (by omega)
  have m3 : (b * v * v).natAbs ≤ 90 * 9 * 9 := mul_bd (mul_bd bb (by omega)) (by omega)
  have n1 : a * b ≠ 0 := Int.mul_ne_zero a0 b0
  have n2 : a * u * u ≠ 0 := Int.mul_ne_zero (Int.mul_ne_zero a0 (by omega)) (by omega)
  have n3 : b * v * v ≠ 0 := Int.mul_ne_zero (Int.mul_ne_zero b0 (by omega)) (by omega)
  refine ⟨⟨b0, a0, by omega, by omega, And.comm, fun p _ => EM.shuts_comm⟩, ⟨n2, n3, by omega, by omega, by rw [neg_sq u1, neg_sq v1], fun p hp => EM.shuts_sq hp a0 b0 (by omega) (by omega)⟩, ⟨a0, by omega, by omega, by omega, neg_turn a0 b0, fun p hp => EM.shuts_turn hp a0 b0⟩⟩
theorem shQ_mul {a b c : Int} (a0 : a ≠ 0) (b0 : b ≠ 0) (c0 : c ≠ 0) (i : Int) : shQ a (b * c) i = !decide (V.bl (shQ a b i) = V.bl (shQ a c i)) := by
  have key : ∀ d, shQ a d i = true ↔ ∃ p : Nat, i = (p : Int) ∧ EM.IsPr p ∧ p ≠ 2 ∧ EM.Shuts a d p := fun d => cb_iff
  rw [Bool.eq_iff_iff, key]
  simp only [V.bl.injEq, Bool.not_eq_true', decide_eq_false_iff_not]
  rw [Bool.eq_iff_iff, key, key]
  by_cases h : ∃ p : Nat, i = (p : Int) ∧ EM.IsPr p ∧ p ≠ 2
  · obtain ⟨p, rfl, hp, h2⟩ := h
    have e : ∀ d, (∃ p' : Nat, (p : Int) = (p' : Int) ∧ EM.IsPr p' ∧ p' ≠ 2 ∧ EM.Shuts a d p') ↔ EM.Shuts a d p := fun d => ⟨fun ⟨p', e, _, _, h⟩ => by
      have : p = p' := by omega
      rw [this]
      exact h, fun h => ⟨p, rfl, hp, h2, h⟩⟩
    rw [e, e, e]
    exact EM.shuts_mul hp a0 b0 c0
  · have e : ∀ d, ¬ ∃ p' : Nat, i = (p' : Int) ∧ EM.IsPr p' ∧ p' ≠ 2 ∧ EM.Shuts a d p' := fun d ⟨p', e, h1, h2, _⟩ => h ⟨p', e, h1, h2⟩
    exact ⟨fun z => absurd z (e _), fun z => absurd ⟨fun q => absurd q (e _), fun q => absurd q (e _)⟩ z⟩
theorem sg_ne : decide (V.str "sign" = V.str "point") = false := decide_eq_false fun z => by
  have : ("sign" : Str) = ("point" : Str) := V.str.inj z
  revert this
  decide +kernel
theorem rs_ne : decide (V.str "rest" = V.str "point") = false := decide_eq_false fun z => by
  have : ("rest" : Str) = ("point" : Str) := V.str.inj z
  revert this
  decide +kernel
theorem over_eq {a b f g x y z : Int} (h : a * (x * x) + b * (y * y) = z * z) : a * f * f * (g * x) * (g * x) + b * g * g * (f * y) * (f * y) = f * g * z * (f * g * z) := by grind
theorem turn_eq {a b x y z : Int} (h : a * (x * x) + b * (y * y) = z * z) : a * z * z - a * b * y * y = a * x * a * x := by grind
def spLOver : Sp := fun vs H Q _ => ∃ (a b f g : Int) (t : Addr), vs = [.int a, .int b, .int f, .int g, .ref t] ∧ ToldAs H t a b ∧ a.natAbs ≤ 90 ∧ b.natAbs ≤ 90 ∧ 1 ≤ f ∧ f ≤ 9 ∧ 1 ≤ g ∧ g ≤ 9 ∧ ∀ H' : Hp, Same H H' → Q (.bl true) H'
theorem scLOver : FnScope ["_law_a", "_law_b", "_law_f", "_law_g", "_law_told", "_law_x", "_law_y", "_law_z"] ["_law_a", "_law_b", "_law_f", "_law_g", "_law_told"] (defScope sLOver) := ⟨rfl, rfl, rfl, by decide +kernel, rfl, by decide +kernel, by decide +kernel⟩
theorem ok_over {f : Addr} {fd : FuncData} (F : Fun K "_law_over" "_law_over" sLOver f fd) : FnOk P w K mg base CX0 1 f fd ["_law_a", "_law_b", "_law_f", "_law_g", "_law_told"] spLOver := by
  refine F.okQ scLOver (fun vs H Q E h => ?_) (fun cdv A outer s H vs Q E hr h => ?_)
  · obtain ⟨a, b, u, v, t, rfl, _⟩ := h
    rfl
  · obtain ⟨a, b, u, v, t, rfl, hT, ab, bb, u1, u9, v1, v9, q⟩ := h
    refine ⟨_, (qss_cons (qs_if (qt_cmpR op_ne (qe_ix ix_tup (qv 4) qe_int (fun _ _ => rfl)) qe_str (nomark _)) (qss_one (qs_ret qe_bl)) qss_nil)
      (qss_cons (qs_asg (qe_slice sl_tup (qv 4) (qo_some qe_int) qo_none) (qg_tup rfl (qgs_cons (qg_name (i := 5) scLOver.nd rfl (Or.inl rfl)) (qgs_cons (qg_name (i := 6) scLOver.nd rfl (Or.inl rfl)) (qgs_cons (qg_name (i := 7) scLOver.nd rfl (Or.inl rfl)) qgs_nil)))))
      (qss_cons (qs_par3 (i := 5) (j := 6) (k := 7) rfl scLOver.nd rfl rfl rfl (by decide) (by decide) (by decide) rfl rfl rfl (qac (qe_op op_mulB (qv 3) (qv 5)) (qac (qe_op op_mulB (qv 2) (qv 6)) (qac (qe_op op_mulB (qe_op op_mulB (qv 2) (qv 3)) (qv 7)) qa_nil))) rfl)
      (qss_one (qs_ret (qe_cmpR op_eq (qe_op op_add (qe_op op_mulB (qe_op op_mulB (qe_op op_mulB (qe_op op_mulB (qv 0) (qv 2)) (qv 2)) (qv 5)) (qv 5)) (qe_op op_mulB (qe_op op_mulB (qe_op op_mulB (qe_op op_mulB (qv 1) (qv 3)) (qv 3)) (qv 6)) (qv 6))) (qe_op op_mulB (qv 7) (qv 7)) (nomark _))))))), ?_⟩
    have sm : ∀ i : Int, i.natAbs ≤ 90 → i.natAbs < 2 ^ 7 := fun i h => Nat.lt_of_le_of_lt h (by decide)
    rcases hT with ⟨h1, h2, e⟩ | ⟨h1, p, h2, h3, h4, e⟩ | ⟨h1, h2, x, y, z, hpt, hx, hy, hz, e⟩
    · refine ⟨_, rfl, t, _, 0, .str "sign", rfl, rfl, SqT.of e, rfl, rfl, _, rfl, ?_⟩
      rw [sg_ne]
      exact iteT (q _ (Same.refl _))
    · refine ⟨_, rfl, t, _, 0, .str "rest", rfl, rfl, SqT.of e, rfl, rfl, _, rfl, ?_⟩
      rw [rs_ne]
      exact iteT (q _ (Same.refl _))
    · refine ⟨_, rfl, t, _, 0, .str "point", rfl, rfl, SqT.of e, rfl, rfl, _, rfl, ?_⟩
      rw [decide_eq_true rfl]
      refine iteF ⟨_, rfl, 1, rfl, t, _, rfl, SqT.of e, cut_ne, fun d hd => ?_⟩
      have w1 := same_new (o := .tup [V.int ((x : Nat) : Int), V.int ((y : Nat) : Int), V.int ((z : Nat) : Int)]) hd
      refine ⟨d, _, rfl, SqT.of upd_same, rfl, _, _, rfl, _, _, rfl, _, _, rfl, rfl, ?_⟩
      have bx : ((x : Nat) : Int).natAbs < 2 ^ 1000 := by rw [Int.natAbs_natCast]; exact hx
      have by' : ((y : Nat) : Int).natAbs < 2 ^ 1000 := by rw [Int.natAbs_natCast]; exact hy
      have bz : ((z : Nat) : Int).natAbs < 2 ^ 1000 := by rw [Int.natAbs_natCast]; exact hz
      have bu := sm u (by omega)
      have bv := sm v (by omega)
      have ba := sm a ab
      have bbb := sm b bb
      have up : ∀ {n m : Nat} {i : Int}, i.natAbs < 2 ^ n → n ≤ m → i.natAbs < 2 ^ m := fun h l => pow_up h l
      have gx := natAbs_mul_lt bv bx
      have fy := natAbs_mul_lt bu by'
      have fg := natAbs_mul_lt bu bv
      have fgz := natAbs_mul_lt fg bz
      have f1 := natAbs_mul_lt ba bu
      have f2 := natAbs_mul_lt f1 bu
      have f3 := natAbs_mul_lt f2 gx
      have g1 := natAbs_mul_lt bbb bv
      have g2 := natAbs_mul_lt g1 bv
      have g3 := natAbs_mul_lt g2 fy
      refine ⟨_, rfl, _, rfl, _, _, rfl, rfl, ⟨up bv (by decide), up bx (by decide)⟩, _, rfl, _, rfl, _, _, rfl, rfl, ⟨up bu (by decide), up by' (by decide)⟩, _, rfl, _, rfl, _, _, rfl, rfl, ⟨up bu (by decide), up bv (by decide)⟩, _, rfl, _, _, rfl, rfl, ⟨up fg (by decide), up bz (by decide)⟩, _, _, _, rfl, ?_⟩
      refine ⟨_, rfl, _, rfl, _, _, rfl, rfl, ⟨up ba (by decide), up bu (by decide)⟩, _, rfl, _, _, rfl, rfl, ⟨up f1 (by decide), up bu (by decide)⟩, _, rfl, _, _, rfl, rfl, ⟨up f2 (by decide), up gx (by decide)⟩, _, rfl, _, _, rfl, rfl, ⟨up f3 (by decide), up gx (by decide)⟩, ?_⟩
      refine ⟨_, rfl, _, rfl, _, _, rfl, rfl, ⟨up bbb (by decide), up bv (by decide)⟩, _, rfl, _, _, rfl, rfl, ⟨up g1 (by decide), up bv (by decide)⟩, _, rfl, _, _, rfl, rfl, ⟨up g2 (by decide), up fy (by decide)⟩, _, rfl, _, _, rfl, rfl, ⟨up g3 (by decide), up fy (by decide)⟩, _, _, rfl, rfl, ?_⟩
      refine ⟨_, rfl, _, rfl, _, _, rfl, rfl, ⟨up fgz (by decide), up fgz (by decide)⟩, rfl, ?_⟩
      rw [decide_eq_true (congrArg V.int (over_eq hpt.eq))]
      exact q _ w1
def spLTurned : Sp := fun vs H Q _ => ∃ (a b : Int) (t : Addr), vs = [.int a, .int b, .ref t] ∧ ToldAs H t a b ∧ a.natAbs ≤ 90 ∧ b.natAbs ≤ 90 ∧ ∀ H' : Hp, Same H H' → Q (.bl true) H'
theorem scLTurned : FnScope ["_law_a", "_law_b", "_law_told", "_law_x", "_law_y", "_law_z"] ["_law_a", "_law_b", "_law_told"] (defScope sLTurned) := ⟨rfl, rfl, rfl, by decide +kernel, rfl, by decide +kernel, by decide +kernel⟩
theorem ok_turned {f : Addr} {fd : FuncData} (F : Fun K "_law_turned" "_law_turned" sLTurned f fd) : FnOk P w K mg base CX0 1 f fd ["_law_a", "_law_b", "_law_told"] spLTurned := by
  refine F.okQ scLTurned (fun vs H Q E h => ?_) (fun cdv A outer s H vs Q E hr h => ?_)
  · obtain ⟨a, b, t, rfl, _⟩ := h
    rfl
  · obtain ⟨a, b, t, rfl, hT, ab, bb, q⟩ := h
    refine ⟨_, (qss_cons (qs_if (qt_cmpR op_ne (qe_ix ix_tup (qv 2) qe_int (fun _ _ => rfl)) qe_str (nomark _)) (qss_one (qs_ret qe_bl)) qss_nil)
      (qss_cons (qs_asg (qe_slice sl_tup (qv 2) (qo_some qe_int) qo_none) (qg_tup rfl (qgs_cons (qg_name (i := 3) scLTurned.nd rfl (Or.inl rfl)) (qgs_cons (qg_name (i := 4) scLTurned.nd rfl (Or.inl rfl)) (qgs_cons (qg_name (i := 5) scLTurned.nd rfl (Or.inl rfl)) qgs_nil)))))
      (qss_one (qs_ret (qe_cmpR op_eq (qe_op op_sub (qe_op op_mulB (qe_op op_mulB (qv 0) (qv 5)) (qv 5)) (qe_op op_mulB (qe_op op_mulB (qe_op op_mulB (qv 0) (qv 1)) (qv 4)) (qv 4))) (qe_op op_mulB (qe_op op_mulB (qe_op op_mulB (qv 0) (qv 3)) (qv 0)) (qv 3)) (nomark _)))))), ?_⟩
    have sm : ∀ i : Int, i.natAbs ≤ 90 → i.natAbs < 2 ^ 7 := fun i h => Nat.lt_of_le_of_lt h (by decide)
    rcases hT with ⟨h1, h2, e⟩ | ⟨h1, p, h2, h3, h4, e⟩ | ⟨h1, h2, x, y, z, hpt, hx, hy, hz, e⟩
    · refine ⟨_, rfl, t, _, 0, .str "sign", rfl, rfl, SqT.of e, rfl, rfl, _, rfl, ?_⟩
      rw [sg_ne]
      exact iteT (q _ (Same.refl _))
    · refine ⟨_, rfl, t, _, 0, .str "rest", rfl, rfl, SqT.of e, rfl, rfl, _, rfl, ?_⟩
      rw [rs_ne]
      exact iteT (q _ (Same.refl _))
    · refine ⟨_, rfl, t, _, 0, .str "point", rfl, rfl, SqT.of e, rfl, rfl, _, rfl, ?_⟩
      rw [decide_eq_true rfl]
      refine iteF ⟨_, rfl, 1, rfl, t, _, rfl, SqT.of e, cut_ne, fun d hd => ?_⟩
      have w1 := same_new (o := .tup [V.int ((x : Nat) : Int), V.int ((y : Nat) : Int), V.int ((z : Nat) : Int)]) hd
      refine ⟨d, _, rfl, SqT.of upd_same, rfl, _, _, rfl, _, _, rfl, _, _, rfl, rfl, ?_⟩
      have bx : ((x : Nat) : Int).natAbs < 2 ^ 1000 := by rw [Int.natAbs_natCast]; exact hx
      have by' : ((y : Nat) : Int).natAbs < 2 ^ 1000 := by rw [Int.natAbs_natCast]; exact hy
      have bz : ((z : Nat) : Int).natAbs < 2 ^ 1000 := by rw [Int.natAbs_natCast]; exact hz
      have ba := sm a ab
      have bbb := sm b bb
      have up : ∀ {n m : Nat} {i : Int}, i.natAbs < 2 ^ n → n ≤ m → i.natAbs < 2 ^ m := fun h l => pow_up h l
      have f1 := natAbs_mul_lt ba bz
      have g1 := natAbs_mul_lt ba bbb
      have g2 := natAbs_mul_lt g1 by'
      have k1 := natAbs_mul_lt ba bx
      have k2 := natAbs_mul_lt k1 ba
      refine ⟨_, rfl, _, rfl, _, _, rfl, rfl, ⟨up ba (by decide), up bz (by decide)⟩, _, rfl, _, _, rfl, rfl, ⟨up f1 (by decide), up bz (by decide)⟩, ?_⟩
      refine ⟨_, rfl, _, rfl, _, _, rfl, rfl, ⟨up ba (by decide), up bbb (by decide)⟩, _, rfl, _, _, rfl, rfl, ⟨up g1 (by decide), up by' (by decide)⟩, _, rfl, _, _, rfl, rfl, ⟨up g2 (by decide), up by' (by decide)⟩, _, _, rfl, rfl, ?_⟩
      refine ⟨_, rfl, _, rfl, _, _, rfl, rfl, ⟨up ba (by decide), up bx (by decide)⟩, _, rfl, _, _, rfl, rfl, ⟨up k1 (by decide), up ba (by decide)⟩, _, rfl, _, _, rfl, rfl, ⟨up k2 (by decide), up bx (by decide)⟩, rfl, ?_⟩
      rw [decide_eq_true (congrArg V.int (turn_eq hpt.eq))]
      exact q _ w1
def spLPart9 : Sp := fun vs H Q _ => ∃ (p : Addr) (f : Int), vs = [.ref p] ∧ H p = some (.lst [.int f]) ∧ 0 ≤ f ∧ ∀ (z : Int) (H' : Hp), z ≠ 0 → z.natAbs ≤ 90 → Drawn1 p H H' → Q (.int z) H'
theorem pick16 {r : Int} (h0 : 0 ≤ r) (h1 : r < 16) : ∃ c : Int, atI [V.int 1, V.int 1, V.int 2, V.int 2, V.int 3, V.int 5, V.int 7, V.int 11, V.int 13, V.int 17, V.int 19, V.int 23, V.int 4, V.int 9, V.int 6, V.int 25] r = some (.int c) ∧ 1 ≤ c ∧ c ≤ 25 := by
  obtain ⟨n, rfl⟩ := Int.eq_ofNat_of_zero_le h0
  have hn : n < 16 := by omega
  match n, hn with
  | 0, _ => exact ⟨1, rfl, by decide, by decide⟩
  | 1, _ => exact ⟨1, rfl, by decide, by decide⟩
  | 2, _ => exact ⟨2, rfl, by decide, by decide⟩
  | 3, _ => exact ⟨2, rfl, by decide, by decide⟩
  | 4, _ => exact ⟨3, rfl, by decide, by decide⟩
  | 5, _ => exact ⟨5, rfl, by decide, by decide⟩
  | 6, _ => exact ⟨7, rfl, by decide, by decide⟩
  | 7, _ => exact ⟨11, rfl, by decide, by decide⟩
  | 8, _ => exact ⟨13, rfl, by decide, by decide⟩
  | 9, _ => exact ⟨17, rfl, by decide, by decide⟩
  | 10, _ => exact ⟨19, rfl, by decide, by decide⟩
  | 11, _ => exact ⟨23, rfl, by decide, by decide⟩
  | 12, _ => exact ⟨4, rfl, by decide, by decide⟩
  | 13, _ => exact ⟨9, rfl, by decide, by decide⟩
  | 14, _ => exact ⟨6, rfl, by decide, by decide⟩
  | 15, _ => exact ⟨25, rfl, by decide, by decide⟩
theorem scLPart : FnScope ["_law_pool_here", "_law_sign", "_law_kind", "_law_some"] ["_law_pool_here"] (defScope sLPart) := ⟨rfl, rfl, rfl, by decide +kernel, rfl, by decide +kernel, by decide +kernel⟩
theorem ok_lpart {f : Addr} {fd : FuncData} (F : Fun K "_law_part" "_law_part" sLPart f fd) (pTake : Pm P w K mg base CX0 1 "_law_take" ["_law_pool_here", "_law_many"] spTake) : FnOk P w K mg base CX0 2 f fd ["_law_pool_here"] spLPart9 := by
  refine F.okQ scLPart (fun vs H Q E h => ?_) (fun cdv A outer s H vs Q E hr1 h => ?_)
  · obtain ⟨p, f, rfl, _⟩ := h
    rfl
  · obtain ⟨p, f0, rfl, hp, h0, k⟩ := h
    refine ⟨_, (qss_cons (qs_set (i := 1) scLPart.nd rfl (Or.inl rfl) (qe_op op_sub qe_int (qe_op op_mul qe_int (qe_callP pTake hr1 rfl pass0 (qac (qv 0) (qac qe_int qa_nil))))))
      (qss_cons (qs_set (i := 2) scLPart.nd rfl (Or.inl rfl) (qe_callP pTake hr1 rfl pass0 (qac (qv 0) (qac qe_int qa_nil))))
      (qss_cons (qs_if (qt_cmpR op_eq (qv 2) qe_int (nomark _)) (qss_one (qs_ret (qe_op op_mul (qv 1) (qe_op op_add qe_int (qe_callP pTake hr1 rfl pass0 (qac (qv 0) (qac qe_int qa_nil))))))) qss_nil)
      (qss_cons (qs_if (qt_cmpR op_eq (qv 2) qe_int (nomark _)) (qss_one (qs_ret (qe_op op_mul (qv 1) (qe_op op_add qe_int (qe_callP pTake hr1 rfl pass0 (qac (qv 0) (qac qe_int qa_nil))))))) qss_nil)
      (qss_cons (qs_set (i := 3) scLPart.nd rfl (Or.inl rfl) (qe_lst (qac qe_int (qac qe_int (qac qe_int (qac qe_int (qac qe_int (qac qe_int (qac qe_int (qac qe_int (qac qe_int (qac qe_int (qac qe_int (qac qe_int (qac qe_int (qac qe_int (qac qe_int (qac qe_int qa_nil))))))))))))))))))
      (qss_one (qs_ret (qe_op op_mul (qv 1) (qe_op op_add qe_int (qe_op op_mod (qe_op op_sub (qe_op op_mul (qe_ix ix_list (qv 3) (qe_callP pTake hr1 rfl pass0 (qac (qv 0) (qac qe_int qa_nil))) (fun _ _ => rfl)) (qe_ix ix_list (qv 3) (qe_callP pTake hr1 rfl pass0 (qac (qv 0) (qac qe_int qa_nil))) (fun _ _ => rfl))) qe_int) qe_int)))))))))), ?_⟩
    refine ⟨_, rfl, p, f0, 2, rfl, hp, h0, by decide, by decide, fun g1 r1 hg1 hr1 hr1' => ?_⟩
    refine ⟨_, _, rfl, rfl, .inl ⟨by decide, by decide⟩, _, _, rfl, rfl, ?_⟩
    refine ⟨_, rfl, p, g1, 3, rfl, upd_same, hg1, by decide, by decide, fun g2 r2 hg2 hr2 hr2' => ?_⟩
    have D2 : Drawn1 p H (upd (upd H p (.lst [.int g1])) p (.lst [.int g2])) := (Drawn1.put hg1).trans (Drawn1.put hg2)
    have sg : 1 - 2 * r1 = 1 ∨ 1 - 2 * r1 = -1 := by omega
    have fin : ∀ z : Int, 1 ≤ z → z ≤ 90 → (1 - 2 * r1) * z ≠ 0 ∧ ((1 - 2 * r1) * z).natAbs ≤ 90 := fun z h1 h2 => by
      rcases sg with e | e <;> rw [e]
      · rw [Int.one_mul]; omega
      · rw [Int.neg_mul, Int.one_mul]; omega
    refine ⟨_, rfl, rfl, _, rfl, ?_⟩
    refine ite2 (fun _ => ?_) (fun _ => ?_)
    · refine ⟨_, rfl, _, rfl, p, g2, 40, rfl, upd_same, hg2, by decide, by decide, fun g3 r3 hg3 hr3 hr3' => ?_⟩
      obtain ⟨e1, e2⟩ := fin (1 + r3) (by omega) (by omega)
      exact ⟨_, _, rfl, rfl, _, _, rfl, rfl, .inl ⟨by omega, by omega⟩, k _ _ e1 e2 (D2.trans (Drawn1.put hg3))⟩
    refine ⟨_, rfl, rfl, _, rfl, ?_⟩
    refine ite2 (fun _ => ?_) (fun _ => ?_)
    · refine ⟨_, rfl, _, rfl, p, g2, 90, rfl, upd_same, hg2, by decide, by decide, fun g3 r3 hg3 hr3 hr3' => ?_⟩
      obtain ⟨e1, e2⟩ := fin (1 + r3) (by omega) (by omega)
      exact ⟨_, _, rfl, rfl, _, _, rfl, rfl, .inl ⟨by omega, by omega⟩, k _ _ e1 e2 (D2.trans (Drawn1.put hg3))⟩
    refine ⟨by show 16 ≤ sizeLine; decide, fun d hd => ?_⟩
    have hp2 : upd (upd H p (.lst [.int g1])) p (.lst [.int g2]) p = some (.lst [.int g2]) := upd_same
    generalize upd (upd H p (.lst [.int g1])) p (.lst [.int g2]) = H2 at D2 hd hp2 ⊢
    have ndp : d ≠ p := fun z => by rw [z, hp2] at hd; cases hd
    have D3 := D2.trans (Drawn1.new (o := .lst [V.int 1, V.int 1, V.int 2, V.int 2, V.int 3, V.int 5, V.int 7, V.int 11, V.int 13, V.int 17, V.int 19, V.int 23, V.int 4, V.int 9, V.int 6, V.int 25]) hg2 hp2 hd)
    have hd3 : upd H2 d (.lst [V.int 1, V.int 1, V.int 2, V.int 2, V.int 3, V.int 5, V.int 7, V.int 11, V.int 13, V.int 17, V.int 19, V.int 23, V.int 4, V.int 9, V.int 6, V.int 25]) d = some (.lst [V.int 1, V.int 1, V.int 2, V.int 2, V.int 3, V.int 5, V.int 7, V.int 11, V.int 13, V.int 17, V.int 19, V.int 23, V.int 4, V.int 9, V.int 6, V.int 25]) := upd_same
    have hp3 : upd H2 d (.lst [V.int 1, V.int 1, V.int 2, V.int 2, V.int 3, V.int 5, V.int 7, V.int 11, V.int 13, V.int 17, V.int 19, V.int 23, V.int 4, V.int 9, V.int 6, V.int 25]) p = some (.lst [.int g2]) := by rw [upd_ne (Ne.symm ndp)]; exact hp2
    generalize upd H2 d (.lst [V.int 1, V.int 1, V.int 2, V.int 2, V.int 3, V.int 5, V.int 7, V.int 11, V.int 13, V.int 17, V.int 19, V.int 23, V.int 4, V.int 9, V.int 6, V.int 25]) = H3 at D3 hd3 hp3 ⊢
    refine ⟨_, rfl, _, rfl, _, rfl, p, g2, 16, rfl, hp3, hg2, by decide, by decide, fun g3 r3 hg3 hr3 hr3' => ?_⟩
    obtain ⟨c1, e1, l1, u1⟩ := pick16 hr3 hr3'
    refine ⟨d, _, r3, _, rfl, rfl, SqL.of (by rw [upd_ne ndp]; exact hd3), e1, _, rfl, _, rfl, p, g3, 16, rfl, upd_same, hg3, by decide, by decide, fun g4 r4 hg4 hr4 hr4' => ?_⟩
    obtain ⟨c2, e2, l2, u2⟩ := pick16 hr4 hr4'
    refine ⟨d, _, r4, _, rfl, rfl, SqL.of (by rw [upd_ne ndp, upd_ne ndp]; exact hd3), e2, _, _, rfl, rfl, .inl ⟨by omega, by omega⟩, _, _, rfl, rfl, _, _, rfl, rfl, (by decide : (0 : Int) < 90), _, _, rfl, rfl, ?_⟩
    have m0 := Int.emod_nonneg (c1 * c2 - 1) (show (90 : Int) ≠ 0 by decide)
    have m1 := Int.emod_lt_of_pos (c1 * c2 - 1) (show (0 : Int) < 90 by decide)
    obtain ⟨e3, e4⟩ := fin (1 + (c1 * c2 - 1) % 90) (by omega) (by omega)
    exact ⟨_, _, rfl, rfl, .inl ⟨by omega, by omega⟩, k _ _ e3 e4 (D3.trans ((Drawn1.put hg3).trans (Drawn1.put hg4)))⟩
/-! ### the primes that are asked about -/
theorem sub_len {L : List Int} (nd : L.Nodup) : ∀ {M : List Int}, (∀ x ∈ L, x ∈ M) → L.length ≤ M.length := by
  induction L with
  | nil => intro M _; exact Nat.zero_le _
  | cons x L ih =>
    intro M h
    rw [List.nodup_cons] at nd
    have hx := h x (by simp)
    have := ih nd.2 (M := M.erase x) fun y hy => (List.mem_erase_of_ne (show y ≠ x from fun e => nd.1 (e ▸ hy))).mpr (h y (List.mem_cons_of_mem _ hy))
    rw [List.length_erase_of_mem hx] at this
    have hm : 0 < M.length := List.length_pos_of_mem hx
    rw [List.length_cons]
    omega
theorem none_of {H H' : Hp} (s : Same H H') {r : Addr} (h : H' r = none) : H r = none := by
  cases e : H r with
  | none => rfl
  | some o => rw [s _ _ e] at h; cases h
def spLPrimes : Sp := fun vs H Q _ => ∃ a b c : Int, vs = [.int a, .int b, .int c] ∧ a ≠ 0 ∧ b ≠ 0 ∧ c ≠ 0 ∧ a.natAbs ≤ 90 ∧ b.natAbs ≤ 90 ∧ c.natAbs ≤ 90 ∧ ∀ (l : Addr) (ns : List Int) (H' : Hp), Same H H' → H' l = some (.lst (ns.map V.int)) → ns.length ≤ 60 → (∀ x ∈ ns, x < 2 ^ 30) → Q (.ref l) H'
theorem scLPrimes : FnScope ["_law_a", "_law_b", "_law_c", "_law_found", "_law_whole"] ["_law_a", "_law_b", "_law_c"] (defScope sLPrimes) := ⟨rfl, rfl, rfl, by decide +kernel, rfl, by decide +kernel, by decide +kernel⟩
theorem fac_le {n : Nat} {L : List (Nat × Nat)} (F : EM.Fac n L) (hn : n ≤ 90) : L.length ≤ 6 ∧ ∀ x ∈ L, x.1 ≤ 90 := by
  constructor
  · have h1 := EM.len_le F.pr
    rw [F.prod] at h1
    refine Nat.le_of_not_lt fun z => ?_
    have := Nat.pow_le_pow_right (n := 2) (by decide) (show 7 ≤ L.length from z)
    have : (2 : Nat) ^ 7 = 128 := by decide
    omega
  · intro x hx
    have hd := EM.mem_dvd hx
    rw [F.prod] at hd
    have := Nat.dvd_trans (Nat.dvd_of_pow_dvd (F.pr x hx).2 (Nat.dvd_refl _)) hd
    by_cases h0 : n = 0
    · have h1 := EM.len_le F.pr
      rw [F.prod, h0] at h1
      have := Nat.pow_pos (n := L.length) (show 0 < 2 by decide)
      omega
    · exact Nat.le_trans (Nat.le_of_dvd (by omega) this) hn
theorem ok_primes3 {f : Addr} {fd : FuncData} (F : Fun K "_law_primes" "_law_primes" sLPrimes f fd) (T : Txt K mg M C) (pPrimes : Pm P w K mg base (CX1 P w) 4 "primes_of" ["n"] (spPrimes K C)) : FnOk P w K mg base CX0 5 f fd ["_law_a", "_law_b", "_law_c"] spLPrimes := by
  refine F.okQ scLPrimes (fun vs H Q E h => ?_) (fun cdv A outer s H vs Q E hr4 h => ?_)
  · obtain ⟨a, b, c, rfl, _⟩ := h
    rfl
  · obtain ⟨a, b, c, rfl, a0, b0, c0, ab, bb, cb', k⟩ := h
    refine ⟨_, (qss_cons (qs_set (i := 3) scLPrimes.nd rfl (Or.inl rfl) (qe_lst qa_nil))
      (qss_cons (qs_for PassesOwn.never rfl (qi_list (qe_lst (qac (qv 0) (qac (qv 1) (qac (qv 2) qa_nil))))) (qg_name (i := 4) scLPrimes.nd rfl (Or.inl rfl))
        (qss_one (qs_expr (qe_bm PySem.F.plainAttrs_list PySem.F.slot_list_extend PySem.F.type_list_extend mt_extend (qv 3) (qac (qe_comp (g := gName 0) (N := ["_law_pair"]) (src := [none]) rfl (comp_scope (defScope sLPrimes) ["_law_a", "_law_b", "_law_c", "_law_found", "_law_whole"] rfl rfl (by decide +kernel) rfl) (qi_list (qe_callP pPrimes hr4 rfl passN (qac (qe_callB call_abs (by rfl) T.abs PyProof.Rows.boot_abs (qac (qv 4) qa_nil)) qa_nil))) (fun _ _ _ _ _ => (qg_name (i := 0) (show (["_law_pair"] : List Str).Nodup by decide +kernel) rfl (Or.inl rfl) (Or.inr rfl))) (fun _ _ _ _ _ => (qif_one (qt_cmpR op_gt (qe_ix (show IxR _ (rIxT K) from ix_tup) (qv 0) qe_int (fun _ _ => rfl)) qe_int (nomark _)))) (fun _ _ _ _ _ => (qe_ix (show IxR _ (rIxT K) from ix_tup) (qv 0) qe_int (fun _ _ => rfl)))) qa_nil)))))
      (qss_one (qs_ret (qe_callB (show CallR _ _ (rSortS P w) from call_sortS rfl) (by rfl) T.sor (by decide +kernel) (qac (qe_callTy (show CallR _ _ (rSetW P w K) from call_setW rfl) (by rfl) T.set (by decide +kernel) (qac (qv 3) qa_nil)) qa_nil)))))), ?_⟩
    refine ⟨by show 0 ≤ sizeLine; decide, fun l hl => ⟨_, rfl, _, rfl, _, rfl, by show 3 ≤ sizeLine; decide, fun d hd => ?_⟩⟩
    have w1 := same_new (o := .lst []) hl
    have hl1 : upd H l (.lst []) l = some (.lst []) := upd_same
    have nld : l ≠ d := fun z => by rw [← z, hl1] at hd; cases hd
    have hd0 : H d = none := none_of w1 hd
    have w2 := same_new (o := .lst [V.int a, V.int b, V.int c]) hd
    have hl2 := w2 _ _ hl1
    have hd2 : upd (upd H l (.lst [])) d (.lst [V.int a, V.int b, V.int c]) d = some (.lst [V.int a, V.int b, V.int c]) := upd_same
    have s2 := w1.trans w2
    generalize upd (upd H l (.lst [])) d (.lst [V.int a, V.int b, V.int c]) = H2 at hl2 hd2 s2 ⊢
    refine ⟨d, rfl, ⟨_, SqL.of hd2⟩, for_list (K := K) (a := d) (xs := [V.int a, V.int b, V.int c]) (fun i σ H3 => i ≤ 3 ∧ Same H H3 ∧ H3 d = some (.lst [V.int a, V.int b, V.int c]) ∧ ∃ x4 ns, σ = [some (.int a), some (.int b), some (.int c), some (.ref l), x4] ∧ H3 l = some (.lst (ns.map V.int)) ∧ ns.length ≤ 6 * i ∧ ∀ x ∈ ns, x < 2 ^ 30) ⟨by decide, s2, hd2, none, [], rfl, hl2, by simp, fun x hx => by cases hx⟩ (fun i σ H3 _ ⟨_, _, e, _⟩ => SqL.of e) ?_ ?_⟩
    · rintro i v σ H3 hi ⟨i3, s3, hd3, x4, ns, rfl, hl3, nl, nb⟩
      obtain ⟨n, rfl, n0, nb9⟩ : ∃ n : Int, v = .int n ∧ n ≠ 0 ∧ n.natAbs ≤ 90 := by
        match i, hi with
        | 0, hi => cases hi; exact ⟨a, rfl, a0, ab⟩
        | 1, hi => cases hi; exact ⟨b, rfl, b0, bb⟩
        | 2, hi => cases hi; exact ⟨c, rfl, c0, cb'⟩
      have hil : i < 3 := (List.getElem?_eq_some_iff.mp hi).1
      refine ⟨_, rfl, .inl ⟨rfl, _, SqL.of hl3⟩, ?_⟩
      refine ⟨_, rfl, n, rfl, .inl ⟨n.natAbs, by rw [abs_nat]; rfl, by omega, Nat.lt_of_le_of_lt nb9 (by decide), fun r ws L H4 hr s4 hr4' t1 F1 => ?_⟩⟩
      obtain ⟨L6, L90⟩ := fac_le F1 nb9
      refine ⟨r, rfl, ⟨_, SqL.of hr4'⟩, comp_list (K := K) (a := r) (xs := ws) (fun j ys H5 => H5 = H4 ∧ ∃ ms : List Int, ys = ms.map V.int ∧ ms.length ≤ j ∧ j ≤ ws.length ∧ ∀ x ∈ ms, x < 2 ^ 30) ⟨rfl, [], rfl, Nat.le_refl _, Nat.zero_le _, fun x hx => by cases hx⟩ (fun j ys H5 _ ⟨e, _⟩ => SqL.of (e ▸ hr4')) ?_ ?_⟩
      · rintro j v ys H5 N hj ⟨rfl, ms, rfl, ml, _, mb⟩ nx
        obtain ⟨t, x, rfl, hx, htx⟩ := t1.get hj
        have hjl := (List.getElem?_eq_some_iff.mp hj).1
        have hx9 := L90 x (List.mem_of_getElem? hx)
        refine ⟨Weak.set (by intro v z; cases z), _, rfl, t, _, 0, .int ((x.1 : Nat) : Int), rfl, rfl, SqT.of htx, rfl, _, _, rfl, rfl, _, rfl, ?_⟩
        refine ite2 (fun _ => ?_) (fun _ => ?_)
        · refine ⟨_, rfl, t, _, 0, .int ((x.1 : Nat) : Int), rfl, rfl, SqT.of htx, rfl, ?_, nx _ _ ⟨rfl, ms ++ [((x.1 : Nat) : Int)], by rw [List.map_append]; rfl, by rw [List.length_append]; exact Nat.succ_le_succ ml, hjl, fun y hy => ?_⟩⟩
          · rw [List.length_map]
            rw [t1.len] at hjl
            exact Nat.lt_of_le_of_lt (show ms.length ≤ 6 by omega) (by decide)
          · rcases List.mem_append.mp hy with z | z
            · exact mb y z
            · rw [List.mem_singleton.mp z]
              omega
        · exact nx _ _ ⟨rfl, ms, rfl, by omega, hjl, mb⟩
      · rintro ys H5 ⟨rfl, ms, rfl, ml, _, mb⟩
        rw [t1.len] at ml
        refine ⟨by rw [List.length_map]; exact Nat.le_trans (show ms.length ≤ 6 by omega) (by decide), fun q hq => ?_⟩
        have w5 := same_new (o := .lst (ms.map V.int)) hq
        have hl5 := w5 _ _ (s4 _ _ hl3)
        refine ⟨l, q, ns.map V.int, ms.map V.int, rfl, rfl, hl5, upd_same, by rw [List.length_map, List.length_map]; exact Nat.le_trans (show ns.length + ms.length ≤ 24 by omega) (by decide), ?_⟩
        refine ⟨hil, same_upd (s3.trans (s4.trans w5)) hl, ?_, _, ns ++ ms, rfl, by rw [upd_same, List.map_append], by rw [List.length_append]; omega, fun x hx => ?_⟩
        · rw [upd_ne (Ne.symm nld)]
          exact w5 _ _ (s4 _ _ hd3)
        · rcases List.mem_append.mp hx with z | z
          · exact nb x z
          · exact mb x z
    · rintro σ H3 ⟨_, s3, hd3, x4, ns, rfl, hl3, nl, nb⟩
      have nl : ns.length ≤ 18 := nl
      refine ⟨_, rfl, l, ns, rfl, SqL.of hl3, by omega, fun sl L hsl nd mem => ?_⟩
      have Ll := sub_len nd fun x hx => (mem x).mp hx
      refine ⟨sl, L, rfl, upd_same, by omega, fun so ns' hso p5 so5 => ?_⟩
      exact k so ns' _ (s3.trans ((same_new hsl).trans (same_new hso))) upd_same (by rw [p5.length_eq]; omega) fun x hx => nb x ((mem x).mp (p5.mem_iff.mp hx))
theorem iteNe {c : Bool} {A B : Prop} (h : B) : if (!decide (V.bl c = V.bl c)) = true then A else B := by
  rw [decide_eq_true rfl]
  exact iteF h
theorem scLaw : FnScope ["_law_script", "_law_cell_here", "_law_pool_here", "_law_a", "_law_b", "_law_c", "_law_f", "_law_g", "_law_told", "_law_others", "_law_p", "_law_due"] ["_law_script"] (defScope sLaw) := ⟨rfl, rfl, rfl, by decide +kernel, rfl, by decide +kernel, by decide +kernel⟩
theorem ok_law {f : Addr} {fd : FuncData} (F : Fun K "law" "law" sLaw f fd) (T : Txt K mg M C) (pCell : Pm P w K mg base CX0 1 "_law_cell" ["_law_script", "_law_k"] (spCell K)) (pPool : Pm P w K mg base CX0 1 "_law_pool" ["_law_cell_here"] spPool) (pTake : Pm P w K mg base CX0 1 "_law_take" ["_law_pool_here", "_law_many"] spTake)
    (pLPart : Pm P w K mg base CX0 2 "_law_part" ["_law_pool_here"] spLPart9) (pForm : Pm P w K mg base CX0 101 "form_told" ["a", "b"] spForm) (pLOver : Pm P w K mg base CX0 1 "_law_over" ["_law_a", "_law_b", "_law_f", "_law_g", "_law_told"] spLOver) (pLTurned : Pm P w K mg base CX0 1 "_law_turned" ["_law_a", "_law_b", "_law_told"] spLTurned)
    (pLPrimes : Pm P w K mg base CX0 5 "_law_primes" ["_law_a", "_law_b", "_law_c"] spLPrimes) (pShuts : Pm P w K mg base (CX1 P w) 8 "shuts" ["a", "b", "p"] (spShuts K C)) : FnOk P w K mg base CX0 110 f fd ["_law_script"] (spLaw K) := by
  refine F.okQ scLaw (fun vs H Q E h => ?_) (fun cdv A outer s H vs Q E hr h => ?_)
  · obtain ⟨a, ns, rfl, _⟩ := h
    rfl
  · obtain ⟨a, ns, rfl, hS, hlen, k⟩ := h
    have hr1 : Room 1 _ := hr.mono (by decide)
    have hr2 : Room 2 _ := hr.mono (by decide)
    have hr5 : Room 5 _ := hr.mono (by decide)
    have hr8 : Room 8 _ := hr.mono (by decide)
    have hr101 : Room 101 _ := hr.mono (by decide)
    refine ⟨_, (qss_cons (qs_for PassesOwn.never rfl (qi_list (qe_op op_cat (qe_lst (qac (qe_callP pCell hr1 rfl pass0 (qac (qv 0) (qac qe_int qa_nil))) qa_nil)) (qe_slice sl_list (qv 0) (qo_some qe_int) (qo_some qe_int)))) (qg_name (i := 1) scLaw.nd rfl (Or.inl rfl))
        (qss_cons (qs_set (i := 2) scLaw.nd rfl (Or.inr rfl) (qe_callP pPool hr1 rfl pass0 (qac (qv 1) qa_nil)))
        (qss_cons (qs_asg (qe_comp (g := gName 0) (N := ["_law_k", "_law_pool_here"]) (src := [none, some 2]) rfl (comp_scope (defScope sLaw) ["_law_script", "_law_cell_here", "_law_pool_here", "_law_a", "_law_b", "_law_c", "_law_f", "_law_g", "_law_told", "_law_others", "_law_p", "_law_due"] rfl rfl (by decide +kernel) rfl) (qi_range1 rfl T.range (qac qe_int qa_nil)) (fun _ _ _ _ _ => (qg_name (i := 0) (show (["_law_k", "_law_pool_here"] : List Str).Nodup by decide +kernel) rfl (Or.inl rfl) (Or.inr rfl))) (fun _ _ _ _ _ => qif_nil) (fun _ _ _ _ _ => (qe_callP pLPart hr2 rfl pass0 (qac (qv 1) qa_nil)))) (qg_lst rfl (qgs_cons (qg_name (i := 3) scLaw.nd rfl (Or.inl rfl)) (qgs_cons (qg_name (i := 4) scLaw.nd rfl (Or.inl rfl)) (qgs_cons (qg_name (i := 5) scLaw.nd rfl (Or.inl rfl)) qgs_nil)))))
        (qss_cons (qs_asg (qe_comp (g := gName 0) (N := ["_law_k", "_law_pool_here"]) (src := [none, some 2]) rfl (comp_scope (defScope sLaw) ["_law_script", "_law_cell_here", "_law_pool_here", "_law_a", "_law_b", "_law_c", "_law_f", "_law_g", "_law_told", "_law_others", "_law_p", "_law_due"] rfl rfl (by decide +kernel) rfl) (qi_range1 rfl T.range (qac qe_int qa_nil)) (fun _ _ _ _ _ => (qg_name (i := 0) (show (["_law_k", "_law_pool_here"] : List Str).Nodup by decide +kernel) rfl (Or.inl rfl) (Or.inr rfl))) (fun _ _ _ _ _ => qif_nil) (fun _ _ _ _ _ => (qe_op op_add qe_int (qe_callP pTake hr1 rfl pass0 (qac (qv 1) (qac qe_int qa_nil)))))) (qg_lst rfl (qgs_cons (qg_name (i := 6) scLaw.nd rfl (Or.inl rfl)) (qgs_cons (qg_name (i := 7) scLaw.nd rfl (Or.inl rfl)) qgs_nil))))
        (qss_cons (qs_set (i := 8) scLaw.nd rfl (Or.inr rfl) (qe_callP pForm hr101 rfl pass0 (qac (qv 3) (qac (qv 4) qa_nil))))
        (qss_cons (qs_set (i := 9) scLaw.nd rfl (Or.inl rfl) (qe_lst (qac (qe_callP pForm hr101 rfl pass0 (qac (qv 4) (qac (qv 3) qa_nil))) (qac (qe_callP pForm hr101 rfl pass0 (qac (qe_op op_mulB (qe_op op_mulB (qv 3) (qv 6)) (qv 6)) (qac (qe_op op_mulB (qe_op op_mulB (qv 4) (qv 7)) (qv 7)) qa_nil))) (qac (qe_callP pForm hr101 rfl pass0 (qac (qv 3) (qac (qe_op op_sub qe_int (qe_op op_mulB (qv 3) (qv 4))) qa_nil))) qa_nil)))))
        (qss_cons (qs_if (qt_val (qe_callB (call_any rfl) (by rfl) T.any (by decide +kernel) (qac (qe_comp (g := gName 0) (N := ["_law_other", "_law_told"]) (src := [none, some 8]) rfl (comp_scope (defScope sLaw) ["_law_script", "_law_cell_here", "_law_pool_here", "_law_a", "_law_b", "_law_c", "_law_f", "_law_g", "_law_told", "_law_others", "_law_p", "_law_due"] rfl rfl (by decide +kernel) rfl) (qi_list (qv 9)) (fun _ _ _ _ _ => (qg_name (i := 0) (show (["_law_other", "_law_told"] : List Str).Nodup by decide +kernel) rfl (Or.inl rfl) (Or.inr rfl))) (fun _ _ _ _ _ => qif_nil) (fun _ _ _ _ _ => (qe_cmpR op_ne (qe_ix (show IxR _ (rIxT K) from ix_tup) (qv 0) qe_int (fun _ _ => rfl)) (qe_ix (show IxR _ (rIxT K) from ix_tup) (qv 1) qe_int (fun _ _ => rfl)) (nomark _)))) qa_nil))) (qss_one (qs_ret qe_bl)) qss_nil)
        (qss_cons (qs_if (QW.pt (qw_or (qt_not (qt_val (qe_callP pLOver hr1 rfl pass0 (qac (qv 3) (qac (qv 4) (qac (qv 6) (qac (qv 7) (qac (qv 8) qa_nil)))))))) (qw_or1 (qt_not (qt_val (qe_callP pLTurned hr1 rfl pass0 (qac (qv 3) (qac (qv 4) (qac (qv 8) qa_nil))))))))) (qss_one (qs_ret qe_bl)) qss_nil)
        (qss_one (qs_for PassesOwn.never rfl (qi_list (qe_op op_cat (qe_callP pLPrimes hr5 rfl pass0 (qac (qv 3) (qac (qv 4) (qac (qv 5) qa_nil)))) (qe_lst (qac qe_int (qac qe_int (qac qe_int qa_nil)))))) (qg_name (i := 10) scLaw.nd rfl (Or.inl rfl))
          (qss_cons (qs_set (i := 11) scLaw.nd rfl (Or.inl rfl) (qe_callP pShuts hr8 rfl passN (qac (qv 3) (qac (qv 4) (qac (qv 10) qa_nil)))))
          (qss_cons (qs_if (QW.pt (qw_or (qt_cmpR op_ne (qe_callP pShuts hr8 rfl passN (qac (qv 4) (qac (qv 3) (qac (qv 10) qa_nil)))) (qv 11) (nomark _)) (qw_or (qt_cmpR op_ne (qe_callP pShuts hr8 rfl passN (qac (qe_op op_mulB (qe_op op_mulB (qv 3) (qv 6)) (qv 6)) (qac (qe_op op_mulB (qe_op op_mulB (qv 4) (qv 7)) (qv 7)) (qac (qv 10) qa_nil)))) (qv 11) (nomark _)) (qw_or1 (qt_cmpR op_ne (qe_callP pShuts hr8 rfl passN (qac (qv 3) (qac (qe_op op_sub qe_int (qe_op op_mulB (qv 3) (qv 4))) (qac (qv 10) qa_nil)))) (qv 11) (nomark _)))))) (qss_one (qs_ret qe_bl)) qss_nil)
          (qss_one (qs_if (qt_cmpR op_ne (qe_callP pShuts hr8 rfl passN (qac (qv 3) (qac (qe_op op_mulB (qv 4) (qv 5)) (qac (qv 10) qa_nil)))) (qe_cmpR op_ne (qv 11) (qe_callP pShuts hr8 rfl passN (qac (qv 3) (qac (qv 5) (qac (qv 10) qa_nil)))) (nomark _)) (nomark _)) (qss_one (qs_ret qe_bl)) qss_nil))))))))))))))
      (qss_one (qs_ret qe_bl))), ?_⟩
    refine cells_for rfl hS hlen (fun σ => ∃ x1 x2 x3 x4 x5 x6 x7 x8 x9 x10 x11 : Option V, σ = [some (.ref a), x1, x2, x3, x4, x5, x6, x7, x8, x9, x10, x11]) ⟨_, _, _, _, _, _, _, _, _, _, _, rfl⟩ ?_ (fun σ' H' _ => k H')
    rintro Hq sq c σ H2 ⟨x1, x2, x3, x4, x5, x6, x7, x8, x9, x10, x11, rfl⟩ s2
    refine ⟨_, rfl, c, rfl, fun p f0 hp h0 => ?_⟩
    have D0 : Drawn1 p (upd H2 p (.lst [.int f0])) (upd H2 p (.lst [.int f0])) := Drawn1.refl h0 upd_same
    have same : ∀ H', Drawn1 p (upd H2 p (.lst [.int f0])) H' → Same H2 H' := fun H' D => D.same hp
    generalize upd H2 p (.lst [.int f0]) = H3 at D0 same ⊢
    refine ⟨3, rfl, by decide, by decide, comp_rng (lo := 0) (n := 3) (fun i zs H4 => Drawn1 p H3 H4 ∧ ∃ ms : List Int, zs = ms.map V.int ∧ ms.length = i ∧ ∀ z ∈ ms, z ≠ 0 ∧ z.natAbs ≤ 90) ⟨D0, [], rfl, rfl, fun z hz => by cases hz⟩ ?_ ?_⟩
    · rintro i zs H4 N hi ⟨D4, ms, rfl, ml, mb⟩ nx
      obtain ⟨g, hg, hpg⟩ := D4.pool
      refine ⟨Weak.set (by intro v z; cases z), _, rfl, p, g, rfl, hpg, hg, fun z H5 z0 zb D5 => ⟨?_, nx _ _ ⟨D4.trans D5, ms ++ [z], by rw [List.map_append]; rfl, by rw [List.length_append, ml]; rfl, fun y hy => ?_⟩⟩⟩
      · rw [List.length_map, ml]
        exact Nat.lt_of_lt_of_le hi (by decide)
      · rcases List.mem_append.mp hy with h | h
        · exact mb y h
        · rw [List.mem_singleton.mp h]
          exact ⟨z0, zb⟩
    rintro zs H4 ⟨D4, ms, rfl, ml, mb⟩
    obtain ⟨za, zb, zc, rfl⟩ : ∃ za zb zc : Int, ms = [za, zb, zc] := by
      match ms, ml with
      | [x, y, z], _ => exact ⟨x, y, z, rfl⟩
    obtain ⟨a0, ab⟩ := mb za (by simp)
    obtain ⟨b0, bb⟩ := mb zb (by simp)
    obtain ⟨c0, cb'⟩ := mb zc (by simp)
    refine ⟨by show 3 ≤ sizeLine; decide, fun r hr' => ⟨r, _, rfl, SqL.of upd_same, rfl, _, _, rfl, _, _, rfl, _, _, rfl, rfl, ?_⟩⟩
    obtain ⟨g4, hg4, hpg4⟩ := D4.pool
    have D5 := D4.trans (Drawn1.new (o := .lst ([za, zb, zc].map V.int)) hg4 hpg4 hr')
    generalize upd H4 r (.lst ([za, zb, zc].map V.int)) = H5 at D5 ⊢
    refine ⟨2, rfl, by decide, by decide, comp_rng (lo := 0) (n := 2) (fun i zs H6 => Drawn1 p H3 H6 ∧ ∃ ms : List Int, zs = ms.map V.int ∧ ms.length = i ∧ ∀ z ∈ ms, 1 ≤ z ∧ z ≤ 9) ⟨D5, [], rfl, rfl, fun z hz => by cases hz⟩ ?_ ?_⟩
    · rintro i zs H6 N hi ⟨D6, ms, rfl, ml, mb⟩ nx
      obtain ⟨g, hg, hpg⟩ := D6.pool
      refine ⟨Weak.set (by intro v z; cases z), _, rfl, p, g, 9, rfl, hpg, hg, by decide, by decide, fun g' r9 hg' hr9 hr9' => ⟨_, _, rfl, rfl, ?_, nx _ _ ⟨D6.trans (Drawn1.put hg'), ms ++ [1 + r9], by rw [List.map_append]; rfl, by rw [List.length_append, ml]; rfl, fun y hy => ?_⟩⟩⟩
      · rw [List.length_map, ml]
        exact Nat.lt_of_lt_of_le hi (by decide)
      · rcases List.mem_append.mp hy with h | h
        · exact mb y h
        · rw [List.mem_singleton.mp h]
          omega
    rintro zs H6 ⟨D6, ms, rfl, ml, mb⟩
    obtain ⟨u, v, rfl⟩ : ∃ u v : Int, ms = [u, v] := by
      match ms, ml with
      | [x, y], _ => exact ⟨x, y, rfl⟩
    obtain ⟨u1, u9⟩ := mb u (by simp)
    obtain ⟨v1, v9⟩ := mb v (by simp)
    refine ⟨by show 2 ≤ sizeLine; decide, fun r2 hr2' => ⟨r2, _, rfl, SqL.of upd_same, rfl, _, _, rfl, _, _, rfl, rfl, ?_⟩⟩
    obtain ⟨g6, hg6, hpg6⟩ := D6.pool
    have D7 := D6.trans (Drawn1.new (o := .lst ([u, v].map V.int)) hg6 hpg6 hr2')
    have s7 := s2.trans (same _ D7)
    generalize upd H6 r2 (.lst ([u, v].map V.int)) = H7 at s7 ⊢
    obtain ⟨k1, k2, k3⟩ := kins a0 b0 ab bb u1 u9 v1 v9
    have sm : ∀ i : Int, i.natAbs ≤ 90 → i.natAbs < 2 ^ 7 := fun i h => Nat.lt_of_le_of_lt h (by decide)
    have ba := sm za ab
    have bbb := sm zb bb
    have bc := sm zc cb'
    have bu := sm u (by omega)
    have bv := sm v (by omega)
    have up : ∀ {n m : Nat} {i : Int}, i.natAbs < 2 ^ n → n ≤ m → i.natAbs < 2 ^ m := fun h l => pow_up h l
    have f1 := natAbs_mul_lt ba bu
    have h1 := natAbs_mul_lt bbb bv
    have e1 := natAbs_mul_lt ba bbb
    have e2 := natAbs_mul_lt bbb bc
    refine ⟨_, rfl, _, rfl, za, zb, rfl, a0, b0, by omega, by omega, formT fun t1 H8 s8 told => ?_⟩
    refine ⟨_, rfl, _, rfl, zb, za, rfl, b0, a0, by omega, by omega, formT fun t2 H9 s9 told2 => ?_⟩
    refine ⟨_, rfl, _, rfl, _, _, rfl, rfl, ⟨up ba (by decide), up bu (by decide)⟩, _, rfl, _, _, rfl, rfl, ⟨up f1 (by decide), up bu (by decide)⟩, ?_⟩
    refine ⟨_, rfl, _, rfl, _, _, rfl, rfl, ⟨up bbb (by decide), up bv (by decide)⟩, _, rfl, _, _, rfl, rfl, ⟨up h1 (by decide), up bv (by decide)⟩, ?_⟩
    refine ⟨_, _, rfl, k2.u0, k2.v0, k2.ub, k2.vb, formT fun t3 H10 s10 told3 => ?_⟩
    refine ⟨_, rfl, _, rfl, _, rfl, _, _, rfl, rfl, ⟨up ba (by decide), up bbb (by decide)⟩, _, _, rfl, rfl, ?_⟩
    refine ⟨_, _, rfl, k3.u0, k3.v0, k3.ub, k3.vb, formT fun t4 H11 s11 told4 => ?_⟩
    refine ⟨by show 3 ≤ sizeLine; decide, fun ol hol => ?_⟩
    have w11 := same_new (o := .lst [V.ref t2, V.ref t3, V.ref t4]) hol
    have hol12 : upd H11 ol (.lst [V.ref t2, V.ref t3, V.ref t4]) ol = some (.lst [V.ref t2, V.ref t3, V.ref t4]) := upd_same
    have q4 := told4.same w11
    have q3 := told3.same (s11.trans w11)
    have q2 := told2.same (s10.trans (s11.trans w11))
    have q1 := told.same (s9.trans (s10.trans (s11.trans w11)))
    have s12 := s7.trans (s8.trans (s9.trans (s10.trans (s11.trans w11))))
    generalize upd H11 ol (.lst [V.ref t2, V.ref t3, V.ref t4]) = H12 at hol12 q1 q2 q3 q4 s12 ⊢
    obtain ⟨y1, d1⟩ := q1.wd
    have each : ∀ (i : Nat) (x : V), [V.ref t2, V.ref t3, V.ref t4][i]? = some x → ∃ t' ys, x = .ref t' ∧ H12 t' = some (.tup (.str (wd za zb) :: ys)) := fun i x hx => by
      match i, hx with
      | 0, hx => cases hx; obtain ⟨ys, e⟩ := q2.wd; exact ⟨t2, ys, rfl, by rw [← k1.wd]; exact e⟩
      | 1, hx => cases hx; obtain ⟨ys, e⟩ := q3.wd; exact ⟨t3, ys, rfl, by rw [← k2.wd]; exact e⟩
      | 2, hx => cases hx; obtain ⟨ys, e⟩ := q4.wd; exact ⟨t4, ys, rfl, by rw [← k3.wd]; exact e⟩
    refine ⟨_, rfl, ol, rfl, ⟨_, SqL.of hol12⟩, comp_list (K := K) (a := ol) (xs := [V.ref t2, V.ref t3, V.ref t4]) (fun i zs H13 => H13 = H12 ∧ i ≤ 3 ∧ zs = (List.replicate i false).map V.bl) ⟨rfl, by decide, rfl⟩ (fun i zs H13 _ ⟨e, _⟩ => SqL.of (e ▸ hol12)) ?_ ?_⟩
    · rintro i x zs H13 N hi ⟨rfl, i3, rfl⟩ nx
      obtain ⟨t', ys, rfl, e⟩ := each i x hi
      have hil : i < 3 := (List.getElem?_eq_some_iff.mp hi).1
      refine ⟨Weak.set (by intro v z; cases z), _, rfl, t', _, 0, .str (wd za zb), rfl, rfl, SqT.of e, atI_nat (j := 0) rfl, _, rfl, t1, _, 0, .str (wd za zb), rfl, rfl, SqT.of d1, atI_nat (j := 0) rfl, rfl, ?_⟩
      rw [decide_eq_true rfl]
      refine ⟨by rw [List.length_map, List.length_replicate]; exact Nat.lt_of_lt_of_le hil (by decide), nx _ _ ⟨rfl, hil, ?_⟩⟩
      rw [List.replicate_succ', List.map_append]
      rfl
    rintro zs H13 ⟨rfl, _, rfl⟩
    refine ⟨by show 3 ≤ sizeLine; decide, fun r13 hr13 => ⟨r13, [false, false, false], rfl, SqL.of upd_same, _, rfl, iteF ?_⟩⟩
    have w13 := same_new (o := .lst ((List.replicate [V.ref t2, V.ref t3, V.ref t4].length false).map V.bl)) hr13
    have p1 := q1.same w13
    have s14 := s12.trans w13
    generalize upd H13 r13 (.lst ((List.replicate [V.ref t2, V.ref t3, V.ref t4].length false).map V.bl)) = H14 at p1 s14 ⊢
    refine ⟨_, rfl, _, rfl, _, rfl, _, rfl, _, rfl, za, zb, u, v, t1, rfl, p1, ab, bb, u1, u9, v1, v9, fun H15 s15 => ⟨_, rfl, iteF ?_⟩⟩
    refine ⟨_, rfl, _, rfl, _, rfl, za, zb, t1, rfl, p1.same s15, ab, bb, fun H16 s16 => ⟨_, rfl, iteF ?_⟩⟩
    refine ⟨_, rfl, _, rfl, _, rfl, za, zb, zc, rfl, a0, b0, c0, ab, bb, cb', fun l ns' H17 s17 hl17 nl nb => ⟨by show 3 ≤ sizeLine; decide, fun d hd => ?_⟩⟩
    have w17 := same_new (o := .lst [V.int 3, V.int 5, V.int 7]) hd
    refine ⟨l, d, _, _, rfl, rfl, w17 _ _ hl17, upd_same, ?_, fun q hq => ?_⟩
    · rw [List.length_map]
      exact Nat.le_trans (show ns'.length + 3 ≤ 63 by omega) (by decide)
    have eq : ns'.map V.int ++ [V.int 3, V.int 5, V.int 7] = (ns' ++ [3, 5, 7]).map V.int := by rw [List.map_append]; rfl
    rw [eq]
    have w18 := same_new (o := .lst ((ns' ++ [3, 5, 7]).map V.int)) hq
    have hq18 : upd (upd H17 d (.lst [V.int 3, V.int 5, V.int 7])) q (.lst ((ns' ++ [3, 5, 7]).map V.int)) q = some (.lst ((ns' ++ [3, 5, 7]).map V.int)) := upd_same
    have s18 := s14.trans (s15.trans (s16.trans (s17.trans (w17.trans w18))))
    generalize upd (upd H17 d (.lst [V.int 3, V.int 5, V.int 7])) q (.lst ((ns' ++ [3, 5, 7]).map V.int)) = H18 at hq18 s18 ⊢
    have allb : ∀ x ∈ ns' ++ [3, 5, 7], x < 2 ^ 30 := fun x hx => by
      rcases List.mem_append.mp hx with z | z
      · exact nb x z
      · simp only [List.mem_cons, List.not_mem_nil, or_false] at z
        rcases z with rfl | rfl | rfl <;> decide
    refine ⟨q, rfl, ⟨_, SqL.of hq18⟩, for_list (K := K) (a := q) (xs := (ns' ++ [3, 5, 7]).map V.int) (fun j σ H19 => Same H18 H19 ∧ ∃ y10 y11, σ = [some (.ref a), some (.int c), some (.ref p), some (.int za), some (.int zb), some (.int zc), some (.int u), some (.int v), some (.ref t1), some (.ref ol), y10, y11]) ⟨Same.refl _, _, _, rfl⟩ (fun j σ H19 _ ⟨e, _⟩ => SqL.of (e _ _ hq18)) ?_ ?_⟩
    rotate_left
    · rintro σ H19 ⟨s19, y10, y11, rfl⟩
      exact ⟨s18.trans s19, _, _, _, _, _, _, _, _, _, _, _, rfl⟩
    rintro j x σ H19 hj ⟨s19, y10, y11, rfl⟩
    obtain ⟨i, hi30, rfl⟩ : ∃ i : Int, i < 2 ^ 30 ∧ x = V.int i := by
      obtain ⟨i, hi, rfl⟩ := List.mem_map.mp (List.mem_of_getElem? hj)
      exact ⟨i, allb i hi, rfl⟩
    refine ⟨_, rfl, _, rfl, _, rfl, .inl ⟨za, zb, i, rfl, a0, b0, up ba (by decide), up bbb (by decide), hi30, fun c1 H20 s20 hc1 => ?_⟩⟩
    obtain rfl := shQ_of hc1
    refine ⟨_, rfl, _, rfl, _, rfl, .inl ⟨zb, za, i, rfl, b0, a0, up bbb (by decide), up ba (by decide), hi30, fun c2 H21 s21 hc2 => ?_⟩⟩
    obtain rfl := shQ_of hc2
    rw [k1.shQ i]
    refine ⟨_, rfl, rfl, _, rfl, iteNe ?_⟩
    refine ⟨_, rfl, _, rfl, _, _, rfl, rfl, ⟨up ba (by decide), up bu (by decide)⟩, _, rfl, _, _, rfl, rfl, ⟨up f1 (by decide), up bu (by decide)⟩, ?_⟩
    refine ⟨_, rfl, _, rfl, _, _, rfl, rfl, ⟨up bbb (by decide), up bv (by decide)⟩, _, rfl, _, _, rfl, rfl, ⟨up h1 (by decide), up bv (by decide)⟩, ?_⟩
    refine ⟨_, rfl, .inl ⟨_, _, i, rfl, k2.u0, k2.v0, up k2.ub (by decide), up k2.vb (by decide), hi30, fun c3 H22 s22 hc3 => ?_⟩⟩
    obtain rfl := shQ_of hc3
    rw [k2.shQ i]
    refine ⟨_, rfl, rfl, _, rfl, iteNe ?_⟩
    refine ⟨_, rfl, _, rfl, _, rfl, _, _, rfl, rfl, ⟨up ba (by decide), up bbb (by decide)⟩, _, _, rfl, rfl, ?_⟩
    refine ⟨_, rfl, .inl ⟨_, _, i, rfl, k3.u0, k3.v0, up k3.ub (by decide), up k3.vb (by decide), hi30, fun c4 H23 s23 hc4 => ?_⟩⟩
    obtain rfl := shQ_of hc4
    rw [k3.shQ i]
    refine ⟨_, rfl, rfl, _, rfl, iteNe ?_⟩
    refine ⟨_, rfl, _, rfl, _, rfl, _, _, rfl, rfl, ⟨up bbb (by decide), up bc (by decide)⟩, ?_⟩
    refine ⟨_, rfl, .inl ⟨_, _, i, rfl, a0, Int.mul_ne_zero b0 c0, up ba (by decide), up e2 (by decide), hi30, fun c5 H24 s24 hc5 => ?_⟩⟩
    obtain rfl := shQ_of hc5
    refine ⟨_, rfl, _, rfl, _, rfl, _, rfl, .inl ⟨za, zc, i, rfl, a0, c0, up ba (by decide), up bc (by decide), hi30, fun c6 H25 s25 hc6 => ?_⟩⟩
    obtain rfl := shQ_of hc6
    refine ⟨rfl, rfl, _, rfl, ?_⟩
    rw [shQ_mul a0 b0 c0 i]
    exact iteNe ⟨s19.trans (s20.trans (s21.trans (s22.trans (s23.trans (s24.trans s25))))), _, _, rfl⟩
end
end E1
namespace E1
open PySem L2
theorem all_mk {l : PySem.W.OpenLaw} {w : World} {K : PySem.W.Frag} {h : Heap} {mg : Str → Option Value} {fa : Addr} (X : K.In h) (G : h.Ns mainGlobals mg) (hfa : mg "law" = some (.ref fa))
    (R : ∃ M C : Addr, RefsS K M C) (N : Free K)
    (AWhole : At K "is_whole" sWhole) (AMust : At K "must_be_whole" sMust) (AFrom : At K "must_be_from" sFrom) (AShared : At K "shared" sShared) (APrimes : At K "primes_of" sPrimes) (AIsPrime : At K "is_prime" sIsPrime) (APlain : At K "plain_part" sPlain) (AIsRest : At K "is_rest" sIsRest) (APower : At K "power_by" sPower) (ALeastNoRest : At K "least_no_rest" sLeastNoRest) (ARootByPrime : At K "root_by_prime" sRootByPrime) (ARootByPlain : At K "root_by_plain" sRootByPlain) (AForm : At K "form_told" sForm) (AShuts : At K "shuts" sShuts) (AOddPrimesOf : At K "odd_primes_of" sOddPrimesOf) (APShut : At K "prime_shuts_plain" sPShut) (APlainPoint : At K "plain_point" sPlainPoint) (APointByDescent : At K "point_by_descent" sPointByDescent) (ALowestTerms : At K "lowest_terms" sLowestTerms) (ACell : At K "_law_cell" sCell) (APool : At K "_law_pool" sPool) (ATake : At K "_law_take" sTake) (ALPart : At K "_law_part" sLPart) (ALOver : At K "_law_over" sLOver) (ALTurned : At K "_law_turned" sLTurned) (ALPrimes : At K "_law_primes" sLPrimes) (ALaw : At K "law" sLaw) :
    ∃ fd : FuncData, (∀ (s : Shared) (v : Value), BindsTo s fd ⟨[v], []⟩ [("_law_script", v)]) ∧ ∀ base : Heap, K.In base → base.Ns mainGlobals mg → FnOk l.prog w K mg base CX0 110 fa fd ["_law_script"] (spLaw K) := by
  obtain ⟨M, C, R⟩ := R
  have T := txtS_of X G R N
  obtain ⟨fWhole, fdWhole, aWhole, FWhole⟩ := AWhole
  obtain ⟨fMust, fdMust, aMust, FMust⟩ := AMust
  obtain ⟨fFrom, fdFrom, aFrom, FFrom⟩ := AFrom
  obtain ⟨fShared, fdShared, aShared, FShared⟩ := AShared
  obtain ⟨fPrimes, fdPrimes, aPrimes, FPrimes⟩ := APrimes
  obtain ⟨fIsPrime, fdIsPrime, aIsPrime, FIsPrime⟩ := AIsPrime
  obtain ⟨fPlain, fdPlain, aPlain, FPlain⟩ := APlain
  obtain ⟨fIsRest, fdIsRest, aIsRest, FIsRest⟩ := AIsRest
  obtain ⟨fPower, fdPower, aPower, FPower⟩ := APower
  obtain ⟨fLeastNoRest, fdLeastNoRest, aLeastNoRest, FLeastNoRest⟩ := ALeastNoRest
  obtain ⟨fRootByPrime, fdRootByPrime, aRootByPrime, FRootByPrime⟩ := ARootByPrime
  obtain ⟨fRootByPlain, fdRootByPlain, aRootByPlain, FRootByPlain⟩ := ARootByPlain
  obtain ⟨fForm, fdForm, aForm, FForm⟩ := AForm
  obtain ⟨fShuts, fdShuts, aShuts, FShuts⟩ := AShuts
  obtain ⟨fOddPrimesOf, fdOddPrimesOf, aOddPrimesOf, FOddPrimesOf⟩ := AOddPrimesOf
  obtain ⟨fPShut, fdPShut, aPShut, FPShut⟩ := APShut
  obtain ⟨fPlainPoint, fdPlainPoint, aPlainPoint, FPlainPoint⟩ := APlainPoint
  obtain ⟨fPointByDescent, fdPointByDescent, aPointByDescent, FPointByDescent⟩ := APointByDescent
  obtain ⟨fLowestTerms, fdLowestTerms, aLowestTerms, FLowestTerms⟩ := ALowestTerms
  obtain ⟨fCell, fdCell, aCell, FCell⟩ := ACell
  obtain ⟨fPool, fdPool, aPool, FPool⟩ := APool
  obtain ⟨fTake, fdTake, aTake, FTake⟩ := ATake
  obtain ⟨fLPart, fdLPart, aLPart, FLPart⟩ := ALPart
  obtain ⟨fLOver, fdLOver, aLOver, FLOver⟩ := ALOver
  obtain ⟨fLTurned, fdLTurned, aLTurned, FLTurned⟩ := ALTurned
  obtain ⟨fLPrimes, fdLPrimes, aLPrimes, FLPrimes⟩ := ALPrimes
  obtain ⟨fLaw, fdLaw, aLaw, FLaw⟩ := ALaw
  have e := hfa.symm.trans (PySem.W.mg_of X G aLaw)
  cases e
  have bWhole := FWhole.binds (ps := ["thing"]) fun _ _ _ _ _ _ us hl => match us, hl with | [_], _ => rfl
  have mWhole := PySem.W.mg_of X G aWhole
  have bMust := FMust.binds (ps := ["thing"]) fun _ _ _ _ _ _ us hl => match us, hl with | [_], _ => rfl
  have mMust := PySem.W.mg_of X G aMust
  have bFrom := FFrom.binds (ps := ["least", "thing"]) fun _ _ _ _ _ _ us hl => match us, hl with | [_, _], _ => rfl
  have mFrom := PySem.W.mg_of X G aFrom
  have bShared := FShared.binds (ps := ["a", "b"]) fun _ _ _ _ _ _ us hl => match us, hl with | [_, _], _ => rfl
  have mShared := PySem.W.mg_of X G aShared
  have bPrimes := FPrimes.binds (ps := ["n"]) fun _ _ _ _ _ _ us hl => match us, hl with | [_], _ => rfl
  have mPrimes := PySem.W.mg_of X G aPrimes
  have bIsPrime := FIsPrime.binds (ps := ["p"]) fun _ _ _ _ _ _ us hl => match us, hl with | [_], _ => rfl
  have mIsPrime := PySem.W.mg_of X G aIsPrime
  have bPlain := FPlain.binds (ps := ["n"]) fun _ _ _ _ _ _ us hl => match us, hl with | [_], _ => rfl
  have mPlain := PySem.W.mg_of X G aPlain
  have bIsRest := FIsRest.binds (ps := ["n", "p"]) fun _ _ _ _ _ _ us hl => match us, hl with | [_, _], _ => rfl
  have mIsRest := PySem.W.mg_of X G aIsRest
  have bPower := FPower.binds (ps := ["n", "exponent", "p"]) fun _ _ _ _ _ _ us hl => match us, hl with | [_, _, _], _ => rfl
  have mPower := PySem.W.mg_of X G aPower
  have bLeastNoRest := FLeastNoRest.binds (ps := ["p"]) fun _ _ _ _ _ _ us hl => match us, hl with | [_], _ => rfl
  have mLeastNoRest := PySem.W.mg_of X G aLeastNoRest
  have bRootByPrime := FRootByPrime.binds (ps := ["n", "p"]) fun _ _ _ _ _ _ us hl => match us, hl with | [_, _], _ => rfl
  have mRootByPrime := PySem.W.mg_of X G aRootByPrime
  have bRootByPlain := FRootByPlain.binds (ps := ["n", "plain"]) fun _ _ _ _ _ _ us hl => match us, hl with | [_, _], _ => rfl
  have mRootByPlain := PySem.W.mg_of X G aRootByPlain
  have bForm := FForm.binds (ps := ["a", "b"]) fun _ _ _ _ _ _ us hl => match us, hl with | [_, _], _ => rfl
  have mForm := PySem.W.mg_of X G aForm
  have bShuts := FShuts.binds (ps := ["a", "b", "p"]) fun _ _ _ _ _ _ us hl => match us, hl with | [_, _, _], _ => rfl
  have mShuts := PySem.W.mg_of X G aShuts
  have bOddPrimesOf := FOddPrimesOf.binds (ps := ["n"]) fun _ _ _ _ _ _ us hl => match us, hl with | [_], _ => rfl
  have mOddPrimesOf := PySem.W.mg_of X G aOddPrimesOf
  have bPShut := FPShut.binds (ps := ["s", "t", "p"]) fun _ _ _ _ _ _ us hl => match us, hl with | [_, _, _], _ => rfl
  have mPShut := PySem.W.mg_of X G aPShut
  have bPlainPoint := FPlainPoint.binds (ps := ["s", "t"]) fun _ _ _ _ _ _ us hl => match us, hl with | [_, _], _ => rfl
  have mPlainPoint := PySem.W.mg_of X G aPlainPoint
  have bPointByDescent := FPointByDescent.binds (ps := ["s", "t"]) fun _ _ _ _ _ _ us hl => match us, hl with | [_, _], _ => rfl
  have mPointByDescent := PySem.W.mg_of X G aPointByDescent
  have bLowestTerms := FLowestTerms.binds (ps := ["x", "y", "z"]) fun _ _ _ _ _ _ us hl => match us, hl with | [_, _, _], _ => rfl
  have mLowestTerms := PySem.W.mg_of X G aLowestTerms
  have bCell := FCell.binds (ps := ["_law_script", "_law_k"]) fun _ _ _ _ _ _ us hl => match us, hl with | [_, _], _ => rfl
  have mCell := PySem.W.mg_of X G aCell
  have bPool := FPool.binds (ps := ["_law_cell_here"]) fun _ _ _ _ _ _ us hl => match us, hl with | [_], _ => rfl
  have mPool := PySem.W.mg_of X G aPool
  have bTake := FTake.binds (ps := ["_law_pool_here", "_law_many"]) fun _ _ _ _ _ _ us hl => match us, hl with | [_, _], _ => rfl
  have mTake := PySem.W.mg_of X G aTake
  have bLPart := FLPart.binds (ps := ["_law_pool_here"]) fun _ _ _ _ _ _ us hl => match us, hl with | [_], _ => rfl
  have mLPart := PySem.W.mg_of X G aLPart
  have bLOver := FLOver.binds (ps := ["_law_a", "_law_b", "_law_f", "_law_g", "_law_told"]) fun _ _ _ _ _ _ us hl => match us, hl with | [_, _, _, _, _], _ => rfl
  have mLOver := PySem.W.mg_of X G aLOver
  have bLTurned := FLTurned.binds (ps := ["_law_a", "_law_b", "_law_told"]) fun _ _ _ _ _ _ us hl => match us, hl with | [_, _, _], _ => rfl
  have mLTurned := PySem.W.mg_of X G aLTurned
  have bLPrimes := FLPrimes.binds (ps := ["_law_a", "_law_b", "_law_c"]) fun _ _ _ _ _ _ us hl => match us, hl with | [_, _, _], _ => rfl
  have mLPrimes := PySem.W.mg_of X G aLPrimes
  refine ⟨fdLaw, ?_, fun base _ _ => ?_⟩
  · obtain ⟨oc, od, kV, doc, pm, an, cdv, ct, osl, rfl, lk, hcd⟩ := FLaw.ex
    exact fun s v => .of_eq rfl
  · have GM : FnOk l.prog w K mg base (CX1 l.prog w) 2 fMust fdMust ["thing"] (spMust K C) := ok_must FMust T FWhole bWhole mWhole
    have GF : FnOk l.prog w K mg base (CX1 l.prog w) 3 fFrom fdFrom ["least", "thing"] (spFrom K C) := ok_from FFrom T FMust bMust mMust GM
    have GP : FnOk l.prog w K mg base (CX1 l.prog w) 4 fPrimes fdPrimes ["n"] (spPrimes K C) := ok_primes FPrimes FFrom bFrom mFrom GF
    have pPr : Pm l.prog w K mg base (CX1 l.prog w) 4 "primes_of" ["n"] (spPrimes K C) := ⟨fPrimes, fdPrimes, mPrimes, FPrimes.kp, bPrimes, GP⟩
    have GI : FnOk l.prog w K mg base CX0 5 fIsPrime fdIsPrime ["p"] spIsPrime := ok_isprime FIsPrime pPr
    have GPl : FnOk l.prog w K mg base (CX1 l.prog w) 5 fPlain fdPlain ["n"] (spPlain K C) := ok_plain FPlain T FMust bMust mMust GM FPrimes bPrimes mPrimes GP
    have pPl : Pm l.prog w K mg base (CX1 l.prog w) 5 "plain_part" ["n"] (spPlain K C) := ⟨fPlain, fdPlain, mPlain, FPlain.kp, bPlain, GPl⟩
    have GW : FnOk l.prog w K mg base CX0 1 fPower fdPower ["n", "exponent", "p"] spPower := ok_power FPower
    have pW : Pm l.prog w K mg base CX0 1 "power_by" ["n", "exponent", "p"] spPower := ⟨fPower, fdPower, mPower, FPower.kp, bPower, GW⟩
    have pM : Pm l.prog w K mg base (CX1 l.prog w) 2 "must_be_whole" ["thing"] (spMust K C) := ⟨fMust, fdMust, mMust, FMust.kp, bMust, GM⟩
    have pI : Pm l.prog w K mg base CX0 5 "is_prime" ["p"] spIsPrime := ⟨fIsPrime, fdIsPrime, mIsPrime, FIsPrime.kp, bIsPrime, GI⟩
    have GQ : FnOk l.prog w K mg base (CX1 l.prog w) 6 fIsRest fdIsRest ["n", "p"] (spIsRest K C) := ok_isrest FIsRest T pM pI pW
    have pQ : Pm l.prog w K mg base (CX1 l.prog w) 6 "is_rest" ["n", "p"] (spIsRest K C) := ⟨fIsRest, fdIsRest, mIsRest, FIsRest.kp, bIsRest, GQ⟩
    have GS : FnOk l.prog w K mg base CX0 7 fPShut fdPShut ["s", "t", "p"] spPShut := ok_pshut FPShut pQ
    have pPS : Pm l.prog w K mg base CX0 7 "prime_shuts_plain" ["s", "t", "p"] spPShut := ⟨fPShut, fdPShut, mPShut, FPShut.kp, bPShut, GS⟩
    have GH : FnOk l.prog w K mg base (CX1 l.prog w) 3 fShared fdShared ["a", "b"] (spShared K C) := ok_shared FShared T FMust bMust mMust FWhole bWhole mWhole
    have GL : FnOk l.prog w K mg base CX0 4 fLowestTerms fdLowestTerms ["x", "y", "z"] spLow := ok_low FLowestTerms T ⟨fShared, fdShared, mShared, FShared.kp, bShared, GH⟩
    have pL : Pm l.prog w K mg base CX0 4 "lowest_terms" ["x", "y", "z"] spLow := ⟨fLowestTerms, fdLowestTerms, mLowestTerms, FLowestTerms.kp, bLowestTerms, GL⟩
    have GN : FnOk l.prog w K mg base CX0 7 fLeastNoRest fdLeastNoRest ["p"] spNoRest := ok_norest FLeastNoRest pQ
    have GR : FnOk l.prog w K mg base CX0 8 fRootByPrime fdRootByPrime ["n", "p"] spRootP := ok_rootp FRootByPrime pW ⟨fLeastNoRest, fdLeastNoRest, mLeastNoRest, FLeastNoRest.kp, bLeastNoRest, GN⟩
    have GRP : FnOk l.prog w K mg base CX0 9 fRootByPlain fdRootByPlain ["n", "plain"] spRootPl := ok_rootpl FRootByPlain pPr pW ⟨fRootByPrime, fdRootByPrime, mRootByPrime, FRootByPrime.kp, bRootByPrime, GR⟩
    have GO : FnOk l.prog w K mg base CX0 5 fOddPrimesOf fdOddPrimesOf ["n"] spLOdd := ok_oddp FOddPrimesOf T pPr
    have GPP : FnOk l.prog w K mg base CX0 (3 * 30 + 10) fPlainPoint fdPlainPoint ["s", "t"] (spPP 30 false) := ok_pp_all FPlainPoint bPlainPoint mPlainPoint FPointByDescent bPointByDescent mPointByDescent T ⟨fRootByPlain, fdRootByPlain, mRootByPlain, FRootByPlain.kp, bRootByPlain, GRP⟩ pPl pL 30 (by decide)
    have GFo : FnOk l.prog w K mg base CX0 101 fForm fdForm ["a", "b"] spForm := ok_form FForm pPl ⟨fOddPrimesOf, fdOddPrimesOf, mOddPrimesOf, FOddPrimesOf.kp, bOddPrimesOf, GO⟩ pPS ⟨fPlainPoint, fdPlainPoint, mPlainPoint, FPlainPoint.kp, bPlainPoint, GPP⟩ pL
    have pFo : Pm l.prog w K mg base CX0 101 "form_told" ["a", "b"] spForm := ⟨fForm, fdForm, mForm, FForm.kp, bForm, GFo⟩
    have GSh : FnOk l.prog w K mg base (CX1 l.prog w) 8 fShuts fdShuts ["a", "b", "p"] (spShuts K C) := ok_shuts FShuts pPl pM pI pPS
    have pSh : Pm l.prog w K mg base (CX1 l.prog w) 8 "shuts" ["a", "b", "p"] (spShuts K C) := ⟨fShuts, fdShuts, mShuts, FShuts.kp, bShuts, GSh⟩
    have pTk : Pm l.prog w K mg base CX0 1 "_law_take" ["_law_pool_here", "_law_many"] spTake := ⟨fTake, fdTake, mTake, FTake.kp, bTake, ok_take FTake⟩
    have pLP : Pm l.prog w K mg base CX0 2 "_law_part" ["_law_pool_here"] spLPart9 := ⟨fLPart, fdLPart, mLPart, FLPart.kp, bLPart, ok_lpart FLPart pTk⟩
    have pLO : Pm l.prog w K mg base CX0 1 "_law_over" ["_law_a", "_law_b", "_law_f", "_law_g", "_law_told"] spLOver := ⟨fLOver, fdLOver, mLOver, FLOver.kp, bLOver, ok_over FLOver⟩
    have pLT : Pm l.prog w K mg base CX0 1 "_law_turned" ["_law_a", "_law_b", "_law_told"] spLTurned := ⟨fLTurned, fdLTurned, mLTurned, FLTurned.kp, bLTurned, ok_turned FLTurned⟩
    have pL3 : Pm l.prog w K mg base CX0 5 "_law_primes" ["_law_a", "_law_b", "_law_c"] spLPrimes := ⟨fLPrimes, fdLPrimes, mLPrimes, FLPrimes.kp, bLPrimes, ok_primes3 FLPrimes T pPr⟩
    exact ok_law FLaw T ⟨fCell, fdCell, mCell, FCell.kp, bCell, ok_cell FCell T⟩ ⟨fPool, fdPool, mPool, FPool.kp, bPool, ok_pool FPool T⟩ pTk pLP pFo pLO pLT pL3 pSh
end E1
open PySem PySem.W PyProof.Rows
set_option maxRecDepth 100000 in
set_option maxHeartbeats 0 in
theorem PySem.Challenge.cw_evenmeet_k86_whole_forms_of_one_sort_holds : PySem.Challenge.rw_evenmeet_k86_whole_forms_of_one_sort.Holds := by
  w_on; o_law; k_head; (case hw => w_witness2)
  k_fill
  refine E1.walk (l := PySem.Challenge.rw_evenmeet_k86_whole_forms_of_one_sort) (k := 110) ⟨rfl, by decide, by decide⟩ rfl rfl (fun w h Y => PySem.W.kIn_of Y) ?F
  case F =>
    intro w mg fa h KX G hmg
    have R : ∃ M C : Addr, E1.RefsS (L2.KOf KX) M C := by
      dsimp only [L2.KOf]
      refine' E1.refsS_mk ?nM ?nC ?exM ?gaM ?noM ?clM ?obM ?beM ?exC ?gaC ?noC ?clC ?obC ?beC ?gt ?tk ?sub ?kC ?kV
      (case nM => k_is)
      (case nC => k_is)
      (case exM => k_exc)
      (case gaM => k_is)
      (case noM => k_is)
      (case clM => k_is)
      (case obM => k_is)
      (case beM => k_is)
      (case exC => k_exc)
      (case gaC => k_is)
      (case noC => k_is)
      (case clC => k_is)
      (case obC => k_is)
      (case beC => k_is)
      (case gt => k_is)
      (case tk => k_is)
      (case sub => k_is)
      (case kC => kit_is)
      (case kV => kit_is)
    have N : E1.Free (L2.KOf KX) := by
      dsimp only [L2.KOf]
      refine' ⟨?z0, ?z1, ?z2, ?z3, ?z4, ?z5, ?z6, ?z7, ?z8, ?z9, ?z10, ?z11, ?z12, ?z13, ?z14, ?z15, ?z16, ?z17, ?z18, ?z19⟩
      (case z0 => k_is)
      (case z1 => k_is)
      (case z2 => k_is)
      (case z3 => k_is)
      (case z4 => k_is)
      (case z5 => k_is)
      (case z6 => k_is)
      (case z7 => k_is)
      (case z8 => k_is)
      (case z9 => k_is)
      (case z10 => k_is)
      (case z11 => k_is)
      (case z12 => k_is)
      (case z13 => k_is)
      (case z14 => k_is)
      (case z15 => k_is)
      (case z16 => k_is)
      (case z17 => k_is)
      (case z18 => k_is)
      (case z19 => k_is)
    have AWhole : E1.At (L2.KOf KX) "is_whole" E1.sWhole := by
      dsimp only [L2.KOf]
      refine' E1.fn_mk ?a ?l ?c ?k
      (case a => k_is); (case l => k_is); (case c => k_is); (case k => k_is)
    have AMust : E1.At (L2.KOf KX) "must_be_whole" E1.sMust := by
      dsimp only [L2.KOf]
      refine' E1.fn_mk ?a ?l ?c ?k
      (case a => k_is); (case l => k_is); (case c => k_is); (case k => k_is)
    have AFrom : E1.At (L2.KOf KX) "must_be_from" E1.sFrom := by
      dsimp only [L2.KOf]
      refine' E1.fn_mk ?a ?l ?c ?k
      (case a => k_is); (case l => k_is); (case c => k_is); (case k => k_is)
    have AShared : E1.At (L2.KOf KX) "shared" E1.sShared := by
      dsimp only [L2.KOf]
      refine' E1.fn_mk ?a ?l ?c ?k
      (case a => k_is); (case l => k_is); (case c => k_is); (case k => k_is)
    have APrimes : E1.At (L2.KOf KX) "primes_of" E1.sPrimes := by
      dsimp only [L2.KOf]
      refine' E1.fn_mk ?a ?l ?c ?k
      (case a => k_is); (case l => k_is); (case c => k_is); (case k => k_is)
    have AIsPrime : E1.At (L2.KOf KX) "is_prime" E1.sIsPrime := by
      dsimp only [L2.KOf]
      refine' E1.fn_mk ?a ?l ?c ?k
      (case a => k_is); (case l => k_is); (case c => k_is); (case k => k_is)
    have APlain : E1.At (L2.KOf KX) "plain_part" E1.sPlain := by
      dsimp only [L2.KOf]
      refine' E1.fn_mk ?a ?l ?c ?k
      (case a => k_is); (case l => k_is); (case c => k_is); (case k => k_is)
    have AIsRest : E1.At (L2.KOf KX) "is_rest" E1.sIsRest := by
      dsimp only [L2.KOf]
      refine' E1.fn_mk ?a ?l ?c ?k
      (case a => k_is); (case l => k_is); (case c => k_is); (case k => k_is)
    have APower : E1.At (L2.KOf KX) "power_by" E1.sPower := by
      dsimp only [L2.KOf]
      refine' E1.fn_mk ?a ?l ?c ?k
      (case a => k_is); (case l => k_is); (case c => k_is); (case k => k_is)
    have ALeastNoRest : E1.At (L2.KOf KX) "least_no_rest" E1.sLeastNoRest := by
      dsimp only [L2.KOf]
      refine' E1.fn_mk ?a ?l ?c ?k
      (case a => k_is); (case l => k_is); (case c => k_is); (case k => k_is)
    have ARootByPrime : E1.At (L2.KOf KX) "root_by_prime" E1.sRootByPrime := by
      dsimp only [L2.KOf]
      refine' E1.fn_mk ?a ?l ?c ?k
      (case a => k_is); (case l => k_is); (case c => k_is); (case k => k_is)
    have ARootByPlain : E1.At (L2.KOf KX) "root_by_plain" E1.sRootByPlain := by
      dsimp only [L2.KOf]
      refine' E1.fn_mk ?a ?l ?c ?k
      (case a => k_is); (case l => k_is); (case c => k_is); (case k => k_is)
    have AForm : E1.At (L2.KOf KX) "form_told" E1.sForm := by
      dsimp only [L2.KOf]
      refine' E1.fn_mk ?a ?l ?c ?k
      (case a => k_is); (case l => k_is); (case c => k_is); (case k => k_is)
    have AShuts : E1.At (L2.KOf KX) "shuts" E1.sShuts := by
      dsimp only [L2.KOf]
      refine' E1.fn_mk ?a ?l ?c ?k
      (case a => k_is); (case l => k_is); (case c => k_is); (case k => k_is)
    have AOddPrimesOf : E1.At (L2.KOf KX) "odd_primes_of" E1.sOddPrimesOf := by
      dsimp only [L2.KOf]
      refine' E1.fn_mk ?a ?l ?c ?k
      (case a => k_is); (case l => k_is); (case c => k_is); (case k => k_is)
    have APShut : E1.At (L2.KOf KX) "prime_shuts_plain" E1.sPShut := by
      dsimp only [L2.KOf]
      refine' E1.fn_mk ?a ?l ?c ?k
      (case a => k_is); (case l => k_is); (case c => k_is); (case k => k_is)
    have APlainPoint : E1.At (L2.KOf KX) "plain_point" E1.sPlainPoint := by
      dsimp only [L2.KOf]
      refine' E1.fn_mk ?a ?l ?c ?k
      (case a => k_is); (case l => k_is); (case c => k_is); (case k => k_is)
    have APointByDescent : E1.At (L2.KOf KX) "point_by_descent" E1.sPointByDescent := by
      dsimp only [L2.KOf]
      refine' E1.fn_mk ?a ?l ?c ?k
      (case a => k_is); (case l => k_is); (case c => k_is); (case k => k_is)
    have ALowestTerms : E1.At (L2.KOf KX) "lowest_terms" E1.sLowestTerms := by
      dsimp only [L2.KOf]
      refine' E1.fn_mk ?a ?l ?c ?k
      (case a => k_is); (case l => k_is); (case c => k_is); (case k => k_is)
    have ACell : E1.At (L2.KOf KX) "_law_cell" E1.sCell := by
      dsimp only [L2.KOf]
      refine' E1.fn_mk ?a ?l ?c ?k
      (case a => k_is); (case l => k_is); (case c => k_is); (case k => k_is)
    have APool : E1.At (L2.KOf KX) "_law_pool" E1.sPool := by
      dsimp only [L2.KOf]
      refine' E1.fn_mk ?a ?l ?c ?k
      (case a => k_is); (case l => k_is); (case c => k_is); (case k => k_is)
    have ATake : E1.At (L2.KOf KX) "_law_take" E1.sTake := by
      dsimp only [L2.KOf]
      refine' E1.fn_mk ?a ?l ?c ?k
      (case a => k_is); (case l => k_is); (case c => k_is); (case k => k_is)
    have ALPart : E1.At (L2.KOf KX) "_law_part" E1.sLPart := by
      dsimp only [L2.KOf]
      refine' E1.fn_mk ?a ?l ?c ?k
      (case a => k_is); (case l => k_is); (case c => k_is); (case k => k_is)
    have ALOver : E1.At (L2.KOf KX) "_law_over" E1.sLOver := by
      dsimp only [L2.KOf]
      refine' E1.fn_mk ?a ?l ?c ?k
      (case a => k_is); (case l => k_is); (case c => k_is); (case k => k_is)
    have ALTurned : E1.At (L2.KOf KX) "_law_turned" E1.sLTurned := by
      dsimp only [L2.KOf]
      refine' E1.fn_mk ?a ?l ?c ?k
      (case a => k_is); (case l => k_is); (case c => k_is); (case k => k_is)
    have ALPrimes : E1.At (L2.KOf KX) "_law_primes" E1.sLPrimes := by
      dsimp only [L2.KOf]
      refine' E1.fn_mk ?a ?l ?c ?k
      (case a => k_is); (case l => k_is); (case c => k_is); (case k => k_is)
    have ALaw : E1.At (L2.KOf KX) "law" E1.sLaw := by
      dsimp only [L2.KOf]
      refine' E1.fn_mk ?a ?l ?c ?k
      (case a => k_is); (case l => k_is); (case c => k_is); (case k => k_is)
    exact E1.all_mk KX G hmg R N AWhole AMust AFrom AShared APrimes AIsPrime APlain AIsRest APower ALeastNoRest ARootByPrime ARootByPlain AForm AShuts AOddPrimesOf APShut APlainPoint APointByDescent ALowestTerms ACell APool ATake ALPart ALOver ALTurned ALPrimes ALaw


